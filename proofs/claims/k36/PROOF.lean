import PyProof.Rows.All
import Wide.All
import OpenK.AllK
import Wide.FinOn
import HandS.ForMost
import HandS.Style
import HandS.IsInst
import HandS.Defaults
import HandS.MakeKwOnly
import HandS.SortKw
import HandS.Walk
import KE.KSortKeySt
import KE.GoesEnum
import KE.DatumOrd
import KE.KRevSl
import HandS.Star
import KE.KTupSum
import KE.GoesMore
import KE.GoesZip
import HandS.DictComp
import HandS.RevRange
import HandS.Strs
import HandS.OwnEq
import HandS.SlotsOwn
import HandS.IterVal
import KE.KOwnIter
import KE.KOpsOwn
import KE.KEqDict
import HandS.OwnIter
import HandS.ExcInit
import HandS.ExcSuper
import HandS.Nested
import KE.KSuper
import KE.KSuperObj
import KE.KExcSuper
import HandS.ClsMeth
import PyProof.WalksMore
import PyProof.FactsAll.subtypes_4
import HandS.ExcField
import HandS.ExcOwn
import HandS.ExcIs
import KE.KTryMore
import HandS.TryMany
import HandS.Exc
import PyProof.StrOps2
import HandS.Zip
import HandS.Gcd
import HandS.Conv
import HandS.Wide
import HandS.WordsExc
import HandS.FStr
import PySem.Challenge.RW_turnsandkeys_k36_book_refusals
set_option Elab.async false
set_option linter.all false
set_option maxRecDepth 100000
set_option maxHeartbeats 8000000
namespace TK
open PySem PySem.Spec PyProof.Rows L2
/-! ### a def that keeps its promise, as callers see it -/
structure Def (P : Program) (w : World) (K : PySem.W.Frag) (mg : Str → Option Value) (base : Heap) (x : Str) (k : Nat) (ps : List Str) (sp : Sp) : Prop where
  ex : ∃ (f : Addr) (fd : FuncData), FnOk P w K mg base CX0 k f fd ps sp ∧ mg x = some (.ref f) ∧ PySem.W.keepIn K (.ref f) = true ∧ Binds K fd ps []
section
variable {X : Cx} {x : Str} {k : Nat} {ps : List Str} {sp : Sp} {e : Expr} {es : List Expr} {t : TA} {p pos : Pos}
theorem pe_callD (D : Def X.prog X.w X.K X.mg X.base x k ps sp) (hr : Room k X.A) (hg : Gl X x) (ha : PA X (e :: es) t) (hdb : (x == ("__debug__" : Str)) = false := by decide)
    (he : starEach (e :: es) X.env = (false, eval e X.env) :: starEach es X.env := by rfl) (hpl : (backTo pos (starEach es X.env)).any (·.1) = false := by rfl) :
    PE X (.Call (.Name x p) (e :: es) [] pos) (tCall sp [] E0 t) := by
  obtain ⟨f, fd, F, g, kp, b⟩ := D.ex
  exact pe_call F hr hg g kp b .nil pass0 ha hdb he hpl
end
section
variable {X : Cx}
/-- x is True, x is False: x of any kind -/
def rIsT : R2 := fun x y H Q => ∃ b : Bool, y = .bl b ∧ Q (.bl (decide (x = .bl b))) H
theorem op_isT : OpR X (compareOp .Is) rIsT := by
  intro pins s σ H x y v u Q I rx ry h
  obtain ⟨b, rfl, q⟩ := h
  cases (show u = Value.bool b from ry)
  cases x with
  | bl a =>
    cases (show v = Value.bool a from rx)
    by_cases e : a = b
    · subst e
      exact wpAny_is_self rfl ⟨.bl true, H, I, rfl, by simpa using q⟩
    · exact wpAny_is_other rfl (fun z => e (Value.bool.inj z)) ⟨.bl false, H, I, rfl, by simpa [e] using q⟩
  | non => cases (show v = Value.none from rx); exact wpAny_is_other rfl (fun z => nomatch z) ⟨.bl false, H, I, rfl, by simpa using q⟩
  | int i => obtain ⟨t, rfl⟩ := (show ∃ t, v = Value.int i t from rx); exact wpAny_is_other rfl (fun z => nomatch z) ⟨.bl false, H, I, rfl, by simpa using q⟩
  | str i => obtain ⟨t, rfl⟩ := (show ∃ t, v = Value.str i t from rx); exact wpAny_is_other rfl (fun z => nomatch z) ⟨.bl false, H, I, rfl, by simpa using q⟩
  | byt i => obtain ⟨t, rfl⟩ := (show ∃ t, v = Value.bytes i t from rx); exact wpAny_is_other rfl (fun z => nomatch z) ⟨.bl false, H, I, rfl, by simpa using q⟩
  | flt i => obtain ⟨t, rfl⟩ := (show ∃ t, v = Value.float i t from rx); exact wpAny_is_other rfl (fun z => nomatch z) ⟨.bl false, H, I, rfl, by simpa using q⟩
  | ref a => cases (show v = Value.ref a from rx); exact wpAny_is_other rfl (fun z => nomatch z) ⟨.bl false, H, I, rfl, by simpa using q⟩
  | ty n => cases (show v = Value.type n from rx); exact wpAny_is_other rfl (fun z => nomatch z) ⟨.bl false, H, I, rfl, by simpa using q⟩
end
/-! ### rules within a comprehension: K by name -/
section
variable {X : Cx} {K : PySem.W.Frag}
theorem ix_listK (h : X.K = K) : IxR X (rIxL K) := h ▸ ix_list
theorem ix_tupK (h : X.K = K) : IxR X (rIxT K) := h ▸ ix_tup
theorem pg_tupK (h : X.K = K) {elts : List Expr} {kk : Nat} {pos : Pos} {n : Nat} {t : TGs} (hc : X.calm = true) (hp : PGs X elts t) (hn : (assignEach elts X.env).length = n := by rfl) (hst : (assignEach elts X.env).findIdx? (·.1) = none := by rfl) : PG X (.Tuple elts kk pos) (gTup K n t) := h ▸ pg_tup hc hp hn hst
theorem op_in_seqK (h : X.K = K) : OpR X (compareOp .In) (rIn K false) := h ▸ op_in_seq
theorem op_notIn_seqK (h : X.K = K) : OpR X (compareOp .NotIn) (rIn K true) := h ▸ op_notIn_seq
theorem call_len_seqK (h : X.K = K) : CallR X (.builtin "len") (fun xs H Q => ∃ p ys, xs = [.ref p] ∧ (SqL K H p ys ∨ SqT K H p ys) ∧ Q (.int ys.length) H) := h ▸ call_len_seq
end
/-! ### heaps -/
theorem same_upd {H : Hp} {p : Addr} {o : HO} (h : H p = none) : Same H (upd H p o) := fun b x e => by
  rw [upd_ne (ne_of_none e h)]
  exact e
theorem same_at {H H' : Hp} {p : Addr} {o : HO} (s : Same H H') (h : H p = none) : Same H (upd H' p o) := fun b x e => by
  rw [upd_ne (ne_of_none e h)]
  exact s b x e
theorem same_tup {K : PySem.W.Frag} {H H' : Hp} {a : Addr} {xs : List V} (e : Same H H') (h : SqT K H a xs) : SqT K H' a xs := by
  rcases h with (h | ⟨o, h⟩) | h
  · exact .inl (.inl (e _ _ h))
  · exact .inl (.inr ⟨o, e _ _ h⟩)
  · exact .inr h
theorem lstAt {K : PySem.W.Frag} {H : Hp} {a : Addr} {xs : List V} (h : H a = some (.lst xs)) : SqL K H a xs := .inl (.inl h)
theorem tupAt {K : PySem.W.Frag} {H : Hp} {a : Addr} {xs : List V} (h : H a = some (.tup xs)) : SqT K H a xs := .inl (.inl h)
theorem atI_in {α : Type} {xs : List α} {i : Int} {v : α} (h0 : 0 ≤ i) (h : xs[i.toNat]? = some v) : atI xs i = some v := by
  obtain ⟨n, rfl⟩ : ∃ n : Nat, i = (n : Int) := ⟨i.toNat, by omega⟩
  exact atI_nat h
theorem yesT {σ : L2.St} {H : Hp} {A B : Hp → Prop} (h : A H) : tYes σ H (fun b H3 => if b = true then A H3 else B H3) := by
  show if true = true then A H else B H
  rw [if_pos rfl]
  exact h
end TK

namespace TK
open PySem PySem.Spec PyProof.Rows L2
section
variable {X : Cx} {pins : List (Addr × Obj)} {σ : L2.St} {H : Hp} {s : Shared}
/-- an untracked object of ours comes to be tracked -/
theorem adopt {a : Addr} {o : HO} (I : Inv X pins σ H s) (f : FpOk X pins H a) (new : ObjOk X.prog X.w (upd H a o) s.heap a o) : Inv X pins σ (upd H a o) s := by
  obtain ⟨q0, q1, q2, q3, q4, q5⟩ := f
  have ne : ∀ b u, H b = some u → b ≠ a := fun b u e z => by rw [z, q0] at e; cases e
  refine I.step (h' := s.heap) (g' := s.gens) (t' := s.toks) (d' := s.drawn) (ch := [a]) (fun b hb => ?_) (fun b o _ _ _ e _ => e) (fun b o _ _ _ e _ => ⟨o.slots, e⟩) (fun b o hb _ n => ?_) (fun b o _ e => ⟨o, e⟩) (fun b xs e => ?_) (fun b o u e => ?_) (fun b ps e => ⟨#[], ?_⟩) (fun m hm => hm) (fun b u e => ?_) I.bare
  · have e : b = a := by simpa using hb
    subst e
    exact ⟨q3, q1, q4, q5⟩
  · rw [upd_ne (fun z => hb (by simp [z]))]; exact n
  · rw [upd_ne (ne b _ e)]; exact e
  · rw [upd_ne (ne b _ e)]; exact e
  · rw [upd_ne (ne b _ e), e]; simp
  · by_cases hb : b = a
    · subst hb
      rw [upd_same] at e
      cases e
      exact new
    · rw [upd_ne hb] at e
      exact (I.hok b u e).stay (fun c v _ q => q) (fun c q => by rw [upd_ne (ne c _ q)]; exact q) fun c xs q => by rw [upd_ne (ne c _ q)]; exact q
/-- a def called from within a built-in's method -/
theorem run_fn2 {k : Nat} {f : Addr} {fd : FuncData} {ps : List Str} {sp : Sp} {Q : VK} {us : List Value} {itm : List V} {E' : Value → Shared → Prop} (F : FnOk X.prog X.w X.K X.mg X.base CX0 k f fd ps sp) (hr : Room (k + 2) X.A) (hb : Binds X.K fd ps [])
    (I : Inv X pins σ H s) (r : Vals itm us) (h : sp itm H Q E0) : wpAny (model X.prog X.w) X.A.in1.in1 (call (.ref f) us) (EP X pins σ Q) E' s := by
  have hl : (us ++ []).length = ps.length := by rw [List.append_nil, ← r.length]; exact F.len _ _ _ _ h
  have hbb := hb s us I.kIn hl
  rw [List.append_nil] at hbb
  refine wpAny_call (codeAny_mono (F.run X.A.in1.in1 X.stack s H ⟨us, []⟩ us itm Q E0 hr.in1.in1 I.env0.in1.in1 hbb r h) fun r s' hq => ?_)
  cases r with
  | error e => exact False.elim hq
  | ok fl =>
    cases fl with
    | ret u => exact I.after hq
    | next => exact False.elim hq
    | brk => exact False.elim hq
    | cont => exact False.elim hq
end
section
variable {X : Cx} {pins : List (Addr × Obj)} {σ : L2.St} {H : Hp} {s : Shared} {A : Around} {E : Value → Shared → Prop} {a kS : Addr} {itm : List Value} {kl : List Int} {kar : Array Value} {e ep1 : Nat} {P : PySem.Fin → Shared → Prop}
theorem sb_tail {st : SortSt} (I : Inv X pins σ H s) (gk : s.heap.get? kS = some (seqObj "list" kar e)) (ga : s.heap.get? a = some (seqObj "list" #[] ep1)) (fa : FpOk X pins H a) (fk : FpOk X pins H kS) (hka : kS ≠ a)
    (hki : IntsAre kar.toList kl) (hle : kl.length = itm.length) (hsm : itm.length ≤ sizeLine) (hp : (arrOf st).Perm (kar.zip itm.toArray)) (hs : SortedTo (arrOf st) (arrOf st).size) (hfl : failedOf st = none)
    (hst : Stable intKind (arrOf st) (kar.zip itm.toArray))
    (h : ∀ s' out c, Inv X pins σ H s' → s'.heap.get? a = some (seqObj "list" out c) → KskOutSt false kl itm out.toList → P (.done (.ret .none)) s') :
    wpAny (model X.prog X.w) A (ksk_tail a false ep1 (.ref kS) st) P E s := by
  have hsm2 := hsm
  rw [sizeLine_eq] at hsm2
  have zk : kar.size = itm.length := by
    have h1 := hki.length
    rw [Array.length_toList] at h1
    omega
  have za : (arrOf st).size = itm.length := by rw [hp.size_eq, Array.size_zip, zk, List.size_toArray, Nat.min_self]
  have zo : ((arrOf st).map (·.2)).size = itm.length := by rw [Array.size_map]; exact za
  have s1 := Heap.SameBut.update s.heap kS (Obj.mapSeq fun _ => (#[] : Array Value))
  have ga1 : (s.heap.update kS (Obj.mapSeq fun _ => (#[] : Array Value))).get? a = some (seqObj "list" #[] ep1) := (s1.2 a hka.symm).trans ga
  have s2 := Heap.SameBut.update (s.heap.update kS (Obj.mapSeq fun _ => (#[] : Array Value))) a (Obj.mapSeq fun _ => (arrOf st).map (·.2))
  obtain ⟨cn, gcn⟩ : ∃ cn, ((s.heap.update kS (Obj.mapSeq fun _ => (#[] : Array Value))).update a (Obj.mapSeq fun _ => (arrOf st).map (·.2))).get? a = some (seqObj "list" ((arrOf st).map (·.2)) cn) :=
    ⟨_, get?_update_seq ga1 fun _ => (arrOf st).map (·.2)⟩
  obtain ⟨k0, k1, k2, k3, k4, k5⟩ := fk
  obtain ⟨a0, a1, a2, a3, a4, a5⟩ := fa
  have I1 : Inv X pins σ H { s with heap := s.heap.update kS (Obj.mapSeq fun _ => (#[] : Array Value)) } := I.turned (t' := s.toks) (fun b o hb q => (s1.2 b hb).trans q) k0 k1 k3 k4 k5
  unfold ksk_tail
  try dsimp only
  refine wpAny_bind (listUpdate_at gk rfl ?_ (by rw [zk, sizeLine_eq]; omega) (Nat.zero_le _))
  refine wpAny_bind (wpAny_letGo ?_)
  refine wpAny_bind (seqEpoch_at ga1 rfl ?_)
  refine wpAny_bind (listUpdate_at ga1 rfl ?_ (Nat.zero_le _) (Nat.le_trans (Nat.le_of_eq zo) (by rw [sizeLine_eq]; omega)))
  rw [hfl]
  simp only [bne_self_eq_false, Bool.false_eq_true, if_false]
  refine wpAny_pure (h _ _ cn (I1.turned (t' := s.toks) (fun b o hb q => (s2.2 b hb).trans q) a0 a1 a3 a4 a5) gcn ?_)
  exact ksk_outSt (b := false) hki hp hs (by simpa using hst)
theorem sb_end (I : Inv X pins σ H s) (gk : s.heap.get? kS = some (seqObj "list" kar e)) (ga : s.heap.get? a = some (seqObj "list" #[] ep1)) (fa : FpOk X pins H a) (fk : FpOk X pins H kS) (hka : kS ≠ a)
    (hki : IntsAre kar.toList kl) (hle : kl.length = itm.length) (hsm : itm.length ≤ sizeLine)
    (h : ∀ s' out c, Inv X pins σ H s' → s'.heap.get? a = some (seqObj "list" out c) → KskOutSt false kl itm out.toList → P (.done (.ret .none)) s') :
    wpAny (model X.prog X.w) A (ksk_end a false itm.toArray ep1 (.ref kS) kar) P E s := by
  have hsm2 := hsm
  rw [sizeLine_eq] at hsm2
  have zk : kar.size = itm.length := by
    have h1 := hki.length
    rw [Array.length_toList] at h1
    omega
  have zz : (kar.zip itm.toArray).size = itm.length := by rw [Array.size_zip, zk, List.size_toArray, Nat.min_self]
  unfold ksk_end
  try dsimp only
  simp only [Bool.false_eq_true, if_false]
  by_cases few : itm.toArray.size < 2
  · rw [if_pos few, if_pos few]
    refine wpAny_bind (wpAny_pure ?_)
    rw [StateT.run_pure]
    refine wpAny_bind (wpAny_pure ?_)
    try dsimp only
    refine sb_tail (st := SortSt.mk' general' (kar.zip itm.toArray) #[] 7 none) I gk ga fa fk hka hki hle hsm (Array.Perm.refl _) ?_ rfl (Stable.refl _) h
    intro i j hij jlt
    have hj2 : j < (kar.zip itm.toArray).size := jlt
    rw [zz] at hj2
    rw [List.size_toArray] at few
    have : i = j := by omega
    subst this
    exact Int.le_refl _
  · rw [if_neg few, if_neg few]
    rw [List.size_toArray] at few
    rw [ksk_kind hki (by rw [zk]; omega)]
    refine wpAny_bind (wpAny_pure ?_)
    refine wpAny_bind (wpAny_mono (wpS_sortRunsSt (κ := intKind) (a₀ := kar.zip itm.toArray)
      (st := SortSt.mk' oneType' (kar.zip itm.toArray) #[] 7 none)
      (Q := fun _ sq => (arrOf sq).Perm (kar.zip itm.toArray) ∧ failedOf sq = none ∧ SortedTo (arrOf sq) (arrOf sq).size ∧
        Stable intKind (arrOf sq) (kar.zip itm.toArray))
      intKind_oneLt (ksk_keysOfInt (ksk_intKeys hki)) ⟨Array.Perm.refl _, rfl, rfl⟩ rfl (Stable.refl _) (by rw [zz]; omega)
      fun sq a1 a2 a3 a4 => ⟨a1, a2, by rw [a1.size_eq]; exact sortedTo_of_int a3, a4⟩) ?_ fun _ _ e => e)
    rintro ⟨⟨⟩, sq⟩ s' ⟨rfl, hp, hf, hs, hst⟩
    try dsimp only
    exact sb_tail I gk ga fa fk hka hki hle hsm hp hs hf hst h
theorem sb_rest {f : Value} (I : Inv X pins σ H s) (gk : s.heap.get? kS = some (seqObj "list" #[] 0)) (ga : s.heap.get? a = some (seqObj "list" #[] ep1)) (fa : FpOk X pins H a) (fk : FpOk X pins H kS) (hka : kS ≠ a)
    (hle : kl.length = itm.length) (hsm : itm.length ≤ sizeLine)
    (turn : ∀ (i : Nat) (v : Value) (k : Int) (pins' : List (Addr × Obj)) (s' : Shared), itm[i]? = some v → kl[i]? = some k → Inv X pins' σ H s' →
      wpAny (model X.prog X.w) A (call f [v]) (EP X pins' σ fun x H' => x = .int k ∧ H' = H) (fun _ _ => False) s')
    (h : ∀ s' out c, Inv X pins σ H s' → s'.heap.get? a = some (seqObj "list" out c) → KskOutSt false kl itm out.toList → P (.done (.ret .none)) s') :
    wpAny (model X.prog X.w) A (ksk_rest a f false itm.toArray ep1 (.ref kS)) P E s := by
  have hsm2 := hsm
  rw [sizeLine_eq] at hsm2
  unfold ksk_rest
  refine wpAny_bind (wpAny_rule ?_)
  first
    | rw [List.forIn_toArray]
    | (rw [← Array.forIn_toList]; simp only [List.toList_toArray])
    | rw [← Array.forIn_toList]
  refine wpAny_bind (ksk_fold (fun i s' => ∃ gar e, Inv X pins σ H s' ∧ s'.heap.get? kS = some (seqObj "list" gar e) ∧ s'.heap.get? a = some (seqObj "list" #[] ep1) ∧ IntsAre gar.toList (kl.take i)) itm 0 s
    ⟨#[], 0, I, gk, ga, by simpa using IntsAre.nil⟩ ?step ?done)
  case step =>
    rintro j x s' hx ⟨gar, e, I', nk', na', hki⟩
    simp only [Nat.zero_add] at hki ⊢
    have jlt : j < itm.length := (List.getElem?_eq_some_iff.mp hx).1
    obtain ⟨k, ekj⟩ : ∃ k, kl[j]? = some k := ⟨_, List.getElem?_eq_getElem (by omega)⟩
    have gsm : gar.size ≤ itm.length := by
      have h1 := hki.length
      rw [Array.length_toList, List.length_take] at h1
      omega
    have I2 : Inv X (pins ++ [(kS, seqObj "list" gar e), (a, seqObj "list" #[] ep1)]) σ H s' := I'.pins_of fun p hp => by
      rcases List.mem_append.mp hp with hp | hp
      · exact I'.pin p (List.mem_append_right _ hp)
      · rcases List.mem_cons.mp hp with rfl | hp
        · exact ⟨nk', fk.1, fk.2.1, fk.2.2.1, fun v z => nomatch z⟩
        · rw [List.mem_singleton.mp hp]
          exact ⟨na', fa.1, fa.2.1, fa.2.2.1, fun v z => nomatch z⟩
    refine wpAny_bind (wpAny_attempt (wpAny_mono (turn j x k _ s' hx ekj I2) (fun v s'' he => ?_) fun _ _ hF => hF.elim))
    obtain ⟨y, H', I3, ry, rfl, rfl⟩ := he
    obtain ⟨t2, rfl⟩ : ∃ t, v = Value.int k t := ry
    try dsimp only
    have nk3 := (I3.pin (kS, seqObj "list" gar e) (List.mem_append_right _ (List.mem_append_right _ (.head _)))).1
    have na3 := (I3.pin (a, seqObj "list" #[] ep1) (List.mem_append_right _ (List.mem_append_right _ (.tail _ (.head _))))).1
    have s1 := Heap.SameBut.update s''.heap kS (Obj.mapSeq (·.push (.int k t2)))
    obtain ⟨cn, gcn⟩ : ∃ cn, (s''.heap.update kS (Obj.mapSeq (·.push (.int k t2)))).get? kS = some (seqObj "list" (gar.push (.int k t2)) cn) := ⟨_, get?_update_seq nk3 (·.push (.int k t2))⟩
    have et : kl.take (j + 1) = kl.take j ++ [k] := by rw [List.take_add_one, ekj]; simp
    have epu : (gar.push (Value.int k t2)).toList = gar.toList ++ [Value.int k t2] := by simp
    obtain ⟨k0, k1, _, k3, k4, k5⟩ := fk
    refine wpAny_bind (listUpdate_at nk3 rfl ?_ (by rw [sizeLine_eq]; omega) (Nat.le_trans (Nat.le_of_eq (Array.size_push ..)) (by rw [sizeLine_eq]; omega)))
    refine wpAny_pure ⟨rfl, gar.push (.int k t2), cn, I3.unpinned.turned (t' := s''.toks) (fun b o hb q => (s1.2 b hb).trans q) k0 k1 k3 k4 k5, gcn, (s1.2 a hka.symm).trans na3, by rw [epu, et]; exact ksk_snoc hki⟩
  case done =>
    rintro s' ⟨gar, e, I', nk', na', hki⟩
    have hkf : IntsAre gar.toList kl := by
      have eall : kl.take (0 + itm.length) = kl := List.take_of_length_le (by omega)
      rw [eall] at hki
      exact hki
    try dsimp only
    refine wpAny_bind (listItems_at nk' rfl ?_)
    exact sb_end I' nk' na' fa fk hka hkf hle hsm h
end
end TK

namespace TK
open PySem PySem.Spec PyProof.Rows L2
section
variable {prog : Program} {w : World} {A : Around} {E : Value → Shared → Prop} {s : Shared}
/-- the items of a tuple, drawn together -/
theorem collect_tup {t : Addr} {vs : List Value} {Q : List Value → Shared → Prop} (ht : IsTup s.heap t vs.toArray) (hsm : vs.length ≤ sizeLine)
    (h : Q vs { s with heap := (s.heap.push (seqObj "list" #[] 0)).update s.heap.objs.size (Obj.mapSeq (· ++ vs.toArray)) }) : wpAny (model prog w) A (collect (.ref t)) Q E s := by
  obtain ⟨ob, gob0, hcls, n, hdt⟩ := ht
  unfold collect
  refine wpAny_bind (wpAny_runValue (codeAny_builtin entry_proto_collect' ?_))
  show wpAny _ _ (do again (.builtin "list.__iadd__" ⟨[← newList [], .ref t], []⟩)) _ _ s
  refine wpAny_bind (wpAny_newList (wpAny_pure ⟨Code.quiet_builtin _ (by decide +kernel), codeAny_builtin entry_list_iadd' ?_⟩))
  show wpAny _ _ (Builtin.List.listExtendWith (.ref s.heap.objs.size) (.ref t) (.ref s.heap.objs.size)) _ _ { s with heap := s.heap.push (seqObj "list" #[] 0) }
  have gob : (s.heap.push (seqObj "list" #[] 0)).get? t = some ob := Heap.get?_push_of_some _ gob0
  have gnew : (s.heap.push (seqObj "list" #[] 0)).get? s.heap.objs.size = some (seqObj "list" #[] 0) := Heap.get?_push_size _ rfl
  unfold Builtin.List.listExtendWith
  refine wpAny_bind (wpAny_typeOf (T := "tuple") ⟨ob, gob, hcls⟩ ?_)
  rw [if_pos (by simp only [show (Value.type "tuple" == Value.type "tuple") = true from rfl, Bool.or_true])]
  refine wpAny_bind (listItems_at gob hdt (wpAny_bind (listItems_at gnew rfl ?_)))
  rw [if_neg (by simp)]
  refine wpAny_bind (listUpdate_at gnew rfl (wpAny_pure ?_) (Nat.zero_le _) (by simp only [Array.size_append, List.size_toArray, List.length_nil]; omega))
  show wpAny (model prog w) A (do
      let o ← load s.heap.objs.size
      match o.data with
      | .seq xs _ => pure xs.toList
      | _ => unsupported "internal:collect") Q E _
  refine wpAny_bind (wpAny_load (get?_update_seq gnew _) ?_)
  show wpAny _ _ (pure ((#[] : Array Value) ++ vs.toArray).toList) Q E _
  rw [show ((#[] : Array Value) ++ vs.toArray).toList = vs by simp]
  exact wpAny_pure h
end
section
variable {X : Cx} {pins : List (Addr × Obj)} {σ : L2.St} {H : Hp} {s : Shared} {A : Around} {E : Value → Shared → Prop} {a : Addr} {vs : List Value} {kz : List Int} {P : PySem.Fin → Shared → Prop}
theorem sb_sort {f : Value} {n : Nat} (I : Inv X pins σ H s) (ho : s.heap.get? a = some (seqObj "list" vs.toArray n)) (fa : FpOk X pins H a) (hlen : kz.length = vs.length) (hZ : vs.length ≤ sizeLine)
    (turn : ∀ (i : Nat) (v : Value) (k : Int) (pins' : List (Addr × Obj)) (s' : Shared), vs[i]? = some v → kz[i]? = some k → Inv X pins' σ H s' →
      wpAny (model X.prog X.w) A (call f [v]) (EP X pins' σ fun x H' => x = .int k ∧ H' = H) (fun _ _ => False) s')
    (h : ∀ s' out c, Inv X pins σ H s' → s'.heap.get? a = some (seqObj "list" out c) → KskOutSt false kz vs out.toList → P (.done (.ret .none)) s') :
    wpAny (model X.prog X.w) A (ksk_tree a f false) P E s := by
  have hZ2 := hZ
  rw [sizeLine_eq] at hZ2
  have hal : a < s.heap.objs.size := Heap.lt_size ho
  generalize hh1 : s.heap.update a (Obj.mapSeq fun _ => (#[] : Array Value)) = h1
  have sb : Heap.SameBut a s.heap h1 := by rw [← hh1]; exact Heap.SameBut.update s.heap a _
  obtain ⟨e1, ho1⟩ : ∃ e1, h1.get? a = some (seqObj "list" #[] e1) := by rw [← hh1]; exact ⟨_, get?_update_seq ho fun _ => #[]⟩
  have hz1 : h1.objs.size = s.heap.objs.size := by rw [← hh1, Heap.size_update]
  obtain ⟨a0, a1, a2, a3, a4, a5⟩ := id fa
  have I1 : Inv X pins σ H { s with heap := h1 } := I.turned (t' := s.toks) (fun b o hb q => (sb.2 b hb).trans q) a0 a1 a3 a4 a5
  have I2 : Inv X pins σ H { s with heap := (h1.push (seqObj "tuple" vs.toArray 0)).push (seqObj "list" #[] 0) } := I1.kept (t' := s.toks) fun b o q => Heap.get?_push_of_some _ (Heap.get?_push_of_some _ q)
  have hkz : (h1.push (seqObj "tuple" vs.toArray 0)).objs.size = s.heap.objs.size + 1 := by rw [size_push', hz1]
  unfold ksk_tree
  refine wpAny_bind (listItems_at ho rfl (wpAny_bind (listUpdate_at ho rfl ?_ (by rw [List.size_toArray, sizeLine_eq]; omega) (Nat.zero_le _))))
  rw [hh1]
  refine wpAny_bind (seqEpoch_at ho1 rfl (wpAny_bind (wpAny_newTuple (wpAny_bind (wpAny_newList (wpAny_holding ?_) (Nat.zero_le _))) (by show vs.length ≤ _; rw [sizeLine_eq]; omega))))
  refine sb_rest (s := { s with heap := (h1.push (seqObj "tuple" vs.toArray 0)).push (seqObj "list" #[] 0) }) (kS := (h1.push (seqObj "tuple" vs.toArray 0)).objs.size) I2 (Heap.get?_push_size _ rfl) (Heap.get?_push_of_some _ (Heap.get?_push_of_some _ ho1)) fa ?_ (Nat.ne_of_gt (by rw [hkz]; exact Nat.lt_succ_of_lt hal)) hlen hZ turn h
  exact I1.fpOk (by show h1.objs.size ≤ _; rw [hkz, hz1]; omega) (I1.hok.fresh (by show h1.objs.size ≤ _; rw [hkz, hz1]; omega))
end
/-! ### the stable order by a key -/
def insK {α : Type} (x : Int × α) : List (Int × α) → List (Int × α)
  | [] => [x]
  | y :: r => if x.1 ≤ y.1 then x :: y :: r else y :: insK x r
def sortK {α : Type} : List (Int × α) → List (Int × α)
  | [] => []
  | x :: r => insK x (sortK r)
section
variable {α : Type}
theorem insK_perm (x : Int × α) : ∀ l, (insK x l).Perm (x :: l)
  | [] => .refl _
  | y :: r => by
    unfold insK
    split
    · exact .refl _
    · exact ((insK_perm x r).cons y).trans (.swap x y r)
theorem sortK_perm : ∀ l : List (Int × α), (sortK l).Perm l
  | [] => .refl _
  | x :: r => (insK_perm x (sortK r)).trans ((sortK_perm r).cons x)
theorem insK_up (x : Int × α) : ∀ l : List (Int × α), l.Pairwise (fun p q => p.1 ≤ q.1) → (insK x l).Pairwise (fun p q => p.1 ≤ q.1)
  | [], _ => List.pairwise_singleton ..
  | y :: r, h => by
    unfold insK
    split
    · rename_i hx
      refine List.Pairwise.cons (fun z hsm => ?_) h
      rcases List.mem_cons.mp hsm with rfl | hsm
      · exact hx
      · exact Int.le_trans hx (List.rel_of_pairwise_cons h hsm)
    · rename_i hx
      refine List.Pairwise.cons (fun z hsm => ?_) (insK_up x r (List.Pairwise.of_cons h))
      rcases List.mem_cons.mp ((insK_perm x r).mem_iff.mp hsm) with rfl | hsm
      · omega
      · exact List.rel_of_pairwise_cons h hsm
theorem sortK_up : ∀ l : List (Int × α), (sortK l).Pairwise (fun p q => p.1 ≤ q.1)
  | [] => .nil
  | x :: r => insK_up x _ (sortK_up r)
theorem insK_filter (x : Int × α) (c : Int) : ∀ l : List (Int × α), l.Pairwise (fun p q => p.1 ≤ q.1) → (insK x l).filter (fun p => p.1 == c) = (x :: l).filter (fun p => p.1 == c)
  | [], _ => rfl
  | y :: r, h => by
    unfold insK
    split
    · rfl
    · rename_i hx
      have ih := insK_filter x c r (List.Pairwise.of_cons h)
      rw [List.filter_cons, ih, List.filter_cons, List.filter_cons, List.filter_cons]
      by_cases h1 : (x.1 == c) = true
      · by_cases h2 : (y.1 == c) = true
        · have e1 : x.1 = c := by simpa using h1
          have e2 : y.1 = c := by simpa using h2
          omega
        · simp [h1, h2]
      · simp [h1]
theorem sortK_filter (c : Int) : ∀ l : List (Int × α), (sortK l).filter (fun p => p.1 == c) = l.filter (fun p => p.1 == c)
  | [] => rfl
  | x :: r => by
    show (insK x (sortK r)).filter _ = _
    rw [insK_filter x c _ (sortK_up r), List.filter_cons, sortK_filter c r, List.filter_cons]
theorem stable_one : ∀ {l m : List (Int × α)}, l.Perm m → l.Pairwise (fun p q => p.1 ≤ q.1) → m.Pairwise (fun p q => p.1 ≤ q.1) → (∀ c, l.filter (fun p => p.1 == c) = m.filter (fun p => p.1 == c)) → l = m
  | [], m, hp, _, _, _ => by rw [List.nil_perm.mp hp]
  | x :: l, [], hp, _, _, _ => by cases hp.length_eq
  | x :: l, y :: m, hp, h1, h2, hf => by
    have le1 : x.1 ≤ y.1 := by
      rcases List.mem_cons.mp (hp.mem_iff.mpr (List.mem_cons_self ..) : y ∈ x :: l) with e | e
      · rw [e]; exact Int.le_refl _
      · exact List.rel_of_pairwise_cons h1 e
    have le2 : y.1 ≤ x.1 := by
      rcases List.mem_cons.mp (hp.mem_iff.mp (List.mem_cons_self ..) : x ∈ y :: m) with e | e
      · rw [e]; exact Int.le_refl _
      · exact List.rel_of_pairwise_cons h2 e
    have e : x.1 = y.1 := by omega
    have hx := hf x.1
    rw [List.filter_cons, List.filter_cons, if_pos (by simp), if_pos (by simp [e])] at hx
    obtain ⟨exy, _⟩ := List.cons.inj hx
    subst exy
    rw [stable_one (List.Perm.cons_inv hp) (List.Pairwise.of_cons h1) (List.Pairwise.of_cons h2) fun c => ?_]
    have := hf c
    rw [List.filter_cons, List.filter_cons] at this
    split at this
    · exact (List.cons.inj this).2
    · exact this
theorem insK_map {β : Type} (g : α → β) (x : Int × α) : ∀ l : List (Int × α), (insK x l).map (fun p => (p.1, g p.2)) = insK (x.1, g x.2) (l.map fun p => (p.1, g p.2))
  | [] => rfl
  | y :: r => by
    unfold insK
    by_cases h : x.1 ≤ y.1
    · rw [if_pos h]
      show _ = if x.1 ≤ y.1 then _ else _
      rw [if_pos h]; rfl
    · rw [if_neg h]
      show _ = if x.1 ≤ y.1 then _ else _
      rw [if_neg h, List.map_cons, insK_map g x r]
theorem sortK_map {β : Type} (g : α → β) : ∀ l : List (Int × α), (sortK l).map (fun p => (p.1, g p.2)) = sortK (l.map fun p => (p.1, g p.2))
  | [] => rfl
  | x :: r => by
    show (insK x (sortK r)).map _ = insK _ (sortK (r.map _))
    rw [insK_map, sortK_map g r]
end
/-- sorted pairs of related values are related -/
theorem insK_rel {x : Int × V} {u : Int × Value} (e : x.1 = u.1) (r : RelV x.2 u.2) : ∀ {l : List (Int × V)} {m : List (Int × Value)}, Paired (fun p q => p.1 = q.1 ∧ RelV p.2 q.2) l m → Paired (fun (p : Int × V) (q : Int × Value) => p.1 = q.1 ∧ RelV p.2 q.2) (insK x l) (insK u m)
  | _, _, .nil => .cons ⟨e, r⟩ .nil
  | y :: l, v :: m, .cons h t => by
    unfold insK
    rw [← e, ← h.1]
    split
    · exact .cons ⟨e, r⟩ (.cons h t)
    · exact .cons h (insK_rel e r t)
theorem sortK_rel : ∀ {l : List (Int × V)} {m : List (Int × Value)}, Paired (fun p q => p.1 = q.1 ∧ RelV p.2 q.2) l m → Paired (fun (p : Int × V) (q : Int × Value) => p.1 = q.1 ∧ RelV p.2 q.2) (sortK l) (sortK m)
  | _, _, .nil => .nil
  | _, _, .cons h t => insK_rel h.1 h.2 (sortK_rel t)
theorem zip_rel : ∀ {kz : List Int} {xs : List V} {us : List Value}, Vals xs us → Paired (fun (p : Int × V) (q : Int × Value) => p.1 = q.1 ∧ RelV p.2 q.2) (kz.zip xs) (kz.zip us)
  | [], _, _, _ => .nil
  | _ :: _, _, _, .nil => .nil
  | k :: kz, _, _, .cons r t => .cons ⟨rfl, r⟩ (zip_rel t)
theorem rel_snd : ∀ {l : List (Int × V)} {m : List (Int × Value)}, Paired (fun p q => p.1 = q.1 ∧ RelV p.2 q.2) l m → Vals (l.map Prod.snd) (m.map Prod.snd)
  | _, _, .nil => .nil
  | _, _, .cons h t => .cons h.2 (rel_snd t)
def byKey (ks : List Int) (xs : List V) : List V := (sortK (ks.zip xs)).map Prod.snd
theorem byKey_len {ks : List Int} {xs : List V} (h : ks.length = xs.length) : (byKey ks xs).length = xs.length := by
  unfold byKey
  rw [List.length_map, (sortK_perm _).length_eq, List.length_zip, h, Nat.min_self]
section
variable {X : Cx}
/-- sorted(xs, key=f), f a def whose answer is an int and that leaves the heap -/
def rSortedBy (K : PySem.W.Frag) (f : Addr) (sp : Sp) : List V → List V → Hp → VK → Prop := fun vs zs H Q => ∃ (a : Addr) (xs : List V) (ks : List Int), vs = [V.ref a] ∧ zs = [V.ref f] ∧ (SqL K H a xs ∨ SqT K H a xs) ∧ ks.length = xs.length ∧
  (∀ (i : Nat) (x : V) (k : Int), xs[i]? = some x → ks[i]? = some k → sp [x] H (fun v H' => v = .int k ∧ H' = H) E0) ∧ ∀ p, H p = none → Q (.ref p) (upd H p (.lst (byKey ks xs)))
theorem cr_sortedBy {k : Nat} {f : Addr} {fd : FuncData} {ps : List Str} {sp : Sp} (F : FnOk X.prog X.w X.K X.mg X.base CX0 k f fd ps sp) (hr : Room (k + 2) X.A) (hb : Binds X.K fd ps []) : CallRK X (.builtin "sorted") [Str.ofString "key"] (rSortedBy X.K f sp) := by
  intro pins s σ H xs zs us ws Q I rx rz hq
  obtain ⟨a, ys, ks, rfl, rfl, hS, hkl, hsp, q⟩ := hq
  cases rx with
  | cons r1 r2 =>
    cases r2
    cases r1
    cases rz with
    | cons z1 z2 =>
      cases z2
      cases z1
      obtain ⟨its, rv, hcol, hsm⟩ : ∃ its : List Value, Vals ys its ∧ (∀ (A : Around) (Q : List Value → Shared → Prop) (E : Value → Shared → Prop), Q its { s with heap := (s.heap.push (seqObj "list" #[] 0)).update s.heap.objs.size (Obj.mapSeq (· ++ its.toArray)) } → wpAny (model X.prog X.w) A (collect (.ref a)) Q E s) ∧ its.length ≤ sizeLine := by
        rcases hS with hS | hS
        · obtain ⟨its, rv, hl, hsm⟩ := I.list hS
          have hz' : its.length ≤ sizeLine := by rw [← rv.length]; exact hsm
          exact ⟨its, rv, fun A Q E h => collect_list hl.isList h hz', hz'⟩
        · obtain ⟨its, rv, hl, hsm⟩ := I.tuple hS
          have hz' : its.length ≤ sizeLine := by rw [← rv.length]; exact hsm
          exact ⟨its, rv, fun A Q E h => collect_tup hl hz' h, hz'⟩
      have hlen : ks.length = its.length := by rw [hkl, rv.length]
      show wpAny _ _ (call (.builtin "sorted") [.ref a] [(Str.ofString "key", .ref f)]) _ _ _
      refine call_function_entry_kw kind_sorted plain_sorted entry_sorted (ksk_s1 _ _) ?_
      unfold Builtin.«sorted»
      refine wpAny_bind (m := checkCount "sorted" 1 1 _) (wpAny_pure (wpAny_bind (hcol _ _ _ (wpAny_bind (wpAny_newList ?_ hsm)))))
      generalize hh1 : (s.heap.push (seqObj "list" #[] 0)).update s.heap.objs.size (Obj.mapSeq (· ++ its.toArray)) = h1
      have hz1 : h1.objs.size = s.heap.objs.size + 1 := by rw [← hh1, Heap.size_update, size_push']
      have kp1 : ∀ b o, s.heap.get? b = some o → h1.get? b = some o := fun b o e => by
        rw [← hh1, Heap.get?_update_ne _ _ _ _ (Nat.ne_of_lt (Heap.lt_size e))]
        exact Heap.get?_push_of_some _ e
      have hoL : (h1.push (seqObj "list" its.toArray 0)).get? h1.objs.size = some (seqObj "list" its.toArray 0) := Heap.get?_push_size _ rfl
      have I1 : Inv X pins σ H { s with heap := h1 } := I.kept (t' := s.toks) kp1
      have I2 : Inv X pins σ H { s with heap := h1.push (seqObj "list" its.toArray 0) } := I1.kept (t' := s.toks) fun b o e => Heap.get?_push_of_some _ e
      have fa : FpOk X pins H h1.objs.size := I1.fpOk (Nat.le_refl _) (I1.hok.fresh (Nat.le_refl _))
      refine wpAny_bind (wpAny_holding (wpAny_call_entry_kw slot_list_sort ⟨_, hoL, rfl⟩ entry_list_sort ?_ (ksk_l1 _ _)))
      show wpAny (model X.prog X.w) X.A.in1.in1 (Builtin.«list.sort» ⟨[.ref h1.objs.size], [(Str.ofString "key", .ref f)]⟩) _ _ _
      rw [ksk_t1]
      refine sb_sort (s := { s with heap := h1.push (seqObj "list" its.toArray 0) }) (kz := ks) I2 hoL fa hlen hsm (fun i v k pins' s' hv hk I' => ?_) fun s' out c I' ho' ko => ⟨_, rfl, ?_⟩
      · obtain ⟨x, hx, rxv⟩ : ∃ x, ys[i]? = some x ∧ RelV x v := by
          have hi : i < ys.length := by rw [rv.length]; exact (List.getElem?_eq_some_iff.mp hv).1
          obtain ⟨u, hu, ru⟩ := rv.get (List.getElem?_eq_getElem hi)
          rw [hv] at hu
          cases hu
          exact ⟨_, List.getElem?_eq_getElem hi, ru⟩
        exact run_fn2 F hr hb I' (.cons rxv .nil) (hsp i x k hx hk)
      · obtain ⟨pr, p1, p2, p3, p4⟩ := ko
        have e1 : pr = sortK (ks.zip its) := stable_one (p1.trans (sortK_perm _).symm) (by simpa using p3) (sortK_up _) fun c => (p4 c).trans (sortK_filter c _).symm
        have rel : Vals (byKey ks ys) out.toList := by
          rw [p2, e1]
          exact rel_snd (sortK_rel (zip_rel rv))
        have hbz : (byKey ks ys).length ≤ sizeLine := by rw [byKey_len hkl, rv.length]; exact hsm
        refine wpAny_pure ⟨_, rfl, ?_⟩
        exact ⟨.ref h1.objs.size, upd H h1.objs.size (.lst (byKey ks ys)), adopt I' fa ⟨hbz, out.toList, c, rel, by rw [Array.toArray_toList]; exact ho'⟩, rfl, q _ fa.1⟩
end
end TK

namespace TK
open PySem PySem.Spec PyProof.Rows L2
/-! ### enumerate(tuple) -/
theorem meets_enum1 {v : Value} {o : Obj} {G : Heap → Prop} (B : Begins v o G) :
    Meets (Builtin.«enumerate.__new__» ⟨[.type "enumerate", v], []⟩) (fun _ R s => G s.heap ∧
      R (.ok (.ret (.ref (s.heap.push o).objs.size))) { s with heap := (s.heap.push o).push { cls := .type "enumerate", data := .fields #[.none, .bool false, .ref s.heap.objs.size, rawInt 0, .none, .none] } }) :=
  .of_wp fun prog w A R s hh => by
    obtain ⟨hp, gg, dd, tk, os⟩ := s
    obtain ⟨hG, hR⟩ := hh
    have hsub := sub_enumerate
    have it1 : ∀ {A' : Around} {E' : Value → Shared → Prop} {Q : Value → Shared → Prop}, Q (.ref hp.objs.size) ⟨hp.push o, gg, dd, tk, os⟩ → wpAny (model prog w) A' (pyIter v) Q E' ⟨hp, gg, dd, tk, os⟩ := fun q => B.iter prog w _ _ ⟨hp, gg, dd, tk, os⟩ _ hG q
    wp_walk using it1
    refine wpAny_stack_any fun st => wpAny_pure ?_
    split
    · rename_i c _ _ _ _ _
      cases (c == Value.type "enumerate") <;> (wp_walk using it1; exact ⟨_, rfl, hR⟩)
    · wp_walk using it1
      exact ⟨_, rfl, hR⟩
section
variable {prog : Program} {w : World} {A : Around} {E : Value → Shared → Prop} {s : Shared}
theorem call_enum1 {v : Value} {o : Obj} {G : Heap → Prop} {Q : Value → Shared → Prop} (B : Begins v o G) (hG : G s.heap)
    (h : ∀ h', IsEnum h' (s.heap.objs.size + 1) s.heap.objs.size 0 .none → h'.get? s.heap.objs.size = some o → (∀ b o, s.heap.get? b = some o → h'.get? b = some o) → Q (.ref (s.heap.objs.size + 1)) { s with heap := h' }) :
    wpAny (model prog w) A (call (.type "enumerate") [v]) Q E s := by
  refine callType_new F.called_enumerate (by decide) (F.typeCall_enumerate_1 _) (F.newCall_enumerate_1 _) (fun obj => F.args_object_init_2 obj _) F.entry_enumerate_new (meets_enum1 B) ⟨hG, ?_⟩
  have zp : (s.heap.push o).objs.size = s.heap.objs.size + 1 := Heap.size_push ..
  show _ ∧ _
  rw [zp]
  have gen : IsEnum ((s.heap.push o).push { cls := .type "enumerate", data := .fields #[.none, .bool false, .ref s.heap.objs.size, rawInt 0, .none, .none] }) (s.heap.objs.size + 1) s.heap.objs.size 0 .none := by
    unfold IsEnum
    rw [← zp]
    exact Heap.get?_push_size _ rfl
  exact ⟨⟨_, gen, rfl⟩, h _ gen (Heap.get?_push_of_some _ (Heap.get?_push_size _ B.free)) fun b o q => Heap.get?_push_of_some _ (Heap.get?_push_of_some _ q)⟩
end
def IteT (K : PySem.W.Frag) (a : Addr) (n : Nat) : It :=
  ⟨fun i H => i < n ∧ ∃ xs : List V, SqT K H a xs ∧ xs.length = n, fun i H v H' => ∃ T x, v = .ref T ∧ H T = none ∧ H' = upd H T (.tup [.int (i : Nat), x]) ∧ ∀ xs, SqT K H a xs → xs[i]? = some x, fun i H => n ≤ i ∧ ∃ xs : List V, SqT K H a xs ∧ xs.length = n⟩
theorem turn_enumT {P : Program} {w : World} {K : PySem.W.Frag} {elts : List Expr} {kk : Nat} {tpos : Pos} (a e it : Addr) (n : Nat) (nei : e ≠ it) (nae : a ≠ e) (nai : a ≠ it) :
    Turn P w K (.Tuple elts kk tpos) (IteT K a n) [e, it] e (fun i h => (∃ old, IsEnum h e it ((i : Nat) : Int) old) ∧ h.IsTupleIter it a i ∧ i ≤ n) where
  mem := List.mem_cons_self ..
  obj := fun i h st b hb => by
    obtain ⟨⟨old, gen⟩, ⟨o, ho, _, hd⟩, _⟩ := st
    rcases List.mem_cons.mp hb with z | z
    · rw [z]; exact ⟨_, gen, fun v q => nomatch q⟩
    · rw [List.mem_singleton.mp z]; exact ⟨o, ho, fun v q => by rw [hd] at q; cases q⟩
  keep := fun i h h' st k => by
    obtain ⟨⟨old, gen⟩, hi, hn⟩ := st
    exact ⟨⟨old, k e (by simp) _ gen⟩, hi.at fun o q => k it (by simp) o q, hn⟩
  item := by
    intro X hP hw hK hc i pins s σ H E I hf st hg
    subst hP hw hK
    obtain ⟨⟨old, gen⟩, git, _⟩ := st
    obtain ⟨ltn, xs, hq, hxl⟩ := hg
    obtain ⟨itm, rel, p, zp⟩ := I.tuple hq
    have elt : e < s.heap.objs.size := Heap.lt_size gen
    have ilt : it < s.heap.objs.size := by obtain ⟨_, q, _⟩ := git; exact Heap.lt_size q
    have hsz : itm.toArray.size = n := by rw [List.size_toArray, ← rel.length]; exact hxl
    have D := Draws.tuple (prog := X.prog) (w := X.w) (A := X.A.in1) (I.ok.hd hc) it a nai itm.toArray
    refine wpAny_pyNext_enum_itemD D gen ⟨git, p⟩ (by rw [hsz]; exact ltn) nei (by simp [nei, Ne.symm nae]) fun u h' tk hu ho hst hT _ hk => ?_
    obtain ⟨x, hx, ru⟩ : ∃ x, xs[i]? = some x ∧ RelV x u := by
      obtain ⟨u', hu', ru'⟩ := rel.get (List.getElem?_eq_getElem (show i < xs.length by omega))
      have hu2 : itm[i]? = some u := by simpa using hu
      rw [hu2] at hu'
      cases hu'
      exact ⟨_, List.getElem?_eq_getElem (by omega), ru'⟩
    refine ⟨_, rfl, wpAny_letOwnedTupleGo_enum (s := { s with heap := h', toks := tk + 1 }) ho fun h'' he' sb => ?_⟩
    have atT : h''.get? s.heap.objs.size = some { cls := .type "tuple", data := .seq #[.int i tk, u] } := (sb.2 _ (Nat.ne_of_gt elt)).trans hT
    have new : ObjOk X.prog X.w (upd H s.heap.objs.size (.tup [.int (i : Nat), x])) h'' s.heap.objs.size (.tup [.int (i : Nat), x]) :=
      ⟨by show 2 ≤ sizeLine; decide, [.int i tk, u], .cons ⟨_, rfl⟩ (.cons ru .nil), ⟨_, atT, rfl, _, rfl⟩⟩
    have I1 : Inv X pins σ (upd H s.heap.objs.size (.tup [.int (i : Nat), x])) { s with heap := h'', toks := tk + 1 } :=
      I.turnedNew (ch := [e, it]) (fun b ob hb q => (sb.2 b (fun z => hb (by simp [z]))).trans (hk b ob (fun z => hb (by simp [z])) (fun z => hb (by simp [z])) q)) hf (Nat.le_refl _) new
    refine ⟨.ref s.heap.objs.size, _, I1, rfl, ⟨_, x, rfl, I.hok.fresh (Nat.le_refl _), rfl, fun ys hy => by rw [I.tuple_inj hy hq]; exact hx⟩, ⟨⟨u, ?_⟩, hst.1.at fun o q => (sb.2 it (Ne.symm nei)).trans q, by omega⟩, fun b hb => ?_⟩
    · rw [show ((i + 1 : Nat) : Int) = (i : Int) + 1 by omega]; exact he'
    · have blt : b < s.heap.objs.size := by
        rcases List.mem_cons.mp hb with z | z
        · rw [z]; exact elt
        · rw [List.mem_singleton.mp z]; exact ilt
      rw [upd_ne (Nat.ne_of_lt blt)]
      exact (hf b hb).1
  done := by
    intro X hP hw hK hc i pins s σ H E I hf st hg
    subst hP hw hK
    obtain ⟨⟨old, gen⟩, git, ble⟩ := st
    obtain ⟨hge, xs, hq, hxl⟩ := hg
    obtain ⟨itm, rel, p, zp⟩ := I.tuple hq
    have hin : i = itm.toArray.size := by rw [List.size_toArray, ← rel.length]; omega
    obtain ⟨q0, q1, q2, q3, q4, q5⟩ := hf it (by simp)
    have D := Draws.tuple (prog := X.prog) (w := X.w) (A := X.A.in1) (I.ok.hd hc) it a nai itm.toArray
    refine wpAny_pyNext_enum_endD D gen ⟨by rw [← hin]; exact git, p⟩ fun h' eb => ⟨rfl, I.turned (t' := s.toks) (fun b o hb q => eb b o hb q) q0 q1 q3 q4 q5⟩
  self := fun A i s Q E st h => by
    obtain ⟨⟨_, gen⟩, _⟩ := st
    exact wpAny_pyIter_enum gen h
def iEnumT (K : PySem.W.Frag) (ta : TA) : TI := fun σ H R => ta σ H fun vs H1 => ∃ a xs, vs = [.ref a] ∧ SqT K H1 a xs ∧ R (IteT K a xs.length) H1
theorem pi_enumT {X : Cx} {e : Expr} {ta : TA} {p pos tpos : Pos} {elts : List Expr} {kk : Nat} (hg : Gl X "enumerate") (hm : X.mg "enumerate" = none) (ha : PA X [e] ta) (hs : starEach [e] X.env = [(false, eval e X.env)] := by rfl) :
    PI X (.Tuple elts kk tpos) (.Call (.Name "enumerate" p) [e] [] pos) (iEnumT X.K ta) := by
  refine ⟨fun pins s σ H R I h => Call_ (ld_blt I hg hm boot_enumerate (PyProof.Rows.callWith_type1 (thn (ha.run pos pins s σ H _ I h) fun us s1 ⟨vs, H1, I1, r1, q1⟩ => ?_) hs rfl))⟩
  obtain ⟨a, xs, rfl, hq, q⟩ := q1
  cases r1 with
  | cons r rr =>
    cases rr
    cases r
    obtain ⟨itm, rel, p', zp⟩ := I1.tuple hq
    have hal : a < s1.heap.objs.size := by obtain ⟨_, q, _⟩ := p'; exact Heap.lt_size q
    refine call_enum1 (begins_tuple a itm.toArray) p' fun h' gen git hk => wpAny_pyIter_enum gen ?_
    have J2 : Inv X pins σ H1 { s1 with heap := h' } := I1.kept (t' := s1.toks) hk
    refine ⟨s1.heap.objs.size + 1, [s1.heap.objs.size + 1, s1.heap.objs.size], _, _, H1, rfl, J2, turn_enumT a (s1.heap.objs.size + 1) s1.heap.objs.size xs.length (Nat.succ_ne_self _) (Nat.ne_of_lt (Nat.lt_succ_of_lt hal)) (Nat.ne_of_lt hal), ⟨⟨.none, gen⟩, ⟨_, git, rfl, rfl⟩, Nat.zero_le _⟩, fun b hb => ?_, q⟩
    have ble : s1.heap.objs.size ≤ b := by
      rcases List.mem_cons.mp hb with z | z
      · rw [z]; exact Nat.le_add_right _ _
      · rw [List.mem_singleton.mp z]; exact Nat.le_refl _
    exact I1.fpOk ble (I1.hok.fresh ble)
theorem walk_enumT {K : PySem.W.Frag} {a : Addr} {xs : List V} : Walk (IteT K a xs.length) xs.length (fun H => SqT K H a xs) (YPair (fun i => some (.int (i : Nat))) (fun i => xs[i]?)) where
  goes := fun i H hi hG => ⟨hi, xs, hG, rfl⟩
  stops := fun H hG => ⟨Nat.le_refl _, xs, hG, rfl⟩
  yields := fun i H x H' _ hG hy => by
    obtain ⟨T, v, e1, e2, e3, e4⟩ := hy
    exact ⟨T, _, v, e1, e2, e3, rfl, e4 xs hG⟩
end TK

namespace TK
open PySem PySem.Spec PyProof.Rows L2
/-! ### max(xs, default=d), min(xs, default=d) of ints -/
theorem hold_ints {h : Heap} : ∀ {us : List Value} {ns : List Int}, IntsAre us ns → ∃ as, ReadsAll h us (ns.map PySem.W.Datum.toD) as
  | _, _, .nil => ⟨[], .nil⟩
  | _, _, .cons n t r => by
    obtain ⟨as, ra⟩ := hold_ints (h := h) r
    exact ⟨[] ++ as, .cons (.int n t) ra⟩
theorem hold_int {h : Heap} {v : Value} {m : Int} (H : PySem.W.Holds h v m) : ∃ t, v = Value.int m t := by
  obtain ⟨as, r⟩ := H
  have r : Reads h v (.int m) as := r
  cases r with
  | int i t => exact ⟨t, rfl⟩
theorem maxOf_is : ∀ (ys : List Int) (y : Int), PySem.W.maxOf y ys ∈ y :: ys ∧ ∀ z ∈ y :: ys, z ≤ PySem.W.maxOf y ys
  | [], y => ⟨List.mem_cons_self .., fun z hz => by cases List.mem_singleton.mp hz; exact Int.le_refl _⟩
  | a :: ys, y => by
    have e : PySem.W.maxOf y (a :: ys) = PySem.W.maxOf (if y < a then a else y) ys := by
      show List.foldl _ (if decide (y < a) = true then a else y) ys = _
      by_cases h : y < a
      · rw [if_pos (decide_eq_true h), if_pos h]; rfl
      · rw [if_neg (by simpa using h), if_neg h]; rfl
    obtain ⟨h1, h2⟩ := maxOf_is ys (if y < a then a else y)
    rw [e]
    by_cases h : y < a
    · rw [if_pos h] at h1 h2 ⊢
      refine ⟨?_, fun z hz => ?_⟩
      · exact List.mem_cons_of_mem _ h1
      · rcases List.mem_cons.mp hz with q | q
        · have := h2 a (List.mem_cons_self ..)
          omega
        · exact h2 z q
    · rw [if_neg h] at h1 h2 ⊢
      refine ⟨?_, fun z hz => ?_⟩
      · rcases List.mem_cons.mp h1 with q | q
        · rw [q]; exact List.mem_cons_self ..
        · exact List.mem_cons_of_mem _ (List.mem_cons_of_mem _ q)
      · rcases List.mem_cons.mp hz with q | q
        · rw [q]; exact h2 y (List.mem_cons_self ..)
        · rcases List.mem_cons.mp q with q | q
          · have := h2 y (List.mem_cons_self ..)
            omega
          · exact h2 z (List.mem_cons_of_mem _ q)
theorem minOf_is : ∀ (ys : List Int) (y : Int), PySem.W.minOf y ys ∈ y :: ys ∧ ∀ z ∈ y :: ys, PySem.W.minOf y ys ≤ z
  | [], y => ⟨List.mem_cons_self .., fun z hz => by cases List.mem_singleton.mp hz; exact Int.le_refl _⟩
  | a :: ys, y => by
    have e : PySem.W.minOf y (a :: ys) = PySem.W.minOf (if a < y then a else y) ys := by
      show List.foldl _ (if decide (a < y) = true then a else y) ys = _
      by_cases h : a < y
      · rw [if_pos (decide_eq_true h), if_pos h]; rfl
      · rw [if_neg (by simpa using h), if_neg h]; rfl
    obtain ⟨h1, h2⟩ := minOf_is ys (if a < y then a else y)
    rw [e]
    by_cases h : a < y
    · rw [if_pos h] at h1 h2 ⊢
      refine ⟨?_, fun z hz => ?_⟩
      · exact List.mem_cons_of_mem _ h1
      · rcases List.mem_cons.mp hz with q | q
        · have := h2 a (List.mem_cons_self ..)
          omega
        · exact h2 z q
    · rw [if_neg h] at h1 h2 ⊢
      refine ⟨?_, fun z hz => ?_⟩
      · rcases List.mem_cons.mp h1 with q | q
        · rw [q]; exact List.mem_cons_self ..
        · exact List.mem_cons_of_mem _ (List.mem_cons_of_mem _ q)
      · rcases List.mem_cons.mp hz with q | q
        · rw [q]; exact h2 y (List.mem_cons_self ..)
        · rcases List.mem_cons.mp q with q | q
          · have := h2 y (List.mem_cons_self ..)
            omega
          · exact h2 z (List.mem_cons_of_mem _ q)
def rMaxDef (K : PySem.W.Frag) : List V → List V → Hp → VK → Prop := fun vs zs H Q => ∃ (a : Addr) (ns : List Int) (d : V), vs = [V.ref a] ∧ zs = [d] ∧ SqL K H a (ns.map V.int) ∧ (ns = [] → Q d H) ∧ ∀ m, m ∈ ns → (∀ y, y ∈ ns → y ≤ m) → Q (.int m) H
def rMinDef (K : PySem.W.Frag) : List V → List V → Hp → VK → Prop := fun vs zs H Q => ∃ (a : Addr) (ns : List Int) (d : V), vs = [V.ref a] ∧ zs = [d] ∧ SqL K H a (ns.map V.int) ∧ (ns = [] → Q d H) ∧ ∀ m, m ∈ ns → (∀ y, y ∈ ns → m ≤ y) → Q (.int m) H
section
variable {X : Cx}
theorem cr_maxDef (hc : X.calm = true) (hu : X.A.units + 64 < cLine) : CallRK X (.builtin "max") [Str.ofString "default"] (rMaxDef X.K) := by
  intro pins s σ H xs zs us ws Q I rx rz hq
  obtain ⟨a, ns, d, rfl, rfl, hs, q0, q1⟩ := hq
  rw [Vals.ref1 rx]
  cases rz with
  | cons z1 z2 =>
    cases z2
    obtain ⟨its, rv, hl, _⟩ := I.list hs
    refine PySem.W.max_list_datum_default (α := Int) (xs := ns) (I.ok.hd hc) hl.isList (hold_ints rv.ints) (by show X.A.units + 1 + 0 < cLine; omega) (fun e h' tk hk => ⟨d, H, I.kept hk, z1, q0 e⟩) fun y ys i v h' tk e _ hv hk => ?_
    obtain ⟨t, rfl⟩ := hold_int hv
    obtain ⟨m1, m2⟩ := maxOf_is ys y
    exact ⟨.int _, H, I.kept hk, ⟨_, rfl⟩, q1 _ (by rw [e]; exact m1) fun z hz => m2 z (by rw [e] at hz; exact hz)⟩
theorem cr_minDef (hc : X.calm = true) (hu : X.A.units + 64 < cLine) : CallRK X (.builtin "min") [Str.ofString "default"] (rMinDef X.K) := by
  intro pins s σ H xs zs us ws Q I rx rz hq
  obtain ⟨a, ns, d, rfl, rfl, hs, q0, q1⟩ := hq
  rw [Vals.ref1 rx]
  cases rz with
  | cons z1 z2 =>
    cases z2
    obtain ⟨its, rv, hl, _⟩ := I.list hs
    refine PySem.W.min_list_datum_default (α := Int) (xs := ns) (I.ok.hd hc) hl.isList (hold_ints rv.ints) (by show X.A.units + 1 + 0 < cLine; omega) (fun e h' tk hk => ⟨d, H, I.kept hk, z1, q0 e⟩) fun y ys i v h' tk e _ hv hk => ?_
    obtain ⟨t, rfl⟩ := hold_int hv
    obtain ⟨m1, m2⟩ := minOf_is ys y
    exact ⟨.int _, H, I.kept hk, ⟨_, rfl⟩, q1 _ (by rw [e]; exact m1) fun z hz => m2 z (by rw [e] at hz; exact hz)⟩
end
/-! ### t[::-1] of a tuple -/
section
variable {prog : Program} {w : World} {A : Around} {E : Value → Shared → Prop} {s : Shared}
theorem places_rev (n : Nat) : Builtin.Slice.slicePlaces ((n : Int) - 1) (-1) (-1) = n := by
  unfold Builtin.Slice.slicePlaces
  rw [if_neg (by decide)]
  by_cases h : n = 0
  · subst h; rfl
  · rw [if_pos (by omega), show -(-1 : Int) = 1 from rfl, Int.ediv_one]
    omega
theorem applied_rev {sl : Addr} {vl vu vs : Value} {n : Nat} {Q : Int × Int × Nat → Shared → Prop} (hs : s.heap.IsSliceOf sl vl vu vs) (pl : IsPart vl none) (pu : IsPart vu none) (ps : IsPart vs (some (-1)))
    (h : Q ((n : Int) - 1, -1, n) s) : wpAny (model prog w) A (Builtin.Slice.sliceApplied (.ref sl) (pure (n : Int))) Q E s := by
  obtain ⟨ob, go, _, gd⟩ := id hs
  unfold Builtin.Slice.sliceApplied Builtin.Slice.sliceFields
  refine wpAny_bind (wpAny_bind (wpAny_field go gd (x := vl) rfl (wpAny_bind (wpAny_field go gd (x := vu) rfl (wpAny_bind (wpAny_field go gd (x := vs) rfl (wpAny_pure ?_)))))))
  refine wpAny_bind (HT.slicePart_ ps ?_)
  show wpAny _ _ (if ((-1 : Int) == 0) = true then _ else _) _ _ s
  rw [if_neg (by decide)]
  refine wpAny_bind (HT.slicePart_ pl (wpAny_bind (HT.slicePart_ pu (wpAny_bind (wpAny_pure ?_)))))
  show wpAny _ _ (pure ((n : Int) - 1, (-1 : Int), Builtin.Slice.slicePlaces ((n : Int) - 1) (-1) (-1))) _ _ s
  rw [places_rev]
  exact wpAny_pure h
theorem fm_congr {α β : Type} {f g : α → Option β} : ∀ {l : List α}, (∀ x ∈ l, f x = g x) → l.filterMap f = l.filterMap g
  | [], _ => rfl
  | x :: r, h => by
    rw [List.filterMap_cons, List.filterMap_cons, h x (List.mem_cons_self ..), fm_congr fun y hy => h y (List.mem_cons_of_mem _ hy)]
theorem pick_rev (xs : Array Value) : ((List.range xs.size).filterMap fun (m : Nat) => xs[((xs.size : Int) - 1 + (m : Int) * (-1)).toNat]?).toArray = xs.toList.reverse.toArray := by
  have e : ((List.range xs.size).filterMap fun (m : Nat) => xs[((xs.size : Int) - 1 + (m : Int) * (-1)).toNat]?) = ((List.range xs.size).map fun k => xs.size - 1 - k).filterMap (xs[·]?) := by
    rw [List.filterMap_map]
    refine fm_congr fun m hm => ?_
    have := List.mem_range.mp hm
    show xs[_]? = xs[xs.size - 1 - m]?
    congr 1
    omega
  rw [e, PySem.W.krv_range, List.filterMap_reverse, PySem.W.krv_all]
theorem getItem_tup_rev {t sl : Addr} {items : Array Value} {vl vu vs : Value} {Q : Value → Shared → Prop} (ht : IsTup s.heap t items) (hs : s.heap.IsSliceOf sl vl vu vs) (pl : IsPart vl none) (pu : IsPart vu none) (ps : IsPart vs (some (-1)))
    (h : Q (.ref s.heap.objs.size) { s with heap := s.heap.push { cls := .type "tuple", data := .seq items.toList.reverse.toArray } }) (hsz : items.size ≤ sizeLine) : wpAny (model prog w) A (getItem (.ref t) (.ref sl)) Q E s := by
  have small : sizeOk (.seq items.toList.reverse.toArray) := by
    show items.toList.reverse.toArray.size ≤ sizeLine
    rw [List.size_toArray, List.length_reverse, Array.length_toList]
    exact hsz
  obtain ⟨ob, go, gc, gd⟩ := id hs
  unfold getItem
  try with_reducible refine wpAny_holding ?_
  first | refine wpAny_bind (wpAny_pure ?_) | skip
  refine wpAny_bind (wpAny_sequenceKey ht.typeIs (by decide) (wpAny_bind (wpAny_callSpecial?_slot (name := Str.ofString "__getitem__") ht.typeIs PyProof.Rows.slot_tuple_getitem (wpAny_call_entry PyProof.Rows.slot_tuple_getitem ht.typeIs entry_tuple_getitem ?_ (args_tuple_getitem _ _)))))
  show wpAny _ _ (Builtin.Tuple.tupleItemsOf (.ref t) >>= _) _ _ s
  refine wpAny_bind (tupleItemsOf_ ht (wpAny_bind (wpAny_typeOf ⟨ob, go, gc⟩ ?_)))
  rw [if_pos (by decide)]
  refine wpAny_bind (applied_rev hs pl pu ps ?_)
  show wpAny _ _ (if (((items.size : Int) - 1) == 0 && (-1 : Int) == 1 && items.size == items.size) = true then _ else _) _ _ s
  rw [if_neg (by rw [show ((-1 : Int) == 1) = false from rfl, Bool.and_false, Bool.false_and]; decide), pick_rev]
  first
    | exact wpAny_bind (m := Builtin.Tuple.tupleExact _) (wpAny_newObj_type (wpAny_pure ⟨_, rfl, wpAny_pure h⟩) small)
    | exact wpAny_bind (m := Builtin.Tuple.tupleExact _) (wpAny_newObj_type (wpAny_bind (wpAny_pure (wpAny_pure ⟨_, rfl, wpAny_pure h⟩))) small)
    | exact wpAny_bind (wpAny_bind (m := Builtin.Tuple.tupleExact _) (wpAny_newObj_type (wpAny_pure (wpAny_pure ⟨_, rfl, wpAny_pure h⟩)) small))
    | exact wpAny_bind (wpAny_bind (m := Builtin.Tuple.tupleExact _) (wpAny_newObj_type (wpAny_pure ⟨_, rfl, wpAny_pure h⟩) small))
end
def tRevT (K : PySem.W.Frag) (te : TE) : TE := fun σ H Q => te σ H fun x H1 => ∃ a xs, x = .ref a ∧ SqT K H1 a xs ∧ ∀ p, H1 p = none → Q (.ref p) (upd H1 p (.tup xs.reverse))
theorem pe_revT {X : Cx} {e : Expr} {te : TE} {k : Nat} {p1 p2 p3 pos : Pos} (he : PE X e te) : PE X (.Subscript e (.Slice none none (some (.UnaryOp .USub (.Constant (.int 1) k p1) p2)) p3) pos) (tRevT X.K te) := by
  refine ⟨fun pins s σ H Q I h => Subscript_ (thn (he.run pins s σ H _ I h) fun v s1 ⟨x, H1, I1, r1, a, xs, ex, hx, q⟩ => ?_)⟩
  subst ex
  cases r1
  have one : PO X (some (.UnaryOp .USub (.Constant (.int 1) k p1) p2)) (tPart (tUn (rU fun i => .int (-i)) (tC (.int 1)))) := po_some (pe_un un_neg pe_int)
  refine wpAny_Slice (thn (po_none.run pins s1 σ H1 (fun o G => o = none ∧ G = H1) I1 ⟨rfl, rfl⟩) fun vl s2 ⟨l, H2, I2, pl, el, e2⟩ => ?_)
  subst el e2
  refine thn (po_none.run pins s2 σ H2 (fun o G => o = none ∧ G = H2) I2 ⟨rfl, rfl⟩) fun vu s3 ⟨u, H3, I3, pu, eu, e3⟩ => ?_
  subst eu e3
  refine thn (one.run pins s3 σ H3 (fun o G => o = some (-1) ∧ G = H3) I3 ⟨1, rfl, -1, rfl, rfl, rfl⟩) fun vs s4 ⟨o, H4, I4, ps, eo, e4⟩ => ?_
  subst eo e4
  have J : Inv X pins σ H4 { s4 with heap := s4.heap.push { cls := .type "slice", data := .fields #[vl, vu, vs] } } := I4.kept (t' := s4.toks) fun b ob q => Heap.get?_push_of_some _ q
  obtain ⟨itm, r, ht, hz⟩ := J.tuple hx
  have hlen := r.length
  show wpAny (model X.prog X.w) X.A (subscriptTail e (.Slice none none (some (.UnaryOp .USub (.Constant (.int 1) k p1) p2)) p3) (.ref a) (.ref s4.heap.objs.size)) (EP X pins σ Q) X.xe { s4 with heap := s4.heap.push { cls := .type "slice", data := .fields #[vl, vu, vs] } }
  refine tail_any (ops := [.ref a, .ref s4.heap.objs.size]) ht.typeIs PyProof.Rows.slot_tuple_getitem.lookup ?_ (by with_unfolding_all rfl)
  refine getItem_tup_rev ht (Heap.IsSliceOf.new _ vl vu vs) pl pu ps ?_ (by rw [List.size_toArray]; omega)
  refine ⟨.ref _, _, J.laid (t' := s4.toks) (o := .tup xs.reverse) (fun b ob q => Heap.get?_push_of_some _ q) (Nat.le_refl _) ?_, rfl, q _ (J.hok.fresh (Nat.le_refl _))⟩
  exact ⟨by rw [List.length_reverse]; exact hz, _, r.reverse, IsTup.new _ _⟩
end TK

namespace TK
open PySem PySem.Spec PyProof.Rows L2
section
variable {X : Cx}
/-! ### a word of one's own in the middle; two ways to read the same text -/
theorem ps_cut {st : Stmt} {t : TS} (h : PS X st t) : PS X st (fun D σ H => ∃ R : L2.St → Hp → Prop, t { D with nx := R } σ H ∧ ∀ σ' H', R σ' H' → D.nx σ' H') :=
  ⟨fun pins s σ H D I ⟨R, q, k⟩ => thn (h.run pins s σ H _ I q) fun f s' z => by
    cases f with
    | next => obtain ⟨σ', H', I', r⟩ := z; exact ⟨σ', H', I', k _ _ r⟩
    | brk => exact z
    | cont => exact z
    | ret u => exact z⟩
theorem pe_cut {e : Expr} {t : TE} (h : PE X e t) : PE X e (fun σ H Q => ∃ R : VK, t σ H R ∧ ∀ v H', R v H' → Q v H') :=
  ⟨fun pins s σ H Q I ⟨R, q, k⟩ => thn (h.run pins s σ H _ I q) fun v s' z => by
    obtain ⟨x, H', I', r, q'⟩ := z
    exact ⟨x, H', I', r, k _ _ q'⟩⟩
theorem pt_cut {e : Expr} {t : TT} (h : PT X e t) : PT X e (fun σ H Q => ∃ R : Bool → Hp → Prop, t σ H R ∧ ∀ b H', R b H' → Q b H') :=
  ⟨fun pins s σ H Q I ⟨R, q, k⟩ => thn (h.run pins s σ H _ I q) fun v s' z => by
    obtain ⟨H', I', q'⟩ := z
    exact ⟨H', I', k _ _ q'⟩⟩
theorem pi_or {tg it : Expr} {w1 w2 : TI} (h1 : PI X tg it w1) (h2 : PI X tg it w2) : PI X tg it (fun σ H R => w1 σ H R ∨ w2 σ H R) :=
  ⟨fun pins s σ H R I h => h.elim (h1.run pins s σ H R I) (h2.run pins s σ H R I)⟩
theorem ps_or {st : Stmt} {t1 t2 : TS} (h1 : PS X st t1) (h2 : PS X st t2) : PS X st (fun D σ H => t1 D σ H ∨ t2 D σ H) :=
  ⟨fun pins s σ H D I h => h.elim (h1.run pins s σ H D I) (h2.run pins s σ H D I)⟩
theorem pe_or2 {e : Expr} {t1 t2 : TE} (h1 : PE X e t1) (h2 : PE X e t2) : PE X e (fun σ H Q => t1 σ H Q ∨ t2 σ H Q) :=
  ⟨fun pins s σ H Q I h => h.elim (h1.run pins s σ H Q I) (h2.run pins s σ H Q I)⟩
theorem pt_or2 {e : Expr} {t1 t2 : TT} (h1 : PT X e t1) (h2 : PT X e t2) : PT X e (fun σ H Q => t1 σ H Q ∨ t2 σ H Q) :=
  ⟨fun pins s σ H Q I h => h.elim (h1.run pins s σ H Q I) (h2.run pins s σ H Q I)⟩
end
end TK

namespace TK
open PySem PySem.Spec PyProof.Rows L2
section
variable {X : Cx}
/-! sum(t), a tuple of ints -/
def rSumT (K : PySem.W.Frag) : List V → Hp → VK → Prop := fun vs H Q => ∃ (a : Addr) (ns : List Int), vs = [V.ref a] ∧ SqT K H a (ns.map V.int) ∧ Q (.int ns.sum) H
theorem cr_sumT (hc : X.calm = true) : CallR X (.builtin "sum") (rSumT X.K) := by
  intro pins s σ H vs us Q I r h
  obtain ⟨a, ns, rfl, hs, q⟩ := h
  obtain ⟨itm, rv, p, _⟩ := I.tuple hs
  rw [Vals.ref1 r]
  obtain ⟨xs, e⟩ := rv.ints.allInts.items
  have hn : numsOf itm.toArray.toList = ns := rv.ints.numsOf
  rw [e, nums_intItems] at hn
  refine PySem.W.ktm_sumG (I.ok.hd hc) (e ▸ p) fun h' tk t' hk => ?_
  rw [preSum_eq, List.take_of_length_le (by simp), hn]
  exact ⟨.int _, H, I.kept hk, ⟨_, rfl⟩, q⟩
/-- *e within a comprehension -/
theorem pa_starK {K : PySem.W.Frag} {e : Expr} {es : List Expr} {te : TE} {t : TA} {p : Pos} (h : X.K = K) (he : PE X e te) (hr : PA X es t) (hs : starEach (.Starred e p :: es) X.env = (true, eval e X.env) :: starEach es X.env := by rfl) : PA X (.Starred e p :: es) (StX.tStar K te t) := h ▸ StX.pa_star he hr hs
theorem op_eqDK {K : PySem.W.Frag} (h : X.K = K) (hu : X.A.units + 64 < cLine) : OpR X (compareOp .Eq) (rEqD K) := h ▸ op_eqD hu
theorem op_neDK {K : PySem.W.Frag} (h : X.K = K) (hu : X.A.units + 64 < cLine) : OpR X (compareOp .NotEq) (rNeD K) := h ▸ op_neD hu
/-! ### objects at a row of addresses -/
def At (H : Hp) (us : List Addr) (os : List HO) : Prop := us.length = os.length ∧ ∀ (i : Nat) (u : Addr) (o : HO), us[i]? = some u → os[i]? = some o → H u = some o
theorem At.same {H H' : Hp} {us : List Addr} {os : List HO} (h : At H us os) (s : Same H H') : At H' us os := ⟨h.1, fun i u o a b => s _ _ (h.2 i u o a b)⟩
theorem At.nil {H : Hp} : At H [] [] := ⟨rfl, fun i u o a _ => by simp at a⟩
theorem At.append {H : Hp} {us vs : List Addr} {os ps : List HO} (h : At H us os) (k : At H vs ps) : At H (us ++ vs) (os ++ ps) := by
  refine ⟨by rw [List.length_append, List.length_append, h.1, k.1], fun i u o a b => ?_⟩
  by_cases hi : i < us.length
  · rw [List.getElem?_append_left hi] at a
    rw [List.getElem?_append_left (by rw [← h.1]; exact hi)] at b
    exact h.2 i u o a b
  · rw [List.getElem?_append_right (by omega)] at a
    rw [List.getElem?_append_right (by rw [← h.1]; omega), ← h.1] at b
    exact k.2 _ u o a b
theorem At.one {H : Hp} {u : Addr} {o : HO} (e : H u = some o) : At H [u] [o] := ⟨rfl, fun i u' o' a b => by
  match i, a, b with
  | 0, a, b =>
    cases a
    cases b
    exact e⟩
theorem At.get {H : Hp} {us : List Addr} {os : List HO} {i : Nat} {x : V} (h : At H us os) (e : (us.map V.ref)[i]? = some x) : ∃ (u : Addr) (o : HO), x = .ref u ∧ us[i]? = some u ∧ os[i]? = some o ∧ H u = some o := by
  rw [List.getElem?_map] at e
  cases ht : us[i]? with
  | none => rw [ht] at e; cases e
  | some t =>
    rw [ht] at e
    cases e
    have hi : i < os.length := by rw [← h.1]; exact (List.getElem?_eq_some_iff.mp ht).1
    exact ⟨t, os[i], rfl, rfl, List.getElem?_eq_getElem hi, h.2 i t _ ht (List.getElem?_eq_getElem hi)⟩
/-- a list elsewhere is written anew -/
theorem At.wrote {H : Hp} {us : List Addr} {os : List HO} {D : Addr} {xs : List V} {o : HO} (h : At H us os) (t : ∀ p ∈ os, ∃ ys, p = HO.tup ys) (e : H D = some (.lst xs)) : At (upd H D o) us os := ⟨h.1, fun i u p a b => by
  have := h.2 i u p a b
  rw [upd_ne fun z => ?_]
  · exact this
  · subst z
    obtain ⟨ys, rfl⟩ := t p (List.mem_of_getElem? b)
    rw [e] at this
    cases this⟩
end
end TK

namespace TK
open PySem PySem.Spec PyProof.Rows L2
/-! ### zip(tuple, list) -/
def ItzM (K : PySem.W.Frag) (a b : Addr) : It :=
  ⟨fun i H => ∃ xs ys : List V, SqT K H a xs ∧ SqL K H b ys ∧ i < xs.length ∧ i < ys.length,
    fun i H v H' => ∃ T x y, v = .ref T ∧ H T = none ∧ H' = upd H T (.tup [x, y]) ∧ (∀ xs, SqT K H a xs → xs[i]? = some x) ∧ ∀ ys, SqL K H b ys → ys[i]? = some y,
    fun i H => ∃ xs ys : List V, SqT K H a xs ∧ SqL K H b ys ∧ i ≤ xs.length ∧ i ≤ ys.length ∧ (i = xs.length ∨ i = ys.length)⟩
theorem ne_nat {x y : Nat} (h : x < y ∨ y < x) : x ≠ y := by omega
theorem no_two {x p q : Nat} (h1 : x < p ∨ p < x) (h2 : x < q ∨ q < x) : x ∉ [p, q] := by
  intro h
  rcases List.mem_cons.mp h with z | z
  · exact ne_nat h1 z
  · exact ne_nat h2 (List.mem_singleton.mp z)
theorem sep_zip (I a b : Nat) (la : a < I) (lb : b < I) : ZipSep2 (I + 4) (I + 2) (I + 3) I (I + 1) [I, a] [I + 1, b] :=
  ⟨ne_nat (x := I + 2) (y := I + 4) (by omega), ne_nat (x := I + 3) (y := I + 4) (by omega), ne_nat (x := I + 2) (y := I + 3) (by omega), ne_nat (x := I + 2) (y := I) (by omega), List.mem_cons_self .., no_two (x := I + 4) (by omega) (by omega), no_two (x := I + 3) (by omega) (by omega),
    ne_nat (x := I + 2) (y := I + 1) (by omega), List.mem_cons_self .., no_two (x := I + 4) (by omega) (by omega), no_two (x := I + 3) (by omega) (by omega), no_two (x := I) (by omega) (by omega), no_two (x := I + 1) (by omega) (by omega)⟩
theorem turn_zipM {P : Program} {w : World} {K : PySem.W.Frag} {elts : List Expr} {kk : Nat} {tpos : Pos} {a b z TI TO i1 i2 : Addr} (S : ZipSep2 z TI TO i1 i2 [i1, a] [i2, b]) (na : a ≠ i1) (nb : b ≠ i2) :
    Turn P w K (.Tuple elts kk tpos) (ItzM K a b) [z, TI, TO, i1, i2] z (fun i h => IsZip h z TI TO .none ∧ IsTupOf2 h TI (.ref i1) (.ref i2) ∧ (∃ x y, IsTupOf2 h TO x y) ∧ h.IsTupleIter i1 a i ∧ h.IsListIter i2 b i) where
  mem := by simp
  obj := fun i h st c hc => by
    obtain ⟨hz, hTI, ⟨x, y, hTO⟩, ⟨o1, e1, _, d1⟩, ⟨o2, e2, _, d2⟩⟩ := st
    have e' : c = z ∨ c = TI ∨ c = TO ∨ c = i1 ∨ c = i2 := by simpa using hc
    rcases e' with rfl | rfl | rfl | rfl | rfl
    · exact ⟨_, hz, fun v q => nomatch q⟩
    · exact ⟨_, hTI, fun v q => nomatch q⟩
    · exact ⟨_, hTO, fun v q => nomatch q⟩
    · exact ⟨o1, e1, fun v q => by rw [d1] at q; cases q⟩
    · exact ⟨o2, e2, fun v q => by rw [d2] at q; cases q⟩
  keep := fun i h h' st k => by
    obtain ⟨hz, hTI, ⟨x, y, hTO⟩, h1, h2⟩ := st
    exact ⟨k z (by simp) _ hz, k TI (by simp) _ hTI, ⟨x, y, k TO (by simp) _ hTO⟩, h1.at fun o q => k i1 (by simp) o q, h2.at fun o q => k i2 (by simp) o q⟩
  item := by
    intro X hP hw hK hc i pins s σ H E I hf st hg
    subst hP hw hK
    obtain ⟨hz, hTI, ⟨x0, y0, hTO⟩, h1, h2⟩ := st
    obtain ⟨xs, ys, hqx, hqy, lx, ly⟩ := hg
    obtain ⟨its, rv, p, _⟩ := I.tuple hqx
    obtain ⟨its2, rv2, p2, _⟩ := I.list hqy
    have hzl : z < s.heap.objs.size := Heap.lt_size hz
    have n1 : its.toArray.size = xs.length := by rw [List.size_toArray, ← rv.length]
    have n2 : its2.toArray.size = ys.length := by rw [List.size_toArray, ← rv2.length]
    have D1 := Draws.tuple (prog := X.prog) (w := X.w) (A := X.A.in1) (I.ok.hd hc) i1 a na its.toArray
    have D2 := Draws.list (prog := X.prog) (w := X.w) (A := X.A.in1) (I.ok.hd hc) i2 b nb its2.toArray
    refine wpAny_pyNext_zipD2_item S D1 D2 hz hTI hTO ⟨h1, p⟩ ⟨h2, p2.isList⟩ (by rw [n1]; exact lx) (by rw [n2]; exact ly) fun u u2 h' tk hu hu2 z' TO' d1 d2 hT hsz hk => ?_
    refine ⟨_, rfl, wpAny_letOwnedTupleGo_zip (s := { s with heap := h', toks := tk }) z' fun h'' z'' sb => ?_⟩
    obtain ⟨x, hx, ru⟩ : ∃ x, xs[i]? = some x ∧ RelV x u := by
      obtain ⟨v, hv, r⟩ := rv.get (List.getElem?_eq_getElem lx)
      have : its[i]? = some u := by simpa using hu
      rw [this] at hv
      cases hv
      exact ⟨_, List.getElem?_eq_getElem lx, r⟩
    obtain ⟨y, hy, ru2⟩ : ∃ y, ys[i]? = some y ∧ RelV y u2 := by
      obtain ⟨v, hv, r⟩ := rv2.get (List.getElem?_eq_getElem ly)
      have : its2[i]? = some u2 := by simpa using hu2
      rw [this] at hv
      cases hv
      exact ⟨_, List.getElem?_eq_getElem ly, r⟩
    have hT2 : h''.get? s.heap.objs.size = some { cls := .type "tuple", data := .seq #[u, u2] } := (sb.2 _ (Nat.ne_of_gt hzl)).trans hT
    have new : ObjOk X.prog X.w (upd H s.heap.objs.size (.tup [x, y])) h'' s.heap.objs.size (.tup [x, y]) :=
      ⟨by show 2 ≤ sizeLine; decide, [u, u2], .cons ru (.cons ru2 .nil), ⟨_, hT2, rfl, _, rfl⟩⟩
    have I1 : Inv X pins σ (upd H s.heap.objs.size (.tup [x, y])) { s with heap := h'', toks := tk } :=
      I.turnedNew (ch := [z, TI, TO, i1, i2]) (fun c o hb q => (sb.2 c (fun q' => hb (by simp [q']))).trans (hk c o (fun q' => hb (by simp [q'])) (fun q' => hb (by simp [q'])) (fun q' => hb (by simp [q'])) (fun q' => hb (by simp [q'])) q)) hf (Nat.le_refl _) new
    refine ⟨.ref s.heap.objs.size, _, I1, rfl, ⟨_, x, y, rfl, I.hok.fresh (Nat.le_refl _), rfl, fun l hl => by rw [I.tuple_inj hl hqx]; exact hx, fun l hl => by rw [I.list_inj hl hqy]; exact hy⟩, ⟨z'', ?_, ⟨u, u2, ?_⟩, ?_, ?_⟩, fun c hcm => ?_⟩
    · exact (sb.2 _ S.TIz).trans (hk _ _ S.TIz S.TITO S.TIi1 S.TIi2 hTI)
    · exact (sb.2 _ S.TOz).trans TO'
    · exact d1.1.at fun o q => (sb.2 _ (Ne.symm S.zi1)).trans q
    · exact d2.1.at fun o q => (sb.2 _ (Ne.symm S.zi2)).trans q
    · have hlt : c < s.heap.objs.size := by
        have e' : c = z ∨ c = TI ∨ c = TO ∨ c = i1 ∨ c = i2 := by simpa using hcm
        rcases e' with rfl | rfl | rfl | rfl | rfl
        · exact hzl
        · exact Heap.lt_size hTI
        · exact Heap.lt_size hTO
        · obtain ⟨_, e1, _⟩ := h1; exact Heap.lt_size e1
        · obtain ⟨_, e2, _⟩ := h2; exact Heap.lt_size e2
      rw [upd_ne (Nat.ne_of_lt hlt)]
      exact (hf c hcm).1
  done := by
    intro X hP hw hK hc i pins s σ H E I hf st hg
    subst hP hw hK
    obtain ⟨hz, hTI, ⟨x0, y0, hTO⟩, h1, h2⟩ := st
    obtain ⟨xs, ys, hqx, hqy, le1, le2, hend⟩ := hg
    obtain ⟨its, rv, p, _⟩ := I.tuple hqx
    obtain ⟨its2, rv2, p2, _⟩ := I.list hqy
    have n1 : its.toArray.size = xs.length := by rw [List.size_toArray, ← rv.length]
    have n2 : its2.toArray.size = ys.length := by rw [List.size_toArray, ← rv2.length]
    have D1 := Draws.tuple (prog := X.prog) (w := X.w) (A := X.A.in1) (I.ok.hd hc) i1 a na its.toArray
    have D2 := Draws.list (prog := X.prog) (w := X.w) (A := X.A.in1) (I.ok.hd hc) i2 b nb its2.toArray
    exact wpAny_pyNext_zipD2_end S D1 D2 hz hTI hTO ⟨h1, p⟩ ⟨h2, p2.isList⟩ (by rw [n1]; exact le1) (by rw [n2]; exact le2) (by rw [n1, n2]; exact hend) fun h' tk hk => ⟨rfl, I.turnedL (ch := [z, TI, TO, i1, i2]) (fun c o hb q =>
      hk c o (fun q' => hb (by simp [q'])) (fun q' => hb (by simp [q'])) (fun q' => hb (by simp [q'])) (fun q' => hb (by simp [q'])) q) hf⟩
  self := fun A i s Q E st h => wpAny_pyIter_zip st.1 h
def iZipM (K : PySem.W.Frag) (ta : TA) : TI := fun σ H R => ta σ H fun vs H1 => ∃ a b xs ys, vs = [.ref a, .ref b] ∧ SqT K H1 a xs ∧ SqL K H1 b ys ∧ R (ItzM K a b) H1
theorem pi_zipM {X : Cx} {e e2 : Expr} {ta : TA} {p pos tpos : Pos} {elts : List Expr} {kk : Nat} (hg : Gl X "zip") (hm : X.mg "zip" = none) (ha : PA X [e, e2] ta)
    (hs : starEach [e, e2] X.env = (false, eval e X.env) :: starEach [e2] X.env := by rfl) (hpl : (backTo pos (starEach [e2] X.env)).any (·.1) = false := by rfl) :
    PI X (.Tuple elts kk tpos) (.Call (.Name "zip" p) [e, e2] [] pos) (iZipM X.K ta) := by
  refine ⟨fun pins s σ H R I h => Call_ (ld_blt I hg hm PyProof.Rows.boot_zip (PyProof.Rows.callWith_type1 (thn (ha.run pos pins s σ H _ I h) fun us s1 ⟨vs, H1, I1, r1, q1⟩ => ?_) hs hpl))⟩
  obtain ⟨a, b, xs, ys, rfl, hqx, hqy, q⟩ := q1
  obtain ⟨u1, u2, rfl, r, r'⟩ := r1.two
  cases r
  cases r'
  obtain ⟨its, rv, p1, _⟩ := I1.tuple hqx
  obtain ⟨its2, rv2, p2, _⟩ := I1.list hqy
  have la : a < s1.heap.objs.size := by obtain ⟨_, q, _⟩ := p1; exact Heap.lt_size q
  have lb : b < s1.heap.objs.size := p2.lt
  refine zip_begins2 (begins_tuple a its.toArray) (begins_list b its2.toArray) p1 p2.isList fun h' hz hTI hTO h1 h2 hsz hk => wpAny_pyIter_zip hz ?_
  have I2 : Inv X pins σ H1 { s1 with heap := h' } := I1.kept (t' := s1.toks) hk
  refine ⟨s1.heap.objs.size + 4, [s1.heap.objs.size + 4, s1.heap.objs.size + 2, s1.heap.objs.size + 3, s1.heap.objs.size, s1.heap.objs.size + 1], _, _, H1, rfl, I2, turn_zipM (sep_zip _ _ _ la lb) (Nat.ne_of_lt la) (Nat.ne_of_lt (Nat.lt_succ_of_lt lb)), ⟨hz, hTI, ⟨_, _, hTO⟩, ⟨_, h1, rfl, rfl⟩, ⟨_, h2, rfl, rfl⟩⟩, fun c hcm => ?_, q⟩
  have hle : s1.heap.objs.size ≤ c := by
    have e' : c = s1.heap.objs.size + 4 ∨ c = s1.heap.objs.size + 2 ∨ c = s1.heap.objs.size + 3 ∨ c = s1.heap.objs.size ∨ c = s1.heap.objs.size + 1 := by simpa using hcm
    rcases e' with rfl | rfl | rfl | rfl | rfl
    · exact Nat.le_add_right _ _
    · exact Nat.le_add_right _ _
    · exact Nat.le_add_right _ _
    · exact Nat.le_refl _
    · exact Nat.le_add_right _ _
  exact I1.fpOk hle (I1.hok.fresh hle)
theorem walk_zipM {K : PySem.W.Frag} {a b : Addr} {xs ys : List V} (hl : xs.length = ys.length) : Walk (ItzM K a b) xs.length (fun H => SqT K H a xs ∧ SqL K H b ys) (YPair (fun i => xs[i]?) (fun i => ys[i]?)) where
  goes := fun i H hi q => ⟨xs, ys, q.1, q.2, hi, by omega⟩
  stops := fun H q => ⟨xs, ys, q.1, q.2, Nat.le_refl _, by omega, .inl rfl⟩
  yields := fun i H v H' _ q y => by
    obtain ⟨T, x, z, h1, h2, h3, h4, h5⟩ := y
    exact ⟨T, x, z, h1, h2, h3, h4 xs q.1, h5 ys q.2⟩
end TK

namespace TK
open PySem PySem.Spec PyProof.Rows L2
/-- a dict comprehension over whatever walks -/
theorem dc_it {J : It} {n : Nat} {G : Hp → Prop} {Y : Nat → Hp → V → Hp → Prop} (w : Walk J n G Y) {g : TG} {tt : TT} {tk tv : TE} {vs : List Nat} {σ : L2.St} {H1 : Hp} {D : Addr} {Qd : Hp → Prop} (Pv : Nat → Hp → Prop) (h0 : Pv 0 (upd H1 D (.dK []))) (hG : ∀ i H, i ≤ n → Pv i H → G H)
    (hs : ∀ i x H H', i < n → Pv i H → Y i H x H' → g x (wipe σ vs) H' fun σ2 H2 => wipe σ2 vs = wipe σ vs ∧ tt σ2 H2 fun b H3 =>
      if b = true then tk σ2 H3 fun y H4 => tv σ2 H4 fun z H5 => ∃ kvs k, y = kV k ∧ H5 D = some (.dK kvs) ∧ kvs.length < sizeLine ∧ Pv (i + 1) (upd H5 D (.dK (putK kvs k z))) else Pv (i + 1) H3) (hd : ∀ H, Pv n H → Qd H) :
    ∃ W : Nat → Nat → Hp → Prop, (∃ m, W 0 m (upd H1 D (.dK []))) ∧ ∀ i m H, W i m H →
      (J.stop i H ∧ Qd H) ∨ (J.go i H ∧ ∃ Nx : Hp → Prop, (∀ H', Nx H' → ∃ m', m' < m ∧ W (i + 1) m' H') ∧ ∀ x H', J.yld i H x H' → g x (wipe σ vs) H' fun σ2 H2 => wipe σ2 vs = wipe σ vs ∧ tt σ2 H2 fun b H3 =>
        if b = true then tk σ2 H3 fun y H4 => tv σ2 H4 fun z H5 => ∃ kvs k, y = kV k ∧ H5 D = some (.dK kvs) ∧ kvs.length < sizeLine ∧ Nx (upd H5 D (.dK (putK kvs k z))) else Nx H3) := by
  refine ⟨fun i m H => m = n - i ∧ i ≤ n ∧ Pv i H, ⟨n, by simp, Nat.zero_le _, h0⟩, ?_⟩
  rintro i m H ⟨rfl, hi, p⟩
  have q := hG i H hi p
  by_cases hlt : i < n
  · exact .inr ⟨w.goes i H hlt q, Pv (i + 1), fun H' p' => ⟨n - (i + 1), by omega, rfl, hlt, p'⟩, fun x H' y => hs i x H H' hlt p (w.yields i H x H' hlt q y)⟩
  · have e : i = n := by omega
    subst e
    exact .inl ⟨w.stops H q, hd H p⟩
end TK

namespace TK
open PySem PySem.Spec PyProof.Rows L2
section
variable {X : Cx}
/-- tuple(a list), the new tuple known to the object -/
theorem call_tuple_frz : CallR X (.type "tuple") (fun xs H Q => ∃ p ys, xs = [.ref p] ∧ SqL X.K H p ys ∧ ∀ (l : Addr) (o : Obj), H l = none → o.cls = .type "tuple" → o.dict = none → Q (.ref l) (upd H l (.frz o (.tup ys)))) := by
  intro pins s σ H xs us Q I r h
  obtain ⟨p, ys, rfl, hq, q⟩ := h
  obtain ⟨u, rfl, rx⟩ := vals1 r
  cases rx
  obtain ⟨its, r', pl, hz⟩ := I.list hq
  have hlen := r'.length
  refine call_tuple_list pl.isList (fun h' kp => ?_) (by simp only [List.size_toArray] <;> omega)
  have I1 : Inv X pins σ H { s with heap := h' } := I.kept (t' := s.toks) kp
  have I2 : Inv X pins σ (upd H h'.objs.size (.frz { cls := .type "tuple", data := .seq its.toArray } (.tup ys))) { s with heap := h'.push { cls := .type "tuple", data := .seq its.toArray } } :=
    I1.laid (t' := s.toks) (fun b o e => Heap.get?_push_of_some _ e) (Nat.le_refl _) (show ObjOk X.prog X.w _ _ _ (.frz _ (.tup ys)) from ⟨Heap.get?_push_size _ rfl, hz, its, r', IsTup.new _ _⟩)
  exact ⟨.ref h'.objs.size, _, I2, rfl, q _ _ (I1.hok.fresh (Nat.le_refl _)) rfl rfl⟩
/-- the value is such a tuple -/
def FrzT (x : V) (H : Hp) : Prop := ∃ p o xs, x = .ref p ∧ H p = some (.frz o (.tup xs)) ∧ o.cls = .type "tuple" ∧ o.dict = none
def tBMF (r : V → List V → Hp → VK → Prop) (to : TE) (t : TA) : TE := fun σ H Q => to σ H fun x H1 => FrzT x H1 ∧ t σ H1 fun xs H2 => r x xs H2 Q
variable {o e : Expr} {es : List Expr} {to : TE} {t : TA} {name : Str} {apos cpos : Pos} {id : String} {r : V → List V → Hp → VK → Prop}
theorem pe_bmF (pa : PlainAttrs "tuple") (slot : Slot "tuple" name id) (hty : typeOf (.builtin id) = pure (.type "method_descriptor")) (hm : MtR X id r) (ho : PE X o to) (ha : PA X (e :: es) t)
    (hbase : attributeBase o name X.env (eval o X.env) = eval o X.env := by rfl)
    (hfew : ((backTo cpos (starEach (e :: es) X.env)).all (fun x => !x.1) && (backToKw cpos (keywordEach [] X.env)).all (fun x => x.1.isSome)
      && decide ((e :: es).length + ([] : List Keyword).length + (if ([] : List Keyword).isEmpty then 0 else 1) < 30)) = true := by rfl)
    (hline : (apos.endLine == cpos.line) = true := by rfl) (hs : starEach (e :: es) X.env = (false, eval e X.env) :: starEach es X.env := by rfl) (hplain : (backTo cpos (starEach es X.env)).any (·.1) = false := by rfl) :
    PE X (.Call (.Attribute o name apos) (e :: es) [] cpos) (tBMF r to t) := by
  refine ⟨fun pins s σ H Q I h => ?_⟩
  refine wpAny_Call_method_late hbase hfew hline rfl (thn (ho.run pins s σ H _ I h) fun v s1 ⟨x, H1, I1, r1, ty, q1⟩ => ?_)
  have h12 : s1.TypeIs v "tuple" ∧ ∀ a, v = .ref a → ∃ ob, s1.heap.get? a = some ob ∧ ob.dict = none := by
    obtain ⟨p, ob, xs, rfl, hp, hc, hd⟩ := ty
    cases r1
    obtain ⟨eo, _⟩ := I1.hok p _ hp
    refine ⟨⟨ob, eo, hc⟩, fun a e => ?_⟩
    cases e
    exact ⟨ob, eo, hd⟩
  refine ⟨"tuple", id, pa, slot, hty, h12.1, h12.2, ?_⟩
  have hA := ha.run cpos pins s1 σ H1 _ I1 q1
  rw [hs] at hA ⊢
  refine Calls.callWith_builtin (by show (false || (backTo cpos (starEach es X.env)).any (·.1)) = false; rw [hplain] <;> rfl) (Calls.evalArgs_plain ?_)
  exact thn hA fun us s2 ⟨vs, H2, I2, r2, q2⟩ => hm pins s2 σ H2 x vs v us Q I2 r1 r2 q2
end
theorem tupFrz {K : PySem.W.Frag} {H : Hp} {a : Addr} {o : Obj} {xs : List V} (h : H a = some (.frz o (.tup xs))) : SqT K H a xs := .inl (.inr ⟨o, h⟩)
end TK

namespace TK
open PySem PySem.Spec PyProof.Rows L2
/-! ### the special methods of an own class -/
structure Own (K : PySem.W.Frag) (C : Addr) (name : Str) (g : Addr) : Prop where
  at_ : PySem.W.findIn K (.ref C) name = some (some (.ref g))
  fn : PySem.W.isFn K (.ref g) = true
def IsIn (H : Hp) (x : V) (C : Addr) : Prop := ∃ a dx fs, x = .ref a ∧ H a = some (.ins C dx fs)
section
variable {X : Cx} {CX : CXT} {C g : Addr} {n : Nat} {fd : FuncData} {ps : List Str} {sp : Sp} {E : XK} {pins : List (Addr × Obj)} {σ : L2.St} {H : Hp} {s : Shared}
theorem run_own {A : Around} {Q : VK} {us : List Value} {vs : List V} (F : FnOk X.prog X.w X.K X.mg X.base CX n g fd ps sp) (hr : Room n A) (e0 : Env0 X.prog X.w X.K X.mg X.base A X.stack s H) (hb : Binds X.K fd ps []) (hx : Passes CX X E)
    (I : Inv X pins σ H s) (r : Vals vs us) (h : sp vs H Q E) : wpAny (model X.prog X.w) A (call (.ref g) us) (EP X pins σ Q) X.xe s := by
  have hl : (us ++ []).length = ps.length := by rw [List.append_nil, ← r.length]; exact F.len _ _ _ _ h
  have hbb := hb s us I.kIn hl
  rw [List.append_nil] at hbb
  refine wpAny_call (codeAny_mono (F.run A X.stack s H ⟨us, []⟩ us vs Q E hr e0 hbb r h) fun r s' hq => ?_)
  cases r with
  | error e => exact hx pins σ H s e s' I hq
  | ok fl =>
    cases fl with
    | ret u => exact I.after hq
    | next => exact False.elim hq
    | brk => exact False.elim hq
    | cont => exact False.elim hq
theorem own_at {a dx : Addr} {fs : List (Str × V)} (I : Inv X pins σ H s) (h : H a = some (.ins C dx fs)) : ∃ ox od, PySem.W.InstAt s.heap a ox C od := by
  obtain ⟨mA, J, _⟩ := ins_get I.hok h
  obtain ⟨od, J, _⟩ := J.look
  exact ⟨_, _, J⟩
/-! o[k] -/
def rOwn (C : Addr) (sp : Sp) (E : XK) : R2 := fun x y H Q => IsIn H x C ∧ sp [x, y] H Q E
def PlainIxO (b : Expr) : Prop := ∀ (x : Addr) (i : Value), subscripted b true (.ref x) i = runValue (.builtin "lifetime.subscript" ⟨[.ref x, i], []⟩)
theorem pe_ixOwn {a b : Expr} {ta tb : TE} {pos : Pos} (c : Own X.K C "__getitem__" g) (cf : PySem.W.fnIn X.K g = true) (F : FnOk X.prog X.w X.K X.mg X.base CX n g fd ps sp) (hr : Room (n + 1) X.A) (hb : Binds X.K fd ps []) (hx : Passes CX X E)
    (ha : PE X a ta) (hb' : PE X b tb) (hs : PlainIxO b) : PE X (.Subscript a b pos) (tOp (rOwn C sp E) ta tb) := by
  refine ⟨fun pins s σ H Q I h => ?_⟩
  refine Subscript_ (binT ha hb' I h fun v u s2 x y H2 I2 rx ry q => ?_)
  obtain ⟨⟨p, dx, fs, rfl, hp⟩, q⟩ := q
  cases rx
  obtain ⟨ox, od, J⟩ := own_at I2 hp
  obtain ⟨m, hF⟩ := I2.fr
  exact PySem.W.sub_K hF I2.ok.mod.kin J c.at_ cf c.fn (run_own F hr.in1 I2.env0.in1 hb hx I2 (vs := [.ref p, y]) (.cons rfl (.cons ry .nil)) q) (hs _ _)
/-! o + p, o * p, o | p: two of one class -/
def rOwn2 (C : Addr) (sp : Sp) (E : XK) : R2 := fun x y H Q => IsIn H x C ∧ IsIn H y C ∧ sp [x, y] H Q E
theorem op_ownBin {op : Operator} (c : Own X.K C (PySem.dunder op.info.2) g) (sf : PySem.W.selfFirst X.K C = true) (F : FnOk X.prog X.w X.K X.mg X.base CX n g fd ps sp) (hr : Room n X.A) (hb : Binds X.K fd ps []) (hx : Passes CX X E) :
    OpR X (binaryOp op) (rOwn2 C sp E) := by
  intro pins s σ H x y v u Q I rx ry h
  obtain ⟨⟨a, dx, fs, rfl, ha⟩, ⟨b, dy, gs, rfl, hb'⟩, q⟩ := h
  cases rx
  cases ry
  obtain ⟨ox, od, J⟩ := own_at I ha
  obtain ⟨ox', od', J'⟩ := own_at I hb'
  obtain ⟨m, hF⟩ := I.fr
  refine PySem.W.binop_K hF I.ok.mod.kin J J'.type sf c.at_ c.fn (wpAny_mono (run_own F hr I.env0 hb hx I (vs := [.ref a, .ref b]) (.cons rfl (.cons rfl .nil)) q) (fun w s' z => ?_) fun _ _ x => x)
  obtain ⟨z', H', I', rz, qz⟩ := z
  exact SlX.cmpback rz ⟨z', H', I', rz, qz⟩
/-! o == p: two of one class -/
theorem op_ownEq {op : CmpOp} (hop : ∀ a b, compareOp op a b = richCompare op a b) (c : Own X.K C (cmpInfo op).2.1 g) (F : FnOk X.prog X.w X.K X.mg X.base CX n g fd ps sp) (hr : Room n X.A) (hb : Binds X.K fd ps []) (hx : Passes CX X E) :
    OpR X (compareOp op) (rOwn2 C sp E) := by
  intro pins s σ H x y v u Q I rx ry h
  obtain ⟨⟨a, dx, fs, rfl, ha⟩, ⟨b, dy, gs, rfl, hb'⟩, q⟩ := h
  cases rx
  cases ry
  obtain ⟨ox, od, J⟩ := own_at I ha
  obtain ⟨ox', od', J'⟩ := own_at I hb'
  obtain ⟨m, hF⟩ := I.fr
  rw [hop]
  refine PySem.W.cmp_K (op := op) (tb := .ref C) hr.units0 hF I.ok.mod.kin J J'.type (by simp [PySem.W.notFirst]) c.at_ c.fn (wpAny_mono (run_own F hr I.env0 hb hx I (vs := [.ref a, .ref b]) (.cons rfl (.cons rfl .nil)) q) (fun w s' z => ?_) fun _ _ x => x)
  obtain ⟨z', H', I', rz, qz⟩ := z
  exact SlX.cmpback rz ⟨z', H', I', rz, qz⟩
/-! x in o, x not in o -/
def rOwnIn (neg : Bool) (C : Addr) (sp : Sp) (E : XK) : R2 := fun x y H Q => IsIn H y C ∧ sp [y, x] H (fun z H' => ∃ b, z = .bl b ∧ Q (.bl (if neg then !b else b)) H') E
theorem op_ownIn (c : Own X.K C "__contains__" g) (F : FnOk X.prog X.w X.K X.mg X.base CX n g fd ps sp) (hr : Room n X.A) (hb : Binds X.K fd ps []) (hx : Passes CX X E) : OpR X (compareOp .In) (rOwnIn false C sp E) := by
  intro pins s σ H x y v u Q I rx ry h
  obtain ⟨⟨a, dx, fs, rfl, ha⟩, q⟩ := h
  cases ry
  obtain ⟨ox, od, J⟩ := own_at I ha
  obtain ⟨m, hF⟩ := I.fr
  refine PySem.W.in_K hF I.ok.mod.kin J c.at_ c.fn (wpAny_mono (run_own F hr I.env0 hb hx I (vs := [.ref a, x]) (.cons rfl (.cons rx .nil)) q) (fun w s' z => ?_) fun _ _ x => x)
  obtain ⟨z', H', I', rz, b, rfl, qz⟩ := z
  cases (show w = Value.bool b from rz)
  exact wpAny_truthy_bool ⟨.bl b, H', I', rfl, by simpa using qz⟩
theorem op_ownNotIn (c : Own X.K C "__contains__" g) (F : FnOk X.prog X.w X.K X.mg X.base CX n g fd ps sp) (hr : Room n X.A) (hb : Binds X.K fd ps []) (hx : Passes CX X E) : OpR X (compareOp .NotIn) (rOwnIn true C sp E) := by
  intro pins s σ H x y v u Q I rx ry h
  obtain ⟨⟨a, dx, fs, rfl, ha⟩, q⟩ := h
  cases ry
  obtain ⟨ox, od, J⟩ := own_at I ha
  obtain ⟨m, hF⟩ := I.fr
  refine PySem.W.notIn_K hF I.ok.mod.kin J c.at_ c.fn (wpAny_mono (run_own F hr I.env0 hb hx I (vs := [.ref a, x]) (.cons rfl (.cons rx .nil)) q) (fun w s' z => ?_) fun _ _ x => x)
  obtain ⟨z', H', I', rz, b, rfl, qz⟩ := z
  cases (show w = Value.bool b from rz)
  exact wpAny_truthy_bool ⟨.bl (!b), H', I', rfl, by simpa using qz⟩
/-! len(o) -/
def rOwnLen (C : Addr) (sp : Sp) (E : XK) : List V → Hp → VK → Prop := fun xs H Q => ∃ x, xs = [x] ∧ IsIn H x C ∧ sp [x] H (fun z H' => ∃ k : Nat, z = .int k ∧ k < 2 ^ 63 ∧ Q z H') E
theorem call_ownLen (c : Own X.K C "__len__" g) (F : FnOk X.prog X.w X.K X.mg X.base CX n g fd ps sp) (hr : Room (n + 1) X.A) (hb : Binds X.K fd ps []) (hx : Passes CX X E) : CallR X (.builtin "len") (rOwnLen C sp E) := by
  intro pins s σ H xs us Q I r h
  obtain ⟨x, rfl, ⟨a, dx, fs, rfl, ha⟩, q⟩ := h
  obtain ⟨u, rfl, ru⟩ := vals1 r
  cases ru
  obtain ⟨ox, od, J⟩ := own_at I ha
  obtain ⟨m, hF⟩ := I.fr
  refine PySem.W.len_K hF I.ok.mod.kin J c.at_ c.fn (wpAny_mono (run_own F hr.in1 I.env0.in1 hb hx I (vs := [.ref a]) (.cons rfl .nil) q) (fun w s' z => ?_) fun _ _ x => x)
  obtain ⟨z', H', I', rz, k, rfl, hk, qz⟩ := z
  obtain ⟨t, rfl⟩ := (show ∃ t, w = Value.int k t from rz)
  exact ⟨⟨by omega, by omega⟩, .int k, H', I'.tok _, ⟨_, rfl⟩, qz⟩
/-! iter(t), t a tuple; for x in o -/
abbrev itTObj (t : Addr) (i : Nat) : Obj := { cls := .type "tuple_iterator", data := .fields #[.ref t, .int i 0] }
def ItT (t it : Addr) : HO := .ext fun h => h.get? it = some (itTObj t 0)
theorem itT_ok {P : Program} {w : World} {H : Hp} {h : Heap} {t it : Addr} (e : h.get? it = some (itTObj t 0)) : ObjOk P w H h it (ItT t it) := ⟨e, ⟨_, e⟩, fun h1 h2 q k => k _ q⟩
theorem call_iterT : CallR X (.builtin "iter") (fun xs H Q => ∃ (l : Addr) (zs : List V), xs = [.ref l] ∧ SqT X.K H l zs ∧ ∀ it, H it = Option.none → X.s_0.heap.objs.size ≤ it → Q (.ref it) (upd H it (ItT l it))) := by
  intro pins s σ H xs us Q I r h
  obtain ⟨l, zs, rfl, hq, q⟩ := h
  obtain ⟨u, rfl, ru⟩ := vals1 r
  cases ru
  obtain ⟨its, rv, p, hz⟩ := I.tuple hq
  refine Calls.call_function_entry (by decide +kernel) (by decide +kernel) PySem.W.kdk_entry_iter (PySem.W.kdk_args_iter _) ?_
  unfold Builtin.«iter»
  refine wpAny_bind (m := someArgs "iter" 1 2 _) (wpAny_of_eq (a := [Value.ref l]) (by first | rfl | kernel_rfl!) ?_)
  show wpAny _ _ (pyIter (.ref l) >>= _) _ _ _
  refine wpAny_bind (wpAny_pyIter_tuple (show s.heap.IsTuple l its.toArray from p) ?_)
  exact wpAny_pure ⟨_, rfl, .ref s.heap.objs.size, _, I.laid (t' := s.toks) (fun b u e => Heap.get?_push_of_some _ e) (Nat.le_refl _) (itT_ok (Heap.get?_push_size _ rfl)), rfl, q _ (I.hok.fresh (Nat.le_refl _)) I.sz⟩
/-- what an __iter__ over a tuple does -/
def QIt (H : Hp) (n : Nat) (t : Addr) : VK := fun v H' => ∃ it, v = .ref it ∧ H it = Option.none ∧ n ≤ it ∧ H' = upd H it (ItT t it)
end
def FnIt (P : Program) (w : World) (K : PySem.W.Frag) (mg : Str → Option Value) (base : Heap) (k : Nat) (f : Addr) (R : Addr → Addr → Hp → Prop) : Prop :=
  ∀ (A : Around) (outer : List Env) (s : Shared) (H : Hp) (a t : Addr), Room k A → Env0 P w K mg base A outer s H → R a t H → codeAny (model P w) A (.call (.ref f) ⟨[.ref a], []⟩) (CR CX0 outer P w H s (QIt H s.heap.objs.size t) E0) s
theorem fnIt_of {P : Program} {w : World} {K : PySem.W.Frag} {mg : Str → Option Value} {base : Heap} {k : Nat} {f : Addr} {x qual : Str} {st : Stmt} {fd : FuncData} {N : List Str} {R : Addr → Addr → Hp → Prop} (F : Fun K x qual st f fd) (S : FnScope N ["self"] (defScope st)) (b : Binds K fd ["self"] [])
    (hbody : ∀ (cdv : Value) (A : Around) (outer : List Env) (s : Shared) (H : Hp) (a t : Addr), Room k (A.deeper (envOfC qual (defScope st) s.heap.objs.size f cdv)) → R a t H →
      ∃ tt, PSs (cxOf CX0 P w K mg base N qual (defScope st) f cdv A outer s H E0).nox (defBody st) tt ∧ tt { nx := fun _ H' => QIt H s.heap.objs.size t .non H', rt := QIt H s.heap.objs.size t } (start N [.ref a]) H) : FnIt P w K mg base (k + 1) f R := by
  intro A outer s H a t hr e0 hR
  obtain ⟨oc, od, kV, doc, pm, an, cdv, ct, osl, rfl, lk, hcd⟩ := F.ex
  have KX : K.In s.heap := e0.mod.kin.keeps fun b o e => (e0.bs b o e).1
  have lim : s.heap.NoLimit := e0.mod.nolimit.keeps fun b o e => (e0.bs b o e).1
  have hkind : ∀ y ∈ ([Str.ofString "self"] : List Str).zip [Value.ref a], (defScope st).names.lookup y.1 = some .local ∨ ((defScope st).names.lookup y.1 = some .cell ∧ ((cellsFrom (s.heap.objs.size + 1) (defScope st).names []).lookup y.1).isSome = true) := fun ⟨n, v⟩ hy => by
    rcases S.par n (List.of_mem_zip hy).1 with q | q
    · exact .inl q
    · exact .inr ⟨q, PySem.W.cellsFrom_some _ _ _ (.inl q)⟩
  have hbb := b s [.ref a] KX (by simp)
  rw [List.append_nil] at hbb
  refine codeAny_call_function hr.depth (KX _ _ lk) rfl S.co S.gen rfl (PySem.W.codeRec_of KX hcd) (hbb _ _ _ _ ?_)
  refine wpAny_newFunctionEnv_cells S.kind hkind fun env he s1 x => ?_
  subst he
  refine ⟨lim.keeps x.toInCall.keep, codeAny_func ?_⟩
  obtain ⟨t', ht, hq⟩ := hbody cdv A outer s H a t (hr.deeper _) hR
  have I : Inv (cxOf CX0 P w K mg base N qual (defScope st) f cdv A outer s H E0) [] (start N [V.ref a]) H s1 := inv_start S hr.hd e0 rfl (.cons rfl .nil) x
  refine wpAny_mono (ht.nox.run [] s1 (start N [V.ref a]) H _ I hq) (fun fl s' hs => ?_) fun e s' hs => hs
  have fin : ∀ {σ' : L2.St} {H' : Hp} {v : V} {u : Value}, Inv (cxOf CX0 P w K mg base N qual (defScope st) f cdv A outer s H E0) [] σ' H' s' → RelV v u → QIt H s.heap.objs.size t v H' → CE outer P w H s (QIt H s.heap.objs.size t) u s' :=
    fun {σ' H' v u} J rv q => ⟨v, H', J.os, J.bare, J.base, J.hok, rv, q⟩
  cases fl with
  | ret u =>
    obtain ⟨v, σ', H', J, rv, q⟩ := hs
    exact fin J rv q
  | next =>
    obtain ⟨σ', H', J, q⟩ := hs
    exact fin (v := V.non) (u := Value.none) J rfl q
  | brk =>
    obtain ⟨_, _, _, q⟩ := hs
    exact False.elim q
  | cont =>
    obtain ⟨_, _, _, q⟩ := hs
    exact False.elim q
section
variable {X : Cx} {CX : CXT} {C g : Addr} {n : Nat} {fd : FuncData} {ps : List Str} {sp : Sp} {E : XK} {pins : List (Addr × Obj)} {σ : L2.St} {H : Hp} {s : Shared}
def iOwn (K : PySem.W.Frag) (C : Addr) (R : Addr → Addr → Hp → Prop) (te : TE) : TI := fun σ H Z => te σ H fun x H1 => ∃ a dx fs t, x = .ref a ∧ H1 a = some (.ins C dx fs) ∧ R a t H1 ∧ (∃ xs, SqT K H1 t xs) ∧ Z (Itt K t) H1
theorem pi_own {R : Addr → Addr → Hp → Prop} {e tg : Expr} {te : TE} (c : Own X.K C "__iter__" g) (F : FnIt X.prog X.w X.K X.mg X.base n g R) (hr : Room n X.A) (he : PE X e te) : PI X tg e (iOwn X.K C R te) := by
  refine ⟨fun pins s σ H Z I h => ?_⟩
  refine thn (he.run pins s σ H _ I h) fun v s1 ⟨x, H1, I1, r1, q1⟩ => ?_
  obtain ⟨a, dx, fs, t, rfl, ha, hR, ⟨xs, hxs⟩, q⟩ := q1
  cases r1
  obtain ⟨ox, od, J⟩ := own_at I1 ha
  obtain ⟨m, hF⟩ := I1.fr
  refine PySem.W.owit_iter hF I1.ok.mod.kin J c.at_ c.fn ?_
  refine wpAny_call (codeAny_mono (F X.A X.stack s1 H1 a t hr I1.env0 hR) fun r s' hq => ?_)
  cases r with
  | error e => exact False.elim hq
  | ok fl =>
    cases fl with
    | ret u =>
      obtain ⟨z, H2, os, bare, un, hok, rz, it, rfl, hn, hge, rfl⟩ := id hq
      have I2 : Inv X pins σ (upd H1 it (ItT t it)) s' := I1.call' os un hok bare (fun b z => absurd z (by simp))
      cases rz
      have hget : s'.heap.get? it = some (itTObj t 0) := (I2.hok it _ upd_same).1
      have hT : s'.TypeIs (.ref it) "tuple_iterator" := ⟨_, hget, rfl⟩
      have hi : (upd H1 it (ItT t it)) it = some (.ext fun h => h.get? it = some (itTObj t 0)) := upd_same
      have I3 := ItX.inv_drop I2 hi
      have e3 : ItX.dropH (upd H1 it (ItT t it)) it = H1 := ItX.dropH_upd hn
      have fp := ItX.inv_fp I2 hi (Nat.le_trans I1.sz hge)
      rw [e3] at I3 fp
      unfold PySem.W.OwitIt
      refine wpAny_specialOf (name := Str.ofString "__next__") hT PySem.F.slot_tuple_iterator_next.lookup ?_
      refine ⟨it, [it], _, _, H1, rfl, I3, turn_tuple t it, ⟨_, hget, rfl, rfl⟩, fun b hb => ?_, q⟩
      cases List.mem_singleton.mp hb
      exact fp
    | next => exact False.elim hq
    | brk => exact False.elim hq
    | cont => exact False.elim hq
end
end TK

namespace TK
open PySem PySem.Calls PySem.Spec PyProof.Rows PyProof.V L2
/-! ### two dicts with tuples as keys, equal whatever the order -/
section
variable {prog : Program} {w : World} {K : Type} [DecidableEq K] {knd : HeapKind prog w K} {A : Around} {E : Value → Shared → Prop} {s : Shared}
theorem samePairsH {nm : String} {a b : Addr} {ka kb : List (K × Addr × Value)} {Q : Bool → Shared → Prop} (hu : knd.room A) (ha : (a == sysModules) = false) (hb : (b == sysModules) = false)
    (da : s.heap.DictOfH knd a ka) (db : s.heap.DictOfH knd b kb) (hl : ka.length = kb.length) (hits : ∀ x ∈ ka, ∃ p, atKey kb x.1 = some p ∧ SeqAt.EqAt A s x.2.2 p.2 true) (h : Q true s) :
    wpAny (model prog w) A (Builtin.Dict.samePairs nm a b) Q E s := by
  obtain ⟨oa, es, ep, hoa, _, hda, hea, hia, _⟩ := da
  obtain ⟨ob, es', ep', hob, _, hdb, heb, hib, hnb⟩ := db
  have hla : ka.length = es.size := (size_of_entries hea).symm
  have hlb : kb.length = es'.size := (size_of_entries heb).symm
  have hsz : es.size = es'.size := by omega
  unfold Builtin.Dict.samePairs Builtin.Dict.showsAll
  rw [if_neg (show ¬ (a == sysModules) = true by rw [ha]; exact Bool.false_ne_true), if_neg (show ¬ (b == sysModules) = true by rw [hb]; exact Bool.false_ne_true)]
  refine wpAny_bind (wpAny_pure (wpAny_bind (wpAny_pure ?_)))
  refine wpAny_bind (wpAny_dictEntries hoa hda ?_)
  dsimp only
  refine wpAny_bind (wpAny_dictEntries hob hdb ?_)
  rw [if_neg (by rw [hsz]; simp)]
  refine wpAny_bind (wpAny_dictEpoch hoa hda ?_)
  refine wpAny_bind ?_
  rw [Std.Legacy.Range.forIn_eq_forIn_range']
  simp only [Std.Legacy.Range.size, Nat.sub_zero, Nat.add_sub_cancel, Nat.div_one]
  refine wpAny_forIn_list _
    (fun rest q s' => s' = s ∧ q = (none, ()) ∧ ∃ i, rest = List.range' i (es.size - i) ∧ i ≤ es.size)
    _ ?_ ?_ _ _ ⟨rfl, rfl, 0, by simp, Nat.zero_le _⟩
  · rintro x rest q s' ⟨rfl, rfl, i, hr, hi⟩
    have hlt : i < es.size := by
      rcases Nat.lt_or_ge i es.size with h | h
      · exact h
      · rw [Nat.sub_eq_zero_of_le h] at hr; simp at hr
    obtain ⟨rfl, hrest⟩ : x = i ∧ rest = List.range' (i + 1) (es.size - (i + 1)) := by
      have e : es.size - i = (es.size - (i + 1)) + 1 := by omega
      rw [e, List.range'_succ] at hr
      injection hr with h1 h2
      exact ⟨h1, h2⟩
    refine wpAny_bind (wpAny_dictEntries hoa hda ?_)
    have hlt' : x < ka.length := by rw [hla]; exact hlt
    have hent : es[x]? = some (entryOfKey knd ka[x]) := by rw [entry_at hea x, List.getElem?_eq_getElem hlt']; rfl
    rw [hent]
    obtain ⟨p, hp, heq⟩ := hits ka[x] (List.getElem_mem hlt')
    have hkey := hia ka[x] (List.getElem_mem hlt')
    show wpAny _ _ (holding [(entryOfKey knd ka[x]).key, (entryOfKey knd ka[x]).val] _ >>= _) _ _ _
    refine wpAny_bind (wpAny_holding (wpAny_bind (wpAny_dictFind_heap hu hkey hob hdb heb hib hnb ?_ ?_)))
    · intro hno
      rw [atKey_none_of_get hno] at hp
      exact nomatch hp
    · intro j p' hj
      have ep' : p' = p := Option.some.inj ((atKey_of_get hnb hj).symm.trans hp)
      subst ep'
      refine wpAny_bind (wpAny_dictEntries hob hdb ?_)
      rw [entry_at heb j, hj]
      refine wpAny_holding (heq prog w _ _ ?_)
      show wpAny _ _ (if (!true) = true then _ else _) _ _ _
      rw [if_neg (by decide)]
      refine wpAny_bind (wpAny_dictEpoch hoa hda ?_)
      rw [if_neg (by simp)]
      exact wpAny_pure ⟨rfl, rfl, x + 1, hrest, hlt⟩
  · rintro q s' ⟨rfl, rfl, i, hr, hi⟩
    refine wpAny_pure ?_
    exact h
theorem eqDictH {a b : Addr} {ka kb : List (K × Addr × Value)} {Q : Value → Shared → Prop} (hr : knd.room A.in1) (ha : (a == sysModules) = false) (hb : (b == sysModules) = false)
    (da : s.heap.DictOfH knd a ka) (db : s.heap.DictOfH knd b kb) (hu : A.units < cLine) (hl : ka.length = kb.length) (hits : ∀ x ∈ ka, ∃ p, atKey kb x.1 = some p ∧ SeqAt.EqAt A.in1 s x.2.2 p.2 true) (h : Q (.bool true) s) :
    wpAny (model prog w) A (compareOp .Eq (.ref a) (.ref b)) Q E s := by
  refine wpAny_richCompare_same_room (op := .Eq) da.typeIs db.typeIs PySem.F.slot_dict_eq (wpAny_call_entry PySem.F.slot_dict_eq da.typeIs PySem.F.entry_dict_eq ?_ (PySem.F.args_dict_eq_2 _ _)) hu
  show wpAny _ _ (Builtin.Dict.dictSlotArgs "__eq__" ⟨[.ref a, .ref b], []⟩ >>= _) _ _ s
  refine wpAny_bind ?_
  unfold Builtin.Dict.dictSlotArgs
  refine wpAny_bind (wpAny_notOrdered_dict da.typeIs ?_)
  show wpAny _ _ (pure (Value.ref a, Value.ref b)) _ _ s
  refine wpAny_pure ?_
  refine wpAny_bind (wpAny_isInstance (T := "dict") db.typeIs PySem.F.sub_dict_dict ?_)
  simp only [Bool.not_true, Bool.false_eq_true, if_false]
  refine wpAny_bind (wpAny_pure (wpAny_bind (wpAny_pure ?_)))
  refine wpAny_bind (samePairsH hr ha hb da db hl hits ?_)
  refine wpAny_pure ⟨_, rfl, ?_, ?_⟩
  · exact fun x => nomatch x
  · simpa using h
end
section
variable {X : Cx}
def rEqDT : R2 := fun x y H Q => ∃ a b ks ls, x = .ref a ∧ y = .ref b ∧ H a = some (.dT ks) ∧ H b = some (.dT ls) ∧ ks.length = ls.length ∧ (∀ p ∈ ks, valV ls p.1 = some p.2 ∧ flatB p.2 = true) ∧ Q (.bl true) H
theorem hitsT {H : Hp} {A : Around} {s : Shared} {ls : List (List Key × V)} {xb : List (List Key × Addr × Value)} (rb : KT H ls xb) {ks : List (List Key × V)} {xa : List (List Key × Addr × Value)} (ra : KT H ks xa) :
    (∀ p ∈ ks, valV ls p.1 = some p.2 ∧ flatB p.2 = true) → ∀ x ∈ xa, ∃ p, atKey xb x.1 = some p ∧ SeqAt.EqAt A s x.2.2 p.2 true := by
  unfold KT at ra
  induction ra with
  | nil => intro _ x h; exact absurd h List.not_mem_nil
  | @cons p q ps qs h t ih =>
    intro hp x hx
    rcases List.mem_cons.mp hx with rfl | hx
    · obtain ⟨h1, _, h2⟩ := h
      obtain ⟨e, f⟩ := hp p List.mem_cons_self
      have rr : RelO (some p.2) ((atKey xb p.1).map (·.2)) := by rw [← e]; exact rb.val p.1
      obtain ⟨y, hy, ry⟩ := rr.some_of
      obtain ⟨z, hz, rfl⟩ := Option.map_eq_some_iff.mp hy
      exact ⟨z, by rw [← h1]; exact hz, eqAt_same h2 ry f⟩
    · exact ih (fun p' hm => hp p' (List.mem_cons_of_mem _ hm)) x hx
theorem op_eq_dictT (hu : X.A.units + 1 < cLine) : OpR X (compareOp .Eq) rEqDT := by
  intro pins s σ H x y v u Q I rx ry h
  obtain ⟨a, b, ks, ls, rfl, rfl, ea, eb, hlen, hp, q⟩ := h
  obtain rfl : v = Value.ref a := rx
  obtain rfl : u = Value.ref b := ry
  obtain ⟨_, ya, va, ra, da⟩ := dt_rd I.hok (.inl ea)
  obtain ⟨_, yb, vb, rb, db⟩ := dt_rd I.hok (.inl eb)
  have hl : va.length = vb.length := by rw [← Paired.length ra, ← Paired.length rb]; exact hlen
  exact eqDictH (tupleKind_room_in1 hu) ya yb da db (Nat.lt_of_succ_lt hu) hl (hitsT rb ra hp) (fin_bl I q rfl)
end
end TK

namespace TK
open PySem PySem.Spec PyProof.Rows L2
/-- any loop of a comprehension over whatever walks (for two generators: one time each) -/
theorem walk_go {J : It} {n : Nat} {G : Hp → Prop} {Y : Nat → Hp → V → Hp → Prop} (w : Walk J n G Y) {H0 : Hp} {Qd : Hp → Prop} {body : (Hp → Prop) → V → Hp → Prop} (Pv : Nat → Hp → Prop) (h0 : Pv 0 H0) (hG : ∀ i H, i ≤ n → Pv i H → G H)
    (hs : ∀ i x H H', i < n → Pv i H → Y i H x H' → body (Pv (i + 1)) x H') (hd : ∀ H, Pv n H → Qd H) :
    ∃ W : Nat → Nat → Hp → Prop, (∃ m, W 0 m H0) ∧ ∀ i m H, W i m H →
      (J.stop i H ∧ Qd H) ∨ (J.go i H ∧ ∃ Nx : Hp → Prop, (∀ H', Nx H' → ∃ m', m' < m ∧ W (i + 1) m' H') ∧ ∀ x H', J.yld i H x H' → body Nx x H') := by
  refine ⟨fun i m H => m = n - i ∧ i ≤ n ∧ Pv i H, ⟨n, by simp, Nat.zero_le _, h0⟩, ?_⟩
  rintro i m H ⟨rfl, hi, p⟩
  have q := hG i H hi p
  by_cases hlt : i < n
  · exact .inr ⟨w.goes i H hlt q, Pv (i + 1), fun H' p' => ⟨n - (i + 1), by omega, rfl, hlt, p'⟩, fun x H' y => hs i x H H' hlt p (w.yields i H x H' hlt q y)⟩
  · have e : i = n := by omega
    subst e
    exact .inl ⟨w.stops H q, hd H p⟩
theorem pe_fldK {X : Cx} {K : PySem.W.Frag} {e : Expr} {f : Str} {pos : Pos} {ta : TE} (h : X.K = K) (he : PE X e ta) (hb : attributeBase e f X.env (eval e X.env) = eval e X.env) : PE X (.Attribute e f pos) (tFld K ta f) := h ▸ pe_fld he hb
theorem pi_tupK {X : Cx} {K : PySem.W.Frag} {tg e : Expr} {te : TE} (h : X.K = K) (he : PE X e te) : PI X tg e (iTup K te) := h ▸ pi_tup he
end TK

/-! list(o), o an own object whose __iter__ gives the iterator of a tuple, with a __len__ -/
namespace TK
open PySem PySem.Spec PyProof.Rows L2
theorem sqT_upd {K : PySem.W.Frag} {H : Hp} {t q : Addr} {o : HO} {xs : List V} (h : SqT K H t xs) (hq : H q = none) : SqT K (upd H q o) t xs := by
  rcases h with (h | ⟨o', h⟩) | h
  · exact .inl (.inl (by rw [upd_ne (ne_of_none h hq)]; exact h))
  · exact .inl (.inr ⟨o', by rw [upd_ne (ne_of_none h hq)]; exact h⟩)
  · exact .inr h
theorem big1000 : 1000 < sizeLine := by rw [sizeLine_eq]; decide
section
variable {X : Cx} {C gi gl : Addr} {n : Nat} {fdL : FuncData} {spL : Sp} {CX : CXT} {E : XK} {pins : List (Addr × Obj)} {σ : L2.St} {H : Hp} {s : Shared}
theorem tup_loop {A1 : Around} (hd : A1.in1.handled = none) {t it q : Addr} {xs : List V} {Rs : Result → Shared → Prop} (hq : H q = none) (hT : SqT X.K H t xs) (hx : xs.length ≤ 1000) (iq : it ≠ q)
    (hdone : ∀ s, Inv X pins σ (upd H q (.lst xs)) s → Rs (.ok (.ret .none)) s) (hf : FpOk X pins (upd H q (.lst [])) it) :
    ∀ (k i : Nat) (s : Shared), xs.length - i = k → i ≤ xs.length → Inv X pins σ (upd H q (.lst (xs.take i))) s → s.heap.IsTupleIter it t i → codeAny (model X.prog X.w) A1 (.builtin "list.extend.loop" ⟨[.ref q, .ref it, .none], []⟩) Rs s := by
  intro k
  obtain ⟨f0, f1, f2, f3, f4, f5⟩ := hf
  rw [upd_ne iq] at f0
  induction k with
  | zero =>
    intro i s hk hi I st
    have hin : i = xs.length := by omega
    refine codeAny_builtin PySem.F.entry_extend_loop ?_
    rw [Around.under_plainId PySem.F.plain_extend_loop _]
    show wpAny _ A1.in1 (pyNext (.ref it) >>= _) _ _ s
    obtain ⟨its, rv, p, hz⟩ := I.tuple (sqT_upd (o := .lst (xs.take i)) hT hq)
    have hl := rv.length
    refine wpAny_bind (wpAny_pyNext_tuple_end hd st (show s.heap.IsTuple t its.toArray from p) (by simp; omega) fun h' eb => ?_)
    refine wpAny_pure (hdone _ ?_)
    have := I.turned (t' := s.toks) (fun b o hb e => eb b o hb e) (by rw [upd_ne iq]; exact f0) f1 f3 f4 f5
    rw [hin, List.take_length] at this
    exact this
  | succ k ih =>
    intro i s hk hi I st
    have hlt : i < xs.length := by omega
    refine codeAny_builtin PySem.F.entry_extend_loop ?_
    rw [Around.under_plainId PySem.F.plain_extend_loop _]
    show wpAny _ A1.in1 (pyNext (.ref it) >>= _) _ _ s
    obtain ⟨its, rv, p, hz⟩ := I.tuple (sqT_upd (o := .lst (xs.take i)) hT hq)
    obtain ⟨u, hu, ru⟩ := rv.get (List.getElem?_eq_getElem hlt)
    refine wpAny_bind (wpAny_pyNext_tuple_item st (show s.heap.IsTuple t its.toArray from p) (x := u) (by simpa using hu) fun h' st' sb => ?_)
    have I1 := I.turned (t' := s.toks) (h' := h') (fun b o hb e => (sb.2 b hb).trans e) (by rw [upd_ne iq]; exact f0) f1 f3 f4 f5
    show wpAny _ A1.in1 (updateSeq q (·.push u) >>= _) _ _ _
    obtain ⟨z, its2, k2, r2, hl, e⟩ := I1.lstM upd_same
    have hl2 : its2.length = i := by rw [← hl, List.length_take]; omega
    have hb := big1000
    refine wpAny_bind (wpAny_updateSeq e rfl (wpAny_pure ⟨plainId_quiet PySem.F.plain_extend_loop _, ?_⟩) (by rw [List.size_toArray]; omega) (by show (its2.toArray.push u).size ≤ sizeLine + 1; rw [Array.size_push, List.size_toArray]; omega))
    have I2 := I1.lset (f := (·.push u)) (its' := its2 ++ [u]) (ys := xs.take i ++ [xs[i]]) (t' := s.toks) upd_same e (by simp) (r2.append (.cons ru .nil)) (by rw [List.length_append, List.length_singleton, List.length_take]; omega)
    refine ih (i + 1) _ (by omega) (by omega) ?_ (st'.at fun o e => (Heap.get?_update_other _ _ (Ne.symm iq)).trans e)
    rw [upd_upd, show xs.take i ++ [xs[i]] = xs.take (i + 1) by rw [List.take_add_one, List.getElem?_eq_getElem hlt]; rfl] at I2
    exact I2
theorem len_hint {A1 : Around} {Q : Bool → Shared → Prop} {Er : Value → Shared → Prop} {a dx : Addr} {fs : List (Str × V)} {m : Nat} (c : Own X.K C "__len__" gl) (F : FnOk X.prog X.w X.K X.mg X.base CX n gl fdL ["self"] spL) (hb : Binds X.K fdL ["self"] []) (hx : Passes CX X.nox E)
    (sb : Sub X n A1.in1) (I : Inv X pins σ H s) (ha : H a = some (.ins C dx fs)) (hm : m ≤ 1000) (h : spL [.ref a] H (fun v H' => v = .int m ∧ H' = H) E) (q : ∀ s', Inv X pins σ H s' → ∀ b, Q b s') :
    wpAny (model X.prog X.w) A1 (Builtin.List.listLengthHint (.ref a)) Q Er s := by
  obtain ⟨ox, od, J⟩ := own_at I ha
  obtain ⟨m0, hF⟩ := I.fr
  unfold Builtin.List.listLengthHint
  refine wpAny_bind (wpAny_bind (J.type.here ((PySem.W.looks_findIn I.kIn c.at_).here ?_)))
  refine PySem.W.KFB.if_not rfl ?_
  refine PySem.W.KFB.if_so rfl ?_
  refine wpAny_bind (wpAny_rule ?_)
  have e0 : Env0 X.prog X.w X.K X.mg X.base A1.in1 X.stack s H := by
    have e := I.env0
    exact ⟨by rw [sb.fr]; exact e.frames, e.mod, e.bs, e.bsz, e.funs, e.frf, e.hok, e.bare⟩
  refine wpAny_bind (wpAny_attempt (PySem.W.len_K hF I.ok.mod.kin J c.at_ c.fn (wpAny_mono (run_own (X := X.nox) F sb.room e0 hb hx (I.wish _) (vs := [.ref a]) (.cons rfl .nil) h) (fun w s' z => ?_) fun _ _ x => False.elim x)))
  obtain ⟨z', H', I', rz, rfl, rfl⟩ := z
  obtain ⟨t, rfl⟩ := (show ∃ t, w = Value.int m t from rz)
  refine ⟨⟨by omega, by omega⟩, ?_⟩
  refine wpAny_bind (m := asInt? _) (wpAny_pure ?_)
  have hs := big1000
  refine PySem.W.KFB.if_not (by simp [Builtin.List.listTooLong]; omega) ?_
  exact wpAny_pure (q _ (I'.unwish.tok _) _)
theorem extendT {R : Addr → Addr → Hp → Prop} {Q : VK} {a dx t q : Addr} {fs : List (Str × V)} {ys : List V} (hc : X.calm = true) (ci : Own X.K C "__iter__" gi) (FI : FnIt X.prog X.w X.K X.mg X.base n gi R) (cl : Own X.K C "__len__" gl) (F : FnOk X.prog X.w X.K X.mg X.base CX n gl fdL ["self"] spL) (hb : Binds X.K fdL ["self"] []) (hx : Passes CX X.nox E)
    (hr : Room (n + 3) X.A) (fr : H q = none) (I2 : Inv X pins σ (upd H q (.lst [])) s) (ha : H a = some (.ins C dx fs)) (hT : SqT X.K H t ys) (hy : ys.length ≤ 1000) (hRa : R a t (upd H q (.lst []))) (hsp : spL [.ref a] (upd H q (.lst [])) (fun v H' => v = .int ys.length ∧ H' = upd H q (.lst [])) E) (hQ : Q (V.ref q) (upd H q (.lst ys))) :
    wpAny (model X.prog X.w) X.A.in1.in1 (Builtin.List.listExtendWith (.ref q) (.ref a) .none)
      (fun fin s' => match fin with | .done f => wants (fun r s₂ => r = .none ∧ EP X pins σ Q (.ref q) s₂) X.xe (.ok f) s' | .again c' => c'.quiet = true ∧ codeAny (model X.prog X.w) X.A.in1 c' (wants (fun r s₂ => r = .none ∧ EP X pins σ Q (.ref q) s₂) X.xe) s') (fun e s' => wants (fun r s₂ => r = .none ∧ EP X pins σ Q (.ref q) s₂) X.xe (.error e) s') s := by
  have sb : Sub X n X.A.in1.in1.in1 := (Sub.in1 (Sub.in1 (Sub.in1 (⟨hr, rfl⟩ : Sub X (n + 3) X.A))))
  have sb2 : Sub X (n + 1) X.A.in1.in1 := (Sub.in1 (Sub.in1 (⟨hr, rfl⟩ : Sub X (n + 3) X.A)))
  have ne : q ≠ a := Ne.symm (ne_of_none ha fr)
  have ha2 : upd H q (.lst []) a = some (.ins C dx fs) := by rw [upd_ne (Ne.symm ne)]; exact ha
  obtain ⟨ox, od, J⟩ := own_at I2 ha2
  obtain ⟨m0, hF⟩ := I2.fr
  unfold Builtin.List.listExtendWith
  refine wpAny_bind (J.type.here ?_)
  have h1 : Builtin.List.listSameRef (.ref q) (.ref a) = false := by simp [Builtin.List.listSameRef, ne]
  have h2 : (Value.ref C == Value.type "list") = false := rfl
  have h3 : (Value.ref C == Value.type "tuple") = false := rfl
  simp only [h1, h2, h3, Bool.or_false, Bool.false_eq_true, if_false]
  refine wpAny_bind (PySem.W.owit_iter hF I2.ok.mod.kin J ci.at_ ci.fn ?_)
  have e0 : Env0 X.prog X.w X.K X.mg X.base X.A.in1.in1 X.stack s (upd H q (.lst [])) := by
    have e := I2.env0
    exact ⟨by rw [sb2.fr]; exact e.frames, e.mod, e.bs, e.bsz, e.funs, e.frf, e.hok, e.bare⟩
  refine wpAny_call (codeAny_mono (FI X.A.in1.in1 X.stack s _ a t (sb2.room.mono (by omega)) e0 hRa) fun r s' hq => ?_)
  cases r with
  | error e => exact False.elim hq
  | ok fl =>
    cases fl with
    | next => exact False.elim hq
    | brk => exact False.elim hq
    | cont => exact False.elim hq
    | ret u =>
      obtain ⟨z, H2, os, bare, un, hok, rz, it, rfl, hn, hge, rfl⟩ := id hq
      have I3 : Inv X pins σ (upd (upd H q (.lst [])) it (ItT t it)) s' := I2.call' os un hok bare (fun b z => absurd z (by simp))
      cases rz
      have hget : s'.heap.get? it = some (itTObj t 0) := (I3.hok it _ upd_same).1
      have hTy : s'.TypeIs (.ref it) "tuple_iterator" := ⟨_, hget, rfl⟩
      have hi : (upd (upd H q (.lst [])) it (ItT t it)) it = some (.ext fun h => h.get? it = some (itTObj t 0)) := upd_same
      have I4 := ItX.inv_drop I3 hi
      have e3 : ItX.dropH (upd (upd H q (.lst [])) it (ItT t it)) it = upd H q (.lst []) := ItX.dropH_upd hn
      have fp := ItX.inv_fp I3 hi (Nat.le_trans I2.sz hge)
      rw [e3] at I4 fp
      have iq : it ≠ q := fun e => by rw [e, upd_same] at hn; cases hn
      unfold PySem.W.OwitIt
      refine wpAny_specialOf (name := Str.ofString "__next__") hTy PySem.F.slot_tuple_iterator_next.lookup ?_
      have Ip := I4.pinned (fp := [it]) (fun b hb => by cases List.mem_singleton.mp hb; exact fp) (fun b hb => by cases List.mem_singleton.mp hb; exact ⟨_, hget, fun v e => nomatch e⟩)
      have epin : pinsAt [it] s'.heap = [(it, itTObj t 0)] := by simp [pinsAt, hget]
      rw [epin] at Ip
      refine wpAny_bind (wpAny_holding (len_hint cl F hb hx sb Ip ha2 hy hsp fun s5 I5p bb => ?_))
      have hst : s5.heap.IsTupleIter it t 0 := ⟨_, (I5p.pin (it, itTObj t 0) (by simp)).1, rfl, rfl⟩
      have I5 := I5p.unpinned
      obtain ⟨z5, its5, k5, r5, hl5, e5⟩ := I5.lstM upd_same
      cases r5
      have hdn : X.A.in1.in1.handled = none := I5.ok.hd hc
      have fin : ∀ s' : Shared, Inv X pins σ (upd H q (.lst ys)) s' → wants (fun r s₂ => r = .none ∧ EP X pins σ Q (.ref q) s₂) X.xe (.ok (.ret .none)) s' := fun s' I' => ⟨rfl, .ref q, _, I', rfl, hQ⟩
      refine wpAny_ite_split (fun _ => ?_) (fun _ => wpAny_pure ⟨plainId_quiet PySem.F.plain_extend_loop _, tup_loop (A1 := X.A.in1) hdn fr hT hy iq fin fp ys.length 0 s5 rfl (Nat.zero_le _) I5 hst⟩)
      refine wpAny_bind (wpAny_rule ?_)
      refine wpAny_bind ?_
      show wpAny _ _ (updateSeq q (·.push .none) >>= fun _ => updateSeq q (·.pop)) _ _ _
      refine wpAny_bind (wpAny_updateSeq e5 rfl ?_)
      have I6 := I5.lset (f := (·.push Value.none)) (its' := [Value.none]) (ys := [.non]) (t' := s5.toks) upd_same e5 (by simp) (.cons rfl .nil) (by rw [List.length_singleton, sizeLine_eq]; decide)
      obtain ⟨z4, its4, k4, r4, hl4, e4⟩ := I6.lstM upd_same
      obtain ⟨u4, rfl, ru4⟩ := r4.one
      refine wpAny_updateSeq e4 rfl ?_ (by show 1 ≤ sizeLine; rw [sizeLine_eq]; decide) (by show 0 ≤ sizeLine + 1; exact Nat.zero_le _)
      have I7 := I6.lset (f := (·.pop)) (its := [u4]) (its' := []) (ys := []) (t' := s5.toks) upd_same e4 (by rfl) .nil (Nat.zero_le _)
      rw [upd_upd, upd_upd] at I7
      refine wpAny_pure ⟨plainId_quiet PySem.F.plain_extend_loop _, tup_loop (A1 := X.A.in1) hdn fr hT hy iq fin fp ys.length 0 _ rfl (Nat.zero_le _) I7 ?_⟩
      exact (hst.at fun o e => (Heap.get?_update_other _ _ (Ne.symm iq)).trans e).at fun o e => (Heap.get?_update_other _ _ (Ne.symm iq)).trans e
/-- list(o) -/
def rListOwn (K : PySem.W.Frag) (C : Addr) (R : Addr → Addr → Hp → Prop) (spL : Sp) (E : XK) : List V → Hp → VK → Prop := fun xs H Q => ∃ (a dx : Addr) (fs : List (Str × V)) (t : Addr) (ys : List V), xs = [.ref a] ∧ H a = some (.ins C dx fs) ∧ SqT K H t ys ∧ ys.length ≤ 1000 ∧
  (∀ q, H q = none → R a t (upd H q (.lst [])) ∧ spL [.ref a] (upd H q (.lst [])) (fun v H' => v = .int ys.length ∧ H' = upd H q (.lst [])) E) ∧ ∀ q, H q = none → Q (.ref q) (upd H q (.lst ys))
theorem call_listOwnT {R : Addr → Addr → Hp → Prop} (hc : X.calm = true) (ci : Own X.K C "__iter__" gi) (FI : FnIt X.prog X.w X.K X.mg X.base n gi R) (cl : Own X.K C "__len__" gl) (F : FnOk X.prog X.w X.K X.mg X.base CX n gl fdL ["self"] spL) (hb : Binds X.K fdL ["self"] []) (hx : Passes CX X.nox E)
    (hr : Room (n + 3) X.A) : CallR X (.type "list") (rListOwn X.K C R spL E) := by
  intro pins s σ H xs us Q I rv h
  obtain ⟨a, dx, fs, t, ys, rfl, ha, hT, hy, hR, hQ⟩ := h
  obtain ⟨u, rfl, ru⟩ := rv.one
  cases ru
  refine callType_codes (Q₁ := fun obj s₁ => obj = .ref s.heap.objs.size ∧ s₁ = { s with heap := s.heap.push { cls := .type "list", data := .seq #[] } }) PySem.F.called_list (PySem.F.typeCall_list_1 _) PySem.F.entry_list_init
    (code_list_new _ ⟨rfl, rfl⟩) fun obj s₁ h₁ => ?_
  obtain ⟨rfl, rfl⟩ := h₁
  have hS : (s.heap.push { cls := .type "list", data := .seq #[] }).get? s.heap.objs.size = some { cls := .type "list", data := .seq #[] } := Heap.get?_push_size _ rfl
  refine ⟨⟨_, hS, rfl⟩, PySem.F.args_list_init_2 _ _, ?_⟩
  have fr : H s.heap.objs.size = none := I.hok.fresh (Nat.le_refl _)
  generalize hqe : s.heap.objs.size = q at *
  have I1 : Inv X pins σ (upd H q (.lst [])) { s with heap := s.heap.push { cls := .type "list", data := .seq #[] } } := hqe ▸ I.lnew (its := []) (t' := s.toks) .nil (Nat.zero_le _)
  show wpAny _ _ (do let old ← Builtin.List.listItems (.ref q); Builtin.List.listUpdate (.ref q) (fun _ => #[]); letGo old.toList.reverse; Builtin.List.listExtendWith (.ref q) (.ref a) .none) _ _ _
  refine wpAny_bind ?_
  unfold Builtin.List.listItems
  refine wpAny_bind (wpAny_seqItems hS rfl (wpAny_pure ?_))
  show wpAny _ _ (updateSeq q (fun _ => #[]) >>= fun _ => letGo (#[] : Array Value).toList.reverse >>= fun _ => Builtin.List.listExtendWith (.ref q) (.ref a) .none) _ _ _
  refine wpAny_bind (wpAny_updateSeq hS rfl ?_)
  have I2 := I1.lset (f := fun _ => #[]) (its := []) (its' := []) (ys := []) (t' := s.toks) upd_same hS rfl .nil (Nat.zero_le _)
  rw [upd_upd] at I2
  refine wpAny_bind (wpAny_letGo ?_)
  exact extendT hc ci FI cl F hb hx hr fr I2 ha hT hy (hR q fr).1 (hR q fr).2 (hQ q fr)
end
end TK

/-! an own exception over ValueError whose __init__ says super().__init__(..); self.f = x -/
namespace TK
section
open PySem PySem.W PySem.Calls PySem.Spec PyProof.Rows
variable {prog : Program} {w : World} {A : Around} {E : Value → Shared → Prop} {h : Heap} {g : Array GenState} {d : Drawn} {t : Nat} {os : OsState}
variable {nm q : Str} {C N : Addr} {bs bm : List Value} {hdct : Bool} {sn : List Str} {sub : List Value} {ab : Bool} {col : Option Bool} {dd : Option Addr} {k0 k1 k2 k3 k5 : Option Value}
/-- the bound __init__ called -/
theorem call_mw {u e t0 : Addr} {rest : List Value} {Q : Value → Shared → Prop}
    (hC : h.get? C = some (excClassObj nm q C N bs bm hdct sn sub ab col dd k0 k1 k2 k3 k5 "ValueError.__new__")) (he : h.get? e = some (HandSPX.excO C t0)) (hu : h.get? u = some (kxs_mw "ValueError.__init__" e)) (hrest : rest.length ≤ sizeLine)
    (hq : ∀ h' t1, (∀ b o, b ≠ e → h.get? b = some o → h'.get? b = some o) → h'.get? e = some (HandSPX.excO C t1) → Q .none ⟨h', g, d, t, os⟩) :
    wpAny (model prog w) A (call (.ref u) rest) Q E ⟨h, g, d, t, os⟩ := by
  refine wpAny_call (codeAny_of_tree ?_)
  show wpAny _ A.in1 (callAny (.ref u) ⟨rest, []⟩) _ _ _
  simp only [callAny]
  refine wpAny_bind (wpAny_load hu ?_)
  simp only [kxs_mw, show (Value.type "method-wrapper" == Value.type "method" || Value.type "method-wrapper" == Value.type "builtin_function_or_method" || Value.type "method-wrapper" == Value.type "method-wrapper") = true by decide, if_true]
  refine PySem.W.KFB.if_so (by decide) ?_
  refine wpAny_bind (ESX.check_bound F.excBase_ValueError hC he rfl ?_)
  refine wpAny_bind (wpAny_pure (wpAny_pure ?_))
  refine ⟨Code.quiet_builtin _ (by decide +kernel), codeAny_builtin F.excBase_ValueError.initEntry ?_⟩
  rw [Around.under_plainId F.excBase_ValueError.init.plain _]
  wp_walk
  refine hq _ h.objs.size (fun b o hb ho => ?_) ?_
  · rw [Heap.get?_update_other _ _ (Ne.symm hb)]
    exact Heap.get?_push_of_some _ ho
  · rw [Heap.get?_update_self _ (Heap.get?_push_of_some _ he) rfl]
    rfl
end
open PySem PySem.Spec PyProof.Rows L2 NdefX
open PySem.W (ks_superIn kxs_mw kxs_getMethod kxs_ValueError kxs_callWith)
def supBody (p0 p1 p2 p3 p4 p5 p6 p7 p8 : Pos) (msg : Expr) (arg fld : Str) : List Stmt :=
  [.Expr (.Call (.Attribute (.Call (.Name "super" p0) [] [] p1) "__init__" p2) [msg] [] p3) p4, .Assign [.Attribute (.Name "self" p5) fld p6] (.Name arg p7) p8]
/-- X.__init__(self, y): the exception at a gets its dict with the one field -/
def spSup (C : Addr) (fld : Str) (okv : V → Prop) : Sp := fun vs H Q _ => ∃ (a : Addr) (y : V), vs = [.ref a, y] ∧ okv y ∧ H a = some (exo a C none) ∧ ∀ dx, H dx = none → dx ≠ a → Q .non (upd (upd H dx (exd dx [(fld, y)])) a (exo a C (some dx)))
theorem fn_sup {CX : CXT} {P : Program} {w : World} {K : PySem.W.Frag} {mg : Str → Option Value} {base : Heap} {k : Nat} {f C cc cda : Addr} {qual arg fld file : Str} {params : Arguments} {scope : Scope} {msg : Expr} {p0 p1 p2 p3 p4 p5 p6 p7 p8 : Pos}
    {oc ccl cl dV kV doc pm ct : Value} {an od cdd cld : Option Addr} {osl ccs csl : Array (Option Value)} {vs0 : Array Value} {tf : Tok} {okv : V → Prop} {te : TE} {ar : Arg}
    (lk : K.lookup f = some ⟨oc, od, .func (PySem.W.fnX "__init__" qual params (supBody p0 p1 p2 p3 p4 p5 p6 p7 p8 msg arg fld) scope [("__class__", cc)] dV kV doc pm an (.ref cda) ct), osl⟩) (hcd : PySem.W.codeIn K (.ref cda) qual = true)
    (hcode : K.lookup cda = some ⟨ccl, cdd, .fields vs0, ccs⟩) (hvs : vs0[2]? = some (.str file tf)) (hfile : ((P.main.file : Str) == file) = true)
    (hcell : K.lookup cc = some ⟨cl, cld, .cell (some (.ref C)), csl⟩)
    (S : NScope ["self", arg, "__class__"] ["self", arg] ["__class__"] scope) (hks : scope.names.lookup ("super" : Str) = some .globalImplicit)
    (hpar : (params.posonlyargs ++ params.args).head? = some ar) (har : ar.arg = "self")
    (htop : (P.main.scope.names.lookup ("super" : Str)).isSome = false) (hsup : mg "super" = none)
    (T : OexC K C) (hmr : PySem.W.mroIn K C (.ref C) = some true) (hst : PySem.W.nsIn K cStatics "thirdparty.any" = some none) (hal : ks_superIn K C C "__init__" = some (some (.builtin "ValueError.__init__")))
    (hVE : PySem.W.subIn K (.ref C) (.type "ValueError") = some true) (hno : PySem.W.findIn K (.ref C) fld = some none)
    (hpa : ∀ (A : Around) (outer : List Env) (s : Shared) (H : Hp) (E : XK), PA (ncx CX P w K mg base ["self", arg, "__class__"] ⟨"__init__", qual, params, supBody p0 p1 p2 p3 p4 p5 p6 p7 p8 msg arg fld, scope, [("__class__", cc)], cda⟩ f A outer s H E) [msg] (tCons te tNil))
    (hpl : ∀ env : Env, starEach [msg] env = [(false, eval msg env)])
    (hte : ∀ (a : Addr) (y : V) (H : Hp) (Q : VK), okv y → (∀ z, Q z H) → te [some (.ref a), some y, some (.ref C)] H Q)
    (hdb : (arg == ("__debug__" : Str)) = false) (hdc : (arg == ("__classdict__" : Str)) = false) {pl : Env → Sem Bool} (hev : ∀ env : Env, eval (.Call (.Attribute (.Call (.Name "super" p0) [] [] p1) "__init__" p2) [msg] [] p3) env = (do
      let ov ← attributeBase (.Call (.Name "super" p0) [] [] p1) "__init__" env (eval (.Call (.Name "super" p0) [] [] p1) env)
      standAt p2.atName
      let (f, first) ← holding [ov] (getMethod ov "__init__" (pl env))
      callWith p3 f first (backTo p3 (starEach [msg] env)) [])) :
    FnOk P w K mg base CX (k + 1) f (PySem.W.fnX "__init__" qual params (supBody p0 p1 p2 p3 p4 p5 p6 p7 p8 msg arg fld) scope [("__class__", cc)] dV kV doc pm an (.ref cda) ct) ["self", arg] (spSup C fld okv) := by
  have len : ∀ vs H Q E, spSup C fld okv vs H Q E → vs.length = (["self", arg] : List Str).length := fun vs H Q E h => by
    obtain ⟨a, y, rfl, _⟩ := h
    rfl
  refine ⟨len, fun A outer s H args us vs Q E hr e0 hb r hsp => ?_⟩
  have hl := len _ _ _ _ hsp
  obtain ⟨a, y, rfl, oky, ea, q⟩ := hsp
  obtain ⟨hp0, g0, d0, tk0, os0⟩ := s
  have KX : K.In hp0 := e0.mod.kin.keeps fun b o e => (e0.bs b o e).1
  have lim : hp0.NoLimit := e0.mod.nolimit.keeps fun b o e => (e0.bs b o e).1
  have one : ∀ (y : Str) (c : Addr), ([(("__class__" : Str), cc)] : List (Str × Addr)).lookup y = some c → y = ("__class__" : Str) ∧ c = cc := fun y c e => by
    simp only [List.lookup] at e
    split at e
    · rename_i h
      exact ⟨eq_of_beq h, (Option.some.inj e).symm⟩
    · cases e
  have cls : CellsAt [(("__class__" : Str), cc)] ["__class__"] [some (.ref C)] hp0 H := by
    refine ⟨rfl, fun y c e => ?_, fun x y c e1 e2 => (one _ _ e1).1.trans (one _ _ e2).1.symm, fun i y hy => ?_⟩
    · obtain ⟨_, rfl⟩ := one _ _ e
      exact ⟨(e0.bs _ _ (e0.mod.kin _ _ hcell)).2, _, _, KX _ _ hcell, rfl⟩
    · match i, hy with
      | 0, hy =>
        cases Option.some.inj hy
        refine ⟨cc, by simp [List.lookup], fun v ev => ?_⟩
        cases Option.some.inj (Option.some.inj ev)
        exact ⟨.ref C, rfl, _, KX _ _ hcell, rfl⟩
      | i + 1, hy => simp at hy
  refine PySem.ks_codeAny_call_defAt (body := supBody p0 p1 p2 p3 p4 p5 p6 p7 p8 msg arg fld) (binds := (["self", arg] : List Str).zip us) hr.depth (KX _ _ lk) rfl lim (PySem.W.codeRec_of KX hcd) rfl hb S.nocell (fun ⟨n, v⟩ hy => S.par n (List.of_mem_zip hy).1) (fun h₁ hns kp => ?_) S.co S.gen S.kind
  let F : NF := ⟨"__init__", qual, params, supBody p0 p1 p2 p3 p4 p5 p6 p7 p8 msg arg fld, scope, [("__class__", cc)], cda⟩
  let X : Cx := ncx CX P w K mg base ["self", arg, "__class__"] F f A outer ⟨hp0, g0, d0, tk0, os0⟩ H E
  have I : Inv X [] (startF ["self", arg, "__class__"] [V.ref a, y] [some (.ref C)]) H ⟨h₁, g0, d0, tk0 + ((["self", arg] : List Str).zip us).length, os0⟩ :=
    inv_startN (CX := CX) (E := E) (N := ["self", arg, "__class__"]) (F := F) (f := f) (ws := [some (.ref C)]) S hr.hd e0 hl r cls hns kp
  have eσ : startF ["self", arg, "__class__"] [V.ref a, y] [some (.ref C)] = [some (.ref a), some y, some (.ref C)] := rfl
  rw [eσ] at I
  have pa : PA X [msg] (tCons te tNil) := hpa A outer ⟨hp0, g0, d0, tk0, os0⟩ H E
  generalize tk0 + ((["self", arg] : List Str).zip us).length = tk1 at I ⊢
  have KX1 : K.In h₁ := I.kIn
  obtain ⟨nm, q1, N, bs, bm, sn, sub, ab, col, dd, k0, k1, k2, k3, k5, hC, hbm⟩ := id T.cls
  obtain ⟨t1, hx⟩ := exo_at I.hok ea
  obtain ⟨mb, hb1, hb2⟩ := I.mod.blt
  have hself : scope.names.lookup ar.arg = some .local := by rw [har]; exact S.par "self" (by simp)
  obtain ⟨u, rfl⟩ : ∃ u, us = [Value.ref a, u] := by
    cases r with
    | @cons _ u0 _ ur ra rw' =>
      obtain rfl : u0 = Value.ref a := ra
      cases rw' with
      | cons rb rc => cases rc; exact ⟨_, rfl⟩
  have vself : (((["self", arg] : List Str).zip [Value.ref a, u]).reverse.lookup ar.arg) = some (.ref a) := by
    rw [har]
    have nd : (["self", arg] : List Str).Nodup := by
      have q := S.nd
      simp only [List.nodup_cons, List.mem_cons, not_or] at q ⊢
      exact ⟨⟨q.1.1, by simp⟩, by simp, by simp⟩
    exact zip_look (i := 0) nd rfl rfl
  show _root_.PySem.wpAt (model P w) X.A (.func (supBody p0 p1 p2 p3 p4 p5 p6 p7 p8 msg arg fld) X.env) (execs (supBody p0 p1 p2 p3 p4 p5 p6 p7 p8 msg arg fld) X.env) _ X.xe _
  refine PySem.ks_wpAt_execs_cons (PySem.ks_wpAt_Expr_any (PySem.ks_wpAt_MethodCall (PySem.ks_wpAt_super_base (env := X.env) (ar := ar) (f := f) hks (S.frk _ (by simp)) (by decide) rfl (KX1 _ _ lk) rfl hpar rfl (KX1 _ _ hcode) rfl hvs hfile htop ?_) (hev X.env)) I.quiet)
  refine PySem.W.ks_loadName_global S.kind hks (Calls.loadGlobal_builtin (mg := mg) (I.mod.glob.keeps I.bk) hsup (hb1.keeps I.bk) ((hb2 "super" (by decide)).trans (by decide +kernel : bootBuiltins "super" = some (.type "super"))) ⟨rfl, ?_⟩)
  refine wpAny_loadName_free S.kind (S.frk "__class__" (by simp)) (c := cc) rfl ⟨_, KX1 _ _ hcell, rfl⟩ ?_
  refine wpAny_loadName_local S.kind hself hns vself ?_
  have hCd := KX1 _ _ hC
  refine PySem.ks_wpAny_isType_cls hCd rfl ⟨rfl, ?_⟩
  refine PySem.ks_wpAny_call_super hCd rfl hx rfl (fun c e => by cases e) (PySem.W.looks_mroIn KX1 hmr) (fun h2 e2 kp2 => ?_)
  have I2 : Inv X [] [some (.ref a), some y, some (.ref C)] H ⟨h2, g0, d0, tk1, os0⟩ := I.kept (t' := tk1) kp2
  have KX2 : K.In h2 := I2.kIn
  have hx2 := kp2 _ _ hx
  have IA : PySem.W.InstAt h2 a _ C none := ⟨hx2, rfl, rfl, trivial⟩
  -- the bound __init__
  cases hcc : PySem.W.clsIn K C with
  | none => unfold ks_superIn at hal; rw [hcc] at hal; cases hal
  | some cd =>
    unfold ks_superIn at hal
    rw [hcc] at hal
    refine kxs_getMethod kxs_ValueError e2 (PySem.W.looks_opaque KX2 hst) (l₀ := cd.mro) (fun A Q E s k q => wpAny_bind ((PySem.W.looks_clsIn KX2 hcc) A _ E s k (wpAny_pure q))) rfl KX2 hal (IA.type.andThen (PySem.W.looks_subIn KX2 hVE)) (PySem.W.ks_ne KX2 IA hcc) (by decide) ?_
    have kp3 : ∀ b o, h2.get? b = some o → (h2.push (kxs_mw "ValueError.__init__" a)).get? b = some o := fun b o e => Heap.get?_push_of_some _ e
    have hu3 : (h2.push (kxs_mw "ValueError.__init__" a)).get? h2.objs.size = some (kxs_mw "ValueError.__init__" a) := Heap.get?_push_at rfl rfl
    have I3 : Inv X [] [some (.ref a), some y, some (.ref C)] H ⟨h2.push (kxs_mw "ValueError.__init__" a), g0, d0, tk1 + 1, os0⟩ := I2.kept (t' := tk1 + 1) kp3
    have I4 : Inv X [(h2.objs.size, kxs_mw "ValueError.__init__" a)] [some (.ref a), some y, some (.ref C)] H ⟨h2.push (kxs_mw "ValueError.__init__" a), g0, d0, tk1 + 1, os0⟩ := I3.pins_of fun p hp => by
      rw [List.mem_singleton.mp hp]
      exact ⟨hu3, I2.hok.fresh (Nat.le_refl _), Nat.ne_of_gt I2.lt, I2.nofs (Nat.le_refl _), fun v z => by cases z⟩
    show wpAny _ _ (callWith p3 (.ref h2.objs.size) [] (backTo p3 (starEach [msg] X.env)) []) _ _ _
    have ra := pa.run p3 _ _ _ H (fun vs H1 => ∃ z, vs = [z] ∧ H1 = H) I4 (hte a y H _ oky fun z => ⟨z, rfl, rfl⟩)
    rw [hpl] at ra ⊢
    refine kxs_callWith (i := "ValueError.__init__") (x := a) rfl (Calls.evalArgs_plain (thn ra fun us4 s4 hh => ?_))
    obtain ⟨vs4, H4, I5, r5, z, ev, eH⟩ := hh
    subst ev
    subst eH
    obtain ⟨h4, g4, d4, tk4, os4⟩ := s4
    have pin4 := I5.pin (h2.objs.size, kxs_mw "ValueError.__init__" a) (List.mem_append_right _ List.mem_cons_self)
    obtain ⟨t4, hx4⟩ := exo_at I5.hok ea
    refine ⟨pin4.1, call_mw (I5.kIn _ _ hC) hx4 pin4.1 (by show us4.length ≤ sizeLine; rw [← r5.length]; exact (show (1 : Nat) ≤ sizeLine by decide)) fun h5 t5 k5' hx5 => ?_⟩
    have J := I5.write (t' := tk4) (x := a) (e := a) (o := exo a C none) (by rw [ea]; exact True.intro) (.inl rfl) k5' ⟨_, hx5⟩ (exo_ok hx5)
    have eu : upd H4 a (exo a C none) = H4 := by
      funext b
      by_cases hb : b = a
      · rw [hb, upd_same, ea]
      · rw [upd_ne hb]
    rw [eu] at J
    -- self.f = y
    have hst2 : PSs X [.Assign [.Attribute (.Name "self" p5) fld p6] (.Name arg p7) p8] _ := pss_one (ps_ost (f := fld) (pe_var (i := 0) rfl (.inl (S.par "self" (by simp))) (by decide) (by decide)) (pe_var (i := 1) rfl (.inl (S.par arg (by simp))) hdb hdc))
    refine wpAt_of_wpAny (wpAny_mono (hst2.run _ _ _ _ { nx := fun _ H' => Q .non H', rt := Q } J ?_) (fun fl s' hs => ?_) fun e s' hs => hs)
    · exact ⟨_, rfl, _, rfl, a, C, rfl, T, hno, .inl ⟨ea, fun dx hdx n => q dx hdx n⟩⟩
    · have fin : ∀ {σ' : L2.St} {H' : Hp} {v : V} {u : Value}, Inv X [(h2.objs.size, kxs_mw "ValueError.__init__" a)] σ' H' s' → RelV v u → Q v H' → CE outer P w H4 ⟨hp0, g0, d0, tk0, os0⟩ Q u s' :=
        fun {σ' H' v u} J rv q => ⟨v, H', J.os, J.bare, J.base, J.hok, rv, q⟩
      cases fl with
      | ret u =>
        obtain ⟨v, σ', H', J, rv, q⟩ := hs
        exact fin J rv q
      | next =>
        obtain ⟨σ', H', J, q⟩ := hs
        exact fin (v := V.non) (u := Value.none) J rfl q
      | brk =>
        obtain ⟨_, _, _, q⟩ := hs
        exact False.elim q
      | cont =>
        obtain ⟨_, _, _, q⟩ := hs
        exact False.elim q
end TK

/-! super().__init__(..) of a class over an own class -/
namespace TK
open PySem PySem.Spec PyProof.Rows L2 NdefX
open PySem.W (ks_superIn)
open ClX
def supSt (p0 p1 p2 p3 p4 : Pos) (es : List Expr) : Stmt := .Expr (.Call (.Attribute (.Call (.Name "super" p0) [] [] p1) "__init__" p2) es [] p3) p4
/-- what super().__init__ finds: the def f2 of a class over D, for objects of C -/
structure SupO (K : PySem.W.Frag) (C D f2 : Addr) : Prop where
  hst : PySem.W.nsIn K cStatics "thirdparty.any" = some none
  isD : PySem.W.isClsIn K D = true
  sub : PySem.W.mroIn K C (.ref D) = some true
  al : ks_superIn K C D "__init__" = some (some (.ref f2))
  ty : PySem.W.typeIn K (.ref f2) = some (.type "function")
  fi : PySem.W.fnIn K f2 = true
theorem fn_superO {P : Program} {w : World} {K : PySem.W.Frag} {mg : Str → Option Value} {base : Heap} {k kr : Nat} {f C D f2 cc cda : Addr} {qual file : Str} {params : Arguments} {scope : Scope} {e : Expr} {es : List Expr} {rest : List Stmt} {p0 p1 p2 p3 p4 : Pos}
    {oc ccl cl dV kV doc pm ct : Value} {an od cdd cld : Option Addr} {osl ccs csl : Array (Option Value)} {vs0 : Array Value} {tf : Tok} {ar : Arg} {N ps : List Str} {sp spR : Sp}
    (lk : K.lookup f = some ⟨oc, od, .func (PySem.W.fnX "__init__" qual params (supSt p0 p1 p2 p3 p4 (e :: es) :: rest) scope [("__class__", cc)] dV kV doc pm an (.ref cda) ct), osl⟩) (hcd : PySem.W.codeIn K (.ref cda) qual = true)
    (hcode : K.lookup cda = some ⟨ccl, cdd, .fields vs0, ccs⟩) (hvs : vs0[2]? = some (.str file tf)) (hfile : ((P.main.file : Str) == file) = true)
    (hcell : K.lookup cc = some ⟨cl, cld, .cell (some (.ref D)), csl⟩)
    (S : NScope N (("self" : Str) :: ps) ["__class__"] scope) (hks : scope.names.lookup ("super" : Str) = some .globalImplicit)
    (hpar : (params.posonlyargs ++ params.args).head? = some ar) (har : ar.arg = "self") (htop : (P.main.scope.names.lookup ("super" : Str)).isSome = false) (hsup : mg "super" = none)
    (O : SupO K C D f2) (FR : FnR P w K mg base CX0 kr f2 spR)
    (len : ∀ vs H Q E, sp vs H Q E → ∃ a vs' dx fs, vs = .ref a :: vs' ∧ vs'.length = ps.length ∧ H a = some (.ins C dx fs))
    (hbody : ∀ (A : Around) (outer : List Env) (s : Shared) (H : Hp) (vs : List V) (Q : VK) (E : XK) (a : Addr) (vs' : List V), Room k (A.deeper (envF ⟨"__init__", qual, params, supSt p0 p1 p2 p3 p4 (e :: es) :: rest, scope, [("__class__", cc)], cda⟩ f s.heap.objs.size)) → vs = .ref a :: vs' → sp vs H Q E →
      ∃ ta tr, Room kr (ncx CX0 P w K mg base N ⟨"__init__", qual, params, supSt p0 p1 p2 p3 p4 (e :: es) :: rest, scope, [("__class__", cc)], cda⟩ f A outer s H E).A ∧ PA (ncx CX0 P w K mg base N ⟨"__init__", qual, params, supSt p0 p1 p2 p3 p4 (e :: es) :: rest, scope, [("__class__", cc)], cda⟩ f A outer s H E) (e :: es) ta ∧
        PSs (ncx CX0 P w K mg base N ⟨"__init__", qual, params, supSt p0 p1 p2 p3 p4 (e :: es) :: rest, scope, [("__class__", cc)], cda⟩ f A outer s H E) rest tr ∧
        ta (startF N vs [some (.ref D)]) H (fun us H1 => spR (.ref a :: us) H1 (fun _ H2 => tr { nx := fun _ H' => Q .non H', rt := Q } (startF N vs [some (.ref D)]) H2) E0))
    (hst2 : ∀ env : Env, starEach (e :: es) env = (false, eval e env) :: starEach es env) (hpl : ∀ env : Env, (backTo p3 (starEach es env)).any (·.1) = false) {pl : Env → Sem Bool}
    (hev : ∀ env : Env, eval (.Call (.Attribute (.Call (.Name "super" p0) [] [] p1) "__init__" p2) (e :: es) [] p3) env = (do
      let ov ← attributeBase (.Call (.Name "super" p0) [] [] p1) "__init__" env (eval (.Call (.Name "super" p0) [] [] p1) env)
      standAt p2.atName
      let (f, first) ← holding [ov] (getMethod ov "__init__" (pl env))
      callWith p3 f first (backTo p3 (starEach (e :: es) env)) [])) :
    FnOk P w K mg base CX0 (k + 1) f (PySem.W.fnX "__init__" qual params (supSt p0 p1 p2 p3 p4 (e :: es) :: rest) scope [("__class__", cc)] dV kV doc pm an (.ref cda) ct) (("self" : Str) :: ps) sp := by
  refine ⟨fun vs H Q E h => by
    obtain ⟨a, vs', dx, fs, rfl, hl, _⟩ := len vs H Q E h
    rw [List.length_cons, List.length_cons, hl], fun A outer s H args us vs Q E hr e0 hb r hsp => ?_⟩
  obtain ⟨a, vs', dx, fs, rfl, hl', ea⟩ := len _ _ _ _ hsp
  have hl : (V.ref a :: vs').length = (("self" : Str) :: ps).length := by rw [List.length_cons, List.length_cons, hl']
  obtain ⟨hp0, g0, d0, tk0, os0⟩ := s
  have KX : K.In hp0 := e0.mod.kin.keeps fun b o e => (e0.bs b o e).1
  have lim : hp0.NoLimit := e0.mod.nolimit.keeps fun b o e => (e0.bs b o e).1
  have one : ∀ (y : Str) (c : Addr), ([(("__class__" : Str), cc)] : List (Str × Addr)).lookup y = some c → y = ("__class__" : Str) ∧ c = cc := fun y c e => by
    simp only [List.lookup] at e
    split at e
    · rename_i h
      exact ⟨eq_of_beq h, (Option.some.inj e).symm⟩
    · cases e
  have cls : CellsAt [(("__class__" : Str), cc)] ["__class__"] [some (.ref D)] hp0 H := by
    refine ⟨rfl, fun y c e => ?_, fun x y c e1 e2 => (one _ _ e1).1.trans (one _ _ e2).1.symm, fun i y hy => ?_⟩
    · obtain ⟨_, rfl⟩ := one _ _ e
      exact ⟨(e0.bs _ _ (e0.mod.kin _ _ hcell)).2, _, _, KX _ _ hcell, rfl⟩
    · match i, hy with
      | 0, hy =>
        cases Option.some.inj hy
        refine ⟨cc, by simp [List.lookup], fun v ev => ?_⟩
        cases Option.some.inj (Option.some.inj ev)
        exact ⟨.ref D, rfl, _, KX _ _ hcell, rfl⟩
      | i + 1, hy => simp at hy
  refine PySem.ks_codeAny_call_defAt (body := supSt p0 p1 p2 p3 p4 (e :: es) :: rest) (binds := ((("self" : Str) :: ps)).zip us) hr.depth (KX _ _ lk) rfl lim (PySem.W.codeRec_of KX hcd) rfl hb S.nocell (fun ⟨n, v⟩ hy => S.par n (List.of_mem_zip hy).1) (fun h₁ hns kp => ?_) S.co S.gen S.kind
  let F : NF := ⟨"__init__", qual, params, supSt p0 p1 p2 p3 p4 (e :: es) :: rest, scope, [("__class__", cc)], cda⟩
  obtain ⟨ta, tr, hrr, pa, ptr, ht⟩ := hbody A outer ⟨hp0, g0, d0, tk0, os0⟩ H _ Q E a vs' (hr.deeper _) rfl hsp
  let X : Cx := ncx CX0 P w K mg base N F f A outer ⟨hp0, g0, d0, tk0, os0⟩ H E
  have I : Inv X [] (startF N (V.ref a :: vs') [some (.ref D)]) H ⟨h₁, g0, d0, tk0 + ((((("self" : Str) :: ps)).zip us)).length, os0⟩ :=
    inv_startN (CX := CX0) (E := E) (N := N) (F := F) (f := f) (ws := [some (.ref D)]) S hr.hd e0 hl r cls hns kp
  generalize tk0 + ((((("self" : Str) :: ps)).zip us)).length = tk1 at I ⊢
  have KX1 : K.In h₁ := I.kIn
  obtain ⟨mb, hb1, hb2⟩ := I.mod.blt
  have hself : scope.names.lookup ar.arg = some .local := by rw [har]; exact S.par "self" (by simp)
  obtain ⟨us', rfl⟩ : ∃ us', us = Value.ref a :: us' := by
    cases r with
    | @cons _ u0 _ ur ra rw' =>
      obtain rfl : u0 = Value.ref a := ra
      exact ⟨_, rfl⟩
  have vself : (((("self" : Str) :: ps).zip (Value.ref a :: us')).reverse.lookup ar.arg) = some (.ref a) := by
    rw [har]
    have nd : ((("self" : Str) :: ps) ++ [("__class__" : Str)]).Nodup := by
      rw [← S.pre]
      exact List.Sublist.nodup (List.take_sublist ..) S.nd
    exact zip_look (i := 0) (List.nodup_append.mp nd).1 rfl rfl
  obtain ⟨oD, hD1, cdD, hD2⟩ : ∃ oD, h₁.get? D = some oD ∧ ∃ cdD, oD.data = .cls cdD := by
    have hD := O.isD
    obtain ⟨cd, hcd'⟩ := Option.isSome_iff_exists.mp (show (PySem.W.clsIn K D).isSome = true from hD)
    unfold PySem.W.clsIn at hcd'
    split at hcd'
    · rename_i c d cd' sl ho
      exact ⟨_, KX1 _ _ ho, cd', rfl⟩
    · cases hcd'
  show _root_.PySem.wpAt (model P w) X.A (.func (supSt p0 p1 p2 p3 p4 (e :: es) :: rest) X.env) (execs (supSt p0 p1 p2 p3 p4 (e :: es) :: rest) X.env) _ X.xe _
  refine PySem.ks_wpAt_execs_cons (PySem.ks_wpAt_Expr_any (PySem.ks_wpAt_MethodCall (PySem.ks_wpAt_super_base (env := X.env) (ar := ar) (f := f) hks (S.frk _ (by simp)) (by decide) rfl (KX1 _ _ lk) rfl hpar rfl (KX1 _ _ hcode) rfl hvs hfile htop ?_) (hev X.env)) I.quiet)
  refine PySem.W.ks_loadName_global S.kind hks (Calls.loadGlobal_builtin (mg := mg) (I.mod.glob.keeps I.bk) hsup (hb1.keeps I.bk) ((hb2 "super" (by decide)).trans (by decide +kernel : bootBuiltins "super" = some (.type "super"))) ⟨rfl, ?_⟩)
  refine wpAny_loadName_free S.kind (S.frk "__class__" (by simp)) (c := cc) rfl ⟨_, KX1 _ _ hcell, rfl⟩ ?_
  refine wpAny_loadName_local S.kind hself hns vself ?_
  refine PySem.ks_wpAny_isType_cls hD1 hD2 ⟨rfl, ?_⟩
  obtain ⟨ox, od', J⟩ := own_at I ea
  refine PySem.ks_wpAny_call_super hD1 hD2 J.at_ J.cls (fun c e => ?_) (PySem.W.looks_mroIn KX1 O.sub) (fun h2 e2 kp2 => ?_)
  · have := J.no
    unfold PySem.W.notCls at this
    rw [e] at this
    exact Bool.noConfusion this
  have I2 : Inv X [] (startF N (V.ref a :: vs') [some (.ref D)]) H ⟨h2, g0, d0, tk1, os0⟩ := I.kept (t' := tk1) kp2
  have KX2 : K.In h2 := I2.kIn
  obtain ⟨ox2, od2, J2⟩ := own_at I2 ea
  have hal := O.al
  cases hcc : PySem.W.clsIn K C with
  | none => unfold ks_superIn at hal; rw [hcc] at hal; cases hal
  | some cd =>
    unfold ks_superIn at hal
    rw [hcc] at hal
    obtain ⟨of, hof, hofc⟩ : ∃ of, h2.get? f2 = some of ∧ of.cls = .type "function" := by
      have ht' : (K.lookup f2).map (·.cls) = some (.type "function") := O.ty
      cases z : K.lookup f2 with
      | none => rw [z] at ht'; cases ht'
      | some of => rw [z] at ht'; exact ⟨of, KX2 _ _ z, Option.some.inj ht'⟩
    refine PySem.ks_wpAny_getMethod_super e2 (PySem.W.looks_opaque KX2 O.hst) (l₀ := cd.mro) (fun A Q E s k q => wpAny_bind ((PySem.W.looks_clsIn KX2 hcc) A _ E s k (wpAny_pure q))) rfl KX2 hal hof hofc (PySem.W.ks_ne KX2 J2 hcc) (by decide) ?_
    have I3 := met_new (g := f2) (C := a) I2
    refine callwith_cm (g := f2) (C := a) I3 (base_none I2 (Nat.le_refl _)) O.fi (thn (pa.run p3 _ _ _ H _ I3 ht) fun us3 s3 ⟨vs3, H3, I4, rv, q2⟩ => ⟨⟨pin_at I4, I4.kIn⟩, ?_⟩) (hst2 X.env) (hpl X.env)
    refine thn (run_cm FR hrr pass0 I4 rv q2) fun z s4 ⟨v4, H4, I5, r4, q3⟩ => ?_
    refine wpAt_of_wpAny (wpAny_mono (ptr.run _ _ _ _ { nx := fun _ H' => Q .non H', rt := Q } I5 q3) (fun fl s' hs => ?_) fun e s' hs => hs)
    have fin : ∀ {σ' : L2.St} {H' : Hp} {v : V} {u : Value}, Inv X [] σ' H' s' → RelV v u → Q v H' → CE outer P w H ⟨hp0, g0, d0, tk0, os0⟩ Q u s' :=
      fun {σ' H' v u} J rv q => ⟨v, H', J.os, J.bare, J.base, J.hok, rv, q⟩
    cases fl with
    | ret u =>
      obtain ⟨v, σ', H', J, rv, q⟩ := hs
      exact fin J rv q
    | next =>
      obtain ⟨σ', H', J, q⟩ := hs
      exact fin (v := V.non) (u := Value.none) J rfl q
    | brk =>
      obtain ⟨_, _, _, q⟩ := hs
      exact False.elim q
    | cont =>
      obtain ⟨_, _, _, q⟩ := hs
      exact False.elim q
end TK

/-! len(set(xs)) of a list of different texts -/
namespace TK
open PySem PySem.Spec PyProof.Rows L2
section
variable {prog : Program} {w : World} {A : Around} {R : Result → Shared → Prop} {I : Addr} {fp wr : List Addr} {G : Array GenState → Array GenState → Prop} {n : Nat} {Pv : Nat → Value → Prop} {St : Nat → Shared → Prop}
/-- what the set holds after i texts -/
abbrev seenS (xs : List Str) (i : Nat) : Str → Bool := fun k => (xs.take i).any (· == k)
theorem seen_succ {xs : List Str} {i : Nat} (hi : i < xs.length) (k : Str) : (seenS xs i k || decide (k = xs.getD i Str.empty)) = seenS xs (i + 1) k := by
  show _ = (xs.take (i + 1)).any (· == k)
  have e : xs.getD i Str.empty = xs[i] := by rw [List.getD_eq_getElem?_getD, List.getElem?_eq_getElem hi]; rfl
  rw [List.take_add_one, List.getElem?_eq_getElem hi, List.any_append, e]
  congr 1
  show decide (k = xs[i]) = [xs[i]].any (· == k)
  rw [List.any_cons, List.any_nil, Bool.or_false]
  by_cases h : k = xs[i]
  · rw [decide_eq_true h, h]; exact (beq_self_eq_true _).symm
  · rw [decide_eq_false h]; exact (beq_eq_false_iff_ne.mpr fun q => h q.symm).symm
theorem seen_new {xs : List Str} {i : Nat} (hi : i < xs.length) (nd : xs.Nodup) : seenS xs i (xs.getD i Str.empty) = false := by
  have e : xs.getD i Str.empty = xs[i] := by rw [List.getD_eq_getElem?_getD, List.getElem?_eq_getElem hi]; rfl
  rw [e]
  refine Bool.eq_false_iff.mpr fun h => ?_
  obtain ⟨x, hx, q⟩ := List.any_eq_true.mp h
  have q := eq_of_beq q
  obtain ⟨j, hj, ej⟩ := List.getElem_of_mem hx
  rw [List.length_take] at hj
  rw [List.getElem_take] at ej
  have hj2 : j < xs.length := by omega
  have := (List.getElem?_inj hj2 nd).mp ((List.getElem?_eq_getElem hj2).trans ((congrArg some (ej.trans q)).trans (List.getElem?_eq_getElem hi).symm))
  omega
theorem loopStrs (W : WalksS prog w A.in1 I fp wr G n Pv St) (S : Addr) (hSf : S ∉ fp) (xs : List Str) (hsz : xs.length = n) (nd : xs.Nodup) (hn : n < 64)
    (hval : ∀ i v, Pv i v → ∃ t, v = .str (xs.getD i Str.empty) t) (m : Nat) : ∀ (i : Nat) (s : Shared), n - i = m → i ≤ n → St i s → s.heap.SetOf (PySem.strKind prog w) S (seenS xs i) i →
      (∀ s', Moved (S :: wr) G s s' → s'.heap.SetOf (PySem.strKind prog w) S (seenS xs n) n → R (.ok (.ret .none)) s') →
      codeAny (model prog w) A (.builtin "set.update.loop" ⟨[.ref S, .ref I], []⟩) R s := by
  have out : S ∉ wr := fun h => hSf (W.sub _ h)
  induction m with
  | zero =>
    intro i s hm hi hst hS hR
    obtain rfl : i = n := by omega
    refine codeAny_builtin PyProof.Rows.F.entry_set_update_loop ?_
    rw [Around.under_plainId PyProof.Rows.F.plain_set_update_loop _]
    show wpAny _ A.in1 (pyNext (.ref I) >>= _) _ _ s
    exact wpAny_bind (W.done s _ _ hst fun s' mv => wpAny_pure (hR s' (mv.mono fun b hb => List.mem_cons_of_mem _ hb) (by
      obtain ⟨o, es, ep, t, ho, r⟩ := hS
      exact ⟨o, es, ep, t, mv.heap S _ out ho, r⟩)))
  | succ m ih =>
    intro i s hm hi hst hS hR
    have hlt : i < n := by omega
    refine codeAny_builtin PyProof.Rows.F.entry_set_update_loop ?_
    rw [Around.under_plainId PyProof.Rows.F.plain_set_update_loop _]
    show wpAny _ A.in1 (pyNext (.ref I) >>= _) _ _ s
    refine wpAny_bind (W.item i s _ _ hlt hst fun v s' hP hst' mv => ?_)
    obtain ⟨t, rfl⟩ := hval i v hP
    have hS1 : s'.heap.SetOf (PySem.strKind prog w) S (seenS xs i) i := by
      obtain ⟨o, es, ep, tb, ho, r⟩ := hS
      exact ⟨o, es, ep, tb, mv.heap S _ out ho, r⟩
    show wpAny _ A.in1 (holding [Value.str (xs.getD i Str.empty) t] (setAdd S (.str (xs.getD i Str.empty) t)) >>= _) _ _ s'
    refine wpAny_bind (wpAny_holding ?_)
    unfold setAdd
    refine wpAny_holding (wpAny_bind ((PySem.strKind prog w).pyHash (k := xs.getD i Str.empty) (strKind_is _ _ _ _) ?_))
    refine wpAny_setAddHashed_of (knd := PySem.strKind prog w) (s := { s' with toks := s'.toks + 1 }) (strKind_is _ _ _ _) rfl hS1 (by unfold scanBound; omega) fun h' sb hS2 => ?_
    have hS3 : h'.SetOf (PySem.strKind prog w) S (seenS xs (i + 1)) (i + 1) := by
      refine SetOf_congr hS2 (fun k => seen_succ (by omega) k) ?_
      rw [show seenS xs i (xs.getD i Str.empty) = false from seen_new (by omega) nd]
      rfl
    refine wpAny_pure ⟨plainId_quiet PyProof.Rows.F.plain_set_update_loop _, ih (i + 1) _ (by omega) hlt (W.frame _ s' _ _ hst' (Nat.le_succ _) fun b hb o e => ?_) hS3 fun s2 mv2 hS4 => hR s2 (Moved.trans W.gtrans ((mv.mono fun b hb => List.mem_cons_of_mem _ hb).then_heap (Nat.le_succ _) fun b o hb e => ?_) mv2) hS4⟩
    · rw [sb.2 b (fun h : b = S => hSf (by rw [← h]; exact hb))]; exact e
    · rw [sb.2 b (fun h : b = S => hb (by rw [h]; exact List.mem_cons_self))]; exact e
end
section
variable {prog : Program} {w : World} {A : Around} {E : Value → Shared → Prop} {s : Shared}
set_option maxHeartbeats 3200000 in
/-- set(xs): the place of the new set, what it holds, and that nothing else is changed -/
theorem set_of_strs {l : Addr} {items : Array Value} {xs : List Str} {Q : Value → Shared → Prop} (hh : A.handled = none) (hl : s.heap.IsList l items) (hi : StrsAre items.toList xs) (nd : xs.Nodup) (few : xs.length < 64)
    (h : ∀ (h' : Heap) (tk : Nat), h'.SetOf (PySem.strKind prog w) s.heap.objs.size (seenS xs xs.length) xs.length → (∀ b o, b < s.heap.objs.size → s.heap.get? b = some o → h'.get? b = some o) → Q (.ref s.heap.objs.size) { s with heap := h', toks := tk }) :
    wpAny (model prog w) A (call (.type "set") [.ref l]) Q E s := by
  have hsz : xs.length = items.size := by rw [← StrsAre.len_eq hi, Array.length_toList]
  obtain ⟨c, tl, hmro⟩ := PySem.F.called_set.mro
  have hmade := PySem.F.called_set.made
  have hsub := PySem.F.called_set.sub
  refine wpAny_call (codeAny_of_tree ?_)
  show wpAny _ _ (callAny (.type "set") _) _ _ _
  refine wpAny_pure ⟨Code.quiet_builtin _ (by decide +kernel), codeAny_builtin PySem.F.entry_type_call ?_⟩
  rw [Around.under_plain (weight_type_call_type "set" [.ref l] []) rfl]
  have h1 := PySem.F.called_set.notType
  have h2 := PySem.F.called_set.canCreate
  have hct := PySem.F.typeCall_set_1 (.ref l)
  repeat (any_goals (first | assumption | wp_step))
  refine codeAny_mono (code_set_new_1 (.ref l) (E := E) (Q₁ := fun obj s₁ => ∃ led : Bool, obj = .ref s.heap.objs.size ∧ s₁ = { s with heap := s.heap.push { cls := .type "set", dict := none, data := .set #[] 0 (.fresh 0 0 led) } }) fun led => ⟨led, rfl, rfl⟩) fun r s1 hr => ?_
  cases r with
  | error e => exact hr
  | ok fl =>
    cases fl with
    | ret obj =>
      obtain ⟨led, rfl, rfl⟩ := hr
      have hS := Heap.get?_push_size s.heap (o := ({ cls := .type "set", dict := none, data := .set #[] 0 (.fresh 0 0 led) } : Obj)) rfl
      have hT : Shared.TypeIs { s with heap := s.heap.push { cls := .type "set", dict := none, data := .set #[] 0 (.fresh 0 0 led) } } (.ref s.heap.objs.size) "set" := ⟨_, hS, rfl⟩
      have hli := PySem.F.called_set.init.lookup
      have hbi := PySem.F.called_set.init.bind (.ref s.heap.objs.size)
      repeat (any_goals (first | assumption | wp_step))
      refine codeAny_mono (codeAny_call_builtin (R := wants (fun r s2 => r = .none ∧ ∃ h' tk, s2 = { s with heap := h', toks := tk } ∧ h'.SetOf (PySem.strKind prog w) s.heap.objs.size (seenS xs xs.length) xs.length ∧ (∀ b o, b < s.heap.objs.size → s.heap.get? b = some o → h'.get? b = some o)) E)
        PySem.F.called_set.init.plain PySem.F.entry_set_init (check_set_init_1 hT ?_)) fun r2 s2 hr2 => ?_
      · obtain ⟨⟨lcls, ldict, ldata, lslots⟩, hol, hcl, nl, hdl⟩ := hl
        simp only at hcl hdl
        subst hcl; subst hdl
        have hol2 := Heap.get?_push_of_some ({ cls := .type "set", dict := none, data := .set #[] 0 (.fresh 0 0 led) } : Obj) hol
        have hsls := PySem.F.sub_list_set
        have hslf := PySem.F.sub_list_frozenset
        have hne : (Value.type "list" == Value.type "dict") = false := by decide
        have hl1 : (s.heap.push { cls := .type "set", dict := none, data := .set #[] 0 (.fresh 0 0 led) }).IsList l items := ⟨_, hol2, rfl, nl, rfl⟩
        unfold Builtin.«set.__init__» noKeywords Builtin.Frozenset.updateFrom
        generalize hPI : pyIter = PI
        wp_walk
        subst hPI
        refine wpAny_pyIter_list hl1 (wpAny_bind (wpAny_runValue ?_))
        have below : l < s.heap.objs.size := Heap.lt_size hol
        have hh3 : A.in1.in1.in1.handled = none := by simp [hh]
        have up1 : (s.heap.push { cls := .type "set", dict := none, data := .set #[] 0 (.fresh 0 0 led) }).objs.size = s.heap.objs.size + 1 := Heap.size_push _ _
        have hneI : l ≠ (s.heap.push { cls := .type "set", dict := none, data := .set #[] 0 (.fresh 0 0 led) }).objs.size := by rw [up1]; exact Nat.ne_of_lt (Nat.lt_succ_of_lt below)
        have hSf : s.heap.objs.size ∉ [(s.heap.push { cls := .type "set", dict := none, data := .set #[] 0 (.fresh 0 0 led) }).objs.size, l] := by
          rw [up1]
          intro q
          rcases List.mem_cons.mp q with q | q
          · omega
          · exact absurd (List.mem_singleton.mp q) (Nat.ne_of_gt below)
        have hval : ∀ (i : Nat) (v : Value), items[i]? = some v → ∃ t, v = .str (xs.getD i Str.empty) t := fun i v hv => SS.strs_at hi i v (by rw [Array.getElem?_toList]; exact hv)
        rw [hsz]
        refine loopStrs ((Walks.list hh3 _ l hneI items).toS) s.heap.objs.size hSf xs hsz nd (by omega) hval (items.size - 0) 0 _ rfl (Nat.zero_le _) ⟨⟨_, Heap.get?_push_size _ rfl, rfl, rfl⟩, (hl1.push _)⟩ ?hS0 ?hR
        case hS0 =>
          exact SetOf_congr ((setObjOf_fresh (knd := PySem.strKind prog w) led).setOf (Heap.get?_push_of_some _ hS) (by unfold scanBound; omega)) (fun _ => rfl) rfl
        case hR =>
          rintro ⟨h', g', d', tk', os'⟩ hm hS'
          obtain rfl : g' = s.gens := hm.gens
          obtain rfl : d' = s.drawn := hm.drawn
          obtain rfl : os' = s.os := hm.os
          show wpAny _ _ _ _ _ _
          refine wpAny_pure ?_
          show wpAny _ _ (ret Value.none) _ _ _
          refine wpAny_pure ⟨rfl, h', tk', rfl, hS', fun b o hb e => hm.heap b o (fun q => ?_) (Heap.get?_push_of_some _ (Heap.get?_push_of_some _ e))⟩
          rcases List.mem_cons.mp q with q | q
          · exact Nat.ne_of_lt hb q
          · have q := List.mem_singleton.mp q
            rw [up1] at q
            exact Nat.ne_of_lt (Nat.lt_succ_of_lt hb) q
      · cases r2 with
        | error e => exact hr2
        | ok fl2 =>
          cases fl2 with
          | ret r =>
            obtain ⟨rfl, h', tk, rfl, hS', hk'⟩ := hr2
            repeat (any_goals (first | assumption | wp_step))
            exact h _ _ hS' hk'
          | _ => exact hr2.elim
    | _ => exact hr.elim
end
section
variable {X : Cx}
def tLenSetN (K : PySem.W.Frag) (ta : TE) : TE := fun σ H Q => ta σ H fun x H1 => ∃ l, ∃ xs : List Str, x = .ref l ∧ SqL K H1 l (xs.map V.str) ∧ xs.Nodup ∧ xs.length < 64 ∧ Q (.int xs.length) H1
/-- len(set(xs)), xs a list of different texts -/
theorem pe_lenSetN {a : Expr} {ta : TE} {p p2 q pos : Pos} (hc : X.calm = true) (hg : Gl X "len") (hm : X.mg "len" = none) (hg2 : Gl X "set") (hm2 : X.mg "set" = none) (ha : PE X a ta)
    (na : starEach [a] X.env = (false, eval a X.env) :: starEach [] X.env := by rfl) : PE X (.Call (.Name "len" p) [.Call (.Name "set" p2) [a] [] q] [] pos) (tLenSetN X.K ta) := by
  refine ⟨fun pins s σ H Q I h => ?_⟩
  refine Call_ (ld_blt I hg hm boot_len (PyProof.Rows.callWith_builtin1 (PyProof.Rows.args_cons ?_ rfl) rfl rfl))
  refine Call_ (ld_blt I hg2 hm2 boot_set (PyProof.Rows.callWith_type1 (PyProof.Rows.args_cons (thn (ha.run pins s σ H _ I h) fun v s1 ⟨x, H1, I1, r1, q1⟩ => PyProof.Rows.args_nil ?_) na) na rfl))
  obtain ⟨l, xs, rfl, hq, nd, few, q1⟩ := q1
  cases r1
  obtain ⟨its, r, pl, hz⟩ := I1.list hq
  refine set_of_strs (I1.ok.hd hc) pl.isList (by simpa using strsAre_of r) nd few fun h' tk hS hk => PyProof.Rows.args_nil ?_
  obtain ⟨o, es, ep, t, ho, hex, hd, _, _, _, hf, hn⟩ := hS
  have I2 : Inv X pins σ H1 { s1 with heap := h', toks := tk } := I1.kept fun b o e => hk b o (Heap.lt_size e) e
  exact call_len_set ho hex hd hf (by rw [hn] <;> omega) ⟨.int xs.length, H1, I2.tok _, ⟨_, by rw [hn]⟩, q1⟩
end
end TK

/-! len(set(xs)) of a tuple of different texts -/
namespace TK
open PySem PySem.Spec PyProof.Rows L2
section
variable {prog : Program} {w : World} {A : Around} {E : Value → Shared → Prop} {s : Shared}
set_option maxHeartbeats 3200000 in
/-- set(xs): the place of the new set, what it holds, and that nothing else is changed -/
theorem set_of_strsT {l : Addr} {items : Array Value} {xs : List Str} {Q : Value → Shared → Prop} (hh : A.handled = none) (hl : s.heap.IsTuple l items) (hi : StrsAre items.toList xs) (nd : xs.Nodup) (few : xs.length < 64)
    (h : ∀ (h' : Heap) (tk : Nat), h'.SetOf (PySem.strKind prog w) s.heap.objs.size (seenS xs xs.length) xs.length → (∀ b o, b < s.heap.objs.size → s.heap.get? b = some o → h'.get? b = some o) → Q (.ref s.heap.objs.size) { s with heap := h', toks := tk }) :
    wpAny (model prog w) A (call (.type "set") [.ref l]) Q E s := by
  have hsz : xs.length = items.size := by rw [← StrsAre.len_eq hi, Array.length_toList]
  obtain ⟨c, tl, hmro⟩ := PySem.F.called_set.mro
  have hmade := PySem.F.called_set.made
  have hsub := PySem.F.called_set.sub
  refine wpAny_call (codeAny_of_tree ?_)
  show wpAny _ _ (callAny (.type "set") _) _ _ _
  refine wpAny_pure ⟨Code.quiet_builtin _ (by decide +kernel), codeAny_builtin PySem.F.entry_type_call ?_⟩
  rw [Around.under_plain (weight_type_call_type "set" [.ref l] []) rfl]
  have h1 := PySem.F.called_set.notType
  have h2 := PySem.F.called_set.canCreate
  have hct := PySem.F.typeCall_set_1 (.ref l)
  repeat (any_goals (first | assumption | wp_step))
  refine codeAny_mono (code_set_new_1 (.ref l) (E := E) (Q₁ := fun obj s₁ => ∃ led : Bool, obj = .ref s.heap.objs.size ∧ s₁ = { s with heap := s.heap.push { cls := .type "set", dict := none, data := .set #[] 0 (.fresh 0 0 led) } }) fun led => ⟨led, rfl, rfl⟩) fun r s1 hr => ?_
  cases r with
  | error e => exact hr
  | ok fl =>
    cases fl with
    | ret obj =>
      obtain ⟨led, rfl, rfl⟩ := hr
      have hS := Heap.get?_push_size s.heap (o := ({ cls := .type "set", dict := none, data := .set #[] 0 (.fresh 0 0 led) } : Obj)) rfl
      have hT : Shared.TypeIs { s with heap := s.heap.push { cls := .type "set", dict := none, data := .set #[] 0 (.fresh 0 0 led) } } (.ref s.heap.objs.size) "set" := ⟨_, hS, rfl⟩
      have hli := PySem.F.called_set.init.lookup
      have hbi := PySem.F.called_set.init.bind (.ref s.heap.objs.size)
      repeat (any_goals (first | assumption | wp_step))
      refine codeAny_mono (codeAny_call_builtin (R := wants (fun r s2 => r = .none ∧ ∃ h' tk, s2 = { s with heap := h', toks := tk } ∧ h'.SetOf (PySem.strKind prog w) s.heap.objs.size (seenS xs xs.length) xs.length ∧ (∀ b o, b < s.heap.objs.size → s.heap.get? b = some o → h'.get? b = some o)) E)
        PySem.F.called_set.init.plain PySem.F.entry_set_init (check_set_init_1 hT ?_)) fun r2 s2 hr2 => ?_
      · obtain ⟨⟨lcls, ldict, ldata, lslots⟩, hol, hcl, nl, hdl⟩ := hl
        simp only at hcl hdl
        subst hcl; subst hdl
        have hol2 := Heap.get?_push_of_some ({ cls := .type "set", dict := none, data := .set #[] 0 (.fresh 0 0 led) } : Obj) hol
        have hsls := PySem.F.sub_tuple_set
        have hslf := PySem.F.sub_tuple_frozenset
        have hne : (Value.type "tuple" == Value.type "dict") = false := by decide
        have hl1 : (s.heap.push { cls := .type "set", dict := none, data := .set #[] 0 (.fresh 0 0 led) }).IsTuple l items := ⟨_, hol2, rfl, nl, rfl⟩
        unfold Builtin.«set.__init__» noKeywords Builtin.Frozenset.updateFrom
        generalize hPI : pyIter = PI
        wp_walk
        subst hPI
        refine wpAny_pyIter_tuple hl1 (wpAny_bind (wpAny_runValue ?_))
        have below : l < s.heap.objs.size := Heap.lt_size hol
        have hh3 : A.in1.in1.in1.handled = none := by simp [hh]
        have up1 : (s.heap.push { cls := .type "set", dict := none, data := .set #[] 0 (.fresh 0 0 led) }).objs.size = s.heap.objs.size + 1 := Heap.size_push _ _
        have hneI : l ≠ (s.heap.push { cls := .type "set", dict := none, data := .set #[] 0 (.fresh 0 0 led) }).objs.size := by rw [up1]; exact Nat.ne_of_lt (Nat.lt_succ_of_lt below)
        have hSf : s.heap.objs.size ∉ [(s.heap.push { cls := .type "set", dict := none, data := .set #[] 0 (.fresh 0 0 led) }).objs.size, l] := by
          rw [up1]
          intro q
          rcases List.mem_cons.mp q with q | q
          · omega
          · exact absurd (List.mem_singleton.mp q) (Nat.ne_of_gt below)
        have hval : ∀ (i : Nat) (v : Value), items[i]? = some v → ∃ t, v = .str (xs.getD i Str.empty) t := fun i v hv => SS.strs_at hi i v (by rw [Array.getElem?_toList]; exact hv)
        rw [hsz]
        refine loopStrs ((Walks.tuple hh3 _ l hneI items).toS) s.heap.objs.size hSf xs hsz nd (by omega) hval (items.size - 0) 0 _ rfl (Nat.zero_le _) ⟨⟨_, Heap.get?_push_size _ rfl, rfl, rfl⟩, (hl1.push _)⟩ ?hS0 ?hR
        case hS0 =>
          exact SetOf_congr ((setObjOf_fresh (knd := PySem.strKind prog w) led).setOf (Heap.get?_push_of_some _ hS) (by unfold scanBound; omega)) (fun _ => rfl) rfl
        case hR =>
          rintro ⟨h', g', d', tk', os'⟩ hm hS'
          obtain rfl : g' = s.gens := hm.gens
          obtain rfl : d' = s.drawn := hm.drawn
          obtain rfl : os' = s.os := hm.os
          show wpAny _ _ _ _ _ _
          refine wpAny_pure ?_
          show wpAny _ _ (ret Value.none) _ _ _
          refine wpAny_pure ⟨rfl, h', tk', rfl, hS', fun b o hb e => hm.heap b o (fun q => ?_) (Heap.get?_push_of_some _ (Heap.get?_push_of_some _ e))⟩
          rcases List.mem_cons.mp q with q | q
          · exact Nat.ne_of_lt hb q
          · have q := List.mem_singleton.mp q
            rw [up1] at q
            exact Nat.ne_of_lt (Nat.lt_succ_of_lt hb) q
      · cases r2 with
        | error e => exact hr2
        | ok fl2 =>
          cases fl2 with
          | ret r =>
            obtain ⟨rfl, h', tk, rfl, hS', hk'⟩ := hr2
            repeat (any_goals (first | assumption | wp_step))
            exact h _ _ hS' hk'
          | _ => exact hr2.elim
    | _ => exact hr.elim
end
section
variable {X : Cx}
def tLenSetT (K : PySem.W.Frag) (ta : TE) : TE := fun σ H Q => ta σ H fun x H1 => ∃ l, ∃ xs : List Str, x = .ref l ∧ SqT K H1 l (xs.map V.str) ∧ xs.Nodup ∧ xs.length < 64 ∧ Q (.int xs.length) H1
/-- len(set(xs)), xs a list of different texts -/
theorem pe_lenSetT {a : Expr} {ta : TE} {p p2 q pos : Pos} (hc : X.calm = true) (hg : Gl X "len") (hm : X.mg "len" = none) (hg2 : Gl X "set") (hm2 : X.mg "set" = none) (ha : PE X a ta)
    (na : starEach [a] X.env = (false, eval a X.env) :: starEach [] X.env := by rfl) : PE X (.Call (.Name "len" p) [.Call (.Name "set" p2) [a] [] q] [] pos) (tLenSetT X.K ta) := by
  refine ⟨fun pins s σ H Q I h => ?_⟩
  refine Call_ (ld_blt I hg hm boot_len (PyProof.Rows.callWith_builtin1 (PyProof.Rows.args_cons ?_ rfl) rfl rfl))
  refine Call_ (ld_blt I hg2 hm2 boot_set (PyProof.Rows.callWith_type1 (PyProof.Rows.args_cons (thn (ha.run pins s σ H _ I h) fun v s1 ⟨x, H1, I1, r1, q1⟩ => PyProof.Rows.args_nil ?_) na) na rfl))
  obtain ⟨l, xs, rfl, hq, nd, few, q1⟩ := q1
  cases r1
  obtain ⟨its, r, pl, hz⟩ := I1.tuple hq
  refine set_of_strsT (I1.ok.hd hc) pl (by simpa using strsAre_of r) nd few fun h' tk hS hk => PyProof.Rows.args_nil ?_
  obtain ⟨o, es, ep, t, ho, hex, hd, _, _, _, hf, hn⟩ := hS
  have I2 : Inv X pins σ H1 { s1 with heap := h', toks := tk } := I1.kept fun b o e => hk b o (Heap.lt_size e) e
  exact call_len_set ho hex hd hf (by rw [hn] <;> omega) ⟨.int xs.length, H1, I2.tok _, ⟨_, by rw [hn]⟩, q1⟩
end
end TK

/-! len(set(xs)) of a list or tuple of any texts -/
namespace TK
open PySem PySem.Spec PyProof.Rows L2
/-- how many different texts stand among the first i -/
def cntS (xs : List Str) : Nat → Nat
  | 0 => 0
  | i + 1 => cntS xs i + (if seenS xs i (xs.getD i Str.empty) = true then 0 else 1)
theorem cntS_le (xs : List Str) : ∀ i, cntS xs i ≤ i
  | 0 => Nat.le_refl _
  | i + 1 => by
    have := cntS_le xs i
    unfold cntS
    split <;> omega
theorem seen_mem {xs : List Str} {i : Nat} {k : Str} : seenS xs i k = true ↔ k ∈ xs.take i := by
  show (xs.take i).any (· == k) = true ↔ _
  rw [List.any_eq_true]
  exact ⟨fun ⟨x, hx, q⟩ => eq_of_beq q ▸ hx, fun h => ⟨k, h, beq_self_eq_true _⟩⟩
theorem cntS_nd {xs : List Str} : ∀ i, i ≤ xs.length → (cntS xs i = i ↔ (xs.take i).Nodup)
  | 0, _ => by simp [cntS]
  | i + 1, h => by
    have hi : i < xs.length := h
    have e : xs.getD i Str.empty = xs[i] := by rw [List.getD_eq_getElem?_getD, List.getElem?_eq_getElem hi]; rfl
    have ih := cntS_nd (xs := xs) i (by omega)
    have le := cntS_le xs i
    rw [List.take_add_one, List.getElem?_eq_getElem hi]
    show cntS xs i + (if seenS xs i (xs.getD i Str.empty) = true then 0 else 1) = i + 1 ↔ (xs.take i ++ [xs[i]]).Nodup
    rw [e, List.nodup_append]
    by_cases m : xs[i] ∈ xs.take i
    · rw [if_pos (seen_mem.mpr m)]
      refine ⟨fun z => by omega, fun z => absurd rfl (z.2.2 _ m _ (List.mem_singleton.mpr rfl))⟩
    · rw [if_neg (fun z => m (seen_mem.mp z))]
      refine ⟨fun z => ⟨ih.mp (by omega), by simp, fun a ha b hb e => m (by rw [List.mem_singleton.mp hb] at e; exact e ▸ ha)⟩, fun z => by have := ih.mpr z.1; omega⟩
theorem cnt_all {xs : List Str} : cntS xs xs.length = xs.length ↔ xs.Nodup := by
  have := cntS_nd (xs := xs) xs.length (Nat.le_refl _)
  rwa [List.take_length] at this
section
variable {prog : Program} {w : World} {A : Around} {R : Result → Shared → Prop} {I : Addr} {fp wr : List Addr} {G : Array GenState → Array GenState → Prop} {n : Nat} {Pv : Nat → Value → Prop} {St : Nat → Shared → Prop}
theorem loopStrsD (W : WalksS prog w A.in1 I fp wr G n Pv St) (S : Addr) (hSf : S ∉ fp) (xs : List Str) (hsz : xs.length = n) (hn : n < 64)
    (hval : ∀ i v, Pv i v → ∃ t, v = .str (xs.getD i Str.empty) t) (m : Nat) : ∀ (i : Nat) (s : Shared), n - i = m → i ≤ n → St i s → s.heap.SetOf (PySem.strKind prog w) S (seenS xs i) (cntS xs i) →
      (∀ s', Moved (S :: wr) G s s' → s'.heap.SetOf (PySem.strKind prog w) S (seenS xs n) (cntS xs n) → R (.ok (.ret .none)) s') →
      codeAny (model prog w) A (.builtin "set.update.loop" ⟨[.ref S, .ref I], []⟩) R s := by
  have out : S ∉ wr := fun h => hSf (W.sub _ h)
  induction m with
  | zero =>
    intro i s hm hi hst hS hR
    obtain rfl : i = n := by omega
    refine codeAny_builtin PyProof.Rows.F.entry_set_update_loop ?_
    rw [Around.under_plainId PyProof.Rows.F.plain_set_update_loop _]
    show wpAny _ A.in1 (pyNext (.ref I) >>= _) _ _ s
    exact wpAny_bind (W.done s _ _ hst fun s' mv => wpAny_pure (hR s' (mv.mono fun b hb => List.mem_cons_of_mem _ hb) (by
      obtain ⟨o, es, ep, t, ho, r⟩ := hS
      exact ⟨o, es, ep, t, mv.heap S _ out ho, r⟩)))
  | succ m ih =>
    intro i s hm hi hst hS hR
    have hlt : i < n := by omega
    refine codeAny_builtin PyProof.Rows.F.entry_set_update_loop ?_
    rw [Around.under_plainId PyProof.Rows.F.plain_set_update_loop _]
    show wpAny _ A.in1 (pyNext (.ref I) >>= _) _ _ s
    refine wpAny_bind (W.item i s _ _ hlt hst fun v s' hP hst' mv => ?_)
    obtain ⟨t, rfl⟩ := hval i v hP
    have hS1 : s'.heap.SetOf (PySem.strKind prog w) S (seenS xs i) (cntS xs i) := by
      obtain ⟨o, es, ep, tb, ho, r⟩ := hS
      exact ⟨o, es, ep, tb, mv.heap S _ out ho, r⟩
    show wpAny _ A.in1 (holding [Value.str (xs.getD i Str.empty) t] (setAdd S (.str (xs.getD i Str.empty) t)) >>= _) _ _ s'
    refine wpAny_bind (wpAny_holding ?_)
    unfold setAdd
    refine wpAny_holding (wpAny_bind ((PySem.strKind prog w).pyHash (k := xs.getD i Str.empty) (strKind_is _ _ _ _) ?_))
    refine wpAny_setAddHashed_of (knd := PySem.strKind prog w) (s := { s' with toks := s'.toks + 1 }) (strKind_is _ _ _ _) rfl hS1 (by unfold scanBound; have := cntS_le xs i; omega) fun h' sb hS2 => ?_
    have hS3 : h'.SetOf (PySem.strKind prog w) S (seenS xs (i + 1)) (cntS xs (i + 1)) := by
      refine SetOf_congr hS2 (fun k => seen_succ (by omega) k) ?_
      show _ = cntS xs i + (if seenS xs i (xs.getD i Str.empty) = true then 0 else 1)
      split <;> rfl
    refine wpAny_pure ⟨plainId_quiet PyProof.Rows.F.plain_set_update_loop _, ih (i + 1) _ (by omega) hlt (W.frame _ s' _ _ hst' (Nat.le_succ _) fun b hb o e => ?_) hS3 fun s2 mv2 hS4 => hR s2 (Moved.trans W.gtrans ((mv.mono fun b hb => List.mem_cons_of_mem _ hb).then_heap (Nat.le_succ _) fun b o hb e => ?_) mv2) hS4⟩
    · rw [sb.2 b (fun h : b = S => hSf (by rw [← h]; exact hb))]; exact e
    · rw [sb.2 b (fun h : b = S => hb (by rw [h]; exact List.mem_cons_self))]; exact e
end
section
variable {prog : Program} {w : World} {A : Around} {E : Value → Shared → Prop} {s : Shared}
set_option maxHeartbeats 3200000 in
/-- set(xs): the place of the new set, what it holds, and that nothing else is changed -/
theorem set_of_strsD {l : Addr} {items : Array Value} {xs : List Str} {Q : Value → Shared → Prop} (hh : A.handled = none) (hl : s.heap.IsList l items) (hi : StrsAre items.toList xs) (few : xs.length < 64)
    (h : ∀ (h' : Heap) (tk : Nat), h'.SetOf (PySem.strKind prog w) s.heap.objs.size (seenS xs xs.length) (cntS xs xs.length) → (∀ b o, b < s.heap.objs.size → s.heap.get? b = some o → h'.get? b = some o) → Q (.ref s.heap.objs.size) { s with heap := h', toks := tk }) :
    wpAny (model prog w) A (call (.type "set") [.ref l]) Q E s := by
  have hsz : xs.length = items.size := by rw [← StrsAre.len_eq hi, Array.length_toList]
  obtain ⟨c, tl, hmro⟩ := PySem.F.called_set.mro
  have hmade := PySem.F.called_set.made
  have hsub := PySem.F.called_set.sub
  refine wpAny_call (codeAny_of_tree ?_)
  show wpAny _ _ (callAny (.type "set") _) _ _ _
  refine wpAny_pure ⟨Code.quiet_builtin _ (by decide +kernel), codeAny_builtin PySem.F.entry_type_call ?_⟩
  rw [Around.under_plain (weight_type_call_type "set" [.ref l] []) rfl]
  have h1 := PySem.F.called_set.notType
  have h2 := PySem.F.called_set.canCreate
  have hct := PySem.F.typeCall_set_1 (.ref l)
  repeat (any_goals (first | assumption | wp_step))
  refine codeAny_mono (code_set_new_1 (.ref l) (E := E) (Q₁ := fun obj s₁ => ∃ led : Bool, obj = .ref s.heap.objs.size ∧ s₁ = { s with heap := s.heap.push { cls := .type "set", dict := none, data := .set #[] 0 (.fresh 0 0 led) } }) fun led => ⟨led, rfl, rfl⟩) fun r s1 hr => ?_
  cases r with
  | error e => exact hr
  | ok fl =>
    cases fl with
    | ret obj =>
      obtain ⟨led, rfl, rfl⟩ := hr
      have hS := Heap.get?_push_size s.heap (o := ({ cls := .type "set", dict := none, data := .set #[] 0 (.fresh 0 0 led) } : Obj)) rfl
      have hT : Shared.TypeIs { s with heap := s.heap.push { cls := .type "set", dict := none, data := .set #[] 0 (.fresh 0 0 led) } } (.ref s.heap.objs.size) "set" := ⟨_, hS, rfl⟩
      have hli := PySem.F.called_set.init.lookup
      have hbi := PySem.F.called_set.init.bind (.ref s.heap.objs.size)
      repeat (any_goals (first | assumption | wp_step))
      refine codeAny_mono (codeAny_call_builtin (R := wants (fun r s2 => r = .none ∧ ∃ h' tk, s2 = { s with heap := h', toks := tk } ∧ h'.SetOf (PySem.strKind prog w) s.heap.objs.size (seenS xs xs.length) (cntS xs xs.length) ∧ (∀ b o, b < s.heap.objs.size → s.heap.get? b = some o → h'.get? b = some o)) E)
        PySem.F.called_set.init.plain PySem.F.entry_set_init (check_set_init_1 hT ?_)) fun r2 s2 hr2 => ?_
      · obtain ⟨⟨lcls, ldict, ldata, lslots⟩, hol, hcl, nl, hdl⟩ := hl
        simp only at hcl hdl
        subst hcl; subst hdl
        have hol2 := Heap.get?_push_of_some ({ cls := .type "set", dict := none, data := .set #[] 0 (.fresh 0 0 led) } : Obj) hol
        have hsls := PySem.F.sub_list_set
        have hslf := PySem.F.sub_list_frozenset
        have hne : (Value.type "list" == Value.type "dict") = false := by decide
        have hl1 : (s.heap.push { cls := .type "set", dict := none, data := .set #[] 0 (.fresh 0 0 led) }).IsList l items := ⟨_, hol2, rfl, nl, rfl⟩
        unfold Builtin.«set.__init__» noKeywords Builtin.Frozenset.updateFrom
        generalize hPI : pyIter = PI
        wp_walk
        subst hPI
        refine wpAny_pyIter_list hl1 (wpAny_bind (wpAny_runValue ?_))
        have below : l < s.heap.objs.size := Heap.lt_size hol
        have hh3 : A.in1.in1.in1.handled = none := by simp [hh]
        have up1 : (s.heap.push { cls := .type "set", dict := none, data := .set #[] 0 (.fresh 0 0 led) }).objs.size = s.heap.objs.size + 1 := Heap.size_push _ _
        have hneI : l ≠ (s.heap.push { cls := .type "set", dict := none, data := .set #[] 0 (.fresh 0 0 led) }).objs.size := by rw [up1]; exact Nat.ne_of_lt (Nat.lt_succ_of_lt below)
        have hSf : s.heap.objs.size ∉ [(s.heap.push { cls := .type "set", dict := none, data := .set #[] 0 (.fresh 0 0 led) }).objs.size, l] := by
          rw [up1]
          intro q
          rcases List.mem_cons.mp q with q | q
          · omega
          · exact absurd (List.mem_singleton.mp q) (Nat.ne_of_gt below)
        have hval : ∀ (i : Nat) (v : Value), items[i]? = some v → ∃ t, v = .str (xs.getD i Str.empty) t := fun i v hv => SS.strs_at hi i v (by rw [Array.getElem?_toList]; exact hv)
        rw [hsz]
        refine loopStrsD ((Walks.list hh3 _ l hneI items).toS) s.heap.objs.size hSf xs hsz (by omega) hval (items.size - 0) 0 _ rfl (Nat.zero_le _) ⟨⟨_, Heap.get?_push_size _ rfl, rfl, rfl⟩, (hl1.push _)⟩ ?hS0 ?hR
        case hS0 =>
          exact SetOf_congr ((setObjOf_fresh (knd := PySem.strKind prog w) led).setOf (Heap.get?_push_of_some _ hS) (by unfold scanBound; omega)) (fun _ => rfl) rfl
        case hR =>
          rintro ⟨h', g', d', tk', os'⟩ hm hS'
          obtain rfl : g' = s.gens := hm.gens
          obtain rfl : d' = s.drawn := hm.drawn
          obtain rfl : os' = s.os := hm.os
          show wpAny _ _ _ _ _ _
          refine wpAny_pure ?_
          show wpAny _ _ (ret Value.none) _ _ _
          refine wpAny_pure ⟨rfl, h', tk', rfl, hS', fun b o hb e => hm.heap b o (fun q => ?_) (Heap.get?_push_of_some _ (Heap.get?_push_of_some _ e))⟩
          rcases List.mem_cons.mp q with q | q
          · exact Nat.ne_of_lt hb q
          · have q := List.mem_singleton.mp q
            rw [up1] at q
            exact Nat.ne_of_lt (Nat.lt_succ_of_lt hb) q
      · cases r2 with
        | error e => exact hr2
        | ok fl2 =>
          cases fl2 with
          | ret r =>
            obtain ⟨rfl, h', tk, rfl, hS', hk'⟩ := hr2
            repeat (any_goals (first | assumption | wp_step))
            exact h _ _ hS' hk'
          | _ => exact hr2.elim
    | _ => exact hr.elim
end
section
variable {X : Cx}
def tLenSetD (K : PySem.W.Frag) (ta : TE) : TE := fun σ H Q => ta σ H fun x H1 => ∃ l, ∃ xs : List Str, x = .ref l ∧ SqL K H1 l (xs.map V.str) ∧ xs.length < 64 ∧ Q (.int (cntS xs xs.length)) H1
/-- len(set(xs)), xs a list of different texts -/
theorem pe_lenSetD {a : Expr} {ta : TE} {p p2 q pos : Pos} (hc : X.calm = true) (hg : Gl X "len") (hm : X.mg "len" = none) (hg2 : Gl X "set") (hm2 : X.mg "set" = none) (ha : PE X a ta)
    (na : starEach [a] X.env = (false, eval a X.env) :: starEach [] X.env := by rfl) : PE X (.Call (.Name "len" p) [.Call (.Name "set" p2) [a] [] q] [] pos) (tLenSetD X.K ta) := by
  refine ⟨fun pins s σ H Q I h => ?_⟩
  refine Call_ (ld_blt I hg hm boot_len (PyProof.Rows.callWith_builtin1 (PyProof.Rows.args_cons ?_ rfl) rfl rfl))
  refine Call_ (ld_blt I hg2 hm2 boot_set (PyProof.Rows.callWith_type1 (PyProof.Rows.args_cons (thn (ha.run pins s σ H _ I h) fun v s1 ⟨x, H1, I1, r1, q1⟩ => PyProof.Rows.args_nil ?_) na) na rfl))
  obtain ⟨l, xs, rfl, hq, few, q1⟩ := q1
  cases r1
  obtain ⟨its, r, pl, hz⟩ := I1.list hq
  refine set_of_strsD (I1.ok.hd hc) pl.isList (by simpa using strsAre_of r) few fun h' tk hS hk => PyProof.Rows.args_nil ?_
  obtain ⟨o, es, ep, t, ho, hex, hd, _, _, _, hf, hn⟩ := hS
  have I2 : Inv X pins σ H1 { s1 with heap := h', toks := tk } := I1.kept fun b o e => hk b o (Heap.lt_size e) e
  exact call_len_set ho hex hd hf (by rw [hn]; have := cntS_le xs xs.length; omega) ⟨.int (cntS xs xs.length), H1, I2.tok _, ⟨_, by rw [hn]⟩, q1⟩
end
section
variable {prog : Program} {w : World} {A : Around} {E : Value → Shared → Prop} {s : Shared}
set_option maxHeartbeats 3200000 in
/-- set(xs): the place of the new set, what it holds, and that nothing else is changed -/
theorem set_of_strsDT {l : Addr} {items : Array Value} {xs : List Str} {Q : Value → Shared → Prop} (hh : A.handled = none) (hl : s.heap.IsTuple l items) (hi : StrsAre items.toList xs) (few : xs.length < 64)
    (h : ∀ (h' : Heap) (tk : Nat), h'.SetOf (PySem.strKind prog w) s.heap.objs.size (seenS xs xs.length) (cntS xs xs.length) → (∀ b o, b < s.heap.objs.size → s.heap.get? b = some o → h'.get? b = some o) → Q (.ref s.heap.objs.size) { s with heap := h', toks := tk }) :
    wpAny (model prog w) A (call (.type "set") [.ref l]) Q E s := by
  have hsz : xs.length = items.size := by rw [← StrsAre.len_eq hi, Array.length_toList]
  obtain ⟨c, tl, hmro⟩ := PySem.F.called_set.mro
  have hmade := PySem.F.called_set.made
  have hsub := PySem.F.called_set.sub
  refine wpAny_call (codeAny_of_tree ?_)
  show wpAny _ _ (callAny (.type "set") _) _ _ _
  refine wpAny_pure ⟨Code.quiet_builtin _ (by decide +kernel), codeAny_builtin PySem.F.entry_type_call ?_⟩
  rw [Around.under_plain (weight_type_call_type "set" [.ref l] []) rfl]
  have h1 := PySem.F.called_set.notType
  have h2 := PySem.F.called_set.canCreate
  have hct := PySem.F.typeCall_set_1 (.ref l)
  repeat (any_goals (first | assumption | wp_step))
  refine codeAny_mono (code_set_new_1 (.ref l) (E := E) (Q₁ := fun obj s₁ => ∃ led : Bool, obj = .ref s.heap.objs.size ∧ s₁ = { s with heap := s.heap.push { cls := .type "set", dict := none, data := .set #[] 0 (.fresh 0 0 led) } }) fun led => ⟨led, rfl, rfl⟩) fun r s1 hr => ?_
  cases r with
  | error e => exact hr
  | ok fl =>
    cases fl with
    | ret obj =>
      obtain ⟨led, rfl, rfl⟩ := hr
      have hS := Heap.get?_push_size s.heap (o := ({ cls := .type "set", dict := none, data := .set #[] 0 (.fresh 0 0 led) } : Obj)) rfl
      have hT : Shared.TypeIs { s with heap := s.heap.push { cls := .type "set", dict := none, data := .set #[] 0 (.fresh 0 0 led) } } (.ref s.heap.objs.size) "set" := ⟨_, hS, rfl⟩
      have hli := PySem.F.called_set.init.lookup
      have hbi := PySem.F.called_set.init.bind (.ref s.heap.objs.size)
      repeat (any_goals (first | assumption | wp_step))
      refine codeAny_mono (codeAny_call_builtin (R := wants (fun r s2 => r = .none ∧ ∃ h' tk, s2 = { s with heap := h', toks := tk } ∧ h'.SetOf (PySem.strKind prog w) s.heap.objs.size (seenS xs xs.length) (cntS xs xs.length) ∧ (∀ b o, b < s.heap.objs.size → s.heap.get? b = some o → h'.get? b = some o)) E)
        PySem.F.called_set.init.plain PySem.F.entry_set_init (check_set_init_1 hT ?_)) fun r2 s2 hr2 => ?_
      · obtain ⟨⟨lcls, ldict, ldata, lslots⟩, hol, hcl, nl, hdl⟩ := hl
        simp only at hcl hdl
        subst hcl; subst hdl
        have hol2 := Heap.get?_push_of_some ({ cls := .type "set", dict := none, data := .set #[] 0 (.fresh 0 0 led) } : Obj) hol
        have hsls := PySem.F.sub_tuple_set
        have hslf := PySem.F.sub_tuple_frozenset
        have hne : (Value.type "tuple" == Value.type "dict") = false := by decide
        have hl1 : (s.heap.push { cls := .type "set", dict := none, data := .set #[] 0 (.fresh 0 0 led) }).IsTuple l items := ⟨_, hol2, rfl, nl, rfl⟩
        unfold Builtin.«set.__init__» noKeywords Builtin.Frozenset.updateFrom
        generalize hPI : pyIter = PI
        wp_walk
        subst hPI
        refine wpAny_pyIter_tuple hl1 (wpAny_bind (wpAny_runValue ?_))
        have below : l < s.heap.objs.size := Heap.lt_size hol
        have hh3 : A.in1.in1.in1.handled = none := by simp [hh]
        have up1 : (s.heap.push { cls := .type "set", dict := none, data := .set #[] 0 (.fresh 0 0 led) }).objs.size = s.heap.objs.size + 1 := Heap.size_push _ _
        have hneI : l ≠ (s.heap.push { cls := .type "set", dict := none, data := .set #[] 0 (.fresh 0 0 led) }).objs.size := by rw [up1]; exact Nat.ne_of_lt (Nat.lt_succ_of_lt below)
        have hSf : s.heap.objs.size ∉ [(s.heap.push { cls := .type "set", dict := none, data := .set #[] 0 (.fresh 0 0 led) }).objs.size, l] := by
          rw [up1]
          intro q
          rcases List.mem_cons.mp q with q | q
          · omega
          · exact absurd (List.mem_singleton.mp q) (Nat.ne_of_gt below)
        have hval : ∀ (i : Nat) (v : Value), items[i]? = some v → ∃ t, v = .str (xs.getD i Str.empty) t := fun i v hv => SS.strs_at hi i v (by rw [Array.getElem?_toList]; exact hv)
        rw [hsz]
        refine loopStrsD ((Walks.tuple hh3 _ l hneI items).toS) s.heap.objs.size hSf xs hsz (by omega) hval (items.size - 0) 0 _ rfl (Nat.zero_le _) ⟨⟨_, Heap.get?_push_size _ rfl, rfl, rfl⟩, (hl1.push _)⟩ ?hS0 ?hR
        case hS0 =>
          exact SetOf_congr ((setObjOf_fresh (knd := PySem.strKind prog w) led).setOf (Heap.get?_push_of_some _ hS) (by unfold scanBound; omega)) (fun _ => rfl) rfl
        case hR =>
          rintro ⟨h', g', d', tk', os'⟩ hm hS'
          obtain rfl : g' = s.gens := hm.gens
          obtain rfl : d' = s.drawn := hm.drawn
          obtain rfl : os' = s.os := hm.os
          show wpAny _ _ _ _ _ _
          refine wpAny_pure ?_
          show wpAny _ _ (ret Value.none) _ _ _
          refine wpAny_pure ⟨rfl, h', tk', rfl, hS', fun b o hb e => hm.heap b o (fun q => ?_) (Heap.get?_push_of_some _ (Heap.get?_push_of_some _ e))⟩
          rcases List.mem_cons.mp q with q | q
          · exact Nat.ne_of_lt hb q
          · have q := List.mem_singleton.mp q
            rw [up1] at q
            exact Nat.ne_of_lt (Nat.lt_succ_of_lt hb) q
      · cases r2 with
        | error e => exact hr2
        | ok fl2 =>
          cases fl2 with
          | ret r =>
            obtain ⟨rfl, h', tk, rfl, hS', hk'⟩ := hr2
            repeat (any_goals (first | assumption | wp_step))
            exact h _ _ hS' hk'
          | _ => exact hr2.elim
    | _ => exact hr.elim
end
section
variable {X : Cx}
def tLenSetDT (K : PySem.W.Frag) (ta : TE) : TE := fun σ H Q => ta σ H fun x H1 => ∃ l, ∃ xs : List Str, x = .ref l ∧ SqT K H1 l (xs.map V.str) ∧ xs.length < 64 ∧ Q (.int (cntS xs xs.length)) H1
/-- len(set(xs)), xs a list of different texts -/
theorem pe_lenSetDT {a : Expr} {ta : TE} {p p2 q pos : Pos} (hc : X.calm = true) (hg : Gl X "len") (hm : X.mg "len" = none) (hg2 : Gl X "set") (hm2 : X.mg "set" = none) (ha : PE X a ta)
    (na : starEach [a] X.env = (false, eval a X.env) :: starEach [] X.env := by rfl) : PE X (.Call (.Name "len" p) [.Call (.Name "set" p2) [a] [] q] [] pos) (tLenSetDT X.K ta) := by
  refine ⟨fun pins s σ H Q I h => ?_⟩
  refine Call_ (ld_blt I hg hm boot_len (PyProof.Rows.callWith_builtin1 (PyProof.Rows.args_cons ?_ rfl) rfl rfl))
  refine Call_ (ld_blt I hg2 hm2 boot_set (PyProof.Rows.callWith_type1 (PyProof.Rows.args_cons (thn (ha.run pins s σ H _ I h) fun v s1 ⟨x, H1, I1, r1, q1⟩ => PyProof.Rows.args_nil ?_) na) na rfl))
  obtain ⟨l, xs, rfl, hq, few, q1⟩ := q1
  cases r1
  obtain ⟨its, r, pl, hz⟩ := I1.tuple hq
  refine set_of_strsDT (I1.ok.hd hc) pl (by simpa using strsAre_of r) few fun h' tk hS hk => PyProof.Rows.args_nil ?_
  obtain ⟨o, es, ep, t, ho, hex, hd, _, _, _, hf, hn⟩ := hS
  have I2 : Inv X pins σ H1 { s1 with heap := h', toks := tk } := I1.kept fun b o e => hk b o (Heap.lt_size e) e
  exact call_len_set ho hex hd hf (by rw [hn]; have := cntS_le xs xs.length; omega) ⟨.int (cntS xs xs.length), H1, I2.tok _, ⟨_, by rw [hn]⟩, q1⟩
end
end TK

/-! raise X(e), X an own exception whose __init__ says super().__init__(..); self.f = e -/
namespace TK
open PySem PySem.Spec PyProof.Rows L2 NdefX
/-- what is told of X, at C, its __init__ at fI -/
structure SupT (P : Program) (w : World) (K : PySem.W.Frag) (mg : Str → Option Value) (base : Heap) (x arg fld : Str) (okv : V → Prop) (C fI : Addr) (fd : FuncData) : Prop where
  gC : mg x = some (.ref C)
  T : OexC K C
  iC : PySem.W.findIn K (.ref C) "__init__" = some (some (.ref fI))
  tI : PySem.W.typeIn K (.ref fI) = some (.type "function")
  F : FnOk P w K mg base CX0 1 fI fd ["self", arg] (spSup C fld okv)
  b : Binds K fd ["self", arg] []
  xf : XfC K C
  noN : PySem.W.findIn K (.ref C) fld = some none
  te : PySem.W.exmOne K (.ref C) (.ref C) = some true
/-- what the making asks -/
theorem sup_read {C : Addr} {fld : Str} {okv : V → Prop} {v : V} {H1 : Hp} {Q : XK} (ok : okv v) (q : ∀ d, H1 d = none → Q (.ref C) (some d) (upd H1 d (.xd [(fld, v)]))) :
    ([v] : List V).length ≤ 1000 ∧ ∀ a, H1 a = none → spSup C fld okv (.ref a :: ([v] ++ [])) (upd H1 a (exo a C none))
      (fun v H2 => v = .non ∧ ∃ (d : Addr) (fs : List (Str × V)), H2 a = some (exo a C (some d)) ∧ H2 d = some (exd d fs) ∧ H1 d = none ∧ Q (.ref C) (some d) (upd (del H2 a) d (.xd fs))) (fun _ _ _ => False) := by
  refine ⟨(show (1 : Nat) ≤ 1000 by decide), fun a na => ⟨a, v, rfl, ok, upd_same, fun dx hdx ne => ⟨rfl, dx, [(fld, v)], upd_same, ?_, ?_, ?_⟩⟩⟩
  · rw [upd_ne ne]; exact upd_same
  · rw [upd_ne ne] at hdx; exact hdx
  · rw [upd_ne ne] at hdx
    have e : upd (del (upd (upd (upd H1 a (exo a C none)) dx (exd dx [(fld, v)])) a (exo a C (some dx))) a) dx (.xd [(fld, v)]) = upd H1 dx (.xd [(fld, v)]) := by
      funext b
      by_cases h1 : b = dx
      · rw [h1, upd_same, upd_same]
      · rw [upd_ne h1, upd_ne h1]
        by_cases h2 : b = a
        · rw [h2, del_same, na]
        · rw [del_ne h2, upd_ne h2, upd_ne h1, upd_ne h2]
    rw [e]
    exact q dx hdx
section
variable {X : Cx} {W : WX} {x arg fld : Str} {okv : V → Prop} {C fI : Addr} {fd : FuncData} {e : Expr} {ta : TA} {p pos pos2 : Pos}
theorem ps_raiseSup (hc : X.calm = true) (T : SupT X.prog X.w X.K X.mg X.base x arg fld okv C fI fd) (hr : Room 2 X.A) (tk : Takes X W) (ha : PA X [e] ta) (hg : Gl X x)
    (hdb : (x == ("__debug__" : Str)) = false := by decide) (he : starEach (e :: []) X.env = (false, eval e X.env) :: starEach [] X.env := by rfl) (hpl : (backTo pos (starEach [] X.env)).any (·.1) = false := by rfl) :
    PS X (.Raise (some (.Call (.Name x p) [e] [] pos)) none pos2) (fun _ σ H => tMkO C (spSup C fld okv) [] ta σ H fun cls d H' => W cls d σ H') :=
  ps_raise hc tk (pmk_oex (dvs := []) T.T T.iC T.tI T.F hr T.b .nil (fun _ _ _ _ _ _ _ h => h.elim) hg T.gC ha hdb he hpl)
end
end TK

/-! X(), X an own exception without an __init__ -/
namespace TK
open PySem PySem.Spec PyProof.Rows L2
theorem pmk_own0 {X : Cx} {C : Addr} {bmB : List Value} {B newId initId : String} {x : Str} {p pos : Pos} (F : ExcBaseFacts B newId initId bmB) (q : PySem.W.excIn X.K C bmB newId = true) (gC : X.mg x = some (.ref C)) (kC : PySem.W.keepIn X.K (.ref C) = true) (r : Raises X (.ref C)) (hg : Gl X x)
    (hdb : (x == ("__debug__" : Str)) = false := by decide) : PMk X (.Call (.Name x p) [] [] pos) (fun _ H Q => Q (.ref C) none H) := by
  intro pins s σ H Q I h
  refine wpAny_Call_Name_kw (ld_glob I hg gC ?_ hdb)
  refine PySem.W.callWith_K0 I.kIn kC ?_
  show wpAny _ _ (call (.ref C) []) _ _ _
  obtain ⟨bm, N, nm, qn, bs, hdct, sn, sub, ab, col, dd, k0, k1, k2, k3, k5, mN, hC, hN, hni, T⟩ := exc_obj I.kIn q
  refine wpAny_call_exc_subT F T hC hN hni (fun h' e hm => ?_) (by show 0 ≤ sizeLine; exact Nat.zero_le _)
  exact mk_of I hm r h (I.hok.gone hm.new)
end TK

/-! isinstance of a caught exception that has its dict -/
namespace TK
section
open PySem PySem.W PySem.Spec PySem.Calls PyProof.Rows
variable {prog : Program} {w : World} {A : Around} {E : Value → Shared → Prop} {s : Shared} {K : Frag} {x D : Addr} {ox : Obj}
theorem findObj_dataO {C : Addr} {odc : Option Obj} {name : Str} {a g : Value} (hc : (clsIn K C).isSome = true) (ha : findIn K (.ref C) name = some (some a)) (hg : specialIn K a "__get__" = some (some g)) (ht : takesIn K a = some true) : findObj K C odc name = some (.bind g a) := by
  obtain ⟨cd, hc⟩ := Option.isSome_iff_exists.mp hc
  unfold findObj
  rw [hc, Option.bind_some, ha, Option.bind_some]
  simp [hg, ht]
theorem kin_classEo {Q : Option Value → Shared → Prop} (hga : findIn K (.ref D) "__getattribute__" = some (some (.builtin "BaseException.__getattribute__"))) (hgt : findIn K (.ref D) "__getattr__" = some none) (hsub : subIn K (.ref D) (.type "BaseException") = some true)
    (hdct : hasDictIn K D = true) (ha : findIn K (.ref D) "__class__" = some (some (.builtin "object.__class__")))
    (hn : specialIn K (.builtin "object.__class__") "__get__" = some (some (.builtin "getset_descriptor.__get__"))) (htk : takesIn K (.builtin "object.__class__") = some true) (hm : mroIn K D (.type "object") = some true)
    {odc : Option Obj} (X : K.In s.heap) (I : InstAt s.heap x ox D odc) (h : Q (some (.ref D)) { s with toks := s.toks + 1 }) : wpAny (model prog w) A (getAttr? (.ref x) "__class__") Q E s := by
  have hf : findObj K D odc "__class__" = some (.bind (.builtin "getset_descriptor.__get__") (.builtin "object.__class__")) := findObj_dataO (by obtain ⟨cd, hc, _⟩ := any_some hdct; rw [hc]; rfl) ha hn htk
  obtain ⟨hp, g, d, t, os⟩ := s
  have L0 := I.type (M := model prog w)
  have L1 := looks_findIn (M := model prog w) X hga
  have L2 := looks_findIn (M := model prog w) X hgt
  have L3 := looks_find (M := model prog w) X I hf
  have sub : Looks (model prog w) hp (isInstance (.ref x) (.type "BaseException")) true := L0.andThen (looks_subIn X hsub)
  have hx0 : (false && onTheHeap (Value.builtin "BaseException.__getattribute__")) = false := rfl
  have hx2 : (Value.builtin "BaseException.__getattribute__" == Value.builtin "object.__getattribute__") = false := by decide +kernel
  have hx1 : (onTheHeap (Value.ref D) && Value.builtin "BaseException.__getattribute__" == Value.builtin "object.__getattribute__") = false := by rw [hx2]; rfl
  unfold getAttr? getAttrBy? getAttrBy
  refine wpAny_bind (wpAny_mkText (wpAny_bind (wpAny_attempt (wpAny_holding (wpAny_bind (L0.at (wpAny_bind (L1.at ?_))))))))
  show wpAny _ _ (if (onTheHeap (Value.ref D) && Value.builtin "BaseException.__getattribute__" == Value.builtin "object.__getattribute__") = true then _ else _) _ _ _
  rw [hx1, if_neg Bool.false_ne_true]
  unfold getAttrByItsOwn hookBefore
  refine wpAny_bind ?_
  rw [if_pos (show onTheHeap (Value.ref D) = true from rfl)]
  refine L2.at ?_
  refine wpAny_bind (wpAny_attempt (wpAny_holding ?_))
  unfold callGetattribute
  rw [hx0, if_neg Bool.false_ne_true]
  unfold boundAndCalled
  rw [PySem.F.excAttr_ValueError.ga.bind (.ref x)]
  refine wpAny_bind (wpAny_pure ?_)
  show wpAny _ _ (call (.builtin "BaseException.__getattribute__") [.ref x, .str "__class__" t]) _ _ _
  refine wpAny_call (codeAny_call_builtin PySem.F.excAttr_ValueError.ga.plain PySem.F.entry_bexc_ga ?_)
  refine @check_slot (model prog w) _ _ ⟨hp, g, d, t + 1, os⟩ "BaseException.__getattribute__" "BaseException" "__getattribute__" (.ref x) [.str "__class__" t] [] _ (by decide +kernel) (by decide +kernel) sub (PySem.F.args_bexc_ga (.ref x) (.str "__class__" t)) ?_
  unfold Builtin.«object.__getattribute__»
  refine wpAny_bind (wpAny_of_eq (a := ((Value.ref x : Value), [Value.str "__class__" t])) (by first | rfl | (simp only [slotArgs]; rfl)) ?_)
  refine wpAny_bind (wpAny_pure (wpAny_bind (L0.at (wpAny_bind (L3.at ?_)))))
  show wpAny _ _ (holding [Value.builtin "object.__class__"] (call (.builtin "getset_descriptor.__get__") [.builtin "object.__class__", .ref x, .ref D]) >>= ret) _ _ _
  refine wpAny_bind (wpAny_holding (wpAny_call (class_get (s := ⟨hp, g, d, t + 1, os⟩) (ox := ox) (od := odc) X I hm ?_)))
  refine wpAny_pure ?_
  show wpAny _ _ (handedOut (.ref D)) _ _ _
  rw [handedOut_of (v := .ref D) rfl]
  first
    | exact wpAny_pure (wpAny_pure h)
    | exact wpAny_pure h
    | exact wpAny_pure (wpAny_bind (wpAny_pure (wpAny_pure h)))
theorem kitx_exco (hga : findIn K (.ref D) "__getattribute__" = some (some (.builtin "BaseException.__getattribute__"))) (hgt : findIn K (.ref D) "__getattr__" = some none) (hsub : subIn K (.ref D) (.type "BaseException") = some true) (hdct : hasDictIn K D = true) (ha : findIn K (.ref D) "__class__" = some (some (.builtin "object.__class__")))
    (hn : specialIn K (.builtin "object.__class__") "__get__" = some (some (.builtin "getset_descriptor.__get__"))) (htk : takesIn K (.builtin "object.__class__") = some true) (hm : mroIn K D (.type "object") = some true) {odc : Option Obj} :
    KitX K (.ref x) (.ref D) (fun h => InstAt h x ox D odc) where
  ty := fun _ _ _ I => I.type
  it := fun _ _ X _ => by
    obtain ⟨cdD, hcD, _⟩ := any_some hdct
    unfold clsIn at hcD
    split at hcD
    · rename_i c' d' cd' sl' ho
      intro A' Q' E' s' k q
      unfold isType loadHead
      exact wpAny_bind (wpAny_loadPart (k _ _ (X _ _ ho)) (wpAny_pure q))
    · cases hcD
  ne := fun h tp dd its n sl X htp => by
    obtain ⟨cdD, hcD, _⟩ := any_some hdct
    refine Bool.eq_false_iff.mpr fun q => ?_
    have e : D = tp := Value.ref.inj (beq_iff_eq.mp q)
    subst e
    unfold clsIn at hcD
    split at hcD
    · rename_i c' d' cd' sl' ho
      have z := (X _ _ ho).symm.trans htp
      cases z
    · cases hcD
  ca := fun X I k => kin_classEo hga hgt hsub hdct ha hn htk hm X I k
end
end TK

namespace TK
open PySem PySem.Spec PyProof.Rows L2
/-- the caught exception as it stands: its dict none, or told -/
def DctAt (d : Option Addr) (H : Hp) : Prop := d = none ∨ ∃ (dd : Addr) (fs : List (Str × V)), d = some dd ∧ H dd = some (.xd fs)
theorem inst_suite {X : Cx} {a D : Addr} {oe : Obj} {cls : Value} {d : Option Addr} {pn pins : List (Addr × Obj)} {σ : L2.St} {H : Hp} {s : Shared} (hz : Zc cls d oe) (hf : ∃ vs, oe.data = .fields vs) (I : Inv (X.suite a ((a, oe) :: pn)) pins σ H s) (ec : cls = .ref D) (hd : DctAt d H) :
    ∃ od, PySem.W.InstAt s.heap a oe D od := by
  obtain ⟨hget, _⟩ := I.pin (a, oe) (List.mem_append.mpr (.inl List.mem_cons_self))
  obtain ⟨vs, hv⟩ := hf
  subst ec
  rcases hd with rfl | ⟨dd, fs, rfl, e⟩
  · exact ⟨none, hget, hz.1, by unfold PySem.W.notCls; rw [hv] <;> rfl, by rw [hz.2]; exact True.intro⟩
  · have hx : ObjOk X.prog X.w H s.heap dd (.xd fs) := I.hok dd _ e
    obtain ⟨mA, hns, hr⟩ := hx
    obtain ⟨od, ho, hl⟩ := lookIn_ns hns
    exact ⟨some od, hget, hz.1, by unfold PySem.W.notCls; rw [hv] <;> rfl, by rw [hz.2]; exact ho⟩
/-- isinstance(e, c) -/
def rIsX (K : PySem.W.Frag) (D a : Addr) (cls : Value) (d : Option Addr) : List V → Hp → VK → Prop := fun xs H Q => ∃ (c : V) (cv : Value) (b : Bool), xs = [.ref a, c] ∧ cls = .ref D ∧ DctAt d H ∧ (∀ u, RelV c u → u = cv) ∧ PySem.W.kitOne K (.ref D) cv = some b ∧ Q (.bl b) H
theorem call_isX {X : Cx} {a D : Addr} {oe : Obj} {cls : Value} {d : Option Addr} {pn : List (Addr × Obj)} (C : ExcC X.K D) (hz : Zc cls d oe) (hf : ∃ vs, oe.data = .fields vs) : CallR (X.suite a ((a, oe) :: pn)) (.builtin "isinstance") (rIsX X.K D a cls d) := by
  intro pins s σ H xs us Q I r h
  obtain ⟨c, cv, b, rfl, ec, hd, hcv, e, q⟩ := h
  cases r with
  | cons rx rr =>
    cases rr with
    | cons rt rr =>
      cases rr
      cases rx
      have ec2 := hcv _ rt
      subst ec2
      obtain ⟨od, J⟩ := inst_suite hz hf I ec hd
      exact PySem.W.kia_one (kitx_exco C.hg C.hk C.hs C.hd C.ha C.hn C.ht C.hm) I.kIn J e (fun z => nomatch z) fun tk => ⟨.bl b, H, I.kept (t' := tk) fun _ _ z => z, rfl, q⟩
/-- isinstance(e, (c, ..)) -/
def rIsXT (K : PySem.W.Frag) (D a : Addr) (cls : Value) (d : Option Addr) : List V → Hp → VK → Prop := fun xs H Q => ∃ (tp : Addr) (cs : List V) (ws : List Value) (b : Bool), xs = [.ref a, .ref tp] ∧ cls = .ref D ∧ DctAt d H ∧ H tp = some (.tup cs) ∧ (∀ us, Vals cs us → us = ws) ∧ PySem.W.kitAny K (.ref D) ws = some b ∧ Q (.bl b) H
theorem call_isXT {X : Cx} {a D : Addr} {oe : Obj} {cls : Value} {d : Option Addr} {pn : List (Addr × Obj)} (C : ExcC X.K D) (hz : Zc cls d oe) (hf : ∃ vs, oe.data = .fields vs) : CallR (X.suite a ((a, oe) :: pn)) (.builtin "isinstance") (rIsXT X.K D a cls d) := by
  intro pins s σ H xs us Q I r h
  obtain ⟨tp, cs, ws, b, rfl, ec, hd, hT, hw, e, q⟩ := h
  cases r with
  | cons rx rr =>
    cases rr with
    | cons rt rr =>
      cases rr
      cases rx
      cases rt
      obtain ⟨od, J⟩ := inst_suite hz hf I ec hd
      obtain ⟨_, its, rv, o, h1, h2, n, h3⟩ := (show ObjOk X.prog X.w H s.heap tp (.tup cs) from I.hok tp _ hT)
      have e3 := hw _ rv
      subst e3
      obtain ⟨oc, odd, dt, sl⟩ := o
      simp only at h2 h3
      subst h2 h3
      exact PySem.W.kia_tup (kitx_exco C.hg C.hk C.hs C.hd C.ha C.hn C.ht C.hm) I.kIn J h1 e (fun z => nomatch z) fun tk => ⟨.bl b, H, I.kept (t' := tk) fun _ _ z => z, rfl, q⟩
end TK

/-! which classes an own exception is of, from simple facts -/
namespace TK
open PySem PySem.Spec PyProof.Rows L2 NdefX
/-- what is known of a class -/
structure ClsK (K : PySem.W.Frag) (N : Addr) : Prop where
  is_ : PySem.W.isClsIn K N = true
  ty : PySem.W.typeIn K (.ref N) = some (.type "type")
theorem kitCls_ref {K : PySem.W.Frag} {A N : Addr} {b : Bool} (h : ClsK K N) (s : PySem.W.subIn K (.ref A) (.ref N) = some b) : PySem.W.kitCls K (.ref A) (.ref N) = some b := by
  have h1 := h.is_
  unfold PySem.W.isClsIn at h1
  unfold PySem.W.kitCls
  simp [h1, h.ty, s]
theorem kit_no {K : PySem.W.Frag} {A N : Addr} (h : ClsK K N) (r : PySem.W.subIn K (.ref A) (.ref A) = some true) (s : PySem.W.subIn K (.ref A) (.ref N) = some false) : PySem.W.kitOne K (.ref A) (.ref N) = some false := by
  have ne : ((Value.ref A) == Value.ref N) = false := by
    cases e : ((Value.ref A) == Value.ref N) with
    | false => rfl
    | true =>
      have e2 := eq_of_beq e
      rw [← e2, r] at s
      cases s
  unfold PySem.W.kitOne
  rw [ne]
  exact kitCls_ref h s
theorem kit_yes {K : PySem.W.Frag} {A N : Addr} (h : ClsK K N) (s : PySem.W.subIn K (.ref A) (.ref N) = some true) : PySem.W.kitOne K (.ref A) (.ref N) = some true := by
  unfold PySem.W.kitOne
  split
  · rfl
  · exact kitCls_ref h s
theorem kitT_yes {K : PySem.W.Frag} {A : Addr} {T : String} (m : PySem.W.kitMeta T = true) (s : PySem.W.subIn K (.ref A) (.type T) = some true) : PySem.W.kitOne K (.ref A) (.type T) = some true := by
  unfold PySem.W.kitOne
  split
  · rfl
  · unfold PySem.W.kitCls
    simp [m, s]
theorem exm_self {K : PySem.W.Frag} {C : Addr} (h : ClsK K C) (b : PySem.W.subIn K (.ref C) (.type "BaseException") = some true) (r : PySem.W.subIn K (.ref C) (.ref C) = some true) : PySem.W.exmOne K (.ref C) (.ref C) = some true := by
  unfold PySem.W.exmOne
  rw [b, kitCls_ref h r]
  rfl
theorem kitAny_no {K : PySem.W.Frag} {t : Value} : ∀ {cs : List Value}, (∀ c ∈ cs, PySem.W.kitOne K t c = some false) → PySem.W.kitAny K t cs = some false
  | [], _ => rfl
  | c :: r, h => by
    unfold PySem.W.kitAny
    rw [h c (List.mem_cons_self ..)]
    exact kitAny_no fun d hd => h d (List.mem_cons_of_mem _ hd)
theorem kitAny_c {K : PySem.W.Frag} {t c : Value} {cs : List Value} (h : PySem.W.kitOne K t c = some false) (r : PySem.W.kitAny K t cs = some false) : PySem.W.kitAny K t (c :: cs) = some false := by
  unfold PySem.W.kitAny
  rw [h]
  exact r
theorem kitMeta_VE : PySem.W.kitMeta "ValueError" = true := by decide +kernel
/-- the facts of an exception's class, as the top's world tells them -/
theorem oexC_mk {K : PySem.W.Frag} {C : Addr} {nm q : Str} {N : Addr} {bs bm : List Value} {sn : List Str} {sub : List Value} {ab : Bool} {col : Option Bool} {dd : Option Addr} {k0 k1 k2 k3 k5 : Option Value}
    (lC : K.lookup C = some (excClassObj nm q C N bs bm true sn sub ab col dd k0 k1 k2 k3 k5 "ValueError.__new__")) (rf : PySem.HandSPX.refsVE bm = true) (sa : PySem.W.findIn K (.ref C) "__setattr__" = some (some (.builtin "object.__setattr__")))
    (bx : PySem.W.subIn K (.ref C) (.type "BaseException") = some true) (ty : PySem.W.typeIn K (.ref C) = some (.type "type")) (kc : PySem.W.keepIn K (.ref C) = true) : OexC K C := ⟨⟨_, _, _, _, _, _, _, _, _, _, _, _, _, _, _, lC, rf⟩, sa, bx, ty, kc⟩
end TK

/-! calls of methods that may raise, the exception's promise with the slots as they stand -/
namespace TK
open PySem PySem.Spec PyProof.Rows L2 NdefX
section
variable {X : Cx} {CX : CXT} {k : Nat} {f g C : Addr} {m : Str} {fd : FuncData} {ps : List Str} {sp : Sp} {E : L2.St → XK} {apos pos : Pos} {o e : Expr} {es : List Expr} {ta : TE} {t : TA}
def tMethAt (C : Addr) (m : Str) (sp : Sp) (E : L2.St → XK) (ta : TE) (t : TA) : TE := fun σ H Q => ta σ H fun x H1 => ∃ a dx fs, x = V.ref a ∧ H1 a = some (.ins C dx fs) ∧ fs.lookup m = none ∧
  t σ H1 fun vs H2 => sp (x :: vs) H2 Q (E σ)
/-- o.m(e, ..), that may raise -/
theorem pe_methAt {pl : Sem Bool} (he : PE X o ta) (c : Cls X.K C) (hm : Meth X.K C m f) (F : FnOk X.prog X.w X.K X.mg X.base CX k f fd ps sp) (hr : Room k X.A) (hb : Binds X.K fd ps []) (hx : ∀ σ, PassesAt CX X σ (E σ)) (ha : PA X (e :: es) t)
    (hst : starEach (e :: es) X.env = (false, eval e X.env) :: starEach es X.env := by rfl) (hpl : (backTo pos (starEach es X.env)).any (·.1) = false := by rfl)
    (ht : eval (.Call (.Attribute o m apos) (e :: es) [] pos) X.env = (do
      let ov ← eval o X.env
      standAt apos.atName
      let (f, first) ← holding [ov] (getMethod ov m pl)
      callWith pos f first (backTo pos (starEach (e :: es) X.env)) (backToKw pos (keywordEach [] X.env))) := by rfl) :
    PE X (.Call (.Attribute o m apos) (e :: es) [] pos) (tMethAt C m sp E ta t) := by
  refine ⟨fun pins s σ H Q I h => ?_⟩
  refine PySem.W.methodCall_KW (pl := pl) (thn (he.run pins s σ H _ I h) fun u s1 ⟨x, H1, I1, rx, a, dx, fs, ex, ea, l, q⟩ => ?_) ht
  subst ex
  obtain rfl : u = Value.ref a := rx
  refine getmeth_ok I1 ea c hm l ?_
  refine PySem.W.callWith_K (first := [.ref a]) (h₀ := X.base) I.ok.mod.kin hm.kp (thn (ha.run pos pins s1 σ H1 _ I1 q) fun us s2 ⟨vs, H2, I2, r, q2⟩ => ⟨I2.kIn, ?_⟩) hst hpl
  exact run_fnS (us := .ref a :: us) (vs := .ref a :: vs) F hr hb (hx σ) I2 (.cons rfl r) q2
/-- o.m(), that may raise -/
theorem pe_methAt0 {pl : Sem Bool} (he : PE X o ta) (c : Cls X.K C) (hm : Meth X.K C m f) (F : FnOk X.prog X.w X.K X.mg X.base CX k f fd ps sp) (hr : Room k X.A) (hb : Binds X.K fd ps []) (hx : ∀ σ, PassesAt CX X σ (E σ))
    (ht : eval (.Call (.Attribute o m apos) [] [] pos) X.env = (do
      let ov ← eval o X.env
      standAt apos.atName
      let (f, first) ← holding [ov] (getMethod ov m pl)
      callWith pos f first (backTo pos (starEach [] X.env)) (backToKw pos (keywordEach [] X.env))) := by rfl) :
    PE X (.Call (.Attribute o m apos) [] [] pos) (tMethAt C m sp E ta tNil) := by
  refine ⟨fun pins s σ H Q I h => ?_⟩
  refine PySem.W.methodCall_KW (pl := pl) (thn (he.run pins s σ H _ I h) fun u s1 ⟨x, H1, I1, rx, a, dx, fs, ex, ea, l, q⟩ => ?_) ht
  subst ex
  obtain rfl : u = Value.ref a := rx
  refine getmeth_ok I1 ea c hm l ?_
  exact PySem.W.callWith_K0 (first := [.ref a]) I1.kIn hm.kp (run_fnS (us := [.ref a]) (vs := [.ref a]) F hr hb (hx σ) I1 (.cons rfl .nil) q)
end
end TK

/-! several clauses 'except X as n', one name for all -/
namespace TK
open PySem PySem.Spec PyProof.Rows L2
/-- what the clauses wish of an exception of the body, one after the other; slot i is the name's -/
def wManyA (K : PySem.W.Frag) (i : Nat) (Wout : WX) (D : Ends) : List (Value × (Addr → Value → Option Addr → TS)) → WX
  | [] => Wout
  | (c, ts) :: r => fun cls d σ H => ∃ b, PySem.W.exmOne K cls c = some b ∧ (b = true → ∀ a, H a = none → ts a cls d { nx := fun σ' H' => D.nx (σ'.set i none) H', rt := D.rt, bk := fun σ' H' => D.bk (σ'.set i none) H', ct := fun σ' H' => D.ct (σ'.set i none) H' } (σ.set i (some (.ref a))) H) ∧
    (b = false → wManyA K i Wout D r cls d σ H)
inductive HdsA (X : Cx) (n : Str) : List ExceptHandler → List (Value × (Addr → Value → Option Addr → TS)) → Prop
  | nil : HdsA X n [] []
  | cons {x : Str} {c : Value} {ts : Addr → Value → Option Addr → TS} {b₀ : Stmt} {suite : List Stmt} {np pos' : Pos} {hds : List ExceptHandler} {l : List (Value × (Addr → Value → Option Addr → TS))} (hc : Names X x c)
      (hsu : ∀ (a : Addr) (oe : Obj) (cls : Value) (d : Option Addr) (pn : List (Addr × Obj)), Zc cls d oe → (∃ vs, oe.data = .fields vs) → PSs (X.suite a ((a, oe) :: pn)) (b₀ :: suite) (ts a cls d)) (r : HdsA X n hds l) :
      HdsA X n (.ExceptHandler (some (.Name x np)) (some n) (b₀ :: suite) pos' :: hds) ((c, ts) :: l)
section
variable {X : Cx} {n : Str} {i : Nat} {body : List Stmt} {h₀ : ExceptHandler} {hds : List ExceptHandler} {l : List (Value × (Addr → Value → Option Addr → TS))} {pos : Pos} {tb : WX → TS} {Wout : WX}
theorem ps_try_manyA (hs : X.stack = X.env :: X.outer) (hf : X.env.frame = some X.env.locals) (hN : X.N.Nodup) (hi : X.N[i]? = some n) (hln : X.env.kindOf n = some .local) (tk : Takes X Wout)
    (hb : ∀ (W : WX) (pn : List (Addr × Obj)) (xe : Value → Shared → Prop), Takes (X.tr pn xe) W → PassesOwn (model X.prog X.w) X.A X.env xe → PSs (X.tr pn xe) body (tb W))
    (hh : HdsA X n (h₀ :: hds) l) : PS X (.Try body (h₀ :: hds) [] [] pos) (fun D σ H => tb (wManyA X.K i Wout D l) D σ H) := by
  refine ⟨fun pins s σ H D I h => ?_⟩
  have ok := I.ok
  have hfr : X.A.frames = some (X.env :: X.outer) := by rw [ok.frames, hs]
  have hloc : Loc X.env.scope n := .inl hln
  refine wpAny_Try_except ?_
  refine wpAny_mono ((hb (wManyA X.K i Wout D l) (X.pn ++ pins) (fun e s₁ => wpAny (model X.prog X.w) X.A (noteFrame e X.env) (fun _ s₂ => wpAny (model X.prog X.w) X.A (setFlight e none) (fun _ s₃ =>
    wpAny (model X.prog X.w) X.A (handleBy e X.env (h₀ :: hds)) (SP X pins D) X.xe s₃) X.xe s₂) X.xe s₁) (fun u s' xx => ?_) PassesOwn.looking).run [] s σ H D (I.toTry _) h) (fun f s1 hsp => ?_) (fun e s1 he => he)
  · -- the catch
    obtain ⟨a, B, sI, pins', σ', H', cls, d, rfl, J', nb, up, sky, na, os, ag, w⟩ := xx
    have J : Inv X pins σ' H' sI := J'.ofTry ok
    have sky' : Sky B (X.env :: X.outer) a (Zc cls d) X.env.locals s'.heap := by rw [← hs]; exact sky
    show wpAny (model X.prog X.w) X.A (noteFrame (.ref a) X.env) _ _ _
    refine Sky.land Zc.steady hfr hf sky' fun h3 fl3 up3 => ?_
    have J3 : Inv X pins σ' H' { s' with heap := h3 } := J.landed nb fl3.1 (up.trans up3) os ag
    obtain ⟨oe3, vs3, he3, hz3, hd3⟩ := fl3.there
    have notFr : ∀ {h : Heap} {o : Obj} {vs : Array Value}, h.FunFrames B (X.env :: X.outer) → h.get? a = some o → o.data = .fields vs → a ∉ frs (X.env :: X.outer) := fun {h o vs} ff e dd hm => by
      obtain ⟨_, o', e', hnf⟩ := ff.mem hm
      rw [e] at e'; cases e'
      exact hnf _ dd
    have nfr := notFr fl3.2.2.1 he3 hd3
    have nL : a ≠ X.env.locals := fun z => nfr (List.mem_filterMap.mpr ⟨X.env, List.mem_cons_self, by rw [hf, z]⟩)
    have nF : a ∉ X.fs := fun hm => by
      obtain ⟨e, he, q⟩ := List.mem_filterMap.mp hm
      exact nfr (List.mem_filterMap.mpr ⟨e, List.mem_cons_of_mem _ he, q⟩)
    have S3 := J3.suite he3 hd3 na nL nF
    have go : ∀ {hds' : List ExceptHandler} {l' : List (Value × (Addr → Value → Option Addr → TS))}, HdsA X n hds' l' → wManyA X.K i Wout D l' cls d σ' H' →
        wpAny (model X.prog X.w) X.A (handleBy (.ref a) X.env hds') (SP X pins D) X.xe { s' with heap := h3 } := by
      intro hds' l' hk
      induction hk with
      | nil =>
        intro w
        refine wpAny_handleBy_nil ?_
        obtain ⟨k1, k2, k3, oe, vs, T, oT, ts', he, hz, hd, h1, hr⟩ := id fl3
        unfold PySem.passOn
        refine wpAny_bind (wpAny_field he hd h1 ?_)
        rw [if_neg (show ¬ ((Value.ref T == Value.none) = true) from by simp)]
        have fin : wpAny (model X.prog X.w) X.A (setFlight (.ref a) X.env.frame) (fun _ s4 => wpAny (model X.prog X.w) X.A (throw (.ref a) : Sem Flow) (SP X pins D) X.xe s4) X.xe { s' with heap := h3 } := by
          rw [hf]
          refine HandSPX.setFlight_upZ fl3 fun h4 hh4 up4 => wpAny_throw (tk _ _ ?_)
          exact ⟨a, B, sI, pins, σ', H', cls, d, rfl, J, nb, (up.trans up3).trans up4, .inr (.inr (by rw [hs]; exact hh4)), na, os, ag, w⟩
        first
          | exact wpAny_bind (wpAny_pure (wpAny_bind fin))
          | exact wpAny_bind fin
      | @cons x c ts b₀ suite np pos' hds2 l2 hc hsu r ih =>
        intro w
        obtain ⟨b, hb1, hyes, hno⟩ := w
        refine wpAny_handleBy_cons (codeAny_handlers_test ?_) (by intro q; cases q)
        have LT : PySem.W.Looks (model X.prog X.w) h3 (typeOf (.ref a)) cls := fun A Q E s k q => wpAny_typeOf_ref (k _ _ he3) (by rw [hz3.1]; exact q)
        have LM := PySem.W.exm_one (M := model X.prog X.w) (J3.kIn) LT hb1
        have test : ∀ {Q : Value → Shared → Prop} {E : Value → Shared → Prop}, Q c { s' with heap := h3 } → wpAny (model X.prog X.w) (X.A.mark (some (.ref a))) (eval (.Name x np) X.env) Q E { s' with heap := h3 } := fun {Q E} q => by
          obtain ⟨hg, hdbg, hm | ⟨hm, hv, hnn⟩⟩ := hc
          · exact ld_glob (X := X.suite a ((a, oe3) :: (X.pn ++ pins))) S3 hg hm q hdbg
          · exact ld_blt (X := X.suite a ((a, oe3) :: (X.pn ++ pins))) S3 hg hm hv q hnn hdbg
        refine test (LM.here ?_)
        cases b with
        | true =>
          refine codeAny_handlers_suite_as ?_
          refine HandSPX.lands_againZ fl3 fun h4 fl4 up4 => ?_
          have J4 : Inv X pins σ' H' { s' with heap := h4 } := J.landed nb fl4.1 ((up.trans up3).trans up4) os ag
          obtain ⟨oe4, vs4, he4, hz4, hd4⟩ := fl4.there
          have S4 := J4.suite he4 hd4 na nL nF
          refine store_ok (X := X.suite a ((a, oe4) :: (X.pn ++ pins))) (v := .ref a) S4 hN hi hloc rfl (fun s5 S5 => ?_) (.inr hln)
          refine wpAny_mono ((hsu a oe4 cls d (X.pn ++ pins) hz4 ⟨_, hd4⟩).run [] s5 _ H' _ S5 (hyes rfl a na)) (fun f s6 hsp => ?_) (fun _ _ z => False.elim z)
          have end_ : ∀ {σ6 : L2.St} {H6 : Hp} {Q : Shared → Prop}, Inv (X.suite a ((a, oe4) :: (X.pn ++ pins))) [] σ6 H6 s6 → (∀ s7, Inv X pins (σ6.set i none) H6 s7 → Q s7) →
              wpAny (model X.prog X.w) X.A (do bindName X.env n .none; unbindBehindTheSuite X.env n pos') (fun _ s7 => Q s7) X.xe s6 := fun {σ6 H6 Q} S6 hq => gone_ok (S6.unsuite ok) hN hi hln hq
          cases f with
          | next =>
            obtain ⟨σ6, H6, S6, q6⟩ := hsp
            exact end_ S6 fun s7 J7 => ⟨_, _, J7, q6⟩
          | brk =>
            obtain ⟨σ6, H6, S6, q6⟩ := hsp
            exact end_ S6 fun s7 J7 => ⟨_, _, J7, q6⟩
          | cont =>
            obtain ⟨σ6, H6, S6, q6⟩ := hsp
            exact end_ S6 fun s7 J7 => ⟨_, _, J7, q6⟩
          | ret u =>
            obtain ⟨v6, σ6, H6, S6, r6, q6⟩ := hsp
            exact end_ S6 fun s7 J7 => ⟨_, _, _, J7, r6, q6⟩
        | false =>
          show wpAny _ X.A (handleBy (.ref a) X.env hds2) _ _ _
          exact ih (hno rfl)
    exact go hh w
  · cases f with
    | next =>
      obtain ⟨σ', H', J', q⟩ := hsp
      exact wpAny_execs_nil ⟨σ', H', J'.ofTry ok, q⟩
    | brk =>
      obtain ⟨σ', H', J', q⟩ := hsp
      exact ⟨σ', H', J'.ofTry ok, q⟩
    | cont =>
      obtain ⟨σ', H', J', q⟩ := hsp
      exact ⟨σ', H', J'.ofTry ok, q⟩
    | ret u =>
      obtain ⟨v, σ', H', J', r, q⟩ := hsp
      exact ⟨v, σ', H', J'.ofTry ok, r, q⟩
end
end TK

/-! an own exception over ValueError whose __init__ says super().__init__(..); self.f = x; self.g = y -/
namespace TK
open PySem PySem.Spec PyProof.Rows L2 NdefX
open PySem.W (ks_superIn kxs_mw kxs_getMethod kxs_ValueError kxs_callWith)
def supBody2 (p0 p1 p2 p3 p4 p5 p6 p7 p8 p9 pA pB pC : Pos) (msg : Expr) (arg fld arg2 fld2 : Str) : List Stmt :=
  [.Expr (.Call (.Attribute (.Call (.Name "super" p0) [] [] p1) "__init__" p2) [msg] [] p3) p4, .Assign [.Attribute (.Name "self" p5) fld p6] (.Name arg p7) p8, .Assign [.Attribute (.Name "self" p9) fld2 pA] (.Name arg2 pB) pC]
/-- X.__init__(self, y): the exception at a gets its dict with the one field -/
def spSup2 (C : Addr) (fld fld2 : Str) (okv : V → Prop) : Sp := fun vs H Q _ => ∃ (a : Addr) (y z : V), vs = [.ref a, y, z] ∧ okv y ∧ H a = some (exo a C none) ∧ ∀ dx, H dx = none → dx ≠ a → Q .non (upd (upd (upd H dx (exd dx [(fld, y)])) a (exo a C (some dx))) dx (exd dx [(fld2, z), (fld, y)]))
theorem fn_sup2 {CX : CXT} {P : Program} {w : World} {K : PySem.W.Frag} {mg : Str → Option Value} {base : Heap} {k : Nat} {f C cc cda : Addr} {qual arg fld arg2 fld2 file : Str} {params : Arguments} {scope : Scope} {msg : Expr} {p0 p1 p2 p3 p4 p5 p6 p7 p8 p9 pA pB pC : Pos}
    {oc ccl cl dV kV doc pm ct : Value} {an od cdd cld : Option Addr} {osl ccs csl : Array (Option Value)} {vs0 : Array Value} {tf : Tok} {okv : V → Prop} {te : TE} {ar : Arg}
    (lk : K.lookup f = some ⟨oc, od, .func (PySem.W.fnX "__init__" qual params (supBody2 p0 p1 p2 p3 p4 p5 p6 p7 p8 p9 pA pB pC msg arg fld arg2 fld2) scope [("__class__", cc)] dV kV doc pm an (.ref cda) ct), osl⟩) (hcd : PySem.W.codeIn K (.ref cda) qual = true)
    (hcode : K.lookup cda = some ⟨ccl, cdd, .fields vs0, ccs⟩) (hvs : vs0[2]? = some (.str file tf)) (hfile : ((P.main.file : Str) == file) = true)
    (hcell : K.lookup cc = some ⟨cl, cld, .cell (some (.ref C)), csl⟩)
    (S : NScope ["self", arg, arg2, "__class__"] ["self", arg, arg2] ["__class__"] scope) (hks : scope.names.lookup ("super" : Str) = some .globalImplicit)
    (hpar : (params.posonlyargs ++ params.args).head? = some ar) (har : ar.arg = "self")
    (htop : (P.main.scope.names.lookup ("super" : Str)).isSome = false) (hsup : mg "super" = none)
    (T : OexC K C) (hmr : PySem.W.mroIn K C (.ref C) = some true) (hst : PySem.W.nsIn K cStatics "thirdparty.any" = some none) (hal : ks_superIn K C C "__init__" = some (some (.builtin "ValueError.__init__")))
    (hVE : PySem.W.subIn K (.ref C) (.type "ValueError") = some true) (hno : PySem.W.findIn K (.ref C) fld = some none) (hno2 : PySem.W.findIn K (.ref C) fld2 = some none) (hnf : fld2 ≠ fld)
    (hpa : ∀ (A : Around) (outer : List Env) (s : Shared) (H : Hp) (E : XK), PA (ncx CX P w K mg base ["self", arg, arg2, "__class__"] ⟨"__init__", qual, params, supBody2 p0 p1 p2 p3 p4 p5 p6 p7 p8 p9 pA pB pC msg arg fld arg2 fld2, scope, [("__class__", cc)], cda⟩ f A outer s H E) [msg] (tCons te tNil))
    (hpl : ∀ env : Env, starEach [msg] env = [(false, eval msg env)])
    (hte : ∀ (a : Addr) (y z0 : V) (H : Hp) (Q : VK), okv y → (∀ z, Q z H) → te [some (.ref a), some y, some z0, some (.ref C)] H Q)
    (hdb : (arg == ("__debug__" : Str)) = false) (hdc : (arg == ("__classdict__" : Str)) = false) (hdb2 : (arg2 == ("__debug__" : Str)) = false) (hdc2 : (arg2 == ("__classdict__" : Str)) = false) {pl : Env → Sem Bool} (hev : ∀ env : Env, eval (.Call (.Attribute (.Call (.Name "super" p0) [] [] p1) "__init__" p2) [msg] [] p3) env = (do
      let ov ← attributeBase (.Call (.Name "super" p0) [] [] p1) "__init__" env (eval (.Call (.Name "super" p0) [] [] p1) env)
      standAt p2.atName
      let (f, first) ← holding [ov] (getMethod ov "__init__" (pl env))
      callWith p3 f first (backTo p3 (starEach [msg] env)) [])) :
    FnOk P w K mg base CX (k + 1) f (PySem.W.fnX "__init__" qual params (supBody2 p0 p1 p2 p3 p4 p5 p6 p7 p8 p9 pA pB pC msg arg fld arg2 fld2) scope [("__class__", cc)] dV kV doc pm an (.ref cda) ct) ["self", arg, arg2] (spSup2 C fld fld2 okv) := by
  have len : ∀ vs H Q E, spSup2 C fld fld2 okv vs H Q E → vs.length = (["self", arg, arg2] : List Str).length := fun vs H Q E h => by
    obtain ⟨a, y, z0, rfl, _⟩ := h
    rfl
  refine ⟨len, fun A outer s H args us vs Q E hr e0 hb r hsp => ?_⟩
  have hl := len _ _ _ _ hsp
  obtain ⟨a, y, z0, rfl, oky, ea, q⟩ := hsp
  obtain ⟨hp0, g0, d0, tk0, os0⟩ := s
  have KX : K.In hp0 := e0.mod.kin.keeps fun b o e => (e0.bs b o e).1
  have lim : hp0.NoLimit := e0.mod.nolimit.keeps fun b o e => (e0.bs b o e).1
  have one : ∀ (y : Str) (c : Addr), ([(("__class__" : Str), cc)] : List (Str × Addr)).lookup y = some c → y = ("__class__" : Str) ∧ c = cc := fun y c e => by
    simp only [List.lookup] at e
    split at e
    · rename_i h
      exact ⟨eq_of_beq h, (Option.some.inj e).symm⟩
    · cases e
  have cls : CellsAt [(("__class__" : Str), cc)] ["__class__"] [some (.ref C)] hp0 H := by
    refine ⟨rfl, fun y c e => ?_, fun x y c e1 e2 => (one _ _ e1).1.trans (one _ _ e2).1.symm, fun i y hy => ?_⟩
    · obtain ⟨_, rfl⟩ := one _ _ e
      exact ⟨(e0.bs _ _ (e0.mod.kin _ _ hcell)).2, _, _, KX _ _ hcell, rfl⟩
    · match i, hy with
      | 0, hy =>
        cases Option.some.inj hy
        refine ⟨cc, by simp [List.lookup], fun v ev => ?_⟩
        cases Option.some.inj (Option.some.inj ev)
        exact ⟨.ref C, rfl, _, KX _ _ hcell, rfl⟩
      | i + 1, hy => simp at hy
  refine PySem.ks_codeAny_call_defAt (body := supBody2 p0 p1 p2 p3 p4 p5 p6 p7 p8 p9 pA pB pC msg arg fld arg2 fld2) (binds := (["self", arg, arg2] : List Str).zip us) hr.depth (KX _ _ lk) rfl lim (PySem.W.codeRec_of KX hcd) rfl hb S.nocell (fun ⟨n, v⟩ hy => S.par n (List.of_mem_zip hy).1) (fun h₁ hns kp => ?_) S.co S.gen S.kind
  let F : NF := ⟨"__init__", qual, params, supBody2 p0 p1 p2 p3 p4 p5 p6 p7 p8 p9 pA pB pC msg arg fld arg2 fld2, scope, [("__class__", cc)], cda⟩
  let X : Cx := ncx CX P w K mg base ["self", arg, arg2, "__class__"] F f A outer ⟨hp0, g0, d0, tk0, os0⟩ H E
  have I : Inv X [] (startF ["self", arg, arg2, "__class__"] [V.ref a, y, z0] [some (.ref C)]) H ⟨h₁, g0, d0, tk0 + ((["self", arg, arg2] : List Str).zip us).length, os0⟩ :=
    inv_startN (CX := CX) (E := E) (N := ["self", arg, arg2, "__class__"]) (F := F) (f := f) (ws := [some (.ref C)]) S hr.hd e0 hl r cls hns kp
  have eσ : startF ["self", arg, arg2, "__class__"] [V.ref a, y, z0] [some (.ref C)] = [some (.ref a), some y, some z0, some (.ref C)] := rfl
  rw [eσ] at I
  have pa : PA X [msg] (tCons te tNil) := hpa A outer ⟨hp0, g0, d0, tk0, os0⟩ H E
  generalize tk0 + ((["self", arg, arg2] : List Str).zip us).length = tk1 at I ⊢
  have KX1 : K.In h₁ := I.kIn
  obtain ⟨nm, q1, N, bs, bm, sn, sub, ab, col, dd, k0, k1, k2, k3, k5, hC, hbm⟩ := id T.cls
  obtain ⟨t1, hx⟩ := exo_at I.hok ea
  obtain ⟨mb, hb1, hb2⟩ := I.mod.blt
  have hself : scope.names.lookup ar.arg = some .local := by rw [har]; exact S.par "self" (by simp)
  obtain ⟨u, u2, rfl⟩ : ∃ u u2, us = [Value.ref a, u, u2] := by
    cases r with
    | @cons _ u0 _ ur ra rw' =>
      obtain rfl : u0 = Value.ref a := ra
      cases rw' with
      | cons rb rc =>
        cases rc with
        | cons rd re => cases re; exact ⟨_, _, rfl⟩
  have vself : (((["self", arg, arg2] : List Str).zip [Value.ref a, u, u2]).reverse.lookup ar.arg) = some (.ref a) := by
    rw [har]
    have nd : (["self", arg, arg2] : List Str).Nodup := by
      have q := S.nd
      simp only [List.nodup_cons, List.mem_cons, not_or] at q ⊢
      exact ⟨⟨q.1.1, q.1.2.1, by simp⟩, ⟨q.2.1.1, by simp⟩, by simp, by simp⟩
    exact zip_look (i := 0) nd rfl rfl
  show _root_.PySem.wpAt (model P w) X.A (.func (supBody2 p0 p1 p2 p3 p4 p5 p6 p7 p8 p9 pA pB pC msg arg fld arg2 fld2) X.env) (execs (supBody2 p0 p1 p2 p3 p4 p5 p6 p7 p8 p9 pA pB pC msg arg fld arg2 fld2) X.env) _ X.xe _
  refine PySem.ks_wpAt_execs_cons (PySem.ks_wpAt_Expr_any (PySem.ks_wpAt_MethodCall (PySem.ks_wpAt_super_base (env := X.env) (ar := ar) (f := f) hks (S.frk _ (by simp)) (by decide) rfl (KX1 _ _ lk) rfl hpar rfl (KX1 _ _ hcode) rfl hvs hfile htop ?_) (hev X.env)) I.quiet)
  refine PySem.W.ks_loadName_global S.kind hks (Calls.loadGlobal_builtin (mg := mg) (I.mod.glob.keeps I.bk) hsup (hb1.keeps I.bk) ((hb2 "super" (by decide)).trans (by decide +kernel : bootBuiltins "super" = some (.type "super"))) ⟨rfl, ?_⟩)
  refine wpAny_loadName_free S.kind (S.frk "__class__" (by simp)) (c := cc) rfl ⟨_, KX1 _ _ hcell, rfl⟩ ?_
  refine wpAny_loadName_local S.kind hself hns vself ?_
  have hCd := KX1 _ _ hC
  refine PySem.ks_wpAny_isType_cls hCd rfl ⟨rfl, ?_⟩
  refine PySem.ks_wpAny_call_super hCd rfl hx rfl (fun c e => by cases e) (PySem.W.looks_mroIn KX1 hmr) (fun h2 e2 kp2 => ?_)
  have I2 : Inv X [] [some (.ref a), some y, some z0, some (.ref C)] H ⟨h2, g0, d0, tk1, os0⟩ := I.kept (t' := tk1) kp2
  have KX2 : K.In h2 := I2.kIn
  have hx2 := kp2 _ _ hx
  have IA : PySem.W.InstAt h2 a _ C none := ⟨hx2, rfl, rfl, trivial⟩
  -- the bound __init__
  cases hcc : PySem.W.clsIn K C with
  | none => unfold ks_superIn at hal; rw [hcc] at hal; cases hal
  | some cd =>
    unfold ks_superIn at hal
    rw [hcc] at hal
    refine kxs_getMethod kxs_ValueError e2 (PySem.W.looks_opaque KX2 hst) (l₀ := cd.mro) (fun A Q E s k q => wpAny_bind ((PySem.W.looks_clsIn KX2 hcc) A _ E s k (wpAny_pure q))) rfl KX2 hal (IA.type.andThen (PySem.W.looks_subIn KX2 hVE)) (PySem.W.ks_ne KX2 IA hcc) (by decide) ?_
    have kp3 : ∀ b o, h2.get? b = some o → (h2.push (kxs_mw "ValueError.__init__" a)).get? b = some o := fun b o e => Heap.get?_push_of_some _ e
    have hu3 : (h2.push (kxs_mw "ValueError.__init__" a)).get? h2.objs.size = some (kxs_mw "ValueError.__init__" a) := Heap.get?_push_at rfl rfl
    have I3 : Inv X [] [some (.ref a), some y, some z0, some (.ref C)] H ⟨h2.push (kxs_mw "ValueError.__init__" a), g0, d0, tk1 + 1, os0⟩ := I2.kept (t' := tk1 + 1) kp3
    have I4 : Inv X [(h2.objs.size, kxs_mw "ValueError.__init__" a)] [some (.ref a), some y, some z0, some (.ref C)] H ⟨h2.push (kxs_mw "ValueError.__init__" a), g0, d0, tk1 + 1, os0⟩ := I3.pins_of fun p hp => by
      rw [List.mem_singleton.mp hp]
      exact ⟨hu3, I2.hok.fresh (Nat.le_refl _), Nat.ne_of_gt I2.lt, I2.nofs (Nat.le_refl _), fun v z => by cases z⟩
    show wpAny _ _ (callWith p3 (.ref h2.objs.size) [] (backTo p3 (starEach [msg] X.env)) []) _ _ _
    have ra := pa.run p3 _ _ _ H (fun vs H1 => ∃ z, vs = [z] ∧ H1 = H) I4 (hte a y z0 H _ oky fun z => ⟨z, rfl, rfl⟩)
    rw [hpl] at ra ⊢
    refine kxs_callWith (i := "ValueError.__init__") (x := a) rfl (Calls.evalArgs_plain (thn ra fun us4 s4 hh => ?_))
    obtain ⟨vs4, H4, I5, r5, z, ev, eH⟩ := hh
    subst ev
    subst eH
    obtain ⟨h4, g4, d4, tk4, os4⟩ := s4
    have pin4 := I5.pin (h2.objs.size, kxs_mw "ValueError.__init__" a) (List.mem_append_right _ List.mem_cons_self)
    obtain ⟨t4, hx4⟩ := exo_at I5.hok ea
    refine ⟨pin4.1, call_mw (I5.kIn _ _ hC) hx4 pin4.1 (by show us4.length ≤ sizeLine; rw [← r5.length]; exact (show (1 : Nat) ≤ sizeLine by decide)) fun h5 t5 k5' hx5 => ?_⟩
    have J := I5.write (t' := tk4) (x := a) (e := a) (o := exo a C none) (by rw [ea]; exact True.intro) (.inl rfl) k5' ⟨_, hx5⟩ (exo_ok hx5)
    have eu : upd H4 a (exo a C none) = H4 := by
      funext b
      by_cases hb : b = a
      · rw [hb, upd_same, ea]
      · rw [upd_ne hb]
    rw [eu] at J
    -- self.f = y
    have hst2 : PSs X [.Assign [.Attribute (.Name "self" p5) fld p6] (.Name arg p7) p8, .Assign [.Attribute (.Name "self" p9) fld2 pA] (.Name arg2 pB) pC] _ := pss_cons (ps_ost (f := fld) (pe_var (i := 0) rfl (.inl (S.par "self" (by simp))) (by decide) (by decide)) (pe_var (i := 1) rfl (.inl (S.par arg (by simp))) hdb hdc)) (pss_one (ps_ost (f := fld2) (pe_var (i := 0) rfl (.inl (S.par "self" (by simp))) (by decide) (by decide)) (pe_var (i := 2) rfl (.inl (S.par arg2 (by simp))) hdb2 hdc2)))
    refine wpAt_of_wpAny (wpAny_mono (hst2.run _ _ _ _ { nx := fun _ H' => Q .non H', rt := Q } J ?_) (fun fl s' hs => ?_) fun e s' hs => hs)
    · refine ⟨_, rfl, _, rfl, a, C, rfl, T, hno, .inl ⟨ea, fun dx hdx n => ?_⟩⟩
      refine ⟨_, rfl, _, rfl, a, C, rfl, T, hno2, .inr ⟨dx, [(fld, y)], upd_same, (by rw [upd_ne n]; exact upd_same), (show (1 : Nat) ≤ 900 by decide), ?_⟩⟩
      exact q dx hdx n
    · have fin : ∀ {σ' : L2.St} {H' : Hp} {v : V} {u : Value}, Inv X [(h2.objs.size, kxs_mw "ValueError.__init__" a)] σ' H' s' → RelV v u → Q v H' → CE outer P w H4 ⟨hp0, g0, d0, tk0, os0⟩ Q u s' :=
        fun {σ' H' v u} J rv q => ⟨v, H', J.os, J.bare, J.base, J.hok, rv, q⟩
      cases fl with
      | ret u =>
        obtain ⟨v, σ', H', J, rv, q⟩ := hs
        exact fin J rv q
      | next =>
        obtain ⟨σ', H', J, q⟩ := hs
        exact fin (v := V.non) (u := Value.none) J rfl q
      | brk =>
        obtain ⟨_, _, _, q⟩ := hs
        exact False.elim q
      | cont =>
        obtain ⟨_, _, _, q⟩ := hs
        exact False.elim q
/-- what is told of X, at C, its __init__ at fI -/
structure SupT2 (P : Program) (w : World) (K : PySem.W.Frag) (mg : Str → Option Value) (base : Heap) (x arg fld arg2 fld2 : Str) (okv : V → Prop) (C fI : Addr) (fd : FuncData) : Prop where
  gC : mg x = some (.ref C)
  T : OexC K C
  iC : PySem.W.findIn K (.ref C) "__init__" = some (some (.ref fI))
  tI : PySem.W.typeIn K (.ref fI) = some (.type "function")
  F : FnOk P w K mg base CX0 1 fI fd ["self", arg, arg2] (spSup2 C fld fld2 okv)
  b : Binds K fd ["self", arg, arg2] []
  xf : XfC K C
  noN : PySem.W.findIn K (.ref C) fld = some none
  noN2 : PySem.W.findIn K (.ref C) fld2 = some none
  te : PySem.W.exmOne K (.ref C) (.ref C) = some true
/-- what the making asks -/
theorem sup_read2 {C : Addr} {fld fld2 : Str} {okv : V → Prop} {v z : V} {H1 : Hp} {Q : XK} (ok : okv v) (q : ∀ d, H1 d = none → Q (.ref C) (some d) (upd H1 d (.xd [(fld2, z), (fld, v)]))) :
    ([v, z] : List V).length ≤ 1000 ∧ ∀ a, H1 a = none → spSup2 C fld fld2 okv (.ref a :: ([v, z] ++ [])) (upd H1 a (exo a C none))
      (fun v H2 => v = .non ∧ ∃ (d : Addr) (fs : List (Str × V)), H2 a = some (exo a C (some d)) ∧ H2 d = some (exd d fs) ∧ H1 d = none ∧ Q (.ref C) (some d) (upd (del H2 a) d (.xd fs))) (fun _ _ _ => False) := by
  refine ⟨(show (2 : Nat) ≤ 1000 by decide), fun a na => ⟨a, v, z, rfl, ok, upd_same, fun dx hdx ne => ⟨rfl, dx, [(fld2, z), (fld, v)], ?_, upd_same, ?_, ?_⟩⟩⟩
  · rw [upd_ne (Ne.symm ne)]; exact upd_same
  · rw [upd_ne ne] at hdx; exact hdx
  · rw [upd_ne ne] at hdx
    have e : upd (del (upd (upd (upd (upd H1 a (exo a C none)) dx (exd dx [(fld, v)])) a (exo a C (some dx))) dx (exd dx [(fld2, z), (fld, v)])) a) dx (.xd [(fld2, z), (fld, v)]) = upd H1 dx (.xd [(fld2, z), (fld, v)]) := by
      funext b
      by_cases h1 : b = dx
      · rw [h1, upd_same, upd_same]
      · rw [upd_ne h1, upd_ne h1]
        by_cases h2 : b = a
        · rw [h2, del_same, na]
        · rw [del_ne h2, upd_ne h1, upd_ne h2, upd_ne h1, upd_ne h2]
    rw [e]
    exact q dx hdx
section
variable {X : Cx} {W : WX} {x arg fld arg2 fld2 : Str} {okv : V → Prop} {C fI : Addr} {fd : FuncData} {e e2 : Expr} {ta : TA} {p pos pos2 : Pos}
theorem ps_raiseSup2 (hc : X.calm = true) (T : SupT2 X.prog X.w X.K X.mg X.base x arg fld arg2 fld2 okv C fI fd) (hr : Room 2 X.A) (tk : Takes X W) (ha : PA X [e, e2] ta) (hg : Gl X x)
    (hdb : (x == ("__debug__" : Str)) = false := by decide) (he : starEach (e :: [e2]) X.env = (false, eval e X.env) :: starEach [e2] X.env := by rfl) (hpl : (backTo pos (starEach [e2] X.env)).any (·.1) = false := by rfl) :
    PS X (.Raise (some (.Call (.Name x p) [e, e2] [] pos)) none pos2) (fun _ σ H => tMkO C (spSup2 C fld fld2 okv) [] ta σ H fun cls d H' => W cls d σ H') :=
  ps_raise hc tk (pmk_oex (dvs := []) T.T T.iC T.tI T.F hr T.b .nil (fun _ _ _ _ _ _ _ h => h.elim) hg T.gC ha hdb he hpl)
end
end TK

/-! a text taken several times -/
namespace TK
open PySem PySem.Spec PyProof.Rows L2
def repStr (n : Nat) (a : Str) : Str := ⟨(List.replicate n a.cps).foldl (· ++ ·) #[]⟩
theorem rep_cps (its : List Nat) : ∀ (n : Nat) (acc : List Nat), List.foldl (fun x1 x2 => x1 ++ x2) acc.toArray (List.replicate n its.toArray) = (acc ++ (List.replicate n its).flatten).toArray
  | 0, acc => by simp
  | n + 1, acc => by
    rw [List.replicate_succ, List.foldl_cons, List.replicate_succ, List.flatten_cons, ← List.append_assoc]
    have : acc.toArray ++ its.toArray = (acc ++ its).toArray := by simp
    rw [this]
    exact rep_cps its n (acc ++ its)
theorem repStr_list (n : Nat) (l : List Nat) : repStr n ⟨l.toArray⟩ = ⟨(List.replicate n l).flatten.toArray⟩ := by
  unfold repStr
  have := rep_cps l n []
  rw [List.nil_append] at this
  exact congrArg Str.mk this
theorem repStr_len (n : Nat) (a : Str) : (repStr n a).length = n * a.length := by
  obtain ⟨⟨l⟩⟩ := a
  rw [repStr_list]
  show (List.replicate n l).flatten.toArray.size = n * l.toArray.size
  rw [List.size_toArray, List.size_toArray, PyProof.Rows.lm_len_rep_flat]
section
variable {X : Cx}
theorem op_repS : OpR X (binaryOp .Mult) (fun x y H Q => ∃ (a : Str) (k : Int), x = .str a ∧ y = .int k ∧ 2 ≤ k ∧ k ≤ 1000 ∧ 1 ≤ a.length ∧ a.length ≤ 1000 ∧ Q (.str (repStr k.toNat a)) H) := by
  intro pins s σ H x y v u Q I rx ry h
  obtain ⟨a, k, rfl, rfl, k2, k1, a1, a2, q⟩ := h
  obtain ⟨t, rfl⟩ := rx
  obtain ⟨t', rfl⟩ := ry
  have n1 : ¬ k < 1 := by omega
  have n2 : (k == 1 || a.length == 0) = false := by
    rw [Bool.or_eq_false_iff]
    exact ⟨beq_eq_false_iff_ne.mpr (by omega), beq_eq_false_iff_ne.mpr (by omega)⟩
  have nl : a.length * k.toNat ≤ 1000000 := by
    have : k.toNat ≤ 1000 := by omega
    exact Nat.mul_le_mul a2 this
  refine PySem.P.mul_str ?_ (fun _ _ => ?_) (fun _ _ => ?_) ?_
  · rw [decide_eq_false (by omega), decide_eq_false (by omega)]; rfl
  · have : (2 ^ 63 - 1 : Int) / 1000 ≤ (2 ^ 63 - 1) / k := by
      rw [Int.le_ediv_iff_mul_le (by omega)]
      have : ((2 ^ 63 - 1 : Int) / 1000) * k ≤ ((2 ^ 63 - 1 : Int) / 1000) * 1000 := Int.mul_le_mul_of_nonneg_left k1 (by decide)
      have e : ((2 ^ 63 - 1 : Int) / 1000) * 1000 ≤ 2 ^ 63 - 1 := by decide
      omega
    have e : (1000 : Int) ≤ (2 ^ 63 - 1 : Int) / 1000 := by decide
    omega
  · unfold Builtin.Str.tooLong
    rw [sizeLine_eq]
    exact decide_eq_false (by omega)
  · rw [if_neg n1, n2, if_neg (by decide)]
    have fit : (repStr k.toNat a).length ≤ sizeLine := by
      rw [repStr_len, Nat.mul_comm, sizeLine_eq]
      omega
    exact ⟨fit, ⟨.str _, H, I.tok _, ⟨_, rfl⟩, q⟩⟩
end
end TK

/-! C(e, .., k = v, ..), that may raise -/
namespace TK
open PySem PySem.Spec PyProof.Rows L2
/-- a def that does not raise keeps its promise under any handlers -/
theorem fn_lift {P : Program} {w : World} {K : PySem.W.Frag} {mg : Str → Option Value} {base : Heap} {CX : CXT} {k : Nat} {f : Addr} {fd : FuncData} {ps : List Str} {sp : Sp} (F : FnOk P w K mg base CX0 k f fd ps sp) : FnOk P w K mg base CX k f fd ps sp :=
  ⟨F.len, fun A outer s H args us vs Q E hr he hb hv hs => codeAny_mono (F.run A outer s H args us vs Q E hr he hb hv hs) fun r s' h => by
    cases r with
    | error e => exact False.elim h
    | ok fl => cases fl <;> exact h⟩
def tMakeKAt (C : Addr) (n m : Nat) (sp : Sp) (gV : List V → List V → List V) (E : L2.St → XK) (t tk : TA) : TE := fun σ H Q => t σ H fun vs H1 => tk σ H1 fun zs H2 => vs.length = n ∧ zs.length = m ∧ ∀ x dx, H2 x = none → H2 dx = none → dx ≠ x →
  sp (gV (.ref x :: vs) zs) (upd (upd H2 dx (.own x)) x (.ins C dx [])) (fun v H3 => v = .non ∧ Q (.ref x) H3) (E σ)
section
variable {X : Cx} {CX : CXT} {k n : Nat} {f C : Addr} {fd : FuncData} {ps ks : List Str} {sp : Sp} {x : Str} {p pos : Pos} {e : Expr} {es : List Expr} {kws : List Keyword} {t tk : TA} {g : List Value → List Value → List Value} {gV : List V → List V → List V}
theorem run_makeKS {pins : List (Addr × Obj)} {σ : L2.St} {E : XK} {H : Hp} {s : Shared} {Q : VK} {us ws : List Value} {vs zs : List V} (M : Mk X.K C f) (F : FnOk X.prog X.w X.K X.mg X.base CX k f fd ps sp) (hr : Room (k + 1) X.A) (hb : KBn X.K fd ps (n + 1) ks g gV) (hx : PassesAt CX X σ E)
    (I : Inv X pins σ H s) (r : Vals vs us) (rz : Vals zs ws) (l1 : vs.length = n) (l2 : zs.length = ks.length)
    (h : ∀ x dx, H x = none → H dx = none → dx ≠ x → sp (gV (.ref x :: vs) zs) (upd (upd H dx (.own x)) x (.ins C dx [])) (fun v H2 => v = .non ∧ Q (.ref x) H2) E) :
    wpAny (model X.prog X.w) X.A (call (.ref C) us (ks.zip ws)) (EP X pins σ Q) X.xe s := by
  have hq := h (s.heap.objs.size + 1) s.heap.objs.size (I.hok.fresh (Nat.le_succ _)) (I.hok.fresh (Nat.le_refl _)) (Nat.ne_of_lt (Nat.lt_succ_self _))
  have I2 := Inv.made (C := C) I
  have r1 : Vals (V.ref (s.heap.objs.size + 1) :: vs) (Value.ref (s.heap.objs.size + 1) :: us) := .cons rfl r
  have r2 := hb.rel r1 rz
  have n1 : (Value.ref (s.heap.objs.size + 1) :: us).length = n + 1 := by
    rw [List.length_cons, ← r.length, l1]
  refine wpAny_call (make_map (f := f) I.kIn M.makes M.init (beq_iff_eq.mp M.fn) (codeAny_mono (F.run _ X.stack _ _ ⟨Value.ref (s.heap.objs.size + 1) :: us, ks.zip ws⟩ (g (Value.ref (s.heap.objs.size + 1) :: us) ws) _ _ E (hr.make C us (ks.zip ws))
    (I2.env0.make C us (ks.zip ws)) (hb.to _ (Value.ref (s.heap.objs.size + 1) :: us) ws I2.kIn n1 (rz.length.symm.trans l2)) r2 hq) fun r s' hq' => ?_))
  cases r with
  | error e => exact hx pins _ _ e s' I2 hq'
  | ok fl =>
    cases fl with
    | ret u =>
      obtain ⟨v, H', I3, rv, ev, q3⟩ := I2.after hq'
      subst ev
      exact ⟨rv, ⟨V.ref (s.heap.objs.size + 1), H', I3, rfl, q3⟩⟩
    | next => exact False.elim hq'
    | brk => exact False.elim hq'
    | cont => exact False.elim hq'
theorem pe_makeKAt {E : L2.St → XK} (M : Mk X.K C f) (F : FnOk X.prog X.w X.K X.mg X.base CX k f fd ps sp) (hr : Room (k + 1) X.A) (hg : Gl X x) (hm : X.mg x = some (.ref C)) (hb : KBn X.K fd ps (n + 1) ks g gV) (hx : ∀ σ, PassesAt CX X σ (E σ)) (ha : PA X (e :: es) t) (hkw : PK X kws tk)
    (hall : (backToKw pos (keywordEach kws X.env)).all (·.1.isSome) = true := by rfl) (hks : (backToKw pos (keywordEach kws X.env)).filterMap (·.1) = ks := by rfl) (hdb : (x == ("__debug__" : Str)) = false := by decide)
    (he : starEach (e :: es) X.env = (false, eval e X.env) :: starEach es X.env := by rfl) (hpl : ((backTo pos (starEach (e :: es) X.env)).any (·.1) || (backToKw pos (keywordEach kws X.env)).any (·.1.isNone)) = false := by rfl) :
    PE X (.Call (.Name x p) (e :: es) kws pos) (tMakeKAt C n ks.length sp gV E t tk) := by
  refine ⟨fun pins s σ H Q I h => ?_⟩
  refine wpAny_Call_Name_kw (ld_glob I hg hm ?_ hdb)
  refine PySem.W.callWith_KW (h₀ := X.base) I.ok.mod.kin M.kp hall (thn (ha.run pos pins s σ H _ I h) fun us s1 ⟨vs, H1, I1, r, q⟩ => ?_) hpl he
  refine thn (hkw.run pos pins s1 σ H1 _ I1 q) fun ws s2 ⟨zs, H2, I2, rz, l1, l2, q2⟩ => ⟨I2.kIn, ?_⟩
  rw [hks]
  exact run_makeKS M F hr hb (hx σ) I2 r rz l1 l2 q2
end
end TK

namespace TK
open PySem PySem.Spec PyProof.Rows L2
def topS (i : Nat) : Stmt := PySem.Challenge.pw_turnsandkeys_k36_book_refusals.main.body.getD i (.Pass ⟨0, 0, 0, 0⟩)
abbrev s_wall : Stmt := topS 0
theorem sc_wall : FnScope ["k"] ["k"] (defScope s_wall) := ⟨rfl, rfl, rfl, by decide +kernel, rfl, by decide +kernel, by decide +kernel⟩
abbrev s_is_name : Stmt := topS 12
theorem sc_is_name : FnScope ["word", "sign"] ["word"] (defScope s_is_name) := ⟨rfl, rfl, rfl, by decide +kernel, rfl, by decide +kernel, by decide +kernel⟩
abbrev s_check_size : Stmt := topS 13
theorem sc_check_size : FnScope ["size", "low", "high"] ["size", "low", "high"] (defScope s_check_size) := ⟨rfl, rfl, rfl, by decide +kernel, rfl, by decide +kernel, by decide +kernel⟩
abbrev s_check_names : Stmt := topS 14
theorem sc_check_names : FnScope ["names", "most", "hook", "at", "name"] ["names", "most", "hook"] (defScope s_check_names) := ⟨rfl, rfl, rfl, by decide +kernel, rfl, by decide +kernel, by decide +kernel⟩
abbrev s_are_picks : Stmt := topS 16
theorem sc_are_picks : FnScope ["picks", "known", "pick"] ["picks", "known"] (defScope s_are_picks) := ⟨rfl, rfl, rfl, by decide +kernel, rfl, by decide +kernel, by decide +kernel⟩
abbrev s_are_bids : Stmt := topS 17
theorem sc_are_bids : FnScope ["bids", "members", "member", "_", "bid"] ["bids", "members"] (defScope s_are_bids) := ⟨rfl, rfl, rfl, by decide +kernel, rfl, by decide +kernel, by decide +kernel⟩
abbrev s_check_pages : Stmt := topS 18
theorem sc_check_pages : FnScope ["members", "pages", "names", "at", "name", "bids", "_", "followers", "page"] ["members", "pages"] (defScope s_check_pages) := ⟨rfl, rfl, rfl, by decide +kernel, rfl, by decide +kernel, by decide +kernel⟩
abbrev s_check_ends : Stmt := topS 19
theorem sc_check_ends : FnScope ["names", "starts", "home"] ["names", "starts", "home"] (defScope s_check_ends) := ⟨rfl, rfl, rfl, by decide +kernel, rfl, by decide +kernel, by decide +kernel⟩
abbrev s_sorted_bids : Stmt := topS 22
theorem sc_sorted_bids : FnScope ["members", "bids", "member", "bidder", "bid"] ["members", "bids"] (defScope s_sorted_bids) := ⟨rfl, rfl, rfl, by decide +kernel, rfl, by decide +kernel, by decide +kernel⟩
abbrev s_L_cell : Stmt := topS 24
theorem sc_L_cell : FnScope ["_law_script", "_law_k", "_law_far", "_law_j"] ["_law_script", "_law_k"] (defScope s_L_cell) := ⟨rfl, rfl, rfl, by decide +kernel, rfl, by decide +kernel, by decide +kernel⟩
abbrev s_L_mixed : Stmt := topS 25
theorem sc_L_mixed : FnScope ["_law_cell_here", "_law_k", "_law_x"] ["_law_cell_here", "_law_k"] (defScope s_L_mixed) := ⟨rfl, rfl, rfl, by decide +kernel, rfl, by decide +kernel, by decide +kernel⟩
abbrev s_L_pool : Stmt := topS 26
theorem sc_L_pool : FnScope ["_law_cell_here", "_law_number", "_law_rest", "_law_deep", "_law_pool_here", "_law_k"] ["_law_cell_here", "_law_number"] (defScope s_L_pool) := ⟨rfl, rfl, rfl, by decide +kernel, rfl, by decide +kernel, by decide +kernel⟩
abbrev s_L_part : Stmt := topS 27
theorem sc_L_part : FnScope ["_law_pool_here", "_law_spot", "_law_under", "_law_size"] ["_law_pool_here", "_law_spot", "_law_under", "_law_size"] (defScope s_L_part) := ⟨rfl, rfl, rfl, by decide +kernel, rfl, by decide +kernel, by decide +kernel⟩
abbrev s_L_names : Stmt := topS 28
theorem sc_L_names : FnScope ["_law_pool_here", "_law_spot", "_law_number", "_law_letters", "_law_stem", "_law_k", "_law_turn", "_law_cut", "_law_first", "_law_short", "_law_tail", "_law_names_here", "_law_mark"] ["_law_pool_here", "_law_spot", "_law_number"] (defScope s_L_names) := ⟨rfl, rfl, rfl, by decide +kernel, rfl, by decide +kernel, by decide +kernel⟩
abbrev s_L_strange : Stmt := topS 29
theorem sc_L_strange : FnScope ["_law_names_here", "_law_letter"] ["_law_names_here"] (defScope s_L_strange) := ⟨rfl, rfl, rfl, by decide +kernel, rfl, by decide +kernel, by decide +kernel⟩
abbrev s_L_big : Stmt := topS 30
theorem sc_L_big : FnScope ["_law_pool_here", "_law_spot", "_law_least", "_law_crest", "_law_far"] ["_law_pool_here", "_law_spot", "_law_least", "_law_crest"] (defScope s_L_big) := ⟨rfl, rfl, rfl, by decide +kernel, rfl, by decide +kernel, by decide +kernel⟩
abbrev s_L_some : Stmt := topS 31
theorem sc_L_some : FnScope ["_law_pool_here", "_law_spot", "_law_names_here", "_law_some_here", "_law_k"] ["_law_pool_here", "_law_spot", "_law_names_here"] (defScope s_L_some) := ⟨rfl, rfl, rfl, by decide +kernel, rfl, by decide +kernel, by decide +kernel⟩
abbrev s_L_pages : Stmt := topS 32
theorem sc_L_pages : FnScope ["_law_pool_here", "_law_spot", "_law_members", "_law_names_here", "_law_pages_here", "_law_j", "_law_wishers", "_law_bids", "_law_k", "_law_followers"] ["_law_pool_here", "_law_spot", "_law_members", "_law_names_here"] (defScope s_L_pages) := ⟨rfl, rfl, rfl, by decide +kernel, rfl, by decide +kernel, by decide +kernel⟩
abbrev s_L_integer : Stmt := topS 33
theorem sc_L_integer : FnScope ["_law_got"] ["_law_got"] (defScope s_L_integer) := ⟨rfl, rfl, rfl, by decide +kernel, rfl, by decide +kernel, by decide +kernel⟩
abbrev s_L_same : Stmt := topS 34
theorem sc_L_same : FnScope ["_law_got", "_law_wanted", "_law_k"] ["_law_got", "_law_wanted"] (defScope s_L_same) := ⟨rfl, rfl, rfl, by decide +kernel, rfl, by decide +kernel, by decide +kernel⟩
abbrev s_L_shuffled : Stmt := topS 35
theorem sc_L_shuffled : FnScope ["_law_pool_here", "_law_spot", "_law_row", "_law_left", "_law_taken", "_law_k"] ["_law_pool_here", "_law_spot", "_law_row"] (defScope s_L_shuffled) := ⟨rfl, rfl, rfl, by decide +kernel, rfl, by decide +kernel, by decide +kernel⟩
abbrev s_L_good : Stmt := topS 36
theorem sc_L_good : FnScope ["_law_head", "_law_members", "_law_titles", "_law_rows", "_law_title", "_law_bids", "_law_followers", "_law_offered", "_law_firsts", "_law_homes", "_law_member", "_law_bid"] ["_law_head"] (defScope s_L_good) := ⟨rfl, rfl, rfl, by decide +kernel, rfl, by decide +kernel, by decide +kernel⟩
abbrev s_L_bad_word : Stmt := topS 37
theorem sc_L_bad_word : FnScope ["_law_pool_here", "_law_spot", "_law_word", "_law_signs", "_law_way", "_law_cut", "_law_sign"] ["_law_pool_here", "_law_spot", "_law_word"] (defScope s_L_bad_word) := ⟨rfl, rfl, rfl, by decide +kernel, rfl, by decide +kernel, by decide +kernel⟩
abbrev s_L_stranger : Stmt := topS 38
theorem sc_L_stranger : FnScope ["_law_pool_here", "_law_spot", "_law_names_here", "_law_way", "_law_word"] ["_law_pool_here", "_law_spot", "_law_names_here"] (defScope s_L_stranger) := ⟨rfl, rfl, rfl, by decide +kernel, rfl, by decide +kernel, by decide +kernel⟩
abbrev s_L_wrong_members : Stmt := topS 39
theorem sc_L_wrong_members : FnScope ["_law_pool_here", "_law_members", "_law_way", "_law_some_here", "_law_spot", "_law_bad", "_law_place", "_law_more", "_law_size", "_law_k"] ["_law_pool_here", "_law_members"] (defScope s_L_wrong_members) := ⟨rfl, rfl, rfl, by decide +kernel, rfl, by decide +kernel, by decide +kernel⟩
abbrev s_L_wrong_count : Stmt := topS 40
theorem sc_L_wrong_count : FnScope ["_law_pool_here", "_law_rows", "_law_more", "_law_k", "_law_row"] ["_law_pool_here", "_law_rows"] (defScope s_L_wrong_count) := ⟨rfl, rfl, rfl, by decide +kernel, rfl, by decide +kernel, by decide +kernel⟩
abbrev s_L_wrong_bids : Stmt := topS 41
theorem sc_L_wrong_bids : FnScope ["_law_pool_here", "_law_spot", "_law_members", "_law_bids", "_law_way", "_law_place", "_law_member", "_law_bid", "_law_here", "_law_there", "_law_far"] ["_law_pool_here", "_law_spot", "_law_members", "_law_bids"] (defScope s_L_wrong_bids) := ⟨rfl, rfl, rfl, by decide +kernel, rfl, by decide +kernel, by decide +kernel⟩
abbrev s_L_wrong_page : Stmt := topS 42
theorem sc_L_wrong_page : FnScope ["_law_pool_here", "_law_members", "_law_rows", "_law_worse", "_law_place", "_law_way", "_law_other", "_law_row"] ["_law_pool_here", "_law_members", "_law_rows"] (defScope s_L_wrong_page) := ⟨rfl, rfl, rfl, by decide +kernel, rfl, by decide +kernel, by decide +kernel⟩
abbrev s_L_wrong_names : Stmt := topS 43
theorem sc_L_wrong_names : FnScope ["_law_pool_here", "_law_spot", "_law_known", "_law_row", "_law_here", "_law_there"] ["_law_pool_here", "_law_spot", "_law_known", "_law_row"] (defScope s_L_wrong_names) := ⟨rfl, rfl, rfl, by decide +kernel, rfl, by decide +kernel, by decide +kernel⟩
abbrev s_L_wrong_followers : Stmt := topS 44
theorem sc_L_wrong_followers : FnScope ["_law_pool_here", "_law_titles", "_law_rows", "_law_worse", "_law_place", "_law_other", "_law_row"] ["_law_pool_here", "_law_titles", "_law_rows"] (defScope s_L_wrong_followers) := ⟨rfl, rfl, rfl, by decide +kernel, rfl, by decide +kernel, by decide +kernel⟩
abbrev s_L_stage : Stmt := topS 45
theorem sc_L_stage : FnScope ["_law_pool_here"] ["_law_pool_here"] (defScope s_L_stage) := ⟨rfl, rfl, rfl, by decide +kernel, rfl, by decide +kernel, by decide +kernel⟩
abbrev s_L_spoilt : Stmt := topS 46
theorem sc_L_spoilt : FnScope ["_law_pool_here", "_law_stage_here", "_law_book", "_law_members", "_law_rows", "_law_firsts", "_law_homes", "_law_titles", "_law_worse", "_law_due", "_law_place", "_law_row"] ["_law_pool_here", "_law_stage_here", "_law_book"] (defScope s_L_spoilt) := ⟨rfl, rfl, rfl, by decide +kernel, rfl, by decide +kernel, by decide +kernel⟩
abbrev s_L_handed : Stmt := topS 47
theorem sc_L_handed : FnScope ["_law_book", "_law_loose", "_law_pages_here", "_law_title", "_law_bids", "_law_followers"] ["_law_book", "_law_loose"] (defScope s_L_handed) := ⟨rfl, rfl, rfl, by decide +kernel, rfl, by decide +kernel, by decide +kernel⟩
abbrev s_L_told : Stmt := topS 48
theorem sc_L_told : FnScope ["_law_given", "_law_told_here", "e", "_law_strange_here"] ["_law_given"] (defScope s_L_told) := ⟨rfl, rfl, rfl, by decide +kernel, rfl, by decide +kernel, by decide +kernel⟩
abbrev s_L_bare : Stmt := topS 49
theorem sc_L_bare : FnScope ["_law_book", "_law_told_here", "_law_row"] ["_law_book"] (defScope s_L_bare) := ⟨rfl, rfl, rfl, by decide +kernel, rfl, by decide +kernel, by decide +kernel⟩
abbrev s_L_refuses : Stmt := topS 50
theorem sc_L_refuses : FnScope ["_law_one", "_law_two", "_law_good_here", "_law_worse", "_law_due", "_law_loose", "_law_book", "_law_wanted", "_law_given"] ["_law_one", "_law_two", "_law_good_here"] (defScope s_L_refuses) := ⟨rfl, rfl, rfl, by decide +kernel, rfl, by decide +kernel, by decide +kernel⟩
abbrev s_law : Stmt := topS 51
theorem sc_law : FnScope ["_law_script", "_law_good_here", "_law_turn", "_law_one", "_law_two"] ["_law_script"] (defScope s_law) := ⟨rfl, rfl, rfl, by decide +kernel, rfl, by decide +kernel, by decide +kernel⟩
end TK

namespace TK
open PySem PySem.Spec PyProof.Rows L2
section
variable {P : Program} {w : World} {K : PySem.W.Frag} {mg : Str → Option Value} {base : Heap}
/-! check_size, check_range -/
theorem pz {n : Nat} : (0 : Int) < ((n + 1 : Nat) : Int) := by omega
theorem mb {a : Int} {n : Nat} (h : n + 1 ≤ 2 ^ 63) : -(2 ^ 64) < a % ((n + 1 : Nat) : Int) ∧ a % ((n + 1 : Nat) : Int) < 2 ^ 64 := by
  have h1 := Int.emod_nonneg a (b := ((n + 1 : Nat) : Int)) (by omega)
  have h2 := Int.emod_lt_of_pos a (b := ((n + 1 : Nat) : Int)) (by omega)
  omega
/-! _law_part -/
def partOf (ns : List Int) (s u z : Int) : Int := ns.getD s.toNat 0 / u % z
def spPart (K : PySem.W.Frag) : Sp := fun vs H Q _ => ∃ (a : Addr) (ns : List Int) (s u z : Int), vs = [.ref a, .int s, .int u, .int z] ∧ SqL K H a (ns.map V.int) ∧ 0 ≤ s ∧ s < ns.length ∧ 0 < u ∧ u < 1000000 ∧ 0 < z ∧ Q (.int (partOf ns s u z)) H
theorem get_int {ns : List Int} {s : Int} (h0 : 0 ≤ s) (h : s < ns.length) : atI (ns.map V.int) s = some (.int (ns.getD s.toNat 0)) := by
  have h1 : s.toNat < ns.length := by omega
  refine atI_in h0 ?_
  rw [List.getElem?_map, List.getElem?_eq_getElem h1, List.getD_eq_getElem?_getD, List.getElem?_eq_getElem h1]
  rfl
theorem ok_L_part {f : Addr} {fd : FuncData} (F : Fun K "_law_part" "_law_part" s_L_part f fd) (m_int : mg "int" = none) : FnOk P w K mg base CX0 1 f fd ["_law_pool_here", "_law_spot", "_law_under", "_law_size"] (spPart K) := by
  refine F.ok sc_L_part (fun vs H Q E h => ?_) (fun cdv A outer s H vs Q E hr h => ?_)
  · obtain ⟨a, ns, s, u, z, rfl, _⟩ := h
    rfl
  · obtain ⟨a, ns, s, u, z, rfl, hS, h0, h1, h2, h3, h4, q⟩ := h
    refine ⟨_, (pss_one (ps_ret (pe_op op_mod (pe_op op_fdiv (pe_callTy call_int1 (by rfl) m_int (by decide +kernel) (pa_cons (pe_ix ix_list (pv 0) (pv 1) (fun _ _ => rfl)) pa_nil)) (pv 2)) (pv 3)))), ?_⟩
    refine ⟨_, rfl, _, rfl, _, _, _, _, rfl, rfl, hS, get_int h0 h1, .inl ⟨_, rfl, _, rfl, _, _, rfl, rfl, ⟨h2, by omega⟩, _, rfl, _, _, rfl, rfl, h4, ?_⟩⟩
    exact q
theorem part_lo {ns : List Int} {s u z : Int} (h : 0 < z) : 0 ≤ partOf ns s u z := Int.emod_nonneg _ (by omega)
theorem part_hi {ns : List Int} {s u z : Int} (h : 0 < z) : partOf ns s u z < z := Int.emod_lt_of_pos _ h
/-! _law_mixed -/
def spMixed : Sp := fun vs H Q _ => ∃ c k : Int, vs = [.int c, .int k] ∧ 0 ≤ k ∧ k < 1000000 ∧ ∀ r : Int, 0 ≤ r → Q (.int r) H
theorem ok_L_mixed {f : Addr} {fd : FuncData} (F : Fun K "_law_mixed" "_law_mixed" s_L_mixed f fd) (m_abs : mg "abs" = none) : FnOk P w K mg base CX0 1 f fd ["_law_cell_here", "_law_k"] spMixed := by
  refine F.ok sc_L_mixed (fun vs H Q E h => ?_) (fun cdv A outer s H vs Q E hr h => ?_)
  · obtain ⟨c, k, rfl, _⟩ := h
    rfl
  · obtain ⟨c, k, rfl, h0, h1, q⟩ := h
    refine ⟨_, (pss_cons (ps_set (i := 2) sc_L_mixed.nd rfl (.inl rfl) (pe_op op_mod (pe_op op_add (pe_op op_mul (pe_op op_mod (pe_callB call_abs (by rfl) m_abs (by decide +kernel) (pa_cons (pv 0) pa_nil)) pe_int) pe_int) (pe_op op_mul (pe_op op_add (pv 1) pe_int) pe_int)) pe_int))
  (pss_cons (ps_set (i := 2) sc_L_mixed.nd rfl (.inl rfl) (pe_op op_mod (pe_op op_add (pe_op op_mul (pv 2) (pe_op op_add (pe_op op_mod (pv 2) pe_int) pe_int)) (pe_op op_mul (pe_op op_add (pv 1) pe_int) pe_int)) pe_int))
  (pss_cons (ps_set (i := 2) sc_L_mixed.nd rfl (.inl rfl) (pe_op op_mod (pe_op op_mul (pv 2) (pe_op op_add (pe_op op_mod (pv 2) pe_int) pe_int)) pe_int))
  (pss_one (ps_ret (pe_op op_fdiv (pv 2) pe_int)))))), ?_⟩
    refine ⟨_, rfl, _, rfl, _, _, rfl, rfl, pz, _, _, rfl, rfl, .inr (by decide), _, rfl, _, _, rfl, rfl, _, _, rfl, rfl, .inr (by decide), _, _, rfl, rfl, _, _, rfl, rfl, pz, ?_⟩
    refine ⟨_, rfl, _, rfl, _, _, rfl, rfl, pz, _, _, rfl, rfl, _, _, rfl, rfl, .inl (mb (by decide)), _, rfl, _, _, rfl, rfl, _, _, rfl, rfl, .inr (by decide), _, _, rfl, rfl, _, _, rfl, rfl, pz, ?_⟩
    refine ⟨_, rfl, _, rfl, _, _, rfl, rfl, pz, _, _, rfl, rfl, _, _, rfl, rfl, .inl (mb (by decide)), _, _, rfl, rfl, pz, _, rfl, _, _, rfl, rfl, ⟨by decide, by decide⟩, ?_⟩
    exact q _ (Int.ediv_nonneg (Int.emod_nonneg _ (by decide)) (by decide))
/-! _law_cell -/
def spCellA (K : PySem.W.Frag) : Sp := fun vs H Q _ => ∃ (a : Addr) (ns : List Int) (k : Int), vs = [.ref a, .int k] ∧ SqL K H a (ns.map V.int) ∧ 0 ≤ k ∧ k < 1000 ∧ ns.length ≤ 1000 ∧ ∀ r : Int, Q (.int r) H
theorem ok_L_cell {f : Addr} {fd : FuncData} (F : Fun K "_law_cell" "_law_cell" s_L_cell f fd) (m_len : mg "len" = none) (m_range : mg "range" = none) (m_abs : mg "abs" = none) : FnOk P w K mg base CX0 1 f fd ["_law_script", "_law_k"] (spCellA K) := by
  refine F.ok sc_L_cell (fun vs H Q E h => ?_) (fun cdv A outer s H vs Q E hr h => ?_)
  · obtain ⟨a, ns, k, rfl, _⟩ := h
    rfl
  · obtain ⟨a, ns, k, rfl, hS, h0, h1, h2, q⟩ := h
    refine ⟨_, (pss_cons (ps_if (pt_cmpR op_lt (pv 1) (pe_callB call_len_seq (by rfl) m_len (by decide +kernel) (pa_cons (pv 0) pa_nil)) (nomark _)) (pss_one (ps_ret (pe_ix ix_list (pv 0) (pv 1) (fun _ _ => rfl)))) pss_nil)
  (pss_cons (ps_set (i := 2) sc_L_cell.nd rfl (.inl rfl) (pe_op op_mul pe_int (pe_op op_add (pv 1) pe_int)))
  (pss_cons (ps_for PassesOwn.never rfl (pi_range1 (by rfl) m_range (pa_cons (pe_callB call_len_seq (by rfl) m_len (by decide +kernel) (pa_cons (pv 0) pa_nil)) pa_nil)) (pg_name (i := 3) sc_L_cell.nd rfl (.inl rfl))
    (pss_one (ps_set (i := 2) sc_L_cell.nd rfl (.inl rfl) (pe_op op_mod (pe_op op_add (pv 2) (pe_op op_mul (pe_op op_mul (pe_op op_add (pv 3) pe_int) (pe_op op_mod (pe_callB call_abs (by rfl) m_abs (by decide +kernel) (pa_cons (pe_ix ix_list (pv 0) (pv 3) (fun _ _ => rfl)) pa_nil)) pe_int)) pe_int)) pe_int))))
  (pss_one (ps_ret (pv 2)))))), ?_⟩
    refine ⟨_, rfl, _, rfl, _, _, rfl, .inl hS, _, _, rfl, rfl, _, rfl, ite2 (fun e => ?_) (fun e => ?_)⟩
    · have e1 : k < ((ns.map V.int).length : Nat) := of_decide_eq_true e
      rw [List.length_map] at e1
      exact ⟨_, rfl, _, rfl, _, _, _, _, rfl, rfl, hS, get_int h0 e1, q _⟩
    · refine ⟨_, rfl, _, _, rfl, rfl, _, _, rfl, rfl, .inl (by decide), ?_⟩
      refine ⟨_, rfl, _, _, rfl, .inl hS, _, rfl, by omega, by rw [List.length_map]; omega, for_range (fun i σ H' => H' = H ∧ ∃ (r : Int) (y : Option V), σ = [some (.ref a), some (.int k), some (.int r), y]) ⟨rfl, _, _, rfl⟩ ?_ ?_⟩
      · rintro i σ H' hi ⟨rfl, r, y, rfl⟩
        rw [List.length_map] at hi
        have hi' : i < ns.length := by omega
        refine ⟨_, rfl, _, rfl, _, _, rfl, rfl, _, rfl, _, rfl, _, _, _, _, rfl, rfl, hS, get_int (by omega) (by omega), _, rfl, _, _, rfl, rfl, pz, _, _, rfl, rfl, .inr (mb (by decide)), _, _, rfl, rfl, .inr (by decide), _, _, rfl, rfl, _, _, rfl, rfl, pz, rfl, _, _, rfl⟩
      · rintro σ H' ⟨rfl, r, y, rfl⟩
        exact ⟨_, rfl, q _⟩
end
end TK

namespace TK
open PySem PySem.Spec PyProof.Rows L2
theorem upd_twice {H : Hp} {p : Addr} {a b : HO} : upd (upd H p a) p b = upd H p b := by
  funext x
  unfold upd
  by_cases e : x = p
  · rw [if_pos e, if_pos e]
  · rw [if_neg e, if_neg e, if_neg e]
section
variable {P : Program} {w : World} {K : PySem.W.Frag} {mg : Str → Option Value} {base : Heap}
/-! _law_pool -/
def spPool : Sp := fun vs H Q _ => ∃ (c n : Int), vs = [.int c, .int n] ∧ 0 ≤ n ∧ n ≤ 1000 ∧ ∀ (p : Addr) (ns : List Int), H p = none → (ns.length : Int) = n → (∀ x ∈ ns, 0 ≤ x) → Q (.ref p) (upd H p (.lst (ns.map V.int)))
theorem ok_L_pool {f : Addr} {fd : FuncData} (F : Fun K "_law_pool" "_law_pool" s_L_pool f fd) (m_range : mg "range" = none) (m_abs : mg "abs" = none) (d_L_mixed : Def P w K mg base "_law_mixed" 1 ["_law_cell_here", "_law_k"] spMixed) : FnOk P w K mg base CX0 2 f fd ["_law_cell_here", "_law_number"] spPool := by
  refine F.ok sc_L_pool (fun vs H Q E h => ?_) (fun cdv A outer s H vs Q E hr h => ?_)
  · obtain ⟨c, n, rfl, _⟩ := h
    rfl
  · obtain ⟨c, n, rfl, h0, h1, q⟩ := h
    refine ⟨_, (pss_cons (ps_set (i := 2) sc_L_pool.nd rfl (.inl rfl) (pe_callB call_abs (by rfl) m_abs (by decide +kernel) (pa_cons (pv 0) pa_nil)))
  (pss_cons (ps_set (i := 3) sc_L_pool.nd rfl (.inl rfl) (pe_cmpR op_ge (pv 2) (pe_op op_pow pe_int pe_int) (nomark _)))
  (pss_cons (ps_set (i := 4) sc_L_pool.nd rfl (.inl rfl) (pe_lst pa_nil))
  (pss_cons (ps_for PassesOwn.never rfl (pi_range1 (by rfl) m_range (pa_cons (pv 1) pa_nil)) (pg_name (i := 5) sc_L_pool.nd rfl (.inl rfl))
    (pss_one (ps_if (PW.pt (pw_and (pt_val (pv 3)) (pw_and1 (pt_cmpR op_gt (pv 2) pe_int (nomark _))))) (pss_cons (ps_expr (pe_bm PySem.F.plainAttrs_list PySem.F.slot_list_append PySem.F.type_list_append mt_append (pv 4) (pa_cons (pe_op op_mod (pv 2) pe_int) pa_nil)))
  (pss_one (ps_set (i := 2) sc_L_pool.nd rfl (.inl rfl) (pe_op op_fdiv (pv 2) pe_int)))) (pss_one (ps_expr (pe_bm PySem.F.plainAttrs_list PySem.F.slot_list_append PySem.F.type_list_append mt_append (pv 4) (pa_cons (pe_callD d_L_mixed (hr.mono (by decide)) (by rfl) (pa_cons (pv 0) (pa_cons (pv 5) pa_nil))) pa_nil)))))))
  (pss_one (ps_ret (pv 4))))))), ?_⟩
    have ha : 0 ≤ (if c < 0 then -c else c) := by split <;> omega
    refine ⟨_, rfl, _, rfl, _, rfl, _, _, rfl, rfl, ⟨by decide, by decide, by decide⟩, _, _, rfl, rfl, ?_⟩
    refine ⟨Nat.zero_le _, fun p np => ?_⟩
    refine ⟨_, rfl, _, rfl, by omega, by omega, for_range (fun i σ H' => ∃ (r : Int) (b : Bool) (ns : List Int) (y : Option V), σ = [some (.int c), some (.int n), some (.int r), some (.bl b), some (.ref p), y] ∧ 0 ≤ r ∧ ns.length = i ∧ (∀ x ∈ ns, 0 ≤ x) ∧ H' = upd H p (.lst (ns.map V.int))) ⟨_, _, [], _, rfl, ha, rfl, (fun x hx => nomatch hx), rfl⟩ ?_ ?_⟩
    · rintro i σ H' hi ⟨r, b, ns, y, rfl, r0, hl, hx, rfl⟩
      have hz : (ns.map V.int).length < sizeLine := by rw [List.length_map]; exact small1000 (by omega)
      refine ⟨_, rfl, _, rfl, ite2 (fun e => ?_) (fun e => ?_)⟩
      · refine ⟨_, rfl, _, _, rfl, rfl, _, rfl, ite2 (fun e => ?_) (fun e => ?_)⟩
        · refine ⟨_, rfl, .inl ⟨rfl, _, lstAt upd_same⟩, _, rfl, _, _, rfl, rfl, pz, _, _, _, rfl, rfl, upd_same, hz, ?_⟩
          refine ⟨_, rfl, _, _, rfl, rfl, ⟨by decide, by decide⟩, ?_⟩
          refine ⟨_, b, ns ++ [r % 5040], _, rfl, Int.ediv_nonneg r0 (by decide), by rw [List.length_append, hl]; rfl, ?_, ?_⟩
          · intro x h
            rcases List.mem_append.mp h with h | h
            · exact hx x h
            · cases List.mem_singleton.mp h; exact Int.emod_nonneg _ (by decide)
          · rw [upd_twice, List.map_append]; rfl
        · refine ⟨_, rfl, .inl ⟨rfl, _, lstAt upd_same⟩, _, rfl, _, rfl, _, _, rfl, by omega, by omega, fun z z0 => ⟨_, _, _, rfl, rfl, upd_same, hz, r, b, ns ++ [z], _, rfl, r0, by rw [List.length_append, hl]; rfl, ?_, ?_⟩⟩
          · intro x h
            rcases List.mem_append.mp h with h | h
            · exact hx x h
            · cases List.mem_singleton.mp h; exact z0
          · rw [upd_twice, List.map_append]; rfl
      · refine iteF ?_
        refine ⟨_, rfl, .inl ⟨rfl, _, lstAt upd_same⟩, _, rfl, _, rfl, _, _, rfl, by omega, by omega, fun z z0 => ⟨_, _, _, rfl, rfl, upd_same, hz, r, b, ns ++ [z], _, rfl, r0, by rw [List.length_append, hl]; rfl, ?_, ?_⟩⟩
        · intro x h
          rcases List.mem_append.mp h with h | h
          · exact hx x h
          · cases List.mem_singleton.mp h; exact z0
        · rw [upd_twice, List.map_append]; rfl
    · rintro σ H' ⟨r, b, ns, y, rfl, r0, hl, hx, rfl⟩
      exact ⟨_, rfl, q p ns np (by omega) hx⟩
/-! _law_far -/
/-! _law_chosen: from 0 to the crest -/
end
end TK

namespace TK
open PySem PySem.Spec PyProof.Rows L2
/-! ### texts as lists of codes -/
def sOf (l : List Nat) : Str := ⟨l.toArray⟩
theorem sOf_codes (l : List Nat) : (sOf l).cps.toList = l := rfl
theorem sOf_len (l : List Nat) : (sOf l).length = l.length := by simp [sOf, Str.length]
theorem sOf_app (a b : List Nat) : sOf a ++ sOf b = sOf (a ++ b) := by
  show (⟨a.toArray ++ b.toArray⟩ : Str) = ⟨(a ++ b).toArray⟩
  simp
theorem sOf_inj {a b : List Nat} (h : sOf a = sOf b) : a = b := by
  have := congrArg (fun z : Str => z.cps.toList) h
  exact this
theorem sOf_one (c : Nat) : (⟨#[c]⟩ : Str) = sOf [c] := rfl
theorem cut_to (l : List Nat) {m : Int} (h : 0 ≤ m) : cutS (sOf l) none (some m) = sOf (l.take m.toNat) := by
  obtain ⟨k, rfl⟩ : ∃ k : Nat, m = (k : Int) := ⟨m.toNat, by omega⟩
  unfold cutS
  rw [HT.sIx_none, HT.sIx_nat, sOf_len, sOf_codes, List.drop_zero, Nat.sub_zero, Int.toNat_natCast]
  show sOf _ = sOf _
  congr 1
  by_cases hk : k ≤ l.length
  · rw [Nat.min_eq_left hk]
  · rw [Nat.min_eq_right (by omega), List.take_of_length_le (by omega), List.take_of_length_le (by omega)]
theorem cut_from (l : List Nat) {m : Int} (h : 0 ≤ m) : cutS (sOf l) (some m) none = sOf (l.drop m.toNat) := by
  obtain ⟨k, rfl⟩ : ∃ k : Nat, m = (k : Int) := ⟨m.toNat, by omega⟩
  unfold cutS
  rw [HT.sIx_none, HT.sIx_nat, sOf_len, sOf_codes, Int.toNat_natCast]
  show sOf _ = sOf _
  congr 1
  by_cases hk : k ≤ l.length
  · rw [Nat.min_eq_left hk, List.take_of_length_le (by rw [List.length_drop]; omega)]
  · rw [Nat.min_eq_right (by omega), List.drop_of_length_le (by omega), List.drop_of_length_le (by omega), List.take_nil]
def lettersZ : Str := Str.ofString "abcdefghijklmnopqrstuvwxyz"
theorem letters_codes : lettersZ.cps.toList = (List.range 26).map (97 + ·) := by decide +kernel
theorem letters_len : lettersZ.length = 26 := by decide +kernel
theorem letter_at {i : Int} (h0 : 0 ≤ i) (h1 : i < 26) : atI lettersZ.cps.toList i = some (97 + i.toNat) := by
  refine atI_in h0 ?_
  rw [letters_codes, List.getElem?_map, List.getElem?_range (by omega)]
  rfl
def Let (l : List Nat) : Prop := ∀ c ∈ l, 97 ≤ c ∧ c ≤ 122
theorem Let.app {a b : List Nat} (h : Let a) (k : Let b) : Let (a ++ b) := fun c hc => by
  rcases List.mem_append.mp hc with e | e
  · exact h c e
  · exact k c e
theorem Let.one {n : Nat} (h : n < 26) : Let [97 + n] := fun c hc => by
  cases List.mem_singleton.mp hc
  omega
theorem Let.take {a : List Nat} (h : Let a) (n : Nat) : Let (a.take n) := fun c hc => h c (List.mem_of_mem_take hc)
theorem Let.drop {a : List Nat} (h : Let a) (n : Nat) : Let (a.drop n) := fun c hc => h c (List.mem_of_mem_drop hc)
/-- a name: 1 to 8 letters -/
def Nm (l : List Nat) : Prop := 1 ≤ l.length ∧ l.length ≤ 8 ∧ Let l
def nameF (b : Bool) (stem short tail : List Nat) (cut first turn : Nat) (k : Nat) : List Nat :=
  if b = true then short.take cut ++ [97 + (first + 7 * ((k + turn) % 6)) % 26] ++ short.drop cut ++ tail else stem.take ((k + turn) % 6 + 1)
theorem nameF_nm {b : Bool} {stem short tail : List Nat} {cut first turn k : Nat} (hs : stem.length = 6) (hsh : short.length ≤ 6) (ht : tail.length ≤ 1) (l1 : Let stem) (l2 : Let short) (l3 : Let tail) : Nm (nameF b stem short tail cut first turn k) := by
  unfold nameF
  cases b with
  | true =>
    rw [if_pos rfl]
    have e : (short.take cut).length + (short.drop cut).length = short.length := by rw [← List.length_append, List.take_append_drop]
    refine ⟨?_, ?_, (((l2.take _).app (.one (Nat.mod_lt _ (by decide)))).app (l2.drop _)).app l3⟩
    · simp only [List.length_append, List.length_cons, List.length_nil]; omega
    · simp only [List.length_append, List.length_cons, List.length_nil]; omega
  | false =>
    rw [if_neg (by decide)]
    have := Nat.mod_lt (k + turn) (show 6 > 0 by decide)
    exact ⟨by rw [List.length_take]; omega, by rw [List.length_take]; omega, l1.take _⟩
theorem nameF_inj {b : Bool} {stem short tail : List Nat} {cut first turn k j : Nat} (hs : stem.length = 6) (hk : k < 6) (hj : j < 6) (h : nameF b stem short tail cut first turn k = nameF b stem short tail cut first turn j) : k = j := by
  unfold nameF at h
  cases b with
  | true =>
    rw [if_pos rfl, if_pos rfl] at h
    simp only [List.append_assoc, List.append_cancel_left_eq, List.cons_append, List.nil_append, List.cons.injEq] at h
    have := h.1
    omega
  | false =>
    rw [if_neg (by decide), if_neg (by decide)] at h
    have e := congrArg List.length h
    rw [List.length_take, List.length_take, hs] at e
    omega
theorem nodup_range {f : Nat → List Nat} : ∀ {n : Nat}, (∀ k j, k < n → j < n → f k = f j → k = j) → ((List.range n).map f).Nodup := by
  intro n h
  rw [List.nodup_iff_pairwise_ne, List.pairwise_map]
  refine List.Pairwise.imp_of_mem ?_ (List.nodup_iff_pairwise_ne.mp List.nodup_range)
  intro a b ha hb hne e
  exact hne (h a b (List.mem_range.mp ha) (List.mem_range.mp hb) e)
def vN (l : List Nat) : V := .str (sOf l)
section
variable {P : Program} {w : World} {K : PySem.W.Frag} {mg : Str → Option Value} {base : Heap}
/-! _law_names -/
def spNames (K : PySem.W.Frag) : Sp := fun vs H Q _ => ∃ (a : Addr) (ns : List Int) (s n : Int), vs = [.ref a, .int s, .int n] ∧ SqL K H a (ns.map V.int) ∧ 0 ≤ s ∧ s + 5 ≤ ns.length ∧ 0 ≤ n ∧ n ≤ 6 ∧
  ∀ (p : Addr) (zs : List (List Nat)), H p = none → (zs.length : Int) = n → (∀ z ∈ zs, Nm z) → zs.Nodup → Q (.ref p) (upd H p (.lst (zs.map vN)))
theorem small_len {l : List Nat} (h : l.length ≤ 1000) : (sOf l).length ≤ sizeLine := by rw [sOf_len]; exact Nat.le_of_lt (small1000 h)
theorem ok_L_names {f : Addr} {fd : FuncData} (F : Fun K "_law_names" "_law_names" s_L_names f fd) (m_range : mg "range" = none) (m_int : mg "int" = none) (d_L_part : Def P w K mg base "_law_part" 1 ["_law_pool_here", "_law_spot", "_law_under", "_law_size"] (spPart K)) : FnOk P w K mg base CX0 2 f fd ["_law_pool_here", "_law_spot", "_law_number"] (spNames K) := by
  refine F.ok sc_L_names (fun vs H Q E h => ?_) (fun cdv A outer s H vs Q E hr h => ?_)
  · obtain ⟨a, ns, s, n, rfl, _⟩ := h
    rfl
  · obtain ⟨a, ns, s, n, rfl, hS, h0, h1, h2, h3, q⟩ := h
    refine ⟨_, (pss_cons (ps_set (i := 3) sc_L_names.nd rfl (.inl rfl) pe_str)
  (pss_cons (ps_set (i := 4) sc_L_names.nd rfl (.inl rfl) pe_str)
  (pss_cons (ps_for PassesOwn.never rfl (pi_range1 (by rfl) m_range (pa_cons pe_int pa_nil)) (pg_name (i := 5) sc_L_names.nd rfl (.inl rfl))
    (pss_one (ps_set (i := 4) sc_L_names.nd rfl (.inl rfl) (pe_op op_add_str (pe_op op_add_str (pv 4) (pe_ix ix_str (pv 3) (pe_callD d_L_part (hr.mono (by decide)) (by rfl) (pa_cons (pv 0) (pa_cons (pe_op op_add (pv 1) (pv 5)) (pa_cons pe_int (pa_cons pe_int pa_nil))))) (fun _ _ => rfl))) (pe_ix ix_str (pv 3) (pe_callD d_L_part (hr.mono (by decide)) (by rfl) (pa_cons (pv 0) (pa_cons (pe_op op_add (pv 1) (pv 5)) (pa_cons pe_int (pa_cons pe_int pa_nil))))) (fun _ _ => rfl))))))
  (pss_cons (ps_set (i := 6) sc_L_names.nd rfl (.inl rfl) (pe_callD d_L_part (hr.mono (by decide)) (by rfl) (pa_cons (pv 0) (pa_cons (pe_op op_add (pv 1) pe_int) (pa_cons pe_int (pa_cons pe_int pa_nil))))))
  (pss_cons (ps_set (i := 7) sc_L_names.nd rfl (.inl rfl) (pe_callD d_L_part (hr.mono (by decide)) (by rfl) (pa_cons (pv 0) (pa_cons (pe_op op_add (pv 1) pe_int) (pa_cons pe_int (pa_cons pe_int pa_nil))))))
  (pss_cons (ps_set (i := 8) sc_L_names.nd rfl (.inl rfl) (pe_callD d_L_part (hr.mono (by decide)) (by rfl) (pa_cons (pv 0) (pa_cons (pe_op op_add (pv 1) pe_int) (pa_cons pe_int (pa_cons pe_int pa_nil))))))
  (pss_cons (ps_set (i := 9) sc_L_names.nd rfl (.inl rfl) (pe_slice sl_str (pv 4) po_none (po_some (pe_callD d_L_part (hr.mono (by decide)) (by rfl) (pa_cons (pv 0) (pa_cons (pe_op op_add (pv 1) pe_int) (pa_cons pe_int (pa_cons pe_int pa_nil))))))))
  (pss_cons (ps_set (i := 10) sc_L_names.nd rfl (.inl rfl) (pe_slice sl_str (pv 4) po_none (po_some (pe_callD d_L_part (hr.mono (by decide)) (by rfl) (pa_cons (pv 0) (pa_cons (pe_op op_add (pv 1) pe_int) (pa_cons pe_int (pa_cons pe_int pa_nil))))))))
  (pss_cons (ps_set (i := 11) sc_L_names.nd rfl (.inl rfl) (pe_lst pa_nil))
  (pss_cons (ps_for PassesOwn.never rfl (pi_range1 (by rfl) m_range (pa_cons (pv 2) pa_nil)) (pg_name (i := 5) sc_L_names.nd rfl (.inl rfl))
    (pss_cons (ps_set (i := 12) sc_L_names.nd rfl (.inl rfl) (pe_op op_mod (pe_callTy call_int1 (by rfl) m_int (by decide +kernel) (pa_cons (pe_op op_add (pv 5) (pv 6)) pa_nil)) pe_int))
  (pss_one (ps_if (pt_cmpR op_eq (pe_callD d_L_part (hr.mono (by decide)) (by rfl) (pa_cons (pv 0) (pa_cons (pe_op op_add (pv 1) pe_int) (pa_cons pe_int (pa_cons pe_int pa_nil))))) pe_int (nomark _)) (pss_one (ps_expr (pe_bm PySem.F.plainAttrs_list PySem.F.slot_list_append PySem.F.type_list_append mt_append (pv 11) (pa_cons (pe_op op_add_str (pe_op op_add_str (pe_op op_add_str (pe_slice sl_str (pv 9) po_none (po_some (pv 7))) (pe_ix ix_str (pv 3) (pe_op op_mod (pe_callTy call_int1 (by rfl) m_int (by decide +kernel) (pa_cons (pe_op op_add (pv 8) (pe_op op_mul pe_int (pv 12))) pa_nil)) pe_int) (fun _ _ => rfl))) (pe_slice sl_str (pv 9) (po_some (pv 7)) po_none)) (pv 10)) pa_nil)))) (pss_one (ps_expr (pe_bm PySem.F.plainAttrs_list PySem.F.slot_list_append PySem.F.type_list_append mt_append (pv 11) (pa_cons (pe_slice sl_str (pv 4) po_none (po_some (pe_op op_add (pv 12) pe_int))) pa_nil))))))))
  (pss_one (ps_ret (pv 11))))))))))))), ?_⟩
    refine ⟨_, rfl, by decide, by decide, for_range (fun i σ H' => H' = H ∧ ∃ (st : List Nat) (y : Option V), σ = [some (.ref a), some (.int s), some (.int n), some (.str lettersZ), some (vN st), y, none, none, none, none, none, none, none] ∧ st.length = 2 * i ∧ Let st) ⟨rfl, [], _, rfl, rfl, fun c hc => nomatch hc⟩ ?_ ?_⟩
    · rintro i σ H' hi ⟨rfl, st, y, rfl, hl, le⟩
      have hi3 : i < 3 := hi
      have b1 := part_lo (ns := ns) (s := s + (0 + (i : Int))) (u := 1) (z := 26) (by decide)
      have b2 := part_hi (ns := ns) (s := s + (0 + (i : Int))) (u := 1) (z := 26) (by decide)
      have c1 := part_lo (ns := ns) (s := s + (0 + (i : Int))) (u := 26) (z := 26) (by decide)
      have c2 := part_hi (ns := ns) (s := s + (0 + (i : Int))) (u := 26) (z := 26) (by decide)
      refine ⟨_, rfl, _, rfl, _, rfl, _, rfl, _, rfl, _, _, rfl, rfl, _, _, _, _, _, rfl, hS, by omega, by omega, by decide, by decide, by decide, ?_⟩
      refine ⟨_, _, _, rfl, rfl, by rw [letters_len]; decide, letter_at b1 b2, _, _, rfl, rfl, ?_, ?_⟩
      · rw [sOf_len, sOf_one, sOf_len]; exact Nat.le_of_lt (small1000 (by simp only [List.length_cons, List.length_nil]; omega))
      refine ⟨_, rfl, _, rfl, _, rfl, _, rfl, _, _, rfl, rfl, _, _, _, _, _, rfl, hS, by omega, by omega, by decide, by decide, by decide, ?_⟩
      refine ⟨_, _, _, rfl, rfl, by rw [letters_len]; decide, letter_at c1 c2, _, _, rfl, rfl, ?_, ?_⟩
      · rw [sOf_one, sOf_one, sOf_app, sOf_len, sOf_len]; exact Nat.le_of_lt (small1000 (by simp only [List.length_append, List.length_cons, List.length_nil]; omega))
      refine ⟨rfl, (st ++ [97 + (partOf ns (s + (0 + (i : Int))) 1 26).toNat]) ++ [97 + (partOf ns (s + (0 + (i : Int))) 26 26).toNat], some (.int (0 + (i : Int))), ?_, ?_, ?_⟩
      · rw [sOf_one, sOf_one, sOf_app, sOf_app]; rfl
      · simp only [List.length_append, List.length_cons, List.length_nil]; omega
      · exact (le.app (.one (by omega))).app (.one (by omega))
    · rintro σ H' ⟨rfl, st, y, rfl, hl, le⟩
      have hl : st.length = 6 := hl
      have t1 := part_lo (ns := ns) (s := s + 3) (u := 1) (z := 6) (by decide)
      have t2 := part_hi (ns := ns) (s := s + 3) (u := 1) (z := 6) (by decide)
      have u1 := part_lo (ns := ns) (s := s + 3) (u := 6) (z := 7) (by decide)
      have u2 := part_hi (ns := ns) (s := s + 3) (u := 6) (z := 7) (by decide)
      have v1 := part_lo (ns := ns) (s := s + 3) (u := 42) (z := 26) (by decide)
      have v2 := part_hi (ns := ns) (s := s + 3) (u := 42) (z := 26) (by decide)
      have w1 := part_lo (ns := ns) (s := s + 4) (u := 4) (z := 7) (by decide)
      have w2 := part_hi (ns := ns) (s := s + 4) (u := 4) (z := 7) (by decide)
      have x1 := part_lo (ns := ns) (s := s + 4) (u := 2) (z := 2) (by decide)
      have x2 := part_hi (ns := ns) (s := s + 4) (u := 2) (z := 2) (by decide)
      refine ⟨_, rfl, _, rfl, _, _, rfl, rfl, _, _, _, _, _, rfl, hS, by omega, by omega, by decide, by decide, by decide, ?_⟩
      refine ⟨_, rfl, _, rfl, _, _, rfl, rfl, _, _, _, _, _, rfl, hS, by omega, by omega, by decide, by decide, by decide, ?_⟩
      refine ⟨_, rfl, _, rfl, _, _, rfl, rfl, _, _, _, _, _, rfl, hS, by omega, by omega, by decide, by decide, by decide, ?_⟩
      refine ⟨_, rfl, _, rfl, _, rfl, _, _, rfl, rfl, _, _, _, _, _, rfl, hS, by omega, by omega, by decide, by decide, by decide, _, rfl, _, rfl, small_len (by omega), ?_⟩
      refine ⟨_, rfl, _, rfl, _, rfl, _, _, rfl, rfl, _, _, _, _, _, rfl, hS, by omega, by omega, by decide, by decide, by decide, _, rfl, _, rfl, small_len (by omega), ?_⟩
      rw [cut_to st w1, cut_to st x1]
      refine ⟨Nat.zero_le _, fun p np => ?_⟩
      have hS2 : ∀ o, SqL K (upd H' p o) a (ns.map V.int) := fun o => (same_upd np).seq hS
      let nf := nameF (decide (partOf ns (s + 4) 1 2 = 0)) st (st.take (partOf ns (s + 4) 4 7).toNat) (st.take (partOf ns (s + 4) 2 2).toNat) (partOf ns (s + 3) 6 7).toNat (partOf ns (s + 3) 42 26).toNat (partOf ns (s + 3) 1 6).toNat
      refine ⟨_, rfl, _, rfl, by omega, by omega, for_range (fun i σ H2 => H2 = upd H' p (.lst (((List.range i).map nf).map vN)) ∧ ∃ (y m : Option V), σ = [some (.ref a), some (.int s), some (.int n), some (.str lettersZ), some (vN st), y, some (.int (partOf ns (s + 3) 1 6)), some (.int (partOf ns (s + 3) 6 7)), some (.int (partOf ns (s + 3) 42 26)), some (vN (st.take (partOf ns (s + 4) 4 7).toNat)), some (vN (st.take (partOf ns (s + 4) 2 2).toNat)), some (.ref p), m]) ⟨rfl, _, _, rfl⟩ ?_ ?_⟩
      · rintro i σ H2 hi ⟨rfl, y, m, rfl⟩
        have hz : (((List.range i).map nf).map vN).length < sizeLine := by rw [List.length_map, List.length_map, List.length_range]; exact small1000 (by omega)
        have mk : (0 + (i : Int) + partOf ns (s + 3) 1 6) % 6 = (((i + (partOf ns (s + 3) 1 6).toNat) % 6 : Nat) : Int) := by omega
        have next : ∀ (l : List Nat), l = nf i → ((List.range i).map nf).map vN ++ [vN l] = ((List.range (i + 1)).map nf).map vN := by
          intro l e
          rw [List.range_succ, List.map_append, List.map_append, e]
          rfl
        refine ⟨_, rfl, _, rfl, _, _, rfl, rfl, .inl ⟨_, rfl, _, _, rfl, rfl, pz, ?_⟩⟩
        refine ⟨_, rfl, _, rfl, _, _, rfl, rfl, _, _, _, _, _, rfl, hS2 _, by omega, by omega, by decide, by decide, by decide, rfl, _, rfl, ite2 (fun e => ?_) (fun e => ?_)⟩
        · have e1 : decide (partOf ns (s + 4) 1 2 = 0) = true := by
            have := V.int.inj (of_decide_eq_true e)
            exact decide_eq_true this
          have f1 : 0 ≤ (partOf ns (s + 3) 42 26 + 7 * ((0 + (i : Int) + partOf ns (s + 3) 1 6) % 6)) % 26 := by omega
          have f2 : (partOf ns (s + 3) 42 26 + 7 * ((0 + (i : Int) + partOf ns (s + 3) 1 6) % 6)) % 26 < 26 := by omega
          refine ⟨_, rfl, .inl ⟨rfl, _, lstAt upd_same⟩, ?_⟩
          refine ⟨_, rfl, _, rfl, _, rfl, _, rfl, small_len (by rw [List.length_take]; omega), ?_⟩
          refine ⟨_, rfl, _, rfl, _, rfl, _, _, rfl, rfl, .inl (by decide), _, _, rfl, rfl, .inl ⟨_, rfl, _, _, rfl, rfl, pz, _, _, _, rfl, rfl, by rw [letters_len]; decide, letter_at f1 f2, ?_⟩⟩
          rw [cut_to _ u1]
          refine ⟨_, _, rfl, rfl, ?_, ?_⟩
          · rw [sOf_one, sOf_len, sOf_len]
            exact Nat.le_of_lt (small1000 (by rw [List.length_take, List.length_take]; simp only [List.length_cons, List.length_nil]; omega))
          refine ⟨_, rfl, _, rfl, _, rfl, _, rfl, small_len (by rw [List.length_take]; omega), ?_⟩
          rw [cut_from _ u1, sOf_one, sOf_app]
          refine ⟨_, _, rfl, rfl, ?_, ?_⟩
          · rw [sOf_len, sOf_len]
            exact Nat.le_of_lt (small1000 (by rw [List.length_append, List.length_take, List.length_take, List.length_drop, List.length_take]; simp only [List.length_cons, List.length_nil]; omega))
          refine ⟨_, rfl, _, _, rfl, rfl, ?_, ?_⟩
          · rw [sOf_app, sOf_len, sOf_len]
            exact Nat.le_of_lt (small1000 (by rw [List.length_append, List.length_append, List.length_take, List.length_take, List.length_drop, List.length_take, List.length_take]; simp only [List.length_cons, List.length_nil]; omega))
          rw [sOf_app, sOf_app]
          refine ⟨_, _, _, rfl, rfl, upd_same, hz, ?_, _, _, rfl⟩
          rw [upd_twice]
          congr 2
          refine next _ ?_
          show _ = nameF _ _ _ _ _ _ _ _
          unfold nameF
          rw [if_pos e1]
          congr 5
          omega
        · have e1 : ¬ decide (partOf ns (s + 4) 1 2 = 0) = true := by
            intro z
            have := of_decide_eq_true z
            exact e (decide_eq_true (congrArg V.int this))
          refine ⟨_, rfl, .inl ⟨rfl, _, lstAt upd_same⟩, ?_⟩
          refine ⟨_, rfl, _, rfl, _, _, rfl, rfl, _, rfl, _, rfl, small_len (by omega), ?_⟩
          rw [cut_to _ (show (0 : Int) ≤ (0 + (i : Int) + partOf ns (s + 3) 1 6) % 6 + 1 by omega)]
          refine ⟨_, _, _, rfl, rfl, upd_same, hz, ?_, _, _, rfl⟩
          rw [upd_twice]
          congr 2
          refine next _ ?_
          show _ = nameF _ _ _ _ _ _ _ _
          unfold nameF
          rw [if_neg e1]
          congr 1
          omega
      · rintro σ H2 ⟨rfl, y, m, rfl⟩
        refine ⟨_, rfl, q p ((List.range n.toNat).map nf) np ?_ ?_ ?_⟩
        · rw [List.length_map, List.length_range]; omega
        · intro z hz
          obtain ⟨k, hk, rfl⟩ := List.mem_map.mp hz
          exact nameF_nm hl (by rw [List.length_take]; omega) (by rw [List.length_take]; omega) le (le.take _) (le.take _)
        · refine nodup_range fun k j hk hj e => ?_
          exact nameF_inj hl (by omega) (by omega) e
end
end TK

namespace TK
open PySem PySem.Spec PyProof.Rows L2
section
variable {P : Program} {w : World} {K : PySem.W.Frag} {mg : Str → Option Value} {base : Heap}
/-! _law_integer: of an int -/
def spInteger : Sp := fun vs H Q _ => ∃ i : Int, vs = [.int i] ∧ Q (.bl true) H
theorem ok_L_integer {f : Addr} {fd : FuncData} (F : Fun K "_law_integer" "_law_integer" s_L_integer f fd) (m_isinstance : mg "isinstance" = none) (m_int : mg "int" = none) (m_bool : mg "bool" = none) :
    FnOk P w K mg base CX0 1 f fd ["_law_got"] spInteger := by
  refine F.ok sc_L_integer (fun vs H Q E h => ?_) (fun cdv A outer s H vs Q E hr h => ?_)
  · obtain ⟨i, rfl, _⟩ := h
    rfl
  · obtain ⟨i, rfl, q⟩ := h
    refine ⟨_, (pss_one (ps_ret (pe_and (pe_callB call_isi (by rfl) m_isinstance (by decide +kernel) (pa_cons (pv 0) (pa_cons (pe_bltn (v := .ty "int") (u := .type "int") (by rfl) m_int (by decide +kernel) rfl) pa_nil))) (pe_one (pe_not (pe_callB call_isi (by rfl) m_isinstance (by decide +kernel) (pa_cons (pv 0) (pa_cons (pe_bltn (v := .ty "bool") (u := .type "bool") (by rfl) m_bool (by decide +kernel) rfl) pa_nil)))))))), ?_⟩
    refine ⟨_, rfl, _, _, _, _, true, rfl, .ty "int", .base (.int i), rfl, _, rfl, iteT ?_⟩
    refine ⟨_, rfl, _, _, _, _, false, rfl, .ty "bool", .base (.int i), rfl, _, rfl, ?_⟩
    exact q
end
end TK

namespace TK
open PySem PySem.Spec PyProof.Rows L2
/-! ### the same data, down to a depth -/
def flat1 : V → Bool
  | .non => true | .bl _ => true | .int _ => true | .str _ => true | _ => false
/-- a tuple, known to the object or not -/
def TL (H : Hp) (a : Addr) (xs : List V) : Prop := H a = some (.tup xs) ∨ ∃ o, H a = some (.frz o (.tup xs))
theorem TL.ty {K : PySem.W.Frag} {H : Hp} {a : Addr} {xs : List V} (h : TL H a xs) : TyX K H (.ref a) (.type "tuple") := by
  rcases h with h | ⟨o, h⟩
  · exact .base (.tup h)
  · exact .fTuple h
theorem TL.sq {K : PySem.W.Frag} {H : Hp} {a : Addr} {xs : List V} (h : TL H a xs) : SqT K H a xs := .inl (h.elim .inl .inr)
def Eq2 (H : Hp) : Nat → V → V → Prop
  | 0, x, y => x = y ∧ flat1 x = true
  | n + 1, x, y => (x = y ∧ flat1 x = true) ∨ ∃ (a b : Addr) (xs ys : List V), x = .ref a ∧ y = .ref b ∧ ((H a = some (.lst xs) ∧ H b = some (.lst ys)) ∨ (TL H a xs ∧ TL H b ys)) ∧ xs.length = ys.length ∧ xs.length < 2 ^ 40 ∧
      ∀ (i : Nat) (x y : V), xs[i]? = some x → ys[i]? = some y → Eq2 H n x y
theorem bint {z : V} {H : Hp} {Q : VK} (h : z = .bl true) (q : Q (.bl true) H) : Q z H := h ▸ q
section
variable {P : Program} {w : World} {K : PySem.W.Frag} {mg : Str → Option Value} {base : Heap}
def spSame (n : Nat) : Sp := fun vs H Q _ => ∃ x y, vs = [x, y] ∧ Eq2 H n x y ∧ Q (.bl true) H
theorem same_tail {x y : V} {H : Hp} (ex : x = y) (fx : flat1 x = true) : (x = .non ∧ y = .non) ∨ (∃ b, x = .bl b ∧ y = .bl b) ∨ (∃ i, x = .int i ∧ y = .int i) ∨ ∃ z, x = .str z ∧ y = .str z := by
  subst ex
  cases x with
  | non => exact .inl ⟨rfl, rfl⟩
  | bl b => exact .inr (.inl ⟨b, rfl, rfl⟩)
  | int i => exact .inr (.inr (.inl ⟨i, rfl, rfl⟩))
  | str z => exact .inr (.inr (.inr ⟨z, rfl, rfl⟩))
  | byt _ => cases fx
  | flt _ => cases fx
  | ref _ => cases fx
  | ty _ => cases fx
structure SameTx (K : PySem.W.Frag) (mg : Str → Option Value) : Prop where
  m_isinstance : mg "isinstance" = none
  m_int : mg "int" = none
  m_bool : mg "bool" = none
  m_str : mg "str" = none
  m_tuple : mg "tuple" = none
  m_list : mg "list" = none
  m_len : mg "len" = none
  m_range : mg "range" = none
theorem ok_L_same {f : Addr} {fd : FuncData} (F : Fun K "_law_same" "_law_same" s_L_same f fd) (g : mg "_law_same" = some (.ref f)) (b : Binds K fd ["_law_got", "_law_wanted"] []) (T : SameTx K mg) (d_L_integer : Def P w K mg base "_law_integer" 1 ["_law_got"] spInteger) :
    ∀ n : Nat, n ≤ 10 → FnOk P w K mg base CX0 (n + 2) f fd ["_law_got", "_law_wanted"] (spSame n) := by
  obtain ⟨m_isinstance, m_int, m_bool, m_str, m_tuple, m_list, m_len, m_range⟩ := T
  intro n
  induction n with
  | zero =>
    intro _
    refine F.ok sc_L_same (fun vs H Q E h => ?_) (fun cdv A outer s H vs Q E hr h => ?_)
    · obtain ⟨x, y, rfl, _⟩ := h
      rfl
    · obtain ⟨x, y, rfl, ⟨ex, fx⟩, q⟩ := h
      refine ⟨_, (pss_cons (ps_if (pt_cmpR op_isN (pv 1) pe_non (nomark _)) (pss_one (ps_ret (pe_cmpR op_isN (pv 0) pe_non (nomark _)))) pss_nil)
  (pss_cons (ps_if (pt_cmpR op_isT (pv 1) pe_bl (nomark _)) (pss_one (ps_ret (pe_cmpR op_isT (pv 0) pe_bl (nomark _)))) pss_nil)
  (pss_cons (ps_if (pt_cmpR op_isT (pv 1) pe_bl (nomark _)) (pss_one (ps_ret (pe_cmpR op_isT (pv 0) pe_bl (nomark _)))) pss_nil)
  (pss_cons (ps_if (pt_val (pe_callB call_isi (by rfl) m_isinstance (by decide +kernel) (pa_cons (pv 1) (pa_cons (pe_bltn (v := .ty "int") (u := .type "int") (by rfl) m_int (by decide +kernel) rfl) pa_nil)))) (pss_one (ps_ret (pe_and (pe_callD d_L_integer (hr.mono (by omega)) (by rfl) (pa_cons (pv 0) pa_nil)) (pe_one (pe_cmpR op_eq (pv 0) (pv 1) (nomark _)))))) pss_nil)
  (pss_cons (ps_if (pt_val (pe_callB call_isi (by rfl) m_isinstance (by decide +kernel) (pa_cons (pv 1) (pa_cons (pe_bltn (v := .ty "str") (u := .type "str") (by rfl) m_str (by decide +kernel) rfl) pa_nil)))) (pss_one (ps_ret (pe_and (pe_callB call_isi (by rfl) m_isinstance (by decide +kernel) (pa_cons (pv 0) (pa_cons (pe_bltn (v := .ty "str") (u := .type "str") (by rfl) m_str (by decide +kernel) rfl) pa_nil))) (pe_one (pe_cmpR op_eq (pv 0) (pv 1) (nomark _)))))) pss_nil)
  (pss_cons (ps_if (PW.pt (pw_and (pt_val (pe_callB call_isi (by rfl) m_isinstance (by decide +kernel) (pa_cons (pv 1) (pa_cons (pe_bltn (v := .ty "tuple") (u := .type "tuple") (by rfl) m_tuple (by decide +kernel) rfl) pa_nil)))) (pw_and1 (pt_not (pt_val (pe_callB call_isi (by rfl) m_isinstance (by decide +kernel) (pa_cons (pv 0) (pa_cons (pe_bltn (v := .ty "tuple") (u := .type "tuple") (by rfl) m_tuple (by decide +kernel) rfl) pa_nil)))))))) (pss_one (ps_ret pe_bl)) pss_nil)
  (pss_cons (ps_if (PW.pt (pw_and (pt_val (pe_callB call_isi (by rfl) m_isinstance (by decide +kernel) (pa_cons (pv 1) (pa_cons (pe_bltn (v := .ty "list") (u := .type "list") (by rfl) m_list (by decide +kernel) rfl) pa_nil)))) (pw_and1 (pt_not (pt_val (pe_callB call_isi (by rfl) m_isinstance (by decide +kernel) (pa_cons (pv 0) (pa_cons (pe_bltn (v := .ty "list") (u := .type "list") (by rfl) m_list (by decide +kernel) rfl) pa_nil)))))))) (pss_one (ps_ret pe_bl)) pss_nil)
  (pss_cons (ps_if (pt_cmpR op_ne (pe_callB call_len_seq (by rfl) m_len (by decide +kernel) (pa_cons (pv 0) pa_nil)) (pe_callB call_len_seq (by rfl) m_len (by decide +kernel) (pa_cons (pv 1) pa_nil)) (nomark _)) (pss_one (ps_ret pe_bl)) pss_nil)
  (pss_cons ps_never (pss_one ps_never)))))))))), ?_⟩
      rcases same_tail (H := H) ex fx with ⟨rfl, rfl⟩ | ⟨b, rfl, rfl⟩ | ⟨i, rfl, rfl⟩ | ⟨z, rfl, rfl⟩
      · exact ⟨_, rfl, rfl, _, rfl, iteT ⟨_, rfl, rfl, q⟩⟩
      · refine ⟨_, rfl, rfl, _, rfl, iteF ⟨_, rfl, _, rfl, _, rfl, ?_⟩⟩
        cases b with
        | true => exact iteT ⟨_, rfl, _, rfl, q⟩
        | false => exact iteF ⟨_, rfl, _, rfl, _, rfl, iteT ⟨_, rfl, _, rfl, q⟩⟩
      · refine ⟨_, rfl, rfl, _, rfl, iteF ⟨_, rfl, _, rfl, _, rfl, iteF ⟨_, rfl, _, rfl, _, rfl, iteF ?_⟩⟩⟩
        refine ⟨_, rfl, _, _, _, _, true, rfl, .ty "int", .base (.int i), rfl, _, rfl, iteT ?_⟩
        refine ⟨_, rfl, i, rfl, _, rfl, iteT ⟨_, rfl, _, rfl, rfl, ?_⟩⟩
        exact bint (congrArg V.bl (decide_eq_true rfl)) q
      · refine ⟨_, rfl, rfl, _, rfl, iteF ⟨_, rfl, _, rfl, _, rfl, iteF ⟨_, rfl, _, rfl, _, rfl, iteF ?_⟩⟩⟩
        refine ⟨_, rfl, _, _, _, _, false, rfl, .ty "int", .base (.str z), rfl, _, rfl, iteF ?_⟩
        refine ⟨_, rfl, _, _, _, _, true, rfl, .ty "str", .base (.str z), rfl, _, rfl, iteT ?_⟩
        refine ⟨_, rfl, _, _, _, _, true, rfl, .ty "str", .base (.str z), rfl, _, rfl, iteT ⟨_, rfl, _, rfl, rfl, ?_⟩⟩
        exact bint (congrArg V.bl (decide_eq_true rfl)) q
  | succ n ih =>
    intro hn
    have d_L_same : Def P w K mg base "_law_same" (n + 2) ["_law_got", "_law_wanted"] (spSame n) := ⟨_, _, ih (by omega), g, F.kp, b⟩
    refine F.ok sc_L_same (fun vs H Q E h => ?_) (fun cdv A outer s H vs Q E hr h => ?_)
    · obtain ⟨x, y, rfl, _⟩ := h
      rfl
    · obtain ⟨x, y, rfl, hE, q⟩ := h
      rcases hE with ⟨ex, fx⟩ | ⟨a, c, xs, ys, rfl, rfl, hk, hl, hz, hi⟩
      · refine ⟨_, (pss_cons (ps_if (pt_cmpR op_isN (pv 1) pe_non (nomark _)) (pss_one (ps_ret (pe_cmpR op_isN (pv 0) pe_non (nomark _)))) pss_nil)
  (pss_cons (ps_if (pt_cmpR op_isT (pv 1) pe_bl (nomark _)) (pss_one (ps_ret (pe_cmpR op_isT (pv 0) pe_bl (nomark _)))) pss_nil)
  (pss_cons (ps_if (pt_cmpR op_isT (pv 1) pe_bl (nomark _)) (pss_one (ps_ret (pe_cmpR op_isT (pv 0) pe_bl (nomark _)))) pss_nil)
  (pss_cons (ps_if (pt_val (pe_callB call_isi (by rfl) m_isinstance (by decide +kernel) (pa_cons (pv 1) (pa_cons (pe_bltn (v := .ty "int") (u := .type "int") (by rfl) m_int (by decide +kernel) rfl) pa_nil)))) (pss_one (ps_ret (pe_and (pe_callD d_L_integer (hr.mono (by omega)) (by rfl) (pa_cons (pv 0) pa_nil)) (pe_one (pe_cmpR op_eq (pv 0) (pv 1) (nomark _)))))) pss_nil)
  (pss_cons (ps_if (pt_val (pe_callB call_isi (by rfl) m_isinstance (by decide +kernel) (pa_cons (pv 1) (pa_cons (pe_bltn (v := .ty "str") (u := .type "str") (by rfl) m_str (by decide +kernel) rfl) pa_nil)))) (pss_one (ps_ret (pe_and (pe_callB call_isi (by rfl) m_isinstance (by decide +kernel) (pa_cons (pv 0) (pa_cons (pe_bltn (v := .ty "str") (u := .type "str") (by rfl) m_str (by decide +kernel) rfl) pa_nil))) (pe_one (pe_cmpR op_eq (pv 0) (pv 1) (nomark _)))))) pss_nil)
  (pss_cons (ps_if (PW.pt (pw_and (pt_val (pe_callB call_isi (by rfl) m_isinstance (by decide +kernel) (pa_cons (pv 1) (pa_cons (pe_bltn (v := .ty "tuple") (u := .type "tuple") (by rfl) m_tuple (by decide +kernel) rfl) pa_nil)))) (pw_and1 (pt_not (pt_val (pe_callB call_isi (by rfl) m_isinstance (by decide +kernel) (pa_cons (pv 0) (pa_cons (pe_bltn (v := .ty "tuple") (u := .type "tuple") (by rfl) m_tuple (by decide +kernel) rfl) pa_nil)))))))) (pss_one (ps_ret pe_bl)) pss_nil)
  (pss_cons (ps_if (PW.pt (pw_and (pt_val (pe_callB call_isi (by rfl) m_isinstance (by decide +kernel) (pa_cons (pv 1) (pa_cons (pe_bltn (v := .ty "list") (u := .type "list") (by rfl) m_list (by decide +kernel) rfl) pa_nil)))) (pw_and1 (pt_not (pt_val (pe_callB call_isi (by rfl) m_isinstance (by decide +kernel) (pa_cons (pv 0) (pa_cons (pe_bltn (v := .ty "list") (u := .type "list") (by rfl) m_list (by decide +kernel) rfl) pa_nil)))))))) (pss_one (ps_ret pe_bl)) pss_nil)
  (pss_cons (ps_if (pt_cmpR op_ne (pe_callB call_len_seq (by rfl) m_len (by decide +kernel) (pa_cons (pv 0) pa_nil)) (pe_callB call_len_seq (by rfl) m_len (by decide +kernel) (pa_cons (pv 1) pa_nil)) (nomark _)) (pss_one (ps_ret pe_bl)) pss_nil)
  (pss_cons ps_never (pss_one ps_never)))))))))), ?_⟩
        rcases same_tail (H := H) ex fx with ⟨rfl, rfl⟩ | ⟨b, rfl, rfl⟩ | ⟨i, rfl, rfl⟩ | ⟨z, rfl, rfl⟩
        · exact ⟨_, rfl, rfl, _, rfl, iteT ⟨_, rfl, rfl, q⟩⟩
        · refine ⟨_, rfl, rfl, _, rfl, iteF ⟨_, rfl, _, rfl, _, rfl, ?_⟩⟩
          cases b with
          | true => exact iteT ⟨_, rfl, _, rfl, q⟩
          | false => exact iteF ⟨_, rfl, _, rfl, _, rfl, iteT ⟨_, rfl, _, rfl, q⟩⟩
        · refine ⟨_, rfl, rfl, _, rfl, iteF ⟨_, rfl, _, rfl, _, rfl, iteF ⟨_, rfl, _, rfl, _, rfl, iteF ?_⟩⟩⟩
          refine ⟨_, rfl, _, _, _, _, true, rfl, .ty "int", .base (.int i), rfl, _, rfl, iteT ?_⟩
          refine ⟨_, rfl, i, rfl, _, rfl, iteT ⟨_, rfl, _, rfl, rfl, ?_⟩⟩
          exact bint (congrArg V.bl (decide_eq_true rfl)) q
        · refine ⟨_, rfl, rfl, _, rfl, iteF ⟨_, rfl, _, rfl, _, rfl, iteF ⟨_, rfl, _, rfl, _, rfl, iteF ?_⟩⟩⟩
          refine ⟨_, rfl, _, _, _, _, false, rfl, .ty "int", .base (.str z), rfl, _, rfl, iteF ?_⟩
          refine ⟨_, rfl, _, _, _, _, true, rfl, .ty "str", .base (.str z), rfl, _, rfl, iteT ?_⟩
          refine ⟨_, rfl, _, _, _, _, true, rfl, .ty "str", .base (.str z), rfl, _, rfl, iteT ⟨_, rfl, _, rfl, rfl, ?_⟩⟩
          exact bint (congrArg V.bl (decide_eq_true rfl)) q
      · have step : ∀ (i : Nat) (hi1 : i < ys.length), ∃ x y, atI xs (0 + (i : Int)) = some x ∧ atI ys (0 + (i : Int)) = some y ∧ Eq2 H n x y := by
          intro i h1
          have h2 : i < xs.length := by omega
          refine ⟨xs[i], ys[i], ?_, ?_, hi i _ _ (List.getElem?_eq_getElem h2) (List.getElem?_eq_getElem h1)⟩
          · exact atI_in (by omega) (by rw [show (0 + (i : Int)).toNat = i by omega]; exact List.getElem?_eq_getElem h2)
          · exact atI_in (by omega) (by rw [show (0 + (i : Int)).toNat = i by omega]; exact List.getElem?_eq_getElem h1)
        rcases hk with ⟨ha, hc⟩ | ⟨ha, hc⟩
        · refine ⟨_, (pss_cons (ps_if (pt_cmpR op_isN (pv 1) pe_non (nomark _)) (pss_one (ps_ret (pe_cmpR op_isN (pv 0) pe_non (nomark _)))) pss_nil)
  (pss_cons (ps_if (pt_cmpR op_isT (pv 1) pe_bl (nomark _)) (pss_one (ps_ret (pe_cmpR op_isT (pv 0) pe_bl (nomark _)))) pss_nil)
  (pss_cons (ps_if (pt_cmpR op_isT (pv 1) pe_bl (nomark _)) (pss_one (ps_ret (pe_cmpR op_isT (pv 0) pe_bl (nomark _)))) pss_nil)
  (pss_cons (ps_if (pt_val (pe_callB call_isi (by rfl) m_isinstance (by decide +kernel) (pa_cons (pv 1) (pa_cons (pe_bltn (v := .ty "int") (u := .type "int") (by rfl) m_int (by decide +kernel) rfl) pa_nil)))) (pss_one (ps_ret (pe_and (pe_callD d_L_integer (hr.mono (by omega)) (by rfl) (pa_cons (pv 0) pa_nil)) (pe_one (pe_cmpR op_eq (pv 0) (pv 1) (nomark _)))))) pss_nil)
  (pss_cons (ps_if (pt_val (pe_callB call_isi (by rfl) m_isinstance (by decide +kernel) (pa_cons (pv 1) (pa_cons (pe_bltn (v := .ty "str") (u := .type "str") (by rfl) m_str (by decide +kernel) rfl) pa_nil)))) (pss_one (ps_ret (pe_and (pe_callB call_isi (by rfl) m_isinstance (by decide +kernel) (pa_cons (pv 0) (pa_cons (pe_bltn (v := .ty "str") (u := .type "str") (by rfl) m_str (by decide +kernel) rfl) pa_nil))) (pe_one (pe_cmpR op_eq (pv 0) (pv 1) (nomark _)))))) pss_nil)
  (pss_cons (ps_if (PW.pt (pw_and (pt_val (pe_callB call_isi (by rfl) m_isinstance (by decide +kernel) (pa_cons (pv 1) (pa_cons (pe_bltn (v := .ty "tuple") (u := .type "tuple") (by rfl) m_tuple (by decide +kernel) rfl) pa_nil)))) (pw_and1 (pt_not (pt_val (pe_callB call_isi (by rfl) m_isinstance (by decide +kernel) (pa_cons (pv 0) (pa_cons (pe_bltn (v := .ty "tuple") (u := .type "tuple") (by rfl) m_tuple (by decide +kernel) rfl) pa_nil)))))))) (pss_one (ps_ret pe_bl)) pss_nil)
  (pss_cons (ps_if (PW.pt (pw_and (pt_val (pe_callB call_isi (by rfl) m_isinstance (by decide +kernel) (pa_cons (pv 1) (pa_cons (pe_bltn (v := .ty "list") (u := .type "list") (by rfl) m_list (by decide +kernel) rfl) pa_nil)))) (pw_and1 (pt_not (pt_val (pe_callB call_isi (by rfl) m_isinstance (by decide +kernel) (pa_cons (pv 0) (pa_cons (pe_bltn (v := .ty "list") (u := .type "list") (by rfl) m_list (by decide +kernel) rfl) pa_nil)))))))) (pss_one (ps_ret pe_bl)) pss_nil)
  (pss_cons (ps_if (pt_cmpR op_ne (pe_callB call_len_seq (by rfl) m_len (by decide +kernel) (pa_cons (pv 0) pa_nil)) (pe_callB call_len_seq (by rfl) m_len (by decide +kernel) (pa_cons (pv 1) pa_nil)) (nomark _)) (pss_one (ps_ret pe_bl)) pss_nil)
  (pss_cons (ps_for PassesOwn.never rfl (pi_range1 (by rfl) m_range (pa_cons (pe_callB call_len_seq (by rfl) m_len (by decide +kernel) (pa_cons (pv 1) pa_nil)) pa_nil)) (pg_name (i := 2) sc_L_same.nd rfl (.inl rfl))
    (pss_one (ps_if (pt_not (pt_val (pe_callD d_L_same (hr.mono (by omega)) (by rfl) (pa_cons (pe_ix ix_list (pv 0) (pv 2) (fun _ _ => rfl)) (pa_cons (pe_ix ix_list (pv 1) (pv 2) (fun _ _ => rfl)) pa_nil))))) (pss_one (ps_ret pe_bl)) pss_nil)))
  (pss_one (ps_ret pe_bl))))))))))), ?_⟩
          refine ⟨_, rfl, rfl, _, rfl, iteF ⟨_, rfl, _, rfl, _, rfl, iteF ⟨_, rfl, _, rfl, _, rfl, iteF ?_⟩⟩⟩
          refine ⟨_, rfl, _, _, _, _, false, rfl, .ty "int", .base (.lst hc), rfl, _, rfl, iteF ?_⟩
          refine ⟨_, rfl, _, _, _, _, false, rfl, .ty "str", .base (.lst hc), rfl, _, rfl, iteF ?_⟩
          refine ⟨_, rfl, _, _, _, _, false, rfl, .ty "tuple", .base (.lst hc), rfl, _, rfl, iteF (iteF ?_)⟩
          refine ⟨_, rfl, _, _, _, _, true, rfl, .ty "list", .base (.lst hc), rfl, _, rfl, iteT ⟨_, rfl, _, _, _, _, true, rfl, .ty "list", .base (.lst ha), rfl, _, rfl, iteF ?_⟩⟩
          refine ⟨_, rfl, _, _, rfl, .inl (lstAt ha), _, rfl, _, _, rfl, .inl (lstAt hc), rfl, _, rfl, ?_⟩
          refine iteNS (congrArg (fun k : Nat => V.int (k : Int)) hl) ?_
          refine ⟨_, rfl, _, _, rfl, .inl (lstAt hc), _, rfl, by omega, by omega, for_range (fun i σ H' => H' = H ∧ ∃ y : Option V, σ = [some (.ref a), some (.ref c), y]) ⟨rfl, _, rfl⟩ ?_ ?_⟩
          · rintro i σ H' hlt ⟨rfl, y, rfl⟩
            obtain ⟨x1, y1, e1, e2, e3⟩ := step i (by omega)
            refine ⟨_, rfl, _, rfl, _, _, _, _, rfl, rfl, lstAt ha, e1, _, rfl, _, rfl, _, _, _, _, rfl, rfl, lstAt hc, e2, x1, y1, rfl, e3, _, rfl, iteF ⟨rfl, _, rfl⟩⟩
          · rintro σ H' ⟨rfl, y, rfl⟩
            exact q
        · refine ⟨_, (pss_cons (ps_if (pt_cmpR op_isN (pv 1) pe_non (nomark _)) (pss_one (ps_ret (pe_cmpR op_isN (pv 0) pe_non (nomark _)))) pss_nil)
  (pss_cons (ps_if (pt_cmpR op_isT (pv 1) pe_bl (nomark _)) (pss_one (ps_ret (pe_cmpR op_isT (pv 0) pe_bl (nomark _)))) pss_nil)
  (pss_cons (ps_if (pt_cmpR op_isT (pv 1) pe_bl (nomark _)) (pss_one (ps_ret (pe_cmpR op_isT (pv 0) pe_bl (nomark _)))) pss_nil)
  (pss_cons (ps_if (pt_val (pe_callB call_isi (by rfl) m_isinstance (by decide +kernel) (pa_cons (pv 1) (pa_cons (pe_bltn (v := .ty "int") (u := .type "int") (by rfl) m_int (by decide +kernel) rfl) pa_nil)))) (pss_one (ps_ret (pe_and (pe_callD d_L_integer (hr.mono (by omega)) (by rfl) (pa_cons (pv 0) pa_nil)) (pe_one (pe_cmpR op_eq (pv 0) (pv 1) (nomark _)))))) pss_nil)
  (pss_cons (ps_if (pt_val (pe_callB call_isi (by rfl) m_isinstance (by decide +kernel) (pa_cons (pv 1) (pa_cons (pe_bltn (v := .ty "str") (u := .type "str") (by rfl) m_str (by decide +kernel) rfl) pa_nil)))) (pss_one (ps_ret (pe_and (pe_callB call_isi (by rfl) m_isinstance (by decide +kernel) (pa_cons (pv 0) (pa_cons (pe_bltn (v := .ty "str") (u := .type "str") (by rfl) m_str (by decide +kernel) rfl) pa_nil))) (pe_one (pe_cmpR op_eq (pv 0) (pv 1) (nomark _)))))) pss_nil)
  (pss_cons (ps_if (PW.pt (pw_and (pt_val (pe_callB call_isi (by rfl) m_isinstance (by decide +kernel) (pa_cons (pv 1) (pa_cons (pe_bltn (v := .ty "tuple") (u := .type "tuple") (by rfl) m_tuple (by decide +kernel) rfl) pa_nil)))) (pw_and1 (pt_not (pt_val (pe_callB call_isi (by rfl) m_isinstance (by decide +kernel) (pa_cons (pv 0) (pa_cons (pe_bltn (v := .ty "tuple") (u := .type "tuple") (by rfl) m_tuple (by decide +kernel) rfl) pa_nil)))))))) (pss_one (ps_ret pe_bl)) pss_nil)
  (pss_cons (ps_if (PW.pt (pw_and (pt_val (pe_callB call_isi (by rfl) m_isinstance (by decide +kernel) (pa_cons (pv 1) (pa_cons (pe_bltn (v := .ty "list") (u := .type "list") (by rfl) m_list (by decide +kernel) rfl) pa_nil)))) (pw_and1 (pt_not (pt_val (pe_callB call_isi (by rfl) m_isinstance (by decide +kernel) (pa_cons (pv 0) (pa_cons (pe_bltn (v := .ty "list") (u := .type "list") (by rfl) m_list (by decide +kernel) rfl) pa_nil)))))))) (pss_one (ps_ret pe_bl)) pss_nil)
  (pss_cons (ps_if (pt_cmpR op_ne (pe_callB call_len_seq (by rfl) m_len (by decide +kernel) (pa_cons (pv 0) pa_nil)) (pe_callB call_len_seq (by rfl) m_len (by decide +kernel) (pa_cons (pv 1) pa_nil)) (nomark _)) (pss_one (ps_ret pe_bl)) pss_nil)
  (pss_cons (ps_for PassesOwn.never rfl (pi_range1 (by rfl) m_range (pa_cons (pe_callB call_len_seq (by rfl) m_len (by decide +kernel) (pa_cons (pv 1) pa_nil)) pa_nil)) (pg_name (i := 2) sc_L_same.nd rfl (.inl rfl))
    (pss_one (ps_if (pt_not (pt_val (pe_callD d_L_same (hr.mono (by omega)) (by rfl) (pa_cons (pe_ix ix_tup (pv 0) (pv 2) (fun _ _ => rfl)) (pa_cons (pe_ix ix_tup (pv 1) (pv 2) (fun _ _ => rfl)) pa_nil))))) (pss_one (ps_ret pe_bl)) pss_nil)))
  (pss_one (ps_ret pe_bl))))))))))), ?_⟩
          refine ⟨_, rfl, rfl, _, rfl, iteF ⟨_, rfl, _, rfl, _, rfl, iteF ⟨_, rfl, _, rfl, _, rfl, iteF ?_⟩⟩⟩
          refine ⟨_, rfl, _, _, _, _, false, rfl, .ty "int", hc.ty, rfl, _, rfl, iteF ?_⟩
          refine ⟨_, rfl, _, _, _, _, false, rfl, .ty "str", hc.ty, rfl, _, rfl, iteF ?_⟩
          refine ⟨_, rfl, _, _, _, _, true, rfl, .ty "tuple", hc.ty, rfl, _, rfl, iteT ⟨_, rfl, _, _, _, _, true, rfl, .ty "tuple", ha.ty, rfl, _, rfl, iteF ?_⟩⟩
          refine ⟨_, rfl, _, _, _, _, false, rfl, .ty "list", hc.ty, rfl, _, rfl, iteF (iteF ?_)⟩
          refine ⟨_, rfl, _, _, rfl, .inr (ha.sq), _, rfl, _, _, rfl, .inr (hc.sq), rfl, _, rfl, ?_⟩
          refine iteNS (congrArg (fun k : Nat => V.int (k : Int)) hl) ?_
          refine ⟨_, rfl, _, _, rfl, .inr (hc.sq), _, rfl, by omega, by omega, for_range (fun i σ H' => H' = H ∧ ∃ y : Option V, σ = [some (.ref a), some (.ref c), y]) ⟨rfl, _, rfl⟩ ?_ ?_⟩
          · rintro i σ H' hlt ⟨rfl, y, rfl⟩
            obtain ⟨x1, y1, e1, e2, e3⟩ := step i (by omega)
            refine ⟨_, rfl, _, rfl, _, _, _, _, rfl, rfl, ha.sq, e1, _, rfl, _, rfl, _, _, _, _, rfl, rfl, hc.sq, e2, x1, y1, rfl, e3, _, rfl, iteF ⟨rfl, _, rfl⟩⟩
          · rintro σ H' ⟨rfl, y, rfl⟩
            exact q
end
end TK

namespace TK
open PySem PySem.Spec PyProof.Rows L2
theorem eqv_nm {a b : List Nat} : eqV (vN a) (vN b) = decide (a = b) := by
  show (sOf a == sOf b) = _
  by_cases h : a = b
  · subst h; simp
  · rw [decide_eq_false h]
    exact beq_eq_false_iff_ne.mpr fun z => h (sOf_inj z)
theorem nms_flat (zs : List (List Nat)) : (zs.map vN).all flatV = true := by
  rw [List.all_eq_true]
  intro x hx
  obtain ⟨c, _, rfl⟩ := List.mem_map.mp hx
  rfl
theorem inV_nm {z : List Nat} {zs : List (List Nat)} : inV (vN z) (zs.map vN) = decide (z ∈ zs) := by
  unfold inV
  rw [List.any_map]
  by_cases h : z ∈ zs
  · rw [decide_eq_true h]
    exact List.any_eq_true.mpr ⟨z, h, by show eqV (vN z) (vN z) = true; rw [eqv_nm]; exact decide_eq_true rfl⟩
  · rw [decide_eq_false h]
    exact List.any_eq_false.mpr fun x hx => by
      show ¬ eqV (vN x) (vN z) = true
      rw [eqv_nm]
      intro e
      have := of_decide_eq_true e
      subst this
      exact h hx
theorem in_nm {z : List Nat} {zs : List (List Nat)} : (if false = true then !inV (vN z) (zs.map vN) else inV (vN z) (zs.map vN)) = decide (z ∈ zs) := by
  rw [if_neg (by decide), inV_nm]
theorem notin_nm {z : List Nat} {zs : List (List Nat)} : (if true = true then !inV (vN z) (zs.map vN) else inV (vN z) (zs.map vN)) = !decide (z ∈ zs) := by
  rw [if_pos rfl, inV_nm]
theorem eq_nm {a b : List Nat} : decide (vN a = vN b) = decide (a = b) := by
  by_cases h : a = b
  · subst h; simp
  · rw [decide_eq_false h]
    exact decide_eq_false fun z => h (sOf_inj (V.str.inj z))
theorem vN_at {zs : List (List Nat)} {i : Nat} {x : V} (h : (zs.map vN)[i]? = some x) : ∃ z, zs[i]? = some z ∧ x = vN z := by
  rw [List.getElem?_map] at h
  cases e : zs[i]? with
  | none => rw [e] at h; cases h
  | some z => rw [e] at h; exact ⟨z, rfl, (Option.some.inj h).symm⟩
theorem int_at {zs : List Int} {i : Nat} {x : V} (h : (zs.map V.int)[i]? = some x) : ∃ z, zs[i]? = some z ∧ x = .int z := by
  rw [List.getElem?_map] at h
  cases e : zs[i]? with
  | none => rw [e] at h; cases h
  | some z => rw [e] at h; exact ⟨z, rfl, (Option.some.inj h).symm⟩
section
variable {X : Cx} {K : PySem.W.Frag}
theorem mt_tup_indexK (h : X.K = K) : MtR X "tuple.index" (fun x xs H Q => ∃ p, ∃ ys : List Str, ∃ z j, x = .ref p ∧ xs = [.str z] ∧ SqT K H p (ys.map V.str) ∧ ys[j]? = some z ∧ (∀ m, m < j → ys[m]? ≠ some z) ∧ Q (.int (j : Nat)) H) := h ▸ L2.mt_tup_index
end
theorem vN_strs (zs : List (List Nat)) : zs.map vN = (zs.map sOf).map V.str := by rw [List.map_map]; rfl
theorem idx_first {zs : List (List Nat)} {z : List Nat} (h : z ∈ zs) (nd : zs.Nodup) : ∃ j : Nat, zs[j]? = some z ∧ (∀ m, m < j → zs[m]? ≠ some z) := by
  obtain ⟨j, hj⟩ := List.getElem?_of_mem h
  refine ⟨j, hj, fun m hm e => ?_⟩
  have hjl := (List.getElem?_eq_some_iff.mp hj).1
  have := (List.getElem?_inj hjl nd).mp (hj.trans e.symm)
  omega
theorem str_first {zs : List (List Nat)} {z : List Nat} {j : Nat} (h : zs[j]? = some z) (f : ∀ m, m < j → zs[m]? ≠ some z) : (zs.map sOf)[j]? = some (sOf z) ∧ ∀ m, m < j → (zs.map sOf)[m]? ≠ some (sOf z) := by
  refine ⟨by rw [List.getElem?_map, h]; rfl, fun m hm e => f m hm ?_⟩
  rw [List.getElem?_map] at e
  cases e1 : zs[m]? with
  | none => rw [e1] at e; cases e
  | some y => rw [e1] at e; exact congrArg some (sOf_inj (Option.some.inj e))
theorem take_map_succ {α β : Type} (f : α → β) {xs : List α} {i : Nat} {x : α} (h : xs[i]? = some x) : (xs.map f).take (i + 1) = (xs.map f).take i ++ [f x] := by
  rw [List.take_add_one, List.getElem?_map, h]; rfl
theorem take_all {α : Type} {xs : List α} {n : Nat} (h : xs.length = n) : xs.take n = xs := by rw [← h, List.take_length]
end TK

namespace TK
open PySem PySem.Spec PyProof.Rows L2
/-- o.m(k = v, ..) of an instance of the class at C -/
def tMethK (C : Addr) (m : Str) (n : Nat) (sp : Sp) (gV : List V → List V → List V) (E : XK) (ta : TE) (tk : TA) : TE := fun σ H Q => ta σ H fun x H1 => ∃ a dx fs, x = .ref a ∧ H1 a = some (.ins C dx fs) ∧ fs.lookup m = none ∧
  tk σ H1 fun zs H2 => zs.length = n ∧ sp (gV [x] zs) H2 Q E
section
variable {X : Cx} {CX : CXT} {k : Nat} {f C : Addr} {fd : FuncData} {ps ks : List Str} {sp : Sp} {E : XK} {m : Str} {pos apos : Pos} {o : Expr} {kws : List Keyword} {ta : TE} {tk : TA} {g : List Value → List Value → List Value} {gV : List V → List V → List V}
theorem run_kb {pins : List (Addr × Obj)} {σ : L2.St} {H : Hp} {s : Shared} {Q : VK} {n : Nat} {us ws : List Value} {vs zs : List V} (F : FnOk X.prog X.w X.K X.mg X.base CX k f fd ps sp) (hr : Room k X.A) (hb : KBn X.K fd ps n ks g gV) (hx : Passes CX X E)
    (I : Inv X pins σ H s) (r : Vals vs us) (rz : Vals zs ws) (l1 : us.length = n) (l2 : ws.length = ks.length) (h : sp (gV vs zs) H Q E) : wpAny (model X.prog X.w) X.A (call (.ref f) us (ks.zip ws)) (EP X pins σ Q) X.xe s := by
  refine wpAny_call (codeAny_mono (F.run X.A X.stack s H ⟨us, ks.zip ws⟩ (g us ws) (gV vs zs) Q E hr I.env0 (hb.to s us ws I.kIn l1 l2) (hb.rel r rz) h) fun r s' hq => ?_)
  cases r with
  | error e => exact hx pins σ H s e s' I hq
  | ok fl =>
    cases fl with
    | ret u => exact I.after hq
    | next => exact False.elim hq
    | brk => exact False.elim hq
    | cont => exact False.elim hq
theorem pe_methK0 {pl : Sem Bool} (he : PE X o ta) (c : Cls X.K C) (hm : Meth X.K C m f) (F : FnOk X.prog X.w X.K X.mg X.base CX k f fd ps sp) (hr : Room k X.A) (hb : KBn X.K fd ps 1 ks g gV) (hx : Passes CX X E) (hkw : PK X kws tk)
    (hall : (backToKw pos (keywordEach kws X.env)).all (·.1.isSome) = true := by rfl) (hks : (backToKw pos (keywordEach kws X.env)).filterMap (·.1) = ks := by rfl)
    (hpl : ((backTo pos (starEach [] X.env)).any (·.1) || (backToKw pos (keywordEach kws X.env)).any (·.1.isNone)) = false := by rfl)
    (ht : eval (.Call (.Attribute o m apos) [] kws pos) X.env = (do
      let ov ← eval o X.env
      standAt apos.atName
      let (f, first) ← holding [ov] (getMethod ov m pl)
      callWith pos f first (backTo pos (starEach [] X.env)) (backToKw pos (keywordEach kws X.env))) := by rfl) :
    PE X (.Call (.Attribute o m apos) [] kws pos) (tMethK C m ks.length sp gV E ta tk) := by
  refine ⟨fun pins s σ H Q I h => ?_⟩
  refine PySem.W.methodCall_KW (pl := pl) (thn (he.run pins s σ H _ I h) fun u s1 ⟨x, H1, I1, rx, a, dx, fs, ex, ea, l, q⟩ => ?_) ht
  subst ex
  obtain rfl : u = Value.ref a := rx
  refine getmeth_ok I1 ea c hm l ?_
  refine PySem.W.callWith_KW0 (first := [.ref a]) (h₀ := X.base) I.ok.mod.kin hm.kp hall ?_ hpl
  refine thn (hkw.run pos pins s1 σ H1 _ I1 q) fun ws s2 ⟨zs, H2, I2, rz, l1, q2⟩ => ⟨I2.kIn, ?_⟩
  rw [hks]
  exact run_kb (us := [.ref a]) (vs := [.ref a]) F hr hb hx I2 (.cons rfl .nil) rz rfl (rz.length.symm.trans l1) q2
end
section
variable {X : Cx} {K : PySem.W.Frag}
theorem call_tuple_ofK (h : X.K = K) : CallR X (.type "tuple") (fun xs H Q => ∃ p ys, xs = [.ref p] ∧ ((SqL K H p ys ∧ ∀ l, H l = none → Q (.ref l) (upd H l (.tup ys))) ∨ (SqT K H p ys ∧ Q (.ref p) H))) := h ▸ call_tuple_of
theorem call_list_ofK (h : X.K = K) : CallR X (.type "list") (fun xs H Q => ∃ p ys, xs = [.ref p] ∧ (SqL K H p ys ∨ SqT K H p ys) ∧ ∀ l, H l = none → Q (.ref l) (upd H l (.lst ys))) := h ▸ call_list_of
end
/-- what is no instance of the class, nor of one below it -/
inductive Odd (K : PySem.W.Frag) (C : Addr) (H : Hp) : V → Prop where
  | non (h : PySem.W.notFirst K C (.type "NoneType") = true) : Odd K C H .non
  | str (z : Str) (h : PySem.W.notFirst K C (.type "str") = true) : Odd K C H (.str z)
  | tup {a : Addr} {xs : List V} (e : H a = some (.tup xs)) (h : PySem.W.notFirst K C (.type "tuple") = true) : Odd K C H (.ref a)
section
variable {X : Cx} {K : PySem.W.Frag} {CX : CXT} {C g : Addr} {n : Nat} {fd : FuncData} {ps : List Str} {sp : Sp} {E : XK} {pins : List (Addr × Obj)} {σ : L2.St} {H : Hp} {s : Shared}
/-- o == y: y of one's own class, or of another kind -/
def rOwnA (K : PySem.W.Frag) (C : Addr) (sp : Sp) (E : XK) : R2 := fun x y H Q => IsIn H x C ∧ (IsIn H y C ∨ Odd K C H y) ∧ sp [x, y] H Q E
theorem odd_looks {x : V} {u : Value} (I : Inv X pins σ H s) (rx : RelV x u) (o : Odd X.K C H x) : ∃ tb, PySem.W.Looks (model X.prog X.w) s.heap (typeOf u) tb ∧ PySem.W.notFirst X.K C tb = true := by
  cases o with
  | non h => cases (show u = Value.none from rx); exact ⟨_, .now, h⟩
  | str z h => obtain ⟨t, q⟩ := (show ∃ t, u = Value.str z t from rx); cases q; exact ⟨_, .now, h⟩
  | @tup a xs ea h =>
    cases (show u = Value.ref a from rx)
    obtain ⟨_, _, _, o, h1, h2, _⟩ := (show ObjOk X.prog X.w H s.heap a (.tup xs) from I.hok a _ ea)
    exact ⟨_, h2 ▸ (PySem.W.Looks.ld h1).andThen .now, h⟩
theorem op_ownEqA {op : CmpOp} (hK : X.K = K) (hop : ∀ a b, compareOp op a b = richCompare op a b) (c : Own X.K C (cmpInfo op).2.1 g) (F : FnOk X.prog X.w X.K X.mg X.base CX n g fd ps sp) (hr : Room n X.A) (hb : Binds X.K fd ps []) (hx : Passes CX X E) :
    OpR X (compareOp op) (rOwnA K C sp E) := by
  subst hK
  intro pins s σ H x y v u Q I rx ry h
  obtain ⟨⟨a, dx, fs, rfl, ha⟩, hy, q⟩ := h
  cases rx
  obtain ⟨ox, od, J⟩ := own_at I ha
  obtain ⟨m, hF⟩ := I.fr
  rw [hop]
  have key : ∃ tb, PySem.W.Looks (model X.prog X.w) s.heap (typeOf u) tb ∧ PySem.W.notFirst X.K C tb = true := by
    rcases hy with ⟨b, dy, gs, rfl, hb'⟩ | o
    · cases ry
      obtain ⟨ox', od', J'⟩ := own_at I hb'
      exact ⟨_, J'.type, by simp [PySem.W.notFirst]⟩
    · exact odd_looks I ry o
  obtain ⟨tb, L, nf⟩ := key
  refine PySem.W.cmp_K (op := op) (tb := tb) hr.units0 hF I.ok.mod.kin J L nf c.at_ c.fn (wpAny_mono (run_own F hr I.env0 hb hx I (vs := [.ref a, y]) (.cons rfl (.cons ry .nil)) q) (fun w s' z => ?_) fun _ _ x => x)
  obtain ⟨z', H', I', rz, qz⟩ := z
  exact SlX.cmpback rz ⟨z', H', I', rz, qz⟩
end
end TK

/-! what the texts of books take from those of prices and links -/
namespace TK
open PySem PySem.Spec PyProof.Rows L2
theorem pi_listK {X : Cx} {K : PySem.W.Frag} {tg e : Expr} {te : TE} (h : X.K = K) (he : PE X e te) : PI X tg e (iList K te) := h ▸ pi_list he
theorem gTup3 {K : PySem.W.Frag} {i j k : Nat} {e : Addr} {x y z : V} {σ : L2.St} {H : Hp} {Q : L2.St → Hp → Prop} (he : H e = some (.tup [x, y, z])) (σ' : L2.St) (hσ : ((σ.set i (some x)).set j (some y)).set k (some z) = σ') (h : Q σ' H) :
    gTup K 3 (gCons (gName i) (gCons (gName j) (gCons (gName k) gNil))) (.ref e) σ H Q := by
  subst hσ
  exact ⟨_, _, rfl, tupAt he, rfl, _, _, rfl, _, _, rfl, _, _, rfl, rfl, h⟩
def SqS (K : PySem.W.Frag) (H : Hp) (a : Addr) (xs : List V) : Prop := SqL K H a xs ∨ SqT K H a xs
theorem SqS.same {K : PySem.W.Frag} {H H' : Hp} {a : Addr} {xs : List V} (h : SqS K H a xs) (s : Same H H') : SqS K H' a xs := by
  rcases h with h | h
  · exact .inl (s.seq h)
  · exact .inr (same_tup s h)
def spRange : Sp := fun vs H Q _ => ∃ a lo hi : Int, vs = [.int a, .int lo, .int hi] ∧ lo ≤ a ∧ a ≤ hi ∧ Q .non H
theorem cut_names (ws : List (List Nat)) (i : Nat) : cutV (ws.map vN) none (some ((i : Nat) : Int)) = (ws.take i).map vN := by
  unfold cutV
  rw [HT.sIx_none, HT.sIx_nat, List.drop_zero, Nat.sub_zero, List.map_take]
  by_cases h : i ≤ (ws.map vN).length
  · rw [Nat.min_eq_left h]
  · rw [Nat.min_eq_right (by omega), List.take_length, List.take_of_length_le (by omega)]
theorem not_before {zs : List (List Nat)} {i : Nat} {z : List Nat} (nd : zs.Nodup) (h : zs[i]? = some z) : z ∉ zs.take i := by
  intro m
  obtain ⟨j, hj⟩ := List.getElem?_of_mem m
  rw [List.getElem?_take] at hj
  split at hj
  · rename_i hji
    have hl := (List.getElem?_eq_some_iff.mp hj).1
    have := (List.getElem?_inj hl nd).mp (hj.trans h.symm)
    omega
  · cases hj
def capV : Option Int → V
  | none => .non
  | some x => .int x
section
variable {P : Program} {w : World} {K : PySem.W.Frag} {mg : Str → Option Value} {base : Heap}
theorem ok_check_size {f : Addr} {fd : FuncData} (F : Fun K "check_size" "check_size" s_check_size f fd) : FnOk P w K mg base CX0 1 f fd ["size", "low", "high"] spRange := by
  refine F.ok sc_check_size (fun vs H Q E h => ?_) (fun cdv A outer s H vs Q E hr h => ?_)
  · obtain ⟨a, lo, hi, rfl, _⟩ := h
    rfl
  · obtain ⟨a, lo, hi, rfl, h1, h2, q⟩ := h
    refine ⟨_, (pss_one (ps_if (pt_not (pt_chain op_le op_le (pv 1) (pv 0) (pv 2))) (pss_one ps_never) pss_nil)), ?_⟩
    refine ⟨_, rfl, _, rfl, _, _, rfl, rfl, _, rfl, ?_⟩
    rw [decide_eq_true h1]
    refine iteT ⟨_, rfl, _, _, rfl, rfl, _, rfl, ?_⟩
    rw [decide_eq_true h2]
    exact iteF q
end
section
variable {P : Program} {w : World} {K : PySem.W.Frag} {mg : Str → Option Value} {base : Heap}
/-! is_name, of a name or of the empty text -/
def nz (l : List Nat) : Bool := !l.isEmpty
end
section
variable {P : Program} {w : World} {K : PySem.W.Frag} {mg : Str → Option Value} {base : Heap}
theorem nz_nm {l : List Nat} (h : Nm l) : nz l = true := by
  obtain ⟨h1, _⟩ := h
  cases l with
  | nil => exact absurd h1 (by decide)
  | cons a l => rfl
end
section
variable {P : Program} {w : World} {K : PySem.W.Frag} {mg : Str → Option Value} {base : Heap}
def NmH (l : List Nat) : Prop := Nm l ∨ l = []
end
section
variable {P : Program} {w : World} {K : PySem.W.Frag} {mg : Str → Option Value} {base : Heap}
def spIsNameH : Sp := fun vs H Q _ => ∃ l : List Nat, vs = [vN l] ∧ NmH l ∧ ∀ H', Same H H' → Q (.bl (nz l)) H'
end
section
variable {P : Program} {w : World} {K : PySem.W.Frag} {mg : Str → Option Value} {base : Heap}
theorem all_true {n : Nat} : (List.replicate n true).all id = true := by
  induction n with
  | zero => rfl
  | succ n ih => rw [List.replicate_succ, List.all_cons, ih]; rfl
end
section
variable {P : Program} {w : World} {K : PySem.W.Frag} {mg : Str → Option Value} {base : Heap}
theorem ok_is_nameH {f : Addr} {fd : FuncData} (F : Fun K "is_name" "is_name" s_is_name f fd) (m_len : mg "len" = none) (m_all : mg "all" = none) {tk : Tok} (g_LETTERS : mg "LETTERS" = some (.str lettersZ tk)) : FnOk P w K mg base CX0 1 f fd ["word"] spIsNameH := by
  refine F.ok sc_is_name (fun vs H Q E h => ?_) (fun cdv A outer s H vs Q E hr h => ?_)
  · obtain ⟨l, rfl, _⟩ := h
    rfl
  · obtain ⟨l, rfl, hn, q⟩ := h
    refine ⟨_, (pss_one (ps_ret (pe_and (pe_chain op_le op_le pe_int (pe_callB call_len_str (by rfl) m_len (by decide +kernel) (pa_cons (pv 0) pa_nil)) pe_int) (pe_one (pe_callB (cr_all rfl) (by rfl) m_all (by decide +kernel) (pa_cons (pe_lc (own := [("sign", 1)]) (by rfl) sc_is_name.nd (pi_str (pv 0)) (blkOk_by (N := ["word", "sign"]) (sc := defScope s_is_name) (by decide +kernel)) (fun _ _ _ _ _ => (pg_name (i := 1) sc_is_name.nd rfl (.inl rfl))) (fun _ _ _ _ _ => pts_nil) (fun _ _ _ _ _ => (pe_cmpR op_in_sign (pv 1) (pe_glob (v := .str lettersZ) (by rfl) g_LETTERS ⟨_, rfl⟩) (by rfl)))) pa_nil)))))), ?_⟩
    rcases hn with hN | rfl
    · rw [nz_nm hN] at q
      obtain ⟨h1, h2, h3⟩ := hN
      refine ⟨_, rfl, _, rfl, small_len (by omega), _, _, rfl, rfl, _, rfl, ?_⟩
      rw [decide_eq_true (show (1 : Int) ≤ ((sOf l).length : Nat) by rw [sOf_len]; omega)]
      refine iteT ⟨_, _, rfl, rfl, _, rfl, ?_⟩
      rw [decide_eq_true (show (((sOf l).length : Nat) : Int) ≤ 8 by rw [sOf_len]; omega)]
      refine iteT ⟨_, rfl, _, rfl, fun D nD => ?_⟩
      refine lc_it walk_str (fun i H' => H' = upd H D (.lst ((List.replicate i true).map V.bl))) rfl (fun _ _ _ _ => True.intro) (fun i x H1 H2 hi hp hy => ?_) (fun H' hp => ?_)
      · subst hp
        obtain ⟨rfl, c, hc, rfl⟩ := hy
        have hcl : c ∈ l := by
          have : (sOf l).cps.toList[i]? = some c := by rw [Array.getElem?_toList]; exact hc
          exact List.mem_of_getElem? this
        have hin : c ∈ lettersZ.cps.toList := by
          rw [letters_codes]
          have := h3 c hcl
          exact List.mem_map.mpr ⟨c - 97, List.mem_range.mpr (by omega), by omega⟩
        have hil : i < l.length := by
          have : (sOf l).cps.size = l.length := sOf_len l
          omega
        refine ⟨rfl, yesT ⟨_, rfl, _, _, rfl, rfl, _, upd_same, ?_, ?_⟩⟩
        · rw [List.length_map, List.length_replicate]; exact small1000 (by omega)
        · rw [upd_twice, decide_eq_true hin, List.replicate_succ', List.map_append]
          rfl
      · subst hp
        refine ⟨_, _, rfl, lstAt upd_same, ?_⟩
        rw [all_true]
        exact q _ (same_upd nD)
    · refine ⟨_, rfl, _, rfl, small_len (by decide), _, _, rfl, rfl, _, rfl, iteF ⟨_, rfl, iteF (q H (Same.refl H))⟩⟩
end
abbrev Nam := List Nat
structure DefD (P : Program) (w : World) (K : PySem.W.Frag) (mg : Str → Option Value) (base : Heap) (x : Str) (k : Nat) (ps : List Str) (sp : Sp) (dvs : List V) : Prop where
  ex : ∃ (f : Addr) (fd : FuncData) (ds : List Value), FnOk P w K mg base CX0 k f fd ps sp ∧ mg x = some (.ref f) ∧ PySem.W.keepIn K (.ref f) = true ∧ Binds K fd ps ds ∧ Vals dvs ds
section
variable {X : Cx} {x : Str} {k : Nat} {ps : List Str} {sp : Sp} {dvs : List V} {e : Expr} {es : List Expr} {t : TA} {p pos : Pos}
theorem pe_callDD (D : DefD X.prog X.w X.K X.mg X.base x k ps sp dvs) (hr : Room k X.A) (hg : Gl X x) (ha : PA X (e :: es) t) (hdb : (x == ("__debug__" : Str)) = false := by decide)
    (he : starEach (e :: es) X.env = (false, eval e X.env) :: starEach es X.env := by rfl) (hpl : (backTo pos (starEach es X.env)).any (·.1) = false := by rfl) :
    PE X (.Call (.Name x p) (e :: es) [] pos) (tCall sp dvs E0 t) := by
  obtain ⟨f, fd, ds, F, g, kp, b, r⟩ := D.ex
  exact pe_call F hr hg g kp b r pass0 ha hdb he hpl
end
theorem putF_len (f : Str) (v : V) : ∀ fs : List (Str × V), (putF f v fs).length ≤ fs.length + 1
  | [] => Nat.le_refl _
  | (g, x) :: r => by
    show (if g = f then _ else _ : List (Str × V)).length ≤ _
    split
    · exact Nat.le_succ _
    · exact Nat.succ_le_succ (putF_len f v r)
theorem rd_frame {H H' : Hp} {a p : Addr} {o ins : HO} (h : Rd H a o) (hp : H p = some ins) (n1 : o ≠ ins) (n2 : ∀ ob, HO.frz ob o ≠ ins) (f : ∀ c x, H c = some x → c ≠ p → H' c = some x) : Rd H' a o := by
  rcases h with h | ⟨ob, h⟩
  · exact .inl (f _ _ h (ne_of h hp n1))
  · exact .inr ⟨ob, f _ _ h (ne_of h hp (n2 ob))⟩
theorem sqT_frame {K : PySem.W.Frag} {H H' : Hp} {a p C dx : Addr} {fs : List (Str × V)} {xs : List V} (h : SqT K H a xs) (hp : H p = some (.ins C dx fs)) (f : ∀ c x, H c = some x → c ≠ p → H' c = some x) : SqT K H' a xs := by
  rcases h with h | h
  · exact .inl (rd_frame h hp (by intro z; cases z) (by intro _ z; cases z) f)
  · exact .inr h
theorem sqS_frame {K : PySem.W.Frag} {H H' : Hp} {a p C dx : Addr} {fs : List (Str × V)} {xs : List V} (h : SqS K H a xs) (hp : H p = some (.ins C dx fs)) (f : ∀ c x, H c = some x → c ≠ p → H' c = some x) : SqS K H' a xs := by
  rcases h with h | h
  · rcases h with h | h
    · exact .inl (.inl (rd_frame h hp (by intro z; cases z) (by intro _ z; cases z) f))
    · exact .inl (.inr h)
  · exact .inr (sqT_frame h hp f)
theorem TL.same {H H' : Hp} {a : Addr} {xs : List V} (h : TL H a xs) (s : Same H H') : TL H' a xs := h.elim (fun h => .inl (s _ _ h)) (fun ⟨o, h⟩ => .inr ⟨o, s _ _ h⟩)
theorem tl_frame {H H' : Hp} {a p C dx : Addr} {fs : List (Str × V)} {xs : List V} (h : TL H a xs) (hp : H p = some (.ins C dx fs)) (f : ∀ c x, H c = some x → c ≠ p → H' c = some x) : TL H' a xs := rd_frame h hp (by intro z; cases z) (by intro _ z; cases z) f
theorem nd_len {p zs : List Nam} (h : p.Nodup) (s : ∀ w ∈ p, w ∈ zs) : p.length ≤ zs.length := by
  induction p generalizing zs with
  | nil => exact Nat.zero_le _
  | cons a p ih =>
    have ha := s a List.mem_cons_self
    obtain ⟨n1, n2⟩ := List.nodup_cons.mp h
    have := ih (zs := zs.erase a) n2 fun w hw => (List.mem_erase_of_ne (fun e => n1 (by rw [← e]; exact hw))).mpr (s w (List.mem_cons_of_mem _ hw))
    rw [List.length_erase_of_mem ha] at this
    have hp : 0 < zs.length := List.length_pos_of_mem ha
    simp only [List.length_cons]
    omega
theorem none_of {H H' : Hp} {p : Addr} (s : Same H H') (n : H' p = none) : H p = none := by
  cases e : H p with
  | none => rfl
  | some o => rw [s _ _ e] at n; cases n
theorem letters_nd : ((List.range 26).map fun j => [97 + j]).Nodup := nodup_range fun k j _ _ e => by
  have := List.cons.inj e
  omega
section
variable {P : Program} {w : World} {K : PySem.W.Frag} {mg : Str → Option Value} {base : Heap}
/-! _law_strange -/
def spStrange (K : PySem.W.Frag) : Sp := fun vs H Q _ => ∃ (a : Addr) (zs : List Nam), vs = [.ref a] ∧ SqL K H a (zs.map vN) ∧ zs.length ≤ 25 ∧ ∀ n : Nat, n < 26 → [97 + n] ∉ zs → Q (vN [97 + n]) H
end
section
variable {P : Program} {w : World} {K : PySem.W.Frag} {mg : Str → Option Value} {base : Heap}
theorem ok_L_strange {f : Addr} {fd : FuncData} (F : Fun K "_law_strange" "_law_strange" s_L_strange f fd) : FnOk P w K mg base CX0 1 f fd ["_law_names_here"] (spStrange K) := by
  refine F.ok sc_L_strange (fun vs H Q E h => ?_) (fun cdv A outer s H vs Q E hr h => ?_)
  · obtain ⟨a, zs, rfl, _⟩ := h
    rfl
  · obtain ⟨a, zs, rfl, hS, l25, q⟩ := h
    refine ⟨_, (pss_cons (ps_for PassesOwn.never rfl (pi_str pe_str) (pg_name (i := 1) sc_L_strange.nd rfl (.inl rfl))
    (pss_one (ps_if (pt_cmpR op_notIn_seq (pv 1) (pv 0) (by rfl)) (pss_one (ps_ret (pv 1))) pss_nil)))
  (pss_one (ps_ret pe_str))), ?_⟩
    refine ⟨_, rfl, for_it (walk_str (z := lettersZ)) (fun i σ H' => H' = H ∧ (∃ y, σ = [some (.ref a), y]) ∧ ∀ j, j < i → [97 + j] ∈ zs) ⟨rfl, ⟨_, rfl⟩, fun _ h => nomatch h⟩ (fun _ _ _ _ _ => True.intro) ?_ ?_⟩
    · rintro i x σ H1 H2 hi ⟨rfl, ⟨y, rfl⟩, hj⟩ ⟨rfl, c, hc, rfl⟩
      have hi26 : i < 26 := by have := letters_len; have e : lettersZ.cps.size = 26 := this; omega
      have hc' : c = 97 + i := by
        have e : lettersZ.cps.toList[i]? = some c := by rw [Array.getElem?_toList]; exact hc
        rw [letters_codes, List.getElem?_map, List.getElem?_range hi26] at e
        exact (Option.some.inj e).symm
      subst hc'
      have e : (if true = true then !inV (V.str ⟨#[97 + i]⟩) (zs.map vN) else inV (V.str ⟨#[97 + i]⟩) (zs.map vN)) = !decide ([97 + i] ∈ zs) := notin_nm (z := [97 + i])
      refine ⟨_, rfl, _, rfl, a, _, rfl, .inl hS, rfl, nms_flat _, _, rfl, ?_⟩
      rw [e]
      by_cases h : [97 + i] ∈ zs
      · rw [decide_eq_true h]
        refine iteF ⟨rfl, ⟨_, rfl⟩, fun j hj' => ?_⟩
        rcases Nat.lt_succ_iff_lt_or_eq.mp hj' with q1 | rfl
        · exact hj j q1
        · exact h
      · rw [decide_eq_false h]
        exact iteT ⟨_, rfl, q i hi26 h⟩
    · rintro σ H1 ⟨rfl, ⟨y, rfl⟩, hj⟩
      have e26 : lettersZ.cps.size = 26 := letters_len
      have := nd_len letters_nd (zs := zs) (fun w hw => by
        obtain ⟨j, hj1, rfl⟩ := List.mem_map.mp hw
        exact hj j (by rw [e26]; exact List.mem_range.mp hj1))
      rw [List.length_map, List.length_range] at this
      omega
end
theorem eq_flat {H : Hp} {t u : Addr} {xs : List V} (h1 : TL H t xs) (h2 : TL H u xs) (hl : xs.length ≤ 1000) (fl : ∀ x ∈ xs, flat1 x = true) (n : Nat) : Eq2 H (n + 1) (.ref t) (.ref u) := by
  refine .inr ⟨t, u, _, _, rfl, rfl, .inr ⟨h1, h2⟩, rfl, by omega, fun i x y hx hy => ?_⟩
  rw [hx] at hy
  have e := Option.some.inj hy
  have f := fl x (List.mem_of_getElem? hx)
  cases n with
  | zero => exact ⟨e, f⟩
  | succ n => exact .inl ⟨e, f⟩
theorem fl_nm {zs : List Nam} : ∀ x ∈ zs.map vN, flat1 x = true := fun x hx => by
  obtain ⟨z, _, rfl⟩ := List.mem_map.mp hx
  rfl
theorem nmH_ok {l : List Nat} (h : NmH l) : PyData.strOk (sOf l) = true := by
  show (sOf l).cps.all (· < 0x110000) = true
  rw [← Array.all_toList, sOf_codes, List.all_eq_true]
  intro c hc
  rcases h with h | rfl
  · have := h.2.2 c hc
    exact decide_eq_true (by omega)
  · cases hc
/-! the keys of two dicts with the same prices -/
theorem nd_lenK {α : Type} [DecidableEq α] {p zs : List α} (h : p.Nodup) (s : ∀ w ∈ p, w ∈ zs) : p.length ≤ zs.length := by
  induction p generalizing zs with
  | nil => exact Nat.zero_le _
  | cons a p ih =>
    have ha := s a List.mem_cons_self
    obtain ⟨n1, n2⟩ := List.nodup_cons.mp h
    have := ih (zs := zs.erase a) n2 fun w hw => (List.mem_erase_of_ne (fun e => n1 (by rw [← e]; exact hw))).mpr (s w (List.mem_cons_of_mem _ hw))
    rw [List.length_erase_of_mem ha] at this
    have hp : 0 < zs.length := List.length_pos_of_mem ha
    simp only [List.length_cons]
    omega
section
variable {X : Cx}
/-- x is not True, x is not False: x a bool -/
theorem op_notBl : OpR X (compareOp .IsNot) (fun x y H Q => ∃ a b : Bool, x = .bl a ∧ y = .bl b ∧ Q (.bl (!decide (a = b))) H) := by
  intro pins s σ H x y v u Q I rx ry h
  obtain ⟨a, b, rfl, rfl, q⟩ := h
  cases (show v = Value.bool a from rx)
  cases (show u = Value.bool b from ry)
  by_cases e : a = b
  · subst e
    exact wpAny_isNot_self rfl ⟨.bl false, H, I, rfl, by simpa using q⟩
  · exact wpAny_isNot_other rfl (fun z => e (Value.bool.inj z)) ⟨.bl true, H, I, rfl, by simpa [e] using q⟩
end
theorem eq_flatL {H : Hp} {t u : Addr} {xs : List V} (h1 : H t = some (.lst xs)) (h2 : H u = some (.lst xs)) (hl : xs.length ≤ 1000) (fl : ∀ x ∈ xs, flat1 x = true) (n : Nat) : Eq2 H (n + 1) (.ref t) (.ref u) := by
  refine .inr ⟨t, u, _, _, rfl, rfl, .inl ⟨h1, h2⟩, rfl, by omega, fun i x y hx hy => ?_⟩
  rw [hx] at hy
  have e := Option.some.inj hy
  have f := fl x (List.mem_of_getElem? hx)
  cases n with
  | zero => exact ⟨e, f⟩
  | succ n => exact .inl ⟨e, f⟩
theorem sqL_frame {K : PySem.W.Frag} {H H' : Hp} {a p C dx : Addr} {fs : List (Str × V)} {xs : List V} (h : SqL K H a xs) (hp : H p = some (.ins C dx fs)) (f : ∀ c x, H c = some x → c ≠ p → H' c = some x) : SqL K H' a xs := by
  rcases h with h | h
  · exact .inl (rd_frame h hp (by intro z; cases z) (by intro _ z; cases z) f)
  · exact .inr h
def spCheckN (K : PySem.W.Frag) : Sp := fun vs H Q _ => ∃ (a : Addr) (m : Int) (zs : List (List Nat)), vs = [.ref a, .int m, .bl false] ∧ SqS K H a (zs.map vN) ∧ 1 ≤ zs.length ∧ (zs.length : Int) ≤ m ∧ zs.length ≤ 6 ∧ (∀ z ∈ zs, Nm z) ∧ zs.Nodup ∧ ∀ H', Same H H' → Q .non H'
section
variable {P : Program} {w : World} {K : PySem.W.Frag} {mg : Str → Option Value} {base : Heap}
theorem ok_check_namesN {f : Addr} {fd : FuncData} {dvs : List V} {kws : List (Str × V)} (F : FunD K "check_names" "check_names" (defArgs s_check_names) (defBody s_check_names) (defScope s_check_names) dvs kws f fd) (m_len : mg "len" = none) (m_enumerate : mg "enumerate" = none)
    (d_check_size : Def P w K mg base "check_size" 1 ["size", "low", "high"] spRange) (d_is_name : Def P w K mg base "is_name" 1 ["word"] spIsNameH) : FnOk P w K mg base CX0 2 f fd ["names", "most", "hook"] (spCheckN K) := by
  refine F.ok (CX := CX0) sc_check_names (fun vs H Q E h => ?_) (fun cdv A outer s H vs Q E hr h => ?_)
  · obtain ⟨a, m, zs, rfl, _⟩ := h
    rfl
  · obtain ⟨a, m, zs, rfl, hS, l1, l2, l6, nm, nd, q⟩ := h
    have hp : ∀ (i : Nat) (x : V) (H2 : Hp), Same H H2 → (zs.map vN)[i]? = some x → ∃ z, zs[i]? = some z ∧ x = vN z ∧ Nm z := fun i x H2 _ hx => by
      obtain ⟨z, ez, rfl⟩ := vN_at hx
      exact ⟨z, ez, rfl, nm z (List.mem_of_getElem? ez)⟩
    rcases hS with hS | hS
    · refine ⟨_, PSs.nox (pss_cons (ps_expr (pe_callD d_check_size (hr.mono (by decide)) (by rfl) (pa_cons (pe_callB call_len_seq (by rfl) m_len (by decide +kernel) (pa_cons (pv 0) pa_nil)) (pa_cons pe_int (pa_cons (pv 1) pa_nil)))))
  (pss_one (ps_for PassesOwn.never rfl (pi_enum (by rfl) m_enumerate (pa_cons (pv 0) pa_nil)) (pg_tup (by rfl) (pgs_cons (pg_name (i := 3) sc_check_names.nd rfl (.inl rfl)) (pgs_cons (pg_name (i := 4) sc_check_names.nd rfl (.inl rfl)) pgs_nil)))
    (pss_cons (ps_if (PW.pt (pw_and (pt_not (pt_val (pe_callD d_is_name (hr.mono (by decide)) (by rfl) (pa_cons (pv 4) pa_nil)))) (pw_and1 (pt_not (PW.pt (pw_and (pt_val (pv 2)) (pw_and1 (pt_cmpR op_eq (pv 4) pe_str (nomark _))))))))) (pss_one ps_never) pss_nil)
  (pss_one (ps_if (pt_cmpR op_in_seq (pv 4) (pe_slice sl_list (pv 0) po_none (po_some (pv 3))) (by rfl)) (pss_one ps_never) pss_nil)))))), ?_⟩
      refine ⟨_, rfl, _, _, rfl, .inl hS, _, rfl, _, _, _, rfl, by rw [List.length_map]; omega, by rw [List.length_map]; omega, ?_⟩
      refine ⟨_, rfl, _, _, rfl, hS, for_it walk_enum (fun i σ H2 => Same H H2 ∧ ∃ y1 y2 : Option V, σ = [some (.ref a), some (.int m), some (.bl false), y1, y2]) ⟨Same.refl H, _, _, rfl⟩ (fun i σ H2 _ hp => hp.1.seq hS) ?_ ?_⟩
      · rintro i x σ H2 H3 hi ⟨sm, y1, y2, rfl⟩ ⟨T, v1, v2, rfl, nT, rfl, e1, e2⟩
        cases e1
        obtain ⟨z, ez, rfl, hz⟩ := hp i _ H2 sm e2
        have sm3 := sm.trans (same_upd (o := .tup [.int (i : Nat), vN z]) nT)
        refine ⟨_, _, rfl, tupAt upd_same, rfl, _, _, rfl, _, _, rfl, rfl, ?_⟩
        refine ⟨_, rfl, z, rfl, .inl hz, fun H4 s4 => ⟨_, rfl, ?_⟩⟩
        have sm4 := sm3.trans s4
        rw [nz_nm hz]
        refine iteF (iteF ?_)
        refine ⟨_, rfl, _, rfl, _, rfl, _, rfl, _, _, rfl, sm4.seq hS, fun p np => ?_⟩
        rw [cut_names]
        have sp := same_upd (o := .lst ((zs.take i).map vN)) np
        refine ⟨p, _, rfl, .inl (lstAt upd_same), rfl, nms_flat _, _, rfl, ?_⟩
        rw [in_nm, decide_eq_false (not_before nd ez)]
        exact iteF ⟨sm4.trans sp, _, _, rfl⟩
      · rintro σ H2 ⟨sm, y1, y2, rfl⟩
        exact q _ sm
    · refine ⟨_, PSs.nox (pss_cons (ps_expr (pe_callD d_check_size (hr.mono (by decide)) (by rfl) (pa_cons (pe_callB call_len_seq (by rfl) m_len (by decide +kernel) (pa_cons (pv 0) pa_nil)) (pa_cons pe_int (pa_cons (pv 1) pa_nil)))))
  (pss_one (ps_for PassesOwn.never rfl (pi_enumT (by rfl) m_enumerate (pa_cons (pv 0) pa_nil)) (pg_tup (by rfl) (pgs_cons (pg_name (i := 3) sc_check_names.nd rfl (.inl rfl)) (pgs_cons (pg_name (i := 4) sc_check_names.nd rfl (.inl rfl)) pgs_nil)))
    (pss_cons (ps_if (PW.pt (pw_and (pt_not (pt_val (pe_callD d_is_name (hr.mono (by decide)) (by rfl) (pa_cons (pv 4) pa_nil)))) (pw_and1 (pt_not (PW.pt (pw_and (pt_val (pv 2)) (pw_and1 (pt_cmpR op_eq (pv 4) pe_str (nomark _))))))))) (pss_one ps_never) pss_nil)
  (pss_one (ps_if (pt_cmpR op_in_seq (pv 4) (pe_slice sl_tup (pv 0) po_none (po_some (pv 3))) (by rfl)) (pss_one ps_never) pss_nil)))))), ?_⟩
      refine ⟨_, rfl, _, _, rfl, .inr hS, _, rfl, _, _, _, rfl, by rw [List.length_map]; omega, by rw [List.length_map]; omega, ?_⟩
      refine ⟨_, rfl, _, _, rfl, hS, for_it walk_enumT (fun i σ H2 => Same H H2 ∧ ∃ y1 y2 : Option V, σ = [some (.ref a), some (.int m), some (.bl false), y1, y2]) ⟨Same.refl H, _, _, rfl⟩ (fun i σ H2 _ hp => same_tup (hp.1) hS) ?_ ?_⟩
      · rintro i x σ H2 H3 hi ⟨sm, y1, y2, rfl⟩ ⟨T, v1, v2, rfl, nT, rfl, e1, e2⟩
        cases e1
        obtain ⟨z, ez, rfl, hz⟩ := hp i _ H2 sm e2
        have sm3 := sm.trans (same_upd (o := .tup [.int (i : Nat), vN z]) nT)
        refine ⟨_, _, rfl, tupAt upd_same, rfl, _, _, rfl, _, _, rfl, rfl, ?_⟩
        refine ⟨_, rfl, z, rfl, .inl hz, fun H4 s4 => ⟨_, rfl, ?_⟩⟩
        have sm4 := sm3.trans s4
        rw [nz_nm hz]
        refine iteF (iteF ?_)
        refine ⟨_, rfl, _, rfl, _, rfl, _, rfl, _, _, rfl, same_tup (sm4) hS, (by rintro ⟨_, hw⟩; rw [HT.sIx_nat] at hw; have hi' : i < (zs.map vN).length := hi; omega), fun p np => ?_⟩
        rw [cut_names]
        have sp := same_upd (o := .tup ((zs.take i).map vN)) np
        refine ⟨p, _, rfl, .inr (tupAt upd_same), rfl, nms_flat _, _, rfl, ?_⟩
        rw [in_nm, decide_eq_false (not_before nd ez)]
        exact iteF ⟨sm4.trans sp, _, _, rfl⟩
      · rintro σ H2 ⟨sm, y1, y2, rfl⟩
        exact q _ sm
end
theorem flt_at {α : Type} {p : α → Bool} {l : List α} {i : Nat} {x : α} (h : l[i]? = some x) : (l.take (i + 1)).filter p = (l.take i).filter p ++ if p x then [x] else [] := by
  rw [List.take_add_one, h, List.filter_append]
  by_cases q : p x = true
  · rw [if_pos q]; show _ ++ List.filter p [x] = _; rw [List.filter_cons, if_pos q, List.filter_nil]
  · rw [if_neg q]; show _ ++ List.filter p [x] = _; rw [List.filter_cons, if_neg q, List.filter_nil]
def SameP (p : Addr) (H H' : Hp) : Prop := ∀ c o, H c = some o → c ≠ p → H' c = some o
theorem same_p {p : Addr} {H H' : Hp} (s : Same H H') : SameP p H H' := fun c o e _ => s c o e
theorem SameP.trans {p : Addr} {H H' H'' : Hp} (s : SameP p H H') (t : SameP p H' H'') : SameP p H H'' := fun c o e n => t c o (s c o e n) n
theorem samep_upd {p : Addr} {H : Hp} {o : HO} : SameP p H (upd H p o) := fun c x e n => by rw [upd_ne n]; exact e
theorem put_len {f : Str} {v : V} {fs : List (Str × V)} {n : Nat} (h : fs.length ≤ n) : (putF f v fs).length ≤ n + 1 := Nat.le_trans (putF_len f v fs) (Nat.succ_le_succ h)
theorem put_same (f : Str) (v : V) (fs : List (Str × V)) : (putF f v fs).lookup f = some v := by
  rw [lookup_putF, if_pos rfl]
theorem put_ne {f g : Str} {v x : V} {fs : List (Str × V)} (h : fs.lookup g = some x) (n : ¬ g = f) : (putF f v fs).lookup g = some x := by
  rw [lookup_putF, if_neg n]
  exact h
end TK


/-! picks and bids of pages -/
namespace TK
open PySem PySem.Spec PyProof.Rows L2
theorem gTup2w {K : PySem.W.Frag} {i j : Nat} {e : Addr} {x y : V} {σ : L2.St} {H : Hp} {Q : L2.St → Hp → Prop} (he : H e = some (.tup [x, y])) (σ' : L2.St) (hσ : (σ.set i (some x)).set j (some y) = σ') (h : Q σ' H) :
    gTup K 2 (gCons (gName i) (gCons (gName j) gNil)) (.ref e) σ H Q := by
  subst hσ
  exact ⟨_, _, rfl, tupAt he, rfl, _, _, rfl, _, _, rfl, rfl, h⟩
abbrev BidD := Nam × Int
def BidsAt (H : Hp) (es : List Addr) (ds : List BidD) : Prop := es.length = ds.length ∧ ∀ (i : Nat) (e : Addr), es[i]? = some e → ∃ d, ds[i]? = some d ∧ H e = some (.tup [vN d.1, .int d.2])
theorem BidsAt.same {H H' : Hp} {es : List Addr} {ds : List BidD} (h : BidsAt H es ds) (s : Same H H') : BidsAt H' es ds := ⟨h.1, fun i e he => by
  obtain ⟨d, a, b⟩ := h.2 i e he
  exact ⟨d, a, s _ _ b⟩⟩
theorem bids_at {H : Hp} {es : List Addr} {ds : List BidD} (h : BidsAt H es ds) {i : Nat} {x : V} (hx : (es.map V.ref)[i]? = some x) : ∃ e d, x = .ref e ∧ ds[i]? = some d ∧ H e = some (.tup [vN d.1, .int d.2]) := by
  rw [List.getElem?_map] at hx
  obtain ⟨e, he, rfl⟩ := Option.map_eq_some_iff.mp hx
  obtain ⟨d, a, b⟩ := h.2 i e he
  exact ⟨e, d, rfl, a, b⟩
theorem BidsAt.app {H : Hp} {es fs : List Addr} {ds us : List BidD} (h : BidsAt H es ds) (k : BidsAt H fs us) : BidsAt H (es ++ fs) (ds ++ us) := by
  refine ⟨by rw [List.length_append, List.length_append, h.1, k.1], fun i e he => ?_⟩
  by_cases hi : i < es.length
  · rw [List.getElem?_append_left hi] at he
    rw [List.getElem?_append_left (by rw [← h.1]; exact hi)]
    exact h.2 i e he
  · rw [List.getElem?_append_right (by omega)] at he
    rw [List.getElem?_append_right (by rw [← h.1]; omega), ← h.1]
    exact k.2 _ e he
theorem BidsAt.one {H : Hp} {e : Addr} {d : BidD} (h : H e = some (.tup [vN d.1, .int d.2])) : BidsAt H [e] [d] := ⟨rfl, fun i a ha => by
  match i, ha with
  | 0, ha => cases Option.some.inj ha; exact ⟨d, rfl, h⟩⟩
theorem BidsAt.wrote {H : Hp} {es : List Addr} {ds : List BidD} {D : Addr} {xs : List V} {o : HO} (h : BidsAt H es ds) (eD : H D = some (.lst xs)) : BidsAt (upd H D o) es ds := ⟨h.1, fun i e he => by
  obtain ⟨d, a, b⟩ := h.2 i e he
  exact ⟨d, a, by rw [upd_ne (ne_of b eD (by intro z; cases z))]; exact b⟩⟩
/-- right bids of the members -/
structure BOk (zs : List Nam) (ds : List BidD) : Prop where
  nd : (ds.map (·.1)).Nodup
  sub : ∀ x ∈ ds.map (·.1), x ∈ zs
  h0 : ∀ d ∈ ds, 0 ≤ d.2
  h9 : ∀ d ∈ ds, d.2 ≤ 1000000000
theorem strs_nd {xs : List Nam} (h : xs.Nodup) : (xs.map sOf).Nodup := by
  rw [List.nodup_iff_pairwise_ne, List.pairwise_map]
  exact (List.nodup_iff_pairwise_ne.mp h).imp fun hne e => hne (sOf_inj e)
section
variable {P : Program} {w : World} {K : PySem.W.Frag} {mg : Str → Option Value} {base : Heap}
def spArePicks (K : PySem.W.Frag) : Sp := fun vs H Q _ => ∃ (a b : Addr) (xs ys : List Nam), vs = [.ref a, .ref b] ∧ SqL K H a (xs.map vN) ∧ SqS K H b (ys.map vN) ∧ xs.Nodup ∧ (∀ x ∈ xs, x ∈ ys) ∧ xs.length < 64 ∧ ∀ H', Same H H' → Q (.bl true) H'
theorem ok_are_picks {f : Addr} {fd : FuncData} (F : Fun K "_are_picks" "_are_picks" s_are_picks f fd) (m_all : mg "all" = none) (m_len : mg "len" = none) (m_set : mg "set" = none) : FnOk P w K mg base CX0 1 f fd ["picks", "known"] (spArePicks K) := by
  refine F.ok sc_are_picks (fun vs H Q E h => ?_) (fun cdv A outer s H vs Q E hr h => ?_)
  · obtain ⟨a, b, xs, ys, rfl, _⟩ := h
    rfl
  · obtain ⟨a, b, xs, ys, rfl, hA, hB, nd, sub, l64, q⟩ := h
    have xl : (xs.map vN).length = xs.length := List.length_map ..
    refine ⟨_, (pss_one (ps_ret (pe_and (pe_callB (cr_all rfl) (by rfl) m_all (by decide +kernel) (pa_cons (pe_lc (own := [("pick", 2)]) (by rfl) sc_are_picks.nd (pi_list (pv 0)) (blkOk_by (N := ["picks", "known", "pick"]) (sc := defScope s_are_picks) (by decide +kernel)) (fun _ _ _ _ _ => (pg_name (i := 2) sc_are_picks.nd rfl (.inl rfl))) (fun _ _ _ _ _ => pts_nil) (fun _ _ _ _ _ => (pe_cmpR (op_in_seqK (K := K) rfl) (pv 2) (pv 1) (by rfl)))) pa_nil)) (pe_one (pe_cmpR op_eq (pe_lenSetN rfl (by rfl) m_len (by rfl) m_set (pv 0)) (pe_callB call_len_seq (by rfl) m_len (by decide +kernel) (pa_cons (pv 0) pa_nil)) (nomark _)))))), ?_⟩
    refine ⟨_, rfl, a, rfl, ⟨_, hA⟩, fun D nD => ?_⟩
    refine lc_list (K := K) (a := a) (xs := xs.map vN) (fun i H' => Same H H' ∧ H' D = some (.lst ((List.replicate i true).map V.bl))) ⟨same_upd nD, upd_same⟩ (fun i H' _ hq => hq.1.seq hA) (fun i v H' hv hq => ?_) (fun H' hq => ?_)
    · obtain ⟨s1, eD⟩ := hq
      obtain ⟨x, ex, rfl⟩ := vN_at hv
      have hi : i < 64 := Nat.lt_trans (List.getElem?_eq_some_iff.mp ex).1 l64
      refine ⟨rfl, yesT ⟨_, rfl, _, rfl, b, _, rfl, hB.elim (fun h => .inl (s1.seq h)) (fun h => .inr (same_tup s1 h)), rfl, nms_flat _, _, eD, by rw [List.length_map, List.length_replicate]; exact small1000 (by omega), same_at s1 nD, ?_⟩⟩
      rw [in_nm, decide_eq_true (sub x (List.mem_of_getElem? ex)), List.replicate_succ', List.map_append]
      exact upd_same
    · obtain ⟨s1, eD⟩ := hq
      refine ⟨_, _, rfl, lstAt eD, ?_⟩
      rw [all_true]
      refine ⟨_, rfl, iteT ?_⟩
      refine ⟨_, rfl, a, xs.map sOf, rfl, by rw [← vN_strs]; exact s1.seq hA, strs_nd nd, by rw [List.length_map]; exact l64, _, rfl, a, _, rfl, .inl (s1.seq hA), rfl, ?_⟩
      rw [List.length_map, xl]
      exact bint (congrArg V.bl (decide_eq_true rfl)) (q _ s1)
def spAreBids (K : PySem.W.Frag) : Sp := fun vs H Q _ => ∃ (a b : Addr) (zs : List Nam) (es : List Addr) (ds : List BidD), vs = [.ref a, .ref b] ∧ SqL K H a (es.map V.ref) ∧ BidsAt H es ds ∧ SqS K H b (zs.map vN) ∧ BOk zs ds ∧ ds.length < 64 ∧ ∀ H', Same H H' → Q (.bl true) H'
theorem ok_are_bids {f : Addr} {fd : FuncData} (F : Fun K "_are_bids" "_are_bids" s_are_bids f fd) (m_all : mg "all" = none) (d_are_picks : Def P w K mg base "_are_picks" 1 ["picks", "known"] (spArePicks K)) : FnOk P w K mg base CX0 2 f fd ["bids", "members"] (spAreBids K) := by
  refine F.ok sc_are_bids (fun vs H Q E h => ?_) (fun cdv A outer s H vs Q E hr h => ?_)
  · obtain ⟨a, b, zs, es, ds, rfl, _⟩ := h
    rfl
  · obtain ⟨a, b, zs, es, ds, rfl, hA, hT, hB, ok, l64, q⟩ := h
    have el : (es.map V.ref).length = ds.length := by rw [List.length_map, hT.1]
    refine ⟨_, (pss_one (ps_ret (pe_and (pe_callD d_are_picks (hr.mono (by decide)) (by rfl) (pa_cons (pe_lc (own := [("member", 2), ("_", 3)]) (by rfl) sc_are_bids.nd (pi_list (pv 0)) (blkOk_by (N := ["bids", "members", "member", "_", "bid"]) (sc := defScope s_are_bids) (by decide +kernel)) (fun _ _ _ _ _ => (pg_tupK (K := K) (n := 2) rfl (by rfl) (pgs_cons (pg_name (i := 2) sc_are_bids.nd rfl (.inl rfl)) (pgs_cons (pg_name (i := 3) sc_are_bids.nd rfl (.inl rfl)) pgs_nil)))) (fun _ _ _ _ _ => pts_nil) (fun _ _ _ _ _ => (pv 2))) (pa_cons (pv 1) pa_nil))) (pe_one (pe_callB (cr_all rfl) (by rfl) m_all (by decide +kernel) (pa_cons (pe_lc (own := [("_", 3), ("bid", 4)]) (by rfl) sc_are_bids.nd (pi_list (pv 0)) (blkOk_by (N := ["bids", "members", "member", "_", "bid"]) (sc := defScope s_are_bids) (by decide +kernel)) (fun _ _ _ _ _ => (pg_tupK (K := K) (n := 2) rfl (by rfl) (pgs_cons (pg_name (i := 3) sc_are_bids.nd rfl (.inl rfl)) (pgs_cons (pg_name (i := 4) sc_are_bids.nd rfl (.inl rfl)) pgs_nil)))) (fun _ _ _ _ _ => pts_nil) (fun _ _ _ _ _ => (pe_chain op_le op_le pe_int (pv 4) (pe_op op_pow pe_int pe_int)))) pa_nil)))))), ?_⟩
    refine ⟨_, rfl, a, rfl, ⟨_, hA⟩, fun D nD => ?_⟩
    refine lc_list (K := K) (a := a) (xs := es.map V.ref) (fun i H' => Same H H' ∧ H' D = some (.lst ((ds.take i).map fun d => vN d.1))) ⟨same_upd nD, upd_same⟩ (fun i H' _ hq => hq.1.seq hA) (fun i v H' hv hq => ?_) (fun H1 hq => ?_)
    · obtain ⟨s1, eD⟩ := hq
      obtain ⟨e, d, rfl, ed, he⟩ := bids_at (hT.same s1) hv
      have hi := (List.getElem?_eq_some_iff.mp ed).1
      refine gTup2w he [some (.ref a), some (.ref b), some (vN d.1), some (.int d.2), none] (by simp [wipe, L2.start]) ?_
      refine ⟨rfl, yesT ⟨_, rfl, _, eD, by rw [List.length_map, List.length_take]; exact small1000 (by omega), same_at s1 nD, ?_⟩⟩
      rw [List.take_add_one, ed, List.map_append]
      exact upd_same
    · obtain ⟨s1, eD⟩ := hq
      rw [el, List.take_length] at eD
      have e0 : (ds.map fun d => vN d.1) = (ds.map (·.1)).map vN := by rw [List.map_map]; rfl
      rw [e0] at eD
      refine ⟨_, rfl, D, b, ds.map (·.1), zs, rfl, lstAt eD, hB.elim (fun h => .inl (s1.seq h)) (fun h => .inr (same_tup s1 h)), ok.nd, ok.sub, by rw [List.length_map]; exact l64, fun H2 s2 => ?_⟩
      have s12 := s1.trans s2
      refine ⟨_, rfl, iteT ?_⟩
      refine ⟨_, rfl, a, rfl, ⟨_, s12.seq hA⟩, fun D2 nD2 => ?_⟩
      refine lc_list (K := K) (a := a) (xs := es.map V.ref) (fun i H' => Same H2 H' ∧ H' D2 = some (.lst ((List.replicate i true).map V.bl))) ⟨same_upd nD2, upd_same⟩ (fun i H' _ hq => (s12.trans hq.1).seq hA) (fun i v H' hv hq => ?_) (fun H3 hq => ?_)
      · obtain ⟨s3, eD2⟩ := hq
        obtain ⟨e, d, rfl, ed, he⟩ := bids_at (hT.same (s12.trans s3)) hv
        have hi := (List.getElem?_eq_some_iff.mp ed).1
        have md := List.mem_of_getElem? ed
        have d0 := ok.h0 d md
        have d9 := ok.h9 d md
        refine gTup2w he [some (.ref a), some (.ref b), none, some (vN d.1), some (.int d.2)] (by simp [wipe, L2.start]) ?_
        refine ⟨rfl, yesT ?_⟩
        refine ⟨_, rfl, _, _, rfl, rfl, _, rfl, ?_⟩
        rw [decide_eq_true d0]
        refine iteT ⟨_, _, rfl, rfl, ⟨by decide, by decide, by decide⟩, _, _, rfl, rfl, _, eD2, by rw [List.length_map, List.length_replicate]; exact small1000 (by omega), same_at s3 nD2, ?_⟩
        rw [upd_same, List.replicate_succ', List.map_append]
        exact congrArg (fun z => some (HO.lst ((List.replicate i true).map V.bl ++ [z]))) (congrArg V.bl (decide_eq_true d9))
      · obtain ⟨s3, eD2⟩ := hq
        refine ⟨_, _, rfl, lstAt eD2, ?_⟩
        rw [all_true]
        exact q _ (s12.trans s3)
end
end TK


/-! pages that are passed; the checks of a book -/
namespace TK
open PySem PySem.Spec PyProof.Rows L2
structure PgD where
  nm : Nam
  bids : List BidD
  fol : List Nam
/-- a page that is passed -/
def PgIn (K : PySem.W.Frag) (H : Hp) (p : Addr) (d : PgD) : Prop := ∃ (b f : Addr) (es : List Addr), H p = some (.tup [vN d.nm, .ref b, .ref f]) ∧ SqL K H b (es.map V.ref) ∧ BidsAt H es d.bids ∧ SqL K H f (d.fol.map vN)
def PgsIn (K : PySem.W.Frag) (H : Hp) (ps : List Addr) (ds : List PgD) : Prop := ps.length = ds.length ∧ ∀ (i : Nat) (p : Addr), ps[i]? = some p → ∃ d, ds[i]? = some d ∧ PgIn K H p d
theorem PgIn.same {K : PySem.W.Frag} {H H' : Hp} {p : Addr} {d : PgD} (h : PgIn K H p d) (s : Same H H') : PgIn K H' p d := by
  obtain ⟨b, f, es, h1, h2, h3, h4⟩ := h
  exact ⟨b, f, es, s _ _ h1, s.seq h2, h3.same s, s.seq h4⟩
theorem PgsIn.same {K : PySem.W.Frag} {H H' : Hp} {ps : List Addr} {ds : List PgD} (h : PgsIn K H ps ds) (s : Same H H') : PgsIn K H' ps ds := ⟨h.1, fun i p e => by
  obtain ⟨d, a, b⟩ := h.2 i p e
  exact ⟨d, a, b.same s⟩⟩
theorem pgs_at {K : PySem.W.Frag} {H : Hp} {ps : List Addr} {ds : List PgD} (h : PgsIn K H ps ds) {i : Nat} {x : V} (hx : (ps.map V.ref)[i]? = some x) : ∃ p d, x = .ref p ∧ ds[i]? = some d ∧ PgIn K H p d := by
  rw [List.getElem?_map] at hx
  obtain ⟨p, hp, rfl⟩ := Option.map_eq_some_iff.mp hx
  obtain ⟨d, a, b⟩ := h.2 i p hp
  exact ⟨p, d, rfl, a, b⟩
/-- right pages of the members -/
structure POk (zs : List Nam) (ds : List PgD) : Prop where
  l1 : 1 ≤ ds.length
  l4 : ds.length ≤ 4
  nm : ∀ d ∈ ds, Nm d.nm
  nd : (ds.map (·.nm)).Nodup
  b : ∀ d ∈ ds, BOk zs d.bids
  bl : ∀ d ∈ ds, d.bids.length < 64
  f : ∀ d ∈ ds, d.fol.Nodup
  fs : ∀ d ∈ ds, ∀ x ∈ d.fol, x ∈ ds.map (·.nm)
  fl : ∀ d ∈ ds, d.fol.length < 64
section
variable {P : Program} {w : World} {K : PySem.W.Frag} {mg : Str → Option Value} {base : Heap}
def spCheckPg (K : PySem.W.Frag) : Sp := fun vs H Q _ => ∃ (a b : Addr) (zs : List Nam) (ps : List Addr) (ds : List PgD), vs = [.ref a, .ref b] ∧ SqL K H a (zs.map vN) ∧ SqL K H b (ps.map V.ref) ∧ PgsIn K H ps ds ∧ POk zs ds ∧ ∀ H', Same H H' → Q .non H'
theorem ok_check_pages {f : Addr} {fd : FuncData} (F : Fun K "_check_pages" "_check_pages" s_check_pages f fd) (m_len : mg "len" = none) (m_enumerate : mg "enumerate" = none) (d_is_name : Def P w K mg base "is_name" 1 ["word"] spIsNameH)
    (d_are_picks : Def P w K mg base "_are_picks" 1 ["picks", "known"] (spArePicks K)) (d_are_bids : Def P w K mg base "_are_bids" 2 ["bids", "members"] (spAreBids K)) : FnOk P w K mg base CX0 3 f fd ["members", "pages"] (spCheckPg K) := by
  refine F.ok sc_check_pages (fun vs H Q E h => ?_) (fun cdv A outer s H vs Q E hr h => ?_)
  · obtain ⟨a, b, zs, ps, ds, rfl, _⟩ := h
    rfl
  · obtain ⟨a, b, zs, ps, ds, rfl, hA, hB, hT, ok, q⟩ := h
    have pl : (ps.map V.ref).length = ds.length := by rw [List.length_map, hT.1]
    have l1 := ok.l1
    have l4 := ok.l4
    refine ⟨_, (pss_cons (ps_if (pt_not (pt_chain op_le op_le pe_int (pe_callB call_len_seq (by rfl) m_len (by decide +kernel) (pa_cons (pv 1) pa_nil)) pe_int)) (pss_one ps_never) pss_nil)
  (pss_cons (ps_setLc (i := 2) (own := [("page", 8)]) (by rfl) sc_check_pages.nd rfl rfl (sw_true rfl rfl rfl (by decide +kernel)) (pi_list (pv 1)) (blkOk_by (N := ["members", "pages", "names", "at", "name", "bids", "_", "followers", "page"]) (sc := defScope s_check_pages) (by decide +kernel)) (fun _ _ _ _ _ => (pg_name (i := 8) sc_check_pages.nd rfl (.inl rfl))) (fun _ _ _ _ _ => pts_nil) (fun _ _ _ _ _ => (pe_ix (ix_tupK (K := K) rfl) (pv 8) pe_int (fun _ _ => rfl))))
  (pss_cons (ps_for PassesOwn.never rfl (pi_enum (by rfl) m_enumerate (pa_cons (pv 1) pa_nil)) (pg_tup (by rfl) (pgs_cons (pg_name (i := 3) sc_check_pages.nd rfl (.inl rfl)) (pgs_cons (pg_tup (by rfl) (pgs_cons (pg_name (i := 4) sc_check_pages.nd rfl (.inl rfl)) (pgs_cons (pg_name (i := 5) sc_check_pages.nd rfl (.inl rfl)) (pgs_cons (pg_name (i := 6) sc_check_pages.nd rfl (.inl rfl)) pgs_nil)))) pgs_nil)))
    (pss_one (ps_if (PW.pt (pw_or (pt_not (pt_val (pe_callD d_is_name (hr.mono (by decide)) (by rfl) (pa_cons (pv 4) pa_nil)))) (pw_or (pt_cmpR op_in_seq (pv 4) (pe_slice sl_list (pv 2) po_none (po_some (pv 3))) (by rfl)) (pw_or1 (pt_not (pt_val (pe_callD d_are_bids (hr.mono (by decide)) (by rfl) (pa_cons (pv 5) (pa_cons (pv 0) pa_nil))))))))) (pss_one ps_never) pss_nil)))
  (pss_one (ps_for PassesOwn.never rfl (pi_enum (by rfl) m_enumerate (pa_cons (pv 1) pa_nil)) (pg_tup (by rfl) (pgs_cons (pg_name (i := 3) sc_check_pages.nd rfl (.inl rfl)) (pgs_cons (pg_tup (by rfl) (pgs_cons (pg_name (i := 6) sc_check_pages.nd rfl (.inl rfl)) (pgs_cons (pg_name (i := 6) sc_check_pages.nd rfl (.inl rfl)) (pgs_cons (pg_name (i := 7) sc_check_pages.nd rfl (.inl rfl)) pgs_nil)))) pgs_nil)))
    (pss_one (ps_if (pt_not (pt_val (pe_callD d_are_picks (hr.mono (by decide)) (by rfl) (pa_cons (pv 7) (pa_cons (pv 2) pa_nil))))) (pss_one ps_never) pss_nil))))))), ?_⟩
    refine ⟨_, rfl, b, _, rfl, .inl hB, _, _, rfl, rfl, _, rfl, ?_⟩
    rw [decide_eq_true (show (1 : Int) ≤ ((ps.map V.ref).length : Nat) by rw [pl]; omega)]
    refine iteT ⟨_, _, rfl, rfl, _, rfl, ?_⟩
    rw [decide_eq_true (show (((ps.map V.ref).length : Nat) : Int) ≤ 4 by rw [pl]; omega)]
    refine iteF ?_
    refine ⟨_, rfl, b, rfl, ⟨_, hB⟩, fun D nD => ?_⟩
    refine lc_list (K := K) (a := b) (xs := ps.map V.ref) (fun i H' => Same H H' ∧ H' D = some (.lst (((ds.map (·.nm)).take i).map vN))) ⟨same_upd nD, upd_same⟩ (fun i H' _ hq => hq.1.seq hB) (fun i v H' hv hq => ?_) (fun H1 hq => ?_)
    · obtain ⟨s1, eD⟩ := hq
      obtain ⟨p, d, rfl, ed, ⟨b1, f1, es, he, _⟩⟩ := pgs_at (hT.same s1) hv
      have hi := (List.getElem?_eq_some_iff.mp ed).1
      refine ⟨rfl, yesT ⟨_, rfl, _, _, 0, vN d.nm, rfl, rfl, tupAt he, atI_in (by decide) rfl, _, eD, by rw [List.length_map, List.length_take, List.length_map]; exact small1000 (by omega), same_at s1 nD, ?_⟩⟩
      rw [List.take_add_one, List.getElem?_map, ed, List.map_append]
      exact upd_same
    obtain ⟨s1, eD⟩ := hq
    rw [pl, show ds.length = (ds.map (·.nm)).length from (List.length_map ..).symm, List.take_length] at eD
    refine ⟨_, rfl, _, _, rfl, s1.seq hB, for_it walk_enum (fun i σ H2 => Same H1 H2 ∧ ∃ y3 y4 y5 y6 y7 : Option V, σ = [some (.ref a), some (.ref b), some (.ref D), y3, y4, y5, y6, y7, none]) ⟨Same.refl _, _, _, _, _, _, rfl⟩ (fun i σ H2 _ hp => (s1.trans hp.1).seq hB) ?_ ?_⟩
    · rintro i x σ H2 H3 hi ⟨s2, y3, y4, y5, y6, y7, rfl⟩ ⟨T, v1, v2, rfl, nT, rfl, e1, e2⟩
      cases e1
      have s12 := s1.trans s2
      obtain ⟨p, d, rfl, ed, ⟨b1, f1, es, he, hb, hbs, hf⟩⟩ := pgs_at (hT.same s12) e2
      have md := List.mem_of_getElem? ed
      have sT := same_upd (o := .tup [.int (i : Nat), .ref p]) nT
      have sm := s12.trans sT
      refine ⟨_, _, rfl, tupAt upd_same, rfl, _, _, rfl, _, _, rfl, _, _, rfl, tupAt (sT _ _ he), rfl, _, _, rfl, _, _, rfl, _, _, rfl, rfl, rfl, ?_⟩
      refine ⟨_, rfl, d.nm, rfl, .inl (ok.nm d md), fun H4 s4 => ⟨_, rfl, ?_⟩⟩
      have sm4 := sm.trans s4
      rw [nz_nm (ok.nm d md)]
      refine iteF ?_
      refine ⟨_, rfl, _, rfl, _, rfl, _, rfl, _, _, rfl, lstAt (s4 _ _ (sT _ _ (s2 _ _ eD))), fun q2 nq2 => ?_⟩
      rw [cut_names]
      have s5 := same_upd (o := .lst (((ds.map (·.nm)).take i).map vN)) nq2
      have sm5 := sm4.trans s5
      refine ⟨q2, _, rfl, .inl (lstAt upd_same), rfl, nms_flat _, _, rfl, ?_⟩
      rw [in_nm, decide_eq_false (not_before ok.nd (by rw [List.getElem?_map, ed]; rfl))]
      refine iteF ?_
      have t3 : Same H2 (upd H4 q2 (.lst (((ds.map (·.nm)).take i).map vN))) := sT.trans (s4.trans s5)
      refine ⟨_, rfl, _, rfl, b1, a, zs, es, d.bids, rfl, t3.seq hb, hbs.same t3, .inl (sm5.seq hA), ok.b d md, ok.bl d md, fun H6 s6 => ⟨_, rfl, iteF ⟨s2.trans (t3.trans s6), _, _, _, _, _, rfl⟩⟩⟩
    · rintro σ H2 ⟨s2, y3, y4, y5, y6, y7, rfl⟩
      have s12 := s1.trans s2
      refine ⟨_, rfl, _, _, rfl, s12.seq hB, for_it walk_enum (fun i σ H3 => Same H2 H3 ∧ ∃ y3 y6 y7 : Option V, σ = [some (.ref a), some (.ref b), some (.ref D), y3, y4, y5, y6, y7, none]) ⟨Same.refl _, _, _, _, rfl⟩ (fun i σ H3 _ hp => (s12.trans hp.1).seq hB) ?_ ?_⟩
      · rintro i x σ H3 H4 hi ⟨s3, y3, y6, y7, rfl⟩ ⟨T, v1, v2, rfl, nT, rfl, e1, e2⟩
        cases e1
        have s13 := s12.trans s3
        obtain ⟨p, d, rfl, ed, ⟨b1, f1, es, he, hb, hbs, hf⟩⟩ := pgs_at (hT.same s13) e2
        have md := List.mem_of_getElem? ed
        have sT := same_upd (o := .tup [.int (i : Nat), .ref p]) nT
        refine ⟨_, _, rfl, tupAt upd_same, rfl, _, _, rfl, _, _, rfl, _, _, rfl, tupAt (sT _ _ he), rfl, _, _, rfl, _, _, rfl, _, _, rfl, rfl, rfl, ?_⟩
        refine ⟨_, rfl, _, rfl, f1, D, d.fol, ds.map (·.nm), rfl, sT.seq hf, .inl (lstAt (sT _ _ (s3 _ _ (s2 _ _ eD)))), ok.f d md, ok.fs d md, ok.fl d md, fun H5 s5 => ⟨_, rfl, iteF ⟨s3.trans (sT.trans s5), _, _, _, rfl⟩⟩⟩
      · rintro σ H3 ⟨s3, y3, y6, y7, rfl⟩
        exact q _ (s12.trans s3)
def spEnds (K : PySem.W.Frag) : Sp := fun vs H Q _ => ∃ (a b c : Addr) (ns ss hs : List Nam), vs = [.ref a, .ref b, .ref c] ∧ SqS K H a (ns.map vN) ∧ SqL K H b (ss.map vN) ∧ SqL K H c (hs.map vN) ∧ ss ≠ [] ∧ ss.Nodup ∧ (∀ x ∈ ss, x ∈ ns) ∧ hs.Nodup ∧ (∀ x ∈ hs, x ∈ ns) ∧ ns.length < 64 ∧ ∀ H', Same H H' → Q .non H'
theorem ok_check_ends {f : Addr} {fd : FuncData} (F : Fun K "_check_ends" "_check_ends" s_check_ends f fd) (m_len : mg "len" = none) (d_are_picks : Def P w K mg base "_are_picks" 1 ["picks", "known"] (spArePicks K)) : FnOk P w K mg base CX0 2 f fd ["names", "starts", "home"] (spEnds K) := by
  refine F.ok sc_check_ends (fun vs H Q E h => ?_) (fun cdv A outer s H vs Q E hr h => ?_)
  · obtain ⟨a, b, c, ns, ss, hs, rfl, _⟩ := h
    rfl
  · obtain ⟨a, b, c, ns, ss, hs, rfl, hA, hB, hC, ne, nd1, su1, nd2, su2, l64, q⟩ := h
    refine ⟨_, (pss_cons (ps_if (PW.pt (pw_or (pt_cmpR op_eq (pe_callB call_len_seq (by rfl) m_len (by decide +kernel) (pa_cons (pv 1) pa_nil)) pe_int (nomark _)) (pw_or1 (pt_not (pt_val (pe_callD d_are_picks (hr.mono (by decide)) (by rfl) (pa_cons (pv 1) (pa_cons (pv 0) pa_nil)))))))) (pss_one ps_never) pss_nil)
  (pss_one (ps_if (pt_not (pt_val (pe_callD d_are_picks (hr.mono (by decide)) (by rfl) (pa_cons (pv 2) (pa_cons (pv 0) pa_nil))))) (pss_one ps_never) pss_nil))), ?_⟩
    have sl : (ss.map vN).length ≠ 0 := fun e => ne (List.eq_nil_of_length_eq_zero (by rw [List.length_map] at e; exact e))
    refine ⟨_, rfl, b, _, rfl, .inl hB, rfl, _, rfl, ?_⟩
    rw [decide_eq_false (show ¬ V.int (((ss.map vN).length : Nat) : Int) = V.int 0 from fun e => sl (by have := V.int.inj e; omega))]
    refine iteF ?_
    refine ⟨_, rfl, _, rfl, b, a, ss, ns, rfl, hB, hA, nd1, su1, Nat.lt_of_le_of_lt (nd_lenK nd1 su1) l64, fun H1 s1 => ⟨_, rfl, iteF ?_⟩⟩
    exact ⟨_, rfl, _, rfl, c, a, hs, ns, rfl, s1.seq hC, hA.same s1, nd2, su2, Nat.lt_of_le_of_lt (nd_lenK nd2 su2) l64, fun H2 s2 => ⟨_, rfl, iteF (q _ (s1.trans s2))⟩⟩
end
end TK


/-! bids in the members' order; a page -/
namespace TK
open PySem PySem.Spec PyProof.Rows L2
def rowB (ds : List BidD) (z : Nam) : List BidD := ds.filter fun d => decide (d.1 = z)
def sortB (zs : List Nam) (ds : List BidD) : List BidD := zs.flatMap (rowB ds)
theorem sortB_fst {zs : List Nam} {ds : List BidD} (nd : (ds.map (·.1)).Nodup) : (sortB zs ds).map (·.1) = zs.filter fun z => decide (z ∈ ds.map (·.1)) := by
  have one : ∀ z, (rowB ds z).map (·.1) = if z ∈ ds.map (·.1) then [z] else [] := fun z => by
    unfold rowB
    induction ds with
    | nil => rfl
    | cons d ds ih =>
      have nd2 := (List.nodup_cons.mp (show (d.1 :: ds.map (·.1)).Nodup from nd))
      have ih := ih nd2.2
      have em : (d :: ds).map (·.1) = d.1 :: ds.map (·.1) := rfl
      rw [em]
      by_cases h : d.1 = z
      · rw [List.filter_cons_of_pos (by simp [h]), List.map_cons, ih, if_neg (by rw [← h]; exact nd2.1), if_pos (by rw [← h]; exact List.mem_cons_self)]
        rw [h]
      · rw [List.filter_cons_of_neg (by simp [h]), ih]
        by_cases q : z ∈ ds.map (·.1)
        · rw [if_pos q, if_pos (List.mem_cons_of_mem _ q)]
        · rw [if_neg q, if_neg fun m => (List.mem_cons.mp m).elim (fun e => h e.symm) q]
  induction zs with
  | nil => rfl
  | cons z zs ih =>
    show ((rowB ds z) ++ sortB zs ds).map (·.1) = _
    rw [List.map_append, one, ih, List.filter_cons]
    by_cases q : z ∈ ds.map (·.1)
    · rw [if_pos q, if_pos (decide_eq_true q)]; rfl
    · rw [if_neg q, if_neg (by rw [decide_eq_false q]; decide)]; rfl
theorem sortB_len {zs : List Nam} {ds : List BidD} : (sortB zs ds).length ≤ zs.length * ds.length := by
  induction zs with
  | nil => exact Nat.zero_le _
  | cons z zs ih =>
    show ((rowB ds z) ++ sortB zs ds).length ≤ _
    have : (rowB ds z).length ≤ ds.length := List.length_filter_le _ _
    rw [List.length_append, List.length_cons, Nat.succ_mul]
    omega
section
variable {P : Program} {w : World} {K : PySem.W.Frag} {mg : Str → Option Value} {base : Heap}
def spSortB (K : PySem.W.Frag) : Sp := fun vs H Q _ => ∃ (a b : Addr) (zs : List Nam) (es : List Addr) (ds : List BidD), vs = [.ref a, .ref b] ∧ SqL K H a (zs.map vN) ∧ SqL K H b (es.map V.ref) ∧ BidsAt H es ds ∧ zs.length ≤ 6 ∧ ds.length < 64 ∧ ∀ H' t es', H t = none → Same H H' → H' t = some (.tup (es'.map V.ref)) → BidsAt H' es' (sortB zs ds) → Q (.ref t) H'
theorem ok_sorted_bids {f : Addr} {fd : FuncData} (F : Fun K "_sorted_bids" "_sorted_bids" s_sorted_bids f fd) (m_tuple : mg "tuple" = none) : FnOk P w K mg base CX0 1 f fd ["members", "bids"] (spSortB K) := by
  refine F.ok sc_sorted_bids (fun vs H Q E h => ?_) (fun cdv A outer s H vs Q E hr h => ?_)
  · obtain ⟨a, b, zs, es, ds, rfl, _⟩ := h
    rfl
  · obtain ⟨a, b, zs, es, ds, rfl, hA, hB, hT, z6, l64, q⟩ := h
    have zl : (zs.map vN).length = zs.length := List.length_map ..
    have el : (es.map V.ref).length = ds.length := by rw [List.length_map, hT.1]
    refine ⟨_, (pss_one (ps_ret (pe_callTy call_tuple_of (by rfl) m_tuple (by decide +kernel) (pa_cons (pe_lc2 (own := [("member", 2), ("bidder", 3), ("bid", 4)]) (vs1 := [3, 4]) (by rfl) sc_sorted_bids.nd (pi_list (pv 0)) (blkOk_by (N := ["members", "bids", "member", "bidder", "bid"]) (sc := defScope s_sorted_bids) (by decide +kernel)) (by decide) (fun _ _ _ _ _ => (pg_name (i := 2) sc_sorted_bids.nd rfl (.inl rfl))) (fun _ _ _ _ _ => pts_nil) (fun _ _ _ _ _ => (pi_listK (K := K) rfl (pv 1))) (fun _ _ _ _ _ => (pg_tupK (K := K) (n := 2) rfl (by rfl) (pgs_cons (pg_name (i := 3) sc_sorted_bids.nd rfl (.inl rfl)) (pgs_cons (pg_name (i := 4) sc_sorted_bids.nd rfl (.inl rfl)) pgs_nil)))) (fun _ _ _ _ _ => (pts_one (pt_cmpR op_eq (pv 3) (pv 2) (nomark _)))) (fun _ _ _ _ _ => (pe_tup (pa_cons (pv 2) (pa_cons (pv 4) pa_nil))))) pa_nil)))), ?_⟩
    refine ⟨_, rfl, a, rfl, ⟨_, hA⟩, fun D nD => ?_⟩
    refine walk_go (walk_list (K := K) (a := a) (xs := zs.map vN)) (fun i H' => ∃ fs : List Addr, Same H H' ∧ H' D = some (.lst (fs.map V.ref)) ∧ BidsAt H' fs (sortB (zs.take i) ds)) ⟨[], same_upd nD, upd_same, ⟨rfl, fun _ _ h => nomatch h⟩⟩ (fun i H' _ hq => hq.choose_spec.1.seq hA) (fun i x H1 H2 hi hq hy => ?_) (fun H' hq => ?_)
    · obtain ⟨fs, s1, eD, hF⟩ := hq
      obtain ⟨rfl, hx⟩ := hy
      obtain ⟨z, ez, rfl⟩ := vN_at hx
      have hi6 : i < 6 := by have := (List.getElem?_eq_some_iff.mp ez).1; omega
      have fl : fs.length ≤ 6 * 64 := by
        rw [hF.1]
        refine Nat.le_trans sortB_len (Nat.mul_le_mul ?_ (by omega))
        rw [List.length_take]; omega
      have e1 : sortB (zs.take (i + 1)) ds = sortB (zs.take i) ds ++ rowB ds z := by
        unfold sortB
        rw [List.take_add_one, ez, List.flatMap_append]
        show _ ++ (rowB ds z ++ []) = _
        rw [List.append_nil]
      rw [e1]
      refine ⟨rfl, yesT ⟨_, rfl, b, rfl, ⟨_, s1.seq hB⟩, ?_⟩⟩
      refine walk_go (walk_list (K := K) (a := b) (xs := es.map V.ref)) (fun j H' => ∃ fs : List Addr, Same H H' ∧ H' D = some (.lst (fs.map V.ref)) ∧ BidsAt H' fs (sortB (zs.take i) ds ++ rowB (ds.take j) z)) ⟨fs, s1, eD, by rw [show rowB (ds.take 0) z = [] from rfl, List.append_nil]; exact hF⟩ (fun j H' _ hq => hq.choose_spec.1.seq hB) (fun j x H3 H4 hj hq hy => ?_) (fun H' hq => ?_)
      · obtain ⟨gs, s3, eD3, hG⟩ := hq
        obtain ⟨rfl, hx2⟩ := hy
        obtain ⟨e, d, rfl, ed, he⟩ := bids_at (hT.same s3) hx2
        have hj := (List.getElem?_eq_some_iff.mp ed).1
        have gl : gs.length ≤ 6 * 64 + 64 := by
          rw [hG.1, List.length_append, ← hF.1]
          have : (rowB (ds.take j) z).length ≤ (ds.take j).length := List.length_filter_le _ _
          rw [List.length_take] at this
          omega
        have e2 : rowB (ds.take (j + 1)) z = rowB (ds.take j) z ++ if d.1 = z then [d] else [] := by
          unfold rowB
          rw [flt_at ed]
          by_cases h : d.1 = z
          · rw [if_pos h, if_pos (decide_eq_true h)]
          · rw [if_neg h, if_neg (by rw [decide_eq_false h]; decide)]
        rw [e2]
        refine gTup2w he [some (.ref a), some (.ref b), some (vN z), some (vN d.1), some (.int d.2)] (by simp [wipe, L2.start]) ?_
        refine ⟨rfl, _, rfl, _, rfl, rfl, _, rfl, ?_⟩
        rw [eq_nm]
        by_cases h : d.1 = z
        · rw [decide_eq_true h, if_pos h]
          refine iteT ⟨_, rfl, _, rfl, (show (2 : Nat) ≤ sizeLine by decide), fun t nt => ?_⟩
          have st := same_upd (o := .tup [vN z, .int d.2]) nt
          refine ⟨_, st _ _ eD3, by rw [List.length_map]; exact small1000 (by omega), gs ++ [t], same_at (s3.trans st) nD, by rw [List.map_append]; exact upd_same, ?_⟩
          rw [← List.append_assoc]
          refine ((hG.same st).app (BidsAt.one ?_)).wrote (st _ _ eD3)
          rw [h]
          exact upd_same
        · rw [decide_eq_false h, if_neg h, List.append_nil]
          exact iteF ⟨gs, s3, eD3, hG⟩
      · obtain ⟨gs, s3, eD3, hG⟩ := hq
        rw [el, List.take_length] at hG
        exact ⟨gs, s3, eD3, hG⟩
    · obtain ⟨fs, s1, eD, hF⟩ := hq
      rw [zl, List.take_length] at hF
      refine ⟨D, _, rfl, .inl ⟨lstAt eD, fun t nt => ?_⟩⟩
      have st := same_upd (o := .tup (fs.map V.ref)) nt
      exact q _ t fs (none_of s1 nt) (s1.trans st) upd_same (hF.same st)
end
end TK

/-! a page -/
namespace TK
open PySem PySem.Spec PyProof.Rows L2
abbrev s_Page_init : Stmt := inClass (topS 20) 0
theorem sc_Page_init : FnScope ["self", "name", "bids", "followers", "home", "member", "_"] ["self", "name", "bids", "followers", "home"] (defScope s_Page_init) := ⟨rfl, rfl, rfl, by decide +kernel, rfl, by decide +kernel, by decide +kernel⟩
structure TxtPg (K : PySem.W.Frag) (C : Addr) : Prop where
  cl : Cls K C
  n1 : NoAttr K C "name"
  n2 : NoAttr K C "bids"
  n3 : NoAttr K C "wishers"
  n4 : NoAttr K C "followers"
  n5 : NoAttr K C "home"
/-- a page of a book -/
def PgAt (C : Addr) (H : Hp) (p : Addr) (n : Nam) (ds : List BidD) (fl : List Nam) (hb : Bool) : Prop := ∃ (dx bt wt ft : Addr) (fs : List (Str × V)) (es : List Addr), H p = some (.ins C dx fs) ∧ fs.lookup ("name" : Str) = some (vN n) ∧ fs.lookup ("bids" : Str) = some (.ref bt) ∧ fs.lookup ("wishers" : Str) = some (.ref wt) ∧ fs.lookup ("followers" : Str) = some (.ref ft) ∧ fs.lookup ("home" : Str) = some (.bl hb) ∧
  H bt = some (.tup (es.map V.ref)) ∧ BidsAt H es ds ∧ H wt = some (.tup ((ds.map (·.1)).map vN)) ∧ H ft = some (.tup (fl.map vN))
theorem PgAt.same {C : Addr} {H H' : Hp} {p : Addr} {n : Nam} {ds : List BidD} {fl : List Nam} {hb : Bool} (h : PgAt C H p n ds fl hb) (s : Same H H') : PgAt C H' p n ds fl hb := by
  obtain ⟨dx, bt, wt, ft, fs, es, h0, h1, h2, h3, h4, h5, h6, h7, h8, h9⟩ := h
  exact ⟨dx, bt, wt, ft, fs, es, s _ _ h0, h1, h2, h3, h4, h5, s _ _ h6, h7.same s, s _ _ h8, s _ _ h9⟩
theorem bids_frame {H H' : Hp} {p C dx : Addr} {fs : List (Str × V)} {es : List Addr} {ds : List BidD} (h : BidsAt H es ds) (hp : H p = some (.ins C dx fs)) (f : SameP p H H') : BidsAt H' es ds := ⟨h.1, fun i e he => by
  obtain ⟨d, h1, h2⟩ := h.2 i e he
  exact ⟨d, h1, f _ _ h2 (ne_of h2 hp (by intro z; cases z))⟩⟩
section
variable {P : Program} {w : World} {K : PySem.W.Frag} {mg : Str → Option Value} {base : Heap}
def spInitPg (C : Addr) : Sp := fun vs H Q _ => ∃ (p b f dx : Addr) (n : Nam) (hb : Bool) (es : List Addr) (ds : List BidD) (fl : List Nam), vs = [.ref p, vN n, .ref b, .ref f, .bl hb] ∧ H p = some (.ins C dx []) ∧ H b = some (.tup (es.map V.ref)) ∧ BidsAt H es ds ∧ H f = some (.tup (fl.map vN)) ∧ ds.length ≤ 500 ∧
  ∀ H', PgAt C H' p n ds fl hb → SameP p H H' → Q .non H'
theorem ok_Page {f C : Addr} {fd : FuncData} (F : Fun K "__init__" "Page.__init__" s_Page_init f fd) (T : TxtPg K C) (m_tuple : mg "tuple" = none) : FnOk P w K mg base CX0 1 f fd ["self", "name", "bids", "followers", "home"] (spInitPg C) := by
  refine F.ok sc_Page_init (fun vs H Q E h => ?_) (fun cdv A outer s H vs Q E hr h => ?_)
  · obtain ⟨p, b, f, dx, n, hb, es, ds, fl, rfl, _⟩ := h
    rfl
  · obtain ⟨p, b, f, dx, n, hb, es, ds, fl, rfl, hp, hb', hT, hf, l500, q⟩ := h
    have el : (es.map V.ref).length = ds.length := by rw [List.length_map, hT.1]
    refine ⟨_, (pss_cons (ps_fld (pv 0) (pv 1) rfl)
  (pss_cons (ps_fld (pv 0) (pe_callTy call_tuple_of (by rfl) m_tuple (by decide +kernel) (pa_cons (pv 2) pa_nil)) rfl)
  (pss_cons (ps_fld (pv 0) (pe_callTy call_tuple_of (by rfl) m_tuple (by decide +kernel) (pa_cons (pe_lc (own := [("member", 5), ("_", 6)]) (by rfl) sc_Page_init.nd (pi_tup (pe_fld (pv 0) rfl)) (blkOk_by (N := ["self", "name", "bids", "followers", "home", "member", "_"]) (sc := defScope s_Page_init) (by decide +kernel)) (fun _ _ _ _ _ => (pg_tupK (K := K) (n := 2) rfl (by rfl) (pgs_cons (pg_name (i := 5) sc_Page_init.nd rfl (.inl rfl)) (pgs_cons (pg_name (i := 6) sc_Page_init.nd rfl (.inl rfl)) pgs_nil)))) (fun _ _ _ _ _ => pts_nil) (fun _ _ _ _ _ => (pv 5))) pa_nil)) rfl)
  (pss_cons (ps_fld (pv 0) (pe_callTy call_tuple_of (by rfl) m_tuple (by decide +kernel) (pa_cons (pv 3) pa_nil)) rfl)
  (pss_one (ps_fld (pv 0) (pv 4) rfl)))))), ?_⟩
    refine ⟨_, rfl, _, rfl, p, C, dx, _, rfl, hp, T.cl, T.n1, by decide, ?_⟩
    have k1 := samep_upd (p := p) (H := H) (o := .ins C dx (putF "name" (vN n) []))
    have p1 := upd_same (H := H) (a := p) (o := .ins C dx (putF "name" (vN n) []))
    have b1 := k1 _ _ hb' (ne_of hb' hp (by intro z; cases z))
    have f1 := k1 _ _ hf (ne_of hf hp (by intro z; cases z))
    have t1 := bids_frame hT hp k1
    generalize upd H p (.ins C dx (putF "name" (vN n) [])) = H1 at k1 p1 b1 f1 t1 ⊢
    have l1 : (putF "name" (vN n) []).length ≤ 1 := put_len (Nat.zero_le _)
    have a1 : (putF "name" (vN n) []).lookup ("name" : Str) = some (vN n) := put_same _ _ _
    generalize putF "name" (vN n) [] = g1 at p1 l1 a1
    refine ⟨_, rfl, b, _, rfl, .inr ⟨tupAt b1, _, rfl, p, C, dx, _, rfl, p1, T.cl, T.n2, by omega, ?_⟩⟩
    have e2 := samep_upd (p := p) (H := H1) (o := .ins C dx (putF "bids" (.ref b) g1))
    have k2 := k1.trans e2
    have p2 := upd_same (H := H1) (a := p) (o := .ins C dx (putF "bids" (.ref b) g1))
    have b2 := e2 _ _ b1 (ne_of b1 p1 (by intro z; cases z))
    have f2 := e2 _ _ f1 (ne_of f1 p1 (by intro z; cases z))
    have t2 := bids_frame t1 p1 e2
    generalize upd H1 p (.ins C dx (putF "bids" (.ref b) g1)) = H2 at k2 p2 b2 f2 t2 ⊢
    have l2 : (putF "bids" (.ref b) g1).length ≤ 2 := put_len l1
    have a2 : (putF "bids" (.ref b) g1).lookup ("name" : Str) = some (vN n) := put_ne a1 (by decide +kernel)
    have c2 : (putF "bids" (.ref b) g1).lookup ("bids" : Str) = some (.ref b) := put_same _ _ _
    generalize putF "bids" (.ref b) g1 = g2 at p2 l2 a2 c2
    refine ⟨_, rfl, p, C, dx, _, _, rfl, p2, T.cl, T.n2, c2, b, rfl, ⟨_, tupAt b2⟩, fun D nD => ?_⟩
    refine lc_tup (K := K) (a := b) (xs := es.map V.ref) (fun i H' => Same H2 H' ∧ H' D = some (.lst ((ds.take i).map fun d => vN d.1))) ⟨same_upd nD, upd_same⟩ (fun i H' _ hq => tupAt (hq.1 _ _ b2)) (fun i v H' hv hq => ?_) (fun H3 hq => ?_)
    · obtain ⟨s1, eD⟩ := hq
      obtain ⟨e, d, rfl, ed, he⟩ := bids_at (t2.same s1) hv
      have hi := (List.getElem?_eq_some_iff.mp ed).1
      refine gTup2w he [some (.ref p), some (vN n), some (.ref b), some (.ref f), some (.bl hb), some (vN d.1), some (.int d.2)] (by simp [wipe, L2.start]) ?_
      refine ⟨rfl, yesT ⟨_, rfl, _, eD, by rw [List.length_map, List.length_take]; exact small1000 (by omega), same_at s1 nD, ?_⟩⟩
      rw [List.take_add_one, ed, List.map_append]
      exact upd_same
    obtain ⟨s3, eD⟩ := hq
    rw [el, List.take_length, show (ds.map fun d => vN d.1) = (ds.map (·.1)).map vN by rw [List.map_map]; rfl] at eD
    refine ⟨D, _, rfl, .inl ⟨lstAt eD, fun wt nw => ?_⟩⟩
    have s4 := s3.trans (same_upd (o := .tup ((ds.map (·.1)).map vN)) nw)
    have w4 := upd_same (H := H3) (a := wt) (o := .tup ((ds.map (·.1)).map vN))
    generalize upd H3 wt (.tup ((ds.map (·.1)).map vN)) = H4 at s4 w4 ⊢
    have p4 := s4 _ _ p2
    have b4 := s4 _ _ b2
    have f4 := s4 _ _ f2
    have t4 := t2.same s4
    have k4 := k2.trans (same_p (p := p) s4)
    refine ⟨_, rfl, p, C, dx, _, rfl, p4, T.cl, T.n3, by omega, ?_⟩
    have e5 := samep_upd (p := p) (H := H4) (o := .ins C dx (putF "wishers" (.ref wt) g2))
    have k5 := k4.trans e5
    have p5 := upd_same (H := H4) (a := p) (o := .ins C dx (putF "wishers" (.ref wt) g2))
    have b5 := e5 _ _ b4 (ne_of b4 p4 (by intro z; cases z))
    have f5 := e5 _ _ f4 (ne_of f4 p4 (by intro z; cases z))
    have w5 := e5 _ _ w4 (ne_of w4 p4 (by intro z; cases z))
    have t5 := bids_frame t4 p4 e5
    generalize upd H4 p (.ins C dx (putF "wishers" (.ref wt) g2)) = H5 at k5 p5 b5 f5 w5 t5 ⊢
    have l5 : (putF "wishers" (.ref wt) g2).length ≤ 3 := put_len l2
    have a5 : (putF "wishers" (.ref wt) g2).lookup ("name" : Str) = some (vN n) := put_ne a2 (by decide +kernel)
    have c5 : (putF "wishers" (.ref wt) g2).lookup ("bids" : Str) = some (.ref b) := put_ne c2 (by decide +kernel)
    have d5 : (putF "wishers" (.ref wt) g2).lookup ("wishers" : Str) = some (.ref wt) := put_same _ _ _
    generalize putF "wishers" (.ref wt) g2 = g5 at p5 l5 a5 c5 d5
    refine ⟨_, rfl, f, _, rfl, .inr ⟨tupAt f5, _, rfl, p, C, dx, _, rfl, p5, T.cl, T.n4, by omega, ?_⟩⟩
    have e6 := samep_upd (p := p) (H := H5) (o := .ins C dx (putF "followers" (.ref f) g5))
    have k6 := k5.trans e6
    have p6 := upd_same (H := H5) (a := p) (o := .ins C dx (putF "followers" (.ref f) g5))
    have b6 := e6 _ _ b5 (ne_of b5 p5 (by intro z; cases z))
    have f6 := e6 _ _ f5 (ne_of f5 p5 (by intro z; cases z))
    have w6 := e6 _ _ w5 (ne_of w5 p5 (by intro z; cases z))
    have t6 := bids_frame t5 p5 e6
    generalize upd H5 p (.ins C dx (putF "followers" (.ref f) g5)) = H6 at k6 p6 b6 f6 w6 t6 ⊢
    have l6 : (putF "followers" (.ref f) g5).length ≤ 4 := put_len l5
    have a6 : (putF "followers" (.ref f) g5).lookup ("name" : Str) = some (vN n) := put_ne a5 (by decide +kernel)
    have c6 : (putF "followers" (.ref f) g5).lookup ("bids" : Str) = some (.ref b) := put_ne c5 (by decide +kernel)
    have d6 : (putF "followers" (.ref f) g5).lookup ("wishers" : Str) = some (.ref wt) := put_ne d5 (by decide +kernel)
    have h6 : (putF "followers" (.ref f) g5).lookup ("followers" : Str) = some (.ref f) := put_same _ _ _
    generalize putF "followers" (.ref f) g5 = g6 at p6 l6 a6 c6 d6 h6
    refine ⟨_, rfl, _, rfl, p, C, dx, _, rfl, p6, T.cl, T.n5, by omega, ?_⟩
    have e7 := samep_upd (p := p) (H := H6) (o := .ins C dx (putF "home" (.bl hb) g6))
    exact q _ ⟨dx, b, wt, f, _, es, upd_same, put_ne a6 (by decide +kernel), put_ne c6 (by decide +kernel), put_ne d6 (by decide +kernel), put_ne h6 (by decide +kernel), put_same _ _ _, e7 _ _ b6 (ne_of b6 p6 (by intro z; cases z)), bids_frame t6 p6 e7, e7 _ _ w6 (ne_of w6 p6 (by intro z; cases z)), e7 _ _ f6 (ne_of f6 p6 (by intro z; cases z))⟩ (k6.trans e7)
end
end TK

/-! Book.__init__ -/
namespace TK
open PySem PySem.Spec PyProof.Rows L2
abbrev s_Book_init : Stmt := inClass (topS 21) 0
theorem sc_Book_init : FnScope ["self", "members", "pages", "starts", "home", "page", "name", "bids", "followers"] ["self", "members", "pages", "starts", "home"] (defScope s_Book_init) := ⟨rfl, rfl, rfl, by decide +kernel, rfl, by decide +kernel, by decide +kernel⟩
/-- one behind the other -/
def AllAt {α : Type} (R : Hp → Addr → α → Prop) (H : Hp) (es : List Addr) (ds : List α) : Prop := es.length = ds.length ∧ ∀ (i : Nat) (e : Addr), es[i]? = some e → ∃ d, ds[i]? = some d ∧ R H e d
theorem AllAt.mono {α : Type} {R S : Hp → Addr → α → Prop} {H H' : Hp} {es : List Addr} {ds : List α} (h : AllAt R H es ds) (k : ∀ e d, R H e d → S H' e d) : AllAt S H' es ds := ⟨h.1, fun i e he => by
  obtain ⟨d, a, b⟩ := h.2 i e he
  exact ⟨d, a, k e d b⟩⟩
theorem AllAt.app {α : Type} {R : Hp → Addr → α → Prop} {H : Hp} {es fs : List Addr} {ds us : List α} (h : AllAt R H es ds) (k : AllAt R H fs us) : AllAt R H (es ++ fs) (ds ++ us) := by
  refine ⟨by rw [List.length_append, List.length_append, h.1, k.1], fun i e he => ?_⟩
  by_cases hi : i < es.length
  · rw [List.getElem?_append_left hi] at he
    rw [List.getElem?_append_left (by rw [← h.1]; exact hi)]
    exact h.2 i e he
  · rw [List.getElem?_append_right (by omega)] at he
    rw [List.getElem?_append_right (by rw [← h.1]; omega), ← h.1]
    exact k.2 _ e he
theorem AllAt.one {α : Type} {R : Hp → Addr → α → Prop} {H : Hp} {e : Addr} {d : α} (h : R H e d) : AllAt R H [e] [d] := ⟨rfl, fun i a ha => by
  match i, ha with
  | 0, ha => cases Option.some.inj ha; exact ⟨d, rfl, h⟩⟩
theorem AllAt.nil {α : Type} {R : Hp → Addr → α → Prop} {H : Hp} : AllAt R H [] [] := ⟨rfl, fun _ _ h => nomatch h⟩
theorem all_at {α : Type} {R : Hp → Addr → α → Prop} {H : Hp} {es : List Addr} {ds : List α} (h : AllAt R H es ds) {i : Nat} {x : V} (hx : (es.map V.ref)[i]? = some x) : ∃ e d, x = .ref e ∧ ds[i]? = some d ∧ R H e d := by
  rw [List.getElem?_map] at hx
  obtain ⟨e, he, rfl⟩ := Option.map_eq_some_iff.mp hx
  obtain ⟨d, a, b⟩ := h.2 i e he
  exact ⟨e, d, rfl, a, b⟩
/-- what is no list stays -/
def NlKeep (H H' : Hp) : Prop := ∀ c o, H c = some o → (∀ xs : List V, o ≠ .lst xs) → H' c = some o
theorem nl_same {H H' : Hp} (s : Same H H') : NlKeep H H' := fun c o e _ => s c o e
theorem nl_wrote {H : Hp} {D : Addr} {xs : List V} {o : HO} (e : H D = some (.lst xs)) : NlKeep H (upd H D o) := fun c x ec n => by
  by_cases h : c = D
  · rw [h, e] at ec; exact absurd (Option.some.inj ec).symm (n xs)
  · rw [upd_ne h]; exact ec
theorem NlKeep.trans {H H' H'' : Hp} (s : NlKeep H H') (t : NlKeep H' H'') : NlKeep H H'' := fun c o e n => t c o (s c o e n) n
theorem bids_nl {H H' : Hp} {es : List Addr} {ds : List BidD} (h : BidsAt H es ds) (k : NlKeep H H') : BidsAt H' es ds := ⟨h.1, fun i e he => by
  obtain ⟨d, a, b⟩ := h.2 i e he
  exact ⟨d, a, k _ _ b (fun _ => nofun)⟩⟩
def RowR (zs : List Nam) (H : Hp) (r : Addr) (d : PgD) : Prop := ∃ (bt ft : Addr) (es : List Addr), H r = some (.tup [vN d.nm, .ref bt, .ref ft]) ∧ H bt = some (.tup (es.map V.ref)) ∧ BidsAt H es (sortB zs d.bids) ∧ H ft = some (.tup (d.fol.map vN))
theorem RowR.nl {zs : List Nam} {H H' : Hp} {r : Addr} {d : PgD} (h : RowR zs H r d) (k : NlKeep H H') : RowR zs H' r d := by
  obtain ⟨bt, ft, es, h1, h2, h3, h4⟩ := h
  exact ⟨bt, ft, es, k _ _ h1 (fun _ => nofun), k _ _ h2 (fun _ => nofun), bids_nl h3 k, k _ _ h4 (fun _ => nofun)⟩
theorem RowR.fr {zs : List Nam} {H H' : Hp} {r p C dx : Addr} {fs : List (Str × V)} {d : PgD} (h : RowR zs H r d) (hp : H p = some (.ins C dx fs)) (f : SameP p H H') : RowR zs H' r d := by
  obtain ⟨bt, ft, es, h1, h2, h3, h4⟩ := h
  exact ⟨bt, ft, es, f _ _ h1 (ne_of h1 hp (by intro z; cases z)), f _ _ h2 (ne_of h2 hp (by intro z; cases z)), bids_frame h3 hp f, f _ _ h4 (ne_of h4 hp (by intro z; cases z))⟩
theorem PgAt.nl {C : Addr} {H H' : Hp} {p : Addr} {n : Nam} {ds : List BidD} {fl : List Nam} {hb : Bool} (h : PgAt C H p n ds fl hb) (k : NlKeep H H') : PgAt C H' p n ds fl hb := by
  obtain ⟨dx, bt, wt, ft, fs, es, h0, h1, h2, h3, h4, h5, h6, h7, h8, h9⟩ := h
  exact ⟨dx, bt, wt, ft, fs, es, k _ _ h0 (fun _ => nofun), h1, h2, h3, h4, h5, k _ _ h6 (fun _ => nofun), bids_nl h7 k, k _ _ h8 (fun _ => nofun), k _ _ h9 (fun _ => nofun)⟩
theorem PgAt.fr {C : Addr} {H H' : Hp} {p b CB dx : Addr} {fs : List (Str × V)} {n : Nam} {ds : List BidD} {fl : List Nam} {hb : Bool} (h : PgAt C H p n ds fl hb) (hp : H b = some (.ins CB dx fs)) (ne : p ≠ b) (f : SameP b H H') : PgAt C H' p n ds fl hb := by
  obtain ⟨dx', bt, wt, ft, fs', es, h0, h1, h2, h3, h4, h5, h6, h7, h8, h9⟩ := h
  exact ⟨dx', bt, wt, ft, fs', es, f _ _ h0 ne, h1, h2, h3, h4, h5, f _ _ h6 (ne_of h6 hp (by intro z; cases z)), bids_frame h7 hp f, f _ _ h8 (ne_of h8 hp (by intro z; cases z)), f _ _ h9 (ne_of h9 hp (by intro z; cases z))⟩
theorem pgs_frame {K : PySem.W.Frag} {H H' : Hp} {p C dx : Addr} {fs : List (Str × V)} {ps : List Addr} {ds : List PgD} (h : PgsIn K H ps ds) (hp : H p = some (.ins C dx fs)) (f : SameP p H H') : PgsIn K H' ps ds := ⟨h.1, fun i e he => by
  obtain ⟨d, a, b1, f1, es, h1, h2, h3, h4⟩ := h.2 i e he
  exact ⟨d, a, b1, f1, es, f _ _ h1 (ne_of h1 hp (by intro z; cases z)), sqL_frame h2 hp f, bids_frame h3 hp f, sqL_frame h4 hp f⟩⟩
/-- what the def is given -/
structure BkG (K : PySem.W.Frag) (H : Hp) (a b c h : Addr) (zs ss hs : List Nam) (ps : List Addr) (ds : List PgD) : Prop where
  m : SqL K H a (zs.map vN)
  b : SqL K H b (ps.map V.ref)
  t : PgsIn K H ps ds
  c : SqL K H c (ss.map vN)
  h : SqL K H h (hs.map vN)
theorem BkG.same {K : PySem.W.Frag} {H H' : Hp} {a b c h : Addr} {zs ss hs : List Nam} {ps : List Addr} {ds : List PgD} (g : BkG K H a b c h zs ss hs ps ds) (s : Same H H') : BkG K H' a b c h zs ss hs ps ds := ⟨s.seq g.m, s.seq g.b, g.t.same s, s.seq g.c, s.seq g.h⟩
theorem BkG.fr {K : PySem.W.Frag} {H H' : Hp} {a b c h p C dx : Addr} {fs : List (Str × V)} {zs ss hs : List Nam} {ps : List Addr} {ds : List PgD} (g : BkG K H a b c h zs ss hs ps ds) (hp : H p = some (.ins C dx fs)) (f : SameP p H H') : BkG K H' a b c h zs ss hs ps ds := ⟨sqL_frame g.m hp f, sqL_frame g.b hp f, pgs_frame g.t hp f, sqL_frame g.c hp f, sqL_frame g.h hp f⟩
structure TxtBk (K : PySem.W.Frag) (C : Addr) : Prop where
  cl : Cls K C
  n1 : NoAttr K C "members"
  n2 : NoAttr K C "names"
  n3 : NoAttr K C "starts"
  n4 : NoAttr K C "home"
  n5 : NoAttr K C "_rows"
  n6 : NoAttr K C "_pages"
def fldsB (m n s h r g : Addr) : List (Str × V) := putF "_pages" (.ref g) (putF "_rows" (.ref r) (putF "home" (.ref h) (putF "starts" (.ref s) (putF "names" (.ref n) (putF "members" (.ref m) [])))))
theorem fldsB_names (m n s h r g : Addr) : (fldsB m n s h r g).lookup ("names" : Str) = some (.ref n) := put_ne (put_ne (put_ne (put_ne (put_same _ _ _) (by decide +kernel)) (by decide +kernel)) (by decide +kernel)) (by decide +kernel)
theorem fldsB_pages (m n s h r g : Addr) : (fldsB m n s h r g).lookup ("_pages" : Str) = some (.ref g) := put_same _ _ _
theorem fldsB_no (m n s h r g : Addr) {x : Str} (hx : x ∉ (["members", "names", "starts", "home", "_rows", "_pages"] : List Str)) : (fldsB m n s h r g).lookup x = none := by
  have k : ∀ y, y ∈ (["members", "names", "starts", "home", "_rows", "_pages"] : List Str) → ¬ x = y := fun y hy e => hx (e ▸ hy)
  unfold fldsB
  rw [lookup_putF, if_neg (k _ (by simp)), lookup_putF, if_neg (k _ (by simp)), lookup_putF, if_neg (k _ (by simp)), lookup_putF, if_neg (k _ (by simp)), lookup_putF, if_neg (k _ (by simp)), lookup_putF, if_neg (k _ (by simp))]
  rfl
abbrev PgR (CP : Addr) (zs hs : List Nam) (p : Addr) : Hp → Addr → PgD → Prop := fun H q d => PgAt CP H q d.nm (sortB zs d.bids) d.fol (decide (d.nm ∈ hs)) ∧ q ≠ p
/-- a book -/
def BkAt (C CP : Addr) (H : Hp) (p : Addr) (zs ss hs : List Nam) (ds : List PgD) : Prop := ∃ (dx m n s h r g : Addr) (o : Obj) (rs qs : List Addr), H p = some (.ins C dx (fldsB m n s h r g)) ∧ H m = some (.tup (zs.map vN)) ∧ H n = some (.frz o (.tup ((ds.map (·.nm)).map vN))) ∧ o.cls = .type "tuple" ∧ o.dict = none ∧ H s = some (.tup (ss.map vN)) ∧ H h = some (.tup (hs.map vN)) ∧
  H r = some (.tup (rs.map V.ref)) ∧ AllAt (RowR zs) H rs ds ∧ H g = some (.tup (qs.map V.ref)) ∧ AllAt (PgR CP zs hs p) H qs ds
theorem BkAt.same {C CP : Addr} {H H' : Hp} {p : Addr} {zs ss hs : List Nam} {ds : List PgD} (h : BkAt C CP H p zs ss hs ds) (t : Same H H') : BkAt C CP H' p zs ss hs ds := by
  obtain ⟨dx, m, n, s, hh, r, g, o, rs, qs, h1, h2, h3, h4, h5, h6, h7, h8, h9, h10, h11⟩ := h
  exact ⟨dx, m, n, s, hh, r, g, o, rs, qs, t _ _ h1, t _ _ h2, t _ _ h3, h4, h5, t _ _ h6, t _ _ h7, t _ _ h8, h9.mono fun _ _ k => k.nl (nl_same t), t _ _ h10, h11.mono fun _ _ k => ⟨k.1.same t, k.2⟩⟩
section
variable {P : Program} {w : World} {K : PySem.W.Frag} {mg : Str → Option Value} {base : Heap}
def spInitBk (K : PySem.W.Frag) (C CP : Addr) : Sp := fun vs H Q _ => ∃ (p a b c h dx : Addr) (zs ss hs : List Nam) (ps : List Addr) (ds : List PgD), vs = [.ref p, .ref a, .ref b, .ref c, .ref h] ∧ H p = some (.ins C dx []) ∧ BkG K H a b c h zs ss hs ps ds ∧ 1 ≤ zs.length ∧ zs.length ≤ 4 ∧ (∀ z ∈ zs, Nm z) ∧ zs.Nodup ∧ POk zs ds ∧ ss ≠ [] ∧ ss.Nodup ∧ (∀ x ∈ ss, x ∈ ds.map (·.nm)) ∧ hs.Nodup ∧ (∀ x ∈ hs, x ∈ ds.map (·.nm)) ∧
  ∀ H', BkAt C CP H' p zs ss ((ds.map (·.nm)).filter fun n => decide (n ∈ hs)) ds → SameP p H H' → Q .non H'
theorem ok_Book {f C CP fP : Addr} {fd fdP : FuncData} {dvs : List V} {kws : List (Str × V)} (F : FunD K "__init__" "Book.__init__" (defArgs s_Book_init) (defBody s_Book_init) (defScope s_Book_init) dvs kws f fd) (T : TxtBk K C) (m_tuple : mg "tuple" = none) (d_check_names : DefD P w K mg base "check_names" 2 ["names", "most", "hook"] (spCheckN K) [.bl false])
    (d_check_pages : Def P w K mg base "_check_pages" 3 ["members", "pages"] (spCheckPg K)) (d_check_ends : Def P w K mg base "_check_ends" 2 ["names", "starts", "home"] (spEnds K)) (d_sorted_bids : Def P w K mg base "_sorted_bids" 1 ["members", "bids"] (spSortB K))
    (M_Page : Mk K CP fP) (G_Page : FnOk P w K mg base CX0 1 fP fdP ["self", "name", "bids", "followers", "home"] (spInitPg CP)) (mg_Page : mg "Page" = some (.ref CP)) (b_Page : Binds K fdP ["self", "name", "bids", "followers", "home"] []) :
    FnOk P w K mg base CX0 4 f fd ["self", "members", "pages", "starts", "home"] (spInitBk K C CP) := by
  refine F.ok (CX := CX0) sc_Book_init (fun vs H Q E h => ?_) (fun cdv A outer s H vs Q E hr h => ?_)
  · obtain ⟨p, a, b, c, h, dx, zs, ss, hs, ps, ds, rfl, _⟩ := h
    rfl
  · obtain ⟨p, a, b, c, h, dx, zs, ss, hs, ps, ds, rfl, hp, g, z1, z4, nm, nd, ok, sne, snd, ssub, hnd, hsub, q⟩ := h
    have pl : (ps.map V.ref).length = ds.length := by rw [List.length_map, g.t.1]
    have l4 := ok.l4
    refine ⟨_, (pss_cons (ps_expr (pe_callDD d_check_names (hr.mono (by decide)) (by rfl) (pa_cons (pv 1) (pa_cons pe_int pa_nil))))
  (pss_cons (ps_expr (pe_callD d_check_pages (hr.mono (by decide)) (by rfl) (pa_cons (pv 1) (pa_cons (pv 2) pa_nil))))
  (pss_cons (ps_fld (pv 0) (pe_callTy call_tuple_of (by rfl) m_tuple (by decide +kernel) (pa_cons (pv 1) pa_nil)) rfl)
  (pss_cons (ps_fld (pv 0) (pe_callTy call_tuple_frz (by rfl) m_tuple (by decide +kernel) (pa_cons (pe_lc (own := [("page", 5)]) (by rfl) sc_Book_init.nd (pi_list (pv 2)) (blkOk_by (N := ["self", "members", "pages", "starts", "home", "page", "name", "bids", "followers"]) (sc := defScope s_Book_init) (by decide +kernel)) (fun _ _ _ _ _ => (pg_name (i := 5) sc_Book_init.nd rfl (.inl rfl))) (fun _ _ _ _ _ => pts_nil) (fun _ _ _ _ _ => (pe_ix (ix_tupK (K := K) rfl) (pv 5) pe_int (fun _ _ => rfl)))) pa_nil)) rfl)
  (pss_cons (ps_expr (pe_callD d_check_ends (hr.mono (by decide)) (by rfl) (pa_cons (pe_fld (pv 0) rfl) (pa_cons (pv 3) (pa_cons (pv 4) pa_nil)))))
  (pss_cons (ps_fld (pv 0) (pe_callTy call_tuple_of (by rfl) m_tuple (by decide +kernel) (pa_cons (pv 3) pa_nil)) rfl)
  (pss_cons (ps_fld (pv 0) (pe_callTy call_tuple_of (by rfl) m_tuple (by decide +kernel) (pa_cons (pe_lc (own := [("name", 6)]) (by rfl) sc_Book_init.nd (pi_tup (pe_fld (pv 0) rfl)) (blkOk_by (N := ["self", "members", "pages", "starts", "home", "page", "name", "bids", "followers"]) (sc := defScope s_Book_init) (by decide +kernel)) (fun _ _ _ _ _ => (pg_name (i := 6) sc_Book_init.nd rfl (.inl rfl))) (fun _ _ _ _ _ => (pts_one (pt_cmpR (op_in_seqK (K := K) rfl) (pv 6) (pv 4) (by rfl)))) (fun _ _ _ _ _ => (pv 6))) pa_nil)) rfl)
  (pss_cons (ps_fld (pv 0) (pe_callTy call_tuple_of (by rfl) m_tuple (by decide +kernel) (pa_cons (pe_lc (own := [("name", 6), ("bids", 7), ("followers", 8)]) (by rfl) sc_Book_init.nd (pi_list (pv 2)) (blkOk_by (N := ["self", "members", "pages", "starts", "home", "page", "name", "bids", "followers"]) (sc := defScope s_Book_init) (by decide +kernel)) (fun _ _ _ _ _ => (pg_tupK (K := K) (n := 3) rfl (by rfl) (pgs_cons (pg_name (i := 6) sc_Book_init.nd rfl (.inl rfl)) (pgs_cons (pg_name (i := 7) sc_Book_init.nd rfl (.inl rfl)) (pgs_cons (pg_name (i := 8) sc_Book_init.nd rfl (.inl rfl)) pgs_nil))))) (fun _ _ _ _ _ => pts_nil) (fun _ _ _ _ _ => (pe_tup (pa_cons (pv 6) (pa_cons (pe_callD d_sorted_bids (hr.mono (by decide)) (by rfl) (pa_cons (pv 1) (pa_cons (pv 7) pa_nil))) (pa_cons (pe_callTy (call_tuple_ofK (K := K) rfl) (by rfl) m_tuple (by decide +kernel) (pa_cons (pv 8) pa_nil)) pa_nil)))))) pa_nil)) rfl)
  (pss_one (ps_fld (pv 0) (pe_callTy call_tuple_of (by rfl) m_tuple (by decide +kernel) (pa_cons (pe_lc (own := [("name", 6), ("bids", 7), ("followers", 8)]) (by rfl) sc_Book_init.nd (pi_tup (pe_fld (pv 0) rfl)) (blkOk_by (N := ["self", "members", "pages", "starts", "home", "page", "name", "bids", "followers"]) (sc := defScope s_Book_init) (by decide +kernel)) (fun _ _ _ _ _ => (pg_tupK (K := K) (n := 3) rfl (by rfl) (pgs_cons (pg_name (i := 6) sc_Book_init.nd rfl (.inl rfl)) (pgs_cons (pg_name (i := 7) sc_Book_init.nd rfl (.inl rfl)) (pgs_cons (pg_name (i := 8) sc_Book_init.nd rfl (.inl rfl)) pgs_nil))))) (fun _ _ _ _ _ => pts_nil) (fun _ _ _ _ _ => (pe_make M_Page G_Page (hr.mono (by decide)) (by rfl) mg_Page b_Page .nil pass0 (pa_cons (pv 6) (pa_cons (pv 7) (pa_cons (pv 8) (pa_cons (pe_cmpR (op_in_seqK (K := K) rfl) (pv 6) (pe_fldK (K := K) rfl (pv 0) rfl) (by rfl)) pa_nil))))))) pa_nil)) rfl)))))))))), ?_⟩
    refine ⟨_, rfl, a, 4, zs, rfl, .inl g.m, z1, by omega, by omega, nm, nd, fun H1 s1 => ?_⟩
    refine ⟨_, rfl, _, rfl, a, b, zs, ps, ds, rfl, s1.seq g.m, s1.seq g.b, g.t.same s1, ok, fun H2 s2 => ?_⟩
    have s12 := s1.trans s2
    -- members
    refine ⟨_, rfl, a, _, rfl, .inl ⟨s12.seq g.m, fun m nmA => ?_⟩⟩
    have s3 := s12.trans (same_upd (o := .tup (zs.map vN)) nmA)
    have m3 := upd_same (H := H2) (a := m) (o := .tup (zs.map vN))
    have g3 := g.same s3
    have p3 := s3 _ _ hp
    have f3 := same_p (p := p) s3
    generalize upd H2 m (.tup (zs.map vN)) = H3 at m3 g3 p3 f3 ⊢
    refine ⟨_, rfl, p, C, dx, _, rfl, p3, T.cl, T.n1, by decide, ?_⟩
    have e4 := samep_upd (p := p) (H := H3) (o := .ins C dx (putF "members" (.ref m) []))
    have p4 := upd_same (H := H3) (a := p) (o := .ins C dx (putF "members" (.ref m) []))
    have f4 := f3.trans e4
    have m4 := e4 _ _ m3 (ne_of m3 p3 (by intro z; cases z))
    have g4 := g3.fr p3 e4
    generalize upd H3 p (.ins C dx (putF "members" (.ref m) [])) = H4 at p4 f4 m4 g4 ⊢
    -- names
    refine ⟨_, rfl, b, rfl, ⟨_, g4.b⟩, fun D nD => ?_⟩
    refine lc_list (K := K) (a := b) (xs := ps.map V.ref) (fun i H' => Same H4 H' ∧ H' D = some (.lst (((ds.map (·.nm)).take i).map vN))) ⟨same_upd nD, upd_same⟩ (fun i H' _ hq => hq.1.seq g4.b) (fun i v H' hv hq => ?_) (fun H5 hq => ?_)
    · obtain ⟨sq, eD⟩ := hq
      obtain ⟨p', d, rfl, ed, ⟨b1, f1, es, he, _⟩⟩ := pgs_at (g4.t.same sq) hv
      have hi := (List.getElem?_eq_some_iff.mp ed).1
      refine ⟨rfl, yesT ⟨_, rfl, _, _, 0, vN d.nm, rfl, rfl, tupAt he, atI_in (by decide) rfl, _, eD, by rw [List.length_map, List.length_take, List.length_map]; exact small1000 (by omega), same_at sq nD, ?_⟩⟩
      rw [List.take_add_one, List.getElem?_map, ed, List.map_append]
      exact upd_same
    obtain ⟨s5, eD⟩ := hq
    rw [pl, show ds.length = (ds.map (·.nm)).length from (List.length_map ..).symm, List.take_length] at eD
    refine ⟨D, _, rfl, lstAt eD, fun n o nn oc od => ?_⟩
    have s6 := s5.trans (same_upd (o := .frz o (.tup ((ds.map (·.nm)).map vN))) nn)
    have n6 := upd_same (H := H5) (a := n) (o := .frz o (.tup ((ds.map (·.nm)).map vN)))
    have p6 := s6 _ _ p4
    have m6 := s6 _ _ m4
    have g6 := g4.same s6
    have f6 := f4.trans (same_p (p := p) s6)
    generalize upd H5 n (.frz o (.tup ((ds.map (·.nm)).map vN))) = H6 at n6 p6 m6 g6 f6 ⊢
    refine ⟨_, rfl, p, C, dx, _, rfl, p6, T.cl, T.n2, Nat.lt_of_le_of_lt (put_len (n := 0) (Nat.le_refl 0)) (by decide), ?_⟩
    have e7 := samep_upd (p := p) (H := H6) (o := .ins C dx (putF "names" (.ref n) (putF "members" (.ref m) [])))
    have p7 := upd_same (H := H6) (a := p) (o := .ins C dx (putF "names" (.ref n) (putF "members" (.ref m) [])))
    have f7 := f6.trans e7
    have m7 := e7 _ _ m6 (ne_of m6 p6 (by intro z; cases z))
    have n7 := e7 _ _ n6 (ne_of n6 p6 (by intro z; cases z))
    have g7 := g6.fr p6 e7
    generalize upd H6 p (.ins C dx (putF "names" (.ref n) (putF "members" (.ref m) []))) = H7 at p7 f7 m7 n7 g7 ⊢
    clear e7 e4 p6 m6 n6 g6 f6 s6 s5 eD p4 m4 g4 f4 p3 m3 g3 f3 s3
    -- the ends
    refine ⟨_, rfl, p, C, dx, _, _, rfl, p7, T.cl, T.n2, put_same _ _ _, _, rfl, _, rfl, n, c, h, ds.map (·.nm), ss, hs, rfl, .inr (.inl (.inr ⟨o, n7⟩)), g7.c, g7.h, sne, snd, ssub, hnd, hsub, by rw [List.length_map]; omega, fun H8 s8 => ?_⟩
    -- starts
    refine ⟨_, rfl, c, _, rfl, .inl ⟨s8.seq g7.c, fun st nst => ?_⟩⟩
    have s9 := s8.trans (same_upd (o := .tup (ss.map vN)) nst)
    have t9 := upd_same (H := H8) (a := st) (o := .tup (ss.map vN))
    have p9 := s9 _ _ p7
    have m9 := s9 _ _ m7
    have n9 := s9 _ _ n7
    have g9 := g7.same s9
    have f9 := f7.trans (same_p (p := p) s9)
    generalize upd H8 st (.tup (ss.map vN)) = H9 at t9 p9 m9 n9 g9 f9 ⊢
    refine ⟨_, rfl, p, C, dx, _, rfl, p9, T.cl, T.n3, Nat.lt_of_le_of_lt (put_len (n := 1) (put_len (n := 0) (Nat.le_refl 0))) (by decide), ?_⟩
    have e10 := samep_upd (p := p) (H := H9) (o := .ins C dx (putF "starts" (.ref st) (putF "names" (.ref n) (putF "members" (.ref m) []))))
    have p10 := upd_same (H := H9) (a := p) (o := .ins C dx (putF "starts" (.ref st) (putF "names" (.ref n) (putF "members" (.ref m) []))))
    have f10 := f9.trans e10
    have m10 := e10 _ _ m9 (ne_of m9 p9 (by intro z; cases z))
    have n10 := e10 _ _ n9 (ne_of n9 p9 (by intro z; cases z))
    have t10 := e10 _ _ t9 (ne_of t9 p9 (by intro z; cases z))
    have g10 := g9.fr p9 e10
    generalize upd H9 p (.ins C dx (putF "starts" (.ref st) (putF "names" (.ref n) (putF "members" (.ref m) [])))) = H10 at p10 f10 m10 n10 t10 g10 ⊢
    clear e10 p9 m9 n9 t9 g9 f9 s9 s8 p7 m7 n7 g7 f7
    -- home
    refine ⟨_, rfl, p, C, dx, _, _, rfl, p10, T.cl, T.n2, put_ne (put_same _ _ _) (by decide +kernel), n, rfl, ⟨_, .inl (.inr ⟨o, n10⟩)⟩, fun D2 nD2 => ?_⟩
    refine lc_tup (K := K) (a := n) (xs := (ds.map (·.nm)).map vN) (fun i H' => Same H10 H' ∧ H' D2 = some (.lst ((((ds.map (·.nm)).take i).filter fun z => decide (z ∈ hs)).map vN))) ⟨same_upd nD2, upd_same⟩ (fun i H' _ hq => .inl (.inr ⟨o, hq.1 _ _ n10⟩)) (fun i v H' hv hq => ?_) (fun H11 hq => ?_)
    · obtain ⟨sq, eD⟩ := hq
      obtain ⟨z, ez, rfl⟩ := vN_at hv
      have hi := (List.getElem?_eq_some_iff.mp ez).1
      rw [List.length_map] at hi
      have fl : (((ds.map (·.nm)).take i).filter fun z => decide (z ∈ hs)).length ≤ 4 := Nat.le_trans (List.length_filter_le _ _) (by rw [List.length_take]; omega)
      rw [flt_at ez]
      refine ⟨rfl, _, rfl, _, rfl, h, _, rfl, .inl (sq.seq g10.h), rfl, nms_flat _, _, rfl, ?_⟩
      rw [in_nm]
      by_cases hz : z ∈ hs
      · rw [decide_eq_true hz]
        refine iteT ⟨_, rfl, _, eD, by rw [List.length_map]; exact small1000 (by omega), same_at sq nD2, ?_⟩
        rw [if_pos rfl, List.map_append]
        exact upd_same
      · rw [decide_eq_false hz]
        exact iteF ⟨sq, by rw [if_neg Bool.false_ne_true, List.append_nil]; exact eD⟩
    obtain ⟨s11, eD2⟩ := hq
    rw [List.length_map, List.take_length] at eD2
    generalize hh2 : (ds.map (·.nm)).filter (fun z => decide (z ∈ hs)) = hs2 at eD2 q
    refine ⟨D2, _, rfl, .inl ⟨lstAt eD2, fun ht nht => ?_⟩⟩
    have s12 := s11.trans (same_upd (o := .tup (hs2.map vN)) nht)
    have h12 := upd_same (H := H11) (a := ht) (o := .tup (hs2.map vN))
    have p12 := s12 _ _ p10
    have m12 := s12 _ _ m10
    have n12 := s12 _ _ n10
    have t12 := s12 _ _ t10
    have g12 := g10.same s12
    have f12 := f10.trans (same_p (p := p) s12)
    generalize upd H11 ht (.tup (hs2.map vN)) = H12 at h12 p12 m12 n12 t12 g12 f12 ⊢
    refine ⟨_, rfl, p, C, dx, _, rfl, p12, T.cl, T.n4, Nat.lt_of_le_of_lt (put_len (n := 2) (put_len (n := 1) (put_len (n := 0) (Nat.le_refl 0)))) (by decide), ?_⟩
    have e13 := samep_upd (p := p) (H := H12) (o := .ins C dx (putF "home" (.ref ht) (putF "starts" (.ref st) (putF "names" (.ref n) (putF "members" (.ref m) [])))))
    have p13 := upd_same (H := H12) (a := p) (o := .ins C dx (putF "home" (.ref ht) (putF "starts" (.ref st) (putF "names" (.ref n) (putF "members" (.ref m) [])))))
    have f13 := f12.trans e13
    have m13 := e13 _ _ m12 (ne_of m12 p12 (by intro z; cases z))
    have n13 := e13 _ _ n12 (ne_of n12 p12 (by intro z; cases z))
    have t13 := e13 _ _ t12 (ne_of t12 p12 (by intro z; cases z))
    have h13 := e13 _ _ h12 (ne_of h12 p12 (by intro z; cases z))
    have g13 := g12.fr p12 e13
    generalize upd H12 p (.ins C dx (putF "home" (.ref ht) (putF "starts" (.ref st) (putF "names" (.ref n) (putF "members" (.ref m) []))))) = H13 at p13 f13 m13 n13 t13 h13 g13 ⊢
    clear e13 p12 m12 n12 t12 h12 g12 f12 s12 s11 eD2 p10 m10 n10 t10 g10 f10
    -- the rows
    refine ⟨_, rfl, b, rfl, ⟨_, g13.b⟩, fun D3 nD3 => ?_⟩
    refine lc_list (K := K) (a := b) (xs := ps.map V.ref) (fun i H' => ∃ rs : List Addr, Same H13 H' ∧ H' D3 = some (.lst (rs.map V.ref)) ∧ AllAt (RowR zs) H' rs (ds.take i)) ⟨[], same_upd nD3, upd_same, .nil⟩ (fun i H' _ hq => hq.choose_spec.1.seq g13.b) (fun i v H' hv hq => ?_) (fun H14 hq => ?_)
    · obtain ⟨rs, sq, eD, hR⟩ := hq
      obtain ⟨p', d, rfl, ed, ⟨b1, f1, es, he, hb, hbs, hf⟩⟩ := pgs_at (g13.t.same sq) hv
      have hi := (List.getElem?_eq_some_iff.mp ed).1
      have rl : rs.length = i := by rw [hR.1, List.length_take]; omega
      rw [List.take_add_one, ed]
      refine gTup3 he [some (.ref p), some (.ref a), some (.ref b), some (.ref c), some (.ref h), none, some (vN d.nm), some (.ref b1), some (.ref f1)] (by simp [wipe, L2.start]) ?_
      refine ⟨rfl, yesT ⟨_, rfl, _, rfl, _, rfl, a, b1, zs, es, d.bids, rfl, sq.seq g13.m, hb, hbs, by omega, ok.bl d (List.mem_of_getElem? ed), fun H1' t es' nt s1' et hB => ?_⟩⟩
      refine ⟨_, rfl, f1, _, rfl, .inl ⟨s1'.seq hf, fun u nu => ?_⟩⟩
      have s2' := s1'.trans (same_upd (o := .tup (d.fol.map vN)) nu)
      refine ⟨(show (3 : Nat) ≤ sizeLine by decide), fun x nx => ?_⟩
      have s3' := s2'.trans (same_upd (o := .tup [vN d.nm, .ref t, .ref u]) nx)
      have eD' := s3' _ _ eD
      have row : RowR zs (upd (upd H1' u (.tup (d.fol.map vN))) x (.tup [vN d.nm, .ref t, .ref u])) x d := ⟨t, u, es', upd_same, (same_upd nx) _ _ ((same_upd nu) _ _ et), (hB.same (same_upd nu)).same (same_upd nx), (same_upd nx) _ _ upd_same⟩
      exact ⟨_, eD', by rw [List.length_map, rl]; exact small1000 (by omega), rs ++ [x], same_at (sq.trans s3') nD3, by rw [List.map_append]; exact upd_same, ((hR.mono fun _ _ k => k.nl (nl_same s3')).app (.one row)).mono fun _ _ k => k.nl (nl_wrote eD')⟩
    obtain ⟨rs, s14, eD3, hR⟩ := hq
    rw [pl, List.take_length] at hR
    refine ⟨D3, _, rfl, .inl ⟨lstAt eD3, fun r nr => ?_⟩⟩
    have tr := same_upd (o := .tup (rs.map V.ref)) nr
    have s15 := s14.trans tr
    have r15 := upd_same (H := H14) (a := r) (o := .tup (rs.map V.ref))
    have R15 := hR.mono fun _ _ k => k.nl (nl_same tr)
    have p15 := s15 _ _ p13
    have m15 := s15 _ _ m13
    have n15 := s15 _ _ n13
    have t15 := s15 _ _ t13
    have h15 := s15 _ _ h13
    have f15 := f13.trans (same_p (p := p) s15)
    generalize upd H14 r (.tup (rs.map V.ref)) = H15 at r15 R15 p15 m15 n15 t15 h15 f15 ⊢
    refine ⟨_, rfl, p, C, dx, _, rfl, p15, T.cl, T.n5, Nat.lt_of_le_of_lt (put_len (n := 3) (put_len (n := 2) (put_len (n := 1) (put_len (n := 0) (Nat.le_refl 0))))) (by decide), ?_⟩
    have e16 := samep_upd (p := p) (H := H15) (o := .ins C dx (putF "_rows" (.ref r) (putF "home" (.ref ht) (putF "starts" (.ref st) (putF "names" (.ref n) (putF "members" (.ref m) []))))))
    have p16 := upd_same (H := H15) (a := p) (o := .ins C dx (putF "_rows" (.ref r) (putF "home" (.ref ht) (putF "starts" (.ref st) (putF "names" (.ref n) (putF "members" (.ref m) []))))))
    have f16 := f15.trans e16
    have m16 := e16 _ _ m15 (ne_of m15 p15 (by intro z; cases z))
    have n16 := e16 _ _ n15 (ne_of n15 p15 (by intro z; cases z))
    have t16 := e16 _ _ t15 (ne_of t15 p15 (by intro z; cases z))
    have h16 := e16 _ _ h15 (ne_of h15 p15 (by intro z; cases z))
    have r16 := e16 _ _ r15 (ne_of r15 p15 (by intro z; cases z))
    have R16 := R15.mono fun _ _ k => k.fr p15 e16
    generalize upd H15 p (.ins C dx (putF "_rows" (.ref r) (putF "home" (.ref ht) (putF "starts" (.ref st) (putF "names" (.ref n) (putF "members" (.ref m) [])))))) = H16 at p16 f16 m16 n16 t16 h16 r16 R16 ⊢
    clear e16 p15 m15 n15 t15 h15 r15 R15 f15 s15 tr s14 eD3 hR p13 m13 n13 t13 h13 g13 f13
    have rl : (rs.map V.ref).length = ds.length := by rw [List.length_map, R16.1]
    -- the pages
    refine ⟨_, rfl, p, C, dx, _, _, rfl, p16, T.cl, T.n5, put_same _ _ _, r, rfl, ⟨_, tupAt r16⟩, fun D4 nD4 => ?_⟩
    refine lc_tup (K := K) (a := r) (xs := rs.map V.ref) (fun i H' => ∃ qs : List Addr, Same H16 H' ∧ H' D4 = some (.lst (qs.map V.ref)) ∧ AllAt (PgR CP zs hs2 p) H' qs (ds.take i)) ⟨[], same_upd nD4, upd_same, .nil⟩ (fun i H' _ hq => tupAt (hq.choose_spec.1 _ _ r16)) (fun i v H' hv hq => ?_) (fun H17 hq => ?_)
    · obtain ⟨qs, sq, eD, hQ⟩ := hq
      obtain ⟨r', d, rfl, ed, ⟨bt, ft, es, he, hb, hbs, hf⟩⟩ := all_at (R16.mono fun _ _ k => k.nl (nl_same sq)) hv
      have hi := (List.getElem?_eq_some_iff.mp ed).1
      have ql : qs.length = i := by rw [hQ.1, List.length_take]; omega
      rw [List.take_add_one, ed]
      refine gTup3 he [some (.ref p), some (.ref a), some (.ref b), some (.ref c), some (.ref h), none, some (vN d.nm), some (.ref bt), some (.ref ft)] (by simp [wipe, L2.start]) ?_
      refine ⟨rfl, yesT ⟨_, rfl, _, rfl, _, rfl, _, rfl, _, rfl, p, C, dx, _, _, rfl, sq _ _ p16, T.cl, T.n4, put_ne (put_same _ _ _) (by decide +kernel), ht, _, rfl, .inr (tupAt (sq _ _ h16)), rfl, nms_flat _, fun x dx' nx ndx nex => ?_⟩⟩
      have sdx := same_upd (o := .own x) ndx
      have nxx : (upd H' dx' (.own x)) x = none := by rw [upd_ne nex.symm]; exact nx
      have sx := sdx.trans (same_upd (o := .ins CP dx' []) nxx)
      have bl : (sortB zs d.bids).length ≤ 500 := by
        have b64 := ok.bl d (List.mem_of_getElem? ed)
        refine Nat.le_trans sortB_len (Nat.le_trans (Nat.mul_le_mul (show zs.length ≤ 4 from z4) (show d.bids.length ≤ 64 by omega)) (by decide))
      refine ⟨x, bt, ft, dx', d.nm, _, es, sortB zs d.bids, d.fol, rfl, upd_same, sx _ _ hb, hbs.same sx, sx _ _ hf, bl, fun H2' pg sp => ⟨rfl, ?_⟩⟩
      have sK : Same H' H2' := fun y ob e => sp y ob (sx _ _ e) (ne_of_none e nx)
      have eD' := sK _ _ eD
      have xp : x ≠ p := (ne_of_none (sq _ _ p16) nx).symm
      have pg' : PgAt CP H2' x d.nm (sortB zs d.bids) d.fol (decide (d.nm ∈ hs2)) := by
        have e : inV (vN d.nm) (hs2.map vN) = decide (d.nm ∈ hs2) := inV_nm
        rw [← e]
        exact pg
      have Q1 : AllAt (PgR CP zs hs2 p) H2' qs (ds.take i) := hQ.mono fun _ _ k => ⟨k.1.same sK, k.2⟩
      have Q2 : AllAt (PgR CP zs hs2 p) H2' (qs ++ [x]) (ds.take i ++ [d]) := Q1.app (.one ⟨pg', xp⟩)
      exact ⟨_, eD', by rw [List.length_map, ql]; exact small1000 (by omega), qs ++ [x], same_at (sq.trans sK) nD4, by rw [List.map_append]; exact upd_same, Q2.mono fun _ _ k => ⟨k.1.nl (nl_wrote eD'), k.2⟩⟩
    obtain ⟨qs, s17, eD4, hQ⟩ := hq
    rw [rl, List.take_length] at hQ
    refine ⟨D4, _, rfl, .inl ⟨lstAt eD4, fun gg ngg => ?_⟩⟩
    have tg := same_upd (o := .tup (qs.map V.ref)) ngg
    have s18 := s17.trans tg
    have g18 := upd_same (H := H17) (a := gg) (o := .tup (qs.map V.ref))
    have Q18 := hQ.mono (S := PgR CP zs hs2 p) (H' := upd H17 gg (.tup (qs.map V.ref))) fun _ _ k => ⟨k.1.same tg, k.2⟩
    have p18 := s18 _ _ p16
    generalize upd H17 gg (.tup (qs.map V.ref)) = H18 at tg s18 g18 Q18 p18 ⊢
    refine ⟨_, rfl, p, C, dx, _, rfl, p18, T.cl, T.n6, Nat.lt_of_le_of_lt (put_len (n := 4) (put_len (n := 3) (put_len (n := 2) (put_len (n := 1) (put_len (n := 0) (Nat.le_refl 0)))))) (by decide), ?_⟩
    have e19 := samep_upd (p := p) (H := H18) (o := .ins C dx (fldsB m n st ht r gg))
    have fr := (f16.trans (same_p (p := p) s18)).trans e19
    have go : ∀ {y : Addr} {xs : List V}, H16 y = some (.tup xs) → (upd H18 p (.ins C dx (fldsB m n st ht r gg))) y = some (.tup xs) := fun e => e19 _ _ (s18 _ _ e) (ne_of (s18 _ _ e) p18 (by intro z; cases z))
    refine q _ ⟨dx, m, n, st, ht, r, gg, o, rs, qs, upd_same, go m16, e19 _ _ (s18 _ _ n16) (ne_of (s18 _ _ n16) p18 (by intro z; cases z)), oc, od, go t16, go h16, go r16, R16.mono fun _ _ k => (k.nl (nl_same s18)).fr p18 e19, e19 _ _ g18 (ne_of g18 p18 (by intro z; cases z)), Q18.mono fun _ _ k => ⟨k.1.fr p18 k.2 e19, k.2⟩⟩ fr
end
end TK

/-! books that are passed as tuples -/
namespace TK
open PySem PySem.Spec PyProof.Rows L2
def PgInT (H : Hp) (p : Addr) (d : PgD) : Prop := ∃ (b f : Addr) (es : List Addr), H p = some (.tup [vN d.nm, .ref b, .ref f]) ∧ H b = some (.tup (es.map V.ref)) ∧ BidsAt H es d.bids ∧ H f = some (.tup (d.fol.map vN))
def PgsInT (H : Hp) (ps : List Addr) (ds : List PgD) : Prop := ps.length = ds.length ∧ ∀ (i : Nat) (p : Addr), ps[i]? = some p → ∃ d, ds[i]? = some d ∧ PgInT H p d
theorem PgInT.same {H H' : Hp} {p : Addr} {d : PgD} (h : PgInT H p d) (s : Same H H') : PgInT H' p d := by
  obtain ⟨b, f, es, h1, h2, h3, h4⟩ := h
  exact ⟨b, f, es, s _ _ h1, s _ _ h2, h3.same s, s _ _ h4⟩
theorem PgsInT.same {H H' : Hp} {ps : List Addr} {ds : List PgD} (h : PgsInT H ps ds) (s : Same H H') : PgsInT H' ps ds := ⟨h.1, fun i p e => by
  obtain ⟨d, a, b⟩ := h.2 i p e
  exact ⟨d, a, b.same s⟩⟩
theorem pgs_atT {H : Hp} {ps : List Addr} {ds : List PgD} (h : PgsInT H ps ds) {i : Nat} {x : V} (hx : (ps.map V.ref)[i]? = some x) : ∃ p d, x = .ref p ∧ ds[i]? = some d ∧ PgInT H p d := by
  rw [List.getElem?_map] at hx
  obtain ⟨p, hp, rfl⟩ := Option.map_eq_some_iff.mp hx
  obtain ⟨d, a, b⟩ := h.2 i p hp
  exact ⟨p, d, rfl, a, b⟩
section
variable {P : Program} {w : World} {K : PySem.W.Frag} {mg : Str → Option Value} {base : Heap}
def spArePicksT (K : PySem.W.Frag) : Sp := fun vs H Q _ => ∃ (a b : Addr) (xs ys : List Nam), vs = [.ref a, .ref b] ∧ SqT K H a (xs.map vN) ∧ SqS K H b (ys.map vN) ∧ xs.Nodup ∧ (∀ x ∈ xs, x ∈ ys) ∧ xs.length < 64 ∧ ∀ H', Same H H' → Q (.bl true) H'
theorem ok_are_picksT {f : Addr} {fd : FuncData} (F : Fun K "_are_picks" "_are_picks" s_are_picks f fd) (m_all : mg "all" = none) (m_len : mg "len" = none) (m_set : mg "set" = none) : FnOk P w K mg base CX0 1 f fd ["picks", "known"] (spArePicksT K) := by
  refine F.ok sc_are_picks (fun vs H Q E h => ?_) (fun cdv A outer s H vs Q E hr h => ?_)
  · obtain ⟨a, b, xs, ys, rfl, _⟩ := h
    rfl
  · obtain ⟨a, b, xs, ys, rfl, hA, hB, nd, sub, l64, q⟩ := h
    have xl : (xs.map vN).length = xs.length := List.length_map ..
    refine ⟨_, (pss_one (ps_ret (pe_and (pe_callB (cr_all rfl) (by rfl) m_all (by decide +kernel) (pa_cons (pe_lc (own := [("pick", 2)]) (by rfl) sc_are_picks.nd (pi_tup (pv 0)) (blkOk_by (N := ["picks", "known", "pick"]) (sc := defScope s_are_picks) (by decide +kernel)) (fun _ _ _ _ _ => (pg_name (i := 2) sc_are_picks.nd rfl (.inl rfl))) (fun _ _ _ _ _ => pts_nil) (fun _ _ _ _ _ => (pe_cmpR (op_in_seqK (K := K) rfl) (pv 2) (pv 1) (by rfl)))) pa_nil)) (pe_one (pe_cmpR op_eq (pe_lenSetT rfl (by rfl) m_len (by rfl) m_set (pv 0)) (pe_callB call_len_seq (by rfl) m_len (by decide +kernel) (pa_cons (pv 0) pa_nil)) (nomark _)))))), ?_⟩
    refine ⟨_, rfl, a, rfl, ⟨_, hA⟩, fun D nD => ?_⟩
    refine lc_tup (K := K) (a := a) (xs := xs.map vN) (fun i H' => Same H H' ∧ H' D = some (.lst ((List.replicate i true).map V.bl))) ⟨same_upd nD, upd_same⟩ (fun i H' _ hq => (same_tup hq.1 hA)) (fun i v H' hv hq => ?_) (fun H' hq => ?_)
    · obtain ⟨s1, eD⟩ := hq
      obtain ⟨x, ex, rfl⟩ := vN_at hv
      have hi : i < 64 := Nat.lt_trans (List.getElem?_eq_some_iff.mp ex).1 l64
      refine ⟨rfl, yesT ⟨_, rfl, _, rfl, b, _, rfl, hB.elim (fun h => .inl (s1.seq h)) (fun h => .inr (same_tup s1 h)), rfl, nms_flat _, _, eD, by rw [List.length_map, List.length_replicate]; exact small1000 (by omega), same_at s1 nD, ?_⟩⟩
      rw [in_nm, decide_eq_true (sub x (List.mem_of_getElem? ex)), List.replicate_succ', List.map_append]
      exact upd_same
    · obtain ⟨s1, eD⟩ := hq
      refine ⟨_, _, rfl, lstAt eD, ?_⟩
      rw [all_true]
      refine ⟨_, rfl, iteT ?_⟩
      refine ⟨_, rfl, a, xs.map sOf, rfl, by rw [← vN_strs]; exact (same_tup s1 hA), strs_nd nd, by rw [List.length_map]; exact l64, _, rfl, a, _, rfl, .inr ((same_tup s1 hA)), rfl, ?_⟩
      rw [List.length_map, xl]
      exact bint (congrArg V.bl (decide_eq_true rfl)) (q _ s1)
def spAreBidsT (K : PySem.W.Frag) : Sp := fun vs H Q _ => ∃ (a b : Addr) (zs : List Nam) (es : List Addr) (ds : List BidD), vs = [.ref a, .ref b] ∧ SqT K H a (es.map V.ref) ∧ BidsAt H es ds ∧ SqS K H b (zs.map vN) ∧ BOk zs ds ∧ ds.length < 64 ∧ ∀ H', Same H H' → Q (.bl true) H'
theorem ok_are_bidsT {f : Addr} {fd : FuncData} (F : Fun K "_are_bids" "_are_bids" s_are_bids f fd) (m_all : mg "all" = none) (d_are_picks : Def P w K mg base "_are_picks" 1 ["picks", "known"] (spArePicks K)) : FnOk P w K mg base CX0 2 f fd ["bids", "members"] (spAreBidsT K) := by
  refine F.ok sc_are_bids (fun vs H Q E h => ?_) (fun cdv A outer s H vs Q E hr h => ?_)
  · obtain ⟨a, b, zs, es, ds, rfl, _⟩ := h
    rfl
  · obtain ⟨a, b, zs, es, ds, rfl, hA, hT, hB, ok, l64, q⟩ := h
    have el : (es.map V.ref).length = ds.length := by rw [List.length_map, hT.1]
    refine ⟨_, (pss_one (ps_ret (pe_and (pe_callD d_are_picks (hr.mono (by decide)) (by rfl) (pa_cons (pe_lc (own := [("member", 2), ("_", 3)]) (by rfl) sc_are_bids.nd (pi_tup (pv 0)) (blkOk_by (N := ["bids", "members", "member", "_", "bid"]) (sc := defScope s_are_bids) (by decide +kernel)) (fun _ _ _ _ _ => (pg_tupK (K := K) (n := 2) rfl (by rfl) (pgs_cons (pg_name (i := 2) sc_are_bids.nd rfl (.inl rfl)) (pgs_cons (pg_name (i := 3) sc_are_bids.nd rfl (.inl rfl)) pgs_nil)))) (fun _ _ _ _ _ => pts_nil) (fun _ _ _ _ _ => (pv 2))) (pa_cons (pv 1) pa_nil))) (pe_one (pe_callB (cr_all rfl) (by rfl) m_all (by decide +kernel) (pa_cons (pe_lc (own := [("_", 3), ("bid", 4)]) (by rfl) sc_are_bids.nd (pi_tup (pv 0)) (blkOk_by (N := ["bids", "members", "member", "_", "bid"]) (sc := defScope s_are_bids) (by decide +kernel)) (fun _ _ _ _ _ => (pg_tupK (K := K) (n := 2) rfl (by rfl) (pgs_cons (pg_name (i := 3) sc_are_bids.nd rfl (.inl rfl)) (pgs_cons (pg_name (i := 4) sc_are_bids.nd rfl (.inl rfl)) pgs_nil)))) (fun _ _ _ _ _ => pts_nil) (fun _ _ _ _ _ => (pe_chain op_le op_le pe_int (pv 4) (pe_op op_pow pe_int pe_int)))) pa_nil)))))), ?_⟩
    refine ⟨_, rfl, a, rfl, ⟨_, hA⟩, fun D nD => ?_⟩
    refine lc_tup (K := K) (a := a) (xs := es.map V.ref) (fun i H' => Same H H' ∧ H' D = some (.lst ((ds.take i).map fun d => vN d.1))) ⟨same_upd nD, upd_same⟩ (fun i H' _ hq => (same_tup hq.1 hA)) (fun i v H' hv hq => ?_) (fun H1 hq => ?_)
    · obtain ⟨s1, eD⟩ := hq
      obtain ⟨e, d, rfl, ed, he⟩ := bids_at (hT.same s1) hv
      have hi := (List.getElem?_eq_some_iff.mp ed).1
      refine gTup2w he [some (.ref a), some (.ref b), some (vN d.1), some (.int d.2), none] (by simp [wipe, L2.start]) ?_
      refine ⟨rfl, yesT ⟨_, rfl, _, eD, by rw [List.length_map, List.length_take]; exact small1000 (by omega), same_at s1 nD, ?_⟩⟩
      rw [List.take_add_one, ed, List.map_append]
      exact upd_same
    · obtain ⟨s1, eD⟩ := hq
      rw [el, List.take_length] at eD
      have e0 : (ds.map fun d => vN d.1) = (ds.map (·.1)).map vN := by rw [List.map_map]; rfl
      rw [e0] at eD
      refine ⟨_, rfl, D, b, ds.map (·.1), zs, rfl, lstAt eD, hB.elim (fun h => .inl (s1.seq h)) (fun h => .inr (same_tup s1 h)), ok.nd, ok.sub, by rw [List.length_map]; exact l64, fun H2 s2 => ?_⟩
      have s12 := s1.trans s2
      refine ⟨_, rfl, iteT ?_⟩
      refine ⟨_, rfl, a, rfl, ⟨_, (same_tup s12 hA)⟩, fun D2 nD2 => ?_⟩
      refine lc_tup (K := K) (a := a) (xs := es.map V.ref) (fun i H' => Same H2 H' ∧ H' D2 = some (.lst ((List.replicate i true).map V.bl))) ⟨same_upd nD2, upd_same⟩ (fun i H' _ hq => same_tup (s12.trans hq.1) hA) (fun i v H' hv hq => ?_) (fun H3 hq => ?_)
      · obtain ⟨s3, eD2⟩ := hq
        obtain ⟨e, d, rfl, ed, he⟩ := bids_at (hT.same (s12.trans s3)) hv
        have hi := (List.getElem?_eq_some_iff.mp ed).1
        have md := List.mem_of_getElem? ed
        have d0 := ok.h0 d md
        have d9 := ok.h9 d md
        refine gTup2w he [some (.ref a), some (.ref b), none, some (vN d.1), some (.int d.2)] (by simp [wipe, L2.start]) ?_
        refine ⟨rfl, yesT ?_⟩
        refine ⟨_, rfl, _, _, rfl, rfl, _, rfl, ?_⟩
        rw [decide_eq_true d0]
        refine iteT ⟨_, _, rfl, rfl, ⟨by decide, by decide, by decide⟩, _, _, rfl, rfl, _, eD2, by rw [List.length_map, List.length_replicate]; exact small1000 (by omega), same_at s3 nD2, ?_⟩
        rw [upd_same, List.replicate_succ', List.map_append]
        exact congrArg (fun z => some (HO.lst ((List.replicate i true).map V.bl ++ [z]))) (congrArg V.bl (decide_eq_true d9))
      · obtain ⟨s3, eD2⟩ := hq
        refine ⟨_, _, rfl, lstAt eD2, ?_⟩
        rw [all_true]
        exact q _ (s12.trans s3)
def spCheckPgT (K : PySem.W.Frag) : Sp := fun vs H Q _ => ∃ (a b : Addr) (zs : List Nam) (ps : List Addr) (ds : List PgD), vs = [.ref a, .ref b] ∧ SqT K H a (zs.map vN) ∧ SqT K H b (ps.map V.ref) ∧ PgsInT H ps ds ∧ POk zs ds ∧ ∀ H', Same H H' → Q .non H'
theorem ok_check_pagesT {f : Addr} {fd : FuncData} (F : Fun K "_check_pages" "_check_pages" s_check_pages f fd) (m_len : mg "len" = none) (m_enumerate : mg "enumerate" = none) (d_is_name : Def P w K mg base "is_name" 1 ["word"] spIsNameH)
    (d_are_picks : Def P w K mg base "_are_picks" 1 ["picks", "known"] (spArePicksT K)) (d_are_bids : Def P w K mg base "_are_bids" 2 ["bids", "members"] (spAreBidsT K)) : FnOk P w K mg base CX0 3 f fd ["members", "pages"] (spCheckPgT K) := by
  refine F.ok sc_check_pages (fun vs H Q E h => ?_) (fun cdv A outer s H vs Q E hr h => ?_)
  · obtain ⟨a, b, zs, ps, ds, rfl, _⟩ := h
    rfl
  · obtain ⟨a, b, zs, ps, ds, rfl, hA, hB, hT, ok, q⟩ := h
    have pl : (ps.map V.ref).length = ds.length := by rw [List.length_map, hT.1]
    have l1 := ok.l1
    have l4 := ok.l4
    refine ⟨_, (pss_cons (ps_if (pt_not (pt_chain op_le op_le pe_int (pe_callB call_len_seq (by rfl) m_len (by decide +kernel) (pa_cons (pv 1) pa_nil)) pe_int)) (pss_one ps_never) pss_nil)
  (pss_cons (ps_setLc (i := 2) (own := [("page", 8)]) (by rfl) sc_check_pages.nd rfl rfl (sw_true rfl rfl rfl (by decide +kernel)) (pi_tup (pv 1)) (blkOk_by (N := ["members", "pages", "names", "at", "name", "bids", "_", "followers", "page"]) (sc := defScope s_check_pages) (by decide +kernel)) (fun _ _ _ _ _ => (pg_name (i := 8) sc_check_pages.nd rfl (.inl rfl))) (fun _ _ _ _ _ => pts_nil) (fun _ _ _ _ _ => (pe_ix (ix_tupK (K := K) rfl) (pv 8) pe_int (fun _ _ => rfl))))
  (pss_cons (ps_for PassesOwn.never rfl (pi_enumT (by rfl) m_enumerate (pa_cons (pv 1) pa_nil)) (pg_tup (by rfl) (pgs_cons (pg_name (i := 3) sc_check_pages.nd rfl (.inl rfl)) (pgs_cons (pg_tup (by rfl) (pgs_cons (pg_name (i := 4) sc_check_pages.nd rfl (.inl rfl)) (pgs_cons (pg_name (i := 5) sc_check_pages.nd rfl (.inl rfl)) (pgs_cons (pg_name (i := 6) sc_check_pages.nd rfl (.inl rfl)) pgs_nil)))) pgs_nil)))
    (pss_one (ps_if (PW.pt (pw_or (pt_not (pt_val (pe_callD d_is_name (hr.mono (by decide)) (by rfl) (pa_cons (pv 4) pa_nil)))) (pw_or (pt_cmpR op_in_seq (pv 4) (pe_slice sl_list (pv 2) po_none (po_some (pv 3))) (by rfl)) (pw_or1 (pt_not (pt_val (pe_callD d_are_bids (hr.mono (by decide)) (by rfl) (pa_cons (pv 5) (pa_cons (pv 0) pa_nil))))))))) (pss_one ps_never) pss_nil)))
  (pss_one (ps_for PassesOwn.never rfl (pi_enumT (by rfl) m_enumerate (pa_cons (pv 1) pa_nil)) (pg_tup (by rfl) (pgs_cons (pg_name (i := 3) sc_check_pages.nd rfl (.inl rfl)) (pgs_cons (pg_tup (by rfl) (pgs_cons (pg_name (i := 6) sc_check_pages.nd rfl (.inl rfl)) (pgs_cons (pg_name (i := 6) sc_check_pages.nd rfl (.inl rfl)) (pgs_cons (pg_name (i := 7) sc_check_pages.nd rfl (.inl rfl)) pgs_nil)))) pgs_nil)))
    (pss_one (ps_if (pt_not (pt_val (pe_callD d_are_picks (hr.mono (by decide)) (by rfl) (pa_cons (pv 7) (pa_cons (pv 2) pa_nil))))) (pss_one ps_never) pss_nil))))))), ?_⟩
    refine ⟨_, rfl, b, _, rfl, .inr hB, _, _, rfl, rfl, _, rfl, ?_⟩
    rw [decide_eq_true (show (1 : Int) ≤ ((ps.map V.ref).length : Nat) by rw [pl]; omega)]
    refine iteT ⟨_, _, rfl, rfl, _, rfl, ?_⟩
    rw [decide_eq_true (show (((ps.map V.ref).length : Nat) : Int) ≤ 4 by rw [pl]; omega)]
    refine iteF ?_
    refine ⟨_, rfl, b, rfl, ⟨_, hB⟩, fun D nD => ?_⟩
    refine lc_tup (K := K) (a := b) (xs := ps.map V.ref) (fun i H' => Same H H' ∧ H' D = some (.lst (((ds.map (·.nm)).take i).map vN))) ⟨same_upd nD, upd_same⟩ (fun i H' _ hq => (same_tup hq.1 hB)) (fun i v H' hv hq => ?_) (fun H1 hq => ?_)
    · obtain ⟨s1, eD⟩ := hq
      obtain ⟨p, d, rfl, ed, ⟨b1, f1, es, he, _⟩⟩ := pgs_atT (hT.same s1) hv
      have hi := (List.getElem?_eq_some_iff.mp ed).1
      refine ⟨rfl, yesT ⟨_, rfl, _, _, 0, vN d.nm, rfl, rfl, tupAt he, atI_in (by decide) rfl, _, eD, by rw [List.length_map, List.length_take, List.length_map]; exact small1000 (by omega), same_at s1 nD, ?_⟩⟩
      rw [List.take_add_one, List.getElem?_map, ed, List.map_append]
      exact upd_same
    obtain ⟨s1, eD⟩ := hq
    rw [pl, show ds.length = (ds.map (·.nm)).length from (List.length_map ..).symm, List.take_length] at eD
    refine ⟨_, rfl, _, _, rfl, (same_tup s1 hB), for_it walk_enumT (fun i σ H2 => Same H1 H2 ∧ ∃ y3 y4 y5 y6 y7 : Option V, σ = [some (.ref a), some (.ref b), some (.ref D), y3, y4, y5, y6, y7, none]) ⟨Same.refl _, _, _, _, _, _, rfl⟩ (fun i σ H2 _ hp => same_tup (s1.trans hp.1) hB) ?_ ?_⟩
    · rintro i x σ H2 H3 hi ⟨s2, y3, y4, y5, y6, y7, rfl⟩ ⟨T, v1, v2, rfl, nT, rfl, e1, e2⟩
      cases e1
      have s12 := s1.trans s2
      obtain ⟨p, d, rfl, ed, ⟨b1, f1, es, he, hb, hbs, hf⟩⟩ := pgs_atT (hT.same s12) e2
      have md := List.mem_of_getElem? ed
      have sT := same_upd (o := .tup [.int (i : Nat), .ref p]) nT
      have sm := s12.trans sT
      refine ⟨_, _, rfl, tupAt upd_same, rfl, _, _, rfl, _, _, rfl, _, _, rfl, tupAt (sT _ _ he), rfl, _, _, rfl, _, _, rfl, _, _, rfl, rfl, rfl, ?_⟩
      refine ⟨_, rfl, d.nm, rfl, .inl (ok.nm d md), fun H4 s4 => ⟨_, rfl, ?_⟩⟩
      have sm4 := sm.trans s4
      rw [nz_nm (ok.nm d md)]
      refine iteF ?_
      refine ⟨_, rfl, _, rfl, _, rfl, _, rfl, _, _, rfl, lstAt (s4 _ _ (sT _ _ (s2 _ _ eD))), fun q2 nq2 => ?_⟩
      rw [cut_names]
      have s5 := same_upd (o := .lst (((ds.map (·.nm)).take i).map vN)) nq2
      have sm5 := sm4.trans s5
      refine ⟨q2, _, rfl, .inl (lstAt upd_same), rfl, nms_flat _, _, rfl, ?_⟩
      rw [in_nm, decide_eq_false (not_before ok.nd (by rw [List.getElem?_map, ed]; rfl))]
      refine iteF ?_
      have t3 : Same H2 (upd H4 q2 (.lst (((ds.map (·.nm)).take i).map vN))) := sT.trans (s4.trans s5)
      refine ⟨_, rfl, _, rfl, b1, a, zs, es, d.bids, rfl, tupAt (t3 _ _ hb), hbs.same t3, .inr (same_tup sm5 hA), ok.b d md, ok.bl d md, fun H6 s6 => ⟨_, rfl, iteF ⟨s2.trans (t3.trans s6), _, _, _, _, _, rfl⟩⟩⟩
    · rintro σ H2 ⟨s2, y3, y4, y5, y6, y7, rfl⟩
      have s12 := s1.trans s2
      refine ⟨_, rfl, _, _, rfl, (same_tup s12 hB), for_it walk_enumT (fun i σ H3 => Same H2 H3 ∧ ∃ y3 y6 y7 : Option V, σ = [some (.ref a), some (.ref b), some (.ref D), y3, y4, y5, y6, y7, none]) ⟨Same.refl _, _, _, _, rfl⟩ (fun i σ H3 _ hp => same_tup (s12.trans hp.1) hB) ?_ ?_⟩
      · rintro i x σ H3 H4 hi ⟨s3, y3, y6, y7, rfl⟩ ⟨T, v1, v2, rfl, nT, rfl, e1, e2⟩
        cases e1
        have s13 := s12.trans s3
        obtain ⟨p, d, rfl, ed, ⟨b1, f1, es, he, hb, hbs, hf⟩⟩ := pgs_atT (hT.same s13) e2
        have md := List.mem_of_getElem? ed
        have sT := same_upd (o := .tup [.int (i : Nat), .ref p]) nT
        refine ⟨_, _, rfl, tupAt upd_same, rfl, _, _, rfl, _, _, rfl, _, _, rfl, tupAt (sT _ _ he), rfl, _, _, rfl, _, _, rfl, _, _, rfl, rfl, rfl, ?_⟩
        refine ⟨_, rfl, _, rfl, f1, D, d.fol, ds.map (·.nm), rfl, tupAt (sT _ _ hf), .inl (lstAt (sT _ _ (s3 _ _ (s2 _ _ eD)))), ok.f d md, ok.fs d md, ok.fl d md, fun H5 s5 => ⟨_, rfl, iteF ⟨s3.trans (sT.trans s5), _, _, _, rfl⟩⟩⟩
      · rintro σ H3 ⟨s3, y3, y6, y7, rfl⟩
        exact q _ (s12.trans s3)
def spEndsT (K : PySem.W.Frag) : Sp := fun vs H Q _ => ∃ (a b c : Addr) (ns ss hs : List Nam), vs = [.ref a, .ref b, .ref c] ∧ SqS K H a (ns.map vN) ∧ SqT K H b (ss.map vN) ∧ SqT K H c (hs.map vN) ∧ ss ≠ [] ∧ ss.Nodup ∧ (∀ x ∈ ss, x ∈ ns) ∧ hs.Nodup ∧ (∀ x ∈ hs, x ∈ ns) ∧ ns.length < 64 ∧ ∀ H', Same H H' → Q .non H'
theorem ok_check_endsT {f : Addr} {fd : FuncData} (F : Fun K "_check_ends" "_check_ends" s_check_ends f fd) (m_len : mg "len" = none) (d_are_picks : Def P w K mg base "_are_picks" 1 ["picks", "known"] (spArePicksT K)) : FnOk P w K mg base CX0 2 f fd ["names", "starts", "home"] (spEndsT K) := by
  refine F.ok sc_check_ends (fun vs H Q E h => ?_) (fun cdv A outer s H vs Q E hr h => ?_)
  · obtain ⟨a, b, c, ns, ss, hs, rfl, _⟩ := h
    rfl
  · obtain ⟨a, b, c, ns, ss, hs, rfl, hA, hB, hC, ne, nd1, su1, nd2, su2, l64, q⟩ := h
    refine ⟨_, (pss_cons (ps_if (PW.pt (pw_or (pt_cmpR op_eq (pe_callB call_len_seq (by rfl) m_len (by decide +kernel) (pa_cons (pv 1) pa_nil)) pe_int (nomark _)) (pw_or1 (pt_not (pt_val (pe_callD d_are_picks (hr.mono (by decide)) (by rfl) (pa_cons (pv 1) (pa_cons (pv 0) pa_nil)))))))) (pss_one ps_never) pss_nil)
  (pss_one (ps_if (pt_not (pt_val (pe_callD d_are_picks (hr.mono (by decide)) (by rfl) (pa_cons (pv 2) (pa_cons (pv 0) pa_nil))))) (pss_one ps_never) pss_nil))), ?_⟩
    have sl : (ss.map vN).length ≠ 0 := fun e => ne (List.eq_nil_of_length_eq_zero (by rw [List.length_map] at e; exact e))
    refine ⟨_, rfl, b, _, rfl, .inr hB, rfl, _, rfl, ?_⟩
    rw [decide_eq_false (show ¬ V.int (((ss.map vN).length : Nat) : Int) = V.int 0 from fun e => sl (by have := V.int.inj e; omega))]
    refine iteF ?_
    refine ⟨_, rfl, _, rfl, b, a, ss, ns, rfl, hB, hA, nd1, su1, Nat.lt_of_le_of_lt (nd_lenK nd1 su1) l64, fun H1 s1 => ⟨_, rfl, iteF ?_⟩⟩
    exact ⟨_, rfl, _, rfl, c, a, hs, ns, rfl, (same_tup s1 hC), hA.same s1, nd2, su2, Nat.lt_of_le_of_lt (nd_lenK nd2 su2) l64, fun H2 s2 => ⟨_, rfl, iteF (q _ (s1.trans s2))⟩⟩
def spSortBT (K : PySem.W.Frag) : Sp := fun vs H Q _ => ∃ (a b : Addr) (zs : List Nam) (es : List Addr) (ds : List BidD), vs = [.ref a, .ref b] ∧ SqT K H a (zs.map vN) ∧ SqT K H b (es.map V.ref) ∧ BidsAt H es ds ∧ zs.length ≤ 6 ∧ ds.length < 64 ∧ ∀ H' t es', H t = none → Same H H' → H' t = some (.tup (es'.map V.ref)) → BidsAt H' es' (sortB zs ds) → Q (.ref t) H'
theorem ok_sorted_bidsT {f : Addr} {fd : FuncData} (F : Fun K "_sorted_bids" "_sorted_bids" s_sorted_bids f fd) (m_tuple : mg "tuple" = none) : FnOk P w K mg base CX0 1 f fd ["members", "bids"] (spSortBT K) := by
  refine F.ok sc_sorted_bids (fun vs H Q E h => ?_) (fun cdv A outer s H vs Q E hr h => ?_)
  · obtain ⟨a, b, zs, es, ds, rfl, _⟩ := h
    rfl
  · obtain ⟨a, b, zs, es, ds, rfl, hA, hB, hT, z6, l64, q⟩ := h
    have zl : (zs.map vN).length = zs.length := List.length_map ..
    have el : (es.map V.ref).length = ds.length := by rw [List.length_map, hT.1]
    refine ⟨_, (pss_one (ps_ret (pe_callTy call_tuple_of (by rfl) m_tuple (by decide +kernel) (pa_cons (pe_lc2 (own := [("member", 2), ("bidder", 3), ("bid", 4)]) (vs1 := [3, 4]) (by rfl) sc_sorted_bids.nd (pi_tup (pv 0)) (blkOk_by (N := ["members", "bids", "member", "bidder", "bid"]) (sc := defScope s_sorted_bids) (by decide +kernel)) (by decide) (fun _ _ _ _ _ => (pg_name (i := 2) sc_sorted_bids.nd rfl (.inl rfl))) (fun _ _ _ _ _ => pts_nil) (fun _ _ _ _ _ => (pi_tupK (K := K) rfl (pv 1))) (fun _ _ _ _ _ => (pg_tupK (K := K) (n := 2) rfl (by rfl) (pgs_cons (pg_name (i := 3) sc_sorted_bids.nd rfl (.inl rfl)) (pgs_cons (pg_name (i := 4) sc_sorted_bids.nd rfl (.inl rfl)) pgs_nil)))) (fun _ _ _ _ _ => (pts_one (pt_cmpR op_eq (pv 3) (pv 2) (nomark _)))) (fun _ _ _ _ _ => (pe_tup (pa_cons (pv 2) (pa_cons (pv 4) pa_nil))))) pa_nil)))), ?_⟩
    refine ⟨_, rfl, a, rfl, ⟨_, hA⟩, fun D nD => ?_⟩
    refine walk_go (walk_tup (K := K) (a := a) (xs := zs.map vN)) (fun i H' => ∃ fs : List Addr, Same H H' ∧ H' D = some (.lst (fs.map V.ref)) ∧ BidsAt H' fs (sortB (zs.take i) ds)) ⟨[], same_upd nD, upd_same, ⟨rfl, fun _ _ h => nomatch h⟩⟩ (fun i H' _ hq => same_tup hq.choose_spec.1 hA) (fun i x H1 H2 hi hq hy => ?_) (fun H' hq => ?_)
    · obtain ⟨fs, s1, eD, hF⟩ := hq
      obtain ⟨rfl, hx⟩ := hy
      obtain ⟨z, ez, rfl⟩ := vN_at hx
      have hi6 : i < 6 := by have := (List.getElem?_eq_some_iff.mp ez).1; omega
      have fl : fs.length ≤ 6 * 64 := by
        rw [hF.1]
        refine Nat.le_trans sortB_len (Nat.mul_le_mul ?_ (by omega))
        rw [List.length_take]; omega
      have e1 : sortB (zs.take (i + 1)) ds = sortB (zs.take i) ds ++ rowB ds z := by
        unfold sortB
        rw [List.take_add_one, ez, List.flatMap_append]
        show _ ++ (rowB ds z ++ []) = _
        rw [List.append_nil]
      rw [e1]
      refine ⟨rfl, yesT ⟨_, rfl, b, rfl, ⟨_, (same_tup s1 hB)⟩, ?_⟩⟩
      refine walk_go (walk_tup (K := K) (a := b) (xs := es.map V.ref)) (fun j H' => ∃ fs : List Addr, Same H H' ∧ H' D = some (.lst (fs.map V.ref)) ∧ BidsAt H' fs (sortB (zs.take i) ds ++ rowB (ds.take j) z)) ⟨fs, s1, eD, by rw [show rowB (ds.take 0) z = [] from rfl, List.append_nil]; exact hF⟩ (fun j H' _ hq => same_tup hq.choose_spec.1 hB) (fun j x H3 H4 hj hq hy => ?_) (fun H' hq => ?_)
      · obtain ⟨gs, s3, eD3, hG⟩ := hq
        obtain ⟨rfl, hx2⟩ := hy
        obtain ⟨e, d, rfl, ed, he⟩ := bids_at (hT.same s3) hx2
        have hj := (List.getElem?_eq_some_iff.mp ed).1
        have gl : gs.length ≤ 6 * 64 + 64 := by
          rw [hG.1, List.length_append, ← hF.1]
          have : (rowB (ds.take j) z).length ≤ (ds.take j).length := List.length_filter_le _ _
          rw [List.length_take] at this
          omega
        have e2 : rowB (ds.take (j + 1)) z = rowB (ds.take j) z ++ if d.1 = z then [d] else [] := by
          unfold rowB
          rw [flt_at ed]
          by_cases h : d.1 = z
          · rw [if_pos h, if_pos (decide_eq_true h)]
          · rw [if_neg h, if_neg (by rw [decide_eq_false h]; decide)]
        rw [e2]
        refine gTup2w he [some (.ref a), some (.ref b), some (vN z), some (vN d.1), some (.int d.2)] (by simp [wipe, L2.start]) ?_
        refine ⟨rfl, _, rfl, _, rfl, rfl, _, rfl, ?_⟩
        rw [eq_nm]
        by_cases h : d.1 = z
        · rw [decide_eq_true h, if_pos h]
          refine iteT ⟨_, rfl, _, rfl, (show (2 : Nat) ≤ sizeLine by decide), fun t nt => ?_⟩
          have st := same_upd (o := .tup [vN z, .int d.2]) nt
          refine ⟨_, st _ _ eD3, by rw [List.length_map]; exact small1000 (by omega), gs ++ [t], same_at (s3.trans st) nD, by rw [List.map_append]; exact upd_same, ?_⟩
          rw [← List.append_assoc]
          refine ((hG.same st).app (BidsAt.one ?_)).wrote (st _ _ eD3)
          rw [h]
          exact upd_same
        · rw [decide_eq_false h, if_neg h, List.append_nil]
          exact iteF ⟨gs, s3, eD3, hG⟩
      · obtain ⟨gs, s3, eD3, hG⟩ := hq
        rw [el, List.take_length] at hG
        exact ⟨gs, s3, eD3, hG⟩
    · obtain ⟨fs, s1, eD, hF⟩ := hq
      rw [zl, List.take_length] at hF
      refine ⟨D, _, rfl, .inl ⟨lstAt eD, fun t nt => ?_⟩⟩
      have st := same_upd (o := .tup (fs.map V.ref)) nt
      exact q _ t fs (none_of s1 nt) (s1.trans st) upd_same (hF.same st)
end
end TK

/-! Book.__init__, with tuples -/
namespace TK
open PySem PySem.Spec PyProof.Rows L2
theorem tup_go {H H' : Hp} {p C dx : Addr} {fs : List (Str × V)} {a : Addr} {xs : List V} (h : H a = some (.tup xs)) (hp : H p = some (.ins C dx fs)) (f : SameP p H H') : H' a = some (.tup xs) := f _ _ h (ne_of h hp (by intro z; cases z))
theorem pgs_frameT {H H' : Hp} {p C dx : Addr} {fs : List (Str × V)} {ps : List Addr} {ds : List PgD} (h : PgsInT H ps ds) (hp : H p = some (.ins C dx fs)) (f : SameP p H H') : PgsInT H' ps ds := ⟨h.1, fun i e he => by
  obtain ⟨d, a, b1, f1, es, h1, h2, h3, h4⟩ := h.2 i e he
  exact ⟨d, a, b1, f1, es, f _ _ h1 (ne_of h1 hp (by intro z; cases z)), tup_go h2 hp f, bids_frame h3 hp f, tup_go h4 hp f⟩⟩
/-- what the def is given -/
structure BkGT (K : PySem.W.Frag) (H : Hp) (a b c h : Addr) (zs ss hs : List Nam) (ps : List Addr) (ds : List PgD) : Prop where
  m : H a = some (.tup (zs.map vN))
  b : H b = some (.tup (ps.map V.ref))
  t : PgsInT H ps ds
  c : H c = some (.tup (ss.map vN))
  h : SqT K H h (hs.map vN)
theorem BkGT.same {K : PySem.W.Frag} {H H' : Hp} {a b c h : Addr} {zs ss hs : List Nam} {ps : List Addr} {ds : List PgD} (g : BkGT K H a b c h zs ss hs ps ds) (s : Same H H') : BkGT K H' a b c h zs ss hs ps ds := ⟨s _ _ g.m, s _ _ g.b, g.t.same s, s _ _ g.c, same_tup s g.h⟩
theorem BkGT.fr {K : PySem.W.Frag} {H H' : Hp} {a b c h p C dx : Addr} {fs : List (Str × V)} {zs ss hs : List Nam} {ps : List Addr} {ds : List PgD} (g : BkGT K H a b c h zs ss hs ps ds) (hp : H p = some (.ins C dx fs)) (f : SameP p H H') : BkGT K H' a b c h zs ss hs ps ds := ⟨tup_go g.m hp f, tup_go g.b hp f, pgs_frameT g.t hp f, tup_go g.c hp f, sqT_frame g.h hp f⟩
section
variable {P : Program} {w : World} {K : PySem.W.Frag} {mg : Str → Option Value} {base : Heap}
def spInitBkT (K : PySem.W.Frag) (C CP : Addr) : Sp := fun vs H Q _ => ∃ (p a b c h dx : Addr) (zs ss hs : List Nam) (ps : List Addr) (ds : List PgD), vs = [.ref p, .ref a, .ref b, .ref c, .ref h] ∧ H p = some (.ins C dx []) ∧ BkGT K H a b c h zs ss hs ps ds ∧ 1 ≤ zs.length ∧ zs.length ≤ 4 ∧ (∀ z ∈ zs, Nm z) ∧ zs.Nodup ∧ POk zs ds ∧ ss ≠ [] ∧ ss.Nodup ∧ (∀ x ∈ ss, x ∈ ds.map (·.nm)) ∧ hs.Nodup ∧ (∀ x ∈ hs, x ∈ ds.map (·.nm)) ∧
  ∀ H', BkAt C CP H' p zs ss ((ds.map (·.nm)).filter fun n => decide (n ∈ hs)) ds → SameP p H H' → Q .non H'
theorem ok_BookT {f C CP fP : Addr} {fd fdP : FuncData} {dvs : List V} {kws : List (Str × V)} (F : FunD K "__init__" "Book.__init__" (defArgs s_Book_init) (defBody s_Book_init) (defScope s_Book_init) dvs kws f fd) (T : TxtBk K C) (m_tuple : mg "tuple" = none) (d_check_names : DefD P w K mg base "check_names" 2 ["names", "most", "hook"] (spCheckN K) [.bl false])
    (d_check_pages : Def P w K mg base "_check_pages" 3 ["members", "pages"] (spCheckPgT K)) (d_check_ends : Def P w K mg base "_check_ends" 2 ["names", "starts", "home"] (spEndsT K)) (d_sorted_bids : Def P w K mg base "_sorted_bids" 1 ["members", "bids"] (spSortBT K))
    (M_Page : Mk K CP fP) (G_Page : FnOk P w K mg base CX0 1 fP fdP ["self", "name", "bids", "followers", "home"] (spInitPg CP)) (mg_Page : mg "Page" = some (.ref CP)) (b_Page : Binds K fdP ["self", "name", "bids", "followers", "home"] []) :
    FnOk P w K mg base CX0 4 f fd ["self", "members", "pages", "starts", "home"] (spInitBkT K C CP) := by
  refine F.ok (CX := CX0) sc_Book_init (fun vs H Q E h => ?_) (fun cdv A outer s H vs Q E hr h => ?_)
  · obtain ⟨p, a, b, c, h, dx, zs, ss, hs, ps, ds, rfl, _⟩ := h
    rfl
  · obtain ⟨p, a, b, c, h, dx, zs, ss, hs, ps, ds, rfl, hp, g, z1, z4, nm, nd, ok, sne, snd, ssub, hnd, hsub, q⟩ := h
    have pl : (ps.map V.ref).length = ds.length := by rw [List.length_map, g.t.1]
    have l4 := ok.l4
    refine ⟨_, (pss_cons (ps_expr (pe_callDD d_check_names (hr.mono (by decide)) (by rfl) (pa_cons (pv 1) (pa_cons pe_int pa_nil))))
  (pss_cons (ps_expr (pe_callD d_check_pages (hr.mono (by decide)) (by rfl) (pa_cons (pv 1) (pa_cons (pv 2) pa_nil))))
  (pss_cons (ps_fld (pv 0) (pe_callTy call_tuple_of (by rfl) m_tuple (by decide +kernel) (pa_cons (pv 1) pa_nil)) rfl)
  (pss_cons (ps_fld (pv 0) (pe_callTy call_tuple_frz (by rfl) m_tuple (by decide +kernel) (pa_cons (pe_lc (own := [("page", 5)]) (by rfl) sc_Book_init.nd (pi_tup (pv 2)) (blkOk_by (N := ["self", "members", "pages", "starts", "home", "page", "name", "bids", "followers"]) (sc := defScope s_Book_init) (by decide +kernel)) (fun _ _ _ _ _ => (pg_name (i := 5) sc_Book_init.nd rfl (.inl rfl))) (fun _ _ _ _ _ => pts_nil) (fun _ _ _ _ _ => (pe_ix (ix_tupK (K := K) rfl) (pv 5) pe_int (fun _ _ => rfl)))) pa_nil)) rfl)
  (pss_cons (ps_expr (pe_callD d_check_ends (hr.mono (by decide)) (by rfl) (pa_cons (pe_fld (pv 0) rfl) (pa_cons (pv 3) (pa_cons (pv 4) pa_nil)))))
  (pss_cons (ps_fld (pv 0) (pe_callTy call_tuple_of (by rfl) m_tuple (by decide +kernel) (pa_cons (pv 3) pa_nil)) rfl)
  (pss_cons (ps_fld (pv 0) (pe_callTy call_tuple_of (by rfl) m_tuple (by decide +kernel) (pa_cons (pe_lc (own := [("name", 6)]) (by rfl) sc_Book_init.nd (pi_tup (pe_fld (pv 0) rfl)) (blkOk_by (N := ["self", "members", "pages", "starts", "home", "page", "name", "bids", "followers"]) (sc := defScope s_Book_init) (by decide +kernel)) (fun _ _ _ _ _ => (pg_name (i := 6) sc_Book_init.nd rfl (.inl rfl))) (fun _ _ _ _ _ => (pts_one (pt_cmpR (op_in_seqK (K := K) rfl) (pv 6) (pv 4) (by rfl)))) (fun _ _ _ _ _ => (pv 6))) pa_nil)) rfl)
  (pss_cons (ps_fld (pv 0) (pe_callTy call_tuple_of (by rfl) m_tuple (by decide +kernel) (pa_cons (pe_lc (own := [("name", 6), ("bids", 7), ("followers", 8)]) (by rfl) sc_Book_init.nd (pi_tup (pv 2)) (blkOk_by (N := ["self", "members", "pages", "starts", "home", "page", "name", "bids", "followers"]) (sc := defScope s_Book_init) (by decide +kernel)) (fun _ _ _ _ _ => (pg_tupK (K := K) (n := 3) rfl (by rfl) (pgs_cons (pg_name (i := 6) sc_Book_init.nd rfl (.inl rfl)) (pgs_cons (pg_name (i := 7) sc_Book_init.nd rfl (.inl rfl)) (pgs_cons (pg_name (i := 8) sc_Book_init.nd rfl (.inl rfl)) pgs_nil))))) (fun _ _ _ _ _ => pts_nil) (fun _ _ _ _ _ => (pe_tup (pa_cons (pv 6) (pa_cons (pe_callD d_sorted_bids (hr.mono (by decide)) (by rfl) (pa_cons (pv 1) (pa_cons (pv 7) pa_nil))) (pa_cons (pe_callTy (call_tuple_ofK (K := K) rfl) (by rfl) m_tuple (by decide +kernel) (pa_cons (pv 8) pa_nil)) pa_nil)))))) pa_nil)) rfl)
  (pss_one (ps_fld (pv 0) (pe_callTy call_tuple_of (by rfl) m_tuple (by decide +kernel) (pa_cons (pe_lc (own := [("name", 6), ("bids", 7), ("followers", 8)]) (by rfl) sc_Book_init.nd (pi_tup (pe_fld (pv 0) rfl)) (blkOk_by (N := ["self", "members", "pages", "starts", "home", "page", "name", "bids", "followers"]) (sc := defScope s_Book_init) (by decide +kernel)) (fun _ _ _ _ _ => (pg_tupK (K := K) (n := 3) rfl (by rfl) (pgs_cons (pg_name (i := 6) sc_Book_init.nd rfl (.inl rfl)) (pgs_cons (pg_name (i := 7) sc_Book_init.nd rfl (.inl rfl)) (pgs_cons (pg_name (i := 8) sc_Book_init.nd rfl (.inl rfl)) pgs_nil))))) (fun _ _ _ _ _ => pts_nil) (fun _ _ _ _ _ => (pe_make M_Page G_Page (hr.mono (by decide)) (by rfl) mg_Page b_Page .nil pass0 (pa_cons (pv 6) (pa_cons (pv 7) (pa_cons (pv 8) (pa_cons (pe_cmpR (op_in_seqK (K := K) rfl) (pv 6) (pe_fldK (K := K) rfl (pv 0) rfl) (by rfl)) pa_nil))))))) pa_nil)) rfl)))))))))), ?_⟩
    refine ⟨_, rfl, a, 4, zs, rfl, .inr (tupAt g.m), z1, by omega, by omega, nm, nd, fun H1 s1 => ?_⟩
    refine ⟨_, rfl, _, rfl, a, b, zs, ps, ds, rfl, tupAt (s1 _ _ g.m), tupAt (s1 _ _ g.b), g.t.same s1, ok, fun H2 s2 => ?_⟩
    have s12 := s1.trans s2
    -- members
    refine ⟨_, rfl, a, _, rfl, .inr ⟨tupAt (s12 _ _ g.m), ?_⟩⟩
    have s3 := s12
    have m3 := s12 _ _ g.m
    have g3 := g.same s3
    have p3 := s3 _ _ hp
    have f3 := same_p (p := p) s3
    generalize H2 = H3 at s3 m3 g3 p3 f3 ⊢
    refine ⟨_, rfl, p, C, dx, _, rfl, p3, T.cl, T.n1, by decide, ?_⟩
    have e4 := samep_upd (p := p) (H := H3) (o := .ins C dx (putF "members" (.ref a) []))
    have p4 := upd_same (H := H3) (a := p) (o := .ins C dx (putF "members" (.ref a) []))
    have f4 := f3.trans e4
    have m4 := e4 _ _ m3 (ne_of m3 p3 (by intro z; cases z))
    have g4 := g3.fr p3 e4
    generalize upd H3 p (.ins C dx (putF "members" (.ref a) [])) = H4 at p4 f4 m4 g4 ⊢
    -- names
    refine ⟨_, rfl, b, rfl, ⟨_, tupAt g4.b⟩, fun D nD => ?_⟩
    refine lc_tup (K := K) (a := b) (xs := ps.map V.ref) (fun i H' => Same H4 H' ∧ H' D = some (.lst (((ds.map (·.nm)).take i).map vN))) ⟨same_upd nD, upd_same⟩ (fun i H' _ hq => tupAt (hq.1 _ _ g4.b)) (fun i v H' hv hq => ?_) (fun H5 hq => ?_)
    · obtain ⟨sq, eD⟩ := hq
      obtain ⟨p', d, rfl, ed, ⟨b1, f1, es, he, _⟩⟩ := pgs_atT (g4.t.same sq) hv
      have hi := (List.getElem?_eq_some_iff.mp ed).1
      refine ⟨rfl, yesT ⟨_, rfl, _, _, 0, vN d.nm, rfl, rfl, tupAt he, atI_in (by decide) rfl, _, eD, by rw [List.length_map, List.length_take, List.length_map]; exact small1000 (by omega), same_at sq nD, ?_⟩⟩
      rw [List.take_add_one, List.getElem?_map, ed, List.map_append]
      exact upd_same
    obtain ⟨s5, eD⟩ := hq
    rw [pl, show ds.length = (ds.map (·.nm)).length from (List.length_map ..).symm, List.take_length] at eD
    refine ⟨D, _, rfl, lstAt eD, fun n o nn oc od => ?_⟩
    have s6 := s5.trans (same_upd (o := .frz o (.tup ((ds.map (·.nm)).map vN))) nn)
    have n6 := upd_same (H := H5) (a := n) (o := .frz o (.tup ((ds.map (·.nm)).map vN)))
    have p6 := s6 _ _ p4
    have m6 := s6 _ _ m4
    have g6 := g4.same s6
    have f6 := f4.trans (same_p (p := p) s6)
    generalize upd H5 n (.frz o (.tup ((ds.map (·.nm)).map vN))) = H6 at n6 p6 m6 g6 f6 ⊢
    refine ⟨_, rfl, p, C, dx, _, rfl, p6, T.cl, T.n2, Nat.lt_of_le_of_lt (put_len (n := 0) (Nat.le_refl 0)) (by decide), ?_⟩
    have e7 := samep_upd (p := p) (H := H6) (o := .ins C dx (putF "names" (.ref n) (putF "members" (.ref a) [])))
    have p7 := upd_same (H := H6) (a := p) (o := .ins C dx (putF "names" (.ref n) (putF "members" (.ref a) [])))
    have f7 := f6.trans e7
    have m7 := e7 _ _ m6 (ne_of m6 p6 (by intro z; cases z))
    have n7 := e7 _ _ n6 (ne_of n6 p6 (by intro z; cases z))
    have g7 := g6.fr p6 e7
    generalize upd H6 p (.ins C dx (putF "names" (.ref n) (putF "members" (.ref a) []))) = H7 at p7 f7 m7 n7 g7 ⊢
    clear e7 e4 p6 m6 n6 g6 f6 s6 s5 eD p4 m4 g4 f4 p3 m3 g3 f3 s3
    -- the ends
    refine ⟨_, rfl, p, C, dx, _, _, rfl, p7, T.cl, T.n2, put_same _ _ _, _, rfl, _, rfl, n, c, h, ds.map (·.nm), ss, hs, rfl, .inr (.inl (.inr ⟨o, n7⟩)), tupAt g7.c, g7.h, sne, snd, ssub, hnd, hsub, by rw [List.length_map]; omega, fun H8 s8 => ?_⟩
    -- starts
    refine ⟨_, rfl, c, _, rfl, .inr ⟨tupAt (s8 _ _ g7.c), ?_⟩⟩
    have s9 := s8
    have t9 := s8 _ _ g7.c
    have p9 := s9 _ _ p7
    have m9 := s9 _ _ m7
    have n9 := s9 _ _ n7
    have g9 := g7.same s9
    have f9 := f7.trans (same_p (p := p) s9)
    generalize H8 = H9 at t9 p9 m9 n9 g9 f9 ⊢
    refine ⟨_, rfl, p, C, dx, _, rfl, p9, T.cl, T.n3, Nat.lt_of_le_of_lt (put_len (n := 1) (put_len (n := 0) (Nat.le_refl 0))) (by decide), ?_⟩
    have e10 := samep_upd (p := p) (H := H9) (o := .ins C dx (putF "starts" (.ref c) (putF "names" (.ref n) (putF "members" (.ref a) []))))
    have p10 := upd_same (H := H9) (a := p) (o := .ins C dx (putF "starts" (.ref c) (putF "names" (.ref n) (putF "members" (.ref a) []))))
    have f10 := f9.trans e10
    have m10 := e10 _ _ m9 (ne_of m9 p9 (by intro z; cases z))
    have n10 := e10 _ _ n9 (ne_of n9 p9 (by intro z; cases z))
    have t10 := e10 _ _ t9 (ne_of t9 p9 (by intro z; cases z))
    have g10 := g9.fr p9 e10
    generalize upd H9 p (.ins C dx (putF "starts" (.ref c) (putF "names" (.ref n) (putF "members" (.ref a) [])))) = H10 at p10 f10 m10 n10 t10 g10 ⊢
    clear e10 p9 m9 n9 t9 g9 f9 s9 s8 p7 m7 n7 g7 f7
    -- home
    refine ⟨_, rfl, p, C, dx, _, _, rfl, p10, T.cl, T.n2, put_ne (put_same _ _ _) (by decide +kernel), n, rfl, ⟨_, .inl (.inr ⟨o, n10⟩)⟩, fun D2 nD2 => ?_⟩
    refine lc_tup (K := K) (a := n) (xs := (ds.map (·.nm)).map vN) (fun i H' => Same H10 H' ∧ H' D2 = some (.lst ((((ds.map (·.nm)).take i).filter fun z => decide (z ∈ hs)).map vN))) ⟨same_upd nD2, upd_same⟩ (fun i H' _ hq => .inl (.inr ⟨o, hq.1 _ _ n10⟩)) (fun i v H' hv hq => ?_) (fun H11 hq => ?_)
    · obtain ⟨sq, eD⟩ := hq
      obtain ⟨z, ez, rfl⟩ := vN_at hv
      have hi := (List.getElem?_eq_some_iff.mp ez).1
      rw [List.length_map] at hi
      have fl : (((ds.map (·.nm)).take i).filter fun z => decide (z ∈ hs)).length ≤ 4 := Nat.le_trans (List.length_filter_le _ _) (by rw [List.length_take]; omega)
      rw [flt_at ez]
      refine ⟨rfl, _, rfl, _, rfl, h, _, rfl, .inr (same_tup sq g10.h), rfl, nms_flat _, _, rfl, ?_⟩
      rw [in_nm]
      by_cases hz : z ∈ hs
      · rw [decide_eq_true hz]
        refine iteT ⟨_, rfl, _, eD, by rw [List.length_map]; exact small1000 (by omega), same_at sq nD2, ?_⟩
        rw [if_pos rfl, List.map_append]
        exact upd_same
      · rw [decide_eq_false hz]
        exact iteF ⟨sq, by rw [if_neg Bool.false_ne_true, List.append_nil]; exact eD⟩
    obtain ⟨s11, eD2⟩ := hq
    rw [List.length_map, List.take_length] at eD2
    generalize hh2 : (ds.map (·.nm)).filter (fun z => decide (z ∈ hs)) = hs2 at eD2 q
    refine ⟨D2, _, rfl, .inl ⟨lstAt eD2, fun ht nht => ?_⟩⟩
    have s12 := s11.trans (same_upd (o := .tup (hs2.map vN)) nht)
    have h12 := upd_same (H := H11) (a := ht) (o := .tup (hs2.map vN))
    have p12 := s12 _ _ p10
    have m12 := s12 _ _ m10
    have n12 := s12 _ _ n10
    have t12 := s12 _ _ t10
    have g12 := g10.same s12
    have f12 := f10.trans (same_p (p := p) s12)
    generalize upd H11 ht (.tup (hs2.map vN)) = H12 at h12 p12 m12 n12 t12 g12 f12 ⊢
    refine ⟨_, rfl, p, C, dx, _, rfl, p12, T.cl, T.n4, Nat.lt_of_le_of_lt (put_len (n := 2) (put_len (n := 1) (put_len (n := 0) (Nat.le_refl 0)))) (by decide), ?_⟩
    have e13 := samep_upd (p := p) (H := H12) (o := .ins C dx (putF "home" (.ref ht) (putF "starts" (.ref c) (putF "names" (.ref n) (putF "members" (.ref a) [])))))
    have p13 := upd_same (H := H12) (a := p) (o := .ins C dx (putF "home" (.ref ht) (putF "starts" (.ref c) (putF "names" (.ref n) (putF "members" (.ref a) [])))))
    have f13 := f12.trans e13
    have m13 := e13 _ _ m12 (ne_of m12 p12 (by intro z; cases z))
    have n13 := e13 _ _ n12 (ne_of n12 p12 (by intro z; cases z))
    have t13 := e13 _ _ t12 (ne_of t12 p12 (by intro z; cases z))
    have h13 := e13 _ _ h12 (ne_of h12 p12 (by intro z; cases z))
    have g13 := g12.fr p12 e13
    generalize upd H12 p (.ins C dx (putF "home" (.ref ht) (putF "starts" (.ref c) (putF "names" (.ref n) (putF "members" (.ref a) []))))) = H13 at p13 f13 m13 n13 t13 h13 g13 ⊢
    clear e13 p12 m12 n12 t12 h12 g12 f12 s12 s11 eD2 p10 m10 n10 t10 g10 f10
    -- the rows
    refine ⟨_, rfl, b, rfl, ⟨_, tupAt g13.b⟩, fun D3 nD3 => ?_⟩
    refine lc_tup (K := K) (a := b) (xs := ps.map V.ref) (fun i H' => ∃ rs : List Addr, Same H13 H' ∧ H' D3 = some (.lst (rs.map V.ref)) ∧ AllAt (RowR zs) H' rs (ds.take i)) ⟨[], same_upd nD3, upd_same, .nil⟩ (fun i H' _ hq => tupAt (hq.choose_spec.1 _ _ g13.b)) (fun i v H' hv hq => ?_) (fun H14 hq => ?_)
    · obtain ⟨rs, sq, eD, hR⟩ := hq
      obtain ⟨p', d, rfl, ed, ⟨b1, f1, es, he, hb, hbs, hf⟩⟩ := pgs_atT (g13.t.same sq) hv
      have hi := (List.getElem?_eq_some_iff.mp ed).1
      have rl : rs.length = i := by rw [hR.1, List.length_take]; omega
      rw [List.take_add_one, ed]
      refine gTup3 he [some (.ref p), some (.ref a), some (.ref b), some (.ref c), some (.ref h), none, some (vN d.nm), some (.ref b1), some (.ref f1)] (by simp [wipe, L2.start]) ?_
      refine ⟨rfl, yesT ⟨_, rfl, _, rfl, _, rfl, a, b1, zs, es, d.bids, rfl, tupAt (sq _ _ g13.m), tupAt hb, hbs, by omega, ok.bl d (List.mem_of_getElem? ed), fun H1' t es' nt s1' et hB => ?_⟩⟩
      refine ⟨_, rfl, f1, _, rfl, .inr ⟨tupAt (s1' _ _ hf), ?_⟩⟩
      refine ⟨(show (3 : Nat) ≤ sizeLine by decide), fun x nx => ?_⟩
      have s3' := s1'.trans (same_upd (o := .tup [vN d.nm, .ref t, .ref f1]) nx)
      have eD' := s3' _ _ eD
      have row : RowR zs (upd H1' x (.tup [vN d.nm, .ref t, .ref f1])) x d := ⟨t, f1, es', upd_same, (same_upd nx) _ _ et, hB.same (same_upd nx), (same_upd nx) _ _ (s1' _ _ hf)⟩
      exact ⟨_, eD', by rw [List.length_map, rl]; exact small1000 (by omega), rs ++ [x], same_at (sq.trans s3') nD3, by rw [List.map_append]; exact upd_same, ((hR.mono fun _ _ k => k.nl (nl_same s3')).app (.one row)).mono fun _ _ k => k.nl (nl_wrote eD')⟩
    obtain ⟨rs, s14, eD3, hR⟩ := hq
    rw [pl, List.take_length] at hR
    refine ⟨D3, _, rfl, .inl ⟨lstAt eD3, fun r nr => ?_⟩⟩
    have tr := same_upd (o := .tup (rs.map V.ref)) nr
    have s15 := s14.trans tr
    have r15 := upd_same (H := H14) (a := r) (o := .tup (rs.map V.ref))
    have R15 := hR.mono fun _ _ k => k.nl (nl_same tr)
    have p15 := s15 _ _ p13
    have m15 := s15 _ _ m13
    have n15 := s15 _ _ n13
    have t15 := s15 _ _ t13
    have h15 := s15 _ _ h13
    have f15 := f13.trans (same_p (p := p) s15)
    generalize upd H14 r (.tup (rs.map V.ref)) = H15 at r15 R15 p15 m15 n15 t15 h15 f15 ⊢
    refine ⟨_, rfl, p, C, dx, _, rfl, p15, T.cl, T.n5, Nat.lt_of_le_of_lt (put_len (n := 3) (put_len (n := 2) (put_len (n := 1) (put_len (n := 0) (Nat.le_refl 0))))) (by decide), ?_⟩
    have e16 := samep_upd (p := p) (H := H15) (o := .ins C dx (putF "_rows" (.ref r) (putF "home" (.ref ht) (putF "starts" (.ref c) (putF "names" (.ref n) (putF "members" (.ref a) []))))))
    have p16 := upd_same (H := H15) (a := p) (o := .ins C dx (putF "_rows" (.ref r) (putF "home" (.ref ht) (putF "starts" (.ref c) (putF "names" (.ref n) (putF "members" (.ref a) []))))))
    have f16 := f15.trans e16
    have m16 := e16 _ _ m15 (ne_of m15 p15 (by intro z; cases z))
    have n16 := e16 _ _ n15 (ne_of n15 p15 (by intro z; cases z))
    have t16 := e16 _ _ t15 (ne_of t15 p15 (by intro z; cases z))
    have h16 := e16 _ _ h15 (ne_of h15 p15 (by intro z; cases z))
    have r16 := e16 _ _ r15 (ne_of r15 p15 (by intro z; cases z))
    have R16 := R15.mono fun _ _ k => k.fr p15 e16
    generalize upd H15 p (.ins C dx (putF "_rows" (.ref r) (putF "home" (.ref ht) (putF "starts" (.ref c) (putF "names" (.ref n) (putF "members" (.ref a) [])))))) = H16 at p16 f16 m16 n16 t16 h16 r16 R16 ⊢
    clear e16 p15 m15 n15 t15 h15 r15 R15 f15 s15 tr s14 eD3 hR p13 m13 n13 t13 h13 g13 f13
    have rl : (rs.map V.ref).length = ds.length := by rw [List.length_map, R16.1]
    -- the pages
    refine ⟨_, rfl, p, C, dx, _, _, rfl, p16, T.cl, T.n5, put_same _ _ _, r, rfl, ⟨_, tupAt r16⟩, fun D4 nD4 => ?_⟩
    refine lc_tup (K := K) (a := r) (xs := rs.map V.ref) (fun i H' => ∃ qs : List Addr, Same H16 H' ∧ H' D4 = some (.lst (qs.map V.ref)) ∧ AllAt (PgR CP zs hs2 p) H' qs (ds.take i)) ⟨[], same_upd nD4, upd_same, .nil⟩ (fun i H' _ hq => tupAt (hq.choose_spec.1 _ _ r16)) (fun i v H' hv hq => ?_) (fun H17 hq => ?_)
    · obtain ⟨qs, sq, eD, hQ⟩ := hq
      obtain ⟨r', d, rfl, ed, ⟨bt, ft, es, he, hb, hbs, hf⟩⟩ := all_at (R16.mono fun _ _ k => k.nl (nl_same sq)) hv
      have hi := (List.getElem?_eq_some_iff.mp ed).1
      have ql : qs.length = i := by rw [hQ.1, List.length_take]; omega
      rw [List.take_add_one, ed]
      refine gTup3 he [some (.ref p), some (.ref a), some (.ref b), some (.ref c), some (.ref h), none, some (vN d.nm), some (.ref bt), some (.ref ft)] (by simp [wipe, L2.start]) ?_
      refine ⟨rfl, yesT ⟨_, rfl, _, rfl, _, rfl, _, rfl, _, rfl, p, C, dx, _, _, rfl, sq _ _ p16, T.cl, T.n4, put_ne (put_same _ _ _) (by decide +kernel), ht, _, rfl, .inr (tupAt (sq _ _ h16)), rfl, nms_flat _, fun x dx' nx ndx nex => ?_⟩⟩
      have sdx := same_upd (o := .own x) ndx
      have nxx : (upd H' dx' (.own x)) x = none := by rw [upd_ne nex.symm]; exact nx
      have sx := sdx.trans (same_upd (o := .ins CP dx' []) nxx)
      have bl : (sortB zs d.bids).length ≤ 500 := by
        have b64 := ok.bl d (List.mem_of_getElem? ed)
        refine Nat.le_trans sortB_len (Nat.le_trans (Nat.mul_le_mul (show zs.length ≤ 4 from z4) (show d.bids.length ≤ 64 by omega)) (by decide))
      refine ⟨x, bt, ft, dx', d.nm, _, es, sortB zs d.bids, d.fol, rfl, upd_same, sx _ _ hb, hbs.same sx, sx _ _ hf, bl, fun H2' pg sp => ⟨rfl, ?_⟩⟩
      have sK : Same H' H2' := fun y ob e => sp y ob (sx _ _ e) (ne_of_none e nx)
      have eD' := sK _ _ eD
      have xp : x ≠ p := (ne_of_none (sq _ _ p16) nx).symm
      have pg' : PgAt CP H2' x d.nm (sortB zs d.bids) d.fol (decide (d.nm ∈ hs2)) := by
        have e : inV (vN d.nm) (hs2.map vN) = decide (d.nm ∈ hs2) := inV_nm
        rw [← e]
        exact pg
      have Q1 : AllAt (PgR CP zs hs2 p) H2' qs (ds.take i) := hQ.mono fun _ _ k => ⟨k.1.same sK, k.2⟩
      have Q2 : AllAt (PgR CP zs hs2 p) H2' (qs ++ [x]) (ds.take i ++ [d]) := Q1.app (.one ⟨pg', xp⟩)
      exact ⟨_, eD', by rw [List.length_map, ql]; exact small1000 (by omega), qs ++ [x], same_at (sq.trans sK) nD4, by rw [List.map_append]; exact upd_same, Q2.mono fun _ _ k => ⟨k.1.nl (nl_wrote eD'), k.2⟩⟩
    obtain ⟨qs, s17, eD4, hQ⟩ := hq
    rw [rl, List.take_length] at hQ
    refine ⟨D4, _, rfl, .inl ⟨lstAt eD4, fun gg ngg => ?_⟩⟩
    have tg := same_upd (o := .tup (qs.map V.ref)) ngg
    have s18 := s17.trans tg
    have g18 := upd_same (H := H17) (a := gg) (o := .tup (qs.map V.ref))
    have Q18 := hQ.mono (S := PgR CP zs hs2 p) (H' := upd H17 gg (.tup (qs.map V.ref))) fun _ _ k => ⟨k.1.same tg, k.2⟩
    have p18 := s18 _ _ p16
    generalize upd H17 gg (.tup (qs.map V.ref)) = H18 at tg s18 g18 Q18 p18 ⊢
    refine ⟨_, rfl, p, C, dx, _, rfl, p18, T.cl, T.n6, Nat.lt_of_le_of_lt (put_len (n := 4) (put_len (n := 3) (put_len (n := 2) (put_len (n := 1) (put_len (n := 0) (Nat.le_refl 0)))))) (by decide), ?_⟩
    have e19 := samep_upd (p := p) (H := H18) (o := .ins C dx (fldsB a n c ht r gg))
    have fr := (f16.trans (same_p (p := p) s18)).trans e19
    have go : ∀ {y : Addr} {xs : List V}, H16 y = some (.tup xs) → (upd H18 p (.ins C dx (fldsB a n c ht r gg))) y = some (.tup xs) := fun e => e19 _ _ (s18 _ _ e) (ne_of (s18 _ _ e) p18 (by intro z; cases z))
    refine q _ ⟨dx, a, n, c, ht, r, gg, o, rs, qs, upd_same, go m16, e19 _ _ (s18 _ _ n16) (ne_of (s18 _ _ n16) p18 (by intro z; cases z)), oc, od, go t16, go h16, go r16, R16.mono fun _ _ k => (k.nl (nl_same s18)).fr p18 e19, e19 _ _ g18 (ne_of g18 p18 (by intro z; cases z)), Q18.mono fun _ _ k => ⟨k.1.fr p18 k.2 e19, k.2⟩⟩ fr
end
end TK

/-! Book.__init__, with lists, but home a tuple -/
namespace TK
open PySem PySem.Spec PyProof.Rows L2
structure BkGM (K : PySem.W.Frag) (H : Hp) (a b c h : Addr) (zs ss hs : List Nam) (ps : List Addr) (ds : List PgD) : Prop where
  m : SqL K H a (zs.map vN)
  b : SqL K H b (ps.map V.ref)
  t : PgsIn K H ps ds
  c : SqL K H c (ss.map vN)
  h : SqT K H h (hs.map vN)
theorem BkGM.same {K : PySem.W.Frag} {H H' : Hp} {a b c h : Addr} {zs ss hs : List Nam} {ps : List Addr} {ds : List PgD} (g : BkGM K H a b c h zs ss hs ps ds) (s : Same H H') : BkGM K H' a b c h zs ss hs ps ds := ⟨s.seq g.m, s.seq g.b, g.t.same s, s.seq g.c, same_tup s g.h⟩
theorem BkGM.fr {K : PySem.W.Frag} {H H' : Hp} {a b c h p C dx : Addr} {fs : List (Str × V)} {zs ss hs : List Nam} {ps : List Addr} {ds : List PgD} (g : BkGM K H a b c h zs ss hs ps ds) (hp : H p = some (.ins C dx fs)) (f : SameP p H H') : BkGM K H' a b c h zs ss hs ps ds := ⟨sqL_frame g.m hp f, sqL_frame g.b hp f, pgs_frame g.t hp f, sqL_frame g.c hp f, sqT_frame g.h hp f⟩
section
variable {P : Program} {w : World} {K : PySem.W.Frag} {mg : Str → Option Value} {base : Heap}
def spEndsM (K : PySem.W.Frag) : Sp := fun vs H Q _ => ∃ (a b c : Addr) (ns ss hs : List Nam), vs = [.ref a, .ref b, .ref c] ∧ SqS K H a (ns.map vN) ∧ SqL K H b (ss.map vN) ∧ SqT K H c (hs.map vN) ∧ ss ≠ [] ∧ ss.Nodup ∧ (∀ x ∈ ss, x ∈ ns) ∧ hs.Nodup ∧ (∀ x ∈ hs, x ∈ ns) ∧ ns.length < 64 ∧ ∀ H', Same H H' → Q .non H'
theorem ok_check_endsM {f : Addr} {fd : FuncData} (F : Fun K "_check_ends" "_check_ends" s_check_ends f fd) (m_len : mg "len" = none) (d_are_picks : Def P w K mg base "_are_picks" 1 ["picks", "known"] (fun vs H Q E => spArePicks K vs H Q E ∨ spArePicksT K vs H Q E)) : FnOk P w K mg base CX0 2 f fd ["names", "starts", "home"] (spEndsM K) := by
  refine F.ok sc_check_ends (fun vs H Q E h => ?_) (fun cdv A outer s H vs Q E hr h => ?_)
  · obtain ⟨a, b, c, ns, ss, hs, rfl, _⟩ := h
    rfl
  · obtain ⟨a, b, c, ns, ss, hs, rfl, hA, hB, hC, ne, nd1, su1, nd2, su2, l64, q⟩ := h
    refine ⟨_, (pss_cons (ps_if (PW.pt (pw_or (pt_cmpR op_eq (pe_callB call_len_seq (by rfl) m_len (by decide +kernel) (pa_cons (pv 1) pa_nil)) pe_int (nomark _)) (pw_or1 (pt_not (pt_val (pe_callD d_are_picks (hr.mono (by decide)) (by rfl) (pa_cons (pv 1) (pa_cons (pv 0) pa_nil)))))))) (pss_one ps_never) pss_nil)
  (pss_one (ps_if (pt_not (pt_val (pe_callD d_are_picks (hr.mono (by decide)) (by rfl) (pa_cons (pv 2) (pa_cons (pv 0) pa_nil))))) (pss_one ps_never) pss_nil))), ?_⟩
    have sl : (ss.map vN).length ≠ 0 := fun e => ne (List.eq_nil_of_length_eq_zero (by rw [List.length_map] at e; exact e))
    refine ⟨_, rfl, b, _, rfl, .inl hB, rfl, _, rfl, ?_⟩
    rw [decide_eq_false (show ¬ V.int (((ss.map vN).length : Nat) : Int) = V.int 0 from fun e => sl (by have := V.int.inj e; omega))]
    refine iteF ?_
    refine ⟨_, rfl, _, rfl, .inl ⟨b, a, ss, ns, rfl, hB, hA, nd1, su1, Nat.lt_of_le_of_lt (nd_lenK nd1 su1) l64, fun H1 s1 => ⟨_, rfl, iteF ?_⟩⟩⟩
    exact ⟨_, rfl, _, rfl, .inr ⟨c, a, hs, ns, rfl, same_tup s1 hC, hA.same s1, nd2, su2, Nat.lt_of_le_of_lt (nd_lenK nd2 su2) l64, fun H2 s2 => ⟨_, rfl, iteF (q _ (s1.trans s2))⟩⟩⟩
def spInitBkM (K : PySem.W.Frag) (C CP : Addr) : Sp := fun vs H Q _ => ∃ (p a b c h dx : Addr) (zs ss hs : List Nam) (ps : List Addr) (ds : List PgD), vs = [.ref p, .ref a, .ref b, .ref c, .ref h] ∧ H p = some (.ins C dx []) ∧ BkGM K H a b c h zs ss hs ps ds ∧ 1 ≤ zs.length ∧ zs.length ≤ 4 ∧ (∀ z ∈ zs, Nm z) ∧ zs.Nodup ∧ POk zs ds ∧ ss ≠ [] ∧ ss.Nodup ∧ (∀ x ∈ ss, x ∈ ds.map (·.nm)) ∧ hs.Nodup ∧ (∀ x ∈ hs, x ∈ ds.map (·.nm)) ∧
  ∀ H', BkAt C CP H' p zs ss ((ds.map (·.nm)).filter fun n => decide (n ∈ hs)) ds → SameP p H H' → Q .non H'
theorem ok_BookM {f C CP fP : Addr} {fd fdP : FuncData} {dvs : List V} {kws : List (Str × V)} (F : FunD K "__init__" "Book.__init__" (defArgs s_Book_init) (defBody s_Book_init) (defScope s_Book_init) dvs kws f fd) (T : TxtBk K C) (m_tuple : mg "tuple" = none) (d_check_names : DefD P w K mg base "check_names" 2 ["names", "most", "hook"] (spCheckN K) [.bl false])
    (d_check_pages : Def P w K mg base "_check_pages" 3 ["members", "pages"] (spCheckPg K)) (d_check_ends : Def P w K mg base "_check_ends" 2 ["names", "starts", "home"] (spEndsM K)) (d_sorted_bids : Def P w K mg base "_sorted_bids" 1 ["members", "bids"] (spSortB K))
    (M_Page : Mk K CP fP) (G_Page : FnOk P w K mg base CX0 1 fP fdP ["self", "name", "bids", "followers", "home"] (spInitPg CP)) (mg_Page : mg "Page" = some (.ref CP)) (b_Page : Binds K fdP ["self", "name", "bids", "followers", "home"] []) :
    FnOk P w K mg base CX0 4 f fd ["self", "members", "pages", "starts", "home"] (spInitBkM K C CP) := by
  refine F.ok (CX := CX0) sc_Book_init (fun vs H Q E h => ?_) (fun cdv A outer s H vs Q E hr h => ?_)
  · obtain ⟨p, a, b, c, h, dx, zs, ss, hs, ps, ds, rfl, _⟩ := h
    rfl
  · obtain ⟨p, a, b, c, h, dx, zs, ss, hs, ps, ds, rfl, hp, g, z1, z4, nm, nd, ok, sne, snd, ssub, hnd, hsub, q⟩ := h
    have pl : (ps.map V.ref).length = ds.length := by rw [List.length_map, g.t.1]
    have l4 := ok.l4
    refine ⟨_, (pss_cons (ps_expr (pe_callDD d_check_names (hr.mono (by decide)) (by rfl) (pa_cons (pv 1) (pa_cons pe_int pa_nil))))
  (pss_cons (ps_expr (pe_callD d_check_pages (hr.mono (by decide)) (by rfl) (pa_cons (pv 1) (pa_cons (pv 2) pa_nil))))
  (pss_cons (ps_fld (pv 0) (pe_callTy call_tuple_of (by rfl) m_tuple (by decide +kernel) (pa_cons (pv 1) pa_nil)) rfl)
  (pss_cons (ps_fld (pv 0) (pe_callTy call_tuple_frz (by rfl) m_tuple (by decide +kernel) (pa_cons (pe_lc (own := [("page", 5)]) (by rfl) sc_Book_init.nd (pi_list (pv 2)) (blkOk_by (N := ["self", "members", "pages", "starts", "home", "page", "name", "bids", "followers"]) (sc := defScope s_Book_init) (by decide +kernel)) (fun _ _ _ _ _ => (pg_name (i := 5) sc_Book_init.nd rfl (.inl rfl))) (fun _ _ _ _ _ => pts_nil) (fun _ _ _ _ _ => (pe_ix (ix_tupK (K := K) rfl) (pv 5) pe_int (fun _ _ => rfl)))) pa_nil)) rfl)
  (pss_cons (ps_expr (pe_callD d_check_ends (hr.mono (by decide)) (by rfl) (pa_cons (pe_fld (pv 0) rfl) (pa_cons (pv 3) (pa_cons (pv 4) pa_nil)))))
  (pss_cons (ps_fld (pv 0) (pe_callTy call_tuple_of (by rfl) m_tuple (by decide +kernel) (pa_cons (pv 3) pa_nil)) rfl)
  (pss_cons (ps_fld (pv 0) (pe_callTy call_tuple_of (by rfl) m_tuple (by decide +kernel) (pa_cons (pe_lc (own := [("name", 6)]) (by rfl) sc_Book_init.nd (pi_tup (pe_fld (pv 0) rfl)) (blkOk_by (N := ["self", "members", "pages", "starts", "home", "page", "name", "bids", "followers"]) (sc := defScope s_Book_init) (by decide +kernel)) (fun _ _ _ _ _ => (pg_name (i := 6) sc_Book_init.nd rfl (.inl rfl))) (fun _ _ _ _ _ => (pts_one (pt_cmpR (op_in_seqK (K := K) rfl) (pv 6) (pv 4) (by rfl)))) (fun _ _ _ _ _ => (pv 6))) pa_nil)) rfl)
  (pss_cons (ps_fld (pv 0) (pe_callTy call_tuple_of (by rfl) m_tuple (by decide +kernel) (pa_cons (pe_lc (own := [("name", 6), ("bids", 7), ("followers", 8)]) (by rfl) sc_Book_init.nd (pi_list (pv 2)) (blkOk_by (N := ["self", "members", "pages", "starts", "home", "page", "name", "bids", "followers"]) (sc := defScope s_Book_init) (by decide +kernel)) (fun _ _ _ _ _ => (pg_tupK (K := K) (n := 3) rfl (by rfl) (pgs_cons (pg_name (i := 6) sc_Book_init.nd rfl (.inl rfl)) (pgs_cons (pg_name (i := 7) sc_Book_init.nd rfl (.inl rfl)) (pgs_cons (pg_name (i := 8) sc_Book_init.nd rfl (.inl rfl)) pgs_nil))))) (fun _ _ _ _ _ => pts_nil) (fun _ _ _ _ _ => (pe_tup (pa_cons (pv 6) (pa_cons (pe_callD d_sorted_bids (hr.mono (by decide)) (by rfl) (pa_cons (pv 1) (pa_cons (pv 7) pa_nil))) (pa_cons (pe_callTy (call_tuple_ofK (K := K) rfl) (by rfl) m_tuple (by decide +kernel) (pa_cons (pv 8) pa_nil)) pa_nil)))))) pa_nil)) rfl)
  (pss_one (ps_fld (pv 0) (pe_callTy call_tuple_of (by rfl) m_tuple (by decide +kernel) (pa_cons (pe_lc (own := [("name", 6), ("bids", 7), ("followers", 8)]) (by rfl) sc_Book_init.nd (pi_tup (pe_fld (pv 0) rfl)) (blkOk_by (N := ["self", "members", "pages", "starts", "home", "page", "name", "bids", "followers"]) (sc := defScope s_Book_init) (by decide +kernel)) (fun _ _ _ _ _ => (pg_tupK (K := K) (n := 3) rfl (by rfl) (pgs_cons (pg_name (i := 6) sc_Book_init.nd rfl (.inl rfl)) (pgs_cons (pg_name (i := 7) sc_Book_init.nd rfl (.inl rfl)) (pgs_cons (pg_name (i := 8) sc_Book_init.nd rfl (.inl rfl)) pgs_nil))))) (fun _ _ _ _ _ => pts_nil) (fun _ _ _ _ _ => (pe_make M_Page G_Page (hr.mono (by decide)) (by rfl) mg_Page b_Page .nil pass0 (pa_cons (pv 6) (pa_cons (pv 7) (pa_cons (pv 8) (pa_cons (pe_cmpR (op_in_seqK (K := K) rfl) (pv 6) (pe_fldK (K := K) rfl (pv 0) rfl) (by rfl)) pa_nil))))))) pa_nil)) rfl)))))))))), ?_⟩
    refine ⟨_, rfl, a, 4, zs, rfl, .inl g.m, z1, by omega, by omega, nm, nd, fun H1 s1 => ?_⟩
    refine ⟨_, rfl, _, rfl, a, b, zs, ps, ds, rfl, s1.seq g.m, s1.seq g.b, g.t.same s1, ok, fun H2 s2 => ?_⟩
    have s12 := s1.trans s2
    -- members
    refine ⟨_, rfl, a, _, rfl, .inl ⟨s12.seq g.m, fun m nmA => ?_⟩⟩
    have s3 := s12.trans (same_upd (o := .tup (zs.map vN)) nmA)
    have m3 := upd_same (H := H2) (a := m) (o := .tup (zs.map vN))
    have g3 := g.same s3
    have p3 := s3 _ _ hp
    have f3 := same_p (p := p) s3
    generalize upd H2 m (.tup (zs.map vN)) = H3 at m3 g3 p3 f3 ⊢
    refine ⟨_, rfl, p, C, dx, _, rfl, p3, T.cl, T.n1, by decide, ?_⟩
    have e4 := samep_upd (p := p) (H := H3) (o := .ins C dx (putF "members" (.ref m) []))
    have p4 := upd_same (H := H3) (a := p) (o := .ins C dx (putF "members" (.ref m) []))
    have f4 := f3.trans e4
    have m4 := e4 _ _ m3 (ne_of m3 p3 (by intro z; cases z))
    have g4 := g3.fr p3 e4
    generalize upd H3 p (.ins C dx (putF "members" (.ref m) [])) = H4 at p4 f4 m4 g4 ⊢
    -- names
    refine ⟨_, rfl, b, rfl, ⟨_, g4.b⟩, fun D nD => ?_⟩
    refine lc_list (K := K) (a := b) (xs := ps.map V.ref) (fun i H' => Same H4 H' ∧ H' D = some (.lst (((ds.map (·.nm)).take i).map vN))) ⟨same_upd nD, upd_same⟩ (fun i H' _ hq => hq.1.seq g4.b) (fun i v H' hv hq => ?_) (fun H5 hq => ?_)
    · obtain ⟨sq, eD⟩ := hq
      obtain ⟨p', d, rfl, ed, ⟨b1, f1, es, he, _⟩⟩ := pgs_at (g4.t.same sq) hv
      have hi := (List.getElem?_eq_some_iff.mp ed).1
      refine ⟨rfl, yesT ⟨_, rfl, _, _, 0, vN d.nm, rfl, rfl, tupAt he, atI_in (by decide) rfl, _, eD, by rw [List.length_map, List.length_take, List.length_map]; exact small1000 (by omega), same_at sq nD, ?_⟩⟩
      rw [List.take_add_one, List.getElem?_map, ed, List.map_append]
      exact upd_same
    obtain ⟨s5, eD⟩ := hq
    rw [pl, show ds.length = (ds.map (·.nm)).length from (List.length_map ..).symm, List.take_length] at eD
    refine ⟨D, _, rfl, lstAt eD, fun n o nn oc od => ?_⟩
    have s6 := s5.trans (same_upd (o := .frz o (.tup ((ds.map (·.nm)).map vN))) nn)
    have n6 := upd_same (H := H5) (a := n) (o := .frz o (.tup ((ds.map (·.nm)).map vN)))
    have p6 := s6 _ _ p4
    have m6 := s6 _ _ m4
    have g6 := g4.same s6
    have f6 := f4.trans (same_p (p := p) s6)
    generalize upd H5 n (.frz o (.tup ((ds.map (·.nm)).map vN))) = H6 at n6 p6 m6 g6 f6 ⊢
    refine ⟨_, rfl, p, C, dx, _, rfl, p6, T.cl, T.n2, Nat.lt_of_le_of_lt (put_len (n := 0) (Nat.le_refl 0)) (by decide), ?_⟩
    have e7 := samep_upd (p := p) (H := H6) (o := .ins C dx (putF "names" (.ref n) (putF "members" (.ref m) [])))
    have p7 := upd_same (H := H6) (a := p) (o := .ins C dx (putF "names" (.ref n) (putF "members" (.ref m) [])))
    have f7 := f6.trans e7
    have m7 := e7 _ _ m6 (ne_of m6 p6 (by intro z; cases z))
    have n7 := e7 _ _ n6 (ne_of n6 p6 (by intro z; cases z))
    have g7 := g6.fr p6 e7
    generalize upd H6 p (.ins C dx (putF "names" (.ref n) (putF "members" (.ref m) []))) = H7 at p7 f7 m7 n7 g7 ⊢
    clear e7 e4 p6 m6 n6 g6 f6 s6 s5 eD p4 m4 g4 f4 p3 m3 g3 f3 s3
    -- the ends
    refine ⟨_, rfl, p, C, dx, _, _, rfl, p7, T.cl, T.n2, put_same _ _ _, _, rfl, _, rfl, n, c, h, ds.map (·.nm), ss, hs, rfl, .inr (.inl (.inr ⟨o, n7⟩)), g7.c, g7.h, sne, snd, ssub, hnd, hsub, by rw [List.length_map]; omega, fun H8 s8 => ?_⟩
    -- starts
    refine ⟨_, rfl, c, _, rfl, .inl ⟨s8.seq g7.c, fun st nst => ?_⟩⟩
    have s9 := s8.trans (same_upd (o := .tup (ss.map vN)) nst)
    have t9 := upd_same (H := H8) (a := st) (o := .tup (ss.map vN))
    have p9 := s9 _ _ p7
    have m9 := s9 _ _ m7
    have n9 := s9 _ _ n7
    have g9 := g7.same s9
    have f9 := f7.trans (same_p (p := p) s9)
    generalize upd H8 st (.tup (ss.map vN)) = H9 at t9 p9 m9 n9 g9 f9 ⊢
    refine ⟨_, rfl, p, C, dx, _, rfl, p9, T.cl, T.n3, Nat.lt_of_le_of_lt (put_len (n := 1) (put_len (n := 0) (Nat.le_refl 0))) (by decide), ?_⟩
    have e10 := samep_upd (p := p) (H := H9) (o := .ins C dx (putF "starts" (.ref st) (putF "names" (.ref n) (putF "members" (.ref m) []))))
    have p10 := upd_same (H := H9) (a := p) (o := .ins C dx (putF "starts" (.ref st) (putF "names" (.ref n) (putF "members" (.ref m) []))))
    have f10 := f9.trans e10
    have m10 := e10 _ _ m9 (ne_of m9 p9 (by intro z; cases z))
    have n10 := e10 _ _ n9 (ne_of n9 p9 (by intro z; cases z))
    have t10 := e10 _ _ t9 (ne_of t9 p9 (by intro z; cases z))
    have g10 := g9.fr p9 e10
    generalize upd H9 p (.ins C dx (putF "starts" (.ref st) (putF "names" (.ref n) (putF "members" (.ref m) [])))) = H10 at p10 f10 m10 n10 t10 g10 ⊢
    clear e10 p9 m9 n9 t9 g9 f9 s9 s8 p7 m7 n7 g7 f7
    -- home
    refine ⟨_, rfl, p, C, dx, _, _, rfl, p10, T.cl, T.n2, put_ne (put_same _ _ _) (by decide +kernel), n, rfl, ⟨_, .inl (.inr ⟨o, n10⟩)⟩, fun D2 nD2 => ?_⟩
    refine lc_tup (K := K) (a := n) (xs := (ds.map (·.nm)).map vN) (fun i H' => Same H10 H' ∧ H' D2 = some (.lst ((((ds.map (·.nm)).take i).filter fun z => decide (z ∈ hs)).map vN))) ⟨same_upd nD2, upd_same⟩ (fun i H' _ hq => .inl (.inr ⟨o, hq.1 _ _ n10⟩)) (fun i v H' hv hq => ?_) (fun H11 hq => ?_)
    · obtain ⟨sq, eD⟩ := hq
      obtain ⟨z, ez, rfl⟩ := vN_at hv
      have hi := (List.getElem?_eq_some_iff.mp ez).1
      rw [List.length_map] at hi
      have fl : (((ds.map (·.nm)).take i).filter fun z => decide (z ∈ hs)).length ≤ 4 := Nat.le_trans (List.length_filter_le _ _) (by rw [List.length_take]; omega)
      rw [flt_at ez]
      refine ⟨rfl, _, rfl, _, rfl, h, _, rfl, .inr (same_tup sq g10.h), rfl, nms_flat _, _, rfl, ?_⟩
      rw [in_nm]
      by_cases hz : z ∈ hs
      · rw [decide_eq_true hz]
        refine iteT ⟨_, rfl, _, eD, by rw [List.length_map]; exact small1000 (by omega), same_at sq nD2, ?_⟩
        rw [if_pos rfl, List.map_append]
        exact upd_same
      · rw [decide_eq_false hz]
        exact iteF ⟨sq, by rw [if_neg Bool.false_ne_true, List.append_nil]; exact eD⟩
    obtain ⟨s11, eD2⟩ := hq
    rw [List.length_map, List.take_length] at eD2
    generalize hh2 : (ds.map (·.nm)).filter (fun z => decide (z ∈ hs)) = hs2 at eD2 q
    refine ⟨D2, _, rfl, .inl ⟨lstAt eD2, fun ht nht => ?_⟩⟩
    have s12 := s11.trans (same_upd (o := .tup (hs2.map vN)) nht)
    have h12 := upd_same (H := H11) (a := ht) (o := .tup (hs2.map vN))
    have p12 := s12 _ _ p10
    have m12 := s12 _ _ m10
    have n12 := s12 _ _ n10
    have t12 := s12 _ _ t10
    have g12 := g10.same s12
    have f12 := f10.trans (same_p (p := p) s12)
    generalize upd H11 ht (.tup (hs2.map vN)) = H12 at h12 p12 m12 n12 t12 g12 f12 ⊢
    refine ⟨_, rfl, p, C, dx, _, rfl, p12, T.cl, T.n4, Nat.lt_of_le_of_lt (put_len (n := 2) (put_len (n := 1) (put_len (n := 0) (Nat.le_refl 0)))) (by decide), ?_⟩
    have e13 := samep_upd (p := p) (H := H12) (o := .ins C dx (putF "home" (.ref ht) (putF "starts" (.ref st) (putF "names" (.ref n) (putF "members" (.ref m) [])))))
    have p13 := upd_same (H := H12) (a := p) (o := .ins C dx (putF "home" (.ref ht) (putF "starts" (.ref st) (putF "names" (.ref n) (putF "members" (.ref m) [])))))
    have f13 := f12.trans e13
    have m13 := e13 _ _ m12 (ne_of m12 p12 (by intro z; cases z))
    have n13 := e13 _ _ n12 (ne_of n12 p12 (by intro z; cases z))
    have t13 := e13 _ _ t12 (ne_of t12 p12 (by intro z; cases z))
    have h13 := e13 _ _ h12 (ne_of h12 p12 (by intro z; cases z))
    have g13 := g12.fr p12 e13
    generalize upd H12 p (.ins C dx (putF "home" (.ref ht) (putF "starts" (.ref st) (putF "names" (.ref n) (putF "members" (.ref m) []))))) = H13 at p13 f13 m13 n13 t13 h13 g13 ⊢
    clear e13 p12 m12 n12 t12 h12 g12 f12 s12 s11 eD2 p10 m10 n10 t10 g10 f10
    -- the rows
    refine ⟨_, rfl, b, rfl, ⟨_, g13.b⟩, fun D3 nD3 => ?_⟩
    refine lc_list (K := K) (a := b) (xs := ps.map V.ref) (fun i H' => ∃ rs : List Addr, Same H13 H' ∧ H' D3 = some (.lst (rs.map V.ref)) ∧ AllAt (RowR zs) H' rs (ds.take i)) ⟨[], same_upd nD3, upd_same, .nil⟩ (fun i H' _ hq => hq.choose_spec.1.seq g13.b) (fun i v H' hv hq => ?_) (fun H14 hq => ?_)
    · obtain ⟨rs, sq, eD, hR⟩ := hq
      obtain ⟨p', d, rfl, ed, ⟨b1, f1, es, he, hb, hbs, hf⟩⟩ := pgs_at (g13.t.same sq) hv
      have hi := (List.getElem?_eq_some_iff.mp ed).1
      have rl : rs.length = i := by rw [hR.1, List.length_take]; omega
      rw [List.take_add_one, ed]
      refine gTup3 he [some (.ref p), some (.ref a), some (.ref b), some (.ref c), some (.ref h), none, some (vN d.nm), some (.ref b1), some (.ref f1)] (by simp [wipe, L2.start]) ?_
      refine ⟨rfl, yesT ⟨_, rfl, _, rfl, _, rfl, a, b1, zs, es, d.bids, rfl, sq.seq g13.m, hb, hbs, by omega, ok.bl d (List.mem_of_getElem? ed), fun H1' t es' nt s1' et hB => ?_⟩⟩
      refine ⟨_, rfl, f1, _, rfl, .inl ⟨s1'.seq hf, fun u nu => ?_⟩⟩
      have s2' := s1'.trans (same_upd (o := .tup (d.fol.map vN)) nu)
      refine ⟨(show (3 : Nat) ≤ sizeLine by decide), fun x nx => ?_⟩
      have s3' := s2'.trans (same_upd (o := .tup [vN d.nm, .ref t, .ref u]) nx)
      have eD' := s3' _ _ eD
      have row : RowR zs (upd (upd H1' u (.tup (d.fol.map vN))) x (.tup [vN d.nm, .ref t, .ref u])) x d := ⟨t, u, es', upd_same, (same_upd nx) _ _ ((same_upd nu) _ _ et), (hB.same (same_upd nu)).same (same_upd nx), (same_upd nx) _ _ upd_same⟩
      exact ⟨_, eD', by rw [List.length_map, rl]; exact small1000 (by omega), rs ++ [x], same_at (sq.trans s3') nD3, by rw [List.map_append]; exact upd_same, ((hR.mono fun _ _ k => k.nl (nl_same s3')).app (.one row)).mono fun _ _ k => k.nl (nl_wrote eD')⟩
    obtain ⟨rs, s14, eD3, hR⟩ := hq
    rw [pl, List.take_length] at hR
    refine ⟨D3, _, rfl, .inl ⟨lstAt eD3, fun r nr => ?_⟩⟩
    have tr := same_upd (o := .tup (rs.map V.ref)) nr
    have s15 := s14.trans tr
    have r15 := upd_same (H := H14) (a := r) (o := .tup (rs.map V.ref))
    have R15 := hR.mono fun _ _ k => k.nl (nl_same tr)
    have p15 := s15 _ _ p13
    have m15 := s15 _ _ m13
    have n15 := s15 _ _ n13
    have t15 := s15 _ _ t13
    have h15 := s15 _ _ h13
    have f15 := f13.trans (same_p (p := p) s15)
    generalize upd H14 r (.tup (rs.map V.ref)) = H15 at r15 R15 p15 m15 n15 t15 h15 f15 ⊢
    refine ⟨_, rfl, p, C, dx, _, rfl, p15, T.cl, T.n5, Nat.lt_of_le_of_lt (put_len (n := 3) (put_len (n := 2) (put_len (n := 1) (put_len (n := 0) (Nat.le_refl 0))))) (by decide), ?_⟩
    have e16 := samep_upd (p := p) (H := H15) (o := .ins C dx (putF "_rows" (.ref r) (putF "home" (.ref ht) (putF "starts" (.ref st) (putF "names" (.ref n) (putF "members" (.ref m) []))))))
    have p16 := upd_same (H := H15) (a := p) (o := .ins C dx (putF "_rows" (.ref r) (putF "home" (.ref ht) (putF "starts" (.ref st) (putF "names" (.ref n) (putF "members" (.ref m) []))))))
    have f16 := f15.trans e16
    have m16 := e16 _ _ m15 (ne_of m15 p15 (by intro z; cases z))
    have n16 := e16 _ _ n15 (ne_of n15 p15 (by intro z; cases z))
    have t16 := e16 _ _ t15 (ne_of t15 p15 (by intro z; cases z))
    have h16 := e16 _ _ h15 (ne_of h15 p15 (by intro z; cases z))
    have r16 := e16 _ _ r15 (ne_of r15 p15 (by intro z; cases z))
    have R16 := R15.mono fun _ _ k => k.fr p15 e16
    generalize upd H15 p (.ins C dx (putF "_rows" (.ref r) (putF "home" (.ref ht) (putF "starts" (.ref st) (putF "names" (.ref n) (putF "members" (.ref m) [])))))) = H16 at p16 f16 m16 n16 t16 h16 r16 R16 ⊢
    clear e16 p15 m15 n15 t15 h15 r15 R15 f15 s15 tr s14 eD3 hR p13 m13 n13 t13 h13 g13 f13
    have rl : (rs.map V.ref).length = ds.length := by rw [List.length_map, R16.1]
    -- the pages
    refine ⟨_, rfl, p, C, dx, _, _, rfl, p16, T.cl, T.n5, put_same _ _ _, r, rfl, ⟨_, tupAt r16⟩, fun D4 nD4 => ?_⟩
    refine lc_tup (K := K) (a := r) (xs := rs.map V.ref) (fun i H' => ∃ qs : List Addr, Same H16 H' ∧ H' D4 = some (.lst (qs.map V.ref)) ∧ AllAt (PgR CP zs hs2 p) H' qs (ds.take i)) ⟨[], same_upd nD4, upd_same, .nil⟩ (fun i H' _ hq => tupAt (hq.choose_spec.1 _ _ r16)) (fun i v H' hv hq => ?_) (fun H17 hq => ?_)
    · obtain ⟨qs, sq, eD, hQ⟩ := hq
      obtain ⟨r', d, rfl, ed, ⟨bt, ft, es, he, hb, hbs, hf⟩⟩ := all_at (R16.mono fun _ _ k => k.nl (nl_same sq)) hv
      have hi := (List.getElem?_eq_some_iff.mp ed).1
      have ql : qs.length = i := by rw [hQ.1, List.length_take]; omega
      rw [List.take_add_one, ed]
      refine gTup3 he [some (.ref p), some (.ref a), some (.ref b), some (.ref c), some (.ref h), none, some (vN d.nm), some (.ref bt), some (.ref ft)] (by simp [wipe, L2.start]) ?_
      refine ⟨rfl, yesT ⟨_, rfl, _, rfl, _, rfl, _, rfl, _, rfl, p, C, dx, _, _, rfl, sq _ _ p16, T.cl, T.n4, put_ne (put_same _ _ _) (by decide +kernel), ht, _, rfl, .inr (tupAt (sq _ _ h16)), rfl, nms_flat _, fun x dx' nx ndx nex => ?_⟩⟩
      have sdx := same_upd (o := .own x) ndx
      have nxx : (upd H' dx' (.own x)) x = none := by rw [upd_ne nex.symm]; exact nx
      have sx := sdx.trans (same_upd (o := .ins CP dx' []) nxx)
      have bl : (sortB zs d.bids).length ≤ 500 := by
        have b64 := ok.bl d (List.mem_of_getElem? ed)
        refine Nat.le_trans sortB_len (Nat.le_trans (Nat.mul_le_mul (show zs.length ≤ 4 from z4) (show d.bids.length ≤ 64 by omega)) (by decide))
      refine ⟨x, bt, ft, dx', d.nm, _, es, sortB zs d.bids, d.fol, rfl, upd_same, sx _ _ hb, hbs.same sx, sx _ _ hf, bl, fun H2' pg sp => ⟨rfl, ?_⟩⟩
      have sK : Same H' H2' := fun y ob e => sp y ob (sx _ _ e) (ne_of_none e nx)
      have eD' := sK _ _ eD
      have xp : x ≠ p := (ne_of_none (sq _ _ p16) nx).symm
      have pg' : PgAt CP H2' x d.nm (sortB zs d.bids) d.fol (decide (d.nm ∈ hs2)) := by
        have e : inV (vN d.nm) (hs2.map vN) = decide (d.nm ∈ hs2) := inV_nm
        rw [← e]
        exact pg
      have Q1 : AllAt (PgR CP zs hs2 p) H2' qs (ds.take i) := hQ.mono fun _ _ k => ⟨k.1.same sK, k.2⟩
      have Q2 : AllAt (PgR CP zs hs2 p) H2' (qs ++ [x]) (ds.take i ++ [d]) := Q1.app (.one ⟨pg', xp⟩)
      exact ⟨_, eD', by rw [List.length_map, ql]; exact small1000 (by omega), qs ++ [x], same_at (sq.trans sK) nD4, by rw [List.map_append]; exact upd_same, Q2.mono fun _ _ k => ⟨k.1.nl (nl_wrote eD'), k.2⟩⟩
    obtain ⟨qs, s17, eD4, hQ⟩ := hq
    rw [rl, List.take_length] at hQ
    refine ⟨D4, _, rfl, .inl ⟨lstAt eD4, fun gg ngg => ?_⟩⟩
    have tg := same_upd (o := .tup (qs.map V.ref)) ngg
    have s18 := s17.trans tg
    have g18 := upd_same (H := H17) (a := gg) (o := .tup (qs.map V.ref))
    have Q18 := hQ.mono (S := PgR CP zs hs2 p) (H' := upd H17 gg (.tup (qs.map V.ref))) fun _ _ k => ⟨k.1.same tg, k.2⟩
    have p18 := s18 _ _ p16
    generalize upd H17 gg (.tup (qs.map V.ref)) = H18 at tg s18 g18 Q18 p18 ⊢
    refine ⟨_, rfl, p, C, dx, _, rfl, p18, T.cl, T.n6, Nat.lt_of_le_of_lt (put_len (n := 4) (put_len (n := 3) (put_len (n := 2) (put_len (n := 1) (put_len (n := 0) (Nat.le_refl 0)))))) (by decide), ?_⟩
    have e19 := samep_upd (p := p) (H := H18) (o := .ins C dx (fldsB m n st ht r gg))
    have fr := (f16.trans (same_p (p := p) s18)).trans e19
    have go : ∀ {y : Addr} {xs : List V}, H16 y = some (.tup xs) → (upd H18 p (.ins C dx (fldsB m n st ht r gg))) y = some (.tup xs) := fun e => e19 _ _ (s18 _ _ e) (ne_of (s18 _ _ e) p18 (by intro z; cases z))
    refine q _ ⟨dx, m, n, st, ht, r, gg, o, rs, qs, upd_same, go m16, e19 _ _ (s18 _ _ n16) (ne_of (s18 _ _ n16) p18 (by intro z; cases z)), oc, od, go t16, go h16, go r16, R16.mono fun _ _ k => (k.nl (nl_same s18)).fr p18 e19, e19 _ _ g18 (ne_of g18 p18 (by intro z; cases z)), Q18.mono fun _ _ k => ⟨k.1.fr p18 k.2 e19, k.2⟩⟩ fr
end
end TK

/-! names, picks and bids: right or not -/
namespace TK
open PySem PySem.Spec PyProof.Rows L2
def nmB (l : List Nat) : Bool := decide (1 ≤ l.length) && (decide (l.length ≤ 8) && l.all fun c => decide (c ∈ lettersZ.cps.toList))
theorem in_letters {c : Nat} : c ∈ lettersZ.cps.toList ↔ 97 ≤ c ∧ c ≤ 122 := by
  rw [letters_codes, List.mem_map]
  exact ⟨fun ⟨k, hk, e⟩ => by have := List.mem_range.mp hk; omega, fun h => ⟨c - 97, List.mem_range.mpr (by omega), by omega⟩⟩
theorem nmB_iff {l : List Nat} : nmB l = true ↔ Nm l := by
  unfold nmB
  rw [Bool.and_eq_true, Bool.and_eq_true, List.all_eq_true]
  refine ⟨fun ⟨h1, h2, h3⟩ => ⟨of_decide_eq_true h1, of_decide_eq_true h2, fun c hc => ?_⟩, fun ⟨h1, h2, h3⟩ => ⟨decide_eq_true h1, decide_eq_true h2, fun c hc => decide_eq_true (in_letters.mpr ?_)⟩⟩
  · have := in_letters.mp (of_decide_eq_true (h3 c hc)); omega
  · have := h3 c hc; omega
theorem nmB_no {l : List Nat} (h : ¬ Nm l) : nmB l = false := Bool.eq_false_iff.mpr fun z => h (nmB_iff.mp z)
def picksB (xs ys : List Nam) : Bool := (xs.all fun x => decide (x ∈ ys)) && decide xs.Nodup
theorem picksB_iff {xs ys : List Nam} : picksB xs ys = true ↔ (∀ x ∈ xs, x ∈ ys) ∧ xs.Nodup := by
  unfold picksB
  rw [Bool.and_eq_true, List.all_eq_true]
  exact ⟨fun ⟨h1, h2⟩ => ⟨fun x hx => of_decide_eq_true (h1 x hx), of_decide_eq_true h2⟩, fun ⟨h1, h2⟩ => ⟨fun x hx => decide_eq_true (h1 x hx), decide_eq_true h2⟩⟩
theorem picksB_no {xs ys : List Nam} (h : ¬ ((∀ x ∈ xs, x ∈ ys) ∧ xs.Nodup)) : picksB xs ys = false := Bool.eq_false_iff.mpr fun z => h (picksB_iff.mp z)
def bidsB (zs : List Nam) (ds : List BidD) : Bool := picksB (ds.map (·.1)) zs && ds.all fun d => decide (0 ≤ d.2) && decide (d.2 ≤ 1000000000)
theorem bidsB_iff {zs : List Nam} {ds : List BidD} : bidsB zs ds = true ↔ BOk zs ds := by
  unfold bidsB
  rw [Bool.and_eq_true, List.all_eq_true, picksB_iff]
  refine ⟨fun ⟨⟨h1, h2⟩, h3⟩ => ⟨h2, h1, fun d m => ?_, fun d m => ?_⟩, fun h => ⟨⟨h.sub, h.nd⟩, fun d m => by rw [Bool.and_eq_true]; exact ⟨decide_eq_true (h.h0 d m), decide_eq_true (h.h9 d m)⟩⟩⟩
  · have := h3 d m; rw [Bool.and_eq_true] at this; exact of_decide_eq_true this.1
  · have := h3 d m; rw [Bool.and_eq_true] at this; exact of_decide_eq_true this.2
theorem bidsB_no {zs : List Nam} {ds : List BidD} (h : ¬ BOk zs ds) : bidsB zs ds = false := Bool.eq_false_iff.mpr fun z => h (bidsB_iff.mp z)
theorem bool_eq {a b : Bool} {H : Hp} {Q : VK} (e : a = b) (q : Q (.bl b) H) : Q (.bl a) H := e ▸ q
theorem all_id {α : Type} (p : α → Bool) (l : List α) : (l.map p).all id = l.all p := by rw [List.all_map]; rfl
section
variable {P : Program} {w : World} {K : PySem.W.Frag} {mg : Str → Option Value} {base : Heap}
def spIsNameB : Sp := fun vs H Q _ => ∃ l : List Nat, vs = [vN l] ∧ l.length ≤ 1000 ∧ ∀ H', Same H H' → Q (.bl (nmB l)) H'
theorem ok_is_nameB {f : Addr} {fd : FuncData} (F : Fun K "is_name" "is_name" s_is_name f fd) (m_len : mg "len" = none) (m_all : mg "all" = none) {tk : Tok} (g_LETTERS : mg "LETTERS" = some (.str lettersZ tk)) : FnOk P w K mg base CX0 1 f fd ["word"] spIsNameB := by
  refine F.ok sc_is_name (fun vs H Q E h => ?_) (fun cdv A outer s H vs Q E hr h => ?_)
  · obtain ⟨l, rfl, _⟩ := h
    rfl
  · obtain ⟨l, rfl, l1000, q⟩ := h
    refine ⟨_, (pss_one (ps_ret (pe_and (pe_chain op_le op_le pe_int (pe_callB call_len_str (by rfl) m_len (by decide +kernel) (pa_cons (pv 0) pa_nil)) pe_int) (pe_one (pe_callB (cr_all rfl) (by rfl) m_all (by decide +kernel) (pa_cons (pe_lc (own := [("sign", 1)]) (by rfl) sc_is_name.nd (pi_str (pv 0)) (blkOk_by (N := ["word", "sign"]) (sc := defScope s_is_name) (by decide +kernel)) (fun _ _ _ _ _ => (pg_name (i := 1) sc_is_name.nd rfl (.inl rfl))) (fun _ _ _ _ _ => pts_nil) (fun _ _ _ _ _ => (pe_cmpR op_in_sign (pv 1) (pe_glob (v := .str lettersZ) (by rfl) g_LETTERS ⟨_, rfl⟩) (by rfl)))) pa_nil)))))), ?_⟩
    have no : ∀ {b : Bool}, b = false → nmB l = b → Q (.bl false) H := fun e1 e2 => by rw [← e1, ← e2]; exact q H (Same.refl H)
    refine ⟨_, rfl, _, rfl, small_len (by omega), _, _, rfl, rfl, _, rfl, ?_⟩
    by_cases h1 : 1 ≤ l.length
    · rw [decide_eq_true (show (1 : Int) ≤ ((sOf l).length : Nat) by rw [sOf_len]; omega)]
      refine iteT ⟨_, _, rfl, rfl, _, rfl, ?_⟩
      by_cases h2 : l.length ≤ 8
      · rw [decide_eq_true (show (((sOf l).length : Nat) : Int) ≤ 8 by rw [sOf_len]; omega)]
        refine iteT ⟨_, rfl, _, rfl, fun D nD => ?_⟩
        refine lc_it walk_str (fun i H' => H' = upd H D (.lst (((l.take i).map fun c => decide (c ∈ lettersZ.cps.toList)).map V.bl))) rfl (fun _ _ _ _ => True.intro) (fun i x H1 H2 hi hp hy => ?_) (fun H' hp => ?_)
        · subst hp
          obtain ⟨rfl, c, hc, rfl⟩ := hy
          have hcl : l[i]? = some c := by
            have : (sOf l).cps.toList[i]? = some c := by rw [Array.getElem?_toList]; exact hc
            exact this
          refine ⟨rfl, yesT ⟨_, rfl, _, _, rfl, rfl, _, upd_same, ?_, ?_⟩⟩
          · rw [List.length_map, List.length_map, List.length_take]; exact small1000 (by omega)
          · rw [upd_twice, List.take_add_one, hcl, List.map_append, List.map_append]
            rfl
        · subst hp
          refine ⟨_, _, rfl, lstAt upd_same, ?_⟩
          have el : (sOf l).cps.size = l.length := sOf_len l
          have et : ∀ n, n = l.length → ((l.take n).map fun c => decide (c ∈ lettersZ.cps.toList)).all id = nmB l := fun n e => by
            rw [e, List.take_length, all_id]
            unfold nmB
            rw [decide_eq_true h1, decide_eq_true h2, Bool.true_and, Bool.true_and]
          rw [et _ (by first | exact el | (rw [sOf_codes] <;> rfl) | rfl)]
          exact q _ (same_upd nD)
      · rw [decide_eq_false (show ¬ (((sOf l).length : Nat) : Int) ≤ 8 by rw [sOf_len]; omega)]
        exact iteF (no (b := false) rfl (by unfold nmB; rw [decide_eq_false h2, Bool.false_and, Bool.and_false]))
    · rw [decide_eq_false (show ¬ (1 : Int) ≤ ((sOf l).length : Nat) by rw [sOf_len]; omega)]
      exact iteF ⟨_, rfl, iteF (no (b := false) rfl (by unfold nmB; rw [decide_eq_false h1, Bool.false_and]))⟩
def spArePicksB (K : PySem.W.Frag) : Sp := fun vs H Q _ => ∃ (a b : Addr) (xs ys : List Nam), vs = [.ref a, .ref b] ∧ SqL K H a (xs.map vN) ∧ SqS K H b (ys.map vN) ∧ xs.length < 64 ∧ ∀ H', Same H H' → Q (.bl (picksB xs ys)) H'
theorem ok_are_picksB {f : Addr} {fd : FuncData} (F : Fun K "_are_picks" "_are_picks" s_are_picks f fd) (m_all : mg "all" = none) (m_len : mg "len" = none) (m_set : mg "set" = none) : FnOk P w K mg base CX0 1 f fd ["picks", "known"] (spArePicksB K) := by
  refine F.ok sc_are_picks (fun vs H Q E h => ?_) (fun cdv A outer s H vs Q E hr h => ?_)
  · obtain ⟨a, b, xs, ys, rfl, _⟩ := h
    rfl
  · obtain ⟨a, b, xs, ys, rfl, hA, hB, l64, q⟩ := h
    have xl : (xs.map vN).length = xs.length := List.length_map ..
    refine ⟨_, (pss_one (ps_ret (pe_and (pe_callB (cr_all rfl) (by rfl) m_all (by decide +kernel) (pa_cons (pe_lc (own := [("pick", 2)]) (by rfl) sc_are_picks.nd (pi_list (pv 0)) (blkOk_by (N := ["picks", "known", "pick"]) (sc := defScope s_are_picks) (by decide +kernel)) (fun _ _ _ _ _ => (pg_name (i := 2) sc_are_picks.nd rfl (.inl rfl))) (fun _ _ _ _ _ => pts_nil) (fun _ _ _ _ _ => (pe_cmpR (op_in_seqK (K := K) rfl) (pv 2) (pv 1) (by rfl)))) pa_nil)) (pe_one (pe_cmpR op_eq (pe_lenSetD rfl (by rfl) m_len (by rfl) m_set (pv 0)) (pe_callB call_len_seq (by rfl) m_len (by decide +kernel) (pa_cons (pv 0) pa_nil)) (nomark _)))))), ?_⟩
    refine ⟨_, rfl, a, rfl, ⟨_, hA⟩, fun D nD => ?_⟩
    refine lc_list (K := K) (a := a) (xs := xs.map vN) (fun i H' => Same H H' ∧ H' D = some (.lst (((xs.take i).map fun x => decide (x ∈ ys)).map V.bl))) ⟨same_upd nD, upd_same⟩ (fun i H' _ hq => hq.1.seq hA) (fun i v H' hv hq => ?_) (fun H' hq => ?_)
    · obtain ⟨s1, eD⟩ := hq
      obtain ⟨x, ex, rfl⟩ := vN_at hv
      have hi : i < 64 := Nat.lt_trans (List.getElem?_eq_some_iff.mp ex).1 l64
      refine ⟨rfl, yesT ⟨_, rfl, _, rfl, b, _, rfl, hB.elim (fun h => .inl (s1.seq h)) (fun h => .inr (same_tup s1 h)), rfl, nms_flat _, _, eD, by rw [List.length_map, List.length_map, List.length_take]; exact small1000 (by omega), same_at s1 nD, ?_⟩⟩
      rw [in_nm, List.take_add_one, ex, List.map_append, List.map_append]
      exact upd_same
    · obtain ⟨s1, eD⟩ := hq
      refine ⟨_, _, rfl, lstAt eD, ?_⟩
      rw [xl, List.take_length, all_id]
      by_cases h : (xs.all fun x => decide (x ∈ ys)) = true
      · rw [h]
        refine ⟨_, rfl, iteT ?_⟩
        refine ⟨_, rfl, a, xs.map sOf, rfl, by rw [← vN_strs]; exact s1.seq hA, by rw [List.length_map]; exact l64, _, rfl, a, _, rfl, .inl (s1.seq hA), rfl, ?_⟩
        refine bool_eq (show decide (V.int ((cntS (xs.map sOf) (xs.map sOf).length : Nat) : Int) = V.int (((xs.map vN).length : Nat) : Int)) = picksB xs ys from ?_) (q _ s1)
        unfold picksB
        rw [h, Bool.true_and]
        refine decide_eq_decide.mpr ?_
        rw [xl]
        have e2 : (xs.map sOf).length = xs.length := List.length_map ..
        have e3 : (xs.map sOf).Nodup ↔ xs.Nodup := ⟨fun z => (List.pairwise_map.mp z).imp fun hne e => hne (congrArg sOf e), strs_nd⟩
        rw [← e3, ← cnt_all, e2]
        exact ⟨fun z => by have := V.int.inj z; omega, fun z => by rw [z]⟩
      · rw [Bool.eq_false_iff.mpr h]
        refine ⟨_, rfl, iteF ?_⟩
        have := q _ s1
        rwa [show picksB xs ys = false by unfold picksB; rw [Bool.eq_false_iff.mpr h, Bool.false_and]] at this
def spAreBidsB (K : PySem.W.Frag) : Sp := fun vs H Q _ => ∃ (a b : Addr) (zs : List Nam) (es : List Addr) (ds : List BidD), vs = [.ref a, .ref b] ∧ SqL K H a (es.map V.ref) ∧ BidsAt H es ds ∧ SqS K H b (zs.map vN) ∧ ds.length < 64 ∧ ∀ H', Same H H' → Q (.bl (bidsB zs ds)) H'
theorem ok_are_bidsB {f : Addr} {fd : FuncData} (F : Fun K "_are_bids" "_are_bids" s_are_bids f fd) (m_all : mg "all" = none) (d_are_picks : Def P w K mg base "_are_picks" 1 ["picks", "known"] (spArePicksB K)) : FnOk P w K mg base CX0 2 f fd ["bids", "members"] (spAreBidsB K) := by
  refine F.ok sc_are_bids (fun vs H Q E h => ?_) (fun cdv A outer s H vs Q E hr h => ?_)
  · obtain ⟨a, b, zs, es, ds, rfl, _⟩ := h
    rfl
  · obtain ⟨a, b, zs, es, ds, rfl, hA, hT, hB, l64, q⟩ := h
    have el : (es.map V.ref).length = ds.length := by rw [List.length_map, hT.1]
    refine ⟨_, (pss_one (ps_ret (pe_and (pe_callD d_are_picks (hr.mono (by decide)) (by rfl) (pa_cons (pe_lc (own := [("member", 2), ("_", 3)]) (by rfl) sc_are_bids.nd (pi_list (pv 0)) (blkOk_by (N := ["bids", "members", "member", "_", "bid"]) (sc := defScope s_are_bids) (by decide +kernel)) (fun _ _ _ _ _ => (pg_tupK (K := K) (n := 2) rfl (by rfl) (pgs_cons (pg_name (i := 2) sc_are_bids.nd rfl (.inl rfl)) (pgs_cons (pg_name (i := 3) sc_are_bids.nd rfl (.inl rfl)) pgs_nil)))) (fun _ _ _ _ _ => pts_nil) (fun _ _ _ _ _ => (pv 2))) (pa_cons (pv 1) pa_nil))) (pe_one (pe_callB (cr_all rfl) (by rfl) m_all (by decide +kernel) (pa_cons (pe_lc (own := [("_", 3), ("bid", 4)]) (by rfl) sc_are_bids.nd (pi_list (pv 0)) (blkOk_by (N := ["bids", "members", "member", "_", "bid"]) (sc := defScope s_are_bids) (by decide +kernel)) (fun _ _ _ _ _ => (pg_tupK (K := K) (n := 2) rfl (by rfl) (pgs_cons (pg_name (i := 3) sc_are_bids.nd rfl (.inl rfl)) (pgs_cons (pg_name (i := 4) sc_are_bids.nd rfl (.inl rfl)) pgs_nil)))) (fun _ _ _ _ _ => pts_nil) (fun _ _ _ _ _ => (pe_chain op_le op_le pe_int (pv 4) (pe_op op_pow pe_int pe_int)))) pa_nil)))))), ?_⟩
    refine ⟨_, rfl, a, rfl, ⟨_, hA⟩, fun D nD => ?_⟩
    refine lc_list (K := K) (a := a) (xs := es.map V.ref) (fun i H' => Same H H' ∧ H' D = some (.lst ((ds.take i).map fun d => vN d.1))) ⟨same_upd nD, upd_same⟩ (fun i H' _ hq => hq.1.seq hA) (fun i v H' hv hq => ?_) (fun H1 hq => ?_)
    · obtain ⟨s1, eD⟩ := hq
      obtain ⟨e, d, rfl, ed, he⟩ := bids_at (hT.same s1) hv
      have hi := (List.getElem?_eq_some_iff.mp ed).1
      refine gTup2w he [some (.ref a), some (.ref b), some (vN d.1), some (.int d.2), none] (by simp [wipe, L2.start]) ?_
      refine ⟨rfl, yesT ⟨_, rfl, _, eD, by rw [List.length_map, List.length_take]; exact small1000 (by omega), same_at s1 nD, ?_⟩⟩
      rw [List.take_add_one, ed, List.map_append]
      exact upd_same
    · obtain ⟨s1, eD⟩ := hq
      rw [el, List.take_length] at eD
      have e0 : (ds.map fun d => vN d.1) = (ds.map (·.1)).map vN := by rw [List.map_map]; rfl
      rw [e0] at eD
      refine ⟨_, rfl, D, b, ds.map (·.1), zs, rfl, lstAt eD, hB.elim (fun h => .inl (s1.seq h)) (fun h => .inr (same_tup s1 h)), by rw [List.length_map]; exact l64, fun H2 s2 => ?_⟩
      have s12 := s1.trans s2
      by_cases hp : picksB (ds.map (·.1)) zs = true
      · rw [hp]
        refine ⟨_, rfl, iteT ?_⟩
        refine ⟨_, rfl, a, rfl, ⟨_, s12.seq hA⟩, fun D2 nD2 => ?_⟩
        refine lc_list (K := K) (a := a) (xs := es.map V.ref) (fun i H' => Same H2 H' ∧ H' D2 = some (.lst (((ds.take i).map fun d => decide (0 ≤ d.2) && decide (d.2 ≤ 1000000000)).map V.bl))) ⟨same_upd nD2, upd_same⟩ (fun i H' _ hq => (s12.trans hq.1).seq hA) (fun i v H' hv hq => ?_) (fun H3 hq => ?_)
        · obtain ⟨s3, eD2⟩ := hq
          obtain ⟨e, d, rfl, ed, he⟩ := bids_at (hT.same (s12.trans s3)) hv
          have hi := (List.getElem?_eq_some_iff.mp ed).1
          refine gTup2w he [some (.ref a), some (.ref b), none, some (vN d.1), some (.int d.2)] (by simp [wipe, L2.start]) ?_
          have put : ∀ {b : Bool}, b = (decide (0 ≤ d.2) && decide (d.2 ≤ 1000000000)) → ∃ acc, H' D2 = some (.lst acc) ∧ acc.length < sizeLine ∧ Same H2 (upd H' D2 (.lst (acc ++ [V.bl b]))) ∧ (upd H' D2 (.lst (acc ++ [V.bl b]))) D2 = some (.lst (((ds.take (i + 1)).map fun d => decide (0 ≤ d.2) && decide (d.2 ≤ 1000000000)).map V.bl)) := fun e => by
            refine ⟨_, eD2, by rw [List.length_map, List.length_map, List.length_take]; exact small1000 (by omega), same_at s3 nD2, ?_⟩
            rw [upd_same, List.take_add_one, ed, List.map_append, List.map_append, e]
            rfl
          refine ⟨rfl, yesT ?_⟩
          refine ⟨_, rfl, _, _, rfl, rfl, _, rfl, ?_⟩
          by_cases d0 : 0 ≤ d.2
          · rw [decide_eq_true d0]
            refine iteT ⟨_, _, rfl, rfl, ⟨by decide, by decide, by decide⟩, _, _, rfl, rfl, ?_⟩
            exact put (by rw [decide_eq_true d0, Bool.true_and]; rfl)
          · rw [decide_eq_false d0]
            exact iteF (put (by rw [decide_eq_false d0, Bool.false_and]))
        · obtain ⟨s3, eD2⟩ := hq
          refine ⟨_, _, rfl, lstAt eD2, ?_⟩
          rw [el, List.take_length, all_id]
          have := q _ (s12.trans s3)
          rwa [show bidsB zs ds = (ds.all fun d => decide (0 ≤ d.2) && decide (d.2 ≤ 1000000000)) by unfold bidsB; rw [hp, Bool.true_and]] at this
      · rw [Bool.eq_false_iff.mpr hp]
        refine ⟨_, rfl, iteF ?_⟩
        have := q _ s12
        rwa [show bidsB zs ds = false by unfold bidsB; rw [Bool.eq_false_iff.mpr hp, Bool.false_and]] at this
end
end TK

/-! the checks of a book, that may raise -/
namespace TK
open PySem PySem.Spec PyProof.Rows L2 NdefX
inductive Flt where
  | count (n : Int)
  | bad (x : Nam)
  | dbl (x : Nam)
  | book (p : Str) (i : Int)
/-- the classes of the faults -/
structure Ec where
  cc : Addr
  cn : Addr
  cd : Addr
  cb : Addr
def Flt.c (e : Ec) : Flt → Addr
  | .count _ => e.cc
  | .bad _ => e.cn
  | .dbl _ => e.cd
  | .book _ _ => e.cb
def Flt.fs : Flt → List (Str × V)
  | .count n => [("size", .int n)]
  | .bad x => [("name", vN x)]
  | .dbl x => [("name", vN x)]
  | .book p i => [("place", .int i), ("part", .str p)]
def Raised (e : Ec) (fl : Flt) (H : Hp) (E : XK) : Prop := ∀ H' d, H d = none → Same H H' → H' d = some (.xd fl.fs) → E (.ref (fl.c e)) (some d) H'
theorem Raised.go {e : Ec} {fl : Flt} {H H1 : Hp} {E : XK} (r : Raised e fl H E) (s : Same H H1) : Raised e fl H1 E := fun H' d nd s1 ed => r H' d (none_of s nd) (s.trans s1) ed
/-- what follows a check -/
def After (e : Ec) (o : Option Flt) (H : Hp) (Q : VK) (E : XK) : Prop := match o with
  | none => ∀ H', Same H H' → Q .non H'
  | some fl => Raised e fl H E
theorem After.go {e : Ec} {o : Option Flt} {H H1 : Hp} {Q : VK} {E : XK} (a : After e o H Q E) (s : Same H H1) : After e o H1 Q E := by
  cases o with
  | none => exact fun H' s1 => a H' (s.trans s1)
  | some fl => exact Raised.go a s
/-- a text that can be told -/
def WOk (x : Nam) : Prop := x.length ≤ 100 ∧ ∀ c ∈ x, c < 128
abbrev okN36 : V → Prop := fun v => ∃ x : Nam, v = vN x ∧ (reprText (sOf x)).length ≤ 1002
abbrev okB36 : V → Prop := fun v => ∃ p : Str, v = .str p ∧ p.length ≤ 100
theorem wok_ok {x : Nam} (h : WOk x) : okN36 (vN x) := ⟨x, rfl, by
  have := PySem.StrLaws.reprText_len (sOf x) fun c m => Nat.lt_trans (h.2 c m) (by decide)
  rw [sOf_len] at this
  have := h.1
  omega⟩
def goN : List Nam → List Nam → Option Flt
  | _, [] => none
  | seen, x :: r => if nmB x = false then some (.bad x) else if x ∈ seen then some (.dbl x) else goN (seen ++ [x]) r
def faultN (most : Int) (zs : List Nam) : Option Flt := if 1 ≤ (zs.length : Int) ∧ (zs.length : Int) ≤ most then goN [] zs else some (.count zs.length)
section
variable {P : Program} {w : World} {K : PySem.W.Frag} {mg : Str → Option Value} {base : Heap}
def spSizeX (e : Ec) : Sp := fun vs H Q E => ∃ a lo hi : Int, vs = [.int a, .int lo, .int hi] ∧ After e (if lo ≤ a ∧ a ≤ hi then none else some (.count a)) H Q E
theorem ok_check_sizeX {f fB : Addr} {e : Ec} {fd fdB : FuncData} (F : Fun K "check_size" "check_size" s_check_size f fd) (TC : SupT P w K mg base "BadCount" "size" "size" (fun _ => True) e.cc fB fdB) : FnOk P w K mg base (L2.CX P w) 3 f fd ["size", "low", "high"] (spSizeX e) := by
  refine F.okX sc_check_size (fun vs H Q E h => ?_) (fun cdv A outer s H vs Q E hr h => ?_)
  · obtain ⟨a, lo, hi, rfl, _⟩ := h
    rfl
  · obtain ⟨a, lo, hi, rfl, q⟩ := h
    refine ⟨_, (pss_one (ps_if (pt_not (pt_chain op_le op_le (pv 1) (pv 0) (pv 2))) (pss_one (ps_raiseSup rfl TC (hr.mono (by decide)) (takes_of rfl rfl rfl rfl) (pa_cons (pv 0) pa_nil) (by rfl))) pss_nil)), ?_⟩
    refine ⟨_, rfl, _, rfl, _, _, rfl, rfl, _, rfl, ?_⟩
    have no : ¬ (lo ≤ a ∧ a ≤ hi) → Raised e (.count a) H E := fun h => by rw [if_neg h] at q; exact q
    by_cases h1 : lo ≤ a
    · rw [decide_eq_true h1]
      refine iteT ⟨_, rfl, _, _, rfl, rfl, _, rfl, ?_⟩
      by_cases h2 : a ≤ hi
      · rw [decide_eq_true h2]
        rw [if_pos ⟨h1, h2⟩] at q
        exact iteF (q _ (Same.refl _))
      · rw [decide_eq_false h2]
        exact iteT ⟨_, rfl, sup_read trivial fun d nd => no (fun z => h2 z.2) _ d nd (same_upd nd) upd_same⟩
    · rw [decide_eq_false h1]
      exact iteF ⟨_, rfl, iteT ⟨_, rfl, sup_read trivial fun d nd => no (fun z => h1 z.1) _ d nd (same_upd nd) upd_same⟩⟩
def spNamesX (K : PySem.W.Frag) (e : Ec) : Sp := fun vs H Q E => ∃ (a : Addr) (m : Int) (zs : List Nam), vs = [.ref a, .int m, .bl false] ∧ SqS K H a (zs.map vN) ∧ zs.length ≤ 100 ∧ (∀ z ∈ zs, WOk z) ∧ After e (faultN m zs) H Q E
theorem goN_step {zs : List Nam} {i : Nat} {x : Nam} (h : zs[i]? = some x) : goN (zs.take i) (zs.drop i) = if nmB x = false then some (.bad x) else if x ∈ zs.take i then some (.dbl x) else goN (zs.take (i + 1)) (zs.drop (i + 1)) := by
  have hi := (List.getElem?_eq_some_iff.mp h).1
  have e : zs.drop i = x :: zs.drop (i + 1) := by
    rw [List.drop_eq_getElem_cons hi]
    rw [List.getElem?_eq_getElem hi] at h
    rw [Option.some.inj h]
  rw [e, List.take_add_one, h]
  rfl
theorem ok_check_namesX {f fS fN fD : Addr} {e : Ec} {fd fdS fdN fdD : FuncData} {dvs : List V} {kws : List (Str × V)} (F : FunD K "check_names" "check_names" (defArgs s_check_names) (defBody s_check_names) (defScope s_check_names) dvs kws f fd) (m_len : mg "len" = none) (m_enumerate : mg "enumerate" = none)
    (TN : SupT P w K mg base "BadName" "name" "name" okN36 e.cn fN fdN) (TD : SupT P w K mg base "DoubledName" "name" "name" okN36 e.cd fD fdD)
    (G_check_size : FnOk P w K mg base (L2.CX P w) 3 fS fdS ["size", "low", "high"] (spSizeX e)) (g_check_size : mg "check_size" = some (.ref fS)) (k_check_size : PySem.W.keepIn K (.ref fS) = true) (b_check_size : Binds K fdS ["size", "low", "high"] []) (d_is_name : Def P w K mg base "is_name" 1 ["word"] spIsNameB) :
    FnOk P w K mg base (L2.CX P w) 4 f fd ["names", "most", "hook"] (spNamesX K e) := by
  refine F.ok (CX := L2.CX P w) sc_check_names (fun vs H Q E h => ?_) (fun cdv A outer s H vs Q E hr h => ?_)
  · obtain ⟨a, m, zs, rfl, _⟩ := h
    rfl
  · obtain ⟨a, m, zs, rfl, hS, l100, wk, q⟩ := h
    have zl : (zs.map vN).length = zs.length := List.length_map ..
    have size : ∀ (H1 : Hp) (N : VK), Same H H1 → (∀ H2, Same H H2 → 1 ≤ (zs.length : Int) → (zs.length : Int) ≤ m → After e (goN [] zs) H Q E → N .non H2) → After e (if (1 : Int) ≤ (((zs.map vN).length : Nat) : Int) ∧ (((zs.map vN).length : Nat) : Int) ≤ m then none else some (.count (((zs.map vN).length : Nat) : Int))) H1 N E := fun H1 N s1 k => by
      rw [zl]
      unfold faultN at q
      by_cases h : 1 ≤ (zs.length : Int) ∧ (zs.length : Int) ≤ m
      · rw [if_pos h] at q ⊢
        exact fun H2 s2 => k H2 (s1.trans s2) h.1 h.2 q
      · rw [if_neg h] at q ⊢
        exact q.go s1
    rcases hS with hS | hS
    · refine ⟨_, (pss_cons (ps_expr (pe_callS (E := fun _ => E) G_check_size (hr.mono (by decide)) (by rfl) g_check_size k_check_size b_check_size (fun σ => passAt (takes_of rfl rfl rfl rfl) σ) (pa_cons (pe_callB call_len_seq (by rfl) m_len (by decide +kernel) (pa_cons (pv 0) pa_nil)) (pa_cons pe_int (pa_cons (pv 1) pa_nil)))))
  (pss_one (ps_for (passes_of rfl) rfl (pi_enum (by rfl) m_enumerate (pa_cons (pv 0) pa_nil)) (pg_tup (by rfl) (pgs_cons (pg_name (i := 3) sc_check_names.nd rfl (.inl rfl)) (pgs_cons (pg_name (i := 4) sc_check_names.nd rfl (.inl rfl)) pgs_nil)))
    (pss_cons (ps_if (PW.pt (pw_and (pt_not (pt_val (pe_callD d_is_name (hr.mono (by decide)) (by rfl) (pa_cons (pv 4) pa_nil)))) (pw_and1 (pt_not (PW.pt (pw_and (pt_val (pv 2)) (pw_and1 (pt_cmpR op_eq (pv 4) pe_str (nomark _))))))))) (pss_one (ps_raiseSup rfl TN (hr.mono (by decide)) (takes_of rfl rfl rfl rfl) (pa_cons (pv 4) pa_nil) (by rfl))) pss_nil)
  (pss_one (ps_if (pt_cmpR op_in_seq (pv 4) (pe_slice sl_list (pv 0) po_none (po_some (pv 3))) (by rfl)) (pss_one (ps_raiseSup rfl TD (hr.mono (by decide)) (takes_of rfl rfl rfl rfl) (pa_cons (pv 4) pa_nil) (by rfl))) pss_nil)))))), ?_⟩
      refine ⟨_, rfl, _, _, rfl, .inl hS, _, rfl, _, _, _, rfl, size H _ (Same.refl H) fun H1 s1 z1 z2 q => ?_⟩
      refine ⟨_, rfl, _, _, rfl, s1.seq hS, for_it walk_enum (fun i σ H2 => Same H H2 ∧ After e (goN (zs.take i) (zs.drop i)) H Q E ∧ ∃ y1 y2 : Option V, σ = [some (.ref a), some (.int m), some (.bl false), y1, y2]) ⟨s1, q, _, _, rfl⟩ (fun i σ H2 _ hp => hp.1.seq hS) ?_ ?_⟩
      · rintro i x σ H2 H3 hi ⟨sm, q, y1, y2, rfl⟩ ⟨T, v1, v2, rfl, nT, rfl, e1, e2⟩
        cases e1
        obtain ⟨z, ez, rfl⟩ := vN_at e2
        have mz := List.mem_of_getElem? ez
        rw [goN_step ez] at q
        have sm3 := sm.trans (same_upd (o := .tup [.int (i : Nat), vN z]) nT)
        refine ⟨_, _, rfl, tupAt upd_same, rfl, _, _, rfl, _, _, rfl, rfl, ?_⟩
        refine ⟨_, rfl, z, rfl, Nat.le_trans (wk z mz).1 (by decide), fun H4 s4 => ⟨_, rfl, ?_⟩⟩
        have sm4 := sm3.trans s4
        cases hb : nmB z with
        | false =>
          rw [if_pos hb] at q
          refine iteT ⟨_, rfl, _, rfl, iteF (iteT ⟨_, rfl, sup_read (wok_ok (wk z mz)) fun d nd => ?_⟩)⟩
          exact (Raised.go q sm4) _ d nd (same_upd nd) upd_same
        | true =>
          rw [if_neg (by rw [hb]; decide)] at q
          refine iteF (iteF ?_)
          refine ⟨_, rfl, _, rfl, _, rfl, _, rfl, _, _, rfl, sm4.seq hS, fun p np => ?_⟩
          rw [cut_names]
          have sp := same_upd (o := .lst ((zs.take i).map vN)) np
          refine ⟨p, _, rfl, .inl (lstAt upd_same), rfl, nms_flat _, _, rfl, ?_⟩
          rw [in_nm]
          by_cases hm : z ∈ zs.take i
          · rw [if_pos hm] at q
            rw [decide_eq_true hm]
            refine iteT ⟨_, rfl, sup_read (wok_ok (wk z mz)) fun d nd => ?_⟩
            exact (Raised.go q (sm4.trans sp)) _ d nd (same_upd nd) upd_same
          · rw [if_neg hm] at q
            rw [decide_eq_false hm]
            exact iteF ⟨sm4.trans sp, q, _, _, rfl⟩
      · rintro σ H2 ⟨sm, q, y1, y2, rfl⟩
        rw [zl, List.drop_length] at q
        exact q _ sm
    · refine ⟨_, (pss_cons (ps_expr (pe_callS (E := fun _ => E) G_check_size (hr.mono (by decide)) (by rfl) g_check_size k_check_size b_check_size (fun σ => passAt (takes_of rfl rfl rfl rfl) σ) (pa_cons (pe_callB call_len_seq (by rfl) m_len (by decide +kernel) (pa_cons (pv 0) pa_nil)) (pa_cons pe_int (pa_cons (pv 1) pa_nil)))))
  (pss_one (ps_for (passes_of rfl) rfl (pi_enumT (by rfl) m_enumerate (pa_cons (pv 0) pa_nil)) (pg_tup (by rfl) (pgs_cons (pg_name (i := 3) sc_check_names.nd rfl (.inl rfl)) (pgs_cons (pg_name (i := 4) sc_check_names.nd rfl (.inl rfl)) pgs_nil)))
    (pss_cons (ps_if (PW.pt (pw_and (pt_not (pt_val (pe_callD d_is_name (hr.mono (by decide)) (by rfl) (pa_cons (pv 4) pa_nil)))) (pw_and1 (pt_not (PW.pt (pw_and (pt_val (pv 2)) (pw_and1 (pt_cmpR op_eq (pv 4) pe_str (nomark _))))))))) (pss_one (ps_raiseSup rfl TN (hr.mono (by decide)) (takes_of rfl rfl rfl rfl) (pa_cons (pv 4) pa_nil) (by rfl))) pss_nil)
  (pss_one (ps_if (pt_cmpR op_in_seq (pv 4) (pe_slice sl_tup (pv 0) po_none (po_some (pv 3))) (by rfl)) (pss_one (ps_raiseSup rfl TD (hr.mono (by decide)) (takes_of rfl rfl rfl rfl) (pa_cons (pv 4) pa_nil) (by rfl))) pss_nil)))))), ?_⟩
      refine ⟨_, rfl, _, _, rfl, .inr hS, _, rfl, _, _, _, rfl, size H _ (Same.refl H) fun H1 s1 z1 z2 q => ?_⟩
      refine ⟨_, rfl, _, _, rfl, same_tup s1 hS, for_it walk_enumT (fun i σ H2 => Same H H2 ∧ After e (goN (zs.take i) (zs.drop i)) H Q E ∧ ∃ y1 y2 : Option V, σ = [some (.ref a), some (.int m), some (.bl false), y1, y2]) ⟨s1, q, _, _, rfl⟩ (fun i σ H2 _ hp => same_tup hp.1 hS) ?_ ?_⟩
      · rintro i x σ H2 H3 hi ⟨sm, q, y1, y2, rfl⟩ ⟨T, v1, v2, rfl, nT, rfl, e1, e2⟩
        cases e1
        obtain ⟨z, ez, rfl⟩ := vN_at e2
        have mz := List.mem_of_getElem? ez
        rw [goN_step ez] at q
        have sm3 := sm.trans (same_upd (o := .tup [.int (i : Nat), vN z]) nT)
        refine ⟨_, _, rfl, tupAt upd_same, rfl, _, _, rfl, _, _, rfl, rfl, ?_⟩
        refine ⟨_, rfl, z, rfl, Nat.le_trans (wk z mz).1 (by decide), fun H4 s4 => ⟨_, rfl, ?_⟩⟩
        have sm4 := sm3.trans s4
        cases hb : nmB z with
        | false =>
          rw [if_pos hb] at q
          refine iteT ⟨_, rfl, _, rfl, iteF (iteT ⟨_, rfl, sup_read (wok_ok (wk z mz)) fun d nd => ?_⟩)⟩
          exact (Raised.go q sm4) _ d nd (same_upd nd) upd_same
        | true =>
          rw [if_neg (by rw [hb]; decide)] at q
          refine iteF (iteF ?_)
          refine ⟨_, rfl, _, rfl, _, rfl, _, rfl, _, _, rfl, same_tup sm4 hS, (by rintro ⟨_, hw⟩; rw [HT.sIx_nat] at hw; have hi' : i < (zs.map vN).length := hi; omega), fun p np => ?_⟩
          rw [cut_names]
          have sp := same_upd (o := .tup ((zs.take i).map vN)) np
          refine ⟨p, _, rfl, .inr (tupAt upd_same), rfl, nms_flat _, _, rfl, ?_⟩
          rw [in_nm]
          by_cases hm : z ∈ zs.take i
          · rw [if_pos hm] at q
            rw [decide_eq_true hm]
            refine iteT ⟨_, rfl, sup_read (wok_ok (wk z mz)) fun d nd => ?_⟩
            exact (Raised.go q (sm4.trans sp)) _ d nd (same_upd nd) upd_same
          · rw [if_neg hm] at q
            rw [decide_eq_false hm]
            exact iteF ⟨sm4.trans sp, q, _, _, rfl⟩
      · rintro σ H2 ⟨sm, q, y1, y2, rfl⟩
        rw [zl, List.drop_length] at q
        exact q _ sm
end
end TK

/-! the checks of a book's pages and ends, that may raise -/
namespace TK
open PySem PySem.Spec PyProof.Rows L2 NdefX
def pgBad (zs seen : List Nam) (d : PgD) : Bool := !nmB d.nm || (decide (d.nm ∈ seen) || !bidsB zs d.bids)
def goP (zs : List Nam) : Int → List Nam → List PgD → Option Flt
  | _, _, [] => none
  | i, seen, d :: r => if pgBad zs seen d = true then some (.book "page" i) else goP zs (i + 1) (seen ++ [d.nm]) r
def goF (ns : List Nam) : Int → List PgD → Option Flt
  | _, [] => none
  | i, d :: r => if picksB d.fol ns = false then some (.book "followers" i) else goF ns (i + 1) r
def orF (a b : Option Flt) : Option Flt := match a with
  | none => b
  | some x => some x
def faultP (zs : List Nam) (ds : List PgD) : Option Flt := if 1 ≤ (ds.length : Int) ∧ (ds.length : Int) ≤ 4 then orF (goP zs 0 [] ds) (goF (ds.map (·.nm)) 0 ds) else some (.book "pages" 0)
def faultE (ns ss hs : List Nam) : Option Flt := if ss = [] ∨ picksB ss ns = false then some (.book "starts" 0) else if picksB hs ns = false then some (.book "home" 0) else none
/-- pages that can be told -/
def PgW (ds : List PgD) : Prop := ds.length ≤ 20 ∧ ∀ d ∈ ds, WOk d.nm ∧ d.bids.length < 64 ∧ d.fol.length < 64
theorem goP_step {zs : List Nam} {ds : List PgD} {i : Nat} {d : PgD} (h : ds[i]? = some d) : goP zs (i : Int) ((ds.map (·.nm)).take i) (ds.drop i) = if pgBad zs ((ds.map (·.nm)).take i) d = true then some (.book "page" i) else goP zs ((i + 1 : Nat) : Int) ((ds.map (·.nm)).take (i + 1)) (ds.drop (i + 1)) := by
  have hi := (List.getElem?_eq_some_iff.mp h).1
  have e : ds.drop i = d :: ds.drop (i + 1) := by
    rw [List.drop_eq_getElem_cons hi]
    rw [List.getElem?_eq_getElem hi] at h
    rw [Option.some.inj h]
  rw [e, List.take_add_one, List.getElem?_map, h]
  rfl
theorem goF_step {ns : List Nam} {ds : List PgD} {i : Nat} {d : PgD} (h : ds[i]? = some d) : goF ns (i : Int) (ds.drop i) = if picksB d.fol ns = false then some (.book "followers" i) else goF ns ((i + 1 : Nat) : Int) (ds.drop (i + 1)) := by
  have hi := (List.getElem?_eq_some_iff.mp h).1
  have e : ds.drop i = d :: ds.drop (i + 1) := by
    rw [List.drop_eq_getElem_cons hi]
    rw [List.getElem?_eq_getElem hi] at h
    rw [Option.some.inj h]
  rw [e]
  rfl
theorem okB_lit {p : Str} (h : p.length ≤ 100 := by decide) : okB36 (.str p) := ⟨p, rfl, h⟩
section
variable {P : Program} {w : World} {K : PySem.W.Frag} {mg : Str → Option Value} {base : Heap}
def spPagesX (K : PySem.W.Frag) (e : Ec) : Sp := fun vs H Q E => ∃ (a b : Addr) (zs : List Nam) (ps : List Addr) (ds : List PgD), vs = [.ref a, .ref b] ∧ SqL K H a (zs.map vN) ∧ SqL K H b (ps.map V.ref) ∧ PgsIn K H ps ds ∧ PgW ds ∧ After e (faultP zs ds) H Q E
theorem ok_check_pagesX {f fB : Addr} {e : Ec} {fd fdB : FuncData} (F : Fun K "_check_pages" "_check_pages" s_check_pages f fd) (m_len : mg "len" = none) (m_enumerate : mg "enumerate" = none) (TB : SupT2 P w K mg base "BadBook" "part" "part" "place" "place" okB36 e.cb fB fdB) (d_is_name : Def P w K mg base "is_name" 1 ["word"] spIsNameB)
    (d_are_picks : Def P w K mg base "_are_picks" 1 ["picks", "known"] (spArePicksB K)) (d_are_bids : Def P w K mg base "_are_bids" 2 ["bids", "members"] (spAreBidsB K)) : FnOk P w K mg base (L2.CX P w) 3 f fd ["members", "pages"] (spPagesX K e) := by
  refine F.okX sc_check_pages (fun vs H Q E h => ?_) (fun cdv A outer s H vs Q E hr h => ?_)
  · obtain ⟨a, b, zs, ps, ds, rfl, _⟩ := h
    rfl
  · obtain ⟨a, b, zs, ps, ds, rfl, hA, hB, hT, ⟨l20, wk⟩, q⟩ := h
    have pl : (ps.map V.ref).length = ds.length := by rw [List.length_map, hT.1]
    unfold faultP at q
    have no : ∀ {H' : Hp}, Same H H' → ¬ (1 ≤ (ds.length : Int) ∧ (ds.length : Int) ≤ 4) → Raised e (.book "pages" 0) H' E := fun s h => by rw [if_neg h] at q; exact Raised.go q s
    refine ⟨_, (pss_cons (ps_if (pt_not (pt_chain op_le op_le pe_int (pe_callB call_len_seq (by rfl) m_len (by decide +kernel) (pa_cons (pv 1) pa_nil)) pe_int)) (pss_one (ps_raiseSup2 rfl TB (hr.mono (by decide)) (takes_of rfl rfl rfl rfl) (pa_cons pe_str (pa_cons pe_int pa_nil)) (by rfl))) pss_nil)
  (pss_cons (ps_setLc (i := 2) (own := [("page", 8)]) (by rfl) sc_check_pages.nd rfl rfl (sw_true rfl rfl rfl (by decide +kernel)) (pi_list (pv 1)) (blkOk_by (N := ["members", "pages", "names", "at", "name", "bids", "_", "followers", "page"]) (sc := defScope s_check_pages) (by decide +kernel)) (fun _ _ _ _ _ => (pg_name (i := 8) sc_check_pages.nd rfl (.inl rfl))) (fun _ _ _ _ _ => pts_nil) (fun _ _ _ _ _ => (pe_ix (ix_tupK (K := K) rfl) (pv 8) pe_int (fun _ _ => rfl))))
  (pss_cons (ps_for (passes_of rfl) rfl (pi_enum (by rfl) m_enumerate (pa_cons (pv 1) pa_nil)) (pg_tup (by rfl) (pgs_cons (pg_name (i := 3) sc_check_pages.nd rfl (.inl rfl)) (pgs_cons (pg_tup (by rfl) (pgs_cons (pg_name (i := 4) sc_check_pages.nd rfl (.inl rfl)) (pgs_cons (pg_name (i := 5) sc_check_pages.nd rfl (.inl rfl)) (pgs_cons (pg_name (i := 6) sc_check_pages.nd rfl (.inl rfl)) pgs_nil)))) pgs_nil)))
    (pss_one (ps_if (PW.pt (pw_or (pt_not (pt_val (pe_callD d_is_name (hr.mono (by decide)) (by rfl) (pa_cons (pv 4) pa_nil)))) (pw_or (pt_cmpR op_in_seq (pv 4) (pe_slice sl_list (pv 2) po_none (po_some (pv 3))) (by rfl)) (pw_or1 (pt_not (pt_val (pe_callD d_are_bids (hr.mono (by decide)) (by rfl) (pa_cons (pv 5) (pa_cons (pv 0) pa_nil))))))))) (pss_one (ps_raiseSup2 rfl TB (hr.mono (by decide)) (takes_of rfl rfl rfl rfl) (pa_cons pe_str (pa_cons (pv 3) pa_nil)) (by rfl))) pss_nil)))
  (pss_one (ps_for (passes_of rfl) rfl (pi_enum (by rfl) m_enumerate (pa_cons (pv 1) pa_nil)) (pg_tup (by rfl) (pgs_cons (pg_name (i := 3) sc_check_pages.nd rfl (.inl rfl)) (pgs_cons (pg_tup (by rfl) (pgs_cons (pg_name (i := 6) sc_check_pages.nd rfl (.inl rfl)) (pgs_cons (pg_name (i := 6) sc_check_pages.nd rfl (.inl rfl)) (pgs_cons (pg_name (i := 7) sc_check_pages.nd rfl (.inl rfl)) pgs_nil)))) pgs_nil)))
    (pss_one (ps_if (pt_not (pt_val (pe_callD d_are_picks (hr.mono (by decide)) (by rfl) (pa_cons (pv 7) (pa_cons (pv 2) pa_nil))))) (pss_one (ps_raiseSup2 rfl TB (hr.mono (by decide)) (takes_of rfl rfl rfl rfl) (pa_cons pe_str (pa_cons (pv 3) pa_nil)) (by rfl))) pss_nil))))))), ?_⟩
    refine ⟨_, rfl, b, _, rfl, .inl hB, _, _, rfl, rfl, _, rfl, ?_⟩
    rw [pl]
    by_cases h1 : (1 : Int) ≤ (ds.length : Nat)
    rotate_left
    · rw [decide_eq_false h1]
      exact iteF ⟨_, rfl, iteT (sup_read2 okB_lit fun d nd => no (Same.refl _) (fun z => h1 z.1) _ d nd (same_upd nd) upd_same)⟩
    rw [decide_eq_true h1]
    refine iteT ⟨_, _, rfl, rfl, _, rfl, ?_⟩
    by_cases h4 : ((ds.length : Nat) : Int) ≤ 4
    rotate_left
    · rw [decide_eq_false h4]
      exact iteT (sup_read2 okB_lit fun d nd => no (Same.refl _) (fun z => h4 z.2) _ d nd (same_upd nd) upd_same)
    rw [decide_eq_true h4]
    refine iteF ?_
    clear no
    rw [if_pos ⟨h1, h4⟩] at q
    refine ⟨_, rfl, b, rfl, ⟨_, hB⟩, fun D nD => ?_⟩
    refine lc_list (K := K) (a := b) (xs := ps.map V.ref) (fun i H' => Same H H' ∧ H' D = some (.lst (((ds.map (·.nm)).take i).map vN))) ⟨same_upd nD, upd_same⟩ (fun i H' _ hq => hq.1.seq hB) (fun i v H' hv hq => ?_) (fun H1 hq => ?_)
    · obtain ⟨s1, eD⟩ := hq
      obtain ⟨p, d, rfl, ed, ⟨b1, f1, es, he, _⟩⟩ := pgs_at (hT.same s1) hv
      have hi := (List.getElem?_eq_some_iff.mp ed).1
      refine ⟨rfl, yesT ⟨_, rfl, _, _, 0, vN d.nm, rfl, rfl, tupAt he, atI_in (by decide) rfl, _, eD, by rw [List.length_map, List.length_take, List.length_map]; exact small1000 (by omega), same_at s1 nD, ?_⟩⟩
      rw [List.take_add_one, List.getElem?_map, ed, List.map_append]
      exact upd_same
    obtain ⟨s1, eD⟩ := hq
    rw [pl, show ds.length = (ds.map (·.nm)).length from (List.length_map ..).symm, List.take_length] at eD
    refine ⟨_, rfl, _, _, rfl, s1.seq hB, for_it walk_enum (fun i σ H2 => Same H1 H2 ∧ After e (orF (goP zs (i : Int) ((ds.map fun x : PgD => x.nm).take i) (ds.drop i)) (goF (ds.map fun x : PgD => x.nm) 0 ds)) H Q E ∧ ∃ y3 y4 y5 y6 y7 : Option V, σ = [some (.ref a), some (.ref b), some (.ref D), y3, y4, y5, y6, y7, none]) ⟨Same.refl _, q, _, _, _, _, _, rfl⟩ (fun i σ H2 _ hp => (s1.trans hp.1).seq hB) ?_ ?_⟩
    · rintro i x σ H2 H3 hi ⟨s2, q, y3, y4, y5, y6, y7, rfl⟩ ⟨T, v1, v2, rfl, nT, rfl, e1, e2⟩
      cases e1
      have s12 := s1.trans s2
      obtain ⟨p, d, rfl, ed, ⟨b1, f1, es, he, hb, hbs, hf⟩⟩ := pgs_at (hT.same s12) e2
      have md := List.mem_of_getElem? ed
      rw [goP_step ed] at q
      have sT := same_upd (o := .tup [.int (i : Nat), .ref p]) nT
      have sm := s12.trans sT
      have bad : ∀ {H' : Hp}, Same H H' → pgBad zs ((ds.map (·.nm)).take i) d = true → Raised e (.book "page" i) H' E := fun s h => by rw [if_pos h] at q; exact Raised.go q s
      refine ⟨_, _, rfl, tupAt upd_same, rfl, _, _, rfl, _, _, rfl, _, _, rfl, tupAt (sT _ _ he), rfl, _, _, rfl, _, _, rfl, _, _, rfl, rfl, rfl, ?_⟩
      refine ⟨_, rfl, d.nm, rfl, Nat.le_trans (wk d md).1.1 (by decide), fun H4 s4 => ⟨_, rfl, ?_⟩⟩
      have sm4 := sm.trans s4
      cases hn : nmB d.nm with
      | false =>
        exact iteT ⟨_, rfl, sup_read2 okB_lit fun d' nd => bad sm4 (by unfold pgBad; rw [hn]; rfl) _ d' nd (same_upd nd) upd_same⟩
      | true =>
      refine iteF ?_
      refine ⟨_, rfl, _, rfl, _, rfl, _, rfl, _, _, rfl, lstAt (s4 _ _ (sT _ _ (s2 _ _ eD))), fun q2 nq2 => ?_⟩
      rw [cut_names]
      have s5 := same_upd (o := .lst (((ds.map (·.nm)).take i).map vN)) nq2
      have sm5 := sm4.trans s5
      refine ⟨q2, _, rfl, .inl (lstAt upd_same), rfl, nms_flat _, _, rfl, ?_⟩
      rw [in_nm]
      by_cases hm : d.nm ∈ (ds.map (·.nm)).take i
      · rw [decide_eq_true hm]
        exact iteT ⟨_, rfl, sup_read2 okB_lit fun d' nd => bad sm5 (by unfold pgBad; rw [decide_eq_true hm, Bool.true_or, Bool.or_true]) _ d' nd (same_upd nd) upd_same⟩
      rw [decide_eq_false hm]
      refine iteF ?_
      have t3 : Same H2 (upd H4 q2 (.lst (((ds.map (·.nm)).take i).map vN))) := sT.trans (s4.trans s5)
      refine ⟨_, rfl, _, rfl, b1, a, zs, es, d.bids, rfl, t3.seq hb, hbs.same t3, .inl (sm5.seq hA), (wk d md).2.1, fun H6 s6 => ⟨_, rfl, ?_⟩⟩
      have sm6 := sm5.trans s6
      cases hbb : bidsB zs d.bids with
      | false => exact iteT ⟨_, rfl, sup_read2 okB_lit fun d' nd => bad sm6 (by unfold pgBad; rw [hbb, Bool.not_false, Bool.or_true, Bool.or_true]) _ d' nd (same_upd nd) upd_same⟩
      | true =>
        have hok : pgBad zs ((ds.map (·.nm)).take i) d = false := by unfold pgBad; rw [hn, hbb, decide_eq_false hm]; rfl
        rw [if_neg (by rw [hok]; decide)] at q
        exact iteF ⟨s2.trans (t3.trans s6), q, _, _, _, _, _, rfl⟩
    · rintro σ H2 ⟨s2, q, y3, y4, y5, y6, y7, rfl⟩
      rw [pl, List.drop_length] at q
      have q : After e (goF (ds.map (·.nm)) 0 ds) H Q E := q
      have s12 := s1.trans s2
      refine ⟨_, rfl, _, _, rfl, s12.seq hB, for_it walk_enum (fun i σ H3 => Same H2 H3 ∧ After e (goF (ds.map fun x : PgD => x.nm) (i : Int) (ds.drop i)) H Q E ∧ ∃ y3 y6 y7 : Option V, σ = [some (.ref a), some (.ref b), some (.ref D), y3, y4, y5, y6, y7, none]) ⟨Same.refl _, q, _, _, _, rfl⟩ (fun i σ H3 _ hp => (s12.trans hp.1).seq hB) ?_ ?_⟩
      · rintro i x σ H3 H4 hi ⟨s3, q, y3, y6, y7, rfl⟩ ⟨T, v1, v2, rfl, nT, rfl, e1, e2⟩
        cases e1
        have s13 := s12.trans s3
        obtain ⟨p, d, rfl, ed, ⟨b1, f1, es, he, hb, hbs, hf⟩⟩ := pgs_at (hT.same s13) e2
        have md := List.mem_of_getElem? ed
        rw [goF_step ed] at q
        have sT := same_upd (o := .tup [.int (i : Nat), .ref p]) nT
        refine ⟨_, _, rfl, tupAt upd_same, rfl, _, _, rfl, _, _, rfl, _, _, rfl, tupAt (sT _ _ he), rfl, _, _, rfl, _, _, rfl, _, _, rfl, rfl, rfl, ?_⟩
        refine ⟨_, rfl, _, rfl, f1, D, d.fol, ds.map (·.nm), rfl, sT.seq hf, .inl (lstAt (sT _ _ (s3 _ _ (s2 _ _ eD)))), (wk d md).2.2, fun H5 s5 => ⟨_, rfl, ?_⟩⟩
        have sm5 := (s13.trans sT).trans s5
        cases hp : picksB d.fol (ds.map (·.nm)) with
        | false =>
          rw [if_pos hp] at q
          exact iteT ⟨_, rfl, sup_read2 okB_lit fun d' nd => (Raised.go q sm5) _ d' nd (same_upd nd) upd_same⟩
        | true =>
          rw [if_neg (by rw [hp]; decide)] at q
          exact iteF ⟨s3.trans (sT.trans s5), q, _, _, _, rfl⟩
      · rintro σ H3 ⟨s3, q, y3, y6, y7, rfl⟩
        rw [pl, List.drop_length] at q
        exact q _ (s12.trans s3)
def spEndsX (K : PySem.W.Frag) (e : Ec) : Sp := fun vs H Q E => ∃ (a b c : Addr) (ns ss hs : List Nam), vs = [.ref a, .ref b, .ref c] ∧ SqS K H a (ns.map vN) ∧ SqL K H b (ss.map vN) ∧ SqL K H c (hs.map vN) ∧ ss.length < 64 ∧ hs.length < 64 ∧ After e (faultE ns ss hs) H Q E
theorem ok_check_endsX {f fB : Addr} {e : Ec} {fd fdB : FuncData} (F : Fun K "_check_ends" "_check_ends" s_check_ends f fd) (m_len : mg "len" = none) (TB : SupT2 P w K mg base "BadBook" "part" "part" "place" "place" okB36 e.cb fB fdB) (d_are_picks : Def P w K mg base "_are_picks" 1 ["picks", "known"] (spArePicksB K)) : FnOk P w K mg base (L2.CX P w) 3 f fd ["names", "starts", "home"] (spEndsX K e) := by
  refine F.okX sc_check_ends (fun vs H Q E h => ?_) (fun cdv A outer s H vs Q E hr h => ?_)
  · obtain ⟨a, b, c, ns, ss, hs, rfl, _⟩ := h
    rfl
  · obtain ⟨a, b, c, ns, ss, hs, rfl, hA, hB, hC, ls, lh, q⟩ := h
    refine ⟨_, (pss_cons (ps_if (PW.pt (pw_or (pt_cmpR op_eq (pe_callB call_len_seq (by rfl) m_len (by decide +kernel) (pa_cons (pv 1) pa_nil)) pe_int (nomark _)) (pw_or1 (pt_not (pt_val (pe_callD d_are_picks (hr.mono (by decide)) (by rfl) (pa_cons (pv 1) (pa_cons (pv 0) pa_nil)))))))) (pss_one (ps_raiseSup2 rfl TB (hr.mono (by decide)) (takes_of rfl rfl rfl rfl) (pa_cons pe_str (pa_cons pe_int pa_nil)) (by rfl))) pss_nil)
  (pss_one (ps_if (pt_not (pt_val (pe_callD d_are_picks (hr.mono (by decide)) (by rfl) (pa_cons (pv 2) (pa_cons (pv 0) pa_nil))))) (pss_one (ps_raiseSup2 rfl TB (hr.mono (by decide)) (takes_of rfl rfl rfl rfl) (pa_cons pe_str (pa_cons pe_int pa_nil)) (by rfl))) pss_nil))), ?_⟩
    unfold faultE at q
    have sl : V.int (((ss.map vN).length : Nat) : Int) = V.int 0 ↔ ss = [] := by
      rw [List.length_map]
      exact ⟨fun z => List.eq_nil_of_length_eq_zero (by have := V.int.inj z; omega), fun z => by rw [z]; rfl⟩
    refine ⟨_, rfl, b, _, rfl, .inl hB, rfl, _, rfl, ?_⟩
    by_cases h0 : ss = []
    · rw [decide_eq_true (sl.mpr h0)]
      rw [if_pos (.inl h0)] at q
      exact iteT (sup_read2 okB_lit fun d nd => q _ d nd (same_upd nd) upd_same)
    rw [decide_eq_false (fun z => h0 (sl.mp z))]
    refine iteF ?_
    refine ⟨_, rfl, _, rfl, b, a, ss, ns, rfl, hB, hA, ls, fun H1 s1 => ⟨_, rfl, ?_⟩⟩
    cases hp : picksB ss ns with
    | false =>
      rw [if_pos (.inr hp)] at q
      exact iteT (sup_read2 okB_lit fun d nd => (Raised.go q s1) _ d nd (same_upd nd) upd_same)
    | true =>
    rw [if_neg (by rw [hp]; simp [h0])] at q
    refine iteF ?_
    refine ⟨_, rfl, _, rfl, c, a, hs, ns, rfl, s1.seq hC, hA.same s1, lh, fun H2 s2 => ⟨_, rfl, ?_⟩⟩
    cases hh : picksB hs ns with
    | false =>
      rw [if_pos hh] at q
      exact iteT (sup_read2 okB_lit fun d nd => (Raised.go q (s1.trans s2)) _ d nd (same_upd nd) upd_same)
    | true =>
      rw [if_neg (by rw [hh]; decide)] at q
      exact iteF (q _ (s1.trans s2))
end
end TK

/-! the checks of a book that is passed as tuples, that may raise -/
namespace TK
open PySem PySem.Spec PyProof.Rows L2 NdefX
section
variable {P : Program} {w : World} {K : PySem.W.Frag} {mg : Str → Option Value} {base : Heap}
def spArePicksBT (K : PySem.W.Frag) : Sp := fun vs H Q _ => ∃ (a b : Addr) (xs ys : List Nam), vs = [.ref a, .ref b] ∧ SqT K H a (xs.map vN) ∧ SqS K H b (ys.map vN) ∧ xs.length < 64 ∧ ∀ H', Same H H' → Q (.bl (picksB xs ys)) H'
theorem ok_are_picksBT {f : Addr} {fd : FuncData} (F : Fun K "_are_picks" "_are_picks" s_are_picks f fd) (m_all : mg "all" = none) (m_len : mg "len" = none) (m_set : mg "set" = none) : FnOk P w K mg base CX0 1 f fd ["picks", "known"] (spArePicksBT K) := by
  refine F.ok sc_are_picks (fun vs H Q E h => ?_) (fun cdv A outer s H vs Q E hr h => ?_)
  · obtain ⟨a, b, xs, ys, rfl, _⟩ := h
    rfl
  · obtain ⟨a, b, xs, ys, rfl, hA, hB, l64, q⟩ := h
    have xl : (xs.map vN).length = xs.length := List.length_map ..
    refine ⟨_, (pss_one (ps_ret (pe_and (pe_callB (cr_all rfl) (by rfl) m_all (by decide +kernel) (pa_cons (pe_lc (own := [("pick", 2)]) (by rfl) sc_are_picks.nd (pi_tup (pv 0)) (blkOk_by (N := ["picks", "known", "pick"]) (sc := defScope s_are_picks) (by decide +kernel)) (fun _ _ _ _ _ => (pg_name (i := 2) sc_are_picks.nd rfl (.inl rfl))) (fun _ _ _ _ _ => pts_nil) (fun _ _ _ _ _ => (pe_cmpR (op_in_seqK (K := K) rfl) (pv 2) (pv 1) (by rfl)))) pa_nil)) (pe_one (pe_cmpR op_eq (pe_lenSetDT rfl (by rfl) m_len (by rfl) m_set (pv 0)) (pe_callB call_len_seq (by rfl) m_len (by decide +kernel) (pa_cons (pv 0) pa_nil)) (nomark _)))))), ?_⟩
    refine ⟨_, rfl, a, rfl, ⟨_, hA⟩, fun D nD => ?_⟩
    refine lc_tup (K := K) (a := a) (xs := xs.map vN) (fun i H' => Same H H' ∧ H' D = some (.lst (((xs.take i).map fun x => decide (x ∈ ys)).map V.bl))) ⟨same_upd nD, upd_same⟩ (fun i H' _ hq => (same_tup hq.1 hA)) (fun i v H' hv hq => ?_) (fun H' hq => ?_)
    · obtain ⟨s1, eD⟩ := hq
      obtain ⟨x, ex, rfl⟩ := vN_at hv
      have hi : i < 64 := Nat.lt_trans (List.getElem?_eq_some_iff.mp ex).1 l64
      refine ⟨rfl, yesT ⟨_, rfl, _, rfl, b, _, rfl, hB.elim (fun h => .inl (s1.seq h)) (fun h => .inr (same_tup s1 h)), rfl, nms_flat _, _, eD, by rw [List.length_map, List.length_map, List.length_take]; exact small1000 (by omega), same_at s1 nD, ?_⟩⟩
      rw [in_nm, List.take_add_one, ex, List.map_append, List.map_append]
      exact upd_same
    · obtain ⟨s1, eD⟩ := hq
      refine ⟨_, _, rfl, lstAt eD, ?_⟩
      rw [xl, List.take_length, all_id]
      by_cases h : (xs.all fun x => decide (x ∈ ys)) = true
      · rw [h]
        refine ⟨_, rfl, iteT ?_⟩
        refine ⟨_, rfl, a, xs.map sOf, rfl, by rw [← vN_strs]; exact (same_tup s1 hA), by rw [List.length_map]; exact l64, _, rfl, a, _, rfl, .inr ((same_tup s1 hA)), rfl, ?_⟩
        refine bool_eq (show decide (V.int ((cntS (xs.map sOf) (xs.map sOf).length : Nat) : Int) = V.int (((xs.map vN).length : Nat) : Int)) = picksB xs ys from ?_) (q _ s1)
        unfold picksB
        rw [h, Bool.true_and]
        refine decide_eq_decide.mpr ?_
        rw [xl]
        have e2 : (xs.map sOf).length = xs.length := List.length_map ..
        have e3 : (xs.map sOf).Nodup ↔ xs.Nodup := ⟨fun z => (List.pairwise_map.mp z).imp fun hne e => hne (congrArg sOf e), strs_nd⟩
        rw [← e3, ← cnt_all, e2]
        exact ⟨fun z => by have := V.int.inj z; omega, fun z => by rw [z]⟩
      · rw [Bool.eq_false_iff.mpr h]
        refine ⟨_, rfl, iteF ?_⟩
        have := q _ s1
        rwa [show picksB xs ys = false by unfold picksB; rw [Bool.eq_false_iff.mpr h, Bool.false_and]] at this
def spAreBidsBT (K : PySem.W.Frag) : Sp := fun vs H Q _ => ∃ (a b : Addr) (zs : List Nam) (es : List Addr) (ds : List BidD), vs = [.ref a, .ref b] ∧ SqT K H a (es.map V.ref) ∧ BidsAt H es ds ∧ SqS K H b (zs.map vN) ∧ ds.length < 64 ∧ ∀ H', Same H H' → Q (.bl (bidsB zs ds)) H'
theorem ok_are_bidsBT {f : Addr} {fd : FuncData} (F : Fun K "_are_bids" "_are_bids" s_are_bids f fd) (m_all : mg "all" = none) (d_are_picks : Def P w K mg base "_are_picks" 1 ["picks", "known"] (spArePicksB K)) : FnOk P w K mg base CX0 2 f fd ["bids", "members"] (spAreBidsBT K) := by
  refine F.ok sc_are_bids (fun vs H Q E h => ?_) (fun cdv A outer s H vs Q E hr h => ?_)
  · obtain ⟨a, b, zs, es, ds, rfl, _⟩ := h
    rfl
  · obtain ⟨a, b, zs, es, ds, rfl, hA, hT, hB, l64, q⟩ := h
    have el : (es.map V.ref).length = ds.length := by rw [List.length_map, hT.1]
    refine ⟨_, (pss_one (ps_ret (pe_and (pe_callD d_are_picks (hr.mono (by decide)) (by rfl) (pa_cons (pe_lc (own := [("member", 2), ("_", 3)]) (by rfl) sc_are_bids.nd (pi_tup (pv 0)) (blkOk_by (N := ["bids", "members", "member", "_", "bid"]) (sc := defScope s_are_bids) (by decide +kernel)) (fun _ _ _ _ _ => (pg_tupK (K := K) (n := 2) rfl (by rfl) (pgs_cons (pg_name (i := 2) sc_are_bids.nd rfl (.inl rfl)) (pgs_cons (pg_name (i := 3) sc_are_bids.nd rfl (.inl rfl)) pgs_nil)))) (fun _ _ _ _ _ => pts_nil) (fun _ _ _ _ _ => (pv 2))) (pa_cons (pv 1) pa_nil))) (pe_one (pe_callB (cr_all rfl) (by rfl) m_all (by decide +kernel) (pa_cons (pe_lc (own := [("_", 3), ("bid", 4)]) (by rfl) sc_are_bids.nd (pi_tup (pv 0)) (blkOk_by (N := ["bids", "members", "member", "_", "bid"]) (sc := defScope s_are_bids) (by decide +kernel)) (fun _ _ _ _ _ => (pg_tupK (K := K) (n := 2) rfl (by rfl) (pgs_cons (pg_name (i := 3) sc_are_bids.nd rfl (.inl rfl)) (pgs_cons (pg_name (i := 4) sc_are_bids.nd rfl (.inl rfl)) pgs_nil)))) (fun _ _ _ _ _ => pts_nil) (fun _ _ _ _ _ => (pe_chain op_le op_le pe_int (pv 4) (pe_op op_pow pe_int pe_int)))) pa_nil)))))), ?_⟩
    refine ⟨_, rfl, a, rfl, ⟨_, hA⟩, fun D nD => ?_⟩
    refine lc_tup (K := K) (a := a) (xs := es.map V.ref) (fun i H' => Same H H' ∧ H' D = some (.lst ((ds.take i).map fun d => vN d.1))) ⟨same_upd nD, upd_same⟩ (fun i H' _ hq => (same_tup hq.1 hA)) (fun i v H' hv hq => ?_) (fun H1 hq => ?_)
    · obtain ⟨s1, eD⟩ := hq
      obtain ⟨e, d, rfl, ed, he⟩ := bids_at (hT.same s1) hv
      have hi := (List.getElem?_eq_some_iff.mp ed).1
      refine gTup2w he [some (.ref a), some (.ref b), some (vN d.1), some (.int d.2), none] (by simp [wipe, L2.start]) ?_
      refine ⟨rfl, yesT ⟨_, rfl, _, eD, by rw [List.length_map, List.length_take]; exact small1000 (by omega), same_at s1 nD, ?_⟩⟩
      rw [List.take_add_one, ed, List.map_append]
      exact upd_same
    · obtain ⟨s1, eD⟩ := hq
      rw [el, List.take_length] at eD
      have e0 : (ds.map fun d => vN d.1) = (ds.map (·.1)).map vN := by rw [List.map_map]; rfl
      rw [e0] at eD
      refine ⟨_, rfl, D, b, ds.map (·.1), zs, rfl, lstAt eD, hB.elim (fun h => .inl (s1.seq h)) (fun h => .inr (same_tup s1 h)), by rw [List.length_map]; exact l64, fun H2 s2 => ?_⟩
      have s12 := s1.trans s2
      by_cases hp : picksB (ds.map (·.1)) zs = true
      · rw [hp]
        refine ⟨_, rfl, iteT ?_⟩
        refine ⟨_, rfl, a, rfl, ⟨_, (same_tup s12 hA)⟩, fun D2 nD2 => ?_⟩
        refine lc_tup (K := K) (a := a) (xs := es.map V.ref) (fun i H' => Same H2 H' ∧ H' D2 = some (.lst (((ds.take i).map fun d => decide (0 ≤ d.2) && decide (d.2 ≤ 1000000000)).map V.bl))) ⟨same_upd nD2, upd_same⟩ (fun i H' _ hq => same_tup (s12.trans hq.1) hA) (fun i v H' hv hq => ?_) (fun H3 hq => ?_)
        · obtain ⟨s3, eD2⟩ := hq
          obtain ⟨e, d, rfl, ed, he⟩ := bids_at (hT.same (s12.trans s3)) hv
          have hi := (List.getElem?_eq_some_iff.mp ed).1
          refine gTup2w he [some (.ref a), some (.ref b), none, some (vN d.1), some (.int d.2)] (by simp [wipe, L2.start]) ?_
          have put : ∀ {b : Bool}, b = (decide (0 ≤ d.2) && decide (d.2 ≤ 1000000000)) → ∃ acc, H' D2 = some (.lst acc) ∧ acc.length < sizeLine ∧ Same H2 (upd H' D2 (.lst (acc ++ [V.bl b]))) ∧ (upd H' D2 (.lst (acc ++ [V.bl b]))) D2 = some (.lst (((ds.take (i + 1)).map fun d => decide (0 ≤ d.2) && decide (d.2 ≤ 1000000000)).map V.bl)) := fun e => by
            refine ⟨_, eD2, by rw [List.length_map, List.length_map, List.length_take]; exact small1000 (by omega), same_at s3 nD2, ?_⟩
            rw [upd_same, List.take_add_one, ed, List.map_append, List.map_append, e]
            rfl
          refine ⟨rfl, yesT ?_⟩
          refine ⟨_, rfl, _, _, rfl, rfl, _, rfl, ?_⟩
          by_cases d0 : 0 ≤ d.2
          · rw [decide_eq_true d0]
            refine iteT ⟨_, _, rfl, rfl, ⟨by decide, by decide, by decide⟩, _, _, rfl, rfl, ?_⟩
            exact put (by rw [decide_eq_true d0, Bool.true_and]; rfl)
          · rw [decide_eq_false d0]
            exact iteF (put (by rw [decide_eq_false d0, Bool.false_and]))
        · obtain ⟨s3, eD2⟩ := hq
          refine ⟨_, _, rfl, lstAt eD2, ?_⟩
          rw [el, List.take_length, all_id]
          have := q _ (s12.trans s3)
          rwa [show bidsB zs ds = (ds.all fun d => decide (0 ≤ d.2) && decide (d.2 ≤ 1000000000)) by unfold bidsB; rw [hp, Bool.true_and]] at this
      · rw [Bool.eq_false_iff.mpr hp]
        refine ⟨_, rfl, iteF ?_⟩
        have := q _ s12
        rwa [show bidsB zs ds = false by unfold bidsB; rw [Bool.eq_false_iff.mpr hp, Bool.false_and]] at this
def spPagesXT (K : PySem.W.Frag) (e : Ec) : Sp := fun vs H Q E => ∃ (a b : Addr) (zs : List Nam) (ps : List Addr) (ds : List PgD), vs = [.ref a, .ref b] ∧ SqT K H a (zs.map vN) ∧ SqT K H b (ps.map V.ref) ∧ PgsInT H ps ds ∧ PgW ds ∧ After e (faultP zs ds) H Q E
theorem ok_check_pagesXT {f fB : Addr} {e : Ec} {fd fdB : FuncData} (F : Fun K "_check_pages" "_check_pages" s_check_pages f fd) (m_len : mg "len" = none) (m_enumerate : mg "enumerate" = none) (TB : SupT2 P w K mg base "BadBook" "part" "part" "place" "place" okB36 e.cb fB fdB) (d_is_name : Def P w K mg base "is_name" 1 ["word"] spIsNameB)
    (d_are_picks : Def P w K mg base "_are_picks" 1 ["picks", "known"] (spArePicksBT K)) (d_are_bids : Def P w K mg base "_are_bids" 2 ["bids", "members"] (spAreBidsBT K)) : FnOk P w K mg base (L2.CX P w) 3 f fd ["members", "pages"] (spPagesXT K e) := by
  refine F.okX sc_check_pages (fun vs H Q E h => ?_) (fun cdv A outer s H vs Q E hr h => ?_)
  · obtain ⟨a, b, zs, ps, ds, rfl, _⟩ := h
    rfl
  · obtain ⟨a, b, zs, ps, ds, rfl, hA, hB, hT, ⟨l20, wk⟩, q⟩ := h
    have pl : (ps.map V.ref).length = ds.length := by rw [List.length_map, hT.1]
    unfold faultP at q
    have no : ∀ {H' : Hp}, Same H H' → ¬ (1 ≤ (ds.length : Int) ∧ (ds.length : Int) ≤ 4) → Raised e (.book "pages" 0) H' E := fun s h => by rw [if_neg h] at q; exact Raised.go q s
    refine ⟨_, (pss_cons (ps_if (pt_not (pt_chain op_le op_le pe_int (pe_callB call_len_seq (by rfl) m_len (by decide +kernel) (pa_cons (pv 1) pa_nil)) pe_int)) (pss_one (ps_raiseSup2 rfl TB (hr.mono (by decide)) (takes_of rfl rfl rfl rfl) (pa_cons pe_str (pa_cons pe_int pa_nil)) (by rfl))) pss_nil)
  (pss_cons (ps_setLc (i := 2) (own := [("page", 8)]) (by rfl) sc_check_pages.nd rfl rfl (sw_true rfl rfl rfl (by decide +kernel)) (pi_tup (pv 1)) (blkOk_by (N := ["members", "pages", "names", "at", "name", "bids", "_", "followers", "page"]) (sc := defScope s_check_pages) (by decide +kernel)) (fun _ _ _ _ _ => (pg_name (i := 8) sc_check_pages.nd rfl (.inl rfl))) (fun _ _ _ _ _ => pts_nil) (fun _ _ _ _ _ => (pe_ix (ix_tupK (K := K) rfl) (pv 8) pe_int (fun _ _ => rfl))))
  (pss_cons (ps_for (passes_of rfl) rfl (pi_enumT (by rfl) m_enumerate (pa_cons (pv 1) pa_nil)) (pg_tup (by rfl) (pgs_cons (pg_name (i := 3) sc_check_pages.nd rfl (.inl rfl)) (pgs_cons (pg_tup (by rfl) (pgs_cons (pg_name (i := 4) sc_check_pages.nd rfl (.inl rfl)) (pgs_cons (pg_name (i := 5) sc_check_pages.nd rfl (.inl rfl)) (pgs_cons (pg_name (i := 6) sc_check_pages.nd rfl (.inl rfl)) pgs_nil)))) pgs_nil)))
    (pss_one (ps_if (PW.pt (pw_or (pt_not (pt_val (pe_callD d_is_name (hr.mono (by decide)) (by rfl) (pa_cons (pv 4) pa_nil)))) (pw_or (pt_cmpR op_in_seq (pv 4) (pe_slice sl_list (pv 2) po_none (po_some (pv 3))) (by rfl)) (pw_or1 (pt_not (pt_val (pe_callD d_are_bids (hr.mono (by decide)) (by rfl) (pa_cons (pv 5) (pa_cons (pv 0) pa_nil))))))))) (pss_one (ps_raiseSup2 rfl TB (hr.mono (by decide)) (takes_of rfl rfl rfl rfl) (pa_cons pe_str (pa_cons (pv 3) pa_nil)) (by rfl))) pss_nil)))
  (pss_one (ps_for (passes_of rfl) rfl (pi_enumT (by rfl) m_enumerate (pa_cons (pv 1) pa_nil)) (pg_tup (by rfl) (pgs_cons (pg_name (i := 3) sc_check_pages.nd rfl (.inl rfl)) (pgs_cons (pg_tup (by rfl) (pgs_cons (pg_name (i := 6) sc_check_pages.nd rfl (.inl rfl)) (pgs_cons (pg_name (i := 6) sc_check_pages.nd rfl (.inl rfl)) (pgs_cons (pg_name (i := 7) sc_check_pages.nd rfl (.inl rfl)) pgs_nil)))) pgs_nil)))
    (pss_one (ps_if (pt_not (pt_val (pe_callD d_are_picks (hr.mono (by decide)) (by rfl) (pa_cons (pv 7) (pa_cons (pv 2) pa_nil))))) (pss_one (ps_raiseSup2 rfl TB (hr.mono (by decide)) (takes_of rfl rfl rfl rfl) (pa_cons pe_str (pa_cons (pv 3) pa_nil)) (by rfl))) pss_nil))))))), ?_⟩
    refine ⟨_, rfl, b, _, rfl, .inr hB, _, _, rfl, rfl, _, rfl, ?_⟩
    rw [pl]
    by_cases h1 : (1 : Int) ≤ (ds.length : Nat)
    rotate_left
    · rw [decide_eq_false h1]
      exact iteF ⟨_, rfl, iteT (sup_read2 okB_lit fun d nd => no (Same.refl _) (fun z => h1 z.1) _ d nd (same_upd nd) upd_same)⟩
    rw [decide_eq_true h1]
    refine iteT ⟨_, _, rfl, rfl, _, rfl, ?_⟩
    by_cases h4 : ((ds.length : Nat) : Int) ≤ 4
    rotate_left
    · rw [decide_eq_false h4]
      exact iteT (sup_read2 okB_lit fun d nd => no (Same.refl _) (fun z => h4 z.2) _ d nd (same_upd nd) upd_same)
    rw [decide_eq_true h4]
    refine iteF ?_
    clear no
    rw [if_pos ⟨h1, h4⟩] at q
    refine ⟨_, rfl, b, rfl, ⟨_, hB⟩, fun D nD => ?_⟩
    refine lc_tup (K := K) (a := b) (xs := ps.map V.ref) (fun i H' => Same H H' ∧ H' D = some (.lst (((ds.map (·.nm)).take i).map vN))) ⟨same_upd nD, upd_same⟩ (fun i H' _ hq => (same_tup hq.1 hB)) (fun i v H' hv hq => ?_) (fun H1 hq => ?_)
    · obtain ⟨s1, eD⟩ := hq
      obtain ⟨p, d, rfl, ed, ⟨b1, f1, es, he, _⟩⟩ := pgs_atT (hT.same s1) hv
      have hi := (List.getElem?_eq_some_iff.mp ed).1
      refine ⟨rfl, yesT ⟨_, rfl, _, _, 0, vN d.nm, rfl, rfl, tupAt he, atI_in (by decide) rfl, _, eD, by rw [List.length_map, List.length_take, List.length_map]; exact small1000 (by omega), same_at s1 nD, ?_⟩⟩
      rw [List.take_add_one, List.getElem?_map, ed, List.map_append]
      exact upd_same
    obtain ⟨s1, eD⟩ := hq
    rw [pl, show ds.length = (ds.map (·.nm)).length from (List.length_map ..).symm, List.take_length] at eD
    refine ⟨_, rfl, _, _, rfl, (same_tup s1 hB), for_it walk_enumT (fun i σ H2 => Same H1 H2 ∧ After e (orF (goP zs (i : Int) ((ds.map fun x : PgD => x.nm).take i) (ds.drop i)) (goF (ds.map fun x : PgD => x.nm) 0 ds)) H Q E ∧ ∃ y3 y4 y5 y6 y7 : Option V, σ = [some (.ref a), some (.ref b), some (.ref D), y3, y4, y5, y6, y7, none]) ⟨Same.refl _, q, _, _, _, _, _, rfl⟩ (fun i σ H2 _ hp => same_tup (s1.trans hp.1) hB) ?_ ?_⟩
    · rintro i x σ H2 H3 hi ⟨s2, q, y3, y4, y5, y6, y7, rfl⟩ ⟨T, v1, v2, rfl, nT, rfl, e1, e2⟩
      cases e1
      have s12 := s1.trans s2
      obtain ⟨p, d, rfl, ed, ⟨b1, f1, es, he, hb, hbs, hf⟩⟩ := pgs_atT (hT.same s12) e2
      have md := List.mem_of_getElem? ed
      rw [goP_step ed] at q
      have sT := same_upd (o := .tup [.int (i : Nat), .ref p]) nT
      have sm := s12.trans sT
      have bad : ∀ {H' : Hp}, Same H H' → pgBad zs ((ds.map (·.nm)).take i) d = true → Raised e (.book "page" i) H' E := fun s h => by rw [if_pos h] at q; exact Raised.go q s
      refine ⟨_, _, rfl, tupAt upd_same, rfl, _, _, rfl, _, _, rfl, _, _, rfl, tupAt (sT _ _ he), rfl, _, _, rfl, _, _, rfl, _, _, rfl, rfl, rfl, ?_⟩
      refine ⟨_, rfl, d.nm, rfl, Nat.le_trans (wk d md).1.1 (by decide), fun H4 s4 => ⟨_, rfl, ?_⟩⟩
      have sm4 := sm.trans s4
      cases hn : nmB d.nm with
      | false =>
        exact iteT ⟨_, rfl, sup_read2 okB_lit fun d' nd => bad sm4 (by unfold pgBad; rw [hn]; rfl) _ d' nd (same_upd nd) upd_same⟩
      | true =>
      refine iteF ?_
      refine ⟨_, rfl, _, rfl, _, rfl, _, rfl, _, _, rfl, lstAt (s4 _ _ (sT _ _ (s2 _ _ eD))), fun q2 nq2 => ?_⟩
      rw [cut_names]
      have s5 := same_upd (o := .lst (((ds.map (·.nm)).take i).map vN)) nq2
      have sm5 := sm4.trans s5
      refine ⟨q2, _, rfl, .inl (lstAt upd_same), rfl, nms_flat _, _, rfl, ?_⟩
      rw [in_nm]
      by_cases hm : d.nm ∈ (ds.map (·.nm)).take i
      · rw [decide_eq_true hm]
        exact iteT ⟨_, rfl, sup_read2 okB_lit fun d' nd => bad sm5 (by unfold pgBad; rw [decide_eq_true hm, Bool.true_or, Bool.or_true]) _ d' nd (same_upd nd) upd_same⟩
      rw [decide_eq_false hm]
      refine iteF ?_
      have t3 : Same H2 (upd H4 q2 (.lst (((ds.map (·.nm)).take i).map vN))) := sT.trans (s4.trans s5)
      refine ⟨_, rfl, _, rfl, b1, a, zs, es, d.bids, rfl, tupAt (t3 _ _ hb), hbs.same t3, .inr (same_tup sm5 hA), (wk d md).2.1, fun H6 s6 => ⟨_, rfl, ?_⟩⟩
      have sm6 := sm5.trans s6
      cases hbb : bidsB zs d.bids with
      | false => exact iteT ⟨_, rfl, sup_read2 okB_lit fun d' nd => bad sm6 (by unfold pgBad; rw [hbb, Bool.not_false, Bool.or_true, Bool.or_true]) _ d' nd (same_upd nd) upd_same⟩
      | true =>
        have hok : pgBad zs ((ds.map (·.nm)).take i) d = false := by unfold pgBad; rw [hn, hbb, decide_eq_false hm]; rfl
        rw [if_neg (by rw [hok]; decide)] at q
        exact iteF ⟨s2.trans (t3.trans s6), q, _, _, _, _, _, rfl⟩
    · rintro σ H2 ⟨s2, q, y3, y4, y5, y6, y7, rfl⟩
      rw [pl, List.drop_length] at q
      have q : After e (goF (ds.map (·.nm)) 0 ds) H Q E := q
      have s12 := s1.trans s2
      refine ⟨_, rfl, _, _, rfl, (same_tup s12 hB), for_it walk_enumT (fun i σ H3 => Same H2 H3 ∧ After e (goF (ds.map fun x : PgD => x.nm) (i : Int) (ds.drop i)) H Q E ∧ ∃ y3 y6 y7 : Option V, σ = [some (.ref a), some (.ref b), some (.ref D), y3, y4, y5, y6, y7, none]) ⟨Same.refl _, q, _, _, _, rfl⟩ (fun i σ H3 _ hp => same_tup (s12.trans hp.1) hB) ?_ ?_⟩
      · rintro i x σ H3 H4 hi ⟨s3, q, y3, y6, y7, rfl⟩ ⟨T, v1, v2, rfl, nT, rfl, e1, e2⟩
        cases e1
        have s13 := s12.trans s3
        obtain ⟨p, d, rfl, ed, ⟨b1, f1, es, he, hb, hbs, hf⟩⟩ := pgs_atT (hT.same s13) e2
        have md := List.mem_of_getElem? ed
        rw [goF_step ed] at q
        have sT := same_upd (o := .tup [.int (i : Nat), .ref p]) nT
        refine ⟨_, _, rfl, tupAt upd_same, rfl, _, _, rfl, _, _, rfl, _, _, rfl, tupAt (sT _ _ he), rfl, _, _, rfl, _, _, rfl, _, _, rfl, rfl, rfl, ?_⟩
        refine ⟨_, rfl, _, rfl, f1, D, d.fol, ds.map (·.nm), rfl, tupAt (sT _ _ hf), .inl (lstAt (sT _ _ (s3 _ _ (s2 _ _ eD)))), (wk d md).2.2, fun H5 s5 => ⟨_, rfl, ?_⟩⟩
        have sm5 := (s13.trans sT).trans s5
        cases hp : picksB d.fol (ds.map (·.nm)) with
        | false =>
          rw [if_pos hp] at q
          exact iteT ⟨_, rfl, sup_read2 okB_lit fun d' nd => (Raised.go q sm5) _ d' nd (same_upd nd) upd_same⟩
        | true =>
          rw [if_neg (by rw [hp]; decide)] at q
          exact iteF ⟨s3.trans (sT.trans s5), q, _, _, _, rfl⟩
      · rintro σ H3 ⟨s3, q, y3, y6, y7, rfl⟩
        rw [pl, List.drop_length] at q
        exact q _ (s12.trans s3)
def spEndsXT (K : PySem.W.Frag) (e : Ec) : Sp := fun vs H Q E => ∃ (a b c : Addr) (ns ss hs : List Nam), vs = [.ref a, .ref b, .ref c] ∧ SqS K H a (ns.map vN) ∧ SqT K H b (ss.map vN) ∧ SqT K H c (hs.map vN) ∧ ss.length < 64 ∧ hs.length < 64 ∧ After e (faultE ns ss hs) H Q E
theorem ok_check_endsXT {f fB : Addr} {e : Ec} {fd fdB : FuncData} (F : Fun K "_check_ends" "_check_ends" s_check_ends f fd) (m_len : mg "len" = none) (TB : SupT2 P w K mg base "BadBook" "part" "part" "place" "place" okB36 e.cb fB fdB) (d_are_picks : Def P w K mg base "_are_picks" 1 ["picks", "known"] (spArePicksBT K)) : FnOk P w K mg base (L2.CX P w) 3 f fd ["names", "starts", "home"] (spEndsXT K e) := by
  refine F.okX sc_check_ends (fun vs H Q E h => ?_) (fun cdv A outer s H vs Q E hr h => ?_)
  · obtain ⟨a, b, c, ns, ss, hs, rfl, _⟩ := h
    rfl
  · obtain ⟨a, b, c, ns, ss, hs, rfl, hA, hB, hC, ls, lh, q⟩ := h
    refine ⟨_, (pss_cons (ps_if (PW.pt (pw_or (pt_cmpR op_eq (pe_callB call_len_seq (by rfl) m_len (by decide +kernel) (pa_cons (pv 1) pa_nil)) pe_int (nomark _)) (pw_or1 (pt_not (pt_val (pe_callD d_are_picks (hr.mono (by decide)) (by rfl) (pa_cons (pv 1) (pa_cons (pv 0) pa_nil)))))))) (pss_one (ps_raiseSup2 rfl TB (hr.mono (by decide)) (takes_of rfl rfl rfl rfl) (pa_cons pe_str (pa_cons pe_int pa_nil)) (by rfl))) pss_nil)
  (pss_one (ps_if (pt_not (pt_val (pe_callD d_are_picks (hr.mono (by decide)) (by rfl) (pa_cons (pv 2) (pa_cons (pv 0) pa_nil))))) (pss_one (ps_raiseSup2 rfl TB (hr.mono (by decide)) (takes_of rfl rfl rfl rfl) (pa_cons pe_str (pa_cons pe_int pa_nil)) (by rfl))) pss_nil))), ?_⟩
    unfold faultE at q
    have sl : V.int (((ss.map vN).length : Nat) : Int) = V.int 0 ↔ ss = [] := by
      rw [List.length_map]
      exact ⟨fun z => List.eq_nil_of_length_eq_zero (by have := V.int.inj z; omega), fun z => by rw [z]; rfl⟩
    refine ⟨_, rfl, b, _, rfl, .inr hB, rfl, _, rfl, ?_⟩
    by_cases h0 : ss = []
    · rw [decide_eq_true (sl.mpr h0)]
      rw [if_pos (.inl h0)] at q
      exact iteT (sup_read2 okB_lit fun d nd => q _ d nd (same_upd nd) upd_same)
    rw [decide_eq_false (fun z => h0 (sl.mp z))]
    refine iteF ?_
    refine ⟨_, rfl, _, rfl, b, a, ss, ns, rfl, hB, hA, ls, fun H1 s1 => ⟨_, rfl, ?_⟩⟩
    cases hp : picksB ss ns with
    | false =>
      rw [if_pos (.inr hp)] at q
      exact iteT (sup_read2 okB_lit fun d nd => (Raised.go q s1) _ d nd (same_upd nd) upd_same)
    | true =>
    rw [if_neg (by rw [hp]; simp [h0])] at q
    refine iteF ?_
    refine ⟨_, rfl, _, rfl, c, a, hs, ns, rfl, (same_tup s1 hC), hA.same s1, lh, fun H2 s2 => ⟨_, rfl, ?_⟩⟩
    cases hh : picksB hs ns with
    | false =>
      rw [if_pos hh] at q
      exact iteT (sup_read2 okB_lit fun d nd => (Raised.go q (s1.trans s2)) _ d nd (same_upd nd) upd_same)
    | true =>
      rw [if_neg (by rw [hh]; decide)] at q
      exact iteF (q _ (s1.trans s2))
end
end TK

/-! Book.__init__ that raises -/
namespace TK
open PySem PySem.Spec PyProof.Rows L2 NdefX
/-- the first fault of a book -/
def faultB (zs ss hs : List Nam) (ds : List PgD) : Option Flt := orF (faultN 4 zs) (orF (faultP zs ds) (faultE (ds.map (·.nm)) ss hs))
/-- what can be told -/
structure BkW (zs ss hs : List Nam) (ds : List PgD) : Prop where
  l : zs.length ≤ 100
  w : ∀ z ∈ zs, WOk z
  p : PgW ds
  s : ss.length < 64
  h : hs.length < 64
def RaisedP (p : Addr) (e : Ec) (fl : Flt) (H : Hp) (E : XK) : Prop := ∀ H' d, H d = none → SameP p H H' → H' d = some (.xd fl.fs) → E (.ref (fl.c e)) (some d) H'
theorem RaisedP.now {p C dx : Addr} {e : Ec} {fl : Flt} {H H1 : Hp} {E : XK} {fs : List (Str × V)} (r : RaisedP p e fl H E) (f : SameP p H H1) (h1 : H1 p = some (.ins C dx fs)) : Raised e fl H1 E := fun H' d nd s ed => r H' d (by
    cases hd : H d with
    | none => rfl
    | some o =>
      by_cases z : d = p
      · rw [z, h1] at nd; cases nd
      · rw [f _ _ hd z] at nd; cases nd) (f.trans (same_p s)) ed
theorem after_some {e : Ec} {o : Option Flt} {fl : Flt} {H : Hp} {Q : VK} {E : XK} (h : o = some fl) (r : Raised e fl H E) : After e o H Q E := by subst h; exact r
theorem after_none {e : Ec} {o : Option Flt} {H : Hp} {Q : VK} {E : XK} (h : o = none) (r : ∀ H', Same H H' → Q .non H') : After e o H Q E := by subst h; exact r
section
variable {P : Program} {w : World} {K : PySem.W.Frag} {mg : Str → Option Value} {base : Heap}
def spBad (K : PySem.W.Frag) (C : Addr) (e : Ec) : Sp := fun vs H Q E => ∃ (p a b c h dx : Addr) (zs ss hs : List Nam) (ps : List Addr) (ds : List PgD) (fl : Flt), vs = [.ref p, .ref a, .ref b, .ref c, .ref h] ∧ H p = some (.ins C dx []) ∧ BkG K H a b c h zs ss hs ps ds ∧ BkW zs ss hs ds ∧ faultB zs ss hs ds = some fl ∧ RaisedP p e fl H E
theorem ok_Bad {f C CP fP fN fG fE : Addr} {fd fdP fdN fdG fdE : FuncData} {e : Ec} {dvs dvN : List V} {kws : List (Str × V)} {dsN : List Value} (F : FunD K "__init__" "Book.__init__" (defArgs s_Book_init) (defBody s_Book_init) (defScope s_Book_init) dvs kws f fd) (T : TxtBk K C) (m_tuple : mg "tuple" = none)
    (G_check_names : FnOk P w K mg base (L2.CX P w) 4 fN fdN ["names", "most", "hook"] (spNamesX K e)) (g_check_names : mg "check_names" = some (.ref fN)) (k_check_names : PySem.W.keepIn K (.ref fN) = true) (b_check_names : Binds K fdN ["names", "most", "hook"] dsN) (v_check_names : Vals [.bl false] dsN)
    (G_check_pages : FnOk P w K mg base (L2.CX P w) 3 fG fdG ["members", "pages"] (spPagesX K e)) (g_check_pages : mg "_check_pages" = some (.ref fG)) (k_check_pages : PySem.W.keepIn K (.ref fG) = true) (b_check_pages : Binds K fdG ["members", "pages"] [])
    (G_check_ends : FnOk P w K mg base (L2.CX P w) 3 fE fdE ["names", "starts", "home"] (spEndsX K e)) (g_check_ends : mg "_check_ends" = some (.ref fE)) (k_check_ends : PySem.W.keepIn K (.ref fE) = true) (b_check_ends : Binds K fdE ["names", "starts", "home"] [])
    (d_sorted_bids : Def P w K mg base "_sorted_bids" 1 ["members", "bids"] (spSortB K)) (M_Page : Mk K CP fP) (G_Page : FnOk P w K mg base CX0 1 fP fdP ["self", "name", "bids", "followers", "home"] (spInitPg CP)) (mg_Page : mg "Page" = some (.ref CP)) (b_Page : Binds K fdP ["self", "name", "bids", "followers", "home"] []) :
    FnOk P w K mg base (L2.CX P w) 5 f fd ["self", "members", "pages", "starts", "home"] (spBad K C e) := by
  refine F.ok (CX := L2.CX P w) sc_Book_init (fun vs H Q E h => ?_) (fun cdv A outer s H vs Q E hr h => ?_)
  · obtain ⟨p, a, b, c, h, dx, zs, ss, hs, ps, ds, fl, rfl, _⟩ := h
    rfl
  · obtain ⟨p, a, b, c, h, dx, zs, ss, hs, ps, ds, fl, rfl, hp, g, ok, bad, q⟩ := h
    have pl : (ps.map V.ref).length = ds.length := by rw [List.length_map, g.t.1]
    have l4 := ok.p.1
    unfold faultB at bad
    refine ⟨_, (pss_cons (ps_expr (pe_call G_check_names (hr.mono (by decide)) (by rfl) g_check_names k_check_names b_check_names v_check_names (L2.passes_call (E := E) (takes_of rfl rfl rfl rfl) (fun _ _ _ _ h => h)) (pa_cons (pv 1) (pa_cons pe_int pa_nil))))
  (pss_cons (ps_expr (pe_callS (E := fun _ => E) G_check_pages (hr.mono (by decide)) (by rfl) g_check_pages k_check_pages b_check_pages (fun σ => passAt (takes_of rfl rfl rfl rfl) σ) (pa_cons (pv 1) (pa_cons (pv 2) pa_nil))))
  (pss_cons (ps_fld (pv 0) (pe_callTy call_tuple_of (by rfl) m_tuple (by decide +kernel) (pa_cons (pv 1) pa_nil)) rfl)
  (pss_cons (ps_fld (pv 0) (pe_callTy call_tuple_frz (by rfl) m_tuple (by decide +kernel) (pa_cons (pe_lc (own := [("page", 5)]) (by rfl) sc_Book_init.nd (pi_list (pv 2)) (blkOk_by (N := ["self", "members", "pages", "starts", "home", "page", "name", "bids", "followers"]) (sc := defScope s_Book_init) (by decide +kernel)) (fun _ _ _ _ _ => (pg_name (i := 5) sc_Book_init.nd rfl (.inl rfl))) (fun _ _ _ _ _ => pts_nil) (fun _ _ _ _ _ => (pe_ix (ix_tupK (K := K) rfl) (pv 5) pe_int (fun _ _ => rfl)))) pa_nil)) rfl)
  (pss_cons (ps_expr (pe_callS (E := fun _ => E) G_check_ends (hr.mono (by decide)) (by rfl) g_check_ends k_check_ends b_check_ends (fun σ => passAt (takes_of rfl rfl rfl rfl) σ) (pa_cons (pe_fld (pv 0) rfl) (pa_cons (pv 3) (pa_cons (pv 4) pa_nil)))))
  (pss_cons (ps_fld (pv 0) (pe_callTy call_tuple_of (by rfl) m_tuple (by decide +kernel) (pa_cons (pv 3) pa_nil)) rfl)
  (pss_cons (ps_fld (pv 0) (pe_callTy call_tuple_of (by rfl) m_tuple (by decide +kernel) (pa_cons (pe_lc (own := [("name", 6)]) (by rfl) sc_Book_init.nd (pi_tup (pe_fld (pv 0) rfl)) (blkOk_by (N := ["self", "members", "pages", "starts", "home", "page", "name", "bids", "followers"]) (sc := defScope s_Book_init) (by decide +kernel)) (fun _ _ _ _ _ => (pg_name (i := 6) sc_Book_init.nd rfl (.inl rfl))) (fun _ _ _ _ _ => (pts_one (pt_cmpR (op_in_seqK (K := K) rfl) (pv 6) (pv 4) (by rfl)))) (fun _ _ _ _ _ => (pv 6))) pa_nil)) rfl)
  (pss_cons (ps_fld (pv 0) (pe_callTy call_tuple_of (by rfl) m_tuple (by decide +kernel) (pa_cons (pe_lc (own := [("name", 6), ("bids", 7), ("followers", 8)]) (by rfl) sc_Book_init.nd (pi_list (pv 2)) (blkOk_by (N := ["self", "members", "pages", "starts", "home", "page", "name", "bids", "followers"]) (sc := defScope s_Book_init) (by decide +kernel)) (fun _ _ _ _ _ => (pg_tupK (K := K) (n := 3) rfl (by rfl) (pgs_cons (pg_name (i := 6) sc_Book_init.nd rfl (.inl rfl)) (pgs_cons (pg_name (i := 7) sc_Book_init.nd rfl (.inl rfl)) (pgs_cons (pg_name (i := 8) sc_Book_init.nd rfl (.inl rfl)) pgs_nil))))) (fun _ _ _ _ _ => pts_nil) (fun _ _ _ _ _ => (pe_tup (pa_cons (pv 6) (pa_cons (pe_callD d_sorted_bids (hr.mono (by decide)) (by rfl) (pa_cons (pv 1) (pa_cons (pv 7) pa_nil))) (pa_cons (pe_callTy (call_tuple_ofK (K := K) rfl) (by rfl) m_tuple (by decide +kernel) (pa_cons (pv 8) pa_nil)) pa_nil)))))) pa_nil)) rfl)
  (pss_one (ps_fld (pv 0) (pe_callTy call_tuple_of (by rfl) m_tuple (by decide +kernel) (pa_cons (pe_lc (own := [("name", 6), ("bids", 7), ("followers", 8)]) (by rfl) sc_Book_init.nd (pi_tup (pe_fld (pv 0) rfl)) (blkOk_by (N := ["self", "members", "pages", "starts", "home", "page", "name", "bids", "followers"]) (sc := defScope s_Book_init) (by decide +kernel)) (fun _ _ _ _ _ => (pg_tupK (K := K) (n := 3) rfl (by rfl) (pgs_cons (pg_name (i := 6) sc_Book_init.nd rfl (.inl rfl)) (pgs_cons (pg_name (i := 7) sc_Book_init.nd rfl (.inl rfl)) (pgs_cons (pg_name (i := 8) sc_Book_init.nd rfl (.inl rfl)) pgs_nil))))) (fun _ _ _ _ _ => pts_nil) (fun _ _ _ _ _ => (pe_make M_Page G_Page (hr.mono (by decide)) (by rfl) mg_Page b_Page .nil pass0 (pa_cons (pv 6) (pa_cons (pv 7) (pa_cons (pv 8) (pa_cons (pe_cmpR (op_in_seqK (K := K) rfl) (pv 6) (pe_fldK (K := K) rfl (pv 0) rfl) (by rfl)) pa_nil))))))) pa_nil)) rfl)))))))))), ?_⟩
    refine ⟨_, rfl, a, 4, zs, rfl, .inl g.m, ok.l, ok.w, ?_⟩
    cases hN : faultN 4 zs with
    | some fl' =>
      rw [hN] at bad
      cases bad
      exact q.now (same_p (Same.refl _)) hp
    | none =>
    intro H1 s1
    rw [hN] at bad
    have bad : orF (faultP zs ds) (faultE (ds.map (·.nm)) ss hs) = some fl := bad
    refine ⟨_, rfl, _, rfl, a, b, zs, ps, ds, rfl, s1.seq g.m, s1.seq g.b, g.t.same s1, ok.p, ?_⟩
    cases hP : faultP zs ds with
    | some fl' =>
      rw [hP] at bad
      cases bad
      exact q.now (same_p s1) (s1 _ _ hp)
    | none =>
    intro H2 s2
    rw [hP] at bad
    have bad : faultE (ds.map (·.nm)) ss hs = some fl := bad
    have s12 := s1.trans s2
    -- members
    refine ⟨_, rfl, a, _, rfl, .inl ⟨s12.seq g.m, fun m nmA => ?_⟩⟩
    have s3 := s12.trans (same_upd (o := .tup (zs.map vN)) nmA)
    have m3 := upd_same (H := H2) (a := m) (o := .tup (zs.map vN))
    have g3 := g.same s3
    have p3 := s3 _ _ hp
    have f3 := same_p (p := p) s3
    generalize upd H2 m (.tup (zs.map vN)) = H3 at m3 g3 p3 f3 ⊢
    refine ⟨_, rfl, p, C, dx, _, rfl, p3, T.cl, T.n1, by decide, ?_⟩
    have e4 := samep_upd (p := p) (H := H3) (o := .ins C dx (putF "members" (.ref m) []))
    have p4 := upd_same (H := H3) (a := p) (o := .ins C dx (putF "members" (.ref m) []))
    have f4 := f3.trans e4
    have m4 := e4 _ _ m3 (ne_of m3 p3 (by intro z; cases z))
    have g4 := g3.fr p3 e4
    generalize upd H3 p (.ins C dx (putF "members" (.ref m) [])) = H4 at p4 f4 m4 g4 ⊢
    -- names
    refine ⟨_, rfl, b, rfl, ⟨_, g4.b⟩, fun D nD => ?_⟩
    refine lc_list (K := K) (a := b) (xs := ps.map V.ref) (fun i H' => Same H4 H' ∧ H' D = some (.lst (((ds.map (·.nm)).take i).map vN))) ⟨same_upd nD, upd_same⟩ (fun i H' _ hq => hq.1.seq g4.b) (fun i v H' hv hq => ?_) (fun H5 hq => ?_)
    · obtain ⟨sq, eD⟩ := hq
      obtain ⟨p', d, rfl, ed, ⟨b1, f1, es, he, _⟩⟩ := pgs_at (g4.t.same sq) hv
      have hi := (List.getElem?_eq_some_iff.mp ed).1
      refine ⟨rfl, yesT ⟨_, rfl, _, _, 0, vN d.nm, rfl, rfl, tupAt he, atI_in (by decide) rfl, _, eD, by rw [List.length_map, List.length_take, List.length_map]; exact small1000 (by omega), same_at sq nD, ?_⟩⟩
      rw [List.take_add_one, List.getElem?_map, ed, List.map_append]
      exact upd_same
    obtain ⟨s5, eD⟩ := hq
    rw [pl, show ds.length = (ds.map (·.nm)).length from (List.length_map ..).symm, List.take_length] at eD
    refine ⟨D, _, rfl, lstAt eD, fun n o nn oc od => ?_⟩
    have s6 := s5.trans (same_upd (o := .frz o (.tup ((ds.map (·.nm)).map vN))) nn)
    have n6 := upd_same (H := H5) (a := n) (o := .frz o (.tup ((ds.map (·.nm)).map vN)))
    have p6 := s6 _ _ p4
    have m6 := s6 _ _ m4
    have g6 := g4.same s6
    have f6 := f4.trans (same_p (p := p) s6)
    generalize upd H5 n (.frz o (.tup ((ds.map (·.nm)).map vN))) = H6 at n6 p6 m6 g6 f6 ⊢
    refine ⟨_, rfl, p, C, dx, _, rfl, p6, T.cl, T.n2, Nat.lt_of_le_of_lt (put_len (n := 0) (Nat.le_refl 0)) (by decide), ?_⟩
    have e7 := samep_upd (p := p) (H := H6) (o := .ins C dx (putF "names" (.ref n) (putF "members" (.ref m) [])))
    have p7 := upd_same (H := H6) (a := p) (o := .ins C dx (putF "names" (.ref n) (putF "members" (.ref m) [])))
    have f7 := f6.trans e7
    have m7 := e7 _ _ m6 (ne_of m6 p6 (by intro z; cases z))
    have n7 := e7 _ _ n6 (ne_of n6 p6 (by intro z; cases z))
    have g7 := g6.fr p6 e7
    generalize upd H6 p (.ins C dx (putF "names" (.ref n) (putF "members" (.ref m) []))) = H7 at p7 f7 m7 n7 g7 ⊢
    clear e7 e4 p6 m6 n6 g6 f6 s6 s5 eD p4 m4 g4 f4 p3 m3 g3 f3 s3
    exact ⟨_, rfl, p, C, dx, _, _, rfl, p7, T.cl, T.n2, put_same _ _ _, _, rfl, _, rfl, n, c, h, ds.map (·.nm), ss, hs, rfl, .inr (.inl (.inr ⟨o, n7⟩)), g7.c, g7.h, ok.s, ok.h, after_some bad (q.now f7 p7)⟩
end
end TK

/-! links, some of a row, a row in another order -/
namespace TK
open PySem PySem.Spec PyProof.Rows L2
/-! the two ends of a tie -/
theorem two_ne {L a d : Int} (h0 : 0 ≤ a) (h1 : a < L) (d0 : 0 ≤ d) (d1 : d < L - 1) : 0 ≤ (a + 1 + d) % L ∧ (a + 1 + d) % L < L ∧ (a + 1 + d) % L ≠ a := by
  refine ⟨Int.emod_nonneg _ (by omega), Int.emod_lt_of_pos _ (by omega), ?_⟩
  by_cases h : a + 1 + d < L
  · rw [Int.emod_eq_of_lt (by omega) h]; omega
  · rw [show a + 1 + d = (a + 1 + d - L) + L * 1 by omega, Int.add_mul_emod_self_left, Int.emod_eq_of_lt (by omega) (by omega)]; omega
theorem nm_getC {zs : List Nam} {i : Int} (h0 : 0 ≤ i) (h : i < zs.length) : ∃ z, zs[i.toNat]? = some z ∧ z ∈ zs ∧ atI (zs.map vN) i = some (vN z) := by
  have hl : i.toNat < zs.length := by omega
  refine ⟨zs[i.toNat], List.getElem?_eq_getElem hl, List.getElem_mem hl, atI_in h0 ?_⟩
  rw [List.getElem?_map, List.getElem?_eq_getElem hl]
  rfl
theorem nm_neC {zs : List Nam} {i j : Int} {y z : Nam} (nd : zs.Nodup) (i0 : 0 ≤ i) (j0 : 0 ≤ j) (h1 : zs[i.toNat]? = some y) (h2 : zs[j.toNat]? = some z) (ne : j ≠ i) : y ≠ z := by
  intro e
  subst e
  have hl := (List.getElem?_eq_some_iff.mp h1).1
  have := (List.getElem?_inj hl nd).mp (h1.trans h2.symm)
  omega
theorem pow4 {i : Int} (h0 : 0 ≤ i) (h1 : i < 4) : ∃ v : Int, atI [V.int 1, V.int 2, V.int 4, V.int 8] i = some (.int v) ∧ 0 < v ∧ v < 1000000 := by
  obtain rfl | rfl | rfl | rfl : i = 0 ∨ i = 1 ∨ i = 2 ∨ i = 3 := by omega
  · exact ⟨1, rfl, by decide, by decide⟩
  · exact ⟨2, rfl, by decide, by decide⟩
  · exact ⟨4, rfl, by decide, by decide⟩
  · exact ⟨8, rfl, by decide, by decide⟩
theorem nm_at {zs : List (List Nat)} {i : Int} (h0 : 0 ≤ i) (h : i < zs.length) : ∃ z, zs[i.toNat]? = some z ∧ atI (zs.map vN) i = some (vN z) := by
  have h1 : i.toNat < zs.length := by omega
  refine ⟨zs[i.toNat], List.getElem?_eq_getElem h1, atI_in h0 ?_⟩
  rw [List.getElem?_map, List.getElem?_eq_getElem h1]; rfl
theorem sub_snoc {α : Type} {ws zs : List α} {i : Nat} {z : α} (h : ws.Sublist (zs.take i)) (e : zs[i]? = some z) : (ws ++ [z]).Sublist (zs.take (i + 1)) := by
  rw [List.take_add_one, e]
  exact h.append (List.Sublist.refl _)
theorem sub_keep {α : Type} {ws zs : List α} {i : Nat} (h : ws.Sublist (zs.take i)) : ws.Sublist (zs.take (i + 1)) := by
  rw [List.take_add_one]
  exact h.trans (List.sublist_append_left _ _)
theorem erase_perm {α : Type} : ∀ {rs : List α} {k : Nat} {x : α}, rs[k]? = some x → (x :: rs.eraseIdx k).Perm rs
  | [], k, x, h => by simp at h
  | r :: rs, 0, x, h => by
    have : r = x := by simpa using h
    subst this; exact List.Perm.refl _
  | r :: rs, k + 1, x, h => by
    have ih := erase_perm (rs := rs) (k := k) (x := x) (by simpa using h)
    exact (List.Perm.swap r x _).trans (ih.cons r)
theorem erase_map {α β : Type} (f : α → β) : ∀ {rs : List α} {k : Nat}, (rs.map f).eraseIdx k = (rs.eraseIdx k).map f
  | [], k => rfl
  | r :: rs, 0 => rfl
  | r :: rs, k + 1 => by
    show f r :: (rs.map f).eraseIdx k = _
    rw [erase_map f]; rfl
theorem erase_len {α : Type} {rs : List α} {k : Nat} (h : k < rs.length) : (rs.eraseIdx k).length + 1 = rs.length := by
  rw [List.length_eraseIdx, if_pos h]; omega
theorem sh1 {i : Int} (h0 : 0 ≤ i) (h1 : i < 4) : ∃ v : Int, atI [V.int 1, V.int 4, V.int 12, V.int 24] i = some (.int v) ∧ 0 < v ∧ v < 1000000 := by
  obtain rfl | rfl | rfl | rfl : i = 0 ∨ i = 1 ∨ i = 2 ∨ i = 3 := by omega
  · exact ⟨1, rfl, by decide, by decide⟩
  · exact ⟨4, rfl, by decide, by decide⟩
  · exact ⟨12, rfl, by decide, by decide⟩
  · exact ⟨24, rfl, by decide, by decide⟩
theorem sh2 {i : Int} (h0 : 0 ≤ i) (h1 : i < 4) : ∃ v : Int, atI [V.int 4, V.int 3, V.int 2, V.int 1] i = some (.int v) ∧ 0 < v ∧ v < 1000000 := by
  obtain rfl | rfl | rfl | rfl : i = 0 ∨ i = 1 ∨ i = 2 ∨ i = 3 := by omega
  · exact ⟨4, rfl, by decide, by decide⟩
  · exact ⟨3, rfl, by decide, by decide⟩
  · exact ⟨2, rfl, by decide, by decide⟩
  · exact ⟨1, rfl, by decide, by decide⟩
theorem ne_new {H : Hp} {a b : Addr} {o : HO} (h : H a = some o) (n : H b = none) : a ≠ b := fun e => by rw [e, n] at h; cases h
section
variable {P : Program} {w : World} {K : PySem.W.Frag} {mg : Str → Option Value} {base : Heap}
def spSome (K : PySem.W.Frag) : Sp := fun vs H Q _ => ∃ (a p : Addr) (ns : List Int) (s : Int) (zs : List (List Nat)), vs = [.ref a, .int s, .ref p] ∧ SqL K H a (ns.map V.int) ∧ 0 ≤ s ∧ s < ns.length ∧ SqL K H p (zs.map vN) ∧ zs.length ≤ 4 ∧
  ∀ (d : Addr) (ws : List (List Nat)) (H' : Hp), Same H H' → H d = none → H' d = some (.lst (ws.map vN)) → ws.Sublist zs → Q (.ref d) H'
theorem ok_L_some {f : Addr} {fd : FuncData} (F : Fun K "_law_some" "_law_some" s_L_some f fd) (m_len : mg "len" = none) (m_range : mg "range" = none) (d_L_part : Def P w K mg base "_law_part" 1 ["_law_pool_here", "_law_spot", "_law_under", "_law_size"] (spPart K)) :
    FnOk P w K mg base CX0 2 f fd ["_law_pool_here", "_law_spot", "_law_names_here"] (spSome K) := by
  refine F.ok sc_L_some (fun vs H Q E h => ?_) (fun cdv A outer s H vs Q E hr h => ?_)
  · obtain ⟨a, p, ns, s, zs, rfl, _⟩ := h
    rfl
  · obtain ⟨a, p, ns, s, zs, rfl, hS, h0, h1, hp, hl, q⟩ := h
    refine ⟨_, (pss_cons (ps_set (i := 3) sc_L_some.nd rfl (.inl rfl) (pe_lst pa_nil))
  (pss_cons (ps_for PassesOwn.never rfl (pi_range1 (by rfl) m_range (pa_cons (pe_callB call_len_seq (by rfl) m_len (by decide +kernel) (pa_cons (pv 2) pa_nil)) pa_nil)) (pg_name (i := 4) sc_L_some.nd rfl (.inl rfl))
    (pss_one (ps_if (pt_cmpR op_eq (pe_callD d_L_part (hr.mono (by decide)) (by rfl) (pa_cons (pv 0) (pa_cons (pv 1) (pa_cons (pe_ix ix_list (pe_lst (pa_cons pe_int (pa_cons pe_int (pa_cons pe_int (pa_cons pe_int pa_nil))))) (pv 4) (fun _ _ => rfl)) (pa_cons pe_int pa_nil))))) pe_int (nomark _)) (pss_one (ps_expr (pe_bm PySem.F.plainAttrs_list PySem.F.slot_list_append PySem.F.type_list_append mt_append (pv 3) (pa_cons (pe_ix ix_list (pv 2) (pv 4) (fun _ _ => rfl)) pa_nil)))) pss_nil)))
  (pss_one (ps_ret (pv 3))))), ?_⟩
    refine ⟨Nat.zero_le _, fun d nd => ?_⟩
    have s1 : Same H (upd H d (.lst [])) := same_upd nd
    refine ⟨_, rfl, _, _, rfl, .inl (s1.seq hp), _, rfl, by omega, by rw [List.length_map]; omega, for_range (fun i σ H2 => Same H H2 ∧ ∃ (ws : List (List Nat)) (y : Option V), σ = [some (.ref a), some (.int s), some (.ref p), some (.ref d), y] ∧ ws.Sublist (zs.take i) ∧ H2 d = some (.lst (ws.map vN))) ⟨s1, [], _, rfl, List.Sublist.refl _, upd_same⟩ ?_ ?_⟩
    · rintro i σ H2 hi ⟨sm, ws, y, rfl, sub, ed⟩
      rw [List.length_map] at hi
      obtain ⟨u, eu, u0, u1⟩ := pow4 (i := 0 + (i : Int)) (by omega) (by omega)
      refine ⟨_, rfl, _, rfl, (show 4 ≤ sizeLine by decide), fun l nl => ⟨_, rfl, _, _, _, _, rfl, rfl, lstAt upd_same, eu, ?_⟩⟩
      have sl := same_upd (o := .lst [V.int 1, V.int 2, V.int 4, V.int 8]) nl
      have sm2 := sm.trans sl
      refine ⟨a, ns, s, u, 2, rfl, sm2.seq hS, h0, h1, u0, u1, by decide, ?_⟩
      refine ⟨rfl, _, rfl, ite2 (fun e => ?_) (fun e => ?_)⟩
      · obtain ⟨z, ez, az⟩ := nm_at (zs := zs) (i := 0 + (i : Int)) (by omega) (by omega)
        rw [show (0 + (i : Int)).toNat = i by omega] at ez
        refine ⟨_, rfl, .inl ⟨rfl, _, lstAt (sl _ _ ed)⟩, _, rfl, _, rfl, _, _, _, _, rfl, rfl, sm2.seq hp, az, ?_⟩
        have hw := sub.length_le
        rw [List.length_take] at hw
        refine ⟨_, _, _, rfl, rfl, sl _ _ ed, by rw [List.length_map]; exact small1000 (by omega), same_at sm2 nd, ws ++ [z], _, rfl, sub_snoc sub ez, ?_⟩
        rw [upd_same, List.map_append]; rfl
      · exact ⟨sm2, ws, _, rfl, sub_keep sub, sl _ _ ed⟩
    · rintro σ H2 ⟨sm, ws, y, rfl, sub, ed⟩
      rw [List.length_map, Int.toNat_natCast, List.take_length] at sub
      exact ⟨_, rfl, q d ws H2 sm nd ed sub⟩
def spShufG {α : Type} (emb : α → V) (K : PySem.W.Frag) : Sp := fun vs H Q _ => ∃ (a p : Addr) (ns : List Int) (s : Int) (zs : List α), vs = [.ref a, .int s, .ref p] ∧ SqL K H a (ns.map V.int) ∧ 0 ≤ s ∧ s < ns.length ∧ SqL K H p (zs.map emb) ∧ zs.length ≤ 4 ∧
  ∀ (d : Addr) (ts : List α) (H' : Hp), Same H H' → H d = none → H' d = some (.lst (ts.map emb)) → ts.Perm zs → Q (.ref d) H'
theorem ok_L_shuffledG {α : Type} (emb : α → V) {f : Addr} {fd : FuncData} (F : Fun K "_law_shuffled" "_law_shuffled" s_L_shuffled f fd) (m_len : mg "len" = none) (m_range : mg "range" = none) (m_list : mg "list" = none) (d_L_part : Def P w K mg base "_law_part" 1 ["_law_pool_here", "_law_spot", "_law_under", "_law_size"] (spPart K)) :
    FnOk P w K mg base CX0 2 f fd ["_law_pool_here", "_law_spot", "_law_row"] (spShufG emb K) := by
  refine F.ok sc_L_shuffled (fun vs H Q E h => ?_) (fun cdv A outer s H vs Q E hr h => ?_)
  · obtain ⟨a, p, ns, s, zs, rfl, _⟩ := h
    rfl
  · obtain ⟨a, p, ns, s, zs, rfl, hS, h0, h1, hp, hl, q⟩ := h
    refine ⟨_, (pss_cons (ps_set (i := 3) sc_L_shuffled.nd rfl (.inl rfl) (pe_callTy call_list_of (by rfl) m_list (by decide +kernel) (pa_cons (pv 2) pa_nil)))
  (pss_cons (ps_set (i := 4) sc_L_shuffled.nd rfl (.inl rfl) (pe_lst pa_nil))
  (pss_cons (ps_for PassesOwn.never rfl (pi_range1 (by rfl) m_range (pa_cons (pe_callB call_len_seq (by rfl) m_len (by decide +kernel) (pa_cons (pv 2) pa_nil)) pa_nil)) (pg_name (i := 5) sc_L_shuffled.nd rfl (.inl rfl))
    (pss_one (ps_expr (pe_bm PySem.F.plainAttrs_list PySem.F.slot_list_append PySem.F.type_list_append mt_append (pv 4) (pa_cons (pe_bm PySem.F.plainAttrs_list PySem.F.slot_list_pop PySem.F.type_list_pop mt_popAt (pv 3) (pa_cons (pe_op op_modN (pe_callD d_L_part (hr.mono (by decide)) (by rfl) (pa_cons (pv 0) (pa_cons (pv 1) (pa_cons (pe_ix ix_list (pe_lst (pa_cons pe_int (pa_cons pe_int (pa_cons pe_int (pa_cons pe_int pa_nil))))) (pv 5) (fun _ _ => rfl)) (pa_cons (pe_ix ix_list (pe_lst (pa_cons pe_int (pa_cons pe_int (pa_cons pe_int (pa_cons pe_int pa_nil))))) (pv 5) (fun _ _ => rfl)) pa_nil))))) (pe_callB call_len_seq (by rfl) m_len (by decide +kernel) (pa_cons (pv 3) pa_nil))) pa_nil)) pa_nil)))))
  (pss_one (ps_ret (pv 4)))))), ?_⟩
    refine ⟨_, rfl, p, _, rfl, .inl hp, fun lf nlf => ?_⟩
    have s1 : Same H (upd H lf (.lst (zs.map emb))) := same_upd nlf
    refine ⟨Nat.zero_le _, fun tk ntk => ?_⟩
    have s2 := s1.trans (same_upd (o := .lst []) ntk)
    have ntk0 : H tk = none := s1.free ntk
    have hne : lf ≠ tk := ne_new upd_same ntk
    refine ⟨_, rfl, _, _, rfl, .inl (s2.seq hp), _, rfl, by omega, by rw [List.length_map]; omega, for_range (fun i σ H2 => Same H H2 ∧ ∃ (rs ts : List α) (y : Option V), σ = [some (.ref a), some (.int s), some (.ref p), some (.ref lf), some (.ref tk), y] ∧ H2 lf = some (.lst (rs.map emb)) ∧ H2 tk = some (.lst (ts.map emb)) ∧ rs.length + i = zs.length ∧ ts.length = i ∧ (ts ++ rs).Perm zs)
      ⟨s2, zs, [], _, rfl, by rw [upd_ne hne]; exact upd_same, upd_same, rfl, rfl, List.Perm.refl _⟩ ?_ ?_⟩
    · rintro i σ H2 hi ⟨sm, rs, ts, y, rfl, el, et, ll, lt, pm⟩
      rw [List.length_map] at hi
      obtain ⟨u, eu, u0, u1⟩ := sh1 (i := 0 + (i : Int)) (by omega) (by omega)
      obtain ⟨v, ev, v0, v1⟩ := sh2 (i := 0 + (i : Int)) (by omega) (by omega)
      have rl : 0 < rs.length := by omega
      have m0 := Int.emod_nonneg (partOf ns s u v) (show (rs.length : Int) ≠ 0 by omega)
      have m1 := Int.emod_lt_of_pos (partOf ns s u v) (show (0 : Int) < (rs.length : Int) by omega)
      obtain ⟨k, hk⟩ : ∃ k : Nat, partOf ns s u v % (rs.length : Int) = (k : Int) := ⟨(partOf ns s u v % (rs.length : Int)).toNat, by omega⟩
      have hkl : k < rs.length := by omega
      have ek : rs[k]? = some rs[k] := List.getElem?_eq_getElem hkl
      refine ⟨_, rfl, .inl ⟨rfl, _, lstAt et⟩, _, rfl, .inl ⟨rfl, _, lstAt el⟩, ?_⟩
      refine ⟨_, rfl, _, rfl, (show 4 ≤ sizeLine by decide), fun l1 n1 => ⟨_, rfl, _, _, _, _, rfl, rfl, lstAt upd_same, eu, (show 4 ≤ sizeLine by decide), fun l2 n2 => ⟨_, rfl, _, _, _, _, rfl, rfl, lstAt upd_same, ev, ?_⟩⟩⟩
      have t1 := same_upd (o := .lst [V.int 1, V.int 4, V.int 12, V.int 24]) n1
      have t2 := t1.trans (same_upd (o := .lst [V.int 4, V.int 3, V.int 2, V.int 1]) n2)
      have sm2 := sm.trans t2
      have el2 := t2 _ _ el
      have et2 := t2 _ _ et
      obtain ⟨H4, eH4⟩ : ∃ H4, H4 = upd (upd H2 l1 (.lst [V.int 1, V.int 4, V.int 12, V.int 24])) l2 (.lst [V.int 4, V.int 3, V.int 2, V.int 1]) := ⟨_, rfl⟩
      rw [← eH4] at t2 sm2 el2 et2 ⊢
      refine ⟨a, ns, s, u, v, rfl, sm2.seq hS, h0, h1, u0, u1, v0, ?_⟩
      refine ⟨_, rfl, _, _, rfl, .inl (lstAt el2), _, _, rfl, rfl, (by show ((rs.map emb).length : Int) ≠ 0; rw [List.length_map]; omega), ?_⟩
      have fm : (partOf ns s u v).fmod ((rs.map emb).length : Int) = (k : Int) := by rw [List.length_map, Int.fmod_eq_emod_of_nonneg _ (by omega), hk]
      refine ⟨lf, rs.map emb, (k : Int), k, emb rs[k], rfl, congrArg (fun z => [V.int z]) fm, el2, by omega, by omega, ?_, by rw [List.getElem?_map, ek]; rfl, ?_⟩
      · rw [List.length_map]
        have : seqIndex? ((k : Nat) : Int) rs.length = some k := by
          unfold seqIndex?
          simp
          omega
        exact this
      rw [erase_map]
      have et5 : (upd H4 lf (.lst ((rs.eraseIdx k).map emb))) tk = some (.lst (ts.map emb)) := by rw [upd_ne hne.symm]; exact et2
      refine ⟨_, _, _, rfl, rfl, et5, by rw [List.length_map]; exact small1000 (by omega), ?_⟩
      refine ⟨same_at (same_at sm2 nlf) ntk0, rs.eraseIdx k, ts ++ [rs[k]], _, rfl, by rw [upd_ne hne]; exact upd_same, by rw [upd_same, List.map_append]; rfl, by have := erase_len hkl; omega, by rw [List.length_append, lt]; rfl, ?_⟩
      refine List.Perm.trans ?_ pm
      rw [List.append_assoc]
      exact (erase_perm ek).append_left ts
    · rintro σ H2 ⟨sm, rs, ts, y, rfl, el, et, ll, lt, pm⟩
      rw [List.length_map, Int.toNat_natCast] at ll
      have : rs = [] := List.length_eq_zero_iff.mp (by omega)
      subst this
      rw [List.append_nil] at pm
      exact ⟨_, rfl, q tk ts H2 sm ntk0 et pm⟩
end
end TK

/-! the pages that the law draws -/
namespace TK
open PySem PySem.Spec PyProof.Rows L2
theorem canLay_strs : ∀ zs : List Nam, (∀ z ∈ zs, Nm z) → PyData.canLayAll0 ((zs.map sOf).map PyData.str) = true
  | [], _ => rfl
  | z :: r, h => by
    have h1 := canLay_strs r fun z m => h z (List.mem_cons_of_mem _ m)
    have h2 : PyData.strOk (sOf z) = true := nmH_ok (.inl (h z (List.mem_cons_self ..)))
    show PyData.canLayAll0 (PyData.str (sOf z) :: _) = true
    simp only [PyData.canLayAll0, PyData.canLay0, h2, Bool.true_and]
    exact h1
theorem depth_strs : ∀ ns : List Str, PyData.depthAll (ns.map PyData.str) = 0
  | [] => rfl
  | _ :: r => by simp [PyData.depthAll, PyData.depth, depth_strs r]
theorem shaped_strs {zs : List Nam} (h : ∀ z ∈ zs, Nm z) : SeqAt.shaped (.list ((zs.map sOf).map PyData.str)) = true := by
  simp only [SeqAt.shaped, PyData.canLay0, PyData.depth, canLay_strs zs h, depth_strs]; rfl
theorem dpAll_nms {K : PySem.W.Frag} {H : Hp} : ∀ (zs : List Nam), DpAll K H (zs.map vN) ((zs.map sOf).map PyData.str)
  | [] => .nil
  | z :: zs => .cons (.str _) (dpAll_nms zs)
theorem dp_nms {K : PySem.W.Frag} {H : Hp} {a : Addr} {zs : List Nam} (h : SqL K H a (zs.map vN)) : Dp K H (.ref a) (.list ((zs.map sOf).map PyData.str)) := .lst h (dpAll_nms zs)
theorem eqv_nil (zs : List Str) : PyData.eqv (.list (zs.map PyData.str)) (.list (([] : List Str).map PyData.str)) = decide (zs = []) := by
  cases zs with
  | nil => rfl
  | cons z zs => rfl
/-- a row of the law -/
def RwI (H0 : Hp) (D : Addr) : Hp → Addr → PgD → Prop := fun H p d => ∃ (b f : Addr) (es : List Addr), H p = some (.tup [vN d.nm, .ref b, .ref f]) ∧ H b = some (.lst (es.map V.ref)) ∧ BidsAt H es d.bids ∧ H f = some (.lst (d.fol.map vN)) ∧ b ≠ D ∧ f ≠ D ∧ H0 b = none ∧ H0 f = none
theorem RwI.go {H0 : Hp} {D : Addr} {H H' : Hp} {p : Addr} {d : PgD} (h : RwI H0 D H p d) (e : ∃ xs, H D = some (.lst xs)) (k : ∀ c o, H c = some o → c ≠ D → H' c = some o) : RwI H0 D H' p d := by
  obtain ⟨b, f, es, h1, h2, h3, h4, h5, h6, h7, h8⟩ := h
  obtain ⟨xs, e⟩ := e
  refine ⟨b, f, es, k _ _ h1 (ne_of h1 e nofun), k _ _ h2 h5, ⟨h3.1, fun i e' he => ?_⟩, k _ _ h4 h6, h5, h6, h7, h8⟩
  obtain ⟨d', a, b'⟩ := h3.2 i e' he
  exact ⟨d', a, k _ _ b' (ne_of b' e nofun)⟩
/-- right rows -/
structure RwOk (zs ts us : List Nam) (ds : List PgD) : Prop where
  nm : ds.map (·.nm) = us
  b : ∀ d ∈ ds, BOk zs d.bids
  bl : ∀ d ∈ ds, d.bids.length ≤ 4
  f : ∀ d ∈ ds, d.fol.Nodup
  fs : ∀ d ∈ ds, ∀ x ∈ d.fol, x ∈ ts
  fl : ∀ d ∈ ds, d.fol.length ≤ 4
  b6 : ∀ d ∈ ds, ∀ b ∈ d.bids, b.2 ≤ 6
theorem RwOk.nil {zs ts : List Nam} : RwOk zs ts [] [] := ⟨rfl, nofun, nofun, nofun, nofun, nofun, nofun⟩
theorem RwOk.app {zs ts us : List Nam} {ds : List PgD} {d : PgD} (h : RwOk zs ts us ds) (b : BOk zs d.bids) (bl : d.bids.length ≤ 4) (f : d.fol.Nodup) (fs : ∀ x ∈ d.fol, x ∈ ts) (fl : d.fol.length ≤ 4) (b6 : ∀ b ∈ d.bids, b.2 ≤ 6) : RwOk zs ts (us ++ [d.nm]) (ds ++ [d]) := by
  have one : ∀ {p : PgD → Prop}, (∀ x ∈ ds, p x) → p d → ∀ x ∈ ds ++ [d], p x := fun h k x m => (List.mem_append.mp m).elim (h x) fun m => by rw [List.mem_singleton.mp m]; exact k
  exact ⟨by rw [List.map_append, h.nm]; rfl, one h.b b, one h.bl bl, one h.f f, one h.fs fs, one h.fl fl, one h.b6 b6⟩
theorem bids_rev {H : Hp} {es : List Addr} {ds : List BidD} (h : BidsAt H es ds) : BidsAt H es.reverse ds.reverse := by
  have l := h.1
  refine ⟨by rw [List.length_reverse, List.length_reverse, l], fun i e he => ?_⟩
  have hi : i < es.length := by have := (List.getElem?_eq_some_iff.mp he).1; rwa [List.length_reverse] at this
  rw [List.getElem?_reverse hi] at he
  obtain ⟨d, a, b⟩ := h.2 _ e he
  exact ⟨d, by rw [List.getElem?_reverse (by omega), ← l]; exact a, b⟩
theorem BOk.rev {zs : List Nam} {ds : List BidD} (h : BOk zs ds) : BOk zs ds.reverse := ⟨by rw [List.map_reverse]; exact (List.reverse_perm _).nodup_iff.mpr h.nd, fun x m => h.sub x (by rw [List.map_reverse] at m; exact List.mem_reverse.mp m), fun d m => h.h0 d (List.mem_reverse.mp m), fun d m => h.h9 d (List.mem_reverse.mp m)⟩
theorem sev {i : Int} (h0 : 0 ≤ i) (h1 : i < 4) : ∃ v : Int, atI [V.int 1, V.int 7, V.int 49, V.int 343] i = some (.int v) ∧ 0 < v ∧ v < 1000000 := by
  obtain rfl | rfl | rfl | rfl : i = 0 ∨ i = 1 ∨ i = 2 ∨ i = 3 := by omega
  · exact ⟨1, rfl, by decide, by decide⟩
  · exact ⟨7, rfl, by decide, by decide⟩
  · exact ⟨49, rfl, by decide, by decide⟩
  · exact ⟨343, rfl, by decide, by decide⟩
section
variable {P : Program} {w : World} {K : PySem.W.Frag} {mg : Str → Option Value} {base : Heap}
def spPagesL (K : PySem.W.Frag) : Sp := fun vs H Q _ => ∃ (a m t : Addr) (ns : List Int) (s : Int) (zs ts : List Nam), vs = [.ref a, .int s, .ref m, .ref t] ∧ SqL K H a (ns.map V.int) ∧ 0 ≤ s ∧ s + 12 ≤ ns.length ∧ SqL K H m (zs.map vN) ∧ SqL K H t (ts.map vN) ∧ zs.length ≤ 4 ∧ ts.length ≤ 4 ∧ zs.Nodup ∧ ts.Nodup ∧ (∀ z ∈ ts, Nm z) ∧
  ∀ (H' : Hp) (D : Addr) (ps : List Addr) (ds : List PgD), H D = none → Same H H' → H' D = some (.lst (ps.map V.ref)) → AllAt (RwI H D) H' ps ds → RwOk zs ts ts ds → Q (.ref D) H'
theorem ok_L_pages {f : Addr} {fd : FuncData} (F : Fun K "_law_pages" "_law_pages" s_L_pages f fd) (m_len : mg "len" = none) (m_range : mg "range" = none) (d_L_part : Def P w K mg base "_law_part" 1 ["_law_pool_here", "_law_spot", "_law_under", "_law_size"] (spPart K))
    (d_L_some : Def P w K mg base "_law_some" 2 ["_law_pool_here", "_law_spot", "_law_names_here"] (spSome K)) : FnOk P w K mg base CX0 3 f fd ["_law_pool_here", "_law_spot", "_law_members", "_law_names_here"] (spPagesL K) := by
  refine F.ok sc_L_pages (fun vs H Q E h => ?_) (fun cdv A outer s H vs Q E hr h => ?_)
  · obtain ⟨a, m, t, ns, s, zs, ts, rfl, _⟩ := h
    rfl
  · obtain ⟨a, m, t, ns, s, zs, ts, rfl, hA, s0, s12, hM, hT, z4, t4, nz, nt, tn, q⟩ := h
    refine ⟨_, (pss_cons (ps_set (i := 4) sc_L_pages.nd rfl (.inl rfl) (pe_lst pa_nil))
  (pss_cons (ps_for PassesOwn.never rfl (pi_range1 (by rfl) m_range (pa_cons (pe_callB call_len_seq (by rfl) m_len (by decide +kernel) (pa_cons (pv 3) pa_nil)) pa_nil)) (pg_name (i := 5) sc_L_pages.nd rfl (.inl rfl))
    (pss_cons (ps_set (i := 6) sc_L_pages.nd rfl (.inl rfl) (pv 2))
  (pss_cons (ps_cut (ps_if (pt_cmpR op_eq (pe_callD d_L_part (hr.mono (by decide)) (by rfl) (pa_cons (pv 0) (pa_cons (pe_op op_add (pv 1) (pe_op op_mul pe_int (pv 5))) (pa_cons pe_int (pa_cons pe_int pa_nil))))) pe_int (nomark _)) (pss_one (ps_set (i := 6) sc_L_pages.nd rfl (.inl rfl) (pe_callD d_L_some (hr.mono (by decide)) (by rfl) (pa_cons (pv 0) (pa_cons (pe_op op_add (pv 1) (pe_op op_mul pe_int (pv 5))) (pa_cons (pv 2) pa_nil)))))) pss_nil))
  (pss_cons (ps_set (i := 7) sc_L_pages.nd rfl (.inl rfl) (pe_lst pa_nil))
  (pss_cons (ps_for PassesOwn.never rfl (pi_range1 (by rfl) m_range (pa_cons (pe_callB call_len_seq (by rfl) m_len (by decide +kernel) (pa_cons (pv 2) pa_nil)) pa_nil)) (pg_name (i := 8) sc_L_pages.nd rfl (.inl rfl))
    (pss_one (ps_if (pt_cmpR op_in_seq (pe_ix ix_list (pv 2) (pv 8) (fun _ _ => rfl)) (pv 6) (by rfl)) (pss_one (ps_expr (pe_bm PySem.F.plainAttrs_list PySem.F.slot_list_append PySem.F.type_list_append mt_append (pv 7) (pa_cons (pe_tup (pa_cons (pe_ix ix_list (pv 2) (pv 8) (fun _ _ => rfl)) (pa_cons (pe_callD d_L_part (hr.mono (by decide)) (by rfl) (pa_cons (pv 0) (pa_cons (pe_op op_add (pe_op op_add (pv 1) (pe_op op_mul pe_int (pv 5))) pe_int) (pa_cons (pe_ix ix_list (pe_lst (pa_cons pe_int (pa_cons pe_int (pa_cons pe_int (pa_cons pe_int pa_nil))))) (pv 8) (fun _ _ => rfl)) (pa_cons pe_int pa_nil))))) pa_nil))) pa_nil)))) pss_nil)))
  (pss_cons (ps_cut (ps_if (pt_cmpR op_eq (pe_callD d_L_part (hr.mono (by decide)) (by rfl) (pa_cons (pv 0) (pa_cons (pe_op op_add (pv 1) (pe_op op_mul pe_int (pv 5))) (pa_cons pe_int (pa_cons pe_int pa_nil))))) pe_int (nomark _)) (pss_one (ps_set (i := 7) sc_L_pages.nd rfl (.inl rfl) (pe_revL (pv 7)))) pss_nil))
  (pss_cons (ps_set (i := 9) sc_L_pages.nd rfl (.inl rfl) (pe_callD d_L_some (hr.mono (by decide)) (by rfl) (pa_cons (pv 0) (pa_cons (pe_op op_add (pe_op op_add (pv 1) (pe_op op_mul pe_int (pv 5))) pe_int) (pa_cons (pv 3) pa_nil)))))
  (pss_cons (ps_cut (ps_if (PW.pt (pw_and (pt_cmpR (op_eqD hr.units) (pv 9) (pe_lst pa_nil) (nomark _)) (pw_and1 (pt_cmpR op_gt (pe_callD d_L_part (hr.mono (by decide)) (by rfl) (pa_cons (pv 0) (pa_cons (pe_op op_add (pe_op op_add (pv 1) (pe_op op_mul pe_int (pv 5))) pe_int) (pa_cons pe_int (pa_cons pe_int pa_nil))))) pe_int (nomark _))))) (pss_one (ps_set (i := 9) sc_L_pages.nd rfl (.inl rfl) (pe_lst (pa_cons (pe_ix ix_list (pv 3) (pv 5) (fun _ _ => rfl)) pa_nil)))) pss_nil))
  (pss_cons (ps_cut (ps_if (pt_cmpR op_eq (pe_callD d_L_part (hr.mono (by decide)) (by rfl) (pa_cons (pv 0) (pa_cons (pe_op op_add (pe_op op_add (pv 1) (pe_op op_mul pe_int (pv 5))) pe_int) (pa_cons pe_int (pa_cons pe_int pa_nil))))) pe_int (nomark _)) (pss_one (ps_set (i := 9) sc_L_pages.nd rfl (.inl rfl) (pe_revL (pv 9)))) pss_nil))
  (pss_one (ps_expr (pe_bm PySem.F.plainAttrs_list PySem.F.slot_list_append PySem.F.type_list_append mt_append (pv 4) (pa_cons (pe_tup (pa_cons (pe_ix ix_list (pv 3) (pv 5) (fun _ _ => rfl)) (pa_cons (pv 7) (pa_cons (pv 9) pa_nil)))) pa_nil)))))))))))))
  (pss_one (ps_ret (pv 4))))), ?_⟩
    refine ⟨Nat.zero_le _, fun D nD => ?_⟩
    have w0 := same_upd (o := .lst []) nD
    refine ⟨_, rfl, _, _, rfl, .inl (w0.seq hT), _, rfl, by rw [List.length_map]; omega, by rw [List.length_map]; omega, for_range (fun j σ H' => ∃ (ps : List Addr) (ds : List PgD) (y5 y6 y7 y8 y9 : Option V), σ = [some (.ref a), some (.int s), some (.ref m), some (.ref t), some (.ref D), y5, y6, y7, y8, y9] ∧ Same H H' ∧ H' D = some (.lst (ps.map V.ref)) ∧ AllAt (RwI H D) H' ps ds ∧ RwOk zs ts (ts.take j) ds) ⟨[], [], _, _, _, _, _, rfl, w0, upd_same, .nil, .nil⟩ ?_ ?_⟩
    · rintro j σ H1 hj ⟨ps, ds, y5, y6, y7, y8, y9, rfl, s1, eD, hR, ok⟩
      rw [List.length_map] at hj
      obtain ⟨z, ez, az⟩ := nm_at (zs := ts) (i := 0 + (j : Int)) (by omega) (by omega)
      rw [show (0 + (j : Int)).toNat = j by omega] at ez
      have hA1 := s1.seq hA
      have hM1 := s1.seq hM
      have hT1 := s1.seq hT
      have j3 : CMul 3 (0 + (j : Int)) := .inl ⟨by decide, by decide⟩
      refine ⟨_, rfl, (fun σ' H' => ∃ (wv : Addr) (ws : List Nam), σ' = [some (.ref a), some (.int s), some (.ref m), some (.ref t), some (.ref D), some (.int (0 + (j : Int))), some (.ref wv), y7, y8, y9] ∧ Same H1 H' ∧ SqL K H' wv (ws.map vN)), ?_, ?_⟩
      · refine ⟨_, rfl, _, rfl, _, rfl, _, _, rfl, rfl, j3, _, _, rfl, rfl, _, _, _, _, _, rfl, hA1, by omega, by omega, by decide, by decide, by decide, rfl, _, rfl, ite2 (fun e => ?_) (fun e => ?_)⟩
        · refine ⟨_, rfl, _, rfl, _, rfl, _, _, rfl, rfl, j3, _, _, rfl, rfl, _, rfl, _, _, _, _, _, rfl, hA1, by omega, by omega, hM1, z4, fun d ws H2 s2 nd ed _ => ?_⟩
          exact ⟨d, ws, rfl, s2, lstAt ed⟩
        · exact ⟨m, zs, rfl, Same.refl _, hM1⟩
      rintro σ' H2 ⟨wv, ws, rfl, s2, hW⟩
      have hA2 := s2.seq hA1
      have hM2 := s2.seq hM1
      -- the bids
      refine ⟨Nat.zero_le _, fun B nB => ?_⟩
      have sB := same_upd (o := .lst []) nB
      have b1 := upd_same (H := H2) (a := B) (o := .lst [])
      have hA3 := sB.seq hA2
      have hM3 := sB.seq hM2
      have hW3 := sB.seq hW
      have s3 := s2.trans sB
      have fB : ∀ {H' : Hp}, Same H2 H' → ∀ c o, H1 c = some o → c ≠ B := fun _ c o e => ne_of_none (s2 _ _ e) nB
      refine ⟨_, rfl, _, _, rfl, .inl hM3, _, rfl, by rw [List.length_map]; omega, by rw [List.length_map]; omega, for_range (fun k σ H' => ∃ (es : List Addr) (us : List BidD) (y8 : Option V), σ = [some (.ref a), some (.int s), some (.ref m), some (.ref t), some (.ref D), some (.int (0 + (j : Int))), some (.ref wv), some (.ref B), y8, y9] ∧ Same H2 H' ∧ H' B = some (.lst (es.map V.ref)) ∧ BidsAt H' es us ∧ (us.map (·.1)).Sublist (zs.take k) ∧ ∀ d ∈ us, 0 ≤ d.2 ∧ d.2 ≤ 6) ⟨[], [], _, rfl, sB, b1, ⟨rfl, nofun⟩, List.Sublist.refl _, nofun⟩ ?_ ?_⟩
      · rintro k σ H4 hk ⟨es, us, y8, rfl, s4, eB, hE, sub, bd⟩
        rw [List.length_map] at hk
        obtain ⟨x, ex, ax⟩ := nm_at (zs := zs) (i := 0 + (k : Int)) (by omega) (by omega)
        rw [show (0 + (k : Int)).toNat = k by omega] at ex
        have hl : us.length ≤ k := by have := sub.length_le; rw [List.length_map, List.length_take] at this; omega
        refine ⟨_, rfl, _, rfl, _, _, _, _, rfl, rfl, s4.seq hM2, ax, _, rfl, wv, _, rfl, .inl (s4.seq hW), rfl, nms_flat _, _, rfl, ?_⟩
        rw [in_nm]
        by_cases mx : x ∈ ws
        · rw [decide_eq_true mx]
          obtain ⟨u, eu, u0, u1⟩ := sev (i := 0 + (k : Int)) (by omega) (by omega)
          refine iteT ⟨_, rfl, .inl ⟨rfl, _, lstAt eB⟩, _, rfl, _, rfl, _, _, _, _, rfl, rfl, s4.seq hM2, ax, ?_⟩
          refine ⟨_, rfl, _, rfl, _, rfl, _, _, rfl, rfl, j3, _, _, rfl, rfl, _, _, rfl, rfl, (show 4 ≤ sizeLine by decide), fun l nl => ⟨_, rfl, _, _, _, _, rfl, rfl, lstAt upd_same, eu, ?_⟩⟩
          have sl := same_upd (o := .lst [V.int 1, V.int 7, V.int 49, V.int 343]) nl
          generalize upd H4 l (.lst [V.int 1, V.int 7, V.int 49, V.int 343]) = H5 at sl ⊢
          have p0 := part_lo (ns := ns) (s := s + 3 * (0 + (j : Int)) + 1) (u := u) (z := 7) (by decide)
          have p1 := part_hi (ns := ns) (s := s + 3 * (0 + (j : Int)) + 1) (u := u) (z := 7) (by decide)
          refine ⟨_, _, _, _, _, rfl, sl.seq (s4.seq hA2), by omega, by omega, u0, u1, by decide, (show (2 : Nat) ≤ sizeLine by decide), fun g ng => ?_⟩
          have sg := same_upd (o := .tup [vN x, V.int (partOf ns (s + 3 * (0 + (j : Int)) + 1) u 7)]) ng
          have g6 := upd_same (H := H5) (a := g) (o := .tup [vN x, V.int (partOf ns (s + 3 * (0 + (j : Int)) + 1) u 7)])
          generalize upd H5 g (.tup [vN x, V.int (partOf ns (s + 3 * (0 + (j : Int)) + 1) u 7)]) = H6 at sg g6 ⊢
          have s46 := sl.trans sg
          refine ⟨_, _, _, rfl, rfl, s46 _ _ eB, by rw [List.length_map, hE.1]; exact small1000 (by omega), es ++ [g], us ++ [(x, partOf ns (s + 3 * (0 + (j : Int)) + 1) u 7)], _, rfl, same_at (s4.trans s46) nB, by rw [upd_same, List.map_append]; rfl, ?_, ?_, ?_⟩
          · exact ((hE.same s46).app (.one g6)).wrote (s46 _ _ eB)
          · rw [List.map_append]; exact sub_snoc sub ex
          · exact fun d md => (List.mem_append.mp md).elim (bd d) fun md => by rw [List.mem_singleton.mp md]; exact ⟨p0, by show partOf ns (s + 3 * (0 + (j : Int)) + 1) u 7 ≤ 6; omega⟩
        · rw [decide_eq_false mx]
          exact iteF ⟨es, us, _, rfl, s4, eB, hE, sub_keep sub, bd⟩
      rintro σ H4 ⟨es, us, y8', rfl, s4, eB, hE, sub, bd⟩
      rw [List.length_map, Int.toNat_natCast, List.take_length] at sub
      have bok : BOk zs us := ⟨sub.nodup nz, fun x mx => sub.subset mx, fun d md => (bd d md).1, fun d md => by have := (bd d md).2; omega⟩
      have b6 : ∀ d ∈ us, d.2 ≤ 6 := fun d md => (bd d md).2
      have ul : us.length ≤ 4 := by have := sub.length_le; rw [List.length_map] at this; omega
      clear bd sub fB
      have BD : B ≠ D := (ne_of_none (s2 _ _ eD) nB).symm
      have hB0 : H B = none := none_of (s1.trans s2) nB
      have s24 := s2.trans s4
      refine ⟨(fun σ' H' => ∃ (bv : Addr) (es : List Addr) (us : List BidD), σ' = [some (.ref a), some (.int s), some (.ref m), some (.ref t), some (.ref D), some (.int (0 + (j : Int))), some (.ref wv), some (.ref bv), y8', y9] ∧ Same H1 H' ∧ H' bv = some (.lst (es.map V.ref)) ∧ BidsAt H' es us ∧ BOk zs us ∧ us.length ≤ 4 ∧ bv ≠ D ∧ H bv = none ∧ ∀ d ∈ us, d.2 ≤ 6), ?_, ?_⟩
      · refine ⟨_, rfl, _, rfl, _, rfl, _, _, rfl, rfl, j3, _, _, rfl, rfl, _, _, _, _, _, rfl, s24.seq hA1, by omega, by omega, by decide, by decide, by decide, rfl, _, rfl, ite2 (fun e => ?_) (fun e => ?_)⟩
        · refine ⟨_, rfl, B, _, rfl, lstAt eB, fun r nr => ?_⟩
          rw [← List.map_reverse]
          have sr := same_upd (o := .lst (es.reverse.map V.ref)) nr
          exact ⟨r, es.reverse, us.reverse, rfl, s24.trans sr, upd_same, bids_rev (hE.same sr), bok.rev, by rw [List.length_reverse]; exact ul, (ne_of_none (s24 _ _ eD) nr).symm, none_of (s1.trans s24) nr, fun d md => b6 d (List.mem_reverse.mp md)⟩
        · exact ⟨B, es, us, rfl, s24, eB, hE, bok, ul, BD, hB0, b6⟩
      clear eB hE bok ul BD hB0 b6
      rintro σ' H5 ⟨bv, es, us, rfl, s5, eB, hE, bok, ul, BD, hB0, b6⟩
      clear s24 s4 s3 sB b1 hA3 hM3 hW3 nB hA2 hM2 hW s2
      -- the followers
      refine ⟨_, rfl, _, rfl, _, rfl, _, _, rfl, rfl, j3, _, _, rfl, rfl, _, _, rfl, rfl, _, rfl, _, _, _, _, _, rfl, s5.seq hA1, by omega, by omega, s5.seq hT1, t4, fun d fs H6 s6 nd ed sub => ?_⟩
      have s56 := s5.trans s6
      have fsub := sub.subset
      have fnd := sub.nodup nt
      have fl4 : fs.length ≤ 4 := Nat.le_trans sub.length_le t4
      have fnm : ∀ z ∈ fs, Nm z := fun z mz => tn z (fsub mz)
      refine ⟨(fun σ' H' => ∃ (fv : Addr) (fs : List Nam), σ' = [some (.ref a), some (.int s), some (.ref m), some (.ref t), some (.ref D), some (.int (0 + (j : Int))), some (.ref wv), some (.ref bv), y8', some (.ref fv)] ∧ Same H5 H' ∧ H' fv = some (.lst (fs.map vN)) ∧ fs.Nodup ∧ (∀ x ∈ fs, x ∈ ts) ∧ fs.length ≤ 4 ∧ fv ≠ D ∧ H fv = none), ?_, ?_⟩
      · refine ⟨_, rfl, Nat.zero_le _, fun n0 nn0 => ?_⟩
        have s7 := same_upd (o := .lst []) nn0
        have h0 := upd_same (H := H6) (a := n0) (o := .lst [])
        generalize upd H6 n0 (.lst []) = H7 at s7 h0 ⊢
        have s67 := s6.trans s7
        have s17 := s5.trans s67
        have keep : ∀ {σ : L2.St}, σ = [some (.ref a), some (.int s), some (.ref m), some (.ref t), some (.ref D), some (.int (0 + (j : Int))), some (.ref wv), some (.ref bv), y8', some (.ref d)] → ∃ (fv : Addr) (fs : List Nam), σ = [some (.ref a), some (.int s), some (.ref m), some (.ref t), some (.ref D), some (.int (0 + (j : Int))), some (.ref wv), some (.ref bv), y8', some (.ref fv)] ∧ Same H5 H7 ∧ H7 fv = some (.lst (fs.map vN)) ∧ fs.Nodup ∧ (∀ x ∈ fs, x ∈ ts) ∧ fs.length ≤ 4 ∧ fv ≠ D ∧ H fv = none :=
          fun e => ⟨d, fs, e, s67, s7 _ _ ed, fnd, fun x m => fsub m, fl4, (ne_of_none (s5 _ _ eD) nd).symm, none_of (s1.trans s5) nd⟩
        refine ⟨_, _, dp_nms (lstAt (s7 _ _ ed)), dp_nms (zs := []) (lstAt h0), shaped_strs fnm, shaped_strs nofun, _, rfl, ite2 (fun e => ?_) (fun e => ?_)⟩
        · refine ⟨_, rfl, _, rfl, _, rfl, _, _, rfl, rfl, j3, _, _, rfl, rfl, _, _, rfl, rfl, _, _, _, _, _, rfl, s17.seq hA1, by omega, by omega, by decide, by decide, by decide, _, _, rfl, rfl, _, rfl, ite2 (fun e => ?_) (fun e => ?_)⟩
          · refine ⟨_, rfl, _, rfl, _, _, _, _, rfl, rfl, s17.seq hT1, az, (show (1 : Nat) ≤ sizeLine by decide), fun r nr => ?_⟩
            have sr := same_upd (o := .lst [vN z]) nr
            exact ⟨r, [z], rfl, s67.trans sr, upd_same, List.nodup_cons.mpr ⟨nofun, List.nodup_nil⟩, fun x mx => by rw [List.mem_singleton.mp mx]; exact List.mem_of_getElem? ez, by show 1 ≤ 4; decide, (ne_of_none (s17 _ _ eD) nr).symm, none_of (s1.trans s17) nr⟩
          · exact keep rfl
        · exact keep rfl
      clear ed sub fsub fnd fl4 fnm
      rintro σ' H7 ⟨fv, fs, rfl, s7, eF, fnd, fsub, fl4, FD, hF0⟩
      have s17 := s5.trans s7
      refine ⟨(fun σ' H' => ∃ (fv : Addr) (fs : List Nam), σ' = [some (.ref a), some (.int s), some (.ref m), some (.ref t), some (.ref D), some (.int (0 + (j : Int))), some (.ref wv), some (.ref bv), y8', some (.ref fv)] ∧ Same H5 H' ∧ H' fv = some (.lst (fs.map vN)) ∧ fs.Nodup ∧ (∀ x ∈ fs, x ∈ ts) ∧ fs.length ≤ 4 ∧ fv ≠ D ∧ H fv = none), ?_, ?_⟩
      · refine ⟨_, rfl, _, rfl, _, rfl, _, _, rfl, rfl, j3, _, _, rfl, rfl, _, _, rfl, rfl, _, _, _, _, _, rfl, s17.seq hA1, by omega, by omega, by decide, by decide, by decide, rfl, _, rfl, ite2 (fun e => ?_) (fun e => ?_)⟩
        · refine ⟨_, rfl, fv, _, rfl, lstAt eF, fun r nr => ?_⟩
          rw [← List.map_reverse]
          have sr := same_upd (o := .lst (fs.reverse.map vN)) nr
          exact ⟨r, fs.reverse, rfl, s7.trans sr, upd_same, (List.reverse_perm _).nodup_iff.mpr fnd, fun x mx => fsub x (List.mem_reverse.mp mx), by rw [List.length_reverse]; exact fl4, (ne_of_none (s17 _ _ eD) nr).symm, none_of (s1.trans s17) nr⟩
        · exact ⟨fv, fs, rfl, s7, eF, fnd, fsub, fl4, FD, hF0⟩
      clear eF fnd fsub fl4 FD hF0 s7 s17
      rintro σ' H8 ⟨fv, fs, rfl, s8, eF, fnd, fsub, fl4, FD, hF0⟩
      have s18 := s5.trans s8
      refine ⟨_, rfl, .inl ⟨rfl, _, lstAt (s18 _ _ eD)⟩, _, rfl, _, rfl, _, _, _, _, rfl, rfl, s18.seq hT1, az, _, rfl, _, rfl, (show (3 : Nat) ≤ sizeLine by decide), fun g ng => ?_⟩
      have sg := same_upd (o := .tup [vN z, .ref bv, .ref fv]) ng
      have g9 := upd_same (H := H8) (a := g) (o := .tup [vN z, .ref bv, .ref fv])
      generalize upd H8 g (.tup [vN z, .ref bv, .ref fv]) = H9 at sg g9 ⊢
      have s59 := s8.trans sg
      have s19 := s5.trans s59
      have pl : ds.length ≤ j := by have := congrArg List.length ok.nm; rw [List.length_map, List.length_take] at this; omega
      have eD9 := s19 _ _ eD
      have gd : RwI H D H9 g ⟨z, us, fs⟩ := ⟨bv, fv, es, g9, s59 _ _ eB, hE.same s59, sg _ _ eF, BD, FD, hB0, hF0⟩
      have kD : ∀ c o, H9 c = some o → c ≠ D → (upd H9 D (.lst (ps.map V.ref ++ [.ref g]))) c = some o := fun c o e n => by rw [upd_ne n]; exact e
      refine ⟨_, _, _, rfl, rfl, eD9, by rw [List.length_map, hR.1]; exact small1000 (by omega), ps ++ [g], ds ++ [⟨z, us, fs⟩], _, _, _, _, _, rfl, same_at (s1.trans s19) nD, by rw [upd_same, List.map_append]; rfl, ?_, ?_⟩
      · exact ((hR.mono fun _ _ k => k.go ⟨_, eD⟩ fun c o e n => s19 _ _ e).app (.one gd)).mono fun _ _ k => k.go ⟨_, eD9⟩ kD
      · rw [List.take_add_one, ez]
        exact ok.app (d := ⟨z, us, fs⟩) bok ul fnd fsub fl4 b6
    · rintro σ H2 ⟨ps, ds, y5, y6, y7, y8, y9, rfl, s1, eD, hR, ok⟩
      rw [List.length_map, Int.toNat_natCast, List.take_length] at ok
      exact ⟨_, rfl, q _ D ps ds nD s1 eD hR ok⟩
end
end TK

/-! words that are no names, strangers -/
namespace TK
open PySem PySem.Spec PyProof.Rows L2
def signsZ : Str := Str.ofString " !\"#$&'()*+,-./0123456789:;<=>?@ABCDEFGHIJKLMNOPQRSTUVWXYZ[\\]^_`{|}~"
theorem signs_all : signsZ.cps.toList.all (fun c => (decide (c < 97) || decide (122 < c)) && decide (c < 128)) = true := by decide +kernel
theorem signs_len : 0 < signsZ.length ∧ signsZ.length < 100 := by decide +kernel
theorem sign_at {i : Int} (h0 : 0 ≤ i) (h1 : i < signsZ.length) : ∃ c, atI signsZ.cps.toList i = some c ∧ (c < 97 ∨ 122 < c) ∧ c < 128 := by
  have hl : i.toNat < signsZ.cps.toList.length := by
    have e : signsZ.cps.toList.length = signsZ.length := by rw [Array.length_toList]; rfl
    omega
  have := List.all_eq_true.mp signs_all _ (List.getElem_mem hl)
  rw [Bool.and_eq_true, Bool.or_eq_true] at this
  exact ⟨_, atI_in h0 (List.getElem?_eq_getElem hl), this.1.elim (fun h => .inl (of_decide_eq_true h)) (fun h => .inr (of_decide_eq_true h)), of_decide_eq_true this.2⟩
def Asc (l : List Nat) : Prop := ∀ c ∈ l, c < 128
theorem Let.asc {l : List Nat} (h : Let l) : Asc l := fun c m => by have := h c m; omega
theorem Asc.app {a b : List Nat} (h : Asc a) (k : Asc b) : Asc (a ++ b) := fun c m => (List.mem_append.mp m).elim (h c) (k c)
theorem Asc.take {a : List Nat} (h : Asc a) (n : Nat) : Asc (a.take n) := fun c m => h c (List.mem_of_mem_take m)
theorem Asc.drop {a : List Nat} (h : Asc a) (n : Nat) : Asc (a.drop n) := fun c m => h c (List.mem_of_mem_drop m)
theorem repS_sOf (n : Nat) (x : List Nat) : repStr n (sOf x) = sOf ((List.replicate n x).flatten) := repStr_list n x
theorem flat_len40 (n : Nat) (x : List Nat) : ((List.replicate n x).flatten).length = n * x.length := by simp
section
variable {P : Program} {w : World} {K : PySem.W.Frag} {mg : Str → Option Value} {base : Heap}
def spBadW (K : PySem.W.Frag) : Sp := fun vs H Q _ => ∃ (a : Addr) (ns : List Int) (s : Int) (x : Nam), vs = [.ref a, .int s, vN x] ∧ SqL K H a (ns.map V.int) ∧ 0 ≤ s ∧ s + 1 < ns.length ∧ Nm x ∧ ∀ y : Nam, ¬ Nm y → y.length ≤ 100 → Asc y → Q (vN y) H
theorem ok_L_bad_word {f : Addr} {fd : FuncData} (F : Fun K "_law_bad_word" "_law_bad_word" s_L_bad_word f fd) (m_len : mg "len" = none) (d_L_part : Def P w K mg base "_law_part" 1 ["_law_pool_here", "_law_spot", "_law_under", "_law_size"] (spPart K)) : FnOk P w K mg base CX0 2 f fd ["_law_pool_here", "_law_spot", "_law_word"] (spBadW K) := by
  refine F.ok sc_L_bad_word (fun vs H Q E h => ?_) (fun cdv A outer s H vs Q E hr h => ?_)
  · obtain ⟨a, ns, s, x, rfl, _⟩ := h
    rfl
  · obtain ⟨a, ns, sp, x, rfl, hS, s0, s1, nx, q⟩ := h
    obtain ⟨sl0, sl1⟩ := signs_len
    have c0 := Int.emod_nonneg (partOf ns sp 8 9) (show ((x.length : Nat) : Int) + 1 ≠ 0 by omega)
    have c1 := Int.emod_lt_of_pos (partOf ns sp 8 9) (show (0 : Int) < ((x.length : Nat) : Int) + 1 by omega)
    have g0 := Int.emod_nonneg (partOf ns (sp + 1) 1 72) (show ((signsZ.length : Nat) : Int) ≠ 0 by omega)
    have g1 := Int.emod_lt_of_pos (partOf ns (sp + 1) 1 72) (show (0 : Int) < ((signsZ.length : Nat) : Int) by omega)
    obtain ⟨c, ec, hc, hc8⟩ := sign_at g0 g1
    have p0 := part_lo (ns := ns) (s := sp + 1) (u := 72) (z := 2) (by decide)
    have p1 := part_hi (ns := ns) (s := sp + 1) (u := 72) (z := 2) (by decide)
    have q0 := part_lo (ns := ns) (s := sp + 1) (u := 144) (z := 30) (by decide)
    have q1 := part_hi (ns := ns) (s := sp + 1) (u := 144) (z := 30) (by decide)
    have x8 := nx.2.1
    have x1 := nx.1
    refine ⟨_, (pss_cons (ps_set (i := 3) sc_L_bad_word.nd rfl (.inl rfl) pe_str)
  (pss_cons (ps_set (i := 4) sc_L_bad_word.nd rfl (.inl rfl) (pe_callD d_L_part (hr.mono (by decide)) (by rfl) (pa_cons (pv 0) (pa_cons (pv 1) (pa_cons pe_int (pa_cons pe_int pa_nil))))))
  (pss_cons (ps_set (i := 5) sc_L_bad_word.nd rfl (.inl rfl) (pe_op op_mod (pe_callD d_L_part (hr.mono (by decide)) (by rfl) (pa_cons (pv 0) (pa_cons (pv 1) (pa_cons pe_int (pa_cons pe_int pa_nil))))) (pe_op op_add (pe_callB call_len_str (by rfl) m_len (by decide +kernel) (pa_cons (pv 2) pa_nil)) pe_int)))
  (pss_cons (ps_set (i := 6) sc_L_bad_word.nd rfl (.inl rfl) (pe_ix ix_str (pv 3) (pe_op op_mod (pe_callD d_L_part (hr.mono (by decide)) (by rfl) (pa_cons (pv 0) (pa_cons (pe_op op_add (pv 1) pe_int) (pa_cons pe_int (pa_cons pe_int pa_nil))))) (pe_callB call_len_str (by rfl) m_len (by decide +kernel) (pa_cons (pv 3) pa_nil))) (fun _ _ => rfl)))
  (pss_cons (ps_if (pt_cmpR op_eq (pv 4) pe_int (nomark _)) (pss_one (ps_ret pe_str)) pss_nil)
  (pss_cons (ps_if (pt_cmpR op_eq (pv 4) pe_int (nomark _)) (pss_one (ps_ret (pe_slice sl_str (pe_op op_repS (pv 2) pe_int) po_none (po_some (pe_op op_add pe_int (pe_op op_mul (pe_callD d_L_part (hr.mono (by decide)) (by rfl) (pa_cons (pv 0) (pa_cons (pe_op op_add (pv 1) pe_int) (pa_cons pe_int (pa_cons pe_int pa_nil))))) (pe_callD d_L_part (hr.mono (by decide)) (by rfl) (pa_cons (pv 0) (pa_cons (pe_op op_add (pv 1) pe_int) (pa_cons pe_int (pa_cons pe_int pa_nil))))))))))) pss_nil)
  (pss_cons (ps_if (pt_cmpR op_lt (pv 4) pe_int (nomark _)) (pss_one (ps_ret (pe_op op_add_str (pe_op op_add_str (pe_slice sl_str (pv 2) po_none (po_some (pv 5))) (pv 6)) (pe_slice sl_str (pv 2) (po_some (pe_op op_add (pv 5) pe_int)) po_none)))) pss_nil)
  (pss_one (ps_ret (pe_op op_add_str (pe_op op_add_str (pe_slice sl_str (pv 2) po_none (po_some (pv 5))) (pv 6)) (pe_slice sl_str (pv 2) (po_some (pv 5)) po_none))))))))))), ?_⟩
    refine ⟨_, rfl, _, rfl, a, ns, sp, 1, 8, rfl, hS, s0, by omega, by decide, by decide, by decide, ?_⟩
    refine ⟨_, rfl, _, rfl, a, ns, sp, 8, 9, rfl, hS, s0, by omega, by decide, by decide, by decide, ?_⟩
    refine ⟨_, rfl, _, rfl, small_len (by omega), _, _, rfl, rfl, _, _, rfl, rfl, (show (0 : Int) < (((sOf x).length : Nat) : Int) + 1 by omega), ?_⟩
    rw [sOf_len]
    refine ⟨_, rfl, _, rfl, _, rfl, _, _, rfl, rfl, a, ns, sp + 1, 1, 72, rfl, hS, by omega, by omega, by decide, by decide, by decide, _, rfl, signsZ, rfl, Nat.le_of_lt (small1000 (by omega)), _, _, rfl, rfl, (show (0 : Int) < ((signsZ.length : Nat) : Int) by omega), signsZ, _, _, rfl, rfl, Nat.le_of_lt (small1000 (by omega)), ec, ?_⟩
    have bad : ∀ u v : List Nat, u.length + v.length ≤ 20 → Asc u → Asc v → Q (vN (u ++ [c] ++ v)) H := fun u v l au av => by
      refine q _ (fun h => ?_) (by simp only [List.length_append, List.length_cons, List.length_nil]; omega) ((au.app fun d m => by rw [List.mem_singleton.mp m]; exact hc8).app av)
      have := h.2.2 c (List.mem_append_left _ (List.mem_append_right _ (List.mem_singleton.mpr rfl)))
      omega
    refine ⟨_, rfl, rfl, _, rfl, ite2 (fun e => ?_) (fun e => ?_)⟩
    · exact q [] (fun h => by have := h.1; simp at this) (Nat.zero_le _) (fun _ h => nomatch h)
    refine ⟨_, rfl, rfl, _, rfl, ite2 (fun e => ?_) (fun e => ?_)⟩
    · refine ⟨_, rfl, _, _, rfl, rfl, by decide, by decide, by rw [sOf_len]; exact x1, by rw [sOf_len]; omega, ?_⟩
      refine ⟨_, rfl, _, rfl, _, _, rfl, rfl, a, ns, sp + 1, 72, 2, rfl, hS, by omega, by omega, by decide, by decide, by decide, _, rfl, _, rfl, _, _, rfl, rfl, a, ns, sp + 1, 144, 30, rfl, hS, by omega, by omega, by decide, by decide, by decide, _, _, rfl, rfl, .inl ⟨by omega, by omega⟩, _, _, rfl, rfl, _, rfl, _, rfl, ?_, ?_⟩
      · exact Nat.le_trans (Nat.le_of_eq (repStr_len _ _)) (Nat.le_of_lt (small1000 (by rw [sOf_len]; exact Nat.mul_le_mul (show (40 : Int).toNat ≤ 100 by decide) (show x.length ≤ 10 by omega))))
      have pq0 : 0 ≤ partOf ns (sp + 1) 72 2 * partOf ns (sp + 1) 144 30 := Int.mul_nonneg p0 q0
      have pq1 : partOf ns (sp + 1) 72 2 * partOf ns (sp + 1) 144 30 ≤ 29 := by
        obtain e0 | e0 : partOf ns (sp + 1) 72 2 = 0 ∨ partOf ns (sp + 1) 72 2 = 1 := by omega
        · rw [e0]; omega
        · rw [e0]; omega
      have er : repStr (40 : Int).toNat (sOf x) = sOf ((List.replicate (40 : Int).toNat x).flatten) := repS_sOf _ x
      have fl := flat_len40 (40 : Int).toNat x
      have e40 : (40 : Int).toNat = 40 := rfl
      rw [er, cut_to _ (by omega)]
      refine q _ (fun h => ?_) ?_ ?_
      · have := h.2.1
        rw [List.length_take, fl, e40] at this
        omega
      · rw [List.length_take]; omega
      · intro d m
        have m := List.mem_of_mem_take m
        obtain ⟨l, hl, hd⟩ := List.mem_flatten.mp m
        rw [List.eq_of_mem_replicate hl] at hd
        exact nx.2.2.asc d hd
    refine ⟨_, rfl, _, _, rfl, rfl, _, rfl, ite2 (fun e => ?_) (fun e => ?_)⟩
    · refine ⟨_, rfl, _, rfl, _, rfl, _, rfl, small_len (by omega), _, rfl, ?_⟩
      rw [cut_to _ c0, sOf_one]
      refine ⟨_, _, rfl, rfl, ?_, ?_⟩
      · rw [sOf_len, sOf_len]; exact Nat.le_of_lt (small1000 (by rw [List.length_take]; simp only [List.length_cons, List.length_nil]; omega))
      refine ⟨_, rfl, _, rfl, _, _, rfl, rfl, _, rfl, _, rfl, small_len (by omega), ?_⟩
      rw [cut_from _ (by omega), sOf_app]
      refine ⟨_, _, rfl, rfl, ?_, ?_⟩
      · rw [sOf_len, sOf_len]; exact Nat.le_of_lt (small1000 (by rw [List.length_append, List.length_take, List.length_drop]; simp only [List.length_cons, List.length_nil]; omega))
      rw [sOf_app]
      exact bad _ _ (by rw [List.length_take, List.length_drop]; omega) (nx.2.2.asc.take _) (nx.2.2.asc.drop _)
    · refine ⟨_, rfl, _, rfl, _, rfl, _, rfl, small_len (by omega), _, rfl, ?_⟩
      rw [cut_to _ c0, sOf_one]
      refine ⟨_, _, rfl, rfl, ?_, ?_⟩
      · rw [sOf_len, sOf_len]; exact Nat.le_of_lt (small1000 (by rw [List.length_take]; simp only [List.length_cons, List.length_nil]; omega))
      refine ⟨_, rfl, _, rfl, _, rfl, _, rfl, small_len (by omega), ?_⟩
      rw [cut_from _ c0, sOf_app]
      refine ⟨_, _, rfl, rfl, ?_, ?_⟩
      · rw [sOf_len, sOf_len]; exact Nat.le_of_lt (small1000 (by rw [List.length_append, List.length_take, List.length_drop]; simp only [List.length_cons, List.length_nil]; omega))
      rw [sOf_app]
      exact bad _ _ (by rw [List.length_take, List.length_drop]; omega) (nx.2.2.asc.take _) (nx.2.2.asc.drop _)
end
end TK

/-! strangers -/
namespace TK
open PySem PySem.Spec PyProof.Rows L2
theorem cut_any (l : List Nat) (m : Int) : ∃ k, cutS (sOf l) none (some m) = sOf (l.take k) := by
  unfold cutS
  rw [HT.sIx_none, sOf_codes, List.drop_zero]
  exact ⟨_, rfl⟩
section
variable {P : Program} {w : World} {K : PySem.W.Frag} {mg : Str → Option Value} {base : Heap}
def spStrgr (K : PySem.W.Frag) : Sp := fun vs H Q _ => ∃ (a b : Addr) (ns : List Int) (s : Int) (zs : List Nam), vs = [.ref a, .int s, .ref b] ∧ SqL K H a (ns.map V.int) ∧ SqL K H b (zs.map vN) ∧ 0 ≤ s ∧ s + 2 < ns.length ∧ 1 ≤ zs.length ∧ zs.length ≤ 25 ∧ (∀ z ∈ zs, Nm z) ∧ ∀ y : Nam, y ∉ zs → y.length ≤ 100 → Asc y → Q (vN y) H
theorem ok_L_stranger {f : Addr} {fd : FuncData} (F : Fun K "_law_stranger" "_law_stranger" s_L_stranger f fd) (m_len : mg "len" = none) (d_L_part : Def P w K mg base "_law_part" 1 ["_law_pool_here", "_law_spot", "_law_under", "_law_size"] (spPart K)) (d_L_bad_word : Def P w K mg base "_law_bad_word" 2 ["_law_pool_here", "_law_spot", "_law_word"] (spBadW K))
    (d_L_strange : Def P w K mg base "_law_strange" 1 ["_law_names_here"] (spStrange K)) : FnOk P w K mg base CX0 3 f fd ["_law_pool_here", "_law_spot", "_law_names_here"] (spStrgr K) := by
  refine F.ok sc_L_stranger (fun vs H Q E h => ?_) (fun cdv A outer s H vs Q E hr h => ?_)
  · obtain ⟨a, b, ns, s, zs, rfl, _⟩ := h
    rfl
  · obtain ⟨a, b, ns, sp, zs, rfl, hS, hB, s0, s1, z1, z25, nm, q⟩ := h
    have zl : (zs.map vN).length = zs.length := List.length_map ..
    have c0 := Int.emod_nonneg (partOf ns sp 4 12) (show ((zs.length : Nat) : Int) ≠ 0 by omega)
    have c1 := Int.emod_lt_of_pos (partOf ns sp 4 12) (show (0 : Int) < ((zs.length : Nat) : Int) by omega)
    obtain ⟨x, gx, mx, ax⟩ := nm_getC c0 c1
    have nx := nm x mx
    have x8 := nx.2.1
    obtain ⟨k2, e2⟩ := cut_any x (-1)
    have e3 := cut_to x (show (0 : Int) ≤ 1 by decide)
    refine ⟨_, (pss_cons (ps_set (i := 3) sc_L_stranger.nd rfl (.inl rfl) (pe_callD d_L_part (hr.mono (by decide)) (by rfl) (pa_cons (pv 0) (pa_cons (pv 1) (pa_cons pe_int (pa_cons pe_int pa_nil))))))
  (pss_cons (ps_set (i := 4) sc_L_stranger.nd rfl (.inl rfl) (pe_ix ix_list (pv 2) (pe_op op_mod (pe_callD d_L_part (hr.mono (by decide)) (by rfl) (pa_cons (pv 0) (pa_cons (pv 1) (pa_cons pe_int (pa_cons pe_int pa_nil))))) (pe_callB call_len_seq (by rfl) m_len (by decide +kernel) (pa_cons (pv 2) pa_nil))) (fun _ _ => rfl)))
  (pss_cons (ps_if (pt_cmpR op_eq (pv 3) pe_int (nomark _)) (pss_one (ps_ret (pe_callD d_L_bad_word (hr.mono (by decide)) (by rfl) (pa_cons (pv 0) (pa_cons (pe_op op_add (pv 1) pe_int) (pa_cons (pv 4) pa_nil)))))) pss_nil)
  (pss_cons (ps_if (PW.pt (pw_and (pt_cmpR op_eq (pv 3) pe_int (nomark _)) (pw_and1 (pt_cmpR op_notIn_seq (pe_slice sl_str (pv 4) po_none (po_some (pe_un un_neg pe_int))) (pv 2) (by rfl))))) (pss_one (ps_ret (pe_slice sl_str (pv 4) po_none (po_some (pe_un un_neg pe_int))))) pss_nil)
  (pss_cons (ps_if (PW.pt (pw_and (pt_cmpR op_eq (pv 3) pe_int (nomark _)) (pw_and1 (pt_cmpR op_notIn_seq (pe_op op_add_str (pv 4) (pe_slice sl_str (pv 4) po_none (po_some pe_int))) (pv 2) (by rfl))))) (pss_one (ps_ret (pe_op op_add_str (pv 4) (pe_slice sl_str (pv 4) po_none (po_some pe_int))))) pss_nil)
  (pss_one (ps_ret (pe_callD d_L_strange (hr.mono (by decide)) (by rfl) (pa_cons (pv 2) pa_nil))))))))), ?_⟩
    refine ⟨_, rfl, _, rfl, a, ns, sp, 1, 4, rfl, hS, s0, by omega, by decide, by decide, by decide, ?_⟩
    refine ⟨_, rfl, _, rfl, _, rfl, a, ns, sp, 4, 12, rfl, hS, s0, by omega, by decide, by decide, by decide, _, rfl, b, _, rfl, .inl hB, _, _, rfl, rfl, by rw [zl]; omega, ?_⟩
    rw [zl]
    refine ⟨_, _, _, _, rfl, rfl, hB, ax, ?_⟩
    refine ⟨_, rfl, rfl, _, rfl, ite2 (fun e => ?_) (fun e => ?_)⟩
    · refine ⟨_, rfl, _, rfl, _, _, rfl, rfl, _, rfl, a, ns, sp + 1, x, rfl, hS, by omega, by omega, nx, fun y hy l as => q y (fun m => hy (nm y m)) l as⟩
    have last : ∀ n : Nat, n < 26 → [97 + n] ∉ zs → Q (vN [97 + n]) H := fun n hn h => q _ h (show (1 : Nat) ≤ 100 by decide) fun c m => by rw [List.mem_singleton.mp m]; omega
    have t2 : x.take k2 ∉ zs → Q (vN (x.take k2)) H := fun h => q _ h (by rw [List.length_take]; omega) (nx.2.2.asc.take _)
    have t3 : x ++ x.take 1 ∉ zs → Q (vN (x ++ x.take 1)) H := fun h => q _ h (by rw [List.length_append, List.length_take]; omega) (nx.2.2.asc.app (nx.2.2.asc.take _))
    refine ⟨_, rfl, rfl, _, rfl, ite2 (fun e => ?_) (fun e => ?_)⟩
    · refine ⟨_, rfl, _, rfl, _, rfl, _, rfl, small_len (by omega), ?_⟩
      rw [e2]
      refine ⟨_, rfl, b, _, rfl, .inl hB, rfl, nms_flat _, _, rfl, ?_⟩
      rw [show V.str (sOf (x.take k2)) = vN (x.take k2) from rfl, notin_nm]
      by_cases h2 : x.take k2 ∈ zs
      · rw [decide_eq_true h2]
        refine iteF ?_
        refine ⟨_, rfl, rfl, _, rfl, ite2 (fun e => ?_) (fun e => ?_)⟩
        · refine ⟨_, rfl, _, rfl, _, rfl, _, rfl, small_len (by omega), ?_⟩
          rw [e3]
          refine ⟨_, _, rfl, rfl, ?_, ?_⟩
          · rw [sOf_len, sOf_len]; exact Nat.le_of_lt (small1000 (by rw [List.length_take]; omega))
          rw [sOf_app]
          refine ⟨_, rfl, b, _, rfl, .inl hB, rfl, nms_flat _, _, rfl, ?_⟩
          rw [show V.str (sOf (x ++ x.take (1 : Int).toNat)) = vN (x ++ x.take 1) from rfl, notin_nm]
          by_cases h3 : x ++ x.take 1 ∈ zs
          · rw [decide_eq_true h3]
            exact iteF ⟨_, rfl, b, zs, rfl, hB, z25, last⟩
          · rw [decide_eq_false h3]
            refine iteT ⟨_, rfl, _, rfl, _, rfl, _, rfl, small_len (by omega), ?_⟩
            rw [e3]
            refine ⟨_, _, rfl, rfl, ?_, ?_⟩
            · rw [sOf_len, sOf_len]; exact Nat.le_of_lt (small1000 (by rw [List.length_take]; omega))
            rw [sOf_app]
            exact t3 h3
        · exact iteF ⟨_, rfl, b, zs, rfl, hB, z25, last⟩
      · rw [decide_eq_false h2]
        refine iteT ⟨_, rfl, _, rfl, _, rfl, _, rfl, small_len (by omega), ?_⟩
        rw [e2]
        exact t2 h2
    · refine iteF ?_
      refine ⟨_, rfl, rfl, _, rfl, ite2 (fun e => ?_) (fun e => ?_)⟩
      · refine ⟨_, rfl, _, rfl, _, rfl, _, rfl, small_len (by omega), ?_⟩
        rw [e3]
        refine ⟨_, _, rfl, rfl, ?_, ?_⟩
        · rw [sOf_len, sOf_len]; exact Nat.le_of_lt (small1000 (by rw [List.length_take]; omega))
        rw [sOf_app]
        refine ⟨_, rfl, b, _, rfl, .inl hB, rfl, nms_flat _, _, rfl, ?_⟩
        rw [show V.str (sOf (x ++ x.take (1 : Int).toNat)) = vN (x ++ x.take 1) from rfl, notin_nm]
        by_cases h3 : x ++ x.take 1 ∈ zs
        · rw [decide_eq_true h3]
          exact iteF ⟨_, rfl, b, zs, rfl, hB, z25, last⟩
        · rw [decide_eq_false h3]
          refine iteT ⟨_, rfl, _, rfl, _, rfl, _, rfl, small_len (by omega), ?_⟩
          rw [e3]
          refine ⟨_, _, rfl, rfl, ?_, ?_⟩
          · rw [sOf_len, sOf_len]; exact Nat.le_of_lt (small1000 (by rw [List.length_take]; omega))
          rw [sOf_app]
          exact t3 h3
      · exact iteF ⟨_, rfl, b, zs, rfl, hB, z25, last⟩
end
end TK

/-! the parts of a right book -/
namespace TK
open PySem PySem.Spec PyProof.Rows L2
theorem fn_or {P : Program} {w : World} {K : PySem.W.Frag} {mg : Str → Option Value} {base : Heap} {CX : CXT} {k : Nat} {f : Addr} {fd : FuncData} {ps : List Str} {sp sq : Sp} (F : FnOk P w K mg base CX k f fd ps sp) (G : FnOk P w K mg base CX k f fd ps sq) : FnOk P w K mg base CX k f fd ps (fun vs H Q E => sp vs H Q E ∨ sq vs H Q E) :=
  ⟨fun vs H Q E h => h.elim (F.len vs H Q E) (G.len vs H Q E), fun A outer s H args us vs Q E hr he hb hv hs => hs.elim (F.run A outer s H args us vs Q E hr he hb hv) (G.run A outer s H args us vs Q E hr he hb hv)⟩
theorem cutk (xs : List V) (k : Nat) : cutV xs none (some (k : Int)) = xs.take k := by
  unfold cutV
  rw [HT.sIx_none, HT.sIx_nat, List.drop_zero, Nat.sub_zero]
  by_cases h : k ≤ xs.length
  · rw [Nat.min_eq_left h]
  · rw [Nat.min_eq_right (by omega), List.take_length, List.take_of_length_le (by omega)]
theorem bids_un {H : Hp} {x : Addr} {l : List Addr} {ds : List BidD} (h : BidsAt H (x :: l) ds) : ∃ d us, ds = d :: us ∧ H x = some (.tup [vN d.1, .int d.2]) ∧ BidsAt H l us := by
  cases ds with
  | nil => exact nomatch h.1
  | cons d us =>
    refine ⟨d, us, rfl, ?_, by have := h.1; simpa using this, fun i e he => h.2 (i + 1) e he⟩
    obtain ⟨d', a, b⟩ := h.2 0 x rfl
    cases Option.some.inj a
    exact b
theorem bids_co {H : Hp} {x : Addr} {l : List Addr} {d : BidD} {us : List BidD} (h : H x = some (.tup [vN d.1, .int d.2])) (k : BidsAt H l us) : BidsAt H (x :: l) (d :: us) := (BidsAt.one h).app k
theorem bids_perm {H : Hp} {es fs : List Addr} {ds : List BidD} (h : BidsAt H es ds) (p : fs.Perm es) : ∃ us, us.Perm ds ∧ BidsAt H fs us := by
  induction p generalizing ds with
  | nil => exact ⟨ds, List.Perm.refl _, h⟩
  | cons x p ih =>
    obtain ⟨d, us, rfl, hx, hl⟩ := bids_un h
    obtain ⟨vs, p1, b1⟩ := ih hl
    exact ⟨d :: vs, p1.cons d, bids_co hx b1⟩
  | swap x y l =>
    obtain ⟨d, us, rfl, hx, hl⟩ := bids_un h
    obtain ⟨e, vs, rfl, hy, hl⟩ := bids_un hl
    exact ⟨e :: d :: vs, List.Perm.swap d e vs, bids_co hy (bids_co hx hl)⟩
  | trans p q ih1 ih2 =>
    obtain ⟨us, p1, b1⟩ := ih2 h
    obtain ⟨vs, p2, b2⟩ := ih1 b1
    exact ⟨vs, p2.trans p1, b2⟩
theorem BOk.perm {zs : List Nam} {us ds : List BidD} (h : BOk zs ds) (p : us.Perm ds) : BOk zs us := ⟨(p.map _).nodup_iff.mpr h.nd, fun x m => h.sub x ((p.map _).mem_iff.mp m), fun d m => h.h0 d (p.mem_iff.mp m), fun d m => h.h9 d (p.mem_iff.mp m)⟩
/-- bids by a rule on the number -/
def onB (g : Int → Int) (ds : List BidD) : List BidD := ds.map fun d => (d.1, g d.2)
theorem onB_fst (g : Int → Int) (ds : List BidD) : (onB g ds).map (·.1) = ds.map (·.1) := by
  unfold onB; rw [List.map_map]; rfl
theorem BOk.onB {g : Int → Int} {zs : List Nam} {ds : List BidD} (h : BOk zs ds) (k : ∀ d ∈ ds, 0 ≤ g d.2 ∧ g d.2 ≤ 1000000000) : BOk zs (onB g ds) := by
  refine ⟨by rw [onB_fst]; exact h.nd, by rw [onB_fst]; exact h.sub, fun d m => ?_, fun d m => ?_⟩
  · obtain ⟨e, me, rfl⟩ := List.mem_map.mp m
    exact (k e me).1
  · obtain ⟨e, me, rfl⟩ := List.mem_map.mp m
    exact (k e me).2
/-- a row: a list of the name, the bids, the followers -/
def RwS (D : Addr) : Hp → Addr → PgD → Prop := fun H p d => ∃ (b f : Addr) (es : List Addr), H p = some (.lst [vN d.nm, .ref b, .ref f]) ∧ H b = some (.lst (es.map V.ref)) ∧ BidsAt H es d.bids ∧ H f = some (.lst (d.fol.map vN)) ∧ p ≠ D ∧ b ≠ D ∧ f ≠ D
theorem RwS.same {D : Addr} {H H' : Hp} {p : Addr} {d : PgD} (h : RwS D H p d) (s : Same H H') : RwS D H' p d := by
  obtain ⟨b, f, es, h1, h2, h3, h4, h5⟩ := h
  exact ⟨b, f, es, s _ _ h1, s _ _ h2, h3.same s, s _ _ h4, h5⟩
theorem RwS.go {D : Addr} {H H' : Hp} {p : Addr} {d : PgD} (h : RwS D H p d) (e : ∃ xs, H D = some (.lst xs)) (k : ∀ c o, H c = some o → c ≠ D → H' c = some o) : RwS D H' p d := by
  obtain ⟨b, f, es, h1, h2, h3, h4, h5, h6, h7⟩ := h
  obtain ⟨xs, e⟩ := e
  refine ⟨b, f, es, k _ _ h1 h5, k _ _ h2 h6, ⟨h3.1, fun i e' he => ?_⟩, k _ _ h4 h7, h5, h6, h7⟩
  obtain ⟨d', a, b'⟩ := h3.2 i e' he
  exact ⟨d', a, k _ _ b' (ne_of b' e nofun)⟩
/-- the parts of a book -/
structure BkD where
  zs : List Nam
  ds : List PgD
  ss : List Nam
  hs : List Nam
def PartsAt (H : Hp) (D : Addr) (b : BkD) : Prop := ∃ (c r f h : Addr) (rs : List Addr), H D = some (.lst [.ref c, .ref r, .ref f, .ref h]) ∧ H c = some (.lst (b.zs.map vN)) ∧ H r = some (.lst (rs.map V.ref)) ∧ AllAt (RwS r) H rs b.ds ∧ H f = some (.lst (b.ss.map vN)) ∧ H h = some (.lst (b.hs.map vN))
theorem PartsAt.same {H H' : Hp} {D : Addr} {b : BkD} (p : PartsAt H D b) (s : Same H H') : PartsAt H' D b := by
  obtain ⟨c, r, f, h, rs, h1, h2, h3, h4, h5, h6⟩ := p
  exact ⟨c, r, f, h, rs, s _ _ h1, s _ _ h2, s _ _ h3, h4.mono fun _ _ k => k.same s, s _ _ h5, s _ _ h6⟩
structure BOkD (b : BkD) : Prop where
  z1 : 1 ≤ b.zs.length
  z4 : b.zs.length ≤ 4
  zn : ∀ z ∈ b.zs, Nm z
  nz : b.zs.Nodup
  ok : POk b.zs b.ds
  sne : b.ss ≠ []
  snd : b.ss.Nodup
  ssub : ∀ x ∈ b.ss, x ∈ b.ds.map (·.nm)
  hnd : b.hs.Nodup
  hsub : ∀ x ∈ b.hs, x ∈ b.ds.map (·.nm)
/-- right rows, with any right bids -/
structure RwOk2 (zs ts us : List Nam) (ds : List PgD) : Prop where
  nm : ds.map (·.nm) = us
  b : ∀ d ∈ ds, BOk zs d.bids
  bl : ∀ d ∈ ds, d.bids.length ≤ 4
  f : ∀ d ∈ ds, d.fol.Nodup
  fs : ∀ d ∈ ds, ∀ x ∈ d.fol, x ∈ ts
  fl : ∀ d ∈ ds, d.fol.length ≤ 4
theorem RwOk2.nil {zs ts : List Nam} : RwOk2 zs ts [] [] := ⟨rfl, nofun, nofun, nofun, nofun, nofun⟩
theorem RwOk2.app {zs ts us : List Nam} {ds : List PgD} {d : PgD} (h : RwOk2 zs ts us ds) (b : BOk zs d.bids) (bl : d.bids.length ≤ 4) (f : d.fol.Nodup) (fs : ∀ x ∈ d.fol, x ∈ ts) (fl : d.fol.length ≤ 4) : RwOk2 zs ts (us ++ [d.nm]) (ds ++ [d]) := by
  have one : ∀ {p : PgD → Prop}, (∀ x ∈ ds, p x) → p d → ∀ x ∈ ds ++ [d], p x := fun h k x m => (List.mem_append.mp m).elim (h x) fun m => by rw [List.mem_singleton.mp m]; exact k
  exact ⟨by rw [List.map_append, h.nm]; rfl, one h.b b, one h.bl bl, one h.f f, one h.fs fs, one h.fl fl⟩
section
variable {P : Program} {w : World} {K : PySem.W.Frag} {mg : Str → Option Value} {base : Heap}
def spGood (K : PySem.W.Frag) : Sp := fun vs H Q _ => ∃ (a : Addr) (ns : List Int), vs = [.ref a] ∧ SqL K H a (ns.map V.int) ∧ ns.length = 31 ∧ ∀ (H' : Hp) (D : Addr) (b : BkD), H D = none → Same H H' → PartsAt H' D b → BOkD b → (∀ d ∈ b.ds, d.bids.length ≤ 4) → Q (.ref D) H'
theorem ok_L_good {f : Addr} {fd : FuncData} (F : Fun K "_law_good" "_law_good" s_L_good f fd) (m_len : mg "len" = none) (m_list : mg "list" = none) (d_L_part : Def P w K mg base "_law_part" 1 ["_law_pool_here", "_law_spot", "_law_under", "_law_size"] (spPart K)) (d_L_names : Def P w K mg base "_law_names" 2 ["_law_pool_here", "_law_spot", "_law_number"] (spNames K))
    (d_L_pages : Def P w K mg base "_law_pages" 3 ["_law_pool_here", "_law_spot", "_law_members", "_law_names_here"] (spPagesL K)) (d_L_shuffled : Def P w K mg base "_law_shuffled" 2 ["_law_pool_here", "_law_spot", "_law_row"] (fun vs H Q E => spShufG V.ref K vs H Q E ∨ spShufG vN K vs H Q E)) : FnOk P w K mg base CX0 4 f fd ["_law_head"] (spGood K) := by
  refine F.ok sc_L_good (fun vs H Q E h => ?_) (fun cdv A outer s H vs Q E hr h => ?_)
  · obtain ⟨a, ns, rfl, _⟩ := h
    rfl
  · obtain ⟨a, ns, rfl, hA, nl, q⟩ := h
    refine ⟨_, (pss_cons (ps_set (i := 1) sc_L_good.nd rfl (.inl rfl) (pe_callD d_L_names (hr.mono (by decide)) (by rfl) (pa_cons (pv 0) (pa_cons pe_int (pa_cons (pe_op op_add pe_int (pe_callD d_L_part (hr.mono (by decide)) (by rfl) (pa_cons (pv 0) (pa_cons pe_int (pa_cons pe_int (pa_cons pe_int pa_nil)))))) pa_nil)))))
  (pss_cons (ps_set (i := 2) sc_L_good.nd rfl (.inl rfl) (pe_callD d_L_names (hr.mono (by decide)) (by rfl) (pa_cons (pv 0) (pa_cons pe_int (pa_cons (pe_op op_add pe_int (pe_callD d_L_part (hr.mono (by decide)) (by rfl) (pa_cons (pv 0) (pa_cons pe_int (pa_cons pe_int (pa_cons pe_int pa_nil)))))) pa_nil)))))
  (pss_cons (ps_cut (ps_if (pt_cmpR op_eq (pe_callD d_L_part (hr.mono (by decide)) (by rfl) (pa_cons (pv 0) (pa_cons pe_int (pa_cons pe_int (pa_cons pe_int pa_nil))))) pe_int (nomark _)) (pss_one (ps_set (i := 2) sc_L_good.nd rfl (.inl rfl) (pe_callTy call_list_of (by rfl) m_list (by decide +kernel) (pa_cons (pv 1) pa_nil)))) pss_nil))
  (pss_cons (ps_set (i := 3) sc_L_good.nd rfl (.inl rfl) (pe_lst pa_nil))
  (pss_cons (ps_for PassesOwn.never rfl (pi_list (pe_callD d_L_pages (hr.mono (by decide)) (by rfl) (pa_cons (pv 0) (pa_cons pe_int (pa_cons (pv 1) (pa_cons (pv 2) pa_nil)))))) (pg_tup (by rfl) (pgs_cons (pg_name (i := 4) sc_L_good.nd rfl (.inl rfl)) (pgs_cons (pg_name (i := 5) sc_L_good.nd rfl (.inl rfl)) (pgs_cons (pg_name (i := 6) sc_L_good.nd rfl (.inl rfl)) pgs_nil))))
    (pss_cons (ps_set (i := 7) sc_L_good.nd rfl (.inl rfl) (pe_callD d_L_shuffled (hr.mono (by decide)) (by rfl) (pa_cons (pv 0) (pa_cons pe_int (pa_cons (pv 5) pa_nil)))))
  (pss_cons (ps_cut (ps_if (pt_cmpR op_eq (pe_callD d_L_part (hr.mono (by decide)) (by rfl) (pa_cons (pv 0) (pa_cons pe_int (pa_cons pe_int (pa_cons pe_int pa_nil))))) pe_int (nomark _)) (pss_one (ps_setLc (i := 7) (own := [("_law_member", 10), ("_law_bid", 11)]) (by rfl) sc_L_good.nd rfl rfl (sw_true rfl rfl rfl (by decide +kernel)) (pi_list (pv 7)) (blkOk_by (N := ["_law_head", "_law_members", "_law_titles", "_law_rows", "_law_title", "_law_bids", "_law_followers", "_law_offered", "_law_firsts", "_law_homes", "_law_member", "_law_bid"]) (sc := defScope s_L_good) (by decide +kernel)) (fun _ _ _ _ _ => (pg_tupK (K := K) (n := 2) rfl (by rfl) (pgs_cons (pg_name (i := 10) sc_L_good.nd rfl (.inl rfl)) (pgs_cons (pg_name (i := 11) sc_L_good.nd rfl (.inl rfl)) pgs_nil)))) (fun _ _ _ _ _ => pts_nil) (fun _ _ _ _ _ => (pe_tup (pa_cons (pv 10) (pa_cons (pe_op op_sub (pe_op op_pow pe_int pe_int) (pv 11)) pa_nil)))))) pss_nil))
  (pss_one (ps_expr (pe_bm PySem.F.plainAttrs_list PySem.F.slot_list_append PySem.F.type_list_append mt_append (pv 3) (pa_cons (pe_lst (pa_cons (pv 4) (pa_cons (pv 7) (pa_cons (pe_callD d_L_shuffled (hr.mono (by decide)) (by rfl) (pa_cons (pv 0) (pa_cons (pe_op op_add pe_int (pe_callB call_len_seq (by rfl) m_len (by decide +kernel) (pa_cons (pv 3) pa_nil))) (pa_cons (pv 6) pa_nil)))) pa_nil)))) pa_nil)))))))
  (pss_cons (ps_set (i := 8) sc_L_good.nd rfl (.inl rfl) (pe_slice sl_list (pe_callD d_L_shuffled (hr.mono (by decide)) (by rfl) (pa_cons (pv 0) (pa_cons pe_int (pa_cons (pv 2) pa_nil)))) po_none (po_some (pe_op op_add pe_int (pe_op op_mod (pe_callD d_L_part (hr.mono (by decide)) (by rfl) (pa_cons (pv 0) (pa_cons pe_int (pa_cons pe_int (pa_cons pe_int pa_nil))))) (pe_callB call_len_seq (by rfl) m_len (by decide +kernel) (pa_cons (pv 2) pa_nil)))))))
  (pss_cons (ps_set (i := 9) sc_L_good.nd rfl (.inl rfl) (pe_slice sl_list (pe_callD d_L_shuffled (hr.mono (by decide)) (by rfl) (pa_cons (pv 0) (pa_cons pe_int (pa_cons (pv 2) pa_nil)))) po_none (po_some (pe_op op_mod (pe_callD d_L_part (hr.mono (by decide)) (by rfl) (pa_cons (pv 0) (pa_cons pe_int (pa_cons pe_int (pa_cons pe_int pa_nil))))) (pe_op op_add (pe_callB call_len_seq (by rfl) m_len (by decide +kernel) (pa_cons (pv 2) pa_nil)) pe_int)))))
  (pss_one (ps_ret (pe_lst (pa_cons (pv 1) (pa_cons (pv 3) (pa_cons (pv 8) (pa_cons (pv 9) pa_nil)))))))))))))), ?_⟩
    have u0 := part_lo (ns := ns) (s := 5) (u := 1) (z := 4) (by decide)
    have u1 := part_hi (ns := ns) (s := 5) (u := 1) (z := 4) (by decide)
    refine ⟨_, rfl, _, rfl, a, ns, 5, 1, 4, rfl, hA, by decide, by omega, by decide, by decide, by decide, _, _, rfl, rfl, a, ns, 0, _, rfl, hA, by decide, by omega, by omega, by omega, fun c zs nc lz zn nz => ?_⟩
    have s1 := same_upd (o := .lst (zs.map vN)) nc
    have ec := upd_same (H := H) (a := c) (o := .lst (zs.map vN))
    generalize upd H c (.lst (zs.map vN)) = H1 at s1 ec ⊢
    have z1 : 1 ≤ zs.length := by omega
    have z4 : zs.length ≤ 4 := by omega
    have v0 := part_lo (ns := ns) (s := 5) (u := 4) (z := 4) (by decide)
    have v1 := part_hi (ns := ns) (s := 5) (u := 4) (z := 4) (by decide)
    refine ⟨_, rfl, _, rfl, a, ns, 5, 4, 4, rfl, s1.seq hA, by decide, by omega, by decide, by decide, by decide, _, _, rfl, rfl, a, ns, 6, _, rfl, s1.seq hA, by decide, by omega, by omega, by omega, fun t0 ts0 nt0 lt0 tn0 ntd0 => ?_⟩
    have s2 := s1.trans (same_upd (o := .lst (ts0.map vN)) nt0)
    have et0 := upd_same (H := H1) (a := t0) (o := .lst (ts0.map vN))
    have ec := (same_upd (o := .lst (ts0.map vN)) nt0) _ _ ec
    generalize upd H1 t0 (.lst (ts0.map vN)) = H2 at s2 ec et0 ⊢
    refine ⟨(fun σ' H' => ∃ (t : Addr) (ts : List Nam), σ' = [some (.ref a), some (.ref c), some (.ref t), none, none, none, none, none, none, none, none, none] ∧ Same H2 H' ∧ H' t = some (.lst (ts.map vN)) ∧ 1 ≤ ts.length ∧ ts.length ≤ 4 ∧ (∀ z ∈ ts, Nm z) ∧ ts.Nodup), ?_, ?_⟩
    · refine ⟨_, rfl, a, ns, 5, 16, 3, rfl, s2.seq hA, by decide, by omega, by decide, by decide, by decide, rfl, _, rfl, ite2 (fun e => ?_) (fun e => ?_)⟩
      · refine ⟨_, rfl, c, _, rfl, .inl (lstAt ec), fun t nt => ?_⟩
        exact ⟨t, zs, rfl, same_upd nt, upd_same, z1, z4, zn, nz⟩
      · exact ⟨t0, ts0, rfl, Same.refl _, et0, by omega, by omega, tn0, ntd0⟩
    rintro σ' H3 ⟨t, ts, rfl, s23, et, t1, t4, tn, ntd⟩
    have s3 := s2.trans s23
    have ec := s23 _ _ ec
    clear s23 et0 tn0 ntd0 lt0 nt0 s2 s1 nc lz
    refine ⟨Nat.zero_le _, fun D nD => ?_⟩
    have cD : c ≠ D := ne_of_none ec nD
    have tD : t ≠ D := ne_of_none et nD
    have w0 := same_upd (o := .lst []) nD
    have e0 := upd_same (H := H3) (a := D) (o := .lst [])
    have ec := w0 _ _ ec
    have et := w0 _ _ et
    have s4 := s3.trans w0
    generalize upd H3 D (.lst []) = H4 at w0 s4 e0 ec et ⊢
    refine ⟨_, rfl, _, rfl, _, rfl, a, c, t, ns, 12, zs, ts, rfl, s4.seq hA, by decide, by omega, lstAt ec, lstAt et, z4, t4, nz, ntd, tn, fun H5 D2 ps ds nD2 s5 eD2 hR ok => ?_⟩
    have D2D : D2 ≠ D := (ne_of_none e0 nD2).symm
    have eD := s5 _ _ e0
    have ec := s5 _ _ ec
    have et := s5 _ _ et
    have s45 := s4.trans s5
    have pl : (ps.map V.ref).length = ds.length := by rw [List.length_map, hR.1]
    have dl : ds.length = ts.length := by rw [← ok.nm, List.length_map]
    have KD : ∀ {H' : Hp}, (∀ c o, H5 c = some o → c ≠ D → H' c = some o) → Same H3 H' := fun k c o e => k _ _ (s5 _ _ (w0 _ _ e)) (ne_of_none e nD)
    have nDH : H D = none := none_of s3 nD
    refine ⟨D2, rfl, ⟨_, lstAt eD2⟩, for_list (K := K) (a := D2) (xs := ps.map V.ref) (fun i σ H' => ∃ (qs : List Addr) (us : List PgD) (y4 y5 y6 y7 : Option V), σ = [some (.ref a), some (.ref c), some (.ref t), some (.ref D), y4, y5, y6, y7, none, none, none, none] ∧ (∀ c o, H5 c = some o → c ≠ D → H' c = some o) ∧ H' D = some (.lst (qs.map V.ref)) ∧ AllAt (RwS D) H' qs us ∧ RwOk2 zs ts (ts.take i) us) ⟨[], [], _, _, _, _, rfl, fun _ _ e _ => e, eD, .nil, .nil⟩ (fun i σ H' _ hq => by obtain ⟨_, _, _, _, _, _, rfl, k, _⟩ := hq; exact lstAt (k _ _ eD2 D2D)) ?_ ?_⟩
    · rintro i v σ H6 hv ⟨qs, us, y4, y5, y6, y7, rfl, k6, e6, hQ, uk⟩
      obtain ⟨p, d, rfl, ed, b, f, es, h1, h2, h3, h4, h5, h6, h7, h8⟩ := all_at hR hv
      have hi := (List.getElem?_eq_some_iff.mp ed).1
      have md := List.mem_of_getElem? ed
      have et' : ts[i]? = some d.nm := by rw [← ok.nm, List.getElem?_map, ed]; rfl
      have bD : b ≠ D := (ne_of_none e0 h7).symm
      have fD : f ≠ D := (ne_of_none e0 h8).symm
      have sH6 : Same H H6 := s3.trans (KD k6)
      have b3 := k6 _ _ h2 bD
      have B3 : BidsAt H6 es d.bids := ⟨h3.1, fun j e he => by
        obtain ⟨x, a1, a2⟩ := h3.2 j e he
        exact ⟨x, a1, k6 _ _ a2 (ne_of a2 eD nofun)⟩⟩
      have f3 := k6 _ _ h4 fD
      have ul : us.length = i := by have := congrArg List.length uk.nm; rw [List.length_map, List.length_take] at this; omega
      have ql : (qs.map V.ref).length = i := by rw [List.length_map, hQ.1, ul]
      refine ⟨_, _, rfl, tupAt (k6 _ _ h1 (ne_of h1 eD nofun)), rfl, _, _, rfl, _, _, rfl, _, _, rfl, rfl, ?_⟩
      refine ⟨_, rfl, _, rfl, .inl ⟨_, _, _, _, es, rfl, sH6.seq hA, by decide, by omega, lstAt b3, by rw [h3.1]; exact ok.bl _ md, fun ov os H7 s7 nv ev pm => ?_⟩⟩
      obtain ⟨vs, pv, hV⟩ := bids_perm (B3.same s7) pm
      have vok := (ok.b _ md).perm pv
      have vl : vs.length ≤ 4 := by rw [pv.length_eq]; exact ok.bl _ md
      have v6 : ∀ x ∈ vs, x.2 ≤ 6 := fun x mx => ok.b6 _ md x (pv.mem_iff.mp mx)
      have vD : ov ≠ D := (ne_of_none e6 nv).symm
      refine ⟨(fun σ' H' => ∃ (ov : Addr) (os : List Addr) (vs : List BidD), σ' = [some (.ref a), some (.ref c), some (.ref t), some (.ref D), some (vN d.nm), some (.ref b), some (.ref f), some (.ref ov), none, none, none, none] ∧ Same H6 H' ∧ H' ov = some (.lst (os.map V.ref)) ∧ BidsAt H' os vs ∧ BOk zs vs ∧ vs.length ≤ 4 ∧ ov ≠ D ∧ ((∀ x ∈ vs, x.2 ≤ 6) ∨ partOf ns 11 1 3 = 2)), ?_, ?_⟩
      · refine ⟨_, rfl, _, _, _, _, _, rfl, s7.seq (sH6.seq hA), by decide, by omega, by decide, by decide, by decide, rfl, _, rfl, ite2 (fun e => ?_) (fun e => ?_)⟩
        · have e2 : partOf ns 11 1 3 = 2 := V.int.inj (of_decide_eq_true e)
          refine ⟨_, rfl, ov, rfl, ⟨_, lstAt ev⟩, fun G nG => ?_⟩
          refine lc_list (K := K) (a := ov) (xs := os.map V.ref) (fun i H' => ∃ gs : List Addr, Same H7 H' ∧ H' G = some (.lst (gs.map V.ref)) ∧ BidsAt H' gs (onB (fun x => 1000000000 - x) (vs.take i))) ⟨[], same_upd nG, upd_same, ⟨rfl, nofun⟩⟩ (fun i H' _ hq => by obtain ⟨_, s, _⟩ := hq; exact s.seq (lstAt ev)) (fun i v H' hv hq => ?_) (fun H8 hq => ?_)
          · obtain ⟨gs, s8, eG, hG⟩ := hq
            obtain ⟨e1, x, rfl, ex, he⟩ := bids_at (hV.same s8) hv
            have hi := (List.getElem?_eq_some_iff.mp ex).1
            refine gTup2w he [some (.ref a), some (.ref c), some (.ref t), some (.ref D), some (vN d.nm), some (.ref b), some (.ref f), some (.ref ov), none, none, some (vN x.1), some (.int x.2)] (by simp [wipe, L2.start]) ?_
            have gl : gs.length = i := by rw [hG.1]; unfold onB; rw [List.length_map, List.length_take]; omega
            refine ⟨rfl, yesT ⟨_, rfl, _, _, rfl, rfl, ⟨by decide, by decide, by decide⟩, _, rfl, _, _, rfl, rfl, (show (2 : Nat) ≤ sizeLine by decide), fun g ng => ?_⟩⟩
            have sg := same_upd (o := .tup [vN x.1, .int (10 ^ (9 : Int).toNat - x.2)]) ng
            have g1 := upd_same (H := H') (a := g) (o := .tup [vN x.1, .int (10 ^ (9 : Int).toNat - x.2)])
            generalize upd H' g (.tup [vN x.1, .int (10 ^ (9 : Int).toNat - x.2)]) = H9 at sg g1 ⊢
            have eG6 := sg _ _ eG
            refine ⟨_, eG6, by rw [List.length_map, gl]; exact small1000 (by omega), gs ++ [g], same_at (s8.trans sg) nG, by rw [upd_same, List.map_append]; rfl, ?_⟩
            have e2 : onB (fun x => 1000000000 - x) (vs.take (i + 1)) = onB (fun x => 1000000000 - x) (vs.take i) ++ [(x.1, 1000000000 - x.2)] := by
              unfold onB
              rw [List.take_add_one, ex, List.map_append]; rfl
            rw [e2]
            exact ((hG.same sg).app (.one (d := (x.1, 1000000000 - x.2)) g1)).wrote eG6
          · obtain ⟨gs, s8, eG, hG⟩ := hq
            rw [List.length_map, hV.1, List.take_length] at hG
            exact ⟨G, gs, _, rfl, s7.trans s8, eG, hG, vok.onB (fun x mx => by have := vok.h0 x mx; have := vok.h9 x mx; omega), by unfold onB; rw [List.length_map]; exact vl, (ne_of_none (s7 _ _ e6) nG).symm, .inr e2⟩
        · exact ⟨ov, os, vs, rfl, s7, ev, hV, vok, vl, vD, .inl v6⟩
      clear ev hV vok vl vD pv pm s7 nv v6
      rintro σ' H7 ⟨ov, os, vs, rfl, s7, ev, hV, vok, vl, vD, v6⟩
      refine ⟨_, rfl, .inl ⟨rfl, _, lstAt (s7 _ _ e6)⟩, _, rfl, _, rfl, ?_⟩
      refine ⟨_, rfl, _, rfl, _, _, rfl, .inl (lstAt (s7 _ _ e6)), _, _, rfl, rfl, _, rfl, .inr ⟨_, _, _, _, d.fol, rfl, s7.seq (sH6.seq hA), by omega, by rw [ql]; omega, lstAt (s7 _ _ f3), ok.fl d md, fun fv fs H8 s8 nf ef pf => ?_⟩⟩
      refine ⟨(show (3 : Nat) ≤ sizeLine by decide), fun g ng => ?_⟩
      have s68 := s7.trans s8
      have sg := same_upd (o := .lst [vN d.nm, .ref ov, .ref fv]) ng
      have g9 := upd_same (H := H8) (a := g) (o := .lst [vN d.nm, .ref ov, .ref fv])
      generalize upd H8 g (.lst [vN d.nm, .ref ov, .ref fv]) = H9 at sg g9 ⊢
      have s69 := s68.trans sg
      have e9 := s69 _ _ e6
      have kD : ∀ c o, H9 c = some o → c ≠ D → (upd H9 D (.lst (qs.map V.ref ++ [.ref g]))) c = some o := fun c o e n => by rw [upd_ne n]; exact e
      have gd : RwS D H9 g ⟨d.nm, vs, fs⟩ := ⟨ov, fv, os, g9, (s8.trans sg) _ _ ev, hV.same (s8.trans sg), sg _ _ ef, (ne_of_none (s68 _ _ e6) ng).symm, vD, (ne_of_none (s7 _ _ e6) nf).symm⟩
      refine ⟨_, _, _, rfl, rfl, e9, by rw [ql]; exact small1000 (by omega), qs ++ [g], us ++ [⟨d.nm, vs, fs⟩], _, _, _, _, rfl, fun c o e n => kD _ _ (s69 _ _ (k6 _ _ e n)) n, by rw [upd_same, List.map_append]; rfl, ?_, ?_⟩
      · exact ((hQ.mono fun _ _ k => k.go ⟨_, e6⟩ fun c o e n => s69 _ _ e).app (.one gd)).mono fun _ _ k => k.go ⟨_, e9⟩ kD
      · rw [List.take_add_one, et']
        exact uk.app (d := ⟨d.nm, vs, fs⟩) vok vl (pf.nodup_iff.mpr (ok.f d md)) (fun x mx => ok.fs d md x (pf.mem_iff.mp mx)) (by rw [pf.length_eq]; exact ok.fl d md)
    · rintro σ H6 ⟨qs, us, y4, y5, y6, y7, rfl, k6, e6, hQ, uk⟩
      rw [pl, dl, List.take_length] at uk
      have s36 := KD k6
      have sH6 := s3.trans s36
      have e6c := k6 _ _ ec cD
      have e6t := k6 _ _ et tD
      have tl : (((ts.map vN).length : Nat) : Int) = (ts.length : Int) := by rw [List.length_map]
      have tp : (0 : Int) < (ts.length : Int) := by omega
      refine ⟨_, rfl, _, rfl, .inr ⟨_, _, _, _, ts, rfl, sH6.seq hA, by decide, by omega, lstAt e6t, t4, fun d1 u1 H7 s7 n7 ed1 pm1 => ?_⟩⟩
      refine ⟨_, rfl, _, _, _, _, _, rfl, s7.seq (sH6.seq hA), by decide, by omega, by decide, by decide, by decide, _, rfl, t, _, rfl, .inl (lstAt (s7 _ _ e6t)), _, _, rfl, rfl, by rw [tl]; exact tp, _, _, rfl, rfl, _, rfl, d1, _, rfl, lstAt ed1, fun f1 nf1 => ?_⟩
      have m0 := Int.emod_nonneg (partOf ns 25 24 4) (show (((ts.map vN).length : Nat) : Int) ≠ 0 by rw [tl]; omega)
      obtain ⟨k1, hk1⟩ : ∃ k : Nat, 1 + partOf ns 25 24 4 % (((ts.map vN).length : Nat) : Int) = (k : Int) := ⟨(1 + partOf ns 25 24 4 % (((ts.map vN).length : Nat) : Int)).toNat, by omega⟩
      rw [hk1, cutk, ← List.map_take]
      have s8 := s7.trans (same_upd (o := .lst ((u1.take k1).map vN)) nf1)
      have ef1 := upd_same (H := H7) (a := f1) (o := .lst ((u1.take k1).map vN))
      generalize upd H7 f1 (.lst ((u1.take k1).map vN)) = H8 at s8 ef1 ⊢
      refine ⟨_, rfl, _, rfl, .inr ⟨_, _, _, _, ts, rfl, s8.seq (sH6.seq hA), by decide, by omega, lstAt (s8 _ _ e6t), t4, fun d2 u2 H9 s9 n9 ed2 pm2 => ?_⟩⟩
      have s89 := s8.trans s9
      refine ⟨_, rfl, _, _, _, _, _, rfl, s89.seq (sH6.seq hA), by decide, by omega, by decide, by decide, by decide, _, rfl, t, _, rfl, .inl (lstAt (s89 _ _ e6t)), _, _, rfl, rfl, _, _, rfl, rfl, by rw [tl]; omega, _, rfl, d2, _, rfl, lstAt ed2, fun f2 nf2 => ?_⟩
      have m2 := Int.emod_nonneg (partOf ns 26 24 5) (show (((ts.map vN).length : Nat) : Int) + 1 ≠ 0 by rw [tl]; omega)
      obtain ⟨k2, hk2⟩ : ∃ k : Nat, partOf ns 26 24 5 % ((((ts.map vN).length : Nat) : Int) + 1) = (k : Int) := ⟨(partOf ns 26 24 5 % ((((ts.map vN).length : Nat) : Int) + 1)).toNat, by omega⟩
      rw [hk2, cutk, ← List.map_take]
      have s10 := s89.trans (same_upd (o := .lst ((u2.take k2).map vN)) nf2)
      have ef1 := (s9.trans (same_upd (o := .lst ((u2.take k2).map vN)) nf2)) _ _ ef1
      have ef2 := upd_same (H := H9) (a := f2) (o := .lst ((u2.take k2).map vN))
      generalize upd H9 f2 (.lst ((u2.take k2).map vN)) = H10 at s10 ef1 ef2 ⊢
      refine ⟨_, rfl, _, rfl, _, rfl, _, rfl, (show (4 : Nat) ≤ sizeLine by decide), fun Z nZ => ?_⟩
      have sZ := s10.trans (same_upd (o := .lst [V.ref c, .ref D, .ref f1, .ref f2]) nZ)
      have zz := same_upd (o := .lst [V.ref c, .ref D, .ref f1, .ref f2]) nZ
      have k1p : 1 ≤ k1 := by omega
      refine q _ Z ⟨zs, us, u1.take k1, u2.take k2⟩ (none_of (sH6.trans s10) nZ) (sH6.trans sZ) ⟨c, D, f1, f2, qs, upd_same, sZ _ _ e6c, sZ _ _ e6, hQ.mono fun _ _ k => k.same sZ, zz _ _ ef1, zz _ _ ef2⟩ ?_ uk.bl
      have un : us.map (·.nm) = ts := uk.nm
      have ll : us.length = ts.length := by rw [← un, List.length_map]
      refine ⟨z1, z4, zn, nz, ⟨show 1 ≤ us.length by omega, show us.length ≤ 4 by omega, fun d md => tn _ (by rw [← un]; exact List.mem_map.mpr ⟨d, md, rfl⟩), by rw [un]; exact ntd, uk.b, fun d md => by have := uk.bl d md; omega, uk.f, fun d md => by rw [un]; exact uk.fs d md, fun d md => by have := uk.fl d md; omega⟩, ?_, ?_, ?_, ?_, ?_⟩
      · intro e
        have e := congrArg List.length (show u1.take k1 = [] from e)
        rw [List.length_take, pm1.length_eq] at e
        have e : min k1 ts.length = 0 := e
        omega
      · exact (List.take_sublist _ _).nodup (pm1.nodup_iff.mpr ntd)
      · exact fun x mx => by show x ∈ us.map (·.nm); rw [un]; exact pm1.mem_iff.mp ((List.take_sublist _ _).subset mx)
      · exact (List.take_sublist _ _).nodup (pm2.nodup_iff.mpr ntd)
      · exact fun x mx => by show x ∈ us.map (·.nm); rw [un]; exact pm2.mem_iff.mp ((List.take_sublist _ _).subset mx)
end
end TK

/-! the parts handed over; the book made of them -/
namespace TK
open PySem PySem.Spec PyProof.Rows L2
/-- handed as lists: each list is new -/
structure GivL (H0 H : Hp) (t : Addr) (b : BkD) (a p s h : Addr) (ps : List Addr) : Prop where
  et : H t = some (.tup [.ref a, .ref p, .ref s, .ref h])
  ea : H a = some (.lst (b.zs.map vN))
  ep : H p = some (.lst (ps.map V.ref))
  er : AllAt (RwI H0 p) H ps b.ds
  es : H s = some (.lst (b.ss.map vN))
  eh : H h = some (.lst (b.hs.map vN))
  na : H0 a = none
  np : H0 p = none
  ns : H0 s = none
  nh : H0 h = none
structure GivT (H : Hp) (t : Addr) (b : BkD) (a p s h : Addr) (ps : List Addr) : Prop where
  et : H t = some (.tup [.ref a, .ref p, .ref s, .ref h])
  ea : H a = some (.tup (b.zs.map vN))
  ep : H p = some (.tup (ps.map V.ref))
  er : PgsInT H ps b.ds
  es : H s = some (.tup (b.ss.map vN))
  eh : H h = some (.tup (b.hs.map vN))
theorem gLst3 {K : PySem.W.Frag} {i j k : Nat} {e : Addr} {x y z : V} {σ : L2.St} {H : Hp} {Q : L2.St → Hp → Prop} (he : H e = some (.lst [x, y, z])) (σ' : L2.St) (hσ : ((σ.set i (some x)).set j (some y)).set k (some z) = σ') (h : Q σ' H) :
    gLst K 3 (gCons (gName i) (gCons (gName j) (gCons (gName k) gNil))) (.ref e) σ H Q := by
  subst hσ
  exact ⟨_, _, rfl, lstAt he, rfl, _, _, rfl, _, _, rfl, _, _, rfl, rfl, h⟩
theorem RwI.same {H0 : Hp} {D : Addr} {H H' : Hp} {p : Addr} {d : PgD} (h : RwI H0 D H p d) (s : Same H H') : RwI H0 D H' p d := by
  obtain ⟨b, f, es, h1, h2, h3, h4, h5⟩ := h
  exact ⟨b, f, es, s _ _ h1, s _ _ h2, h3.same s, s _ _ h4, h5⟩
theorem PgInT.wr {H : Hp} {D : Addr} {xs : List V} {o : HO} {p : Addr} {d : PgD} (h : PgInT H p d) (e : H D = some (.lst xs)) : PgInT (upd H D o) p d := by
  obtain ⟨b, f, es, h1, h2, h3, h4⟩ := h
  have n := nl_wrote (o := o) e
  exact ⟨b, f, es, n _ _ h1 (fun _ => nofun), n _ _ h2 (fun _ => nofun), bids_nl h3 n, n _ _ h4 (fun _ => nofun)⟩
section
variable {P : Program} {w : World} {K : PySem.W.Frag} {mg : Str → Option Value} {base : Heap}
def spHandL (K : PySem.W.Frag) : Sp := fun vs H Q _ => ∃ (D : Addr) (lo : Bool) (b : BkD), vs = [.ref D, .bl lo] ∧ PartsAt H D b ∧ b.ds.length ≤ 8 ∧
  ∀ (H' : Hp) (t a p s h : Addr) (ps : List Addr), Same H H' → ((lo = false ∧ GivL H H' t b a p s h ps) ∨ (lo = true ∧ GivT H' t b a p s h ps)) → Q (.ref t) H'
theorem ok_L_handed {f : Addr} {fd : FuncData} (F : Fun K "_law_handed" "_law_handed" s_L_handed f fd) (m_list : mg "list" = none) (m_tuple : mg "tuple" = none) : FnOk P w K mg base CX0 1 f fd ["_law_book", "_law_loose"] (spHandL K) := by
  refine F.ok sc_L_handed (fun vs H Q E h => ?_) (fun cdv A outer s H vs Q E hr h => ?_)
  · obtain ⟨D, lo, b, rfl, _⟩ := h
    rfl
  · obtain ⟨D, lo, b, rfl, ⟨c, r, f, h, rs, hD, hc, hr', hR, hf, hh⟩, d8, q⟩ := h
    refine ⟨_, (pss_cons (ps_set (i := 2) sc_L_handed.nd rfl (.inl rfl) (pe_lst pa_nil))
  (pss_cons (ps_for PassesOwn.never rfl (pi_list (pe_ix ix_list (pv 0) pe_int (fun _ _ => rfl))) (pg_lst (by rfl) (pgs_cons (pg_name (i := 3) sc_L_handed.nd rfl (.inl rfl)) (pgs_cons (pg_name (i := 4) sc_L_handed.nd rfl (.inl rfl)) (pgs_cons (pg_name (i := 5) sc_L_handed.nd rfl (.inl rfl)) pgs_nil))))
    (pss_one (ps_if (pt_val (pv 1)) (pss_one (ps_expr (pe_bm PySem.F.plainAttrs_list PySem.F.slot_list_append PySem.F.type_list_append mt_append (pv 2) (pa_cons (pe_tup (pa_cons (pv 3) (pa_cons (pe_callTy call_tuple_of (by rfl) m_tuple (by decide +kernel) (pa_cons (pv 4) pa_nil)) (pa_cons (pe_callTy call_tuple_of (by rfl) m_tuple (by decide +kernel) (pa_cons (pv 5) pa_nil)) pa_nil)))) pa_nil)))) (pss_one (ps_expr (pe_bm PySem.F.plainAttrs_list PySem.F.slot_list_append PySem.F.type_list_append mt_append (pv 2) (pa_cons (pe_tup (pa_cons (pv 3) (pa_cons (pe_callTy call_list_of (by rfl) m_list (by decide +kernel) (pa_cons (pv 4) pa_nil)) (pa_cons (pe_callTy call_list_of (by rfl) m_list (by decide +kernel) (pa_cons (pv 5) pa_nil)) pa_nil)))) pa_nil)))))))
  (pss_cons (ps_if (pt_val (pv 1)) (pss_one (ps_ret (pe_tup (pa_cons (pe_callTy call_tuple_of (by rfl) m_tuple (by decide +kernel) (pa_cons (pe_ix ix_list (pv 0) pe_int (fun _ _ => rfl)) pa_nil)) (pa_cons (pe_callTy call_tuple_of (by rfl) m_tuple (by decide +kernel) (pa_cons (pv 2) pa_nil)) (pa_cons (pe_callTy call_tuple_of (by rfl) m_tuple (by decide +kernel) (pa_cons (pe_ix ix_list (pv 0) pe_int (fun _ _ => rfl)) pa_nil)) (pa_cons (pe_callTy call_tuple_of (by rfl) m_tuple (by decide +kernel) (pa_cons (pe_ix ix_list (pv 0) pe_int (fun _ _ => rfl)) pa_nil)) pa_nil))))))) pss_nil)
  (pss_one (ps_ret (pe_tup (pa_cons (pe_callTy call_list_of (by rfl) m_list (by decide +kernel) (pa_cons (pe_ix ix_list (pv 0) pe_int (fun _ _ => rfl)) pa_nil)) (pa_cons (pv 2) (pa_cons (pe_callTy call_list_of (by rfl) m_list (by decide +kernel) (pa_cons (pe_ix ix_list (pv 0) pe_int (fun _ _ => rfl)) pa_nil)) (pa_cons (pe_callTy call_list_of (by rfl) m_list (by decide +kernel) (pa_cons (pe_ix ix_list (pv 0) pe_int (fun _ _ => rfl)) pa_nil)) pa_nil)))))))))), ?_⟩
    refine ⟨Nat.zero_le _, fun L nL => ?_⟩
    have w0 := same_upd (o := .lst []) nL
    have rl : (rs.map V.ref).length = b.ds.length := by rw [List.length_map, hR.1]
    cases lo with
    | false =>
      refine ⟨_, rfl, _, _, 1, _, rfl, rfl, lstAt (w0 _ _ hD), rfl, r, rfl, ⟨_, lstAt (w0 _ _ hr')⟩, for_list (K := K) (a := r) (xs := rs.map V.ref) (fun i σ H' => ∃ (ps : List Addr) (y3 y4 y5 : Option V), σ = [some (.ref D), some (.bl false), some (.ref L), y3, y4, y5] ∧ Same H H' ∧ H' L = some (.lst (ps.map V.ref)) ∧ AllAt (RwI H L) H' ps (b.ds.take i)) ⟨[], _, _, _, rfl, w0, upd_same, .nil⟩ (fun i σ H' _ hq => by obtain ⟨_, _, _, _, rfl, s, _⟩ := hq; exact lstAt (s _ _ hr')) ?_ ?_⟩
      · rintro i v σ H1 hv ⟨ps, y3, y4, y5, rfl, s1, eL, hP⟩
        obtain ⟨e, d, rfl, ed, bb, ff, es, h1, h2, h3, h4, _⟩ := all_at hR hv
        have hi := (List.getElem?_eq_some_iff.mp ed).1
        have ql : (ps.map V.ref).length = i := by rw [List.length_map, hP.1, List.length_take]; omega
        refine gLst3 (s1 _ _ h1) [some (.ref D), some (.bl false), some (.ref L), some (vN d.nm), some (.ref bb), some (.ref ff)] rfl ?_
        refine ⟨_, rfl, _, rfl, iteF ⟨_, rfl, .inl ⟨rfl, _, lstAt eL⟩, _, rfl, _, rfl, bb, _, rfl, .inl (lstAt (s1 _ _ h2)), fun b2 nb2 => ?_⟩⟩
        have g1 := same_upd (o := .lst (es.map V.ref)) nb2
        have eb2 := upd_same (H := H1) (a := b2) (o := .lst (es.map V.ref))
        generalize upd H1 b2 (.lst (es.map V.ref)) = H8 at g1 eb2 ⊢
        refine ⟨_, rfl, ff, _, rfl, .inl (lstAt ((s1.trans g1) _ _ h4)), fun f2 nf2 => ?_⟩
        have g2 := same_upd (o := .lst (d.fol.map vN)) nf2
        have ef2 := upd_same (H := H8) (a := f2) (o := .lst (d.fol.map vN))
        generalize upd H8 f2 (.lst (d.fol.map vN)) = H9 at g2 ef2 ⊢
        refine ⟨(show (3 : Nat) ≤ sizeLine by decide), fun g ng => ?_⟩
        have g3 := same_upd (o := .tup [vN d.nm, .ref b2, .ref f2]) ng
        have eg := upd_same (H := H9) (a := g) (o := .tup [vN d.nm, .ref b2, .ref f2])
        generalize upd H9 g (.tup [vN d.nm, .ref b2, .ref f2]) = H10 at g3 eg ⊢
        have g13 := g1.trans (g2.trans g3)
        have eL10 := g13 _ _ eL
        have gd : RwI H L H10 g d := ⟨b2, f2, es, eg, (g2.trans g3) _ _ eb2, h3.same (s1.trans g13), g3 _ _ ef2, (ne_of_none eL nb2).symm, (ne_of_none (g1 _ _ eL) nf2).symm, none_of s1 nb2, none_of (s1.trans g1) nf2⟩
        have kL : ∀ c o, H10 c = some o → c ≠ L → (upd H10 L (.lst (ps.map V.ref ++ [.ref g]))) c = some o := fun c o e n => by rw [upd_ne n]; exact e
        refine ⟨_, _, _, rfl, rfl, eL10, by rw [ql]; exact small1000 (by omega), ps ++ [g], _, _, _, rfl, same_at (s1.trans g13) nL, by rw [upd_same, List.map_append]; rfl, ?_⟩
        rw [List.take_add_one, ed]
        exact ((hP.mono fun _ _ k => k.same g13).app (.one gd)).mono fun _ _ k => k.go ⟨_, eL10⟩ kL
      · rintro σ H1 ⟨ps, y3, y4, y5, rfl, s1, eL, hP⟩
        rw [rl, List.take_length] at hP
        refine ⟨_, rfl, _, rfl, iteF ?_⟩
        refine ⟨_, rfl, _, _, 0, _, rfl, rfl, lstAt (s1 _ _ hD), rfl, c, _, rfl, .inl (lstAt (s1 _ _ hc)), fun a2 na2 => ?_⟩
        have g1 := s1.trans (same_upd (o := .lst (b.zs.map vN)) na2)
        have ea := upd_same (H := H1) (a := a2) (o := .lst (b.zs.map vN))
        have k1 := same_upd (o := .lst (b.zs.map vN)) na2
        generalize upd H1 a2 (.lst (b.zs.map vN)) = H2 at g1 ea k1 ⊢
        refine ⟨_, rfl, _, rfl, _, _, 2, _, rfl, rfl, lstAt (g1 _ _ hD), rfl, f, _, rfl, .inl (lstAt (g1 _ _ hf)), fun s2 ns2 => ?_⟩
        have g2 := g1.trans (same_upd (o := .lst (b.ss.map vN)) ns2)
        have es := upd_same (H := H2) (a := s2) (o := .lst (b.ss.map vN))
        have k2 := same_upd (o := .lst (b.ss.map vN)) ns2
        generalize upd H2 s2 (.lst (b.ss.map vN)) = H3 at g2 es k2 ⊢
        refine ⟨_, rfl, _, _, 3, _, rfl, rfl, lstAt (g2 _ _ hD), rfl, h, _, rfl, .inl (lstAt (g2 _ _ hh)), fun h2 nh2 => ?_⟩
        have g3 := g2.trans (same_upd (o := .lst (b.hs.map vN)) nh2)
        have eh := upd_same (H := H3) (a := h2) (o := .lst (b.hs.map vN))
        have k3 := same_upd (o := .lst (b.hs.map vN)) nh2
        generalize upd H3 h2 (.lst (b.hs.map vN)) = H4 at g3 eh k3 ⊢
        refine ⟨(show (4 : Nat) ≤ sizeLine by decide), fun t nt => ?_⟩
        have k4 := same_upd (o := .tup [V.ref a2, .ref L, .ref s2, .ref h2]) nt
        have k14 := k1.trans (k2.trans (k3.trans k4))
        exact q _ t a2 L s2 h2 ps (g3.trans k4) (.inl ⟨rfl, upd_same, (k2.trans (k3.trans k4)) _ _ ea, k14 _ _ eL, hP.mono fun _ _ k => k.same k14, (k3.trans k4) _ _ es, k4 _ _ eh, none_of s1 na2, nL, none_of g1 ns2, none_of g2 nh2⟩)
    | true =>
      refine ⟨_, rfl, _, _, 1, _, rfl, rfl, lstAt (w0 _ _ hD), rfl, r, rfl, ⟨_, lstAt (w0 _ _ hr')⟩, for_list (K := K) (a := r) (xs := rs.map V.ref) (fun i σ H' => ∃ (ps : List Addr) (y3 y4 y5 : Option V), σ = [some (.ref D), some (.bl true), some (.ref L), y3, y4, y5] ∧ Same H H' ∧ H' L = some (.lst (ps.map V.ref)) ∧ AllAt PgInT H' ps (b.ds.take i)) ⟨[], _, _, _, rfl, w0, upd_same, .nil⟩ (fun i σ H' _ hq => by obtain ⟨_, _, _, _, rfl, s, _⟩ := hq; exact lstAt (s _ _ hr')) ?_ ?_⟩
      · rintro i v σ H1 hv ⟨ps, y3, y4, y5, rfl, s1, eL, hP⟩
        obtain ⟨e, d, rfl, ed, bb, ff, es, h1, h2, h3, h4, _⟩ := all_at hR hv
        have hi := (List.getElem?_eq_some_iff.mp ed).1
        have ql : (ps.map V.ref).length = i := by rw [List.length_map, hP.1, List.length_take]; omega
        refine gLst3 (s1 _ _ h1) [some (.ref D), some (.bl true), some (.ref L), some (vN d.nm), some (.ref bb), some (.ref ff)] rfl ?_
        refine ⟨_, rfl, _, rfl, iteT ⟨_, rfl, .inl ⟨rfl, _, lstAt eL⟩, _, rfl, _, rfl, bb, _, rfl, .inl ⟨lstAt (s1 _ _ h2), fun b2 nb2 => ?_⟩⟩⟩
        have g1 := same_upd (o := .tup (es.map V.ref)) nb2
        have eb2 := upd_same (H := H1) (a := b2) (o := .tup (es.map V.ref))
        generalize upd H1 b2 (.tup (es.map V.ref)) = H8 at g1 eb2 ⊢
        refine ⟨_, rfl, ff, _, rfl, .inl ⟨lstAt ((s1.trans g1) _ _ h4), fun f2 nf2 => ?_⟩⟩
        have g2 := same_upd (o := .tup (d.fol.map vN)) nf2
        have ef2 := upd_same (H := H8) (a := f2) (o := .tup (d.fol.map vN))
        generalize upd H8 f2 (.tup (d.fol.map vN)) = H9 at g2 ef2 ⊢
        refine ⟨(show (3 : Nat) ≤ sizeLine by decide), fun g ng => ?_⟩
        have g3 := same_upd (o := .tup [vN d.nm, .ref b2, .ref f2]) ng
        have eg := upd_same (H := H9) (a := g) (o := .tup [vN d.nm, .ref b2, .ref f2])
        generalize upd H9 g (.tup [vN d.nm, .ref b2, .ref f2]) = H10 at g3 eg ⊢
        have g13 := g1.trans (g2.trans g3)
        have eL10 := g13 _ _ eL
        have gd : PgInT H10 g d := ⟨b2, f2, es, eg, (g2.trans g3) _ _ eb2, h3.same (s1.trans g13), g3 _ _ ef2⟩
        refine ⟨_, _, _, rfl, rfl, eL10, by rw [ql]; exact small1000 (by omega), ps ++ [g], _, _, _, rfl, same_at (s1.trans g13) nL, by rw [upd_same, List.map_append]; rfl, ?_⟩
        rw [List.take_add_one, ed]
        exact ((hP.mono fun _ _ k => k.same g13).app (.one gd)).mono fun _ _ k => k.wr eL10
      · rintro σ H1 ⟨ps, y3, y4, y5, rfl, s1, eL, hP⟩
        rw [rl, List.take_length] at hP
        refine ⟨_, rfl, _, rfl, iteT ?_⟩
        refine ⟨_, rfl, _, _, 0, _, rfl, rfl, lstAt (s1 _ _ hD), rfl, c, _, rfl, .inl ⟨lstAt (s1 _ _ hc), fun a2 na2 => ?_⟩⟩
        have g1 := s1.trans (same_upd (o := .tup (b.zs.map vN)) na2)
        have ea := upd_same (H := H1) (a := a2) (o := .tup (b.zs.map vN))
        have k1 := same_upd (o := .tup (b.zs.map vN)) na2
        generalize upd H1 a2 (.tup (b.zs.map vN)) = H2 at g1 ea k1 ⊢
        refine ⟨_, rfl, L, _, rfl, .inl ⟨lstAt (k1 _ _ eL), fun p2 np2 => ?_⟩⟩
        have g1' := g1.trans (same_upd (o := .tup (ps.map V.ref)) np2)
        have ep := upd_same (H := H2) (a := p2) (o := .tup (ps.map V.ref))
        have k1' := same_upd (o := .tup (ps.map V.ref)) np2
        generalize upd H2 p2 (.tup (ps.map V.ref)) = H5 at g1' ep k1' ⊢
        refine ⟨_, rfl, _, _, 2, _, rfl, rfl, lstAt (g1' _ _ hD), rfl, f, _, rfl, .inl ⟨lstAt (g1' _ _ hf), fun s2 ns2 => ?_⟩⟩
        have g2 := g1'.trans (same_upd (o := .tup (b.ss.map vN)) ns2)
        have es := upd_same (H := H5) (a := s2) (o := .tup (b.ss.map vN))
        have k2 := same_upd (o := .tup (b.ss.map vN)) ns2
        generalize upd H5 s2 (.tup (b.ss.map vN)) = H3 at g2 es k2 ⊢
        refine ⟨_, rfl, _, _, 3, _, rfl, rfl, lstAt (g2 _ _ hD), rfl, h, _, rfl, .inl ⟨lstAt (g2 _ _ hh), fun h2 nh2 => ?_⟩⟩
        have g3 := g2.trans (same_upd (o := .tup (b.hs.map vN)) nh2)
        have eh := upd_same (H := H3) (a := h2) (o := .tup (b.hs.map vN))
        have k3 := same_upd (o := .tup (b.hs.map vN)) nh2
        generalize upd H3 h2 (.tup (b.hs.map vN)) = H4 at g3 eh k3 ⊢
        refine ⟨(show (4 : Nat) ≤ sizeLine by decide), fun t nt => ?_⟩
        have k4 := same_upd (o := .tup [V.ref a2, .ref p2, .ref s2, .ref h2]) nt
        have k24 := k2.trans (k3.trans k4)
        exact q _ t a2 p2 s2 h2 ps (g3.trans k4) (.inr ⟨rfl, upd_same, (k1'.trans k24) _ _ ea, k24 _ _ ep, (show PgsInT H1 ps b.ds from hP).same (k1.trans (k1'.trans k24)), (k3.trans k4) _ _ es, k4 _ _ eh⟩)
end
end TK

/-! copied rows; a thing put into a list -/
namespace TK
open PySem PySem.Spec PyProof.Rows L2
/-- a copied row: the row itself is new, what it holds is old -/
def RwC (H0 : Hp) (L : Addr) : Hp → Addr → PgD → Prop := fun H p d => ∃ (b f : Addr) (es : List Addr), H p = some (.lst [vN d.nm, .ref b, .ref f]) ∧ H b = some (.lst (es.map V.ref)) ∧ BidsAt H es d.bids ∧ H f = some (.lst (d.fol.map vN)) ∧ p ≠ L ∧ b ≠ L ∧ f ≠ L ∧ H0 p = none ∧ (∃ o, H0 b = some o) ∧ (∃ o, H0 f = some o)
theorem RwC.same {H0 : Hp} {D : Addr} {H H' : Hp} {p : Addr} {d : PgD} (h : RwC H0 D H p d) (s : Same H H') : RwC H0 D H' p d := by
  obtain ⟨b, f, es, h1, h2, h3, h4, h5⟩ := h
  exact ⟨b, f, es, s _ _ h1, s _ _ h2, h3.same s, s _ _ h4, h5⟩
theorem RwC.go {H0 : Hp} {D : Addr} {H H' : Hp} {p : Addr} {d : PgD} (h : RwC H0 D H p d) (e : ∃ xs, H D = some (.lst xs)) (k : ∀ c o, H c = some o → c ≠ D → H' c = some o) : RwC H0 D H' p d := by
  obtain ⟨b, f, es, h1, h2, h3, h4, h5, h6, h7, h8⟩ := h
  obtain ⟨xs, e⟩ := e
  refine ⟨b, f, es, k _ _ h1 h5, k _ _ h2 h6, ⟨h3.1, fun i e' he => ?_⟩, k _ _ h4 h7, h5, h6, h7, h8⟩
  obtain ⟨d', a, b'⟩ := h3.2 i e' he
  exact ⟨d', a, k _ _ b' (ne_of b' e nofun)⟩
theorem cut_from_l (xs : List V) (i : Nat) : cutV xs (some ((i : Nat) : Int)) none = xs.drop i := by
  unfold cutV
  rw [HT.sIx_nat]
  have e : HT.sIx xs.length xs.length none = xs.length := rfl
  rw [e]
  by_cases h : i ≤ xs.length
  · rw [Nat.min_eq_left h, List.take_of_length_le (by rw [List.length_drop]; exact Nat.le_refl _)]
  · rw [Nat.min_eq_right (by omega), List.drop_length, List.drop_of_length_le (by omega), List.take_nil]
theorem shaped_ofL {xs : List PyData} {n : Nat} (h : PyData.canLayAll0 xs = true ∧ PyData.depthAll xs ≤ n) (l : n ≤ 60) : SeqAt.shaped (.list xs) = true := by
  show ((PyData.list _).canLay0 && decide ((PyData.list _).depth ≤ 64)) = true
  rw [show (PyData.list xs).canLay0 = true by simp only [PyData.canLay0, h.1], show (PyData.list xs).depth = PyData.depthAll xs + 1 by simp only [PyData.depth]]
  exact decide_eq_true (by omega)
theorem eqv_nilB (ds : List BidD) : PyData.eqv (.list (ds.map dB)) (.list ((([] : List Nam).map sOf).map PyData.str)) = decide (ds = []) := by
  cases ds with
  | nil => rfl
  | cons z zs => rfl
theorem set_rows {H0 Hn : Hp} {L pk : Addr} {ps : List Addr} {ds : List PgD} {k : Nat} {e : PgD} {o : HO} {xs ys : List V} (h : AllAt (RwC H0 L) Hn ps ds) (pn : ps.Nodup) (hp : ps[k]? = some pk) (n0 : H0 pk = none) (eL : Hn L = some (.lst xs)) (ep : Hn pk = some (.lst ys)) (pL : pk ≠ L) (he : RwS L (upd Hn pk o) pk e) : AllAt (RwS L) (upd Hn pk o) ps (ds.set k e) := by
  refine ⟨by rw [List.length_set]; exact h.1, fun i q hq => ?_⟩
  have hi := (List.getElem?_eq_some_iff.mp hq).1
  have hl := h.1
  by_cases c : k = i
  · subst c
    cases Option.some.inj (hp.symm.trans hq)
    exact ⟨e, by rw [List.getElem?_set_self (by omega)], he⟩
  · obtain ⟨d, ed, b, f, es, h1, h2, h3, h4, h5, h6, h7, h8, ⟨ob, h9⟩, ⟨of', h10⟩⟩ := h.2 i q hq
    have qk : q ≠ pk := fun z => c ((List.getElem?_inj (List.getElem?_eq_some_iff.mp hp).1 pn).mp (hp.trans (z ▸ hq).symm))
    have bk : b ≠ pk := ne_of_none h9 n0
    have fk : f ≠ pk := ne_of_none h10 n0
    refine ⟨d, by rw [List.getElem?_set_ne c]; exact ed, b, f, es, by rw [upd_ne qk]; exact h1, by rw [upd_ne bk]; exact h2, ⟨h3.1, fun j e' he' => ?_⟩, by rw [upd_ne fk]; exact h4, h5, h6, h7⟩
    obtain ⟨x, a1, a2⟩ := h3.2 j e' he'
    exact ⟨x, a1, by rw [upd_ne (ne_of a2 ep nofun)]; exact a2⟩
/-- xs[:n] + [e] + xs[n2:] -/
theorem mid_go {K : PySem.W.Frag} {te tj tj2 : TE} {σ : L2.St} {H : Hp} {Q : VK} {i n n2 : Nat} {L : Addr} {xs : List V} {R : V → Hp → Prop} (hi : σ[i]? = some (some (.ref L))) (eL : H L = some (.lst xs)) (l : xs.length ≤ 400)
    (hj : ∀ H1 Q1, Same H H1 → Q1 (.int (n : Nat)) H1 → tj σ H1 Q1) (hj2 : ∀ H1 Q1, Same H H1 → Q1 (.int (n2 : Nat)) H1 → tj2 σ H1 Q1) (hR : ∀ e H1 H2, R e H1 → Same H1 H2 → R e H2)
    (he : ∀ H1 Q1, Same H H1 → (∀ e H2, Same H1 H2 → R e H2 → Q1 e H2) → te σ H1 Q1) (q : ∀ H' p e, H p = none → Same H H' → R e H' → H' p = some (.lst (xs.take n ++ e :: xs.drop n2)) → Q (.ref p) H') :
    tOp rCat (tOp rCat (tSl (rSlL K) (tVar i) tNoPart (tPart tj)) (tLst (tCons te tNil))) (tSl (rSlL K) (tVar i) (tPart tj2) tNoPart) σ H Q := by
  have lt : (xs.take n).length ≤ xs.length := by rw [List.length_take]; omega
  have ld : (xs.drop n2).length ≤ xs.length := by rw [List.length_drop]; omega
  refine ⟨_, hi, hj H _ (Same.refl H) ⟨_, rfl, L, _, rfl, lstAt eL, fun p1 n1 => ?_⟩⟩
  rw [cutk]
  have s1 := same_upd (o := .lst (xs.take n)) n1
  have e1 := upd_same (H := H) (a := p1) (o := .lst (xs.take n))
  generalize upd H p1 (.lst (xs.take n)) = H1 at s1 e1 ⊢
  refine he H1 _ s1 fun e H2 s2 r => ⟨(show (1 : Nat) ≤ sizeLine by decide), fun p2 n2' => ?_⟩
  have s3 := same_upd (o := .lst [e]) n2'
  have e2 := upd_same (H := H2) (a := p2) (o := .lst [e])
  generalize upd H2 p2 (.lst [e]) = H3 at s3 e2 ⊢
  have r3 := hR _ _ _ r s3
  have e13 := (s2.trans s3) _ _ e1
  refine ⟨p1, p2, _, _, rfl, rfl, e13, e2, Nat.le_of_lt (small1000 (by show (xs.take n).length + 1 ≤ 1000; omega)), fun p3 n3 => ?_⟩
  have s4 := same_upd (o := .lst (xs.take n ++ [e])) n3
  have e3 := upd_same (H := H3) (a := p3) (o := .lst (xs.take n ++ [e]))
  generalize upd H3 p3 (.lst (xs.take n ++ [e])) = H4 at s4 e3 ⊢
  have s14 := s1.trans ((s2.trans s3).trans s4)
  have s14 : Same H H4 := s14
  refine ⟨_, hi, hj2 H4 _ s14 ⟨_, rfl, L, _, rfl, lstAt (s14 _ _ eL), fun p4 n4 => ?_⟩⟩
  rw [cut_from_l]
  have s5 := same_upd (o := .lst (xs.drop n2)) n4
  have e4 := upd_same (H := H4) (a := p4) (o := .lst (xs.drop n2))
  generalize upd H4 p4 (.lst (xs.drop n2)) = H5 at s5 e4 ⊢
  refine ⟨p3, p4, _, _, rfl, rfl, s5 _ _ e3, e4, Nat.le_of_lt (small1000 (by rw [List.length_append]; show (xs.take n).length + 1 + (xs.drop n2).length ≤ 1000; omega)), fun p n5 => ?_⟩
  have s6 := same_upd (o := .lst (xs.take n ++ [e] ++ xs.drop n2)) n5
  have s16 := (s14.trans s5).trans s6
  refine q _ p e (none_of (s14.trans s5) n5) s16 (hR _ _ _ (hR _ _ _ r3 s4) (s5.trans s6)) ?_
  rw [upd_same, List.append_assoc]
  rfl
end TK

/-! where the first fault is -/
namespace TK
open PySem PySem.Spec PyProof.Rows L2
theorem goN_pre : ∀ (pre seen r : List Nam), (∀ z ∈ pre, Nm z) → (seen ++ pre).Nodup → goN seen (pre ++ r) = goN (seen ++ pre) r
  | [], seen, r, _, _ => by rw [List.append_nil]; rfl
  | x :: p, seen, r, h, nd => by
    have e : seen ++ x :: p = (seen ++ [x]) ++ p := by rw [List.append_assoc]; rfl
    rw [e] at nd ⊢
    have nx : nmB x = true := nmB_iff.mpr (h x (List.mem_cons_self ..))
    have ns : x ∉ seen := fun m => by
      have := List.nodup_append.mp (List.nodup_append.mp nd).1
      exact this.2.2 x m x (List.mem_singleton.mpr rfl) rfl
    rw [← goN_pre p (seen ++ [x]) r (fun z m => h z (List.mem_cons_of_mem _ m)) nd]
    show (if nmB x = false then _ else if x ∈ seen then _ else _) = _
    rw [if_neg (by rw [nx]; decide), if_neg ns]
    rfl
theorem faultN_bad {m : Int} {zs pre post : List Nam} {x : Nam} (e : zs = pre ++ x :: post) (h : ∀ z ∈ pre, Nm z) (nd : pre.Nodup) (nx : ¬ Nm x) (l : (zs.length : Int) ≤ m) : faultN m zs = some (.bad x) := by
  unfold faultN
  rw [if_pos ⟨by rw [e, List.length_append, List.length_cons]; omega, l⟩, e, goN_pre pre [] _ h (by simpa using nd)]
  show (if nmB x = false then _ else _) = _
  rw [if_pos (nmB_no nx)]
theorem faultN_dbl {m : Int} {zs pre post : List Nam} {x : Nam} (e : zs = pre ++ x :: post) (h : ∀ z ∈ pre, Nm z) (nd : pre.Nodup) (mx : x ∈ pre) (l : (zs.length : Int) ≤ m) : faultN m zs = some (.dbl x) := by
  unfold faultN
  rw [if_pos ⟨by rw [e, List.length_append, List.length_cons]; omega, l⟩, e, goN_pre pre [] _ h (by simpa using nd)]
  show (if nmB x = false then _ else if x ∈ pre then _ else _) = _
  rw [if_neg (by rw [nmB_iff.mpr (h x mx)]; decide), if_pos mx]
theorem faultN_ok {m : Int} {zs : List Nam} (h : ∀ z ∈ zs, Nm z) (nd : zs.Nodup) (l1 : 1 ≤ zs.length) (l : (zs.length : Int) ≤ m) : faultN m zs = none := by
  unfold faultN
  rw [if_pos ⟨by omega, l⟩]
  have := goN_pre zs [] [] h (by simpa using nd)
  rw [List.append_nil] at this
  rw [this]; rfl
theorem faultN_cnt {m : Int} {zs : List Nam} (h : ¬ (1 ≤ (zs.length : Int) ∧ (zs.length : Int) ≤ m)) : faultN m zs = some (.count zs.length) := if_neg h
theorem goP_to {zs : List Nam} {ds : List PgD} : ∀ k : Nat, k ≤ ds.length → (∀ (j : Nat) (d : PgD), j < k → ds[j]? = some d → pgBad zs ((ds.map (·.nm)).take j) d = false) → goP zs 0 [] ds = goP zs (k : Int) ((ds.map (·.nm)).take k) (ds.drop k)
  | 0, _, _ => rfl
  | k + 1, hk, h => by
    have e := List.getElem?_eq_getElem (show k < ds.length by omega)
    rw [goP_to k (by omega) (fun j d hj => h j d (by omega)), goP_step e, if_neg (by rw [h k _ (by omega) e]; decide)]
theorem goP_first {zs : List Nam} {ds : List PgD} {k : Nat} {d : PgD} (hd : ds[k]? = some d) (bad : pgBad zs ((ds.map (·.nm)).take k) d = true) (h : ∀ (j : Nat) (d : PgD), j < k → ds[j]? = some d → pgBad zs ((ds.map (·.nm)).take j) d = false) : goP zs 0 [] ds = some (.book "page" k) := by
  have hi := (List.getElem?_eq_some_iff.mp hd).1
  rw [goP_to k (by omega) h, goP_step hd, if_pos bad]
theorem goP_none {zs : List Nam} {ds : List PgD} (h : ∀ (j : Nat) (d : PgD), ds[j]? = some d → pgBad zs ((ds.map (·.nm)).take j) d = false) : goP zs 0 [] ds = none := by
  rw [goP_to ds.length (Nat.le_refl _) (fun j d _ => h j d), List.drop_length]
  rfl
theorem goF_to {ns : List Nam} {ds : List PgD} : ∀ k : Nat, k ≤ ds.length → (∀ (j : Nat) (d : PgD), j < k → ds[j]? = some d → picksB d.fol ns = true) → goF ns 0 ds = goF ns (k : Int) (ds.drop k)
  | 0, _, _ => rfl
  | k + 1, hk, h => by
    have e := List.getElem?_eq_getElem (show k < ds.length by omega)
    rw [goF_to k (by omega) (fun j d hj => h j d (by omega)), goF_step e, if_neg (by rw [h k _ (by omega) e]; decide)]
theorem goF_first {ns : List Nam} {ds : List PgD} {k : Nat} {d : PgD} (hd : ds[k]? = some d) (bad : picksB d.fol ns = false) (h : ∀ (j : Nat) (d : PgD), j < k → ds[j]? = some d → picksB d.fol ns = true) : goF ns 0 ds = some (.book "followers" k) := by
  have hi := (List.getElem?_eq_some_iff.mp hd).1
  rw [goF_to k (by omega) h, goF_step hd, if_pos bad]
theorem goF_none {ns : List Nam} {ds : List PgD} (h : ∀ (j : Nat) (d : PgD), ds[j]? = some d → picksB d.fol ns = true) : goF ns 0 ds = none := by
  rw [goF_to ds.length (Nat.le_refl _) (fun j d _ => h j d), List.drop_length]
  rfl
/-- pages right but for followers -/
structure PgOk (zs : List Nam) (ds : List PgD) : Prop where
  l1 : 1 ≤ ds.length
  l4 : ds.length ≤ 4
  nm : ∀ d ∈ ds, Nm d.nm
  nd : (ds.map (·.nm)).Nodup
  b : ∀ d ∈ ds, BOk zs d.bids
theorem not_take {l : List Nam} {j : Nat} {x : Nam} (nd : l.Nodup) (h : l[j]? = some x) : x ∉ l.take j := fun m => by
  obtain ⟨i, hi⟩ := List.getElem?_of_mem m
  have li := (List.getElem?_eq_some_iff.mp hi).1
  rw [List.length_take] at li
  rw [List.getElem?_take_of_lt (by omega)] at hi
  have := (List.getElem?_inj (List.getElem?_eq_some_iff.mp hi).1 nd).mp (hi.trans h.symm)
  omega
theorem PgOk.good {zs : List Nam} {ds : List PgD} (h : PgOk zs ds) {j : Nat} {d : PgD} (e : ds[j]? = some d) : pgBad zs ((ds.map (·.nm)).take j) d = false := by
  have m := List.mem_of_getElem? e
  unfold pgBad
  rw [nmB_iff.mpr (h.nm d m), bidsB_iff.mpr (h.b d m), decide_eq_false (not_take h.nd (by rw [List.getElem?_map, e]; rfl))]
  rfl
theorem nm_lett {n : Nat} (h : n < 26) : Nm [97 + n] := ⟨Nat.le_refl 1, (show 1 ≤ 8 by decide), fun c m => by rw [List.mem_singleton.mp m]; omega⟩
def dueV : Flt → List V
  | .count n => [.str "BadCount", .int n]
  | .bad x => [.str "BadName", vN x]
  | .dbl x => [.str "DoubledName", vN x]
  | .book p i => [.str "BadBook", .str p, .int i]
theorem Nm.wok {x : Nam} (h : Nm x) : WOk x := ⟨Nat.le_trans h.2.1 (by decide), fun c m => by have := h.2.2 c m; omega⟩
section
variable {P : Program} {w : World} {K : PySem.W.Frag} {mg : Str → Option Value} {base : Heap}
def spWrongM (K : PySem.W.Frag) : Sp := fun vs H Q _ => ∃ (a b : Addr) (ns : List Int) (zs : List Nam), vs = [.ref a, .ref b] ∧ SqL K H a (ns.map V.int) ∧ ns.length = 16 ∧ H b = some (.lst (zs.map vN)) ∧ 1 ≤ zs.length ∧ zs.length ≤ 4 ∧ (∀ z ∈ zs, Nm z) ∧ zs.Nodup ∧
  ∀ (H' : Hp) (t m u : Addr) (ws : List Nam) (fl : Flt), Same H H' → H' t = some (.tup [.ref m, .ref u]) → H' m = some (.lst (ws.map vN)) → H' u = some (.tup (dueV fl)) → faultN 4 ws = some fl → ws.length ≤ 100 → (∀ z ∈ ws, WOk z) → Q (.ref t) H'
theorem ok_L_wrong_members {f : Addr} {fd : FuncData} (F : Fun K "_law_wrong_members" "_law_wrong_members" s_L_wrong_members f fd) (m_len : mg "len" = none) (m_list : mg "list" = none) (m_range : mg "range" = none) (d_L_part : Def P w K mg base "_law_part" 1 ["_law_pool_here", "_law_spot", "_law_under", "_law_size"] (spPart K)) (d_L_bad_word : Def P w K mg base "_law_bad_word" 2 ["_law_pool_here", "_law_spot", "_law_word"] (spBadW K))
    (d_L_strange : Def P w K mg base "_law_strange" 1 ["_law_names_here"] (spStrange K)) : FnOk P w K mg base CX0 3 f fd ["_law_pool_here", "_law_members"] (spWrongM K) := by
  refine F.ok sc_L_wrong_members (fun vs H Q E h => ?_) (fun cdv A outer s H vs Q E hr h => ?_)
  · obtain ⟨a, b, ns, zs, rfl, _⟩ := h
    rfl
  · obtain ⟨a, b, ns, zs, rfl, hS, nl, hB, z1, z4, nm, nd, q⟩ := h
    have zl : (zs.map vN).length = zs.length := List.length_map ..
    refine ⟨_, (pss_cons (ps_set (i := 2) sc_L_wrong_members.nd rfl (.inl rfl) (pe_callD d_L_part (hr.mono (by decide)) (by rfl) (pa_cons (pv 0) (pa_cons pe_int (pa_cons pe_int (pa_cons pe_int pa_nil))))))
  (pss_cons (ps_set (i := 3) sc_L_wrong_members.nd rfl (.inl rfl) (pe_callTy call_list_of (by rfl) m_list (by decide +kernel) (pa_cons (pe_slice sl_list (pv 1) po_none (po_some pe_int)) pa_nil)))
  (pss_cons (ps_set (i := 4) sc_L_wrong_members.nd rfl (.inl rfl) (pe_op op_mod (pe_callD d_L_part (hr.mono (by decide)) (by rfl) (pa_cons (pv 0) (pa_cons pe_int (pa_cons pe_int (pa_cons pe_int pa_nil))))) (pe_callB call_len_seq (by rfl) m_len (by decide +kernel) (pa_cons (pv 3) pa_nil))))
  (pss_cons (ps_set (i := 5) sc_L_wrong_members.nd rfl (.inl rfl) (pe_callD d_L_bad_word (hr.mono (by decide)) (by rfl) (pa_cons (pv 0) (pa_cons pe_int (pa_cons (pe_ix ix_list (pv 3) (pv 4) (fun _ _ => rfl)) pa_nil)))))
  (pss_cons (ps_set (i := 6) sc_L_wrong_members.nd rfl (.inl rfl) (pe_op op_add (pe_op op_add (pv 4) pe_int) (pe_op op_mod (pe_callD d_L_part (hr.mono (by decide)) (by rfl) (pa_cons (pv 0) (pa_cons pe_int (pa_cons pe_int (pa_cons pe_int pa_nil))))) (pe_op op_sub (pe_callB call_len_seq (by rfl) m_len (by decide +kernel) (pa_cons (pv 3) pa_nil)) (pv 4)))))
  (pss_cons (ps_if (pt_cmpR op_eq (pv 2) pe_int (nomark _)) (pss_one (ps_ret (pe_tup (pa_cons (pe_lst pa_nil) (pa_cons (pe_tup (pa_cons pe_str (pa_cons pe_int pa_nil))) pa_nil))))) pss_nil)
  (pss_cons (ps_if (pt_cmpR op_eq (pv 2) pe_int (nomark _)) (pss_cons (ps_set (i := 7) sc_L_wrong_members.nd rfl (.inl rfl) (pe_callTy call_list_of (by rfl) m_list (by decide +kernel) (pa_cons (pv 1) pa_nil)))
  (pss_cons (ps_cut (ps_if (pt_cmpR op_eq (pe_callD d_L_part (hr.mono (by decide)) (by rfl) (pa_cons (pv 0) (pa_cons pe_int (pa_cons pe_int (pa_cons pe_int pa_nil))))) pe_int (nomark _)) (pss_one (ps_asg (pv 5) (pg_sub (pv 7) (pv 4) set_list))) pss_nil))
  (pss_cons (ps_set (i := 8) sc_L_wrong_members.nd rfl (.inl rfl) (pe_op op_add pe_int (pe_callD d_L_part (hr.mono (by decide)) (by rfl) (pa_cons (pv 0) (pa_cons pe_int (pa_cons pe_int (pa_cons pe_int pa_nil)))))))
  (pss_cons (ps_for PassesOwn.never rfl (pi_range1 (by rfl) m_range (pa_cons pe_int pa_nil)) (pg_name (i := 9) sc_L_wrong_members.nd rfl (.inl rfl))
    (pss_one (ps_if (pt_cmpR op_lt (pe_callB call_len_seq (by rfl) m_len (by decide +kernel) (pa_cons (pv 7) pa_nil)) (pv 8) (nomark _)) (pss_one (ps_expr (pe_bm PySem.F.plainAttrs_list PySem.F.slot_list_append PySem.F.type_list_append mt_append (pv 7) (pa_cons (pe_callD d_L_strange (hr.mono (by decide)) (by rfl) (pa_cons (pv 7) pa_nil)) pa_nil)))) pss_nil)))
  (pss_one (ps_ret (pe_tup (pa_cons (pv 7) (pa_cons (pe_tup (pa_cons pe_str (pa_cons (pv 8) pa_nil))) pa_nil))))))))) pss_nil)
  (pss_cons (ps_if (pt_cmpR op_eq (pv 2) pe_int (nomark _)) (pss_cons (ps_set (i := 7) sc_L_wrong_members.nd rfl (.inl rfl) (pe_callTy call_list_of (by rfl) m_list (by decide +kernel) (pa_cons (pv 1) pa_nil)))
  (pss_cons (ps_set (i := 4) sc_L_wrong_members.nd rfl (.inl rfl) (pe_op op_mod (pe_callD d_L_part (hr.mono (by decide)) (by rfl) (pa_cons (pv 0) (pa_cons pe_int (pa_cons pe_int (pa_cons pe_int pa_nil))))) (pe_callB call_len_seq (by rfl) m_len (by decide +kernel) (pa_cons (pv 7) pa_nil))))
  (pss_cons (ps_asg (pv 5) (pg_sub (pv 7) (pv 4) set_list))
  (pss_one (ps_ret (pe_tup (pa_cons (pv 7) (pa_cons (pe_tup (pa_cons pe_str (pa_cons (pv 5) pa_nil))) pa_nil)))))))) pss_nil)
  (pss_cons (ps_if (pt_cmpR op_eq (pv 2) pe_int (nomark _)) (pss_one (ps_ret (pe_tup (pa_cons (pe_op op_cat (pe_op op_cat (pe_slice sl_list (pv 3) po_none (po_some (pv 6))) (pe_lst (pa_cons (pe_ix ix_list (pv 3) (pv 4) (fun _ _ => rfl)) pa_nil))) (pe_slice sl_list (pv 3) (po_some (pv 6)) po_none)) (pa_cons (pe_tup (pa_cons pe_str (pa_cons (pe_ix ix_list (pv 3) (pv 4) (fun _ _ => rfl)) pa_nil))) pa_nil))))) pss_nil)
  (pss_cons (ps_if (pt_cmpR op_eq (pv 2) pe_int (nomark _)) (pss_cons (ps_asg (pv 5) (pg_sub (pv 3) (pv 4) set_list))
  (pss_one (ps_ret (pe_tup (pa_cons (pe_op op_cat (pe_op op_cat (pe_slice sl_list (pv 3) po_none (po_some (pv 6))) (pe_lst (pa_cons (pe_callD d_L_bad_word (hr.mono (by decide)) (by rfl) (pa_cons (pv 0) (pa_cons pe_int (pa_cons (pe_ix ix_list (pv 1) pe_int (fun _ _ => rfl)) pa_nil)))) pa_nil))) (pe_slice sl_list (pv 3) (po_some (pv 6)) po_none)) (pa_cons (pe_tup (pa_cons pe_str (pa_cons (pv 5) pa_nil))) pa_nil)))))) pss_nil)
  (pss_cons (ps_set (i := 6) sc_L_wrong_members.nd rfl (.inl rfl) (pe_callD d_L_part (hr.mono (by decide)) (by rfl) (pa_cons (pv 0) (pa_cons pe_int (pa_cons pe_int (pa_cons pe_int pa_nil))))))
  (pss_cons (ps_if (pt_cmpR op_eq (pv 6) pe_int (nomark _)) (pss_one (ps_ret (pe_tup (pa_cons (pe_lst (pa_cons (pe_ix ix_list (pv 1) pe_int (fun _ _ => rfl)) (pa_cons (pe_ix ix_list (pv 1) pe_int (fun _ _ => rfl)) (pa_cons (pv 5) pa_nil)))) (pa_cons (pe_tup (pa_cons pe_str (pa_cons (pe_ix ix_list (pv 1) pe_int (fun _ _ => rfl)) pa_nil))) pa_nil))))) pss_nil)
  (pss_one (ps_ret (pe_tup (pa_cons (pe_op op_cat (pe_op op_cat (pe_op op_cat (pe_op op_rep (pe_lst (pa_cons (pv 5) pa_nil)) (pe_op op_sub pe_int (pv 6))) (pe_lst (pa_cons (pe_ix ix_list (pv 1) pe_int (fun _ _ => rfl)) pa_nil))) (pe_op op_rep (pe_lst (pa_cons (pv 5) pa_nil)) (pv 6))) (pe_lst (pa_cons (pe_ix ix_list (pv 1) pe_int (fun _ _ => rfl)) pa_nil))) (pa_cons (pe_tup (pa_cons pe_str (pa_cons (pv 5) pa_nil))) pa_nil))))))))))))))))), ?_⟩
    refine ⟨_, rfl, a, ns, 0, 1, 6, rfl, hS, by decide, by omega, by decide, by decide, by decide, ?_⟩
    have tp := part_lo (ns := ns) (s := 0) (u := 1) (z := 6) (by decide)
    refine ⟨_, rfl, _, rfl, b, _, rfl, lstAt hB, fun p0 np0 => ?_⟩
    rw [show cutV (zs.map vN) none (some (3 : Int)) = (zs.take 3).map vN from cut_names zs 3]
    have s1 := same_upd (o := .lst ((zs.take 3).map vN)) np0
    have e1 := upd_same (H := H) (a := p0) (o := .lst ((zs.take 3).map vN))
    generalize upd H p0 (.lst ((zs.take 3).map vN)) = H1 at s1 e1 ⊢
    refine ⟨p0, _, rfl, .inl (lstAt e1), fun L nL => ?_⟩
    have s2 := s1.trans (same_upd (o := .lst ((zs.take 3).map vN)) nL)
    have eL := upd_same (H := H1) (a := L) (o := .lst ((zs.take 3).map vN))
    have nLH : H L = none := none_of s1 nL
    generalize upd H1 L (.lst ((zs.take 3).map vN)) = H2 at s2 eL ⊢
    clear s1 e1 np0 nL
    obtain ⟨ws, hws⟩ : ∃ ws, ws = zs.take 3 := ⟨_, rfl⟩
    rw [← hws] at eL
    have wl1 : 1 ≤ ws.length := by rw [hws, List.length_take]; omega
    have wl3 : ws.length ≤ 3 := by rw [hws, List.length_take]; omega
    have wm : ∀ z ∈ ws, z ∈ zs := fun z m => List.mem_of_mem_take (hws ▸ m)
    have wn : ∀ z ∈ ws, Nm z := fun z m => nm z (wm z m)
    have wd : ws.Nodup := by rw [hws]; exact nd.sublist (List.take_sublist _ _)
    have wl : (((ws.map vN).length : Nat) : Int) = (ws.length : Int) := by rw [List.length_map]
    obtain ⟨k, hk⟩ : ∃ k : Nat, partOf ns 0 6 12 % (ws.length : Int) = (k : Int) := ⟨(partOf ns 0 6 12 % (ws.length : Int)).toNat, by have := Int.emod_nonneg (partOf ns 0 6 12) (show (ws.length : Int) ≠ 0 by omega); omega⟩
    have kl : k < ws.length := by have := Int.emod_lt_of_pos (partOf ns 0 6 12) (show (0 : Int) < (ws.length : Int) by omega); omega
    refine ⟨_, rfl, a, ns, 0, 6, 12, rfl, s2.seq hS, by decide, by omega, by decide, by decide, by decide, _, rfl, L, _, rfl, .inl (lstAt eL), _, _, rfl, rfl, by rw [wl]; omega, ?_⟩
    rw [wl, show (fun i j => V.int (i % j)) (partOf ns 0 6 12) (ws.length : Int) = V.int (k : Int) from congrArg V.int hk]
    obtain ⟨x, ex⟩ : ∃ x, ws[k]? = some x := ⟨_, List.getElem?_eq_getElem kl⟩
    have mx := List.mem_of_getElem? ex
    have nx := wn x mx
    have ax : atI (ws.map vN) (k : Int) = some (vN x) := atI_nat (by rw [List.getElem?_map, ex]; rfl)
    refine ⟨_, rfl, _, rfl, _, rfl, _, _, _, _, rfl, rfl, lstAt eL, ax, a, ns, 1, x, rfl, s2.seq hS, by decide, by omega, nx, fun y ny ly ay => ?_⟩
    have wy : WOk y := ⟨ly, ay⟩
    obtain ⟨j, hj⟩ : ∃ j : Nat, (k : Int) + 1 + partOf ns 0 72 12 % ((ws.length : Int) - k) = (j : Int) := ⟨((k : Int) + 1 + partOf ns 0 72 12 % ((ws.length : Int) - k)).toNat, by have := Int.emod_nonneg (partOf ns 0 72 12) (show (ws.length : Int) - k ≠ 0 by omega); omega⟩
    have j0 : k < j := by have := Int.emod_nonneg (partOf ns 0 72 12) (show (ws.length : Int) - k ≠ 0 by omega); omega
    have j1 : j ≤ ws.length := by have := Int.emod_lt_of_pos (partOf ns 0 72 12) (show (0 : Int) < (ws.length : Int) - k by omega); omega
    refine ⟨_, rfl, _, _, rfl, rfl, _, rfl, a, ns, 0, 72, 12, rfl, s2.seq hS, by decide, by omega, by decide, by decide, by decide, _, rfl, L, _, rfl, .inl (lstAt eL), _, rfl, _, _, rfl, rfl, _, _, rfl, rfl, by rw [wl]; show (0 : Int) < (ws.length : Int) - k; omega, _, _, rfl, rfl, ?_⟩
    rw [wl, show (fun i j => V.int (i + j)) ((k : Int) + 1) (partOf ns 0 72 12 % ((ws.length : Int) - k)) = V.int (j : Int) from congrArg V.int hj]
    have ck : ixN (ws.map vN).length (k : Int) = some k := by
      unfold ixN
      rw [if_pos (by omega), List.length_map]
      exact if_pos (by omega)
    have z0 : ∃ z, zs[0]? = some z := ⟨_, List.getElem?_eq_getElem (by omega)⟩
    obtain ⟨m0, em0⟩ := z0
    have nm0 := nm m0 (List.mem_of_getElem? em0)
    have am0 : ∀ n : Nat, n = 0 → atI (zs.map vN) (n : Int) = some (vN m0) := fun n e => by subst e; exact atI_nat (by rw [List.getElem?_map, em0]; rfl)
    -- the end: the list, the due, the pair
    have fin : ∀ (H' : Hp) (m : Addr) (vs : List Nam) (fl : Flt), Same H H' → H' m = some (.lst (vs.map vN)) → faultN 4 vs = some fl → vs.length ≤ 100 → (∀ z ∈ vs, WOk z) → ∀ u, H' u = none → ∀ t, (upd H' u (.tup (dueV fl))) t = none → Q (.ref t) (upd (upd H' u (.tup (dueV fl))) t (.tup [.ref m, .ref u])) := fun H' m vs fl s em fa l wk u nu t nt =>
      q _ t m u vs fl (s.trans ((same_upd nu).trans (same_upd nt))) upd_same ((same_upd nt) _ _ ((same_upd nu) _ _ em)) ((same_upd nt) _ _ upd_same) fa l wk
    refine ⟨_, rfl, rfl, _, rfl, ite2 (fun e => ?_) (fun e => ?_)⟩
    · refine ⟨Nat.zero_le _, fun m nm' => ⟨(show (2 : Nat) ≤ sizeLine by decide), fun u nu => ⟨(show (2 : Nat) ≤ sizeLine by decide), fun t nt => ?_⟩⟩⟩
      exact fin _ m [] (.count 0) (s2.trans (same_upd nm')) upd_same rfl (by decide) nofun u nu t nt
    refine ⟨_, rfl, rfl, _, rfl, ite2 (fun e => ?_) (fun e => ?_)⟩
    · refine ⟨_, rfl, b, _, rfl, .inl (lstAt (s2 _ _ hB)), fun M nM => ?_⟩
      have s3 := s2.trans (same_upd (o := .lst (zs.map vN)) nM)
      have eM := upd_same (H := H2) (a := M) (o := .lst (zs.map vN))
      have nMH := none_of s2 nM
      generalize upd H2 M (.lst (zs.map vN)) = H3 at s3 eM ⊢
      have zk : ixN (zs.map vN).length (k : Int) = some k := by
        unfold ixN
        rw [if_pos (by omega), List.length_map]
        exact if_pos (by have : ws.length ≤ zs.length := by rw [hws, List.length_take]; omega
                         omega)
      refine ⟨(fun σ' H' => ∃ us : List Nam, σ' = [some (.ref a), some (.ref b), some (.int (partOf ns 0 1 6)), some (.ref L), some (.int (k : Int)), some (vN y), some (.int (j : Int)), some (.ref M), none, none] ∧ Same H H' ∧ H' M = some (.lst (us.map vN)) ∧ us.length = zs.length ∧ ∀ z ∈ us, WOk z), ?_, ?_⟩
      · refine ⟨_, rfl, a, ns, 0, 864, 2, rfl, s3.seq hS, by decide, by omega, by decide, by decide, by decide, rfl, _, rfl, ite2 (fun e => ?_) (fun e => ?_)⟩
        · refine ⟨_, rfl, _, rfl, _, rfl, M, _, _, k, rfl, rfl, eM, zk, zs.set k y, rfl, same_at s3 nMH, by rw [List.map_set]; exact upd_same, List.length_set .., fun z m => ?_⟩
          rcases List.mem_or_eq_of_mem_set m with h | h
          · exact (nm z h).wok
          · exact h ▸ wy
        · exact ⟨zs, rfl, s3, eM, rfl, fun z m => (nm z m).wok⟩
      rintro σ' H4 ⟨us, rfl, s4, eM4, ul, uk⟩
      have v0 := part_lo (ns := ns) (s := 3) (u := 1) (z := 4) (by decide)
      have v1 := part_hi (ns := ns) (s := 3) (u := 1) (z := 4) (by decide)
      refine ⟨_, rfl, a, ns, 3, 1, 4, rfl, s4.seq hS, by decide, by omega, by decide, by decide, by decide, _, _, rfl, rfl, ?_⟩
      obtain ⟨n, hn⟩ : ∃ n : Nat, 5 + partOf ns 3 1 4 = (n : Int) := ⟨(5 + partOf ns 3 1 4).toNat, by omega⟩
      rw [show (fun i j => V.int (i + j)) 5 (partOf ns 3 1 4) = V.int (n : Int) from congrArg V.int hn]
      refine ⟨8, rfl, by decide, by decide, for_range (fun i σ H' => ∃ (vs : List Nam) (y9 : Option V), σ = [some (.ref a), some (.ref b), some (.int (partOf ns 0 1 6)), some (.ref L), some (.int (k : Int)), some (vN y), some (.int (j : Int)), some (.ref M), some (.int (n : Int)), y9] ∧ Same H H' ∧ H' M = some (.lst (vs.map vN)) ∧ vs.length = min n (zs.length + i) ∧ ∀ z ∈ vs, WOk z) ⟨us, _, rfl, s4, eM4, by omega, uk⟩ ?_ ?_⟩
      · rintro i σ H5 hi ⟨vs, y9, rfl, s5, eM5, vl, vk⟩
        have hi : i < 8 := hi
        have vml : (vs.map vN).length = vs.length := List.length_map ..
        refine ⟨_, rfl, M, _, rfl, .inl (lstAt eM5), _, rfl, _, _, rfl, rfl, _, rfl, ite2 (fun e => ?_) (fun e => ?_)⟩
        · have e := of_decide_eq_true e
          rw [vml] at e
          refine ⟨_, rfl, .inl ⟨rfl, _, lstAt eM5⟩, _, rfl, M, vs, rfl, lstAt eM5, by omega, fun c hc nin => ?_⟩
          refine ⟨_, _, _, rfl, rfl, eM5, by rw [vml]; exact small1000 (by omega), vs ++ [[97 + c]], _, rfl, same_at s5 nMH, by rw [upd_same, List.map_append]; rfl, by rw [List.length_append]; show vs.length + 1 = _; omega, fun z m => ?_⟩
          rcases List.mem_append.mp m with h | h
          · exact vk z h
          · rw [List.mem_singleton.mp h]
            exact Nm.wok (nm_lett hc)
        · have e : ¬ ((((vs.map vN).length : Nat) : Int) < (n : Int)) := fun z => e (decide_eq_true z)
          rw [vml] at e
          exact ⟨vs, _, rfl, s5, eM5, by omega, vk⟩
      · rintro σ H5 ⟨vs, y9, rfl, s5, eM5, vl, vk⟩
        have vn : vs.length = n := by
          have : (8 : Int).toNat = 8 := rfl
          omega
        refine ⟨_, rfl, _, rfl, (show (2 : Nat) ≤ sizeLine by decide), fun u nu => ⟨(show (2 : Nat) ≤ sizeLine by decide), fun t nt => ?_⟩⟩
        rw [← vn] at nt ⊢
        exact fin _ M vs (.count vs.length) s5 eM5 (faultN_cnt (by omega)) (by omega) vk u nu t nt
    refine ⟨_, rfl, rfl, _, rfl, ite2 (fun e => ?_) (fun e => ?_)⟩
    · refine ⟨_, rfl, b, _, rfl, .inl (lstAt (s2 _ _ hB)), fun M nM => ?_⟩
      have s3 := s2.trans (same_upd (o := .lst (zs.map vN)) nM)
      have eM := upd_same (H := H2) (a := M) (o := .lst (zs.map vN))
      have nMH := none_of s2 nM
      generalize upd H2 M (.lst (zs.map vN)) = H3 at s3 eM ⊢
      have zl' : (((zs.map vN).length : Nat) : Int) = (zs.length : Int) := by rw [List.length_map]
      obtain ⟨k2, hk2⟩ : ∃ k : Nat, partOf ns 3 1 12 % (zs.length : Int) = (k : Int) := ⟨(partOf ns 3 1 12 % (zs.length : Int)).toNat, by have := Int.emod_nonneg (partOf ns 3 1 12) (show (zs.length : Int) ≠ 0 by omega); omega⟩
      have kl2 : k2 < zs.length := by have := Int.emod_lt_of_pos (partOf ns 3 1 12) (show (0 : Int) < (zs.length : Int) by omega); omega
      have zk : ixN (zs.map vN).length (k2 : Int) = some k2 := by
        unfold ixN
        rw [if_pos (by omega), List.length_map]
        exact if_pos (by omega)
      refine ⟨_, rfl, a, ns, 3, 1, 12, rfl, s3.seq hS, by decide, by omega, by decide, by decide, by decide, _, rfl, M, _, rfl, .inl (lstAt eM), _, _, rfl, rfl, by rw [zl']; omega, ?_⟩
      rw [zl', show (fun i j => V.int (i % j)) (partOf ns 3 1 12) (zs.length : Int) = V.int (k2 : Int) from congrArg V.int hk2]
      refine ⟨_, rfl, _, rfl, _, rfl, M, _, _, k2, rfl, rfl, eM, zk, ?_⟩
      refine ⟨_, rfl, _, rfl, (show (2 : Nat) ≤ sizeLine by decide), fun u nu => ⟨(show (2 : Nat) ≤ sizeLine by decide), fun t nt => ?_⟩⟩
      refine fin _ M (zs.set k2 y) (.bad y) (same_at s3 nMH) (by rw [List.map_set]; exact upd_same) (faultN_bad (pre := zs.take k2) (post := zs.drop (k2 + 1)) (List.set_eq_take_append_cons_drop .. |>.trans (if_pos kl2)) (fun z m => nm z (List.mem_of_mem_take m)) (nd.sublist (List.take_sublist _ _)) ny (by rw [List.length_set]; omega)) (by rw [List.length_set]; omega) (fun z m => ?_) u nu t nt
      rcases List.mem_or_eq_of_mem_set m with h | h
      · exact (nm z h).wok
      · exact h ▸ wy
    have jv : ∀ (H1 : Hp) (Q1 : VK), Same H2 H1 → Q1 (.int (j : Nat)) H1 → tVar 6 [some (V.ref a), some (.ref b), some (.int (partOf ns 0 1 6)), some (.ref L), some (.int (k : Int)), some (vN y), some (.int (j : Int)), none, none, none] H1 Q1 := fun H1 Q1 _ q1 => ⟨_, rfl, q1⟩
    refine ⟨_, rfl, rfl, _, rfl, ite2 (fun e => ?_) (fun e => ?_)⟩
    · refine mid_go (R := fun e _ => e = vN x) rfl eL (by rw [List.length_map]; omega) jv jv (fun e _ _ h _ => h) (fun H1 Q1 s q1 => ⟨_, rfl, _, rfl, _, _, _, _, rfl, rfl, lstAt (s _ _ eL), ax, q1 _ _ (Same.refl _) rfl⟩) fun H' m e nm' s he em => ?_
      subst he
      refine ⟨_, rfl, _, rfl, _, _, _, _, rfl, rfl, lstAt (s _ _ eL), ax, (show (2 : Nat) ≤ sizeLine by decide), fun u nu => ⟨(show (2 : Nat) ≤ sizeLine by decide), fun t nt => ?_⟩⟩
      refine fin _ m (ws.take j ++ x :: ws.drop j) (.dbl x) (s2.trans s) (by rw [em, List.map_append, List.map_cons, List.map_take, List.map_drop]) (faultN_dbl rfl (fun z m => wn z (List.mem_of_mem_take m)) (wd.sublist (List.take_sublist _ _)) (List.mem_of_getElem? (i := k) (by rw [List.getElem?_take_of_lt j0]; exact ex)) (by rw [List.length_append, List.length_cons, List.length_take, List.length_drop]; omega)) (by rw [List.length_append, List.length_cons, List.length_take, List.length_drop]; omega) (fun z m => ?_) u nu t nt
      rcases List.mem_append.mp m with h | h
      · exact (wn z (List.mem_of_mem_take h)).wok
      · rcases List.mem_cons.mp h with h | h
        · exact h ▸ nx.wok
        · exact (wn z (List.mem_of_mem_drop h)).wok
    refine ⟨_, rfl, rfl, _, rfl, ite2 (fun e => ?_) (fun e => ?_)⟩
    · refine ⟨_, rfl, _, rfl, _, rfl, L, _, _, k, rfl, rfl, eL, ck, ?_⟩
      have s3 := same_at s2 nLH (o := .lst ((ws.map vN).set k (vN y)))
      have eL3 := upd_same (H := H2) (a := L) (o := .lst ((ws.map vN).set k (vN y)))
      rw [← List.map_set] at eL3 s3 ⊢
      have hB3 := s3 _ _ hB
      have hS3 := s3.seq hS
      generalize upd H2 L (.lst ((ws.set k y).map vN)) = H3 at s3 eL3 hB3 hS3 ⊢
      refine mid_go (R := fun e _ => ∃ v : Nam, e = vN v ∧ WOk v) rfl eL3 (by rw [List.length_map, List.length_set]; omega) (fun H1 Q1 _ q1 => ⟨_, rfl, q1⟩) (fun H1 Q1 _ q1 => ⟨_, rfl, q1⟩) (fun e _ _ h _ => h) (fun H1 Q1 s q1 => ⟨_, rfl, _, rfl, _, _, _, _, rfl, rfl, lstAt (s _ _ hB3), am0 0 rfl, a, ns, 4, m0, rfl, s.seq hS3, by decide, by omega, nm0, fun v _ lv av => q1 _ _ (Same.refl _) ⟨v, rfl, lv, av⟩⟩) fun H' m e nm' s he em => ?_
      obtain ⟨v, rfl, wv⟩ := he
      refine ⟨_, rfl, (show (2 : Nat) ≤ sizeLine by decide), fun u nu => ⟨(show (2 : Nat) ≤ sizeLine by decide), fun t nt => ?_⟩⟩
      have e2 : (ws.set k y).take j ++ v :: (ws.set k y).drop j = ws.take k ++ y :: (((ws.drop (k + 1)).take (j - (k + 1))) ++ v :: (ws.set k y).drop j) := by
        rw [List.set_eq_take_append_cons_drop, if_pos kl, List.take_append, List.length_take, Nat.min_eq_left (by omega), List.take_of_length_le (by rw [List.length_take]; omega), show j - k = (j - (k + 1)) + 1 by omega, List.take_succ_cons, List.append_assoc]
        rfl
      refine fin _ m ((ws.set k y).take j ++ v :: (ws.set k y).drop j) (.bad y) (s3.trans s) (by rw [em, List.map_append, List.map_cons, List.map_take, List.map_drop]) (faultN_bad e2 (fun z m => wn z (List.mem_of_mem_take m)) (wd.sublist (List.take_sublist _ _)) ny (by rw [List.length_append, List.length_cons, List.length_take, List.length_drop, List.length_set]; omega)) (by rw [List.length_append, List.length_cons, List.length_take, List.length_drop, List.length_set]; omega) (fun z m => ?_) u nu t nt
      have ws' : ∀ z ∈ ws.set k y, WOk z := fun z m => by
        rcases List.mem_or_eq_of_mem_set m with h | h
        · exact (wn z h).wok
        · exact h ▸ wy
      rcases List.mem_append.mp m with h | h
      · exact ws' z (List.mem_of_mem_take h)
      · rcases List.mem_cons.mp h with h | h
        · exact h ▸ wv
        · exact ws' z (List.mem_of_mem_drop h)
    have p0 := part_lo (ns := ns) (s := 3) (u := 1) (z := 3) (by decide)
    have p3 := part_hi (ns := ns) (s := 3) (u := 1) (z := 3) (by decide)
    have hB2 := s2 _ _ hB
    refine ⟨_, rfl, a, ns, 3, 1, 3, rfl, s2.seq hS, by decide, by omega, by decide, by decide, by decide, ?_⟩
    refine ⟨_, rfl, rfl, _, rfl, ite2 (fun e => ?_) (fun e => ?_)⟩
    · refine ⟨_, rfl, _, _, _, _, rfl, rfl, lstAt hB2, am0 0 rfl, _, rfl, _, _, _, _, rfl, rfl, lstAt hB2, am0 0 rfl, _, rfl, (show (3 : Nat) ≤ sizeLine by decide), fun m nm' => ?_⟩
      have s3 := same_upd (o := .lst [vN m0, vN m0, vN y]) nm'
      refine ⟨_, rfl, _, _, _, _, rfl, rfl, lstAt (s3 _ _ hB2), am0 0 rfl, (show (2 : Nat) ≤ sizeLine by decide), fun u nu => ⟨(show (2 : Nat) ≤ sizeLine by decide), fun t nt => ?_⟩⟩
      refine fin _ m [m0, m0, y] (.dbl m0) (s2.trans s3) upd_same (faultN_dbl (pre := [m0]) (post := [y]) rfl (fun z m => by rw [List.mem_singleton.mp m]; exact nm0) (List.nodup_cons.mpr ⟨nofun, List.nodup_nil⟩) (List.mem_singleton.mpr rfl) (show ((3 : Nat) : Int) ≤ 4 by decide)) (show (3 : Nat) ≤ 100 by decide) (fun z m => ?_) u nu t nt
      simp only [List.mem_cons, List.not_mem_nil, or_false] at m
      rcases m with h | h | h
      · exact h ▸ nm0.wok
      · exact h ▸ nm0.wok
      · exact h ▸ wy
    have e : ¬ partOf ns 3 1 3 = 2 := fun z => e (decide_eq_true (congrArg V.int z))
    have rp : ∀ n : Nat, (List.replicate n [vN y]).flatten = (List.replicate n y).map vN := fun n => by
      induction n with
      | zero => rfl
      | succ n ih => rw [List.replicate_succ, List.flatten_cons, ih, List.replicate_succ, List.map_cons]; rfl
    refine ⟨_, rfl, (show (1 : Nat) ≤ sizeLine by decide), fun q1 n1 => ?_⟩
    have s3 := s2.trans (same_upd (o := .lst [vN y]) n1)
    have e3 := upd_same (H := H2) (a := q1) (o := .lst [vN y])
    generalize upd H2 q1 (.lst [vN y]) = H3 at s3 e3 ⊢
    have lo : ∀ c : Int, c ≤ 1 → [vN y].length * c.toNat ≤ sizeLine := fun c h => Nat.le_of_lt (small1000 (by show 1 * c.toNat ≤ 1000; omega))
    refine ⟨_, rfl, _, _, rfl, rfl, q1, _, _, rfl, rfl, e3, by show -(2 ^ 63) ≤ 1 - partOf ns 3 1 3; omega, by show 1 - partOf ns 3 1 3 < 2 ^ 63; omega, lo _ (by show 1 - partOf ns 3 1 3 ≤ 1; omega), fun q2 n2 => ?_⟩
    rw [rp]
    have s4 := s3.trans (same_upd (o := .lst ((List.replicate (1 - partOf ns 3 1 3).toNat y).map vN)) n2)
    have e4 := upd_same (H := H3) (a := q2) (o := .lst ((List.replicate (1 - partOf ns 3 1 3).toNat y).map vN))
    generalize upd H3 q2 (.lst ((List.replicate (1 - partOf ns 3 1 3).toNat y).map vN)) = H4 at s4 e4 ⊢
    refine ⟨_, rfl, _, _, _, _, rfl, rfl, lstAt (s4 _ _ hB), am0 0 rfl, (show (1 : Nat) ≤ sizeLine by decide), fun q3 n3 => ?_⟩
    have s5' := same_upd (o := .lst [vN m0]) n3
    have s5 := s4.trans s5'
    have e5 := upd_same (H := H4) (a := q3) (o := .lst [vN m0])
    have e45 := s5' _ _ e4
    generalize upd H4 q3 (.lst [vN m0]) = H5 at s5 e5 e45 s5' ⊢
    obtain ⟨c, hc⟩ : ∃ c, c = partOf ns 3 1 3 := ⟨_, rfl⟩
    rw [← hc] at p0 p3 e e45 ⊢
    have rl : ∀ c : Int, c ≤ 1 → ((List.replicate c.toNat y).map vN).length ≤ 1 := fun c h => by rw [List.length_map, List.length_replicate]; omega
    refine ⟨q2, q3, _, _, rfl, rfl, e45, e5, Nat.le_of_lt (small1000 (by have := rl (1 - c) (by omega); show _ + 1 ≤ 1000; omega)), fun q4 n4 => ?_⟩
    have s6 := s5.trans (same_upd (o := .lst ((List.replicate (1 - c).toNat y).map vN ++ [vN m0])) n4)
    have e6 := upd_same (H := H5) (a := q4) (o := .lst ((List.replicate (1 - c).toNat y).map vN ++ [vN m0]))
    generalize upd H5 q4 (.lst ((List.replicate (1 - c).toNat y).map vN ++ [vN m0])) = H6 at s6 e6 ⊢
    refine ⟨_, rfl, (show (1 : Nat) ≤ sizeLine by decide), fun q5 n5 => ?_⟩
    have t7 := same_upd (o := .lst [vN y]) n5
    have e7 := upd_same (H := H6) (a := q5) (o := .lst [vN y])
    generalize upd H6 q5 (.lst [vN y]) = H7 at t7 e7 ⊢
    refine ⟨_, rfl, q5, _, _, rfl, rfl, e7, by omega, by omega, lo _ (by omega), fun q6 n6 => ?_⟩
    rw [rp]
    have t8 := t7.trans (same_upd (o := .lst ((List.replicate c.toNat y).map vN)) n6)
    have e8 := upd_same (H := H7) (a := q6) (o := .lst ((List.replicate c.toNat y).map vN))
    generalize upd H7 q6 (.lst ((List.replicate c.toNat y).map vN)) = H8 at t8 e8 ⊢
    refine ⟨q4, q6, _, _, rfl, rfl, t8 _ _ e6, e8, Nat.le_of_lt (small1000 (by have := rl (1 - c) (by omega); have := rl c (by omega); rw [List.length_append]; show _ + 1 + _ ≤ 1000; omega)), fun q7 n7 => ?_⟩
    have s9 := (s6.trans t8).trans (same_upd (o := .lst ((List.replicate (1 - c).toNat y).map vN ++ [vN m0] ++ (List.replicate c.toNat y).map vN)) n7)
    have e9 := upd_same (H := H8) (a := q7) (o := .lst ((List.replicate (1 - c).toNat y).map vN ++ [vN m0] ++ (List.replicate c.toNat y).map vN))
    generalize upd H8 q7 (.lst ((List.replicate (1 - c).toNat y).map vN ++ [vN m0] ++ (List.replicate c.toNat y).map vN)) = H9 at s9 e9 ⊢
    refine ⟨_, rfl, _, _, _, _, rfl, rfl, lstAt (s9 _ _ hB), am0 0 rfl, (show (1 : Nat) ≤ sizeLine by decide), fun q8 n8 => ?_⟩
    have t10 := same_upd (o := .lst [vN m0]) n8
    have e10 := upd_same (H := H9) (a := q8) (o := .lst [vN m0])
    have e90 := t10 _ _ e9
    have s10 := s9.trans t10
    generalize upd H9 q8 (.lst [vN m0]) = H10 at s10 e10 e90 ⊢
    refine ⟨q7, q8, _, _, rfl, rfl, e90, e10, Nat.le_of_lt (small1000 (by have := rl (1 - c) (by omega); have := rl c (by omega); rw [List.length_append, List.length_append]; show _ + 1 + _ + 1 ≤ 1000; omega)), fun m nm' => ?_⟩
    have sm := same_upd (o := .lst ((List.replicate (1 - c).toNat y).map vN ++ [vN m0] ++ (List.replicate c.toNat y).map vN ++ [vN m0])) nm'
    have em := upd_same (H := H10) (a := m) (o := .lst ((List.replicate (1 - c).toNat y).map vN ++ [vN m0] ++ (List.replicate c.toNat y).map vN ++ [vN m0]))
    generalize upd H10 m (.lst ((List.replicate (1 - c).toNat y).map vN ++ [vN m0] ++ (List.replicate c.toNat y).map vN ++ [vN m0])) = H11 at sm em ⊢
    refine ⟨_, rfl, (show (2 : Nat) ≤ sizeLine by decide), fun u nu => ⟨(show (2 : Nat) ≤ sizeLine by decide), fun t nt => ?_⟩⟩
    have wk3 : ∀ vs : List Nam, (∀ z ∈ vs, z = m0 ∨ z = y) → ∀ z ∈ vs, WOk z := fun vs h z m => by
      rcases h z m with h | h
      · exact h ▸ nm0.wok
      · exact h ▸ wy
    have hc01 : c = 0 ∨ c = 1 := by omega
    rcases hc01 with h | h
    · subst h
      exact fin _ m [y, m0, m0] (.bad y) (s10.trans sm) em (faultN_bad (pre := []) rfl nofun List.nodup_nil ny (show ((3 : Nat) : Int) ≤ 4 by decide)) (show (3 : Nat) ≤ 100 by decide) (wk3 _ fun z m => by simp only [List.mem_cons, List.not_mem_nil, or_false] at m; rcases m with h | h | h <;> simp [h]) u nu t nt
    · subst h
      exact fin _ m [m0, y, m0] (.bad y) (s10.trans sm) em (faultN_bad (pre := [m0]) rfl (fun z m => by rw [List.mem_singleton.mp m]; exact nm0) (List.nodup_cons.mpr ⟨nofun, List.nodup_nil⟩) ny (show ((3 : Nat) : Int) ≤ 4 by decide)) (show (3 : Nat) ≤ 100 by decide) (wk3 _ fun z m => by simp only [List.mem_cons, List.not_mem_nil, or_false] at m; rcases m with h | h | h <;> simp [h]) u nu t nt
end
end TK

/-! two books compared; how many pages -/
namespace TK
open PySem PySem.Spec PyProof.Rows L2
abbrev s_Book_eq : Stmt := inClass (topS 21) 3
theorem sc_Book_eq : FnScope ["self", "other"] ["self", "other"] (defScope s_Book_eq) := ⟨rfl, rfl, rfl, by decide +kernel, rfl, by decide +kernel, by decide +kernel⟩
abbrev s_Book_len : Stmt := inClass (topS 21) 1
theorem sc_Book_len : FnScope ["self"] ["self"] (defScope s_Book_len) := ⟨rfl, rfl, rfl, by decide +kernel, rfl, by decide +kernel, by decide +kernel⟩
theorem kit_self {K : PySem.W.Frag} {C : Addr} : PySem.W.kitOne K (.ref C) (.ref C) = some true := by
  unfold PySem.W.kitOne
  rw [if_pos (beq_self_eq_true _)]
theorem eqv_map {α : Type} [DecidableEq α] {f : α → PyData} (h : ∀ x y, PyData.eqv (f x) (f y) = decide (x = y)) : ∀ xs ys : List α, PyData.eqvAll (xs.map f) (ys.map f) = decide (xs = ys)
  | [], [] => by simp [PyData.eqvAll]
  | [], q :: qs => by simp [PyData.eqvAll]
  | o :: os, [] => by simp [PyData.eqvAll]
  | o :: os, q :: qs => by
    simp only [List.map_cons, PyData.eqvAll]
    rw [eqv_map h os qs, h]
    by_cases h1 : o = q <;> by_cases h2 : os = qs <;> simp [h1, h2]
theorem eqv_mapT {α : Type} [DecidableEq α] {f : α → PyData} (h : ∀ x y, PyData.eqv (f x) (f y) = decide (x = y)) (xs ys : List α) : PyData.eqv (.tuple (xs.map f)) (.tuple (ys.map f)) = decide (xs = ys) := by
  simp only [PyData.eqv]
  exact eqv_map h xs ys
def dN (z : Nam) : PyData := .str (sOf z)
def dB (d : BidD) : PyData := .tuple [.str (sOf d.1), .int d.2]
abbrev RowD := Nam × List BidD × List Nam
def dR (r : RowD) : PyData := .tuple [.str (sOf r.1), .tuple (r.2.1.map dB), .tuple (r.2.2.map dN)]
theorem eqv_str (x y : Nam) : (sOf x == sOf y) = decide (x = y) := by
  by_cases e : x = y
  · subst e; simp
  · rw [decide_eq_false e]
    cases e2 : (sOf x == sOf y) with
    | false => rfl
    | true => exact absurd (sOf_inj (eq_of_beq e2)) e
theorem eqv_dN (x y : Nam) : PyData.eqv (dN x) (dN y) = decide (x = y) := by
  simp only [dN, PyData.eqv]
  exact eqv_str x y
theorem eqv_dB (x y : BidD) : PyData.eqv (dB x) (dB y) = decide (x = y) := by
  obtain ⟨a, b⟩ := x
  obtain ⟨c, d⟩ := y
  simp only [dB, PyData.eqv, PyData.eqvAll, eqv_str, Bool.and_true, Prod.mk.injEq, Bool.decide_and]
  by_cases e : b = d <;> simp [e]
theorem eqv_dR (x y : RowD) : PyData.eqv (dR x) (dR y) = decide (x = y) := by
  obtain ⟨a, b, c⟩ := x
  obtain ⟨a', b', c'⟩ := y
  simp only [dR, PyData.eqv, PyData.eqvAll, eqv_str, eqv_map eqv_dB, eqv_map eqv_dN, Bool.and_true, Prod.mk.injEq, Bool.decide_and]
theorem lay_map {α : Type} {f : α → PyData} {n : Nat} : ∀ {xs : List α}, (∀ x ∈ xs, (f x).canLay0 = true ∧ (f x).depth ≤ n) → PyData.canLayAll0 (xs.map f) = true ∧ PyData.depthAll (xs.map f) ≤ n
  | [], _ => ⟨by simp [PyData.canLayAll0], by simp [PyData.depthAll]⟩
  | o :: os, h => by
    obtain ⟨h1, h2⟩ := lay_map (xs := os) fun t m => h t (List.mem_cons_of_mem _ m)
    obtain ⟨n1, n2⟩ := h o List.mem_cons_self
    refine ⟨?_, ?_⟩
    · simp only [List.map_cons, PyData.canLayAll0, Bool.and_eq_true]
      exact ⟨n1, h1⟩
    · simp only [List.map_cons, PyData.depthAll]
      omega
theorem lay_dN {z : Nam} (h : NmH z) : (dN z).canLay0 = true ∧ (dN z).depth ≤ 0 := by
  simp [dN, PyData.canLay0, PyData.depth, nmH_ok h]
theorem lay_dB {d : BidD} (h : NmH d.1) : (dB d).canLay0 = true ∧ (dB d).depth ≤ 1 := by
  simp [dB, PyData.canLay0, PyData.canLayAll0, PyData.depth, PyData.depthAll, nmH_ok h]
theorem lay_dR {r : RowD} (h : NmH r.1) (hb : ∀ d ∈ r.2.1, NmH d.1) (hf : ∀ z ∈ r.2.2, NmH z) : (dR r).canLay0 = true ∧ (dR r).depth ≤ 3 := by
  obtain ⟨b1, b2⟩ := lay_map (f := dB) fun d m => lay_dB (hb d m)
  obtain ⟨f1, f2⟩ := lay_map (f := dN) fun z m => lay_dN (hf z m)
  refine ⟨by simp [dR, PyData.canLay0, PyData.canLayAll0, nmH_ok h, b1, f1], ?_⟩
  simp only [dR, PyData.depth, PyData.depthAll]
  omega
theorem shaped_of {xs : List PyData} {n : Nat} (h : PyData.canLayAll0 xs = true ∧ PyData.depthAll xs ≤ n) (l : n ≤ 60) : SeqAt.shaped (.tuple xs) = true := by
  show ((PyData.tuple _).canLay0 && decide ((PyData.tuple _).depth ≤ 64)) = true
  rw [show (PyData.tuple xs).canLay0 = true by simp only [PyData.canLay0, h.1], show (PyData.tuple xs).depth = PyData.depthAll xs + 1 by simp only [PyData.depth]]
  exact decide_eq_true (by omega)
theorem dp_map {K : PySem.W.Frag} {H : Hp} {α : Type} {R : Hp → Addr → α → Prop} {f : α → PyData} (k : ∀ e d, R H e d → Dp K H (.ref e) (f d)) : ∀ {es : List Addr} {ds : List α}, AllAt R H es ds → DpAll K H (es.map V.ref) (ds.map f)
  | [], [], _ => .nil
  | [], o :: os, h => by cases h.1
  | t :: ts, [], h => by cases h.1
  | t :: ts, o :: os, h => by
    obtain ⟨o', h1, h2⟩ := h.2 0 t rfl
    cases Option.some.inj h1
    exact .cons (k _ _ h2) (dp_map k ⟨Nat.succ.inj h.1, fun i t' a => h.2 (i + 1) t' a⟩)
theorem dp_nmsN {K : PySem.W.Frag} {H : Hp} : ∀ (zs : List Nam), DpAll K H (zs.map vN) (zs.map dN)
  | [] => .nil
  | z :: zs => .cons (.str _) (dp_nmsN zs)
def keyR (zs : List Nam) (d : PgD) : RowD := (d.nm, sortB zs d.bids, d.fol)
theorem dp_row {K : PySem.W.Frag} {H : Hp} {zs : List Nam} {r : Addr} {d : PgD} (h : RowR zs H r d) : Dp K H (.ref r) (dR (keyR zs d)) := by
  obtain ⟨bt, ft, es, h1, h2, h3, h4⟩ := h
  exact .tup (tupAt h1) (.cons (.str _) (.cons (.tup (tupAt h2) (dp_map (f := dB) (R := fun H e (d : BidD) => H e = some (.tup [vN d.1, .int d.2])) (fun e d he => .tup (tupAt he) (.cons (.str _) (.cons (.int _) .nil))) h3)) (.cons (.tup (tupAt h4) (dp_nmsN _)) .nil)))
theorem sortB_mem {zs : List Nam} {ds : List BidD} {d : BidD} (h : d ∈ sortB zs ds) : d ∈ ds ∧ d.1 ∈ zs := by
  unfold sortB at h
  obtain ⟨z, mz, md⟩ := List.mem_flatMap.mp h
  obtain ⟨m, e⟩ := List.mem_filter.mp md
  rw [of_decide_eq_true e]
  exact ⟨m, mz⟩
/-- a book with right parts -/
structure BkX (C CP : Addr) (H : Hp) (p : Addr) (zs ss hs : List Nam) (ds : List PgD) : Prop where
  at_ : BkAt C CP H p zs ss hs ds
  z : ∀ z ∈ zs, Nm z
  ok : POk zs ds
  s : ∀ x ∈ ss, x ∈ ds.map (·.nm)
  h : ∀ x ∈ hs, x ∈ ds.map (·.nm)
theorem BkX.same {C CP : Addr} {H H' : Hp} {p : Addr} {zs ss hs : List Nam} {ds : List PgD} (b : BkX C CP H p zs ss hs ds) (t : Same H H') : BkX C CP H' p zs ss hs ds := ⟨b.at_.same t, b.z, b.ok, b.s, b.h⟩
theorem POk.tn {zs : List Nam} {ds : List PgD} (ok : POk zs ds) : ∀ x ∈ ds.map (·.nm), NmH x := fun x m => by
  obtain ⟨d, md, rfl⟩ := List.mem_map.mp m
  exact .inl (ok.nm d md)
theorem BkX.rows {C CP : Addr} {H : Hp} {p : Addr} {zs ss hs : List Nam} {ds : List PgD} (b : BkX C CP H p zs ss hs ds) : PyData.canLayAll0 ((ds.map (keyR zs)).map dR) = true ∧ PyData.depthAll ((ds.map (keyR zs)).map dR) ≤ 3 :=
  lay_map fun r m => by
    obtain ⟨d, md, rfl⟩ := List.mem_map.mp m
    exact lay_dR (.inl (b.ok.nm d md)) (fun x mx => .inl (b.z _ (sortB_mem mx).2)) fun x mx => b.ok.tn x (b.ok.fs d md x mx)
theorem fldsB_members (m n s h r g : Addr) : (fldsB m n s h r g).lookup ("members" : Str) = some (.ref m) := put_ne (put_ne (put_ne (put_ne (put_ne (put_same _ _ _) (by decide +kernel)) (by decide +kernel)) (by decide +kernel)) (by decide +kernel)) (by decide +kernel)
theorem fldsB_starts (m n s h r g : Addr) : (fldsB m n s h r g).lookup ("starts" : Str) = some (.ref s) := put_ne (put_ne (put_ne (put_same _ _ _) (by decide +kernel)) (by decide +kernel)) (by decide +kernel)
theorem fldsB_home (m n s h r g : Addr) : (fldsB m n s h r g).lookup ("home" : Str) = some (.ref h) := put_ne (put_ne (put_same _ _ _) (by decide +kernel)) (by decide +kernel)
theorem fldsB_rows (m n s h r g : Addr) : (fldsB m n s h r g).lookup ("_rows" : Str) = some (.ref r) := put_ne (put_same _ _ _) (by decide +kernel)
theorem ref_map {α : Type} {R : Hp → Addr → α → Prop} {β : Type} {g : α → β} {H : Hp} {es : List Addr} {ds : List α} (h : AllAt R H es ds) : AllAt (fun H e b => ∃ d, g d = b ∧ R H e d) H es (ds.map g) := ⟨by rw [List.length_map]; exact h.1, fun i e he => by
  obtain ⟨d, a, b⟩ := h.2 i e he
  exact ⟨g d, by rw [List.getElem?_map, a]; rfl, d, rfl, b⟩⟩
section
variable {P : Program} {w : World} {K : PySem.W.Frag} {mg : Str → Option Value} {base : Heap}
def spEqBk (K : PySem.W.Frag) (C CP : Addr) : Sp := fun vs H Q _ => ∃ (p : Addr) (y : V) (zs ss hs : List Nam) (ds : List PgD), vs = [.ref p, y] ∧ BkX C CP H p zs ss hs ds ∧
  ((∃ t, TyX K H y t ∧ PySem.W.kitOne K t (.ref C) = some false ∧ Q (.bl false) H) ∨
   (∃ (p' : Addr) (zs' ss' hs' : List Nam) (ds' : List PgD), y = .ref p' ∧ BkX C CP H p' zs' ss' hs' ds' ∧ Q (.bl (decide (zs = zs' ∧ ss = ss' ∧ hs = hs' ∧ ds.map (keyR zs) = ds'.map (keyR zs')))) H))
theorem ok_Book_eq {f C CP : Addr} {fd : FuncData} (F : Fun K "__eq__" "Book.__eq__" s_Book_eq f fd) (T : TxtBk K C) (m_isinstance : mg "isinstance" = none) (mg_Book : mg "Book" = some (.ref C))
    (ha : PySem.W.findIn K (.ref C) "__class__" = some (some (.builtin "object.__class__"))) (hn : PySem.W.specialIn K (.builtin "object.__class__") "__get__" = some (some (.builtin "getset_descriptor.__get__")))
    (htk : PySem.W.takesIn K (.builtin "object.__class__") = some true) (hm : PySem.W.mroIn K C (.type "object") = some true) : FnOk P w K mg base CX0 1 f fd ["self", "other"] (spEqBk K C CP) := by
  refine F.ok sc_Book_eq (fun vs H Q E h => ?_) (fun cdv A outer s H vs Q E hr h => ?_)
  · obtain ⟨p, y, zs, ss, hs, ds, rfl, _⟩ := h
    rfl
  · obtain ⟨p, y, zs, ss, hs, ds, rfl, bx, h⟩ := h
    obtain ⟨dx, m, n, s0, h0, r, g, o, rs, qs, hp, hM, hN, oc, od, hS, hH, hR, hRs, _⟩ := bx.at_
    refine ⟨_, (pss_one (ps_ret (pe_and (pe_callB call_isi (by rfl) m_isinstance (by decide +kernel) (pa_cons (pv 1) (pa_cons (pe_glob (v := .ref C) (u := .ref C) (by rfl) mg_Book rfl) pa_nil))) (pe_and (pe_cmpR (op_eqD hr.units) (pe_fld (pv 0) rfl) (pe_fld (pv 1) rfl) (nomark _)) (pe_and (pe_cmpR (op_eqD hr.units) (pe_fld (pv 0) rfl) (pe_fld (pv 1) rfl) (nomark _)) (pe_and (pe_cmpR (op_eqD hr.units) (pe_fld (pv 0) rfl) (pe_fld (pv 1) rfl) (nomark _)) (pe_one (pe_cmpR (op_eqD hr.units) (pe_fld (pv 0) rfl) (pe_fld (pv 1) rfl) (nomark _))))))))), ?_⟩
    rcases h with ⟨t, ty, kt, q⟩ | ⟨p', zs', ss', hs', ds', rfl, bx', q⟩
    · refine ⟨_, rfl, _, _, _, _, false, rfl, .own C, ty, kt, _, rfl, iteF ?_⟩
      exact q
    · obtain ⟨dx', m', n', s0', h0', r', g', o', rs', qs', hp', hM', hN', oc', od', hS', hH', hR', hRs', _⟩ := bx'.at_
      refine ⟨_, rfl, _, _, _, _, true, rfl, .own C, .base (.ins hp' T.cl ha hn htk hm), kit_self, _, rfl, iteT ?_⟩
      refine ⟨_, rfl, p, C, dx, _, _, rfl, hp, T.cl, T.n1, fldsB_members _ _ _ _ _ _, _, rfl, p', C, dx', _, _, rfl, hp', T.cl, T.n1, fldsB_members _ _ _ _ _ _, .tuple _, .tuple _, .tup (tupAt hM) (dp_nmsN zs), .tup (tupAt hM') (dp_nmsN zs'), shaped_of (lay_map fun z m => lay_dN (.inl (bx.z z m))) (by decide), shaped_of (lay_map fun z m => lay_dN (.inl (bx'.z z m))) (by decide), _, rfl, ?_⟩
      rw [eqv_mapT eqv_dN]
      by_cases e1 : ¬ zs = zs'
      · rw [decide_eq_false e1]; rw [decide_eq_false (fun z => e1 z.1)] at q; exact iteF q
      have e1 := Decidable.not_not.mp e1
      rw [decide_eq_true e1]
      refine iteT ⟨_, rfl, p, C, dx, _, _, rfl, hp, T.cl, T.n3, fldsB_starts _ _ _ _ _ _, _, rfl, p', C, dx', _, _, rfl, hp', T.cl, T.n3, fldsB_starts _ _ _ _ _ _, .tuple _, .tuple _, .tup (tupAt hS) (dp_nmsN ss), .tup (tupAt hS') (dp_nmsN ss'), shaped_of (lay_map fun z m => lay_dN (bx.ok.tn z (bx.s z m))) (by decide), shaped_of (lay_map fun z m => lay_dN (bx'.ok.tn z (bx'.s z m))) (by decide), _, rfl, ?_⟩
      rw [eqv_mapT eqv_dN]
      by_cases e2 : ¬ ss = ss'
      · rw [decide_eq_false e2]; rw [decide_eq_false (fun z => e2 z.2.1)] at q; exact iteF q
      have e2 := Decidable.not_not.mp e2
      rw [decide_eq_true e2]
      refine iteT ⟨_, rfl, p, C, dx, _, _, rfl, hp, T.cl, T.n4, fldsB_home _ _ _ _ _ _, _, rfl, p', C, dx', _, _, rfl, hp', T.cl, T.n4, fldsB_home _ _ _ _ _ _, .tuple _, .tuple _, .tup (tupAt hH) (dp_nmsN hs), .tup (tupAt hH') (dp_nmsN hs'), shaped_of (lay_map fun z m => lay_dN (bx.ok.tn z (bx.h z m))) (by decide), shaped_of (lay_map fun z m => lay_dN (bx'.ok.tn z (bx'.h z m))) (by decide), _, rfl, ?_⟩
      rw [eqv_mapT eqv_dN]
      by_cases e3 : ¬ hs = hs'
      · rw [decide_eq_false e3]; rw [decide_eq_false (fun z => e3 z.2.2.1)] at q; exact iteF q
      have e3 := Decidable.not_not.mp e3
      rw [decide_eq_true e3]
      have D1 : DpAll K H (rs.map V.ref) ((ds.map (keyR zs)).map dR) := dp_map (R := fun H e b => ∃ d, keyR zs d = b ∧ RowR zs H e d) (fun e b ⟨d, e1, k⟩ => e1 ▸ dp_row k) (ref_map hRs)
      have D2 : DpAll K H (rs'.map V.ref) ((ds'.map (keyR zs')).map dR) := dp_map (R := fun H e b => ∃ d, keyR zs' d = b ∧ RowR zs' H e d) (fun e b ⟨d, e1, k⟩ => e1 ▸ dp_row k) (ref_map hRs')
      refine iteT ⟨_, rfl, p, C, dx, _, _, rfl, hp, T.cl, T.n5, fldsB_rows _ _ _ _ _ _, _, rfl, p', C, dx', _, _, rfl, hp', T.cl, T.n5, fldsB_rows _ _ _ _ _ _, .tuple _, .tuple _, .tup (tupAt hR) D1, .tup (tupAt hR') D2, shaped_of bx.rows (by decide), shaped_of bx'.rows (by decide), ?_⟩
      rw [eqv_mapT eqv_dR]
      by_cases e4 : ds.map (keyR zs) = ds'.map (keyR zs')
      · rw [decide_eq_true e4]; rw [decide_eq_true ⟨e1, e2, e3, e4⟩] at q; exact q
      · rw [decide_eq_false e4]; rw [decide_eq_false (fun z => e4 z.2.2.2)] at q; exact q
def spLenBk (C CP : Addr) : Sp := fun vs H Q _ => ∃ (p : Addr) (zs ss hs : List Nam) (ds : List PgD), vs = [.ref p] ∧ BkAt C CP H p zs ss hs ds ∧ Q (.int ds.length) H
theorem ok_Book_len {f C CP : Addr} {fd : FuncData} (F : Fun K "__len__" "Book.__len__" s_Book_len f fd) (T : TxtBk K C) (m_len : mg "len" = none) : FnOk P w K mg base CX0 1 f fd ["self"] (spLenBk C CP) := by
  refine F.ok sc_Book_len (fun vs H Q E h => ?_) (fun cdv A outer s H vs Q E hr h => ?_)
  · obtain ⟨p, zs, ss, hs, ds, rfl, _⟩ := h
    rfl
  · obtain ⟨p, zs, ss, hs, ds, rfl, ⟨dx, m, n, s0, h0, r, g, o, rs, qs, hp, hm, hn, oc, od, hs', hh, hr', hR, hg, hQ⟩, q⟩ := h
    refine ⟨_, (pss_one (ps_ret (pe_callB call_len_seq (by rfl) m_len (by decide +kernel) (pa_cons (pe_fld (pv 0) rfl) pa_nil)))), ?_⟩
    refine ⟨_, rfl, p, C, dx, _, _, rfl, hp, T.cl, T.n6, fldsB_pages _ _ _ _ _ _, _, _, rfl, .inr (tupAt hg), ?_⟩
    rw [List.length_map, hQ.1]
    exact q
end
end TK

/-! names that are no picks -/
namespace TK
open PySem PySem.Spec PyProof.Rows L2
theorem wok_str {x : Nam} (h : WOk x) : PyData.strOk (sOf x) = true := by
  show (sOf x).cps.all (· < 0x110000) = true
  rw [← Array.all_toList, sOf_codes, List.all_eq_true]
  intro c hc
  have := h.2 c hc
  exact decide_eq_true (by omega)
theorem canLay_strsW : ∀ zs : List Nam, (∀ z ∈ zs, WOk z) → PyData.canLayAll0 ((zs.map sOf).map PyData.str) = true
  | [], _ => rfl
  | z :: r, h => by
    have h1 := canLay_strsW r fun z m => h z (List.mem_cons_of_mem _ m)
    show PyData.canLayAll0 (PyData.str (sOf z) :: _) = true
    simp only [PyData.canLayAll0, PyData.canLay0, wok_str (h z (List.mem_cons_self ..)), Bool.true_and]
    exact h1
theorem shaped_strsW {zs : List Nam} (h : ∀ z ∈ zs, WOk z) : SeqAt.shaped (.list ((zs.map sOf).map PyData.str)) = true := by
  simp only [SeqAt.shaped, PyData.canLay0, PyData.depth, canLay_strsW zs h, depth_strs]; rfl
theorem eqv_nilN (xs : List Nam) : PyData.eqv (.list ((xs.map sOf).map PyData.str)) (.list ((([] : List Nam).map sOf).map PyData.str)) = decide (xs = []) := by
  cases xs with
  | nil => rfl
  | cons z zs => rfl
theorem dbl_nd {α : Type} {a b : List α} {x : α} (h : x ∈ a) : ¬ (a ++ x :: b).Nodup := fun n => (List.nodup_append.mp n).2.2 x h x (List.mem_cons_self ..) rfl
theorem picks_dbl {a b ks : List Nam} {x : Nam} (h : x ∈ a) : picksB (a ++ x :: b) ks = false := picksB_no fun z => dbl_nd h z.2
theorem picks_str {a b ks : List Nam} {x : Nam} (h : x ∉ ks) : picksB (a ++ x :: b) ks = false := picksB_no fun z => h (z.1 x (List.mem_append.mpr (.inr (List.mem_cons_self ..))))
theorem mid_all {α : Type} {p : α → Prop} {xs : List α} {x : α} {n m : Nat} (h : ∀ z ∈ xs, p z) (hx : p x) : ∀ z ∈ xs.take n ++ x :: xs.drop m, p z := fun z k => by
  rcases List.mem_append.mp k with k | k
  · exact h z (List.mem_of_mem_take k)
  · rcases List.mem_cons.mp k with k | k
    · exact k ▸ hx
    · exact h z (List.mem_of_mem_drop k)
theorem mod_nat {a : Int} {n : Nat} (h : 0 < n) : ∃ k : Nat, a % (n : Int) = (k : Int) ∧ k < n := ⟨(a % (n : Int)).toNat, by have := Int.emod_nonneg a (show (n : Int) ≠ 0 by omega); omega, by have := Int.emod_nonneg a (show (n : Int) ≠ 0 by omega); have := Int.emod_lt_of_pos a (show (0 : Int) < (n : Int) by omega); omega⟩
theorem mod_to {a : Int} {k n : Nat} (h : k < n) : ∃ j : Nat, (k : Int) + 1 + a % ((n : Int) - k) = (j : Int) ∧ k < j ∧ j ≤ n := by
  have h0 := Int.emod_nonneg a (show (n : Int) - k ≠ 0 by omega)
  have h1 := Int.emod_lt_of_pos a (show (0 : Int) < (n : Int) - k by omega)
  exact ⟨((k : Int) + 1 + a % ((n : Int) - k)).toNat, by omega, by omega, by omega⟩
section
variable {P : Program} {w : World} {K : PySem.W.Frag} {mg : Str → Option Value} {base : Heap}
def spWrongN (K : PySem.W.Frag) : Sp := fun vs H Q _ => ∃ (a c r : Addr) (ns : List Int) (s : Int) (ks xs : List Nam), vs = [.ref a, .int s, .ref c, .ref r] ∧ SqL K H a (ns.map V.int) ∧ 0 ≤ s ∧ s + 3 < ns.length ∧ H c = some (.lst (ks.map vN)) ∧ 1 ≤ ks.length ∧ ks.length ≤ 25 ∧ (∀ z ∈ ks, Nm z) ∧ H r = some (.lst (xs.map vN)) ∧ xs.length ≤ 20 ∧ (∀ z ∈ xs, WOk z) ∧
  ∀ (H' : Hp) (D : Addr) (ys : List Nam), H D = none → Same H H' → H' D = some (.lst (ys.map vN)) → picksB ys ks = false → ys.length ≤ xs.length + 2 → (∀ z ∈ ys, WOk z) → Q (.ref D) H'
theorem ok_L_wrong_names {f : Addr} {fd : FuncData} (F : Fun K "_law_wrong_names" "_law_wrong_names" s_L_wrong_names f fd) (m_len : mg "len" = none) (d_L_part : Def P w K mg base "_law_part" 1 ["_law_pool_here", "_law_spot", "_law_under", "_law_size"] (spPart K))
    (d_L_stranger : Def P w K mg base "_law_stranger" 3 ["_law_pool_here", "_law_spot", "_law_names_here"] (spStrgr K)) : FnOk P w K mg base CX0 4 f fd ["_law_pool_here", "_law_spot", "_law_known", "_law_row"] (spWrongN K) := by
  refine F.ok sc_L_wrong_names (fun vs H Q E h => ?_) (fun cdv A outer s H vs Q E hr h => ?_)
  · obtain ⟨a, c, r, ns, s, ks, xs, rfl, _⟩ := h
    rfl
  · obtain ⟨a, c, r, ns, sp, ks, xs, rfl, hS, s0, s3, hC, k1, k25, nm, hR, x20, wk, q⟩ := h
    have xl : (((xs.map vN).length : Nat) : Int) = (xs.length : Int) := by rw [List.length_map]
    have kl : (((ks.map vN).length : Nat) : Int) = (ks.length : Int) := by rw [List.length_map]
    refine ⟨_, (pss_cons (ps_set (i := 4) sc_L_wrong_names.nd rfl (.inl rfl) (pe_callD d_L_part (hr.mono (by decide)) (by rfl) (pa_cons (pv 0) (pa_cons (pv 1) (pa_cons pe_int (pa_cons pe_int pa_nil))))))
  (pss_cons (ps_if (pt_cmpR op_eq (pe_callD d_L_part (hr.mono (by decide)) (by rfl) (pa_cons (pv 0) (pa_cons (pv 1) (pa_cons pe_int (pa_cons pe_int pa_nil))))) pe_int (nomark _)) (pss_cons (ps_set (i := 4) sc_L_wrong_names.nd rfl (.inl rfl) (pe_op op_mod (pv 4) (pe_op op_add (pe_callB call_len_seq (by rfl) m_len (by decide +kernel) (pa_cons (pv 3) pa_nil)) pe_int)))
  (pss_one (ps_ret (pe_op op_cat (pe_op op_cat (pe_slice sl_list (pv 3) po_none (po_some (pv 4))) (pe_lst (pa_cons (pe_callD d_L_stranger (hr.mono (by decide)) (by rfl) (pa_cons (pv 0) (pa_cons (pe_op op_add (pv 1) pe_int) (pa_cons (pv 2) pa_nil)))) pa_nil))) (pe_slice sl_list (pv 3) (po_some (pv 4)) po_none))))) pss_nil)
  (pss_cons (ps_cut (ps_if (pt_cmpR (op_eqD hr.units) (pv 3) (pe_lst pa_nil) (nomark _)) (pss_one (ps_set (i := 3) sc_L_wrong_names.nd rfl (.inl rfl) (pe_lst (pa_cons (pe_ix ix_list (pv 2) (pe_op op_mod (pe_callD d_L_part (hr.mono (by decide)) (by rfl) (pa_cons (pv 0) (pa_cons (pv 1) (pa_cons pe_int (pa_cons pe_int pa_nil))))) (pe_callB call_len_seq (by rfl) m_len (by decide +kernel) (pa_cons (pv 2) pa_nil))) (fun _ _ => rfl)) pa_nil)))) pss_nil))
  (pss_cons (ps_set (i := 4) sc_L_wrong_names.nd rfl (.inl rfl) (pe_op op_mod (pv 4) (pe_callB call_len_seq (by rfl) m_len (by decide +kernel) (pa_cons (pv 3) pa_nil))))
  (pss_cons (ps_set (i := 5) sc_L_wrong_names.nd rfl (.inl rfl) (pe_op op_add (pe_op op_add (pv 4) pe_int) (pe_op op_mod (pe_callD d_L_part (hr.mono (by decide)) (by rfl) (pa_cons (pv 0) (pa_cons (pv 1) (pa_cons pe_int (pa_cons pe_int pa_nil))))) (pe_op op_sub (pe_callB call_len_seq (by rfl) m_len (by decide +kernel) (pa_cons (pv 3) pa_nil)) (pv 4)))))
  (pss_one (ps_ret (pe_op op_cat (pe_op op_cat (pe_slice sl_list (pv 3) po_none (po_some (pv 5))) (pe_lst (pa_cons (pe_ix ix_list (pv 3) (pv 4) (fun _ _ => rfl)) pa_nil))) (pe_slice sl_list (pv 3) (po_some (pv 5)) po_none))))))))), ?_⟩
    refine ⟨_, rfl, _, rfl, a, ns, sp, 1, 12, rfl, hS, s0, by omega, by decide, by decide, by decide, ?_⟩
    refine ⟨_, rfl, _, rfl, a, ns, sp, 12, 2, rfl, hS, s0, by omega, by decide, by decide, by decide, rfl, _, rfl, ite2 (fun e => ?_) (fun e => ?_)⟩
    · obtain ⟨n, hn, nl⟩ := mod_nat (a := partOf ns sp 1 12) (n := xs.length + 1) (by omega)
      refine ⟨_, rfl, _, rfl, r, _, rfl, .inl (lstAt hR), _, _, rfl, rfl, _, _, rfl, rfl, by rw [xl]; omega, ?_⟩
      rw [xl, show (fun i j => V.int (i % j)) (partOf ns sp 1 12) ((xs.length : Int) + 1) = V.int (n : Int) from congrArg V.int hn]
      refine mid_go (R := fun e _ => ∃ y : Nam, e = vN y ∧ y ∉ ks ∧ WOk y) rfl hR (by rw [List.length_map]; omega) (fun H1 Q1 _ q1 => ⟨_, rfl, q1⟩) (fun H1 Q1 _ q1 => ⟨_, rfl, q1⟩) (fun e _ _ h _ => h) (fun H1 Q1 s q1 => ⟨_, rfl, _, rfl, _, _, rfl, rfl, _, rfl, a, c, ns, sp + 1, ks, rfl, s.seq hS, lstAt (s _ _ hC), by omega, by omega, k1, k25, nm, fun y hy ly ay => q1 _ _ (Same.refl _) ⟨y, rfl, hy, ly, ay⟩⟩) fun H' p e np s he ep => ?_
      obtain ⟨y, rfl, hy, wy⟩ := he
      exact q H' p (xs.take n ++ y :: xs.drop n) np s (by rw [ep, List.map_append, List.map_cons, List.map_take, List.map_drop]) (picks_str hy) (by rw [List.length_append, List.length_cons, List.length_take, List.length_drop]; omega) (mid_all wk wy)
    · refine ⟨(fun σ' H' => ∃ (r' : Addr) (us : List Nam), σ' = [some (.ref a), some (.int sp), some (.ref c), some (.ref r'), some (.int (partOf ns sp 1 12)), none] ∧ Same H H' ∧ H' r' = some (.lst (us.map vN)) ∧ 1 ≤ us.length ∧ us.length ≤ xs.length + 1 ∧ ∀ z ∈ us, WOk z), ?_, ?_⟩
      · refine ⟨_, rfl, Nat.zero_le _, fun n0 nn0 => ?_⟩
        have sn := same_upd (o := .lst []) nn0
        have en0 := upd_same (H := H) (a := n0) (o := .lst [])
        generalize upd H n0 (.lst []) = Hn at sn en0 ⊢
        refine ⟨_, _, dp_nms (lstAt (sn _ _ hR)), dp_nms (zs := []) (lstAt en0), shaped_strsW wk, shaped_strs nofun, _, rfl, ?_⟩
        rw [eqv_nilN]
        by_cases hx : xs = []
        · rw [decide_eq_true hx]
          obtain ⟨x, _, mx, ax⟩ := nm_getC (zs := ks) (i := partOf ns sp 24 12 % (ks.length : Int)) (Int.emod_nonneg _ (by omega)) (Int.emod_lt_of_pos _ (by omega))
          refine iteT ⟨_, rfl, _, rfl, _, rfl, a, ns, sp, 24, 12, rfl, sn.seq hS, s0, by omega, by decide, by decide, by decide, _, rfl, c, _, rfl, .inl (lstAt (sn _ _ hC)), _, _, rfl, rfl, by rw [kl]; omega, ?_⟩
          refine ⟨_, _, _, _, rfl, rfl, lstAt (sn _ _ hC), by rw [kl]; exact ax, (show (1 : Nat) ≤ sizeLine by decide), fun D nD => ?_⟩
          exact ⟨D, [x], rfl, sn.trans (same_upd nD), upd_same, Nat.le_refl 1, (show 1 ≤ xs.length + 1 by omega), fun z m => by rw [List.mem_singleton.mp m]; exact (nm x mx).wok⟩
        · rw [decide_eq_false hx]
          exact iteF ⟨r, xs, rfl, sn, sn _ _ hR, by cases xs with
            | nil => exact absurd rfl hx
            | cons z t => simp, by omega, wk⟩
      rintro σ' H1 ⟨r', us, rfl, s1, hr1, u1, ul, uk⟩
      have ull : (((us.map vN).length : Nat) : Int) = (us.length : Int) := by rw [List.length_map]
      obtain ⟨k, hk, kl'⟩ := mod_nat (a := partOf ns sp 1 12) (n := us.length) (by omega)
      obtain ⟨j, hj, j0, j1⟩ := mod_to (a := partOf ns sp 288 12) kl'
      obtain ⟨x, ex⟩ : ∃ x, us[k]? = some x := ⟨_, List.getElem?_eq_getElem kl'⟩
      have ax : atI (us.map vN) (k : Int) = some (vN x) := atI_nat (by rw [List.getElem?_map, ex]; rfl)
      refine ⟨_, rfl, _, rfl, r', _, rfl, .inl (lstAt hr1), _, _, rfl, rfl, by rw [ull]; omega, ?_⟩
      rw [ull, show (fun i j => V.int (i % j)) (partOf ns sp 1 12) (us.length : Int) = V.int (k : Int) from congrArg V.int hk]
      refine ⟨_, rfl, _, _, rfl, rfl, _, rfl, _, rfl, a, ns, sp, 288, 12, rfl, s1.seq hS, s0, by omega, by decide, by decide, by decide, _, rfl, r', _, rfl, .inl (lstAt hr1), _, rfl, _, _, rfl, rfl, _, _, rfl, rfl, by rw [ull]; show (0 : Int) < (us.length : Int) - k; omega, _, _, rfl, rfl, ?_⟩
      rw [ull, show (fun i j => V.int (i + j)) ((k : Int) + 1) (partOf ns sp 288 12 % ((us.length : Int) - k)) = V.int (j : Int) from congrArg V.int hj]
      refine mid_go (R := fun e _ => e = vN x) rfl hr1 (by rw [List.length_map]; omega) (fun H1 Q1 _ q1 => ⟨_, rfl, q1⟩) (fun H1 Q1 _ q1 => ⟨_, rfl, q1⟩) (fun e _ _ h _ => h) (fun H1 Q1 s q1 => ⟨_, rfl, _, rfl, _, _, _, _, rfl, rfl, lstAt (s _ _ hr1), ax, q1 _ _ (Same.refl _) rfl⟩) fun H' p e np s he ep => ?_
      subst he
      exact q H' p (us.take j ++ x :: us.drop j) (none_of s1 np) (s1.trans s) (by rw [ep, List.map_append, List.map_cons, List.map_take, List.map_drop]) (picks_dbl (List.mem_of_getElem? (i := k) (by rw [List.getElem?_take_of_lt j0]; exact ex))) (by rw [List.length_append, List.length_cons, List.length_take, List.length_drop]; omega) (mid_all uk (uk x (List.mem_of_getElem? ex)))
end
end TK

/-! a large number -/
namespace TK
open PySem PySem.Spec PyProof.Rows L2
section
variable {P : Program} {w : World} {K : PySem.W.Frag} {mg : Str → Option Value} {base : Heap}
def spBig (K : PySem.W.Frag) : Sp := fun vs H Q _ => ∃ (a : Addr) (ns : List Int) (s l c : Int), vs = [.ref a, .int s, .int l, .int c] ∧ SqL K H a (ns.map V.int) ∧ 0 ≤ s ∧ s + 3 ≤ ns.length ∧ l ≤ c ∧ ∀ r : Int, l ≤ r → r ≤ c → Q (.int r) H
theorem ok_L_big {f : Addr} {fd : FuncData} (F : Fun K "_law_big" "_law_big" s_L_big f fd) (m_int : mg "int" = none) : FnOk P w K mg base CX0 1 f fd ["_law_pool_here", "_law_spot", "_law_least", "_law_crest"] (spBig K) := by
  refine F.ok sc_L_big (fun vs H Q E h => ?_) (fun cdv A outer s H vs Q E hr h => ?_)
  · obtain ⟨a, ns, s, l, c, rfl, _⟩ := h
    rfl
  · obtain ⟨a, ns, s, l, c, rfl, hS, h0, h1, lc, q⟩ := h
    refine ⟨_, (pss_cons (ps_set (i := 4) sc_L_big.nd rfl (.inl rfl) (pe_op op_add (pe_op op_add (pe_op op_mul (pe_op op_mod (pe_callTy call_int1 (by rfl) m_int (by decide +kernel) (pa_cons (pe_ix ix_list (pv 0) (pv 1) (fun _ _ => rfl)) pa_nil)) pe_int) pe_int) (pe_op op_mul (pe_op op_mod (pe_callTy call_int1 (by rfl) m_int (by decide +kernel) (pa_cons (pe_ix ix_list (pv 0) (pe_op op_add (pv 1) pe_int) (fun _ _ => rfl)) pa_nil)) pe_int) pe_int)) (pe_op op_mod (pe_callTy call_int1 (by rfl) m_int (by decide +kernel) (pa_cons (pe_ix ix_list (pv 0) (pe_op op_add (pv 1) pe_int) (fun _ _ => rfl)) pa_nil)) pe_int)))
  (pss_one (ps_ret (pe_op op_add (pv 2) (pe_op op_mod (pe_callTy call_int1 (by rfl) m_int (by decide +kernel) (pa_cons (pv 4) pa_nil)) (pe_op op_add (pe_op op_sub (pv 3) (pv 2)) pe_int)))))), ?_⟩
    refine ⟨_, rfl, _, rfl, _, _, _, _, rfl, rfl, hS, get_int (by omega) (by omega), .inl ⟨_, rfl, _, _, rfl, rfl, pz, _, _, rfl, rfl, .inr ⟨by decide, by decide⟩, ?_⟩⟩
    refine ⟨_, rfl, _, rfl, _, _, rfl, rfl, _, _, _, _, rfl, rfl, hS, get_int (by omega) (by omega), .inl ⟨_, rfl, _, _, rfl, rfl, pz, _, _, rfl, rfl, .inr ⟨by decide, by decide⟩, _, _, rfl, rfl, ?_⟩⟩
    refine ⟨_, rfl, _, rfl, _, _, rfl, rfl, _, _, _, _, rfl, rfl, hS, get_int (by omega) (by omega), .inl ⟨_, rfl, _, _, rfl, rfl, pz, _, _, rfl, rfl, ?_⟩⟩
    refine ⟨_, rfl, _, rfl, .inl ⟨_, rfl, _, rfl, _, rfl, _, _, rfl, rfl, _, _, rfl, rfl, _, _, rfl, rfl, (show (0 : Int) < c - l + 1 by omega), _, _, rfl, rfl, ?_⟩⟩
    generalize ns.getD s.toNat 0 % 5040 * 25401600 + ns.getD (s + 1).toNat 0 % 5040 * 5040 + ns.getD (s + 2).toNat 0 % 5040 = x
    have h2 := Int.emod_nonneg x (show c - l + 1 ≠ 0 by omega)
    have h3 := Int.emod_lt_of_pos x (show 0 < c - l + 1 by omega)
    exact q _ (by show l ≤ l + x % (c - l + 1); omega) (by show l + x % (c - l + 1) ≤ c; omega)
/-! _law_lifts -/
end
end TK

/-! bids that are wrong -/
namespace TK
open PySem PySem.Spec PyProof.Rows L2
theorem lay_dBW {d : BidD} (h : WOk d.1) : (dB d).canLay0 = true ∧ (dB d).depth ≤ 1 := by
  simp [dB, PyData.canLay0, PyData.canLayAll0, PyData.depth, PyData.depthAll, wok_str h]
theorem BidsAt.takeN {H : Hp} {es : List Addr} {ds : List BidD} (h : BidsAt H es ds) (n : Nat) : BidsAt H (es.take n) (ds.take n) := by
  refine ⟨by rw [List.length_take, List.length_take, h.1], fun i e he => ?_⟩
  have hi := (List.getElem?_eq_some_iff.mp he).1
  rw [List.length_take] at hi
  rw [List.getElem?_take_of_lt (by omega)] at he
  obtain ⟨d, a, b⟩ := h.2 i e he
  exact ⟨d, by rw [List.getElem?_take_of_lt (by omega)]; exact a, b⟩
theorem BidsAt.dropN {H : Hp} {es : List Addr} {ds : List BidD} (h : BidsAt H es ds) (n : Nat) : BidsAt H (es.drop n) (ds.drop n) := by
  refine ⟨by rw [List.length_drop, List.length_drop, h.1], fun i e he => ?_⟩
  rw [List.getElem?_drop] at he
  obtain ⟨d, a, b⟩ := h.2 _ e he
  exact ⟨d, by rw [List.getElem?_drop]; exact a, b⟩
theorem BidsAt.mid {H : Hp} {es : List Addr} {ds : List BidD} {n m : Nat} {e : Addr} {d : BidD} (h : BidsAt H es ds) (he : H e = some (.tup [vN d.1, .int d.2])) : BidsAt H (es.take n ++ e :: es.drop m) (ds.take n ++ d :: ds.drop m) :=
  (h.takeN n).app (bids_co he (h.dropN m))
theorem bids_dblB {ks : List Nam} {a b : List BidD} {x : Nam} {v : Int} {d : BidD} (m : d ∈ a) (e : d.1 = x) : bidsB ks (a ++ (x, v) :: b) = false := bidsB_no fun z => dbl_nd (a := a.map (·.1)) (b := b.map (·.1)) (x := x) (List.mem_map.mpr ⟨d, m, e⟩) (by have := z.nd; rw [List.map_append, List.map_cons] at this; exact this)
theorem bids_strB {ks : List Nam} {a b : List BidD} {d : BidD} (h : d.1 ∉ ks) : bidsB ks (a ++ d :: b) = false := bidsB_no fun z => h (z.sub _ (List.mem_map.mpr ⟨d, List.mem_append.mpr (.inr (List.mem_cons_self ..)), rfl⟩))
theorem bids_loB {ks : List Nam} {a b : List BidD} {d : BidD} (h : d.2 < 0 ∨ 1000000000 < d.2) : bidsB ks (a ++ d :: b) = false := bidsB_no fun z => by
  have m : d ∈ a ++ d :: b := List.mem_append.mpr (.inr (List.mem_cons_self ..))
  have := z.h0 d m
  have := z.h9 d m
  omega
section
variable {P : Program} {w : World} {K : PySem.W.Frag} {mg : Str → Option Value} {base : Heap}
def spWrongB (K : PySem.W.Frag) : Sp := fun vs H Q _ => ∃ (a c r : Addr) (ns : List Int) (s : Int) (ks : List Nam) (es : List Addr) (ds : List BidD), vs = [.ref a, .int s, .ref c, .ref r] ∧ SqL K H a (ns.map V.int) ∧ 0 ≤ s ∧ s + 4 ≤ ns.length ∧ H c = some (.lst (ks.map vN)) ∧ 1 ≤ ks.length ∧ ks.length ≤ 25 ∧ (∀ z ∈ ks, Nm z) ∧ H r = some (.lst (es.map V.ref)) ∧ BidsAt H es ds ∧ ds.length ≤ 20 ∧ (∀ d ∈ ds, WOk d.1) ∧
  ∀ (H' : Hp) (D : Addr) (fs : List Addr) (us : List BidD), H D = none → Same H H' → H' D = some (.lst (fs.map V.ref)) → BidsAt H' fs us → bidsB ks us = false → us.length ≤ ds.length + 2 → (∀ d ∈ us, WOk d.1) → Q (.ref D) H'
theorem ok_L_wrong_bids {f : Addr} {fd : FuncData} (F : Fun K "_law_wrong_bids" "_law_wrong_bids" s_L_wrong_bids f fd) (m_len : mg "len" = none) (d_L_part : Def P w K mg base "_law_part" 1 ["_law_pool_here", "_law_spot", "_law_under", "_law_size"] (spPart K))
    (d_L_stranger : Def P w K mg base "_law_stranger" 3 ["_law_pool_here", "_law_spot", "_law_names_here"] (spStrgr K)) (d_L_big : Def P w K mg base "_law_big" 1 ["_law_pool_here", "_law_spot", "_law_least", "_law_crest"] (spBig K)) : FnOk P w K mg base CX0 4 f fd ["_law_pool_here", "_law_spot", "_law_members", "_law_bids"] (spWrongB K) := by
  refine F.ok sc_L_wrong_bids (fun vs H Q E h => ?_) (fun cdv A outer s H vs Q E hr h => ?_)
  · obtain ⟨a, c, r, ns, s, ks, es, ds, rfl, _⟩ := h
    rfl
  · obtain ⟨a, c, r, ns, sp, ks, es, ds, rfl, hS, s0, s3, hC, k1, k25, nm, hR, hT, x20, wk, q⟩ := h
    have xl : (((es.map V.ref).length : Nat) : Int) = (ds.length : Int) := by rw [List.length_map, hT.1]
    have el : (es.map V.ref).length ≤ 20 := by rw [List.length_map, hT.1]; exact x20
    have kl : (((ks.map vN).length : Nat) : Int) = (ks.length : Int) := by rw [List.length_map]
    refine ⟨_, (pss_cons (ps_set (i := 4) sc_L_wrong_bids.nd rfl (.inl rfl) (pe_callD d_L_part (hr.mono (by decide)) (by rfl) (pa_cons (pv 0) (pa_cons (pv 1) (pa_cons pe_int (pa_cons pe_int pa_nil))))))
  (pss_cons (ps_set (i := 5) sc_L_wrong_bids.nd rfl (.inl rfl) (pe_callD d_L_part (hr.mono (by decide)) (by rfl) (pa_cons (pv 0) (pa_cons (pv 1) (pa_cons pe_int (pa_cons pe_int pa_nil))))))
  (pss_cons (ps_set (i := 6) sc_L_wrong_bids.nd rfl (.inl rfl) (pe_ix ix_list (pv 2) (pe_op op_mod (pe_callD d_L_part (hr.mono (by decide)) (by rfl) (pa_cons (pv 0) (pa_cons (pv 1) (pa_cons pe_int (pa_cons pe_int pa_nil))))) (pe_callB call_len_seq (by rfl) m_len (by decide +kernel) (pa_cons (pv 2) pa_nil))) (fun _ _ => rfl)))
  (pss_cons (ps_set (i := 7) sc_L_wrong_bids.nd rfl (.inl rfl) (pe_callD d_L_part (hr.mono (by decide)) (by rfl) (pa_cons (pv 0) (pa_cons (pv 1) (pa_cons pe_int (pa_cons pe_int pa_nil))))))
  (pss_cons (ps_if (pt_cmpR op_eq (pv 4) pe_int (nomark _)) (pss_cons (ps_set (i := 8) sc_L_wrong_bids.nd rfl (.inl rfl) (pe_op op_mod (pv 5) (pe_op op_add (pe_callB call_len_seq (by rfl) m_len (by decide +kernel) (pa_cons (pv 3) pa_nil)) pe_int)))
  (pss_one (ps_ret (pe_op op_cat (pe_op op_cat (pe_slice sl_list (pv 3) po_none (po_some (pv 8))) (pe_lst (pa_cons (pe_tup (pa_cons (pe_callD d_L_stranger (hr.mono (by decide)) (by rfl) (pa_cons (pv 0) (pa_cons (pe_op op_add (pv 1) pe_int) (pa_cons (pv 2) pa_nil)))) (pa_cons (pv 7) pa_nil))) pa_nil))) (pe_slice sl_list (pv 3) (po_some (pv 8)) po_none))))) pss_nil)
  (pss_cons (ps_cut (ps_if (pt_cmpR (op_eqD hr.units) (pv 3) (pe_lst pa_nil) (nomark _)) (pss_one (ps_set (i := 3) sc_L_wrong_bids.nd rfl (.inl rfl) (pe_lst (pa_cons (pe_tup (pa_cons (pv 6) (pa_cons (pv 7) pa_nil))) pa_nil)))) pss_nil))
  (pss_cons (ps_set (i := 8) sc_L_wrong_bids.nd rfl (.inl rfl) (pe_op op_mod (pv 5) (pe_callB call_len_seq (by rfl) m_len (by decide +kernel) (pa_cons (pv 3) pa_nil))))
  (pss_cons (ps_if (pt_cmpR op_eq (pv 4) pe_int (nomark _)) (pss_cons (ps_set (i := 9) sc_L_wrong_bids.nd rfl (.inl rfl) (pe_op op_add (pe_op op_add (pv 8) pe_int) (pe_op op_mod (pe_callD d_L_part (hr.mono (by decide)) (by rfl) (pa_cons (pv 0) (pa_cons (pe_op op_add (pv 1) pe_int) (pa_cons pe_int (pa_cons pe_int pa_nil))))) (pe_op op_sub (pe_callB call_len_seq (by rfl) m_len (by decide +kernel) (pa_cons (pv 3) pa_nil)) (pv 8)))))
  (pss_one (ps_ret (pe_op op_cat (pe_op op_cat (pe_slice sl_list (pv 3) po_none (po_some (pv 9))) (pe_lst (pa_cons (pe_tup (pa_cons (pe_ix ix_tup (pe_ix ix_list (pv 3) (pv 8) (fun _ _ => rfl)) pe_int (fun _ _ => rfl)) (pa_cons (pv 7) pa_nil))) pa_nil))) (pe_slice sl_list (pv 3) (po_some (pv 9)) po_none))))) pss_nil)
  (pss_cons (ps_set (i := 10) sc_L_wrong_bids.nd rfl (.inl rfl) (pe_op op_mul (pe_callD d_L_big (hr.mono (by decide)) (by rfl) (pa_cons (pv 0) (pa_cons (pe_op op_add (pv 1) pe_int) (pa_cons pe_int (pa_cons (pe_op op_pow pe_int pe_int) pa_nil))))) (pe_callD d_L_part (hr.mono (by decide)) (by rfl) (pa_cons (pv 0) (pa_cons (pv 1) (pa_cons pe_int (pa_cons pe_int pa_nil)))))))
  (pss_cons (ps_cut (ps_if (pt_cmpR op_eq (pe_callD d_L_part (hr.mono (by decide)) (by rfl) (pa_cons (pv 0) (pa_cons (pv 1) (pa_cons pe_int (pa_cons pe_int pa_nil))))) pe_int (nomark _)) (pss_one (ps_set (i := 10) sc_L_wrong_bids.nd rfl (.inl rfl) (pe_op op_pow pe_int pe_int))) pss_nil))
  (pss_cons (ps_if (pt_cmpR op_eq (pv 4) pe_int (nomark _)) (pss_one (ps_ret (pe_op op_cat (pe_op op_cat (pe_slice sl_list (pv 3) po_none (po_some (pv 8))) (pe_lst (pa_cons (pe_tup (pa_cons (pe_ix ix_tup (pe_ix ix_list (pv 3) (pv 8) (fun _ _ => rfl)) pe_int (fun _ _ => rfl)) (pa_cons (pe_op op_sub (pe_un un_neg pe_int) (pv 10)) pa_nil))) pa_nil))) (pe_slice sl_list (pv 3) (po_some (pe_op op_add (pv 8) pe_int)) po_none)))) pss_nil)
  (pss_one (ps_ret (pe_op op_cat (pe_op op_cat (pe_slice sl_list (pv 3) po_none (po_some (pv 8))) (pe_lst (pa_cons (pe_tup (pa_cons (pe_ix ix_tup (pe_ix ix_list (pv 3) (pv 8) (fun _ _ => rfl)) pe_int (fun _ _ => rfl)) (pa_cons (pe_op op_add (pe_op op_add (pe_op op_pow pe_int pe_int) pe_int) (pv 10)) pa_nil))) pa_nil))) (pe_slice sl_list (pv 3) (po_some (pe_op op_add (pv 8) pe_int)) po_none))))))))))))))), ?_⟩
    refine ⟨_, rfl, _, rfl, a, ns, sp, 1, 4, rfl, hS, s0, by omega, by decide, by decide, by decide, ?_⟩
    refine ⟨_, rfl, _, rfl, a, ns, sp, 4, 12, rfl, hS, s0, by omega, by decide, by decide, by decide, ?_⟩
    obtain ⟨mz, _, mm, am⟩ := nm_getC (zs := ks) (i := partOf ns sp 48 12 % (ks.length : Int)) (Int.emod_nonneg _ (by omega)) (Int.emod_lt_of_pos _ (by omega))
    refine ⟨_, rfl, _, rfl, _, rfl, a, ns, sp, 48, 12, rfl, hS, s0, by omega, by decide, by decide, by decide, _, rfl, c, _, rfl, .inl (lstAt hC), _, _, rfl, rfl, by rw [kl]; omega, ?_⟩
    refine ⟨_, _, _, _, rfl, rfl, lstAt hC, by rw [kl]; exact am, ?_⟩
    refine ⟨_, rfl, _, rfl, a, ns, sp, 576, 7, rfl, hS, s0, by omega, by decide, by decide, by decide, ?_⟩
    generalize hv : partOf ns sp 576 7 = v
    -- the end
    have fin : ∀ (H1 : Hp), Same H H1 → ∀ (es : List Addr) (us : List BidD) (n n2 : Nat) (d : BidD), BidsAt H1 es us → us.length ≤ ds.length + 1 → n ≤ n2 → (∀ u ∈ us, WOk u.1) → WOk d.1 → bidsB ks (us.take n ++ d :: us.drop n2) = false → ∀ (H' : Hp) (p : Addr) (e : V), H1 p = none → Same H1 H' → (∃ g, e = .ref g ∧ H' g = some (.tup [vN d.1, .int d.2])) → H' p = some (.lst ((es.map V.ref).take n ++ e :: (es.map V.ref).drop n2)) → Q (.ref p) H' := by
      rintro H1 s1 es us n n2 d hb ul nn uk wd bad H' p e np s ⟨g, rfl, eg⟩ ep
      refine q H' p (es.take n ++ g :: es.drop n2) (us.take n ++ d :: us.drop n2) (none_of s1 np) (s1.trans s) (by rw [ep, List.map_append, List.map_cons, List.map_take, List.map_drop]) ((hb.same s).mid eg) bad (by rw [List.length_append, List.length_cons, List.length_take, List.length_drop]; omega) (mid_all (p := fun d : BidD => WOk d.1) uk wd)
    have mono : ∀ (d : BidD) (e : V) (H1 H2 : Hp), (∃ g, e = V.ref g ∧ H1 g = some (.tup [vN d.1, .int d.2])) → Same H1 H2 → ∃ g, e = V.ref g ∧ H2 g = some (.tup [vN d.1, .int d.2]) := fun d e H1 H2 ⟨g, h1, h2⟩ s => ⟨g, h1, s _ _ h2⟩
    refine ⟨_, rfl, rfl, _, rfl, ite2 (fun e => ?_) (fun e => ?_)⟩
    · obtain ⟨n, hn, nl⟩ := mod_nat (a := partOf ns sp 4 12) (n := ds.length + 1) (by omega)
      refine ⟨_, rfl, _, rfl, r, _, rfl, .inl (lstAt hR), _, _, rfl, rfl, _, _, rfl, rfl, by rw [xl]; omega, ?_⟩
      rw [xl, show (fun i j => V.int (i % j)) (partOf ns sp 4 12) ((ds.length : Int) + 1) = V.int (n : Int) from congrArg V.int hn]
      refine mid_go (R := fun e H => ∃ y : Nam, y ∉ ks ∧ WOk y ∧ ∃ g, e = .ref g ∧ H g = some (.tup [vN y, .int v])) rfl hR (by omega) (fun H1 Q1 _ q1 => ⟨_, rfl, q1⟩) (fun H1 Q1 _ q1 => ⟨_, rfl, q1⟩) (fun e _ _ ⟨y, h1, h2, h3⟩ s => ⟨y, h1, h2, mono (y, v) e _ _ h3 s⟩) (fun H1 Q1 s q1 => ⟨_, rfl, _, rfl, _, _, rfl, rfl, _, rfl, a, c, ns, sp + 1, ks, rfl, s.seq hS, lstAt (s _ _ hC), by omega, by omega, k1, k25, nm, fun y hy ly ay => ⟨_, rfl, (show (2 : Nat) ≤ sizeLine by decide), fun g ng => q1 _ _ (same_upd ng) ⟨y, hy, ⟨ly, ay⟩, g, rfl, upd_same⟩⟩⟩) fun H' p e np s he ep => ?_
      obtain ⟨y, hy, wy, he⟩ := he
      exact fin H (Same.refl H) es ds n n (y, v) hT (by omega) (Nat.le_refl _) wk wy (bids_strB hy) H' p e np s he ep
    · refine ⟨(fun σ' H' => ∃ (r' : Addr) (fs : List Addr) (us : List BidD), σ' = [some (.ref a), some (.int sp), some (.ref c), some (.ref r'), some (.int (partOf ns sp 1 4)), some (.int (partOf ns sp 4 12)), some (vN mz), some (.int v), none, none, none] ∧ Same H H' ∧ H' r' = some (.lst (fs.map V.ref)) ∧ BidsAt H' fs us ∧ 1 ≤ us.length ∧ us.length ≤ ds.length + 1 ∧ ∀ d ∈ us, WOk d.1), ?_, ?_⟩
      · refine ⟨_, rfl, Nat.zero_le _, fun n0 nn0 => ?_⟩
        have sn := same_upd (o := .lst []) nn0
        have en0 := upd_same (H := H) (a := n0) (o := .lst [])
        generalize upd H n0 (.lst []) = Hn at sn en0 ⊢
        have lay := lay_map (f := dB) fun x m => lay_dBW (wk x m)
        have dpB : DpAll K Hn (es.map V.ref) (ds.map dB) := dp_map (f := dB) (R := fun H e (d : BidD) => H e = some (.tup [vN d.1, V.int d.2])) (fun e d he => .tup (tupAt he) (.cons (.str _) (.cons (.int _) .nil))) (hT.same sn)
        refine ⟨_, _, .lst (lstAt (sn _ _ hR)) dpB, dp_nms (zs := []) (lstAt en0), shaped_ofL lay (by decide), shaped_strs nofun, _, rfl, ?_⟩
        rw [eqv_nilB]
        by_cases hx : ds = []
        · rw [decide_eq_true hx]
          refine iteT ⟨_, rfl, _, rfl, (show (2 : Nat) ≤ sizeLine by decide), fun g ng => ⟨(show (1 : Nat) ≤ sizeLine by decide), fun D nD => ?_⟩⟩
          refine ⟨D, [g], [(mz, v)], rfl, sn.trans ((same_upd ng).trans (same_upd nD)), upd_same, BidsAt.one ((same_upd nD) _ _ upd_same), Nat.le_refl 1, (show 1 ≤ ds.length + 1 by omega), fun z m => by rw [List.mem_singleton.mp m]; exact (nm mz mm).wok⟩
        · rw [decide_eq_false hx]
          exact iteF ⟨r, es, ds, rfl, sn, sn _ _ hR, hT.same sn, by cases ds with
            | nil => exact absurd rfl hx
            | cons z t => simp, by omega, wk⟩
      rintro σ' H1 ⟨r', fs, us, rfl, s1, hr1, hU, u1, ul, uk⟩
      have ull : (((fs.map V.ref).length : Nat) : Int) = (us.length : Int) := by rw [List.length_map, hU.1]
      have fl20 : (fs.map V.ref).length ≤ 21 := by rw [List.length_map, hU.1]; omega
      obtain ⟨k, hk, kl'⟩ := mod_nat (a := partOf ns sp 4 12) (n := us.length) (by omega)
      have kf : k < fs.length := by rw [hU.1]; exact kl'
      obtain ⟨d, ed, hd⟩ := hU.2 k _ (List.getElem?_eq_getElem kf)
      have ad : atI (fs.map V.ref) (k : Int) = some (.ref fs[k]) := atI_nat (by rw [List.getElem?_map, List.getElem?_eq_getElem kf]; rfl)
      generalize fs[k] = g0 at hd ad
      have md := List.mem_of_getElem? ed
      refine ⟨_, rfl, _, rfl, r', _, rfl, .inl (lstAt hr1), _, _, rfl, rfl, by rw [ull]; omega, ?_⟩
      rw [ull, show (fun i j => V.int (i % j)) (partOf ns sp 4 12) (us.length : Int) = V.int (k : Int) from congrArg V.int hk]
      refine ⟨_, rfl, rfl, _, rfl, ite2 (fun e => ?_) (fun e => ?_)⟩
      · obtain ⟨j, hj, j0, j1⟩ := mod_to (a := partOf ns (sp + 1) 1 12) kl'
        refine ⟨_, rfl, _, _, rfl, rfl, _, rfl, _, rfl, _, _, rfl, rfl, a, ns, sp + 1, 1, 12, rfl, s1.seq hS, by omega, by omega, by decide, by decide, by decide, _, rfl, r', _, rfl, .inl (lstAt hr1), _, rfl, _, _, rfl, rfl, _, _, rfl, rfl, by rw [ull]; show (0 : Int) < (us.length : Int) - k; omega, _, _, rfl, rfl, ?_⟩
        rw [ull, show (fun i j => V.int (i + j)) ((k : Int) + 1) (partOf ns (sp + 1) 1 12 % ((us.length : Int) - k)) = V.int (j : Int) from congrArg V.int hj]
        refine mid_go (R := fun e H => ∃ g, e = .ref g ∧ H g = some (.tup [vN d.1, .int v])) rfl hr1 (by omega) (fun H1 Q1 _ q1 => ⟨_, rfl, q1⟩) (fun H1 Q1 _ q1 => ⟨_, rfl, q1⟩) (mono (d.1, v)) (fun H1 Q1 s q1 => ⟨_, rfl, _, rfl, _, _, _, _, rfl, rfl, lstAt (s _ _ hr1), ad, _, _, 0, _, rfl, rfl, tupAt (s _ _ hd), rfl, _, rfl, (show (2 : Nat) ≤ sizeLine by decide), fun g ng => q1 _ _ (same_upd ng) ⟨g, rfl, upd_same⟩⟩) fun H' p e np s he ep => ?_
        exact fin H1 s1 fs us j j (d.1, v) hU ul (Nat.le_refl _) uk (uk d md) (bids_dblB (d := d) (List.mem_of_getElem? (i := k) (by rw [List.getElem?_take_of_lt j0]; exact ed)) rfl) H' p e np s he ep
      · refine ⟨_, rfl, _, rfl, _, _, rfl, rfl, _, _, rfl, rfl, ⟨by decide, by decide, by decide⟩, a, ns, sp + 1, 0, _, rfl, s1.seq hS, by omega, by omega, by decide, fun far f0 f1 => ?_⟩
        have w0 := part_lo (ns := ns) (s := sp) (u := 576) (z := 2) (by decide)
        have w1 := part_hi (ns := ns) (s := sp) (u := 576) (z := 2) (by decide)
        refine ⟨_, rfl, _, rfl, a, ns, sp, 576, 2, rfl, s1.seq hS, s0, by omega, by decide, by decide, by decide, _, _, rfl, rfl, .inr ⟨by omega, by omega⟩, ?_⟩
        refine ⟨(fun σ' H' => ∃ far : Int, σ' = [some (.ref a), some (.int sp), some (.ref c), some (.ref r'), some (.int (partOf ns sp 1 4)), some (.int (partOf ns sp 4 12)), some (vN mz), some (.int v), some (.int (k : Int)), none, some (.int far)] ∧ H' = H1 ∧ 0 ≤ far), ?_, ?_⟩
        · refine ⟨_, rfl, _, rfl, a, ns, sp, 1152, 4, rfl, s1.seq hS, s0, by omega, by decide, by decide, by decide, rfl, _, rfl, ite2 (fun e => ?_) (fun e => ?_)⟩
          · exact ⟨_, _, rfl, rfl, ⟨by decide, by decide, by decide⟩, _, rfl, rfl, by decide⟩
          · exact ⟨_, rfl, rfl, Int.mul_nonneg f0 w0⟩
        rintro σ' H2 ⟨far, rfl, rfl, far0⟩
        refine ⟨_, rfl, rfl, _, rfl, ite2 (fun e => ?_) (fun e => ?_)⟩
        · refine mid_go (n := k) (n2 := k + 1) (R := fun e H => ∃ g, e = .ref g ∧ H g = some (.tup [vN d.1, .int (-1 - far)])) rfl hr1 (by omega) (fun H1 Q1 _ q1 => ⟨_, rfl, q1⟩) (fun H1 Q1 _ q1 => ⟨_, rfl, _, _, rfl, rfl, q1⟩) (mono (d.1, -1 - far)) (fun H1 Q1 s q1 => ⟨_, rfl, _, rfl, _, _, _, _, rfl, rfl, lstAt (s _ _ hr1), ad, _, _, 0, _, rfl, rfl, tupAt (s _ _ hd), rfl, _, rfl, _, rfl, _, _, rfl, rfl, (show (2 : Nat) ≤ sizeLine by decide), fun g ng => q1 _ _ (same_upd ng) ⟨g, rfl, upd_same⟩⟩) fun H' p e np s he ep => ?_
          exact fin H2 s1 fs us k (k + 1) (d.1, -1 - far) hU ul (Nat.le_succ _) uk (uk d md) (bids_loB (.inl (by show -1 - far < 0; omega))) H' p e np s he ep
        · refine mid_go (n := k) (n2 := k + 1) (R := fun e H => ∃ g, e = .ref g ∧ H g = some (.tup [vN d.1, .int (1000000001 + far)])) rfl hr1 (by omega) (fun H1 Q1 _ q1 => ⟨_, rfl, q1⟩) (fun H1 Q1 _ q1 => ⟨_, rfl, _, _, rfl, rfl, q1⟩) (mono (d.1, 1000000001 + far)) (fun H1 Q1 s q1 => ⟨_, rfl, _, rfl, _, _, _, _, rfl, rfl, lstAt (s _ _ hr1), ad, _, _, 0, _, rfl, rfl, tupAt (s _ _ hd), rfl, _, _, rfl, rfl, ⟨by decide, by decide, by decide⟩, _, _, rfl, rfl, _, rfl, _, _, rfl, rfl, (show (2 : Nat) ≤ sizeLine by decide), fun g ng => q1 _ _ (same_upd ng) ⟨g, rfl, upd_same⟩⟩) fun H' p e np s he ep => ?_
          exact fin H2 s1 fs us k (k + 1) (d.1, 1000000001 + far) hU ul (Nat.le_succ _) uk (uk d md) (bids_loB (.inr (by show 1000000000 < 1000000001 + far; omega))) H' p e np s he ep
end
end TK

/-! pages that are wrong -/
namespace TK
open PySem PySem.Spec PyProof.Rows L2
/-- what can be told of a page -/
def SzP (m : Nat) (d : PgD) : Prop := WOk d.nm ∧ (∀ b ∈ d.bids, WOk b.1) ∧ d.bids.length ≤ m ∧ (∀ x ∈ d.fol, WOk x) ∧ d.fol.length ≤ m
theorem SzP.le {m n : Nat} {d : PgD} (h : SzP m d) (k : m ≤ n) : SzP n d := ⟨h.1, h.2.1, Nat.le_trans h.2.2.1 k, h.2.2.2.1, Nat.le_trans h.2.2.2.2 k⟩
/-- rows copied: each row is a new list -/
structure WsAt (H0 H : Hp) (L : Addr) (ps : List Addr) (us : List PgD) : Prop where
  s : Same H0 H
  eL : H L = some (.lst (ps.map V.ref))
  r : AllAt (RwS L) H ps us
  pn : ps.Nodup
  n0 : ∀ p ∈ ps, H0 p = none
  nL : H0 L = none
theorem WsAt.same {H0 H H' : Hp} {L : Addr} {ps : List Addr} {us : List PgD} (h : WsAt H0 H L ps us) (s : Same H H') : WsAt H0 H' L ps us := ⟨h.s.trans s, s _ _ h.eL, h.r.mono fun _ _ k => k.same s, h.pn, h.n0, h.nL⟩
theorem ref_ne_row {es : List Addr} {x : Nam} {b f : Addr} : (HO.lst (es.map V.ref)) ≠ .lst [vN x, .ref b, .ref f] := fun z => by
  have z := HO.lst.inj z
  cases es with
  | nil => cases z
  | cons e r => rw [List.map_cons] at z; cases (List.cons.inj z).1
theorem nms_ne_row {xs : List Nam} {x : Nam} {b f : Addr} : (HO.lst (xs.map vN)) ≠ .lst [vN x, .ref b, .ref f] := fun z => by
  have z := HO.lst.inj z
  cases xs with
  | nil => cases z
  | cons e r =>
    rw [List.map_cons] at z
    have z := (List.cons.inj z).2
    cases r with
    | nil => cases z
    | cons e' r' => rw [List.map_cons] at z; cases (List.cons.inj z).1
theorem bids_wr {H : Hp} {es : List Addr} {ds : List BidD} {D : Addr} {xs : List V} {o : HO} (h : BidsAt H es ds) (e : H D = some (.lst xs)) : BidsAt (upd H D o) es ds := ⟨h.1, fun i e' he => by
  obtain ⟨d, a, b⟩ := h.2 i e' he
  exact ⟨d, a, by rw [upd_ne (ne_of b e nofun)]; exact b⟩⟩
theorem WsAt.set {H0 H : Hp} {L : Addr} {ps : List Addr} {us : List PgD} (h : WsAt H0 H L ps us) {k : Nat} {pk b f : Addr} {e : PgD} {es : List Addr} (hp : ps[k]? = some pk) (eb : H b = some (.lst (es.map V.ref))) (hb : BidsAt H es e.bids) (ef : H f = some (.lst (e.fol.map vN))) (nb : b ≠ L) (nf : f ≠ L) : WsAt H0 (upd H pk (.lst [vN e.nm, .ref b, .ref f])) L ps (us.set k e) := by
  obtain ⟨d, ed, b', f', es', h1, h2, h3, h4, h5, h6, h7⟩ := h.r.2 k pk hp
  refine ⟨same_at h.s (h.n0 _ (List.mem_of_getElem? hp)), by rw [upd_ne h5.symm]; exact h.eL, ⟨by rw [List.length_set]; exact h.r.1, fun i q hq => ?_⟩, h.pn, h.n0, h.nL⟩
  have hi := (List.getElem?_eq_some_iff.mp hq).1
  have hl := h.r.1
  by_cases c : k = i
  · subst c
    cases Option.some.inj (hp.symm.trans hq)
    exact ⟨e, by rw [List.getElem?_set_self (by omega)], b, f, es, upd_same, by rw [upd_ne (ne_of eb h1 ref_ne_row)]; exact eb, bids_wr hb h1, by rw [upd_ne (ne_of ef h1 nms_ne_row)]; exact ef, h5, nb, nf⟩
  · obtain ⟨x, ex, b2, f2, es2, g1, g2, g3, g4, g5, g6, g7⟩ := h.r.2 i q hq
    have qk : q ≠ pk := fun z => c ((List.getElem?_inj (List.getElem?_eq_some_iff.mp hp).1 h.pn).mp (hp.trans (z ▸ hq).symm))
    exact ⟨x, by rw [List.getElem?_set_ne c]; exact ex, b2, f2, es2, by rw [upd_ne qk]; exact g1, by rw [upd_ne (ne_of g2 h1 ref_ne_row)]; exact g2, bids_wr g3 h1, by rw [upd_ne (ne_of g4 h1 nms_ne_row)]; exact g4, g5, g6, g7⟩
/-- the first wrong page -/
def BadAt (zs : List Nam) (us : List PgD) (k : Nat) : Prop := ∃ d, us[k]? = some d ∧ pgBad zs ((us.map fun x : PgD => x.nm).take k) d = true ∧ ∀ (j : Nat) (d : PgD), j < k → us[j]? = some d → pgBad zs ((us.map fun x : PgD => x.nm).take j) d = false
theorem take_setm {us : List PgD} {k j : Nat} {e : PgD} (h : j ≤ k) : ((us.set k e).map fun x : PgD => x.nm).take j = (us.map fun x : PgD => x.nm).take j := by
  rw [List.map_set, List.take_set, List.set_eq_of_length_le (by rw [List.length_take]; omega)]
theorem badAt_set {zs : List Nam} {us : List PgD} {k : Nat} {e : PgD} (hk : k < us.length) (bad : pgBad zs ((us.map fun x : PgD => x.nm).take k) e = true) (h : ∀ (j : Nat) (d : PgD), j < k → us[j]? = some d → pgBad zs ((us.map fun x : PgD => x.nm).take j) d = false) : BadAt zs (us.set k e) k := by
  refine ⟨e, by rw [List.getElem?_set_self hk], by rw [take_setm (Nat.le_refl _)]; exact bad, fun j d hj hd => ?_⟩
  rw [take_setm (Nat.le_of_lt hj)]
  rw [List.getElem?_set_ne (by omega)] at hd
  exact h j d hj hd
theorem set_nm {us : List PgD} {k : Nat} {d e : PgD} (h : us[k]? = some d) (n : e.nm = d.nm) : (us.set k e).map (fun x : PgD => x.nm) = us.map fun x : PgD => x.nm := by
  rw [List.map_set, n]
  refine List.ext_getElem? fun i => ?_
  by_cases c : k = i
  · subst c
    have hi := (List.getElem?_eq_some_iff.mp h).1
    rw [List.getElem?_set_self (by rw [List.length_map]; exact hi), List.getElem?_map, h]; rfl
  · rw [List.getElem?_set_ne c]
theorem badAt_bids {zs : List Nam} {us : List PgD} {k o : Nat} {d : PgD} {bs : List BidD} (h : BadAt zs us k) (hd : us[o]? = some d) (bad : bidsB zs bs = false) : BadAt zs (us.set o ⟨d.nm, bs, d.fol⟩) (min k o) := by
  obtain ⟨dk, ek, bk, gk⟩ := h
  have ho := (List.getElem?_eq_some_iff.mp hd).1
  have pb : ∀ seen, pgBad zs seen ⟨d.nm, bs, d.fol⟩ = true := fun seen => by unfold pgBad; rw [bad, Bool.not_false, Bool.or_true, Bool.or_true]
  unfold BadAt
  rw [set_nm (e := ⟨d.nm, bs, d.fol⟩) hd rfl]
  by_cases c : o ≤ k
  · rw [Nat.min_eq_right c]
    exact ⟨_, by rw [List.getElem?_set_self ho], pb _, fun j x hj hx => gk j x (by omega) (by rw [List.getElem?_set_ne (by omega)] at hx; exact hx)⟩
  · rw [Nat.min_eq_left (by omega)]
    exact ⟨dk, by rw [List.getElem?_set_ne (by omega)]; exact ek, bk, fun j x hj hx => gk j x hj (by rw [List.getElem?_set_ne (by omega)] at hx; exact hx)⟩
theorem BadAt.goP {zs : List Nam} {us : List PgD} {k : Nat} (h : BadAt zs us k) : goP zs 0 [] us = some (.book "page" k) := by
  obtain ⟨d, e, b, g⟩ := h
  exact goP_first e b g
theorem mem_setP {p : PgD → Prop} {us : List PgD} {k : Nat} {e : PgD} (h : ∀ d ∈ us, p d) (he : p e) : ∀ d ∈ us.set k e, p d := fun d m => by
  rcases List.mem_or_eq_of_mem_set m with m | m
  · exact h d m
  · exact m ▸ he
theorem ix_nat {α : Type} {xs : List α} {k : Nat} (h : k < xs.length) : ixN xs.length (k : Int) = some k := by
  unfold ixN
  rw [if_pos (by omega)]
  exact if_pos (by omega)
section
variable {P : Program} {w : World} {K : PySem.W.Frag} {mg : Str → Option Value} {base : Heap}
def spWrongP (K : PySem.W.Frag) : Sp := fun vs H Q _ => ∃ (a c r : Addr) (ns : List Int) (zs : List Nam) (rs : List Addr) (ds : List PgD), vs = [.ref a, .ref c, .ref r] ∧ SqL K H a (ns.map V.int) ∧ ns.length = 16 ∧ H c = some (.lst (zs.map vN)) ∧ 1 ≤ zs.length ∧ zs.length ≤ 4 ∧ (∀ z ∈ zs, Nm z) ∧ H r = some (.lst (rs.map V.ref)) ∧ AllAt (RwS r) H rs ds ∧ PgOk zs ds ∧ (∃ m : Nat, m ≤ 8 ∧ (∀ d ∈ ds, SzP m d) ∧
  ∀ (H' : Hp) (t L : Addr) (ps : List Addr) (us : List PgD) (k : Nat), Same H H' → H' t = some (.tup [.ref L, .int (k : Nat)]) → H' L = some (.lst (ps.map V.ref)) → AllAt (RwS L) H' ps us → 1 ≤ us.length → us.length ≤ 4 → goP zs 0 [] us = some (.book "page" k) → (∀ d ∈ us, SzP (m + 4) d) → Q (.ref t) H')
theorem ok_L_wrong_page {f : Addr} {fd : FuncData} (F : Fun K "_law_wrong_page" "_law_wrong_page" s_L_wrong_page f fd) (m_len : mg "len" = none) (m_list : mg "list" = none) (m_min : mg "min" = none) (d_L_part : Def P w K mg base "_law_part" 1 ["_law_pool_here", "_law_spot", "_law_under", "_law_size"] (spPart K))
    (d_L_bad_word : Def P w K mg base "_law_bad_word" 2 ["_law_pool_here", "_law_spot", "_law_word"] (spBadW K)) (d_L_wrong_bids : Def P w K mg base "_law_wrong_bids" 4 ["_law_pool_here", "_law_spot", "_law_members", "_law_bids"] (spWrongB K)) : FnOk P w K mg base CX0 5 f fd ["_law_pool_here", "_law_members", "_law_rows"] (spWrongP K) := by
  refine F.ok sc_L_wrong_page (fun vs H Q E h => ?_) (fun cdv A outer s H vs Q E hr h => ?_)
  · obtain ⟨a, c, r, ns, zs, rs, ds, rfl, _⟩ := h
    rfl
  · obtain ⟨a, c, r, ns, zs, rs, ds, rfl, hS, nl, hC, z1, z4, zn, hR, hD, ok, m, m8, sz, q⟩ := h
    have d1 := ok.l1
    have d4 := ok.l4
    have rl : (rs.map V.ref).length = ds.length := by rw [List.length_map, hD.1]
    refine ⟨_, (pss_cons (ps_setLc (i := 3) (own := [("_law_row", 7)]) (by rfl) sc_L_wrong_page.nd rfl rfl (sw_true rfl rfl rfl (by decide +kernel)) (pi_list (pv 2)) (blkOk_by (N := ["_law_pool_here", "_law_members", "_law_rows", "_law_worse", "_law_place", "_law_way", "_law_other", "_law_row"]) (sc := defScope s_L_wrong_page) (by decide +kernel)) (fun _ _ _ _ _ => (pg_name (i := 7) sc_L_wrong_page.nd rfl (.inl rfl))) (fun _ _ _ _ _ => pts_nil) (fun _ _ _ _ _ => (pe_callTy (call_list_ofK (K := K) rfl) (by rfl) m_list (by decide +kernel) (pa_cons (pv 7) pa_nil))))
  (pss_cons (ps_set (i := 4) sc_L_wrong_page.nd rfl (.inl rfl) (pe_op op_mod (pe_callD d_L_part (hr.mono (by decide)) (by rfl) (pa_cons (pv 0) (pa_cons pe_int (pa_cons pe_int (pa_cons pe_int pa_nil))))) (pe_callB call_len_seq (by rfl) m_len (by decide +kernel) (pa_cons (pv 3) pa_nil))))
  (pss_cons (ps_set (i := 5) sc_L_wrong_page.nd rfl (.inl rfl) (pe_callD d_L_part (hr.mono (by decide)) (by rfl) (pa_cons (pv 0) (pa_cons pe_int (pa_cons pe_int (pa_cons pe_int pa_nil))))))
  (pss_cons (ps_cut (ps_if (pt_cmpR op_eq (pv 5) pe_int (nomark _)) (pss_one (ps_asg (pe_callD d_L_bad_word (hr.mono (by decide)) (by rfl) (pa_cons (pv 0) (pa_cons pe_int (pa_cons (pe_ix ix_list (pe_ix ix_list (pv 3) (pv 4) (fun _ _ => rfl)) pe_int (fun _ _ => rfl)) pa_nil)))) (pg_sub (pe_ix ix_list (pv 3) (pv 4) (fun _ _ => rfl)) pe_int set_list))) (pss_one (ps_if (PW.pt (pw_and (pt_cmpR op_eq (pv 5) pe_int (nomark _)) (pw_and1 (pt_cmpR op_eq (pe_callB call_len_seq (by rfl) m_len (by decide +kernel) (pa_cons (pv 3) pa_nil)) pe_int (nomark _))))) (pss_cons (ps_expr (pe_bm PySem.F.plainAttrs_list PySem.F.slot_list_append PySem.F.type_list_append mt_append (pv 3) (pa_cons (pe_lst (pa_cons (pe_ix ix_list (pe_ix ix_list (pv 3) pe_int (fun _ _ => rfl)) pe_int (fun _ _ => rfl)) (pa_cons (pe_lst pa_nil) (pa_cons (pe_lst pa_nil) pa_nil)))) pa_nil)))
  (pss_one (ps_set (i := 4) sc_L_wrong_page.nd rfl (.inl rfl) pe_int))) (pss_one (ps_if (pt_cmpR op_eq (pv 5) pe_int (nomark _)) (pss_cons (ps_set (i := 4) sc_L_wrong_page.nd rfl (.inl rfl) (pe_op op_add pe_int (pe_op op_mod (pe_callD d_L_part (hr.mono (by decide)) (by rfl) (pa_cons (pv 0) (pa_cons pe_int (pa_cons pe_int (pa_cons pe_int pa_nil))))) (pe_op op_sub (pe_callB call_len_seq (by rfl) m_len (by decide +kernel) (pa_cons (pv 3) pa_nil)) pe_int))))
  (pss_one (ps_asg (pe_ix ix_list (pe_ix ix_list (pv 3) (pe_op op_mod (pe_callD d_L_part (hr.mono (by decide)) (by rfl) (pa_cons (pv 0) (pa_cons pe_int (pa_cons pe_int (pa_cons pe_int pa_nil))))) (pv 4)) (fun _ _ => rfl)) pe_int (fun _ _ => rfl)) (pg_sub (pe_ix ix_list (pv 3) (pv 4) (fun _ _ => rfl)) pe_int set_list)))) (pss_one (ps_asg (pe_callD d_L_wrong_bids (hr.mono (by decide)) (by rfl) (pa_cons (pv 0) (pa_cons pe_int (pa_cons (pv 1) (pa_cons (pe_ix ix_list (pe_ix ix_list (pv 3) (pv 4) (fun _ _ => rfl)) pe_int (fun _ _ => rfl)) pa_nil))))) (pg_sub (pe_ix ix_list (pv 3) (pv 4) (fun _ _ => rfl)) pe_int set_list)))))))))
  (pss_cons (ps_set (i := 6) sc_L_wrong_page.nd rfl (.inl rfl) (pe_callD d_L_part (hr.mono (by decide)) (by rfl) (pa_cons (pv 0) (pa_cons pe_int (pa_cons pe_int (pa_cons pe_int pa_nil))))))
  (pss_cons (ps_cut (ps_if (pt_cmpR op_lt (pv 6) (pe_callB call_len_seq (by rfl) m_len (by decide +kernel) (pa_cons (pv 3) pa_nil)) (nomark _)) (pss_cons (ps_asg (pe_callD d_L_wrong_bids (hr.mono (by decide)) (by rfl) (pa_cons (pv 0) (pa_cons pe_int (pa_cons (pv 1) (pa_cons (pe_ix ix_list (pe_ix ix_list (pv 3) (pv 6) (fun _ _ => rfl)) pe_int (fun _ _ => rfl)) pa_nil))))) (pg_sub (pe_ix ix_list (pv 3) (pv 6) (fun _ _ => rfl)) pe_int set_list))
  (pss_one (ps_set (i := 4) sc_L_wrong_page.nd rfl (.inl rfl) (pe_callB (call_min2 rfl) (by rfl) m_min (by decide +kernel) (pa_cons (pv 4) (pa_cons (pv 6) pa_nil)))))) pss_nil))
  (pss_one (ps_ret (pe_tup (pa_cons (pv 3) (pa_cons (pv 4) pa_nil))))))))))), ?_⟩
    refine ⟨_, rfl, r, rfl, ⟨_, lstAt hR⟩, fun L nL => ?_⟩
    refine lc_list (K := K) (a := r) (xs := rs.map V.ref) (fun i H' => ∃ ps : List Addr, WsAt H H' L ps (ds.take i)) ⟨[], same_upd nL, upd_same, .nil, List.nodup_nil, nofun, nL⟩ (fun i H' _ hq => by obtain ⟨_, s⟩ := hq; exact lstAt (s.s _ _ hR)) (fun i v H' hv hq => ?_) (fun H1 hq => ?_)
    · obtain ⟨ps, W⟩ := hq
      obtain ⟨e, d, rfl, ed, bb, ff, es, h1, h2, h3, h4, _⟩ := all_at hD hv
      have hi := (List.getElem?_eq_some_iff.mp ed).1
      have pl : ps.length = i := by rw [W.r.1, List.length_take]; omega
      refine ⟨rfl, yesT ⟨_, rfl, e, _, rfl, .inl (lstAt (W.s _ _ h1)), fun g ng => ?_⟩⟩
      have sg := same_upd (o := .lst [vN d.nm, .ref bb, .ref ff]) ng
      have eg := upd_same (H := H') (a := g) (o := .lst [vN d.nm, .ref bb, .ref ff])
      have nin : g ∉ ps := fun m => by
        obtain ⟨j, hj⟩ := List.getElem?_of_mem m
        obtain ⟨d', _, _, _, _, k1, _⟩ := W.r.2 j g hj
        rw [ng] at k1; cases k1
      have gL : g ≠ L := (ne_of_none W.eL ng).symm
      have ngH := none_of W.s ng
      generalize upd H' g (.lst [vN d.nm, .ref bb, .ref ff]) = H5 at sg eg ⊢
      have W5 := W.same sg
      have kL : ∀ c o, H5 c = some o → c ≠ L → (upd H5 L (.lst (ps.map V.ref ++ [.ref g]))) c = some o := fun c o e n => by rw [upd_ne n]; exact e
      have gd : RwS L H5 g d := ⟨bb, ff, es, eg, W5.s _ _ h2, h3.same W5.s, W5.s _ _ h4, gL, ne_of_none h2 nL, ne_of_none h4 nL⟩
      refine ⟨_, W5.eL, by rw [List.length_map, pl]; exact small1000 (by omega), ps ++ [g], same_at W5.s nL, by rw [upd_same, List.map_append]; rfl, ?_, ?_, ?_, nL⟩
      · rw [List.take_add_one, ed]
        exact (W5.r.app (.one gd)).mono fun _ _ k => k.go ⟨_, W5.eL⟩ kL
      · refine List.nodup_append.mpr ⟨W.pn, List.nodup_cons.mpr ⟨nofun, List.nodup_nil⟩, fun x mx y my e => ?_⟩
        rw [List.mem_singleton.mp my] at e
        exact nin (e ▸ mx)
      · intro p m
        rcases List.mem_append.mp m with m | m
        · exact W.n0 p m
        · rw [List.mem_singleton.mp m]; exact ngH
    obtain ⟨ps, W⟩ := hq
    rw [rl, List.take_length] at W
    have pl : ps.length = ds.length := W.r.1
    have lp : (((ps.map V.ref).length : Nat) : Int) = (ds.length : Int) := by rw [List.length_map, pl]
    have hS1 := W.s.seq hS
    obtain ⟨k, hk, kl⟩ := mod_nat (a := partOf ns 0 1 12) (n := ds.length) (by omega)
    refine ⟨_, rfl, a, ns, 0, 1, 12, rfl, hS1, by decide, by omega, by decide, by decide, by decide, _, rfl, L, _, rfl, .inl (lstAt W.eL), _, _, rfl, rfl, by rw [lp]; omega, ?_⟩
    rw [lp, show (fun i j => V.int (i % j)) (partOf ns 0 1 12) (ds.length : Int) = V.int (k : Int) from congrArg V.int hk]
    refine ⟨_, rfl, a, ns, 0, 12, 4, rfl, hS1, by decide, by omega, by decide, by decide, by decide, ?_⟩
    generalize hw : partOf ns 0 12 4 = way
    -- a row at a place
    have row : ∀ (H' : Hp) (ps : List Addr) (us : List PgD) (k : Nat), WsAt H H' L ps us → k < us.length → ∃ pk d b f es, ps[k]? = some pk ∧ atI (ps.map V.ref) (k : Int) = some (.ref pk) ∧ us[k]? = some d ∧ H' pk = some (.lst [vN d.nm, .ref b, .ref f]) ∧ H' b = some (.lst (es.map V.ref)) ∧ BidsAt H' es d.bids ∧ H' f = some (.lst (d.fol.map vN)) ∧ b ≠ L ∧ f ≠ L := fun H' ps us k W hk => by
      have kp : k < ps.length := by rw [W.r.1]; exact hk
      obtain ⟨d, ed, b, f, es, h1, h2, h3, h4, h5, h6, h7⟩ := W.r.2 k _ (List.getElem?_eq_getElem kp)
      exact ⟨ps[k], d, b, f, es, List.getElem?_eq_getElem kp, atI_nat (by rw [List.getElem?_map, List.getElem?_eq_getElem kp]; rfl), ed, h1, h2, h3, h4, h6, h7⟩
    obtain ⟨pk, d, b, ff, es, hp, ap, ed, h1, h2, h3, h4, bL, fL⟩ := row H1 ps ds k W kl
    have md := List.mem_of_getElem? ed
    have good : ∀ (m : Nat) (j : Nat) (x : PgD), j < m → ds[j]? = some x → pgBad zs ((ds.map fun x : PgD => x.nm).take j) x = false := fun m j x _ hx => ok.good hx
    refine ⟨(fun σ' H' => ∃ (k : Nat) (ps : List Addr) (us : List PgD), σ' = [some (.ref a), some (.ref c), some (.ref r), some (.ref L), some (.int (k : Int)), some (.int way), none, none] ∧ WsAt H H' L ps us ∧ BadAt zs us k ∧ 1 ≤ us.length ∧ us.length ≤ 4 ∧ ∀ d ∈ us, SzP (m + 2) d), ?_, ?_⟩
    · have sz' : ∀ d ∈ ds, SzP (m + 2) d := fun d md' => (sz d md').le (by omega)
      have szd := sz d md
      refine ⟨_, rfl, rfl, _, rfl, ite2 (fun e => ?_) (fun e => ?_)⟩
      · refine ⟨_, rfl, _, rfl, _, rfl, _, _, _, _, rfl, rfl, lstAt W.eL, ap, _, _, 0, _, rfl, rfl, lstAt h1, rfl, a, ns, 1, d.nm, rfl, hS1, by decide, by omega, ok.nm d md, fun y ny ly ay => ?_⟩
        refine ⟨_, rfl, _, rfl, _, _, _, _, rfl, rfl, lstAt W.eL, ap, pk, _, 0, 0, rfl, rfl, h1, rfl, ?_⟩
        refine ⟨k, ps, ds.set k ⟨y, d.bids, d.fol⟩, rfl, W.set (e := ⟨y, d.bids, d.fol⟩) hp h2 h3 h4 bL fL, badAt_set kl (by unfold pgBad; rw [nmB_no ny]; rfl) (good k), by rw [List.length_set]; exact d1, by rw [List.length_set]; exact d4, mem_setP sz' ⟨⟨ly, ay⟩, szd.2.1, Nat.le_trans szd.2.2.1 (by omega), szd.2.2.2.1, Nat.le_trans szd.2.2.2.2 (by omega)⟩⟩
      have hS1' := hS1
      refine ⟨_, rfl, rfl, _, rfl, ite2 (fun e2 => ?_) (fun e2 => ?_)⟩
      · have w1 : V.int way = V.int 1 := of_decide_eq_true e2
        refine ⟨_, rfl, L, _, rfl, .inl (lstAt W.eL), rfl, _, rfl, ?_⟩
        by_cases l1 : ds.length = 1
        · rw [decide_eq_true (show V.int (((ps.map V.ref).length : Nat) : Int) = V.int 1 by rw [lp, l1]; rfl)]
          have k0 : k = 0 := by omega
          subst k0
          refine iteT ⟨_, rfl, .inl ⟨rfl, _, lstAt W.eL⟩, _, rfl, _, _, 0, _, rfl, rfl, lstAt W.eL, ap, _, _, 0, _, rfl, rfl, lstAt h1, rfl, Nat.zero_le _, fun g1 n1 => ?_⟩
          have s2 := same_upd (o := .lst []) n1
          have e1 := upd_same (H := H1) (a := g1) (o := .lst [])
          have g1L : g1 ≠ L := (ne_of_none W.eL n1).symm
          generalize upd H1 g1 (.lst []) = H2 at s2 e1 ⊢
          refine ⟨Nat.zero_le _, fun g2 n2 => ?_⟩
          have g2L : g2 ≠ L := (ne_of_none (s2 _ _ W.eL) n2).symm
          have s3 := s2.trans (same_upd (o := .lst []) n2)
          have e12 := (same_upd (o := .lst []) n2) _ _ e1
          have e22 := upd_same (H := H2) (a := g2) (o := .lst [])
          generalize upd H2 g2 (.lst []) = H3 at s3 e12 e22 ⊢
          refine ⟨(show (3 : Nat) ≤ sizeLine by decide), fun g ng => ?_⟩
          have W3 := W.same s3
          have gL : g ≠ L := (ne_of_none W3.eL ng).symm
          have sg := same_upd (o := .lst [vN d.nm, .ref g1, .ref g2]) ng
          have eg := upd_same (H := H3) (a := g) (o := .lst [vN d.nm, .ref g1, .ref g2])
          have nin : g ∉ ps := fun m => by
            obtain ⟨j, hj⟩ := List.getElem?_of_mem m
            obtain ⟨d', _, _, _, _, k1, _⟩ := W3.r.2 j g hj
            rw [ng] at k1; cases k1
          have ngH := none_of W3.s ng
          have e12 := sg _ _ e12
          have e22 := sg _ _ e22
          generalize upd H3 g (.lst [vN d.nm, .ref g1, .ref g2]) = H5 at sg eg e12 e22 ⊢
          have W5 := W3.same sg
          have kL : ∀ c o, H5 c = some o → c ≠ L → (upd H5 L (.lst (ps.map V.ref ++ [.ref g]))) c = some o := fun c o e n => by rw [upd_ne n]; exact e
          have gd : RwS L H5 g ⟨d.nm, [], []⟩ := ⟨g1, g2, [], eg, e12, ⟨rfl, nofun⟩, e22, gL, g1L, g2L⟩
          refine ⟨_, _, _, rfl, rfl, W5.eL, by rw [List.length_map, pl]; exact small1000 (by omega), 1, ps ++ [g], ds ++ [⟨d.nm, [], []⟩], rfl, ⟨same_at W5.s nL, by rw [upd_same, List.map_append]; rfl, ?_, ?_, ?_, nL⟩, ?_, by rw [List.length_append]; omega, by rw [List.length_append]; show ds.length + 1 ≤ 4; omega, fun x m => ?_⟩
          · exact (W5.r.app (.one gd)).mono fun _ _ k => k.go ⟨_, W5.eL⟩ kL
          · refine List.nodup_append.mpr ⟨W.pn, List.nodup_cons.mpr ⟨nofun, List.nodup_nil⟩, fun x mx y my e => ?_⟩
            rw [List.mem_singleton.mp my] at e
            exact nin (e ▸ mx)
          · intro p m
            rcases List.mem_append.mp m with m | m
            · exact W.n0 p m
            · rw [List.mem_singleton.mp m]; exact ngH
          · obtain ⟨d0, rfl⟩ : ∃ d0, ds = [d0] := List.length_eq_one_iff.mp l1
            cases Option.some.inj ed
            refine ⟨_, rfl, ?_, fun j x hj hx => ?_⟩
            · unfold pgBad
              rw [decide_eq_true (show d.nm ∈ (([d] ++ [(⟨d.nm, [], []⟩ : PgD)]).map fun x : PgD => x.nm).take 1 from List.mem_singleton.mpr rfl), Bool.true_or, Bool.or_true]
            · have j0 : j = 0 := by omega
              subst j0
              cases Option.some.inj hx
              exact good 1 0 d (by decide) rfl
          · rcases List.mem_append.mp m with m | m
            · exact sz' x m
            · rw [List.mem_singleton.mp m]
              exact ⟨szd.1, nofun, Nat.zero_le _, nofun, Nat.zero_le _⟩
        · rw [decide_eq_false (show ¬ V.int (((ps.map V.ref).length : Nat) : Int) = V.int 1 from fun z => l1 (by have := V.int.inj z; omega))]
          refine iteF ⟨_, rfl, rfl, _, rfl, ?_⟩
          rw [decide_eq_true w1]
          obtain ⟨k2, hk2, kl2⟩ := mod_nat (a := partOf ns 0 1 12) (n := ds.length - 1) (by omega)
          have hk2 : partOf ns 0 1 12 % ((ds.length : Int) - 1) = (k2 : Int) := by rw [← hk2]; congr 1; omega
          refine iteT ⟨_, rfl, a, ns, 0, 1, 12, rfl, hS1, by decide, by omega, by decide, by decide, by decide, _, rfl, L, _, rfl, .inl (lstAt W.eL), _, _, rfl, rfl, _, _, rfl, rfl, by rw [lp]; show (0 : Int) < (ds.length : Int) - 1; omega, _, _, rfl, rfl, ?_⟩
          rw [lp, show (fun i j => V.int (i + j)) 1 (partOf ns 0 1 12 % ((ds.length : Int) - 1)) = V.int ((k2 + 1 : Nat) : Int) from congrArg V.int (by rw [hk2]; omega)]
          obtain ⟨pk2, dk2, b2, f2, es2, hp2, ap2, ed2, g1, g2, g3, g4, b2L, f2L⟩ := row H1 ps ds (k2 + 1) W (by omega)
          obtain ⟨k3, hk3, kl3⟩ := mod_nat (a := partOf ns 0 48 12) (n := k2 + 1) (by omega)
          obtain ⟨pk3, dk3, b3, f3, es3, hp3, ap3, ed3, m1, _⟩ := row H1 ps ds k3 W (by omega)
          refine ⟨_, rfl, _, rfl, a, ns, 0, 48, 12, rfl, hS1, by decide, by omega, by decide, by decide, by decide, _, rfl, _, _, rfl, rfl, by omega, ?_⟩
          rw [show (fun i j => V.int (i % j)) (partOf ns 0 48 12) ((k2 + 1 : Nat) : Int) = V.int (k3 : Int) from congrArg V.int hk3]
          refine ⟨_, _, _, _, rfl, rfl, lstAt W.eL, ap3, _, _, 0, _, rfl, rfl, lstAt m1, rfl, _, rfl, _, rfl, _, _, _, _, rfl, rfl, lstAt W.eL, ap2, pk2, _, 0, 0, rfl, rfl, g1, rfl, ?_⟩
          have szd2 := sz dk2 (List.mem_of_getElem? ed2)
          have seen : dk3.nm ∈ (ds.map fun x : PgD => x.nm).take (k2 + 1) := List.mem_of_getElem? (i := k3) (by rw [List.getElem?_take_of_lt (by omega), List.getElem?_map, ed3]; rfl)
          exact ⟨k2 + 1, ps, ds.set (k2 + 1) ⟨dk3.nm, dk2.bids, dk2.fol⟩, rfl, W.set (e := ⟨dk3.nm, dk2.bids, dk2.fol⟩) hp2 g2 g3 g4 b2L f2L, badAt_set (by omega) (by unfold pgBad; rw [decide_eq_true seen, Bool.true_or, Bool.or_true]) (good _), by rw [List.length_set]; exact d1, by rw [List.length_set]; exact d4, mem_setP sz' ⟨(sz dk3 (List.mem_of_getElem? ed3)).1, szd2.2.1, Nat.le_trans szd2.2.2.1 (by omega), szd2.2.2.2.1, Nat.le_trans szd2.2.2.2.2 (by omega)⟩⟩
      · refine ⟨_, rfl, rfl, _, rfl, ite2 (fun e3 => absurd e3 e2) (fun e3 => ?_)⟩
        refine ⟨_, rfl, _, rfl, _, rfl, _, rfl, _, _, _, _, rfl, rfl, lstAt W.eL, ap, _, _, 1, _, rfl, rfl, lstAt h1, rfl, a, c, b, ns, 3, zs, es, d.bids, rfl, hS1, by decide, by omega, W.s _ _ hC, z1, by omega, zn, h2, h3, by have := szd.2.2.1; omega, szd.2.1, fun H3 D fs us' nD s3 eD hb' bb ul uk => ?_⟩
        have W3 := W.same s3
        refine ⟨_, rfl, _, rfl, _, _, _, _, rfl, rfl, lstAt W3.eL, ap, pk, _, 1, 1, rfl, rfl, s3 _ _ h1, rfl, ?_⟩
        exact ⟨k, ps, ds.set k ⟨d.nm, us', d.fol⟩, rfl, W3.set (e := ⟨d.nm, us', d.fol⟩) hp eD hb' (s3 _ _ h4) (ne_of_none W.eL nD).symm fL, badAt_set kl (by unfold pgBad; rw [bb, Bool.not_false, Bool.or_true, Bool.or_true]) (good k), by rw [List.length_set]; exact d1, by rw [List.length_set]; exact d4, mem_setP sz' ⟨szd.1, uk, by have := szd.2.2.1; show us'.length ≤ m + 2; omega, szd.2.2.2.1, Nat.le_trans szd.2.2.2.2 (by omega)⟩⟩
    rintro σ' H2 ⟨k, ps, us, rfl, W, bad, u1, u4, sz2⟩
    clear ap ed h1 h2 h3 h4 hp kl hk pl lp hS1
    have hS2 := W.s.seq hS
    have o0 := part_lo (ns := ns) (s := 0) (u := 576) (z := 8) (by decide)
    obtain ⟨o, ho⟩ : ∃ o : Nat, partOf ns 0 576 8 = (o : Int) := ⟨(partOf ns 0 576 8).toNat, by omega⟩
    refine ⟨_, rfl, a, ns, 0, 576, 8, rfl, hS2, by decide, by omega, by decide, by decide, by decide, ?_⟩
    rw [ho]
    have lp : (((ps.map V.ref).length : Nat) : Int) = (us.length : Int) := by rw [List.length_map, W.r.1]
    refine ⟨(fun σ' H' => ∃ (k : Nat) (us : List PgD), σ' = [some (.ref a), some (.ref c), some (.ref r), some (.ref L), some (.int (k : Int)), some (.int way), some (.int (o : Int)), none] ∧ WsAt H H' L ps us ∧ BadAt zs us k ∧ 1 ≤ us.length ∧ us.length ≤ 4 ∧ ∀ d ∈ us, SzP (m + 4) d), ?_, ?_⟩
    · refine ⟨_, rfl, _, rfl, L, _, rfl, .inl (lstAt W.eL), _, _, rfl, rfl, _, rfl, ite2 (fun e => ?_) (fun e => ?_)⟩
      · have e := of_decide_eq_true e
        rw [lp] at e
        obtain ⟨pk, d, b, ff, es, hp, ap, ed, h1, h2, h3, h4, bL, fL⟩ := row H2 ps us o W (by omega)
        have md := List.mem_of_getElem? ed
        have szd := sz2 d md
        refine ⟨_, rfl, _, rfl, _, rfl, _, rfl, _, _, _, _, rfl, rfl, lstAt W.eL, ap, _, _, 1, _, rfl, rfl, lstAt h1, rfl, a, c, b, ns, 7, zs, es, d.bids, rfl, hS2, by decide, by omega, W.s _ _ hC, z1, by omega, zn, h2, h3, by have := szd.2.2.1; omega, szd.2.1, fun H3 D fs us' nD s3 eD hb' bb ul uk => ?_⟩
        have W3 := W.same s3
        refine ⟨_, rfl, _, rfl, _, _, _, _, rfl, rfl, lstAt W3.eL, ap, pk, _, 1, 1, rfl, rfl, s3 _ _ h1, rfl, ?_⟩
        refine ⟨_, rfl, _, rfl, _, _, rfl, ?_⟩
        rw [show (if (o : Int) < (k : Int) then (o : Int) else (k : Int)) = ((min k o : Nat) : Int) by split <;> omega]
        exact ⟨min k o, us.set o ⟨d.nm, us', d.fol⟩, rfl, W3.set (e := ⟨d.nm, us', d.fol⟩) hp eD hb' (s3 _ _ h4) (ne_of_none W.eL nD).symm fL, badAt_bids bad ed bb, by rw [List.length_set]; exact u1, by rw [List.length_set]; exact u4, mem_setP (fun d md' => (sz2 d md').le (by omega)) ⟨szd.1, uk, by have := szd.2.2.1; show us'.length ≤ m + 4; omega, szd.2.2.2.1, Nat.le_trans szd.2.2.2.2 (by omega)⟩⟩
      · exact ⟨k, us, rfl, W, bad, u1, u4, fun d md' => (sz2 d md').le (by omega)⟩
    rintro σ' H3 ⟨k, us, rfl, W, bad, u1, u4, sz2⟩
    refine ⟨_, rfl, _, rfl, (show (2 : Nat) ≤ sizeLine by decide), fun t nt => ?_⟩
    have W4 := W.same (same_upd (o := .tup [V.ref L, .int (k : Int)]) nt)
    exact q _ t L ps us k W4.s upd_same W4.eL W4.r u1 u4 bad.goP sz2
end
end TK

/-! followers that are wrong; too many pages -/
namespace TK
open PySem PySem.Spec PyProof.Rows L2
def FolAt (ts : List Nam) (us : List PgD) (k : Nat) : Prop := ∃ d, us[k]? = some d ∧ picksB d.fol ts = false ∧ ∀ (j : Nat) (d : PgD), j < k → us[j]? = some d → picksB d.fol ts = true
theorem FolAt.goF {ts : List Nam} {us : List PgD} {k : Nat} (h : FolAt ts us k) : goF ts 0 us = some (.book "followers" k) := by
  obtain ⟨d, e, b, g⟩ := h
  exact goF_first e b g
theorem folAt_set {ts : List Nam} {us : List PgD} {k : Nat} {e : PgD} (hk : k < us.length) (bad : picksB e.fol ts = false) (h : ∀ (j : Nat) (d : PgD), j < k → us[j]? = some d → picksB d.fol ts = true) : FolAt ts (us.set k e) k :=
  ⟨e, by rw [List.getElem?_set_self hk], bad, fun j d hj hd => h j d hj (by rw [List.getElem?_set_ne (by omega)] at hd; exact hd)⟩
theorem folAt_more {ts : List Nam} {us : List PgD} {k o : Nat} {e : PgD} (h : FolAt ts us k) (ho : o < us.length) (bad : picksB e.fol ts = false) : FolAt ts (us.set o e) (min k o) := by
  obtain ⟨dk, ek, bk, gk⟩ := h
  by_cases c : o ≤ k
  · rw [Nat.min_eq_right c]
    exact folAt_set ho bad fun j x hj hx => gk j x (by omega) hx
  · rw [Nat.min_eq_left (by omega)]
    exact ⟨dk, by rw [List.getElem?_set_ne (by omega)]; exact ek, bk, fun j x hj hx => gk j x hj (by rw [List.getElem?_set_ne (by omega)] at hx; exact hx)⟩
abbrev keyN (d : PgD) : Nam × List BidD := (d.nm, d.bids)
theorem key_set {us : List PgD} {k : Nat} {d e : PgD} (h : us[k]? = some d) (n : keyN e = keyN d) : (us.set k e).map keyN = us.map keyN := by
  rw [List.map_set, n]
  refine List.ext_getElem? fun i => ?_
  by_cases c : k = i
  · subst c
    have hi := (List.getElem?_eq_some_iff.mp h).1
    rw [List.getElem?_set_self (by rw [List.length_map]; exact hi), List.getElem?_map, h]; rfl
  · rw [List.getElem?_set_ne c]
theorem key_nm {us ds : List PgD} (h : us.map keyN = ds.map keyN) : (us.map fun x : PgD => x.nm) = ds.map fun x : PgD => x.nm := by
  have := congrArg (List.map Prod.fst) h
  rw [List.map_map, List.map_map] at this
  exact this
theorem PgOk.key {zs : List Nam} {us ds : List PgD} (h : PgOk zs ds) (e : us.map keyN = ds.map keyN) : PgOk zs us := by
  have l : us.length = ds.length := by have := congrArg List.length e; rwa [List.length_map, List.length_map] at this
  have to : ∀ d ∈ us, ∃ x ∈ ds, keyN x = keyN d := fun d m => List.mem_map.mp (e ▸ List.mem_map.mpr ⟨d, m, rfl⟩)
  refine ⟨by rw [l]; exact h.l1, by rw [l]; exact h.l4, fun d m => ?_, by rw [key_nm e]; exact h.nd, fun d m => ?_⟩
  · obtain ⟨x, mx, ex⟩ := to d m
    have := h.nm x mx
    rwa [(Prod.mk.inj ex).1] at this
  · obtain ⟨x, mx, ex⟩ := to d m
    have := h.b x mx
    rwa [(Prod.mk.inj ex).2] at this
section
variable {P : Program} {w : World} {K : PySem.W.Frag} {mg : Str → Option Value} {base : Heap}
def spWrongF (K : PySem.W.Frag) : Sp := fun vs H Q _ => ∃ (a c r : Addr) (ns : List Int) (ts : List Nam) (rs : List Addr) (ds : List PgD), vs = [.ref a, .ref c, .ref r] ∧ SqL K H a (ns.map V.int) ∧ ns.length = 16 ∧ H c = some (.lst (ts.map vN)) ∧ 1 ≤ ts.length ∧ ts.length ≤ 4 ∧ (∀ z ∈ ts, Nm z) ∧ H r = some (.lst (rs.map V.ref)) ∧ AllAt (RwS r) H rs ds ∧ 1 ≤ ds.length ∧ ds.length ≤ 4 ∧ (∀ d ∈ ds, picksB d.fol ts = true) ∧ (∃ m : Nat, m ≤ 8 ∧ (∀ d ∈ ds, SzP m d) ∧
  ∀ (H' : Hp) (t L : Addr) (ps : List Addr) (us : List PgD) (k : Nat), Same H H' → H' t = some (.tup [.ref L, .int (k : Nat)]) → H' L = some (.lst (ps.map V.ref)) → AllAt (RwS L) H' ps us → us.map keyN = ds.map keyN → goF ts 0 us = some (.book "followers" k) → (∀ d ∈ us, SzP (m + 4) d) → Q (.ref t) H')
theorem ok_L_wrong_followers {f : Addr} {fd : FuncData} (F : Fun K "_law_wrong_followers" "_law_wrong_followers" s_L_wrong_followers f fd) (m_len : mg "len" = none) (m_list : mg "list" = none) (m_min : mg "min" = none) (d_L_part : Def P w K mg base "_law_part" 1 ["_law_pool_here", "_law_spot", "_law_under", "_law_size"] (spPart K))
    (d_L_wrong_names : Def P w K mg base "_law_wrong_names" 4 ["_law_pool_here", "_law_spot", "_law_known", "_law_row"] (spWrongN K)) : FnOk P w K mg base CX0 5 f fd ["_law_pool_here", "_law_titles", "_law_rows"] (spWrongF K) := by
  refine F.ok sc_L_wrong_followers (fun vs H Q E h => ?_) (fun cdv A outer s H vs Q E hr h => ?_)
  · obtain ⟨a, c, r, ns, zs, rs, ds, rfl, _⟩ := h
    rfl
  · obtain ⟨a, c, r, ns, ts, rs, ds, rfl, hS, nl, hC, z1, z4, zn, hR, hD, d1, d4, ok, m, m8, sz, q⟩ := h
    have rl : (rs.map V.ref).length = ds.length := by rw [List.length_map, hD.1]
    refine ⟨_, (pss_cons (ps_setLc (i := 3) (own := [("_law_row", 6)]) (by rfl) sc_L_wrong_followers.nd rfl rfl (sw_true rfl rfl rfl (by decide +kernel)) (pi_list (pv 2)) (blkOk_by (N := ["_law_pool_here", "_law_titles", "_law_rows", "_law_worse", "_law_place", "_law_other", "_law_row"]) (sc := defScope s_L_wrong_followers) (by decide +kernel)) (fun _ _ _ _ _ => (pg_name (i := 6) sc_L_wrong_followers.nd rfl (.inl rfl))) (fun _ _ _ _ _ => pts_nil) (fun _ _ _ _ _ => (pe_callTy (call_list_ofK (K := K) rfl) (by rfl) m_list (by decide +kernel) (pa_cons (pv 6) pa_nil))))
  (pss_cons (ps_set (i := 4) sc_L_wrong_followers.nd rfl (.inl rfl) (pe_op op_mod (pe_callD d_L_part (hr.mono (by decide)) (by rfl) (pa_cons (pv 0) (pa_cons pe_int (pa_cons pe_int (pa_cons pe_int pa_nil))))) (pe_callB call_len_seq (by rfl) m_len (by decide +kernel) (pa_cons (pv 3) pa_nil))))
  (pss_cons (ps_asg (pe_callD d_L_wrong_names (hr.mono (by decide)) (by rfl) (pa_cons (pv 0) (pa_cons pe_int (pa_cons (pv 1) (pa_cons (pe_ix ix_list (pe_ix ix_list (pv 3) (pv 4) (fun _ _ => rfl)) pe_int (fun _ _ => rfl)) pa_nil))))) (pg_sub (pe_ix ix_list (pv 3) (pv 4) (fun _ _ => rfl)) pe_int set_list))
  (pss_cons (ps_set (i := 5) sc_L_wrong_followers.nd rfl (.inl rfl) (pe_callD d_L_part (hr.mono (by decide)) (by rfl) (pa_cons (pv 0) (pa_cons pe_int (pa_cons pe_int (pa_cons pe_int pa_nil))))))
  (pss_cons (ps_cut (ps_if (pt_cmpR op_lt (pv 5) (pe_callB call_len_seq (by rfl) m_len (by decide +kernel) (pa_cons (pv 3) pa_nil)) (nomark _)) (pss_cons (ps_asg (pe_callD d_L_wrong_names (hr.mono (by decide)) (by rfl) (pa_cons (pv 0) (pa_cons pe_int (pa_cons (pv 1) (pa_cons (pe_ix ix_list (pe_ix ix_list (pv 3) (pv 5) (fun _ _ => rfl)) pe_int (fun _ _ => rfl)) pa_nil))))) (pg_sub (pe_ix ix_list (pv 3) (pv 5) (fun _ _ => rfl)) pe_int set_list))
  (pss_one (ps_set (i := 4) sc_L_wrong_followers.nd rfl (.inl rfl) (pe_callB (call_min2 rfl) (by rfl) m_min (by decide +kernel) (pa_cons (pv 4) (pa_cons (pv 5) pa_nil)))))) pss_nil))
  (pss_one (ps_ret (pe_tup (pa_cons (pv 3) (pa_cons (pv 4) pa_nil)))))))))), ?_⟩
    refine ⟨_, rfl, r, rfl, ⟨_, lstAt hR⟩, fun L nL => ?_⟩
    refine lc_list (K := K) (a := r) (xs := rs.map V.ref) (fun i H' => ∃ ps : List Addr, WsAt H H' L ps (ds.take i)) ⟨[], same_upd nL, upd_same, .nil, List.nodup_nil, nofun, nL⟩ (fun i H' _ hq => by obtain ⟨_, s⟩ := hq; exact lstAt (s.s _ _ hR)) (fun i v H' hv hq => ?_) (fun H1 hq => ?_)
    · obtain ⟨ps, W⟩ := hq
      obtain ⟨e, d, rfl, ed, bb, ff, es, h1, h2, h3, h4, _⟩ := all_at hD hv
      have hi := (List.getElem?_eq_some_iff.mp ed).1
      have pl : ps.length = i := by rw [W.r.1, List.length_take]; omega
      refine ⟨rfl, yesT ⟨_, rfl, e, _, rfl, .inl (lstAt (W.s _ _ h1)), fun g ng => ?_⟩⟩
      have sg := same_upd (o := .lst [vN d.nm, .ref bb, .ref ff]) ng
      have eg := upd_same (H := H') (a := g) (o := .lst [vN d.nm, .ref bb, .ref ff])
      have nin : g ∉ ps := fun m => by
        obtain ⟨j, hj⟩ := List.getElem?_of_mem m
        obtain ⟨d', _, _, _, _, k1, _⟩ := W.r.2 j g hj
        rw [ng] at k1; cases k1
      have gL : g ≠ L := (ne_of_none W.eL ng).symm
      have ngH := none_of W.s ng
      generalize upd H' g (.lst [vN d.nm, .ref bb, .ref ff]) = H5 at sg eg ⊢
      have W5 := W.same sg
      have kL : ∀ c o, H5 c = some o → c ≠ L → (upd H5 L (.lst (ps.map V.ref ++ [.ref g]))) c = some o := fun c o e n => by rw [upd_ne n]; exact e
      have gd : RwS L H5 g d := ⟨bb, ff, es, eg, W5.s _ _ h2, h3.same W5.s, W5.s _ _ h4, gL, ne_of_none h2 nL, ne_of_none h4 nL⟩
      refine ⟨_, W5.eL, by rw [List.length_map, pl]; exact small1000 (by omega), ps ++ [g], same_at W5.s nL, by rw [upd_same, List.map_append]; rfl, ?_, ?_, ?_, nL⟩
      · rw [List.take_add_one, ed]
        exact (W5.r.app (.one gd)).mono fun _ _ k => k.go ⟨_, W5.eL⟩ kL
      · refine List.nodup_append.mpr ⟨W.pn, List.nodup_cons.mpr ⟨nofun, List.nodup_nil⟩, fun x mx y my e => ?_⟩
        rw [List.mem_singleton.mp my] at e
        exact nin (e ▸ mx)
      · intro p m
        rcases List.mem_append.mp m with m | m
        · exact W.n0 p m
        · rw [List.mem_singleton.mp m]; exact ngH
    obtain ⟨ps, W⟩ := hq
    rw [rl, List.take_length] at W
    have pl : ps.length = ds.length := W.r.1
    have lp : (((ps.map V.ref).length : Nat) : Int) = (ds.length : Int) := by rw [List.length_map, pl]
    have hS1 := W.s.seq hS
    obtain ⟨k, hk, kl⟩ := mod_nat (a := partOf ns 0 1 12) (n := ds.length) (by omega)
    refine ⟨_, rfl, a, ns, 0, 1, 12, rfl, hS1, by decide, by omega, by decide, by decide, by decide, _, rfl, L, _, rfl, .inl (lstAt W.eL), _, _, rfl, rfl, by rw [lp]; omega, ?_⟩
    rw [lp, show (fun i j => V.int (i % j)) (partOf ns 0 1 12) (ds.length : Int) = V.int (k : Int) from congrArg V.int hk]
    -- a row at a place
    have row : ∀ (H' : Hp) (ps : List Addr) (us : List PgD) (k : Nat), WsAt H H' L ps us → k < us.length → ∃ pk d b f es, ps[k]? = some pk ∧ atI (ps.map V.ref) (k : Int) = some (.ref pk) ∧ us[k]? = some d ∧ H' pk = some (.lst [vN d.nm, .ref b, .ref f]) ∧ H' b = some (.lst (es.map V.ref)) ∧ BidsAt H' es d.bids ∧ H' f = some (.lst (d.fol.map vN)) ∧ b ≠ L ∧ f ≠ L := fun H' ps us k W hk => by
      have kp : k < ps.length := by rw [W.r.1]; exact hk
      obtain ⟨d, ed, b, f, es, h1, h2, h3, h4, h5, h6, h7⟩ := W.r.2 k _ (List.getElem?_eq_getElem kp)
      exact ⟨ps[k], d, b, f, es, List.getElem?_eq_getElem kp, atI_nat (by rw [List.getElem?_map, List.getElem?_eq_getElem kp]; rfl), ed, h1, h2, h3, h4, h6, h7⟩
    obtain ⟨pk, d, b, ff, es, hp, ap, ed, h1, h2, h3, h4, bL, fL⟩ := row H1 ps ds k W kl
    have md := List.mem_of_getElem? ed
    have szd := sz d md
    refine ⟨_, rfl, _, rfl, _, rfl, _, rfl, _, _, _, _, rfl, rfl, lstAt W.eL, ap, _, _, 2, _, rfl, rfl, lstAt h1, rfl, a, c, ff, ns, 1, ts, d.fol, rfl, hS1, by decide, by omega, W.s _ _ hC, z1, by omega, zn, h4, by have := szd.2.2.2.2; omega, szd.2.2.2.1, fun H2 D ys nD s2 eD bad yl yk => ?_⟩
    have W2 := W.same s2
    refine ⟨_, rfl, _, rfl, _, _, _, _, rfl, rfl, lstAt W2.eL, ap, pk, _, 2, 2, rfl, rfl, s2 _ _ h1, rfl, ?_⟩
    have W3 := W2.set (e := ⟨d.nm, d.bids, ys⟩) hp (s2 _ _ h2) (h3.same s2) eD bL (ne_of_none W.eL nD).symm
    have F3 : FolAt ts (ds.set k ⟨d.nm, d.bids, ys⟩) k := folAt_set kl bad fun j x _ hx => ok x (List.mem_of_getElem? hx)
    have K3 : (ds.set k ⟨d.nm, d.bids, ys⟩).map keyN = ds.map keyN := key_set ed rfl
    have sz3 : ∀ x ∈ ds.set k ⟨d.nm, d.bids, ys⟩, SzP (m + 2) x := mem_setP (fun x mx => (sz x mx).le (by omega)) ⟨szd.1, szd.2.1, Nat.le_trans szd.2.2.1 (by omega), yk, by have := szd.2.2.2.2; show ys.length ≤ m + 2; omega⟩
    generalize ds.set k ⟨d.nm, d.bids, ys⟩ = us at W3 F3 K3 sz3
    show _
    change WsAt H (upd H2 pk (.lst [vN d.nm, .ref b, .ref D])) L ps us at W3
    change tSeq _ _ _ _ (upd H2 pk (.lst [vN d.nm, .ref b, .ref D]))
    generalize upd H2 pk (.lst [vN d.nm, .ref b, .ref D]) = H4 at W3 ⊢
    have ul : us.length = ds.length := by have := congrArg List.length K3; rwa [List.length_map, List.length_map] at this
    have lp : (((ps.map V.ref).length : Nat) : Int) = (us.length : Int) := by rw [List.length_map, W3.r.1]
    have hS2 := W3.s.seq hS
    have o0 := part_lo (ns := ns) (s := 0) (u := 12) (z := 6) (by decide)
    obtain ⟨o, ho⟩ : ∃ o : Nat, partOf ns 0 12 6 = (o : Int) := ⟨(partOf ns 0 12 6).toNat, by omega⟩
    refine ⟨_, rfl, a, ns, 0, 12, 6, rfl, hS2, by decide, by omega, by decide, by decide, by decide, ?_⟩
    rw [ho]
    refine ⟨(fun σ' H' => ∃ (k : Nat) (us : List PgD), σ' = [some (.ref a), some (.ref c), some (.ref r), some (.ref L), some (.int (k : Int)), some (.int (o : Int)), none] ∧ WsAt H H' L ps us ∧ FolAt ts us k ∧ us.map keyN = ds.map keyN ∧ ∀ d ∈ us, SzP (m + 4) d), ?_, ?_⟩
    · refine ⟨_, rfl, _, rfl, L, _, rfl, .inl (lstAt W3.eL), _, _, rfl, rfl, _, rfl, ite2 (fun e => ?_) (fun e => ?_)⟩
      · have e := of_decide_eq_true e
        rw [lp] at e
        obtain ⟨pk, d, b, ff, es, hp, ap, ed, h1, h2, h3, h4, bL, fL⟩ := row H4 ps us o W3 (by omega)
        have szd := sz3 d (List.mem_of_getElem? ed)
        refine ⟨_, rfl, _, rfl, _, rfl, _, rfl, _, _, _, _, rfl, rfl, lstAt W3.eL, ap, _, _, 2, _, rfl, rfl, lstAt h1, rfl, a, c, ff, ns, 6, ts, d.fol, rfl, hS2, by decide, by omega, W3.s _ _ hC, z1, by omega, zn, h4, by have := szd.2.2.2.2; omega, szd.2.2.2.1, fun H5 D ys nD s5 eD bad yl yk => ?_⟩
        have W5 := W3.same s5
        refine ⟨_, rfl, _, rfl, _, _, _, _, rfl, rfl, lstAt W5.eL, ap, pk, _, 2, 2, rfl, rfl, s5 _ _ h1, rfl, ?_⟩
        refine ⟨_, rfl, _, rfl, _, _, rfl, ?_⟩
        rw [show (if (o : Int) < (k : Int) then (o : Int) else (k : Int)) = ((min k o : Nat) : Int) by split <;> omega]
        exact ⟨min k o, us.set o ⟨d.nm, d.bids, ys⟩, rfl, W5.set (e := ⟨d.nm, d.bids, ys⟩) hp (s5 _ _ h2) (h3.same s5) eD bL (ne_of_none W3.eL nD).symm, folAt_more F3 (by omega) bad, (key_set (e := ⟨d.nm, d.bids, ys⟩) ed rfl).trans K3, mem_setP (fun d md => (sz3 d md).le (by omega)) ⟨szd.1, szd.2.1, Nat.le_trans szd.2.2.1 (by omega), yk, by have := szd.2.2.2.2; show ys.length ≤ m + 4; omega⟩⟩
      · exact ⟨k, us, rfl, W3, F3, K3, fun d md => (sz3 d md).le (by omega)⟩
    rintro σ' H3 ⟨k, us, rfl, W, bad, kk, sz2⟩
    refine ⟨_, rfl, _, rfl, (show (2 : Nat) ≤ sizeLine by decide), fun t nt => ?_⟩
    have W4 := W.same (same_upd (o := .tup [V.ref L, .int (k : Int)]) nt)
    exact q _ t L ps us k W4.s upd_same W4.eL W4.r kk bad.goF sz2
end
end TK

/-! too many pages -/
namespace TK
open PySem PySem.Spec PyProof.Rows L2
theorem RwS.mv {D G : Addr} {H : Hp} {p : Addr} {d : PgD} (h : RwS D H p d) (n : H G = none) : RwS G H p d := by
  obtain ⟨b, f, es, h1, h2, h3, h4, h5, h6, h7⟩ := h
  exact ⟨b, f, es, h1, h2, h3, h4, ne_of_none h1 n, ne_of_none h2 n, ne_of_none h4 n⟩
section
variable {P : Program} {w : World} {K : PySem.W.Frag} {mg : Str → Option Value} {base : Heap}
def spWrongC (K : PySem.W.Frag) : Sp := fun vs H Q _ => ∃ (a r : Addr) (ns : List Int) (rs : List Addr) (ds : List PgD), vs = [.ref a, .ref r] ∧ SqL K H a (ns.map V.int) ∧ ns.length = 16 ∧ H r = some (.lst (rs.map V.ref)) ∧ AllAt (RwS r) H rs ds ∧ 1 ≤ ds.length ∧ ds.length ≤ 4 ∧ (∃ m : Nat, (∀ d ∈ ds, SzP m d) ∧
  ∀ (H' : Hp) (L : Addr) (ps : List Addr) (us : List PgD), Same H H' → H' L = some (.lst (ps.map V.ref)) → AllAt (RwS L) H' ps us → us.length ≤ 7 → ¬ (1 ≤ (us.length : Int) ∧ (us.length : Int) ≤ 4) → (∀ d ∈ us, SzP m d) → Q (.ref L) H')
theorem ok_L_wrong_count {f : Addr} {fd : FuncData} (F : Fun K "_law_wrong_count" "_law_wrong_count" s_L_wrong_count f fd) (m_len : mg "len" = none) (m_list : mg "list" = none) (m_range : mg "range" = none) (d_L_part : Def P w K mg base "_law_part" 1 ["_law_pool_here", "_law_spot", "_law_under", "_law_size"] (spPart K))
    (d_L_strange : Def P w K mg base "_law_strange" 1 ["_law_names_here"] (spStrange K)) : FnOk P w K mg base CX0 2 f fd ["_law_pool_here", "_law_rows"] (spWrongC K) := by
  refine F.ok sc_L_wrong_count (fun vs H Q E h => ?_) (fun cdv A outer s H vs Q E hr h => ?_)
  · obtain ⟨a, r, ns, rs, ds, rfl, _⟩ := h
    rfl
  · obtain ⟨a, r, ns, rs, ds, rfl, hS, nl, hR, hD, d1, d4, m, sz, q⟩ := h
    have n0 := part_lo (ns := ns) (s := 0) (u := 2) (z := 3) (by decide)
    have n3 := part_hi (ns := ns) (s := 0) (u := 2) (z := 3) (by decide)
    refine ⟨_, (pss_cons (ps_if (pt_cmpR op_eq (pe_callD d_L_part (hr.mono (by decide)) (by rfl) (pa_cons (pv 0) (pa_cons pe_int (pa_cons pe_int (pa_cons pe_int pa_nil))))) pe_int (nomark _)) (pss_one (ps_ret (pe_lst pa_nil))) pss_nil)
  (pss_cons (ps_set (i := 2) sc_L_wrong_count.nd rfl (.inl rfl) (pe_callTy call_list_of (by rfl) m_list (by decide +kernel) (pa_cons (pv 1) pa_nil)))
  (pss_cons (ps_for PassesOwn.never rfl (pi_range1 (by rfl) m_range (pa_cons pe_int pa_nil)) (pg_name (i := 3) sc_L_wrong_count.nd rfl (.inl rfl))
    (pss_one (ps_if (pt_cmpR op_lt (pe_callB call_len_seq (by rfl) m_len (by decide +kernel) (pa_cons (pv 2) pa_nil)) (pe_op op_add pe_int (pe_callD d_L_part (hr.mono (by decide)) (by rfl) (pa_cons (pv 0) (pa_cons pe_int (pa_cons pe_int (pa_cons pe_int pa_nil)))))) (nomark _)) (pss_one (ps_expr (pe_bm PySem.F.plainAttrs_list PySem.F.slot_list_append PySem.F.type_list_append mt_append (pv 2) (pa_cons (pe_lst (pa_cons (pe_callD d_L_strange (hr.mono (by decide)) (by rfl) (pa_cons (pe_lc (own := [("_law_row", 4)]) (by rfl) sc_L_wrong_count.nd (pi_list (pv 2)) (blkOk_by (N := ["_law_pool_here", "_law_rows", "_law_more", "_law_k", "_law_row"]) (sc := defScope s_L_wrong_count) (by decide +kernel)) (fun _ _ _ _ _ => (pg_name (i := 4) sc_L_wrong_count.nd rfl (.inl rfl))) (fun _ _ _ _ _ => pts_nil) (fun _ _ _ _ _ => (pe_ix (ix_listK (K := K) rfl) (pv 4) pe_int (fun _ _ => rfl)))) pa_nil)) (pa_cons (pe_lst pa_nil) (pa_cons (pe_lst pa_nil) pa_nil)))) pa_nil)))) pss_nil)))
  (pss_one (ps_ret (pv 2)))))), ?_⟩
    refine ⟨_, rfl, a, ns, 0, 1, 2, rfl, hS, by decide, by omega, by decide, by decide, by decide, rfl, _, rfl, ite2 (fun e => ?_) (fun e => ?_)⟩
    · exact ⟨Nat.zero_le _, fun L nL => q _ L [] [] (same_upd nL) upd_same ⟨rfl, nofun⟩ (by decide) (by decide) nofun⟩
    refine ⟨_, rfl, r, _, rfl, .inl (lstAt hR), fun M nM => ?_⟩
    have s1 := same_upd (o := .lst (rs.map V.ref)) nM
    have eM := upd_same (H := H) (a := M) (o := .lst (rs.map V.ref))
    have hD1 : AllAt (RwS M) (upd H M (.lst (rs.map V.ref))) rs ds := hD.mono fun _ _ k => ((k.mv nM).same s1)
    generalize upd H M (.lst (rs.map V.ref)) = H1 at s1 eM hD1 ⊢
    obtain ⟨n, hn⟩ : ∃ n : Nat, 5 + partOf ns 0 2 3 = (n : Int) := ⟨(5 + partOf ns 0 2 3).toNat, by omega⟩
    refine ⟨8, rfl, by decide, by decide, for_range (fun i σ H' => ∃ (ps : List Addr) (us : List PgD) (y3 : Option V), σ = [some (.ref a), some (.ref r), some (.ref M), y3, none] ∧ Same H H' ∧ H' M = some (.lst (ps.map V.ref)) ∧ AllAt (RwS M) H' ps us ∧ us.length = min n (ds.length + i) ∧ ∀ d ∈ us, SzP m d) ⟨rs, ds, _, rfl, s1, eM, hD1, by omega, sz⟩ ?_ ?_⟩
    · rintro i σ H5 hi ⟨ps, us, y3, rfl, s5, eM5, hU, ul, uk⟩
      have hi : i < 8 := hi
      have lp : (((ps.map V.ref).length : Nat) : Int) = (us.length : Int) := by rw [List.length_map, hU.1]
      have pl : (ps.map V.ref).length = us.length := by rw [List.length_map, hU.1]
      refine ⟨_, rfl, M, _, rfl, .inl (lstAt eM5), _, rfl, a, ns, 0, 2, 3, rfl, s5.seq hS, by decide, by omega, by decide, by decide, by decide, _, _, rfl, rfl, _, _, rfl, rfl, _, rfl, ite2 (fun e => ?_) (fun e => ?_)⟩
      · have e : (((ps.map V.ref).length : Nat) : Int) < 5 + partOf ns 0 2 3 := of_decide_eq_true e
        rw [lp, hn] at e
        refine ⟨_, rfl, .inl ⟨rfl, _, lstAt eM5⟩, _, rfl, M, rfl, ⟨_, lstAt eM5⟩, fun D nD => ?_⟩
        refine lc_list (K := K) (a := M) (xs := ps.map V.ref) (fun i H' => Same H5 H' ∧ H' D = some (.lst (((us.map (fun x : PgD => x.nm)).take i).map vN))) ⟨same_upd nD, upd_same⟩ (fun i H' _ hq => lstAt (hq.1 _ _ eM5)) (fun i v H' hv hq => ?_) (fun H6 hq => ?_)
        · obtain ⟨s6, eD⟩ := hq
          obtain ⟨p, d, rfl, ed, bb, ff, es, h1, _⟩ := all_at hU hv
          have hi := (List.getElem?_eq_some_iff.mp ed).1
          refine ⟨rfl, yesT ⟨_, rfl, _, _, 0, vN d.nm, rfl, rfl, lstAt (s6 _ _ h1), rfl, _, eD, by rw [List.length_map, List.length_take, List.length_map]; exact small1000 (by omega), same_at s6 nD, ?_⟩⟩
          rw [List.take_add_one, List.getElem?_map, ed, List.map_append]
          exact upd_same
        obtain ⟨s6, eD⟩ := hq
        rw [pl, show us.length = (us.map (fun x : PgD => x.nm)).length from (List.length_map ..).symm, List.take_length] at eD
        refine ⟨D, us.map (fun x : PgD => x.nm), rfl, lstAt eD, by rw [List.length_map]; omega, fun c hc nin => ?_⟩
        have eM6 := s6 _ _ eM5
        refine ⟨Nat.zero_le _, fun g1 n1 => ?_⟩
        have s7 := s6.trans (same_upd (o := .lst []) n1)
        have e1 := upd_same (H := H6) (a := g1) (o := .lst [])
        have g1L : g1 ≠ M := (ne_of_none eM6 n1).symm
        generalize upd H6 g1 (.lst []) = H7 at s7 e1 ⊢
        refine ⟨Nat.zero_le _, fun g2 n2 => ?_⟩
        have g2L : g2 ≠ M := (ne_of_none (s7 _ _ eM5) n2).symm
        have s8 := s7.trans (same_upd (o := .lst []) n2)
        have e12 := (same_upd (o := .lst []) n2) _ _ e1
        have e22 := upd_same (H := H7) (a := g2) (o := .lst [])
        generalize upd H7 g2 (.lst []) = H8 at s8 e12 e22 ⊢
        refine ⟨(show (3 : Nat) ≤ sizeLine by decide), fun g ng => ?_⟩
        have gL : g ≠ M := (ne_of_none (s8 _ _ eM5) ng).symm
        have sg := same_upd (o := .lst [vN [97 + c], .ref g1, .ref g2]) ng
        have eg := upd_same (H := H8) (a := g) (o := .lst [vN [97 + c], .ref g1, .ref g2])
        have e12 := sg _ _ e12
        have e22 := sg _ _ e22
        have s9 := s8.trans sg
        have kL : ∀ c' o, (upd H8 g (.lst [vN [97 + c], .ref g1, .ref g2])) c' = some o → c' ≠ M → (upd (upd H8 g (.lst [vN [97 + c], .ref g1, .ref g2])) M (.lst (ps.map V.ref ++ [.ref g]))) c' = some o := fun c o e n => by rw [upd_ne n]; exact e
        have gd : RwS M (upd H8 g (.lst [vN [97 + c], .ref g1, .ref g2])) g ⟨[97 + c], [], []⟩ := ⟨g1, g2, [], eg, e12, ⟨rfl, nofun⟩, e22, gL, g1L, g2L⟩
        refine ⟨_, _, _, rfl, rfl, s9 _ _ eM5, by rw [pl]; exact small1000 (by omega), ps ++ [g], us ++ [⟨[97 + c], [], []⟩], _, rfl, same_at (s5.trans s9) nM, by rw [upd_same, List.map_append]; rfl, ?_, by rw [List.length_append]; show us.length + 1 = _; omega, fun x mx => ?_⟩
        · exact ((hU.mono fun _ _ k => k.same s9).app (.one gd)).mono fun _ _ k => k.go ⟨_, s9 _ _ eM5⟩ kL
        · rcases List.mem_append.mp mx with mx | mx
          · exact uk x mx
          · rw [List.mem_singleton.mp mx]
            exact ⟨(nm_lett hc).wok, nofun, Nat.zero_le _, nofun, Nat.zero_le _⟩
      · have e : ¬ (((ps.map V.ref).length : Nat) : Int) < 5 + partOf ns 0 2 3 := fun z => e (decide_eq_true z)
        rw [lp, hn] at e
        exact ⟨ps, us, _, rfl, s5, eM5, hU, by omega, uk⟩
    · rintro σ H5 ⟨ps, us, y3, rfl, s5, eM5, hU, ul, uk⟩
      have : (8 : Int).toNat = 8 := rfl
      exact ⟨_, rfl, q _ M ps us s5 eM5 hU (by omega) (by omega) uk⟩
end
end TK

/-! a book spoilt at a stage -/
namespace TK
open PySem PySem.Spec PyProof.Rows L2
def stgL : List Int := [0, 0, 1, 2, 2, 2, 3, 3, 4, 4, 5, 5]
def stgI (ns : List Int) : Int := stgL.getD (partOf ns 15 1 12).toNat 0
theorem stg_at {i : Int} (h0 : 0 ≤ i) (h1 : i < 12) : atI (stgL.map V.int) i = some (.int (stgL.getD i.toNat 0)) ∧ 0 ≤ stgL.getD i.toNat 0 ∧ stgL.getD i.toNat 0 ≤ 5 := by
  have : i = 0 ∨ i = 1 ∨ i = 2 ∨ i = 3 ∨ i = 4 ∨ i = 5 ∨ i = 6 ∨ i = 7 ∨ i = 8 ∨ i = 9 ∨ i = 10 ∨ i = 11 := by omega
  rcases this with rfl | rfl | rfl | rfl | rfl | rfl | rfl | rfl | rfl | rfl | rfl | rfl <;> exact ⟨rfl, by decide, by decide⟩
/-- right in the stages before k -/
structure StOk (k : Int) (b : BkD) : Prop where
  z1 : 0 < k → 1 ≤ b.zs.length
  z4 : 0 < k → b.zs.length ≤ 4
  zn : 0 < k → ∀ z ∈ b.zs, Nm z
  nz : 0 < k → b.zs.Nodup
  d1 : 1 < k → 1 ≤ b.ds.length
  d4 : 1 < k → b.ds.length ≤ 4
  pg : 2 < k → PgOk b.zs b.ds
  fo : 3 < k → ∀ d ∈ b.ds, picksB d.fol (b.ds.map fun x : PgD => x.nm) = true
  s0 : 4 < k → b.ss ≠ []
  st : 4 < k → picksB b.ss (b.ds.map fun x : PgD => x.nm) = true
  ho : 5 < k → picksB b.hs (b.ds.map fun x : PgD => x.nm) = true
theorem StOk.le {k l : Int} {b : BkD} (h : StOk k b) (q : l ≤ k) : StOk l b := ⟨fun p => h.z1 (by omega), fun p => h.z4 (by omega), fun p => h.zn (by omega), fun p => h.nz (by omega), fun p => h.d1 (by omega), fun p => h.d4 (by omega), fun p => h.pg (by omega), fun p => h.fo (by omega), fun p => h.s0 (by omega), fun p => h.st (by omega), fun p => h.ho (by omega)⟩
/-- what can be told of a book -/
structure SzB (m : Nat) (b : BkD) : Prop where
  zl : b.zs.length ≤ 100
  zw : ∀ z ∈ b.zs, WOk z
  dl : b.ds.length ≤ 8
  dw : ∀ d ∈ b.ds, SzP m d
  sl : b.ss.length ≤ m
  sw : ∀ z ∈ b.ss, WOk z
  hl : b.hs.length ≤ m
  hw : ∀ z ∈ b.hs, WOk z
theorem SzB.le {m n : Nat} {b : BkD} (h : SzB m b) (q : m ≤ n) : SzB n b := ⟨h.zl, h.zw, h.dl, fun d md => (h.dw d md).le q, Nat.le_trans h.sl q, h.sw, Nat.le_trans h.hl q, h.hw⟩
abbrev fltB (b : BkD) : Option Flt := faultB b.zs b.ss b.hs b.ds
theorem StOk.fN {k : Int} {b : BkD} (h : StOk k b) (q : 0 < k) : faultN 4 b.zs = none := faultN_ok (h.zn q) (h.nz q) (h.z1 q) (by have := h.z4 q; omega)
theorem StOk.fP {k : Int} {b : BkD} (h : StOk k b) (q : 2 < k) : faultP b.zs b.ds = goF (b.ds.map fun x : PgD => x.nm) 0 b.ds := by
  have := h.d1 (by omega)
  have := h.d4 (by omega)
  unfold faultP
  rw [if_pos ⟨by omega, by omega⟩, goP_none fun j d e => (h.pg q).good e]
  rfl
theorem StOk.fF {k : Int} {b : BkD} (h : StOk k b) (q : 3 < k) : faultP b.zs b.ds = none := by
  rw [h.fP (by omega)]
  exact goF_none fun j d e => h.fo q d (List.mem_of_getElem? e)
theorem flt0 {b : BkD} {fl : Flt} (h : faultN 4 b.zs = some fl) : fltB b = some fl := by unfold fltB faultB; rw [h]; rfl
theorem flt1 {b : BkD} {fl : Flt} (h : faultN 4 b.zs = none) (g : faultP b.zs b.ds = some fl) : fltB b = some fl := by unfold fltB faultB; rw [h, g]; rfl
theorem flt2 {b : BkD} {fl : Flt} (h : faultN 4 b.zs = none) (g : faultP b.zs b.ds = none) (e : faultE (b.ds.map fun x : PgD => x.nm) b.ss b.hs = some fl) : fltB b = some fl := by unfold fltB faultB; rw [h, g, e]; rfl
theorem gLst4 {K : PySem.W.Frag} {i j k l : Nat} {e : Addr} {x y z u : V} {σ : L2.St} {H : Hp} {Q : L2.St → Hp → Prop} (he : H e = some (.lst [x, y, z, u])) (σ' : L2.St) (hσ : (((σ.set i (some x)).set j (some y)).set k (some z)).set l (some u) = σ') (h : Q σ' H) :
    gLst K 4 (gCons (gName i) (gCons (gName j) (gCons (gName k) (gCons (gName l) gNil)))) (.ref e) σ H Q := by
  subst hσ
  exact ⟨_, _, rfl, lstAt he, rfl, _, _, rfl, _, _, rfl, _, _, rfl, _, _, rfl, rfl, h⟩
section
variable {P : Program} {w : World} {K : PySem.W.Frag} {mg : Str → Option Value} {base : Heap}
def spStage (K : PySem.W.Frag) : Sp := fun vs H Q _ => ∃ (a : Addr) (ns : List Int), vs = [.ref a] ∧ SqL K H a (ns.map V.int) ∧ ns.length = 16 ∧ ∀ H', Same H H' → Q (.int (stgI ns)) H'
theorem ok_L_stage {f : Addr} {fd : FuncData} (F : Fun K "_law_stage" "_law_stage" s_L_stage f fd) (d_L_part : Def P w K mg base "_law_part" 1 ["_law_pool_here", "_law_spot", "_law_under", "_law_size"] (spPart K)) : FnOk P w K mg base CX0 2 f fd ["_law_pool_here"] (spStage K) := by
  refine F.ok sc_L_stage (fun vs H Q E h => ?_) (fun cdv A outer s H vs Q E hr h => ?_)
  · obtain ⟨a, ns, rfl, _⟩ := h
    rfl
  · obtain ⟨a, ns, rfl, hS, nl, q⟩ := h
    have n0 := part_lo (ns := ns) (s := 15) (u := 1) (z := 12) (by decide)
    have n1 := part_hi (ns := ns) (s := 15) (u := 1) (z := 12) (by decide)
    refine ⟨_, (pss_one (ps_ret (pe_ix ix_list (pe_lst (pa_cons pe_int (pa_cons pe_int (pa_cons pe_int (pa_cons pe_int (pa_cons pe_int (pa_cons pe_int (pa_cons pe_int (pa_cons pe_int (pa_cons pe_int (pa_cons pe_int (pa_cons pe_int (pa_cons pe_int pa_nil))))))))))))) (pe_callD d_L_part (hr.mono (by decide)) (by rfl) (pa_cons (pv 0) (pa_cons pe_int (pa_cons pe_int (pa_cons pe_int pa_nil))))) (fun _ _ => rfl)))), ?_⟩
    refine ⟨(show (12 : Nat) ≤ sizeLine by decide), fun L nL => ?_⟩
    have s1 := same_upd (o := .lst (stgL.map V.int)) nL
    have e1 := upd_same (H := H) (a := L) (o := .lst (stgL.map V.int))
    refine ⟨_, rfl, a, ns, 15, 1, 12, rfl, s1.seq hS, by decide, by omega, by decide, by decide, by decide, ?_⟩
    exact ⟨_, _, _, _, rfl, rfl, lstAt e1, (stg_at n0 n1).1, q _ s1⟩
theorem stg_bd {ns : List Int} : 0 ≤ stgI ns ∧ stgI ns ≤ 5 := (stg_at (part_lo (ns := ns) (s := 15) (u := 1) (z := 12) (by decide)) (part_hi (ns := ns) (s := 15) (u := 1) (z := 12) (by decide))).2
def spSpoilt (K : PySem.W.Frag) : Sp := fun vs H Q _ => ∃ (a D : Addr) (ns : List Int) (k : Int) (b : BkD) (m : Nat), vs = [.ref a, .int k, .ref D] ∧ SqL K H a (ns.map V.int) ∧ ns.length = 16 ∧ 0 ≤ k ∧ k ≤ 5 ∧ PartsAt H D b ∧ StOk (k + 1) b ∧ SzB m b ∧ 4 ≤ m ∧ m ≤ 8 ∧
  ∀ (H' : Hp) (t D' u : Addr) (b' : BkD) (fl : Flt), Same H H' → H' t = some (.tup [.ref D', .ref u]) → PartsAt H' D' b' → H' u = some (.tup (dueV fl)) → fltB b' = some fl → StOk k b' → SzB (m + 4) b' → Q (.ref t) H'
theorem ok_L_spoilt {f : Addr} {fd : FuncData} (F : Fun K "_law_spoilt" "_law_spoilt" s_L_spoilt f fd) (d_L_part : Def P w K mg base "_law_part" 1 ["_law_pool_here", "_law_spot", "_law_under", "_law_size"] (spPart K))
    (d_L_wrong_members : Def P w K mg base "_law_wrong_members" 3 ["_law_pool_here", "_law_members"] (spWrongM K)) (d_L_wrong_count : Def P w K mg base "_law_wrong_count" 2 ["_law_pool_here", "_law_rows"] (spWrongC K)) (d_L_wrong_page : Def P w K mg base "_law_wrong_page" 5 ["_law_pool_here", "_law_members", "_law_rows"] (spWrongP K))
    (d_L_wrong_followers : Def P w K mg base "_law_wrong_followers" 5 ["_law_pool_here", "_law_titles", "_law_rows"] (spWrongF K)) (d_L_wrong_names : Def P w K mg base "_law_wrong_names" 4 ["_law_pool_here", "_law_spot", "_law_known", "_law_row"] (spWrongN K)) : FnOk P w K mg base CX0 6 f fd ["_law_pool_here", "_law_stage_here", "_law_book"] (spSpoilt K) := by
  refine F.ok sc_L_spoilt (fun vs H Q E h => ?_) (fun cdv A outer s H vs Q E hr h => ?_)
  · obtain ⟨a, D, ns, k, b, m, rfl, _⟩ := h
    rfl
  · obtain ⟨a, D, ns, k, b, m, rfl, hS, nl, k0, k5, ⟨c, r, ff, hh, rs, hD, hc, hr', hR, hf, hh'⟩, ok, sz, m4, m8, q⟩ := h
    have rl : (rs.map V.ref).length = b.ds.length := by rw [List.length_map, hR.1]
    have d8 := sz.dl
    refine ⟨_, (pss_cons (ps_asg (pv 2) (pg_lst (by rfl) (pgs_cons (pg_name (i := 3) sc_L_spoilt.nd rfl (.inl rfl)) (pgs_cons (pg_name (i := 4) sc_L_spoilt.nd rfl (.inl rfl)) (pgs_cons (pg_name (i := 5) sc_L_spoilt.nd rfl (.inl rfl)) (pgs_cons (pg_name (i := 6) sc_L_spoilt.nd rfl (.inl rfl)) pgs_nil))))))
  (pss_cons (ps_setLc (i := 7) (own := [("_law_row", 11)]) (by rfl) sc_L_spoilt.nd rfl rfl (sw_true rfl rfl rfl (by decide +kernel)) (pi_list (pv 4)) (blkOk_by (N := ["_law_pool_here", "_law_stage_here", "_law_book", "_law_members", "_law_rows", "_law_firsts", "_law_homes", "_law_titles", "_law_worse", "_law_due", "_law_place", "_law_row"]) (sc := defScope s_L_spoilt) (by decide +kernel)) (fun _ _ _ _ _ => (pg_name (i := 11) sc_L_spoilt.nd rfl (.inl rfl))) (fun _ _ _ _ _ => pts_nil) (fun _ _ _ _ _ => (pe_ix (ix_listK (K := K) rfl) (pv 11) pe_int (fun _ _ => rfl))))
  (pss_cons (ps_if (pt_cmpR op_eq (pv 1) pe_int (nomark _)) (pss_cons (ps_asg (pe_callD d_L_wrong_members (hr.mono (by decide)) (by rfl) (pa_cons (pv 0) (pa_cons (pv 3) pa_nil))) (pg_tup (by rfl) (pgs_cons (pg_name (i := 8) sc_L_spoilt.nd rfl (.inl rfl)) (pgs_cons (pg_name (i := 9) sc_L_spoilt.nd rfl (.inl rfl)) pgs_nil))))
  (pss_one (ps_ret (pe_tup (pa_cons (pe_lst (pa_cons (pv 8) (pa_cons (pv 4) (pa_cons (pv 5) (pa_cons (pv 6) pa_nil))))) (pa_cons (pv 9) pa_nil)))))) pss_nil)
  (pss_cons (ps_if (pt_cmpR op_eq (pv 1) pe_int (nomark _)) (pss_one (ps_ret (pe_tup (pa_cons (pe_lst (pa_cons (pv 3) (pa_cons (pe_callD d_L_wrong_count (hr.mono (by decide)) (by rfl) (pa_cons (pv 0) (pa_cons (pv 4) pa_nil))) (pa_cons (pv 5) (pa_cons (pv 6) pa_nil))))) (pa_cons (pe_tup (pa_cons pe_str (pa_cons pe_str (pa_cons pe_int pa_nil)))) pa_nil))))) pss_nil)
  (pss_cons (ps_if (pt_cmpR op_eq (pv 1) pe_int (nomark _)) (pss_cons (ps_asg (pe_callD d_L_wrong_page (hr.mono (by decide)) (by rfl) (pa_cons (pv 0) (pa_cons (pv 3) (pa_cons (pv 4) pa_nil)))) (pg_tup (by rfl) (pgs_cons (pg_name (i := 8) sc_L_spoilt.nd rfl (.inl rfl)) (pgs_cons (pg_name (i := 10) sc_L_spoilt.nd rfl (.inl rfl)) pgs_nil))))
  (pss_one (ps_ret (pe_tup (pa_cons (pe_lst (pa_cons (pv 3) (pa_cons (pv 8) (pa_cons (pv 5) (pa_cons (pv 6) pa_nil))))) (pa_cons (pe_tup (pa_cons pe_str (pa_cons pe_str (pa_cons (pv 10) pa_nil)))) pa_nil)))))) pss_nil)
  (pss_cons (ps_if (pt_cmpR op_eq (pv 1) pe_int (nomark _)) (pss_cons (ps_asg (pe_callD d_L_wrong_followers (hr.mono (by decide)) (by rfl) (pa_cons (pv 0) (pa_cons (pv 7) (pa_cons (pv 4) pa_nil)))) (pg_tup (by rfl) (pgs_cons (pg_name (i := 8) sc_L_spoilt.nd rfl (.inl rfl)) (pgs_cons (pg_name (i := 10) sc_L_spoilt.nd rfl (.inl rfl)) pgs_nil))))
  (pss_one (ps_ret (pe_tup (pa_cons (pe_lst (pa_cons (pv 3) (pa_cons (pv 8) (pa_cons (pv 5) (pa_cons (pv 6) pa_nil))))) (pa_cons (pe_tup (pa_cons pe_str (pa_cons pe_str (pa_cons (pv 10) pa_nil)))) pa_nil)))))) pss_nil)
  (pss_cons (ps_if (pt_cmpR op_eq (pv 1) pe_int (nomark _)) (pss_one (ps_ret (pe_tup (pa_cons (pe_lst (pa_cons (pv 3) (pa_cons (pv 4) (pa_cons (pv 5) (pa_cons (pe_callD d_L_wrong_names (hr.mono (by decide)) (by rfl) (pa_cons (pv 0) (pa_cons pe_int (pa_cons (pv 7) (pa_cons (pv 6) pa_nil))))) pa_nil))))) (pa_cons (pe_tup (pa_cons pe_str (pa_cons pe_str (pa_cons pe_int pa_nil)))) pa_nil))))) pss_nil)
  (pss_cons (ps_if (pt_cmpR op_eq (pe_callD d_L_part (hr.mono (by decide)) (by rfl) (pa_cons (pv 0) (pa_cons pe_int (pa_cons pe_int (pa_cons pe_int pa_nil))))) pe_int (nomark _)) (pss_one (ps_ret (pe_tup (pa_cons (pe_lst (pa_cons (pv 3) (pa_cons (pv 4) (pa_cons (pe_lst pa_nil) (pa_cons (pv 6) pa_nil))))) (pa_cons (pe_tup (pa_cons pe_str (pa_cons pe_str (pa_cons pe_int pa_nil)))) pa_nil))))) pss_nil)
  (pss_one (ps_ret (pe_tup (pa_cons (pe_lst (pa_cons (pv 3) (pa_cons (pv 4) (pa_cons (pe_callD d_L_wrong_names (hr.mono (by decide)) (by rfl) (pa_cons (pv 0) (pa_cons pe_int (pa_cons (pv 7) (pa_cons (pv 5) pa_nil))))) (pa_cons (pv 6) pa_nil))))) (pa_cons (pe_tup (pa_cons pe_str (pa_cons pe_str (pa_cons pe_int pa_nil)))) pa_nil))))))))))))), ?_⟩
    refine ⟨_, rfl, gLst4 hD [some (.ref a), some (.int k), some (.ref D), some (.ref c), some (.ref r), some (.ref ff), some (.ref hh), none, none, none, none, none] rfl ?_⟩
    refine ⟨_, rfl, r, rfl, ⟨_, lstAt hr'⟩, fun T nT => ?_⟩
    refine lc_list (K := K) (a := r) (xs := rs.map V.ref) (fun i H' => Same H H' ∧ H' T = some (.lst (((b.ds.map (fun x : PgD => x.nm)).take i).map vN))) ⟨same_upd nT, upd_same⟩ (fun i H' _ hq => lstAt (hq.1 _ _ hr')) (fun i v H' hv hq => ?_) (fun H1 hq => ?_)
    · obtain ⟨s6, eD⟩ := hq
      obtain ⟨p, d, rfl, ed, bb, fb, es, h1, _⟩ := all_at hR hv
      have hi := (List.getElem?_eq_some_iff.mp ed).1
      refine ⟨rfl, yesT ⟨_, rfl, _, _, 0, vN d.nm, rfl, rfl, lstAt (s6 _ _ h1), rfl, _, eD, by rw [List.length_map, List.length_take, List.length_map]; exact small1000 (by omega), same_at s6 nT, ?_⟩⟩
      rw [List.take_add_one, List.getElem?_map, ed, List.map_append]
      exact upd_same
    obtain ⟨s1, eT⟩ := hq
    rw [rl, show b.ds.length = (b.ds.map (fun x : PgD => x.nm)).length from (List.length_map ..).symm, List.take_length] at eT
    have hS1 := s1.seq hS
    have hc := s1 _ _ hc
    have hr' := s1 _ _ hr'
    have hf := s1 _ _ hf
    have hh' := s1 _ _ hh'
    have hR : AllAt (RwS r) H1 rs b.ds := hR.mono fun _ _ k => k.same s1
    have z1 := ok.z1 (by omega)
    have z4 := ok.z4 (by omega)
    have zn := ok.zn (by omega)
    have nz := ok.nz (by omega)
    -- the end
    have fin : ∀ (H2 : Hp) (b' : BkD) (c' r' f' h' : Addr) (rs' : List Addr) (fl : Flt), Same H1 H2 → H2 c' = some (.lst (b'.zs.map vN)) → H2 r' = some (.lst (rs'.map V.ref)) → AllAt (RwS r') H2 rs' b'.ds → H2 f' = some (.lst (b'.ss.map vN)) → H2 h' = some (.lst (b'.hs.map vN)) → fltB b' = some fl → StOk k b' → SzB (m + 4) b' →
        (∀ u, H2 u = some (.tup (dueV fl)) → ∀ g, H2 g = none → ∀ t, (upd H2 g (.lst [V.ref c', .ref r', .ref f', .ref h'])) t = none → Q (.ref t) (upd (upd H2 g (.lst [V.ref c', .ref r', .ref f', .ref h'])) t (.tup [.ref g, .ref u]))) ∧
        (∀ g, H2 g = none → ∀ u, (upd H2 g (.lst [V.ref c', .ref r', .ref f', .ref h'])) u = none → ∀ t, (upd (upd H2 g (.lst [V.ref c', .ref r', .ref f', .ref h'])) u (.tup (dueV fl))) t = none → Q (.ref t) (upd (upd (upd H2 g (.lst [V.ref c', .ref r', .ref f', .ref h'])) u (.tup (dueV fl))) t (.tup [.ref g, .ref u]))) := by
      intro H2 b' c' r' f' h' rs' fl s2 e1 e2 e3 e4 e5 fa so sb
      have pa : ∀ g, H2 g = none → PartsAt (upd H2 g (.lst [V.ref c', .ref r', .ref f', .ref h'])) g b' := fun g ng => ⟨c', r', f', h', rs', upd_same, (same_upd ng) _ _ e1, (same_upd ng) _ _ e2, e3.mono fun _ _ k => k.same (same_upd ng), (same_upd ng) _ _ e4, (same_upd ng) _ _ e5⟩
      refine ⟨fun u eu g ng t nt => ?_, fun g ng u nu t nt => ?_⟩
      · have s3 := same_upd (o := .lst [V.ref c', .ref r', .ref f', .ref h']) ng
        have p3 := pa g ng
        generalize upd H2 g (.lst [V.ref c', .ref r', .ref f', .ref h']) = H3 at s3 p3 nt ⊢
        exact q _ t g u b' fl ((s1.trans s2).trans (s3.trans (same_upd nt))) upd_same (p3.same (same_upd nt)) ((s3.trans (same_upd nt)) _ _ eu) fa so sb
      · have s3 := same_upd (o := .lst [V.ref c', .ref r', .ref f', .ref h']) ng
        have p3 := pa g ng
        generalize upd H2 g (.lst [V.ref c', .ref r', .ref f', .ref h']) = H3 at s3 p3 nu nt ⊢
        have s4 := same_upd (o := .tup (dueV fl)) nu
        exact q _ t g u b' fl ((s1.trans s2).trans (s3.trans (s4.trans (same_upd nt)))) upd_same (p3.same (s4.trans (same_upd nt))) ((same_upd nt) _ _ upd_same) fa so sb
    refine ⟨_, rfl, rfl, _, rfl, ite2 (fun e => ?_) (fun e => ?_)⟩
    · have e : k = 0 := V.int.inj (of_decide_eq_true e)
      subst e
      refine ⟨_, rfl, _, rfl, a, c, ns, b.zs, rfl, hS1, nl, hc, z1, z4, zn, nz, fun H2 t mm u ws fl s2 et em eu fa l wk => ?_⟩
      refine ⟨_, _, rfl, tupAt et, rfl, _, _, rfl, _, _, rfl, rfl, ?_⟩
      refine ⟨_, rfl, _, rfl, _, rfl, _, rfl, (show (4 : Nat) ≤ sizeLine by decide), fun g ng => ⟨_, rfl, (show (2 : Nat) ≤ sizeLine by decide), fun t nt => ?_⟩⟩
      exact (fin H2 ⟨ws, b.ds, b.ss, b.hs⟩ mm r ff hh rs fl s2 em (s2 _ _ hr') (hR.mono fun _ _ k => k.same s2) (s2 _ _ hf) (s2 _ _ hh') (flt0 fa) ⟨by omega, by omega, by omega, by omega, by omega, by omega, by omega, by omega, by omega, by omega, by omega⟩ ⟨l, wk, sz.dl, fun d md => (sz.dw d md).le (by omega), by have := sz.sl; show b.ss.length ≤ m + 4; omega, sz.sw, by have := sz.hl; show b.hs.length ≤ m + 4; omega, sz.hw⟩).1 u eu g ng t nt
    have e0 : k ≠ 0 := fun z => e (decide_eq_true (congrArg V.int z))
    clear e
    have d1 := ok.d1 (by omega)
    have d4 := ok.d4 (by omega)
    have fN := ok.fN (by omega)
    have sw' : ∀ n : Nat, n ≤ m → n ≤ m + 4 := fun n h => by omega
    have tl : (b.ds.map (fun x : PgD => x.nm)).length = b.ds.length := List.length_map ..
    refine ⟨_, rfl, rfl, _, rfl, ite2 (fun e => ?_) (fun e => ?_)⟩
    · have e : k = 1 := V.int.inj (of_decide_eq_true e)
      subst e
      refine ⟨_, rfl, _, rfl, _, rfl, a, r, ns, rs, b.ds, rfl, hS1, nl, hr', hR, d1, d4, m, sz.dw, fun H2 L ps us s2 eL hU u7 un uk => ⟨_, rfl, _, rfl, (show (4 : Nat) ≤ sizeLine by decide), fun g ng => ⟨(show (3 : Nat) ≤ sizeLine by decide), fun u nu => ⟨(show (2 : Nat) ≤ sizeLine by decide), fun t nt => ?_⟩⟩⟩⟩
      exact (fin H2 ⟨b.zs, us, b.ss, b.hs⟩ c L ff hh ps (.book "pages" 0) s2 (s2 _ _ hc) eL hU (s2 _ _ hf) (s2 _ _ hh') (flt1 fN (if_neg un)) ⟨fun _ => z1, fun _ => z4, fun _ => zn, fun _ => nz, by omega, by omega, by omega, by omega, by omega, by omega, by omega⟩ ⟨sz.zl, sz.zw, by show us.length ≤ 8; omega, fun d md => (uk d md).le (by omega), sw' _ sz.sl, sz.sw, sw' _ sz.hl, sz.hw⟩).2 g ng u nu t nt
    have e1 : k ≠ 1 := fun z => e (decide_eq_true (congrArg V.int z))
    clear e
    have pg := ok.pg (by omega)
    have tn : ∀ z ∈ b.ds.map (fun x : PgD => x.nm), Nm z := fun z mz => by
      obtain ⟨d, md, rfl⟩ := List.mem_map.mp mz
      exact pg.nm d md
    refine ⟨_, rfl, rfl, _, rfl, ite2 (fun e => ?_) (fun e => ?_)⟩
    · have e : k = 2 := V.int.inj (of_decide_eq_true e)
      subst e
      refine ⟨_, rfl, _, rfl, _, rfl, a, c, r, ns, b.zs, rs, b.ds, rfl, hS1, nl, hc, z1, z4, zn, hr', hR, pg, m, m8, sz.dw, fun H2 t L ps us kk s2 et eL hU u1 u4 gp uk => ?_⟩
      refine ⟨_, _, rfl, tupAt et, rfl, _, _, rfl, _, _, rfl, rfl, ?_⟩
      refine ⟨_, rfl, _, rfl, _, rfl, _, rfl, (show (4 : Nat) ≤ sizeLine by decide), fun g ng => ⟨_, rfl, (show (3 : Nat) ≤ sizeLine by decide), fun u nu => ⟨(show (2 : Nat) ≤ sizeLine by decide), fun t nt => ?_⟩⟩⟩
      exact (fin H2 ⟨b.zs, us, b.ss, b.hs⟩ c L ff hh ps (.book "page" kk) s2 (s2 _ _ hc) eL hU (s2 _ _ hf) (s2 _ _ hh') (flt1 fN (by show faultP b.zs us = _; unfold faultP; rw [if_pos ⟨by omega, by omega⟩, gp]; rfl)) ⟨fun _ => z1, fun _ => z4, fun _ => zn, fun _ => nz, fun _ => u1, fun _ => u4, by omega, by omega, by omega, by omega, by omega⟩ ⟨sz.zl, sz.zw, by show us.length ≤ 8; omega, uk, sw' _ sz.sl, sz.sw, sw' _ sz.hl, sz.hw⟩).2 g ng u nu t nt
    have e2 : k ≠ 2 := fun z => e (decide_eq_true (congrArg V.int z))
    clear e
    have fo := ok.fo (by omega)
    refine ⟨_, rfl, rfl, _, rfl, ite2 (fun e => ?_) (fun e => ?_)⟩
    · have e : k = 3 := V.int.inj (of_decide_eq_true e)
      subst e
      refine ⟨_, rfl, _, rfl, _, rfl, a, T, r, ns, b.ds.map (fun x : PgD => x.nm), rs, b.ds, rfl, hS1, nl, eT, by omega, by omega, tn, hr', hR, d1, d4, fo, m, m8, sz.dw, fun H2 t L ps us kk s2 et eL hU ke gf uk => ?_⟩
      refine ⟨_, _, rfl, tupAt et, rfl, _, _, rfl, _, _, rfl, rfl, ?_⟩
      refine ⟨_, rfl, _, rfl, _, rfl, _, rfl, (show (4 : Nat) ≤ sizeLine by decide), fun g ng => ⟨_, rfl, (show (3 : Nat) ≤ sizeLine by decide), fun u nu => ⟨(show (2 : Nat) ≤ sizeLine by decide), fun t nt => ?_⟩⟩⟩
      have ul : us.length = b.ds.length := by have := congrArg List.length ke; rwa [List.length_map, List.length_map] at this
      have so : StOk 3 ⟨b.zs, us, b.ss, b.hs⟩ := ⟨fun _ => z1, fun _ => z4, fun _ => zn, fun _ => nz, fun _ => by show 1 ≤ us.length; omega, fun _ => by show us.length ≤ 4; omega, fun _ => pg.key ke, by omega, by omega, by omega, by omega⟩
      exact (fin H2 ⟨b.zs, us, b.ss, b.hs⟩ c L ff hh ps (.book "followers" kk) s2 (s2 _ _ hc) eL hU (s2 _ _ hf) (s2 _ _ hh') (flt1 fN (by rw [so.fP (by decide)]; show goF (us.map fun x : PgD => x.nm) 0 us = _; rw [key_nm ke]; exact gf)) so ⟨sz.zl, sz.zw, by show us.length ≤ 8; omega, uk, sw' _ sz.sl, sz.sw, sw' _ sz.hl, sz.hw⟩).2 g ng u nu t nt
    have e3 : k ≠ 3 := fun z => e (decide_eq_true (congrArg V.int z))
    clear e
    have fF := ok.fF (by omega)
    have s0 := ok.s0 (by omega)
    have st := ok.st (by omega)
    have dw' : ∀ d ∈ b.ds, SzP (m + 4) d := fun d md => (sz.dw d md).le (by omega)
    refine ⟨_, rfl, rfl, _, rfl, ite2 (fun e => ?_) (fun e => ?_)⟩
    · have e : k = 5 := V.int.inj (of_decide_eq_true e)
      subst e
      refine ⟨_, rfl, _, rfl, _, rfl, _, rfl, _, rfl, _, rfl, a, T, hh, ns, 1, b.ds.map (fun x : PgD => x.nm), b.hs, rfl, hS1, by decide, by omega, eT, by omega, by omega, tn, hh', by have := sz.hl; omega, sz.hw, fun H2 N ys nN s2 eN bad yl yk => ⟨(show (4 : Nat) ≤ sizeLine by decide), fun g ng => ⟨(show (3 : Nat) ≤ sizeLine by decide), fun u nu => ⟨(show (2 : Nat) ≤ sizeLine by decide), fun t nt => ?_⟩⟩⟩⟩
      exact (fin H2 ⟨b.zs, b.ds, b.ss, ys⟩ c r ff N rs (.book "home" 0) s2 (s2 _ _ hc) (s2 _ _ hr') (hR.mono fun _ _ k => k.same s2) (s2 _ _ hf) eN (flt2 fN fF (by show faultE (b.ds.map fun x : PgD => x.nm) b.ss ys = _; unfold faultE; rw [if_neg (by rw [st]; simp [s0]), if_pos bad])) ⟨fun _ => z1, fun _ => z4, fun _ => zn, fun _ => nz, fun _ => d1, fun _ => d4, fun _ => pg, fun _ => fo, fun _ => s0, fun _ => st, by omega⟩ ⟨sz.zl, sz.zw, d8, dw', sw' _ sz.sl, sz.sw, by have := sz.hl; show ys.length ≤ m + 4; omega, yk⟩).2 g ng u nu t nt
    have e5 : k ≠ 5 := fun z => e (decide_eq_true (congrArg V.int z))
    clear e
    have k4 : k = 4 := by omega
    subst k4
    have so4 : ∀ ys, StOk 4 ⟨b.zs, b.ds, ys, b.hs⟩ := fun ys => ⟨fun _ => z1, fun _ => z4, fun _ => zn, fun _ => nz, fun _ => d1, fun _ => d4, fun _ => pg, fun _ => fo, by omega, by omega, by omega⟩
    refine ⟨_, rfl, a, ns, 0, 1, 4, rfl, hS1, by decide, by omega, by decide, by decide, by decide, rfl, _, rfl, ite2 (fun e => ?_) (fun e => ?_)⟩
    · refine ⟨_, rfl, _, rfl, Nat.zero_le _, fun N nN => ?_⟩
      have s2 := same_upd (o := .lst []) nN
      have eN := upd_same (H := H1) (a := N) (o := .lst [])
      generalize upd H1 N (.lst []) = H2 at s2 eN ⊢
      refine ⟨_, rfl, (show (4 : Nat) ≤ sizeLine by decide), fun g ng => ⟨(show (3 : Nat) ≤ sizeLine by decide), fun u nu => ⟨(show (2 : Nat) ≤ sizeLine by decide), fun t nt => ?_⟩⟩⟩
      exact (fin H2 ⟨b.zs, b.ds, [], b.hs⟩ c r N hh rs (.book "starts" 0) s2 (s2 _ _ hc) (s2 _ _ hr') (hR.mono fun _ _ k => k.same s2) eN (s2 _ _ hh') (flt2 fN fF (by show faultE (b.ds.map fun x : PgD => x.nm) [] b.hs = _; unfold faultE; rw [if_pos (.inl rfl)])) (so4 _) ⟨sz.zl, sz.zw, d8, dw', Nat.zero_le _, nofun, sw' _ sz.hl, sz.hw⟩).2 g ng u nu t nt
    · refine ⟨_, rfl, _, rfl, _, rfl, _, rfl, _, rfl, a, T, ff, ns, 1, b.ds.map (fun x : PgD => x.nm), b.ss, rfl, hS1, by decide, by omega, eT, by omega, by omega, tn, hf, by have := sz.sl; omega, sz.sw, fun H2 N ys nN s2 eN bad yl yk => ⟨_, rfl, (show (4 : Nat) ≤ sizeLine by decide), fun g ng => ⟨(show (3 : Nat) ≤ sizeLine by decide), fun u nu => ⟨(show (2 : Nat) ≤ sizeLine by decide), fun t nt => ?_⟩⟩⟩⟩
      exact (fin H2 ⟨b.zs, b.ds, ys, b.hs⟩ c r N hh rs (.book "starts" 0) s2 (s2 _ _ hc) (s2 _ _ hr') (hR.mono fun _ _ k => k.same s2) eN (s2 _ _ hh') (flt2 fN fF (by show faultE (b.ds.map fun x : PgD => x.nm) ys b.hs = _; unfold faultE; rw [if_pos (.inr bad)])) (so4 _) ⟨sz.zl, sz.zw, d8, dw', by have := sz.sl; show ys.length ≤ m + 4; omega, yk, sw' _ sz.hl, sz.hw⟩).2 g ng u nu t nt
end
end TK

/-! Book.__init__ that raises, with tuples -/
namespace TK
open PySem PySem.Spec PyProof.Rows L2 NdefX
section
variable {P : Program} {w : World} {K : PySem.W.Frag} {mg : Str → Option Value} {base : Heap}
def spBadT (K : PySem.W.Frag) (C : Addr) (e : Ec) : Sp := fun vs H Q E => ∃ (p a b c h dx : Addr) (zs ss hs : List Nam) (ps : List Addr) (ds : List PgD) (fl : Flt), vs = [.ref p, .ref a, .ref b, .ref c, .ref h] ∧ H p = some (.ins C dx []) ∧ BkGT K H a b c h zs ss hs ps ds ∧ BkW zs ss hs ds ∧ faultB zs ss hs ds = some fl ∧ RaisedP p e fl H E
theorem ok_BadT {f C CP fP fN fG fE : Addr} {fd fdP fdN fdG fdE : FuncData} {e : Ec} {dvs dvN : List V} {kws : List (Str × V)} {dsN : List Value} (F : FunD K "__init__" "Book.__init__" (defArgs s_Book_init) (defBody s_Book_init) (defScope s_Book_init) dvs kws f fd) (T : TxtBk K C) (m_tuple : mg "tuple" = none)
    (G_check_names : FnOk P w K mg base (L2.CX P w) 4 fN fdN ["names", "most", "hook"] (spNamesX K e)) (g_check_names : mg "check_names" = some (.ref fN)) (k_check_names : PySem.W.keepIn K (.ref fN) = true) (b_check_names : Binds K fdN ["names", "most", "hook"] dsN) (v_check_names : Vals [.bl false] dsN)
    (G_check_pages : FnOk P w K mg base (L2.CX P w) 3 fG fdG ["members", "pages"] (spPagesXT K e)) (g_check_pages : mg "_check_pages" = some (.ref fG)) (k_check_pages : PySem.W.keepIn K (.ref fG) = true) (b_check_pages : Binds K fdG ["members", "pages"] [])
    (G_check_ends : FnOk P w K mg base (L2.CX P w) 3 fE fdE ["names", "starts", "home"] (spEndsXT K e)) (g_check_ends : mg "_check_ends" = some (.ref fE)) (k_check_ends : PySem.W.keepIn K (.ref fE) = true) (b_check_ends : Binds K fdE ["names", "starts", "home"] [])
    (d_sorted_bids : Def P w K mg base "_sorted_bids" 1 ["members", "bids"] (spSortBT K)) (M_Page : Mk K CP fP) (G_Page : FnOk P w K mg base CX0 1 fP fdP ["self", "name", "bids", "followers", "home"] (spInitPg CP)) (mg_Page : mg "Page" = some (.ref CP)) (b_Page : Binds K fdP ["self", "name", "bids", "followers", "home"] []) :
    FnOk P w K mg base (L2.CX P w) 5 f fd ["self", "members", "pages", "starts", "home"] (spBadT K C e) := by
  refine F.ok (CX := L2.CX P w) sc_Book_init (fun vs H Q E h => ?_) (fun cdv A outer s H vs Q E hr h => ?_)
  · obtain ⟨p, a, b, c, h, dx, zs, ss, hs, ps, ds, fl, rfl, _⟩ := h
    rfl
  · obtain ⟨p, a, b, c, h, dx, zs, ss, hs, ps, ds, fl, rfl, hp, g, ok, bad, q⟩ := h
    have pl : (ps.map V.ref).length = ds.length := by rw [List.length_map, g.t.1]
    have l4 := ok.p.1
    unfold faultB at bad
    refine ⟨_, (pss_cons (ps_expr (pe_call G_check_names (hr.mono (by decide)) (by rfl) g_check_names k_check_names b_check_names v_check_names (L2.passes_call (E := E) (takes_of rfl rfl rfl rfl) (fun _ _ _ _ h => h)) (pa_cons (pv 1) (pa_cons pe_int pa_nil))))
  (pss_cons (ps_expr (pe_callS (E := fun _ => E) G_check_pages (hr.mono (by decide)) (by rfl) g_check_pages k_check_pages b_check_pages (fun σ => passAt (takes_of rfl rfl rfl rfl) σ) (pa_cons (pv 1) (pa_cons (pv 2) pa_nil))))
  (pss_cons (ps_fld (pv 0) (pe_callTy call_tuple_of (by rfl) m_tuple (by decide +kernel) (pa_cons (pv 1) pa_nil)) rfl)
  (pss_cons (ps_fld (pv 0) (pe_callTy call_tuple_frz (by rfl) m_tuple (by decide +kernel) (pa_cons (pe_lc (own := [("page", 5)]) (by rfl) sc_Book_init.nd (pi_tup (pv 2)) (blkOk_by (N := ["self", "members", "pages", "starts", "home", "page", "name", "bids", "followers"]) (sc := defScope s_Book_init) (by decide +kernel)) (fun _ _ _ _ _ => (pg_name (i := 5) sc_Book_init.nd rfl (.inl rfl))) (fun _ _ _ _ _ => pts_nil) (fun _ _ _ _ _ => (pe_ix (ix_tupK (K := K) rfl) (pv 5) pe_int (fun _ _ => rfl)))) pa_nil)) rfl)
  (pss_cons (ps_expr (pe_callS (E := fun _ => E) G_check_ends (hr.mono (by decide)) (by rfl) g_check_ends k_check_ends b_check_ends (fun σ => passAt (takes_of rfl rfl rfl rfl) σ) (pa_cons (pe_fld (pv 0) rfl) (pa_cons (pv 3) (pa_cons (pv 4) pa_nil)))))
  (pss_cons (ps_fld (pv 0) (pe_callTy call_tuple_of (by rfl) m_tuple (by decide +kernel) (pa_cons (pv 3) pa_nil)) rfl)
  (pss_cons (ps_fld (pv 0) (pe_callTy call_tuple_of (by rfl) m_tuple (by decide +kernel) (pa_cons (pe_lc (own := [("name", 6)]) (by rfl) sc_Book_init.nd (pi_tup (pe_fld (pv 0) rfl)) (blkOk_by (N := ["self", "members", "pages", "starts", "home", "page", "name", "bids", "followers"]) (sc := defScope s_Book_init) (by decide +kernel)) (fun _ _ _ _ _ => (pg_name (i := 6) sc_Book_init.nd rfl (.inl rfl))) (fun _ _ _ _ _ => (pts_one (pt_cmpR (op_in_seqK (K := K) rfl) (pv 6) (pv 4) (by rfl)))) (fun _ _ _ _ _ => (pv 6))) pa_nil)) rfl)
  (pss_cons (ps_fld (pv 0) (pe_callTy call_tuple_of (by rfl) m_tuple (by decide +kernel) (pa_cons (pe_lc (own := [("name", 6), ("bids", 7), ("followers", 8)]) (by rfl) sc_Book_init.nd (pi_tup (pv 2)) (blkOk_by (N := ["self", "members", "pages", "starts", "home", "page", "name", "bids", "followers"]) (sc := defScope s_Book_init) (by decide +kernel)) (fun _ _ _ _ _ => (pg_tupK (K := K) (n := 3) rfl (by rfl) (pgs_cons (pg_name (i := 6) sc_Book_init.nd rfl (.inl rfl)) (pgs_cons (pg_name (i := 7) sc_Book_init.nd rfl (.inl rfl)) (pgs_cons (pg_name (i := 8) sc_Book_init.nd rfl (.inl rfl)) pgs_nil))))) (fun _ _ _ _ _ => pts_nil) (fun _ _ _ _ _ => (pe_tup (pa_cons (pv 6) (pa_cons (pe_callD d_sorted_bids (hr.mono (by decide)) (by rfl) (pa_cons (pv 1) (pa_cons (pv 7) pa_nil))) (pa_cons (pe_callTy (call_tuple_ofK (K := K) rfl) (by rfl) m_tuple (by decide +kernel) (pa_cons (pv 8) pa_nil)) pa_nil)))))) pa_nil)) rfl)
  (pss_one (ps_fld (pv 0) (pe_callTy call_tuple_of (by rfl) m_tuple (by decide +kernel) (pa_cons (pe_lc (own := [("name", 6), ("bids", 7), ("followers", 8)]) (by rfl) sc_Book_init.nd (pi_tup (pe_fld (pv 0) rfl)) (blkOk_by (N := ["self", "members", "pages", "starts", "home", "page", "name", "bids", "followers"]) (sc := defScope s_Book_init) (by decide +kernel)) (fun _ _ _ _ _ => (pg_tupK (K := K) (n := 3) rfl (by rfl) (pgs_cons (pg_name (i := 6) sc_Book_init.nd rfl (.inl rfl)) (pgs_cons (pg_name (i := 7) sc_Book_init.nd rfl (.inl rfl)) (pgs_cons (pg_name (i := 8) sc_Book_init.nd rfl (.inl rfl)) pgs_nil))))) (fun _ _ _ _ _ => pts_nil) (fun _ _ _ _ _ => (pe_make M_Page G_Page (hr.mono (by decide)) (by rfl) mg_Page b_Page .nil pass0 (pa_cons (pv 6) (pa_cons (pv 7) (pa_cons (pv 8) (pa_cons (pe_cmpR (op_in_seqK (K := K) rfl) (pv 6) (pe_fldK (K := K) rfl (pv 0) rfl) (by rfl)) pa_nil))))))) pa_nil)) rfl)))))))))), ?_⟩
    refine ⟨_, rfl, a, 4, zs, rfl, .inr (tupAt g.m), ok.l, ok.w, ?_⟩
    cases hN : faultN 4 zs with
    | some fl' =>
      rw [hN] at bad
      cases bad
      exact q.now (same_p (Same.refl _)) hp
    | none =>
    intro H1 s1
    rw [hN] at bad
    have bad : orF (faultP zs ds) (faultE (ds.map (·.nm)) ss hs) = some fl := bad
    refine ⟨_, rfl, _, rfl, a, b, zs, ps, ds, rfl, tupAt (s1 _ _ g.m), tupAt (s1 _ _ g.b), g.t.same s1, ok.p, ?_⟩
    cases hP : faultP zs ds with
    | some fl' =>
      rw [hP] at bad
      cases bad
      exact q.now (same_p s1) (s1 _ _ hp)
    | none =>
    intro H2 s2
    rw [hP] at bad
    have bad : faultE (ds.map (·.nm)) ss hs = some fl := bad
    have s12 := s1.trans s2
    -- members
    refine ⟨_, rfl, a, _, rfl, .inr ⟨tupAt (s12 _ _ g.m), ?_⟩⟩
    have s3 := s12
    have m3 := s12 _ _ g.m
    have g3 := g.same s3
    have p3 := s3 _ _ hp
    have f3 := same_p (p := p) s3
    generalize H2 = H3 at s3 m3 g3 p3 f3 ⊢
    refine ⟨_, rfl, p, C, dx, _, rfl, p3, T.cl, T.n1, by decide, ?_⟩
    have e4 := samep_upd (p := p) (H := H3) (o := .ins C dx (putF "members" (.ref a) []))
    have p4 := upd_same (H := H3) (a := p) (o := .ins C dx (putF "members" (.ref a) []))
    have f4 := f3.trans e4
    have m4 := e4 _ _ m3 (ne_of m3 p3 (by intro z; cases z))
    have g4 := g3.fr p3 e4
    generalize upd H3 p (.ins C dx (putF "members" (.ref a) [])) = H4 at p4 f4 m4 g4 ⊢
    -- names
    refine ⟨_, rfl, b, rfl, ⟨_, tupAt g4.b⟩, fun D nD => ?_⟩
    refine lc_tup (K := K) (a := b) (xs := ps.map V.ref) (fun i H' => Same H4 H' ∧ H' D = some (.lst (((ds.map (·.nm)).take i).map vN))) ⟨same_upd nD, upd_same⟩ (fun i H' _ hq => tupAt (hq.1 _ _ g4.b)) (fun i v H' hv hq => ?_) (fun H5 hq => ?_)
    · obtain ⟨sq, eD⟩ := hq
      obtain ⟨p', d, rfl, ed, ⟨b1, f1, es, he, _⟩⟩ := pgs_atT (g4.t.same sq) hv
      have hi := (List.getElem?_eq_some_iff.mp ed).1
      refine ⟨rfl, yesT ⟨_, rfl, _, _, 0, vN d.nm, rfl, rfl, tupAt he, atI_in (by decide) rfl, _, eD, by rw [List.length_map, List.length_take, List.length_map]; exact small1000 (by omega), same_at sq nD, ?_⟩⟩
      rw [List.take_add_one, List.getElem?_map, ed, List.map_append]
      exact upd_same
    obtain ⟨s5, eD⟩ := hq
    rw [pl, show ds.length = (ds.map (·.nm)).length from (List.length_map ..).symm, List.take_length] at eD
    refine ⟨D, _, rfl, lstAt eD, fun n o nn oc od => ?_⟩
    have s6 := s5.trans (same_upd (o := .frz o (.tup ((ds.map (·.nm)).map vN))) nn)
    have n6 := upd_same (H := H5) (a := n) (o := .frz o (.tup ((ds.map (·.nm)).map vN)))
    have p6 := s6 _ _ p4
    have m6 := s6 _ _ m4
    have g6 := g4.same s6
    have f6 := f4.trans (same_p (p := p) s6)
    generalize upd H5 n (.frz o (.tup ((ds.map (·.nm)).map vN))) = H6 at n6 p6 m6 g6 f6 ⊢
    refine ⟨_, rfl, p, C, dx, _, rfl, p6, T.cl, T.n2, Nat.lt_of_le_of_lt (put_len (n := 0) (Nat.le_refl 0)) (by decide), ?_⟩
    have e7 := samep_upd (p := p) (H := H6) (o := .ins C dx (putF "names" (.ref n) (putF "members" (.ref a) [])))
    have p7 := upd_same (H := H6) (a := p) (o := .ins C dx (putF "names" (.ref n) (putF "members" (.ref a) [])))
    have f7 := f6.trans e7
    have m7 := e7 _ _ m6 (ne_of m6 p6 (by intro z; cases z))
    have n7 := e7 _ _ n6 (ne_of n6 p6 (by intro z; cases z))
    have g7 := g6.fr p6 e7
    generalize upd H6 p (.ins C dx (putF "names" (.ref n) (putF "members" (.ref a) []))) = H7 at p7 f7 m7 n7 g7 ⊢
    clear e7 e4 p6 m6 n6 g6 f6 s6 s5 eD p4 m4 g4 f4 p3 m3 g3 f3 s3
    exact ⟨_, rfl, p, C, dx, _, _, rfl, p7, T.cl, T.n2, put_same _ _ _, _, rfl, _, rfl, n, c, h, ds.map (·.nm), ss, hs, rfl, .inr (.inl (.inr ⟨o, n7⟩)), tupAt g7.c, g7.h, ok.s, ok.h, after_some bad (q.now f7 p7)⟩
end
end TK

/-! what the making of a book tells -/
namespace TK
open PySem PySem.Spec PyProof.Rows L2 NdefX
structure ErrB (K : PySem.W.Frag) (mg : Str → Option Value) (e : Ec) (NN NU NP CH : Addr) : Prop where
  gN : mg "BadNumber" = some (.ref NN)
  gU : mg "UnknownName" = some (.ref NU)
  gP : mg "UnknownPage" = some (.ref NP)
  gH : mg "HouseError" = some (.ref CH)
  cb : PySem.W.exmOne K (.ref e.cc) (.ref e.cb) = some false
  nb : PySem.W.exmOne K (.ref e.cn) (.ref e.cb) = some false
  nc : PySem.W.exmOne K (.ref e.cn) (.ref e.cc) = some false
  db : PySem.W.exmOne K (.ref e.cd) (.ref e.cb) = some false
  dc : PySem.W.exmOne K (.ref e.cd) (.ref e.cc) = some false
  dn : PySem.W.exmOne K (.ref e.cd) (.ref e.cn) = some false
  ab : PySem.W.kitAny K (.ref e.cb) [.ref e.cc, .ref e.cn, .ref NN, .ref e.cd, .ref NU, .ref NP] = some false
  ac : PySem.W.kitAny K (.ref e.cc) [.ref e.cn, .ref NN, .ref e.cd, .ref NU, .ref NP] = some false
  an : PySem.W.kitAny K (.ref e.cn) [.ref NN, .ref e.cd, .ref NU, .ref NP] = some false
  ad : PySem.W.kitAny K (.ref e.cd) [.ref NN, .ref NU, .ref NP] = some false
  hb : PySem.W.kitOne K (.ref e.cb) (.ref CH) = some true
  hc : PySem.W.kitOne K (.ref e.cc) (.ref CH) = some true
  hn : PySem.W.kitOne K (.ref e.cn) (.ref CH) = some true
  hd : PySem.W.kitOne K (.ref e.cd) (.ref CH) = some true
  vb : PySem.W.kitOne K (.ref e.cb) (.type "ValueError") = some true
  vc : PySem.W.kitOne K (.ref e.cc) (.type "ValueError") = some true
  vn : PySem.W.kitOne K (.ref e.cn) (.type "ValueError") = some true
  vd : PySem.W.kitOne K (.ref e.cd) (.type "ValueError") = some true
  xb : ExcC K e.cb
  xc : ExcC K e.cc
  xn : ExcC K e.cn
  xd : ExcC K e.cd
theorem SzB.wok {m : Nat} {b : BkD} (h : SzB m b) (q : m < 64) : BkW b.zs b.ss b.hs b.ds := ⟨h.zl, h.zw, ⟨by have := h.dl; omega, fun d md => ⟨(h.dw d md).1, by have := (h.dw d md).2.2.1; omega, by have := (h.dw d md).2.2.2.2; omega⟩⟩, by have := h.sl; omega, by have := h.hl; omega⟩
section
variable {P : Program} {w : World} {K : PySem.W.Frag} {mg : Str → Option Value} {base : Heap}
abbrev spBook36 (K : PySem.W.Frag) (C CP : Addr) (e : Ec) : Sp := fun vs H Q E => (spInitBk K C CP vs H Q E ∨ spInitBkT K C CP vs H Q E) ∨ (spBad K C e vs H Q E ∨ spBadT K C e vs H Q E)
def spToldB : Sp := fun vs H Q _ => ∃ (t a p s h : Addr) (ps : List Addr) (b : BkD), vs = [.ref t] ∧ ((∃ H0, GivL H0 H t b a p s h ps) ∨ GivT H t b a p s h ps) ∧
  ((BOkD b ∧ ∀ H' q, Same H H' → H' q = some (.tup [.str "made"]) → Q (.ref q) H') ∨
   (∃ fl : Flt, fltB b = some fl ∧ BkW b.zs b.ss b.hs b.ds ∧ ∀ H' q, Same H H' → H' q = some (.tup (dueV fl ++ [.bl true, .bl true, .bl false])) → Q (.ref q) H'))
theorem ok_L_told {f C CP fB NN NU NP CH fC fN fD fF : Addr} {e : Ec} {fd fdB fdC fdN fdD fdF : FuncData} (F : Fun K "_law_told" "_law_told" s_L_told f fd) (TC : SupT P w K mg base "BadCount" "size" "size" (fun _ => True) e.cc fC fdC) (TN : SupT P w K mg base "BadName" "name" "name" okN36 e.cn fN fdN) (TD : SupT P w K mg base "DoubledName" "name" "name" okN36 e.cd fD fdD)
    (TB : SupT2 P w K mg base "BadBook" "part" "part" "place" "place" okB36 e.cb fF fdF) (EB : ErrB K mg e NN NU NP CH) (m_isinstance : mg "isinstance" = none) (m_ValueError : mg "ValueError" = none)
    (M_Book : Mk K C fB) (G_Book : FnOk P w K mg base (L2.CX P w) 5 fB fdB ["self", "members", "pages", "starts", "home"] (spBook36 K C CP e)) (mg_Book : mg "Book" = some (.ref C))
    {g1 : List Value → List Value → List Value} (kb_Book : KBn K fdB ["self", "members", "pages", "starts", "home"] 4 ["home"] g1 (fun vs zs => vs ++ zs)) : FnOk P w K mg base CX0 7 f fd ["_law_given"] spToldB := by
  refine F.ok sc_L_told (fun vs H Q E h => ?_) (fun cdv A outer s H vs Q E hr h => ?_)
  · obtain ⟨t, a, p, s, h, ps, b, rfl, _⟩ := h
    rfl
  · obtain ⟨t, a, p, s, h, ps, b, rfl, hg, hc⟩ := h
    have et : H t = some (.tup [.ref a, .ref p, .ref s, .ref h]) := by
      rcases hg with ⟨_, g⟩ | g
      · exact g.et
      · exact g.et
    refine ⟨_, pss_cons (ps_set (i := 1) sc_L_told.nd rfl (.inl rfl) (pe_tup (pa_cons pe_str pa_nil)))
      (pss_cons (ps_try_manyA (i := 2) (Wout := fun _ _ _ _ => False) rfl rfl sc_L_told.nd rfl rfl takes0
        (fun W pn xe tk _ => pss_one (ps_expr (pe_makeKAt (E := fun σ => WE W σ) M_Book G_Book (hr.mono (by decide)) (by rfl) mg_Book kb_Book (fun σ => passAt tk σ) (pa_cons (pe_ix (ix_tupK (K := K) rfl) (pv 0) pe_int (fun _ _ => rfl)) (pa_cons (pe_ix (ix_tupK (K := K) rfl) (pv 0) pe_int (fun _ _ => rfl)) (pa_cons (pe_ix (ix_tupK (K := K) rfl) (pv 0) pe_int (fun _ _ => rfl)) pa_nil))) (pk_cons (pe_ix (ix_tupK (K := K) rfl) (pv 0) pe_int (fun _ _ => rfl)) pk_nil))))
        (HdsA.cons ⟨rfl, by decide, .inl TB.gC⟩
          (fun a oe cls d pn hz hf => pss_cons (ps_set (i := 3) sc_L_told.nd rfl (.inl rfl) (pe_callB (call_isXT EB.xb hz hf) (by rfl) m_isinstance (by decide +kernel) (pa_cons (pv 2) (pa_cons (pe_tup (pa_cons (pe_glob (v := .ref e.cc) (u := .ref e.cc) (by rfl) TC.gC rfl) (pa_cons (pe_glob (v := .ref e.cn) (u := .ref e.cn) (by rfl) TN.gC rfl) (pa_cons (pe_glob (v := .ref NN) (u := .ref NN) (by rfl) EB.gN rfl) (pa_cons (pe_glob (v := .ref e.cd) (u := .ref e.cd) (by rfl) TD.gC rfl) (pa_cons (pe_glob (v := .ref NU) (u := .ref NU) (by rfl) EB.gU rfl) (pa_cons (pe_glob (v := .ref NP) (u := .ref NP) (by rfl) EB.gP rfl) pa_nil))))))) pa_nil))))
            (pss_one (ps_set (i := 1) sc_L_told.nd rfl (.inl rfl) (pe_tup (pa_cons pe_str (pa_cons (pe_xf TB.xf TB.noN hz hf (pv 2)) (pa_cons (pe_xf TB.xf TB.noN2 hz hf (pv 2)) (pa_cons (pe_callB (call_isX EB.xb hz hf) (by rfl) m_isinstance (by decide +kernel) (pa_cons (pv 2) (pa_cons (pe_glob (v := .ref CH) (u := .ref CH) (by rfl) EB.gH rfl) pa_nil))) (pa_cons (pe_callB (call_isX EB.xb hz hf) (by rfl) m_isinstance (by decide +kernel) (pa_cons (pv 2) (pa_cons (pe_bltn (v := .ty "ValueError") (u := .type "ValueError") (by rfl) m_ValueError (by decide +kernel) rfl) pa_nil))) (pa_cons (pv 3) pa_nil))))))))))
        (HdsA.cons ⟨rfl, by decide, .inl TC.gC⟩
          (fun a oe cls d pn hz hf => pss_cons (ps_set (i := 3) sc_L_told.nd rfl (.inl rfl) (pe_callB (call_isXT EB.xc hz hf) (by rfl) m_isinstance (by decide +kernel) (pa_cons (pv 2) (pa_cons (pe_tup (pa_cons (pe_glob (v := .ref e.cn) (u := .ref e.cn) (by rfl) TN.gC rfl) (pa_cons (pe_glob (v := .ref NN) (u := .ref NN) (by rfl) EB.gN rfl) (pa_cons (pe_glob (v := .ref e.cd) (u := .ref e.cd) (by rfl) TD.gC rfl) (pa_cons (pe_glob (v := .ref NU) (u := .ref NU) (by rfl) EB.gU rfl) (pa_cons (pe_glob (v := .ref NP) (u := .ref NP) (by rfl) EB.gP rfl) pa_nil)))))) pa_nil))))
            (pss_one (ps_set (i := 1) sc_L_told.nd rfl (.inl rfl) (pe_tup (pa_cons pe_str (pa_cons (pe_xf TC.xf TC.noN hz hf (pv 2)) (pa_cons (pe_callB (call_isX EB.xc hz hf) (by rfl) m_isinstance (by decide +kernel) (pa_cons (pv 2) (pa_cons (pe_glob (v := .ref CH) (u := .ref CH) (by rfl) EB.gH rfl) pa_nil))) (pa_cons (pe_callB (call_isX EB.xc hz hf) (by rfl) m_isinstance (by decide +kernel) (pa_cons (pv 2) (pa_cons (pe_bltn (v := .ty "ValueError") (u := .type "ValueError") (by rfl) m_ValueError (by decide +kernel) rfl) pa_nil))) (pa_cons (pv 3) pa_nil)))))))))
        (HdsA.cons ⟨rfl, by decide, .inl TN.gC⟩
          (fun a oe cls d pn hz hf => pss_cons (ps_set (i := 3) sc_L_told.nd rfl (.inl rfl) (pe_callB (call_isXT EB.xn hz hf) (by rfl) m_isinstance (by decide +kernel) (pa_cons (pv 2) (pa_cons (pe_tup (pa_cons (pe_glob (v := .ref NN) (u := .ref NN) (by rfl) EB.gN rfl) (pa_cons (pe_glob (v := .ref e.cd) (u := .ref e.cd) (by rfl) TD.gC rfl) (pa_cons (pe_glob (v := .ref NU) (u := .ref NU) (by rfl) EB.gU rfl) (pa_cons (pe_glob (v := .ref NP) (u := .ref NP) (by rfl) EB.gP rfl) pa_nil))))) pa_nil))))
            (pss_one (ps_set (i := 1) sc_L_told.nd rfl (.inl rfl) (pe_tup (pa_cons pe_str (pa_cons (pe_xf TN.xf TN.noN hz hf (pv 2)) (pa_cons (pe_callB (call_isX EB.xn hz hf) (by rfl) m_isinstance (by decide +kernel) (pa_cons (pv 2) (pa_cons (pe_glob (v := .ref CH) (u := .ref CH) (by rfl) EB.gH rfl) pa_nil))) (pa_cons (pe_callB (call_isX EB.xn hz hf) (by rfl) m_isinstance (by decide +kernel) (pa_cons (pv 2) (pa_cons (pe_bltn (v := .ty "ValueError") (u := .type "ValueError") (by rfl) m_ValueError (by decide +kernel) rfl) pa_nil))) (pa_cons (pv 3) pa_nil)))))))))
        (HdsA.cons ⟨rfl, by decide, .inl TD.gC⟩
          (fun a oe cls d pn hz hf => pss_cons (ps_set (i := 3) sc_L_told.nd rfl (.inl rfl) (pe_callB (call_isXT EB.xd hz hf) (by rfl) m_isinstance (by decide +kernel) (pa_cons (pv 2) (pa_cons (pe_tup (pa_cons (pe_glob (v := .ref NN) (u := .ref NN) (by rfl) EB.gN rfl) (pa_cons (pe_glob (v := .ref NU) (u := .ref NU) (by rfl) EB.gU rfl) (pa_cons (pe_glob (v := .ref NP) (u := .ref NP) (by rfl) EB.gP rfl) pa_nil)))) pa_nil))))
            (pss_one (ps_set (i := 1) sc_L_told.nd rfl (.inl rfl) (pe_tup (pa_cons pe_str (pa_cons (pe_xf TD.xf TD.noN hz hf (pv 2)) (pa_cons (pe_callB (call_isX EB.xd hz hf) (by rfl) m_isinstance (by decide +kernel) (pa_cons (pv 2) (pa_cons (pe_glob (v := .ref CH) (u := .ref CH) (by rfl) EB.gH rfl) pa_nil))) (pa_cons (pe_callB (call_isX EB.xd hz hf) (by rfl) m_isinstance (by decide +kernel) (pa_cons (pv 2) (pa_cons (pe_bltn (v := .ty "ValueError") (u := .type "ValueError") (by rfl) m_ValueError (by decide +kernel) rfl) pa_nil))) (pa_cons (pv 3) pa_nil)))))))))
        .nil))))) (pss_one (ps_ret (pv 1)))), ?_⟩
    refine ⟨(show (1 : Nat) ≤ sizeLine by decide), fun m0 nm0 => ?_⟩
    have s0 := same_upd (o := .tup [V.str "made"]) nm0
    have e0 := upd_same (H := H) (a := m0) (o := .tup [V.str "made"])
    generalize upd H m0 (.tup [V.str "made"]) = H1 at s0 e0 ⊢
    have et1 := s0 _ _ et
    refine ⟨_, rfl, _, _, 0, _, rfl, rfl, tupAt et1, rfl, _, rfl, _, _, 1, _, rfl, rfl, tupAt et1, rfl, _, rfl, _, _, 2, _, rfl, rfl, tupAt et1, rfl, _, rfl, _, _, 3, _, rfl, rfl, tupAt et1, rfl, ?_⟩
    refine ⟨rfl, rfl, fun x dx nx ndx nex => ?_⟩
    have sdx := same_upd (o := .own x) ndx
    have nxx : (upd H1 dx (.own x)) x = none := by rw [upd_ne nex.symm]; exact nx
    have sx := s0.trans (sdx.trans (same_upd (o := .ins C dx []) nxx))
    have e0x := (sdx.trans (same_upd (o := .ins C dx []) nxx)) _ _ e0
    have ex := upd_same (H := upd H1 dx (.own x)) (a := x) (o := .ins C dx [])
    have nxH : H x = none := none_of s0 nx
    have m0x : m0 ≠ x := ne_of_none e0 nx
    generalize upd (upd H1 dx (.own x)) x (.ins C dx []) = Hx at sx e0x ex ⊢
    have toL : ∀ {H0 : Hp}, GivL H0 H t b a p s h ps → BkG K Hx a p s h b.zs b.ss b.hs ps b.ds := fun g => ⟨lstAt (sx _ _ g.ea), lstAt (sx _ _ g.ep), ⟨g.er.1, fun i p e => by
      obtain ⟨d, a1, b, f, es, a2, a3, a4, a5, _⟩ := g.er.2 i p e
      exact ⟨d, a1, b, f, es, sx _ _ a2, lstAt (sx _ _ a3), a4.same sx, lstAt (sx _ _ a5)⟩⟩, lstAt (sx _ _ g.es), lstAt (sx _ _ g.eh)⟩
    have toT : GivT H t b a p s h ps → BkGT K Hx a p s h b.zs b.ss b.hs ps b.ds := fun g => (⟨g.ea, g.ep, g.er, g.es, tupAt g.eh⟩ : BkGT K H a p s h b.zs b.ss b.hs ps b.ds).same sx
    have sH : ∀ {H9 : Hp}, SameP x Hx H9 → Same H H9 := fun sp y o e => sp y o (sx _ _ e) (ne_of_none e nxH)
    rcases hc with ⟨ok, q⟩ | ⟨fl, bad, bw, q⟩
    · have fin : ∀ H9, SameP x Hx H9 → Q (.ref m0) H9 := fun H9 sp => q H9 m0 (sH sp) (sp _ _ e0x m0x)
      rcases hg with ⟨H0, g⟩ | g
      · exact .inl (.inl ⟨x, a, p, s, h, dx, b.zs, b.ss, b.hs, ps, b.ds, rfl, ex, toL g, ok.z1, ok.z4, ok.zn, ok.nz, ok.ok, ok.sne, ok.snd, ok.ssub, ok.hnd, ok.hsub, fun H9 bk sp => ⟨rfl, _, rfl, fin H9 sp⟩⟩)
      · exact .inl (.inr ⟨x, a, p, s, h, dx, b.zs, b.ss, b.hs, ps, b.ds, rfl, ex, toT g, ok.z1, ok.z4, ok.zn, ok.nz, ok.ok, ok.sne, ok.snd, ok.ssub, ok.hnd, ok.hsub, fun H9 bk sp => ⟨rfl, _, rfl, fin H9 sp⟩⟩)
    have G : ∀ (Q' : VK) (E' : XK), RaisedP x e fl Hx E' → (spBad K C e [.ref x, .ref a, .ref p, .ref s, .ref h] Hx Q' E' ∨ spBadT K C e [.ref x, .ref a, .ref p, .ref s, .ref h] Hx Q' E') := fun Q' E' r => by
      rcases hg with ⟨H0, g⟩ | g
      · exact .inl ⟨x, a, p, s, h, dx, b.zs, b.ss, b.hs, ps, b.ds, fl, rfl, ex, toL g, bw, bad, r⟩
      · exact .inr ⟨x, a, p, s, h, dx, b.zs, b.ss, b.hs, ps, b.ds, fl, rfl, ex, toT g, bw, bad, r⟩
    refine .inr (G _ _ fun H9 d nd sp ed => ?_)
    have s9 := sH sp
    cases fl with
    | book part pl =>
      refine ⟨true, TB.te, fun _ e0 ne0 => ?_, fun z => nomatch z⟩
      refine ⟨_, rfl, (show (6 : Nat) ≤ sizeLine by decide), fun tp ntp => ?_⟩
      have st := same_upd (o := .tup [V.ref e.cc, .ref e.cn, .ref NN, .ref e.cd, .ref NU, .ref NP]) ntp
      have ed2 := st _ _ ed
      refine ⟨tp, _, _, false, rfl, rfl, .inr ⟨d, _, rfl, ed2⟩, upd_same, fun us r => ClsV.all (.cons (.own e.cc) (.cons (.own e.cn) (.cons (.own NN) (.cons (.own e.cd) (.cons (.own NU) (.cons (.own NP) .nil)))))) r, EB.ab, ?_⟩
      refine ⟨_, rfl, rfl, rfl, d, _, V.str part, rfl, ed2, rfl, ?_⟩
      refine ⟨_, rfl, rfl, rfl, d, _, V.int pl, rfl, ed2, rfl, ?_⟩
      refine ⟨_, rfl, .ref CH, .ref CH, true, rfl, rfl, .inr ⟨d, _, rfl, ed2⟩, (fun u r => r), EB.hb, ?_⟩
      refine ⟨_, rfl, .ty "ValueError", .type "ValueError", true, rfl, rfl, .inr ⟨d, _, rfl, ed2⟩, (fun u r => r), EB.vb, ?_⟩
      refine ⟨_, rfl, (show (6 : Nat) ≤ sizeLine by decide), fun u nu => ?_⟩
      exact ⟨_, rfl, q _ u (s9.trans (st.trans (same_upd nu))) upd_same⟩
    | count n =>
      refine ⟨false, EB.cb, fun z => absurd z (by decide), fun _ => ⟨true, TC.te, fun _ e0 ne0 => ?_, fun z => nomatch z⟩⟩
      refine ⟨_, rfl, (show (5 : Nat) ≤ sizeLine by decide), fun tp ntp => ?_⟩
      have st := same_upd (o := .tup [V.ref e.cn, .ref NN, .ref e.cd, .ref NU, .ref NP]) ntp
      have ed2 := st _ _ ed
      refine ⟨tp, _, _, false, rfl, rfl, .inr ⟨d, _, rfl, ed2⟩, upd_same, fun us r => ClsV.all (.cons (.own e.cn) (.cons (.own NN) (.cons (.own e.cd) (.cons (.own NU) (.cons (.own NP) .nil))))) r, EB.ac, ?_⟩
      refine ⟨_, rfl, rfl, rfl, d, _, V.int n, rfl, ed2, rfl, ?_⟩
      refine ⟨_, rfl, .ref CH, .ref CH, true, rfl, rfl, .inr ⟨d, _, rfl, ed2⟩, (fun u r => r), EB.hc, ?_⟩
      refine ⟨_, rfl, .ty "ValueError", .type "ValueError", true, rfl, rfl, .inr ⟨d, _, rfl, ed2⟩, (fun u r => r), EB.vc, ?_⟩
      refine ⟨_, rfl, (show (5 : Nat) ≤ sizeLine by decide), fun u nu => ?_⟩
      exact ⟨_, rfl, q _ u (s9.trans (st.trans (same_upd nu))) upd_same⟩
    | bad y =>
      refine ⟨false, EB.nb, fun z => absurd z (by decide), fun _ => ⟨false, EB.nc, fun z => absurd z (by decide), fun _ => ⟨true, TN.te, fun _ e0 ne0 => ?_, fun z => nomatch z⟩⟩⟩
      refine ⟨_, rfl, (show (4 : Nat) ≤ sizeLine by decide), fun tp ntp => ?_⟩
      have st := same_upd (o := .tup [V.ref NN, .ref e.cd, .ref NU, .ref NP]) ntp
      have ed2 := st _ _ ed
      refine ⟨tp, _, _, false, rfl, rfl, .inr ⟨d, _, rfl, ed2⟩, upd_same, fun us r => ClsV.all (.cons (.own NN) (.cons (.own e.cd) (.cons (.own NU) (.cons (.own NP) .nil)))) r, EB.an, ?_⟩
      refine ⟨_, rfl, rfl, rfl, d, _, vN y, rfl, ed2, rfl, ?_⟩
      refine ⟨_, rfl, .ref CH, .ref CH, true, rfl, rfl, .inr ⟨d, _, rfl, ed2⟩, (fun u r => r), EB.hn, ?_⟩
      refine ⟨_, rfl, .ty "ValueError", .type "ValueError", true, rfl, rfl, .inr ⟨d, _, rfl, ed2⟩, (fun u r => r), EB.vn, ?_⟩
      refine ⟨_, rfl, (show (5 : Nat) ≤ sizeLine by decide), fun u nu => ?_⟩
      exact ⟨_, rfl, q _ u (s9.trans (st.trans (same_upd nu))) upd_same⟩
    | dbl y =>
      refine ⟨false, EB.db, fun z => absurd z (by decide), fun _ => ⟨false, EB.dc, fun z => absurd z (by decide), fun _ => ⟨false, EB.dn, fun z => absurd z (by decide), fun _ => ⟨true, TD.te, fun _ e0 ne0 => ?_, fun z => nomatch z⟩⟩⟩⟩
      refine ⟨_, rfl, (show (3 : Nat) ≤ sizeLine by decide), fun tp ntp => ?_⟩
      have st := same_upd (o := .tup [V.ref NN, .ref NU, .ref NP]) ntp
      have ed2 := st _ _ ed
      refine ⟨tp, _, _, false, rfl, rfl, .inr ⟨d, _, rfl, ed2⟩, upd_same, fun us r => ClsV.all (.cons (.own NN) (.cons (.own NU) (.cons (.own NP) .nil))) r, EB.ad, ?_⟩
      refine ⟨_, rfl, rfl, rfl, d, _, vN y, rfl, ed2, rfl, ?_⟩
      refine ⟨_, rfl, .ref CH, .ref CH, true, rfl, rfl, .inr ⟨d, _, rfl, ed2⟩, (fun u r => r), EB.hd, ?_⟩
      refine ⟨_, rfl, .ty "ValueError", .type "ValueError", true, rfl, rfl, .inr ⟨d, _, rfl, ed2⟩, (fun u r => r), EB.vd, ?_⟩
      refine ⟨_, rfl, (show (5 : Nat) ≤ sizeLine by decide), fun u nu => ?_⟩
      exact ⟨_, rfl, q _ u (s9.trans (st.trans (same_upd nu))) upd_same⟩
end
end TK

/-! what is handed twice is the same; the refusals -/
namespace TK
open PySem PySem.Spec PyProof.Rows L2
theorem flat_nms (zs : List Nam) : ∀ x ∈ zs.map vN, flat1 x = true := fun x m => by
  obtain ⟨z, _, rfl⟩ := List.mem_map.mp m
  rfl
theorem eq_bidsL {H : Hp} {p q : Addr} {es fs : List Addr} {ds : List BidD} (hp : H p = some (.lst (es.map V.ref))) (hq : H q = some (.lst (fs.map V.ref))) (he : BidsAt H es ds) (hf : BidsAt H fs ds) (l : ds.length ≤ 1000) : Eq2 H 2 (.ref p) (.ref q) := by
  refine .inr ⟨p, q, _, _, rfl, rfl, .inl ⟨hp, hq⟩, by rw [List.length_map, List.length_map, he.1, hf.1], by rw [List.length_map, he.1]; exact Nat.lt_of_le_of_lt l (by decide), fun k a b ha hb => ?_⟩
  obtain ⟨e, d, rfl, ed, h1⟩ := bids_at he ha
  obtain ⟨e', d', rfl, ed', h2⟩ := bids_at hf hb
  cases Option.some.inj (ed.symm.trans ed')
  refine eq_flat (.inl h1) (.inl h2) (show (2 : Nat) ≤ 1000 by decide) (fun x hx => ?_) 0
  rcases List.mem_cons.mp hx with rfl | hx
  · rfl
  · rw [List.mem_singleton.mp hx]; rfl
theorem eq_rows {H H0 H0' : Hp} {p q L L' : Addr} {ps qs : List Addr} {ds : List PgD} (hp : H p = some (.lst (ps.map V.ref))) (hq : H q = some (.lst (qs.map V.ref))) (he : AllAt (RwI H0 L) H ps ds) (hf : AllAt (RwI H0' L') H qs ds) (l : ds.length ≤ 1000) (lb : ∀ d ∈ ds, d.bids.length ≤ 1000) (lf : ∀ d ∈ ds, d.fol.length ≤ 1000) : Eq2 H 4 (.ref p) (.ref q) := by
  refine .inr ⟨p, q, _, _, rfl, rfl, .inl ⟨hp, hq⟩, by rw [List.length_map, List.length_map, he.1, hf.1], by rw [List.length_map, he.1]; exact Nat.lt_of_le_of_lt l (by decide), fun k a b ha hb => ?_⟩
  obtain ⟨e, d, rfl, ed, b1, f1, es1, h1, h2, h3, h4, _⟩ := all_at he ha
  obtain ⟨e', d', rfl, ed', b2, f2, es2, k1, k2, k3, k4, _⟩ := all_at hf hb
  cases Option.some.inj (ed.symm.trans ed')
  have md := List.mem_of_getElem? ed
  refine .inr ⟨e, e', _, _, rfl, rfl, .inr ⟨.inl h1, .inl k1⟩, rfl, (show (3 : Nat) < 2 ^ 40 by decide), fun j x y hx hy => ?_⟩
  match j, hx, hy with
  | 0, hx, hy => cases Option.some.inj hx; cases Option.some.inj hy; exact .inl ⟨rfl, rfl⟩
  | 1, hx, hy => cases Option.some.inj hx; cases Option.some.inj hy; exact eq_bidsL h2 k2 h3 k3 (lb d md)
  | 2, hx, hy => cases Option.some.inj hx; cases Option.some.inj hy; exact eq_flatL h4 k4 (by rw [List.length_map]; exact lf d md) (flat_nms _) 1
  | j + 3, hx, hy => simp at hx
theorem eq_bidsT {H : Hp} {p q : Addr} {es fs : List Addr} {ds : List BidD} (hp : H p = some (.tup (es.map V.ref))) (hq : H q = some (.tup (fs.map V.ref))) (he : BidsAt H es ds) (hf : BidsAt H fs ds) (l : ds.length ≤ 1000) : Eq2 H 2 (.ref p) (.ref q) := by
  refine .inr ⟨p, q, _, _, rfl, rfl, .inr ⟨.inl hp, .inl hq⟩, by rw [List.length_map, List.length_map, he.1, hf.1], by rw [List.length_map, he.1]; exact Nat.lt_of_le_of_lt l (by decide), fun k a b ha hb => ?_⟩
  obtain ⟨e, d, rfl, ed, h1⟩ := bids_at he ha
  obtain ⟨e', d', rfl, ed', h2⟩ := bids_at hf hb
  cases Option.some.inj (ed.symm.trans ed')
  refine eq_flat (.inl h1) (.inl h2) (show (2 : Nat) ≤ 1000 by decide) (fun x hx => ?_) 0
  rcases List.mem_cons.mp hx with rfl | hx
  · rfl
  · rw [List.mem_singleton.mp hx]; rfl
theorem eq_rowsT {H : Hp} {p q : Addr} {ps qs : List Addr} {ds : List PgD} (hp : H p = some (.tup (ps.map V.ref))) (hq : H q = some (.tup (qs.map V.ref))) (he : PgsInT H ps ds) (hf : PgsInT H qs ds) (l : ds.length ≤ 1000) (lb : ∀ d ∈ ds, d.bids.length ≤ 1000) (lf : ∀ d ∈ ds, d.fol.length ≤ 1000) : Eq2 H 4 (.ref p) (.ref q) := by
  refine .inr ⟨p, q, _, _, rfl, rfl, .inr ⟨.inl hp, .inl hq⟩, by rw [List.length_map, List.length_map, he.1, hf.1], by rw [List.length_map, he.1]; exact Nat.lt_of_le_of_lt l (by decide), fun k a b ha hb => ?_⟩
  obtain ⟨e, d, rfl, ed, b1, f1, es1, h1, h2, h3, h4⟩ := pgs_atT he ha
  obtain ⟨e', d', rfl, ed', b2, f2, es2, k1, k2, k3, k4⟩ := pgs_atT hf hb
  cases Option.some.inj (ed.symm.trans ed')
  have md := List.mem_of_getElem? ed
  refine .inr ⟨e, e', _, _, rfl, rfl, .inr ⟨.inl h1, .inl k1⟩, rfl, (show (3 : Nat) < 2 ^ 40 by decide), fun j x y hx hy => ?_⟩
  match j, hx, hy with
  | 0, hx, hy => cases Option.some.inj hx; cases Option.some.inj hy; exact .inl ⟨rfl, rfl⟩
  | 1, hx, hy => cases Option.some.inj hx; cases Option.some.inj hy; exact eq_bidsT h2 k2 h3 k3 (lb d md)
  | 2, hx, hy => cases Option.some.inj hx; cases Option.some.inj hy; exact eq_flat (.inl h4) (.inl k4) (by rw [List.length_map]; exact lf d md) (flat_nms _) 1
  | j + 3, hx, hy => simp at hx
/-- what is handed twice is the same -/
theorem eq_given {H0 H0' H : Hp} {t a p s h t' a' p' s' h' : Addr} {ps qs : List Addr} {b : BkD} (g : GivL H0 H t b a p s h ps) (k : GivL H0' H t' b a' p' s' h' qs) {m : Nat} (ln : SzB m b) (hm : m ≤ 60) : Eq2 H 5 (.ref t) (.ref t') := by
  have l1 := ln.zl
  have l2 := ln.dl
  have l3 := ln.sl
  have l4 := ln.hl
  have lb : ∀ d ∈ b.ds, d.bids.length ≤ 1000 := fun d md => by have := (ln.dw d md).2.2.1; omega
  have lf : ∀ d ∈ b.ds, d.fol.length ≤ 1000 := fun d md => by have := (ln.dw d md).2.2.2.2; omega
  refine .inr ⟨t, t', _, _, rfl, rfl, .inr ⟨.inl g.et, .inl k.et⟩, rfl, (show (4 : Nat) < 2 ^ 40 by decide), fun j x y hx hy => ?_⟩
  match j, hx, hy with
  | 0, hx, hy => cases Option.some.inj hx; cases Option.some.inj hy; exact eq_flatL g.ea k.ea (by rw [List.length_map]; omega) (flat_nms _) 3
  | 1, hx, hy => cases Option.some.inj hx; cases Option.some.inj hy; exact eq_rows g.ep k.ep g.er k.er (by omega) lb lf
  | 2, hx, hy => cases Option.some.inj hx; cases Option.some.inj hy; exact eq_flatL g.es k.es (by rw [List.length_map]; omega) (flat_nms _) 3
  | 3, hx, hy => cases Option.some.inj hx; cases Option.some.inj hy; exact eq_flatL g.eh k.eh (by rw [List.length_map]; omega) (flat_nms _) 3
  | j + 4, hx, hy => simp at hx
theorem eq_givenT {H : Hp} {t a p s h t' a' p' s' h' : Addr} {ps qs : List Addr} {b : BkD} (g : GivT H t b a p s h ps) (k : GivT H t' b a' p' s' h' qs) {m : Nat} (ln : SzB m b) (hm : m ≤ 60) : Eq2 H 5 (.ref t) (.ref t') := by
  have l1 := ln.zl
  have l2 := ln.dl
  have l3 := ln.sl
  have l4 := ln.hl
  have lb : ∀ d ∈ b.ds, d.bids.length ≤ 1000 := fun d md => by have := (ln.dw d md).2.2.1; omega
  have lf : ∀ d ∈ b.ds, d.fol.length ≤ 1000 := fun d md => by have := (ln.dw d md).2.2.2.2; omega
  refine .inr ⟨t, t', _, _, rfl, rfl, .inr ⟨.inl g.et, .inl k.et⟩, rfl, (show (4 : Nat) < 2 ^ 40 by decide), fun j x y hx hy => ?_⟩
  match j, hx, hy with
  | 0, hx, hy => cases Option.some.inj hx; cases Option.some.inj hy; exact eq_flat (.inl g.ea) (.inl k.ea) (by rw [List.length_map]; omega) (flat_nms _) 3
  | 1, hx, hy => cases Option.some.inj hx; cases Option.some.inj hy; exact eq_rowsT g.ep k.ep g.er k.er (by omega) lb lf
  | 2, hx, hy => cases Option.some.inj hx; cases Option.some.inj hy; exact eq_flat (.inl g.es) (.inl k.es) (by rw [List.length_map]; omega) (flat_nms _) 3
  | 3, hx, hy => cases Option.some.inj hx; cases Option.some.inj hy; exact eq_flat (.inl g.eh) (.inl k.eh) (by rw [List.length_map]; omega) (flat_nms _) 3
  | j + 4, hx, hy => simp at hx
theorem GivL.sameR {H0 H H' : Hp} {t a p s h : Addr} {ps : List Addr} {b : BkD} (g : GivL H0 H t b a p s h ps) (k : Same H H') : GivL H0 H' t b a p s h ps := ⟨k _ _ g.et, k _ _ g.ea, k _ _ g.ep, g.er.mono fun _ _ r => r.same k, k _ _ g.es, k _ _ g.eh, g.na, g.np, g.ns, g.nh⟩
theorem GivT.sameR {H H' : Hp} {t a p s h : Addr} {ps : List Addr} {b : BkD} (g : GivT H t b a p s h ps) (k : Same H H') : GivT H' t b a p s h ps := ⟨k _ _ g.et, k _ _ g.ea, k _ _ g.ep, g.er.same k, k _ _ g.es, k _ _ g.eh⟩
theorem due_flat (fl : Flt) : ∀ x ∈ dueV fl ++ [.bl true, .bl true, .bl false], flat1 x = true := by
  intro x hx
  rcases List.mem_append.mp hx with hx | hx
  · cases fl with
    | book q i =>
      simp only [dueV, List.mem_cons, List.not_mem_nil, or_false] at hx
      rcases hx with h | h | h <;> subst h <;> rfl
    | count n =>
      simp only [dueV, List.mem_cons, List.not_mem_nil, or_false] at hx
      rcases hx with h | h <;> subst h <;> rfl
    | bad y =>
      simp only [dueV, List.mem_cons, List.not_mem_nil, or_false] at hx
      rcases hx with h | h <;> subst h <;> rfl
    | dbl y =>
      simp only [dueV, List.mem_cons, List.not_mem_nil, or_false] at hx
      rcases hx with h | h <;> subst h <;> rfl
  · simp only [List.mem_cons, List.not_mem_nil, or_false] at hx
    rcases hx with h | h | h <;> subst h <;> rfl
theorem due_len (fl : Flt) : (dueV fl).length ≤ 3 := by cases fl <;> simp [dueV]
theorem due_ne (fl : Flt) : dueV fl ≠ [] := by cases fl <;> exact nofun
section
variable {P : Program} {w : World} {K : PySem.W.Frag} {mg : Str → Option Value} {base : Heap}
def spRefuses (K : PySem.W.Frag) : Sp := fun vs H Q _ => ∃ (a c D : Addr) (ns ms : List Int) (b : BkD), vs = [.ref a, .ref c, .ref D] ∧ SqL K H a (ns.map V.int) ∧ ns.length = 16 ∧ SqL K H c (ms.map V.int) ∧ ms.length = 16 ∧ PartsAt H D b ∧ BOkD b ∧ StOk 6 b ∧ SzB 4 b ∧ ∀ H', Same H H' → Q (.bl true) H'
theorem ok_L_refuses {f : Addr} {fd : FuncData} (F : Fun K "_law_refuses" "_law_refuses" s_L_refuses f fd) (d_L_part : Def P w K mg base "_law_part" 1 ["_law_pool_here", "_law_spot", "_law_under", "_law_size"] (spPart K)) (d_L_stage : Def P w K mg base "_law_stage" 2 ["_law_pool_here"] (spStage K))
    (d_L_spoilt : Def P w K mg base "_law_spoilt" 6 ["_law_pool_here", "_law_stage_here", "_law_book"] (spSpoilt K)) (d_L_handed : Def P w K mg base "_law_handed" 1 ["_law_book", "_law_loose"] (spHandL K)) (d_L_told : Def P w K mg base "_law_told" 7 ["_law_given"] spToldB)
    (d_L_same : Def P w K mg base "_law_same" 7 ["_law_got", "_law_wanted"] (spSame 5)) : FnOk P w K mg base CX0 8 f fd ["_law_one", "_law_two", "_law_good_here"] (spRefuses K) := by
  refine F.ok sc_L_refuses (fun vs H Q E h => ?_) (fun cdv A outer s H vs Q E hr h => ?_)
  · obtain ⟨a, c, D, ns, ms, b, rfl, _⟩ := h
    rfl
  · obtain ⟨a, c, D, ns, ms, b, rfl, hS, nl, hC, ml, pa, ok, so, sz, q⟩ := h
    obtain ⟨k0, k5⟩ := stg_bd (ns := ns)
    obtain ⟨j0, j5⟩ := stg_bd (ns := ms)
    refine ⟨_, (pss_cons (ps_set (i := 3) sc_L_refuses.nd rfl (.inl rfl) (pv 2))
  (pss_cons (ps_cut (ps_if (pt_cmpR op_gt (pe_callD d_L_stage (hr.mono (by decide)) (by rfl) (pa_cons (pv 1) pa_nil)) (pe_callD d_L_stage (hr.mono (by decide)) (by rfl) (pa_cons (pv 0) pa_nil)) (nomark _)) (pss_one (ps_set (i := 3) sc_L_refuses.nd rfl (.inl rfl) (pe_ix ix_tup (pe_callD d_L_spoilt (hr.mono (by decide)) (by rfl) (pa_cons (pv 1) (pa_cons (pe_callD d_L_stage (hr.mono (by decide)) (by rfl) (pa_cons (pv 1) pa_nil)) (pa_cons (pv 3) pa_nil)))) pe_int (fun _ _ => rfl)))) pss_nil))
  (pss_cons (ps_asg (pe_callD d_L_spoilt (hr.mono (by decide)) (by rfl) (pa_cons (pv 0) (pa_cons (pe_callD d_L_stage (hr.mono (by decide)) (by rfl) (pa_cons (pv 0) pa_nil)) (pa_cons (pv 3) pa_nil)))) (pg_tup (by rfl) (pgs_cons (pg_name (i := 3) sc_L_refuses.nd rfl (.inl rfl)) (pgs_cons (pg_name (i := 4) sc_L_refuses.nd rfl (.inl rfl)) pgs_nil))))
  (pss_cons (ps_set (i := 5) sc_L_refuses.nd rfl (.inl rfl) (pe_cmpR op_eq (pe_callD d_L_part (hr.mono (by decide)) (by rfl) (pa_cons (pv 0) (pa_cons pe_int (pa_cons pe_int (pa_cons pe_int pa_nil))))) pe_int (nomark _)))
  (pss_cons (ps_set (i := 4) sc_L_refuses.nd rfl (.inl rfl) (pe_op op_catT (pv 4) (pe_tup (pa_cons pe_bl (pa_cons pe_bl (pa_cons pe_bl pa_nil))))))
  (pss_cons (ps_for PassesOwn.never rfl (pi_list (pe_lst (pa_cons (pe_tup (pa_cons (pv 3) (pa_cons (pv 4) pa_nil))) (pa_cons (pe_tup (pa_cons (pv 2) (pa_cons (pe_tup (pa_cons pe_str pa_nil)) pa_nil))) (pa_cons (pe_tup (pa_cons (pv 3) (pa_cons (pv 4) pa_nil))) pa_nil))))) (pg_tup (by rfl) (pgs_cons (pg_name (i := 6) sc_L_refuses.nd rfl (.inl rfl)) (pgs_cons (pg_name (i := 7) sc_L_refuses.nd rfl (.inl rfl)) pgs_nil)))
    (pss_cons (ps_set (i := 8) sc_L_refuses.nd rfl (.inl rfl) (pe_callD d_L_handed (hr.mono (by decide)) (by rfl) (pa_cons (pv 6) (pa_cons (pv 5) pa_nil))))
  (pss_cons (ps_if (pt_not (pt_val (pe_callD d_L_same (hr.mono (by decide)) (by rfl) (pa_cons (pe_callD d_L_told (hr.mono (by decide)) (by rfl) (pa_cons (pv 8) pa_nil)) (pa_cons (pv 7) pa_nil))))) (pss_one (ps_ret pe_bl)) pss_nil)
  (pss_one (ps_if (pt_not (pt_val (pe_callD d_L_same (hr.mono (by decide)) (by rfl) (pa_cons (pv 8) (pa_cons (pe_callD d_L_handed (hr.mono (by decide)) (by rfl) (pa_cons (pv 6) (pa_cons (pv 5) pa_nil))) pa_nil))))) (pss_one (ps_ret pe_bl)) pss_nil)))))
  (pss_one (ps_ret pe_bl)))))))), ?_⟩
    refine ⟨_, rfl, ?_⟩
    refine ⟨(fun σ' H' => ∃ (D' : Addr) (b' : BkD), σ' = [some (.ref a), some (.ref c), some (.ref D), some (.ref D'), none, none, none, none, none] ∧ Same H H' ∧ PartsAt H' D' b' ∧ StOk (stgI ns + 1) b' ∧ SzB 8 b'), ?_, ?_⟩
    · refine ⟨_, rfl, c, ms, rfl, hC, ml, fun H1 s1 => ⟨_, rfl, a, ns, rfl, s1.seq hS, nl, fun H2 s2 => ⟨_, _, rfl, rfl, _, rfl, ite2 (fun e => ?_) (fun e => ?_)⟩⟩⟩
      · have e : stgI ns < stgI ms := of_decide_eq_true e
        have s12 := s1.trans s2
        refine ⟨_, rfl, _, rfl, c, ms, rfl, s12.seq hC, ml, fun H3 s3 => ⟨_, rfl, c, D, ms, stgI ms, b, 4, rfl, (s12.trans s3).seq hC, ml, j0, j5, pa.same (s12.trans s3), so.le (by omega), sz, by decide, by decide, fun H4 t D' u b' fl s4 et pt eu fa so' sz' => ?_⟩⟩
        exact ⟨_, _, 0, _, rfl, rfl, tupAt et, rfl, D', b', rfl, (s12.trans s3).trans s4, pt, so'.le (by omega), sz'⟩
      · exact ⟨D, b, rfl, s1.trans s2, pa.same (s1.trans s2), so.le (by omega), sz.le (by decide)⟩
    rintro σ' H1 ⟨D1, b1, rfl, s1, pa1, so1, sz1⟩
    refine ⟨_, rfl, _, rfl, a, ns, rfl, s1.seq hS, nl, fun H2 s2 => ⟨_, rfl, a, D1, ns, stgI ns, b1, 8, rfl, (s1.trans s2).seq hS, nl, k0, k5, pa1.same s2, so1, sz1, by decide, by decide, fun H3 t D2 u b2 fl s3 et pt eu fa so2 sz2 => ?_⟩⟩
    have s13 := (s1.trans s2).trans s3
    refine ⟨_, _, rfl, tupAt et, rfl, _, _, rfl, _, _, rfl, rfl, ?_⟩
    refine ⟨_, rfl, a, ns, 15, 12, 2, rfl, s13.seq hS, by decide, by omega, by decide, by decide, by decide, rfl, ?_⟩
    generalize decide (V.int (partOf ns 15 12 2) = V.int 1) = lo
    refine ⟨_, rfl, (show (3 : Nat) ≤ sizeLine by decide), fun q3 n3 => ?_⟩
    have s4 := s13.trans (same_upd (o := .tup [V.bl true, .bl true, .bl false]) n3)
    have pt4 := pt.same (same_upd (o := .tup [V.bl true, .bl true, .bl false]) n3)
    have eu4 := (same_upd (o := .tup [V.bl true, .bl true, .bl false]) n3) _ _ eu
    have e3 := upd_same (H := H3) (a := q3) (o := .tup [V.bl true, .bl true, .bl false])
    generalize upd H3 q3 (.tup [V.bl true, .bl true, .bl false]) = H4 at s4 pt4 eu4 e3 ⊢
    refine ⟨u, q3, _, _, rfl, rfl, tupAt eu4, tupAt e3, due_ne fl, Nat.le_of_lt (small1000 (by have := due_len fl; show (dueV fl).length + 3 ≤ 1000; omega)), nofun, fun _ W nW => ?_⟩
    have s5' := same_upd (o := .tup (dueV fl ++ [V.bl true, .bl true, .bl false])) nW
    have s5 := s4.trans s5'
    have pt5 := pt4.same s5'
    have eW := upd_same (H := H4) (a := W) (o := .tup (dueV fl ++ [V.bl true, .bl true, .bl false]))
    have pa5 := pa.same s5
    generalize upd H4 W (.tup (dueV fl ++ [V.bl true, .bl true, .bl false])) = H5 at s5 pt5 eW pa5 ⊢
    refine ⟨_, rfl, _, rfl, (show (2 : Nat) ≤ sizeLine by decide), fun t1 n1 => ?_⟩
    have r1 := same_upd (o := .tup [V.ref D2, .ref W]) n1
    have x1 := upd_same (H := H5) (a := t1) (o := .tup [V.ref D2, .ref W])
    generalize upd H5 t1 (.tup [V.ref D2, .ref W]) = H6 at r1 x1 ⊢
    refine ⟨_, rfl, (show (1 : Nat) ≤ sizeLine by decide), fun M nM => ?_⟩
    have r2 := same_upd (o := .tup [V.str "made"]) nM
    have x2 := upd_same (H := H6) (a := M) (o := .tup [V.str "made"])
    generalize upd H6 M (.tup [V.str "made"]) = H7 at r2 x2 ⊢
    refine ⟨(show (2 : Nat) ≤ sizeLine by decide), fun t2 n2 => ?_⟩
    have r3 := same_upd (o := .tup [V.ref D, .ref M]) n2
    have x3 := upd_same (H := H7) (a := t2) (o := .tup [V.ref D, .ref M])
    generalize upd H7 t2 (.tup [V.ref D, .ref M]) = H8 at r3 x3 ⊢
    refine ⟨_, rfl, _, rfl, (show (2 : Nat) ≤ sizeLine by decide), fun t3 n3 => ?_⟩
    have r4 := same_upd (o := .tup [V.ref D2, .ref W]) n3
    have x4 := upd_same (H := H8) (a := t3) (o := .tup [V.ref D2, .ref W])
    generalize upd H8 t3 (.tup [V.ref D2, .ref W]) = H9 at r4 x4 ⊢
    refine ⟨(show (3 : Nat) ≤ sizeLine by decide), fun L nL => ?_⟩
    have r5 := same_upd (o := .lst [V.ref t1, .ref t2, .ref t3]) nL
    have eL := upd_same (H := H9) (a := L) (o := .lst [V.ref t1, .ref t2, .ref t3])
    generalize upd H9 L (.lst [V.ref t1, .ref t2, .ref t3]) = HA at r5 eL ⊢
    have z45 := r4.trans r5
    have z35 := r3.trans z45
    have z25 := r2.trans z35
    have z15 := r1.trans z25
    have all : ∀ (i : Nat) (v : V), [V.ref t1, .ref t2, .ref t3][i]? = some v → ∃ (tt Dx Wx : Addr) (bx : BkD) (ws : List V), v = .ref tt ∧ HA tt = some (.tup [V.ref Dx, .ref Wx]) ∧ PartsAt HA Dx bx ∧ SzB 12 bx ∧ HA Wx = some (.tup ws) ∧ ws.length ≤ 10 ∧ (∀ x ∈ ws, flat1 x = true) ∧ ((BOkD bx ∧ ws = [.str "made"]) ∨ ∃ fl : Flt, fltB bx = some fl ∧ ws = dueV fl ++ [.bl true, .bl true, .bl false]) := by
      have bad : ∀ tt : Addr, HA tt = some (.tup [V.ref D2, .ref W]) → ∃ (t' Dx Wx : Addr) (bx : BkD) (ws : List V), V.ref tt = .ref t' ∧ HA t' = some (.tup [V.ref Dx, .ref Wx]) ∧ PartsAt HA Dx bx ∧ SzB 12 bx ∧ HA Wx = some (.tup ws) ∧ ws.length ≤ 10 ∧ (∀ x ∈ ws, flat1 x = true) ∧ ((BOkD bx ∧ ws = [.str "made"]) ∨ ∃ fl : Flt, fltB bx = some fl ∧ ws = dueV fl ++ [.bl true, .bl true, .bl false]) := fun tt ht =>
        ⟨tt, D2, W, b2, _, rfl, ht, pt5.same z15, sz2, z15 _ _ eW, by have := due_len fl; rw [List.length_append]; show (dueV fl).length + 3 ≤ 10; omega, due_flat fl, .inr ⟨fl, fa, rfl⟩⟩
      intro i v hv
      match i, hv with
      | 0, hv => cases Option.some.inj hv; exact bad t1 (z25 _ _ x1)
      | 1, hv => cases Option.some.inj hv; exact ⟨t2, D, M, b, _, rfl, z45 _ _ x3, pa5.same z15, sz.le (by decide), z35 _ _ x2, (show (1 : Nat) ≤ 10 by decide), fun x m => by rw [List.mem_singleton.mp m]; rfl, .inl ⟨ok, rfl⟩⟩
      | 2, hv => cases Option.some.inj hv; exact bad t3 (r5 _ _ x4)
      | i + 3, hv => simp at hv
    refine ⟨L, rfl, ⟨_, lstAt eL⟩, for_list (K := K) (a := L) (xs := [V.ref t1, .ref t2, .ref t3]) (fun i σ H' => ∃ y6 y7 y8 : Option V, σ = [some (.ref a), some (.ref c), some (.ref D), some (.ref D2), some (.ref W), some (.bl lo), y6, y7, y8] ∧ Same HA H') ⟨_, _, _, rfl, Same.refl _⟩ (fun i σ H' _ hq => by obtain ⟨_, _, _, rfl, s⟩ := hq; exact lstAt (s _ _ eL)) ?_ ?_⟩
    · rintro i v σ H1 hv ⟨y6, y7, y8, rfl, sA⟩
      obtain ⟨tt, Dx, Wx, bx, ws, rfl, ht, px, sx, ew, wl, wf, hc⟩ := all i v hv
      refine ⟨_, _, rfl, tupAt (sA _ _ ht), rfl, _, _, rfl, _, _, rfl, rfl, ?_⟩
      refine ⟨_, rfl, _, rfl, Dx, lo, bx, rfl, px.same sA, sx.dl, fun H2 t' a' p' s' h' ps s2 hg => ?_⟩
      have T : ∀ (R : Hp → Addr → Prop), (∀ H3 q, Same H2 H3 → H3 q = some (.tup ws) → R H3 q) → (BOkD bx ∧ ∀ H3 q, Same H2 H3 → H3 q = some (.tup [.str "made"]) → R H3 q) ∨ (∃ fl : Flt, fltB bx = some fl ∧ BkW bx.zs bx.ss bx.hs bx.ds ∧ ∀ H3 q, Same H2 H3 → H3 q = some (.tup (dueV fl ++ [.bl true, .bl true, .bl false])) → R H3 q) := fun R k => by
        rcases hc with ⟨o, rfl⟩ | ⟨fl', hf, rfl⟩
        · exact .inl ⟨o, k⟩
        · exact .inr ⟨fl', hf, sx.wok (by decide), k⟩
      refine ⟨_, rfl, t', a', p', s', h', ps, bx, rfl, hg.elim (fun z => .inl ⟨_, z.2⟩) (fun z => .inr z.2), T _ fun H3 q3 s3 eq => ?_⟩
      have sA3 := sA.trans (s2.trans s3)
      refine ⟨_, rfl, _, _, rfl, eq_flat (.inl eq) (.inl (sA3 _ _ ew)) (by omega) wf 4, _, rfl, iteF ?_⟩
      refine ⟨_, rfl, _, rfl, _, rfl, Dx, lo, bx, rfl, px.same sA3, sx.dl, fun H4 t4 a4 p4 s4' h4 ps4 s4 hg4 => ?_⟩
      have E : Eq2 H4 5 (.ref t') (.ref t4) := by
        rcases hg with ⟨l1, g⟩ | ⟨l1, g⟩ <;> rcases hg4 with ⟨l2, g4⟩ | ⟨l2, g4⟩
        · exact eq_given (g.sameR (s3.trans s4)) g4 sx (by decide)
        · rw [l1] at l2; cases l2
        · rw [l1] at l2; cases l2
        · exact eq_givenT (g.sameR (s3.trans s4)) g4 sx (by decide)
      exact ⟨_, _, rfl, E, _, rfl, iteF ⟨_, _, _, rfl, sA3.trans s4⟩⟩
    · rintro σ H1 ⟨y6, y7, y8, rfl, sA⟩
      exact q _ (s5.trans (z15.trans sA))
end
end TK

/-! the law -/
namespace TK
open PySem PySem.Spec PyProof.Rows L2
theorem good_st {b : BkD} (ok : BOkD b) : StOk 6 b := by
  have pg : PgOk b.zs b.ds := ⟨ok.ok.l1, ok.ok.l4, ok.ok.nm, ok.ok.nd, ok.ok.b⟩
  exact ⟨fun _ => ok.z1, fun _ => ok.z4, fun _ => ok.zn, fun _ => ok.nz, fun _ => ok.ok.l1, fun _ => ok.ok.l4, fun _ => pg, fun _ d md => picksB_iff.mpr ⟨ok.ok.fs d md, ok.ok.f d md⟩, fun _ => ok.sne, fun _ => picksB_iff.mpr ⟨ok.ssub, ok.snd⟩, fun _ => picksB_iff.mpr ⟨ok.hsub, ok.hnd⟩⟩
theorem good_sz {b : BkD} (ok : BOkD b) (l4 : ∀ d ∈ b.ds, d.bids.length ≤ 4) : SzB 4 b := by
  have d4 := ok.ok.l4
  have z4 := ok.z4
  have tn : ∀ z ∈ b.ds.map (·.nm), WOk z := fun z mz => by
    obtain ⟨d, md, rfl⟩ := List.mem_map.mp mz
    exact (ok.ok.nm d md).wok
  have le : ∀ xs : List Nam, xs.Nodup → (∀ x ∈ xs, x ∈ b.ds.map (·.nm)) → xs.length ≤ 4 := fun xs nd sub => by
    have := nd_lenK nd sub
    rw [List.length_map] at this
    omega
  exact ⟨by omega, fun z m => (ok.zn z m).wok, by omega, fun d md => ⟨(ok.ok.nm d md).wok, fun x mx => (ok.zn _ ((ok.ok.b d md).sub _ (List.mem_map.mpr ⟨x, mx, rfl⟩))).wok, l4 d md, fun x mx => tn x (ok.ok.fs d md x mx), le _ (ok.ok.f d md) (ok.ok.fs d md)⟩, le _ ok.snd ok.ssub, fun z m => tn z (ok.ssub z m), le _ ok.hnd ok.hsub, fun z m => tn z (ok.hsub z m)⟩
section
variable {P : Program} {w : World} {K : PySem.W.Frag} {mg : Str → Option Value} {base : Heap}
def spBare : Sp := fun vs H Q _ => ∃ (H0 : Hp) (t a p s h : Addr) (ps : List Addr) (b : BkD), vs = [.ref t] ∧ GivL H0 H t b a p s h ps ∧ BOkD b ∧ ∀ H', Same H H' → Q (.bl true) H'
theorem ok_L_bare {f C CP EH fB : Addr} {fd fdB : FuncData} {dsB : List Value} (F : Fun K "_law_bare" "_law_bare" s_L_bare f fd) (m_tuple : mg "tuple" = none)
    (M_Book : Mk K C fB) (G_Book : FnOk P w K mg base CX0 4 fB fdB ["self", "members", "pages", "starts", "home"] (spInitBkM K C CP)) (mg_Book : mg "Book" = some (.ref C)) (b_Book : Binds K fdB ["self", "members", "pages", "starts", "home"] dsB) (v_Book : Vals [V.ref EH] dsB) (hEH : ∀ H, SqT K H EH []) : FnOk P w K mg base CX0 6 f fd ["_law_book"] spBare := by
  refine F.ok sc_L_bare (fun vs H Q E h => ?_) (fun cdv A outer s H vs Q E hr h => ?_)
  · obtain ⟨H0, t, a, p, s, h, ps, b, rfl, _⟩ := h
    rfl
  · obtain ⟨H0, t, a, p, s, h, ps, b, rfl, g, ok, q⟩ := h
    refine ⟨_, pss_cons (ps_set (i := 1) sc_L_bare.nd rfl (.inl rfl) pe_bl)
      (pss_cons (ps_try_thru0 (pss_cons (ps_expr (pe_make M_Book G_Book (hr.mono (by decide)) (by rfl) mg_Book b_Book v_Book pass0 (pa_cons (pe_ix (ix_tupK (K := K) rfl) (pv 0) pe_int (fun _ _ => rfl)) (pa_cons (pe_lc (own := [("_law_row", 2)]) (by rfl) sc_L_bare.nd (pi_listK (K := K) rfl (pe_ix (ix_tupK (K := K) rfl) (pv 0) pe_int (fun _ _ => rfl))) (blkOk_by (N := ["_law_book", "_law_told_here", "_law_row"]) (sc := defScope s_L_bare) (by decide +kernel)) (fun _ _ _ _ _ => (pg_name (i := 2) sc_L_bare.nd rfl (.inl rfl))) (fun _ _ _ _ _ => pts_nil) (fun _ _ _ _ _ => (pe_callTy (call_tuple_ofK (K := K) rfl) (by rfl) m_tuple (by decide +kernel) (pa_cons (pv 2) pa_nil)))) (pa_cons (pe_ix (ix_tupK (K := K) rfl) (pv 0) pe_int (fun _ _ => rfl)) pa_nil))))) (pss_one (ps_set (i := 1) sc_L_bare.nd rfl (.inl rfl) pe_bl))))
      (pss_one (ps_ret (pv 1)))), ?_⟩
    have d4 := ok.ok.l4
    have pl : (ps.map V.ref).length = b.ds.length := by rw [List.length_map, g.er.1]
    refine ⟨_, rfl, _, _, 0, _, rfl, rfl, tupAt g.et, rfl, ?_⟩
    refine ⟨_, rfl, _, _, 1, _, rfl, rfl, tupAt g.et, rfl, p, rfl, ⟨_, lstAt g.ep⟩, fun D nD => ?_⟩
    refine lc_list (K := K) (a := p) (xs := ps.map V.ref) (fun i H' => Same H H' ∧ H' D = some (.lst ((ps.take i).map V.ref))) ⟨same_upd nD, upd_same⟩ (fun i H' _ hq => lstAt (hq.1 _ _ g.ep)) (fun i v H' hv hq => ?_) (fun H1 hq => ?_)
    · obtain ⟨s1, eD⟩ := hq
      rw [List.getElem?_map] at hv
      obtain ⟨x, hx, rfl⟩ := Option.map_eq_some_iff.mp hv
      obtain ⟨d, ed, bb, ff, es, h1, _⟩ := g.er.2 i x hx
      have hi := (List.getElem?_eq_some_iff.mp ed).1
      refine ⟨rfl, yesT ⟨_, rfl, x, _, rfl, .inr ⟨tupAt (s1 _ _ h1), _, eD, by rw [List.length_map, List.length_take]; exact small1000 (by omega), same_at s1 nD, ?_⟩⟩⟩
      rw [List.take_add_one, hx, List.map_append]
      exact upd_same
    obtain ⟨s1, eD⟩ := hq
    rw [List.length_map, List.take_length] at eD
    have g1 := g.sameR s1
    refine ⟨_, rfl, _, _, 2, _, rfl, rfl, tupAt g1.et, rfl, fun x dx nx ndx nex => ?_⟩
    have sdx := same_upd (o := .own x) ndx
    have nxx : (upd H1 dx (.own x)) x = none := by rw [upd_ne nex.symm]; exact nx
    have sx := sdx.trans (same_upd (o := .ins C dx []) nxx)
    have ex := upd_same (H := upd H1 dx (.own x)) (a := x) (o := .ins C dx [])
    have nxH : H x = none := none_of s1 nx
    generalize upd (upd H1 dx (.own x)) x (.ins C dx []) = Hx at sx ex ⊢
    have g2 := g1.sameR sx
    have eD2 := sx _ _ eD
    have sH : ∀ {H9 : Hp}, SameP x Hx H9 → Same H H9 := fun sp y o e => sp y o (sx _ _ (s1 _ _ e)) (ne_of_none e nxH)
    refine ⟨x, a, D, s, EH, dx, b.zs, b.ss, [], ps, b.ds, rfl, ex, ⟨lstAt g2.ea, lstAt eD2, ⟨g2.er.1, fun i p e => ?_⟩, lstAt g2.es, hEH _⟩, ok.z1, ok.z4, ok.zn, ok.nz, ok.ok, ok.sne, ok.snd, ok.ssub, List.nodup_nil, nofun, fun H9 bk sp => ⟨rfl, _, rfl, q H9 (sH sp)⟩⟩
    obtain ⟨d, a1, b, f, es, a2, a3, a4, a5, _⟩ := g2.er.2 i p e
    exact ⟨d, a1, b, f, es, a2, lstAt a3, a4, lstAt a5⟩
def spLaw (K : PySem.W.Frag) : Sp := fun vs H Q _ => ∃ (a : Addr) (ns : List Int), vs = [.ref a] ∧ SqL K H a (ns.map V.int) ∧ ns.length ≤ 63 ∧ ∀ H', Q (.bl true) H'
theorem ok_law {f : Addr} {fd : FuncData} (F : Fun K "law" "law" s_law f fd) (m_range : mg "range" = none)
    (d_L_cell : Def P w K mg base "_law_cell" 1 ["_law_script", "_law_k"] (spCellA K)) (d_L_pool : Def P w K mg base "_law_pool" 2 ["_law_cell_here", "_law_number"] spPool) (d_L_good : Def P w K mg base "_law_good" 4 ["_law_head"] (spGood K)) (d_L_handed : Def P w K mg base "_law_handed" 1 ["_law_book", "_law_loose"] (spHandL K))
    (d_L_refuses : Def P w K mg base "_law_refuses" 8 ["_law_one", "_law_two", "_law_good_here"] (spRefuses K)) (d_L_bare : Def P w K mg base "_law_bare" 6 ["_law_book"] spBare) : FnOk P w K mg base CX0 9 f fd ["_law_script"] (spLaw K) := by
  refine F.ok sc_law (fun vs H Q E h => ?_) (fun cdv A outer s H vs Q E hr h => ?_)
  · obtain ⟨a, ns, rfl, _⟩ := h
    rfl
  · obtain ⟨a, ns, rfl, hS, hlen, q⟩ := h
    refine ⟨_, (pss_cons (ps_set (i := 1) sc_law.nd rfl (.inl rfl) (pe_callD d_L_good (hr.mono (by decide)) (by rfl) (pa_cons (pe_callD d_L_pool (hr.mono (by decide)) (by rfl) (pa_cons (pe_callD d_L_cell (hr.mono (by decide)) (by rfl) (pa_cons (pv 0) (pa_cons pe_int pa_nil))) (pa_cons pe_int pa_nil))) pa_nil)))
  (pss_cons (ps_for PassesOwn.never rfl (pi_range1 (by rfl) m_range (pa_cons pe_int pa_nil)) (pg_name (i := 2) sc_law.nd rfl (.inl rfl))
    (pss_cons (ps_set (i := 3) sc_law.nd rfl (.inl rfl) (pe_callD d_L_pool (hr.mono (by decide)) (by rfl) (pa_cons (pe_callD d_L_cell (hr.mono (by decide)) (by rfl) (pa_cons (pv 0) (pa_cons (pe_op op_add pe_int (pe_op op_mul pe_int (pv 2))) pa_nil))) (pa_cons pe_int pa_nil))))
  (pss_cons (ps_set (i := 4) sc_law.nd rfl (.inl rfl) (pe_callD d_L_pool (hr.mono (by decide)) (by rfl) (pa_cons (pe_callD d_L_cell (hr.mono (by decide)) (by rfl) (pa_cons (pv 0) (pa_cons (pe_op op_add pe_int (pe_op op_mul pe_int (pv 2))) pa_nil))) (pa_cons pe_int pa_nil))))
  (pss_one (ps_if (pt_not (pt_val (pe_callD d_L_refuses (hr.mono (by decide)) (by rfl) (pa_cons (pv 3) (pa_cons (pv 4) (pa_cons (pv 1) pa_nil)))))) (pss_one (ps_ret pe_bl)) pss_nil)))))
  (pss_one (ps_ret (pe_or (pe_cmpR (op_neD hr.units) (pe_ix ix_list (pv 1) pe_int (fun _ _ => rfl)) (pe_lst pa_nil) (nomark _)) (pe_one (pe_callD d_L_bare (hr.mono (by decide)) (by rfl) (pa_cons (pe_callD d_L_handed (hr.mono (by decide)) (by rfl) (pa_cons (pv 1) (pa_cons pe_bl pa_nil))) pa_nil)))))))), ?_⟩
    refine ⟨_, rfl, a, ns, 0, rfl, hS, by decide, by decide, by omega, fun c1 => ⟨c1, 31, rfl, by decide, by decide, fun p1 ns1 np1 l1 o1 => ?_⟩⟩
    have s1 : Same H (upd H p1 (.lst (ns1.map V.int))) := same_upd np1
    have e1 := upd_same (H := H) (a := p1) (o := .lst (ns1.map V.int))
    generalize upd H p1 (.lst (ns1.map V.int)) = H1 at s1 e1 ⊢
    refine ⟨p1, ns1, rfl, lstAt e1, by omega, fun H2 D b nD s2 pa ok b4 => ?_⟩
    have so := good_st ok
    have sz := good_sz ok b4
    have s12 := s1.trans s2
    refine ⟨3, rfl, by decide, by decide, for_range (fun i σ H' => ∃ y2 y3 y4 : Option V, σ = [some (.ref a), some (.ref D), y2, y3, y4] ∧ Same H2 H') ⟨_, _, _, rfl, Same.refl _⟩ ?_ ?_⟩
    · rintro i σ H3 hi ⟨y2, y3, y4, rfl, s3⟩
      have hi : i < 3 := hi
      have s13 := s12.trans s3
      refine ⟨_, rfl, _, rfl, _, _, rfl, rfl, .inl ⟨by decide, by decide⟩, _, _, rfl, rfl, a, ns, _, rfl, s13.seq hS, by omega, by omega, by omega, fun c2 => ⟨c2, 16, rfl, by decide, by decide, fun p2 ns2 np2 l2 o2 => ?_⟩⟩
      have r2 := same_upd (o := .lst (ns2.map V.int)) np2
      have x2 := upd_same (H := H3) (a := p2) (o := .lst (ns2.map V.int))
      generalize upd H3 p2 (.lst (ns2.map V.int)) = H4 at r2 x2 ⊢
      refine ⟨_, rfl, _, rfl, _, _, rfl, rfl, .inl ⟨by decide, by decide⟩, _, _, rfl, rfl, a, ns, _, rfl, (s13.trans r2).seq hS, by omega, by omega, by omega, fun c3 => ⟨c3, 16, rfl, by decide, by decide, fun p3 ns3 np3 l3 o3 => ?_⟩⟩
      have r3 := same_upd (o := .lst (ns3.map V.int)) np3
      have x3 := upd_same (H := H4) (a := p3) (o := .lst (ns3.map V.int))
      have x2 := r3 _ _ x2
      generalize upd H4 p3 (.lst (ns3.map V.int)) = H5 at r3 x2 x3 ⊢
      refine ⟨_, rfl, _, rfl, _, rfl, p2, p3, D, ns2, ns3, b, rfl, lstAt x2, by omega, lstAt x3, by omega, pa.same (s3.trans (r2.trans r3)), ok, so, sz, fun H6 s6 => ?_⟩
      exact ⟨_, rfl, iteF ⟨_, _, _, rfl, s3.trans ((r2.trans r3).trans s6)⟩⟩
    · rintro σ H3 ⟨y2, y3, y4, rfl, s3⟩
      have pa3 := pa.same s3
      obtain ⟨c, r, f, h, rs, g1, g2, g3, g4, g5, g6⟩ := id pa3
      refine ⟨_, rfl, _, _, 3, _, rfl, rfl, lstAt g1, rfl, Nat.zero_le _, fun n0 nn0 => ?_⟩
      have sn := same_upd (o := .lst []) nn0
      have en0 := upd_same (H := H3) (a := n0) (o := .lst [])
      generalize upd H3 n0 (.lst []) = Hn at sn en0 ⊢
      refine ⟨_, _, dp_nms (lstAt (sn _ _ g6)), dp_nms (zs := []) (lstAt en0), shaped_strsW sz.hw, shaped_strs nofun, ?_⟩
      rw [eqv_nilN]
      by_cases hx : b.hs = []
      · rw [decide_eq_true hx]
        refine ⟨_, rfl, iteF ⟨_, rfl, D, false, b, rfl, pa3.same sn, sz.dl, fun H4 t a' p' s' h' ps s4 hg => ?_⟩⟩
        rcases hg with ⟨_, g⟩ | ⟨e, _⟩
        · exact ⟨Hn, t, a', p', s', h', ps, b, rfl, g, ok, fun H' _ => q H'⟩
        · cases e
      · rw [decide_eq_false hx]
        exact ⟨_, rfl, iteT (q _)⟩
end
end TK

namespace TK
open PySem PySem.Spec PyProof.Rows L2 NdefX
theorem kit_off {K : PySem.W.Frag} {C : Addr} {T : String} (h1 : PySem.W.isClsIn K C = true) (h2 : PySem.W.typeIn K (.ref C) = some (.type "type")) (h3 : PySem.W.notFirst K C (.type T) = true) : PySem.W.kitOne K (.type T) (.ref C) = some false := by
  unfold PySem.W.notFirst at h3
  have e0 : ((Value.type T) == Value.ref C) = false := rfl
  rw [e0, Bool.false_or] at h3
  have h4 := eq_of_beq h3
  unfold PySem.W.kitOne PySem.W.kitCls
  rw [e0]
  unfold PySem.W.isClsIn at h1
  simp [h1, h2, h4]
/-- how the keywords of a def without defaults bind -/
theorem fun_kb {K : PySem.W.Frag} {x qual : Str} {st : Stmt} {f : Addr} {fd : FuncData} {ps : List Str} (F : Fun K x qual st f fd) (n : Nat) (ks : List Str)
    (h : ∀ (kV doc pm : Value) (an : Option Addr) (cdv ct : Value) (us ws : List Value), us.length = n → ws.length = ks.length → bindArgs (PySem.W.fnOf x qual (defArgs st) (defBody st) (defScope st) .none kV doc pm an cdv ct) ⟨us, ks.zip ws⟩ = pure (ps.zip (us ++ ws))) :
    KBn K fd ps n ks (fun us ws => us ++ ws) (fun vs zs => vs ++ zs) := by
  obtain ⟨oc, od, kV, doc, pm, an, cdv, ct, osl, rfl, lk, hcd⟩ := F.ex
  exact ⟨fun s us ws X l1 l2 => .of_eq (h _ _ _ _ _ _ us ws l1 l2), fun r1 r2 => r1.append r2⟩
theorem exm_no {K : PySem.W.Frag} {C D : Addr} (h : ClsK K D) (b : PySem.W.subIn K (.ref D) (.type "BaseException") = some true) (r : PySem.W.subIn K (.ref C) (.ref D) = some false) : PySem.W.exmOne K (.ref C) (.ref D) = some false := by
  unfold PySem.W.exmOne
  rw [b, kitCls_ref h r]
  rfl
theorem str_len_app (a b : Str) : (a ++ b).length = a.length + b.length := by
  show (a.cps ++ b.cps).size = a.cps.size + b.cps.size
  exact Array.size_append
theorem nam_te1 {a : Addr} {y : V} {C : Addr} {H : Hp} {Q : VK} (ok : okN36 y) (h : ∀ z, Q z H) :
    (fun (σ : L2.St) (H : Hp) (Q : VK) => tJs [tFmtR (tVar 1), tC (.str (Str.ofString " is not a name"))] Str.empty σ H fun out H1 => Q (.str out) H1) [some (.ref a), some y, some (.ref C)] H Q := by
  obtain ⟨x, rfl, hx⟩ := ok
  have e1 : (Str.empty ++ reprText (sOf x)).length ≤ 1002 := by rw [str_len_app]; show 0 + _ ≤ _; omega
  have e2 : (Str.ofString " is not a name").length ≤ 100 := by decide +kernel
  have s9 : (1102 : Nat) ≤ sizeLine := by decide
  exact ⟨_, rfl, .inl ⟨sOf x, rfl, Nat.le_trans hx (Nat.le_trans (by decide) s9), _, rfl, Nat.le_trans e1 (Nat.le_trans (by decide) s9), _, rfl, Nat.le_trans (by rw [str_len_app]; exact Nat.add_le_add e1 e2) s9, h _⟩⟩
theorem nam_te2 {a : Addr} {y : V} {C : Addr} {H : Hp} {Q : VK} (ok : okN36 y) (h : ∀ z, Q z H) :
    (fun (σ : L2.St) (H : Hp) (Q : VK) => tJs [tFmtR (tVar 1), tC (.str (Str.ofString " stands twice"))] Str.empty σ H fun out H1 => Q (.str out) H1) [some (.ref a), some y, some (.ref C)] H Q := by
  obtain ⟨x, rfl, hx⟩ := ok
  have e1 : (Str.empty ++ reprText (sOf x)).length ≤ 1002 := by rw [str_len_app]; show 0 + _ ≤ _; omega
  have e2 : (Str.ofString " stands twice").length ≤ 100 := by decide +kernel
  have s9 : (1102 : Nat) ≤ sizeLine := by decide
  exact ⟨_, rfl, .inl ⟨sOf x, rfl, Nat.le_trans hx (Nat.le_trans (by decide) s9), _, rfl, Nat.le_trans e1 (Nat.le_trans (by decide) s9), _, rfl, Nat.le_trans (by rw [str_len_app]; exact Nat.add_le_add e1 e2) s9, h _⟩⟩
theorem book_te {a : Addr} {y z0 : V} {C : Addr} {H : Hp} {Q : VK} (ok : okB36 y) (h : ∀ z, Q z H) :
    (fun (σ : L2.St) (H : Hp) (Q : VK) => tJs [tC (.str (Str.ofString "wrong in the book: ")), tFmt (tVar 1)] Str.empty σ H fun out H1 => Q (.str out) H1) [some (.ref a), some y, some z0, some (.ref C)] H Q := by
  obtain ⟨x, rfl, hx⟩ := ok
  have e2 : (Str.ofString "wrong in the book: ").length ≤ 100 := by decide +kernel
  have e1 : (Str.empty ++ Str.ofString "wrong in the book: ").length ≤ 100 := by rw [str_len_app]; show 0 + _ ≤ _; omega
  have s9 : (1102 : Nat) ≤ sizeLine := by decide
  exact ⟨_, rfl, Nat.le_trans e1 (Nat.le_trans (by decide) s9), _, rfl, .inl ⟨x, rfl, Nat.le_trans hx (Nat.le_trans (by decide) s9), _, rfl, Nat.le_trans (by rw [str_len_app]; exact Nat.add_le_add e1 hx) (Nat.le_trans (by decide) s9), h _⟩⟩
abbrev s_BadCount_init : Stmt := inClass (topS 8) 0
abbrev s_BadName_init : Stmt := inClass (topS 3) 0
abbrev s_DoubledName_init : Stmt := inClass (topS 4) 0
abbrev s_BadBook_init : Stmt := inClass (topS 9) 0

theorem all_mk {l : PySem.W.OpenLaw} {w : World} {K : PySem.W.Frag} {h : Heap} {mg : Str → Option Value} {fa f0 f1 f2 f3 f4 f5 f6 f7 f8 f9 f10 f11 f12 f13 f14 f15 f16 f17 f18 f19 f20 f21 f22 f23 f24 f25 f26 f27 f28 f29 f30 f31 f32 f33 f34 f35 f36 : Addr} (X : K.In h) (G : h.Ns mainGlobals mg) (hfa : mg "law" = some (.ref fa))
    {tk : Tok}
    {CB CP EH DH DN : Addr} {odEH odN2 : Option Addr} {slEH slN2 : Array (Option Value)} {ocN2 : Value} {nEH nN : Nat}
    {CeC feC cceC cdaeC NNeC : Addr} {oceC ccleC cleC kVeC doceC pmeC cteC : Value} {aneC odeC cddeC cldeC : Option Addr} {osleC ccseC csleC : Array (Option Value)} {vseC : Array Value} {tfeC : Tok} {fileeC nmeC qeC : Str}
    {bseC bmeC subeC : List Value} {sneC : List Str} {abeC : Bool} {coleC : Option Bool} {ddeC : Option Addr} {k0eC k1eC k2eC k3eC k5eC : Option Value}
    {CeN feN cceN cdaeN NNeN : Addr} {oceN ccleN cleN kVeN doceN pmeN cteN : Value} {aneN odeN cddeN cldeN : Option Addr} {osleN ccseN csleN : Array (Option Value)} {vseN : Array Value} {tfeN : Tok} {fileeN nmeN qeN : Str}
    {bseN bmeN subeN : List Value} {sneN : List Str} {abeN : Bool} {coleN : Option Bool} {ddeN : Option Addr} {k0eN k1eN k2eN k3eN k5eN : Option Value}
    {CeD feD cceD cdaeD NNeD : Addr} {oceD ccleD cleD kVeD doceD pmeD cteD : Value} {aneD odeD cddeD cldeD : Option Addr} {osleD ccseD csleD : Array (Option Value)} {vseD : Array Value} {tfeD : Tok} {fileeD nmeD qeD : Str}
    {bseD bmeD subeD : List Value} {sneD : List Str} {abeD : Bool} {coleD : Option Bool} {ddeD : Option Addr} {k0eD k1eD k2eD k3eD k5eD : Option Value}
    {CeB feB cceB cdaeB NNeB : Addr} {oceB ccleB cleB kVeB doceB pmeB cteB : Value} {aneB odeB cddeB cldeB : Option Addr} {osleB ccseB csleB : Array (Option Value)} {vseB : Array Value} {tfeB : Tok} {fileeB nmeB qeB : Str}
    {bseB bmeB subeB : List Value} {sneB : List Str} {abeB : Bool} {coleB : Option Bool} {ddeB : Option Addr} {k0eB k1eB k2eB k3eB k5eB : Option Value}
    {CNN : Addr}
    {CNU : Addr}
    {CNP : Addr}
    {CNH : Addr}
    {fPg : Addr} {odPg anPg : Option Addr} {slPg : Array (Option Value)} {ocPg kVPg dcPg pmPg cdPg ctPg : Value}
    {fBk : Addr} {odBk anBk : Option Addr} {slBk : Array (Option Value)} {ocBk dcBk pmBk cdBk ctBk : Value}
    {od0 an0 : Option Addr} {sl0 : Array (Option Value)} {oc0 kV0 dc0 pm0 cd0 ct0 : Value}
    (a0 : PySem.W.nsIn K mainGlobals "_wall" = some (some (.ref f0))) (l0 : K.lookup f0 = some ⟨oc0, od0, .func (PySem.W.fnOf "_wall" "_wall" (defArgs s_wall) (defBody s_wall) (defScope s_wall) .none kV0 dc0 pm0 an0 cd0 ct0), sl0⟩) (c0 : PySem.W.codeIn K cd0 "_wall" = true) (k0 : PySem.W.keepIn K (.ref f0) = true)
    {od1 an1 : Option Addr} {sl1 : Array (Option Value)} {oc1 kV1 dc1 pm1 cd1 ct1 : Value}
    (a1 : PySem.W.nsIn K mainGlobals "is_name" = some (some (.ref f1))) (l1 : K.lookup f1 = some ⟨oc1, od1, .func (PySem.W.fnOf "is_name" "is_name" (defArgs s_is_name) (defBody s_is_name) (defScope s_is_name) .none kV1 dc1 pm1 an1 cd1 ct1), sl1⟩) (c1 : PySem.W.codeIn K cd1 "is_name" = true) (k1 : PySem.W.keepIn K (.ref f1) = true)
    {od2 an2 : Option Addr} {sl2 : Array (Option Value)} {oc2 kV2 dc2 pm2 cd2 ct2 : Value}
    (a2 : PySem.W.nsIn K mainGlobals "check_size" = some (some (.ref f2))) (l2 : K.lookup f2 = some ⟨oc2, od2, .func (PySem.W.fnOf "check_size" "check_size" (defArgs s_check_size) (defBody s_check_size) (defScope s_check_size) .none kV2 dc2 pm2 an2 cd2 ct2), sl2⟩) (c2 : PySem.W.codeIn K cd2 "check_size" = true) (k2 : PySem.W.keepIn K (.ref f2) = true)
    {od3 an3 : Option Addr} {sl3 : Array (Option Value)} {oc3 kV3 dc3 pm3 cd3 ct3 : Value}
    (a3 : PySem.W.nsIn K mainGlobals "check_names" = some (some (.ref f3))) (l3 : K.lookup f3 = some ⟨oc3, od3, .func (PySem.W.fnOf "check_names" "check_names" (defArgs s_check_names) (defBody s_check_names) (defScope s_check_names) (.ref DN) kV3 dc3 pm3 an3 cd3 ct3), sl3⟩) (c3 : PySem.W.codeIn K cd3 "check_names" = true) (k3 : PySem.W.keepIn K (.ref f3) = true)
    {od4 an4 : Option Addr} {sl4 : Array (Option Value)} {oc4 kV4 dc4 pm4 cd4 ct4 : Value}
    (a4 : PySem.W.nsIn K mainGlobals "_are_picks" = some (some (.ref f4))) (l4 : K.lookup f4 = some ⟨oc4, od4, .func (PySem.W.fnOf "_are_picks" "_are_picks" (defArgs s_are_picks) (defBody s_are_picks) (defScope s_are_picks) .none kV4 dc4 pm4 an4 cd4 ct4), sl4⟩) (c4 : PySem.W.codeIn K cd4 "_are_picks" = true) (k4 : PySem.W.keepIn K (.ref f4) = true)
    {od5 an5 : Option Addr} {sl5 : Array (Option Value)} {oc5 kV5 dc5 pm5 cd5 ct5 : Value}
    (a5 : PySem.W.nsIn K mainGlobals "_are_bids" = some (some (.ref f5))) (l5 : K.lookup f5 = some ⟨oc5, od5, .func (PySem.W.fnOf "_are_bids" "_are_bids" (defArgs s_are_bids) (defBody s_are_bids) (defScope s_are_bids) .none kV5 dc5 pm5 an5 cd5 ct5), sl5⟩) (c5 : PySem.W.codeIn K cd5 "_are_bids" = true) (k5 : PySem.W.keepIn K (.ref f5) = true)
    {od6 an6 : Option Addr} {sl6 : Array (Option Value)} {oc6 kV6 dc6 pm6 cd6 ct6 : Value}
    (a6 : PySem.W.nsIn K mainGlobals "_check_pages" = some (some (.ref f6))) (l6 : K.lookup f6 = some ⟨oc6, od6, .func (PySem.W.fnOf "_check_pages" "_check_pages" (defArgs s_check_pages) (defBody s_check_pages) (defScope s_check_pages) .none kV6 dc6 pm6 an6 cd6 ct6), sl6⟩) (c6 : PySem.W.codeIn K cd6 "_check_pages" = true) (k6 : PySem.W.keepIn K (.ref f6) = true)
    {od7 an7 : Option Addr} {sl7 : Array (Option Value)} {oc7 kV7 dc7 pm7 cd7 ct7 : Value}
    (a7 : PySem.W.nsIn K mainGlobals "_check_ends" = some (some (.ref f7))) (l7 : K.lookup f7 = some ⟨oc7, od7, .func (PySem.W.fnOf "_check_ends" "_check_ends" (defArgs s_check_ends) (defBody s_check_ends) (defScope s_check_ends) .none kV7 dc7 pm7 an7 cd7 ct7), sl7⟩) (c7 : PySem.W.codeIn K cd7 "_check_ends" = true) (k7 : PySem.W.keepIn K (.ref f7) = true)
    {od8 an8 : Option Addr} {sl8 : Array (Option Value)} {oc8 kV8 dc8 pm8 cd8 ct8 : Value}
    (a8 : PySem.W.nsIn K mainGlobals "_sorted_bids" = some (some (.ref f8))) (l8 : K.lookup f8 = some ⟨oc8, od8, .func (PySem.W.fnOf "_sorted_bids" "_sorted_bids" (defArgs s_sorted_bids) (defBody s_sorted_bids) (defScope s_sorted_bids) .none kV8 dc8 pm8 an8 cd8 ct8), sl8⟩) (c8 : PySem.W.codeIn K cd8 "_sorted_bids" = true) (k8 : PySem.W.keepIn K (.ref f8) = true)
    {od9 an9 : Option Addr} {sl9 : Array (Option Value)} {oc9 kV9 dc9 pm9 cd9 ct9 : Value}
    (a9 : PySem.W.nsIn K mainGlobals "_law_cell" = some (some (.ref f9))) (l9 : K.lookup f9 = some ⟨oc9, od9, .func (PySem.W.fnOf "_law_cell" "_law_cell" (defArgs s_L_cell) (defBody s_L_cell) (defScope s_L_cell) .none kV9 dc9 pm9 an9 cd9 ct9), sl9⟩) (c9 : PySem.W.codeIn K cd9 "_law_cell" = true) (k9 : PySem.W.keepIn K (.ref f9) = true)
    {od10 an10 : Option Addr} {sl10 : Array (Option Value)} {oc10 kV10 dc10 pm10 cd10 ct10 : Value}
    (a10 : PySem.W.nsIn K mainGlobals "_law_mixed" = some (some (.ref f10))) (l10 : K.lookup f10 = some ⟨oc10, od10, .func (PySem.W.fnOf "_law_mixed" "_law_mixed" (defArgs s_L_mixed) (defBody s_L_mixed) (defScope s_L_mixed) .none kV10 dc10 pm10 an10 cd10 ct10), sl10⟩) (c10 : PySem.W.codeIn K cd10 "_law_mixed" = true) (k10 : PySem.W.keepIn K (.ref f10) = true)
    {od11 an11 : Option Addr} {sl11 : Array (Option Value)} {oc11 kV11 dc11 pm11 cd11 ct11 : Value}
    (a11 : PySem.W.nsIn K mainGlobals "_law_pool" = some (some (.ref f11))) (l11 : K.lookup f11 = some ⟨oc11, od11, .func (PySem.W.fnOf "_law_pool" "_law_pool" (defArgs s_L_pool) (defBody s_L_pool) (defScope s_L_pool) .none kV11 dc11 pm11 an11 cd11 ct11), sl11⟩) (c11 : PySem.W.codeIn K cd11 "_law_pool" = true) (k11 : PySem.W.keepIn K (.ref f11) = true)
    {od12 an12 : Option Addr} {sl12 : Array (Option Value)} {oc12 kV12 dc12 pm12 cd12 ct12 : Value}
    (a12 : PySem.W.nsIn K mainGlobals "_law_part" = some (some (.ref f12))) (l12 : K.lookup f12 = some ⟨oc12, od12, .func (PySem.W.fnOf "_law_part" "_law_part" (defArgs s_L_part) (defBody s_L_part) (defScope s_L_part) .none kV12 dc12 pm12 an12 cd12 ct12), sl12⟩) (c12 : PySem.W.codeIn K cd12 "_law_part" = true) (k12 : PySem.W.keepIn K (.ref f12) = true)
    {od13 an13 : Option Addr} {sl13 : Array (Option Value)} {oc13 kV13 dc13 pm13 cd13 ct13 : Value}
    (a13 : PySem.W.nsIn K mainGlobals "_law_names" = some (some (.ref f13))) (l13 : K.lookup f13 = some ⟨oc13, od13, .func (PySem.W.fnOf "_law_names" "_law_names" (defArgs s_L_names) (defBody s_L_names) (defScope s_L_names) .none kV13 dc13 pm13 an13 cd13 ct13), sl13⟩) (c13 : PySem.W.codeIn K cd13 "_law_names" = true) (k13 : PySem.W.keepIn K (.ref f13) = true)
    {od14 an14 : Option Addr} {sl14 : Array (Option Value)} {oc14 kV14 dc14 pm14 cd14 ct14 : Value}
    (a14 : PySem.W.nsIn K mainGlobals "_law_strange" = some (some (.ref f14))) (l14 : K.lookup f14 = some ⟨oc14, od14, .func (PySem.W.fnOf "_law_strange" "_law_strange" (defArgs s_L_strange) (defBody s_L_strange) (defScope s_L_strange) .none kV14 dc14 pm14 an14 cd14 ct14), sl14⟩) (c14 : PySem.W.codeIn K cd14 "_law_strange" = true) (k14 : PySem.W.keepIn K (.ref f14) = true)
    {od15 an15 : Option Addr} {sl15 : Array (Option Value)} {oc15 kV15 dc15 pm15 cd15 ct15 : Value}
    (a15 : PySem.W.nsIn K mainGlobals "_law_big" = some (some (.ref f15))) (l15 : K.lookup f15 = some ⟨oc15, od15, .func (PySem.W.fnOf "_law_big" "_law_big" (defArgs s_L_big) (defBody s_L_big) (defScope s_L_big) .none kV15 dc15 pm15 an15 cd15 ct15), sl15⟩) (c15 : PySem.W.codeIn K cd15 "_law_big" = true) (k15 : PySem.W.keepIn K (.ref f15) = true)
    {od16 an16 : Option Addr} {sl16 : Array (Option Value)} {oc16 kV16 dc16 pm16 cd16 ct16 : Value}
    (a16 : PySem.W.nsIn K mainGlobals "_law_some" = some (some (.ref f16))) (l16 : K.lookup f16 = some ⟨oc16, od16, .func (PySem.W.fnOf "_law_some" "_law_some" (defArgs s_L_some) (defBody s_L_some) (defScope s_L_some) .none kV16 dc16 pm16 an16 cd16 ct16), sl16⟩) (c16 : PySem.W.codeIn K cd16 "_law_some" = true) (k16 : PySem.W.keepIn K (.ref f16) = true)
    {od17 an17 : Option Addr} {sl17 : Array (Option Value)} {oc17 kV17 dc17 pm17 cd17 ct17 : Value}
    (a17 : PySem.W.nsIn K mainGlobals "_law_pages" = some (some (.ref f17))) (l17 : K.lookup f17 = some ⟨oc17, od17, .func (PySem.W.fnOf "_law_pages" "_law_pages" (defArgs s_L_pages) (defBody s_L_pages) (defScope s_L_pages) .none kV17 dc17 pm17 an17 cd17 ct17), sl17⟩) (c17 : PySem.W.codeIn K cd17 "_law_pages" = true) (k17 : PySem.W.keepIn K (.ref f17) = true)
    {od18 an18 : Option Addr} {sl18 : Array (Option Value)} {oc18 kV18 dc18 pm18 cd18 ct18 : Value}
    (a18 : PySem.W.nsIn K mainGlobals "_law_integer" = some (some (.ref f18))) (l18 : K.lookup f18 = some ⟨oc18, od18, .func (PySem.W.fnOf "_law_integer" "_law_integer" (defArgs s_L_integer) (defBody s_L_integer) (defScope s_L_integer) .none kV18 dc18 pm18 an18 cd18 ct18), sl18⟩) (c18 : PySem.W.codeIn K cd18 "_law_integer" = true) (k18 : PySem.W.keepIn K (.ref f18) = true)
    {od19 an19 : Option Addr} {sl19 : Array (Option Value)} {oc19 kV19 dc19 pm19 cd19 ct19 : Value}
    (a19 : PySem.W.nsIn K mainGlobals "_law_same" = some (some (.ref f19))) (l19 : K.lookup f19 = some ⟨oc19, od19, .func (PySem.W.fnOf "_law_same" "_law_same" (defArgs s_L_same) (defBody s_L_same) (defScope s_L_same) .none kV19 dc19 pm19 an19 cd19 ct19), sl19⟩) (c19 : PySem.W.codeIn K cd19 "_law_same" = true) (k19 : PySem.W.keepIn K (.ref f19) = true)
    {od20 an20 : Option Addr} {sl20 : Array (Option Value)} {oc20 kV20 dc20 pm20 cd20 ct20 : Value}
    (a20 : PySem.W.nsIn K mainGlobals "_law_shuffled" = some (some (.ref f20))) (l20 : K.lookup f20 = some ⟨oc20, od20, .func (PySem.W.fnOf "_law_shuffled" "_law_shuffled" (defArgs s_L_shuffled) (defBody s_L_shuffled) (defScope s_L_shuffled) .none kV20 dc20 pm20 an20 cd20 ct20), sl20⟩) (c20 : PySem.W.codeIn K cd20 "_law_shuffled" = true) (k20 : PySem.W.keepIn K (.ref f20) = true)
    {od21 an21 : Option Addr} {sl21 : Array (Option Value)} {oc21 kV21 dc21 pm21 cd21 ct21 : Value}
    (a21 : PySem.W.nsIn K mainGlobals "_law_good" = some (some (.ref f21))) (l21 : K.lookup f21 = some ⟨oc21, od21, .func (PySem.W.fnOf "_law_good" "_law_good" (defArgs s_L_good) (defBody s_L_good) (defScope s_L_good) .none kV21 dc21 pm21 an21 cd21 ct21), sl21⟩) (c21 : PySem.W.codeIn K cd21 "_law_good" = true) (k21 : PySem.W.keepIn K (.ref f21) = true)
    {od22 an22 : Option Addr} {sl22 : Array (Option Value)} {oc22 kV22 dc22 pm22 cd22 ct22 : Value}
    (a22 : PySem.W.nsIn K mainGlobals "_law_bad_word" = some (some (.ref f22))) (l22 : K.lookup f22 = some ⟨oc22, od22, .func (PySem.W.fnOf "_law_bad_word" "_law_bad_word" (defArgs s_L_bad_word) (defBody s_L_bad_word) (defScope s_L_bad_word) .none kV22 dc22 pm22 an22 cd22 ct22), sl22⟩) (c22 : PySem.W.codeIn K cd22 "_law_bad_word" = true) (k22 : PySem.W.keepIn K (.ref f22) = true)
    {od23 an23 : Option Addr} {sl23 : Array (Option Value)} {oc23 kV23 dc23 pm23 cd23 ct23 : Value}
    (a23 : PySem.W.nsIn K mainGlobals "_law_stranger" = some (some (.ref f23))) (l23 : K.lookup f23 = some ⟨oc23, od23, .func (PySem.W.fnOf "_law_stranger" "_law_stranger" (defArgs s_L_stranger) (defBody s_L_stranger) (defScope s_L_stranger) .none kV23 dc23 pm23 an23 cd23 ct23), sl23⟩) (c23 : PySem.W.codeIn K cd23 "_law_stranger" = true) (k23 : PySem.W.keepIn K (.ref f23) = true)
    {od24 an24 : Option Addr} {sl24 : Array (Option Value)} {oc24 kV24 dc24 pm24 cd24 ct24 : Value}
    (a24 : PySem.W.nsIn K mainGlobals "_law_wrong_members" = some (some (.ref f24))) (l24 : K.lookup f24 = some ⟨oc24, od24, .func (PySem.W.fnOf "_law_wrong_members" "_law_wrong_members" (defArgs s_L_wrong_members) (defBody s_L_wrong_members) (defScope s_L_wrong_members) .none kV24 dc24 pm24 an24 cd24 ct24), sl24⟩) (c24 : PySem.W.codeIn K cd24 "_law_wrong_members" = true) (k24 : PySem.W.keepIn K (.ref f24) = true)
    {od25 an25 : Option Addr} {sl25 : Array (Option Value)} {oc25 kV25 dc25 pm25 cd25 ct25 : Value}
    (a25 : PySem.W.nsIn K mainGlobals "_law_wrong_count" = some (some (.ref f25))) (l25 : K.lookup f25 = some ⟨oc25, od25, .func (PySem.W.fnOf "_law_wrong_count" "_law_wrong_count" (defArgs s_L_wrong_count) (defBody s_L_wrong_count) (defScope s_L_wrong_count) .none kV25 dc25 pm25 an25 cd25 ct25), sl25⟩) (c25 : PySem.W.codeIn K cd25 "_law_wrong_count" = true) (k25 : PySem.W.keepIn K (.ref f25) = true)
    {od26 an26 : Option Addr} {sl26 : Array (Option Value)} {oc26 kV26 dc26 pm26 cd26 ct26 : Value}
    (a26 : PySem.W.nsIn K mainGlobals "_law_wrong_bids" = some (some (.ref f26))) (l26 : K.lookup f26 = some ⟨oc26, od26, .func (PySem.W.fnOf "_law_wrong_bids" "_law_wrong_bids" (defArgs s_L_wrong_bids) (defBody s_L_wrong_bids) (defScope s_L_wrong_bids) .none kV26 dc26 pm26 an26 cd26 ct26), sl26⟩) (c26 : PySem.W.codeIn K cd26 "_law_wrong_bids" = true) (k26 : PySem.W.keepIn K (.ref f26) = true)
    {od27 an27 : Option Addr} {sl27 : Array (Option Value)} {oc27 kV27 dc27 pm27 cd27 ct27 : Value}
    (a27 : PySem.W.nsIn K mainGlobals "_law_wrong_page" = some (some (.ref f27))) (l27 : K.lookup f27 = some ⟨oc27, od27, .func (PySem.W.fnOf "_law_wrong_page" "_law_wrong_page" (defArgs s_L_wrong_page) (defBody s_L_wrong_page) (defScope s_L_wrong_page) .none kV27 dc27 pm27 an27 cd27 ct27), sl27⟩) (c27 : PySem.W.codeIn K cd27 "_law_wrong_page" = true) (k27 : PySem.W.keepIn K (.ref f27) = true)
    {od28 an28 : Option Addr} {sl28 : Array (Option Value)} {oc28 kV28 dc28 pm28 cd28 ct28 : Value}
    (a28 : PySem.W.nsIn K mainGlobals "_law_wrong_names" = some (some (.ref f28))) (l28 : K.lookup f28 = some ⟨oc28, od28, .func (PySem.W.fnOf "_law_wrong_names" "_law_wrong_names" (defArgs s_L_wrong_names) (defBody s_L_wrong_names) (defScope s_L_wrong_names) .none kV28 dc28 pm28 an28 cd28 ct28), sl28⟩) (c28 : PySem.W.codeIn K cd28 "_law_wrong_names" = true) (k28 : PySem.W.keepIn K (.ref f28) = true)
    {od29 an29 : Option Addr} {sl29 : Array (Option Value)} {oc29 kV29 dc29 pm29 cd29 ct29 : Value}
    (a29 : PySem.W.nsIn K mainGlobals "_law_wrong_followers" = some (some (.ref f29))) (l29 : K.lookup f29 = some ⟨oc29, od29, .func (PySem.W.fnOf "_law_wrong_followers" "_law_wrong_followers" (defArgs s_L_wrong_followers) (defBody s_L_wrong_followers) (defScope s_L_wrong_followers) .none kV29 dc29 pm29 an29 cd29 ct29), sl29⟩) (c29 : PySem.W.codeIn K cd29 "_law_wrong_followers" = true) (k29 : PySem.W.keepIn K (.ref f29) = true)
    {od30 an30 : Option Addr} {sl30 : Array (Option Value)} {oc30 kV30 dc30 pm30 cd30 ct30 : Value}
    (a30 : PySem.W.nsIn K mainGlobals "_law_stage" = some (some (.ref f30))) (l30 : K.lookup f30 = some ⟨oc30, od30, .func (PySem.W.fnOf "_law_stage" "_law_stage" (defArgs s_L_stage) (defBody s_L_stage) (defScope s_L_stage) .none kV30 dc30 pm30 an30 cd30 ct30), sl30⟩) (c30 : PySem.W.codeIn K cd30 "_law_stage" = true) (k30 : PySem.W.keepIn K (.ref f30) = true)
    {od31 an31 : Option Addr} {sl31 : Array (Option Value)} {oc31 kV31 dc31 pm31 cd31 ct31 : Value}
    (a31 : PySem.W.nsIn K mainGlobals "_law_spoilt" = some (some (.ref f31))) (l31 : K.lookup f31 = some ⟨oc31, od31, .func (PySem.W.fnOf "_law_spoilt" "_law_spoilt" (defArgs s_L_spoilt) (defBody s_L_spoilt) (defScope s_L_spoilt) .none kV31 dc31 pm31 an31 cd31 ct31), sl31⟩) (c31 : PySem.W.codeIn K cd31 "_law_spoilt" = true) (k31 : PySem.W.keepIn K (.ref f31) = true)
    {od32 an32 : Option Addr} {sl32 : Array (Option Value)} {oc32 kV32 dc32 pm32 cd32 ct32 : Value}
    (a32 : PySem.W.nsIn K mainGlobals "_law_handed" = some (some (.ref f32))) (l32 : K.lookup f32 = some ⟨oc32, od32, .func (PySem.W.fnOf "_law_handed" "_law_handed" (defArgs s_L_handed) (defBody s_L_handed) (defScope s_L_handed) .none kV32 dc32 pm32 an32 cd32 ct32), sl32⟩) (c32 : PySem.W.codeIn K cd32 "_law_handed" = true) (k32 : PySem.W.keepIn K (.ref f32) = true)
    {od33 an33 : Option Addr} {sl33 : Array (Option Value)} {oc33 kV33 dc33 pm33 cd33 ct33 : Value}
    (a33 : PySem.W.nsIn K mainGlobals "_law_told" = some (some (.ref f33))) (l33 : K.lookup f33 = some ⟨oc33, od33, .func (PySem.W.fnOf "_law_told" "_law_told" (defArgs s_L_told) (defBody s_L_told) (defScope s_L_told) .none kV33 dc33 pm33 an33 cd33 ct33), sl33⟩) (c33 : PySem.W.codeIn K cd33 "_law_told" = true) (k33 : PySem.W.keepIn K (.ref f33) = true)
    {od34 an34 : Option Addr} {sl34 : Array (Option Value)} {oc34 kV34 dc34 pm34 cd34 ct34 : Value}
    (a34 : PySem.W.nsIn K mainGlobals "_law_bare" = some (some (.ref f34))) (l34 : K.lookup f34 = some ⟨oc34, od34, .func (PySem.W.fnOf "_law_bare" "_law_bare" (defArgs s_L_bare) (defBody s_L_bare) (defScope s_L_bare) .none kV34 dc34 pm34 an34 cd34 ct34), sl34⟩) (c34 : PySem.W.codeIn K cd34 "_law_bare" = true) (k34 : PySem.W.keepIn K (.ref f34) = true)
    {od35 an35 : Option Addr} {sl35 : Array (Option Value)} {oc35 kV35 dc35 pm35 cd35 ct35 : Value}
    (a35 : PySem.W.nsIn K mainGlobals "_law_refuses" = some (some (.ref f35))) (l35 : K.lookup f35 = some ⟨oc35, od35, .func (PySem.W.fnOf "_law_refuses" "_law_refuses" (defArgs s_L_refuses) (defBody s_L_refuses) (defScope s_L_refuses) .none kV35 dc35 pm35 an35 cd35 ct35), sl35⟩) (c35 : PySem.W.codeIn K cd35 "_law_refuses" = true) (k35 : PySem.W.keepIn K (.ref f35) = true)
    {od36 an36 : Option Addr} {sl36 : Array (Option Value)} {oc36 kV36 dc36 pm36 cd36 ct36 : Value}
    (a36 : PySem.W.nsIn K mainGlobals "law" = some (some (.ref f36))) (l36 : K.lookup f36 = some ⟨oc36, od36, .func (PySem.W.fnOf "law" "law" (defArgs s_law) (defBody s_law) (defScope s_law) .none kV36 dc36 pm36 an36 cd36 ct36), sl36⟩) (c36 : PySem.W.codeIn K cd36 "law" = true) (k36 : PySem.W.keepIn K (.ref f36) = true)
    (aL : PySem.W.nsIn K mainGlobals "LETTERS" = some (some (.str lettersZ tk)))
    (z_len : PySem.W.nsIn K mainGlobals "len" = some none)
    (z_all : PySem.W.nsIn K mainGlobals "all" = some none)
    (z_enumerate : PySem.W.nsIn K mainGlobals "enumerate" = some none)
    (z_tuple : PySem.W.nsIn K mainGlobals "tuple" = some none)
    (z_list : PySem.W.nsIn K mainGlobals "list" = some none)
    (z_range : PySem.W.nsIn K mainGlobals "range" = some none)
    (z_abs : PySem.W.nsIn K mainGlobals "abs" = some none)
    (z_int : PySem.W.nsIn K mainGlobals "int" = some none)
    (z_isinstance : PySem.W.nsIn K mainGlobals "isinstance" = some none)
    (z_bool : PySem.W.nsIn K mainGlobals "bool" = some none)
    (z_str : PySem.W.nsIn K mainGlobals "str" = some none)
    (z_set : PySem.W.nsIn K mainGlobals "set" = some none)
    (z_min : PySem.W.nsIn K mainGlobals "min" = some none)
    (z_ValueError : PySem.W.nsIn K mainGlobals "ValueError" = some none)
    (aBo : PySem.W.nsIn K mainGlobals "Book" = some (some (.ref CB))) (aPag : PySem.W.nsIn K mainGlobals "Page" = some (some (.ref CP)))
    (aPg : PySem.W.findIn K (.ref CP) "__init__" = some (some (.ref fPg))) (iPg : PySem.W.isFn K (.ref fPg) = true) (lPg : K.lookup fPg = some ⟨ocPg, odPg, .func (PySem.W.fnOf "__init__" "Page.__init__" (defArgs s_Page_init) (defBody s_Page_init) (defScope s_Page_init) .none kVPg dcPg pmPg anPg cdPg ctPg), slPg⟩) (cPg : PySem.W.codeIn K cdPg "Page.__init__" = true) (kPg : PySem.W.keepIn K (.ref fPg) = true)
    (aBk : PySem.W.findIn K (.ref CB) "__init__" = some (some (.ref fBk))) (iBk : PySem.W.isFn K (.ref fBk) = true) (lBk : K.lookup fBk = some ⟨ocBk, odBk, .func (PySem.W.fnOf "__init__" "Book.__init__" (defArgs s_Book_init) (defBody s_Book_init) (defScope s_Book_init) .none (.ref DH) dcBk pmBk anBk cdBk ctBk), slBk⟩) (cBk : PySem.W.codeIn K cdBk "Book.__init__" = true) (kBk : PySem.W.keepIn K (.ref fBk) = true)
    (pgB : PySem.W.plainGet K CB Str.empty = true) (hdB : PySem.W.hasDictIn K CB = true) (poB : PySem.W.plainOver K CB = true) (saB : PySem.W.findIn K (.ref CB) "__setattr__" = some (some (.builtin "object.__setattr__"))) (mkB : PySem.W.makesIn K CB = true) (kcB : PySem.W.keepIn K (.ref CB) = true) (nA0B : PySem.W.findIn K (.ref CB) "members" = some none) (nA1B : PySem.W.findIn K (.ref CB) "names" = some none) (nA2B : PySem.W.findIn K (.ref CB) "starts" = some none) (nA3B : PySem.W.findIn K (.ref CB) "home" = some none) (nA4B : PySem.W.findIn K (.ref CB) "_rows" = some none) (nA5B : PySem.W.findIn K (.ref CB) "_pages" = some none)
    (pgP : PySem.W.plainGet K CP Str.empty = true) (hdP : PySem.W.hasDictIn K CP = true) (poP : PySem.W.plainOver K CP = true) (saP : PySem.W.findIn K (.ref CP) "__setattr__" = some (some (.builtin "object.__setattr__"))) (mkP : PySem.W.makesIn K CP = true) (kcP : PySem.W.keepIn K (.ref CP) = true) (nA0P : PySem.W.findIn K (.ref CP) "name" = some none) (nA1P : PySem.W.findIn K (.ref CP) "bids" = some none) (nA2P : PySem.W.findIn K (.ref CP) "wishers" = some none) (nA3P : PySem.W.findIn K (.ref CP) "followers" = some none) (nA4P : PySem.W.findIn K (.ref CP) "home" = some none)
    (nHm : PySem.W.nsIn K DH "home" = some (some (.ref EH))) (lEH : K.lookup EH = some ⟨.type "tuple", odEH, .seq (List.toArray []) nEH, slEH⟩)
    (lDN : K.lookup DN = some ⟨ocN2, odN2, .seq (List.toArray [Value.bool false]) nN, slN2⟩)
    (hgt : PySem.W.specialIn K (.builtin "object.__class__") "__get__" = some (some (.builtin "getset_descriptor.__get__"))) (htk : PySem.W.takesIn K (.builtin "object.__class__") = some true)
    (htopS : (l.prog.main.scope.names.lookup ("super" : Str)).isSome = false) (z_super : PySem.W.nsIn K mainGlobals "super" = some none) (hstS : PySem.W.nsIn K cStatics "thirdparty.any" = some none)
    (aeC : PySem.W.nsIn K mainGlobals "BadCount" = some (some (.ref CeC))) (ibeC : PySem.W.findIn K (.ref CeC) "__init__" = some (some (.ref feC)))
    (leC : K.lookup feC = some ⟨oceC, odeC, .func (PySem.W.fnX "__init__" "BadCount.__init__" (defArgs s_BadCount_init) (defBody s_BadCount_init) (defScope s_BadCount_init) [("__class__", cceC)] .none kVeC doceC pmeC aneC (.ref cdaeC) cteC), osleC⟩) (cbeC : PySem.W.codeIn K (.ref cdaeC) "BadCount.__init__" = true)
    (hceC : K.lookup cdaeC = some ⟨ccleC, cddeC, .fields vseC, ccseC⟩) (hveC : vseC[2]? = some (.str fileeC tfeC)) (hfeC : ((l.prog.main.file : Str) == fileeC) = true) (hleC : K.lookup cceC = some ⟨cleC, cldeC, .cell (some (.ref CeC)), csleC⟩)
    (lceC : K.lookup CeC = some (excClassObj nmeC qeC CeC NNeC bseC bmeC true sneC subeC abeC coleC ddeC k0eC k1eC k2eC k3eC k5eC "ValueError.__new__")) (rfeC : PySem.HandSPX.refsVE bmeC = true) (saeC : PySem.W.findIn K (.ref CeC) "__setattr__" = some (some (.builtin "object.__setattr__")))
    (bxeC : PySem.W.subIn K (.ref CeC) (.type "BaseException") = some true) (tyeC : PySem.W.typeIn K (.ref CeC) = some (.type "type")) (kceC : PySem.W.keepIn K (.ref CeC) = true) (hmeC : PySem.W.mroIn K CeC (.ref CeC) = some true)
    (aleC : PySem.W.ks_superIn K CeC CeC "__init__" = some (some (.builtin "ValueError.__init__"))) (veeC : PySem.W.subIn K (.ref CeC) (.type "ValueError") = some true) (noeC : PySem.W.findIn K (.ref CeC) "size" = some none) (tfeCx : PySem.W.typeIn K (.ref feC) = some (.type "function"))
    (gaeC : PySem.W.findIn K (.ref CeC) "__getattribute__" = some (some (.builtin "BaseException.__getattribute__"))) (ggeC : PySem.W.findIn K (.ref CeC) "__getattr__" = some none) (hdeC : PySem.W.hasDictIn K CeC = true) (cceCx : PySem.W.findIn K (.ref CeC) "__class__" = some (some (.builtin "object.__class__")))
    (moeC : PySem.W.mroIn K CeC (.type "object") = some true) (iseC : PySem.W.isClsIn K CeC = true) (sueC : PySem.W.subIn K (.ref CeC) (.ref CeC) = some true)
    (aeN : PySem.W.nsIn K mainGlobals "BadName" = some (some (.ref CeN))) (ibeN : PySem.W.findIn K (.ref CeN) "__init__" = some (some (.ref feN)))
    (leN : K.lookup feN = some ⟨oceN, odeN, .func (PySem.W.fnX "__init__" "BadName.__init__" (defArgs s_BadName_init) (defBody s_BadName_init) (defScope s_BadName_init) [("__class__", cceN)] .none kVeN doceN pmeN aneN (.ref cdaeN) cteN), osleN⟩) (cbeN : PySem.W.codeIn K (.ref cdaeN) "BadName.__init__" = true)
    (hceN : K.lookup cdaeN = some ⟨ccleN, cddeN, .fields vseN, ccseN⟩) (hveN : vseN[2]? = some (.str fileeN tfeN)) (hfeN : ((l.prog.main.file : Str) == fileeN) = true) (hleN : K.lookup cceN = some ⟨cleN, cldeN, .cell (some (.ref CeN)), csleN⟩)
    (lceN : K.lookup CeN = some (excClassObj nmeN qeN CeN NNeN bseN bmeN true sneN subeN abeN coleN ddeN k0eN k1eN k2eN k3eN k5eN "ValueError.__new__")) (rfeN : PySem.HandSPX.refsVE bmeN = true) (saeN : PySem.W.findIn K (.ref CeN) "__setattr__" = some (some (.builtin "object.__setattr__")))
    (bxeN : PySem.W.subIn K (.ref CeN) (.type "BaseException") = some true) (tyeN : PySem.W.typeIn K (.ref CeN) = some (.type "type")) (kceN : PySem.W.keepIn K (.ref CeN) = true) (hmeN : PySem.W.mroIn K CeN (.ref CeN) = some true)
    (aleN : PySem.W.ks_superIn K CeN CeN "__init__" = some (some (.builtin "ValueError.__init__"))) (veeN : PySem.W.subIn K (.ref CeN) (.type "ValueError") = some true) (noeN : PySem.W.findIn K (.ref CeN) "name" = some none) (tfeNx : PySem.W.typeIn K (.ref feN) = some (.type "function"))
    (gaeN : PySem.W.findIn K (.ref CeN) "__getattribute__" = some (some (.builtin "BaseException.__getattribute__"))) (ggeN : PySem.W.findIn K (.ref CeN) "__getattr__" = some none) (hdeN : PySem.W.hasDictIn K CeN = true) (cceNx : PySem.W.findIn K (.ref CeN) "__class__" = some (some (.builtin "object.__class__")))
    (moeN : PySem.W.mroIn K CeN (.type "object") = some true) (iseN : PySem.W.isClsIn K CeN = true) (sueN : PySem.W.subIn K (.ref CeN) (.ref CeN) = some true)
    (aeD : PySem.W.nsIn K mainGlobals "DoubledName" = some (some (.ref CeD))) (ibeD : PySem.W.findIn K (.ref CeD) "__init__" = some (some (.ref feD)))
    (leD : K.lookup feD = some ⟨oceD, odeD, .func (PySem.W.fnX "__init__" "DoubledName.__init__" (defArgs s_DoubledName_init) (defBody s_DoubledName_init) (defScope s_DoubledName_init) [("__class__", cceD)] .none kVeD doceD pmeD aneD (.ref cdaeD) cteD), osleD⟩) (cbeD : PySem.W.codeIn K (.ref cdaeD) "DoubledName.__init__" = true)
    (hceD : K.lookup cdaeD = some ⟨ccleD, cddeD, .fields vseD, ccseD⟩) (hveD : vseD[2]? = some (.str fileeD tfeD)) (hfeD : ((l.prog.main.file : Str) == fileeD) = true) (hleD : K.lookup cceD = some ⟨cleD, cldeD, .cell (some (.ref CeD)), csleD⟩)
    (lceD : K.lookup CeD = some (excClassObj nmeD qeD CeD NNeD bseD bmeD true sneD subeD abeD coleD ddeD k0eD k1eD k2eD k3eD k5eD "ValueError.__new__")) (rfeD : PySem.HandSPX.refsVE bmeD = true) (saeD : PySem.W.findIn K (.ref CeD) "__setattr__" = some (some (.builtin "object.__setattr__")))
    (bxeD : PySem.W.subIn K (.ref CeD) (.type "BaseException") = some true) (tyeD : PySem.W.typeIn K (.ref CeD) = some (.type "type")) (kceD : PySem.W.keepIn K (.ref CeD) = true) (hmeD : PySem.W.mroIn K CeD (.ref CeD) = some true)
    (aleD : PySem.W.ks_superIn K CeD CeD "__init__" = some (some (.builtin "ValueError.__init__"))) (veeD : PySem.W.subIn K (.ref CeD) (.type "ValueError") = some true) (noeD : PySem.W.findIn K (.ref CeD) "name" = some none) (tfeDx : PySem.W.typeIn K (.ref feD) = some (.type "function"))
    (gaeD : PySem.W.findIn K (.ref CeD) "__getattribute__" = some (some (.builtin "BaseException.__getattribute__"))) (ggeD : PySem.W.findIn K (.ref CeD) "__getattr__" = some none) (hdeD : PySem.W.hasDictIn K CeD = true) (cceDx : PySem.W.findIn K (.ref CeD) "__class__" = some (some (.builtin "object.__class__")))
    (moeD : PySem.W.mroIn K CeD (.type "object") = some true) (iseD : PySem.W.isClsIn K CeD = true) (sueD : PySem.W.subIn K (.ref CeD) (.ref CeD) = some true)
    (aeB : PySem.W.nsIn K mainGlobals "BadBook" = some (some (.ref CeB))) (ibeB : PySem.W.findIn K (.ref CeB) "__init__" = some (some (.ref feB)))
    (leB : K.lookup feB = some ⟨oceB, odeB, .func (PySem.W.fnX "__init__" "BadBook.__init__" (defArgs s_BadBook_init) (defBody s_BadBook_init) (defScope s_BadBook_init) [("__class__", cceB)] .none kVeB doceB pmeB aneB (.ref cdaeB) cteB), osleB⟩) (cbeB : PySem.W.codeIn K (.ref cdaeB) "BadBook.__init__" = true)
    (hceB : K.lookup cdaeB = some ⟨ccleB, cddeB, .fields vseB, ccseB⟩) (hveB : vseB[2]? = some (.str fileeB tfeB)) (hfeB : ((l.prog.main.file : Str) == fileeB) = true) (hleB : K.lookup cceB = some ⟨cleB, cldeB, .cell (some (.ref CeB)), csleB⟩)
    (lceB : K.lookup CeB = some (excClassObj nmeB qeB CeB NNeB bseB bmeB true sneB subeB abeB coleB ddeB k0eB k1eB k2eB k3eB k5eB "ValueError.__new__")) (rfeB : PySem.HandSPX.refsVE bmeB = true) (saeB : PySem.W.findIn K (.ref CeB) "__setattr__" = some (some (.builtin "object.__setattr__")))
    (bxeB : PySem.W.subIn K (.ref CeB) (.type "BaseException") = some true) (tyeB : PySem.W.typeIn K (.ref CeB) = some (.type "type")) (kceB : PySem.W.keepIn K (.ref CeB) = true) (hmeB : PySem.W.mroIn K CeB (.ref CeB) = some true)
    (aleB : PySem.W.ks_superIn K CeB CeB "__init__" = some (some (.builtin "ValueError.__init__"))) (veeB : PySem.W.subIn K (.ref CeB) (.type "ValueError") = some true) (noeB : PySem.W.findIn K (.ref CeB) "part" = some none) (tfeBx : PySem.W.typeIn K (.ref feB) = some (.type "function"))
    (gaeB : PySem.W.findIn K (.ref CeB) "__getattribute__" = some (some (.builtin "BaseException.__getattribute__"))) (ggeB : PySem.W.findIn K (.ref CeB) "__getattr__" = some none) (hdeB : PySem.W.hasDictIn K CeB = true) (cceBx : PySem.W.findIn K (.ref CeB) "__class__" = some (some (.builtin "object.__class__")))
    (moeB : PySem.W.mroIn K CeB (.type "object") = some true) (iseB : PySem.W.isClsIn K CeB = true) (sueB : PySem.W.subIn K (.ref CeB) (.ref CeB) = some true) (no2eB : PySem.W.findIn K (.ref CeB) "place" = some none)
    (aNN : PySem.W.nsIn K mainGlobals "BadNumber" = some (some (.ref CNN))) (isNN : PySem.W.isClsIn K CNN = true) (tyNN : PySem.W.typeIn K (.ref CNN) = some (.type "type"))
    (aNU : PySem.W.nsIn K mainGlobals "UnknownName" = some (some (.ref CNU))) (isNU : PySem.W.isClsIn K CNU = true) (tyNU : PySem.W.typeIn K (.ref CNU) = some (.type "type"))
    (aNP : PySem.W.nsIn K mainGlobals "UnknownPage" = some (some (.ref CNP))) (isNP : PySem.W.isClsIn K CNP = true) (tyNP : PySem.W.typeIn K (.ref CNP) = some (.type "type"))
    (aNH : PySem.W.nsIn K mainGlobals "HouseError" = some (some (.ref CNH))) (isNH : PySem.W.isClsIn K CNH = true) (tyNH : PySem.W.typeIn K (.ref CNH) = some (.type "type"))
    (sbeB_eC : PySem.W.subIn K (.ref CeB) (.ref CeC) = some false)
    (sbeB_eN : PySem.W.subIn K (.ref CeB) (.ref CeN) = some false)
    (sbeB_NN : PySem.W.subIn K (.ref CeB) (.ref CNN) = some false)
    (sbeB_eD : PySem.W.subIn K (.ref CeB) (.ref CeD) = some false)
    (sbeB_NU : PySem.W.subIn K (.ref CeB) (.ref CNU) = some false)
    (sbeB_NP : PySem.W.subIn K (.ref CeB) (.ref CNP) = some false)
    (sbeB_NH : PySem.W.subIn K (.ref CeB) (.ref CNH) = some true)
    (sbeC_eN : PySem.W.subIn K (.ref CeC) (.ref CeN) = some false)
    (sbeC_NN : PySem.W.subIn K (.ref CeC) (.ref CNN) = some false)
    (sbeC_eD : PySem.W.subIn K (.ref CeC) (.ref CeD) = some false)
    (sbeC_NU : PySem.W.subIn K (.ref CeC) (.ref CNU) = some false)
    (sbeC_NP : PySem.W.subIn K (.ref CeC) (.ref CNP) = some false)
    (sbeC_NH : PySem.W.subIn K (.ref CeC) (.ref CNH) = some true)
    (sbeN_NN : PySem.W.subIn K (.ref CeN) (.ref CNN) = some false)
    (sbeN_eD : PySem.W.subIn K (.ref CeN) (.ref CeD) = some false)
    (sbeN_NU : PySem.W.subIn K (.ref CeN) (.ref CNU) = some false)
    (sbeN_NP : PySem.W.subIn K (.ref CeN) (.ref CNP) = some false)
    (sbeN_NH : PySem.W.subIn K (.ref CeN) (.ref CNH) = some true)
    (sbeD_NN : PySem.W.subIn K (.ref CeD) (.ref CNN) = some false)
    (sbeD_NU : PySem.W.subIn K (.ref CeD) (.ref CNU) = some false)
    (sbeD_NP : PySem.W.subIn K (.ref CeD) (.ref CNP) = some false)
    (sbeD_NH : PySem.W.subIn K (.ref CeD) (.ref CNH) = some true)
    (sbeC_eB : PySem.W.subIn K (.ref CeC) (.ref CeB) = some false)
    (sbeN_eB : PySem.W.subIn K (.ref CeN) (.ref CeB) = some false)
    (sbeN_eC : PySem.W.subIn K (.ref CeN) (.ref CeC) = some false)
    (sbeD_eB : PySem.W.subIn K (.ref CeD) (.ref CeB) = some false)
    (sbeD_eC : PySem.W.subIn K (.ref CeD) (.ref CeC) = some false)
    (sbeD_eN : PySem.W.subIn K (.ref CeD) (.ref CeN) = some false) :
    ∃ fd : FuncData, (∀ (s : Shared) (v : Value), BindsTo s fd ⟨[v], []⟩ [("_law_script", v)]) ∧ ∀ base : Heap, K.In base → base.Ns mainGlobals mg → FnOk l.prog w K mg base CX0 9 fa fd ["_law_script"] (spLaw K) := by
  have e := hfa.symm.trans (PySem.W.mg_of X G a36)
  cases e
  have m_len := PySem.W.mg_none_of X G z_len
  have m_all := PySem.W.mg_none_of X G z_all
  have m_enumerate := PySem.W.mg_none_of X G z_enumerate
  have m_tuple := PySem.W.mg_none_of X G z_tuple
  have m_list := PySem.W.mg_none_of X G z_list
  have m_range := PySem.W.mg_none_of X G z_range
  have m_abs := PySem.W.mg_none_of X G z_abs
  have m_int := PySem.W.mg_none_of X G z_int
  have m_isinstance := PySem.W.mg_none_of X G z_isinstance
  have m_bool := PySem.W.mg_none_of X G z_bool
  have m_str := PySem.W.mg_none_of X G z_str
  have m_set := PySem.W.mg_none_of X G z_set
  have m_min := PySem.W.mg_none_of X G z_min
  have m_ValueError := PySem.W.mg_none_of X G z_ValueError
  have F0 := fun_mk (st := s_wall) l0 c0 k0
  have b0 := F0.binds (ps := ["k"]) fun _ _ _ _ _ _ us hl => match us, hl with | [_], _ => rfl
  have g0 := PySem.W.mg_of X G a0
  have F1 := fun_mk (st := s_is_name) l1 c1 k1
  have b1 := F1.binds (ps := ["word"]) fun _ _ _ _ _ _ us hl => match us, hl with | [_], _ => rfl
  have g1 := PySem.W.mg_of X G a1
  have F2 := fun_mk (st := s_check_size) l2 c2 k2
  have b2 := F2.binds (ps := ["size", "low", "high"]) fun _ _ _ _ _ _ us hl => match us, hl with | [_, _, _], _ => rfl
  have g2 := PySem.W.mg_of X G a2
  have F3 : FunD K "check_names" "check_names" (defArgs s_check_names) (defBody s_check_names) (defScope s_check_names) [V.bl false] [] f3 _ := ⟨⟨oc3, od3, .ref DN, kV3, dc3, pm3, an3, cd3, ct3, sl3, rfl, l3, c3, .inr ⟨by simp, DN, _, [Value.bool false], nN, rfl, lDN, rfl, .cons rfl .nil⟩, .inl rfl⟩, k3⟩
  have g3 := PySem.W.mg_of X G a3
  have F4 := fun_mk (st := s_are_picks) l4 c4 k4
  have b4 := F4.binds (ps := ["picks", "known"]) fun _ _ _ _ _ _ us hl => match us, hl with | [_, _], _ => rfl
  have g4 := PySem.W.mg_of X G a4
  have F5 := fun_mk (st := s_are_bids) l5 c5 k5
  have b5 := F5.binds (ps := ["bids", "members"]) fun _ _ _ _ _ _ us hl => match us, hl with | [_, _], _ => rfl
  have g5 := PySem.W.mg_of X G a5
  have F6 := fun_mk (st := s_check_pages) l6 c6 k6
  have b6 := F6.binds (ps := ["members", "pages"]) fun _ _ _ _ _ _ us hl => match us, hl with | [_, _], _ => rfl
  have g6 := PySem.W.mg_of X G a6
  have F7 := fun_mk (st := s_check_ends) l7 c7 k7
  have b7 := F7.binds (ps := ["names", "starts", "home"]) fun _ _ _ _ _ _ us hl => match us, hl with | [_, _, _], _ => rfl
  have g7 := PySem.W.mg_of X G a7
  have F8 := fun_mk (st := s_sorted_bids) l8 c8 k8
  have b8 := F8.binds (ps := ["members", "bids"]) fun _ _ _ _ _ _ us hl => match us, hl with | [_, _], _ => rfl
  have g8 := PySem.W.mg_of X G a8
  have F9 := fun_mk (st := s_L_cell) l9 c9 k9
  have b9 := F9.binds (ps := ["_law_script", "_law_k"]) fun _ _ _ _ _ _ us hl => match us, hl with | [_, _], _ => rfl
  have g9 := PySem.W.mg_of X G a9
  have F10 := fun_mk (st := s_L_mixed) l10 c10 k10
  have b10 := F10.binds (ps := ["_law_cell_here", "_law_k"]) fun _ _ _ _ _ _ us hl => match us, hl with | [_, _], _ => rfl
  have g10 := PySem.W.mg_of X G a10
  have F11 := fun_mk (st := s_L_pool) l11 c11 k11
  have b11 := F11.binds (ps := ["_law_cell_here", "_law_number"]) fun _ _ _ _ _ _ us hl => match us, hl with | [_, _], _ => rfl
  have g11 := PySem.W.mg_of X G a11
  have F12 := fun_mk (st := s_L_part) l12 c12 k12
  have b12 := F12.binds (ps := ["_law_pool_here", "_law_spot", "_law_under", "_law_size"]) fun _ _ _ _ _ _ us hl => match us, hl with | [_, _, _, _], _ => rfl
  have g12 := PySem.W.mg_of X G a12
  have F13 := fun_mk (st := s_L_names) l13 c13 k13
  have b13 := F13.binds (ps := ["_law_pool_here", "_law_spot", "_law_number"]) fun _ _ _ _ _ _ us hl => match us, hl with | [_, _, _], _ => rfl
  have g13 := PySem.W.mg_of X G a13
  have F14 := fun_mk (st := s_L_strange) l14 c14 k14
  have b14 := F14.binds (ps := ["_law_names_here"]) fun _ _ _ _ _ _ us hl => match us, hl with | [_], _ => rfl
  have g14 := PySem.W.mg_of X G a14
  have F15 := fun_mk (st := s_L_big) l15 c15 k15
  have b15 := F15.binds (ps := ["_law_pool_here", "_law_spot", "_law_least", "_law_crest"]) fun _ _ _ _ _ _ us hl => match us, hl with | [_, _, _, _], _ => rfl
  have g15 := PySem.W.mg_of X G a15
  have F16 := fun_mk (st := s_L_some) l16 c16 k16
  have b16 := F16.binds (ps := ["_law_pool_here", "_law_spot", "_law_names_here"]) fun _ _ _ _ _ _ us hl => match us, hl with | [_, _, _], _ => rfl
  have g16 := PySem.W.mg_of X G a16
  have F17 := fun_mk (st := s_L_pages) l17 c17 k17
  have b17 := F17.binds (ps := ["_law_pool_here", "_law_spot", "_law_members", "_law_names_here"]) fun _ _ _ _ _ _ us hl => match us, hl with | [_, _, _, _], _ => rfl
  have g17 := PySem.W.mg_of X G a17
  have F18 := fun_mk (st := s_L_integer) l18 c18 k18
  have b18 := F18.binds (ps := ["_law_got"]) fun _ _ _ _ _ _ us hl => match us, hl with | [_], _ => rfl
  have g18 := PySem.W.mg_of X G a18
  have F19 := fun_mk (st := s_L_same) l19 c19 k19
  have b19 := F19.binds (ps := ["_law_got", "_law_wanted"]) fun _ _ _ _ _ _ us hl => match us, hl with | [_, _], _ => rfl
  have g19 := PySem.W.mg_of X G a19
  have F20 := fun_mk (st := s_L_shuffled) l20 c20 k20
  have b20 := F20.binds (ps := ["_law_pool_here", "_law_spot", "_law_row"]) fun _ _ _ _ _ _ us hl => match us, hl with | [_, _, _], _ => rfl
  have g20 := PySem.W.mg_of X G a20
  have F21 := fun_mk (st := s_L_good) l21 c21 k21
  have b21 := F21.binds (ps := ["_law_head"]) fun _ _ _ _ _ _ us hl => match us, hl with | [_], _ => rfl
  have g21 := PySem.W.mg_of X G a21
  have F22 := fun_mk (st := s_L_bad_word) l22 c22 k22
  have b22 := F22.binds (ps := ["_law_pool_here", "_law_spot", "_law_word"]) fun _ _ _ _ _ _ us hl => match us, hl with | [_, _, _], _ => rfl
  have g22 := PySem.W.mg_of X G a22
  have F23 := fun_mk (st := s_L_stranger) l23 c23 k23
  have b23 := F23.binds (ps := ["_law_pool_here", "_law_spot", "_law_names_here"]) fun _ _ _ _ _ _ us hl => match us, hl with | [_, _, _], _ => rfl
  have g23 := PySem.W.mg_of X G a23
  have F24 := fun_mk (st := s_L_wrong_members) l24 c24 k24
  have b24 := F24.binds (ps := ["_law_pool_here", "_law_members"]) fun _ _ _ _ _ _ us hl => match us, hl with | [_, _], _ => rfl
  have g24 := PySem.W.mg_of X G a24
  have F25 := fun_mk (st := s_L_wrong_count) l25 c25 k25
  have b25 := F25.binds (ps := ["_law_pool_here", "_law_rows"]) fun _ _ _ _ _ _ us hl => match us, hl with | [_, _], _ => rfl
  have g25 := PySem.W.mg_of X G a25
  have F26 := fun_mk (st := s_L_wrong_bids) l26 c26 k26
  have b26 := F26.binds (ps := ["_law_pool_here", "_law_spot", "_law_members", "_law_bids"]) fun _ _ _ _ _ _ us hl => match us, hl with | [_, _, _, _], _ => rfl
  have g26 := PySem.W.mg_of X G a26
  have F27 := fun_mk (st := s_L_wrong_page) l27 c27 k27
  have b27 := F27.binds (ps := ["_law_pool_here", "_law_members", "_law_rows"]) fun _ _ _ _ _ _ us hl => match us, hl with | [_, _, _], _ => rfl
  have g27 := PySem.W.mg_of X G a27
  have F28 := fun_mk (st := s_L_wrong_names) l28 c28 k28
  have b28 := F28.binds (ps := ["_law_pool_here", "_law_spot", "_law_known", "_law_row"]) fun _ _ _ _ _ _ us hl => match us, hl with | [_, _, _, _], _ => rfl
  have g28 := PySem.W.mg_of X G a28
  have F29 := fun_mk (st := s_L_wrong_followers) l29 c29 k29
  have b29 := F29.binds (ps := ["_law_pool_here", "_law_titles", "_law_rows"]) fun _ _ _ _ _ _ us hl => match us, hl with | [_, _, _], _ => rfl
  have g29 := PySem.W.mg_of X G a29
  have F30 := fun_mk (st := s_L_stage) l30 c30 k30
  have b30 := F30.binds (ps := ["_law_pool_here"]) fun _ _ _ _ _ _ us hl => match us, hl with | [_], _ => rfl
  have g30 := PySem.W.mg_of X G a30
  have F31 := fun_mk (st := s_L_spoilt) l31 c31 k31
  have b31 := F31.binds (ps := ["_law_pool_here", "_law_stage_here", "_law_book"]) fun _ _ _ _ _ _ us hl => match us, hl with | [_, _, _], _ => rfl
  have g31 := PySem.W.mg_of X G a31
  have F32 := fun_mk (st := s_L_handed) l32 c32 k32
  have b32 := F32.binds (ps := ["_law_book", "_law_loose"]) fun _ _ _ _ _ _ us hl => match us, hl with | [_, _], _ => rfl
  have g32 := PySem.W.mg_of X G a32
  have F33 := fun_mk (st := s_L_told) l33 c33 k33
  have b33 := F33.binds (ps := ["_law_given"]) fun _ _ _ _ _ _ us hl => match us, hl with | [_], _ => rfl
  have g33 := PySem.W.mg_of X G a33
  have F34 := fun_mk (st := s_L_bare) l34 c34 k34
  have b34 := F34.binds (ps := ["_law_book"]) fun _ _ _ _ _ _ us hl => match us, hl with | [_], _ => rfl
  have g34 := PySem.W.mg_of X G a34
  have F35 := fun_mk (st := s_L_refuses) l35 c35 k35
  have b35 := F35.binds (ps := ["_law_one", "_law_two", "_law_good_here"]) fun _ _ _ _ _ _ us hl => match us, hl with | [_, _, _], _ => rfl
  have g35 := PySem.W.mg_of X G a35
  have F36 := fun_mk (st := s_law) l36 c36 k36
  have b36 := F36.binds (ps := ["_law_script"]) fun _ _ _ _ _ _ us hl => match us, hl with | [_], _ => rfl
  have g36 := PySem.W.mg_of X G a36
  have gLET := PySem.W.mg_of X G aL
  refine ⟨PySem.W.fnOf "law" "law" (defArgs s_law) (defBody s_law) (defScope s_law) .none kV36 dc36 pm36 an36 cd36 ct36, fun s v => .of_eq rfl, fun base _ _ => ?_⟩
  have FPg := fun_mk (st := s_Page_init) lPg cPg kPg
  have bPg := FPg.binds (ps := ["self", "name", "bids", "followers", "home"]) fun _ _ _ _ _ _ us hl => match us, hl with | [_, _, _, _, _], _ => rfl
  have FBk : FunD K "__init__" "Book.__init__" (defArgs s_Book_init) (defBody s_Book_init) (defScope s_Book_init) [] [("home", V.ref EH)] fBk _ := ⟨⟨ocBk, odBk, .none, .ref DH, dcBk, pmBk, anBk, cdBk, ctBk, slBk, rfl, lBk, cBk, .inl ⟨rfl, rfl⟩, .inr ⟨DH, rfl, fun q hq => by
    rw [List.mem_singleton.mp hq]
    exact ⟨_, nHm, rfl⟩⟩⟩, kBk⟩
  obtain ⟨mvB, kbB⟩ := FBk.kbinds0 (ps := ["self", "members", "pages", "starts", "home"]) 4 ["home"] [] (fun us _ ws => us ++ ws) (by simp) (fun q hq => nomatch hq) (fun a _ b => a.append b) fun D doc pm an cdv ct us mv ws h1 h2 h3 => match us, h1, mv, h2, ws, h3 with | [_, _, _, _], _, [], _, [_], _ => rfl
  obtain ⟨dsB, vB, bB⟩ := FBk.binds0 (ps := ["self", "members", "pages", "starts", "home"]) 4 (by simp) rfl fun D doc pm an cdv ct us ks h1 h2 => match us, h1, ks, h2 with | [_, _, _, _], _, [_], _ => ⟨_, _, _, _, _, _, rfl, rfl, rfl⟩
  have hEH : ∀ H : Hp, SqT K H EH [] := fun H => .inr ⟨_, List.toArray [], nEH, lEH, rfl, rfl, by decide, .nil⟩
  have MkP : Mk K CP fPg := ⟨mkP, aPg, iPg, kcP⟩
  have MkB : Mk K CB fBk := ⟨mkB, aBk, iBk, kcB⟩

  have m_super := PySem.W.mg_none_of X G z_super
  have KeC : ClsK K CeC := ⟨iseC, tyeC⟩
  have TeC : SupT l.prog w K mg base "BadCount" "size" "size" (fun _ => True) CeC feC _ := ⟨PySem.W.mg_of X G aeC, oexC_mk lceC rfeC saeC bxeC tyeC kceC, ibeC, tfeCx, fn_sup (k := 0) (okv := fun _ => True) leC cbeC hceC hveC hfeC hleC (nscope_by (by decide +kernel)) (by decide +kernel) rfl rfl htopS m_super (oexC_mk lceC rfeC saeC bxeC tyeC kceC) hmeC hstS aleC veeC noeC
    (fun A outer s H E => pa_cons pe_str pa_nil) (fun _ => rfl) (fun a y H Q _ h => h _) (by decide) (by decide) (fun _ => rfl), Binds.all (fun us hl => match us, hl with | [_, _], _ => rfl), ⟨gaeC, ggeC, bxeC, hdeC⟩, noeC, exm_self KeC bxeC sueC⟩
  have EeC : ExcC K CeC := ⟨gaeC, ggeC, bxeC, hdeC, cceCx, hgt, htk, moeC⟩
  have KeN : ClsK K CeN := ⟨iseN, tyeN⟩
  have TeN : SupT l.prog w K mg base "BadName" "name" "name" (okN36) CeN feN _ := ⟨PySem.W.mg_of X G aeN, oexC_mk lceN rfeN saeN bxeN tyeN kceN, ibeN, tfeNx, fn_sup (k := 0) (okv := okN36) leN cbeN hceN hveN hfeN hleN (nscope_by (by decide +kernel)) (by decide +kernel) rfl rfl htopS m_super (oexC_mk lceN rfeN saeN bxeN tyeN kceN) hmeN hstS aleN veeN noeN
    (fun A outer s H E => pa_cons (pe_joined (PJ.cons (pe_fmtR (pv 1)) (PJ.cons pe_str PJ.nil))) pa_nil) (fun _ => rfl) (fun a y H Q ok h => nam_te1 ok h) (by decide) (by decide) (fun _ => rfl), Binds.all (fun us hl => match us, hl with | [_, _], _ => rfl), ⟨gaeN, ggeN, bxeN, hdeN⟩, noeN, exm_self KeN bxeN sueN⟩
  have EeN : ExcC K CeN := ⟨gaeN, ggeN, bxeN, hdeN, cceNx, hgt, htk, moeN⟩
  have KeD : ClsK K CeD := ⟨iseD, tyeD⟩
  have TeD : SupT l.prog w K mg base "DoubledName" "name" "name" (okN36) CeD feD _ := ⟨PySem.W.mg_of X G aeD, oexC_mk lceD rfeD saeD bxeD tyeD kceD, ibeD, tfeDx, fn_sup (k := 0) (okv := okN36) leD cbeD hceD hveD hfeD hleD (nscope_by (by decide +kernel)) (by decide +kernel) rfl rfl htopS m_super (oexC_mk lceD rfeD saeD bxeD tyeD kceD) hmeD hstS aleD veeD noeD
    (fun A outer s H E => pa_cons (pe_joined (PJ.cons (pe_fmtR (pv 1)) (PJ.cons pe_str PJ.nil))) pa_nil) (fun _ => rfl) (fun a y H Q ok h => nam_te2 ok h) (by decide) (by decide) (fun _ => rfl), Binds.all (fun us hl => match us, hl with | [_, _], _ => rfl), ⟨gaeD, ggeD, bxeD, hdeD⟩, noeD, exm_self KeD bxeD sueD⟩
  have EeD : ExcC K CeD := ⟨gaeD, ggeD, bxeD, hdeD, cceDx, hgt, htk, moeD⟩
  have KeB : ClsK K CeB := ⟨iseB, tyeB⟩
  have TeB : SupT2 l.prog w K mg base "BadBook" "part" "part" "place" "place" (okB36) CeB feB _ := ⟨PySem.W.mg_of X G aeB, oexC_mk lceB rfeB saeB bxeB tyeB kceB, ibeB, tfeBx, fn_sup2 (k := 0) (okv := okB36) leB cbeB hceB hveB hfeB hleB (nscope_by (by decide +kernel)) (by decide +kernel) rfl rfl htopS m_super (oexC_mk lceB rfeB saeB bxeB tyeB kceB) hmeB hstS aleB veeB noeB no2eB (by decide)
    (fun A outer s H E => pa_cons (pe_joined (PJ.cons pe_str (PJ.cons (pe_fmt (pv 1)) PJ.nil))) pa_nil) (fun _ => rfl) (fun a y z0 H Q ok h => book_te ok h) (by decide) (by decide) (by decide) (by decide) (fun _ => rfl), Binds.all (fun us hl => match us, hl with | [_, _, _], _ => rfl), ⟨gaeB, ggeB, bxeB, hdeB⟩, noeB, no2eB, exm_self KeB bxeB sueB⟩
  have EeB : ExcC K CeB := ⟨gaeB, ggeB, bxeB, hdeB, cceBx, hgt, htk, moeB⟩
  have KNN : ClsK K CNN := ⟨isNN, tyNN⟩
  have KNU : ClsK K CNU := ⟨isNU, tyNU⟩
  have KNP : ClsK K CNP := ⟨isNP, tyNP⟩
  have KNH : ClsK K CNH := ⟨isNH, tyNH⟩
  have EB : ErrB K mg (⟨CeC, CeN, CeD, CeB⟩ : Ec) CNN CNU CNP CNH := ⟨PySem.W.mg_of X G aNN, PySem.W.mg_of X G aNU, PySem.W.mg_of X G aNP, PySem.W.mg_of X G aNH, exm_no KeB bxeB sbeC_eB, exm_no KeB bxeB sbeN_eB, exm_no KeC bxeC sbeN_eC, exm_no KeB bxeB sbeD_eB, exm_no KeC bxeC sbeD_eC, exm_no KeN bxeN sbeD_eN, (kitAny_c (kit_no KeC sueB sbeB_eC) (kitAny_c (kit_no KeN sueB sbeB_eN) (kitAny_c (kit_no KNN sueB sbeB_NN) (kitAny_c (kit_no KeD sueB sbeB_eD) (kitAny_c (kit_no KNU sueB sbeB_NU) (kitAny_c (kit_no KNP sueB sbeB_NP) rfl)))))), (kitAny_c (kit_no KeN sueC sbeC_eN) (kitAny_c (kit_no KNN sueC sbeC_NN) (kitAny_c (kit_no KeD sueC sbeC_eD) (kitAny_c (kit_no KNU sueC sbeC_NU) (kitAny_c (kit_no KNP sueC sbeC_NP) rfl))))), (kitAny_c (kit_no KNN sueN sbeN_NN) (kitAny_c (kit_no KeD sueN sbeN_eD) (kitAny_c (kit_no KNU sueN sbeN_NU) (kitAny_c (kit_no KNP sueN sbeN_NP) rfl)))), (kitAny_c (kit_no KNN sueD sbeD_NN) (kitAny_c (kit_no KNU sueD sbeD_NU) (kitAny_c (kit_no KNP sueD sbeD_NP) rfl))), kit_yes KNH sbeB_NH, kit_yes KNH sbeC_NH, kit_yes KNH sbeN_NH, kit_yes KNH sbeD_NH, kitT_yes kitMeta_VE veeB, kitT_yes kitMeta_VE veeC, kitT_yes kitMeta_VE veeN, kitT_yes kitMeta_VE veeD, EeB, EeC, EeN, EeD⟩
  have TB : TxtBk K CB := ⟨⟨pgB, hdB, poB, saB⟩, nA0B, nA1B, nA2B, nA3B, nA4B, nA5B⟩
  have TP_ : TxtPg K CP := ⟨⟨pgP, hdP, poP, saP⟩, nA0P, nA1P, nA2P, nA3P, nA4P⟩

  have d_is_name : Def l.prog w K mg base "is_name" 1 ["word"] (spIsNameH) := ⟨_, _, ok_is_nameH F1 m_len m_all gLET, g1, k1, b1⟩
  have d_is_nameB : Def l.prog w K mg base "is_name" 1 ["word"] (spIsNameB) := ⟨_, _, ok_is_nameB F1 m_len m_all gLET, g1, k1, b1⟩
  have d_check_size : Def l.prog w K mg base "check_size" 1 ["size", "low", "high"] (spRange) := ⟨_, _, ok_check_size F2 , g2, k2, b2⟩
  have G_size := ok_check_sizeX (e := (⟨CeC, CeN, CeD, CeB⟩ : Ec)) (P := l.prog) (w := w) (mg := mg) (base := base) F2 TeC
  obtain ⟨dsN2, vdN2, bdN2⟩ := F3.binds1 (ps := ["names", "most", "hook"]) 2 0 (by simp) rfl fun _ _ _ _ _ _ _ us its h1 h2 => match us, h1, its, h2 with | [_, _], _, [_], _ => ⟨_, rfl, rfl⟩
  have d_check_names : DefD l.prog w K mg base "check_names" 2 ["names", "most", "hook"] (spCheckN K) [.bl false] := ⟨_, _, dsN2, ok_check_namesN F3 m_len m_enumerate d_check_size d_is_name, g3, k3, bdN2, vdN2⟩
  have G_names := ok_check_namesX (e := (⟨CeC, CeN, CeD, CeB⟩ : Ec)) (P := l.prog) (w := w) (mg := mg) (base := base) F3 m_len m_enumerate TeN TeD G_size g2 k2 b2 d_is_nameB
  have d_are_picks : Def l.prog w K mg base "_are_picks" 1 ["picks", "known"] (spArePicks K) := ⟨_, _, ok_are_picks F4 m_all m_len m_set, g4, k4, b4⟩
  have d_are_picksT : Def l.prog w K mg base "_are_picks" 1 ["picks", "known"] (spArePicksT K) := ⟨_, _, ok_are_picksT F4 m_all m_len m_set, g4, k4, b4⟩
  have d_are_picksB : Def l.prog w K mg base "_are_picks" 1 ["picks", "known"] (spArePicksB K) := ⟨_, _, ok_are_picksB F4 m_all m_len m_set, g4, k4, b4⟩
  have d_are_picksBT : Def l.prog w K mg base "_are_picks" 1 ["picks", "known"] (spArePicksBT K) := ⟨_, _, ok_are_picksBT F4 m_all m_len m_set, g4, k4, b4⟩
  have d_are_picksM : Def l.prog w K mg base "_are_picks" 1 ["picks", "known"] (fun vs H Q E => spArePicks K vs H Q E ∨ spArePicksT K vs H Q E) := ⟨_, _, fn_or (ok_are_picks F4 m_all m_len m_set) (ok_are_picksT F4 m_all m_len m_set), g4, k4, b4⟩
  have d_are_bids : Def l.prog w K mg base "_are_bids" 2 ["bids", "members"] (spAreBids K) := ⟨_, _, ok_are_bids F5 m_all d_are_picks, g5, k5, b5⟩
  have d_are_bidsT : Def l.prog w K mg base "_are_bids" 2 ["bids", "members"] (spAreBidsT K) := ⟨_, _, ok_are_bidsT F5 m_all d_are_picks, g5, k5, b5⟩
  have d_are_bidsB : Def l.prog w K mg base "_are_bids" 2 ["bids", "members"] (spAreBidsB K) := ⟨_, _, ok_are_bidsB F5 m_all d_are_picksB, g5, k5, b5⟩
  have d_are_bidsBT : Def l.prog w K mg base "_are_bids" 2 ["bids", "members"] (spAreBidsBT K) := ⟨_, _, ok_are_bidsBT F5 m_all d_are_picksB, g5, k5, b5⟩
  have d_check_pages : Def l.prog w K mg base "_check_pages" 3 ["members", "pages"] (spCheckPg K) := ⟨_, _, ok_check_pages F6 m_len m_enumerate d_is_name d_are_picks d_are_bids, g6, k6, b6⟩
  have d_check_pagesT : Def l.prog w K mg base "_check_pages" 3 ["members", "pages"] (spCheckPgT K) := ⟨_, _, ok_check_pagesT F6 m_len m_enumerate d_is_name d_are_picksT d_are_bidsT, g6, k6, b6⟩
  have G_pages := ok_check_pagesX (e := (⟨CeC, CeN, CeD, CeB⟩ : Ec)) (P := l.prog) (w := w) (mg := mg) (base := base) F6 m_len m_enumerate TeB d_is_nameB d_are_picksB d_are_bidsB
  have G_pagesT := ok_check_pagesXT (e := (⟨CeC, CeN, CeD, CeB⟩ : Ec)) (P := l.prog) (w := w) (mg := mg) (base := base) F6 m_len m_enumerate TeB d_is_nameB d_are_picksBT d_are_bidsBT
  have d_check_ends : Def l.prog w K mg base "_check_ends" 2 ["names", "starts", "home"] (spEnds K) := ⟨_, _, ok_check_ends F7 m_len d_are_picks, g7, k7, b7⟩
  have d_check_endsT : Def l.prog w K mg base "_check_ends" 2 ["names", "starts", "home"] (spEndsT K) := ⟨_, _, ok_check_endsT F7 m_len d_are_picksT, g7, k7, b7⟩
  have d_check_endsM : Def l.prog w K mg base "_check_ends" 2 ["names", "starts", "home"] (spEndsM K) := ⟨_, _, ok_check_endsM F7 m_len d_are_picksM, g7, k7, b7⟩
  have G_ends := ok_check_endsX (e := (⟨CeC, CeN, CeD, CeB⟩ : Ec)) (P := l.prog) (w := w) (mg := mg) (base := base) F7 m_len TeB d_are_picksB
  have G_endsT := ok_check_endsXT (e := (⟨CeC, CeN, CeD, CeB⟩ : Ec)) (P := l.prog) (w := w) (mg := mg) (base := base) F7 m_len TeB d_are_picksBT
  have d_sorted_bids : Def l.prog w K mg base "_sorted_bids" 1 ["members", "bids"] (spSortB K) := ⟨_, _, ok_sorted_bids F8 m_tuple, g8, k8, b8⟩
  have d_sorted_bidsT : Def l.prog w K mg base "_sorted_bids" 1 ["members", "bids"] (spSortBT K) := ⟨_, _, ok_sorted_bidsT F8 m_tuple, g8, k8, b8⟩
  have G_Page := ok_Page (P := l.prog) (w := w) (mg := mg) (base := base) FPg TP_ m_tuple
  have G_BookL := ok_Book (P := l.prog) (w := w) (mg := mg) (base := base) FBk TB m_tuple d_check_names d_check_pages d_check_ends d_sorted_bids MkP G_Page (PySem.W.mg_of X G aPag) bPg
  have G_BookT := ok_BookT (P := l.prog) (w := w) (mg := mg) (base := base) FBk TB m_tuple d_check_names d_check_pagesT d_check_endsT d_sorted_bidsT MkP G_Page (PySem.W.mg_of X G aPag) bPg
  have G_BookM := ok_BookM (P := l.prog) (w := w) (mg := mg) (base := base) FBk TB m_tuple d_check_names d_check_pages d_check_endsM d_sorted_bids MkP G_Page (PySem.W.mg_of X G aPag) bPg
  have G_Bad := ok_Bad (dvN := []) (e := (⟨CeC, CeN, CeD, CeB⟩ : Ec)) (P := l.prog) (w := w) (mg := mg) (base := base) FBk TB m_tuple G_names g3 k3 bdN2 vdN2 G_pages g6 k6 b6 G_ends g7 k7 b7 d_sorted_bids MkP G_Page (PySem.W.mg_of X G aPag) bPg
  have G_BadT := ok_BadT (dvN := []) (e := (⟨CeC, CeN, CeD, CeB⟩ : Ec)) (P := l.prog) (w := w) (mg := mg) (base := base) FBk TB m_tuple G_names g3 k3 bdN2 vdN2 G_pagesT g6 k6 b6 G_endsT g7 k7 b7 d_sorted_bidsT MkP G_Page (PySem.W.mg_of X G aPag) bPg
  have G_Book36 : FnOk l.prog w K mg base (L2.CX l.prog w) 5 fBk _ ["self", "members", "pages", "starts", "home"] (spBook36 K CB CP (⟨CeC, CeN, CeD, CeB⟩ : Ec)) := fn_or (fn_or (fn_lift (G_BookL.mono (by decide))) (fn_lift (G_BookT.mono (by decide)))) (fn_or G_Bad G_BadT)
  have d_L_cell : Def l.prog w K mg base "_law_cell" 1 ["_law_script", "_law_k"] (spCellA K) := ⟨_, _, ok_L_cell F9 m_len m_range m_abs, g9, k9, b9⟩
  have d_L_mixed : Def l.prog w K mg base "_law_mixed" 1 ["_law_cell_here", "_law_k"] (spMixed) := ⟨_, _, ok_L_mixed F10 m_abs, g10, k10, b10⟩
  have d_L_pool : Def l.prog w K mg base "_law_pool" 2 ["_law_cell_here", "_law_number"] (spPool) := ⟨_, _, ok_L_pool F11 m_range m_abs d_L_mixed, g11, k11, b11⟩
  have d_L_part : Def l.prog w K mg base "_law_part" 1 ["_law_pool_here", "_law_spot", "_law_under", "_law_size"] (spPart K) := ⟨_, _, ok_L_part F12 m_int, g12, k12, b12⟩
  have d_L_names : Def l.prog w K mg base "_law_names" 2 ["_law_pool_here", "_law_spot", "_law_number"] (spNames K) := ⟨_, _, ok_L_names F13 m_range m_int d_L_part, g13, k13, b13⟩
  have d_L_strange : Def l.prog w K mg base "_law_strange" 1 ["_law_names_here"] (spStrange K) := ⟨_, _, ok_L_strange F14 , g14, k14, b14⟩
  have d_L_big : Def l.prog w K mg base "_law_big" 1 ["_law_pool_here", "_law_spot", "_law_least", "_law_crest"] (spBig K) := ⟨_, _, ok_L_big F15 m_int, g15, k15, b15⟩
  have d_L_some : Def l.prog w K mg base "_law_some" 2 ["_law_pool_here", "_law_spot", "_law_names_here"] (spSome K) := ⟨_, _, ok_L_some F16 m_len m_range d_L_part, g16, k16, b16⟩
  have d_L_pages : Def l.prog w K mg base "_law_pages" 3 ["_law_pool_here", "_law_spot", "_law_members", "_law_names_here"] (spPagesL K) := ⟨_, _, ok_L_pages F17 m_len m_range d_L_part d_L_some, g17, k17, b17⟩
  have d_L_integer : Def l.prog w K mg base "_law_integer" 1 ["_law_got"] (spInteger) := ⟨_, _, ok_L_integer F18 m_isinstance m_int m_bool, g18, k18, b18⟩
  have d_L_same5 : Def l.prog w K mg base "_law_same" 7 ["_law_got", "_law_wanted"] (spSame 5) := ⟨_, _, ok_L_same F19 g19 b19 ⟨m_isinstance, m_int, m_bool, m_str, m_tuple, m_list, m_len, m_range⟩ d_L_integer 5 (by decide), g19, k19, b19⟩
  have d_L_shuffled : Def l.prog w K mg base "_law_shuffled" 2 ["_law_pool_here", "_law_spot", "_law_row"] (fun vs H Q E => spShufG V.ref K vs H Q E ∨ spShufG vN K vs H Q E) := ⟨_, _, fn_or (ok_L_shuffledG V.ref F20 m_len m_range m_list d_L_part) (ok_L_shuffledG vN F20 m_len m_range m_list d_L_part), g20, k20, b20⟩
  have d_L_good : Def l.prog w K mg base "_law_good" 4 ["_law_head"] (spGood K) := ⟨_, _, ok_L_good F21 m_len m_list d_L_part d_L_names d_L_pages d_L_shuffled, g21, k21, b21⟩
  have d_L_bad_word : Def l.prog w K mg base "_law_bad_word" 2 ["_law_pool_here", "_law_spot", "_law_word"] (spBadW K) := ⟨_, _, ok_L_bad_word F22 m_len d_L_part, g22, k22, b22⟩
  have d_L_stranger : Def l.prog w K mg base "_law_stranger" 3 ["_law_pool_here", "_law_spot", "_law_names_here"] (spStrgr K) := ⟨_, _, ok_L_stranger F23 m_len d_L_part d_L_bad_word d_L_strange, g23, k23, b23⟩
  have d_L_wrong_members : Def l.prog w K mg base "_law_wrong_members" 3 ["_law_pool_here", "_law_members"] (spWrongM K) := ⟨_, _, ok_L_wrong_members F24 m_len m_list m_range d_L_part d_L_bad_word d_L_strange, g24, k24, b24⟩
  have d_L_wrong_count : Def l.prog w K mg base "_law_wrong_count" 2 ["_law_pool_here", "_law_rows"] (spWrongC K) := ⟨_, _, ok_L_wrong_count F25 m_len m_list m_range d_L_part d_L_strange, g25, k25, b25⟩
  have d_L_wrong_bids : Def l.prog w K mg base "_law_wrong_bids" 4 ["_law_pool_here", "_law_spot", "_law_members", "_law_bids"] (spWrongB K) := ⟨_, _, ok_L_wrong_bids F26 m_len d_L_part d_L_stranger d_L_big, g26, k26, b26⟩
  have d_L_wrong_page : Def l.prog w K mg base "_law_wrong_page" 5 ["_law_pool_here", "_law_members", "_law_rows"] (spWrongP K) := ⟨_, _, ok_L_wrong_page F27 m_len m_list m_min d_L_part d_L_bad_word d_L_wrong_bids, g27, k27, b27⟩
  have d_L_wrong_names : Def l.prog w K mg base "_law_wrong_names" 4 ["_law_pool_here", "_law_spot", "_law_known", "_law_row"] (spWrongN K) := ⟨_, _, ok_L_wrong_names F28 m_len d_L_part d_L_stranger, g28, k28, b28⟩
  have d_L_wrong_followers : Def l.prog w K mg base "_law_wrong_followers" 5 ["_law_pool_here", "_law_titles", "_law_rows"] (spWrongF K) := ⟨_, _, ok_L_wrong_followers F29 m_len m_list m_min d_L_part d_L_wrong_names, g29, k29, b29⟩
  have d_L_stage : Def l.prog w K mg base "_law_stage" 2 ["_law_pool_here"] (spStage K) := ⟨_, _, ok_L_stage F30 d_L_part, g30, k30, b30⟩
  have d_L_spoilt : Def l.prog w K mg base "_law_spoilt" 6 ["_law_pool_here", "_law_stage_here", "_law_book"] (spSpoilt K) := ⟨_, _, ok_L_spoilt F31 d_L_part d_L_wrong_members d_L_wrong_count d_L_wrong_page d_L_wrong_followers d_L_wrong_names, g31, k31, b31⟩
  have d_L_handed : Def l.prog w K mg base "_law_handed" 1 ["_law_book", "_law_loose"] (spHandL K) := ⟨_, _, ok_L_handed F32 m_list m_tuple, g32, k32, b32⟩
  have d_L_told : Def l.prog w K mg base "_law_told" 7 ["_law_given"] (spToldB) := ⟨_, _, ok_L_told (e := (⟨CeC, CeN, CeD, CeB⟩ : Ec)) F33 TeC TeN TeD TeB EB m_isinstance m_ValueError MkB G_Book36 (PySem.W.mg_of X G aBo) kbB, g33, k33, b33⟩
  have d_L_bare : Def l.prog w K mg base "_law_bare" 6 ["_law_book"] (spBare) := ⟨_, _, ok_L_bare F34 m_tuple MkB G_BookM (PySem.W.mg_of X G aBo) bB vB hEH, g34, k34, b34⟩
  have d_L_refuses : Def l.prog w K mg base "_law_refuses" 8 ["_law_one", "_law_two", "_law_good_here"] (spRefuses K) := ⟨_, _, ok_L_refuses F35 d_L_part d_L_stage d_L_spoilt d_L_handed d_L_told d_L_same5, g35, k35, b35⟩
  exact ok_law F36 m_range d_L_cell d_L_pool d_L_good d_L_handed d_L_refuses d_L_bare
end TK

open PySem PySem.W PyProof.Rows
set_option maxRecDepth 100000 in
set_option maxHeartbeats 0 in
theorem PySem.Challenge.cw_turnsandkeys_k36_book_refusals_holds : PySem.Challenge.rw_turnsandkeys_k36_book_refusals.Holds := by
  w_on; o_law; k_head; (case hw => w_witness2)
  k_fill
  refine L2.walk_of (l := PySem.Challenge.rw_turnsandkeys_k36_book_refusals) (n := 63) (k := 9) (x := "_law_script") (CX := fun _ => L2.CX0) (sp := fun w => TK.spLaw _) rfl (by decide) rfl ⟨rfl, by decide, by decide⟩ (fun w h Y => PySem.W.kIn_of Y) ?F (fun _ _ a ns hl _ hS => ⟨a, ns, rfl, hS, hl, fun _ => rfl⟩) (fun _ _ _ _ _ h => h)
  case F =>
    intro w mg fa h KX G hmg
    refine' TK.all_mk KX G hmg ?a0 ?l0 ?c0 ?k0 ?a1 ?l1 ?c1 ?k1 ?a2 ?l2 ?c2 ?k2 ?a3 ?l3 ?c3 ?k3 ?a4 ?l4 ?c4 ?k4 ?a5 ?l5 ?c5 ?k5 ?a6 ?l6 ?c6 ?k6 ?a7 ?l7 ?c7 ?k7 ?a8 ?l8 ?c8 ?k8 ?a9 ?l9 ?c9 ?k9 ?a10 ?l10 ?c10 ?k10 ?a11 ?l11 ?c11 ?k11 ?a12 ?l12 ?c12 ?k12 ?a13 ?l13 ?c13 ?k13 ?a14 ?l14 ?c14 ?k14 ?a15 ?l15 ?c15 ?k15 ?a16 ?l16 ?c16 ?k16 ?a17 ?l17 ?c17 ?k17 ?a18 ?l18 ?c18 ?k18 ?a19 ?l19 ?c19 ?k19 ?a20 ?l20 ?c20 ?k20 ?a21 ?l21 ?c21 ?k21 ?a22 ?l22 ?c22 ?k22 ?a23 ?l23 ?c23 ?k23 ?a24 ?l24 ?c24 ?k24 ?a25 ?l25 ?c25 ?k25 ?a26 ?l26 ?c26 ?k26 ?a27 ?l27 ?c27 ?k27 ?a28 ?l28 ?c28 ?k28 ?a29 ?l29 ?c29 ?k29 ?a30 ?l30 ?c30 ?k30 ?a31 ?l31 ?c31 ?k31 ?a32 ?l32 ?c32 ?k32 ?a33 ?l33 ?c33 ?k33 ?a34 ?l34 ?c34 ?k34 ?a35 ?l35 ?c35 ?k35 ?a36 ?l36 ?c36 ?k36 ?aL ?z_len ?z_all ?z_enumerate ?z_tuple ?z_list ?z_range ?z_abs ?z_int ?z_isinstance ?z_bool ?z_str ?z_set ?z_min ?z_ValueError ?aBo ?aPag ?aPg ?iPg ?lPg ?cPg ?kPg ?aBk ?iBk ?lBk ?cBk ?kBk ?pgB ?hdB ?poB ?saB ?mkB ?kcB ?nA0B ?nA1B ?nA2B ?nA3B ?nA4B ?nA5B ?pgP ?hdP ?poP ?saP ?mkP ?kcP ?nA0P ?nA1P ?nA2P ?nA3P ?nA4P ?nHm ?lEH ?lDN ?hgt ?htk ?htopS ?z_super ?hstS ?aeC ?ibeC ?leC ?cbeC ?hceC ?hveC ?hfeC ?hleC ?lceC ?rfeC ?saeC ?bxeC ?tyeC ?kceC ?hmeC ?aleC ?veeC ?noeC ?tfeCx ?gaeC ?ggeC ?hdeC ?cceCx ?moeC ?iseC ?sueC ?aeN ?ibeN ?leN ?cbeN ?hceN ?hveN ?hfeN ?hleN ?lceN ?rfeN ?saeN ?bxeN ?tyeN ?kceN ?hmeN ?aleN ?veeN ?noeN ?tfeNx ?gaeN ?ggeN ?hdeN ?cceNx ?moeN ?iseN ?sueN ?aeD ?ibeD ?leD ?cbeD ?hceD ?hveD ?hfeD ?hleD ?lceD ?rfeD ?saeD ?bxeD ?tyeD ?kceD ?hmeD ?aleD ?veeD ?noeD ?tfeDx ?gaeD ?ggeD ?hdeD ?cceDx ?moeD ?iseD ?sueD ?aeB ?ibeB ?leB ?cbeB ?hceB ?hveB ?hfeB ?hleB ?lceB ?rfeB ?saeB ?bxeB ?tyeB ?kceB ?hmeB ?aleB ?veeB ?noeB ?tfeBx ?gaeB ?ggeB ?hdeB ?cceBx ?moeB ?iseB ?sueB ?no2eB ?aNN ?isNN ?tyNN ?aNU ?isNU ?tyNU ?aNP ?isNP ?tyNP ?aNH ?isNH ?tyNH ?sbeB_eC ?sbeB_eN ?sbeB_NN ?sbeB_eD ?sbeB_NU ?sbeB_NP ?sbeB_NH ?sbeC_eN ?sbeC_NN ?sbeC_eD ?sbeC_NU ?sbeC_NP ?sbeC_NH ?sbeN_NN ?sbeN_eD ?sbeN_NU ?sbeN_NP ?sbeN_NH ?sbeD_NN ?sbeD_NU ?sbeD_NP ?sbeD_NH ?sbeC_eB ?sbeN_eB ?sbeN_eC ?sbeD_eB ?sbeD_eC ?sbeD_eN
    (case a0 => k_is); (case l0 => k_is); (case c0 => k_is); (case k0 => k_is); (case a1 => k_is); (case l1 => k_is); (case c1 => k_is); (case k1 => k_is); (case a2 => k_is); (case l2 => k_is); (case c2 => k_is); (case k2 => k_is); (case a3 => k_is); (case l3 => k_is); (case c3 => k_is); (case k3 => k_is); (case a4 => k_is); (case l4 => k_is); (case c4 => k_is); (case k4 => k_is); (case a5 => k_is); (case l5 => k_is); (case c5 => k_is); (case k5 => k_is); (case a6 => k_is); (case l6 => k_is); (case c6 => k_is); (case k6 => k_is); (case a7 => k_is); (case l7 => k_is); (case c7 => k_is); (case k7 => k_is); (case a8 => k_is); (case l8 => k_is); (case c8 => k_is); (case k8 => k_is); (case a9 => k_is); (case l9 => k_is); (case c9 => k_is); (case k9 => k_is); (case a10 => k_is); (case l10 => k_is); (case c10 => k_is); (case k10 => k_is); (case a11 => k_is); (case l11 => k_is); (case c11 => k_is); (case k11 => k_is); (case a12 => k_is); (case l12 => k_is); (case c12 => k_is); (case k12 => k_is); (case a13 => k_is); (case l13 => k_is); (case c13 => k_is); (case k13 => k_is); (case a14 => k_is); (case l14 => k_is); (case c14 => k_is); (case k14 => k_is); (case a15 => k_is); (case l15 => k_is); (case c15 => k_is); (case k15 => k_is); (case a16 => k_is); (case l16 => k_is); (case c16 => k_is); (case k16 => k_is); (case a17 => k_is); (case l17 => k_is); (case c17 => k_is); (case k17 => k_is); (case a18 => k_is); (case l18 => k_is); (case c18 => k_is); (case k18 => k_is); (case a19 => k_is); (case l19 => k_is); (case c19 => k_is); (case k19 => k_is); (case a20 => k_is); (case l20 => k_is); (case c20 => k_is); (case k20 => k_is); (case a21 => k_is); (case l21 => k_is); (case c21 => k_is); (case k21 => k_is); (case a22 => k_is); (case l22 => k_is); (case c22 => k_is); (case k22 => k_is); (case a23 => k_is); (case l23 => k_is); (case c23 => k_is); (case k23 => k_is); (case a24 => k_is); (case l24 => k_is); (case c24 => k_is); (case k24 => k_is); (case a25 => k_is); (case l25 => k_is); (case c25 => k_is); (case k25 => k_is); (case a26 => k_is); (case l26 => k_is); (case c26 => k_is); (case k26 => k_is); (case a27 => k_is); (case l27 => k_is); (case c27 => k_is); (case k27 => k_is); (case a28 => k_is); (case l28 => k_is); (case c28 => k_is); (case k28 => k_is); (case a29 => k_is); (case l29 => k_is); (case c29 => k_is); (case k29 => k_is); (case a30 => k_is); (case l30 => k_is); (case c30 => k_is); (case k30 => k_is); (case a31 => k_is); (case l31 => k_is); (case c31 => k_is); (case k31 => k_is); (case a32 => k_is); (case l32 => k_is); (case c32 => k_is); (case k32 => k_is); (case a33 => k_is); (case l33 => k_is); (case c33 => k_is); (case k33 => k_is); (case a34 => k_is); (case l34 => k_is); (case c34 => k_is); (case k34 => k_is); (case a35 => k_is); (case l35 => k_is); (case c35 => k_is); (case k35 => k_is); (case a36 => k_is); (case l36 => k_is); (case c36 => k_is); (case k36 => k_is); (case aL => k_is); (case z_len => k_is); (case z_all => k_is); (case z_enumerate => k_is); (case z_tuple => k_is); (case z_list => k_is); (case z_range => k_is); (case z_abs => k_is); (case z_int => k_is); (case z_isinstance => k_is); (case z_bool => k_is); (case z_str => k_is); (case z_set => k_is); (case z_min => k_is); (case z_ValueError => k_is); (case aBo => k_is); (case aPag => k_is); (case aPg => k_is); (case iPg => k_is); (case lPg => k_is); (case cPg => k_is); (case kPg => k_is); (case aBk => k_is); (case iBk => k_is); (case lBk => k_is); (case cBk => k_is); (case kBk => k_is); (case pgB => k_is); (case hdB => k_is); (case poB => k_is); (case saB => k_is); (case mkB => k_is); (case kcB => k_is); (case nA0B => k_is); (case nA1B => k_is); (case nA2B => k_is); (case nA3B => k_is); (case nA4B => k_is); (case nA5B => k_is); (case pgP => k_is); (case hdP => k_is); (case poP => k_is); (case saP => k_is); (case mkP => k_is); (case kcP => k_is); (case nA0P => k_is); (case nA1P => k_is); (case nA2P => k_is); (case nA3P => k_is); (case nA4P => k_is); (case nHm => k_is); (case lEH => k_is); (case lDN => k_is); (case hgt => k_is); (case htk => k_is); (case htopS => first | rfl | decide +kernel); (case z_super => k_is); (case hstS => k_is); (case aeC => k_is); (case ibeC => k_is); (case leC => k_is); (case cbeC => k_is); (case hceC => k_is); (case hveC => first | rfl | k_is); (case hfeC => first | rfl | decide +kernel); (case hleC => k_is); (case lceC => k_is); (case rfeC => first | rfl | decide +kernel); (case saeC => k_is); (case bxeC => k_is); (case tyeC => k_is); (case kceC => k_is); (case hmeC => k_is); (case aleC => first | k_is | rfl | kernel_rfl); (case veeC => k_is); (case noeC => k_is); (case tfeCx => k_is); (case gaeC => k_is); (case ggeC => k_is); (case hdeC => k_is); (case cceCx => k_is); (case moeC => k_is); (case iseC => k_is); (case sueC => k_is); (case aeN => k_is); (case ibeN => k_is); (case leN => k_is); (case cbeN => k_is); (case hceN => k_is); (case hveN => first | rfl | k_is); (case hfeN => first | rfl | decide +kernel); (case hleN => k_is); (case lceN => k_is); (case rfeN => first | rfl | decide +kernel); (case saeN => k_is); (case bxeN => k_is); (case tyeN => k_is); (case kceN => k_is); (case hmeN => k_is); (case aleN => first | k_is | rfl | kernel_rfl); (case veeN => k_is); (case noeN => k_is); (case tfeNx => k_is); (case gaeN => k_is); (case ggeN => k_is); (case hdeN => k_is); (case cceNx => k_is); (case moeN => k_is); (case iseN => k_is); (case sueN => k_is); (case aeD => k_is); (case ibeD => k_is); (case leD => k_is); (case cbeD => k_is); (case hceD => k_is); (case hveD => first | rfl | k_is); (case hfeD => first | rfl | decide +kernel); (case hleD => k_is); (case lceD => k_is); (case rfeD => first | rfl | decide +kernel); (case saeD => k_is); (case bxeD => k_is); (case tyeD => k_is); (case kceD => k_is); (case hmeD => k_is); (case aleD => first | k_is | rfl | kernel_rfl); (case veeD => k_is); (case noeD => k_is); (case tfeDx => k_is); (case gaeD => k_is); (case ggeD => k_is); (case hdeD => k_is); (case cceDx => k_is); (case moeD => k_is); (case iseD => k_is); (case sueD => k_is); (case aeB => k_is); (case ibeB => k_is); (case leB => k_is); (case cbeB => k_is); (case hceB => k_is); (case hveB => first | rfl | k_is); (case hfeB => first | rfl | decide +kernel); (case hleB => k_is); (case lceB => k_is); (case rfeB => first | rfl | decide +kernel); (case saeB => k_is); (case bxeB => k_is); (case tyeB => k_is); (case kceB => k_is); (case hmeB => k_is); (case aleB => first | k_is | rfl | kernel_rfl); (case veeB => k_is); (case noeB => k_is); (case tfeBx => k_is); (case gaeB => k_is); (case ggeB => k_is); (case hdeB => k_is); (case cceBx => k_is); (case moeB => k_is); (case iseB => k_is); (case sueB => k_is); (case no2eB => k_is); (case aNN => k_is); (case isNN => k_is); (case tyNN => k_is); (case aNU => k_is); (case isNU => k_is); (case tyNU => k_is); (case aNP => k_is); (case isNP => k_is); (case tyNP => k_is); (case aNH => k_is); (case isNH => k_is); (case tyNH => k_is); (case sbeB_eC => k_is); (case sbeB_eN => k_is); (case sbeB_NN => k_is); (case sbeB_eD => k_is); (case sbeB_NU => k_is); (case sbeB_NP => k_is); (case sbeB_NH => k_is); (case sbeC_eN => k_is); (case sbeC_NN => k_is); (case sbeC_eD => k_is); (case sbeC_NU => k_is); (case sbeC_NP => k_is); (case sbeC_NH => k_is); (case sbeN_NN => k_is); (case sbeN_eD => k_is); (case sbeN_NU => k_is); (case sbeN_NP => k_is); (case sbeN_NH => k_is); (case sbeD_NN => k_is); (case sbeD_NU => k_is); (case sbeD_NP => k_is); (case sbeD_NH => k_is); (case sbeC_eB => k_is); (case sbeN_eB => k_is); (case sbeN_eC => k_is); (case sbeD_eB => k_is); (case sbeD_eC => k_is); (case sbeD_eN => k_is)
