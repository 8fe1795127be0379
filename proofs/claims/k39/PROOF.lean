import PyProof.Rows.All
import Wide.All
import OpenK.AllK
import Wide.FinOn
import HandS.ForMost
import HandS.Style
import HandS.IsInst
import HandS.Defaults
import HandS.MakeKwOnly
import HandS.SortKw
import HandS.Walk
import KE.KSortKeySt
import KE.GoesEnum
import KE.DatumOrd
import KE.KRevSl
import HandS.Star
import KE.KTupSum
import KE.GoesMore
import KE.GoesZip
import HandS.DictComp
import HandS.RevRange
import HandS.Strs
import HandS.OwnEq
import HandS.SlotsOwn
import HandS.IterVal
import KE.KOwnIter
import KE.KOpsOwn
import KE.KEqDict
import HandS.OwnIter
import HandS.ExcInit
import HandS.ExcSuper
import HandS.Nested
import KE.KSuper
import KE.KSuperObj
import KE.KExcSuper
import HandS.ClsMeth
import PyProof.WalksMore
import PyProof.FactsAll.subtypes_4
import HandS.ExcField
import HandS.ExcOwn
import HandS.ExcIs
import KE.KTryMore
import PyProof.GenRules
import HandS.GenCall
import HandS.GenYield
import HandS.GenList
import HandS.Zip
import HandS.Gcd
import HandS.Conv
import HandS.Wide
import HandS.WordsExc
import PySem.Challenge.RW_turnsandkeys_k39_walks_counted
set_option Elab.async false
set_option linter.all false
set_option maxRecDepth 100000
set_option maxHeartbeats 8000000
namespace TK
open PySem PySem.Spec PyProof.Rows L2
/-! ### a def that keeps its promise, as callers see it -/
structure Def (P : Program) (w : World) (K : PySem.W.Frag) (mg : Str → Option Value) (base : Heap) (x : Str) (k : Nat) (ps : List Str) (sp : Sp) : Prop where
  ex : ∃ (f : Addr) (fd : FuncData), FnOk P w K mg base CX0 k f fd ps sp ∧ mg x = some (.ref f) ∧ PySem.W.keepIn K (.ref f) = true ∧ Binds K fd ps []
section
variable {X : Cx} {x : Str} {k : Nat} {ps : List Str} {sp : Sp} {e : Expr} {es : List Expr} {t : TA} {p pos : Pos}
theorem pe_callD (D : Def X.prog X.w X.K X.mg X.base x k ps sp) (hr : Room k X.A) (hg : Gl X x) (ha : PA X (e :: es) t) (hdb : (x == ("__debug__" : Str)) = false := by decide)
    (he : starEach (e :: es) X.env = (false, eval e X.env) :: starEach es X.env := by rfl) (hpl : (backTo pos (starEach es X.env)).any (·.1) = false := by rfl) :
    PE X (.Call (.Name x p) (e :: es) [] pos) (tCall sp [] E0 t) := by
  obtain ⟨f, fd, F, g, kp, b⟩ := D.ex
  exact pe_call F hr hg g kp b .nil pass0 ha hdb he hpl
end
section
variable {X : Cx}
/-- x is True, x is False: x of any kind -/
def rIsT : R2 := fun x y H Q => ∃ b : Bool, y = .bl b ∧ Q (.bl (decide (x = .bl b))) H
theorem op_isT : OpR X (compareOp .Is) rIsT := by
  intro pins s σ H x y v u Q I rx ry h
  obtain ⟨b, rfl, q⟩ := h
  cases (show u = Value.bool b from ry)
  cases x with
  | bl a =>
    cases (show v = Value.bool a from rx)
    by_cases e : a = b
    · subst e
      exact wpAny_is_self rfl ⟨.bl true, H, I, rfl, by simpa using q⟩
    · exact wpAny_is_other rfl (fun z => e (Value.bool.inj z)) ⟨.bl false, H, I, rfl, by simpa [e] using q⟩
  | non => cases (show v = Value.none from rx); exact wpAny_is_other rfl (fun z => nomatch z) ⟨.bl false, H, I, rfl, by simpa using q⟩
  | int i => obtain ⟨t, rfl⟩ := (show ∃ t, v = Value.int i t from rx); exact wpAny_is_other rfl (fun z => nomatch z) ⟨.bl false, H, I, rfl, by simpa using q⟩
  | str i => obtain ⟨t, rfl⟩ := (show ∃ t, v = Value.str i t from rx); exact wpAny_is_other rfl (fun z => nomatch z) ⟨.bl false, H, I, rfl, by simpa using q⟩
  | byt i => obtain ⟨t, rfl⟩ := (show ∃ t, v = Value.bytes i t from rx); exact wpAny_is_other rfl (fun z => nomatch z) ⟨.bl false, H, I, rfl, by simpa using q⟩
  | flt i => obtain ⟨t, rfl⟩ := (show ∃ t, v = Value.float i t from rx); exact wpAny_is_other rfl (fun z => nomatch z) ⟨.bl false, H, I, rfl, by simpa using q⟩
  | ref a => cases (show v = Value.ref a from rx); exact wpAny_is_other rfl (fun z => nomatch z) ⟨.bl false, H, I, rfl, by simpa using q⟩
  | ty n => cases (show v = Value.type n from rx); exact wpAny_is_other rfl (fun z => nomatch z) ⟨.bl false, H, I, rfl, by simpa using q⟩
end
/-! ### rules within a comprehension: K by name -/
section
variable {X : Cx} {K : PySem.W.Frag}
theorem ix_listK (h : X.K = K) : IxR X (rIxL K) := h ▸ ix_list
theorem ix_tupK (h : X.K = K) : IxR X (rIxT K) := h ▸ ix_tup
theorem pg_tupK (h : X.K = K) {elts : List Expr} {kk : Nat} {pos : Pos} {n : Nat} {t : TGs} (hc : X.calm = true) (hp : PGs X elts t) (hn : (assignEach elts X.env).length = n := by rfl) (hst : (assignEach elts X.env).findIdx? (·.1) = none := by rfl) : PG X (.Tuple elts kk pos) (gTup K n t) := h ▸ pg_tup hc hp hn hst
theorem op_in_seqK (h : X.K = K) : OpR X (compareOp .In) (rIn K false) := h ▸ op_in_seq
theorem op_notIn_seqK (h : X.K = K) : OpR X (compareOp .NotIn) (rIn K true) := h ▸ op_notIn_seq
theorem call_len_seqK (h : X.K = K) : CallR X (.builtin "len") (fun xs H Q => ∃ p ys, xs = [.ref p] ∧ (SqL K H p ys ∨ SqT K H p ys) ∧ Q (.int ys.length) H) := h ▸ call_len_seq
end
/-! ### heaps -/
theorem same_upd {H : Hp} {p : Addr} {o : HO} (h : H p = none) : Same H (upd H p o) := fun b x e => by
  rw [upd_ne (ne_of_none e h)]
  exact e
theorem same_at {H H' : Hp} {p : Addr} {o : HO} (s : Same H H') (h : H p = none) : Same H (upd H' p o) := fun b x e => by
  rw [upd_ne (ne_of_none e h)]
  exact s b x e
theorem same_tup {K : PySem.W.Frag} {H H' : Hp} {a : Addr} {xs : List V} (e : Same H H') (h : SqT K H a xs) : SqT K H' a xs := by
  rcases h with (h | ⟨o, h⟩) | h
  · exact .inl (.inl (e _ _ h))
  · exact .inl (.inr ⟨o, e _ _ h⟩)
  · exact .inr h
theorem lstAt {K : PySem.W.Frag} {H : Hp} {a : Addr} {xs : List V} (h : H a = some (.lst xs)) : SqL K H a xs := .inl (.inl h)
theorem tupAt {K : PySem.W.Frag} {H : Hp} {a : Addr} {xs : List V} (h : H a = some (.tup xs)) : SqT K H a xs := .inl (.inl h)
theorem atI_in {α : Type} {xs : List α} {i : Int} {v : α} (h0 : 0 ≤ i) (h : xs[i.toNat]? = some v) : atI xs i = some v := by
  obtain ⟨n, rfl⟩ : ∃ n : Nat, i = (n : Int) := ⟨i.toNat, by omega⟩
  exact atI_nat h
theorem yesT {σ : L2.St} {H : Hp} {A B : Hp → Prop} (h : A H) : tYes σ H (fun b H3 => if b = true then A H3 else B H3) := by
  show if true = true then A H else B H
  rw [if_pos rfl]
  exact h
end TK

namespace TK
open PySem PySem.Spec PyProof.Rows L2
section
variable {X : Cx} {pins : List (Addr × Obj)} {σ : L2.St} {H : Hp} {s : Shared}
/-- an untracked object of ours comes to be tracked -/
theorem adopt {a : Addr} {o : HO} (I : Inv X pins σ H s) (f : FpOk X pins H a) (new : ObjOk X.prog X.w (upd H a o) s.heap a o) : Inv X pins σ (upd H a o) s := by
  obtain ⟨q0, q1, q2, q3, q4, q5⟩ := f
  have ne : ∀ b u, H b = some u → b ≠ a := fun b u e z => by rw [z, q0] at e; cases e
  refine I.step (h' := s.heap) (g' := s.gens) (t' := s.toks) (d' := s.drawn) (ch := [a]) (fun b hb => ?_) (fun b o _ _ _ e _ => e) (fun b o _ _ _ e _ => ⟨o.slots, e⟩) (fun b o hb _ n => ?_) (fun b o _ e => ⟨o, e⟩) (fun b xs e => ?_) (fun b o u e => ?_) (fun b ps e => ⟨#[], ?_⟩) (fun m hm => hm) (fun b u e => ?_) I.bare
  · have e : b = a := by simpa using hb
    subst e
    exact ⟨q3, q1, q4, q5⟩
  · rw [upd_ne (fun z => hb (by simp [z]))]; exact n
  · rw [upd_ne (ne b _ e)]; exact e
  · rw [upd_ne (ne b _ e)]; exact e
  · rw [upd_ne (ne b _ e), e]; simp
  · by_cases hb : b = a
    · subst hb
      rw [upd_same] at e
      cases e
      exact new
    · rw [upd_ne hb] at e
      exact (I.hok b u e).stay (fun c v _ q => q) (fun c q => by rw [upd_ne (ne c _ q)]; exact q) fun c xs q => by rw [upd_ne (ne c _ q)]; exact q
/-- a def called from within a built-in's method -/
theorem run_fn2 {k : Nat} {f : Addr} {fd : FuncData} {ps : List Str} {sp : Sp} {Q : VK} {us : List Value} {itm : List V} {E' : Value → Shared → Prop} (F : FnOk X.prog X.w X.K X.mg X.base CX0 k f fd ps sp) (hr : Room (k + 2) X.A) (hb : Binds X.K fd ps [])
    (I : Inv X pins σ H s) (r : Vals itm us) (h : sp itm H Q E0) : wpAny (model X.prog X.w) X.A.in1.in1 (call (.ref f) us) (EP X pins σ Q) E' s := by
  have hl : (us ++ []).length = ps.length := by rw [List.append_nil, ← r.length]; exact F.len _ _ _ _ h
  have hbb := hb s us I.kIn hl
  rw [List.append_nil] at hbb
  refine wpAny_call (codeAny_mono (F.run X.A.in1.in1 X.stack s H ⟨us, []⟩ us itm Q E0 hr.in1.in1 I.env0.in1.in1 hbb r h) fun r s' hq => ?_)
  cases r with
  | error e => exact False.elim hq
  | ok fl =>
    cases fl with
    | ret u => exact I.after hq
    | next => exact False.elim hq
    | brk => exact False.elim hq
    | cont => exact False.elim hq
end
section
variable {X : Cx} {pins : List (Addr × Obj)} {σ : L2.St} {H : Hp} {s : Shared} {A : Around} {E : Value → Shared → Prop} {a kS : Addr} {itm : List Value} {kl : List Int} {kar : Array Value} {e ep1 : Nat} {P : PySem.Fin → Shared → Prop}
theorem sb_tail {st : SortSt} (I : Inv X pins σ H s) (gk : s.heap.get? kS = some (seqObj "list" kar e)) (ga : s.heap.get? a = some (seqObj "list" #[] ep1)) (fa : FpOk X pins H a) (fk : FpOk X pins H kS) (hka : kS ≠ a)
    (hki : IntsAre kar.toList kl) (hle : kl.length = itm.length) (hsm : itm.length ≤ sizeLine) (hp : (arrOf st).Perm (kar.zip itm.toArray)) (hs : SortedTo (arrOf st) (arrOf st).size) (hfl : failedOf st = none)
    (hst : Stable intKind (arrOf st) (kar.zip itm.toArray))
    (h : ∀ s' out c, Inv X pins σ H s' → s'.heap.get? a = some (seqObj "list" out c) → KskOutSt false kl itm out.toList → P (.done (.ret .none)) s') :
    wpAny (model X.prog X.w) A (ksk_tail a false ep1 (.ref kS) st) P E s := by
  have hsm2 := hsm
  rw [sizeLine_eq] at hsm2
  have zk : kar.size = itm.length := by
    have h1 := hki.length
    rw [Array.length_toList] at h1
    omega
  have za : (arrOf st).size = itm.length := by rw [hp.size_eq, Array.size_zip, zk, List.size_toArray, Nat.min_self]
  have zo : ((arrOf st).map (·.2)).size = itm.length := by rw [Array.size_map]; exact za
  have s1 := Heap.SameBut.update s.heap kS (Obj.mapSeq fun _ => (#[] : Array Value))
  have ga1 : (s.heap.update kS (Obj.mapSeq fun _ => (#[] : Array Value))).get? a = some (seqObj "list" #[] ep1) := (s1.2 a hka.symm).trans ga
  have s2 := Heap.SameBut.update (s.heap.update kS (Obj.mapSeq fun _ => (#[] : Array Value))) a (Obj.mapSeq fun _ => (arrOf st).map (·.2))
  obtain ⟨cn, gcn⟩ : ∃ cn, ((s.heap.update kS (Obj.mapSeq fun _ => (#[] : Array Value))).update a (Obj.mapSeq fun _ => (arrOf st).map (·.2))).get? a = some (seqObj "list" ((arrOf st).map (·.2)) cn) :=
    ⟨_, get?_update_seq ga1 fun _ => (arrOf st).map (·.2)⟩
  obtain ⟨k0, k1, k2, k3, k4, k5⟩ := fk
  obtain ⟨a0, a1, a2, a3, a4, a5⟩ := fa
  have I1 : Inv X pins σ H { s with heap := s.heap.update kS (Obj.mapSeq fun _ => (#[] : Array Value)) } := I.turned (t' := s.toks) (fun b o hb q => (s1.2 b hb).trans q) k0 k1 k3 k4 k5
  unfold ksk_tail
  try dsimp only
  refine wpAny_bind (listUpdate_at gk rfl ?_ (by rw [zk, sizeLine_eq]; omega) (Nat.zero_le _))
  refine wpAny_bind (wpAny_letGo ?_)
  refine wpAny_bind (seqEpoch_at ga1 rfl ?_)
  refine wpAny_bind (listUpdate_at ga1 rfl ?_ (Nat.zero_le _) (Nat.le_trans (Nat.le_of_eq zo) (by rw [sizeLine_eq]; omega)))
  rw [hfl]
  simp only [bne_self_eq_false, Bool.false_eq_true, if_false]
  refine wpAny_pure (h _ _ cn (I1.turned (t' := s.toks) (fun b o hb q => (s2.2 b hb).trans q) a0 a1 a3 a4 a5) gcn ?_)
  exact ksk_outSt (b := false) hki hp hs (by simpa using hst)
theorem sb_end (I : Inv X pins σ H s) (gk : s.heap.get? kS = some (seqObj "list" kar e)) (ga : s.heap.get? a = some (seqObj "list" #[] ep1)) (fa : FpOk X pins H a) (fk : FpOk X pins H kS) (hka : kS ≠ a)
    (hki : IntsAre kar.toList kl) (hle : kl.length = itm.length) (hsm : itm.length ≤ sizeLine)
    (h : ∀ s' out c, Inv X pins σ H s' → s'.heap.get? a = some (seqObj "list" out c) → KskOutSt false kl itm out.toList → P (.done (.ret .none)) s') :
    wpAny (model X.prog X.w) A (ksk_end a false itm.toArray ep1 (.ref kS) kar) P E s := by
  have hsm2 := hsm
  rw [sizeLine_eq] at hsm2
  have zk : kar.size = itm.length := by
    have h1 := hki.length
    rw [Array.length_toList] at h1
    omega
  have zz : (kar.zip itm.toArray).size = itm.length := by rw [Array.size_zip, zk, List.size_toArray, Nat.min_self]
  unfold ksk_end
  try dsimp only
  simp only [Bool.false_eq_true, if_false]
  by_cases few : itm.toArray.size < 2
  · rw [if_pos few, if_pos few]
    refine wpAny_bind (wpAny_pure ?_)
    rw [StateT.run_pure]
    refine wpAny_bind (wpAny_pure ?_)
    try dsimp only
    refine sb_tail (st := SortSt.mk' general' (kar.zip itm.toArray) #[] 7 none) I gk ga fa fk hka hki hle hsm (Array.Perm.refl _) ?_ rfl (Stable.refl _) h
    intro i j hij jlt
    have hj2 : j < (kar.zip itm.toArray).size := jlt
    rw [zz] at hj2
    rw [List.size_toArray] at few
    have : i = j := by omega
    subst this
    exact Int.le_refl _
  · rw [if_neg few, if_neg few]
    rw [List.size_toArray] at few
    rw [ksk_kind hki (by rw [zk]; omega)]
    refine wpAny_bind (wpAny_pure ?_)
    refine wpAny_bind (wpAny_mono (wpS_sortRunsSt (κ := intKind) (a₀ := kar.zip itm.toArray)
      (st := SortSt.mk' oneType' (kar.zip itm.toArray) #[] 7 none)
      (Q := fun _ sq => (arrOf sq).Perm (kar.zip itm.toArray) ∧ failedOf sq = none ∧ SortedTo (arrOf sq) (arrOf sq).size ∧
        Stable intKind (arrOf sq) (kar.zip itm.toArray))
      intKind_oneLt (ksk_keysOfInt (ksk_intKeys hki)) ⟨Array.Perm.refl _, rfl, rfl⟩ rfl (Stable.refl _) (by rw [zz]; omega)
      fun sq a1 a2 a3 a4 => ⟨a1, a2, by rw [a1.size_eq]; exact sortedTo_of_int a3, a4⟩) ?_ fun _ _ e => e)
    rintro ⟨⟨⟩, sq⟩ s' ⟨rfl, hp, hf, hs, hst⟩
    try dsimp only
    exact sb_tail I gk ga fa fk hka hki hle hsm hp hs hf hst h
theorem sb_rest {f : Value} (I : Inv X pins σ H s) (gk : s.heap.get? kS = some (seqObj "list" #[] 0)) (ga : s.heap.get? a = some (seqObj "list" #[] ep1)) (fa : FpOk X pins H a) (fk : FpOk X pins H kS) (hka : kS ≠ a)
    (hle : kl.length = itm.length) (hsm : itm.length ≤ sizeLine)
    (turn : ∀ (i : Nat) (v : Value) (k : Int) (pins' : List (Addr × Obj)) (s' : Shared), itm[i]? = some v → kl[i]? = some k → Inv X pins' σ H s' →
      wpAny (model X.prog X.w) A (call f [v]) (EP X pins' σ fun x H' => x = .int k ∧ H' = H) (fun _ _ => False) s')
    (h : ∀ s' out c, Inv X pins σ H s' → s'.heap.get? a = some (seqObj "list" out c) → KskOutSt false kl itm out.toList → P (.done (.ret .none)) s') :
    wpAny (model X.prog X.w) A (ksk_rest a f false itm.toArray ep1 (.ref kS)) P E s := by
  have hsm2 := hsm
  rw [sizeLine_eq] at hsm2
  unfold ksk_rest
  refine wpAny_bind (wpAny_rule ?_)
  first
    | rw [List.forIn_toArray]
    | (rw [← Array.forIn_toList]; simp only [List.toList_toArray])
    | rw [← Array.forIn_toList]
  refine wpAny_bind (ksk_fold (fun i s' => ∃ gar e, Inv X pins σ H s' ∧ s'.heap.get? kS = some (seqObj "list" gar e) ∧ s'.heap.get? a = some (seqObj "list" #[] ep1) ∧ IntsAre gar.toList (kl.take i)) itm 0 s
    ⟨#[], 0, I, gk, ga, by simpa using IntsAre.nil⟩ ?step ?done)
  case step =>
    rintro j x s' hx ⟨gar, e, I', nk', na', hki⟩
    simp only [Nat.zero_add] at hki ⊢
    have jlt : j < itm.length := (List.getElem?_eq_some_iff.mp hx).1
    obtain ⟨k, ekj⟩ : ∃ k, kl[j]? = some k := ⟨_, List.getElem?_eq_getElem (by omega)⟩
    have gsm : gar.size ≤ itm.length := by
      have h1 := hki.length
      rw [Array.length_toList, List.length_take] at h1
      omega
    have I2 : Inv X (pins ++ [(kS, seqObj "list" gar e), (a, seqObj "list" #[] ep1)]) σ H s' := I'.pins_of fun p hp => by
      rcases List.mem_append.mp hp with hp | hp
      · exact I'.pin p (List.mem_append_right _ hp)
      · rcases List.mem_cons.mp hp with rfl | hp
        · exact ⟨nk', fk.1, fk.2.1, fk.2.2.1, fun v z => nomatch z⟩
        · rw [List.mem_singleton.mp hp]
          exact ⟨na', fa.1, fa.2.1, fa.2.2.1, fun v z => nomatch z⟩
    refine wpAny_bind (wpAny_attempt (wpAny_mono (turn j x k _ s' hx ekj I2) (fun v s'' he => ?_) fun _ _ hF => hF.elim))
    obtain ⟨y, H', I3, ry, rfl, rfl⟩ := he
    obtain ⟨t2, rfl⟩ : ∃ t, v = Value.int k t := ry
    try dsimp only
    have nk3 := (I3.pin (kS, seqObj "list" gar e) (List.mem_append_right _ (List.mem_append_right _ (.head _)))).1
    have na3 := (I3.pin (a, seqObj "list" #[] ep1) (List.mem_append_right _ (List.mem_append_right _ (.tail _ (.head _))))).1
    have s1 := Heap.SameBut.update s''.heap kS (Obj.mapSeq (·.push (.int k t2)))
    obtain ⟨cn, gcn⟩ : ∃ cn, (s''.heap.update kS (Obj.mapSeq (·.push (.int k t2)))).get? kS = some (seqObj "list" (gar.push (.int k t2)) cn) := ⟨_, get?_update_seq nk3 (·.push (.int k t2))⟩
    have et : kl.take (j + 1) = kl.take j ++ [k] := by rw [List.take_add_one, ekj]; simp
    have epu : (gar.push (Value.int k t2)).toList = gar.toList ++ [Value.int k t2] := by simp
    obtain ⟨k0, k1, _, k3, k4, k5⟩ := fk
    refine wpAny_bind (listUpdate_at nk3 rfl ?_ (by rw [sizeLine_eq]; omega) (Nat.le_trans (Nat.le_of_eq (Array.size_push ..)) (by rw [sizeLine_eq]; omega)))
    refine wpAny_pure ⟨rfl, gar.push (.int k t2), cn, I3.unpinned.turned (t' := s''.toks) (fun b o hb q => (s1.2 b hb).trans q) k0 k1 k3 k4 k5, gcn, (s1.2 a hka.symm).trans na3, by rw [epu, et]; exact ksk_snoc hki⟩
  case done =>
    rintro s' ⟨gar, e, I', nk', na', hki⟩
    have hkf : IntsAre gar.toList kl := by
      have eall : kl.take (0 + itm.length) = kl := List.take_of_length_le (by omega)
      rw [eall] at hki
      exact hki
    try dsimp only
    refine wpAny_bind (listItems_at nk' rfl ?_)
    exact sb_end I' nk' na' fa fk hka hkf hle hsm h
end
end TK

namespace TK
open PySem PySem.Spec PyProof.Rows L2
section
variable {prog : Program} {w : World} {A : Around} {E : Value → Shared → Prop} {s : Shared}
/-- the items of a tuple, drawn together -/
theorem collect_tup {t : Addr} {vs : List Value} {Q : List Value → Shared → Prop} (ht : IsTup s.heap t vs.toArray) (hsm : vs.length ≤ sizeLine)
    (h : Q vs { s with heap := (s.heap.push (seqObj "list" #[] 0)).update s.heap.objs.size (Obj.mapSeq (· ++ vs.toArray)) }) : wpAny (model prog w) A (collect (.ref t)) Q E s := by
  obtain ⟨ob, gob0, hcls, n, hdt⟩ := ht
  unfold collect
  refine wpAny_bind (wpAny_runValue (codeAny_builtin entry_proto_collect' ?_))
  show wpAny _ _ (do again (.builtin "list.__iadd__" ⟨[← newList [], .ref t], []⟩)) _ _ s
  refine wpAny_bind (wpAny_newList (wpAny_pure ⟨Code.quiet_builtin _ (by decide +kernel), codeAny_builtin entry_list_iadd' ?_⟩))
  show wpAny _ _ (Builtin.List.listExtendWith (.ref s.heap.objs.size) (.ref t) (.ref s.heap.objs.size)) _ _ { s with heap := s.heap.push (seqObj "list" #[] 0) }
  have gob : (s.heap.push (seqObj "list" #[] 0)).get? t = some ob := Heap.get?_push_of_some _ gob0
  have gnew : (s.heap.push (seqObj "list" #[] 0)).get? s.heap.objs.size = some (seqObj "list" #[] 0) := Heap.get?_push_size _ rfl
  unfold Builtin.List.listExtendWith
  refine wpAny_bind (wpAny_typeOf (T := "tuple") ⟨ob, gob, hcls⟩ ?_)
  rw [if_pos (by simp only [show (Value.type "tuple" == Value.type "tuple") = true from rfl, Bool.or_true])]
  refine wpAny_bind (listItems_at gob hdt (wpAny_bind (listItems_at gnew rfl ?_)))
  rw [if_neg (by simp)]
  refine wpAny_bind (listUpdate_at gnew rfl (wpAny_pure ?_) (Nat.zero_le _) (by simp only [Array.size_append, List.size_toArray, List.length_nil]; omega))
  show wpAny (model prog w) A (do
      let o ← load s.heap.objs.size
      match o.data with
      | .seq xs _ => pure xs.toList
      | _ => unsupported "internal:collect") Q E _
  refine wpAny_bind (wpAny_load (get?_update_seq gnew _) ?_)
  show wpAny _ _ (pure ((#[] : Array Value) ++ vs.toArray).toList) Q E _
  rw [show ((#[] : Array Value) ++ vs.toArray).toList = vs by simp]
  exact wpAny_pure h
end
section
variable {X : Cx} {pins : List (Addr × Obj)} {σ : L2.St} {H : Hp} {s : Shared} {A : Around} {E : Value → Shared → Prop} {a : Addr} {vs : List Value} {kz : List Int} {P : PySem.Fin → Shared → Prop}
theorem sb_sort {f : Value} {n : Nat} (I : Inv X pins σ H s) (ho : s.heap.get? a = some (seqObj "list" vs.toArray n)) (fa : FpOk X pins H a) (hlen : kz.length = vs.length) (hZ : vs.length ≤ sizeLine)
    (turn : ∀ (i : Nat) (v : Value) (k : Int) (pins' : List (Addr × Obj)) (s' : Shared), vs[i]? = some v → kz[i]? = some k → Inv X pins' σ H s' →
      wpAny (model X.prog X.w) A (call f [v]) (EP X pins' σ fun x H' => x = .int k ∧ H' = H) (fun _ _ => False) s')
    (h : ∀ s' out c, Inv X pins σ H s' → s'.heap.get? a = some (seqObj "list" out c) → KskOutSt false kz vs out.toList → P (.done (.ret .none)) s') :
    wpAny (model X.prog X.w) A (ksk_tree a f false) P E s := by
  have hZ2 := hZ
  rw [sizeLine_eq] at hZ2
  have hal : a < s.heap.objs.size := Heap.lt_size ho
  generalize hh1 : s.heap.update a (Obj.mapSeq fun _ => (#[] : Array Value)) = h1
  have sb : Heap.SameBut a s.heap h1 := by rw [← hh1]; exact Heap.SameBut.update s.heap a _
  obtain ⟨e1, ho1⟩ : ∃ e1, h1.get? a = some (seqObj "list" #[] e1) := by rw [← hh1]; exact ⟨_, get?_update_seq ho fun _ => #[]⟩
  have hz1 : h1.objs.size = s.heap.objs.size := by rw [← hh1, Heap.size_update]
  obtain ⟨a0, a1, a2, a3, a4, a5⟩ := id fa
  have I1 : Inv X pins σ H { s with heap := h1 } := I.turned (t' := s.toks) (fun b o hb q => (sb.2 b hb).trans q) a0 a1 a3 a4 a5
  have I2 : Inv X pins σ H { s with heap := (h1.push (seqObj "tuple" vs.toArray 0)).push (seqObj "list" #[] 0) } := I1.kept (t' := s.toks) fun b o q => Heap.get?_push_of_some _ (Heap.get?_push_of_some _ q)
  have hkz : (h1.push (seqObj "tuple" vs.toArray 0)).objs.size = s.heap.objs.size + 1 := by rw [size_push', hz1]
  unfold ksk_tree
  refine wpAny_bind (listItems_at ho rfl (wpAny_bind (listUpdate_at ho rfl ?_ (by rw [List.size_toArray, sizeLine_eq]; omega) (Nat.zero_le _))))
  rw [hh1]
  refine wpAny_bind (seqEpoch_at ho1 rfl (wpAny_bind (wpAny_newTuple (wpAny_bind (wpAny_newList (wpAny_holding ?_) (Nat.zero_le _))) (by show vs.length ≤ _; rw [sizeLine_eq]; omega))))
  refine sb_rest (s := { s with heap := (h1.push (seqObj "tuple" vs.toArray 0)).push (seqObj "list" #[] 0) }) (kS := (h1.push (seqObj "tuple" vs.toArray 0)).objs.size) I2 (Heap.get?_push_size _ rfl) (Heap.get?_push_of_some _ (Heap.get?_push_of_some _ ho1)) fa ?_ (Nat.ne_of_gt (by rw [hkz]; exact Nat.lt_succ_of_lt hal)) hlen hZ turn h
  exact I1.fpOk (by show h1.objs.size ≤ _; rw [hkz, hz1]; omega) (I1.hok.fresh (by show h1.objs.size ≤ _; rw [hkz, hz1]; omega))
end
/-! ### the stable order by a key -/
def insK {α : Type} (x : Int × α) : List (Int × α) → List (Int × α)
  | [] => [x]
  | y :: r => if x.1 ≤ y.1 then x :: y :: r else y :: insK x r
def sortK {α : Type} : List (Int × α) → List (Int × α)
  | [] => []
  | x :: r => insK x (sortK r)
section
variable {α : Type}
theorem insK_perm (x : Int × α) : ∀ l, (insK x l).Perm (x :: l)
  | [] => .refl _
  | y :: r => by
    unfold insK
    split
    · exact .refl _
    · exact ((insK_perm x r).cons y).trans (.swap x y r)
theorem sortK_perm : ∀ l : List (Int × α), (sortK l).Perm l
  | [] => .refl _
  | x :: r => (insK_perm x (sortK r)).trans ((sortK_perm r).cons x)
theorem insK_up (x : Int × α) : ∀ l : List (Int × α), l.Pairwise (fun p q => p.1 ≤ q.1) → (insK x l).Pairwise (fun p q => p.1 ≤ q.1)
  | [], _ => List.pairwise_singleton ..
  | y :: r, h => by
    unfold insK
    split
    · rename_i hx
      refine List.Pairwise.cons (fun z hsm => ?_) h
      rcases List.mem_cons.mp hsm with rfl | hsm
      · exact hx
      · exact Int.le_trans hx (List.rel_of_pairwise_cons h hsm)
    · rename_i hx
      refine List.Pairwise.cons (fun z hsm => ?_) (insK_up x r (List.Pairwise.of_cons h))
      rcases List.mem_cons.mp ((insK_perm x r).mem_iff.mp hsm) with rfl | hsm
      · omega
      · exact List.rel_of_pairwise_cons h hsm
theorem sortK_up : ∀ l : List (Int × α), (sortK l).Pairwise (fun p q => p.1 ≤ q.1)
  | [] => .nil
  | x :: r => insK_up x _ (sortK_up r)
theorem insK_filter (x : Int × α) (c : Int) : ∀ l : List (Int × α), l.Pairwise (fun p q => p.1 ≤ q.1) → (insK x l).filter (fun p => p.1 == c) = (x :: l).filter (fun p => p.1 == c)
  | [], _ => rfl
  | y :: r, h => by
    unfold insK
    split
    · rfl
    · rename_i hx
      have ih := insK_filter x c r (List.Pairwise.of_cons h)
      rw [List.filter_cons, ih, List.filter_cons, List.filter_cons, List.filter_cons]
      by_cases h1 : (x.1 == c) = true
      · by_cases h2 : (y.1 == c) = true
        · have e1 : x.1 = c := by simpa using h1
          have e2 : y.1 = c := by simpa using h2
          omega
        · simp [h1, h2]
      · simp [h1]
theorem sortK_filter (c : Int) : ∀ l : List (Int × α), (sortK l).filter (fun p => p.1 == c) = l.filter (fun p => p.1 == c)
  | [] => rfl
  | x :: r => by
    show (insK x (sortK r)).filter _ = _
    rw [insK_filter x c _ (sortK_up r), List.filter_cons, sortK_filter c r, List.filter_cons]
theorem stable_one : ∀ {l m : List (Int × α)}, l.Perm m → l.Pairwise (fun p q => p.1 ≤ q.1) → m.Pairwise (fun p q => p.1 ≤ q.1) → (∀ c, l.filter (fun p => p.1 == c) = m.filter (fun p => p.1 == c)) → l = m
  | [], m, hp, _, _, _ => by rw [List.nil_perm.mp hp]
  | x :: l, [], hp, _, _, _ => by cases hp.length_eq
  | x :: l, y :: m, hp, h1, h2, hf => by
    have le1 : x.1 ≤ y.1 := by
      rcases List.mem_cons.mp (hp.mem_iff.mpr (List.mem_cons_self ..) : y ∈ x :: l) with e | e
      · rw [e]; exact Int.le_refl _
      · exact List.rel_of_pairwise_cons h1 e
    have le2 : y.1 ≤ x.1 := by
      rcases List.mem_cons.mp (hp.mem_iff.mp (List.mem_cons_self ..) : x ∈ y :: m) with e | e
      · rw [e]; exact Int.le_refl _
      · exact List.rel_of_pairwise_cons h2 e
    have e : x.1 = y.1 := by omega
    have hx := hf x.1
    rw [List.filter_cons, List.filter_cons, if_pos (by simp), if_pos (by simp [e])] at hx
    obtain ⟨exy, _⟩ := List.cons.inj hx
    subst exy
    rw [stable_one (List.Perm.cons_inv hp) (List.Pairwise.of_cons h1) (List.Pairwise.of_cons h2) fun c => ?_]
    have := hf c
    rw [List.filter_cons, List.filter_cons] at this
    split at this
    · exact (List.cons.inj this).2
    · exact this
theorem insK_map {β : Type} (g : α → β) (x : Int × α) : ∀ l : List (Int × α), (insK x l).map (fun p => (p.1, g p.2)) = insK (x.1, g x.2) (l.map fun p => (p.1, g p.2))
  | [] => rfl
  | y :: r => by
    unfold insK
    by_cases h : x.1 ≤ y.1
    · rw [if_pos h]
      show _ = if x.1 ≤ y.1 then _ else _
      rw [if_pos h]; rfl
    · rw [if_neg h]
      show _ = if x.1 ≤ y.1 then _ else _
      rw [if_neg h, List.map_cons, insK_map g x r]
theorem sortK_map {β : Type} (g : α → β) : ∀ l : List (Int × α), (sortK l).map (fun p => (p.1, g p.2)) = sortK (l.map fun p => (p.1, g p.2))
  | [] => rfl
  | x :: r => by
    show (insK x (sortK r)).map _ = insK _ (sortK (r.map _))
    rw [insK_map, sortK_map g r]
end
/-- sorted pairs of related values are related -/
theorem insK_rel {x : Int × V} {u : Int × Value} (e : x.1 = u.1) (r : RelV x.2 u.2) : ∀ {l : List (Int × V)} {m : List (Int × Value)}, Paired (fun p q => p.1 = q.1 ∧ RelV p.2 q.2) l m → Paired (fun (p : Int × V) (q : Int × Value) => p.1 = q.1 ∧ RelV p.2 q.2) (insK x l) (insK u m)
  | _, _, .nil => .cons ⟨e, r⟩ .nil
  | y :: l, v :: m, .cons h t => by
    unfold insK
    rw [← e, ← h.1]
    split
    · exact .cons ⟨e, r⟩ (.cons h t)
    · exact .cons h (insK_rel e r t)
theorem sortK_rel : ∀ {l : List (Int × V)} {m : List (Int × Value)}, Paired (fun p q => p.1 = q.1 ∧ RelV p.2 q.2) l m → Paired (fun (p : Int × V) (q : Int × Value) => p.1 = q.1 ∧ RelV p.2 q.2) (sortK l) (sortK m)
  | _, _, .nil => .nil
  | _, _, .cons h t => insK_rel h.1 h.2 (sortK_rel t)
theorem zip_rel : ∀ {kz : List Int} {xs : List V} {us : List Value}, Vals xs us → Paired (fun (p : Int × V) (q : Int × Value) => p.1 = q.1 ∧ RelV p.2 q.2) (kz.zip xs) (kz.zip us)
  | [], _, _, _ => .nil
  | _ :: _, _, _, .nil => .nil
  | k :: kz, _, _, .cons r t => .cons ⟨rfl, r⟩ (zip_rel t)
theorem rel_snd : ∀ {l : List (Int × V)} {m : List (Int × Value)}, Paired (fun p q => p.1 = q.1 ∧ RelV p.2 q.2) l m → Vals (l.map Prod.snd) (m.map Prod.snd)
  | _, _, .nil => .nil
  | _, _, .cons h t => .cons h.2 (rel_snd t)
def byKey (ks : List Int) (xs : List V) : List V := (sortK (ks.zip xs)).map Prod.snd
theorem byKey_len {ks : List Int} {xs : List V} (h : ks.length = xs.length) : (byKey ks xs).length = xs.length := by
  unfold byKey
  rw [List.length_map, (sortK_perm _).length_eq, List.length_zip, h, Nat.min_self]
section
variable {X : Cx}
/-- sorted(xs, key=f), f a def whose answer is an int and that leaves the heap -/
def rSortedBy (K : PySem.W.Frag) (f : Addr) (sp : Sp) : List V → List V → Hp → VK → Prop := fun vs zs H Q => ∃ (a : Addr) (xs : List V) (ks : List Int), vs = [V.ref a] ∧ zs = [V.ref f] ∧ (SqL K H a xs ∨ SqT K H a xs) ∧ ks.length = xs.length ∧
  (∀ (i : Nat) (x : V) (k : Int), xs[i]? = some x → ks[i]? = some k → sp [x] H (fun v H' => v = .int k ∧ H' = H) E0) ∧ ∀ p, H p = none → Q (.ref p) (upd H p (.lst (byKey ks xs)))
theorem cr_sortedBy {k : Nat} {f : Addr} {fd : FuncData} {ps : List Str} {sp : Sp} (F : FnOk X.prog X.w X.K X.mg X.base CX0 k f fd ps sp) (hr : Room (k + 2) X.A) (hb : Binds X.K fd ps []) : CallRK X (.builtin "sorted") [Str.ofString "key"] (rSortedBy X.K f sp) := by
  intro pins s σ H xs zs us ws Q I rx rz hq
  obtain ⟨a, ys, ks, rfl, rfl, hS, hkl, hsp, q⟩ := hq
  cases rx with
  | cons r1 r2 =>
    cases r2
    cases r1
    cases rz with
    | cons z1 z2 =>
      cases z2
      cases z1
      obtain ⟨its, rv, hcol, hsm⟩ : ∃ its : List Value, Vals ys its ∧ (∀ (A : Around) (Q : List Value → Shared → Prop) (E : Value → Shared → Prop), Q its { s with heap := (s.heap.push (seqObj "list" #[] 0)).update s.heap.objs.size (Obj.mapSeq (· ++ its.toArray)) } → wpAny (model X.prog X.w) A (collect (.ref a)) Q E s) ∧ its.length ≤ sizeLine := by
        rcases hS with hS | hS
        · obtain ⟨its, rv, hl, hsm⟩ := I.list hS
          have hz' : its.length ≤ sizeLine := by rw [← rv.length]; exact hsm
          exact ⟨its, rv, fun A Q E h => collect_list hl.isList h hz', hz'⟩
        · obtain ⟨its, rv, hl, hsm⟩ := I.tuple hS
          have hz' : its.length ≤ sizeLine := by rw [← rv.length]; exact hsm
          exact ⟨its, rv, fun A Q E h => collect_tup hl hz' h, hz'⟩
      have hlen : ks.length = its.length := by rw [hkl, rv.length]
      show wpAny _ _ (call (.builtin "sorted") [.ref a] [(Str.ofString "key", .ref f)]) _ _ _
      refine call_function_entry_kw kind_sorted plain_sorted entry_sorted (ksk_s1 _ _) ?_
      unfold Builtin.«sorted»
      refine wpAny_bind (m := checkCount "sorted" 1 1 _) (wpAny_pure (wpAny_bind (hcol _ _ _ (wpAny_bind (wpAny_newList ?_ hsm)))))
      generalize hh1 : (s.heap.push (seqObj "list" #[] 0)).update s.heap.objs.size (Obj.mapSeq (· ++ its.toArray)) = h1
      have hz1 : h1.objs.size = s.heap.objs.size + 1 := by rw [← hh1, Heap.size_update, size_push']
      have kp1 : ∀ b o, s.heap.get? b = some o → h1.get? b = some o := fun b o e => by
        rw [← hh1, Heap.get?_update_ne _ _ _ _ (Nat.ne_of_lt (Heap.lt_size e))]
        exact Heap.get?_push_of_some _ e
      have hoL : (h1.push (seqObj "list" its.toArray 0)).get? h1.objs.size = some (seqObj "list" its.toArray 0) := Heap.get?_push_size _ rfl
      have I1 : Inv X pins σ H { s with heap := h1 } := I.kept (t' := s.toks) kp1
      have I2 : Inv X pins σ H { s with heap := h1.push (seqObj "list" its.toArray 0) } := I1.kept (t' := s.toks) fun b o e => Heap.get?_push_of_some _ e
      have fa : FpOk X pins H h1.objs.size := I1.fpOk (Nat.le_refl _) (I1.hok.fresh (Nat.le_refl _))
      refine wpAny_bind (wpAny_holding (wpAny_call_entry_kw slot_list_sort ⟨_, hoL, rfl⟩ entry_list_sort ?_ (ksk_l1 _ _)))
      show wpAny (model X.prog X.w) X.A.in1.in1 (Builtin.«list.sort» ⟨[.ref h1.objs.size], [(Str.ofString "key", .ref f)]⟩) _ _ _
      rw [ksk_t1]
      refine sb_sort (s := { s with heap := h1.push (seqObj "list" its.toArray 0) }) (kz := ks) I2 hoL fa hlen hsm (fun i v k pins' s' hv hk I' => ?_) fun s' out c I' ho' ko => ⟨_, rfl, ?_⟩
      · obtain ⟨x, hx, rxv⟩ : ∃ x, ys[i]? = some x ∧ RelV x v := by
          have hi : i < ys.length := by rw [rv.length]; exact (List.getElem?_eq_some_iff.mp hv).1
          obtain ⟨u, hu, ru⟩ := rv.get (List.getElem?_eq_getElem hi)
          rw [hv] at hu
          cases hu
          exact ⟨_, List.getElem?_eq_getElem hi, ru⟩
        exact run_fn2 F hr hb I' (.cons rxv .nil) (hsp i x k hx hk)
      · obtain ⟨pr, p1, p2, p3, p4⟩ := ko
        have e1 : pr = sortK (ks.zip its) := stable_one (p1.trans (sortK_perm _).symm) (by simpa using p3) (sortK_up _) fun c => (p4 c).trans (sortK_filter c _).symm
        have rel : Vals (byKey ks ys) out.toList := by
          rw [p2, e1]
          exact rel_snd (sortK_rel (zip_rel rv))
        have hbz : (byKey ks ys).length ≤ sizeLine := by rw [byKey_len hkl, rv.length]; exact hsm
        refine wpAny_pure ⟨_, rfl, ?_⟩
        exact ⟨.ref h1.objs.size, upd H h1.objs.size (.lst (byKey ks ys)), adopt I' fa ⟨hbz, out.toList, c, rel, by rw [Array.toArray_toList]; exact ho'⟩, rfl, q _ fa.1⟩
end
end TK

namespace TK
open PySem PySem.Spec PyProof.Rows L2
/-! ### enumerate(tuple) -/
theorem meets_enum1 {v : Value} {o : Obj} {G : Heap → Prop} (B : Begins v o G) :
    Meets (Builtin.«enumerate.__new__» ⟨[.type "enumerate", v], []⟩) (fun _ R s => G s.heap ∧
      R (.ok (.ret (.ref (s.heap.push o).objs.size))) { s with heap := (s.heap.push o).push { cls := .type "enumerate", data := .fields #[.none, .bool false, .ref s.heap.objs.size, rawInt 0, .none, .none] } }) :=
  .of_wp fun prog w A R s hh => by
    obtain ⟨hp, gg, dd, tk, os⟩ := s
    obtain ⟨hG, hR⟩ := hh
    have hsub := sub_enumerate
    have it1 : ∀ {A' : Around} {E' : Value → Shared → Prop} {Q : Value → Shared → Prop}, Q (.ref hp.objs.size) ⟨hp.push o, gg, dd, tk, os⟩ → wpAny (model prog w) A' (pyIter v) Q E' ⟨hp, gg, dd, tk, os⟩ := fun q => B.iter prog w _ _ ⟨hp, gg, dd, tk, os⟩ _ hG q
    wp_walk using it1
    refine wpAny_stack_any fun st => wpAny_pure ?_
    split
    · rename_i c _ _ _ _ _
      cases (c == Value.type "enumerate") <;> (wp_walk using it1; exact ⟨_, rfl, hR⟩)
    · wp_walk using it1
      exact ⟨_, rfl, hR⟩
section
variable {prog : Program} {w : World} {A : Around} {E : Value → Shared → Prop} {s : Shared}
theorem call_enum1 {v : Value} {o : Obj} {G : Heap → Prop} {Q : Value → Shared → Prop} (B : Begins v o G) (hG : G s.heap)
    (h : ∀ h', IsEnum h' (s.heap.objs.size + 1) s.heap.objs.size 0 .none → h'.get? s.heap.objs.size = some o → (∀ b o, s.heap.get? b = some o → h'.get? b = some o) → Q (.ref (s.heap.objs.size + 1)) { s with heap := h' }) :
    wpAny (model prog w) A (call (.type "enumerate") [v]) Q E s := by
  refine callType_new F.called_enumerate (by decide) (F.typeCall_enumerate_1 _) (F.newCall_enumerate_1 _) (fun obj => F.args_object_init_2 obj _) F.entry_enumerate_new (meets_enum1 B) ⟨hG, ?_⟩
  have zp : (s.heap.push o).objs.size = s.heap.objs.size + 1 := Heap.size_push ..
  show _ ∧ _
  rw [zp]
  have gen : IsEnum ((s.heap.push o).push { cls := .type "enumerate", data := .fields #[.none, .bool false, .ref s.heap.objs.size, rawInt 0, .none, .none] }) (s.heap.objs.size + 1) s.heap.objs.size 0 .none := by
    unfold IsEnum
    rw [← zp]
    exact Heap.get?_push_size _ rfl
  exact ⟨⟨_, gen, rfl⟩, h _ gen (Heap.get?_push_of_some _ (Heap.get?_push_size _ B.free)) fun b o q => Heap.get?_push_of_some _ (Heap.get?_push_of_some _ q)⟩
end
def IteT (K : PySem.W.Frag) (a : Addr) (n : Nat) : It :=
  ⟨fun i H => i < n ∧ ∃ xs : List V, SqT K H a xs ∧ xs.length = n, fun i H v H' => ∃ T x, v = .ref T ∧ H T = none ∧ H' = upd H T (.tup [.int (i : Nat), x]) ∧ ∀ xs, SqT K H a xs → xs[i]? = some x, fun i H => n ≤ i ∧ ∃ xs : List V, SqT K H a xs ∧ xs.length = n⟩
theorem turn_enumT {P : Program} {w : World} {K : PySem.W.Frag} {elts : List Expr} {kk : Nat} {tpos : Pos} (a e it : Addr) (n : Nat) (nei : e ≠ it) (nae : a ≠ e) (nai : a ≠ it) :
    Turn P w K (.Tuple elts kk tpos) (IteT K a n) [e, it] e (fun i h => (∃ old, IsEnum h e it ((i : Nat) : Int) old) ∧ h.IsTupleIter it a i ∧ i ≤ n) where
  mem := List.mem_cons_self ..
  obj := fun i h st b hb => by
    obtain ⟨⟨old, gen⟩, ⟨o, ho, _, hd⟩, _⟩ := st
    rcases List.mem_cons.mp hb with z | z
    · rw [z]; exact ⟨_, gen, fun v q => nomatch q⟩
    · rw [List.mem_singleton.mp z]; exact ⟨o, ho, fun v q => by rw [hd] at q; cases q⟩
  keep := fun i h h' st k => by
    obtain ⟨⟨old, gen⟩, hi, hn⟩ := st
    exact ⟨⟨old, k e (by simp) _ gen⟩, hi.at fun o q => k it (by simp) o q, hn⟩
  item := by
    intro X hP hw hK hc i pins s σ H E I hf st hg
    subst hP hw hK
    obtain ⟨⟨old, gen⟩, git, _⟩ := st
    obtain ⟨ltn, xs, hq, hxl⟩ := hg
    obtain ⟨itm, rel, p, zp⟩ := I.tuple hq
    have elt : e < s.heap.objs.size := Heap.lt_size gen
    have ilt : it < s.heap.objs.size := by obtain ⟨_, q, _⟩ := git; exact Heap.lt_size q
    have hsz : itm.toArray.size = n := by rw [List.size_toArray, ← rel.length]; exact hxl
    have D := Draws.tuple (prog := X.prog) (w := X.w) (A := X.A.in1) (I.ok.hd hc) it a nai itm.toArray
    refine wpAny_pyNext_enum_itemD D gen ⟨git, p⟩ (by rw [hsz]; exact ltn) nei (by simp [nei, Ne.symm nae]) fun u h' tk hu ho hst hT _ hk => ?_
    obtain ⟨x, hx, ru⟩ : ∃ x, xs[i]? = some x ∧ RelV x u := by
      obtain ⟨u', hu', ru'⟩ := rel.get (List.getElem?_eq_getElem (show i < xs.length by omega))
      have hu2 : itm[i]? = some u := by simpa using hu
      rw [hu2] at hu'
      cases hu'
      exact ⟨_, List.getElem?_eq_getElem (by omega), ru'⟩
    refine ⟨_, rfl, wpAny_letOwnedTupleGo_enum (s := { s with heap := h', toks := tk + 1 }) ho fun h'' he' sb => ?_⟩
    have atT : h''.get? s.heap.objs.size = some { cls := .type "tuple", data := .seq #[.int i tk, u] } := (sb.2 _ (Nat.ne_of_gt elt)).trans hT
    have new : ObjOk X.prog X.w (upd H s.heap.objs.size (.tup [.int (i : Nat), x])) h'' s.heap.objs.size (.tup [.int (i : Nat), x]) :=
      ⟨by show 2 ≤ sizeLine; decide, [.int i tk, u], .cons ⟨_, rfl⟩ (.cons ru .nil), ⟨_, atT, rfl, _, rfl⟩⟩
    have I1 : Inv X pins σ (upd H s.heap.objs.size (.tup [.int (i : Nat), x])) { s with heap := h'', toks := tk + 1 } :=
      I.turnedNew (ch := [e, it]) (fun b ob hb q => (sb.2 b (fun z => hb (by simp [z]))).trans (hk b ob (fun z => hb (by simp [z])) (fun z => hb (by simp [z])) q)) hf (Nat.le_refl _) new
    refine ⟨.ref s.heap.objs.size, _, I1, rfl, ⟨_, x, rfl, I.hok.fresh (Nat.le_refl _), rfl, fun ys hy => by rw [I.tuple_inj hy hq]; exact hx⟩, ⟨⟨u, ?_⟩, hst.1.at fun o q => (sb.2 it (Ne.symm nei)).trans q, by omega⟩, fun b hb => ?_⟩
    · rw [show ((i + 1 : Nat) : Int) = (i : Int) + 1 by omega]; exact he'
    · have blt : b < s.heap.objs.size := by
        rcases List.mem_cons.mp hb with z | z
        · rw [z]; exact elt
        · rw [List.mem_singleton.mp z]; exact ilt
      rw [upd_ne (Nat.ne_of_lt blt)]
      exact (hf b hb).1
  done := by
    intro X hP hw hK hc i pins s σ H E I hf st hg
    subst hP hw hK
    obtain ⟨⟨old, gen⟩, git, ble⟩ := st
    obtain ⟨hge, xs, hq, hxl⟩ := hg
    obtain ⟨itm, rel, p, zp⟩ := I.tuple hq
    have hin : i = itm.toArray.size := by rw [List.size_toArray, ← rel.length]; omega
    obtain ⟨q0, q1, q2, q3, q4, q5⟩ := hf it (by simp)
    have D := Draws.tuple (prog := X.prog) (w := X.w) (A := X.A.in1) (I.ok.hd hc) it a nai itm.toArray
    refine wpAny_pyNext_enum_endD D gen ⟨by rw [← hin]; exact git, p⟩ fun h' eb => ⟨rfl, I.turned (t' := s.toks) (fun b o hb q => eb b o hb q) q0 q1 q3 q4 q5⟩
  self := fun A i s Q E st h => by
    obtain ⟨⟨_, gen⟩, _⟩ := st
    exact wpAny_pyIter_enum gen h
def iEnumT (K : PySem.W.Frag) (ta : TA) : TI := fun σ H R => ta σ H fun vs H1 => ∃ a xs, vs = [.ref a] ∧ SqT K H1 a xs ∧ R (IteT K a xs.length) H1
theorem pi_enumT {X : Cx} {e : Expr} {ta : TA} {p pos tpos : Pos} {elts : List Expr} {kk : Nat} (hg : Gl X "enumerate") (hm : X.mg "enumerate" = none) (ha : PA X [e] ta) (hs : starEach [e] X.env = [(false, eval e X.env)] := by rfl) :
    PI X (.Tuple elts kk tpos) (.Call (.Name "enumerate" p) [e] [] pos) (iEnumT X.K ta) := by
  refine ⟨fun pins s σ H R I h => Call_ (ld_blt I hg hm boot_enumerate (PyProof.Rows.callWith_type1 (thn (ha.run pos pins s σ H _ I h) fun us s1 ⟨vs, H1, I1, r1, q1⟩ => ?_) hs rfl))⟩
  obtain ⟨a, xs, rfl, hq, q⟩ := q1
  cases r1 with
  | cons r rr =>
    cases rr
    cases r
    obtain ⟨itm, rel, p', zp⟩ := I1.tuple hq
    have hal : a < s1.heap.objs.size := by obtain ⟨_, q, _⟩ := p'; exact Heap.lt_size q
    refine call_enum1 (begins_tuple a itm.toArray) p' fun h' gen git hk => wpAny_pyIter_enum gen ?_
    have J2 : Inv X pins σ H1 { s1 with heap := h' } := I1.kept (t' := s1.toks) hk
    refine ⟨s1.heap.objs.size + 1, [s1.heap.objs.size + 1, s1.heap.objs.size], _, _, H1, rfl, J2, turn_enumT a (s1.heap.objs.size + 1) s1.heap.objs.size xs.length (Nat.succ_ne_self _) (Nat.ne_of_lt (Nat.lt_succ_of_lt hal)) (Nat.ne_of_lt hal), ⟨⟨.none, gen⟩, ⟨_, git, rfl, rfl⟩, Nat.zero_le _⟩, fun b hb => ?_, q⟩
    have ble : s1.heap.objs.size ≤ b := by
      rcases List.mem_cons.mp hb with z | z
      · rw [z]; exact Nat.le_add_right _ _
      · rw [List.mem_singleton.mp z]; exact Nat.le_refl _
    exact I1.fpOk ble (I1.hok.fresh ble)
theorem walk_enumT {K : PySem.W.Frag} {a : Addr} {xs : List V} : Walk (IteT K a xs.length) xs.length (fun H => SqT K H a xs) (YPair (fun i => some (.int (i : Nat))) (fun i => xs[i]?)) where
  goes := fun i H hi hG => ⟨hi, xs, hG, rfl⟩
  stops := fun H hG => ⟨Nat.le_refl _, xs, hG, rfl⟩
  yields := fun i H x H' _ hG hy => by
    obtain ⟨T, v, e1, e2, e3, e4⟩ := hy
    exact ⟨T, _, v, e1, e2, e3, rfl, e4 xs hG⟩
end TK

namespace TK
open PySem PySem.Spec PyProof.Rows L2
/-! ### max(xs, default=d), min(xs, default=d) of ints -/
theorem hold_ints {h : Heap} : ∀ {us : List Value} {ns : List Int}, IntsAre us ns → ∃ as, ReadsAll h us (ns.map PySem.W.Datum.toD) as
  | _, _, .nil => ⟨[], .nil⟩
  | _, _, .cons n t r => by
    obtain ⟨as, ra⟩ := hold_ints (h := h) r
    exact ⟨[] ++ as, .cons (.int n t) ra⟩
theorem hold_int {h : Heap} {v : Value} {m : Int} (H : PySem.W.Holds h v m) : ∃ t, v = Value.int m t := by
  obtain ⟨as, r⟩ := H
  have r : Reads h v (.int m) as := r
  cases r with
  | int i t => exact ⟨t, rfl⟩
theorem maxOf_is : ∀ (ys : List Int) (y : Int), PySem.W.maxOf y ys ∈ y :: ys ∧ ∀ z ∈ y :: ys, z ≤ PySem.W.maxOf y ys
  | [], y => ⟨List.mem_cons_self .., fun z hz => by cases List.mem_singleton.mp hz; exact Int.le_refl _⟩
  | a :: ys, y => by
    have e : PySem.W.maxOf y (a :: ys) = PySem.W.maxOf (if y < a then a else y) ys := by
      show List.foldl _ (if decide (y < a) = true then a else y) ys = _
      by_cases h : y < a
      · rw [if_pos (decide_eq_true h), if_pos h]; rfl
      · rw [if_neg (by simpa using h), if_neg h]; rfl
    obtain ⟨h1, h2⟩ := maxOf_is ys (if y < a then a else y)
    rw [e]
    by_cases h : y < a
    · rw [if_pos h] at h1 h2 ⊢
      refine ⟨?_, fun z hz => ?_⟩
      · exact List.mem_cons_of_mem _ h1
      · rcases List.mem_cons.mp hz with q | q
        · have := h2 a (List.mem_cons_self ..)
          omega
        · exact h2 z q
    · rw [if_neg h] at h1 h2 ⊢
      refine ⟨?_, fun z hz => ?_⟩
      · rcases List.mem_cons.mp h1 with q | q
        · rw [q]; exact List.mem_cons_self ..
        · exact List.mem_cons_of_mem _ (List.mem_cons_of_mem _ q)
      · rcases List.mem_cons.mp hz with q | q
        · rw [q]; exact h2 y (List.mem_cons_self ..)
        · rcases List.mem_cons.mp q with q | q
          · have := h2 y (List.mem_cons_self ..)
            omega
          · exact h2 z (List.mem_cons_of_mem _ q)
theorem minOf_is : ∀ (ys : List Int) (y : Int), PySem.W.minOf y ys ∈ y :: ys ∧ ∀ z ∈ y :: ys, PySem.W.minOf y ys ≤ z
  | [], y => ⟨List.mem_cons_self .., fun z hz => by cases List.mem_singleton.mp hz; exact Int.le_refl _⟩
  | a :: ys, y => by
    have e : PySem.W.minOf y (a :: ys) = PySem.W.minOf (if a < y then a else y) ys := by
      show List.foldl _ (if decide (a < y) = true then a else y) ys = _
      by_cases h : a < y
      · rw [if_pos (decide_eq_true h), if_pos h]; rfl
      · rw [if_neg (by simpa using h), if_neg h]; rfl
    obtain ⟨h1, h2⟩ := minOf_is ys (if a < y then a else y)
    rw [e]
    by_cases h : a < y
    · rw [if_pos h] at h1 h2 ⊢
      refine ⟨?_, fun z hz => ?_⟩
      · exact List.mem_cons_of_mem _ h1
      · rcases List.mem_cons.mp hz with q | q
        · have := h2 a (List.mem_cons_self ..)
          omega
        · exact h2 z q
    · rw [if_neg h] at h1 h2 ⊢
      refine ⟨?_, fun z hz => ?_⟩
      · rcases List.mem_cons.mp h1 with q | q
        · rw [q]; exact List.mem_cons_self ..
        · exact List.mem_cons_of_mem _ (List.mem_cons_of_mem _ q)
      · rcases List.mem_cons.mp hz with q | q
        · rw [q]; exact h2 y (List.mem_cons_self ..)
        · rcases List.mem_cons.mp q with q | q
          · have := h2 y (List.mem_cons_self ..)
            omega
          · exact h2 z (List.mem_cons_of_mem _ q)
def rMaxDef (K : PySem.W.Frag) : List V → List V → Hp → VK → Prop := fun vs zs H Q => ∃ (a : Addr) (ns : List Int) (d : V), vs = [V.ref a] ∧ zs = [d] ∧ SqL K H a (ns.map V.int) ∧ (ns = [] → Q d H) ∧ ∀ m, m ∈ ns → (∀ y, y ∈ ns → y ≤ m) → Q (.int m) H
def rMinDef (K : PySem.W.Frag) : List V → List V → Hp → VK → Prop := fun vs zs H Q => ∃ (a : Addr) (ns : List Int) (d : V), vs = [V.ref a] ∧ zs = [d] ∧ SqL K H a (ns.map V.int) ∧ (ns = [] → Q d H) ∧ ∀ m, m ∈ ns → (∀ y, y ∈ ns → m ≤ y) → Q (.int m) H
section
variable {X : Cx}
theorem cr_maxDef (hc : X.calm = true) (hu : X.A.units + 64 < cLine) : CallRK X (.builtin "max") [Str.ofString "default"] (rMaxDef X.K) := by
  intro pins s σ H xs zs us ws Q I rx rz hq
  obtain ⟨a, ns, d, rfl, rfl, hs, q0, q1⟩ := hq
  rw [Vals.ref1 rx]
  cases rz with
  | cons z1 z2 =>
    cases z2
    obtain ⟨its, rv, hl, _⟩ := I.list hs
    refine PySem.W.max_list_datum_default (α := Int) (xs := ns) (I.ok.hd hc) hl.isList (hold_ints rv.ints) (by show X.A.units + 1 + 0 < cLine; omega) (fun e h' tk hk => ⟨d, H, I.kept hk, z1, q0 e⟩) fun y ys i v h' tk e _ hv hk => ?_
    obtain ⟨t, rfl⟩ := hold_int hv
    obtain ⟨m1, m2⟩ := maxOf_is ys y
    exact ⟨.int _, H, I.kept hk, ⟨_, rfl⟩, q1 _ (by rw [e]; exact m1) fun z hz => m2 z (by rw [e] at hz; exact hz)⟩
theorem cr_minDef (hc : X.calm = true) (hu : X.A.units + 64 < cLine) : CallRK X (.builtin "min") [Str.ofString "default"] (rMinDef X.K) := by
  intro pins s σ H xs zs us ws Q I rx rz hq
  obtain ⟨a, ns, d, rfl, rfl, hs, q0, q1⟩ := hq
  rw [Vals.ref1 rx]
  cases rz with
  | cons z1 z2 =>
    cases z2
    obtain ⟨its, rv, hl, _⟩ := I.list hs
    refine PySem.W.min_list_datum_default (α := Int) (xs := ns) (I.ok.hd hc) hl.isList (hold_ints rv.ints) (by show X.A.units + 1 + 0 < cLine; omega) (fun e h' tk hk => ⟨d, H, I.kept hk, z1, q0 e⟩) fun y ys i v h' tk e _ hv hk => ?_
    obtain ⟨t, rfl⟩ := hold_int hv
    obtain ⟨m1, m2⟩ := minOf_is ys y
    exact ⟨.int _, H, I.kept hk, ⟨_, rfl⟩, q1 _ (by rw [e]; exact m1) fun z hz => m2 z (by rw [e] at hz; exact hz)⟩
end
/-! ### t[::-1] of a tuple -/
section
variable {prog : Program} {w : World} {A : Around} {E : Value → Shared → Prop} {s : Shared}
theorem places_rev (n : Nat) : Builtin.Slice.slicePlaces ((n : Int) - 1) (-1) (-1) = n := by
  unfold Builtin.Slice.slicePlaces
  rw [if_neg (by decide)]
  by_cases h : n = 0
  · subst h; rfl
  · rw [if_pos (by omega), show -(-1 : Int) = 1 from rfl, Int.ediv_one]
    omega
theorem applied_rev {sl : Addr} {vl vu vs : Value} {n : Nat} {Q : Int × Int × Nat → Shared → Prop} (hs : s.heap.IsSliceOf sl vl vu vs) (pl : IsPart vl none) (pu : IsPart vu none) (ps : IsPart vs (some (-1)))
    (h : Q ((n : Int) - 1, -1, n) s) : wpAny (model prog w) A (Builtin.Slice.sliceApplied (.ref sl) (pure (n : Int))) Q E s := by
  obtain ⟨ob, go, _, gd⟩ := id hs
  unfold Builtin.Slice.sliceApplied Builtin.Slice.sliceFields
  refine wpAny_bind (wpAny_bind (wpAny_field go gd (x := vl) rfl (wpAny_bind (wpAny_field go gd (x := vu) rfl (wpAny_bind (wpAny_field go gd (x := vs) rfl (wpAny_pure ?_)))))))
  refine wpAny_bind (HT.slicePart_ ps ?_)
  show wpAny _ _ (if ((-1 : Int) == 0) = true then _ else _) _ _ s
  rw [if_neg (by decide)]
  refine wpAny_bind (HT.slicePart_ pl (wpAny_bind (HT.slicePart_ pu (wpAny_bind (wpAny_pure ?_)))))
  show wpAny _ _ (pure ((n : Int) - 1, (-1 : Int), Builtin.Slice.slicePlaces ((n : Int) - 1) (-1) (-1))) _ _ s
  rw [places_rev]
  exact wpAny_pure h
theorem fm_congr {α β : Type} {f g : α → Option β} : ∀ {l : List α}, (∀ x ∈ l, f x = g x) → l.filterMap f = l.filterMap g
  | [], _ => rfl
  | x :: r, h => by
    rw [List.filterMap_cons, List.filterMap_cons, h x (List.mem_cons_self ..), fm_congr fun y hy => h y (List.mem_cons_of_mem _ hy)]
theorem pick_rev (xs : Array Value) : ((List.range xs.size).filterMap fun (m : Nat) => xs[((xs.size : Int) - 1 + (m : Int) * (-1)).toNat]?).toArray = xs.toList.reverse.toArray := by
  have e : ((List.range xs.size).filterMap fun (m : Nat) => xs[((xs.size : Int) - 1 + (m : Int) * (-1)).toNat]?) = ((List.range xs.size).map fun k => xs.size - 1 - k).filterMap (xs[·]?) := by
    rw [List.filterMap_map]
    refine fm_congr fun m hm => ?_
    have := List.mem_range.mp hm
    show xs[_]? = xs[xs.size - 1 - m]?
    congr 1
    omega
  rw [e, PySem.W.krv_range, List.filterMap_reverse, PySem.W.krv_all]
theorem getItem_tup_rev {t sl : Addr} {items : Array Value} {vl vu vs : Value} {Q : Value → Shared → Prop} (ht : IsTup s.heap t items) (hs : s.heap.IsSliceOf sl vl vu vs) (pl : IsPart vl none) (pu : IsPart vu none) (ps : IsPart vs (some (-1)))
    (h : Q (.ref s.heap.objs.size) { s with heap := s.heap.push { cls := .type "tuple", data := .seq items.toList.reverse.toArray } }) (hsz : items.size ≤ sizeLine) : wpAny (model prog w) A (getItem (.ref t) (.ref sl)) Q E s := by
  have small : sizeOk (.seq items.toList.reverse.toArray) := by
    show items.toList.reverse.toArray.size ≤ sizeLine
    rw [List.size_toArray, List.length_reverse, Array.length_toList]
    exact hsz
  obtain ⟨ob, go, gc, gd⟩ := id hs
  unfold getItem
  try with_reducible refine wpAny_holding ?_
  first | refine wpAny_bind (wpAny_pure ?_) | skip
  refine wpAny_bind (wpAny_sequenceKey ht.typeIs (by decide) (wpAny_bind (wpAny_callSpecial?_slot (name := Str.ofString "__getitem__") ht.typeIs PyProof.Rows.slot_tuple_getitem (wpAny_call_entry PyProof.Rows.slot_tuple_getitem ht.typeIs entry_tuple_getitem ?_ (args_tuple_getitem _ _)))))
  show wpAny _ _ (Builtin.Tuple.tupleItemsOf (.ref t) >>= _) _ _ s
  refine wpAny_bind (tupleItemsOf_ ht (wpAny_bind (wpAny_typeOf ⟨ob, go, gc⟩ ?_)))
  rw [if_pos (by decide)]
  refine wpAny_bind (applied_rev hs pl pu ps ?_)
  show wpAny _ _ (if (((items.size : Int) - 1) == 0 && (-1 : Int) == 1 && items.size == items.size) = true then _ else _) _ _ s
  rw [if_neg (by rw [show ((-1 : Int) == 1) = false from rfl, Bool.and_false, Bool.false_and]; decide), pick_rev]
  first
    | exact wpAny_bind (m := Builtin.Tuple.tupleExact _) (wpAny_newObj_type (wpAny_pure ⟨_, rfl, wpAny_pure h⟩) small)
    | exact wpAny_bind (m := Builtin.Tuple.tupleExact _) (wpAny_newObj_type (wpAny_bind (wpAny_pure (wpAny_pure ⟨_, rfl, wpAny_pure h⟩))) small)
    | exact wpAny_bind (wpAny_bind (m := Builtin.Tuple.tupleExact _) (wpAny_newObj_type (wpAny_pure (wpAny_pure ⟨_, rfl, wpAny_pure h⟩)) small))
    | exact wpAny_bind (wpAny_bind (m := Builtin.Tuple.tupleExact _) (wpAny_newObj_type (wpAny_pure ⟨_, rfl, wpAny_pure h⟩) small))
end
def tRevT (K : PySem.W.Frag) (te : TE) : TE := fun σ H Q => te σ H fun x H1 => ∃ a xs, x = .ref a ∧ SqT K H1 a xs ∧ ∀ p, H1 p = none → Q (.ref p) (upd H1 p (.tup xs.reverse))
theorem pe_revT {X : Cx} {e : Expr} {te : TE} {k : Nat} {p1 p2 p3 pos : Pos} (he : PE X e te) : PE X (.Subscript e (.Slice none none (some (.UnaryOp .USub (.Constant (.int 1) k p1) p2)) p3) pos) (tRevT X.K te) := by
  refine ⟨fun pins s σ H Q I h => Subscript_ (thn (he.run pins s σ H _ I h) fun v s1 ⟨x, H1, I1, r1, a, xs, ex, hx, q⟩ => ?_)⟩
  subst ex
  cases r1
  have one : PO X (some (.UnaryOp .USub (.Constant (.int 1) k p1) p2)) (tPart (tUn (rU fun i => .int (-i)) (tC (.int 1)))) := po_some (pe_un un_neg pe_int)
  refine wpAny_Slice (thn (po_none.run pins s1 σ H1 (fun o G => o = none ∧ G = H1) I1 ⟨rfl, rfl⟩) fun vl s2 ⟨l, H2, I2, pl, el, e2⟩ => ?_)
  subst el e2
  refine thn (po_none.run pins s2 σ H2 (fun o G => o = none ∧ G = H2) I2 ⟨rfl, rfl⟩) fun vu s3 ⟨u, H3, I3, pu, eu, e3⟩ => ?_
  subst eu e3
  refine thn (one.run pins s3 σ H3 (fun o G => o = some (-1) ∧ G = H3) I3 ⟨1, rfl, -1, rfl, rfl, rfl⟩) fun vs s4 ⟨o, H4, I4, ps, eo, e4⟩ => ?_
  subst eo e4
  have J : Inv X pins σ H4 { s4 with heap := s4.heap.push { cls := .type "slice", data := .fields #[vl, vu, vs] } } := I4.kept (t' := s4.toks) fun b ob q => Heap.get?_push_of_some _ q
  obtain ⟨itm, r, ht, hz⟩ := J.tuple hx
  have hlen := r.length
  show wpAny (model X.prog X.w) X.A (subscriptTail e (.Slice none none (some (.UnaryOp .USub (.Constant (.int 1) k p1) p2)) p3) (.ref a) (.ref s4.heap.objs.size)) (EP X pins σ Q) X.xe { s4 with heap := s4.heap.push { cls := .type "slice", data := .fields #[vl, vu, vs] } }
  refine tail_any (ops := [.ref a, .ref s4.heap.objs.size]) ht.typeIs PyProof.Rows.slot_tuple_getitem.lookup ?_ (by with_unfolding_all rfl)
  refine getItem_tup_rev ht (Heap.IsSliceOf.new _ vl vu vs) pl pu ps ?_ (by rw [List.size_toArray]; omega)
  refine ⟨.ref _, _, J.laid (t' := s4.toks) (o := .tup xs.reverse) (fun b ob q => Heap.get?_push_of_some _ q) (Nat.le_refl _) ?_, rfl, q _ (J.hok.fresh (Nat.le_refl _))⟩
  exact ⟨by rw [List.length_reverse]; exact hz, _, r.reverse, IsTup.new _ _⟩
end TK

namespace TK
open PySem PySem.Spec PyProof.Rows L2
section
variable {X : Cx}
/-! ### a word of one's own in the middle; two ways to read the same text -/
theorem ps_cut {st : Stmt} {t : TS} (h : PS X st t) : PS X st (fun D σ H => ∃ R : L2.St → Hp → Prop, t { D with nx := R } σ H ∧ ∀ σ' H', R σ' H' → D.nx σ' H') :=
  ⟨fun pins s σ H D I ⟨R, q, k⟩ => thn (h.run pins s σ H _ I q) fun f s' z => by
    cases f with
    | next => obtain ⟨σ', H', I', r⟩ := z; exact ⟨σ', H', I', k _ _ r⟩
    | brk => exact z
    | cont => exact z
    | ret u => exact z⟩
theorem pe_cut {e : Expr} {t : TE} (h : PE X e t) : PE X e (fun σ H Q => ∃ R : VK, t σ H R ∧ ∀ v H', R v H' → Q v H') :=
  ⟨fun pins s σ H Q I ⟨R, q, k⟩ => thn (h.run pins s σ H _ I q) fun v s' z => by
    obtain ⟨x, H', I', r, q'⟩ := z
    exact ⟨x, H', I', r, k _ _ q'⟩⟩
theorem pt_cut {e : Expr} {t : TT} (h : PT X e t) : PT X e (fun σ H Q => ∃ R : Bool → Hp → Prop, t σ H R ∧ ∀ b H', R b H' → Q b H') :=
  ⟨fun pins s σ H Q I ⟨R, q, k⟩ => thn (h.run pins s σ H _ I q) fun v s' z => by
    obtain ⟨H', I', q'⟩ := z
    exact ⟨H', I', k _ _ q'⟩⟩
theorem pi_or {tg it : Expr} {w1 w2 : TI} (h1 : PI X tg it w1) (h2 : PI X tg it w2) : PI X tg it (fun σ H R => w1 σ H R ∨ w2 σ H R) :=
  ⟨fun pins s σ H R I h => h.elim (h1.run pins s σ H R I) (h2.run pins s σ H R I)⟩
theorem ps_or {st : Stmt} {t1 t2 : TS} (h1 : PS X st t1) (h2 : PS X st t2) : PS X st (fun D σ H => t1 D σ H ∨ t2 D σ H) :=
  ⟨fun pins s σ H D I h => h.elim (h1.run pins s σ H D I) (h2.run pins s σ H D I)⟩
theorem pe_or2 {e : Expr} {t1 t2 : TE} (h1 : PE X e t1) (h2 : PE X e t2) : PE X e (fun σ H Q => t1 σ H Q ∨ t2 σ H Q) :=
  ⟨fun pins s σ H Q I h => h.elim (h1.run pins s σ H Q I) (h2.run pins s σ H Q I)⟩
theorem pt_or2 {e : Expr} {t1 t2 : TT} (h1 : PT X e t1) (h2 : PT X e t2) : PT X e (fun σ H Q => t1 σ H Q ∨ t2 σ H Q) :=
  ⟨fun pins s σ H Q I h => h.elim (h1.run pins s σ H Q I) (h2.run pins s σ H Q I)⟩
end
end TK

namespace TK
open PySem PySem.Spec PyProof.Rows L2
section
variable {X : Cx}
/-! sum(t), a tuple of ints -/
def rSumT (K : PySem.W.Frag) : List V → Hp → VK → Prop := fun vs H Q => ∃ (a : Addr) (ns : List Int), vs = [V.ref a] ∧ SqT K H a (ns.map V.int) ∧ Q (.int ns.sum) H
theorem cr_sumT (hc : X.calm = true) : CallR X (.builtin "sum") (rSumT X.K) := by
  intro pins s σ H vs us Q I r h
  obtain ⟨a, ns, rfl, hs, q⟩ := h
  obtain ⟨itm, rv, p, _⟩ := I.tuple hs
  rw [Vals.ref1 r]
  obtain ⟨xs, e⟩ := rv.ints.allInts.items
  have hn : numsOf itm.toArray.toList = ns := rv.ints.numsOf
  rw [e, nums_intItems] at hn
  refine PySem.W.ktm_sumG (I.ok.hd hc) (e ▸ p) fun h' tk t' hk => ?_
  rw [preSum_eq, List.take_of_length_le (by simp), hn]
  exact ⟨.int _, H, I.kept hk, ⟨_, rfl⟩, q⟩
/-- *e within a comprehension -/
theorem pa_starK {K : PySem.W.Frag} {e : Expr} {es : List Expr} {te : TE} {t : TA} {p : Pos} (h : X.K = K) (he : PE X e te) (hr : PA X es t) (hs : starEach (.Starred e p :: es) X.env = (true, eval e X.env) :: starEach es X.env := by rfl) : PA X (.Starred e p :: es) (StX.tStar K te t) := h ▸ StX.pa_star he hr hs
theorem op_eqDK {K : PySem.W.Frag} (h : X.K = K) (hu : X.A.units + 64 < cLine) : OpR X (compareOp .Eq) (rEqD K) := h ▸ op_eqD hu
theorem op_neDK {K : PySem.W.Frag} (h : X.K = K) (hu : X.A.units + 64 < cLine) : OpR X (compareOp .NotEq) (rNeD K) := h ▸ op_neD hu
/-! ### objects at a row of addresses -/
def At (H : Hp) (us : List Addr) (os : List HO) : Prop := us.length = os.length ∧ ∀ (i : Nat) (u : Addr) (o : HO), us[i]? = some u → os[i]? = some o → H u = some o
theorem At.same {H H' : Hp} {us : List Addr} {os : List HO} (h : At H us os) (s : Same H H') : At H' us os := ⟨h.1, fun i u o a b => s _ _ (h.2 i u o a b)⟩
theorem At.nil {H : Hp} : At H [] [] := ⟨rfl, fun i u o a _ => by simp at a⟩
theorem At.append {H : Hp} {us vs : List Addr} {os ps : List HO} (h : At H us os) (k : At H vs ps) : At H (us ++ vs) (os ++ ps) := by
  refine ⟨by rw [List.length_append, List.length_append, h.1, k.1], fun i u o a b => ?_⟩
  by_cases hi : i < us.length
  · rw [List.getElem?_append_left hi] at a
    rw [List.getElem?_append_left (by rw [← h.1]; exact hi)] at b
    exact h.2 i u o a b
  · rw [List.getElem?_append_right (by omega)] at a
    rw [List.getElem?_append_right (by rw [← h.1]; omega), ← h.1] at b
    exact k.2 _ u o a b
theorem At.one {H : Hp} {u : Addr} {o : HO} (e : H u = some o) : At H [u] [o] := ⟨rfl, fun i u' o' a b => by
  match i, a, b with
  | 0, a, b =>
    cases a
    cases b
    exact e⟩
theorem At.get {H : Hp} {us : List Addr} {os : List HO} {i : Nat} {x : V} (h : At H us os) (e : (us.map V.ref)[i]? = some x) : ∃ (u : Addr) (o : HO), x = .ref u ∧ us[i]? = some u ∧ os[i]? = some o ∧ H u = some o := by
  rw [List.getElem?_map] at e
  cases ht : us[i]? with
  | none => rw [ht] at e; cases e
  | some t =>
    rw [ht] at e
    cases e
    have hi : i < os.length := by rw [← h.1]; exact (List.getElem?_eq_some_iff.mp ht).1
    exact ⟨t, os[i], rfl, rfl, List.getElem?_eq_getElem hi, h.2 i t _ ht (List.getElem?_eq_getElem hi)⟩
/-- a list elsewhere is written anew -/
theorem At.wrote {H : Hp} {us : List Addr} {os : List HO} {D : Addr} {xs : List V} {o : HO} (h : At H us os) (t : ∀ p ∈ os, ∃ ys, p = HO.tup ys) (e : H D = some (.lst xs)) : At (upd H D o) us os := ⟨h.1, fun i u p a b => by
  have := h.2 i u p a b
  rw [upd_ne fun z => ?_]
  · exact this
  · subst z
    obtain ⟨ys, rfl⟩ := t p (List.mem_of_getElem? b)
    rw [e] at this
    cases this⟩
end
end TK

namespace TK
open PySem PySem.Spec PyProof.Rows L2
/-! ### zip(tuple, list) -/
def ItzM (K : PySem.W.Frag) (a b : Addr) : It :=
  ⟨fun i H => ∃ xs ys : List V, SqT K H a xs ∧ SqL K H b ys ∧ i < xs.length ∧ i < ys.length,
    fun i H v H' => ∃ T x y, v = .ref T ∧ H T = none ∧ H' = upd H T (.tup [x, y]) ∧ (∀ xs, SqT K H a xs → xs[i]? = some x) ∧ ∀ ys, SqL K H b ys → ys[i]? = some y,
    fun i H => ∃ xs ys : List V, SqT K H a xs ∧ SqL K H b ys ∧ i ≤ xs.length ∧ i ≤ ys.length ∧ (i = xs.length ∨ i = ys.length)⟩
theorem ne_nat {x y : Nat} (h : x < y ∨ y < x) : x ≠ y := by omega
theorem no_two {x p q : Nat} (h1 : x < p ∨ p < x) (h2 : x < q ∨ q < x) : x ∉ [p, q] := by
  intro h
  rcases List.mem_cons.mp h with z | z
  · exact ne_nat h1 z
  · exact ne_nat h2 (List.mem_singleton.mp z)
theorem sep_zip (I a b : Nat) (la : a < I) (lb : b < I) : ZipSep2 (I + 4) (I + 2) (I + 3) I (I + 1) [I, a] [I + 1, b] :=
  ⟨ne_nat (x := I + 2) (y := I + 4) (by omega), ne_nat (x := I + 3) (y := I + 4) (by omega), ne_nat (x := I + 2) (y := I + 3) (by omega), ne_nat (x := I + 2) (y := I) (by omega), List.mem_cons_self .., no_two (x := I + 4) (by omega) (by omega), no_two (x := I + 3) (by omega) (by omega),
    ne_nat (x := I + 2) (y := I + 1) (by omega), List.mem_cons_self .., no_two (x := I + 4) (by omega) (by omega), no_two (x := I + 3) (by omega) (by omega), no_two (x := I) (by omega) (by omega), no_two (x := I + 1) (by omega) (by omega)⟩
theorem turn_zipM {P : Program} {w : World} {K : PySem.W.Frag} {elts : List Expr} {kk : Nat} {tpos : Pos} {a b z TI TO i1 i2 : Addr} (S : ZipSep2 z TI TO i1 i2 [i1, a] [i2, b]) (na : a ≠ i1) (nb : b ≠ i2) :
    Turn P w K (.Tuple elts kk tpos) (ItzM K a b) [z, TI, TO, i1, i2] z (fun i h => IsZip h z TI TO .none ∧ IsTupOf2 h TI (.ref i1) (.ref i2) ∧ (∃ x y, IsTupOf2 h TO x y) ∧ h.IsTupleIter i1 a i ∧ h.IsListIter i2 b i) where
  mem := by simp
  obj := fun i h st c hc => by
    obtain ⟨hz, hTI, ⟨x, y, hTO⟩, ⟨o1, e1, _, d1⟩, ⟨o2, e2, _, d2⟩⟩ := st
    have e' : c = z ∨ c = TI ∨ c = TO ∨ c = i1 ∨ c = i2 := by simpa using hc
    rcases e' with rfl | rfl | rfl | rfl | rfl
    · exact ⟨_, hz, fun v q => nomatch q⟩
    · exact ⟨_, hTI, fun v q => nomatch q⟩
    · exact ⟨_, hTO, fun v q => nomatch q⟩
    · exact ⟨o1, e1, fun v q => by rw [d1] at q; cases q⟩
    · exact ⟨o2, e2, fun v q => by rw [d2] at q; cases q⟩
  keep := fun i h h' st k => by
    obtain ⟨hz, hTI, ⟨x, y, hTO⟩, h1, h2⟩ := st
    exact ⟨k z (by simp) _ hz, k TI (by simp) _ hTI, ⟨x, y, k TO (by simp) _ hTO⟩, h1.at fun o q => k i1 (by simp) o q, h2.at fun o q => k i2 (by simp) o q⟩
  item := by
    intro X hP hw hK hc i pins s σ H E I hf st hg
    subst hP hw hK
    obtain ⟨hz, hTI, ⟨x0, y0, hTO⟩, h1, h2⟩ := st
    obtain ⟨xs, ys, hqx, hqy, lx, ly⟩ := hg
    obtain ⟨its, rv, p, _⟩ := I.tuple hqx
    obtain ⟨its2, rv2, p2, _⟩ := I.list hqy
    have hzl : z < s.heap.objs.size := Heap.lt_size hz
    have n1 : its.toArray.size = xs.length := by rw [List.size_toArray, ← rv.length]
    have n2 : its2.toArray.size = ys.length := by rw [List.size_toArray, ← rv2.length]
    have D1 := Draws.tuple (prog := X.prog) (w := X.w) (A := X.A.in1) (I.ok.hd hc) i1 a na its.toArray
    have D2 := Draws.list (prog := X.prog) (w := X.w) (A := X.A.in1) (I.ok.hd hc) i2 b nb its2.toArray
    refine wpAny_pyNext_zipD2_item S D1 D2 hz hTI hTO ⟨h1, p⟩ ⟨h2, p2.isList⟩ (by rw [n1]; exact lx) (by rw [n2]; exact ly) fun u u2 h' tk hu hu2 z' TO' d1 d2 hT hsz hk => ?_
    refine ⟨_, rfl, wpAny_letOwnedTupleGo_zip (s := { s with heap := h', toks := tk }) z' fun h'' z'' sb => ?_⟩
    obtain ⟨x, hx, ru⟩ : ∃ x, xs[i]? = some x ∧ RelV x u := by
      obtain ⟨v, hv, r⟩ := rv.get (List.getElem?_eq_getElem lx)
      have : its[i]? = some u := by simpa using hu
      rw [this] at hv
      cases hv
      exact ⟨_, List.getElem?_eq_getElem lx, r⟩
    obtain ⟨y, hy, ru2⟩ : ∃ y, ys[i]? = some y ∧ RelV y u2 := by
      obtain ⟨v, hv, r⟩ := rv2.get (List.getElem?_eq_getElem ly)
      have : its2[i]? = some u2 := by simpa using hu2
      rw [this] at hv
      cases hv
      exact ⟨_, List.getElem?_eq_getElem ly, r⟩
    have hT2 : h''.get? s.heap.objs.size = some { cls := .type "tuple", data := .seq #[u, u2] } := (sb.2 _ (Nat.ne_of_gt hzl)).trans hT
    have new : ObjOk X.prog X.w (upd H s.heap.objs.size (.tup [x, y])) h'' s.heap.objs.size (.tup [x, y]) :=
      ⟨by show 2 ≤ sizeLine; decide, [u, u2], .cons ru (.cons ru2 .nil), ⟨_, hT2, rfl, _, rfl⟩⟩
    have I1 : Inv X pins σ (upd H s.heap.objs.size (.tup [x, y])) { s with heap := h'', toks := tk } :=
      I.turnedNew (ch := [z, TI, TO, i1, i2]) (fun c o hb q => (sb.2 c (fun q' => hb (by simp [q']))).trans (hk c o (fun q' => hb (by simp [q'])) (fun q' => hb (by simp [q'])) (fun q' => hb (by simp [q'])) (fun q' => hb (by simp [q'])) q)) hf (Nat.le_refl _) new
    refine ⟨.ref s.heap.objs.size, _, I1, rfl, ⟨_, x, y, rfl, I.hok.fresh (Nat.le_refl _), rfl, fun l hl => by rw [I.tuple_inj hl hqx]; exact hx, fun l hl => by rw [I.list_inj hl hqy]; exact hy⟩, ⟨z'', ?_, ⟨u, u2, ?_⟩, ?_, ?_⟩, fun c hcm => ?_⟩
    · exact (sb.2 _ S.TIz).trans (hk _ _ S.TIz S.TITO S.TIi1 S.TIi2 hTI)
    · exact (sb.2 _ S.TOz).trans TO'
    · exact d1.1.at fun o q => (sb.2 _ (Ne.symm S.zi1)).trans q
    · exact d2.1.at fun o q => (sb.2 _ (Ne.symm S.zi2)).trans q
    · have hlt : c < s.heap.objs.size := by
        have e' : c = z ∨ c = TI ∨ c = TO ∨ c = i1 ∨ c = i2 := by simpa using hcm
        rcases e' with rfl | rfl | rfl | rfl | rfl
        · exact hzl
        · exact Heap.lt_size hTI
        · exact Heap.lt_size hTO
        · obtain ⟨_, e1, _⟩ := h1; exact Heap.lt_size e1
        · obtain ⟨_, e2, _⟩ := h2; exact Heap.lt_size e2
      rw [upd_ne (Nat.ne_of_lt hlt)]
      exact (hf c hcm).1
  done := by
    intro X hP hw hK hc i pins s σ H E I hf st hg
    subst hP hw hK
    obtain ⟨hz, hTI, ⟨x0, y0, hTO⟩, h1, h2⟩ := st
    obtain ⟨xs, ys, hqx, hqy, le1, le2, hend⟩ := hg
    obtain ⟨its, rv, p, _⟩ := I.tuple hqx
    obtain ⟨its2, rv2, p2, _⟩ := I.list hqy
    have n1 : its.toArray.size = xs.length := by rw [List.size_toArray, ← rv.length]
    have n2 : its2.toArray.size = ys.length := by rw [List.size_toArray, ← rv2.length]
    have D1 := Draws.tuple (prog := X.prog) (w := X.w) (A := X.A.in1) (I.ok.hd hc) i1 a na its.toArray
    have D2 := Draws.list (prog := X.prog) (w := X.w) (A := X.A.in1) (I.ok.hd hc) i2 b nb its2.toArray
    exact wpAny_pyNext_zipD2_end S D1 D2 hz hTI hTO ⟨h1, p⟩ ⟨h2, p2.isList⟩ (by rw [n1]; exact le1) (by rw [n2]; exact le2) (by rw [n1, n2]; exact hend) fun h' tk hk => ⟨rfl, I.turnedL (ch := [z, TI, TO, i1, i2]) (fun c o hb q =>
      hk c o (fun q' => hb (by simp [q'])) (fun q' => hb (by simp [q'])) (fun q' => hb (by simp [q'])) (fun q' => hb (by simp [q'])) q) hf⟩
  self := fun A i s Q E st h => wpAny_pyIter_zip st.1 h
def iZipM (K : PySem.W.Frag) (ta : TA) : TI := fun σ H R => ta σ H fun vs H1 => ∃ a b xs ys, vs = [.ref a, .ref b] ∧ SqT K H1 a xs ∧ SqL K H1 b ys ∧ R (ItzM K a b) H1
theorem pi_zipM {X : Cx} {e e2 : Expr} {ta : TA} {p pos tpos : Pos} {elts : List Expr} {kk : Nat} (hg : Gl X "zip") (hm : X.mg "zip" = none) (ha : PA X [e, e2] ta)
    (hs : starEach [e, e2] X.env = (false, eval e X.env) :: starEach [e2] X.env := by rfl) (hpl : (backTo pos (starEach [e2] X.env)).any (·.1) = false := by rfl) :
    PI X (.Tuple elts kk tpos) (.Call (.Name "zip" p) [e, e2] [] pos) (iZipM X.K ta) := by
  refine ⟨fun pins s σ H R I h => Call_ (ld_blt I hg hm PyProof.Rows.boot_zip (PyProof.Rows.callWith_type1 (thn (ha.run pos pins s σ H _ I h) fun us s1 ⟨vs, H1, I1, r1, q1⟩ => ?_) hs hpl))⟩
  obtain ⟨a, b, xs, ys, rfl, hqx, hqy, q⟩ := q1
  obtain ⟨u1, u2, rfl, r, r'⟩ := r1.two
  cases r
  cases r'
  obtain ⟨its, rv, p1, _⟩ := I1.tuple hqx
  obtain ⟨its2, rv2, p2, _⟩ := I1.list hqy
  have la : a < s1.heap.objs.size := by obtain ⟨_, q, _⟩ := p1; exact Heap.lt_size q
  have lb : b < s1.heap.objs.size := p2.lt
  refine zip_begins2 (begins_tuple a its.toArray) (begins_list b its2.toArray) p1 p2.isList fun h' hz hTI hTO h1 h2 hsz hk => wpAny_pyIter_zip hz ?_
  have I2 : Inv X pins σ H1 { s1 with heap := h' } := I1.kept (t' := s1.toks) hk
  refine ⟨s1.heap.objs.size + 4, [s1.heap.objs.size + 4, s1.heap.objs.size + 2, s1.heap.objs.size + 3, s1.heap.objs.size, s1.heap.objs.size + 1], _, _, H1, rfl, I2, turn_zipM (sep_zip _ _ _ la lb) (Nat.ne_of_lt la) (Nat.ne_of_lt (Nat.lt_succ_of_lt lb)), ⟨hz, hTI, ⟨_, _, hTO⟩, ⟨_, h1, rfl, rfl⟩, ⟨_, h2, rfl, rfl⟩⟩, fun c hcm => ?_, q⟩
  have hle : s1.heap.objs.size ≤ c := by
    have e' : c = s1.heap.objs.size + 4 ∨ c = s1.heap.objs.size + 2 ∨ c = s1.heap.objs.size + 3 ∨ c = s1.heap.objs.size ∨ c = s1.heap.objs.size + 1 := by simpa using hcm
    rcases e' with rfl | rfl | rfl | rfl | rfl
    · exact Nat.le_add_right _ _
    · exact Nat.le_add_right _ _
    · exact Nat.le_add_right _ _
    · exact Nat.le_refl _
    · exact Nat.le_add_right _ _
  exact I1.fpOk hle (I1.hok.fresh hle)
theorem walk_zipM {K : PySem.W.Frag} {a b : Addr} {xs ys : List V} (hl : xs.length = ys.length) : Walk (ItzM K a b) xs.length (fun H => SqT K H a xs ∧ SqL K H b ys) (YPair (fun i => xs[i]?) (fun i => ys[i]?)) where
  goes := fun i H hi q => ⟨xs, ys, q.1, q.2, hi, by omega⟩
  stops := fun H q => ⟨xs, ys, q.1, q.2, Nat.le_refl _, by omega, .inl rfl⟩
  yields := fun i H v H' _ q y => by
    obtain ⟨T, x, z, h1, h2, h3, h4, h5⟩ := y
    exact ⟨T, x, z, h1, h2, h3, h4 xs q.1, h5 ys q.2⟩
end TK

namespace TK
open PySem PySem.Spec PyProof.Rows L2
/-- a dict comprehension over whatever walks -/
theorem dc_it {J : It} {n : Nat} {G : Hp → Prop} {Y : Nat → Hp → V → Hp → Prop} (w : Walk J n G Y) {g : TG} {tt : TT} {tk tv : TE} {vs : List Nat} {σ : L2.St} {H1 : Hp} {D : Addr} {Qd : Hp → Prop} (Pv : Nat → Hp → Prop) (h0 : Pv 0 (upd H1 D (.dK []))) (hG : ∀ i H, i ≤ n → Pv i H → G H)
    (hs : ∀ i x H H', i < n → Pv i H → Y i H x H' → g x (wipe σ vs) H' fun σ2 H2 => wipe σ2 vs = wipe σ vs ∧ tt σ2 H2 fun b H3 =>
      if b = true then tk σ2 H3 fun y H4 => tv σ2 H4 fun z H5 => ∃ kvs k, y = kV k ∧ H5 D = some (.dK kvs) ∧ kvs.length < sizeLine ∧ Pv (i + 1) (upd H5 D (.dK (putK kvs k z))) else Pv (i + 1) H3) (hd : ∀ H, Pv n H → Qd H) :
    ∃ W : Nat → Nat → Hp → Prop, (∃ m, W 0 m (upd H1 D (.dK []))) ∧ ∀ i m H, W i m H →
      (J.stop i H ∧ Qd H) ∨ (J.go i H ∧ ∃ Nx : Hp → Prop, (∀ H', Nx H' → ∃ m', m' < m ∧ W (i + 1) m' H') ∧ ∀ x H', J.yld i H x H' → g x (wipe σ vs) H' fun σ2 H2 => wipe σ2 vs = wipe σ vs ∧ tt σ2 H2 fun b H3 =>
        if b = true then tk σ2 H3 fun y H4 => tv σ2 H4 fun z H5 => ∃ kvs k, y = kV k ∧ H5 D = some (.dK kvs) ∧ kvs.length < sizeLine ∧ Nx (upd H5 D (.dK (putK kvs k z))) else Nx H3) := by
  refine ⟨fun i m H => m = n - i ∧ i ≤ n ∧ Pv i H, ⟨n, by simp, Nat.zero_le _, h0⟩, ?_⟩
  rintro i m H ⟨rfl, hi, p⟩
  have q := hG i H hi p
  by_cases hlt : i < n
  · exact .inr ⟨w.goes i H hlt q, Pv (i + 1), fun H' p' => ⟨n - (i + 1), by omega, rfl, hlt, p'⟩, fun x H' y => hs i x H H' hlt p (w.yields i H x H' hlt q y)⟩
  · have e : i = n := by omega
    subst e
    exact .inl ⟨w.stops H q, hd H p⟩
end TK

namespace TK
open PySem PySem.Spec PyProof.Rows L2
section
variable {X : Cx}
/-- tuple(a list), the new tuple known to the object -/
theorem call_tuple_frz : CallR X (.type "tuple") (fun xs H Q => ∃ p ys, xs = [.ref p] ∧ SqL X.K H p ys ∧ ∀ (l : Addr) (o : Obj), H l = none → o.cls = .type "tuple" → o.dict = none → Q (.ref l) (upd H l (.frz o (.tup ys)))) := by
  intro pins s σ H xs us Q I r h
  obtain ⟨p, ys, rfl, hq, q⟩ := h
  obtain ⟨u, rfl, rx⟩ := vals1 r
  cases rx
  obtain ⟨its, r', pl, hz⟩ := I.list hq
  have hlen := r'.length
  refine call_tuple_list pl.isList (fun h' kp => ?_) (by simp only [List.size_toArray] <;> omega)
  have I1 : Inv X pins σ H { s with heap := h' } := I.kept (t' := s.toks) kp
  have I2 : Inv X pins σ (upd H h'.objs.size (.frz { cls := .type "tuple", data := .seq its.toArray } (.tup ys))) { s with heap := h'.push { cls := .type "tuple", data := .seq its.toArray } } :=
    I1.laid (t' := s.toks) (fun b o e => Heap.get?_push_of_some _ e) (Nat.le_refl _) (show ObjOk X.prog X.w _ _ _ (.frz _ (.tup ys)) from ⟨Heap.get?_push_size _ rfl, hz, its, r', IsTup.new _ _⟩)
  exact ⟨.ref h'.objs.size, _, I2, rfl, q _ _ (I1.hok.fresh (Nat.le_refl _)) rfl rfl⟩
/-- the value is such a tuple -/
def FrzT (x : V) (H : Hp) : Prop := ∃ p o xs, x = .ref p ∧ H p = some (.frz o (.tup xs)) ∧ o.cls = .type "tuple" ∧ o.dict = none
def tBMF (r : V → List V → Hp → VK → Prop) (to : TE) (t : TA) : TE := fun σ H Q => to σ H fun x H1 => FrzT x H1 ∧ t σ H1 fun xs H2 => r x xs H2 Q
variable {o e : Expr} {es : List Expr} {to : TE} {t : TA} {name : Str} {apos cpos : Pos} {id : String} {r : V → List V → Hp → VK → Prop}
theorem pe_bmF (pa : PlainAttrs "tuple") (slot : Slot "tuple" name id) (hty : typeOf (.builtin id) = pure (.type "method_descriptor")) (hm : MtR X id r) (ho : PE X o to) (ha : PA X (e :: es) t)
    (hbase : attributeBase o name X.env (eval o X.env) = eval o X.env := by rfl)
    (hfew : ((backTo cpos (starEach (e :: es) X.env)).all (fun x => !x.1) && (backToKw cpos (keywordEach [] X.env)).all (fun x => x.1.isSome)
      && decide ((e :: es).length + ([] : List Keyword).length + (if ([] : List Keyword).isEmpty then 0 else 1) < 30)) = true := by rfl)
    (hline : (apos.endLine == cpos.line) = true := by rfl) (hs : starEach (e :: es) X.env = (false, eval e X.env) :: starEach es X.env := by rfl) (hplain : (backTo cpos (starEach es X.env)).any (·.1) = false := by rfl) :
    PE X (.Call (.Attribute o name apos) (e :: es) [] cpos) (tBMF r to t) := by
  refine ⟨fun pins s σ H Q I h => ?_⟩
  refine wpAny_Call_method_late hbase hfew hline rfl (thn (ho.run pins s σ H _ I h) fun v s1 ⟨x, H1, I1, r1, ty, q1⟩ => ?_)
  have h12 : s1.TypeIs v "tuple" ∧ ∀ a, v = .ref a → ∃ ob, s1.heap.get? a = some ob ∧ ob.dict = none := by
    obtain ⟨p, ob, xs, rfl, hp, hc, hd⟩ := ty
    cases r1
    obtain ⟨eo, _⟩ := I1.hok p _ hp
    refine ⟨⟨ob, eo, hc⟩, fun a e => ?_⟩
    cases e
    exact ⟨ob, eo, hd⟩
  refine ⟨"tuple", id, pa, slot, hty, h12.1, h12.2, ?_⟩
  have hA := ha.run cpos pins s1 σ H1 _ I1 q1
  rw [hs] at hA ⊢
  refine Calls.callWith_builtin (by show (false || (backTo cpos (starEach es X.env)).any (·.1)) = false; rw [hplain] <;> rfl) (Calls.evalArgs_plain ?_)
  exact thn hA fun us s2 ⟨vs, H2, I2, r2, q2⟩ => hm pins s2 σ H2 x vs v us Q I2 r1 r2 q2
end
theorem tupFrz {K : PySem.W.Frag} {H : Hp} {a : Addr} {o : Obj} {xs : List V} (h : H a = some (.frz o (.tup xs))) : SqT K H a xs := .inl (.inr ⟨o, h⟩)
end TK

namespace TK
open PySem PySem.Spec PyProof.Rows L2
/-! ### the special methods of an own class -/
structure Own (K : PySem.W.Frag) (C : Addr) (name : Str) (g : Addr) : Prop where
  at_ : PySem.W.findIn K (.ref C) name = some (some (.ref g))
  fn : PySem.W.isFn K (.ref g) = true
def IsIn (H : Hp) (x : V) (C : Addr) : Prop := ∃ a dx fs, x = .ref a ∧ H a = some (.ins C dx fs)
section
variable {X : Cx} {CX : CXT} {C g : Addr} {n : Nat} {fd : FuncData} {ps : List Str} {sp : Sp} {E : XK} {pins : List (Addr × Obj)} {σ : L2.St} {H : Hp} {s : Shared}
theorem run_own {A : Around} {Q : VK} {us : List Value} {vs : List V} (F : FnOk X.prog X.w X.K X.mg X.base CX n g fd ps sp) (hr : Room n A) (e0 : Env0 X.prog X.w X.K X.mg X.base A X.stack s H) (hb : Binds X.K fd ps []) (hx : Passes CX X E)
    (I : Inv X pins σ H s) (r : Vals vs us) (h : sp vs H Q E) : wpAny (model X.prog X.w) A (call (.ref g) us) (EP X pins σ Q) X.xe s := by
  have hl : (us ++ []).length = ps.length := by rw [List.append_nil, ← r.length]; exact F.len _ _ _ _ h
  have hbb := hb s us I.kIn hl
  rw [List.append_nil] at hbb
  refine wpAny_call (codeAny_mono (F.run A X.stack s H ⟨us, []⟩ us vs Q E hr e0 hbb r h) fun r s' hq => ?_)
  cases r with
  | error e => exact hx pins σ H s e s' I hq
  | ok fl =>
    cases fl with
    | ret u => exact I.after hq
    | next => exact False.elim hq
    | brk => exact False.elim hq
    | cont => exact False.elim hq
theorem own_at {a dx : Addr} {fs : List (Str × V)} (I : Inv X pins σ H s) (h : H a = some (.ins C dx fs)) : ∃ ox od, PySem.W.InstAt s.heap a ox C od := by
  obtain ⟨mA, J, _⟩ := ins_get I.hok h
  obtain ⟨od, J, _⟩ := J.look
  exact ⟨_, _, J⟩
/-! o[k] -/
def rOwn (C : Addr) (sp : Sp) (E : XK) : R2 := fun x y H Q => IsIn H x C ∧ sp [x, y] H Q E
def PlainIxO (b : Expr) : Prop := ∀ (x : Addr) (i : Value), subscripted b true (.ref x) i = runValue (.builtin "lifetime.subscript" ⟨[.ref x, i], []⟩)
theorem pe_ixOwn {a b : Expr} {ta tb : TE} {pos : Pos} (c : Own X.K C "__getitem__" g) (cf : PySem.W.fnIn X.K g = true) (F : FnOk X.prog X.w X.K X.mg X.base CX n g fd ps sp) (hr : Room (n + 1) X.A) (hb : Binds X.K fd ps []) (hx : Passes CX X E)
    (ha : PE X a ta) (hb' : PE X b tb) (hs : PlainIxO b) : PE X (.Subscript a b pos) (tOp (rOwn C sp E) ta tb) := by
  refine ⟨fun pins s σ H Q I h => ?_⟩
  refine Subscript_ (binT ha hb' I h fun v u s2 x y H2 I2 rx ry q => ?_)
  obtain ⟨⟨p, dx, fs, rfl, hp⟩, q⟩ := q
  cases rx
  obtain ⟨ox, od, J⟩ := own_at I2 hp
  obtain ⟨m, hF⟩ := I2.fr
  exact PySem.W.sub_K hF I2.ok.mod.kin J c.at_ cf c.fn (run_own F hr.in1 I2.env0.in1 hb hx I2 (vs := [.ref p, y]) (.cons rfl (.cons ry .nil)) q) (hs _ _)
/-! o + p, o * p, o | p: two of one class -/
def rOwn2 (C : Addr) (sp : Sp) (E : XK) : R2 := fun x y H Q => IsIn H x C ∧ IsIn H y C ∧ sp [x, y] H Q E
theorem op_ownBin {op : Operator} (c : Own X.K C (PySem.dunder op.info.2) g) (sf : PySem.W.selfFirst X.K C = true) (F : FnOk X.prog X.w X.K X.mg X.base CX n g fd ps sp) (hr : Room n X.A) (hb : Binds X.K fd ps []) (hx : Passes CX X E) :
    OpR X (binaryOp op) (rOwn2 C sp E) := by
  intro pins s σ H x y v u Q I rx ry h
  obtain ⟨⟨a, dx, fs, rfl, ha⟩, ⟨b, dy, gs, rfl, hb'⟩, q⟩ := h
  cases rx
  cases ry
  obtain ⟨ox, od, J⟩ := own_at I ha
  obtain ⟨ox', od', J'⟩ := own_at I hb'
  obtain ⟨m, hF⟩ := I.fr
  refine PySem.W.binop_K hF I.ok.mod.kin J J'.type sf c.at_ c.fn (wpAny_mono (run_own F hr I.env0 hb hx I (vs := [.ref a, .ref b]) (.cons rfl (.cons rfl .nil)) q) (fun w s' z => ?_) fun _ _ x => x)
  obtain ⟨z', H', I', rz, qz⟩ := z
  exact SlX.cmpback rz ⟨z', H', I', rz, qz⟩
/-! o == p: two of one class -/
theorem op_ownEq {op : CmpOp} (hop : ∀ a b, compareOp op a b = richCompare op a b) (c : Own X.K C (cmpInfo op).2.1 g) (F : FnOk X.prog X.w X.K X.mg X.base CX n g fd ps sp) (hr : Room n X.A) (hb : Binds X.K fd ps []) (hx : Passes CX X E) :
    OpR X (compareOp op) (rOwn2 C sp E) := by
  intro pins s σ H x y v u Q I rx ry h
  obtain ⟨⟨a, dx, fs, rfl, ha⟩, ⟨b, dy, gs, rfl, hb'⟩, q⟩ := h
  cases rx
  cases ry
  obtain ⟨ox, od, J⟩ := own_at I ha
  obtain ⟨ox', od', J'⟩ := own_at I hb'
  obtain ⟨m, hF⟩ := I.fr
  rw [hop]
  refine PySem.W.cmp_K (op := op) (tb := .ref C) hr.units0 hF I.ok.mod.kin J J'.type (by simp [PySem.W.notFirst]) c.at_ c.fn (wpAny_mono (run_own F hr I.env0 hb hx I (vs := [.ref a, .ref b]) (.cons rfl (.cons rfl .nil)) q) (fun w s' z => ?_) fun _ _ x => x)
  obtain ⟨z', H', I', rz, qz⟩ := z
  exact SlX.cmpback rz ⟨z', H', I', rz, qz⟩
/-! x in o, x not in o -/
def rOwnIn (neg : Bool) (C : Addr) (sp : Sp) (E : XK) : R2 := fun x y H Q => IsIn H y C ∧ sp [y, x] H (fun z H' => ∃ b, z = .bl b ∧ Q (.bl (if neg then !b else b)) H') E
theorem op_ownIn (c : Own X.K C "__contains__" g) (F : FnOk X.prog X.w X.K X.mg X.base CX n g fd ps sp) (hr : Room n X.A) (hb : Binds X.K fd ps []) (hx : Passes CX X E) : OpR X (compareOp .In) (rOwnIn false C sp E) := by
  intro pins s σ H x y v u Q I rx ry h
  obtain ⟨⟨a, dx, fs, rfl, ha⟩, q⟩ := h
  cases ry
  obtain ⟨ox, od, J⟩ := own_at I ha
  obtain ⟨m, hF⟩ := I.fr
  refine PySem.W.in_K hF I.ok.mod.kin J c.at_ c.fn (wpAny_mono (run_own F hr I.env0 hb hx I (vs := [.ref a, x]) (.cons rfl (.cons rx .nil)) q) (fun w s' z => ?_) fun _ _ x => x)
  obtain ⟨z', H', I', rz, b, rfl, qz⟩ := z
  cases (show w = Value.bool b from rz)
  exact wpAny_truthy_bool ⟨.bl b, H', I', rfl, by simpa using qz⟩
theorem op_ownNotIn (c : Own X.K C "__contains__" g) (F : FnOk X.prog X.w X.K X.mg X.base CX n g fd ps sp) (hr : Room n X.A) (hb : Binds X.K fd ps []) (hx : Passes CX X E) : OpR X (compareOp .NotIn) (rOwnIn true C sp E) := by
  intro pins s σ H x y v u Q I rx ry h
  obtain ⟨⟨a, dx, fs, rfl, ha⟩, q⟩ := h
  cases ry
  obtain ⟨ox, od, J⟩ := own_at I ha
  obtain ⟨m, hF⟩ := I.fr
  refine PySem.W.notIn_K hF I.ok.mod.kin J c.at_ c.fn (wpAny_mono (run_own F hr I.env0 hb hx I (vs := [.ref a, x]) (.cons rfl (.cons rx .nil)) q) (fun w s' z => ?_) fun _ _ x => x)
  obtain ⟨z', H', I', rz, b, rfl, qz⟩ := z
  cases (show w = Value.bool b from rz)
  exact wpAny_truthy_bool ⟨.bl (!b), H', I', rfl, by simpa using qz⟩
/-! len(o) -/
def rOwnLen (C : Addr) (sp : Sp) (E : XK) : List V → Hp → VK → Prop := fun xs H Q => ∃ x, xs = [x] ∧ IsIn H x C ∧ sp [x] H (fun z H' => ∃ k : Nat, z = .int k ∧ k < 2 ^ 63 ∧ Q z H') E
theorem call_ownLen (c : Own X.K C "__len__" g) (F : FnOk X.prog X.w X.K X.mg X.base CX n g fd ps sp) (hr : Room (n + 1) X.A) (hb : Binds X.K fd ps []) (hx : Passes CX X E) : CallR X (.builtin "len") (rOwnLen C sp E) := by
  intro pins s σ H xs us Q I r h
  obtain ⟨x, rfl, ⟨a, dx, fs, rfl, ha⟩, q⟩ := h
  obtain ⟨u, rfl, ru⟩ := vals1 r
  cases ru
  obtain ⟨ox, od, J⟩ := own_at I ha
  obtain ⟨m, hF⟩ := I.fr
  refine PySem.W.len_K hF I.ok.mod.kin J c.at_ c.fn (wpAny_mono (run_own F hr.in1 I.env0.in1 hb hx I (vs := [.ref a]) (.cons rfl .nil) q) (fun w s' z => ?_) fun _ _ x => x)
  obtain ⟨z', H', I', rz, k, rfl, hk, qz⟩ := z
  obtain ⟨t, rfl⟩ := (show ∃ t, w = Value.int k t from rz)
  exact ⟨⟨by omega, by omega⟩, .int k, H', I'.tok _, ⟨_, rfl⟩, qz⟩
/-! iter(t), t a tuple; for x in o -/
abbrev itTObj (t : Addr) (i : Nat) : Obj := { cls := .type "tuple_iterator", data := .fields #[.ref t, .int i 0] }
def ItT (t it : Addr) : HO := .ext fun h => h.get? it = some (itTObj t 0)
theorem itT_ok {P : Program} {w : World} {H : Hp} {h : Heap} {t it : Addr} (e : h.get? it = some (itTObj t 0)) : ObjOk P w H h it (ItT t it) := ⟨e, ⟨_, e⟩, fun h1 h2 q k => k _ q⟩
theorem call_iterT : CallR X (.builtin "iter") (fun xs H Q => ∃ (l : Addr) (zs : List V), xs = [.ref l] ∧ SqT X.K H l zs ∧ ∀ it, H it = Option.none → X.s_0.heap.objs.size ≤ it → Q (.ref it) (upd H it (ItT l it))) := by
  intro pins s σ H xs us Q I r h
  obtain ⟨l, zs, rfl, hq, q⟩ := h
  obtain ⟨u, rfl, ru⟩ := vals1 r
  cases ru
  obtain ⟨its, rv, p, hz⟩ := I.tuple hq
  refine Calls.call_function_entry (by decide +kernel) (by decide +kernel) PySem.W.kdk_entry_iter (PySem.W.kdk_args_iter _) ?_
  unfold Builtin.«iter»
  refine wpAny_bind (m := someArgs "iter" 1 2 _) (wpAny_of_eq (a := [Value.ref l]) (by first | rfl | kernel_rfl!) ?_)
  show wpAny _ _ (pyIter (.ref l) >>= _) _ _ _
  refine wpAny_bind (wpAny_pyIter_tuple (show s.heap.IsTuple l its.toArray from p) ?_)
  exact wpAny_pure ⟨_, rfl, .ref s.heap.objs.size, _, I.laid (t' := s.toks) (fun b u e => Heap.get?_push_of_some _ e) (Nat.le_refl _) (itT_ok (Heap.get?_push_size _ rfl)), rfl, q _ (I.hok.fresh (Nat.le_refl _)) I.sz⟩
/-- what an __iter__ over a tuple does -/
def QIt (H : Hp) (n : Nat) (t : Addr) : VK := fun v H' => ∃ it, v = .ref it ∧ H it = Option.none ∧ n ≤ it ∧ H' = upd H it (ItT t it)
end
def FnIt (P : Program) (w : World) (K : PySem.W.Frag) (mg : Str → Option Value) (base : Heap) (k : Nat) (f : Addr) (R : Addr → Addr → Hp → Prop) : Prop :=
  ∀ (A : Around) (outer : List Env) (s : Shared) (H : Hp) (a t : Addr), Room k A → Env0 P w K mg base A outer s H → R a t H → codeAny (model P w) A (.call (.ref f) ⟨[.ref a], []⟩) (CR CX0 outer P w H s (QIt H s.heap.objs.size t) E0) s
theorem fnIt_of {P : Program} {w : World} {K : PySem.W.Frag} {mg : Str → Option Value} {base : Heap} {k : Nat} {f : Addr} {x qual : Str} {st : Stmt} {fd : FuncData} {N : List Str} {R : Addr → Addr → Hp → Prop} (F : Fun K x qual st f fd) (S : FnScope N ["self"] (defScope st)) (b : Binds K fd ["self"] [])
    (hbody : ∀ (cdv : Value) (A : Around) (outer : List Env) (s : Shared) (H : Hp) (a t : Addr), Room k (A.deeper (envOfC qual (defScope st) s.heap.objs.size f cdv)) → R a t H →
      ∃ tt, PSs (cxOf CX0 P w K mg base N qual (defScope st) f cdv A outer s H E0).nox (defBody st) tt ∧ tt { nx := fun _ H' => QIt H s.heap.objs.size t .non H', rt := QIt H s.heap.objs.size t } (start N [.ref a]) H) : FnIt P w K mg base (k + 1) f R := by
  intro A outer s H a t hr e0 hR
  obtain ⟨oc, od, kV, doc, pm, an, cdv, ct, osl, rfl, lk, hcd⟩ := F.ex
  have KX : K.In s.heap := e0.mod.kin.keeps fun b o e => (e0.bs b o e).1
  have lim : s.heap.NoLimit := e0.mod.nolimit.keeps fun b o e => (e0.bs b o e).1
  have hkind : ∀ y ∈ ([Str.ofString "self"] : List Str).zip [Value.ref a], (defScope st).names.lookup y.1 = some .local ∨ ((defScope st).names.lookup y.1 = some .cell ∧ ((cellsFrom (s.heap.objs.size + 1) (defScope st).names []).lookup y.1).isSome = true) := fun ⟨n, v⟩ hy => by
    rcases S.par n (List.of_mem_zip hy).1 with q | q
    · exact .inl q
    · exact .inr ⟨q, PySem.W.cellsFrom_some _ _ _ (.inl q)⟩
  have hbb := b s [.ref a] KX (by simp)
  rw [List.append_nil] at hbb
  refine codeAny_call_function hr.depth (KX _ _ lk) rfl S.co S.gen rfl (PySem.W.codeRec_of KX hcd) (hbb _ _ _ _ ?_)
  refine wpAny_newFunctionEnv_cells S.kind hkind fun env he s1 x => ?_
  subst he
  refine ⟨lim.keeps x.toInCall.keep, codeAny_func ?_⟩
  obtain ⟨t', ht, hq⟩ := hbody cdv A outer s H a t (hr.deeper _) hR
  have I : Inv (cxOf CX0 P w K mg base N qual (defScope st) f cdv A outer s H E0) [] (start N [V.ref a]) H s1 := inv_start S hr.hd e0 rfl (.cons rfl .nil) x
  refine wpAny_mono (ht.nox.run [] s1 (start N [V.ref a]) H _ I hq) (fun fl s' hs => ?_) fun e s' hs => hs
  have fin : ∀ {σ' : L2.St} {H' : Hp} {v : V} {u : Value}, Inv (cxOf CX0 P w K mg base N qual (defScope st) f cdv A outer s H E0) [] σ' H' s' → RelV v u → QIt H s.heap.objs.size t v H' → CE outer P w H s (QIt H s.heap.objs.size t) u s' :=
    fun {σ' H' v u} J rv q => ⟨v, H', J.os, J.bare, J.base, J.hok, rv, q⟩
  cases fl with
  | ret u =>
    obtain ⟨v, σ', H', J, rv, q⟩ := hs
    exact fin J rv q
  | next =>
    obtain ⟨σ', H', J, q⟩ := hs
    exact fin (v := V.non) (u := Value.none) J rfl q
  | brk =>
    obtain ⟨_, _, _, q⟩ := hs
    exact False.elim q
  | cont =>
    obtain ⟨_, _, _, q⟩ := hs
    exact False.elim q
section
variable {X : Cx} {CX : CXT} {C g : Addr} {n : Nat} {fd : FuncData} {ps : List Str} {sp : Sp} {E : XK} {pins : List (Addr × Obj)} {σ : L2.St} {H : Hp} {s : Shared}
def iOwn (K : PySem.W.Frag) (C : Addr) (R : Addr → Addr → Hp → Prop) (te : TE) : TI := fun σ H Z => te σ H fun x H1 => ∃ a dx fs t, x = .ref a ∧ H1 a = some (.ins C dx fs) ∧ R a t H1 ∧ (∃ xs, SqT K H1 t xs) ∧ Z (Itt K t) H1
theorem pi_own {R : Addr → Addr → Hp → Prop} {e tg : Expr} {te : TE} (c : Own X.K C "__iter__" g) (F : FnIt X.prog X.w X.K X.mg X.base n g R) (hr : Room n X.A) (he : PE X e te) : PI X tg e (iOwn X.K C R te) := by
  refine ⟨fun pins s σ H Z I h => ?_⟩
  refine thn (he.run pins s σ H _ I h) fun v s1 ⟨x, H1, I1, r1, q1⟩ => ?_
  obtain ⟨a, dx, fs, t, rfl, ha, hR, ⟨xs, hxs⟩, q⟩ := q1
  cases r1
  obtain ⟨ox, od, J⟩ := own_at I1 ha
  obtain ⟨m, hF⟩ := I1.fr
  refine PySem.W.owit_iter hF I1.ok.mod.kin J c.at_ c.fn ?_
  refine wpAny_call (codeAny_mono (F X.A X.stack s1 H1 a t hr I1.env0 hR) fun r s' hq => ?_)
  cases r with
  | error e => exact False.elim hq
  | ok fl =>
    cases fl with
    | ret u =>
      obtain ⟨z, H2, os, bare, un, hok, rz, it, rfl, hn, hge, rfl⟩ := id hq
      have I2 : Inv X pins σ (upd H1 it (ItT t it)) s' := I1.call' os un hok bare (fun b z => absurd z (by simp))
      cases rz
      have hget : s'.heap.get? it = some (itTObj t 0) := (I2.hok it _ upd_same).1
      have hT : s'.TypeIs (.ref it) "tuple_iterator" := ⟨_, hget, rfl⟩
      have hi : (upd H1 it (ItT t it)) it = some (.ext fun h => h.get? it = some (itTObj t 0)) := upd_same
      have I3 := ItX.inv_drop I2 hi
      have e3 : ItX.dropH (upd H1 it (ItT t it)) it = H1 := ItX.dropH_upd hn
      have fp := ItX.inv_fp I2 hi (Nat.le_trans I1.sz hge)
      rw [e3] at I3 fp
      unfold PySem.W.OwitIt
      refine wpAny_specialOf (name := Str.ofString "__next__") hT PySem.F.slot_tuple_iterator_next.lookup ?_
      refine ⟨it, [it], _, _, H1, rfl, I3, turn_tuple t it, ⟨_, hget, rfl, rfl⟩, fun b hb => ?_, q⟩
      cases List.mem_singleton.mp hb
      exact fp
    | next => exact False.elim hq
    | brk => exact False.elim hq
    | cont => exact False.elim hq
end
end TK

namespace TK
open PySem PySem.Calls PySem.Spec PyProof.Rows PyProof.V L2
/-! ### two dicts with tuples as keys, equal whatever the order -/
section
variable {prog : Program} {w : World} {K : Type} [DecidableEq K] {knd : HeapKind prog w K} {A : Around} {E : Value → Shared → Prop} {s : Shared}
theorem samePairsH {nm : String} {a b : Addr} {ka kb : List (K × Addr × Value)} {Q : Bool → Shared → Prop} (hu : knd.room A) (ha : (a == sysModules) = false) (hb : (b == sysModules) = false)
    (da : s.heap.DictOfH knd a ka) (db : s.heap.DictOfH knd b kb) (hl : ka.length = kb.length) (hits : ∀ x ∈ ka, ∃ p, atKey kb x.1 = some p ∧ SeqAt.EqAt A s x.2.2 p.2 true) (h : Q true s) :
    wpAny (model prog w) A (Builtin.Dict.samePairs nm a b) Q E s := by
  obtain ⟨oa, es, ep, hoa, _, hda, hea, hia, _⟩ := da
  obtain ⟨ob, es', ep', hob, _, hdb, heb, hib, hnb⟩ := db
  have hla : ka.length = es.size := (size_of_entries hea).symm
  have hlb : kb.length = es'.size := (size_of_entries heb).symm
  have hsz : es.size = es'.size := by omega
  unfold Builtin.Dict.samePairs Builtin.Dict.showsAll
  rw [if_neg (show ¬ (a == sysModules) = true by rw [ha]; exact Bool.false_ne_true), if_neg (show ¬ (b == sysModules) = true by rw [hb]; exact Bool.false_ne_true)]
  refine wpAny_bind (wpAny_pure (wpAny_bind (wpAny_pure ?_)))
  refine wpAny_bind (wpAny_dictEntries hoa hda ?_)
  dsimp only
  refine wpAny_bind (wpAny_dictEntries hob hdb ?_)
  rw [if_neg (by rw [hsz]; simp)]
  refine wpAny_bind (wpAny_dictEpoch hoa hda ?_)
  refine wpAny_bind ?_
  rw [Std.Legacy.Range.forIn_eq_forIn_range']
  simp only [Std.Legacy.Range.size, Nat.sub_zero, Nat.add_sub_cancel, Nat.div_one]
  refine wpAny_forIn_list _
    (fun rest q s' => s' = s ∧ q = (none, ()) ∧ ∃ i, rest = List.range' i (es.size - i) ∧ i ≤ es.size)
    _ ?_ ?_ _ _ ⟨rfl, rfl, 0, by simp, Nat.zero_le _⟩
  · rintro x rest q s' ⟨rfl, rfl, i, hr, hi⟩
    have hlt : i < es.size := by
      rcases Nat.lt_or_ge i es.size with h | h
      · exact h
      · rw [Nat.sub_eq_zero_of_le h] at hr; simp at hr
    obtain ⟨rfl, hrest⟩ : x = i ∧ rest = List.range' (i + 1) (es.size - (i + 1)) := by
      have e : es.size - i = (es.size - (i + 1)) + 1 := by omega
      rw [e, List.range'_succ] at hr
      injection hr with h1 h2
      exact ⟨h1, h2⟩
    refine wpAny_bind (wpAny_dictEntries hoa hda ?_)
    have hlt' : x < ka.length := by rw [hla]; exact hlt
    have hent : es[x]? = some (entryOfKey knd ka[x]) := by rw [entry_at hea x, List.getElem?_eq_getElem hlt']; rfl
    rw [hent]
    obtain ⟨p, hp, heq⟩ := hits ka[x] (List.getElem_mem hlt')
    have hkey := hia ka[x] (List.getElem_mem hlt')
    show wpAny _ _ (holding [(entryOfKey knd ka[x]).key, (entryOfKey knd ka[x]).val] _ >>= _) _ _ _
    refine wpAny_bind (wpAny_holding (wpAny_bind (wpAny_dictFind_heap hu hkey hob hdb heb hib hnb ?_ ?_)))
    · intro hno
      rw [atKey_none_of_get hno] at hp
      exact nomatch hp
    · intro j p' hj
      have ep' : p' = p := Option.some.inj ((atKey_of_get hnb hj).symm.trans hp)
      subst ep'
      refine wpAny_bind (wpAny_dictEntries hob hdb ?_)
      rw [entry_at heb j, hj]
      refine wpAny_holding (heq prog w _ _ ?_)
      show wpAny _ _ (if (!true) = true then _ else _) _ _ _
      rw [if_neg (by decide)]
      refine wpAny_bind (wpAny_dictEpoch hoa hda ?_)
      rw [if_neg (by simp)]
      exact wpAny_pure ⟨rfl, rfl, x + 1, hrest, hlt⟩
  · rintro q s' ⟨rfl, rfl, i, hr, hi⟩
    refine wpAny_pure ?_
    exact h
theorem eqDictH {a b : Addr} {ka kb : List (K × Addr × Value)} {Q : Value → Shared → Prop} (hr : knd.room A.in1) (ha : (a == sysModules) = false) (hb : (b == sysModules) = false)
    (da : s.heap.DictOfH knd a ka) (db : s.heap.DictOfH knd b kb) (hu : A.units < cLine) (hl : ka.length = kb.length) (hits : ∀ x ∈ ka, ∃ p, atKey kb x.1 = some p ∧ SeqAt.EqAt A.in1 s x.2.2 p.2 true) (h : Q (.bool true) s) :
    wpAny (model prog w) A (compareOp .Eq (.ref a) (.ref b)) Q E s := by
  refine wpAny_richCompare_same_room (op := .Eq) da.typeIs db.typeIs PySem.F.slot_dict_eq (wpAny_call_entry PySem.F.slot_dict_eq da.typeIs PySem.F.entry_dict_eq ?_ (PySem.F.args_dict_eq_2 _ _)) hu
  show wpAny _ _ (Builtin.Dict.dictSlotArgs "__eq__" ⟨[.ref a, .ref b], []⟩ >>= _) _ _ s
  refine wpAny_bind ?_
  unfold Builtin.Dict.dictSlotArgs
  refine wpAny_bind (wpAny_notOrdered_dict da.typeIs ?_)
  show wpAny _ _ (pure (Value.ref a, Value.ref b)) _ _ s
  refine wpAny_pure ?_
  refine wpAny_bind (wpAny_isInstance (T := "dict") db.typeIs PySem.F.sub_dict_dict ?_)
  simp only [Bool.not_true, Bool.false_eq_true, if_false]
  refine wpAny_bind (wpAny_pure (wpAny_bind (wpAny_pure ?_)))
  refine wpAny_bind (samePairsH hr ha hb da db hl hits ?_)
  refine wpAny_pure ⟨_, rfl, ?_, ?_⟩
  · exact fun x => nomatch x
  · simpa using h
end
section
variable {X : Cx}
def rEqDT : R2 := fun x y H Q => ∃ a b ks ls, x = .ref a ∧ y = .ref b ∧ H a = some (.dT ks) ∧ H b = some (.dT ls) ∧ ks.length = ls.length ∧ (∀ p ∈ ks, valV ls p.1 = some p.2 ∧ flatB p.2 = true) ∧ Q (.bl true) H
theorem hitsT {H : Hp} {A : Around} {s : Shared} {ls : List (List Key × V)} {xb : List (List Key × Addr × Value)} (rb : KT H ls xb) {ks : List (List Key × V)} {xa : List (List Key × Addr × Value)} (ra : KT H ks xa) :
    (∀ p ∈ ks, valV ls p.1 = some p.2 ∧ flatB p.2 = true) → ∀ x ∈ xa, ∃ p, atKey xb x.1 = some p ∧ SeqAt.EqAt A s x.2.2 p.2 true := by
  unfold KT at ra
  induction ra with
  | nil => intro _ x h; exact absurd h List.not_mem_nil
  | @cons p q ps qs h t ih =>
    intro hp x hx
    rcases List.mem_cons.mp hx with rfl | hx
    · obtain ⟨h1, _, h2⟩ := h
      obtain ⟨e, f⟩ := hp p List.mem_cons_self
      have rr : RelO (some p.2) ((atKey xb p.1).map (·.2)) := by rw [← e]; exact rb.val p.1
      obtain ⟨y, hy, ry⟩ := rr.some_of
      obtain ⟨z, hz, rfl⟩ := Option.map_eq_some_iff.mp hy
      exact ⟨z, by rw [← h1]; exact hz, eqAt_same h2 ry f⟩
    · exact ih (fun p' hm => hp p' (List.mem_cons_of_mem _ hm)) x hx
theorem op_eq_dictT (hu : X.A.units + 1 < cLine) : OpR X (compareOp .Eq) rEqDT := by
  intro pins s σ H x y v u Q I rx ry h
  obtain ⟨a, b, ks, ls, rfl, rfl, ea, eb, hlen, hp, q⟩ := h
  obtain rfl : v = Value.ref a := rx
  obtain rfl : u = Value.ref b := ry
  obtain ⟨_, ya, va, ra, da⟩ := dt_rd I.hok (.inl ea)
  obtain ⟨_, yb, vb, rb, db⟩ := dt_rd I.hok (.inl eb)
  have hl : va.length = vb.length := by rw [← Paired.length ra, ← Paired.length rb]; exact hlen
  exact eqDictH (tupleKind_room_in1 hu) ya yb da db (Nat.lt_of_succ_lt hu) hl (hitsT rb ra hp) (fin_bl I q rfl)
end
end TK

namespace TK
open PySem PySem.Spec PyProof.Rows L2
/-- any loop of a comprehension over whatever walks (for two generators: one time each) -/
theorem walk_go {J : It} {n : Nat} {G : Hp → Prop} {Y : Nat → Hp → V → Hp → Prop} (w : Walk J n G Y) {H0 : Hp} {Qd : Hp → Prop} {body : (Hp → Prop) → V → Hp → Prop} (Pv : Nat → Hp → Prop) (h0 : Pv 0 H0) (hG : ∀ i H, i ≤ n → Pv i H → G H)
    (hs : ∀ i x H H', i < n → Pv i H → Y i H x H' → body (Pv (i + 1)) x H') (hd : ∀ H, Pv n H → Qd H) :
    ∃ W : Nat → Nat → Hp → Prop, (∃ m, W 0 m H0) ∧ ∀ i m H, W i m H →
      (J.stop i H ∧ Qd H) ∨ (J.go i H ∧ ∃ Nx : Hp → Prop, (∀ H', Nx H' → ∃ m', m' < m ∧ W (i + 1) m' H') ∧ ∀ x H', J.yld i H x H' → body Nx x H') := by
  refine ⟨fun i m H => m = n - i ∧ i ≤ n ∧ Pv i H, ⟨n, by simp, Nat.zero_le _, h0⟩, ?_⟩
  rintro i m H ⟨rfl, hi, p⟩
  have q := hG i H hi p
  by_cases hlt : i < n
  · exact .inr ⟨w.goes i H hlt q, Pv (i + 1), fun H' p' => ⟨n - (i + 1), by omega, rfl, hlt, p'⟩, fun x H' y => hs i x H H' hlt p (w.yields i H x H' hlt q y)⟩
  · have e : i = n := by omega
    subst e
    exact .inl ⟨w.stops H q, hd H p⟩
theorem pe_fldK {X : Cx} {K : PySem.W.Frag} {e : Expr} {f : Str} {pos : Pos} {ta : TE} (h : X.K = K) (he : PE X e ta) (hb : attributeBase e f X.env (eval e X.env) = eval e X.env) : PE X (.Attribute e f pos) (tFld K ta f) := h ▸ pe_fld he hb
theorem pi_tupK {X : Cx} {K : PySem.W.Frag} {tg e : Expr} {te : TE} (h : X.K = K) (he : PE X e te) : PI X tg e (iTup K te) := h ▸ pi_tup he
end TK

/-! list(o), o an own object whose __iter__ gives the iterator of a tuple, with a __len__ -/
namespace TK
open PySem PySem.Spec PyProof.Rows L2
theorem sqT_upd {K : PySem.W.Frag} {H : Hp} {t q : Addr} {o : HO} {xs : List V} (h : SqT K H t xs) (hq : H q = none) : SqT K (upd H q o) t xs := by
  rcases h with (h | ⟨o', h⟩) | h
  · exact .inl (.inl (by rw [upd_ne (ne_of_none h hq)]; exact h))
  · exact .inl (.inr ⟨o', by rw [upd_ne (ne_of_none h hq)]; exact h⟩)
  · exact .inr h
theorem big1000 : 1000 < sizeLine := by rw [sizeLine_eq]; decide
section
variable {X : Cx} {C gi gl : Addr} {n : Nat} {fdL : FuncData} {spL : Sp} {CX : CXT} {E : XK} {pins : List (Addr × Obj)} {σ : L2.St} {H : Hp} {s : Shared}
theorem tup_loop {A1 : Around} (hd : A1.in1.handled = none) {t it q : Addr} {xs : List V} {Rs : Result → Shared → Prop} (hq : H q = none) (hT : SqT X.K H t xs) (hx : xs.length ≤ 1000) (iq : it ≠ q)
    (hdone : ∀ s, Inv X pins σ (upd H q (.lst xs)) s → Rs (.ok (.ret .none)) s) (hf : FpOk X pins (upd H q (.lst [])) it) :
    ∀ (k i : Nat) (s : Shared), xs.length - i = k → i ≤ xs.length → Inv X pins σ (upd H q (.lst (xs.take i))) s → s.heap.IsTupleIter it t i → codeAny (model X.prog X.w) A1 (.builtin "list.extend.loop" ⟨[.ref q, .ref it, .none], []⟩) Rs s := by
  intro k
  obtain ⟨f0, f1, f2, f3, f4, f5⟩ := hf
  rw [upd_ne iq] at f0
  induction k with
  | zero =>
    intro i s hk hi I st
    have hin : i = xs.length := by omega
    refine codeAny_builtin PySem.F.entry_extend_loop ?_
    rw [Around.under_plainId PySem.F.plain_extend_loop _]
    show wpAny _ A1.in1 (pyNext (.ref it) >>= _) _ _ s
    obtain ⟨its, rv, p, hz⟩ := I.tuple (sqT_upd (o := .lst (xs.take i)) hT hq)
    have hl := rv.length
    refine wpAny_bind (wpAny_pyNext_tuple_end hd st (show s.heap.IsTuple t its.toArray from p) (by simp; omega) fun h' eb => ?_)
    refine wpAny_pure (hdone _ ?_)
    have := I.turned (t' := s.toks) (fun b o hb e => eb b o hb e) (by rw [upd_ne iq]; exact f0) f1 f3 f4 f5
    rw [hin, List.take_length] at this
    exact this
  | succ k ih =>
    intro i s hk hi I st
    have hlt : i < xs.length := by omega
    refine codeAny_builtin PySem.F.entry_extend_loop ?_
    rw [Around.under_plainId PySem.F.plain_extend_loop _]
    show wpAny _ A1.in1 (pyNext (.ref it) >>= _) _ _ s
    obtain ⟨its, rv, p, hz⟩ := I.tuple (sqT_upd (o := .lst (xs.take i)) hT hq)
    obtain ⟨u, hu, ru⟩ := rv.get (List.getElem?_eq_getElem hlt)
    refine wpAny_bind (wpAny_pyNext_tuple_item st (show s.heap.IsTuple t its.toArray from p) (x := u) (by simpa using hu) fun h' st' sb => ?_)
    have I1 := I.turned (t' := s.toks) (h' := h') (fun b o hb e => (sb.2 b hb).trans e) (by rw [upd_ne iq]; exact f0) f1 f3 f4 f5
    show wpAny _ A1.in1 (updateSeq q (·.push u) >>= _) _ _ _
    obtain ⟨z, its2, k2, r2, hl, e⟩ := I1.lstM upd_same
    have hl2 : its2.length = i := by rw [← hl, List.length_take]; omega
    have hb := big1000
    refine wpAny_bind (wpAny_updateSeq e rfl (wpAny_pure ⟨plainId_quiet PySem.F.plain_extend_loop _, ?_⟩) (by rw [List.size_toArray]; omega) (by show (its2.toArray.push u).size ≤ sizeLine + 1; rw [Array.size_push, List.size_toArray]; omega))
    have I2 := I1.lset (f := (·.push u)) (its' := its2 ++ [u]) (ys := xs.take i ++ [xs[i]]) (t' := s.toks) upd_same e (by simp) (r2.append (.cons ru .nil)) (by rw [List.length_append, List.length_singleton, List.length_take]; omega)
    refine ih (i + 1) _ (by omega) (by omega) ?_ (st'.at fun o e => (Heap.get?_update_other _ _ (Ne.symm iq)).trans e)
    rw [upd_upd, show xs.take i ++ [xs[i]] = xs.take (i + 1) by rw [List.take_add_one, List.getElem?_eq_getElem hlt]; rfl] at I2
    exact I2
theorem len_hint {A1 : Around} {Q : Bool → Shared → Prop} {Er : Value → Shared → Prop} {a dx : Addr} {fs : List (Str × V)} {m : Nat} (c : Own X.K C "__len__" gl) (F : FnOk X.prog X.w X.K X.mg X.base CX n gl fdL ["self"] spL) (hb : Binds X.K fdL ["self"] []) (hx : Passes CX X.nox E)
    (sb : Sub X n A1.in1) (I : Inv X pins σ H s) (ha : H a = some (.ins C dx fs)) (hm : m ≤ 1000) (h : spL [.ref a] H (fun v H' => v = .int m ∧ H' = H) E) (q : ∀ s', Inv X pins σ H s' → ∀ b, Q b s') :
    wpAny (model X.prog X.w) A1 (Builtin.List.listLengthHint (.ref a)) Q Er s := by
  obtain ⟨ox, od, J⟩ := own_at I ha
  obtain ⟨m0, hF⟩ := I.fr
  unfold Builtin.List.listLengthHint
  refine wpAny_bind (wpAny_bind (J.type.here ((PySem.W.looks_findIn I.kIn c.at_).here ?_)))
  refine PySem.W.KFB.if_not rfl ?_
  refine PySem.W.KFB.if_so rfl ?_
  refine wpAny_bind (wpAny_rule ?_)
  have e0 : Env0 X.prog X.w X.K X.mg X.base A1.in1 X.stack s H := by
    have e := I.env0
    exact ⟨by rw [sb.fr]; exact e.frames, e.mod, e.bs, e.bsz, e.funs, e.frf, e.hok, e.bare⟩
  refine wpAny_bind (wpAny_attempt (PySem.W.len_K hF I.ok.mod.kin J c.at_ c.fn (wpAny_mono (run_own (X := X.nox) F sb.room e0 hb hx (I.wish _) (vs := [.ref a]) (.cons rfl .nil) h) (fun w s' z => ?_) fun _ _ x => False.elim x)))
  obtain ⟨z', H', I', rz, rfl, rfl⟩ := z
  obtain ⟨t, rfl⟩ := (show ∃ t, w = Value.int m t from rz)
  refine ⟨⟨by omega, by omega⟩, ?_⟩
  refine wpAny_bind (m := asInt? _) (wpAny_pure ?_)
  have hs := big1000
  refine PySem.W.KFB.if_not (by simp [Builtin.List.listTooLong]; omega) ?_
  exact wpAny_pure (q _ (I'.unwish.tok _) _)
theorem extendT {R : Addr → Addr → Hp → Prop} {Q : VK} {a dx t q : Addr} {fs : List (Str × V)} {ys : List V} (hc : X.calm = true) (ci : Own X.K C "__iter__" gi) (FI : FnIt X.prog X.w X.K X.mg X.base n gi R) (cl : Own X.K C "__len__" gl) (F : FnOk X.prog X.w X.K X.mg X.base CX n gl fdL ["self"] spL) (hb : Binds X.K fdL ["self"] []) (hx : Passes CX X.nox E)
    (hr : Room (n + 3) X.A) (fr : H q = none) (I2 : Inv X pins σ (upd H q (.lst [])) s) (ha : H a = some (.ins C dx fs)) (hT : SqT X.K H t ys) (hy : ys.length ≤ 1000) (hRa : R a t (upd H q (.lst []))) (hsp : spL [.ref a] (upd H q (.lst [])) (fun v H' => v = .int ys.length ∧ H' = upd H q (.lst [])) E) (hQ : Q (V.ref q) (upd H q (.lst ys))) :
    wpAny (model X.prog X.w) X.A.in1.in1 (Builtin.List.listExtendWith (.ref q) (.ref a) .none)
      (fun fin s' => match fin with | .done f => wants (fun r s₂ => r = .none ∧ EP X pins σ Q (.ref q) s₂) X.xe (.ok f) s' | .again c' => c'.quiet = true ∧ codeAny (model X.prog X.w) X.A.in1 c' (wants (fun r s₂ => r = .none ∧ EP X pins σ Q (.ref q) s₂) X.xe) s') (fun e s' => wants (fun r s₂ => r = .none ∧ EP X pins σ Q (.ref q) s₂) X.xe (.error e) s') s := by
  have sb : Sub X n X.A.in1.in1.in1 := (Sub.in1 (Sub.in1 (Sub.in1 (⟨hr, rfl⟩ : Sub X (n + 3) X.A))))
  have sb2 : Sub X (n + 1) X.A.in1.in1 := (Sub.in1 (Sub.in1 (⟨hr, rfl⟩ : Sub X (n + 3) X.A)))
  have ne : q ≠ a := Ne.symm (ne_of_none ha fr)
  have ha2 : upd H q (.lst []) a = some (.ins C dx fs) := by rw [upd_ne (Ne.symm ne)]; exact ha
  obtain ⟨ox, od, J⟩ := own_at I2 ha2
  obtain ⟨m0, hF⟩ := I2.fr
  unfold Builtin.List.listExtendWith
  refine wpAny_bind (J.type.here ?_)
  have h1 : Builtin.List.listSameRef (.ref q) (.ref a) = false := by simp [Builtin.List.listSameRef, ne]
  have h2 : (Value.ref C == Value.type "list") = false := rfl
  have h3 : (Value.ref C == Value.type "tuple") = false := rfl
  simp only [h1, h2, h3, Bool.or_false, Bool.false_eq_true, if_false]
  refine wpAny_bind (PySem.W.owit_iter hF I2.ok.mod.kin J ci.at_ ci.fn ?_)
  have e0 : Env0 X.prog X.w X.K X.mg X.base X.A.in1.in1 X.stack s (upd H q (.lst [])) := by
    have e := I2.env0
    exact ⟨by rw [sb2.fr]; exact e.frames, e.mod, e.bs, e.bsz, e.funs, e.frf, e.hok, e.bare⟩
  refine wpAny_call (codeAny_mono (FI X.A.in1.in1 X.stack s _ a t (sb2.room.mono (by omega)) e0 hRa) fun r s' hq => ?_)
  cases r with
  | error e => exact False.elim hq
  | ok fl =>
    cases fl with
    | next => exact False.elim hq
    | brk => exact False.elim hq
    | cont => exact False.elim hq
    | ret u =>
      obtain ⟨z, H2, os, bare, un, hok, rz, it, rfl, hn, hge, rfl⟩ := id hq
      have I3 : Inv X pins σ (upd (upd H q (.lst [])) it (ItT t it)) s' := I2.call' os un hok bare (fun b z => absurd z (by simp))
      cases rz
      have hget : s'.heap.get? it = some (itTObj t 0) := (I3.hok it _ upd_same).1
      have hTy : s'.TypeIs (.ref it) "tuple_iterator" := ⟨_, hget, rfl⟩
      have hi : (upd (upd H q (.lst [])) it (ItT t it)) it = some (.ext fun h => h.get? it = some (itTObj t 0)) := upd_same
      have I4 := ItX.inv_drop I3 hi
      have e3 : ItX.dropH (upd (upd H q (.lst [])) it (ItT t it)) it = upd H q (.lst []) := ItX.dropH_upd hn
      have fp := ItX.inv_fp I3 hi (Nat.le_trans I2.sz hge)
      rw [e3] at I4 fp
      have iq : it ≠ q := fun e => by rw [e, upd_same] at hn; cases hn
      unfold PySem.W.OwitIt
      refine wpAny_specialOf (name := Str.ofString "__next__") hTy PySem.F.slot_tuple_iterator_next.lookup ?_
      have Ip := I4.pinned (fp := [it]) (fun b hb => by cases List.mem_singleton.mp hb; exact fp) (fun b hb => by cases List.mem_singleton.mp hb; exact ⟨_, hget, fun v e => nomatch e⟩)
      have epin : pinsAt [it] s'.heap = [(it, itTObj t 0)] := by simp [pinsAt, hget]
      rw [epin] at Ip
      refine wpAny_bind (wpAny_holding (len_hint cl F hb hx sb Ip ha2 hy hsp fun s5 I5p bb => ?_))
      have hst : s5.heap.IsTupleIter it t 0 := ⟨_, (I5p.pin (it, itTObj t 0) (by simp)).1, rfl, rfl⟩
      have I5 := I5p.unpinned
      obtain ⟨z5, its5, k5, r5, hl5, e5⟩ := I5.lstM upd_same
      cases r5
      have hdn : X.A.in1.in1.handled = none := I5.ok.hd hc
      have fin : ∀ s' : Shared, Inv X pins σ (upd H q (.lst ys)) s' → wants (fun r s₂ => r = .none ∧ EP X pins σ Q (.ref q) s₂) X.xe (.ok (.ret .none)) s' := fun s' I' => ⟨rfl, .ref q, _, I', rfl, hQ⟩
      refine wpAny_ite_split (fun _ => ?_) (fun _ => wpAny_pure ⟨plainId_quiet PySem.F.plain_extend_loop _, tup_loop (A1 := X.A.in1) hdn fr hT hy iq fin fp ys.length 0 s5 rfl (Nat.zero_le _) I5 hst⟩)
      refine wpAny_bind (wpAny_rule ?_)
      refine wpAny_bind ?_
      show wpAny _ _ (updateSeq q (·.push .none) >>= fun _ => updateSeq q (·.pop)) _ _ _
      refine wpAny_bind (wpAny_updateSeq e5 rfl ?_)
      have I6 := I5.lset (f := (·.push Value.none)) (its' := [Value.none]) (ys := [.non]) (t' := s5.toks) upd_same e5 (by simp) (.cons rfl .nil) (by rw [List.length_singleton, sizeLine_eq]; decide)
      obtain ⟨z4, its4, k4, r4, hl4, e4⟩ := I6.lstM upd_same
      obtain ⟨u4, rfl, ru4⟩ := r4.one
      refine wpAny_updateSeq e4 rfl ?_ (by show 1 ≤ sizeLine; rw [sizeLine_eq]; decide) (by show 0 ≤ sizeLine + 1; exact Nat.zero_le _)
      have I7 := I6.lset (f := (·.pop)) (its := [u4]) (its' := []) (ys := []) (t' := s5.toks) upd_same e4 (by rfl) .nil (Nat.zero_le _)
      rw [upd_upd, upd_upd] at I7
      refine wpAny_pure ⟨plainId_quiet PySem.F.plain_extend_loop _, tup_loop (A1 := X.A.in1) hdn fr hT hy iq fin fp ys.length 0 _ rfl (Nat.zero_le _) I7 ?_⟩
      exact (hst.at fun o e => (Heap.get?_update_other _ _ (Ne.symm iq)).trans e).at fun o e => (Heap.get?_update_other _ _ (Ne.symm iq)).trans e
/-- list(o) -/
def rListOwn (K : PySem.W.Frag) (C : Addr) (R : Addr → Addr → Hp → Prop) (spL : Sp) (E : XK) : List V → Hp → VK → Prop := fun xs H Q => ∃ (a dx : Addr) (fs : List (Str × V)) (t : Addr) (ys : List V), xs = [.ref a] ∧ H a = some (.ins C dx fs) ∧ SqT K H t ys ∧ ys.length ≤ 1000 ∧
  (∀ q, H q = none → R a t (upd H q (.lst [])) ∧ spL [.ref a] (upd H q (.lst [])) (fun v H' => v = .int ys.length ∧ H' = upd H q (.lst [])) E) ∧ ∀ q, H q = none → Q (.ref q) (upd H q (.lst ys))
theorem call_listOwnT {R : Addr → Addr → Hp → Prop} (hc : X.calm = true) (ci : Own X.K C "__iter__" gi) (FI : FnIt X.prog X.w X.K X.mg X.base n gi R) (cl : Own X.K C "__len__" gl) (F : FnOk X.prog X.w X.K X.mg X.base CX n gl fdL ["self"] spL) (hb : Binds X.K fdL ["self"] []) (hx : Passes CX X.nox E)
    (hr : Room (n + 3) X.A) : CallR X (.type "list") (rListOwn X.K C R spL E) := by
  intro pins s σ H xs us Q I rv h
  obtain ⟨a, dx, fs, t, ys, rfl, ha, hT, hy, hR, hQ⟩ := h
  obtain ⟨u, rfl, ru⟩ := rv.one
  cases ru
  refine callType_codes (Q₁ := fun obj s₁ => obj = .ref s.heap.objs.size ∧ s₁ = { s with heap := s.heap.push { cls := .type "list", data := .seq #[] } }) PySem.F.called_list (PySem.F.typeCall_list_1 _) PySem.F.entry_list_init
    (code_list_new _ ⟨rfl, rfl⟩) fun obj s₁ h₁ => ?_
  obtain ⟨rfl, rfl⟩ := h₁
  have hS : (s.heap.push { cls := .type "list", data := .seq #[] }).get? s.heap.objs.size = some { cls := .type "list", data := .seq #[] } := Heap.get?_push_size _ rfl
  refine ⟨⟨_, hS, rfl⟩, PySem.F.args_list_init_2 _ _, ?_⟩
  have fr : H s.heap.objs.size = none := I.hok.fresh (Nat.le_refl _)
  generalize hqe : s.heap.objs.size = q at *
  have I1 : Inv X pins σ (upd H q (.lst [])) { s with heap := s.heap.push { cls := .type "list", data := .seq #[] } } := hqe ▸ I.lnew (its := []) (t' := s.toks) .nil (Nat.zero_le _)
  show wpAny _ _ (do let old ← Builtin.List.listItems (.ref q); Builtin.List.listUpdate (.ref q) (fun _ => #[]); letGo old.toList.reverse; Builtin.List.listExtendWith (.ref q) (.ref a) .none) _ _ _
  refine wpAny_bind ?_
  unfold Builtin.List.listItems
  refine wpAny_bind (wpAny_seqItems hS rfl (wpAny_pure ?_))
  show wpAny _ _ (updateSeq q (fun _ => #[]) >>= fun _ => letGo (#[] : Array Value).toList.reverse >>= fun _ => Builtin.List.listExtendWith (.ref q) (.ref a) .none) _ _ _
  refine wpAny_bind (wpAny_updateSeq hS rfl ?_)
  have I2 := I1.lset (f := fun _ => #[]) (its := []) (its' := []) (ys := []) (t' := s.toks) upd_same hS rfl .nil (Nat.zero_le _)
  rw [upd_upd] at I2
  refine wpAny_bind (wpAny_letGo ?_)
  exact extendT hc ci FI cl F hb hx hr fr I2 ha hT hy (hR q fr).1 (hR q fr).2 (hQ q fr)
end
end TK

/-! an own exception over ValueError whose __init__ says super().__init__(..); self.f = x -/
namespace TK
section
open PySem PySem.W PySem.Calls PySem.Spec PyProof.Rows
variable {prog : Program} {w : World} {A : Around} {E : Value → Shared → Prop} {h : Heap} {g : Array GenState} {d : Drawn} {t : Nat} {os : OsState}
variable {nm q : Str} {C N : Addr} {bs bm : List Value} {hdct : Bool} {sn : List Str} {sub : List Value} {ab : Bool} {col : Option Bool} {dd : Option Addr} {k0 k1 k2 k3 k5 : Option Value}
/-- the bound __init__ called -/
theorem call_mw {u e t0 : Addr} {rest : List Value} {Q : Value → Shared → Prop}
    (hC : h.get? C = some (excClassObj nm q C N bs bm hdct sn sub ab col dd k0 k1 k2 k3 k5 "ValueError.__new__")) (he : h.get? e = some (HandSPX.excO C t0)) (hu : h.get? u = some (kxs_mw "ValueError.__init__" e)) (hrest : rest.length ≤ sizeLine)
    (hq : ∀ h' t1, (∀ b o, b ≠ e → h.get? b = some o → h'.get? b = some o) → h'.get? e = some (HandSPX.excO C t1) → Q .none ⟨h', g, d, t, os⟩) :
    wpAny (model prog w) A (call (.ref u) rest) Q E ⟨h, g, d, t, os⟩ := by
  refine wpAny_call (codeAny_of_tree ?_)
  show wpAny _ A.in1 (callAny (.ref u) ⟨rest, []⟩) _ _ _
  simp only [callAny]
  refine wpAny_bind (wpAny_load hu ?_)
  simp only [kxs_mw, show (Value.type "method-wrapper" == Value.type "method" || Value.type "method-wrapper" == Value.type "builtin_function_or_method" || Value.type "method-wrapper" == Value.type "method-wrapper") = true by decide, if_true]
  refine PySem.W.KFB.if_so (by decide) ?_
  refine wpAny_bind (ESX.check_bound F.excBase_ValueError hC he rfl ?_)
  refine wpAny_bind (wpAny_pure (wpAny_pure ?_))
  refine ⟨Code.quiet_builtin _ (by decide +kernel), codeAny_builtin F.excBase_ValueError.initEntry ?_⟩
  rw [Around.under_plainId F.excBase_ValueError.init.plain _]
  wp_walk
  refine hq _ h.objs.size (fun b o hb ho => ?_) ?_
  · rw [Heap.get?_update_other _ _ (Ne.symm hb)]
    exact Heap.get?_push_of_some _ ho
  · rw [Heap.get?_update_self _ (Heap.get?_push_of_some _ he) rfl]
    rfl
end
open PySem PySem.Spec PyProof.Rows L2 NdefX
open PySem.W (ks_superIn kxs_mw kxs_getMethod kxs_ValueError kxs_callWith)
def supBody (p0 p1 p2 p3 p4 p5 p6 p7 p8 : Pos) (msg : Expr) (arg fld : Str) : List Stmt :=
  [.Expr (.Call (.Attribute (.Call (.Name "super" p0) [] [] p1) "__init__" p2) [msg] [] p3) p4, .Assign [.Attribute (.Name "self" p5) fld p6] (.Name arg p7) p8]
/-- X.__init__(self, y): the exception at a gets its dict with the one field -/
def spSup (C : Addr) (fld : Str) (okv : V → Prop) : Sp := fun vs H Q _ => ∃ (a : Addr) (y : V), vs = [.ref a, y] ∧ okv y ∧ H a = some (exo a C none) ∧ ∀ dx, H dx = none → dx ≠ a → Q .non (upd (upd H dx (exd dx [(fld, y)])) a (exo a C (some dx)))
theorem fn_sup {CX : CXT} {P : Program} {w : World} {K : PySem.W.Frag} {mg : Str → Option Value} {base : Heap} {k : Nat} {f C cc cda : Addr} {qual arg fld file : Str} {params : Arguments} {scope : Scope} {msg : Expr} {p0 p1 p2 p3 p4 p5 p6 p7 p8 : Pos}
    {oc ccl cl dV kV doc pm ct : Value} {an od cdd cld : Option Addr} {osl ccs csl : Array (Option Value)} {vs0 : Array Value} {tf : Tok} {okv : V → Prop} {te : TE} {ar : Arg}
    (lk : K.lookup f = some ⟨oc, od, .func (PySem.W.fnX "__init__" qual params (supBody p0 p1 p2 p3 p4 p5 p6 p7 p8 msg arg fld) scope [("__class__", cc)] dV kV doc pm an (.ref cda) ct), osl⟩) (hcd : PySem.W.codeIn K (.ref cda) qual = true)
    (hcode : K.lookup cda = some ⟨ccl, cdd, .fields vs0, ccs⟩) (hvs : vs0[2]? = some (.str file tf)) (hfile : ((P.main.file : Str) == file) = true)
    (hcell : K.lookup cc = some ⟨cl, cld, .cell (some (.ref C)), csl⟩)
    (S : NScope ["self", arg, "__class__"] ["self", arg] ["__class__"] scope) (hks : scope.names.lookup ("super" : Str) = some .globalImplicit)
    (hpar : (params.posonlyargs ++ params.args).head? = some ar) (har : ar.arg = "self")
    (htop : (P.main.scope.names.lookup ("super" : Str)).isSome = false) (hsup : mg "super" = none)
    (T : OexC K C) (hmr : PySem.W.mroIn K C (.ref C) = some true) (hst : PySem.W.nsIn K cStatics "thirdparty.any" = some none) (hal : ks_superIn K C C "__init__" = some (some (.builtin "ValueError.__init__")))
    (hVE : PySem.W.subIn K (.ref C) (.type "ValueError") = some true) (hno : PySem.W.findIn K (.ref C) fld = some none)
    (hpa : ∀ (A : Around) (outer : List Env) (s : Shared) (H : Hp) (E : XK), PA (ncx CX P w K mg base ["self", arg, "__class__"] ⟨"__init__", qual, params, supBody p0 p1 p2 p3 p4 p5 p6 p7 p8 msg arg fld, scope, [("__class__", cc)], cda⟩ f A outer s H E) [msg] (tCons te tNil))
    (hpl : ∀ env : Env, starEach [msg] env = [(false, eval msg env)])
    (hte : ∀ (a : Addr) (y : V) (H : Hp) (Q : VK), okv y → (∀ z, Q z H) → te [some (.ref a), some y, some (.ref C)] H Q)
    (hdb : (arg == ("__debug__" : Str)) = false) (hdc : (arg == ("__classdict__" : Str)) = false) {pl : Env → Sem Bool} (hev : ∀ env : Env, eval (.Call (.Attribute (.Call (.Name "super" p0) [] [] p1) "__init__" p2) [msg] [] p3) env = (do
      let ov ← attributeBase (.Call (.Name "super" p0) [] [] p1) "__init__" env (eval (.Call (.Name "super" p0) [] [] p1) env)
      standAt p2.atName
      let (f, first) ← holding [ov] (getMethod ov "__init__" (pl env))
      callWith p3 f first (backTo p3 (starEach [msg] env)) [])) :
    FnOk P w K mg base CX (k + 1) f (PySem.W.fnX "__init__" qual params (supBody p0 p1 p2 p3 p4 p5 p6 p7 p8 msg arg fld) scope [("__class__", cc)] dV kV doc pm an (.ref cda) ct) ["self", arg] (spSup C fld okv) := by
  have len : ∀ vs H Q E, spSup C fld okv vs H Q E → vs.length = (["self", arg] : List Str).length := fun vs H Q E h => by
    obtain ⟨a, y, rfl, _⟩ := h
    rfl
  refine ⟨len, fun A outer s H args us vs Q E hr e0 hb r hsp => ?_⟩
  have hl := len _ _ _ _ hsp
  obtain ⟨a, y, rfl, oky, ea, q⟩ := hsp
  obtain ⟨hp0, g0, d0, tk0, os0⟩ := s
  have KX : K.In hp0 := e0.mod.kin.keeps fun b o e => (e0.bs b o e).1
  have lim : hp0.NoLimit := e0.mod.nolimit.keeps fun b o e => (e0.bs b o e).1
  have one : ∀ (y : Str) (c : Addr), ([(("__class__" : Str), cc)] : List (Str × Addr)).lookup y = some c → y = ("__class__" : Str) ∧ c = cc := fun y c e => by
    simp only [List.lookup] at e
    split at e
    · rename_i h
      exact ⟨eq_of_beq h, (Option.some.inj e).symm⟩
    · cases e
  have cls : CellsAt [(("__class__" : Str), cc)] ["__class__"] [some (.ref C)] hp0 H := by
    refine ⟨rfl, fun y c e => ?_, fun x y c e1 e2 => (one _ _ e1).1.trans (one _ _ e2).1.symm, fun i y hy => ?_⟩
    · obtain ⟨_, rfl⟩ := one _ _ e
      exact ⟨(e0.bs _ _ (e0.mod.kin _ _ hcell)).2, _, _, KX _ _ hcell, rfl⟩
    · match i, hy with
      | 0, hy =>
        cases Option.some.inj hy
        refine ⟨cc, by simp [List.lookup], fun v ev => ?_⟩
        cases Option.some.inj (Option.some.inj ev)
        exact ⟨.ref C, rfl, _, KX _ _ hcell, rfl⟩
      | i + 1, hy => simp at hy
  refine PySem.ks_codeAny_call_defAt (body := supBody p0 p1 p2 p3 p4 p5 p6 p7 p8 msg arg fld) (binds := (["self", arg] : List Str).zip us) hr.depth (KX _ _ lk) rfl lim (PySem.W.codeRec_of KX hcd) rfl hb S.nocell (fun ⟨n, v⟩ hy => S.par n (List.of_mem_zip hy).1) (fun h₁ hns kp => ?_) S.co S.gen S.kind
  let F : NF := ⟨"__init__", qual, params, supBody p0 p1 p2 p3 p4 p5 p6 p7 p8 msg arg fld, scope, [("__class__", cc)], cda⟩
  let X : Cx := ncx CX P w K mg base ["self", arg, "__class__"] F f A outer ⟨hp0, g0, d0, tk0, os0⟩ H E
  have I : Inv X [] (startF ["self", arg, "__class__"] [V.ref a, y] [some (.ref C)]) H ⟨h₁, g0, d0, tk0 + ((["self", arg] : List Str).zip us).length, os0⟩ :=
    inv_startN (CX := CX) (E := E) (N := ["self", arg, "__class__"]) (F := F) (f := f) (ws := [some (.ref C)]) S hr.hd e0 hl r cls hns kp
  have eσ : startF ["self", arg, "__class__"] [V.ref a, y] [some (.ref C)] = [some (.ref a), some y, some (.ref C)] := rfl
  rw [eσ] at I
  have pa : PA X [msg] (tCons te tNil) := hpa A outer ⟨hp0, g0, d0, tk0, os0⟩ H E
  generalize tk0 + ((["self", arg] : List Str).zip us).length = tk1 at I ⊢
  have KX1 : K.In h₁ := I.kIn
  obtain ⟨nm, q1, N, bs, bm, sn, sub, ab, col, dd, k0, k1, k2, k3, k5, hC, hbm⟩ := id T.cls
  obtain ⟨t1, hx⟩ := exo_at I.hok ea
  obtain ⟨mb, hb1, hb2⟩ := I.mod.blt
  have hself : scope.names.lookup ar.arg = some .local := by rw [har]; exact S.par "self" (by simp)
  obtain ⟨u, rfl⟩ : ∃ u, us = [Value.ref a, u] := by
    cases r with
    | @cons _ u0 _ ur ra rw' =>
      obtain rfl : u0 = Value.ref a := ra
      cases rw' with
      | cons rb rc => cases rc; exact ⟨_, rfl⟩
  have vself : (((["self", arg] : List Str).zip [Value.ref a, u]).reverse.lookup ar.arg) = some (.ref a) := by
    rw [har]
    have nd : (["self", arg] : List Str).Nodup := by
      have q := S.nd
      simp only [List.nodup_cons, List.mem_cons, not_or] at q ⊢
      exact ⟨⟨q.1.1, by simp⟩, by simp, by simp⟩
    exact zip_look (i := 0) nd rfl rfl
  show _root_.PySem.wpAt (model P w) X.A (.func (supBody p0 p1 p2 p3 p4 p5 p6 p7 p8 msg arg fld) X.env) (execs (supBody p0 p1 p2 p3 p4 p5 p6 p7 p8 msg arg fld) X.env) _ X.xe _
  refine PySem.ks_wpAt_execs_cons (PySem.ks_wpAt_Expr_any (PySem.ks_wpAt_MethodCall (PySem.ks_wpAt_super_base (env := X.env) (ar := ar) (f := f) hks (S.frk _ (by simp)) (by decide) rfl (KX1 _ _ lk) rfl hpar rfl (KX1 _ _ hcode) rfl hvs hfile htop ?_) (hev X.env)) I.quiet)
  refine PySem.W.ks_loadName_global S.kind hks (Calls.loadGlobal_builtin (mg := mg) (I.mod.glob.keeps I.bk) hsup (hb1.keeps I.bk) ((hb2 "super" (by decide)).trans (by decide +kernel : bootBuiltins "super" = some (.type "super"))) ⟨rfl, ?_⟩)
  refine wpAny_loadName_free S.kind (S.frk "__class__" (by simp)) (c := cc) rfl ⟨_, KX1 _ _ hcell, rfl⟩ ?_
  refine wpAny_loadName_local S.kind hself hns vself ?_
  have hCd := KX1 _ _ hC
  refine PySem.ks_wpAny_isType_cls hCd rfl ⟨rfl, ?_⟩
  refine PySem.ks_wpAny_call_super hCd rfl hx rfl (fun c e => by cases e) (PySem.W.looks_mroIn KX1 hmr) (fun h2 e2 kp2 => ?_)
  have I2 : Inv X [] [some (.ref a), some y, some (.ref C)] H ⟨h2, g0, d0, tk1, os0⟩ := I.kept (t' := tk1) kp2
  have KX2 : K.In h2 := I2.kIn
  have hx2 := kp2 _ _ hx
  have IA : PySem.W.InstAt h2 a _ C none := ⟨hx2, rfl, rfl, trivial⟩
  -- the bound __init__
  cases hcc : PySem.W.clsIn K C with
  | none => unfold ks_superIn at hal; rw [hcc] at hal; cases hal
  | some cd =>
    unfold ks_superIn at hal
    rw [hcc] at hal
    refine kxs_getMethod kxs_ValueError e2 (PySem.W.looks_opaque KX2 hst) (l₀ := cd.mro) (fun A Q E s k q => wpAny_bind ((PySem.W.looks_clsIn KX2 hcc) A _ E s k (wpAny_pure q))) rfl KX2 hal (IA.type.andThen (PySem.W.looks_subIn KX2 hVE)) (PySem.W.ks_ne KX2 IA hcc) (by decide) ?_
    have kp3 : ∀ b o, h2.get? b = some o → (h2.push (kxs_mw "ValueError.__init__" a)).get? b = some o := fun b o e => Heap.get?_push_of_some _ e
    have hu3 : (h2.push (kxs_mw "ValueError.__init__" a)).get? h2.objs.size = some (kxs_mw "ValueError.__init__" a) := Heap.get?_push_at rfl rfl
    have I3 : Inv X [] [some (.ref a), some y, some (.ref C)] H ⟨h2.push (kxs_mw "ValueError.__init__" a), g0, d0, tk1 + 1, os0⟩ := I2.kept (t' := tk1 + 1) kp3
    have I4 : Inv X [(h2.objs.size, kxs_mw "ValueError.__init__" a)] [some (.ref a), some y, some (.ref C)] H ⟨h2.push (kxs_mw "ValueError.__init__" a), g0, d0, tk1 + 1, os0⟩ := I3.pins_of fun p hp => by
      rw [List.mem_singleton.mp hp]
      exact ⟨hu3, I2.hok.fresh (Nat.le_refl _), Nat.ne_of_gt I2.lt, I2.nofs (Nat.le_refl _), fun v z => by cases z⟩
    show wpAny _ _ (callWith p3 (.ref h2.objs.size) [] (backTo p3 (starEach [msg] X.env)) []) _ _ _
    have ra := pa.run p3 _ _ _ H (fun vs H1 => ∃ z, vs = [z] ∧ H1 = H) I4 (hte a y H _ oky fun z => ⟨z, rfl, rfl⟩)
    rw [hpl] at ra ⊢
    refine kxs_callWith (i := "ValueError.__init__") (x := a) rfl (Calls.evalArgs_plain (thn ra fun us4 s4 hh => ?_))
    obtain ⟨vs4, H4, I5, r5, z, ev, eH⟩ := hh
    subst ev
    subst eH
    obtain ⟨h4, g4, d4, tk4, os4⟩ := s4
    have pin4 := I5.pin (h2.objs.size, kxs_mw "ValueError.__init__" a) (List.mem_append_right _ List.mem_cons_self)
    obtain ⟨t4, hx4⟩ := exo_at I5.hok ea
    refine ⟨pin4.1, call_mw (I5.kIn _ _ hC) hx4 pin4.1 (by show us4.length ≤ sizeLine; rw [← r5.length]; exact (show (1 : Nat) ≤ sizeLine by decide)) fun h5 t5 k5' hx5 => ?_⟩
    have J := I5.write (t' := tk4) (x := a) (e := a) (o := exo a C none) (by rw [ea]; exact True.intro) (.inl rfl) k5' ⟨_, hx5⟩ (exo_ok hx5)
    have eu : upd H4 a (exo a C none) = H4 := by
      funext b
      by_cases hb : b = a
      · rw [hb, upd_same, ea]
      · rw [upd_ne hb]
    rw [eu] at J
    -- self.f = y
    have hst2 : PSs X [.Assign [.Attribute (.Name "self" p5) fld p6] (.Name arg p7) p8] _ := pss_one (ps_ost (f := fld) (pe_var (i := 0) rfl (.inl (S.par "self" (by simp))) (by decide) (by decide)) (pe_var (i := 1) rfl (.inl (S.par arg (by simp))) hdb hdc))
    refine wpAt_of_wpAny (wpAny_mono (hst2.run _ _ _ _ { nx := fun _ H' => Q .non H', rt := Q } J ?_) (fun fl s' hs => ?_) fun e s' hs => hs)
    · exact ⟨_, rfl, _, rfl, a, C, rfl, T, hno, .inl ⟨ea, fun dx hdx n => q dx hdx n⟩⟩
    · have fin : ∀ {σ' : L2.St} {H' : Hp} {v : V} {u : Value}, Inv X [(h2.objs.size, kxs_mw "ValueError.__init__" a)] σ' H' s' → RelV v u → Q v H' → CE outer P w H4 ⟨hp0, g0, d0, tk0, os0⟩ Q u s' :=
        fun {σ' H' v u} J rv q => ⟨v, H', J.os, J.bare, J.base, J.hok, rv, q⟩
      cases fl with
      | ret u =>
        obtain ⟨v, σ', H', J, rv, q⟩ := hs
        exact fin J rv q
      | next =>
        obtain ⟨σ', H', J, q⟩ := hs
        exact fin (v := V.non) (u := Value.none) J rfl q
      | brk =>
        obtain ⟨_, _, _, q⟩ := hs
        exact False.elim q
      | cont =>
        obtain ⟨_, _, _, q⟩ := hs
        exact False.elim q
end TK

/-! super().__init__(..) of a class over an own class -/
namespace TK
open PySem PySem.Spec PyProof.Rows L2 NdefX
open PySem.W (ks_superIn)
open ClX
def supSt (p0 p1 p2 p3 p4 : Pos) (es : List Expr) : Stmt := .Expr (.Call (.Attribute (.Call (.Name "super" p0) [] [] p1) "__init__" p2) es [] p3) p4
/-- what super().__init__ finds: the def f2 of a class over D, for objects of C -/
structure SupO (K : PySem.W.Frag) (C D f2 : Addr) : Prop where
  hst : PySem.W.nsIn K cStatics "thirdparty.any" = some none
  isD : PySem.W.isClsIn K D = true
  sub : PySem.W.mroIn K C (.ref D) = some true
  al : ks_superIn K C D "__init__" = some (some (.ref f2))
  ty : PySem.W.typeIn K (.ref f2) = some (.type "function")
  fi : PySem.W.fnIn K f2 = true
theorem fn_superO {P : Program} {w : World} {K : PySem.W.Frag} {mg : Str → Option Value} {base : Heap} {k kr : Nat} {f C D f2 cc cda : Addr} {qual file : Str} {params : Arguments} {scope : Scope} {e : Expr} {es : List Expr} {rest : List Stmt} {p0 p1 p2 p3 p4 : Pos}
    {oc ccl cl dV kV doc pm ct : Value} {an od cdd cld : Option Addr} {osl ccs csl : Array (Option Value)} {vs0 : Array Value} {tf : Tok} {ar : Arg} {N ps : List Str} {sp spR : Sp}
    (lk : K.lookup f = some ⟨oc, od, .func (PySem.W.fnX "__init__" qual params (supSt p0 p1 p2 p3 p4 (e :: es) :: rest) scope [("__class__", cc)] dV kV doc pm an (.ref cda) ct), osl⟩) (hcd : PySem.W.codeIn K (.ref cda) qual = true)
    (hcode : K.lookup cda = some ⟨ccl, cdd, .fields vs0, ccs⟩) (hvs : vs0[2]? = some (.str file tf)) (hfile : ((P.main.file : Str) == file) = true)
    (hcell : K.lookup cc = some ⟨cl, cld, .cell (some (.ref D)), csl⟩)
    (S : NScope N (("self" : Str) :: ps) ["__class__"] scope) (hks : scope.names.lookup ("super" : Str) = some .globalImplicit)
    (hpar : (params.posonlyargs ++ params.args).head? = some ar) (har : ar.arg = "self") (htop : (P.main.scope.names.lookup ("super" : Str)).isSome = false) (hsup : mg "super" = none)
    (O : SupO K C D f2) (FR : FnR P w K mg base CX0 kr f2 spR)
    (len : ∀ vs H Q E, sp vs H Q E → ∃ a vs' dx fs, vs = .ref a :: vs' ∧ vs'.length = ps.length ∧ H a = some (.ins C dx fs))
    (hbody : ∀ (A : Around) (outer : List Env) (s : Shared) (H : Hp) (vs : List V) (Q : VK) (E : XK) (a : Addr) (vs' : List V), Room k (A.deeper (envF ⟨"__init__", qual, params, supSt p0 p1 p2 p3 p4 (e :: es) :: rest, scope, [("__class__", cc)], cda⟩ f s.heap.objs.size)) → vs = .ref a :: vs' → sp vs H Q E →
      ∃ ta tr, Room kr (ncx CX0 P w K mg base N ⟨"__init__", qual, params, supSt p0 p1 p2 p3 p4 (e :: es) :: rest, scope, [("__class__", cc)], cda⟩ f A outer s H E).A ∧ PA (ncx CX0 P w K mg base N ⟨"__init__", qual, params, supSt p0 p1 p2 p3 p4 (e :: es) :: rest, scope, [("__class__", cc)], cda⟩ f A outer s H E) (e :: es) ta ∧
        PSs (ncx CX0 P w K mg base N ⟨"__init__", qual, params, supSt p0 p1 p2 p3 p4 (e :: es) :: rest, scope, [("__class__", cc)], cda⟩ f A outer s H E) rest tr ∧
        ta (startF N vs [some (.ref D)]) H (fun us H1 => spR (.ref a :: us) H1 (fun _ H2 => tr { nx := fun _ H' => Q .non H', rt := Q } (startF N vs [some (.ref D)]) H2) E0))
    (hst2 : ∀ env : Env, starEach (e :: es) env = (false, eval e env) :: starEach es env) (hpl : ∀ env : Env, (backTo p3 (starEach es env)).any (·.1) = false) {pl : Env → Sem Bool}
    (hev : ∀ env : Env, eval (.Call (.Attribute (.Call (.Name "super" p0) [] [] p1) "__init__" p2) (e :: es) [] p3) env = (do
      let ov ← attributeBase (.Call (.Name "super" p0) [] [] p1) "__init__" env (eval (.Call (.Name "super" p0) [] [] p1) env)
      standAt p2.atName
      let (f, first) ← holding [ov] (getMethod ov "__init__" (pl env))
      callWith p3 f first (backTo p3 (starEach (e :: es) env)) [])) :
    FnOk P w K mg base CX0 (k + 1) f (PySem.W.fnX "__init__" qual params (supSt p0 p1 p2 p3 p4 (e :: es) :: rest) scope [("__class__", cc)] dV kV doc pm an (.ref cda) ct) (("self" : Str) :: ps) sp := by
  refine ⟨fun vs H Q E h => by
    obtain ⟨a, vs', dx, fs, rfl, hl, _⟩ := len vs H Q E h
    rw [List.length_cons, List.length_cons, hl], fun A outer s H args us vs Q E hr e0 hb r hsp => ?_⟩
  obtain ⟨a, vs', dx, fs, rfl, hl', ea⟩ := len _ _ _ _ hsp
  have hl : (V.ref a :: vs').length = (("self" : Str) :: ps).length := by rw [List.length_cons, List.length_cons, hl']
  obtain ⟨hp0, g0, d0, tk0, os0⟩ := s
  have KX : K.In hp0 := e0.mod.kin.keeps fun b o e => (e0.bs b o e).1
  have lim : hp0.NoLimit := e0.mod.nolimit.keeps fun b o e => (e0.bs b o e).1
  have one : ∀ (y : Str) (c : Addr), ([(("__class__" : Str), cc)] : List (Str × Addr)).lookup y = some c → y = ("__class__" : Str) ∧ c = cc := fun y c e => by
    simp only [List.lookup] at e
    split at e
    · rename_i h
      exact ⟨eq_of_beq h, (Option.some.inj e).symm⟩
    · cases e
  have cls : CellsAt [(("__class__" : Str), cc)] ["__class__"] [some (.ref D)] hp0 H := by
    refine ⟨rfl, fun y c e => ?_, fun x y c e1 e2 => (one _ _ e1).1.trans (one _ _ e2).1.symm, fun i y hy => ?_⟩
    · obtain ⟨_, rfl⟩ := one _ _ e
      exact ⟨(e0.bs _ _ (e0.mod.kin _ _ hcell)).2, _, _, KX _ _ hcell, rfl⟩
    · match i, hy with
      | 0, hy =>
        cases Option.some.inj hy
        refine ⟨cc, by simp [List.lookup], fun v ev => ?_⟩
        cases Option.some.inj (Option.some.inj ev)
        exact ⟨.ref D, rfl, _, KX _ _ hcell, rfl⟩
      | i + 1, hy => simp at hy
  refine PySem.ks_codeAny_call_defAt (body := supSt p0 p1 p2 p3 p4 (e :: es) :: rest) (binds := ((("self" : Str) :: ps)).zip us) hr.depth (KX _ _ lk) rfl lim (PySem.W.codeRec_of KX hcd) rfl hb S.nocell (fun ⟨n, v⟩ hy => S.par n (List.of_mem_zip hy).1) (fun h₁ hns kp => ?_) S.co S.gen S.kind
  let F : NF := ⟨"__init__", qual, params, supSt p0 p1 p2 p3 p4 (e :: es) :: rest, scope, [("__class__", cc)], cda⟩
  obtain ⟨ta, tr, hrr, pa, ptr, ht⟩ := hbody A outer ⟨hp0, g0, d0, tk0, os0⟩ H _ Q E a vs' (hr.deeper _) rfl hsp
  let X : Cx := ncx CX0 P w K mg base N F f A outer ⟨hp0, g0, d0, tk0, os0⟩ H E
  have I : Inv X [] (startF N (V.ref a :: vs') [some (.ref D)]) H ⟨h₁, g0, d0, tk0 + ((((("self" : Str) :: ps)).zip us)).length, os0⟩ :=
    inv_startN (CX := CX0) (E := E) (N := N) (F := F) (f := f) (ws := [some (.ref D)]) S hr.hd e0 hl r cls hns kp
  generalize tk0 + ((((("self" : Str) :: ps)).zip us)).length = tk1 at I ⊢
  have KX1 : K.In h₁ := I.kIn
  obtain ⟨mb, hb1, hb2⟩ := I.mod.blt
  have hself : scope.names.lookup ar.arg = some .local := by rw [har]; exact S.par "self" (by simp)
  obtain ⟨us', rfl⟩ : ∃ us', us = Value.ref a :: us' := by
    cases r with
    | @cons _ u0 _ ur ra rw' =>
      obtain rfl : u0 = Value.ref a := ra
      exact ⟨_, rfl⟩
  have vself : (((("self" : Str) :: ps).zip (Value.ref a :: us')).reverse.lookup ar.arg) = some (.ref a) := by
    rw [har]
    have nd : ((("self" : Str) :: ps) ++ [("__class__" : Str)]).Nodup := by
      rw [← S.pre]
      exact List.Sublist.nodup (List.take_sublist ..) S.nd
    exact zip_look (i := 0) (List.nodup_append.mp nd).1 rfl rfl
  obtain ⟨oD, hD1, cdD, hD2⟩ : ∃ oD, h₁.get? D = some oD ∧ ∃ cdD, oD.data = .cls cdD := by
    have hD := O.isD
    obtain ⟨cd, hcd'⟩ := Option.isSome_iff_exists.mp (show (PySem.W.clsIn K D).isSome = true from hD)
    unfold PySem.W.clsIn at hcd'
    split at hcd'
    · rename_i c d cd' sl ho
      exact ⟨_, KX1 _ _ ho, cd', rfl⟩
    · cases hcd'
  show _root_.PySem.wpAt (model P w) X.A (.func (supSt p0 p1 p2 p3 p4 (e :: es) :: rest) X.env) (execs (supSt p0 p1 p2 p3 p4 (e :: es) :: rest) X.env) _ X.xe _
  refine PySem.ks_wpAt_execs_cons (PySem.ks_wpAt_Expr_any (PySem.ks_wpAt_MethodCall (PySem.ks_wpAt_super_base (env := X.env) (ar := ar) (f := f) hks (S.frk _ (by simp)) (by decide) rfl (KX1 _ _ lk) rfl hpar rfl (KX1 _ _ hcode) rfl hvs hfile htop ?_) (hev X.env)) I.quiet)
  refine PySem.W.ks_loadName_global S.kind hks (Calls.loadGlobal_builtin (mg := mg) (I.mod.glob.keeps I.bk) hsup (hb1.keeps I.bk) ((hb2 "super" (by decide)).trans (by decide +kernel : bootBuiltins "super" = some (.type "super"))) ⟨rfl, ?_⟩)
  refine wpAny_loadName_free S.kind (S.frk "__class__" (by simp)) (c := cc) rfl ⟨_, KX1 _ _ hcell, rfl⟩ ?_
  refine wpAny_loadName_local S.kind hself hns vself ?_
  refine PySem.ks_wpAny_isType_cls hD1 hD2 ⟨rfl, ?_⟩
  obtain ⟨ox, od', J⟩ := own_at I ea
  refine PySem.ks_wpAny_call_super hD1 hD2 J.at_ J.cls (fun c e => ?_) (PySem.W.looks_mroIn KX1 O.sub) (fun h2 e2 kp2 => ?_)
  · have := J.no
    unfold PySem.W.notCls at this
    rw [e] at this
    exact Bool.noConfusion this
  have I2 : Inv X [] (startF N (V.ref a :: vs') [some (.ref D)]) H ⟨h2, g0, d0, tk1, os0⟩ := I.kept (t' := tk1) kp2
  have KX2 : K.In h2 := I2.kIn
  obtain ⟨ox2, od2, J2⟩ := own_at I2 ea
  have hal := O.al
  cases hcc : PySem.W.clsIn K C with
  | none => unfold ks_superIn at hal; rw [hcc] at hal; cases hal
  | some cd =>
    unfold ks_superIn at hal
    rw [hcc] at hal
    obtain ⟨of, hof, hofc⟩ : ∃ of, h2.get? f2 = some of ∧ of.cls = .type "function" := by
      have ht' : (K.lookup f2).map (·.cls) = some (.type "function") := O.ty
      cases z : K.lookup f2 with
      | none => rw [z] at ht'; cases ht'
      | some of => rw [z] at ht'; exact ⟨of, KX2 _ _ z, Option.some.inj ht'⟩
    refine PySem.ks_wpAny_getMethod_super e2 (PySem.W.looks_opaque KX2 O.hst) (l₀ := cd.mro) (fun A Q E s k q => wpAny_bind ((PySem.W.looks_clsIn KX2 hcc) A _ E s k (wpAny_pure q))) rfl KX2 hal hof hofc (PySem.W.ks_ne KX2 J2 hcc) (by decide) ?_
    have I3 := met_new (g := f2) (C := a) I2
    refine callwith_cm (g := f2) (C := a) I3 (base_none I2 (Nat.le_refl _)) O.fi (thn (pa.run p3 _ _ _ H _ I3 ht) fun us3 s3 ⟨vs3, H3, I4, rv, q2⟩ => ⟨⟨pin_at I4, I4.kIn⟩, ?_⟩) (hst2 X.env) (hpl X.env)
    refine thn (run_cm FR hrr pass0 I4 rv q2) fun z s4 ⟨v4, H4, I5, r4, q3⟩ => ?_
    refine wpAt_of_wpAny (wpAny_mono (ptr.run _ _ _ _ { nx := fun _ H' => Q .non H', rt := Q } I5 q3) (fun fl s' hs => ?_) fun e s' hs => hs)
    have fin : ∀ {σ' : L2.St} {H' : Hp} {v : V} {u : Value}, Inv X [] σ' H' s' → RelV v u → Q v H' → CE outer P w H ⟨hp0, g0, d0, tk0, os0⟩ Q u s' :=
      fun {σ' H' v u} J rv q => ⟨v, H', J.os, J.bare, J.base, J.hok, rv, q⟩
    cases fl with
    | ret u =>
      obtain ⟨v, σ', H', J, rv, q⟩ := hs
      exact fin J rv q
    | next =>
      obtain ⟨σ', H', J, q⟩ := hs
      exact fin (v := V.non) (u := Value.none) J rfl q
    | brk =>
      obtain ⟨_, _, _, q⟩ := hs
      exact False.elim q
    | cont =>
      obtain ⟨_, _, _, q⟩ := hs
      exact False.elim q
end TK

/-! len(set(xs)) of a list of different texts -/
namespace TK
open PySem PySem.Spec PyProof.Rows L2
section
variable {prog : Program} {w : World} {A : Around} {R : Result → Shared → Prop} {I : Addr} {fp wr : List Addr} {G : Array GenState → Array GenState → Prop} {n : Nat} {Pv : Nat → Value → Prop} {St : Nat → Shared → Prop}
/-- what the set holds after i texts -/
abbrev seenS (xs : List Str) (i : Nat) : Str → Bool := fun k => (xs.take i).any (· == k)
theorem seen_succ {xs : List Str} {i : Nat} (hi : i < xs.length) (k : Str) : (seenS xs i k || decide (k = xs.getD i Str.empty)) = seenS xs (i + 1) k := by
  show _ = (xs.take (i + 1)).any (· == k)
  have e : xs.getD i Str.empty = xs[i] := by rw [List.getD_eq_getElem?_getD, List.getElem?_eq_getElem hi]; rfl
  rw [List.take_add_one, List.getElem?_eq_getElem hi, List.any_append, e]
  congr 1
  show decide (k = xs[i]) = [xs[i]].any (· == k)
  rw [List.any_cons, List.any_nil, Bool.or_false]
  by_cases h : k = xs[i]
  · rw [decide_eq_true h, h]; exact (beq_self_eq_true _).symm
  · rw [decide_eq_false h]; exact (beq_eq_false_iff_ne.mpr fun q => h q.symm).symm
theorem seen_new {xs : List Str} {i : Nat} (hi : i < xs.length) (nd : xs.Nodup) : seenS xs i (xs.getD i Str.empty) = false := by
  have e : xs.getD i Str.empty = xs[i] := by rw [List.getD_eq_getElem?_getD, List.getElem?_eq_getElem hi]; rfl
  rw [e]
  refine Bool.eq_false_iff.mpr fun h => ?_
  obtain ⟨x, hx, q⟩ := List.any_eq_true.mp h
  have q := eq_of_beq q
  obtain ⟨j, hj, ej⟩ := List.getElem_of_mem hx
  rw [List.length_take] at hj
  rw [List.getElem_take] at ej
  have hj2 : j < xs.length := by omega
  have := (List.getElem?_inj hj2 nd).mp ((List.getElem?_eq_getElem hj2).trans ((congrArg some (ej.trans q)).trans (List.getElem?_eq_getElem hi).symm))
  omega
theorem loopStrs (W : WalksS prog w A.in1 I fp wr G n Pv St) (S : Addr) (hSf : S ∉ fp) (xs : List Str) (hsz : xs.length = n) (nd : xs.Nodup) (hn : n < 64)
    (hval : ∀ i v, Pv i v → ∃ t, v = .str (xs.getD i Str.empty) t) (m : Nat) : ∀ (i : Nat) (s : Shared), n - i = m → i ≤ n → St i s → s.heap.SetOf (PySem.strKind prog w) S (seenS xs i) i →
      (∀ s', Moved (S :: wr) G s s' → s'.heap.SetOf (PySem.strKind prog w) S (seenS xs n) n → R (.ok (.ret .none)) s') →
      codeAny (model prog w) A (.builtin "set.update.loop" ⟨[.ref S, .ref I], []⟩) R s := by
  have out : S ∉ wr := fun h => hSf (W.sub _ h)
  induction m with
  | zero =>
    intro i s hm hi hst hS hR
    obtain rfl : i = n := by omega
    refine codeAny_builtin PyProof.Rows.F.entry_set_update_loop ?_
    rw [Around.under_plainId PyProof.Rows.F.plain_set_update_loop _]
    show wpAny _ A.in1 (pyNext (.ref I) >>= _) _ _ s
    exact wpAny_bind (W.done s _ _ hst fun s' mv => wpAny_pure (hR s' (mv.mono fun b hb => List.mem_cons_of_mem _ hb) (by
      obtain ⟨o, es, ep, t, ho, r⟩ := hS
      exact ⟨o, es, ep, t, mv.heap S _ out ho, r⟩)))
  | succ m ih =>
    intro i s hm hi hst hS hR
    have hlt : i < n := by omega
    refine codeAny_builtin PyProof.Rows.F.entry_set_update_loop ?_
    rw [Around.under_plainId PyProof.Rows.F.plain_set_update_loop _]
    show wpAny _ A.in1 (pyNext (.ref I) >>= _) _ _ s
    refine wpAny_bind (W.item i s _ _ hlt hst fun v s' hP hst' mv => ?_)
    obtain ⟨t, rfl⟩ := hval i v hP
    have hS1 : s'.heap.SetOf (PySem.strKind prog w) S (seenS xs i) i := by
      obtain ⟨o, es, ep, tb, ho, r⟩ := hS
      exact ⟨o, es, ep, tb, mv.heap S _ out ho, r⟩
    show wpAny _ A.in1 (holding [Value.str (xs.getD i Str.empty) t] (setAdd S (.str (xs.getD i Str.empty) t)) >>= _) _ _ s'
    refine wpAny_bind (wpAny_holding ?_)
    unfold setAdd
    refine wpAny_holding (wpAny_bind ((PySem.strKind prog w).pyHash (k := xs.getD i Str.empty) (strKind_is _ _ _ _) ?_))
    refine wpAny_setAddHashed_of (knd := PySem.strKind prog w) (s := { s' with toks := s'.toks + 1 }) (strKind_is _ _ _ _) rfl hS1 (by unfold scanBound; omega) fun h' sb hS2 => ?_
    have hS3 : h'.SetOf (PySem.strKind prog w) S (seenS xs (i + 1)) (i + 1) := by
      refine SetOf_congr hS2 (fun k => seen_succ (by omega) k) ?_
      rw [show seenS xs i (xs.getD i Str.empty) = false from seen_new (by omega) nd]
      rfl
    refine wpAny_pure ⟨plainId_quiet PyProof.Rows.F.plain_set_update_loop _, ih (i + 1) _ (by omega) hlt (W.frame _ s' _ _ hst' (Nat.le_succ _) fun b hb o e => ?_) hS3 fun s2 mv2 hS4 => hR s2 (Moved.trans W.gtrans ((mv.mono fun b hb => List.mem_cons_of_mem _ hb).then_heap (Nat.le_succ _) fun b o hb e => ?_) mv2) hS4⟩
    · rw [sb.2 b (fun h : b = S => hSf (by rw [← h]; exact hb))]; exact e
    · rw [sb.2 b (fun h : b = S => hb (by rw [h]; exact List.mem_cons_self))]; exact e
end
section
variable {prog : Program} {w : World} {A : Around} {E : Value → Shared → Prop} {s : Shared}
set_option maxHeartbeats 3200000 in
/-- set(xs): the place of the new set, what it holds, and that nothing else is changed -/
theorem set_of_strs {l : Addr} {items : Array Value} {xs : List Str} {Q : Value → Shared → Prop} (hh : A.handled = none) (hl : s.heap.IsList l items) (hi : StrsAre items.toList xs) (nd : xs.Nodup) (few : xs.length < 64)
    (h : ∀ (h' : Heap) (tk : Nat), h'.SetOf (PySem.strKind prog w) s.heap.objs.size (seenS xs xs.length) xs.length → (∀ b o, b < s.heap.objs.size → s.heap.get? b = some o → h'.get? b = some o) → Q (.ref s.heap.objs.size) { s with heap := h', toks := tk }) :
    wpAny (model prog w) A (call (.type "set") [.ref l]) Q E s := by
  have hsz : xs.length = items.size := by rw [← StrsAre.len_eq hi, Array.length_toList]
  obtain ⟨c, tl, hmro⟩ := PySem.F.called_set.mro
  have hmade := PySem.F.called_set.made
  have hsub := PySem.F.called_set.sub
  refine wpAny_call (codeAny_of_tree ?_)
  show wpAny _ _ (callAny (.type "set") _) _ _ _
  refine wpAny_pure ⟨Code.quiet_builtin _ (by decide +kernel), codeAny_builtin PySem.F.entry_type_call ?_⟩
  rw [Around.under_plain (weight_type_call_type "set" [.ref l] []) rfl]
  have h1 := PySem.F.called_set.notType
  have h2 := PySem.F.called_set.canCreate
  have hct := PySem.F.typeCall_set_1 (.ref l)
  repeat (any_goals (first | assumption | wp_step))
  refine codeAny_mono (code_set_new_1 (.ref l) (E := E) (Q₁ := fun obj s₁ => ∃ led : Bool, obj = .ref s.heap.objs.size ∧ s₁ = { s with heap := s.heap.push { cls := .type "set", dict := none, data := .set #[] 0 (.fresh 0 0 led) } }) fun led => ⟨led, rfl, rfl⟩) fun r s1 hr => ?_
  cases r with
  | error e => exact hr
  | ok fl =>
    cases fl with
    | ret obj =>
      obtain ⟨led, rfl, rfl⟩ := hr
      have hS := Heap.get?_push_size s.heap (o := ({ cls := .type "set", dict := none, data := .set #[] 0 (.fresh 0 0 led) } : Obj)) rfl
      have hT : Shared.TypeIs { s with heap := s.heap.push { cls := .type "set", dict := none, data := .set #[] 0 (.fresh 0 0 led) } } (.ref s.heap.objs.size) "set" := ⟨_, hS, rfl⟩
      have hli := PySem.F.called_set.init.lookup
      have hbi := PySem.F.called_set.init.bind (.ref s.heap.objs.size)
      repeat (any_goals (first | assumption | wp_step))
      refine codeAny_mono (codeAny_call_builtin (R := wants (fun r s2 => r = .none ∧ ∃ h' tk, s2 = { s with heap := h', toks := tk } ∧ h'.SetOf (PySem.strKind prog w) s.heap.objs.size (seenS xs xs.length) xs.length ∧ (∀ b o, b < s.heap.objs.size → s.heap.get? b = some o → h'.get? b = some o)) E)
        PySem.F.called_set.init.plain PySem.F.entry_set_init (check_set_init_1 hT ?_)) fun r2 s2 hr2 => ?_
      · obtain ⟨⟨lcls, ldict, ldata, lslots⟩, hol, hcl, nl, hdl⟩ := hl
        simp only at hcl hdl
        subst hcl; subst hdl
        have hol2 := Heap.get?_push_of_some ({ cls := .type "set", dict := none, data := .set #[] 0 (.fresh 0 0 led) } : Obj) hol
        have hsls := PySem.F.sub_list_set
        have hslf := PySem.F.sub_list_frozenset
        have hne : (Value.type "list" == Value.type "dict") = false := by decide
        have hl1 : (s.heap.push { cls := .type "set", dict := none, data := .set #[] 0 (.fresh 0 0 led) }).IsList l items := ⟨_, hol2, rfl, nl, rfl⟩
        unfold Builtin.«set.__init__» noKeywords Builtin.Frozenset.updateFrom
        generalize hPI : pyIter = PI
        wp_walk
        subst hPI
        refine wpAny_pyIter_list hl1 (wpAny_bind (wpAny_runValue ?_))
        have below : l < s.heap.objs.size := Heap.lt_size hol
        have hh3 : A.in1.in1.in1.handled = none := by simp [hh]
        have up1 : (s.heap.push { cls := .type "set", dict := none, data := .set #[] 0 (.fresh 0 0 led) }).objs.size = s.heap.objs.size + 1 := Heap.size_push _ _
        have hneI : l ≠ (s.heap.push { cls := .type "set", dict := none, data := .set #[] 0 (.fresh 0 0 led) }).objs.size := by rw [up1]; exact Nat.ne_of_lt (Nat.lt_succ_of_lt below)
        have hSf : s.heap.objs.size ∉ [(s.heap.push { cls := .type "set", dict := none, data := .set #[] 0 (.fresh 0 0 led) }).objs.size, l] := by
          rw [up1]
          intro q
          rcases List.mem_cons.mp q with q | q
          · omega
          · exact absurd (List.mem_singleton.mp q) (Nat.ne_of_gt below)
        have hval : ∀ (i : Nat) (v : Value), items[i]? = some v → ∃ t, v = .str (xs.getD i Str.empty) t := fun i v hv => SS.strs_at hi i v (by rw [Array.getElem?_toList]; exact hv)
        rw [hsz]
        refine loopStrs ((Walks.list hh3 _ l hneI items).toS) s.heap.objs.size hSf xs hsz nd (by omega) hval (items.size - 0) 0 _ rfl (Nat.zero_le _) ⟨⟨_, Heap.get?_push_size _ rfl, rfl, rfl⟩, (hl1.push _)⟩ ?hS0 ?hR
        case hS0 =>
          exact SetOf_congr ((setObjOf_fresh (knd := PySem.strKind prog w) led).setOf (Heap.get?_push_of_some _ hS) (by unfold scanBound; omega)) (fun _ => rfl) rfl
        case hR =>
          rintro ⟨h', g', d', tk', os'⟩ hm hS'
          obtain rfl : g' = s.gens := hm.gens
          obtain rfl : d' = s.drawn := hm.drawn
          obtain rfl : os' = s.os := hm.os
          show wpAny _ _ _ _ _ _
          refine wpAny_pure ?_
          show wpAny _ _ (ret Value.none) _ _ _
          refine wpAny_pure ⟨rfl, h', tk', rfl, hS', fun b o hb e => hm.heap b o (fun q => ?_) (Heap.get?_push_of_some _ (Heap.get?_push_of_some _ e))⟩
          rcases List.mem_cons.mp q with q | q
          · exact Nat.ne_of_lt hb q
          · have q := List.mem_singleton.mp q
            rw [up1] at q
            exact Nat.ne_of_lt (Nat.lt_succ_of_lt hb) q
      · cases r2 with
        | error e => exact hr2
        | ok fl2 =>
          cases fl2 with
          | ret r =>
            obtain ⟨rfl, h', tk, rfl, hS', hk'⟩ := hr2
            repeat (any_goals (first | assumption | wp_step))
            exact h _ _ hS' hk'
          | _ => exact hr2.elim
    | _ => exact hr.elim
end
section
variable {X : Cx}
def tLenSetN (K : PySem.W.Frag) (ta : TE) : TE := fun σ H Q => ta σ H fun x H1 => ∃ l, ∃ xs : List Str, x = .ref l ∧ SqL K H1 l (xs.map V.str) ∧ xs.Nodup ∧ xs.length < 64 ∧ Q (.int xs.length) H1
/-- len(set(xs)), xs a list of different texts -/
theorem pe_lenSetN {a : Expr} {ta : TE} {p p2 q pos : Pos} (hc : X.calm = true) (hg : Gl X "len") (hm : X.mg "len" = none) (hg2 : Gl X "set") (hm2 : X.mg "set" = none) (ha : PE X a ta)
    (na : starEach [a] X.env = (false, eval a X.env) :: starEach [] X.env := by rfl) : PE X (.Call (.Name "len" p) [.Call (.Name "set" p2) [a] [] q] [] pos) (tLenSetN X.K ta) := by
  refine ⟨fun pins s σ H Q I h => ?_⟩
  refine Call_ (ld_blt I hg hm boot_len (PyProof.Rows.callWith_builtin1 (PyProof.Rows.args_cons ?_ rfl) rfl rfl))
  refine Call_ (ld_blt I hg2 hm2 boot_set (PyProof.Rows.callWith_type1 (PyProof.Rows.args_cons (thn (ha.run pins s σ H _ I h) fun v s1 ⟨x, H1, I1, r1, q1⟩ => PyProof.Rows.args_nil ?_) na) na rfl))
  obtain ⟨l, xs, rfl, hq, nd, few, q1⟩ := q1
  cases r1
  obtain ⟨its, r, pl, hz⟩ := I1.list hq
  refine set_of_strs (I1.ok.hd hc) pl.isList (by simpa using strsAre_of r) nd few fun h' tk hS hk => PyProof.Rows.args_nil ?_
  obtain ⟨o, es, ep, t, ho, hex, hd, _, _, _, hf, hn⟩ := hS
  have I2 : Inv X pins σ H1 { s1 with heap := h', toks := tk } := I1.kept fun b o e => hk b o (Heap.lt_size e) e
  exact call_len_set ho hex hd hf (by rw [hn] <;> omega) ⟨.int xs.length, H1, I2.tok _, ⟨_, by rw [hn]⟩, q1⟩
end
end TK

/-! len(set(xs)) of a tuple of different texts -/
namespace TK
open PySem PySem.Spec PyProof.Rows L2
section
variable {prog : Program} {w : World} {A : Around} {E : Value → Shared → Prop} {s : Shared}
set_option maxHeartbeats 3200000 in
/-- set(xs): the place of the new set, what it holds, and that nothing else is changed -/
theorem set_of_strsT {l : Addr} {items : Array Value} {xs : List Str} {Q : Value → Shared → Prop} (hh : A.handled = none) (hl : s.heap.IsTuple l items) (hi : StrsAre items.toList xs) (nd : xs.Nodup) (few : xs.length < 64)
    (h : ∀ (h' : Heap) (tk : Nat), h'.SetOf (PySem.strKind prog w) s.heap.objs.size (seenS xs xs.length) xs.length → (∀ b o, b < s.heap.objs.size → s.heap.get? b = some o → h'.get? b = some o) → Q (.ref s.heap.objs.size) { s with heap := h', toks := tk }) :
    wpAny (model prog w) A (call (.type "set") [.ref l]) Q E s := by
  have hsz : xs.length = items.size := by rw [← StrsAre.len_eq hi, Array.length_toList]
  obtain ⟨c, tl, hmro⟩ := PySem.F.called_set.mro
  have hmade := PySem.F.called_set.made
  have hsub := PySem.F.called_set.sub
  refine wpAny_call (codeAny_of_tree ?_)
  show wpAny _ _ (callAny (.type "set") _) _ _ _
  refine wpAny_pure ⟨Code.quiet_builtin _ (by decide +kernel), codeAny_builtin PySem.F.entry_type_call ?_⟩
  rw [Around.under_plain (weight_type_call_type "set" [.ref l] []) rfl]
  have h1 := PySem.F.called_set.notType
  have h2 := PySem.F.called_set.canCreate
  have hct := PySem.F.typeCall_set_1 (.ref l)
  repeat (any_goals (first | assumption | wp_step))
  refine codeAny_mono (code_set_new_1 (.ref l) (E := E) (Q₁ := fun obj s₁ => ∃ led : Bool, obj = .ref s.heap.objs.size ∧ s₁ = { s with heap := s.heap.push { cls := .type "set", dict := none, data := .set #[] 0 (.fresh 0 0 led) } }) fun led => ⟨led, rfl, rfl⟩) fun r s1 hr => ?_
  cases r with
  | error e => exact hr
  | ok fl =>
    cases fl with
    | ret obj =>
      obtain ⟨led, rfl, rfl⟩ := hr
      have hS := Heap.get?_push_size s.heap (o := ({ cls := .type "set", dict := none, data := .set #[] 0 (.fresh 0 0 led) } : Obj)) rfl
      have hT : Shared.TypeIs { s with heap := s.heap.push { cls := .type "set", dict := none, data := .set #[] 0 (.fresh 0 0 led) } } (.ref s.heap.objs.size) "set" := ⟨_, hS, rfl⟩
      have hli := PySem.F.called_set.init.lookup
      have hbi := PySem.F.called_set.init.bind (.ref s.heap.objs.size)
      repeat (any_goals (first | assumption | wp_step))
      refine codeAny_mono (codeAny_call_builtin (R := wants (fun r s2 => r = .none ∧ ∃ h' tk, s2 = { s with heap := h', toks := tk } ∧ h'.SetOf (PySem.strKind prog w) s.heap.objs.size (seenS xs xs.length) xs.length ∧ (∀ b o, b < s.heap.objs.size → s.heap.get? b = some o → h'.get? b = some o)) E)
        PySem.F.called_set.init.plain PySem.F.entry_set_init (check_set_init_1 hT ?_)) fun r2 s2 hr2 => ?_
      · obtain ⟨⟨lcls, ldict, ldata, lslots⟩, hol, hcl, nl, hdl⟩ := hl
        simp only at hcl hdl
        subst hcl; subst hdl
        have hol2 := Heap.get?_push_of_some ({ cls := .type "set", dict := none, data := .set #[] 0 (.fresh 0 0 led) } : Obj) hol
        have hsls := PySem.F.sub_tuple_set
        have hslf := PySem.F.sub_tuple_frozenset
        have hne : (Value.type "tuple" == Value.type "dict") = false := by decide
        have hl1 : (s.heap.push { cls := .type "set", dict := none, data := .set #[] 0 (.fresh 0 0 led) }).IsTuple l items := ⟨_, hol2, rfl, nl, rfl⟩
        unfold Builtin.«set.__init__» noKeywords Builtin.Frozenset.updateFrom
        generalize hPI : pyIter = PI
        wp_walk
        subst hPI
        refine wpAny_pyIter_tuple hl1 (wpAny_bind (wpAny_runValue ?_))
        have below : l < s.heap.objs.size := Heap.lt_size hol
        have hh3 : A.in1.in1.in1.handled = none := by simp [hh]
        have up1 : (s.heap.push { cls := .type "set", dict := none, data := .set #[] 0 (.fresh 0 0 led) }).objs.size = s.heap.objs.size + 1 := Heap.size_push _ _
        have hneI : l ≠ (s.heap.push { cls := .type "set", dict := none, data := .set #[] 0 (.fresh 0 0 led) }).objs.size := by rw [up1]; exact Nat.ne_of_lt (Nat.lt_succ_of_lt below)
        have hSf : s.heap.objs.size ∉ [(s.heap.push { cls := .type "set", dict := none, data := .set #[] 0 (.fresh 0 0 led) }).objs.size, l] := by
          rw [up1]
          intro q
          rcases List.mem_cons.mp q with q | q
          · omega
          · exact absurd (List.mem_singleton.mp q) (Nat.ne_of_gt below)
        have hval : ∀ (i : Nat) (v : Value), items[i]? = some v → ∃ t, v = .str (xs.getD i Str.empty) t := fun i v hv => SS.strs_at hi i v (by rw [Array.getElem?_toList]; exact hv)
        rw [hsz]
        refine loopStrs ((Walks.tuple hh3 _ l hneI items).toS) s.heap.objs.size hSf xs hsz nd (by omega) hval (items.size - 0) 0 _ rfl (Nat.zero_le _) ⟨⟨_, Heap.get?_push_size _ rfl, rfl, rfl⟩, (hl1.push _)⟩ ?hS0 ?hR
        case hS0 =>
          exact SetOf_congr ((setObjOf_fresh (knd := PySem.strKind prog w) led).setOf (Heap.get?_push_of_some _ hS) (by unfold scanBound; omega)) (fun _ => rfl) rfl
        case hR =>
          rintro ⟨h', g', d', tk', os'⟩ hm hS'
          obtain rfl : g' = s.gens := hm.gens
          obtain rfl : d' = s.drawn := hm.drawn
          obtain rfl : os' = s.os := hm.os
          show wpAny _ _ _ _ _ _
          refine wpAny_pure ?_
          show wpAny _ _ (ret Value.none) _ _ _
          refine wpAny_pure ⟨rfl, h', tk', rfl, hS', fun b o hb e => hm.heap b o (fun q => ?_) (Heap.get?_push_of_some _ (Heap.get?_push_of_some _ e))⟩
          rcases List.mem_cons.mp q with q | q
          · exact Nat.ne_of_lt hb q
          · have q := List.mem_singleton.mp q
            rw [up1] at q
            exact Nat.ne_of_lt (Nat.lt_succ_of_lt hb) q
      · cases r2 with
        | error e => exact hr2
        | ok fl2 =>
          cases fl2 with
          | ret r =>
            obtain ⟨rfl, h', tk, rfl, hS', hk'⟩ := hr2
            repeat (any_goals (first | assumption | wp_step))
            exact h _ _ hS' hk'
          | _ => exact hr2.elim
    | _ => exact hr.elim
end
section
variable {X : Cx}
def tLenSetT (K : PySem.W.Frag) (ta : TE) : TE := fun σ H Q => ta σ H fun x H1 => ∃ l, ∃ xs : List Str, x = .ref l ∧ SqT K H1 l (xs.map V.str) ∧ xs.Nodup ∧ xs.length < 64 ∧ Q (.int xs.length) H1
/-- len(set(xs)), xs a list of different texts -/
theorem pe_lenSetT {a : Expr} {ta : TE} {p p2 q pos : Pos} (hc : X.calm = true) (hg : Gl X "len") (hm : X.mg "len" = none) (hg2 : Gl X "set") (hm2 : X.mg "set" = none) (ha : PE X a ta)
    (na : starEach [a] X.env = (false, eval a X.env) :: starEach [] X.env := by rfl) : PE X (.Call (.Name "len" p) [.Call (.Name "set" p2) [a] [] q] [] pos) (tLenSetT X.K ta) := by
  refine ⟨fun pins s σ H Q I h => ?_⟩
  refine Call_ (ld_blt I hg hm boot_len (PyProof.Rows.callWith_builtin1 (PyProof.Rows.args_cons ?_ rfl) rfl rfl))
  refine Call_ (ld_blt I hg2 hm2 boot_set (PyProof.Rows.callWith_type1 (PyProof.Rows.args_cons (thn (ha.run pins s σ H _ I h) fun v s1 ⟨x, H1, I1, r1, q1⟩ => PyProof.Rows.args_nil ?_) na) na rfl))
  obtain ⟨l, xs, rfl, hq, nd, few, q1⟩ := q1
  cases r1
  obtain ⟨its, r, pl, hz⟩ := I1.tuple hq
  refine set_of_strsT (I1.ok.hd hc) pl (by simpa using strsAre_of r) nd few fun h' tk hS hk => PyProof.Rows.args_nil ?_
  obtain ⟨o, es, ep, t, ho, hex, hd, _, _, _, hf, hn⟩ := hS
  have I2 : Inv X pins σ H1 { s1 with heap := h', toks := tk } := I1.kept fun b o e => hk b o (Heap.lt_size e) e
  exact call_len_set ho hex hd hf (by rw [hn] <;> omega) ⟨.int xs.length, H1, I2.tok _, ⟨_, by rw [hn]⟩, q1⟩
end
end TK

/-! raise X(e), X an own exception whose __init__ says super().__init__(..); self.f = e -/
namespace TK
open PySem PySem.Spec PyProof.Rows L2 NdefX
/-- what is told of X, at C, its __init__ at fI -/
structure SupT (P : Program) (w : World) (K : PySem.W.Frag) (mg : Str → Option Value) (base : Heap) (x arg fld : Str) (okv : V → Prop) (C fI : Addr) (fd : FuncData) : Prop where
  gC : mg x = some (.ref C)
  T : OexC K C
  iC : PySem.W.findIn K (.ref C) "__init__" = some (some (.ref fI))
  tI : PySem.W.typeIn K (.ref fI) = some (.type "function")
  F : FnOk P w K mg base CX0 1 fI fd ["self", arg] (spSup C fld okv)
  b : Binds K fd ["self", arg] []
  xf : XfC K C
  noN : PySem.W.findIn K (.ref C) fld = some none
  te : PySem.W.exmOne K (.ref C) (.ref C) = some true
/-- what the making asks -/
theorem sup_read {C : Addr} {fld : Str} {okv : V → Prop} {v : V} {H1 : Hp} {Q : XK} (ok : okv v) (q : ∀ d, H1 d = none → Q (.ref C) (some d) (upd H1 d (.xd [(fld, v)]))) :
    ([v] : List V).length ≤ 1000 ∧ ∀ a, H1 a = none → spSup C fld okv (.ref a :: ([v] ++ [])) (upd H1 a (exo a C none))
      (fun v H2 => v = .non ∧ ∃ (d : Addr) (fs : List (Str × V)), H2 a = some (exo a C (some d)) ∧ H2 d = some (exd d fs) ∧ H1 d = none ∧ Q (.ref C) (some d) (upd (del H2 a) d (.xd fs))) (fun _ _ _ => False) := by
  refine ⟨(show (1 : Nat) ≤ 1000 by decide), fun a na => ⟨a, v, rfl, ok, upd_same, fun dx hdx ne => ⟨rfl, dx, [(fld, v)], upd_same, ?_, ?_, ?_⟩⟩⟩
  · rw [upd_ne ne]; exact upd_same
  · rw [upd_ne ne] at hdx; exact hdx
  · rw [upd_ne ne] at hdx
    have e : upd (del (upd (upd (upd H1 a (exo a C none)) dx (exd dx [(fld, v)])) a (exo a C (some dx))) a) dx (.xd [(fld, v)]) = upd H1 dx (.xd [(fld, v)]) := by
      funext b
      by_cases h1 : b = dx
      · rw [h1, upd_same, upd_same]
      · rw [upd_ne h1, upd_ne h1]
        by_cases h2 : b = a
        · rw [h2, del_same, na]
        · rw [del_ne h2, upd_ne h2, upd_ne h1, upd_ne h2]
    rw [e]
    exact q dx hdx
section
variable {X : Cx} {W : WX} {x arg fld : Str} {okv : V → Prop} {C fI : Addr} {fd : FuncData} {e : Expr} {ta : TA} {p pos pos2 : Pos}
theorem ps_raiseSup (hc : X.calm = true) (T : SupT X.prog X.w X.K X.mg X.base x arg fld okv C fI fd) (hr : Room 2 X.A) (tk : Takes X W) (ha : PA X [e] ta) (hg : Gl X x)
    (hdb : (x == ("__debug__" : Str)) = false := by decide) (he : starEach (e :: []) X.env = (false, eval e X.env) :: starEach [] X.env := by rfl) (hpl : (backTo pos (starEach [] X.env)).any (·.1) = false := by rfl) :
    PS X (.Raise (some (.Call (.Name x p) [e] [] pos)) none pos2) (fun _ σ H => tMkO C (spSup C fld okv) [] ta σ H fun cls d H' => W cls d σ H') :=
  ps_raise hc tk (pmk_oex (dvs := []) T.T T.iC T.tI T.F hr T.b .nil (fun _ _ _ _ _ _ _ h => h.elim) hg T.gC ha hdb he hpl)
end
end TK

/-! X(), X an own exception without an __init__ -/
namespace TK
open PySem PySem.Spec PyProof.Rows L2
theorem pmk_own0 {X : Cx} {C : Addr} {bmB : List Value} {B newId initId : String} {x : Str} {p pos : Pos} (F : ExcBaseFacts B newId initId bmB) (q : PySem.W.excIn X.K C bmB newId = true) (gC : X.mg x = some (.ref C)) (kC : PySem.W.keepIn X.K (.ref C) = true) (r : Raises X (.ref C)) (hg : Gl X x)
    (hdb : (x == ("__debug__" : Str)) = false := by decide) : PMk X (.Call (.Name x p) [] [] pos) (fun _ H Q => Q (.ref C) none H) := by
  intro pins s σ H Q I h
  refine wpAny_Call_Name_kw (ld_glob I hg gC ?_ hdb)
  refine PySem.W.callWith_K0 I.kIn kC ?_
  show wpAny _ _ (call (.ref C) []) _ _ _
  obtain ⟨bm, N, nm, qn, bs, hdct, sn, sub, ab, col, dd, k0, k1, k2, k3, k5, mN, hC, hN, hni, T⟩ := exc_obj I.kIn q
  refine wpAny_call_exc_subT F T hC hN hni (fun h' e hm => ?_) (by show 0 ≤ sizeLine; exact Nat.zero_le _)
  exact mk_of I hm r h (I.hok.gone hm.new)
end TK

/-! isinstance of a caught exception that has its dict -/
namespace TK
section
open PySem PySem.W PySem.Spec PySem.Calls PyProof.Rows
variable {prog : Program} {w : World} {A : Around} {E : Value → Shared → Prop} {s : Shared} {K : Frag} {x D : Addr} {ox : Obj}
theorem findObj_dataO {C : Addr} {odc : Option Obj} {name : Str} {a g : Value} (hc : (clsIn K C).isSome = true) (ha : findIn K (.ref C) name = some (some a)) (hg : specialIn K a "__get__" = some (some g)) (ht : takesIn K a = some true) : findObj K C odc name = some (.bind g a) := by
  obtain ⟨cd, hc⟩ := Option.isSome_iff_exists.mp hc
  unfold findObj
  rw [hc, Option.bind_some, ha, Option.bind_some]
  simp [hg, ht]
theorem kin_classEo {Q : Option Value → Shared → Prop} (hga : findIn K (.ref D) "__getattribute__" = some (some (.builtin "BaseException.__getattribute__"))) (hgt : findIn K (.ref D) "__getattr__" = some none) (hsub : subIn K (.ref D) (.type "BaseException") = some true)
    (hdct : hasDictIn K D = true) (ha : findIn K (.ref D) "__class__" = some (some (.builtin "object.__class__")))
    (hn : specialIn K (.builtin "object.__class__") "__get__" = some (some (.builtin "getset_descriptor.__get__"))) (htk : takesIn K (.builtin "object.__class__") = some true) (hm : mroIn K D (.type "object") = some true)
    {odc : Option Obj} (X : K.In s.heap) (I : InstAt s.heap x ox D odc) (h : Q (some (.ref D)) { s with toks := s.toks + 1 }) : wpAny (model prog w) A (getAttr? (.ref x) "__class__") Q E s := by
  have hf : findObj K D odc "__class__" = some (.bind (.builtin "getset_descriptor.__get__") (.builtin "object.__class__")) := findObj_dataO (by obtain ⟨cd, hc, _⟩ := any_some hdct; rw [hc]; rfl) ha hn htk
  obtain ⟨hp, g, d, t, os⟩ := s
  have L0 := I.type (M := model prog w)
  have L1 := looks_findIn (M := model prog w) X hga
  have L2 := looks_findIn (M := model prog w) X hgt
  have L3 := looks_find (M := model prog w) X I hf
  have sub : Looks (model prog w) hp (isInstance (.ref x) (.type "BaseException")) true := L0.andThen (looks_subIn X hsub)
  have hx0 : (false && onTheHeap (Value.builtin "BaseException.__getattribute__")) = false := rfl
  have hx2 : (Value.builtin "BaseException.__getattribute__" == Value.builtin "object.__getattribute__") = false := by decide +kernel
  have hx1 : (onTheHeap (Value.ref D) && Value.builtin "BaseException.__getattribute__" == Value.builtin "object.__getattribute__") = false := by rw [hx2]; rfl
  unfold getAttr? getAttrBy? getAttrBy
  refine wpAny_bind (wpAny_mkText (wpAny_bind (wpAny_attempt (wpAny_holding (wpAny_bind (L0.at (wpAny_bind (L1.at ?_))))))))
  show wpAny _ _ (if (onTheHeap (Value.ref D) && Value.builtin "BaseException.__getattribute__" == Value.builtin "object.__getattribute__") = true then _ else _) _ _ _
  rw [hx1, if_neg Bool.false_ne_true]
  unfold getAttrByItsOwn hookBefore
  refine wpAny_bind ?_
  rw [if_pos (show onTheHeap (Value.ref D) = true from rfl)]
  refine L2.at ?_
  refine wpAny_bind (wpAny_attempt (wpAny_holding ?_))
  unfold callGetattribute
  rw [hx0, if_neg Bool.false_ne_true]
  unfold boundAndCalled
  rw [PySem.F.excAttr_ValueError.ga.bind (.ref x)]
  refine wpAny_bind (wpAny_pure ?_)
  show wpAny _ _ (call (.builtin "BaseException.__getattribute__") [.ref x, .str "__class__" t]) _ _ _
  refine wpAny_call (codeAny_call_builtin PySem.F.excAttr_ValueError.ga.plain PySem.F.entry_bexc_ga ?_)
  refine @check_slot (model prog w) _ _ ⟨hp, g, d, t + 1, os⟩ "BaseException.__getattribute__" "BaseException" "__getattribute__" (.ref x) [.str "__class__" t] [] _ (by decide +kernel) (by decide +kernel) sub (PySem.F.args_bexc_ga (.ref x) (.str "__class__" t)) ?_
  unfold Builtin.«object.__getattribute__»
  refine wpAny_bind (wpAny_of_eq (a := ((Value.ref x : Value), [Value.str "__class__" t])) (by first | rfl | (simp only [slotArgs]; rfl)) ?_)
  refine wpAny_bind (wpAny_pure (wpAny_bind (L0.at (wpAny_bind (L3.at ?_)))))
  show wpAny _ _ (holding [Value.builtin "object.__class__"] (call (.builtin "getset_descriptor.__get__") [.builtin "object.__class__", .ref x, .ref D]) >>= ret) _ _ _
  refine wpAny_bind (wpAny_holding (wpAny_call (class_get (s := ⟨hp, g, d, t + 1, os⟩) (ox := ox) (od := odc) X I hm ?_)))
  refine wpAny_pure ?_
  show wpAny _ _ (handedOut (.ref D)) _ _ _
  rw [handedOut_of (v := .ref D) rfl]
  first
    | exact wpAny_pure (wpAny_pure h)
    | exact wpAny_pure h
    | exact wpAny_pure (wpAny_bind (wpAny_pure (wpAny_pure h)))
theorem kitx_exco (hga : findIn K (.ref D) "__getattribute__" = some (some (.builtin "BaseException.__getattribute__"))) (hgt : findIn K (.ref D) "__getattr__" = some none) (hsub : subIn K (.ref D) (.type "BaseException") = some true) (hdct : hasDictIn K D = true) (ha : findIn K (.ref D) "__class__" = some (some (.builtin "object.__class__")))
    (hn : specialIn K (.builtin "object.__class__") "__get__" = some (some (.builtin "getset_descriptor.__get__"))) (htk : takesIn K (.builtin "object.__class__") = some true) (hm : mroIn K D (.type "object") = some true) {odc : Option Obj} :
    KitX K (.ref x) (.ref D) (fun h => InstAt h x ox D odc) where
  ty := fun _ _ _ I => I.type
  it := fun _ _ X _ => by
    obtain ⟨cdD, hcD, _⟩ := any_some hdct
    unfold clsIn at hcD
    split at hcD
    · rename_i c' d' cd' sl' ho
      intro A' Q' E' s' k q
      unfold isType loadHead
      exact wpAny_bind (wpAny_loadPart (k _ _ (X _ _ ho)) (wpAny_pure q))
    · cases hcD
  ne := fun h tp dd its n sl X htp => by
    obtain ⟨cdD, hcD, _⟩ := any_some hdct
    refine Bool.eq_false_iff.mpr fun q => ?_
    have e : D = tp := Value.ref.inj (beq_iff_eq.mp q)
    subst e
    unfold clsIn at hcD
    split at hcD
    · rename_i c' d' cd' sl' ho
      have z := (X _ _ ho).symm.trans htp
      cases z
    · cases hcD
  ca := fun X I k => kin_classEo hga hgt hsub hdct ha hn htk hm X I k
end
end TK

namespace TK
open PySem PySem.Spec PyProof.Rows L2
/-- the caught exception as it stands: its dict none, or told -/
def DctAt (d : Option Addr) (H : Hp) : Prop := d = none ∨ ∃ (dd : Addr) (fs : List (Str × V)), d = some dd ∧ H dd = some (.xd fs)
theorem inst_suite {X : Cx} {a D : Addr} {oe : Obj} {cls : Value} {d : Option Addr} {pn pins : List (Addr × Obj)} {σ : L2.St} {H : Hp} {s : Shared} (hz : Zc cls d oe) (hf : ∃ vs, oe.data = .fields vs) (I : Inv (X.suite a ((a, oe) :: pn)) pins σ H s) (ec : cls = .ref D) (hd : DctAt d H) :
    ∃ od, PySem.W.InstAt s.heap a oe D od := by
  obtain ⟨hget, _⟩ := I.pin (a, oe) (List.mem_append.mpr (.inl List.mem_cons_self))
  obtain ⟨vs, hv⟩ := hf
  subst ec
  rcases hd with rfl | ⟨dd, fs, rfl, e⟩
  · exact ⟨none, hget, hz.1, by unfold PySem.W.notCls; rw [hv] <;> rfl, by rw [hz.2]; exact True.intro⟩
  · have hx : ObjOk X.prog X.w H s.heap dd (.xd fs) := I.hok dd _ e
    obtain ⟨mA, hns, hr⟩ := hx
    obtain ⟨od, ho, hl⟩ := lookIn_ns hns
    exact ⟨some od, hget, hz.1, by unfold PySem.W.notCls; rw [hv] <;> rfl, by rw [hz.2]; exact ho⟩
/-- isinstance(e, c) -/
def rIsX (K : PySem.W.Frag) (D a : Addr) (cls : Value) (d : Option Addr) : List V → Hp → VK → Prop := fun xs H Q => ∃ (c : V) (cv : Value) (b : Bool), xs = [.ref a, c] ∧ cls = .ref D ∧ DctAt d H ∧ (∀ u, RelV c u → u = cv) ∧ PySem.W.kitOne K (.ref D) cv = some b ∧ Q (.bl b) H
theorem call_isX {X : Cx} {a D : Addr} {oe : Obj} {cls : Value} {d : Option Addr} {pn : List (Addr × Obj)} (C : ExcC X.K D) (hz : Zc cls d oe) (hf : ∃ vs, oe.data = .fields vs) : CallR (X.suite a ((a, oe) :: pn)) (.builtin "isinstance") (rIsX X.K D a cls d) := by
  intro pins s σ H xs us Q I r h
  obtain ⟨c, cv, b, rfl, ec, hd, hcv, e, q⟩ := h
  cases r with
  | cons rx rr =>
    cases rr with
    | cons rt rr =>
      cases rr
      cases rx
      have ec2 := hcv _ rt
      subst ec2
      obtain ⟨od, J⟩ := inst_suite hz hf I ec hd
      exact PySem.W.kia_one (kitx_exco C.hg C.hk C.hs C.hd C.ha C.hn C.ht C.hm) I.kIn J e (fun z => nomatch z) fun tk => ⟨.bl b, H, I.kept (t' := tk) fun _ _ z => z, rfl, q⟩
/-- isinstance(e, (c, ..)) -/
def rIsXT (K : PySem.W.Frag) (D a : Addr) (cls : Value) (d : Option Addr) : List V → Hp → VK → Prop := fun xs H Q => ∃ (tp : Addr) (cs : List V) (ws : List Value) (b : Bool), xs = [.ref a, .ref tp] ∧ cls = .ref D ∧ DctAt d H ∧ H tp = some (.tup cs) ∧ (∀ us, Vals cs us → us = ws) ∧ PySem.W.kitAny K (.ref D) ws = some b ∧ Q (.bl b) H
theorem call_isXT {X : Cx} {a D : Addr} {oe : Obj} {cls : Value} {d : Option Addr} {pn : List (Addr × Obj)} (C : ExcC X.K D) (hz : Zc cls d oe) (hf : ∃ vs, oe.data = .fields vs) : CallR (X.suite a ((a, oe) :: pn)) (.builtin "isinstance") (rIsXT X.K D a cls d) := by
  intro pins s σ H xs us Q I r h
  obtain ⟨tp, cs, ws, b, rfl, ec, hd, hT, hw, e, q⟩ := h
  cases r with
  | cons rx rr =>
    cases rr with
    | cons rt rr =>
      cases rr
      cases rx
      cases rt
      obtain ⟨od, J⟩ := inst_suite hz hf I ec hd
      obtain ⟨_, its, rv, o, h1, h2, n, h3⟩ := (show ObjOk X.prog X.w H s.heap tp (.tup cs) from I.hok tp _ hT)
      have e3 := hw _ rv
      subst e3
      obtain ⟨oc, odd, dt, sl⟩ := o
      simp only at h2 h3
      subst h2 h3
      exact PySem.W.kia_tup (kitx_exco C.hg C.hk C.hs C.hd C.ha C.hn C.ht C.hm) I.kIn J h1 e (fun z => nomatch z) fun tk => ⟨.bl b, H, I.kept (t' := tk) fun _ _ z => z, rfl, q⟩
end TK

/-! which classes an own exception is of, from simple facts -/
namespace TK
open PySem PySem.Spec PyProof.Rows L2 NdefX
/-- what is known of a class -/
structure ClsK (K : PySem.W.Frag) (N : Addr) : Prop where
  is_ : PySem.W.isClsIn K N = true
  ty : PySem.W.typeIn K (.ref N) = some (.type "type")
theorem kitCls_ref {K : PySem.W.Frag} {A N : Addr} {b : Bool} (h : ClsK K N) (s : PySem.W.subIn K (.ref A) (.ref N) = some b) : PySem.W.kitCls K (.ref A) (.ref N) = some b := by
  have h1 := h.is_
  unfold PySem.W.isClsIn at h1
  unfold PySem.W.kitCls
  simp [h1, h.ty, s]
theorem kit_no {K : PySem.W.Frag} {A N : Addr} (h : ClsK K N) (r : PySem.W.subIn K (.ref A) (.ref A) = some true) (s : PySem.W.subIn K (.ref A) (.ref N) = some false) : PySem.W.kitOne K (.ref A) (.ref N) = some false := by
  have ne : ((Value.ref A) == Value.ref N) = false := by
    cases e : ((Value.ref A) == Value.ref N) with
    | false => rfl
    | true =>
      have e2 := eq_of_beq e
      rw [← e2, r] at s
      cases s
  unfold PySem.W.kitOne
  rw [ne]
  exact kitCls_ref h s
theorem kit_yes {K : PySem.W.Frag} {A N : Addr} (h : ClsK K N) (s : PySem.W.subIn K (.ref A) (.ref N) = some true) : PySem.W.kitOne K (.ref A) (.ref N) = some true := by
  unfold PySem.W.kitOne
  split
  · rfl
  · exact kitCls_ref h s
theorem kitT_yes {K : PySem.W.Frag} {A : Addr} {T : String} (m : PySem.W.kitMeta T = true) (s : PySem.W.subIn K (.ref A) (.type T) = some true) : PySem.W.kitOne K (.ref A) (.type T) = some true := by
  unfold PySem.W.kitOne
  split
  · rfl
  · unfold PySem.W.kitCls
    simp [m, s]
theorem exm_self {K : PySem.W.Frag} {C : Addr} (h : ClsK K C) (b : PySem.W.subIn K (.ref C) (.type "BaseException") = some true) (r : PySem.W.subIn K (.ref C) (.ref C) = some true) : PySem.W.exmOne K (.ref C) (.ref C) = some true := by
  unfold PySem.W.exmOne
  rw [b, kitCls_ref h r]
  rfl
theorem kitAny_no {K : PySem.W.Frag} {t : Value} : ∀ {cs : List Value}, (∀ c ∈ cs, PySem.W.kitOne K t c = some false) → PySem.W.kitAny K t cs = some false
  | [], _ => rfl
  | c :: r, h => by
    unfold PySem.W.kitAny
    rw [h c (List.mem_cons_self ..)]
    exact kitAny_no fun d hd => h d (List.mem_cons_of_mem _ hd)
theorem kitAny_c {K : PySem.W.Frag} {t c : Value} {cs : List Value} (h : PySem.W.kitOne K t c = some false) (r : PySem.W.kitAny K t cs = some false) : PySem.W.kitAny K t (c :: cs) = some false := by
  unfold PySem.W.kitAny
  rw [h]
  exact r
theorem kitMeta_VE : PySem.W.kitMeta "ValueError" = true := by decide +kernel
/-- the facts of an exception's class, as the top's world tells them -/
theorem oexC_mk {K : PySem.W.Frag} {C : Addr} {nm q : Str} {N : Addr} {bs bm : List Value} {sn : List Str} {sub : List Value} {ab : Bool} {col : Option Bool} {dd : Option Addr} {k0 k1 k2 k3 k5 : Option Value}
    (lC : K.lookup C = some (excClassObj nm q C N bs bm true sn sub ab col dd k0 k1 k2 k3 k5 "ValueError.__new__")) (rf : PySem.HandSPX.refsVE bm = true) (sa : PySem.W.findIn K (.ref C) "__setattr__" = some (some (.builtin "object.__setattr__")))
    (bx : PySem.W.subIn K (.ref C) (.type "BaseException") = some true) (ty : PySem.W.typeIn K (.ref C) = some (.type "type")) (kc : PySem.W.keepIn K (.ref C) = true) : OexC K C := ⟨⟨_, _, _, _, _, _, _, _, _, _, _, _, _, _, _, lC, rf⟩, sa, bx, ty, kc⟩
end TK

/-! calls of methods that may raise, the exception's promise with the slots as they stand -/
namespace TK
open PySem PySem.Spec PyProof.Rows L2 NdefX
section
variable {X : Cx} {CX : CXT} {k : Nat} {f g C : Addr} {m : Str} {fd : FuncData} {ps : List Str} {sp : Sp} {E : L2.St → XK} {apos pos : Pos} {o e : Expr} {es : List Expr} {ta : TE} {t : TA}
def tMethAt (C : Addr) (m : Str) (sp : Sp) (E : L2.St → XK) (ta : TE) (t : TA) : TE := fun σ H Q => ta σ H fun x H1 => ∃ a dx fs, x = V.ref a ∧ H1 a = some (.ins C dx fs) ∧ fs.lookup m = none ∧
  t σ H1 fun vs H2 => sp (x :: vs) H2 Q (E σ)
/-- o.m(e, ..), that may raise -/
theorem pe_methAt {pl : Sem Bool} (he : PE X o ta) (c : Cls X.K C) (hm : Meth X.K C m f) (F : FnOk X.prog X.w X.K X.mg X.base CX k f fd ps sp) (hr : Room k X.A) (hb : Binds X.K fd ps []) (hx : ∀ σ, PassesAt CX X σ (E σ)) (ha : PA X (e :: es) t)
    (hst : starEach (e :: es) X.env = (false, eval e X.env) :: starEach es X.env := by rfl) (hpl : (backTo pos (starEach es X.env)).any (·.1) = false := by rfl)
    (ht : eval (.Call (.Attribute o m apos) (e :: es) [] pos) X.env = (do
      let ov ← eval o X.env
      standAt apos.atName
      let (f, first) ← holding [ov] (getMethod ov m pl)
      callWith pos f first (backTo pos (starEach (e :: es) X.env)) (backToKw pos (keywordEach [] X.env))) := by rfl) :
    PE X (.Call (.Attribute o m apos) (e :: es) [] pos) (tMethAt C m sp E ta t) := by
  refine ⟨fun pins s σ H Q I h => ?_⟩
  refine PySem.W.methodCall_KW (pl := pl) (thn (he.run pins s σ H _ I h) fun u s1 ⟨x, H1, I1, rx, a, dx, fs, ex, ea, l, q⟩ => ?_) ht
  subst ex
  obtain rfl : u = Value.ref a := rx
  refine getmeth_ok I1 ea c hm l ?_
  refine PySem.W.callWith_K (first := [.ref a]) (h₀ := X.base) I.ok.mod.kin hm.kp (thn (ha.run pos pins s1 σ H1 _ I1 q) fun us s2 ⟨vs, H2, I2, r, q2⟩ => ⟨I2.kIn, ?_⟩) hst hpl
  exact run_fnS (us := .ref a :: us) (vs := .ref a :: vs) F hr hb (hx σ) I2 (.cons rfl r) q2
/-- o.m(), that may raise -/
theorem pe_methAt0 {pl : Sem Bool} (he : PE X o ta) (c : Cls X.K C) (hm : Meth X.K C m f) (F : FnOk X.prog X.w X.K X.mg X.base CX k f fd ps sp) (hr : Room k X.A) (hb : Binds X.K fd ps []) (hx : ∀ σ, PassesAt CX X σ (E σ))
    (ht : eval (.Call (.Attribute o m apos) [] [] pos) X.env = (do
      let ov ← eval o X.env
      standAt apos.atName
      let (f, first) ← holding [ov] (getMethod ov m pl)
      callWith pos f first (backTo pos (starEach [] X.env)) (backToKw pos (keywordEach [] X.env))) := by rfl) :
    PE X (.Call (.Attribute o m apos) [] [] pos) (tMethAt C m sp E ta tNil) := by
  refine ⟨fun pins s σ H Q I h => ?_⟩
  refine PySem.W.methodCall_KW (pl := pl) (thn (he.run pins s σ H _ I h) fun u s1 ⟨x, H1, I1, rx, a, dx, fs, ex, ea, l, q⟩ => ?_) ht
  subst ex
  obtain rfl : u = Value.ref a := rx
  refine getmeth_ok I1 ea c hm l ?_
  exact PySem.W.callWith_K0 (first := [.ref a]) I1.kIn hm.kp (run_fnS (us := [.ref a]) (vs := [.ref a]) F hr hb (hx σ) I1 (.cons rfl .nil) q)
end
end TK

/-! a sleeping generator is left alone by what never wakes it -/
namespace TK
open PySem PySem.Spec
def okF : Frame → Prop
  | .ret .. => True
  | .gen .. => False
def NGf (fs : List Frame) : Prop := ∀ f ∈ fs, okF f
def NGs : GenState → Prop
  | .suspended _ _ _ _ fs _ => NGf fs
  | _ => True
def NGe : End → Prop
  | .susp _ _ _ _ _ _ fs => NGf fs
  | .ret _ => True
def Stuck (x : GenState) : Prop := ∃ w l c p fs b, x = .suspended (fun _ => .unsupported w) l c p fs b
/-- G is g, but that the sleepers of T stand in G, and ones that cannot be woken in g -/
structure SwG (T : Nat → Option GenState) (g G : Array GenState) : Prop where
  sz : g.size = G.size
  no : ∀ i, T i = none → g[i]? = G[i]?
  yes : ∀ i o, T i = some o → G[i]? = some o ∧ ∃ k, g[i]? = some k ∧ Stuck k ∧ k.seen = o.seen
  ng : ∀ (i : Nat) (x : GenState), g[i]? = some x → NGs x
theorem no_runs {M : Model} {Γ : PySem.Ctx} {p : Pos} {w : String} {fs : List Frame} {s s' : Shared} {e : End} : ¬ Runs M Γ p (.unsupported w) fs s e s' := fun h => by
  generalize ht : (Sem.unsupported w : Sem PySem.Fin) = t at h
  induction h <;> first | (cases ht; done) | (rename_i a b c; first | exact a ht | exact b ht | exact c ht) | (rename_i a b; first | exact a ht | exact b ht) | simp_all
theorem SwG.at {T : Nat → Option GenState} {g G : Array GenState} {i : Nat} {x : GenState} (h : SwG T g G) (e : g[i]? = some x) (n : ¬ Stuck x) : T i = none ∧ G[i]? = some x := by
  cases ht : T i with
  | none => exact ⟨rfl, (h.no i ht) ▸ e⟩
  | some o =>
    obtain ⟨_, k, hk, st, _⟩ := h.yes i o ht
    rw [e] at hk
    exact absurd (Option.some.inj hk ▸ st) n
theorem SwG.set {T : Nat → Option GenState} {g G : Array GenState} {i : Nat} {x : GenState} (h : SwG T g G) (n : T i = none) (ng : NGs x) : SwG T (g.setIfInBounds i x) (G.setIfInBounds i x) := by
  refine ⟨by rw [Array.size_setIfInBounds, Array.size_setIfInBounds, h.sz], fun j hj => ?_, fun j o hj => ?_, fun j y hy => ?_⟩
  · rw [Array.getElem?_setIfInBounds, Array.getElem?_setIfInBounds, h.no j hj, h.sz]
  · have ne : i ≠ j := fun z => by rw [z, hj] at n; cases n
    rw [Array.getElem?_setIfInBounds_ne ne, Array.getElem?_setIfInBounds_ne ne]
    exact h.yes j o hj
  · rw [Array.getElem?_setIfInBounds] at hy
    split at hy
    · split at hy
      · cases Option.some.inj hy; exact ng
      · cases hy
    · exact h.ng j y hy
theorem SwG.push {T : Nat → Option GenState} {g G : Array GenState} {c : Code} (h : SwG T g G) : SwG T (g.push (.fresh c)) (G.push (.fresh c)) := by
  refine ⟨by rw [Array.size_push, Array.size_push, h.sz], fun j hj => ?_, fun j o hj => ?_, fun j y hy => ?_⟩
  · rw [Array.getElem?_push, Array.getElem?_push, h.sz, h.no j hj]
  · obtain ⟨h1, k, h2, h3⟩ := h.yes j o hj
    have l1 := (Array.getElem?_eq_some_iff.mp h1).1
    have l2 := (Array.getElem?_eq_some_iff.mp h2).1
    rw [Array.getElem?_push_lt l1, Array.getElem?_push_lt l2]
    rw [Array.getElem?_eq_getElem l1] at h1
    rw [Array.getElem?_eq_getElem l2] at h2
    exact ⟨h1, k, h2, h3⟩
  · rw [Array.getElem?_push] at hy
    split at hy
    · cases Option.some.inj hy; trivial
    · exact h.ng j y hy
theorem ng_nil : NGf [] := fun _ h => nomatch h
theorem ng_state {e : End} (h : NGe e) : NGs e.genState := by
  cases e with
  | ret r => trivial
  | susp v g l k c p fs => exact h
theorem ng_split : ∀ {fs : List Frame}, NGf fs → splitAtGen fs = none
  | [], _ => rfl
  | .ret .. :: r, h => by
    have := ng_split (fs := r) fun f m => h f (List.mem_cons_of_mem _ m)
    simp [splitAtGen, this]
  | .gen .. :: r, h => (h _ (List.mem_cons_self ..)).elim
theorem runs_sw {M : Model} {T : Nat → Option GenState} {Γ : PySem.Ctx} {p : Pos} {t : Sem PySem.Fin} {fs : List Frame} {s s' : Shared} {e : End} (h : Runs M Γ p t fs s e s') :
    ∀ G, SwG T s.gens G → NGf fs → ∃ G', Runs M Γ p t fs { s with gens := G } e { s' with gens := G' } ∧ SwG T s'.gens G' ∧ NGe e := by
  induction h with
  | done => exact fun G w _ => ⟨G, .done, w, trivial⟩
  | raise => exact fun G w _ => ⟨G, .raise, w, trivial⟩
  | again q _ ih => exact fun G w n => let ⟨G', r, w', n'⟩ := ih G w n; ⟨G', .again q r, w', n'⟩
  | rule _ ih => exact fun G w n => let ⟨G', r, w', n'⟩ := ih G w n; ⟨G', .rule r, w', n'⟩
  | «at» _ ih => exact fun G w n => let ⟨G', r, w', n'⟩ := ih G w n; ⟨G', .at r, w', n'⟩
  | load q _ ih => exact fun G w n => let ⟨G', r, w', n'⟩ := ih G w n; ⟨G', .load q r, w', n'⟩
  | update q _ ih => exact fun G w n => let ⟨G', r, w', n'⟩ := ih G w n; ⟨G', .update q r, w', n'⟩
  | loadIfAlive _ ih => exact fun G w n => let ⟨G', r, w', n'⟩ := ih G w n; ⟨G', .loadIfAlive r, w', n'⟩
  | point _ ih => exact fun G w n => let ⟨G', r, w', n'⟩ := ih G w n; ⟨G', .point r, w', n'⟩
  | alloc _ ih => exact fun G w n => let ⟨G', r, w', n'⟩ := ih G w n; ⟨G', .alloc r, w', n'⟩
  | fresh _ ih => exact fun G w n => let ⟨G', r, w', n'⟩ := ih G w n; ⟨G', .fresh r, w', n'⟩
  | ask _ ih => exact fun G w n => let ⟨G', r, w', n'⟩ := ih G w n; ⟨G', .ask r, w', n'⟩
  | choose q _ ih => exact fun G w n => let ⟨G', r, w', n'⟩ := ih G w n; ⟨G', .choose q r, w', n'⟩
  | os _ ih => exact fun G w n => let ⟨G', r, w', n'⟩ := ih G w n; ⟨G', .os r, w', n'⟩
  | handled _ ih => exact fun G w n => let ⟨G', r, w', n'⟩ := ih G w n; ⟨G', .handled r, w', n'⟩
  | stack _ ih => exact fun G w n => let ⟨G', r, w', n'⟩ := ih G w n; ⟨G', .stack r, w', n'⟩
  | thread _ ih => exact fun G w n => let ⟨G', r, w', n'⟩ := ih G w n; ⟨G', .thread r, w', n'⟩
  | @genState g st Γ p k s0 e s' q _ ih =>
    intro G w n
    obtain ⟨G', r, w', n'⟩ := ih G w n
    cases ht : T g with
    | none => exact ⟨G', .genState (w.no g ht ▸ q) r, w', n'⟩
    | some o =>
      obtain ⟨h1, k', h2, _, h3⟩ := w.yes g o ht
      rw [q] at h2
      cases Option.some.inj h2
      rw [h3] at r
      exact ⟨G', .genState h1 r, w', n'⟩
  | newGen _ ih =>
    intro G w n
    obtain ⟨G', r, w', n'⟩ := ih _ w.push n
    refine ⟨G', .newGen ?_, w', n'⟩
    rw [← w.sz]
    exact r
  | call _ _ ih1 ih2 =>
    intro G w n
    obtain ⟨G1, r1, w1, _⟩ := ih1 G w ng_nil
    obtain ⟨G2, r2, w2, n2⟩ := ih2 G1 w1 n
    exact ⟨G2, .call r1 r2, w2, n2⟩
  | callSusp _ ih =>
    intro G w n
    obtain ⟨G1, r1, w1, n1⟩ := ih G w ng_nil
    refine ⟨G1, .callSusp r1, w1, fun f m => ?_⟩
    rcases List.mem_append.mp m with m | m
    · exact n1 f m
    · rw [List.mem_singleton.mp m]; trivial
  | yield => exact fun G w _ => ⟨G, .yield, w, ng_nil⟩
  | resumeFresh q _ qe _ ih1 ih2 =>
    intro G w n
    obtain ⟨tn, q'⟩ := w.at q (fun ⟨_, _, _, _, _, _, z⟩ => nomatch z)
    obtain ⟨G1, r1, w1, n1⟩ := ih1 _ (w.set tn trivial) ng_nil
    obtain ⟨G2, r2, w2, n2⟩ := ih2 _ (w1.set tn (ng_state n1)) n
    exact ⟨G2, .resumeFresh q' r1 qe r2, w2, n2⟩
  | @resumeSuspended Γ p g r l k s k₀ l₀ c₀ p₀ fs cl e₁ s₁ e s' q r0 qe _ ih1 ih2 =>
    intro G w n
    have nst : ¬ Stuck (.suspended k₀ l₀ c₀ p₀ fs cl) := fun ⟨_, _, _, _, _, _, z⟩ => by
      cases z
      exact no_runs r0
    obtain ⟨tn, q'⟩ := w.at q nst
    obtain ⟨G1, r1, w1, n1⟩ := ih1 _ (w.set tn trivial) (w.ng _ _ q)
    obtain ⟨G2, r2, w2, n2⟩ := ih2 _ (w1.set tn (ng_state n1)) n
    exact ⟨G2, .resumeSuspended q' r1 qe r2, w2, n2⟩
  | resumeJustStarted q nv _ ih =>
    intro G w n
    obtain ⟨tn, q'⟩ := w.at q (fun ⟨_, _, _, _, _, _, z⟩ => nomatch z)
    obtain ⟨G2, r2, w2, n2⟩ := ih _ w n
    exact ⟨G2, .resumeJustStarted q' nv r2, w2, n2⟩
  | resumeThrowFresh q _ ih =>
    intro G w n
    obtain ⟨tn, q'⟩ := w.at q (fun ⟨_, _, _, _, _, _, z⟩ => nomatch z)
    obtain ⟨G2, r2, w2, n2⟩ := ih _ (w.set tn trivial) n
    exact ⟨G2, .resumeThrowFresh q' r2, w2, n2⟩
  | resumeRunning q _ ih =>
    intro G w n
    obtain ⟨tn, q'⟩ := w.at q (fun ⟨_, _, _, _, _, _, z⟩ => nomatch z)
    obtain ⟨G2, r2, w2, n2⟩ := ih _ w n
    exact ⟨G2, .resumeRunning q' r2, w2, n2⟩
  | resumeFinished q _ ih =>
    intro G w n
    obtain ⟨tn, q'⟩ := w.at q (fun ⟨_, _, _, _, _, _, z⟩ => nomatch z)
    obtain ⟨G2, r2, w2, n2⟩ := ih _ w n
    exact ⟨G2, .resumeFinished q' r2, w2, n2⟩
  | segRet _ _ ih1 ih2 =>
    intro G w n
    obtain ⟨G1, r1, w1, _⟩ := ih1 G w ng_nil
    obtain ⟨G2, r2, w2, n2⟩ := ih2 G1 w1 fun f m => n f (List.mem_cons_of_mem _ m)
    exact ⟨G2, .segRet r1 r2, w2, n2⟩
  | segGen _ _ _ _ => exact fun G w n => (n _ (List.mem_cons_self ..)).elim
  | segSuspOut q _ ih =>
    intro G w n
    obtain ⟨G1, r1, w1, n1⟩ := ih G w ng_nil
    refine ⟨G1, .segSuspOut q r1, w1, fun f m => ?_⟩
    rcases List.mem_append.mp m with m | m
    · exact n1 f m
    · exact n f m
  | segSuspGen q _ _ _ _ _ =>
    intro G w n
    rw [ng_split n] at q
    cases q
theorem wakes_sw {M : Model} {T : Nat → Option GenState} {Γ : PySem.Ctx} {p : Pos} {g : Nat} {r : Resume} {s s' : Shared} {res : GenResult} (h : Wakes M Γ p g r s res s') {G : Array GenState} (w : SwG T s.gens G) :
    ∃ G', Wakes M Γ p g r { s with gens := G } res { s' with gens := G' } ∧ SwG T s'.gens G' := by
  unfold Wakes at h ⊢
  cases e : s.gens[g]? with
  | none => rw [e] at h; exact h.elim
  | some x =>
    rw [e] at h
    have go : ∀ {c : PySem.Ctx} {q : Pos} {t : Sem PySem.Fin} {fs : List Frame} {y : GenState} {G : Array GenState}, T g = none → SwG T s.gens G → NGf fs → (∃ e₁ s₁, Runs M c q t fs (s.setGen g .running) e₁ s₁ ∧ e₁.quiet = true ∧ res = e₁.result ∧ s' = s₁.setGen g e₁.genState) →
        ∃ G', (∃ e₁ s₁, Runs M c q t fs (({ s with gens := G } : Shared).setGen g .running) e₁ s₁ ∧ e₁.quiet = true ∧ res = e₁.result ∧ ({ s' with gens := G' } : Shared) = s₁.setGen g e₁.genState) ∧ SwG T s'.gens G' := by
      rintro c q t fs y G tn w nf ⟨e₁, s₁, hr, h2, h3, rfl⟩
      obtain ⟨G1, r1, w1, n1⟩ := runs_sw hr _ (w.set tn trivial) nf
      exact ⟨_, ⟨e₁, { s₁ with gens := G1 }, r1, h2, h3, rfl⟩, w1.set tn (ng_state n1)⟩
    cases x with
    | fresh c =>
      obtain ⟨tn, q⟩ := w.at e (fun ⟨_, _, _, _, _, _, z⟩ => nomatch z)
      show ∃ G', (match G[g]? with | none => False | some (.fresh c) => _ | some (.suspended k₀ _ c₀ p₀ fs _) => _ | some .running => _ | some .finished => _) ∧ _
      rw [q]
      cases r with
      | send v =>
        cases v <;> first
          | exact go (y := .running) tn w ng_nil h
          | exact ⟨G, ⟨h.1, by rw [h.2]⟩, by rw [h.2]; exact w⟩
      | throw x => exact ⟨G.setIfInBounds g .finished, ⟨h.1, by rw [h.2]; rfl⟩, by rw [h.2]; exact w.set tn trivial⟩
    | suspended k₀ l₀ c₀ p₀ fs cl =>
      have nst : ¬ Stuck (.suspended k₀ l₀ c₀ p₀ fs cl) := fun ⟨_, _, _, _, _, _, z⟩ => by
        cases z
        obtain ⟨_, _, hr, _⟩ := h
        exact no_runs hr
      obtain ⟨tn, q⟩ := w.at e nst
      show ∃ G', (match G[g]? with | none => False | some (.fresh c) => _ | some (.suspended k₀ _ c₀ p₀ fs _) => _ | some .running => _ | some .finished => _) ∧ _
      rw [q]
      exact go (y := .running) tn w (w.ng _ _ e) h
    | running =>
      obtain ⟨tn, q⟩ := w.at e (fun ⟨_, _, _, _, _, _, z⟩ => nomatch z)
      show ∃ G', (match G[g]? with | none => False | some (.fresh c) => _ | some (.suspended k₀ _ c₀ p₀ fs _) => _ | some .running => _ | some .finished => _) ∧ _
      rw [q]
      exact ⟨G, ⟨h.1, by rw [h.2]⟩, by rw [h.2]; exact w⟩
    | finished =>
      obtain ⟨tn, q⟩ := w.at e (fun ⟨_, _, _, _, _, _, z⟩ => nomatch z)
      show ∃ G', (match G[g]? with | none => False | some (.fresh c) => _ | some (.suspended k₀ _ c₀ p₀ fs _) => _ | some .running => _ | some .finished => _) ∧ _
      rw [q]
      exact ⟨G, ⟨h.1, by rw [h.2]⟩, by rw [h.2]; exact w⟩
/-- what holds behind a run with the sleepers swapped -/
abbrev SwQ {α : Type} (T : Nat → Option GenState) (Q : α → Pos → Shared → Prop) : α → Pos → Shared → Prop := fun a p s' => ∃ g, SwG T g s'.gens ∧ Q a p { s' with gens := g }
theorem wp_sw {α : Type} (M : Model) (Γ : PySem.Ctx) (T : Nat → Option GenState) (t : Sem α) : ∀ (Q : α → Pos → Shared → Prop) (E : Value → Pos → Shared → Prop) (p : Pos) (s : Shared) (G : Array GenState), SwG T s.gens G → Sem.wp M Γ t Q E p s →
    Sem.wp M Γ t (SwQ T Q) (SwQ T E) p { s with gens := G } := by
  induction t with
  | pure a => intro Q E p s G w h; exact ⟨s.gens, w, h⟩
  | raise e => intro Q E p s G w h; exact ⟨s.gens, w, h⟩
  | unsupported _ => intro Q E p s G _ h; exact h
  | finish _ => intro Q E p s G _ h; exact h
  | rule _ k ih => intro Q E p s G w h; exact ih () Q E p s G w h
  | «at» p' k ih => intro Q E p s G w h; exact ih () Q E p' s G w h
  | load a _ k ih => intro Q E p s G w h; obtain ⟨o, ho, h⟩ := h; exact ⟨o, ho, ih o Q E p s G w h⟩
  | update a _ f k ih => intro Q E p s G w h; exact ⟨h.1, ih () Q E p { s with heap := s.heap.update a f } G w h.2⟩
  | loadIfAlive a k ih => intro Q E p s G w h; exact ih _ Q E p s G w h
  | point _ k ih => intro Q E p s G w h; exact ih () Q E p s G w h
  | register _ _ => intro Q E p s G _ h; exact h
  | alloc o k ih => intro Q E p s G w h; exact ih _ Q E p { s with heap := s.heap.push o } G w h
  | fresh k ih => intro Q E p s G w h; exact ih _ Q E p { s with toks := s.toks + 1 } G w h
  | ask k ih => intro Q E p s G w h; exact ih _ Q E p s G w h
  | choose src m k ih => intro Q E p s G w h; exact ⟨h.1, ih _ Q E p { s with drawn := s.drawn.bump src } G w h.2⟩
  | os q _ k ih => intro Q E p s G w h; exact ih _ Q E p { s with os := (Os.step s.os q).1 } G w h
  | call c hd _ _ k ih =>
    intro Q E p s G w h
    obtain ⟨r, s', hr, h⟩ := h
    obtain ⟨G', r', w', _⟩ := runs_sw hr G w ng_nil
    exact ⟨r, { s' with gens := G' }, r', ih r Q E p s' G' w' h⟩
  | handled own k ih => intro Q E p s G w h; exact ih _ Q E p s G w h
  | genState g k ih =>
    intro Q E p s G w h
    obtain ⟨st, hs, h⟩ := h
    cases ht : T g with
    | none => exact ⟨st, w.no g ht ▸ hs, ih _ Q E p s G w h⟩
    | some o =>
      obtain ⟨h1, k', h2, _, h3⟩ := w.yes g o ht
      rw [hs] at h2
      cases Option.some.inj h2
      refine ⟨o, h1, ?_⟩
      rw [← h3]
      exact ih _ Q E p s G w h
  | newGen c k ih =>
    intro Q E p s G w h
    have := ih s.gens.size Q E p { s with gens := s.gens.push (.fresh c) } _ w.push h
    show Sem.wp M Γ (k G.size) _ _ p { s with gens := G.push (.fresh c) }
    rw [← w.sz]
    exact this
  | resume g r _ k ih =>
    intro Q E p s G w h
    obtain ⟨res, s', hw, h⟩ := h
    obtain ⟨G', w1, w2⟩ := wakes_sw hw w
    exact ⟨res, { s' with gens := G' }, w1, ih res Q E p s' G' w2 h⟩
  | yield _ _ _ _ => intro Q E p s G _ h; exact h
  | stack k ih => intro Q E p s G w h; exact ih _ Q E p s G w h
  | fork _ _ => intro Q E p s G _ h; exact h
  | thread k ih => intro Q E p s G w h; exact ih _ Q E p s G w h
  | await _ _ _ _ _ => intro Q E p s G _ h; exact h
theorem wpAny_sw {α : Type} {M : Model} {A : Around} {T : Nat → Option GenState} {t : Sem α} {Q : α → Shared → Prop} {E : Value → Shared → Prop} {s : Shared} {G : Array GenState} (w : SwG T s.gens G) (h : wpAny M A t Q E s) :
    wpAny M A t (fun a s' => ∃ g, SwG T g s'.gens ∧ Q a { s' with gens := g }) (fun e s' => ∃ g, SwG T g s'.gens ∧ E e { s' with gens := g }) { s with gens := G } := fun Γ p hΓ => wp_sw M Γ T t _ _ p s G w (h Γ p hΓ)
end TK

/-! a walk that wakes none of the sleeping generators leaves them asleep -/
namespace TK
open PySem PySem.Spec PyProof.Rows L2
def asleepF (f : Frame) : Frame := .ret (fun _ => .unsupported "") none false [] f.where_.1 f.where_.2 []
def asleep : GenState → GenState
  | .suspended _ l c p fs cl => .suspended (fun _ => .unsupported "") l c p (fs.map asleepF) cl
  | x => x
/-- those that sleep -/
def tOf (G : Array GenState) (i : Nat) : Option GenState := match G[i]? with
  | some (.suspended k l c p fs cl) => some (.suspended k l c p fs cl)
  | _ => none
theorem asleep_bare (x : GenState) : (asleep x).bare = x.bare := by cases x <;> rfl
theorem asleep_seen (x : GenState) : (asleep x).seen = x.seen := by
  cases x with
  | suspended k l c p fs cl =>
    have e : (fs.map asleepF).map Frame.where_ = fs.map Frame.where_ := by
      rw [List.map_map]
      exact List.map_congr_left fun f _ => rfl
    show (GenStatus.suspended, some ((c, p) :: (fs.map asleepF).map Frame.where_)) = _
    rw [e]; rfl
  | _ => rfl
theorem tOf_some {G : Array GenState} {i : Nat} {o : GenState} (h : tOf G i = some o) : G[i]? = some o := by
  unfold tOf at h
  split at h
  · rename_i e; rw [e]; exact h
  · cases h
theorem swg_asleep (G : Array GenState) : SwG (tOf G) (G.map asleep) G := by
  refine ⟨Array.size_map .., fun i hi => ?_, fun i o hi => ?_, fun i x hx => ?_⟩
  · rw [Array.getElem?_map]
    unfold tOf at hi
    cases e : G[i]? with
    | none => rfl
    | some y =>
      rw [e] at hi
      cases y <;> first | rfl | cases hi
  · have e := tOf_some hi
    refine ⟨e, asleep o, by rw [Array.getElem?_map, e]; rfl, ?_, asleep_seen o⟩
    unfold tOf at hi
    rw [e] at hi
    cases o with
    | suspended k l c p fs cl => exact ⟨_, _, _, _, _, _, rfl⟩
    | _ => cases hi
  · rw [Array.getElem?_map] at hx
    obtain ⟨y, _, rfl⟩ := Option.map_eq_some_iff.mp hx
    cases y with
    | suspended k l c p fs cl =>
      intro f m
      obtain ⟨f', _, rfl⟩ := List.mem_map.mp m
      trivial
    | _ => trivial
section
variable {X : Cx} {pins : List (Addr × Obj)} {σ : L2.St} {H : Hp} {s : Shared}
theorem inv_gens (I : Inv X pins σ H s) {G : Array GenState} (b : AllBare G) : Inv X pins σ H { s with gens := G } := ⟨I.ok, I.os, b, I.base, I.loc, I.cell, I.free, I.freeC, I.pin, I.hok, I.len⟩
theorem bare_asleep {G : Array GenState} (b : AllBare G) : AllBare (G.map asleep) := fun y hy => by
  obtain ⟨x, hx, rfl⟩ := Array.mem_map.mp hy
  rw [asleep_bare]
  exact b x hx
/-- what was asleep before is so behind -/
def Slept0 (s s' : Shared) : Prop := ∀ i o, tOf s.gens i = some o → s'.gens[i]? = some o
theorem bare_back {G g : Array GenState} {s' : Shared} (b : AllBare G) (w : SwG (tOf G) g s'.gens) (bg : AllBare g) : AllBare s'.gens := fun y hy => by
  obtain ⟨i, hi⟩ := Array.getElem?_of_mem hy
  cases ht : tOf G i with
  | none => exact bg y (Array.mem_of_getElem? (w.no i ht ▸ hi))
  | some o =>
    obtain ⟨h1, _⟩ := w.yes i o ht
    rw [hi] at h1
    cases Option.some.inj h1
    exact b y (Array.mem_of_getElem? (tOf_some ht))
/-- any walk that is told by the invariant -/
theorem wp_keep {α : Type} {t : Sem α} {Q : α → Shared → Prop} {xe : Value → Shared → Prop} (I : Inv X pins σ H s) (hQ : ∀ a s' G, AllBare G → Q a s' → Q a { s' with gens := G }) (hB : ∀ a s', Q a s' → AllBare s'.gens) (hx : ∀ e s' G, xe e s' → xe e { s' with gens := G })
    (h : ∀ s0, Inv X pins σ H s0 → s0.heap = s.heap → wpAny (model X.prog X.w) X.A t Q xe s0) : wpAny (model X.prog X.w) X.A t (fun a s' => Q a s' ∧ Slept0 s s') xe s := by
  have w := swg_asleep s.gens
  have k := wpAny_sw (s := { s with gens := s.gens.map asleep }) w (h _ (inv_gens I (bare_asleep I.bare)) rfl)
  refine wpAny_mono k (fun a s' q => ?_) fun e s' q => ?_
  · obtain ⟨g, wg, q⟩ := q
    exact ⟨hQ a { s' with gens := g } s'.gens (bare_back I.bare wg (hB a _ q)) q, fun i o hi => (wg.yes i o hi).1⟩
  · obtain ⟨g, wg, q⟩ := q
    exact hx e { s' with gens := g } s'.gens q
theorem sp_gens {D : Ends} {f : Flow} {s' : Shared} {G : Array GenState} (b : AllBare G) (h : SP X pins D f s') : SP X pins D f { s' with gens := G } := by
  cases f with
  | next => obtain ⟨σ', H', I, q⟩ := h; exact ⟨σ', H', inv_gens I b, q⟩
  | brk => obtain ⟨σ', H', I, q⟩ := h; exact ⟨σ', H', inv_gens I b, q⟩
  | cont => obtain ⟨σ', H', I, q⟩ := h; exact ⟨σ', H', inv_gens I b, q⟩
  | ret u => obtain ⟨v, σ', H', I, r, q⟩ := h; exact ⟨v, σ', H', inv_gens I b, r, q⟩
theorem sp_bare {D : Ends} {f : Flow} {s' : Shared} (h : SP X pins D f s') : AllBare s'.gens := by
  cases f with
  | next => obtain ⟨_, _, I, _⟩ := h; exact I.bare
  | brk => obtain ⟨_, _, I, _⟩ := h; exact I.bare
  | cont => obtain ⟨_, _, I, _⟩ := h; exact I.bare
  | ret u => obtain ⟨_, _, _, I, _⟩ := h; exact I.bare
/-- statements leave the sleepers asleep -/
theorem pss_keep {body : List Stmt} {tb : TS} {D : Ends} (hb : PSs X body tb) (hx : ∀ e s' G, X.xe e s' → X.xe e { s' with gens := G }) (I : Inv X pins σ H s) (h : tb D σ H) :
    wpAny (model X.prog X.w) X.A (execs body X.env) (fun f s' => SP X pins D f s' ∧ Slept0 s s') X.xe s :=
  wp_keep I (fun f s' G b q => sp_gens b q) (fun f s' q => sp_bare q) hx fun s0 I0 _ => hb.run _ s0 σ H _ I0 h
end
end TK

/-! a `for` whose iterator is told turn by turn: the invariant may speak of sleeping generators -/
namespace TK
open PySem PySem.Spec PyProof.Rows L2
section
variable {X : Cx} {pins : List (Addr × Obj)}
/-- storing leaves the sleepers asleep -/
theorem pg_keep {σ : L2.St} {H : Hp} {s : Shared} {tg : Expr} {g : TG} {v : V} {u : Value} {Q : L2.St → Hp → Prop} (hg : PG X tg g) (hx : ∀ e s' G, X.xe e s' → X.xe e { s' with gens := G }) (I : Inv X pins σ H s) (r : RelV v u) (h : g v σ H Q) :
    wpAny (model X.prog X.w) X.A (assign tg X.env u) (fun _ s' => (∃ σ' H', Inv X pins σ' H' s' ∧ Q σ' H') ∧ Slept0 s s') X.xe s :=
  wp_keep I (fun _ _ _ b ⟨σ', H', J, q⟩ => ⟨σ', H', inv_gens J b, q⟩) (fun _ _ ⟨_, _, J, _⟩ => J.bare) hx fun s0 I0 _ => hg.run _ s0 σ H v u _ I0 r h
theorem Slept0.trans {s s' s'' : Shared} (a : Slept0 s s') (b : Slept0 s' s'') : Slept0 s s'' := fun i o h => by
  have e := a i o h
  refine b i o ?_
  have q := tOf_some h
  unfold tOf at h ⊢
  rw [q] at h
  rw [e]
  exact h
/-- what a turn must give: the end, or an item with what makes the next one possible -/
def TurnG (X : Cx) (pins : List (Addr × Obj)) (it : Addr) (g : TG) (tb : TS) (D : Ends) (L : Nat → Shared → Prop) (n : Nat) (r : Option Value) (s1 : Shared) : Prop := match r with
  | none => ∃ σ H, Inv X pins σ H s1 ∧ D.nx σ H
  | some u => ∃ (more : List (Addr × Obj)) (x : V) (σ : L2.St) (H : Hp) (N : L2.St → Hp → Prop) (o : Obj) (nm : String) (vs : Array Value),
      Inv X (pins ++ more) σ H s1 ∧ RelV x u ∧ s1.heap.get? it = some o ∧ o.cls = .type nm ∧ o.data = .fields vs ∧
      ["enumerate", "zip", "dict_itemiterator", "dict_reverseitemiterator", "odict_iterator", "itertools.zip_longest", "itertools.pairwise"].contains nm = false ∧
      g x σ H (fun σ2 H2 => tb { D with nx := N, ct := N, bk := D.nx } σ2 H2) ∧
      ∀ σ' H' s', Inv X (pins ++ more) σ' H' s' → Slept0 s1 s' → N σ' H' → ∃ m, m < n ∧ L m s'
theorem ps_forG {tg iter : Expr} {body : List Stmt} {g : TG} {tb : TS} {pos : Pos} {σ : L2.St} {H : Hp} {s : Shared} {D : Ends} (hp : PassesOwn (model X.prog X.w) X.A X.env X.xe) (hg : PG X tg g) (hb : PSs X body tb) (hx : ∀ e s' G, X.xe e s' → X.xe e { s' with gens := G })
    (hi : wpAny (model X.prog X.w) X.A (eval iter X.env) (fun v s1 => wpAny (model X.prog X.w) X.A (pyIter v) (fun itv s2 => ∃ (it : Addr) (L : Nat → Shared → Prop), itv = .ref it ∧ (∃ m, L m s2) ∧
      ∀ n s', L n s' → wpAny (model X.prog X.w) X.A (pyNext (.ref it)) (TurnG X pins it g tb D L n) X.xe s') X.xe s1) X.xe s)
    (hs : ∀ x, foldedSetIterable iter X.env x = pure x := by intro _; rfl) :
    wpAny (model X.prog X.w) X.A (exec (.For tg iter body [] pos) X.env) (SP X pins D) X.xe s := by
  refine wpAny_For (wpAny_mono hi (fun v s1 h1 => wpAny_mono h1 (fun itv s2 h2 => ?_) fun _ _ x => x) fun _ _ x => x) hs
  obtain ⟨it, L, rfl, ⟨m0, l0⟩, turn⟩ := h2
  refine codeAny_forLoop_any L ?_ m0 l0
  intro n s3 l3
  refine wpAny_passesOwn hp (wpAny_mono (turn n s3 l3) (fun r s4 h4 => ?_) fun _ _ x => x)
  cases r with
  | none =>
    obtain ⟨σ3, H3, I4, qn⟩ := h4
    exact wpAny_execs_nil ⟨σ3, H3, I4, qn⟩
  | some u =>
    obtain ⟨more, x, σ5, H5, N, o, nm, vs, I5, r5, ho, hc, hd, hn, st, again⟩ := h4
    refine wpAny_passesOwn hp (go_of ho hc hd hn ?_)
    refine wpAny_passesOwn hp (wpAny_mono (pg_keep hg hx I5 r5 st) (fun _ s6 ⟨⟨σ6, H6, I6, q6⟩, k6⟩ => ?_) fun _ _ x => x)
    refine wpAny_passesOwn hp (wpAny_mono (pss_keep hb hx I6 q6) (fun f s7 ⟨q7, k7⟩ => ?_) fun _ _ x => x)
    cases f with
    | next => obtain ⟨σ7, H7, I7, n7⟩ := q7; exact again _ _ _ I7 (k6.trans k7) n7
    | cont => obtain ⟨σ7, H7, I7, n7⟩ := q7; exact again _ _ _ I7 (k6.trans k7) n7
    | brk => obtain ⟨σ7, H7, I7, q7⟩ := q7; exact ⟨σ7, H7, I7.unpinned, q7⟩
    | ret v => obtain ⟨x7, σ7, H7, I7, r7, q7⟩ := q7; exact ⟨x7, σ7, H7, I7.unpinned, r7, q7⟩
end
end TK

/-! a generator's frame woken in a later state: its invariant anew, the ground being that state's heap below the frame -/
namespace TK
open PySem PySem.Spec PyProof.Rows L2
/-- the heap's first n objects -/
def cutSh (n : Nat) (s : Shared) : Shared := { s with heap := { s.heap with objs := s.heap.objs.extract 0 n } }
theorem cutSh_size {n : Nat} {s : Shared} (h : n ≤ s.heap.objs.size) : (cutSh n s).heap.objs.size = n := by
  show (s.heap.objs.extract 0 n).size = n
  rw [Array.size_extract]; omega
theorem cutSh_get {n : Nat} {s : Shared} {b : Addr} (h : b < n) : (cutSh n s).heap.get? b = s.heap.get? b := by
  unfold Heap.get?
  show (match (s.heap.objs.extract 0 n)[b]? with | some ⟨_, _, .freed, _⟩ => none | o => o) = _
  have h' : (b : Nat) < n := h
  have e : (s.heap.objs.extract 0 n)[b]? = s.heap.objs[b]? := by
    rw [Array.getElem?_extract, Nat.zero_add, Nat.sub_zero]
    by_cases hb : (b : Nat) < s.heap.objs.size
    · exact if_pos (Nat.lt_min.mpr ⟨h', hb⟩)
    · rw [if_neg fun z => hb (Nat.lt_min.mp z).2, Array.getElem?_eq_none (Nat.le_of_not_lt hb)]
  rw [e]; rfl
theorem cutSh_some {n : Nat} {s : Shared} {b : Addr} {o : Obj} (l : n ≤ s.heap.objs.size) (h : (cutSh n s).heap.get? b = some o) : b < n ∧ s.heap.get? b = some o := by
  have hb : b < n := by have := Heap.lt_size h; rw [cutSh_size l] at this; exact this
  exact ⟨hb, (cutSh_get hb) ▸ h⟩
theorem un_cut {fs : List Addr} {n : Nat} {s : Shared} {H : Hp} (l : n ≤ s.heap.objs.size) : Un fs [] H H (cutSh n s).heap s.heap :=
  ⟨fun b o e _ _ _ => (cutSh_some l e).2, fun b o e _ _ _ => ⟨o.slots, (cutSh_some l e).2⟩, fun b o _ h _ => h, fun b o e _ => ⟨o, (cutSh_some l e).2⟩, fun _ _ h => h, fun _ _ _ h => h, fun b ps h => ⟨#[], by rw [h]; simp⟩⟩
theorem funs_cut {base : Heap} {n : Nat} {s : Shared} : ∀ {l : List Env}, s.heap.FunFrames base l → (∀ b ∈ frs l, b < n) → (cutSh n s).heap.FunFrames base l
  | [], _, _ => trivial
  | env :: r, ⟨hk, ⟨L, o, hf, hb, ho, hd⟩, hr⟩, h => by
    have hL : L < n := h L (by unfold frs; rw [List.filterMap_cons, hf]; exact List.mem_cons_self ..)
    refine ⟨hk, ⟨L, o, hf, hb, (cutSh_get hL).trans ho, hd⟩, funs_cut hr fun b m => h b ?_⟩
    unfold frs at m ⊢
    rw [List.filterMap_cons, hf]
    exact List.mem_cons_of_mem _ m
section
variable {P : Program} {w : World} {K : PySem.W.Frag} {mg : Str → Option Value} {base : Heap} {N : List Str} {qual : Str} {scope : Scope} {f : Addr} {cd : Value} {A A0 : Around} {outer outer0 : List Env} {s0 sy s : Shared} {H0 Hy H : Hp} {E E0 : XK} {pn pn0 pins pins0 : List (Addr × Obj)} {σ : L2.St}
/-- the objects of the frame: its names and its cells -/
def FrObj (qual : Str) (scope : Scope) (n : Nat) (f : Addr) (cd : Value) (b : Addr) : Prop := b = n ∨ ∃ x, (envOfC qual scope n f cd).cells.lookup x = some b
theorem inv_wake (I : Inv (gcxOf P w K mg base N qual scope f cd A0 outer0 s0 H0 E0 pn0) pins0 σ Hy sy) (e0 : Env0 P w K mg base A outer s H) (hd : A.handled = none) (hl : s0.heap.objs.size ≤ s.heap.objs.size)
    (hfr : ∀ b ∈ frs outer, b < s0.heap.objs.size) (keep : ∀ b, FrObj qual scope s0.heap.objs.size f cd b → H b = none ∧ ∀ o, sy.heap.get? b = some o → s.heap.get? b = some o)
    (hp : ∀ p ∈ pn ++ pins, s.heap.get? p.1 = some p.2 ∧ H p.1 = none ∧ p.1 ≠ s0.heap.objs.size ∧ p.1 ∉ frs outer ∧ ∀ v, p.2.data ≠ .cell v) :
    Inv (gcxOf P w K mg base N qual scope f cd A outer (cutSh s0.heap.objs.size s) H E pn) pins σ H s := by
  have hsz := cutSh_size hl
  have ee : envOfC qual scope (cutSh s0.heap.objs.size s).heap.objs.size f cd = envOfC qual scope s0.heap.objs.size f cd := by rw [hsz]
  have e1 : (gcxOf P w K mg base N qual scope f cd A outer (cutSh s0.heap.objs.size s) H E pn).env = (gcxOf P w K mg base N qual scope f cd A0 outer0 s0 H0 E0 pn0).env := ee
  have kc : ∀ x c, (envOfC qual scope s0.heap.objs.size f cd).cells.lookup x = some c → ∀ v, sy.heap.IsCell c v → s.heap.IsCell c v := fun x c h v q => by
    obtain ⟨o, ho, r⟩ := q
    exact ⟨o, (keep c (.inr ⟨x, h⟩)).2 o ho, r⟩
  refine ⟨⟨e0.mod, e1 ▸ I.ok.kind, e1 ▸ I.ok.glob, e1 ▸ I.ok.blt, ?_, e1 ▸ I.ok.inj, e1 ▸ I.ok.has, ?_, fun _ => hd, ?_, .inr ⟨rfl, rfl⟩, (fun b z => nomatch z), fun b o q => ?_, ?_, (fun b o _ z => nomatch z), (fun b z => nomatch z), funs_cut e0.funs hfr, e0.frf⟩,
    rfl, e0.bare, un_cut hl, ?_, ?_, ?_, ?_, ?_, e0.hok, I.len⟩
  · exact Nat.le_refl _
  · intro x c hx h
    rw [e1] at h
    show (cutSh s0.heap.objs.size s).heap.objs.size ≤ c
    rw [hsz]
    exact I.ok.cab x c hx h
  · exact Around.frames_deeper e0.frames
  · obtain ⟨q1, q2⟩ := e0.bs b o q
    refine ⟨?_, q2⟩
    have := Heap.lt_size q
    have h2 := I.ok.bsz
    exact (cutSh_get (Nat.lt_of_lt_of_le this h2)).trans q1
  · show base.objs.size ≤ (cutSh s0.heap.objs.size s).heap.objs.size
    rw [hsz]
    exact I.ok.bsz
  · rw [e1]
    obtain ⟨m, hm, h⟩ := I.loc
    refine ⟨m, hm.at' fun o e => (keep _ (.inl rfl)).2 o e, fun i x v h1 h2 h3 => ?_⟩
    obtain ⟨u, r, k⟩ := h i x v h1 h2 h3
    refine ⟨u, r, ?_⟩
    rcases k with k | ⟨k, c, hc, q⟩
    · exact .inl k
    · exact .inr ⟨k, c, hc, kc x c hc _ q⟩
  · rw [e1]
    intro x c h
    obtain ⟨v, q⟩ := I.cell x c h
    exact ⟨v, kc x c h v q⟩
  · rw [e1]; exact (keep _ (.inl rfl)).1
  · rw [e1]; intro x c h; exact (keep c (.inr ⟨x, h⟩)).1
  · rw [e1]; exact hp
end
end TK

/-! a generator's body told over a family of contexts: one for each state in which it is woken -/
namespace TK
open PySem PySem.Spec PyProof.Rows L2
/-- cx s₀: the context of what runs since s₀; pins s₀, hp s₀: what whoever woke it then wants to stand, and the objects of that moment -/
structure Fam where
  P : Program
  w : World
  K : PySem.W.Frag
  n0 : Nat
  A : Around
  env : Env
  cx : Nat → Shared → Hp → Cx
  pins : List (Addr × Obj)
  adm : Nat → Shared → Hp → Prop
structure Fam.At (Φ : Fam) (ip : List (Addr × Obj)) (n : Nat) (s₀ : Shared) (h₀ : Hp) : Prop where
  adm : Φ.adm n s₀ h₀
  prog : (Φ.cx n s₀ h₀).prog = Φ.P
  wd : (Φ.cx n s₀ h₀).w = Φ.w
  ar : (Φ.cx n s₀ h₀).A = Φ.A
  env : (Φ.cx n s₀ h₀).env = Φ.env
  kk : (Φ.cx n s₀ h₀).K = Φ.K
  calm : (Φ.cx n s₀ h₀).calm = true
  low : (Φ.cx n s₀ h₀).s_0.heap.objs.size = Φ.n0
  exn : (Φ.cx n s₀ h₀).ex = []
  ap : ∀ p ∈ ip, ∀ q ∈ (Φ.cx n s₀ h₀).pn ++ Φ.pins, q.1 ≠ p.1
/-- running since s₀; ip: the generator's own iterators as they stand -/
def FRun (Φ : Fam) (ip : List (Addr × Obj)) (n : Nat) (s₀ : Shared) (h₀ : Hp) (σ : L2.St) (H : Hp) (s : Shared) : Prop := Φ.At ip n s₀ h₀ ∧ Inv (Φ.cx n s₀ h₀) (ip ++ Φ.pins) σ H s
abbrev FOut := Nat → V → Hp → Hp → Prop
/-- an item goes out; woken in a state where it can run, and what sl tells of the objects holds -/
def FY (Φ : Fam) (out : FOut) (sl : Hp → Hp → Prop) : Protocol := fun n s₀ v s kap =>
  ∃ x ip h₀ σ H, FRun Φ ip (n + 1) s₀ h₀ σ H s ∧ RelV x v ∧ out n x h₀ H ∧ ∀ s' h', FRun Φ ip n s' h' σ h' s' → sl H h' → kap (.send .none) s' ∧ kap (.send (.bool true)) s'
structure FEnds where
  nx : Nat → Hp → L2.St → Hp → Prop
  rt : Nat → Hp → VK
  bk : Nat → Hp → L2.St → Hp → Prop := fun _ _ _ _ => False
  ct : Nat → Hp → L2.St → Hp → Prop := fun _ _ _ _ => False
abbrev TF := FEnds → Nat → Hp → L2.St → Hp → Prop
def FEnds.at (D : FEnds) (n : Nat) (h₀ : Hp) : Ends := { nx := D.nx n h₀, rt := D.rt n h₀, bk := D.bk n h₀, ct := D.ct n h₀ }
structure FC (Φ : Fam) (A : Around) (c : Code) (fs : List Frame) (gd : Bool → Bool) : Prop where
  over : A.over c fs = Φ.A
  split : splitAtGen fs = none
  guard : fs.any Frame.guarded = false
  gd : gd false = false
structure FK (Φ : Fam) (ip : List (Addr × Obj)) (A : Around) (R : GenEnd) (out : FOut) (sl : Hp → Hp → Prop) (c : Code) (fs : List Frame) (K : Flow → Sem PySem.Fin) (J : Value → Sem PySem.Fin) (D : FEnds) : Prop where
  ok : ∀ (n : Nat) (s₀ : Shared) (h₀ : Hp) (s : Shared) (f : Flow), Φ.At ip n s₀ h₀ → SP (Φ.cx n s₀ h₀) (ip ++ Φ.pins) (D.at n h₀) f s → Seg (model Φ.P Φ.w) A R (FY Φ out sl) n s₀ c (K f) fs s
  exc : ∀ (n : Nat) (s₀ : Shared) (h₀ : Hp) (e : Value) (s : Shared), Φ.At ip n s₀ h₀ → (Φ.cx n s₀ h₀).xe e s → Seg (model Φ.P Φ.w) A R (FY Φ out sl) n s₀ c (J e) fs s
def FT (Φ : Fam) (out : FOut) (sl : Hp → Hp → Prop) (m : Sem Flow) (t : TF) : Prop :=
  ∀ (A : Around) (ip : List (Addr × Obj)) (R : GenEnd) (n : Nat) (s₀ : Shared) (h₀ : Hp) (c : Code) (fs : List Frame) (K : Flow → Sem PySem.Fin) (J : Value → Sem PySem.Fin) (gd : Bool → Bool) (lv : List Value → List Value) (s : Shared) (σ : L2.St) (H : Hp) (D : FEnds),
    FC Φ A c fs gd → FK Φ ip A R out sl c fs K J D → FRun Φ ip n s₀ h₀ σ H s → t D n h₀ σ H → Seg (model Φ.P Φ.w) A R (FY Φ out sl) n s₀ c (m.wrap K J gd lv) fs s
abbrev FS (Φ : Fam) (out : FOut) (sl : Hp → Hp → Prop) (st : Stmt) (t : TF) : Prop := FT Φ out sl (exec st Φ.env) t
abbrev FSs (Φ : Fam) (out : FOut) (sl : Hp → Hp → Prop) (st : List Stmt) (t : TF) : Prop := FT Φ out sl (execs st Φ.env) t
section
variable {Φ : Fam} {out : FOut} {sl : Hp → Hp → Prop} {st : Stmt} {rest : List Stmt}
def tFPlain (t : TS) : TF := fun D n h₀ σ H => t (D.at n h₀) σ H
theorem fs_ps {t : TS} (h : ∀ n s₀ h₀, PS (Φ.cx n s₀ h₀) st t) : FS Φ out sl st (tFPlain t) := by
  intro A ip R n s₀ h₀ c fs K J gd lv s σ H D g k hI ht
  obtain ⟨a, I⟩ := hI
  refine seg_wrap ?_
  rw [g.over]
  have q := (h n s₀ h₀).run _ s σ H (D.at n h₀) I ht
  rw [a.prog, a.wd, a.ar, a.env] at q
  exact wpAny_mono q (fun f s' hs => k.ok n s₀ h₀ s' f a hs) fun x s' hx => k.exc n s₀ h₀ x s' a hx
theorem fss_pss {t : TS} (h : ∀ n s₀ h₀, PSs (Φ.cx n s₀ h₀) rest t) : FSs Φ out sl rest (tFPlain t) := by
  intro A ip R n s₀ h₀ c fs K J gd lv s σ H D g k hI ht
  obtain ⟨a, I⟩ := hI
  refine seg_wrap ?_
  rw [g.over]
  have q := (h n s₀ h₀).run _ s σ H (D.at n h₀) I ht
  rw [a.prog, a.wd, a.ar, a.env] at q
  exact wpAny_mono q (fun f s' hs => k.ok n s₀ h₀ s' f a hs) fun x s' hx => k.exc n s₀ h₀ x s' a hx
def tF0 : TF := fun D n h₀ σ H => D.nx n h₀ σ H
theorem fss_nil : FSs Φ out sl [] tF0 := by
  intro A ip R n s₀ h₀ c fs K J gd lv s σ H D g k hI ht
  exact seg_execs_nil (k.ok n s₀ h₀ s .next hI.1 ⟨σ, H, hI.2, ht⟩)
def tFThen (t u : TF) : TF := fun D n h₀ σ H => t { D with nx := fun n' h' σ' H' => u D n' h' σ' H' } n h₀ σ H
theorem fss_cons {t u : TF} (a : FS Φ out sl st t) (b : FSs Φ out sl rest u) : FSs Φ out sl (st :: rest) (tFThen t u) := by
  intro A ip R n s₀ h₀ c fs K J gd lv s σ H D g k hI ht
  refine seg_execs_cons ?_
  refine a A ip R n s₀ h₀ c fs _ J gd lv s σ H { D with nx := fun n' s' σ' H' => u D n' s' σ' H' } g ⟨fun n' s₀' h₀' s' f at' hs => ?_, k.exc⟩ hI ht
  cases f with
  | next =>
    obtain ⟨σ', H', I', q⟩ := hs
    exact b A ip R n' s₀' h₀' c fs K J gd lv s' σ' H' D g k ⟨at', I'⟩ q
  | brk => exact k.ok n' s₀' h₀' s' .brk at' hs
  | cont => exact k.ok n' s₀' h₀' s' .cont at' hs
  | ret u => exact k.ok n' s₀' h₀' s' (.ret u) at' hs
def tFYield (out : FOut) (sl : Hp → Hp → Prop) (te : TE) : TF := fun D n h₀ σ H => ∃ m, n = m + 1 ∧ te σ H fun x H1 => out m x h₀ H1 ∧ ∀ h', sl H1 h' → D.nx m h' σ h'
theorem fs_yield {e : Expr} {yp pos : Pos} {te : TE} (he : ∀ n s₀ h₀, PE (Φ.cx n s₀ h₀) e te) (hco : Φ.env.scope.isCoroutine = false) (hi : interactive Φ.env = false) : FS Φ out sl (.Expr (.Yield (some e) yp) pos) (tFYield out sl te) := by
  intro A ip R n s₀ h₀ c fs K J gd lv s σ H D g k hI ht
  obtain ⟨m, rfl, ht⟩ := ht
  obtain ⟨a, I⟩ := hI
  refine seg_Expr_Yield g.split g.gd g.guard ?_ hco hi
  rw [g.over]
  have q := (he _ s₀ h₀).run _ s σ H _ I ht
  rw [a.prog, a.wd, a.ar, a.env] at q
  refine wpAny_mono q (fun v s' hv => ?_) fun x s' hx => k.exc _ s₀ h₀ x s' a hx
  obtain ⟨x, H1, I1, rv, o, q⟩ := hv
  intro kap hk
  exact ⟨x, ip, h₀, σ, H1, ⟨a, I1⟩, rv, o, fun s'' h'' r hs => have z := k.ok m s'' h'' s'' .next r.1 ⟨σ, h'', r.2, q h'' hs⟩; ⟨hk .none s'' z, hk (.bool true) s'' z⟩⟩
end
end TK

/-! a generator's body: if, while -/
namespace TK
open PySem PySem.Spec PyProof.Rows L2 GenW
section
variable {Φ : Fam} {out : FOut} {sl : Hp → Hp → Prop}
def tFIf (tc : TT) (t u : TF) : TF := fun D n h₀ σ H => tc σ H fun b H1 => if b = true then t D n h₀ σ H1 else u D n h₀ σ H1
theorem fs_if {test : Expr} {a b : List Stmt} {pos : Pos} {tc : TT} {t u : TF} (hc : ∀ n s₀ h₀, PT (Φ.cx n s₀ h₀) test tc) (ha : FSs Φ out sl a t) (hb : FSs Φ out sl b u) : FS Φ out sl (.If test a b pos) (tFIf tc t u) := by
  intro A ip R n s₀ h₀ c fs K J gd lv s σ H D g k hI ht
  obtain ⟨at', I⟩ := hI
  rw [exec_If]
  refine seg_bind_wrap (wpAny_standAt (seg_bind_wrap ?_))
  rw [g.over]
  have q := (hc n s₀ h₀).run _ s σ H _ I ht
  rw [at'.prog, at'.wd, at'.ar, at'.env] at q
  refine wpAny_mono q (fun d s1 ⟨H1, I1, q1⟩ => ?_) fun x s' hx => k.exc n s₀ h₀ x s' at' hx
  cases d with
  | true => rw [if_pos rfl] at q1 ⊢; exact ha A ip R n s₀ h₀ c fs K J gd lv s1 σ H1 D g k ⟨at', I1⟩ q1
  | false => rw [if_neg Bool.false_ne_true] at q1 ⊢; exact hb A ip R n s₀ h₀ c fs K J gd lv s1 σ H1 D g k ⟨at', I1⟩ q1
theorem fc_loop {A : Around} {c c' : Code} {fs : List Frame} {gd : Bool → Bool} {k : Result → Sem PySem.Fin} {l kp : List Value} {p : Pos} (g : FC Φ A c fs gd) (hw : c'.weight = 0) (hu : c'.cUnits = 0) :
    FC Φ A c' (.ret k none (gd false) l c p kp :: fs) id where
  over := (over_loop hw hu).trans g.over
  split := by
    show (splitAtGen fs).map _ = none
    rw [g.split]; rfl
  guard := by
    show (gd false || fs.any Frame.guarded) = false
    rw [g.gd, g.guard]; rfl
  gd := rfl
theorem fk_cameBack {ip : List (Addr × Obj)} {A : Around} {R : GenEnd} {c : Code} {fs : List Frame} {K : Flow → Sem PySem.Fin} {J : Value → Sem PySem.Fin} {gd : Bool → Bool} {lv : List Value → List Value} {D : FEnds} {n : Nat} {s₀ s : Shared} {h₀ : Hp} {e : Value}
    (a : Φ.At ip n s₀ h₀) (g : FC Φ A c fs gd) (k : FK Φ ip A R out sl c fs K J D) (h : cameBackBy (model (Φ.cx n s₀ h₀).prog (Φ.cx n s₀ h₀).w) (Φ.cx n s₀ h₀).A (Φ.cx n s₀ h₀).env (Φ.cx n s₀ h₀).xe e s) :
    Seg (model Φ.P Φ.w) A R (FY Φ out sl) n s₀ c (((Sem.raise e : Sem Flow).onRaise (cameBack Φ.env)).wrap K J gd lv) fs s := by
  rw [a.prog, a.wd, a.ar, a.env] at h
  show Seg _ _ _ _ _ _ _ (((cameBack Φ.env e).bind fun _ => (Sem.raise e : Sem Flow)).wrap K J gd lv) _ _
  rw [Sem.bind_eq_wrap, Sem.wrap_wrap]
  refine seg_wrap ?_
  rw [g.over]
  exact wpAny_mono h (fun _ s' hx => k.exc n s₀ h₀ e s' a hx) fun x s' hx => k.exc n s₀ h₀ x s' a hx
def tFWhile (c : TT) (tb : TF) : TF := fun D n h₀ σ H => ∃ W : Nat → Nat → Hp → L2.St → Hp → Prop, (∃ m, W m n h₀ σ H) ∧ ∀ m n h₀ σ H, W m n h₀ σ H →
  c σ H fun b H1 => if b = true then ∃ N : Nat → Hp → L2.St → Hp → Prop, (∀ n' s' σ' H', N n' s' σ' H' → ∃ m', m' < m ∧ W m' n' s' σ' H') ∧ tb { D with nx := N, ct := N, bk := D.nx } n h₀ σ H1 else D.nx n h₀ σ H1
theorem fs_while {test : Expr} {body : List Stmt} {pos : Pos} {tc : TT} {tb : TF} (hp : ∀ n s₀ h₀, PassesOwn (model (Φ.cx n s₀ h₀).prog (Φ.cx n s₀ h₀).w) (Φ.cx n s₀ h₀).A (Φ.cx n s₀ h₀).env (Φ.cx n s₀ h₀).xe) (hc : ∀ n s₀ h₀, PT (Φ.cx n s₀ h₀) test tc) (hb : FSs Φ out sl body tb) : FS Φ out sl (.While test body [] pos) (tFWhile tc tb) := by
  intro A ip R n s₀ h₀ c fs K J gd lv s σ H D g k hI ht
  obtain ⟨W, ⟨m0, w0⟩, turn⟩ := ht
  refine seg_While fun p => ?_
  have gl := fun (kk : Result → Sem PySem.Fin) => fc_loop (k := kk) (c' := .whileLoop test body [] Φ.env) (l := lv []) (kp := []) (p := p) g rfl rfl
  have loop : ∀ (m n : Nat) (s₀ : Shared) (h₀ : Hp) (s : Shared) (σ : L2.St) (H : Hp), W m n h₀ σ H → FRun Φ ip n s₀ h₀ σ H s →
      Seg (model Φ.P Φ.w) A R (FY Φ out sl) n s₀ (.whileLoop test body [] Φ.env) ((model Φ.P Φ.w).den (.whileLoop test body [] Φ.env))
        (.ret (fun r => ((match r with | .ok f => (.pure f : Sem Flow) | .error e => .raise e).onRaise (cameBack Φ.env)).wrap K J gd lv) none (gd false) (lv []) c p [] :: fs) s := by
    intro m
    induction m using Nat.strongRecOn with
    | ind m ih =>
      intro n s₀ h₀ s σ H w hI
      have ee : ∀ (n : Nat) (s₀ : Shared) (h₀ : Hp) (x : Value) (s' : Shared), Φ.At ip n s₀ h₀ → (Φ.cx n s₀ h₀).xe x s' → Seg (model Φ.P Φ.w) A R (FY Φ out sl) n s₀ (.whileLoop test body [] Φ.env)
          ((do noteFrame x Φ.env; theTreesLotGoes x : Sem Unit).wrap (fun _ => .raise x) .raise id id)
          (.ret (fun r => ((match r with | .ok f => (.pure f : Sem Flow) | .error e => .raise e).onRaise (cameBack Φ.env)).wrap K J gd lv) none (gd false) (lv []) c p [] :: fs) s' := fun n s₀ h₀ x s' a hx => by
        refine seg_wrap ?_
        rw [(gl _).over]
        have q := hp n s₀ h₀ x s' hx
        have q' : notedBy (model (Φ.cx n s₀ h₀).prog (Φ.cx n s₀ h₀).w) (Φ.cx n s₀ h₀).A (Φ.cx n s₀ h₀).env (cameBackBy (model (Φ.cx n s₀ h₀).prog (Φ.cx n s₀ h₀).w) (Φ.cx n s₀ h₀).A (Φ.cx n s₀ h₀).env (Φ.cx n s₀ h₀).xe) x s' := q
        unfold notedBy at q'
        rw [a.prog, a.wd, a.ar, a.env] at q'
        refine wpAny_bind (wpAny_mono q' (fun _ s'' hcb => wpAny_theTreesLotGoes ?_) fun y s'' hcb => ?_)
        · exact seg_leaf (.error x) (fk_cameBack a g k (by rw [a.prog, a.wd, a.ar, a.env]; exact hcb))
        · exact seg_leaf (.error y) (fk_cameBack a g k (by rw [a.prog, a.wd, a.ar, a.env]; exact hcb))
      refine seg_whileLoop ?_
      rw [(gl _).over]
      obtain ⟨a, I⟩ := hI
      have q := (hc n s₀ h₀).run _ s σ H _ I (turn m n h₀ σ H w)
      rw [a.prog, a.wd, a.ar, a.env] at q
      refine wpAny_mono q (fun b s' hb' => ?_) fun x s' hx => ee n s₀ h₀ x s' a hx
      obtain ⟨H2, I2, q2⟩ := hb'
      cases b with
      | true =>
        obtain ⟨N, hN, q2⟩ := q2
        rw [if_pos rfl]
        refine hb A ip R n s₀ h₀ _ _ _ _ id id s' σ H2 { D with nx := N, ct := N, bk := D.nx } (gl _) ⟨fun n' s₀' h₀' s3 f a' hs => ?_, fun n' s₀' h₀' x s3 a' hx => ee n' s₀' h₀' x s3 a' hx⟩ ⟨a, I2⟩ q2
        cases f with
        | next =>
          obtain ⟨σ3, H3, I3, n3⟩ := hs
          obtain ⟨m', hm, w3⟩ := hN n' h₀' σ3 H3 n3
          exact seg_again rfl (ih m' hm n' s₀' h₀' s3 σ3 H3 w3 ⟨a', I3⟩)
        | cont =>
          obtain ⟨σ3, H3, I3, n3⟩ := hs
          obtain ⟨m', hm, w3⟩ := hN n' h₀' σ3 H3 n3
          exact seg_again rfl (ih m' hm n' s₀' h₀' s3 σ3 H3 w3 ⟨a', I3⟩)
        | brk => exact seg_leaf (.ok .next) (k.ok n' s₀' h₀' s3 .next a' hs)
        | ret v => exact seg_leaf (.ok (.ret v)) (k.ok n' s₀' h₀' s3 (.ret v) a' hs)
      | false =>
        rw [if_neg Bool.false_ne_true]
        refine seg_execs_nil ?_
        exact seg_leaf (.ok .next) (k.ok n s₀ h₀ s' .next a ⟨σ, H2, I2, q2⟩)
  exact loop m0 n s₀ h₀ s σ H w0 hI
end
end TK

/-! a generator's body: a for -/
namespace TK
open PySem PySem.Spec PyProof.Rows L2 GenW
section
variable {prog : Program} {w : World} {A : Around} {R : GenEnd} {Y : Protocol} {n : Nat} {s₀ : Shared} {fs : List Frame} {s : Shared} {env : Env} {tg : Expr} {body : List Stmt} {it : Value}
/-- an exception leaves the loop's code -/
abbrev segOut (prog : Program) (w : World) (A : Around) (R : GenEnd) (Y : Protocol) (n : Nat) (s₀ : Shared) (c : Code) (env : Env) (fs : List Frame) (x : Value) (s' : Shared) : Prop :=
  Seg (model prog w) A R Y n s₀ c ((do noteFrame x env; theTreesLotGoes x : Sem Unit).wrap (fun _ => .raise x) .raise id id) fs s'
theorem seg_forLoop (h : wpAny (model prog w) (A.over (.forLoop tg it body [] env) fs) (pyNext it) (fun r s1 => match r with
      | none => Seg (model prog w) A R Y n s₀ (.block [] env) (leafOf (.ok .next)) fs s1
      | some v => wpAny (model prog w) (A.over (.forLoop tg it body [] env) fs) (letOwnedTupleGo tg it v) (fun _ s2 => wpAny (model prog w) (A.over (.forLoop tg it body [] env) fs) (assign tg env v) (fun _ s3 =>
          Seg (model prog w) A R Y n s₀ (.forLoop tg it body [] env) ((execs body env).wrap (fun f => match f with
            | .next | .cont => .pure (.again (.forLoop tg it body [] env))
            | .brk => .pure (.done .next)
            | .ret v => .pure (.done (.ret v))) (fun e => (do noteFrame e env; theTreesLotGoes e : Sem Unit).wrap (fun _ => .raise e) .raise id id) id id) fs s3)
          (segOut prog w A R Y n s₀ (.forLoop tg it body [] env) env fs) s2) (segOut prog w A R Y n s₀ (.forLoop tg it body [] env) env fs) s1)
      (segOut prog w A R Y n s₀ (.forLoop tg it body [] env) env fs) s) :
    Seg (model prog w) A R Y n s₀ (.forLoop tg it body [] env) ((model prog w).den (.forLoop tg it body [] env)) fs s := by
  show Seg _ A R Y n s₀ _ ((forTurn tg it body [] env).onRaise (fun x => do noteFrame x env; theTreesLotGoes x)) fs s
  have ex : ∀ x s', segOut prog w A R Y n s₀ (.forLoop tg it body [] env) env fs x s' → Seg (model prog w) A R Y n s₀ (.forLoop tg it body [] env) ((do noteFrame x env; theTreesLotGoes x : Sem Unit).bind fun _ => .raise x) fs s' := fun x s' hx => by
    rw [Sem.bind_eq_wrap]; exact hx
  rw [Sem.onRaise_eq_wrap]
  unfold forTurn
  refine seg_bind_wrap (wpAny_standAt (seg_bind_wrap (wpAny_onRaise (wpAny_mono h (fun r s1 h1 => ?_) fun x s' hx => wpAny_standAt (ex x s' hx)))))
  cases r with
  | none =>
    show Seg _ A R Y n s₀ _ (.pure (.again (.block [] env))) fs s1
    exact seg_again rfl h1
  | some v =>
    refine seg_bind_wrap (wpAny_mono h1 (fun _ s2 h2 => seg_bind_wrap (wpAny_mono h2 (fun _ s3 h3 => ?_) fun x s' hx => ex x s' hx)) fun x s' hx => ex x s' hx)
    rw [Sem.bind_eq_wrap', Sem.wrap_wrap]
    rw [Sem.wrap_congr (execs body env) _ _ (K' := fun f => match f with
          | .next | .cont => .pure (.again (.forLoop tg it body [] env))
          | .brk => .pure (.done .next)
          | .ret v => .pure (.done (.ret v))) (H' := (fun e => (do noteFrame e env; theTreesLotGoes e : Sem Unit).wrap (fun _ => .raise e) .raise id id))
      (fun f => by cases f <;> rfl)
      (fun e => by first | exact Sem.bind_eq_wrap _ _ | (show (do noteFrame e env; theTreesLotGoes e : Sem Unit).bind (fun _ => .raise e) = _; rw [Sem.bind_eq_wrap]))]
    exact h3
end
end TK

/-! a generator's body: a for whose body may hand out items -/
namespace TK
open PySem PySem.Spec PyProof.Rows L2 GenW
section
variable {Φ : Fam} {out : FOut} {sl : Hp → Hp → Prop}
def tFFor (wi : TI) (g : TG) (tb : TF) : TF := fun D n h₀ σ H => wi σ H fun J H1 => ∃ W : Nat → Nat → Nat → Hp → L2.St → Hp → Prop, (∃ m, W 0 m n h₀ σ H1) ∧ ∀ i m n h₀ σ H, W i m n h₀ σ H →
  (J.stop i H ∧ D.nx n h₀ σ H) ∨ (J.go i H ∧ ∃ N : Nat → Hp → L2.St → Hp → Prop, (∀ n' s' σ' H', N n' s' σ' H' → ∃ m', m' < m ∧ W (i + 1) m' n' s' σ' H') ∧ ∀ x H', J.yld i H x H' → g x σ H' fun σ2 H2 => tb { D with nx := N, ct := N, bk := D.nx } n h₀ σ2 H2)
theorem fs_for {tg iter : Expr} {body : List Stmt} {wi : TI} {g : TG} {tb : TF} {pos : Pos} (hp : ∀ n s₀ h₀, PassesOwn (model (Φ.cx n s₀ h₀).prog (Φ.cx n s₀ h₀).w) (Φ.cx n s₀ h₀).A (Φ.cx n s₀ h₀).env (Φ.cx n s₀ h₀).xe) (hi : ∀ n s₀ h₀, PI (Φ.cx n s₀ h₀) tg iter wi) (hg : ∀ n s₀ h₀, PG (Φ.cx n s₀ h₀) tg g) (hb : FSs Φ out sl body tb)
    (hs : ∀ x, foldedSetIterable iter Φ.env x = pure x) : FS Φ out sl (.For tg iter body [] pos) (tFFor wi g tb) := by
  intro A ip R n s₀ h₀ c fs K J' gd lv s σ H D gc k hI ht
  obtain ⟨at0, I⟩ := hI
  rw [exec_For]
  have q := (hi n s₀ h₀).run _ s σ H _ I ht
  rw [at0.prog, at0.wd, at0.ar, at0.env] at q
  refine seg_bind_wrap (wpAny_standAt (seg_bind_wrap ?_))
  rw [gc.over]
  refine wpAny_mono q (fun v s1 h1 => ?_) fun x s' hx => k.exc n s₀ h₀ x s' at0 hx
  refine seg_bind_wrap (wpAny_of_eq (hs v) (seg_bind_wrap (wpAny_standAt (seg_bind_wrap (wpAny_holding ?_)))))
  rw [gc.over]
  refine wpAny_mono h1 (fun itv s2 h2 => ?_) fun x s' hx => k.exc n s₀ h₀ x s' at0 hx
  obtain ⟨it, fp, tn, J, H2, e, I2, T, st2, f2, W, ⟨m0, w0⟩, turn⟩ := h2
  subst e
  rw [at0.prog, at0.wd, at0.kk] at T
  refine seg_call fun p => ?_
  show Seg (model Φ.P Φ.w) A R (FY Φ out sl) n s₀ (.forLoop tg (.ref it) body [] Φ.env) ((model Φ.P Φ.w).den (.forLoop tg (.ref it) body [] Φ.env))
    (.ret (fun r => ((match r with | .ok f => (.pure f : Sem Flow) | .error e => .raise e).onRaise (cameBack Φ.env)).wrap K J' gd lv) none (gd false) (lv []) c p [] :: fs) s2
  have gl := fun (kk : Result → Sem PySem.Fin) => fc_loop (k := kk) (c' := .forLoop tg (.ref it) body [] Φ.env) (l := lv []) (kp := []) (p := p) gc rfl rfl
  -- what stays true of the iterator's objects
  have stat : ∀ b ∈ fp, Φ.n0 ≤ b ∧ (∀ x c, Φ.env.cells.lookup x = some c → c ≠ b) ∧ ∀ p ∈ ip, p.1 ≠ b := fun b hb => by
    obtain ⟨_, _, _, h4, h5, h6⟩ := f2 b hb
    refine ⟨?_, fun x c h => h5 x c (at0.env ▸ h), fun p hp => h6 p (List.mem_append_right _ (List.mem_append_left _ hp))⟩
    rw [at0.exn] at h4
    rcases h4 with h4 | h4
    · cases h4
    · rw [at0.low] at h4; exact h4
  have loop : ∀ (m i n : Nat) (s₀ : Shared) (h₀ : Hp) (s : Shared) (σ : L2.St) (H : Hp), W i m n h₀ σ H → Φ.At ip n s₀ h₀ → Inv (Φ.cx n s₀ h₀) (ip ++ Φ.pins) σ H s → tn i s.heap → (∀ b ∈ fp, FpOk (Φ.cx n s₀ h₀) (ip ++ Φ.pins) H b) →
      Seg (model Φ.P Φ.w) A R (FY Φ out sl) n s₀ (.forLoop tg (.ref it) body [] Φ.env) ((model Φ.P Φ.w).den (.forLoop tg (.ref it) body [] Φ.env))
        (.ret (fun r => ((match r with | .ok f => (.pure f : Sem Flow) | .error e => .raise e).onRaise (cameBack Φ.env)).wrap K J' gd lv) none (gd false) (lv []) c p [] :: fs) s := by
    intro m
    induction m using Nat.strongRecOn with
    | ind m ih =>
      intro i n s₀ h₀ s σ H w a I st fr
      have ee : ∀ (n : Nat) (s₀ : Shared) (h₀ : Hp) (x : Value) (s' : Shared), Φ.At ip n s₀ h₀ → (Φ.cx n s₀ h₀).xe x s' → segOut Φ.P Φ.w A R (FY Φ out sl) n s₀ (.forLoop tg (.ref it) body [] Φ.env) Φ.env
          (.ret (fun r => ((match r with | .ok f => (.pure f : Sem Flow) | .error e => .raise e).onRaise (cameBack Φ.env)).wrap K J' gd lv) none (gd false) (lv []) c p [] :: fs) x s' := fun n s₀ h₀ x s' a hx => by
        refine seg_wrap ?_
        rw [(gl _).over]
        have q' : notedBy (model (Φ.cx n s₀ h₀).prog (Φ.cx n s₀ h₀).w) (Φ.cx n s₀ h₀).A (Φ.cx n s₀ h₀).env (cameBackBy (model (Φ.cx n s₀ h₀).prog (Φ.cx n s₀ h₀).w) (Φ.cx n s₀ h₀).A (Φ.cx n s₀ h₀).env (Φ.cx n s₀ h₀).xe) x s' := hp n s₀ h₀ x s' hx
        unfold notedBy at q'
        rw [a.prog, a.wd, a.ar, a.env] at q'
        refine wpAny_bind (wpAny_mono q' (fun _ s'' hcb => wpAny_theTreesLotGoes ?_) fun y s'' hcb => ?_)
        · exact seg_leaf (.error x) (fk_cameBack a gc k (by rw [a.prog, a.wd, a.ar, a.env]; exact hcb))
        · exact seg_leaf (.error y) (fk_cameBack a gc k (by rw [a.prog, a.wd, a.ar, a.env]; exact hcb))
      refine seg_forLoop ?_
      rw [(gl _).over]
      rcases turn i m n h₀ σ H w with ⟨stop, qn⟩ | ⟨go, N, hN, step⟩
      · have q := T.done (Φ.cx n s₀ h₀) a.prog a.wd a.kk a.calm i _ s σ H (Φ.cx n s₀ h₀).xe I fr st stop
        rw [a.ar] at q
        refine wpAny_mono q (fun r s4 ⟨hr, I4⟩ => ?_) fun x s' hx => ee n s₀ h₀ x s' a hx
        subst hr
        exact seg_leaf (.ok .next) (k.ok n s₀ h₀ s4 .next a ⟨σ, H, I4, qn⟩)
      · have q := T.item (Φ.cx n s₀ h₀) a.prog a.wd a.kk a.calm i _ s σ H (Φ.cx n s₀ h₀).xe I fr st go
        rw [a.ar] at q
        refine wpAny_mono q (fun r s4 ⟨u, hr, h4⟩ => ?_) fun x s' hx => ee n s₀ h₀ x s' a hx
        subst hr
        refine wpAny_mono h4 (fun _ s5 ⟨x, H5, I5, r5, y5, st5, fr5⟩ => ?_) fun x s' hx => ee n s₀ h₀ x s' a hx
        have fo : ∀ b ∈ fp, FpOk (Φ.cx n s₀ h₀) (ip ++ Φ.pins) H5 b := fun b hb => ⟨fr5 b hb, (fr b hb).2⟩
        have I5' := I5.pinned fo (T.obj _ _ st5)
        have I6' : Inv (Φ.cx n s₀ h₀) ((ip ++ pinsAt fp s5.heap) ++ Φ.pins) σ H5 s5 := I5'.pins_of fun p hp => I5'.pin p (List.mem_append_right _ (by
          rcases List.mem_append.mp hp with z | z
          · rcases List.mem_append.mp z with z | z
            · exact List.mem_append_left _ (List.mem_append_left _ z)
            · exact List.mem_append_right _ z
          · exact List.mem_append_left _ (List.mem_append_right _ z)))
        have a6 : Φ.At (ip ++ pinsAt fp s5.heap) n s₀ h₀ := ⟨a.adm, a.prog, a.wd, a.ar, a.env, a.kk, a.calm, a.low, a.exn, fun p hp q hq => by
          rcases List.mem_append.mp hp with z | z
          · exact a.ap p z q hq
          · refine (fo p.1 (of_pinsAt z).1).2.2.2.2.2 q ?_
            rcases List.mem_append.mp hq with y | y
            · exact List.mem_append_left _ y
            · exact List.mem_append_right _ (List.mem_append_right _ y)⟩
        have q := (hg n s₀ h₀).run _ s5 σ H5 x u _ I6' r5 (step x H5 y5)
        rw [a.prog, a.wd, a.ar, a.env] at q
        refine wpAny_mono q (fun _ s6 ⟨σ6, H6, I6, q6⟩ => ?_) fun x s' hx => ee n s₀ h₀ x s' a hx
        have down : ∀ {n' : Nat} {s₀' : Shared} {h₀' : Hp}, Φ.At (ip ++ pinsAt fp s5.heap) n' s₀' h₀' → Φ.At ip n' s₀' h₀' := fun b => ⟨b.adm, b.prog, b.wd, b.ar, b.env, b.kk, b.calm, b.low, b.exn, fun p hp => b.ap p (List.mem_append_left _ hp)⟩
        have off : ∀ {n' : Nat} {s₀' s7 : Shared} {h₀' : Hp} {σ7 : L2.St} {H7 : Hp}, Inv (Φ.cx n' s₀' h₀') ((ip ++ pinsAt fp s5.heap) ++ Φ.pins) σ7 H7 s7 → Inv (Φ.cx n' s₀' h₀') (ip ++ Φ.pins) σ7 H7 s7 := fun I => I.pins_of fun p hp => I.pin p (List.mem_append_right _ (by
          rcases List.mem_append.mp hp with z | z
          · exact List.mem_append_left _ (List.mem_append_left _ z)
          · exact List.mem_append_right _ z))
        have again : ∀ {n' : Nat} {s₀' s7 : Shared} {h₀' : Hp} {σ7 : L2.St} {H7 : Hp}, Φ.At (ip ++ pinsAt fp s5.heap) n' s₀' h₀' → Inv (Φ.cx n' s₀' h₀') ((ip ++ pinsAt fp s5.heap) ++ Φ.pins) σ7 H7 s7 → N n' h₀' σ7 H7 → Seg (model Φ.P Φ.w) A R (FY Φ out sl) n' s₀' (.forLoop tg (.ref it) body [] Φ.env) ((model Φ.P Φ.w).den (.forLoop tg (.ref it) body [] Φ.env))
            (.ret (fun r => ((match r with | .ok f => (.pure f : Sem Flow) | .error e => .raise e).onRaise (cameBack Φ.env)).wrap K J' gd lv) none (gd false) (lv []) c p [] :: fs) s7 := fun {n' s₀' s7 h₀' σ7 H7} a7 I7 n7 => by
          obtain ⟨m', hm, w7⟩ := hN n' h₀' σ7 H7 n7
          have pin7 : ∀ b ∈ fp, ∃ o, s5.heap.get? b = some o ∧ (b, o) ∈ ip ++ pinsAt fp s5.heap := fun b hb => by
            obtain ⟨o, e, _⟩ := T.obj _ _ st5 b hb
            exact ⟨o, e, List.mem_append_right _ (mem_pinsAt hb e)⟩
          refine ih m' hm (i + 1) n' s₀' h₀' s7 σ7 H7 w7 (down a7) (off I7) (T.keep _ _ _ st5 fun b hb o e => ?_) fun b hb => ?_
          · exact (I7.pin (b, o) (List.mem_append_right _ (List.mem_append_left _ (List.mem_append_right _ (mem_pinsAt hb e))))).1
          · obtain ⟨o, e, mb⟩ := pin7 b hb
            obtain ⟨_, h2, h3, h4, _⟩ := I7.pin (b, o) (List.mem_append_right _ (List.mem_append_left _ mb))
            obtain ⟨t1, t2, t3⟩ := stat b hb
            refine ⟨h2, h3, h4, .inr (by rw [a7.low]; exact t1), fun x c h => t2 x c (a7.env ▸ h), fun p hp => ?_⟩
            rcases List.mem_append.mp hp with z | z
            · exact a7.ap (b, o) mb p (List.mem_append_left _ z)
            · rcases List.mem_append.mp z with z | z
              · exact t3 p z
              · exact a7.ap (b, o) mb p (List.mem_append_right _ z)
        refine hb A (ip ++ pinsAt fp s5.heap) R n s₀ h₀ _ _ _ _ id id s6 σ6 H6 { D with nx := N, ct := N, bk := D.nx } (gl _) ⟨fun n' s₀' h₀' s7 f a7 hs7 => ?_, fun n' s₀' h₀' x s7 a7 hx => ee n' s₀' h₀' x s7 (down a7) hx⟩ ⟨a6, I6⟩ q6
        cases f with
        | next => obtain ⟨σ7, H7, I7, n7⟩ := hs7; exact seg_again rfl (again a7 I7 n7)
        | cont => obtain ⟨σ7, H7, I7, n7⟩ := hs7; exact seg_again rfl (again a7 I7 n7)
        | brk => obtain ⟨σ7, H7, I7, q7⟩ := hs7; exact seg_leaf (.ok .next) (k.ok n' s₀' h₀' s7 .next (down a7) ⟨σ7, H7, off I7, q7⟩)
        | ret v => obtain ⟨x7, σ7, H7, I7, r7, q7⟩ := hs7; exact seg_leaf (.ok (.ret v)) (k.ok n' s₀' h₀' s7 (.ret v) (down a7) ⟨x7, σ7, H7, off I7, r7, q7⟩)
  exact loop m0 0 n s₀ h₀ s2 σ H2 w0 at0 I2 st2 f2
end
end TK

/-! a generator def called: its frame is laid, nothing has run -/
namespace TK
open PySem PySem.Spec PyProof.Rows L2 GenW
/-- a generator object over a frame that has not begun; n0: where the frame stands -/
structure Laid (P : Program) (w : World) (K : PySem.W.Frag) (mg : Str → Option Value) (base : Heap) (N : List Str) (qual : Str) (scope : Scope) (f : Addr) (cd : Value) (body : List Stmt) (A : Around) (outer : List Env) (s : Shared) (H : Hp) (vs : List V) (s' : Shared) (a : Addr) : Prop where
  gen : ∃ go nm qn, s'.heap.get? a = some go ∧ go.cls = .type "generator" ∧ go.data = .fields #[.int s.gens.size 0, nm, qn] ∧ go.slots = #[]
  st : s'.gens = s.gens.push (.fresh (.func body (envOfC qual scope s.heap.objs.size f cd)))
  os : s'.os = s.os
  lo : s.heap.objs.size < a
  fr : H a = none ∧ a ∉ frs outer ∧ ∀ x c, (envOfC qual scope s.heap.objs.size f cd).cells.lookup x = some c → c ≠ a
  keep : ∀ b o, s.heap.get? b = some o → s'.heap.get? b = some o
  inv : ∀ E, Inv (gcxOf P w K mg base N qual scope f cd A outer s H E []) [] (start N vs) H s'
theorem gcall {P : Program} {w : World} {K : PySem.W.Frag} {mg : Str → Option Value} {base : Heap} {k : Nat} {f : Addr} {name qual : Str} {params : Arguments} {body : List Stmt} {scope : Scope} {dV kV doc pm cdv ct oc : Value} {an od : Option Addr}
    {osl : Array (Option Value)} {N ps : List Str} {A : Around} {outer : List Env} {s : Shared} {H : Hp} {args : Args} {us : List Value} {vs : List V} (lk : K.lookup f = some ⟨oc, od, .func (PySem.W.fnOf name qual params body scope dV kV doc pm an cdv ct), osl⟩) (hcd : PySem.W.codeIn K cdv qual = true) (S : GScope N ps scope)
    (hl : vs.length = ps.length) (hr : Room (k + 1) A) (e0 : Env0 P w K mg base A outer s H) (hb : BindsTo s (PySem.W.fnOf name qual params body scope dV kV doc pm an cdv ct) args (ps.zip us)) (r : Vals vs us) :
    codeAny (model P w) A (.call (.ref f) args) (fun r s' => ∃ a, r = .ok (.ret (.ref a)) ∧ Laid P w K mg base N qual scope f cdv body A outer s H vs s' a) s := by
  have kin : K.In s.heap := e0.mod.kin.keeps fun b o e => (e0.bs b o e).1
  refine codeAny_call_generator hr.depth (kin _ _ lk) rfl S.co S.gen rfl (PySem.W.codeRec_of kin hcd) (hb _ _ _ _ ?_)
  refine wpAny_newFunctionEnv_cells S.kind (fun ⟨n, v⟩ hy => ?_) fun env he s1 x => ?_
  · rcases S.par n (List.of_mem_zip hy).1 with q | q
    · exact .inl q
    · exact .inr ⟨q, PySem.W.cellsFrom_some _ _ _ (.inl q)⟩
  subst he
  have I1 : ∀ E, Inv (gcxOf P w K mg base N qual scope f cdv A outer s H E []) [] (start N vs) H s1 := fun E => inv_startG S hr.hd e0 hl r x
  have J1 := I1 fun _ _ _ => False
  refine ⟨J1.nolimit, ?_⟩
  obtain ⟨h1, tk, es1, hk1⟩ := x.done
  have gen1 : s1.gens = s.gens := by rw [es1]
  have os1 : s1.os = s.os := by rw [es1]
  refine ⟨_, rfl, ?_⟩
  constructor
  case gen => exact ⟨_, _, _, Heap.get?_push_size _ rfl, rfl, by rw [← gen1], rfl⟩
  case st => rw [← gen1]; rfl
  case os => exact os1
  case lo => exact x.toInCall.ns.lt
  case fr =>
    refine ⟨J1.hok.fresh (Nat.le_refl _), J1.nofs (Nat.le_refl _), fun y c e z => ?_⟩
    obtain ⟨v, ob, ho, _⟩ := J1.cell y c e
    have := Heap.lt_size ho
    rw [z] at this
    exact absurd this (Nat.lt_irrefl _)
  case keep => exact fun b o e => Heap.get?_push_of_some _ (x.toInCall.keep b o e)
  case inv =>
    intro E
    refine (I1 E).call' (ch := []) rfl (Un.kept fun b o e => Heap.get?_push_of_some _ e) ((I1 E).hok.kept fun b o e => Heap.get?_push_of_some _ e) (AllBare.push J1.bare rfl) fun b z => by simp at z
end TK

/-! the family of a generator def's contexts; its body from the first waking -/
namespace TK
open PySem PySem.Spec PyProof.Rows L2 GenW
/-- pf: what must stand for whoever wakes it; adm: what holds of its objects at each waking -/
def gfam (P : Program) (w : World) (K : PySem.W.Frag) (mg : Str → Option Value) (base : Heap) (N : List Str) (qual : Str) (scope : Scope) (f : Addr) (cd : Value) (A : Around) (outer : List Env) (n0 : Nat) (E : XK) (pn : List (Addr × Obj)) (pf : List (Addr × Obj)) (adm : Nat → Shared → Hp → Prop) : Fam where
  P := P
  w := w
  K := K
  n0 := n0
  A := A.deeper (envOfC qual scope n0 f cd)
  env := envOfC qual scope n0 f cd
  cx := fun n s₀ h₀ => gcxOf P w K mg base N qual scope f cd A outer (cutSh n0 s₀) h₀ E pn
  pins := pf
  adm := adm
section
variable {P : Program} {w : World} {K : PySem.W.Frag} {mg : Str → Option Value} {base : Heap} {N : List Str} {qual : Str} {scope : Scope} {f : Addr} {cd : Value} {A : Around} {outer : List Env} {n0 : Nat} {E : XK} {pn ip : List (Addr × Obj)} {pf : List (Addr × Obj)} {adm : Nat → Shared → Hp → Prop} {h₀ h₁ : Hp} {s₀ sy s' : Shared} {σ : L2.St} {H Hy : Hp} {n n1 : Nat}
theorem gfam_at (ha : adm n s₀ h₀) (hl : n0 ≤ s₀.heap.objs.size) (ap : ∀ p ∈ ip, ∀ q ∈ pn ++ pf, q.1 ≠ p.1) : (gfam P w K mg base N qual scope f cd A outer n0 E pn pf adm).At ip n s₀ h₀ := by
  have ee : envOfC qual scope (cutSh n0 s₀).heap.objs.size f cd = envOfC qual scope n0 f cd := by rw [cutSh_size hl]
  refine ⟨ha, rfl, rfl, ?_, ee, rfl, rfl, cutSh_size hl, rfl, ap⟩
  show A.deeper (envOfC qual scope (cutSh n0 s₀).heap.objs.size f cd) = A.deeper (envOfC qual scope n0 f cd)
  rw [ee]
theorem gfam_wake (r : FRun (gfam P w K mg base N qual scope f cd A outer n0 E pn pf adm) ip n1 s₀ h₁ σ Hy sy) (ha : adm n s' h₀) (e0 : Env0 P w K mg base A outer s' h₀) (hd : A.handled = none) (hl : n0 ≤ s'.heap.objs.size)
    (hfr : ∀ b ∈ frs outer, b < n0) (keep : ∀ b, FrObj qual scope n0 f cd b → h₀ b = none ∧ ∀ o, sy.heap.get? b = some o → s'.heap.get? b = some o)
    (hp : ∀ p ∈ pn ++ (ip ++ pf), s'.heap.get? p.1 = some p.2 ∧ h₀ p.1 = none ∧ p.1 ≠ n0 ∧ p.1 ∉ frs outer ∧ ∀ v, p.2.data ≠ .cell v) (ap : ∀ p ∈ ip, ∀ q ∈ pn ++ pf, q.1 ≠ p.1) :
    FRun (gfam P w K mg base N qual scope f cd A outer n0 E pn pf adm) ip n s' h₀ σ h₀ s' := by
  obtain ⟨a, I⟩ := r
  have hz : (cutSh n0 s₀).heap.objs.size = n0 := a.low
  refine ⟨gfam_at ha hl ap, ?_⟩
  have q := inv_wake (s0 := cutSh n0 s₀) (E := E) (pn := pn) (pins := ip ++ pf) I e0 hd (by rw [hz]; exact hl) (by rw [hz]; exact hfr) (by rw [hz]; exact keep) (by rw [hz]; exact hp)
  rw [hz] at q
  exact q
theorem gfam_start {body : List Stmt} {s sL : Shared} {vs : List V} {a : Addr} (L : Laid P w K mg base N qual scope f cd body A outer s H vs sL a) (ha : adm n s' h₀) (h0 : s.heap.objs.size = n0) (e0 : Env0 P w K mg base A outer s' h₀) (hd : A.handled = none) (hl : n0 ≤ s'.heap.objs.size)
    (hfr : ∀ b ∈ frs outer, b < n0) (keep : ∀ b, FrObj qual scope n0 f cd b → h₀ b = none ∧ ∀ o, sL.heap.get? b = some o → s'.heap.get? b = some o)
    (hp : ∀ p ∈ pn ++ pf, s'.heap.get? p.1 = some p.2 ∧ h₀ p.1 = none ∧ p.1 ≠ n0 ∧ p.1 ∉ frs outer ∧ ∀ v, p.2.data ≠ .cell v) :
    FRun (gfam P w K mg base N qual scope f cd A outer n0 E pn pf adm) [] n s' h₀ (start N vs) h₀ s' := by
  subst h0
  exact ⟨gfam_at ha hl fun p hp => (nomatch hp), inv_wake (L.inv E) e0 hd hl hfr keep hp⟩
/-- the end of a run -/
def FR (Φ : Fam) (Q : Nat → Hp → Hp → Prop) (F : Nat → Shared → Value → Shared → Prop) : GenEnd := fun n s₀ r s =>
  ((r = .ok (.ret .none) ∨ r = .ok .next) ∧ ∃ ip h₀ σ H, FRun Φ ip n s₀ h₀ σ H s ∧ Q n h₀ H) ∨ ∃ e, r = .error e ∧ F n s₀ e s
theorem gfam_seg {body : List Stmt} {out : FOut} {sl : Hp → Hp → Prop} {t : TF} {Q : Nat → Hp → Hp → Prop} (hb : FSs (gfam P w K mg base N qual scope f cd A outer n0 E pn pf adm) out sl body t) (r : FRun (gfam P w K mg base N qual scope f cd A outer n0 E pn pf adm) [] n s' h₀ σ H s')
    (h : t { nx := fun n h₀ _ H' => Q n h₀ H', rt := fun n h₀ v H' => v = .non ∧ Q n h₀ H' } n h₀ σ H) :
    Seg (model P w) A (FR (gfam P w K mg base N qual scope f cd A outer n0 E pn pf adm) Q fun n s₀ e s => ∃ h₀, adm n s₀ h₀ ∧ CX P w outer h₀ (cutSh n0 s₀) E e s ∧ ∀ p ∈ pn, s.heap.get? p.1 = some p.2) (FY (gfam P w K mg base N qual scope f cd A outer n0 E pn pf adm) out sl) n s'
      (.func body (envOfC qual scope n0 f cd)) ((model P w).den (.func body (envOfC qual scope n0 f cd))) [] s' := by
  refine seg_func ?_
  refine hb A [] _ n s' h₀ _ [] _ _ id id s' σ H _ ⟨over_func, rfl, rfl, rfl⟩ ⟨fun n s₀ h₀ s fl a hs => ?_, fun n s₀ h₀ e s a hx => ?_⟩ r h
  · cases fl with
    | next =>
      obtain ⟨σ', H', I, q⟩ := hs
      exact seg_end (.ok (.ret .none)) (.inl ⟨.inl rfl, [], h₀, σ', H', ⟨a, I⟩, q⟩)
    | brk => obtain ⟨_, _, _, q⟩ := hs; exact False.elim q
    | cont => obtain ⟨_, _, _, q⟩ := hs; exact False.elim q
    | ret u =>
      obtain ⟨v, σ', H', I, rv, ev, q⟩ := hs
      subst ev
      have eu : u = Value.none := rv
      subst eu
      exact seg_end (.ok (.ret .none)) (.inl ⟨.inl rfl, [], h₀, σ', H', ⟨a, I⟩, q⟩)
  · refine seg_wrap ?_
    rw [over_func]
    have hx' : wpAny (model P w) (A.deeper (envOfC qual scope (cutSh n0 s₀).heap.objs.size f cd)) (leaving (envOfC qual scope (cutSh n0 s₀).heap.objs.size f cd) e) (fun _ s'' => CX P w outer h₀ (cutSh n0 s₀) E e s'' ∧ ∀ p ∈ pn, s''.heap.get? p.1 = some p.2) (fun _ _ => False) s := hx
    have hz : (cutSh n0 s₀).heap.objs.size = n0 := a.low
    rw [hz] at hx'
    exact wpAny_mono hx' (fun _ s'' q => seg_end (.error e) (.inr ⟨e, rfl, h₀, a.adm, q⟩)) fun _ s'' q => q.elim
end
end TK

/-! next() of a sleeping generator of a family -/
namespace TK
open PySem PySem.Spec PyProof.Rows L2 GenW
theorem goes_imp {M : Model} {A : Around} {R R' : GenEnd} {Y Y' : Protocol} (hR : ∀ n s₀ r s, R n s₀ r s → R' n s₀ r s)
    (hY : ∀ n s₀ v s kap kap', (∀ r s', kap r s' → kap' r s') → Y n s₀ v s kap → Y' n s₀ v s kap') {n : Nat} {gs : GenState} {r : Resume} {s : Shared} (h : gs.Goes M A R Y n r s) : gs.Goes M A R' Y' n r s := by
  cases gs with
  | fresh c => exact ⟨h.1, seg_imp hR hY _ h.2⟩
  | suspended k l c p fs cl => exact seg_imp hR hY n (show Seg M A R Y n s c (k r) fs s from h)
  | running => exact h
  | finished => exact h
theorem fy_imp {Φ : Fam} {out : FOut} {sl : Hp → Hp → Prop} : ∀ n s₀ v s kap kap', (∀ r s', kap r s' → kap' r s') → FY Φ out sl n s₀ v s kap → FY Φ out sl n s₀ v s kap' :=
  fun n s₀ v s kap kap' hk ⟨x, ip, h₀, σ, H, h1, h2, h3, h4⟩ => ⟨x, ip, h₀, σ, H, h1, h2, h3, fun s' h' a b => ⟨hk _ _ (h4 s' h' a b).1, hk _ _ (h4 s' h' a b).2⟩⟩
/-- no exception leaves it -/
abbrev FRN (Φ : Fam) (Q : Nat → Hp → Hp → Prop) : GenEnd := FR Φ Q fun _ _ _ _ => False
theorem next_fam {Φ : Fam} {out : FOut} {sl : Hp → Hp → Prop} {A : Around} {E : Value → Shared → Prop} {s : Shared} {a : Addr} {g m : Nat} {gs : GenState} {Q : Nat → Hp → Hp → Prop} {Z : Option Value → Shared → Prop} (hh : A.handled = none) (hl : s.heap.NoLimit) (hroom : A.depth < recursionLimit)
    (hg : s.heap.IsGen a g) (hgs : s.gens[g]? = some gs) (hgo : gs.Goes (model Φ.P Φ.w) A.in1 (FRN Φ Q) (FY Φ out sl) (m + 1) (.send .none) (s.setGen g .running))
    (hY : ∀ x v ip h₀ σ H s₁ gs', gs'.bare = true → FRun Φ ip (m + 1) (s.setGen g .running) h₀ σ H s₁ → RelV x v → out m x h₀ H →
      (∀ s' h', FRun Φ ip m s' h' σ h' s' → sl H h' → (∃ k l c p fs cl, gs' = .suspended k l c p fs cl) ∧ gs'.Goes (model Φ.P Φ.w) A.in1 (FRN Φ Q) (FY Φ out sl) m (.send .none) s') → Z (some v) (s₁.setGen g gs'))
    (hP : ∀ ip h₀ σ H s₁, FRun Φ ip (m + 1) (s.setGen g .running) h₀ σ H s₁ → Q (m + 1) h₀ H → ∀ h', (∀ b o, s₁.heap.get? b = some o → h'.get? b = some o) → Z none { s₁.setGen g .finished with heap := h' }) :
    wpAny (model Φ.P Φ.w) A (pyNext (.ref a)) Z E s := by
  have to : ∀ n s₀ r s, FRN Φ Q n s₀ r s → ((r = .ok (.ret .none) ∨ r = .ok .next) ∧ (∃ ip h₀ σ H, FRun Φ ip n s₀ h₀ σ H s ∧ Q n h₀ H)) ∨ ∃ e, r = .error e ∧ (fun (_ : Value) (_ : Shared) => False) e s := fun n s₀ r s h => h
  have back : ∀ n s₀ r s, (((r = .ok (.ret .none) ∨ r = .ok .next) ∧ (∃ ip h₀ σ H, FRun Φ ip n s₀ h₀ σ H s ∧ Q n h₀ H)) ∨ ∃ e, r = .error e ∧ (fun (_ : Value) (_ : Shared) => False) e s) → FRN Φ Q n s₀ r s := fun n s₀ r s h => h
  refine next_genG (F := fun n s₀ s => ∃ ip h₀ σ H, FRun Φ ip n s₀ h₀ σ H s ∧ Q n h₀ H) (Er := fun _ _ => False) (Y := FY Φ out sl) (n := m + 1) hh hl hroom hg hgs (goes_imp to fy_imp hgo) (fun v s₁ gs' hb hy => ?_) (fun s₁ ⟨ip, h₀, σ, H, h1, h2⟩ h' hk => hP ip h₀ σ H s₁ h1 h2 h' hk) fun e s₁ h => h.elim
  obtain ⟨x, ip, h₀, σ, H, h1, h2, h3, h4⟩ := hy
  refine hY x v ip h₀ σ H s₁ gs' hb h1 h2 h3 fun s' h' r q => ⟨?_, goes_imp back fy_imp (h4 s' h' r q).1⟩
  have y := h4 s' h' r q
  cases gs' with
  | fresh c => exact nomatch (show Resume.send (.bool true) = Resume.send .none from y.2.1)
  | running => exact (show False from y.1).elim
  | finished => exact (show False from y.1).elim
  | suspended k l c p fs cl => exact ⟨_, _, _, _, _, _, rfl⟩
end TK

/-! behind a turn of a generator: the consumer's invariant, from what the generator tells of all that lay below its frame -/
namespace TK
open PySem PySem.Spec PyProof.Rows L2 GenW
theorem un_uncut {fs : List Addr} {n0 : Nat} {s₀ s₁ : Shared} {h₀ H : Hp} (hl : n0 ≤ s₀.heap.objs.size) (un : Un fs [] h₀ H (cutSh n0 s₀).heap s₁.heap) : Un fs ((List.range (s₀.heap.objs.size - n0)).map (· + n0)) h₀ H s₀.heap s₁.heap := by
  have low : ∀ b o, s₀.heap.get? b = some o → b ∉ (List.range (s₀.heap.objs.size - n0)).map (· + n0) → (cutSh n0 s₀).heap.get? b = some o := fun b o e hb => by
    have hz : (b : Nat) < s₀.heap.objs.size := Heap.lt_size e
    have hb' : (b : Nat) < n0 := by
      rcases Nat.lt_or_ge b n0 with h | h
      · exact h
      · exact absurd (show b ∈ (List.range (s₀.heap.objs.size - n0)).map (fun x => x + n0) from List.mem_map.mpr ⟨Nat.sub b n0, List.mem_range.mpr (Nat.sub_lt_sub_right h hz), (Nat.sub_add_cancel h : Nat.sub b n0 + n0 = b)⟩) hb
    exact (cutSh_get hb').trans e
  have no : ∀ b : Addr, b ∉ ([] : List Addr) := fun b z => nomatch z
  exact ⟨fun b o e n hf hc => un.keep b o (low b o e hc) n hf (no b), fun b o e n hf hc => un.slot b o (low b o e hc) n hf (no b), fun b o e n hc => un.free b o (low b o e hc) n (no b), fun b o e hc => un.there b o (low b o e hc) (no b), un.tups, un.frzs, un.tbls⟩
theorem inv_back {X : Cx} {pins pins' : List (Addr × Obj)} {σ : L2.St} {h₀ H : Hp} {n0 : Nat} {s₀ s₁ : Shared} (I : Inv X pins σ h₀ s₀) (hpn : X.pn = []) (hl : n0 ≤ s₀.heap.objs.size) (hx : X.env.locals < n0) (hc : ∀ x c, X.env.cells.lookup x = some c → c < n0)
    (os : s₁.os = s₀.os) (bare : AllBare s₁.gens) (un : Un (frs X.stack) [] h₀ H (cutSh n0 s₀).heap s₁.heap) (hok : HOk X.prog X.w H s₁.heap)
    (hp : ∀ p ∈ pins', s₁.heap.get? p.1 = some p.2 ∧ H p.1 = none ∧ p.1 ≠ X.env.locals ∧ p.1 ∉ X.fs ∧ ∀ v, p.2.data ≠ .cell v) : Inv X pins' σ H s₁ := by
  have I0 : Inv X [] σ h₀ s₀ := I.pins_of fun p hp => nomatch hp
  refine (I0.call' os (un_uncut hl un) hok bare fun b hb => ?_).pins_of hp
  obtain ⟨i, _, e⟩ := List.mem_map.mp hb
  have hb' : n0 ≤ (b : Nat) := by rw [← e]; exact Nat.le_add_left ..
  have hx' : (X.env.locals : Nat) < n0 := hx
  refine ⟨.inr (Nat.le_trans I.ok.above (Nat.le_of_lt (Nat.lt_of_lt_of_le hx hb'))), fun z => ?_, fun x c h z => ?_, fun p hp => ?_⟩
  · rw [z] at hb'; exact absurd (Nat.lt_of_lt_of_le hx hb') (Nat.lt_irrefl _)
  · have := hc x c h
    rw [z] at this
    exact absurd (Nat.lt_of_lt_of_le this hb') (Nat.lt_irrefl _)
  · rw [hpn] at hp; exact nomatch hp
/-! the cells of a sleeping frame: tracked as they stand, so that nobody writes them -/
def fzC (b : Addr) (o : Obj) : HO := .frz o (.ext fun h => h.get? b = some o)
section
open Classical
noncomputable def dropC (C : Addr → Prop) (H : Hp) : Hp := fun b => if C b then none else H b
noncomputable def addC (C : Addr → Prop) (co : Addr → Obj) (H : Hp) : Hp := fun b => if C b then some (fzC b (co b)) else H b
variable {C : Addr → Prop} {co : Addr → Obj} {H : Hp} {b : Addr}
theorem dropC_yes (h : C b) : dropC C H b = none := if_pos h
theorem dropC_no (h : ¬ C b) : dropC C H b = H b := if_neg h
theorem addC_yes (h : C b) : addC C co H b = some (fzC b (co b)) := if_pos h
theorem addC_no (h : ¬ C b) : addC C co H b = H b := if_neg h
theorem drop_add (h : ∀ b, C b → H b = none) : dropC C (addC C co H) = H := by
  funext b
  by_cases z : C b
  · rw [dropC_yes z, h b z]
  · rw [dropC_no z, addC_no z]
theorem same_addC (h : ∀ b, C b → H b = none) : Same H (addC C co H) := fun b o e => by
  rw [addC_no fun z => by rw [h b z] at e; cases e]; exact e
theorem dropC_some {u : HO} (e : dropC C H b = some u) : ¬ C b ∧ H b = some u := by
  by_cases z : C b
  · rw [dropC_yes z] at e; cases e
  · rw [dropC_no z] at e; exact ⟨z, e⟩
end
section
variable {X : Cx} {pins : List (Addr × Obj)} {σ : L2.St} {H : Hp} {s : Shared} {C : Addr → Prop} {co : Addr → Obj}
theorem inv_dropC (I : Inv X pins σ H s) (hf : ∀ b, C b → H b = some (fzC b (co b))) (h0 : ∀ b, C b → ∀ o u, X.H_0 b ≠ some (.frz o u)) : Inv X pins σ (dropC C H) s := by
  have dn : ∀ {b}, H b = none → dropC C H b = none := fun {b} h => by
    rw [dropC_no fun z => by rw [hf b z] at h; cases h]; exact h
  have nt : ∀ {b u}, H b = some u → (∀ o v, u ≠ .frz o v) → dropC C H b = some u := fun {b u} h n => by
    rw [dropC_no fun z => by rw [hf b z] at h; exact n _ _ (Option.some.inj h).symm]; exact h
  refine ⟨I.ok, I.os, I.bare, ⟨I.base.keep, I.base.slot, fun b o q n hx => dn (I.base.free b o q n hx), I.base.there, fun b xs q => nt (I.base.tups b xs q) (fun _ _ z => by cases z), fun b o u q => ?_, fun b ps q => ?_⟩, I.loc, I.cell, dn I.free, fun x c e => dn (I.freeC x c e), fun p hp => ?_, fun b u e => ?_, I.len⟩
  · rw [dropC_no fun z => h0 b z o u q]; exact I.base.frzs b o u q
  · obtain ⟨m, e⟩ := I.base.tbls b ps q
    exact ⟨m, nt e (fun _ _ z => by cases z)⟩
  · obtain ⟨h1, h2, h3⟩ := I.pin p hp
    exact ⟨h1, dn h2, h3⟩
  · obtain ⟨_, e'⟩ := dropC_some e
    exact (I.hok b u e').stay (fun _ _ _ q => q) (fun c q => nt q (fun _ _ z => by cases z)) fun c xs q => nt q (fun _ _ z => by cases z)
theorem inv_addC (I : Inv X pins σ H s) (hc : ∀ b, C b → s.heap.get? b = some (co b) ∧ (∃ v, (co b).data = .cell v) ∧ H b = none)
    (h0 : ∀ b, C b → X.s_0.heap.objs.size ≤ b ∧ b ≠ X.env.locals ∧ ∀ x d, X.env.cells.lookup x = some d → d ≠ b) : Inv X pins σ (addC C co H) s := by
  have nt : ∀ {b u}, H b = some u → addC C co H b = some u := fun {b u} h => same_addC (fun b z => (hc b z).2.2) b u h
  refine ⟨I.ok, I.os, I.bare, ⟨I.base.keep, I.base.slot, fun b o q n hx => ?_, I.base.there, fun b xs q => nt (I.base.tups b xs q), fun b o u q => nt (I.base.frzs b o u q), fun b ps q => ?_⟩, I.loc, I.cell, ?_, fun x c e => ?_, fun p hp => ?_, fun b u e => ?_, I.len⟩
  · rw [addC_no fun z => absurd (Heap.lt_size q) (Nat.not_lt_of_le (h0 b z).1)]
    exact I.base.free b o q n hx
  · obtain ⟨m, e⟩ := I.base.tbls b ps q
    exact ⟨m, nt e⟩
  · rw [addC_no fun z => (h0 _ z).2.1 rfl]; exact I.free
  · rw [addC_no fun z => (h0 _ z).2.2 x c e rfl]; exact I.freeC x c e
  · obtain ⟨h1, h2, h3, h4, h5⟩ := I.pin p hp
    refine ⟨h1, ?_, h3, h4, h5⟩
    rw [addC_no fun z => ?_]
    · exact h2
    · obtain ⟨g1, ⟨v, gv⟩, _⟩ := hc _ z
      have e := Option.some.inj (h1.symm.trans g1)
      exact h5 v (by rw [e]; exact gv)
  · by_cases z : C b
    · rw [addC_yes z] at e
      obtain ⟨g1, _, _⟩ := hc b z
      have eu := Option.some.inj e
      subst eu
      exact (show ObjOk X.prog X.w (addC C co H) s.heap b (.frz (co b) (.ext fun h => h.get? b = some (co b))) from ⟨g1, g1, ⟨_, g1⟩, fun h1 h2 p q => q _ p⟩)
    · rw [addC_no z] at e
      exact (I.hok b u e).stay (fun _ _ _ q => q) (fun c q => nt q) fun c xs q => nt q
end
end TK

/-! a turn of a for over a sleeping generator -/
namespace TK
open PySem PySem.Spec PyProof.Rows L2 GenW
abbrev cadm (X : Cx) (pins : List (Addr × Obj)) (J : Nat → L2.St → Hp → Prop) : Nat → Shared → Hp → Prop := fun n s h => ∃ σ, Inv X pins σ h s ∧ J n σ h
abbrev cfam (X : Cx) (pins : List (Addr × Obj)) (J : Nat → L2.St → Hp → Prop) (N : List Str) (qual : Str) (scope : Scope) (f : Addr) (cd : Value) (n0 : Nat) (a : Addr) (go : Obj) : Fam :=
  gfam X.prog X.w X.K X.mg X.base N qual scope f cd X.A.in1 X.stack n0 (fun _ _ _ => False) [] (pins ++ [(a, go)]) (cadm X pins J)
def Stands (X : Cx) (s : Shared) (H : Hp) (l : List (Addr × Obj)) : Prop := ∀ p ∈ l, s.heap.get? p.1 = some p.2 ∧ H p.1 = none ∧ p.1 ≠ X.env.locals ∧ p.1 ∉ X.fs ∧ ∀ v, p.2.data ≠ .cell v
section
variable {X : Cx} {pins : List (Addr × Obj)} {J : Nat → L2.St → Hp → Prop} {N : List Str} {qual : Str} {scope : Scope} {f : Addr} {cd : Value} {n0 : Nat} {a : Addr} {go : Obj} {g : Nat} {out : FOut} {sl : Hp → Hp → Prop} {Q : Nat → Hp → Hp → Prop}
/-- the addresses of the frame's cells -/
def IsCl (qual : Str) (scope : Scope) (n0 : Nat) (f : Addr) (cd : Value) (b : Addr) : Prop := ∃ x, (envOfC qual scope n0 f cd).cells.lookup x = some b
/-- what the consumer does meanwhile lets the cells stand, and it does not matter whether they are told -/
def SlOk (C : Addr → Prop) (sl : Hp → Hp → Prop) : Prop := ∀ (co : Addr → Obj) H H2, (∀ b, C b → H b = none) → sl (addC C co H) H2 → (∀ b, C b → H2 b = some (fzC b (co b))) ∧ sl H (dropC C H2)
def JSt (C : Addr → Prop) (J : Nat → L2.St → Hp → Prop) : Prop := ∀ (co : Addr → Obj) n σ H, (∀ b, C b → H b = some (fzC b (co b))) → J n σ H → J n σ (dropC C H)
/-- between the turns: n: how many items may still come, at most -/
def GL (X : Cx) (pins : List (Addr × Obj)) (J : Nat → L2.St → Hp → Prop) (N : List Str) (qual : Str) (scope : Scope) (f : Addr) (cd : Value) (n0 : Nat) (a : Addr) (go : Obj) (g : Nat) (out : FOut) (sl : Hp → Hp → Prop) (Q : Nat → Hp → Hp → Prop) (n : Nat) (s : Shared) : Prop :=
  0 < n ∧ ∃ gs fo ip σ Hy σC HC, ∃ co : Addr → Obj, s.gens[g]? = some gs ∧ n0 ≤ s.heap.objs.size ∧ Inv X (pins ++ ((a, go) :: (n0, fo) :: ip)) σC HC s ∧ (∀ b, IsCl qual scope n0 f cd b → HC b = some (fzC b (co b))) ∧ J n σC (dropC (IsCl qual scope n0 f cd) HC) ∧ sl Hy (dropC (IsCl qual scope n0 f cd) HC) ∧
    (∀ s' h', cadm X pins J n s' h' → n0 ≤ s'.heap.objs.size → Stands X s' h' (pins ++ ((a, go) :: (n0, fo) :: ip)) → (∀ b, IsCl qual scope n0 f cd b → s'.heap.get? b = some (co b) ∧ h' b = none) → Env0 X.prog X.w X.K X.mg X.base X.A.in1 X.stack s' h' → FRun (cfam X pins J N qual scope f cd n0 a go) ip n s' h' σ h' s') ∧
    ∀ s' h', FRun (cfam X pins J N qual scope f cd n0 a go) ip n s' h' σ h' s' → sl Hy h' → gs.Goes (model X.prog X.w) X.A.in1 (FRN (cfam X pins J N qual scope f cd n0 a go) Q) (FY (cfam X pins J N qual scope f cd n0 a go) out sl) n (.send .none) s'
theorem env0_in1 {σ : L2.St} {H : Hp} {s : Shared} {l : List (Addr × Obj)} (I : Inv X l σ H s) : Env0 X.prog X.w X.K X.mg X.base X.A.in1 X.stack s H :=
  let e := I.env0
  ⟨e.frames, e.mod, e.bs, e.bsz, e.funs, e.frf, e.hok, e.bare⟩
theorem turn_fam {tg : Expr} {gT : TG} {tb : TS} {D : Ends} {n : Nat} {s : Shared} {nm qn : Value} (hgo : go.cls = .type "generator" ∧ go.data = .fields #[.int g 0, nm, qn] ∧ go.slots = #[]) (hpn : X.pn = []) (hst : X.stack = X.env :: X.outer ∧ X.env.frame = some X.env.locals)
    (hh : X.A.handled = none) (hd : X.A.depth < recursionLimit) (hx : X.env.locals < n0) (hc : ∀ x c, X.env.cells.lookup x = some c → c < n0) (hfr : ∀ b ∈ frs X.stack, b < n0) (hclo : ∀ b, IsCl qual scope n0 f cd b → n0 ≤ b ∧ ∀ o u, X.H_0 b ≠ some (.frz o u)) (hsl : SlOk (IsCl qual scope n0 f cd) sl) (hJs : JSt (IsCl qual scope n0 f cd) J)
    (hitem : ∀ m x h₀ H σ, J (m + 1) σ h₀ → out m x h₀ H → 0 < m ∧ ∀ H1, Same H H1 → gT x σ H1 fun σ2 H2 => tb { D with nx := fun σ' H' => J m σ' H' ∧ sl H1 H', ct := fun σ' H' => J m σ' H' ∧ sl H1 H', bk := D.nx } σ2 H2)
    (hdone : ∀ m h₀ H σ, J (m + 1) σ h₀ → Q (m + 1) h₀ H → D.nx σ H) (h : GL X pins J N qual scope f cd n0 a go g out sl Q n s) :
    wpAny (model X.prog X.w) X.A (pyNext (.ref a)) (TurnG X pins a gT tb D (GL X pins J N qual scope f cd n0 a go g out sl Q) n) X.xe s := by
  obtain ⟨h0, gs, fo, ip, σ, Hy, σC, HC, co, hgs, hn0, I0, hco, hJ, hsl0, wake, goes⟩ := h
  have I := inv_dropC I0 hco fun b z => (hclo b z).2
  have hsC : X.s_0.heap.objs.size ≤ n0 := Nat.le_trans I0.ok.above (Nat.le_of_lt hx)
  have xC : ∀ b, IsCl qual scope n0 f cd b → X.s_0.heap.objs.size ≤ b ∧ b ≠ X.env.locals ∧ ∀ x d, X.env.cells.lookup x = some d → d ≠ b := fun b z => by
    have h1 := (hclo b z).1
    exact ⟨Nat.le_trans hsC h1, fun e => by rw [e] at h1; exact absurd hx (Nat.not_lt_of_le h1), fun x d q e => by rw [← e] at h1; exact absurd (hc x d q) (Nat.not_lt_of_le h1)⟩
  have frzAt : ∀ {σ' : L2.St} {H' : Hp} {l : List (Addr × Obj)} {s' : Shared} {b : Addr} {o : Obj}, Inv X l σ' H' s' → H' b = some (fzC b o) → s'.heap.get? b = some o := fun I' e => ((I'.hok _ _ e : ObjOk _ _ _ _ _ (.frz _ _))).1
  obtain ⟨m, rfl⟩ : ∃ m, n = m + 1 := ⟨n - 1, by omega⟩
  have efr : frs X.stack = X.env.locals :: X.fs := by
    rw [hst.1]
    show List.filterMap _ (_ :: _) = _
    rw [List.filterMap_cons, hst.2]
    rfl
  have Ir : Inv X (pins ++ ((a, go) :: (n0, fo) :: ip)) σC (dropC (IsCl qual scope n0 f cd) HC) (s.setGen g .running) := inv_gens I (allBare_setGen (s := s) I.bare rfl)
  have pin : ∀ {l : List (Addr × Obj)} {σ' : L2.St} {H' : Hp} {s' : Shared}, Inv X l σ' H' s' → Stands X s' H' l := fun I' p hp => I'.pin p (List.mem_append_right _ hp)
  have r := wake (s.setGen g .running) _ ⟨σC, Ir.unpinned, hJ⟩ hn0 (pin Ir) (fun b z => ⟨show s.heap.get? b = _ from frzAt I0 (hco b z), dropC_yes z⟩) (env0_in1 Ir)
  have hga := (pin I (a, go) (List.mem_append_right _ (List.mem_cons_self ..))).1
  have hgl : g < s.gens.size := (Array.getElem?_eq_some_iff.mp hgs).1
  refine wpAny_gsz (n := g + 1) hgl (next_fam (Φ := cfam X pins J N qual scope f cd n0 a go) (out := out) (sl := sl) (Q := Q) hh I.nolimit hd ⟨go, nm, qn, hga, hgo⟩ hgs (goes _ _ r hsl0) (fun x v ip' h₀ σ' H s₁ gs' hb rr rx ho cont hsz => ?_) fun ip' h₀ σ' H s₁ rr hq h' hk _ => ?_)
  · obtain ⟨at', I1⟩ := rr
    obtain ⟨σD, Id, hJd⟩ := at'.adm
    have hz : (cutSh n0 (s.setGen g .running)).heap.objs.size = n0 := at'.low
    obtain ⟨mm, ⟨fo', es, ep, hfo, hdict, _⟩, _⟩ := I1.loc
    have hfo' : s₁.heap.get? n0 = some fo' := by
      have q : s₁.heap.get? (cutSh n0 (s.setGen g .running)).heap.objs.size = some fo' := hfo
      rw [hz] at q; exact q
    have hH0 : H n0 = none := by
      have q : H (cutSh n0 (s.setGen g .running)).heap.objs.size = none := I1.free
      rw [hz] at q; exact q
    have n0f : n0 ∉ frs X.stack := fun z => Nat.lt_irrefl _ (hfr n0 z)
    have off : ∀ {b : Addr}, b ∉ frs X.stack → b ≠ X.env.locals ∧ b ∉ X.fs := fun {b} z => by
      rw [efr] at z
      exact ⟨fun e => z (by rw [e]; exact List.mem_cons_self ..), fun e => z (List.mem_cons_of_mem _ e)⟩
    have hp' : Stands X s₁ H (pins ++ ((a, go) :: (n0, fo') :: ip')) := fun p hp => by
      have old : p ∈ ip' ++ (pins ++ [(a, go)]) → s₁.heap.get? p.1 = some p.2 ∧ H p.1 = none ∧ p.1 ≠ X.env.locals ∧ p.1 ∉ X.fs ∧ ∀ v, p.2.data ≠ .cell v := fun z => by
        obtain ⟨h1, h2, _, h4, h5⟩ := I1.pin p (List.mem_append_right _ z)
        exact ⟨h1, h2, (off h4).1, (off h4).2, h5⟩
      rcases List.mem_append.mp hp with z | z
      · exact old (List.mem_append_right _ (List.mem_append_left _ z))
      · rcases List.mem_cons.mp z with z | z
        · exact old (List.mem_append_right _ (List.mem_append_right _ (by rw [z]; exact List.mem_singleton.mpr rfl)))
        · rcases List.mem_cons.mp z with z | z
          · rw [z]; exact ⟨hfo', hH0, (off n0f).1, (off n0f).2, fun v q => by rw [hdict] at q; cases q⟩
          · exact old (List.mem_append_left _ z)
    have Ib : Inv X (pins ++ ((a, go) :: (n0, fo') :: ip')) σD H s₁ := inv_back Id hpn hn0 hx hc I1.os I1.bare I1.base I1.hok hp'
    have cl1 : ∀ b, IsCl qual scope n0 f cd b → ∃ x, (cfam X pins J N qual scope f cd n0 a go).env.cells.lookup x = some b := fun b z => z
    have hcell : ∀ b, IsCl qual scope n0 f cd b → ∃ v o, s₁.heap.get? b = some o ∧ o.data = .cell v ∧ H b = none := fun b z => by
      obtain ⟨y, hy⟩ := cl1 b z
      rw [← at'.env] at hy
      obtain ⟨v, o, g1, g2⟩ := I1.cell y b hy
      exact ⟨v, o, g1, g2, I1.freeC y b hy⟩
    obtain ⟨co', hco'⟩ : ∃ co' : Addr → Obj, ∀ b, IsCl qual scope n0 f cd b → s₁.heap.get? b = some (co' b) ∧ (∃ v, (co' b).data = .cell v) ∧ H b = none := ⟨fun b => (s₁.heap.get? b).getD go, fun b z => by
      obtain ⟨v, o, g1, g2, g3⟩ := hcell b z
      have e : (s₁.heap.get? b).getD go = o := by rw [g1]; rfl
      exact ⟨by rw [g1]; exact congrArg some e.symm, ⟨v, by show ((s₁.heap.get? b).getD go).data = _; rw [e]; exact g2⟩, g3⟩⟩
    have Ic := inv_addC Ib hco' xC
    have Ig : Inv X (pins ++ ((a, go) :: (n0, fo') :: ip')) σD (addC (IsCl qual scope n0 f cd) co' H) (s₁.setGen g gs') := inv_gens Ic (allBare_setGen (s := s₁) Ic.bare hb)
    obtain ⟨hm, hgt⟩ := hitem m x h₀ H σD hJd ho
    have hgt := hgt _ (same_addC (co := co') fun b z => (hco' b z).2.2)
    refine ⟨(a, go) :: (n0, fo') :: ip', x, σD, addC (IsCl qual scope n0 f cd) co' H, fun σ' H' => J m σ' H' ∧ sl (addC (IsCl qual scope n0 f cd) co' H) H', go, "generator", _, Ig, rx, (pin Ig (a, go) (List.mem_append_right _ (List.mem_cons_self ..))).1, hgo.1, hgo.2.1, by decide, hgt, fun σ2 H2 s2 I2 k2 ⟨hJ2, hs2⟩ => ⟨m, Nat.lt_succ_self m, ?_⟩⟩
    have wk : ∀ s' h', cadm X pins J m s' h' → n0 ≤ s'.heap.objs.size → Stands X s' h' (pins ++ ((a, go) :: (n0, fo') :: ip')) → (∀ b, IsCl qual scope n0 f cd b → s'.heap.get? b = some (co' b) ∧ h' b = none) → Env0 X.prog X.w X.K X.mg X.base X.A.in1 X.stack s' h' → FRun (cfam X pins J N qual scope f cd n0 a go) ip' m s' h' σ' h' s' := fun s' h' ha hl hs hcs e0 => by
      obtain ⟨q1, q2, _, _, _⟩ := hs (n0, fo') (List.mem_append_right _ (List.mem_cons_of_mem _ (List.mem_cons_self ..)))
      refine gfam_wake ⟨at', I1⟩ ha e0 hh hl hfr (fun b hb => ?_) (fun p hp => ?_) at'.ap
      · rcases hb with hb | ⟨y, hy⟩
        · rw [hb]
          exact ⟨q2, fun o e => by rw [hfo'] at e; rw [← Option.some.inj e]; exact q1⟩
        · obtain ⟨g1, g2⟩ := hcs b ⟨y, hy⟩
          exact ⟨g2, fun o e => by rw [(hco' b ⟨y, hy⟩).1] at e; rw [← Option.some.inj e]; exact g1⟩
      · have hp2 : p ∈ ip' ++ (pins ++ [(a, go)]) := hp
        have hp3 : p ∈ pins ++ ((a, go) :: (n0, fo') :: ip') := by
          rcases List.mem_append.mp hp2 with z | z
          · exact List.mem_append_right _ (List.mem_cons_of_mem _ (List.mem_cons_of_mem _ z))
          · rcases List.mem_append.mp z with z | z
            · exact List.mem_append_left _ z
            · rw [List.mem_singleton.mp z]; exact List.mem_append_right _ (List.mem_cons_self ..)
        obtain ⟨h1, h2, h3, h4, h5⟩ := hs p hp3
        have ne : p.1 ≠ n0 := by
          have q := (I1.pin p (List.mem_append_right _ hp2)).2.2.1
          have q' : p.1 ≠ (cutSh n0 (s.setGen g .running)).heap.objs.size := q
          rw [hz] at q'; exact q'
        exact ⟨h1, h2, ne, fun z => by rw [efr] at z; exact (List.mem_cons.mp z).elim h3 h4, h5⟩
    have hl2 : n0 ≤ s2.heap.objs.size := Nat.le_of_lt (Heap.lt_size (pin I2 (n0, fo') (List.mem_append_right _ (List.mem_cons_of_mem _ (List.mem_cons_self ..)))).1)
    obtain ⟨hc2, hs3⟩ := hsl co' H H2 (fun b z => (hco' b z).2.2) hs2
    have hJ3 := hJs co' m σ2 H2 hc2 hJ2
    have I3 := inv_dropC I2 hc2 fun b z => (hclo b z).2
    have r2 := wk s2 _ ⟨σ2, I3.unpinned, hJ3⟩ hl2 (pin I3) (fun b z => ⟨frzAt I2 (hc2 b z), dropC_yes z⟩) (env0_in1 I3)
    obtain ⟨⟨k, l, c, p, fs, cl, egs⟩, _⟩ := cont s2 _ r2 hs3
    refine ⟨hm, gs', fo', ip', σ', H, σ2, H2, co', ?_, hl2, I2, hc2, hJ3, hs3, wk, fun s' h' r' q' => (cont s' h' r' q').2⟩
    refine k2 g gs' ?_
    have hg1 : g < s₁.gens.size := by
      have q : (s₁.setGen g gs').gens.size = s₁.gens.size := setGen_size _ _ _
      have q2 : g + 1 ≤ (s₁.setGen g gs').gens.size := hsz
      omega
    unfold tOf
    rw [setGen_at hg1, egs]
  · obtain ⟨at', I1⟩ := rr
    obtain ⟨σD, Id, hJd⟩ := at'.adm
    have hp' : Stands X s₁ H pins := fun p hp => by
      obtain ⟨h1, h2, _, h4, h5⟩ := I1.pin p (List.mem_append_right _ (List.mem_append_right _ (List.mem_append_left _ hp)))
      have z : p.1 ∉ frs X.stack := h4
      rw [efr] at z
      exact ⟨h1, h2, fun e => z (by rw [e]; exact List.mem_cons_self ..), fun e => z (List.mem_cons_of_mem _ e), h5⟩
    have Ib : Inv X pins σD H s₁ := inv_back Id hpn hn0 hx hc I1.os I1.bare I1.base I1.hok hp'
    exact ⟨σD, H, Ib.call' (ch := []) rfl (Un.kept hk) (Ib.hok.kept hk) (allBare_setGen (s := s₁) Ib.bare rfl) fun b z => (nomatch z), hdone m h₀ H σD hJd hq⟩
end
end TK

/-! a for over a generator that has just been called: its start -/
namespace TK
open PySem PySem.Spec PyProof.Rows L2 GenW
theorem cx_never {P : Program} {w : World} {outer : List Env} {H : Hp} {s₀ s : Shared} {e : Value} (h : CX P w outer H s₀ (fun _ _ _ => False) e s) : False := by
  obtain ⟨_, _, _, _, _, _, _, _, _, _, _, _, z⟩ := h
  exact z
section
variable {X : Cx} {pins : List (Addr × Obj)} {J : Nat → L2.St → Hp → Prop} {N : List Str} {qual : Str} {scope : Scope} {f : Addr} {cd : Value} {a : Addr} {out : FOut} {sl : Hp → Hp → Prop} {Q : Nat → Hp → Hp → Prop}
theorem gl_start {A0 : Around} {outer0 : List Env} {s sL : Shared} {H : Hp} {vs : List V} {body : List Stmt} {t : TF} {n : Nat} {σC : L2.St} (L : Laid X.prog X.w X.K X.mg X.base N qual scope f cd body A0 outer0 s H vs sL a) (hh : X.A.handled = none) (hx : X.env.locals < s.heap.objs.size) (hfr : ∀ b ∈ frs X.stack, b < s.heap.objs.size) (hfs : ∀ b ∈ X.fs, b < s.heap.objs.size)
    (hc : ∀ x c, X.env.cells.lookup x = some c → c < s.heap.objs.size) (hsC : X.s_0.heap.objs.size ≤ s.heap.objs.size) (I : Inv X pins σC H sL) (hp0 : ∀ p ∈ pins, p.1 ≠ s.heap.objs.size) (hJ : J n σC H) (hn : 0 < n) (hsl : sl H H)
    (hb : ∀ go, FSs (cfam X pins J N qual scope f cd s.heap.objs.size a go) out sl body t) (ht : ∀ h', sl H h' → t { nx := fun n h₀ _ H' => Q n h₀ H', rt := fun n h₀ v H' => v = .non ∧ Q n h₀ H' } n h' (start N vs) h') :
    ∃ go nm qn, (go.cls = .type "generator" ∧ go.data = .fields #[.int s.gens.size 0, nm, qn] ∧ go.slots = #[]) ∧ GL X pins J N qual scope f cd s.heap.objs.size a go s.gens.size out sl Q n sL := by
  obtain ⟨go, nm, qn, hg, hgo⟩ := L.gen
  have IL := L.inv fun _ _ _ => False
  obtain ⟨mm, ⟨fo, es, ep, hfo, hdict, _⟩, _⟩ := IL.loc
  have hn0 : s.heap.objs.size ≤ sL.heap.objs.size := Nat.le_of_lt (Heap.lt_size hfo)
  have hx' : (X.env.locals : Nat) < s.heap.objs.size := hx
  have lo : s.heap.objs.size < (a : Nat) := L.lo
  have Ip : Inv X (pins ++ ((a, go) :: (s.heap.objs.size, fo) :: [])) σC H sL := I.pins_of fun p hp => by
    rcases List.mem_append.mp hp with z | z
    · exact I.pin p (List.mem_append_right _ z)
    · rcases List.mem_cons.mp z with z | z
      · rw [z]
        refine ⟨hg, L.fr.1, fun e => ?_, fun e => ?_, fun v q => by rw [hgo.2.1] at q; cases q⟩
        · have e' : a = X.env.locals := e
          rw [e'] at lo; exact Nat.lt_irrefl _ (Nat.lt_trans hx' lo)
        · exact Nat.lt_irrefl _ (Nat.lt_trans (hfs a e) lo)
      · rw [List.mem_singleton.mp z]
        refine ⟨hfo, IL.free, fun e => ?_, fun e => Nat.lt_irrefl _ (hfs _ e), fun v q => by rw [hdict] at q; cases q⟩
        exact absurd (show X.env.locals < X.env.locals from (show s.heap.objs.size = X.env.locals from e) ▸ hx) (Nat.lt_irrefl _)
  have hclo : ∀ b, IsCl qual scope s.heap.objs.size f cd b → s.heap.objs.size ≤ b := fun b ⟨x, hx⟩ => IL.ok.cab x b rfl hx
  obtain ⟨co, hco⟩ : ∃ co : Addr → Obj, ∀ b, IsCl qual scope s.heap.objs.size f cd b → sL.heap.get? b = some (co b) ∧ (∃ v, (co b).data = .cell v) ∧ H b = none := ⟨fun b => (sL.heap.get? b).getD go, fun b ⟨x, hx⟩ => by
    obtain ⟨v, o, g1, g2⟩ := IL.cell x b hx
    have e : (sL.heap.get? b).getD go = o := by rw [g1]; rfl
    exact ⟨by rw [g1]; exact congrArg some e.symm, ⟨v, by show ((sL.heap.get? b).getD go).data = _; rw [e]; exact g2⟩, IL.freeC x b hx⟩⟩
  have hnone : ∀ b, IsCl qual scope s.heap.objs.size f cd b → H b = none := fun b z => (hco b z).2.2
  have Ic := inv_addC Ip hco fun b z => by
    have h1 := hclo b z
    exact ⟨Nat.le_trans hsC h1, fun e => by rw [e] at h1; exact absurd hx (Nat.not_lt_of_le h1), fun x d q e => by rw [← e] at h1; exact absurd (hc x d q) (Nat.not_lt_of_le h1)⟩
  refine ⟨go, nm, qn, hgo, hn, .fresh (.func body (envOfC qual scope s.heap.objs.size f cd)), fo, [], start N vs, H, σC, addC (IsCl qual scope s.heap.objs.size f cd) co H, co, ?_, hn0, Ic, (fun b z => addC_yes z), (by rw [drop_add hnone]; exact hJ), (by rw [drop_add hnone]; exact hsl), fun s' h' ha hl hs hcs e0 => ?_, fun s' h' r hs => ⟨rfl, ?_⟩⟩
  · rw [L.st]; exact Array.getElem?_push_size ..
  · obtain ⟨q1, q2, _, _, _⟩ := hs (s.heap.objs.size, fo) (List.mem_append_right _ (List.mem_cons_of_mem _ (List.mem_cons_self ..)))
    refine ⟨gfam_at ha hl fun p hp => (nomatch hp), inv_wake IL e0 hh hl hfr (fun b hb' => ?_) fun p hp => ?_⟩
    · rcases hb' with hb' | ⟨y, hy⟩
      · rw [hb']
        refine ⟨q2, fun o e => ?_⟩
        have e2 : sL.heap.get? s.heap.objs.size = some fo := hfo
        rw [e2] at e
        rw [← Option.some.inj e]; exact q1
      · obtain ⟨g1, g2⟩ := hcs b ⟨y, hy⟩
        refine ⟨g2, fun o e => ?_⟩
        rw [(hco b ⟨y, hy⟩).1] at e
        rw [← Option.some.inj e]; exact g1
    · have hp2 : p ∈ pins ++ [(a, go)] := hp
      have hp3 : p ∈ pins ++ ((a, go) :: (s.heap.objs.size, fo) :: []) := (List.mem_append.mp hp2).elim (fun z => List.mem_append_left _ z) fun z => by
        rw [List.mem_singleton.mp z]; exact List.mem_append_right _ (List.mem_cons_self ..)
      obtain ⟨h1, h2, h3, h4, h5⟩ := hs p hp3
      refine ⟨h1, h2, ?_, fun z => ?_, h5⟩
      · rcases List.mem_append.mp hp2 with z | z
        · exact hp0 p z
        · rw [List.mem_singleton.mp z]; exact Nat.ne_of_gt lo
      · have hs' := e0
        rcases List.mem_cons.mp (I.stkSub p.1 z) with y | y
        · exact h3 y
        · exact h4 y
  · exact seg_imp (fun n s₀ r s1 hR => hR.elim .inl fun ⟨e, _, h₀, _, cx, _⟩ => (cx_never cx).elim) fy_imp _ (gfam_seg (hb go) r (ht h' hs))
end
end TK

/-! a for over a call of a generator def -/
namespace TK
open PySem PySem.Spec PyProof.Rows L2 GenW
/-- what the iterable must give: a generator just laid, and the consumer's own invariant by the items still to come -/
def LaidFor (X : Cx) (pins : List (Addr × Obj)) (gT : TG) (tb : TS) (D : Ends) (v : Value) (sL : Shared) : Prop :=
  ∃ (N : List Str) (qual : Str) (scope : Scope) (f : Addr) (cd : Value) (gb : List Stmt) (A0 : Around) (outer0 : List Env) (s : Shared) (H : Hp) (vs : List V) (a : Addr) (J : Nat → L2.St → Hp → Prop) (out : FOut) (sl : Hp → Hp → Prop) (Q : Nat → Hp → Hp → Prop) (t : TF) (n : Nat) (σC : L2.St),
    v = .ref a ∧ Laid X.prog X.w X.K X.mg X.base N qual scope f cd gb A0 outer0 s H vs sL a ∧ X.env.locals < s.heap.objs.size ∧ (∀ x c, X.env.cells.lookup x = some c → c < s.heap.objs.size) ∧ (∀ b ∈ frs X.stack, b < s.heap.objs.size) ∧ X.s_0.heap.objs.size ≤ s.heap.objs.size ∧
    (∀ b, IsCl qual scope s.heap.objs.size f cd b → s.heap.objs.size ≤ b ∧ ∀ o u, X.H_0 b ≠ some (.frz o u)) ∧ SlOk (IsCl qual scope s.heap.objs.size f cd) sl ∧ JSt (IsCl qual scope s.heap.objs.size f cd) J ∧
    Inv X pins σC H sL ∧ (∀ p ∈ pins, p.1 ≠ s.heap.objs.size) ∧ J n σC H ∧ 0 < n ∧ sl H H ∧ (∀ go, FSs (cfam X pins J N qual scope f cd s.heap.objs.size a go) out sl gb t) ∧
    (∀ h', sl H h' → t { nx := fun n h₀ _ H' => Q n h₀ H', rt := fun n h₀ v H' => v = .non ∧ Q n h₀ H' } n h' (start N vs) h') ∧
    (∀ m x h₀ H σ, J (m + 1) σ h₀ → out m x h₀ H → 0 < m ∧ ∀ H1, Same H H1 → gT x σ H1 fun σ2 H2 => tb { D with nx := fun σ' H' => J m σ' H' ∧ sl H1 H', ct := fun σ' H' => J m σ' H' ∧ sl H1 H', bk := D.nx } σ2 H2) ∧
    ∀ m h₀ H σ, J (m + 1) σ h₀ → Q (m + 1) h₀ H → D.nx σ H
theorem ps_for_gen {X : Cx} {pins : List (Addr × Obj)} {tg iter : Expr} {body : List Stmt} {gT : TG} {tb : TS} {pos : Pos} {σ : L2.St} {H : Hp} {s : Shared} {D : Ends} (hp : PassesOwn (model X.prog X.w) X.A X.env X.xe) (hg : PG X tg gT) (hb : PSs X body tb) (hx : ∀ e s' G, X.xe e s' → X.xe e { s' with gens := G })
    (hpn : X.pn = []) (hst : X.stack = X.env :: X.outer ∧ X.env.frame = some X.env.locals) (hh : X.A.handled = none) (hd : X.A.depth < recursionLimit)
    (hi : wpAny (model X.prog X.w) X.A (eval iter X.env) (LaidFor X pins gT tb D) X.xe s) (hs : ∀ x, foldedSetIterable iter X.env x = pure x := by intro _; rfl) :
    wpAny (model X.prog X.w) X.A (exec (.For tg iter body [] pos) X.env) (SP X pins D) X.xe s := by
  have efr : frs X.stack = X.env.locals :: X.fs := by
    rw [hst.1]
    show List.filterMap _ (_ :: _) = _
    rw [List.filterMap_cons, hst.2]
    rfl
  refine ps_forG (σ := σ) (H := H) (g := gT) (tb := tb) hp hg hb hx (wpAny_mono hi (fun v sL h => ?_) fun _ _ x => x) hs
  obtain ⟨N, qual, scope, f, cd, gb, A0, outer0, s0, H0, vs, a, J, out, sl, Q, t, n, σC, rfl, L, h1, h2, h3, h4, hclo, hslo, hJs, I, h5, hJ, hn, hsl, hgb, ht, hitem, hdone⟩ := h
  obtain ⟨go, nm, qn, hgo, gl⟩ := gl_start L hh h1 h3 (fun b hb => h3 b (by rw [efr]; exact List.mem_cons_of_mem _ hb)) h2 h4 I h5 hJ hn hsl hgb ht
  obtain ⟨go', nm', qn', hg', hgo'⟩ := L.gen
  exact wpAny_pyIter_gen (g := s0.gens.size) ⟨go', nm', qn', hg', hgo'⟩ ⟨a, _, rfl, ⟨n, gl⟩, fun n' s' l => turn_fam (tg := tg) hgo hpn hst hh hd h1 h2 h3 hclo hslo hJs hitem hdone l⟩
/-! ### the call -/
abbrev TGL := L2.St → Hp → (List V → Hp → Prop) → Prop
def LaidAt (X : Cx) (N : List Str) (qual : Str) (st : Stmt) (f : Addr) (pins : List (Addr × Obj)) (σ : L2.St) (k : List V → Hp → Prop) (u : Value) (sL : Shared) : Prop :=
  ∃ cd s2 H2 vs a, u = .ref a ∧ Inv X pins σ H2 s2 ∧ Laid X.prog X.w X.K X.mg X.base N qual (defScope st) f cd (defBody st) X.A X.stack s2 H2 vs sL a ∧ k vs H2
/-- an expression whose value is a generator just laid, of the def that stands at f -/
structure PGL (X : Cx) (N : List Str) (qual : Str) (st : Stmt) (f : Addr) (e : Expr) (tg : TGL) : Prop where
  run : ∀ (pins : List (Addr × Obj)) (s : Shared) (σ : L2.St) (H : Hp) (cont : List V → Hp → Prop), Inv X pins σ H s → tg σ H cont → wpAny (model X.prog X.w) X.A (eval e X.env) (LaidAt X N qual st f pins σ cont) X.xe s
section
variable {X : Cx} {N ps ks : List Str} {name qual : Str} {st : Stmt} {f C : Addr} {fd : FuncData} {k : Nat} {pins : List (Addr × Obj)} {σ : L2.St} {H : Hp} {s : Shared} {o e : Expr} {es : List Expr} {kws : List Keyword} {m : Str} {apos pos : Pos} {ta : TE} {t tk : TA} {g : List Value → List Value → List Value} {gV : List V → List V → List V} {dvs : List V} {ds : List Value}
theorem run_gl {args : List Value} {kw : List (Str × Value)} {us : List Value} {vs : List V} {cont : List V → Hp → Prop} {E : Value → Shared → Prop} (F : Fun X.K name qual st f fd) (S : GScope N ps (defScope st)) (hr : Room (k + 1) X.A) (hb : BindsTo s fd ⟨args, kw⟩ (ps.zip us)) (hl : vs.length = ps.length) (I : Inv X pins σ H s) (r : Vals vs us) (h : cont vs H) :
    wpAny (model X.prog X.w) X.A (call (.ref f) args kw) (LaidAt X N qual st f pins σ cont) E s := by
  obtain ⟨oc, od, kV, doc, pm, an, cdv, ct, osl, rfl, lk, hcd⟩ := F.ex
  refine wpAny_call (codeAny_mono (gcall lk hcd S hl hr I.env0 hb r) fun r s' hq => ?_)
  obtain ⟨a, rfl, L⟩ := hq
  exact ⟨cdv, s, H, vs, a, rfl, I, L, h⟩
def tMethL (C : Addr) (m : Str) (ps : List Str) (dvs : List V) (ta : TE) (t : TA) : TGL := fun σ H cont => ta σ H fun x H1 => ∃ a dx fs, x = .ref a ∧ H1 a = some (.ins C dx fs) ∧ fs.lookup m = none ∧
  t σ H1 fun vs H2 => (x :: (vs ++ dvs)).length = ps.length ∧ cont (x :: (vs ++ dvs)) H2
/-- o.m() -/
theorem pgl_meth0 {pl : Sem Bool} (he : PE X o ta) (c : Cls X.K C) (hm : Meth X.K C m f) (F : Fun X.K name qual st f fd) (S : GScope N ps (defScope st)) (hr : Room (k + 1) X.A) (hb : Binds X.K fd ps ds) (hd : Vals dvs ds)
    (ht : eval (.Call (.Attribute o m apos) [] [] pos) X.env = (do
      let ov ← eval o X.env
      standAt apos.atName
      let (f, first) ← holding [ov] (getMethod ov m pl)
      callWith pos f first (backTo pos (starEach [] X.env)) (backToKw pos (keywordEach [] X.env))) := by rfl) :
    PGL X N qual st f (.Call (.Attribute o m apos) [] [] pos) (tMethL C m ps dvs ta tNil) := by
  refine ⟨fun pins s σ H cont I h => ?_⟩
  refine PySem.W.methodCall_KW (pl := pl) (thn (he.run pins s σ H _ I h) fun u s1 ⟨x, H1, I1, rx, a, dx, fs, ex, ea, l, q⟩ => ?_) ht
  subst ex
  obtain rfl : u = Value.ref a := rx
  refine getmeth_ok I1 ea c hm l ?_
  obtain ⟨l1, q⟩ := q
  have r2 : Vals ([V.ref a] ++ dvs) ([Value.ref a] ++ ds) := Vals.append (.cons rfl .nil) hd
  exact PySem.W.callWith_K0 (first := [.ref a]) I1.kIn hm.kp (run_gl (args := [.ref a]) (kw := []) (us := [.ref a] ++ ds) (vs := [.ref a] ++ dvs) F S hr (hb _ [.ref a] I1.kIn (by rw [← r2.length]; exact l1)) l1 I1 r2 q)
/-- o.m(e, ..) -/
theorem pgl_meth {pl : Sem Bool} (he : PE X o ta) (c : Cls X.K C) (hm : Meth X.K C m f) (F : Fun X.K name qual st f fd) (S : GScope N ps (defScope st)) (hr : Room (k + 1) X.A) (hb : Binds X.K fd ps ds) (hd : Vals dvs ds) (ha : PA X (e :: es) t)
    (hst : starEach (e :: es) X.env = (false, eval e X.env) :: starEach es X.env := by rfl) (hpl : (backTo pos (starEach es X.env)).any (·.1) = false := by rfl)
    (ht : eval (.Call (.Attribute o m apos) (e :: es) [] pos) X.env = (do
      let ov ← eval o X.env
      standAt apos.atName
      let (f, first) ← holding [ov] (getMethod ov m pl)
      callWith pos f first (backTo pos (starEach (e :: es) X.env)) (backToKw pos (keywordEach [] X.env))) := by rfl) :
    PGL X N qual st f (.Call (.Attribute o m apos) (e :: es) [] pos) (tMethL C m ps dvs ta t) := by
  refine ⟨fun pins s σ H cont I h => ?_⟩
  refine PySem.W.methodCall_KW (pl := pl) (thn (he.run pins s σ H _ I h) fun u s1 ⟨x, H1, I1, rx, a, dx, fs, ex, ea, l, q⟩ => ?_) ht
  subst ex
  obtain rfl : u = Value.ref a := rx
  refine getmeth_ok I1 ea c hm l ?_
  refine PySem.W.callWith_K (first := [.ref a]) (h₀ := X.base) I.ok.mod.kin hm.kp (thn (ha.run pos pins s1 σ H1 _ I1 q) fun us s2 ⟨vs, H2, I2, r, l2, q2⟩ => ⟨I2.kIn, ?_⟩) hst hpl
  have r2 : Vals (V.ref a :: (vs ++ dvs)) (Value.ref a :: (us ++ ds)) := .cons rfl (r.append hd)
  exact run_gl (args := .ref a :: us) (kw := []) (us := .ref a :: (us ++ ds)) (vs := .ref a :: (vs ++ dvs)) F S hr (hb _ (.ref a :: us) I2.kIn (by show (Value.ref a :: (us ++ ds)).length = _; rw [← r2.length]; exact l2)) l2 I2 r2 q2
/-- for x in o.m(..): the reading; t: what the generator's body asks -/
def GRead (X : Cx) (N : List Str) (gT : TG) (tb : TS) (t : FOut → (Hp → Hp → Prop) → TF) (D : Ends) (σ : L2.St) (vs : List V) (H : Hp) : Prop :=
  ∀ n0 : Nat, (∀ b o, H b = some o → b < n0) → ∀ C : Addr → Prop, (∀ b, C b → n0 ≤ b) → ∃ (J : Nat → L2.St → Hp → Prop) (out : FOut) (sl : Hp → Hp → Prop) (Q : Nat → Hp → Hp → Prop) (n : Nat),
    SlOk C sl ∧ JSt C J ∧ J n σ H ∧ 0 < n ∧ sl H H ∧
    (∀ h', sl H h' → t out sl { nx := fun n h₀ _ H' => Q n h₀ H', rt := fun n h₀ v H' => v = .non ∧ Q n h₀ H' } n h' (start N vs) h') ∧
    (∀ m x h₀ H σ, J (m + 1) σ h₀ → out m x h₀ H → 0 < m ∧ ∀ H1, Same H H1 → gT x σ H1 fun σ2 H2 => tb { D with nx := fun σ' H' => J m σ' H' ∧ sl H1 H', ct := fun σ' H' => J m σ' H' ∧ sl H1 H', bk := D.nx } σ2 H2) ∧
    ∀ m h₀ H σ, J (m + 1) σ h₀ → Q (m + 1) h₀ H → D.nx σ H
/-- the generator's body keeps its promise in every family -/
def GBody (P : Program) (w : World) (K : PySem.W.Frag) (mg : Str → Option Value) (base : Heap) (k : Nat) (N : List Str) (qual : Str) (st : Stmt) (f : Addr) (t : FOut → (Hp → Hp → Prop) → TF) : Prop :=
  ∀ (cd : Value) (A : Around) (outer : List Env) (n0 : Nat) (E : XK) (pn pf : List (Addr × Obj)) (adm : Nat → Shared → Hp → Prop) (out : FOut) (sl : Hp → Hp → Prop), Room (k + 1) A →
    FSs (gfam P w K mg base N qual (defScope st) f cd A outer n0 E pn pf adm) out sl (defBody st) (t out sl)
def tForL (X : Cx) (N : List Str) (gT : TG) (tb : TS) (t : FOut → (Hp → Hp → Prop) → TF) (tg : TGL) : TS := fun D σ H => tg σ H fun vs H2 => GRead X N gT tb t D σ vs H2
theorem ps_forL {tgt iter : Expr} {body : List Stmt} {gT : TG} {tb : TS} {pos : Pos} {tg : TGL} {t : FOut → (Hp → Hp → Prop) → TF} (hp : PassesOwn (model X.prog X.w) X.A X.env X.xe) (hi : PGL X N qual st f iter tg) (hgb : GBody X.prog X.w X.K X.mg X.base k N qual st f t) (hr : Room (k + 2) X.A) (hg : PG X tgt gT) (hb : PSs X body tb) (hx : ∀ e s' G, X.xe e s' → X.xe e { s' with gens := G })
    (hpn : X.pn = []) (hst : X.stack = X.env :: X.outer ∧ X.env.frame = some X.env.locals) (hcalm : X.calm = true) (hs : ∀ x, foldedSetIterable iter X.env x = pure x := by intro _; rfl) :
    PS X (.For tgt iter body [] pos) (tForL X N gT tb t tg) := by
  refine ⟨fun pins s σ H D I h => ?_⟩
  have efr : frs X.stack = X.env.locals :: X.fs := by
    rw [hst.1]
    show List.filterMap _ (_ :: _) = _
    rw [List.filterMap_cons, hst.2]
    rfl
  refine ps_for_gen (σ := σ) (H := H) (gT := gT) (tb := tb) hp hg hb hx hpn hst (I.ok.hd hcalm) hr.depth (wpAny_mono (hi.run pins s σ H _ I h) (fun u sL hL => ?_) fun _ _ x => x) hs
  obtain ⟨cd, s2, H2, vs, a, rfl, I2, L, q⟩ := hL
  have ltH : ∀ b o, H2 b = some o → b < s2.heap.objs.size := fun b o e => (I2.hok b o e).lt
  have ce : ∀ b, IsCl qual (defScope st) s2.heap.objs.size f cd b → s2.heap.objs.size ≤ b := fun b ⟨x, hx⟩ => (L.inv fun _ _ _ => False).ok.cab x b rfl hx
  obtain ⟨J, out, sl, Q, n, q1, q2, q3, q4, q5, q6, q7, q8⟩ := q s2.heap.objs.size ltH _ ce
  refine ⟨N, qual, defScope st, f, cd, defBody st, X.A, X.stack, s2, H2, vs, a, J, out, sl, Q, t out sl, n, σ, rfl, L, I2.lt, fun x c e => ?_, fun b hb => ?_, I2.sz, fun b z => ⟨ce b z, fun o u e => ?_⟩, q1, q2, ?_, fun p hp => ?_, q3, q4, q5, fun go => ?_, q6, q7, q8⟩
  · obtain ⟨v, o, ho, _⟩ := I2.cell x c e
    exact Heap.lt_size ho
  · rcases Nat.lt_or_ge b s2.heap.objs.size with z | z
    · exact z
    · rw [efr] at hb
      rcases List.mem_cons.mp hb with y | y
      · rw [y]; exact I2.lt
      · exact (I2.nofs z y).elim
  · have := ltH b _ (I2.base.frzs b o u e)
    exact Nat.lt_irrefl _ (Nat.lt_of_lt_of_le this (ce b z))
  · refine I2.call' (ch := []) L.os (Un.kept L.keep) (I2.hok.kept L.keep) ?_ fun b z => (nomatch z)
    rw [L.st]
    exact AllBare.push I2.bare rfl
  · exact Nat.ne_of_lt (Heap.lt_size (I2.pin p (List.mem_append_right _ hp)).1)
  · exact hgb cd X.A.in1 X.stack s2.heap.objs.size (fun _ _ _ => False) [] (pins ++ [(a, go)]) (cadm X pins J) out sl hr.in1
end
end TK

/-! rules with K by name, for the contexts of a family -/
namespace TK
open PySem PySem.Spec PyProof.Rows L2
section
variable {X : Cx} {K : PySem.W.Frag} {o e : Expr} {es : List Expr} {apos cpos p pos : Pos} {to : TE} {t : TA} {name : Str} {T id : String} {r : V → List V → Hp → VK → Prop}
theorem pe_bm0G (h : X.K = K) (pa : PlainAttrs T) (slot : Slot T name id) (hty : typeOf (.builtin id) = pure (.type "method_descriptor")) (hm : MtR X id r) (ho : PE X o to)
    (hbase : attributeBase o name X.env (eval o X.env) = eval o X.env := by rfl) (hline : (apos.endLine == cpos.line) = true := by rfl) : PE X (.Call (.Attribute o name apos) [] [] cpos) (tBM0 K T r to) := h ▸ pe_bm0 pa slot hty hm ho hbase hline
theorem pe_bmG (h : X.K = K) (pa : PlainAttrs T) (slot : Slot T name id) (hty : typeOf (.builtin id) = pure (.type "method_descriptor")) (hm : MtR X id r) (ho : PE X o to) (ha : PA X (e :: es) t)
    (hbase : attributeBase o name X.env (eval o X.env) = eval o X.env := by rfl)
    (hfew : ((backTo cpos (starEach (e :: es) X.env)).all (fun x => !x.1) && (backToKw cpos (keywordEach [] X.env)).all (fun x => x.1.isSome)
      && decide ((e :: es).length + ([] : List Keyword).length + (if ([] : List Keyword).isEmpty then 0 else 1) < 30)) = true := by rfl)
    (hline : (apos.endLine == cpos.line) = true := by rfl) (hs : starEach (e :: es) X.env = (false, eval e X.env) :: starEach es X.env := by rfl) (hplain : (backTo cpos (starEach es X.env)).any (·.1) = false := by rfl) :
    PE X (.Call (.Attribute o name apos) (e :: es) [] cpos) (tBM K T r to t) := h ▸ pe_bm pa slot hty hm ho ha hbase hfew hline hs hplain
def tTruthK (K : PySem.W.Frag) (ta : TE) : TT := fun σ H Q => ta σ H fun x H' => ∃ k, TruV K x H' k ∧ Q k H'
theorem pt_truthG {a : Expr} {ta : TE} (h : X.K = K) (ha : PE X a ta) (he : ∀ whole, isTrue a X.env whole = (do let v ← whole; standAt a.pos; holding [v] (truthy v))) : PT X a (tTruthK K ta) := h ▸ pt_truth ha he
theorem pi_reversedG {tg e : Expr} {ta : TA} (h : X.K = K) (hg : Gl X "reversed") (hm : X.mg "reversed" = none) (ha : PA X [e] ta) (hs : starEach [e] X.env = [(false, eval e X.env)] := by rfl) : PI X tg (.Call (.Name "reversed" p) [e] [] pos) (iRev K ta) := h ▸ pi_reversed hg hm ha hs
theorem call_list_ofG (h : X.K = K) : CallR X (.type "list") (fun xs H Q => ∃ p ys, xs = [.ref p] ∧ (SqL K H p ys ∨ SqT K H p ys) ∧ ∀ l, H l = none → Q (.ref l) (upd H l (.lst ys))) := h ▸ call_list_of
end
end TK

/-! a method with keywords alone that may raise, amid a try -/
namespace TK
open PySem PySem.Spec PyProof.Rows L2 NdefX
section
variable {X : Cx} {CX : CXT} {k : Nat} {f C : Addr} {fd : FuncData} {ps ks : List Str} {sp : Sp} {E : L2.St → XK} {m : Str} {pos apos : Pos} {o : Expr} {kws : List Keyword} {ta : TE} {tk : TA} {g : List Value → List Value → List Value} {gV : List V → List V → List V}
theorem run_kbSG {pins : List (Addr × Obj)} {σ σ' : L2.St} {H : Hp} {s : Shared} {Q : VK} {n : Nat} {us ws : List Value} {vs zs : List V} {E : XK} (F : FnOk X.prog X.w X.K X.mg X.base CX k f fd ps sp) (hr : Room k X.A) (hb : KBn X.K fd ps n ks g gV) (hx : PassesAt CX X σ E)
    (I : Inv X pins σ H s) (r : Vals vs us) (rz : Vals zs ws) (l1 : us.length = n) (l2 : ws.length = ks.length) (h : sp (gV vs zs) H Q E) : wpAny (model X.prog X.w) X.A (call (.ref f) us (ks.zip ws)) (EP X pins σ Q) X.xe s := by
  refine wpAny_call (codeAny_mono (F.run X.A X.stack s H ⟨us, ks.zip ws⟩ (g us ws) (gV vs zs) Q E hr I.env0 (hb.to s us ws I.kIn l1 l2) (hb.rel r rz) h) fun r s' hq => ?_)
  cases r with
  | error e => exact hx pins H s e s' I hq
  | ok fl =>
    cases fl with
    | ret u => exact I.after hq
    | next => exact False.elim hq
    | brk => exact False.elim hq
    | cont => exact False.elim hq
def tMethKAtG (C : Addr) (m : Str) (n : Nat) (sp : Sp) (gV : List V → List V → List V) (E : L2.St → XK) (ta : TE) (tk : TA) : TE := fun σ H Q => ta σ H fun x H1 => ∃ a dx fs, x = .ref a ∧ H1 a = some (.ins C dx fs) ∧ fs.lookup m = none ∧
  tk σ H1 fun zs H2 => zs.length = n ∧ sp (gV [x] zs) H2 Q (E σ)
theorem pe_methKAtG {pl : Sem Bool} (he : PE X o ta) (c : Cls X.K C) (hm : Meth X.K C m f) (F : FnOk X.prog X.w X.K X.mg X.base CX k f fd ps sp) (hr : Room k X.A) (hb : KBn X.K fd ps 1 ks g gV) (hx : ∀ σ, PassesAt CX X σ (E σ)) (hkw : PK X kws tk)
    (hall : (backToKw pos (keywordEach kws X.env)).all (·.1.isSome) = true := by rfl) (hks : (backToKw pos (keywordEach kws X.env)).filterMap (·.1) = ks := by rfl)
    (hpl : ((backTo pos (starEach [] X.env)).any (·.1) || (backToKw pos (keywordEach kws X.env)).any (·.1.isNone)) = false := by rfl)
    (ht : eval (.Call (.Attribute o m apos) [] kws pos) X.env = (do
      let ov ← eval o X.env
      standAt apos.atName
      let (f, first) ← holding [ov] (getMethod ov m pl)
      callWith pos f first (backTo pos (starEach [] X.env)) (backToKw pos (keywordEach kws X.env))) := by rfl) :
    PE X (.Call (.Attribute o m apos) [] kws pos) (tMethKAtG C m ks.length sp gV E ta tk) := by
  refine ⟨fun pins s σ H Q I h => ?_⟩
  refine PySem.W.methodCall_KW (pl := pl) (thn (he.run pins s σ H _ I h) fun u s1 ⟨x, H1, I1, rx, a, dx, fs, ex, ea, l, q⟩ => ?_) ht
  subst ex
  obtain rfl : u = Value.ref a := rx
  refine getmeth_ok I1 ea c hm l ?_
  refine PySem.W.callWith_KW0 (first := [.ref a]) (h₀ := X.base) I.ok.mod.kin hm.kp hall ?_ hpl
  refine thn (hkw.run pos pins s1 σ H1 _ I1 q) fun ws s2 ⟨zs, H2, I2, rz, l1, q2⟩ => ⟨I2.kIn, ?_⟩
  rw [hks]
  exact run_kbSG (σ' := σ) (us := [.ref a]) (vs := [.ref a]) F hr hb (hx σ) I2 (.cons rfl .nil) rz rfl (rz.length.symm.trans l1) q2
end
end TK

namespace TK
open PySem PySem.Spec PyProof.Rows L2
def topS (i : Nat) : Stmt := PySem.Challenge.pw_turnsandkeys_k39_walks_counted.main.body.getD i (.Pass ⟨0, 0, 0, 0⟩)
abbrev s_wall : Stmt := topS 0
theorem sc_wall : FnScope ["k"] ["k"] (defScope s_wall) := ⟨rfl, rfl, rfl, by decide +kernel, rfl, by decide +kernel, by decide +kernel⟩
abbrev s_is_name : Stmt := topS 11
theorem sc_is_name : FnScope ["word", "sign"] ["word"] (defScope s_is_name) := ⟨rfl, rfl, rfl, by decide +kernel, rfl, by decide +kernel, by decide +kernel⟩
abbrev s_check_size : Stmt := topS 12
theorem sc_check_size : FnScope ["size", "low", "high"] ["size", "low", "high"] (defScope s_check_size) := ⟨rfl, rfl, rfl, by decide +kernel, rfl, by decide +kernel, by decide +kernel⟩
abbrev s_check_range : Stmt := topS 13
theorem sc_check_range : FnScope ["number", "low", "high"] ["number", "low", "high"] (defScope s_check_range) := ⟨rfl, rfl, rfl, by decide +kernel, rfl, by decide +kernel, by decide +kernel⟩
abbrev s_check_names : Stmt := topS 14
theorem sc_check_names : FnScope ["names", "most", "hook", "at", "name"] ["names", "most", "hook"] (defScope s_check_names) := ⟨rfl, rfl, rfl, by decide +kernel, rfl, by decide +kernel, by decide +kernel⟩
abbrev s_are_picks : Stmt := topS 16
theorem sc_are_picks : FnScope ["picks", "known", "pick"] ["picks", "known"] (defScope s_are_picks) := ⟨rfl, rfl, rfl, by decide +kernel, rfl, by decide +kernel, by decide +kernel⟩
abbrev s_are_bids : Stmt := topS 17
theorem sc_are_bids : FnScope ["bids", "members", "member", "_", "bid"] ["bids", "members"] (defScope s_are_bids) := ⟨rfl, rfl, rfl, by decide +kernel, rfl, by decide +kernel, by decide +kernel⟩
abbrev s_check_pages : Stmt := topS 18
theorem sc_check_pages : FnScope ["members", "pages", "names", "at", "name", "bids", "_", "followers", "page"] ["members", "pages"] (defScope s_check_pages) := ⟨rfl, rfl, rfl, by decide +kernel, rfl, by decide +kernel, by decide +kernel⟩
abbrev s_check_ends : Stmt := topS 19
theorem sc_check_ends : FnScope ["names", "starts", "home"] ["names", "starts", "home"] (defScope s_check_ends) := ⟨rfl, rfl, rfl, by decide +kernel, rfl, by decide +kernel, by decide +kernel⟩
abbrev s_sorted_bids : Stmt := topS 22
theorem sc_sorted_bids : FnScope ["members", "bids", "member", "bidder", "bid"] ["members", "bids"] (defScope s_sorted_bids) := ⟨rfl, rfl, rfl, by decide +kernel, rfl, by decide +kernel, by decide +kernel⟩
abbrev s_L_cell : Stmt := topS 24
theorem sc_L_cell : FnScope ["_law_script", "_law_k", "_law_far", "_law_j"] ["_law_script", "_law_k"] (defScope s_L_cell) := ⟨rfl, rfl, rfl, by decide +kernel, rfl, by decide +kernel, by decide +kernel⟩
abbrev s_L_mixed : Stmt := topS 25
theorem sc_L_mixed : FnScope ["_law_cell_here", "_law_k", "_law_x"] ["_law_cell_here", "_law_k"] (defScope s_L_mixed) := ⟨rfl, rfl, rfl, by decide +kernel, rfl, by decide +kernel, by decide +kernel⟩
abbrev s_L_pool : Stmt := topS 26
theorem sc_L_pool : FnScope ["_law_cell_here", "_law_number", "_law_rest", "_law_deep", "_law_pool_here", "_law_k"] ["_law_cell_here", "_law_number"] (defScope s_L_pool) := ⟨rfl, rfl, rfl, by decide +kernel, rfl, by decide +kernel, by decide +kernel⟩
abbrev s_L_part : Stmt := topS 27
theorem sc_L_part : FnScope ["_law_pool_here", "_law_spot", "_law_under", "_law_size"] ["_law_pool_here", "_law_spot", "_law_under", "_law_size"] (defScope s_L_part) := ⟨rfl, rfl, rfl, by decide +kernel, rfl, by decide +kernel, by decide +kernel⟩
abbrev s_L_names : Stmt := topS 28
theorem sc_L_names : FnScope ["_law_pool_here", "_law_spot", "_law_number", "_law_letters", "_law_stem", "_law_k", "_law_turn", "_law_cut", "_law_first", "_law_short", "_law_tail", "_law_names_here", "_law_mark"] ["_law_pool_here", "_law_spot", "_law_number"] (defScope s_L_names) := ⟨rfl, rfl, rfl, by decide +kernel, rfl, by decide +kernel, by decide +kernel⟩
abbrev s_L_big : Stmt := topS 29
theorem sc_L_big : FnScope ["_law_pool_here", "_law_spot", "_law_least", "_law_crest", "_law_far"] ["_law_pool_here", "_law_spot", "_law_least", "_law_crest"] (defScope s_L_big) := ⟨rfl, rfl, rfl, by decide +kernel, rfl, by decide +kernel, by decide +kernel⟩
abbrev s_L_some : Stmt := topS 30
theorem sc_L_some : FnScope ["_law_pool_here", "_law_spot", "_law_names_here", "_law_some_here", "_law_k"] ["_law_pool_here", "_law_spot", "_law_names_here"] (defScope s_L_some) := ⟨rfl, rfl, rfl, by decide +kernel, rfl, by decide +kernel, by decide +kernel⟩
abbrev s_L_pages : Stmt := topS 31
theorem sc_L_pages : FnScope ["_law_pool_here", "_law_spot", "_law_members", "_law_names_here", "_law_pages_here", "_law_j", "_law_wishers", "_law_bids", "_law_k", "_law_followers"] ["_law_pool_here", "_law_spot", "_law_members", "_law_names_here"] (defScope s_L_pages) := ⟨rfl, rfl, rfl, by decide +kernel, rfl, by decide +kernel, by decide +kernel⟩
abbrev s_L_integer : Stmt := topS 32
theorem sc_L_integer : FnScope ["_law_got"] ["_law_got"] (defScope s_L_integer) := ⟨rfl, rfl, rfl, by decide +kernel, rfl, by decide +kernel, by decide +kernel⟩
abbrev s_L_same : Stmt := topS 33
theorem sc_L_same : FnScope ["_law_got", "_law_wanted", "_law_k"] ["_law_got", "_law_wanted"] (defScope s_L_same) := ⟨rfl, rfl, rfl, by decide +kernel, rfl, by decide +kernel, by decide +kernel⟩
abbrev s_L_shuffled : Stmt := topS 34
theorem sc_L_shuffled : FnScope ["_law_pool_here", "_law_spot", "_law_row", "_law_left", "_law_taken", "_law_k"] ["_law_pool_here", "_law_spot", "_law_row"] (defScope s_L_shuffled) := ⟨rfl, rfl, rfl, by decide +kernel, rfl, by decide +kernel, by decide +kernel⟩
abbrev s_L_good : Stmt := topS 35
theorem sc_L_good : FnScope ["_law_head", "_law_members", "_law_titles", "_law_rows", "_law_title", "_law_bids", "_law_followers", "_law_after", "_law_firsts"] ["_law_head"] (defScope s_L_good) := ⟨rfl, rfl, rfl, by decide +kernel, rfl, by decide +kernel, by decide +kernel⟩
abbrev s_L_made : Stmt := topS 36
theorem sc_L_made : FnScope ["_law_parts", "_law_title", "_law_bids", "_law_after"] ["_law_parts"] (defScope s_L_made) := ⟨rfl, rfl, rfl, by decide +kernel, rfl, by decide +kernel, by decide +kernel⟩
abbrev s_L_counts : Stmt := topS 37
theorem sc_L_counts : FnScope ["_law_rows", "_law_firsts", "_law_turns", "_law_titles", "_law_ends", "_law_counts_here", "_law_k", "_law_later", "_law_spot", "_law_name", "_law_row", "_law_title"] ["_law_rows", "_law_firsts", "_law_turns"] (defScope s_L_counts) := ⟨rfl, rfl, rfl, by decide +kernel, rfl, by decide +kernel, by decide +kernel⟩
abbrev s_L_listed : Stmt := topS 38
theorem sc_L_listed : FnScope ["_law_book", "_law_turns", "_law_crest", "_law_spot", "_law_walk"] ["_law_book", "_law_turns", "_law_crest"] (defScope s_L_listed) := ⟨rfl, rfl, rfl, by decide +kernel, rfl, by decide +kernel, by decide +kernel⟩
abbrev s_L_told : Stmt := topS 39
theorem sc_L_told : FnScope ["_law_book", "_law_number", "_law_told_here", "e"] ["_law_book", "_law_number"] (defScope s_L_told) := ⟨rfl, rfl, rfl, by decide +kernel, rfl, by decide +kernel, by decide +kernel⟩
abbrev s_law : Stmt := topS 40
theorem sc_law : FnScope ["_law_script", "_law_pool_here", "_law_parts", "_law_books", "_law_counts_here", "_law_turns", "_law_few", "_law_far", "_law_number", "_law_k"] ["_law_script"] (defScope s_law) := ⟨rfl, rfl, rfl, by decide +kernel, rfl, by decide +kernel, by decide +kernel⟩
end TK

namespace TK
open PySem PySem.Spec PyProof.Rows L2
section
variable {P : Program} {w : World} {K : PySem.W.Frag} {mg : Str → Option Value} {base : Heap}
/-! check_size, check_range -/
theorem pz {n : Nat} : (0 : Int) < ((n + 1 : Nat) : Int) := by omega
theorem mb {a : Int} {n : Nat} (h : n + 1 ≤ 2 ^ 63) : -(2 ^ 64) < a % ((n + 1 : Nat) : Int) ∧ a % ((n + 1 : Nat) : Int) < 2 ^ 64 := by
  have h1 := Int.emod_nonneg a (b := ((n + 1 : Nat) : Int)) (by omega)
  have h2 := Int.emod_lt_of_pos a (b := ((n + 1 : Nat) : Int)) (by omega)
  omega
/-! _law_part -/
def partOf (ns : List Int) (s u z : Int) : Int := ns.getD s.toNat 0 / u % z
def spPart (K : PySem.W.Frag) : Sp := fun vs H Q _ => ∃ (a : Addr) (ns : List Int) (s u z : Int), vs = [.ref a, .int s, .int u, .int z] ∧ SqL K H a (ns.map V.int) ∧ 0 ≤ s ∧ s < ns.length ∧ 0 < u ∧ u < 1000000 ∧ 0 < z ∧ Q (.int (partOf ns s u z)) H
theorem get_int {ns : List Int} {s : Int} (h0 : 0 ≤ s) (h : s < ns.length) : atI (ns.map V.int) s = some (.int (ns.getD s.toNat 0)) := by
  have h1 : s.toNat < ns.length := by omega
  refine atI_in h0 ?_
  rw [List.getElem?_map, List.getElem?_eq_getElem h1, List.getD_eq_getElem?_getD, List.getElem?_eq_getElem h1]
  rfl
theorem ok_L_part {f : Addr} {fd : FuncData} (F : Fun K "_law_part" "_law_part" s_L_part f fd) (m_int : mg "int" = none) : FnOk P w K mg base CX0 1 f fd ["_law_pool_here", "_law_spot", "_law_under", "_law_size"] (spPart K) := by
  refine F.ok sc_L_part (fun vs H Q E h => ?_) (fun cdv A outer s H vs Q E hr h => ?_)
  · obtain ⟨a, ns, s, u, z, rfl, _⟩ := h
    rfl
  · obtain ⟨a, ns, s, u, z, rfl, hS, h0, h1, h2, h3, h4, q⟩ := h
    refine ⟨_, (pss_one (ps_ret (pe_op op_mod (pe_op op_fdiv (pe_callTy call_int1 (by rfl) m_int (by decide +kernel) (pa_cons (pe_ix ix_list (pv 0) (pv 1) (fun _ _ => rfl)) pa_nil)) (pv 2)) (pv 3)))), ?_⟩
    refine ⟨_, rfl, _, rfl, _, _, _, _, rfl, rfl, hS, get_int h0 h1, .inl ⟨_, rfl, _, rfl, _, _, rfl, rfl, ⟨h2, by omega⟩, _, rfl, _, _, rfl, rfl, h4, ?_⟩⟩
    exact q
theorem part_lo {ns : List Int} {s u z : Int} (h : 0 < z) : 0 ≤ partOf ns s u z := Int.emod_nonneg _ (by omega)
theorem part_hi {ns : List Int} {s u z : Int} (h : 0 < z) : partOf ns s u z < z := Int.emod_lt_of_pos _ h
/-! _law_mixed -/
def spMixed : Sp := fun vs H Q _ => ∃ c k : Int, vs = [.int c, .int k] ∧ 0 ≤ k ∧ k < 1000000 ∧ ∀ r : Int, 0 ≤ r → Q (.int r) H
theorem ok_L_mixed {f : Addr} {fd : FuncData} (F : Fun K "_law_mixed" "_law_mixed" s_L_mixed f fd) (m_abs : mg "abs" = none) : FnOk P w K mg base CX0 1 f fd ["_law_cell_here", "_law_k"] spMixed := by
  refine F.ok sc_L_mixed (fun vs H Q E h => ?_) (fun cdv A outer s H vs Q E hr h => ?_)
  · obtain ⟨c, k, rfl, _⟩ := h
    rfl
  · obtain ⟨c, k, rfl, h0, h1, q⟩ := h
    refine ⟨_, (pss_cons (ps_set (i := 2) sc_L_mixed.nd rfl (.inl rfl) (pe_op op_mod (pe_op op_add (pe_op op_mul (pe_op op_mod (pe_callB call_abs (by rfl) m_abs (by decide +kernel) (pa_cons (pv 0) pa_nil)) pe_int) pe_int) (pe_op op_mul (pe_op op_add (pv 1) pe_int) pe_int)) pe_int))
  (pss_cons (ps_set (i := 2) sc_L_mixed.nd rfl (.inl rfl) (pe_op op_mod (pe_op op_add (pe_op op_mul (pv 2) (pe_op op_add (pe_op op_mod (pv 2) pe_int) pe_int)) (pe_op op_mul (pe_op op_add (pv 1) pe_int) pe_int)) pe_int))
  (pss_cons (ps_set (i := 2) sc_L_mixed.nd rfl (.inl rfl) (pe_op op_mod (pe_op op_mul (pv 2) (pe_op op_add (pe_op op_mod (pv 2) pe_int) pe_int)) pe_int))
  (pss_one (ps_ret (pe_op op_fdiv (pv 2) pe_int)))))), ?_⟩
    refine ⟨_, rfl, _, rfl, _, _, rfl, rfl, pz, _, _, rfl, rfl, .inr (by decide), _, rfl, _, _, rfl, rfl, _, _, rfl, rfl, .inr (by decide), _, _, rfl, rfl, _, _, rfl, rfl, pz, ?_⟩
    refine ⟨_, rfl, _, rfl, _, _, rfl, rfl, pz, _, _, rfl, rfl, _, _, rfl, rfl, .inl (mb (by decide)), _, rfl, _, _, rfl, rfl, _, _, rfl, rfl, .inr (by decide), _, _, rfl, rfl, _, _, rfl, rfl, pz, ?_⟩
    refine ⟨_, rfl, _, rfl, _, _, rfl, rfl, pz, _, _, rfl, rfl, _, _, rfl, rfl, .inl (mb (by decide)), _, _, rfl, rfl, pz, _, rfl, _, _, rfl, rfl, ⟨by decide, by decide⟩, ?_⟩
    exact q _ (Int.ediv_nonneg (Int.emod_nonneg _ (by decide)) (by decide))
/-! _law_cell -/
def spCellA (K : PySem.W.Frag) : Sp := fun vs H Q _ => ∃ (a : Addr) (ns : List Int) (k : Int), vs = [.ref a, .int k] ∧ SqL K H a (ns.map V.int) ∧ 0 ≤ k ∧ k < 1000 ∧ ns.length ≤ 1000 ∧ ∀ r : Int, Q (.int r) H
theorem ok_L_cell {f : Addr} {fd : FuncData} (F : Fun K "_law_cell" "_law_cell" s_L_cell f fd) (m_len : mg "len" = none) (m_range : mg "range" = none) (m_abs : mg "abs" = none) : FnOk P w K mg base CX0 1 f fd ["_law_script", "_law_k"] (spCellA K) := by
  refine F.ok sc_L_cell (fun vs H Q E h => ?_) (fun cdv A outer s H vs Q E hr h => ?_)
  · obtain ⟨a, ns, k, rfl, _⟩ := h
    rfl
  · obtain ⟨a, ns, k, rfl, hS, h0, h1, h2, q⟩ := h
    refine ⟨_, (pss_cons (ps_if (pt_cmpR op_lt (pv 1) (pe_callB call_len_seq (by rfl) m_len (by decide +kernel) (pa_cons (pv 0) pa_nil)) (nomark _)) (pss_one (ps_ret (pe_ix ix_list (pv 0) (pv 1) (fun _ _ => rfl)))) pss_nil)
  (pss_cons (ps_set (i := 2) sc_L_cell.nd rfl (.inl rfl) (pe_op op_mul pe_int (pe_op op_add (pv 1) pe_int)))
  (pss_cons (ps_for PassesOwn.never rfl (pi_range1 (by rfl) m_range (pa_cons (pe_callB call_len_seq (by rfl) m_len (by decide +kernel) (pa_cons (pv 0) pa_nil)) pa_nil)) (pg_name (i := 3) sc_L_cell.nd rfl (.inl rfl))
    (pss_one (ps_set (i := 2) sc_L_cell.nd rfl (.inl rfl) (pe_op op_mod (pe_op op_add (pv 2) (pe_op op_mul (pe_op op_mul (pe_op op_add (pv 3) pe_int) (pe_op op_mod (pe_callB call_abs (by rfl) m_abs (by decide +kernel) (pa_cons (pe_ix ix_list (pv 0) (pv 3) (fun _ _ => rfl)) pa_nil)) pe_int)) pe_int)) pe_int))))
  (pss_one (ps_ret (pv 2)))))), ?_⟩
    refine ⟨_, rfl, _, rfl, _, _, rfl, .inl hS, _, _, rfl, rfl, _, rfl, ite2 (fun e => ?_) (fun e => ?_)⟩
    · have e1 : k < ((ns.map V.int).length : Nat) := of_decide_eq_true e
      rw [List.length_map] at e1
      exact ⟨_, rfl, _, rfl, _, _, _, _, rfl, rfl, hS, get_int h0 e1, q _⟩
    · refine ⟨_, rfl, _, _, rfl, rfl, _, _, rfl, rfl, .inl (by decide), ?_⟩
      refine ⟨_, rfl, _, _, rfl, .inl hS, _, rfl, by omega, by rw [List.length_map]; omega, for_range (fun i σ H' => H' = H ∧ ∃ (r : Int) (y : Option V), σ = [some (.ref a), some (.int k), some (.int r), y]) ⟨rfl, _, _, rfl⟩ ?_ ?_⟩
      · rintro i σ H' hi ⟨rfl, r, y, rfl⟩
        rw [List.length_map] at hi
        have hi' : i < ns.length := by omega
        refine ⟨_, rfl, _, rfl, _, _, rfl, rfl, _, rfl, _, rfl, _, _, _, _, rfl, rfl, hS, get_int (by omega) (by omega), _, rfl, _, _, rfl, rfl, pz, _, _, rfl, rfl, .inr (mb (by decide)), _, _, rfl, rfl, .inr (by decide), _, _, rfl, rfl, _, _, rfl, rfl, pz, rfl, _, _, rfl⟩
      · rintro σ H' ⟨rfl, r, y, rfl⟩
        exact ⟨_, rfl, q _⟩
end
end TK

namespace TK
open PySem PySem.Spec PyProof.Rows L2
theorem upd_twice {H : Hp} {p : Addr} {a b : HO} : upd (upd H p a) p b = upd H p b := by
  funext x
  unfold upd
  by_cases e : x = p
  · rw [if_pos e, if_pos e]
  · rw [if_neg e, if_neg e, if_neg e]
section
variable {P : Program} {w : World} {K : PySem.W.Frag} {mg : Str → Option Value} {base : Heap}
/-! _law_pool -/
def spPool : Sp := fun vs H Q _ => ∃ (c n : Int), vs = [.int c, .int n] ∧ 0 ≤ n ∧ n ≤ 1000 ∧ ∀ (p : Addr) (ns : List Int), H p = none → (ns.length : Int) = n → (∀ x ∈ ns, 0 ≤ x) → Q (.ref p) (upd H p (.lst (ns.map V.int)))
theorem ok_L_pool {f : Addr} {fd : FuncData} (F : Fun K "_law_pool" "_law_pool" s_L_pool f fd) (m_range : mg "range" = none) (m_abs : mg "abs" = none) (d_L_mixed : Def P w K mg base "_law_mixed" 1 ["_law_cell_here", "_law_k"] spMixed) : FnOk P w K mg base CX0 2 f fd ["_law_cell_here", "_law_number"] spPool := by
  refine F.ok sc_L_pool (fun vs H Q E h => ?_) (fun cdv A outer s H vs Q E hr h => ?_)
  · obtain ⟨c, n, rfl, _⟩ := h
    rfl
  · obtain ⟨c, n, rfl, h0, h1, q⟩ := h
    refine ⟨_, (pss_cons (ps_set (i := 2) sc_L_pool.nd rfl (.inl rfl) (pe_callB call_abs (by rfl) m_abs (by decide +kernel) (pa_cons (pv 0) pa_nil)))
  (pss_cons (ps_set (i := 3) sc_L_pool.nd rfl (.inl rfl) (pe_cmpR op_ge (pv 2) (pe_op op_pow pe_int pe_int) (nomark _)))
  (pss_cons (ps_set (i := 4) sc_L_pool.nd rfl (.inl rfl) (pe_lst pa_nil))
  (pss_cons (ps_for PassesOwn.never rfl (pi_range1 (by rfl) m_range (pa_cons (pv 1) pa_nil)) (pg_name (i := 5) sc_L_pool.nd rfl (.inl rfl))
    (pss_one (ps_if (PW.pt (pw_and (pt_val (pv 3)) (pw_and1 (pt_cmpR op_gt (pv 2) pe_int (nomark _))))) (pss_cons (ps_expr (pe_bm PySem.F.plainAttrs_list PySem.F.slot_list_append PySem.F.type_list_append mt_append (pv 4) (pa_cons (pe_op op_mod (pv 2) pe_int) pa_nil)))
  (pss_one (ps_set (i := 2) sc_L_pool.nd rfl (.inl rfl) (pe_op op_fdiv (pv 2) pe_int)))) (pss_one (ps_expr (pe_bm PySem.F.plainAttrs_list PySem.F.slot_list_append PySem.F.type_list_append mt_append (pv 4) (pa_cons (pe_callD d_L_mixed (hr.mono (by decide)) (by rfl) (pa_cons (pv 0) (pa_cons (pv 5) pa_nil))) pa_nil)))))))
  (pss_one (ps_ret (pv 4))))))), ?_⟩
    have ha : 0 ≤ (if c < 0 then -c else c) := by split <;> omega
    refine ⟨_, rfl, _, rfl, _, rfl, _, _, rfl, rfl, ⟨by decide, by decide, by decide⟩, _, _, rfl, rfl, ?_⟩
    refine ⟨Nat.zero_le _, fun p np => ?_⟩
    refine ⟨_, rfl, _, rfl, by omega, by omega, for_range (fun i σ H' => ∃ (r : Int) (b : Bool) (ns : List Int) (y : Option V), σ = [some (.int c), some (.int n), some (.int r), some (.bl b), some (.ref p), y] ∧ 0 ≤ r ∧ ns.length = i ∧ (∀ x ∈ ns, 0 ≤ x) ∧ H' = upd H p (.lst (ns.map V.int))) ⟨_, _, [], _, rfl, ha, rfl, (fun x hx => nomatch hx), rfl⟩ ?_ ?_⟩
    · rintro i σ H' hi ⟨r, b, ns, y, rfl, r0, hl, hx, rfl⟩
      have hz : (ns.map V.int).length < sizeLine := by rw [List.length_map]; exact small1000 (by omega)
      refine ⟨_, rfl, _, rfl, ite2 (fun e => ?_) (fun e => ?_)⟩
      · refine ⟨_, rfl, _, _, rfl, rfl, _, rfl, ite2 (fun e => ?_) (fun e => ?_)⟩
        · refine ⟨_, rfl, .inl ⟨rfl, _, lstAt upd_same⟩, _, rfl, _, _, rfl, rfl, pz, _, _, _, rfl, rfl, upd_same, hz, ?_⟩
          refine ⟨_, rfl, _, _, rfl, rfl, ⟨by decide, by decide⟩, ?_⟩
          refine ⟨_, b, ns ++ [r % 5040], _, rfl, Int.ediv_nonneg r0 (by decide), by rw [List.length_append, hl]; rfl, ?_, ?_⟩
          · intro x h
            rcases List.mem_append.mp h with h | h
            · exact hx x h
            · cases List.mem_singleton.mp h; exact Int.emod_nonneg _ (by decide)
          · rw [upd_twice, List.map_append]; rfl
        · refine ⟨_, rfl, .inl ⟨rfl, _, lstAt upd_same⟩, _, rfl, _, rfl, _, _, rfl, by omega, by omega, fun z z0 => ⟨_, _, _, rfl, rfl, upd_same, hz, r, b, ns ++ [z], _, rfl, r0, by rw [List.length_append, hl]; rfl, ?_, ?_⟩⟩
          · intro x h
            rcases List.mem_append.mp h with h | h
            · exact hx x h
            · cases List.mem_singleton.mp h; exact z0
          · rw [upd_twice, List.map_append]; rfl
      · refine iteF ?_
        refine ⟨_, rfl, .inl ⟨rfl, _, lstAt upd_same⟩, _, rfl, _, rfl, _, _, rfl, by omega, by omega, fun z z0 => ⟨_, _, _, rfl, rfl, upd_same, hz, r, b, ns ++ [z], _, rfl, r0, by rw [List.length_append, hl]; rfl, ?_, ?_⟩⟩
        · intro x h
          rcases List.mem_append.mp h with h | h
          · exact hx x h
          · cases List.mem_singleton.mp h; exact z0
        · rw [upd_twice, List.map_append]; rfl
    · rintro σ H' ⟨r, b, ns, y, rfl, r0, hl, hx, rfl⟩
      exact ⟨_, rfl, q p ns np (by omega) hx⟩
/-! _law_far -/
/-! _law_chosen: from 0 to the crest -/
end
end TK

namespace TK
open PySem PySem.Spec PyProof.Rows L2
/-! ### texts as lists of codes -/
def sOf (l : List Nat) : Str := ⟨l.toArray⟩
theorem sOf_codes (l : List Nat) : (sOf l).cps.toList = l := rfl
theorem sOf_len (l : List Nat) : (sOf l).length = l.length := by simp [sOf, Str.length]
theorem sOf_app (a b : List Nat) : sOf a ++ sOf b = sOf (a ++ b) := by
  show (⟨a.toArray ++ b.toArray⟩ : Str) = ⟨(a ++ b).toArray⟩
  simp
theorem sOf_inj {a b : List Nat} (h : sOf a = sOf b) : a = b := by
  have := congrArg (fun z : Str => z.cps.toList) h
  exact this
theorem sOf_one (c : Nat) : (⟨#[c]⟩ : Str) = sOf [c] := rfl
theorem cut_to (l : List Nat) {m : Int} (h : 0 ≤ m) : cutS (sOf l) none (some m) = sOf (l.take m.toNat) := by
  obtain ⟨k, rfl⟩ : ∃ k : Nat, m = (k : Int) := ⟨m.toNat, by omega⟩
  unfold cutS
  rw [HT.sIx_none, HT.sIx_nat, sOf_len, sOf_codes, List.drop_zero, Nat.sub_zero, Int.toNat_natCast]
  show sOf _ = sOf _
  congr 1
  by_cases hk : k ≤ l.length
  · rw [Nat.min_eq_left hk]
  · rw [Nat.min_eq_right (by omega), List.take_of_length_le (by omega), List.take_of_length_le (by omega)]
theorem cut_from (l : List Nat) {m : Int} (h : 0 ≤ m) : cutS (sOf l) (some m) none = sOf (l.drop m.toNat) := by
  obtain ⟨k, rfl⟩ : ∃ k : Nat, m = (k : Int) := ⟨m.toNat, by omega⟩
  unfold cutS
  rw [HT.sIx_none, HT.sIx_nat, sOf_len, sOf_codes, Int.toNat_natCast]
  show sOf _ = sOf _
  congr 1
  by_cases hk : k ≤ l.length
  · rw [Nat.min_eq_left hk, List.take_of_length_le (by rw [List.length_drop]; omega)]
  · rw [Nat.min_eq_right (by omega), List.drop_of_length_le (by omega), List.drop_of_length_le (by omega), List.take_nil]
def lettersZ : Str := Str.ofString "abcdefghijklmnopqrstuvwxyz"
theorem letters_codes : lettersZ.cps.toList = (List.range 26).map (97 + ·) := by decide +kernel
theorem letters_len : lettersZ.length = 26 := by decide +kernel
theorem letter_at {i : Int} (h0 : 0 ≤ i) (h1 : i < 26) : atI lettersZ.cps.toList i = some (97 + i.toNat) := by
  refine atI_in h0 ?_
  rw [letters_codes, List.getElem?_map, List.getElem?_range (by omega)]
  rfl
def Let (l : List Nat) : Prop := ∀ c ∈ l, 97 ≤ c ∧ c ≤ 122
theorem Let.app {a b : List Nat} (h : Let a) (k : Let b) : Let (a ++ b) := fun c hc => by
  rcases List.mem_append.mp hc with e | e
  · exact h c e
  · exact k c e
theorem Let.one {n : Nat} (h : n < 26) : Let [97 + n] := fun c hc => by
  cases List.mem_singleton.mp hc
  omega
theorem Let.take {a : List Nat} (h : Let a) (n : Nat) : Let (a.take n) := fun c hc => h c (List.mem_of_mem_take hc)
theorem Let.drop {a : List Nat} (h : Let a) (n : Nat) : Let (a.drop n) := fun c hc => h c (List.mem_of_mem_drop hc)
/-- a name: 1 to 8 letters -/
def Nm (l : List Nat) : Prop := 1 ≤ l.length ∧ l.length ≤ 8 ∧ Let l
def nameF (b : Bool) (stem short tail : List Nat) (cut first turn : Nat) (k : Nat) : List Nat :=
  if b = true then short.take cut ++ [97 + (first + 7 * ((k + turn) % 6)) % 26] ++ short.drop cut ++ tail else stem.take ((k + turn) % 6 + 1)
theorem nameF_nm {b : Bool} {stem short tail : List Nat} {cut first turn k : Nat} (hs : stem.length = 6) (hsh : short.length ≤ 6) (ht : tail.length ≤ 1) (l1 : Let stem) (l2 : Let short) (l3 : Let tail) : Nm (nameF b stem short tail cut first turn k) := by
  unfold nameF
  cases b with
  | true =>
    rw [if_pos rfl]
    have e : (short.take cut).length + (short.drop cut).length = short.length := by rw [← List.length_append, List.take_append_drop]
    refine ⟨?_, ?_, (((l2.take _).app (.one (Nat.mod_lt _ (by decide)))).app (l2.drop _)).app l3⟩
    · simp only [List.length_append, List.length_cons, List.length_nil]; omega
    · simp only [List.length_append, List.length_cons, List.length_nil]; omega
  | false =>
    rw [if_neg (by decide)]
    have := Nat.mod_lt (k + turn) (show 6 > 0 by decide)
    exact ⟨by rw [List.length_take]; omega, by rw [List.length_take]; omega, l1.take _⟩
theorem nameF_inj {b : Bool} {stem short tail : List Nat} {cut first turn k j : Nat} (hs : stem.length = 6) (hk : k < 6) (hj : j < 6) (h : nameF b stem short tail cut first turn k = nameF b stem short tail cut first turn j) : k = j := by
  unfold nameF at h
  cases b with
  | true =>
    rw [if_pos rfl, if_pos rfl] at h
    simp only [List.append_assoc, List.append_cancel_left_eq, List.cons_append, List.nil_append, List.cons.injEq] at h
    have := h.1
    omega
  | false =>
    rw [if_neg (by decide), if_neg (by decide)] at h
    have e := congrArg List.length h
    rw [List.length_take, List.length_take, hs] at e
    omega
theorem nodup_range {f : Nat → List Nat} : ∀ {n : Nat}, (∀ k j, k < n → j < n → f k = f j → k = j) → ((List.range n).map f).Nodup := by
  intro n h
  rw [List.nodup_iff_pairwise_ne, List.pairwise_map]
  refine List.Pairwise.imp_of_mem ?_ (List.nodup_iff_pairwise_ne.mp List.nodup_range)
  intro a b ha hb hne e
  exact hne (h a b (List.mem_range.mp ha) (List.mem_range.mp hb) e)
def vN (l : List Nat) : V := .str (sOf l)
section
variable {P : Program} {w : World} {K : PySem.W.Frag} {mg : Str → Option Value} {base : Heap}
/-! _law_names -/
def spNames (K : PySem.W.Frag) : Sp := fun vs H Q _ => ∃ (a : Addr) (ns : List Int) (s n : Int), vs = [.ref a, .int s, .int n] ∧ SqL K H a (ns.map V.int) ∧ 0 ≤ s ∧ s + 5 ≤ ns.length ∧ 0 ≤ n ∧ n ≤ 6 ∧
  ∀ (p : Addr) (zs : List (List Nat)), H p = none → (zs.length : Int) = n → (∀ z ∈ zs, Nm z) → zs.Nodup → Q (.ref p) (upd H p (.lst (zs.map vN)))
theorem small_len {l : List Nat} (h : l.length ≤ 1000) : (sOf l).length ≤ sizeLine := by rw [sOf_len]; exact Nat.le_of_lt (small1000 h)
theorem ok_L_names {f : Addr} {fd : FuncData} (F : Fun K "_law_names" "_law_names" s_L_names f fd) (m_range : mg "range" = none) (m_int : mg "int" = none) (d_L_part : Def P w K mg base "_law_part" 1 ["_law_pool_here", "_law_spot", "_law_under", "_law_size"] (spPart K)) : FnOk P w K mg base CX0 2 f fd ["_law_pool_here", "_law_spot", "_law_number"] (spNames K) := by
  refine F.ok sc_L_names (fun vs H Q E h => ?_) (fun cdv A outer s H vs Q E hr h => ?_)
  · obtain ⟨a, ns, s, n, rfl, _⟩ := h
    rfl
  · obtain ⟨a, ns, s, n, rfl, hS, h0, h1, h2, h3, q⟩ := h
    refine ⟨_, (pss_cons (ps_set (i := 3) sc_L_names.nd rfl (.inl rfl) pe_str)
  (pss_cons (ps_set (i := 4) sc_L_names.nd rfl (.inl rfl) pe_str)
  (pss_cons (ps_for PassesOwn.never rfl (pi_range1 (by rfl) m_range (pa_cons pe_int pa_nil)) (pg_name (i := 5) sc_L_names.nd rfl (.inl rfl))
    (pss_one (ps_set (i := 4) sc_L_names.nd rfl (.inl rfl) (pe_op op_add_str (pe_op op_add_str (pv 4) (pe_ix ix_str (pv 3) (pe_callD d_L_part (hr.mono (by decide)) (by rfl) (pa_cons (pv 0) (pa_cons (pe_op op_add (pv 1) (pv 5)) (pa_cons pe_int (pa_cons pe_int pa_nil))))) (fun _ _ => rfl))) (pe_ix ix_str (pv 3) (pe_callD d_L_part (hr.mono (by decide)) (by rfl) (pa_cons (pv 0) (pa_cons (pe_op op_add (pv 1) (pv 5)) (pa_cons pe_int (pa_cons pe_int pa_nil))))) (fun _ _ => rfl))))))
  (pss_cons (ps_set (i := 6) sc_L_names.nd rfl (.inl rfl) (pe_callD d_L_part (hr.mono (by decide)) (by rfl) (pa_cons (pv 0) (pa_cons (pe_op op_add (pv 1) pe_int) (pa_cons pe_int (pa_cons pe_int pa_nil))))))
  (pss_cons (ps_set (i := 7) sc_L_names.nd rfl (.inl rfl) (pe_callD d_L_part (hr.mono (by decide)) (by rfl) (pa_cons (pv 0) (pa_cons (pe_op op_add (pv 1) pe_int) (pa_cons pe_int (pa_cons pe_int pa_nil))))))
  (pss_cons (ps_set (i := 8) sc_L_names.nd rfl (.inl rfl) (pe_callD d_L_part (hr.mono (by decide)) (by rfl) (pa_cons (pv 0) (pa_cons (pe_op op_add (pv 1) pe_int) (pa_cons pe_int (pa_cons pe_int pa_nil))))))
  (pss_cons (ps_set (i := 9) sc_L_names.nd rfl (.inl rfl) (pe_slice sl_str (pv 4) po_none (po_some (pe_callD d_L_part (hr.mono (by decide)) (by rfl) (pa_cons (pv 0) (pa_cons (pe_op op_add (pv 1) pe_int) (pa_cons pe_int (pa_cons pe_int pa_nil))))))))
  (pss_cons (ps_set (i := 10) sc_L_names.nd rfl (.inl rfl) (pe_slice sl_str (pv 4) po_none (po_some (pe_callD d_L_part (hr.mono (by decide)) (by rfl) (pa_cons (pv 0) (pa_cons (pe_op op_add (pv 1) pe_int) (pa_cons pe_int (pa_cons pe_int pa_nil))))))))
  (pss_cons (ps_set (i := 11) sc_L_names.nd rfl (.inl rfl) (pe_lst pa_nil))
  (pss_cons (ps_for PassesOwn.never rfl (pi_range1 (by rfl) m_range (pa_cons (pv 2) pa_nil)) (pg_name (i := 5) sc_L_names.nd rfl (.inl rfl))
    (pss_cons (ps_set (i := 12) sc_L_names.nd rfl (.inl rfl) (pe_op op_mod (pe_callTy call_int1 (by rfl) m_int (by decide +kernel) (pa_cons (pe_op op_add (pv 5) (pv 6)) pa_nil)) pe_int))
  (pss_one (ps_if (pt_cmpR op_eq (pe_callD d_L_part (hr.mono (by decide)) (by rfl) (pa_cons (pv 0) (pa_cons (pe_op op_add (pv 1) pe_int) (pa_cons pe_int (pa_cons pe_int pa_nil))))) pe_int (nomark _)) (pss_one (ps_expr (pe_bm PySem.F.plainAttrs_list PySem.F.slot_list_append PySem.F.type_list_append mt_append (pv 11) (pa_cons (pe_op op_add_str (pe_op op_add_str (pe_op op_add_str (pe_slice sl_str (pv 9) po_none (po_some (pv 7))) (pe_ix ix_str (pv 3) (pe_op op_mod (pe_callTy call_int1 (by rfl) m_int (by decide +kernel) (pa_cons (pe_op op_add (pv 8) (pe_op op_mul pe_int (pv 12))) pa_nil)) pe_int) (fun _ _ => rfl))) (pe_slice sl_str (pv 9) (po_some (pv 7)) po_none)) (pv 10)) pa_nil)))) (pss_one (ps_expr (pe_bm PySem.F.plainAttrs_list PySem.F.slot_list_append PySem.F.type_list_append mt_append (pv 11) (pa_cons (pe_slice sl_str (pv 4) po_none (po_some (pe_op op_add (pv 12) pe_int))) pa_nil))))))))
  (pss_one (ps_ret (pv 11))))))))))))), ?_⟩
    refine ⟨_, rfl, by decide, by decide, for_range (fun i σ H' => H' = H ∧ ∃ (st : List Nat) (y : Option V), σ = [some (.ref a), some (.int s), some (.int n), some (.str lettersZ), some (vN st), y, none, none, none, none, none, none, none] ∧ st.length = 2 * i ∧ Let st) ⟨rfl, [], _, rfl, rfl, fun c hc => nomatch hc⟩ ?_ ?_⟩
    · rintro i σ H' hi ⟨rfl, st, y, rfl, hl, le⟩
      have hi3 : i < 3 := hi
      have b1 := part_lo (ns := ns) (s := s + (0 + (i : Int))) (u := 1) (z := 26) (by decide)
      have b2 := part_hi (ns := ns) (s := s + (0 + (i : Int))) (u := 1) (z := 26) (by decide)
      have c1 := part_lo (ns := ns) (s := s + (0 + (i : Int))) (u := 26) (z := 26) (by decide)
      have c2 := part_hi (ns := ns) (s := s + (0 + (i : Int))) (u := 26) (z := 26) (by decide)
      refine ⟨_, rfl, _, rfl, _, rfl, _, rfl, _, rfl, _, _, rfl, rfl, _, _, _, _, _, rfl, hS, by omega, by omega, by decide, by decide, by decide, ?_⟩
      refine ⟨_, _, _, rfl, rfl, by rw [letters_len]; decide, letter_at b1 b2, _, _, rfl, rfl, ?_, ?_⟩
      · rw [sOf_len, sOf_one, sOf_len]; exact Nat.le_of_lt (small1000 (by simp only [List.length_cons, List.length_nil]; omega))
      refine ⟨_, rfl, _, rfl, _, rfl, _, rfl, _, _, rfl, rfl, _, _, _, _, _, rfl, hS, by omega, by omega, by decide, by decide, by decide, ?_⟩
      refine ⟨_, _, _, rfl, rfl, by rw [letters_len]; decide, letter_at c1 c2, _, _, rfl, rfl, ?_, ?_⟩
      · rw [sOf_one, sOf_one, sOf_app, sOf_len, sOf_len]; exact Nat.le_of_lt (small1000 (by simp only [List.length_append, List.length_cons, List.length_nil]; omega))
      refine ⟨rfl, (st ++ [97 + (partOf ns (s + (0 + (i : Int))) 1 26).toNat]) ++ [97 + (partOf ns (s + (0 + (i : Int))) 26 26).toNat], some (.int (0 + (i : Int))), ?_, ?_, ?_⟩
      · rw [sOf_one, sOf_one, sOf_app, sOf_app]; rfl
      · simp only [List.length_append, List.length_cons, List.length_nil]; omega
      · exact (le.app (.one (by omega))).app (.one (by omega))
    · rintro σ H' ⟨rfl, st, y, rfl, hl, le⟩
      have hl : st.length = 6 := hl
      have t1 := part_lo (ns := ns) (s := s + 3) (u := 1) (z := 6) (by decide)
      have t2 := part_hi (ns := ns) (s := s + 3) (u := 1) (z := 6) (by decide)
      have u1 := part_lo (ns := ns) (s := s + 3) (u := 6) (z := 7) (by decide)
      have u2 := part_hi (ns := ns) (s := s + 3) (u := 6) (z := 7) (by decide)
      have v1 := part_lo (ns := ns) (s := s + 3) (u := 42) (z := 26) (by decide)
      have v2 := part_hi (ns := ns) (s := s + 3) (u := 42) (z := 26) (by decide)
      have w1 := part_lo (ns := ns) (s := s + 4) (u := 4) (z := 7) (by decide)
      have w2 := part_hi (ns := ns) (s := s + 4) (u := 4) (z := 7) (by decide)
      have x1 := part_lo (ns := ns) (s := s + 4) (u := 2) (z := 2) (by decide)
      have x2 := part_hi (ns := ns) (s := s + 4) (u := 2) (z := 2) (by decide)
      refine ⟨_, rfl, _, rfl, _, _, rfl, rfl, _, _, _, _, _, rfl, hS, by omega, by omega, by decide, by decide, by decide, ?_⟩
      refine ⟨_, rfl, _, rfl, _, _, rfl, rfl, _, _, _, _, _, rfl, hS, by omega, by omega, by decide, by decide, by decide, ?_⟩
      refine ⟨_, rfl, _, rfl, _, _, rfl, rfl, _, _, _, _, _, rfl, hS, by omega, by omega, by decide, by decide, by decide, ?_⟩
      refine ⟨_, rfl, _, rfl, _, rfl, _, _, rfl, rfl, _, _, _, _, _, rfl, hS, by omega, by omega, by decide, by decide, by decide, _, rfl, _, rfl, small_len (by omega), ?_⟩
      refine ⟨_, rfl, _, rfl, _, rfl, _, _, rfl, rfl, _, _, _, _, _, rfl, hS, by omega, by omega, by decide, by decide, by decide, _, rfl, _, rfl, small_len (by omega), ?_⟩
      rw [cut_to st w1, cut_to st x1]
      refine ⟨Nat.zero_le _, fun p np => ?_⟩
      have hS2 : ∀ o, SqL K (upd H' p o) a (ns.map V.int) := fun o => (same_upd np).seq hS
      let nf := nameF (decide (partOf ns (s + 4) 1 2 = 0)) st (st.take (partOf ns (s + 4) 4 7).toNat) (st.take (partOf ns (s + 4) 2 2).toNat) (partOf ns (s + 3) 6 7).toNat (partOf ns (s + 3) 42 26).toNat (partOf ns (s + 3) 1 6).toNat
      refine ⟨_, rfl, _, rfl, by omega, by omega, for_range (fun i σ H2 => H2 = upd H' p (.lst (((List.range i).map nf).map vN)) ∧ ∃ (y m : Option V), σ = [some (.ref a), some (.int s), some (.int n), some (.str lettersZ), some (vN st), y, some (.int (partOf ns (s + 3) 1 6)), some (.int (partOf ns (s + 3) 6 7)), some (.int (partOf ns (s + 3) 42 26)), some (vN (st.take (partOf ns (s + 4) 4 7).toNat)), some (vN (st.take (partOf ns (s + 4) 2 2).toNat)), some (.ref p), m]) ⟨rfl, _, _, rfl⟩ ?_ ?_⟩
      · rintro i σ H2 hi ⟨rfl, y, m, rfl⟩
        have hz : (((List.range i).map nf).map vN).length < sizeLine := by rw [List.length_map, List.length_map, List.length_range]; exact small1000 (by omega)
        have mk : (0 + (i : Int) + partOf ns (s + 3) 1 6) % 6 = (((i + (partOf ns (s + 3) 1 6).toNat) % 6 : Nat) : Int) := by omega
        have next : ∀ (l : List Nat), l = nf i → ((List.range i).map nf).map vN ++ [vN l] = ((List.range (i + 1)).map nf).map vN := by
          intro l e
          rw [List.range_succ, List.map_append, List.map_append, e]
          rfl
        refine ⟨_, rfl, _, rfl, _, _, rfl, rfl, .inl ⟨_, rfl, _, _, rfl, rfl, pz, ?_⟩⟩
        refine ⟨_, rfl, _, rfl, _, _, rfl, rfl, _, _, _, _, _, rfl, hS2 _, by omega, by omega, by decide, by decide, by decide, rfl, _, rfl, ite2 (fun e => ?_) (fun e => ?_)⟩
        · have e1 : decide (partOf ns (s + 4) 1 2 = 0) = true := by
            have := V.int.inj (of_decide_eq_true e)
            exact decide_eq_true this
          have f1 : 0 ≤ (partOf ns (s + 3) 42 26 + 7 * ((0 + (i : Int) + partOf ns (s + 3) 1 6) % 6)) % 26 := by omega
          have f2 : (partOf ns (s + 3) 42 26 + 7 * ((0 + (i : Int) + partOf ns (s + 3) 1 6) % 6)) % 26 < 26 := by omega
          refine ⟨_, rfl, .inl ⟨rfl, _, lstAt upd_same⟩, ?_⟩
          refine ⟨_, rfl, _, rfl, _, rfl, _, rfl, small_len (by rw [List.length_take]; omega), ?_⟩
          refine ⟨_, rfl, _, rfl, _, rfl, _, _, rfl, rfl, .inl (by decide), _, _, rfl, rfl, .inl ⟨_, rfl, _, _, rfl, rfl, pz, _, _, _, rfl, rfl, by rw [letters_len]; decide, letter_at f1 f2, ?_⟩⟩
          rw [cut_to _ u1]
          refine ⟨_, _, rfl, rfl, ?_, ?_⟩
          · rw [sOf_one, sOf_len, sOf_len]
            exact Nat.le_of_lt (small1000 (by rw [List.length_take, List.length_take]; simp only [List.length_cons, List.length_nil]; omega))
          refine ⟨_, rfl, _, rfl, _, rfl, _, rfl, small_len (by rw [List.length_take]; omega), ?_⟩
          rw [cut_from _ u1, sOf_one, sOf_app]
          refine ⟨_, _, rfl, rfl, ?_, ?_⟩
          · rw [sOf_len, sOf_len]
            exact Nat.le_of_lt (small1000 (by rw [List.length_append, List.length_take, List.length_take, List.length_drop, List.length_take]; simp only [List.length_cons, List.length_nil]; omega))
          refine ⟨_, rfl, _, _, rfl, rfl, ?_, ?_⟩
          · rw [sOf_app, sOf_len, sOf_len]
            exact Nat.le_of_lt (small1000 (by rw [List.length_append, List.length_append, List.length_take, List.length_take, List.length_drop, List.length_take, List.length_take]; simp only [List.length_cons, List.length_nil]; omega))
          rw [sOf_app, sOf_app]
          refine ⟨_, _, _, rfl, rfl, upd_same, hz, ?_, _, _, rfl⟩
          rw [upd_twice]
          congr 2
          refine next _ ?_
          show _ = nameF _ _ _ _ _ _ _ _
          unfold nameF
          rw [if_pos e1]
          congr 5
          omega
        · have e1 : ¬ decide (partOf ns (s + 4) 1 2 = 0) = true := by
            intro z
            have := of_decide_eq_true z
            exact e (decide_eq_true (congrArg V.int this))
          refine ⟨_, rfl, .inl ⟨rfl, _, lstAt upd_same⟩, ?_⟩
          refine ⟨_, rfl, _, rfl, _, _, rfl, rfl, _, rfl, _, rfl, small_len (by omega), ?_⟩
          rw [cut_to _ (show (0 : Int) ≤ (0 + (i : Int) + partOf ns (s + 3) 1 6) % 6 + 1 by omega)]
          refine ⟨_, _, _, rfl, rfl, upd_same, hz, ?_, _, _, rfl⟩
          rw [upd_twice]
          congr 2
          refine next _ ?_
          show _ = nameF _ _ _ _ _ _ _ _
          unfold nameF
          rw [if_neg e1]
          congr 1
          omega
      · rintro σ H2 ⟨rfl, y, m, rfl⟩
        refine ⟨_, rfl, q p ((List.range n.toNat).map nf) np ?_ ?_ ?_⟩
        · rw [List.length_map, List.length_range]; omega
        · intro z hz
          obtain ⟨k, hk, rfl⟩ := List.mem_map.mp hz
          exact nameF_nm hl (by rw [List.length_take]; omega) (by rw [List.length_take]; omega) le (le.take _) (le.take _)
        · refine nodup_range fun k j hk hj e => ?_
          exact nameF_inj hl (by omega) (by omega) e
end
end TK

namespace TK
open PySem PySem.Spec PyProof.Rows L2
section
variable {P : Program} {w : World} {K : PySem.W.Frag} {mg : Str → Option Value} {base : Heap}
/-! _law_integer: of an int -/
def spInteger : Sp := fun vs H Q _ => ∃ i : Int, vs = [.int i] ∧ Q (.bl true) H
theorem ok_L_integer {f : Addr} {fd : FuncData} (F : Fun K "_law_integer" "_law_integer" s_L_integer f fd) (m_isinstance : mg "isinstance" = none) (m_int : mg "int" = none) (m_bool : mg "bool" = none) :
    FnOk P w K mg base CX0 1 f fd ["_law_got"] spInteger := by
  refine F.ok sc_L_integer (fun vs H Q E h => ?_) (fun cdv A outer s H vs Q E hr h => ?_)
  · obtain ⟨i, rfl, _⟩ := h
    rfl
  · obtain ⟨i, rfl, q⟩ := h
    refine ⟨_, (pss_one (ps_ret (pe_and (pe_callB call_isi (by rfl) m_isinstance (by decide +kernel) (pa_cons (pv 0) (pa_cons (pe_bltn (v := .ty "int") (u := .type "int") (by rfl) m_int (by decide +kernel) rfl) pa_nil))) (pe_one (pe_not (pe_callB call_isi (by rfl) m_isinstance (by decide +kernel) (pa_cons (pv 0) (pa_cons (pe_bltn (v := .ty "bool") (u := .type "bool") (by rfl) m_bool (by decide +kernel) rfl) pa_nil)))))))), ?_⟩
    refine ⟨_, rfl, _, _, _, _, true, rfl, .ty "int", .base (.int i), rfl, _, rfl, iteT ?_⟩
    refine ⟨_, rfl, _, _, _, _, false, rfl, .ty "bool", .base (.int i), rfl, _, rfl, ?_⟩
    exact q
end
end TK

namespace TK
open PySem PySem.Spec PyProof.Rows L2
/-! ### the same data, down to a depth -/
def flat1 : V → Bool
  | .non => true | .bl _ => true | .int _ => true | .str _ => true | _ => false
/-- a tuple, known to the object or not -/
def TL (H : Hp) (a : Addr) (xs : List V) : Prop := H a = some (.tup xs) ∨ ∃ o, H a = some (.frz o (.tup xs))
theorem TL.ty {K : PySem.W.Frag} {H : Hp} {a : Addr} {xs : List V} (h : TL H a xs) : TyX K H (.ref a) (.type "tuple") := by
  rcases h with h | ⟨o, h⟩
  · exact .base (.tup h)
  · exact .fTuple h
theorem TL.sq {K : PySem.W.Frag} {H : Hp} {a : Addr} {xs : List V} (h : TL H a xs) : SqT K H a xs := .inl (h.elim .inl .inr)
def Eq2 (H : Hp) : Nat → V → V → Prop
  | 0, x, y => x = y ∧ flat1 x = true
  | n + 1, x, y => (x = y ∧ flat1 x = true) ∨ ∃ (a b : Addr) (xs ys : List V), x = .ref a ∧ y = .ref b ∧ ((H a = some (.lst xs) ∧ H b = some (.lst ys)) ∨ (TL H a xs ∧ TL H b ys)) ∧ xs.length = ys.length ∧ xs.length < 2 ^ 40 ∧
      ∀ (i : Nat) (x y : V), xs[i]? = some x → ys[i]? = some y → Eq2 H n x y
theorem bint {z : V} {H : Hp} {Q : VK} (h : z = .bl true) (q : Q (.bl true) H) : Q z H := h ▸ q
section
variable {P : Program} {w : World} {K : PySem.W.Frag} {mg : Str → Option Value} {base : Heap}
def spSame (n : Nat) : Sp := fun vs H Q _ => ∃ x y, vs = [x, y] ∧ Eq2 H n x y ∧ Q (.bl true) H
theorem same_tail {x y : V} {H : Hp} (ex : x = y) (fx : flat1 x = true) : (x = .non ∧ y = .non) ∨ (∃ b, x = .bl b ∧ y = .bl b) ∨ (∃ i, x = .int i ∧ y = .int i) ∨ ∃ z, x = .str z ∧ y = .str z := by
  subst ex
  cases x with
  | non => exact .inl ⟨rfl, rfl⟩
  | bl b => exact .inr (.inl ⟨b, rfl, rfl⟩)
  | int i => exact .inr (.inr (.inl ⟨i, rfl, rfl⟩))
  | str z => exact .inr (.inr (.inr ⟨z, rfl, rfl⟩))
  | byt _ => cases fx
  | flt _ => cases fx
  | ref _ => cases fx
  | ty _ => cases fx
structure SameTx (K : PySem.W.Frag) (mg : Str → Option Value) : Prop where
  m_isinstance : mg "isinstance" = none
  m_int : mg "int" = none
  m_bool : mg "bool" = none
  m_str : mg "str" = none
  m_tuple : mg "tuple" = none
  m_list : mg "list" = none
  m_len : mg "len" = none
  m_range : mg "range" = none
theorem ok_L_same {f : Addr} {fd : FuncData} (F : Fun K "_law_same" "_law_same" s_L_same f fd) (g : mg "_law_same" = some (.ref f)) (b : Binds K fd ["_law_got", "_law_wanted"] []) (T : SameTx K mg) (d_L_integer : Def P w K mg base "_law_integer" 1 ["_law_got"] spInteger) :
    ∀ n : Nat, n ≤ 10 → FnOk P w K mg base CX0 (n + 2) f fd ["_law_got", "_law_wanted"] (spSame n) := by
  obtain ⟨m_isinstance, m_int, m_bool, m_str, m_tuple, m_list, m_len, m_range⟩ := T
  intro n
  induction n with
  | zero =>
    intro _
    refine F.ok sc_L_same (fun vs H Q E h => ?_) (fun cdv A outer s H vs Q E hr h => ?_)
    · obtain ⟨x, y, rfl, _⟩ := h
      rfl
    · obtain ⟨x, y, rfl, ⟨ex, fx⟩, q⟩ := h
      refine ⟨_, (pss_cons (ps_if (pt_cmpR op_isN (pv 1) pe_non (nomark _)) (pss_one (ps_ret (pe_cmpR op_isN (pv 0) pe_non (nomark _)))) pss_nil)
  (pss_cons (ps_if (pt_cmpR op_isT (pv 1) pe_bl (nomark _)) (pss_one (ps_ret (pe_cmpR op_isT (pv 0) pe_bl (nomark _)))) pss_nil)
  (pss_cons (ps_if (pt_cmpR op_isT (pv 1) pe_bl (nomark _)) (pss_one (ps_ret (pe_cmpR op_isT (pv 0) pe_bl (nomark _)))) pss_nil)
  (pss_cons (ps_if (pt_val (pe_callB call_isi (by rfl) m_isinstance (by decide +kernel) (pa_cons (pv 1) (pa_cons (pe_bltn (v := .ty "int") (u := .type "int") (by rfl) m_int (by decide +kernel) rfl) pa_nil)))) (pss_one (ps_ret (pe_and (pe_callD d_L_integer (hr.mono (by omega)) (by rfl) (pa_cons (pv 0) pa_nil)) (pe_one (pe_cmpR op_eq (pv 0) (pv 1) (nomark _)))))) pss_nil)
  (pss_cons (ps_if (pt_val (pe_callB call_isi (by rfl) m_isinstance (by decide +kernel) (pa_cons (pv 1) (pa_cons (pe_bltn (v := .ty "str") (u := .type "str") (by rfl) m_str (by decide +kernel) rfl) pa_nil)))) (pss_one (ps_ret (pe_and (pe_callB call_isi (by rfl) m_isinstance (by decide +kernel) (pa_cons (pv 0) (pa_cons (pe_bltn (v := .ty "str") (u := .type "str") (by rfl) m_str (by decide +kernel) rfl) pa_nil))) (pe_one (pe_cmpR op_eq (pv 0) (pv 1) (nomark _)))))) pss_nil)
  (pss_cons (ps_if (PW.pt (pw_and (pt_val (pe_callB call_isi (by rfl) m_isinstance (by decide +kernel) (pa_cons (pv 1) (pa_cons (pe_bltn (v := .ty "tuple") (u := .type "tuple") (by rfl) m_tuple (by decide +kernel) rfl) pa_nil)))) (pw_and1 (pt_not (pt_val (pe_callB call_isi (by rfl) m_isinstance (by decide +kernel) (pa_cons (pv 0) (pa_cons (pe_bltn (v := .ty "tuple") (u := .type "tuple") (by rfl) m_tuple (by decide +kernel) rfl) pa_nil)))))))) (pss_one (ps_ret pe_bl)) pss_nil)
  (pss_cons (ps_if (PW.pt (pw_and (pt_val (pe_callB call_isi (by rfl) m_isinstance (by decide +kernel) (pa_cons (pv 1) (pa_cons (pe_bltn (v := .ty "list") (u := .type "list") (by rfl) m_list (by decide +kernel) rfl) pa_nil)))) (pw_and1 (pt_not (pt_val (pe_callB call_isi (by rfl) m_isinstance (by decide +kernel) (pa_cons (pv 0) (pa_cons (pe_bltn (v := .ty "list") (u := .type "list") (by rfl) m_list (by decide +kernel) rfl) pa_nil)))))))) (pss_one (ps_ret pe_bl)) pss_nil)
  (pss_cons (ps_if (pt_cmpR op_ne (pe_callB call_len_seq (by rfl) m_len (by decide +kernel) (pa_cons (pv 0) pa_nil)) (pe_callB call_len_seq (by rfl) m_len (by decide +kernel) (pa_cons (pv 1) pa_nil)) (nomark _)) (pss_one (ps_ret pe_bl)) pss_nil)
  (pss_cons ps_never (pss_one ps_never)))))))))), ?_⟩
      rcases same_tail (H := H) ex fx with ⟨rfl, rfl⟩ | ⟨b, rfl, rfl⟩ | ⟨i, rfl, rfl⟩ | ⟨z, rfl, rfl⟩
      · exact ⟨_, rfl, rfl, _, rfl, iteT ⟨_, rfl, rfl, q⟩⟩
      · refine ⟨_, rfl, rfl, _, rfl, iteF ⟨_, rfl, _, rfl, _, rfl, ?_⟩⟩
        cases b with
        | true => exact iteT ⟨_, rfl, _, rfl, q⟩
        | false => exact iteF ⟨_, rfl, _, rfl, _, rfl, iteT ⟨_, rfl, _, rfl, q⟩⟩
      · refine ⟨_, rfl, rfl, _, rfl, iteF ⟨_, rfl, _, rfl, _, rfl, iteF ⟨_, rfl, _, rfl, _, rfl, iteF ?_⟩⟩⟩
        refine ⟨_, rfl, _, _, _, _, true, rfl, .ty "int", .base (.int i), rfl, _, rfl, iteT ?_⟩
        refine ⟨_, rfl, i, rfl, _, rfl, iteT ⟨_, rfl, _, rfl, rfl, ?_⟩⟩
        exact bint (congrArg V.bl (decide_eq_true rfl)) q
      · refine ⟨_, rfl, rfl, _, rfl, iteF ⟨_, rfl, _, rfl, _, rfl, iteF ⟨_, rfl, _, rfl, _, rfl, iteF ?_⟩⟩⟩
        refine ⟨_, rfl, _, _, _, _, false, rfl, .ty "int", .base (.str z), rfl, _, rfl, iteF ?_⟩
        refine ⟨_, rfl, _, _, _, _, true, rfl, .ty "str", .base (.str z), rfl, _, rfl, iteT ?_⟩
        refine ⟨_, rfl, _, _, _, _, true, rfl, .ty "str", .base (.str z), rfl, _, rfl, iteT ⟨_, rfl, _, rfl, rfl, ?_⟩⟩
        exact bint (congrArg V.bl (decide_eq_true rfl)) q
  | succ n ih =>
    intro hn
    have d_L_same : Def P w K mg base "_law_same" (n + 2) ["_law_got", "_law_wanted"] (spSame n) := ⟨_, _, ih (by omega), g, F.kp, b⟩
    refine F.ok sc_L_same (fun vs H Q E h => ?_) (fun cdv A outer s H vs Q E hr h => ?_)
    · obtain ⟨x, y, rfl, _⟩ := h
      rfl
    · obtain ⟨x, y, rfl, hE, q⟩ := h
      rcases hE with ⟨ex, fx⟩ | ⟨a, c, xs, ys, rfl, rfl, hk, hl, hz, hi⟩
      · refine ⟨_, (pss_cons (ps_if (pt_cmpR op_isN (pv 1) pe_non (nomark _)) (pss_one (ps_ret (pe_cmpR op_isN (pv 0) pe_non (nomark _)))) pss_nil)
  (pss_cons (ps_if (pt_cmpR op_isT (pv 1) pe_bl (nomark _)) (pss_one (ps_ret (pe_cmpR op_isT (pv 0) pe_bl (nomark _)))) pss_nil)
  (pss_cons (ps_if (pt_cmpR op_isT (pv 1) pe_bl (nomark _)) (pss_one (ps_ret (pe_cmpR op_isT (pv 0) pe_bl (nomark _)))) pss_nil)
  (pss_cons (ps_if (pt_val (pe_callB call_isi (by rfl) m_isinstance (by decide +kernel) (pa_cons (pv 1) (pa_cons (pe_bltn (v := .ty "int") (u := .type "int") (by rfl) m_int (by decide +kernel) rfl) pa_nil)))) (pss_one (ps_ret (pe_and (pe_callD d_L_integer (hr.mono (by omega)) (by rfl) (pa_cons (pv 0) pa_nil)) (pe_one (pe_cmpR op_eq (pv 0) (pv 1) (nomark _)))))) pss_nil)
  (pss_cons (ps_if (pt_val (pe_callB call_isi (by rfl) m_isinstance (by decide +kernel) (pa_cons (pv 1) (pa_cons (pe_bltn (v := .ty "str") (u := .type "str") (by rfl) m_str (by decide +kernel) rfl) pa_nil)))) (pss_one (ps_ret (pe_and (pe_callB call_isi (by rfl) m_isinstance (by decide +kernel) (pa_cons (pv 0) (pa_cons (pe_bltn (v := .ty "str") (u := .type "str") (by rfl) m_str (by decide +kernel) rfl) pa_nil))) (pe_one (pe_cmpR op_eq (pv 0) (pv 1) (nomark _)))))) pss_nil)
  (pss_cons (ps_if (PW.pt (pw_and (pt_val (pe_callB call_isi (by rfl) m_isinstance (by decide +kernel) (pa_cons (pv 1) (pa_cons (pe_bltn (v := .ty "tuple") (u := .type "tuple") (by rfl) m_tuple (by decide +kernel) rfl) pa_nil)))) (pw_and1 (pt_not (pt_val (pe_callB call_isi (by rfl) m_isinstance (by decide +kernel) (pa_cons (pv 0) (pa_cons (pe_bltn (v := .ty "tuple") (u := .type "tuple") (by rfl) m_tuple (by decide +kernel) rfl) pa_nil)))))))) (pss_one (ps_ret pe_bl)) pss_nil)
  (pss_cons (ps_if (PW.pt (pw_and (pt_val (pe_callB call_isi (by rfl) m_isinstance (by decide +kernel) (pa_cons (pv 1) (pa_cons (pe_bltn (v := .ty "list") (u := .type "list") (by rfl) m_list (by decide +kernel) rfl) pa_nil)))) (pw_and1 (pt_not (pt_val (pe_callB call_isi (by rfl) m_isinstance (by decide +kernel) (pa_cons (pv 0) (pa_cons (pe_bltn (v := .ty "list") (u := .type "list") (by rfl) m_list (by decide +kernel) rfl) pa_nil)))))))) (pss_one (ps_ret pe_bl)) pss_nil)
  (pss_cons (ps_if (pt_cmpR op_ne (pe_callB call_len_seq (by rfl) m_len (by decide +kernel) (pa_cons (pv 0) pa_nil)) (pe_callB call_len_seq (by rfl) m_len (by decide +kernel) (pa_cons (pv 1) pa_nil)) (nomark _)) (pss_one (ps_ret pe_bl)) pss_nil)
  (pss_cons ps_never (pss_one ps_never)))))))))), ?_⟩
        rcases same_tail (H := H) ex fx with ⟨rfl, rfl⟩ | ⟨b, rfl, rfl⟩ | ⟨i, rfl, rfl⟩ | ⟨z, rfl, rfl⟩
        · exact ⟨_, rfl, rfl, _, rfl, iteT ⟨_, rfl, rfl, q⟩⟩
        · refine ⟨_, rfl, rfl, _, rfl, iteF ⟨_, rfl, _, rfl, _, rfl, ?_⟩⟩
          cases b with
          | true => exact iteT ⟨_, rfl, _, rfl, q⟩
          | false => exact iteF ⟨_, rfl, _, rfl, _, rfl, iteT ⟨_, rfl, _, rfl, q⟩⟩
        · refine ⟨_, rfl, rfl, _, rfl, iteF ⟨_, rfl, _, rfl, _, rfl, iteF ⟨_, rfl, _, rfl, _, rfl, iteF ?_⟩⟩⟩
          refine ⟨_, rfl, _, _, _, _, true, rfl, .ty "int", .base (.int i), rfl, _, rfl, iteT ?_⟩
          refine ⟨_, rfl, i, rfl, _, rfl, iteT ⟨_, rfl, _, rfl, rfl, ?_⟩⟩
          exact bint (congrArg V.bl (decide_eq_true rfl)) q
        · refine ⟨_, rfl, rfl, _, rfl, iteF ⟨_, rfl, _, rfl, _, rfl, iteF ⟨_, rfl, _, rfl, _, rfl, iteF ?_⟩⟩⟩
          refine ⟨_, rfl, _, _, _, _, false, rfl, .ty "int", .base (.str z), rfl, _, rfl, iteF ?_⟩
          refine ⟨_, rfl, _, _, _, _, true, rfl, .ty "str", .base (.str z), rfl, _, rfl, iteT ?_⟩
          refine ⟨_, rfl, _, _, _, _, true, rfl, .ty "str", .base (.str z), rfl, _, rfl, iteT ⟨_, rfl, _, rfl, rfl, ?_⟩⟩
          exact bint (congrArg V.bl (decide_eq_true rfl)) q
      · have step : ∀ (i : Nat) (hi1 : i < ys.length), ∃ x y, atI xs (0 + (i : Int)) = some x ∧ atI ys (0 + (i : Int)) = some y ∧ Eq2 H n x y := by
          intro i h1
          have h2 : i < xs.length := by omega
          refine ⟨xs[i], ys[i], ?_, ?_, hi i _ _ (List.getElem?_eq_getElem h2) (List.getElem?_eq_getElem h1)⟩
          · exact atI_in (by omega) (by rw [show (0 + (i : Int)).toNat = i by omega]; exact List.getElem?_eq_getElem h2)
          · exact atI_in (by omega) (by rw [show (0 + (i : Int)).toNat = i by omega]; exact List.getElem?_eq_getElem h1)
        rcases hk with ⟨ha, hc⟩ | ⟨ha, hc⟩
        · refine ⟨_, (pss_cons (ps_if (pt_cmpR op_isN (pv 1) pe_non (nomark _)) (pss_one (ps_ret (pe_cmpR op_isN (pv 0) pe_non (nomark _)))) pss_nil)
  (pss_cons (ps_if (pt_cmpR op_isT (pv 1) pe_bl (nomark _)) (pss_one (ps_ret (pe_cmpR op_isT (pv 0) pe_bl (nomark _)))) pss_nil)
  (pss_cons (ps_if (pt_cmpR op_isT (pv 1) pe_bl (nomark _)) (pss_one (ps_ret (pe_cmpR op_isT (pv 0) pe_bl (nomark _)))) pss_nil)
  (pss_cons (ps_if (pt_val (pe_callB call_isi (by rfl) m_isinstance (by decide +kernel) (pa_cons (pv 1) (pa_cons (pe_bltn (v := .ty "int") (u := .type "int") (by rfl) m_int (by decide +kernel) rfl) pa_nil)))) (pss_one (ps_ret (pe_and (pe_callD d_L_integer (hr.mono (by omega)) (by rfl) (pa_cons (pv 0) pa_nil)) (pe_one (pe_cmpR op_eq (pv 0) (pv 1) (nomark _)))))) pss_nil)
  (pss_cons (ps_if (pt_val (pe_callB call_isi (by rfl) m_isinstance (by decide +kernel) (pa_cons (pv 1) (pa_cons (pe_bltn (v := .ty "str") (u := .type "str") (by rfl) m_str (by decide +kernel) rfl) pa_nil)))) (pss_one (ps_ret (pe_and (pe_callB call_isi (by rfl) m_isinstance (by decide +kernel) (pa_cons (pv 0) (pa_cons (pe_bltn (v := .ty "str") (u := .type "str") (by rfl) m_str (by decide +kernel) rfl) pa_nil))) (pe_one (pe_cmpR op_eq (pv 0) (pv 1) (nomark _)))))) pss_nil)
  (pss_cons (ps_if (PW.pt (pw_and (pt_val (pe_callB call_isi (by rfl) m_isinstance (by decide +kernel) (pa_cons (pv 1) (pa_cons (pe_bltn (v := .ty "tuple") (u := .type "tuple") (by rfl) m_tuple (by decide +kernel) rfl) pa_nil)))) (pw_and1 (pt_not (pt_val (pe_callB call_isi (by rfl) m_isinstance (by decide +kernel) (pa_cons (pv 0) (pa_cons (pe_bltn (v := .ty "tuple") (u := .type "tuple") (by rfl) m_tuple (by decide +kernel) rfl) pa_nil)))))))) (pss_one (ps_ret pe_bl)) pss_nil)
  (pss_cons (ps_if (PW.pt (pw_and (pt_val (pe_callB call_isi (by rfl) m_isinstance (by decide +kernel) (pa_cons (pv 1) (pa_cons (pe_bltn (v := .ty "list") (u := .type "list") (by rfl) m_list (by decide +kernel) rfl) pa_nil)))) (pw_and1 (pt_not (pt_val (pe_callB call_isi (by rfl) m_isinstance (by decide +kernel) (pa_cons (pv 0) (pa_cons (pe_bltn (v := .ty "list") (u := .type "list") (by rfl) m_list (by decide +kernel) rfl) pa_nil)))))))) (pss_one (ps_ret pe_bl)) pss_nil)
  (pss_cons (ps_if (pt_cmpR op_ne (pe_callB call_len_seq (by rfl) m_len (by decide +kernel) (pa_cons (pv 0) pa_nil)) (pe_callB call_len_seq (by rfl) m_len (by decide +kernel) (pa_cons (pv 1) pa_nil)) (nomark _)) (pss_one (ps_ret pe_bl)) pss_nil)
  (pss_cons (ps_for PassesOwn.never rfl (pi_range1 (by rfl) m_range (pa_cons (pe_callB call_len_seq (by rfl) m_len (by decide +kernel) (pa_cons (pv 1) pa_nil)) pa_nil)) (pg_name (i := 2) sc_L_same.nd rfl (.inl rfl))
    (pss_one (ps_if (pt_not (pt_val (pe_callD d_L_same (hr.mono (by omega)) (by rfl) (pa_cons (pe_ix ix_list (pv 0) (pv 2) (fun _ _ => rfl)) (pa_cons (pe_ix ix_list (pv 1) (pv 2) (fun _ _ => rfl)) pa_nil))))) (pss_one (ps_ret pe_bl)) pss_nil)))
  (pss_one (ps_ret pe_bl))))))))))), ?_⟩
          refine ⟨_, rfl, rfl, _, rfl, iteF ⟨_, rfl, _, rfl, _, rfl, iteF ⟨_, rfl, _, rfl, _, rfl, iteF ?_⟩⟩⟩
          refine ⟨_, rfl, _, _, _, _, false, rfl, .ty "int", .base (.lst hc), rfl, _, rfl, iteF ?_⟩
          refine ⟨_, rfl, _, _, _, _, false, rfl, .ty "str", .base (.lst hc), rfl, _, rfl, iteF ?_⟩
          refine ⟨_, rfl, _, _, _, _, false, rfl, .ty "tuple", .base (.lst hc), rfl, _, rfl, iteF (iteF ?_)⟩
          refine ⟨_, rfl, _, _, _, _, true, rfl, .ty "list", .base (.lst hc), rfl, _, rfl, iteT ⟨_, rfl, _, _, _, _, true, rfl, .ty "list", .base (.lst ha), rfl, _, rfl, iteF ?_⟩⟩
          refine ⟨_, rfl, _, _, rfl, .inl (lstAt ha), _, rfl, _, _, rfl, .inl (lstAt hc), rfl, _, rfl, ?_⟩
          refine iteNS (congrArg (fun k : Nat => V.int (k : Int)) hl) ?_
          refine ⟨_, rfl, _, _, rfl, .inl (lstAt hc), _, rfl, by omega, by omega, for_range (fun i σ H' => H' = H ∧ ∃ y : Option V, σ = [some (.ref a), some (.ref c), y]) ⟨rfl, _, rfl⟩ ?_ ?_⟩
          · rintro i σ H' hlt ⟨rfl, y, rfl⟩
            obtain ⟨x1, y1, e1, e2, e3⟩ := step i (by omega)
            refine ⟨_, rfl, _, rfl, _, _, _, _, rfl, rfl, lstAt ha, e1, _, rfl, _, rfl, _, _, _, _, rfl, rfl, lstAt hc, e2, x1, y1, rfl, e3, _, rfl, iteF ⟨rfl, _, rfl⟩⟩
          · rintro σ H' ⟨rfl, y, rfl⟩
            exact q
        · refine ⟨_, (pss_cons (ps_if (pt_cmpR op_isN (pv 1) pe_non (nomark _)) (pss_one (ps_ret (pe_cmpR op_isN (pv 0) pe_non (nomark _)))) pss_nil)
  (pss_cons (ps_if (pt_cmpR op_isT (pv 1) pe_bl (nomark _)) (pss_one (ps_ret (pe_cmpR op_isT (pv 0) pe_bl (nomark _)))) pss_nil)
  (pss_cons (ps_if (pt_cmpR op_isT (pv 1) pe_bl (nomark _)) (pss_one (ps_ret (pe_cmpR op_isT (pv 0) pe_bl (nomark _)))) pss_nil)
  (pss_cons (ps_if (pt_val (pe_callB call_isi (by rfl) m_isinstance (by decide +kernel) (pa_cons (pv 1) (pa_cons (pe_bltn (v := .ty "int") (u := .type "int") (by rfl) m_int (by decide +kernel) rfl) pa_nil)))) (pss_one (ps_ret (pe_and (pe_callD d_L_integer (hr.mono (by omega)) (by rfl) (pa_cons (pv 0) pa_nil)) (pe_one (pe_cmpR op_eq (pv 0) (pv 1) (nomark _)))))) pss_nil)
  (pss_cons (ps_if (pt_val (pe_callB call_isi (by rfl) m_isinstance (by decide +kernel) (pa_cons (pv 1) (pa_cons (pe_bltn (v := .ty "str") (u := .type "str") (by rfl) m_str (by decide +kernel) rfl) pa_nil)))) (pss_one (ps_ret (pe_and (pe_callB call_isi (by rfl) m_isinstance (by decide +kernel) (pa_cons (pv 0) (pa_cons (pe_bltn (v := .ty "str") (u := .type "str") (by rfl) m_str (by decide +kernel) rfl) pa_nil))) (pe_one (pe_cmpR op_eq (pv 0) (pv 1) (nomark _)))))) pss_nil)
  (pss_cons (ps_if (PW.pt (pw_and (pt_val (pe_callB call_isi (by rfl) m_isinstance (by decide +kernel) (pa_cons (pv 1) (pa_cons (pe_bltn (v := .ty "tuple") (u := .type "tuple") (by rfl) m_tuple (by decide +kernel) rfl) pa_nil)))) (pw_and1 (pt_not (pt_val (pe_callB call_isi (by rfl) m_isinstance (by decide +kernel) (pa_cons (pv 0) (pa_cons (pe_bltn (v := .ty "tuple") (u := .type "tuple") (by rfl) m_tuple (by decide +kernel) rfl) pa_nil)))))))) (pss_one (ps_ret pe_bl)) pss_nil)
  (pss_cons (ps_if (PW.pt (pw_and (pt_val (pe_callB call_isi (by rfl) m_isinstance (by decide +kernel) (pa_cons (pv 1) (pa_cons (pe_bltn (v := .ty "list") (u := .type "list") (by rfl) m_list (by decide +kernel) rfl) pa_nil)))) (pw_and1 (pt_not (pt_val (pe_callB call_isi (by rfl) m_isinstance (by decide +kernel) (pa_cons (pv 0) (pa_cons (pe_bltn (v := .ty "list") (u := .type "list") (by rfl) m_list (by decide +kernel) rfl) pa_nil)))))))) (pss_one (ps_ret pe_bl)) pss_nil)
  (pss_cons (ps_if (pt_cmpR op_ne (pe_callB call_len_seq (by rfl) m_len (by decide +kernel) (pa_cons (pv 0) pa_nil)) (pe_callB call_len_seq (by rfl) m_len (by decide +kernel) (pa_cons (pv 1) pa_nil)) (nomark _)) (pss_one (ps_ret pe_bl)) pss_nil)
  (pss_cons (ps_for PassesOwn.never rfl (pi_range1 (by rfl) m_range (pa_cons (pe_callB call_len_seq (by rfl) m_len (by decide +kernel) (pa_cons (pv 1) pa_nil)) pa_nil)) (pg_name (i := 2) sc_L_same.nd rfl (.inl rfl))
    (pss_one (ps_if (pt_not (pt_val (pe_callD d_L_same (hr.mono (by omega)) (by rfl) (pa_cons (pe_ix ix_tup (pv 0) (pv 2) (fun _ _ => rfl)) (pa_cons (pe_ix ix_tup (pv 1) (pv 2) (fun _ _ => rfl)) pa_nil))))) (pss_one (ps_ret pe_bl)) pss_nil)))
  (pss_one (ps_ret pe_bl))))))))))), ?_⟩
          refine ⟨_, rfl, rfl, _, rfl, iteF ⟨_, rfl, _, rfl, _, rfl, iteF ⟨_, rfl, _, rfl, _, rfl, iteF ?_⟩⟩⟩
          refine ⟨_, rfl, _, _, _, _, false, rfl, .ty "int", hc.ty, rfl, _, rfl, iteF ?_⟩
          refine ⟨_, rfl, _, _, _, _, false, rfl, .ty "str", hc.ty, rfl, _, rfl, iteF ?_⟩
          refine ⟨_, rfl, _, _, _, _, true, rfl, .ty "tuple", hc.ty, rfl, _, rfl, iteT ⟨_, rfl, _, _, _, _, true, rfl, .ty "tuple", ha.ty, rfl, _, rfl, iteF ?_⟩⟩
          refine ⟨_, rfl, _, _, _, _, false, rfl, .ty "list", hc.ty, rfl, _, rfl, iteF (iteF ?_)⟩
          refine ⟨_, rfl, _, _, rfl, .inr (ha.sq), _, rfl, _, _, rfl, .inr (hc.sq), rfl, _, rfl, ?_⟩
          refine iteNS (congrArg (fun k : Nat => V.int (k : Int)) hl) ?_
          refine ⟨_, rfl, _, _, rfl, .inr (hc.sq), _, rfl, by omega, by omega, for_range (fun i σ H' => H' = H ∧ ∃ y : Option V, σ = [some (.ref a), some (.ref c), y]) ⟨rfl, _, rfl⟩ ?_ ?_⟩
          · rintro i σ H' hlt ⟨rfl, y, rfl⟩
            obtain ⟨x1, y1, e1, e2, e3⟩ := step i (by omega)
            refine ⟨_, rfl, _, rfl, _, _, _, _, rfl, rfl, ha.sq, e1, _, rfl, _, rfl, _, _, _, _, rfl, rfl, hc.sq, e2, x1, y1, rfl, e3, _, rfl, iteF ⟨rfl, _, rfl⟩⟩
          · rintro σ H' ⟨rfl, y, rfl⟩
            exact q
end
end TK

namespace TK
open PySem PySem.Spec PyProof.Rows L2
theorem eqv_nm {a b : List Nat} : eqV (vN a) (vN b) = decide (a = b) := by
  show (sOf a == sOf b) = _
  by_cases h : a = b
  · subst h; simp
  · rw [decide_eq_false h]
    exact beq_eq_false_iff_ne.mpr fun z => h (sOf_inj z)
theorem nms_flat (zs : List (List Nat)) : (zs.map vN).all flatV = true := by
  rw [List.all_eq_true]
  intro x hx
  obtain ⟨c, _, rfl⟩ := List.mem_map.mp hx
  rfl
theorem inV_nm {z : List Nat} {zs : List (List Nat)} : inV (vN z) (zs.map vN) = decide (z ∈ zs) := by
  unfold inV
  rw [List.any_map]
  by_cases h : z ∈ zs
  · rw [decide_eq_true h]
    exact List.any_eq_true.mpr ⟨z, h, by show eqV (vN z) (vN z) = true; rw [eqv_nm]; exact decide_eq_true rfl⟩
  · rw [decide_eq_false h]
    exact List.any_eq_false.mpr fun x hx => by
      show ¬ eqV (vN x) (vN z) = true
      rw [eqv_nm]
      intro e
      have := of_decide_eq_true e
      subst this
      exact h hx
theorem in_nm {z : List Nat} {zs : List (List Nat)} : (if false = true then !inV (vN z) (zs.map vN) else inV (vN z) (zs.map vN)) = decide (z ∈ zs) := by
  rw [if_neg (by decide), inV_nm]
theorem notin_nm {z : List Nat} {zs : List (List Nat)} : (if true = true then !inV (vN z) (zs.map vN) else inV (vN z) (zs.map vN)) = !decide (z ∈ zs) := by
  rw [if_pos rfl, inV_nm]
theorem eq_nm {a b : List Nat} : decide (vN a = vN b) = decide (a = b) := by
  by_cases h : a = b
  · subst h; simp
  · rw [decide_eq_false h]
    exact decide_eq_false fun z => h (sOf_inj (V.str.inj z))
theorem vN_at {zs : List (List Nat)} {i : Nat} {x : V} (h : (zs.map vN)[i]? = some x) : ∃ z, zs[i]? = some z ∧ x = vN z := by
  rw [List.getElem?_map] at h
  cases e : zs[i]? with
  | none => rw [e] at h; cases h
  | some z => rw [e] at h; exact ⟨z, rfl, (Option.some.inj h).symm⟩
theorem int_at {zs : List Int} {i : Nat} {x : V} (h : (zs.map V.int)[i]? = some x) : ∃ z, zs[i]? = some z ∧ x = .int z := by
  rw [List.getElem?_map] at h
  cases e : zs[i]? with
  | none => rw [e] at h; cases h
  | some z => rw [e] at h; exact ⟨z, rfl, (Option.some.inj h).symm⟩
section
variable {X : Cx} {K : PySem.W.Frag}
theorem mt_tup_indexK (h : X.K = K) : MtR X "tuple.index" (fun x xs H Q => ∃ p, ∃ ys : List Str, ∃ z j, x = .ref p ∧ xs = [.str z] ∧ SqT K H p (ys.map V.str) ∧ ys[j]? = some z ∧ (∀ m, m < j → ys[m]? ≠ some z) ∧ Q (.int (j : Nat)) H) := h ▸ L2.mt_tup_index
end
theorem vN_strs (zs : List (List Nat)) : zs.map vN = (zs.map sOf).map V.str := by rw [List.map_map]; rfl
theorem idx_first {zs : List (List Nat)} {z : List Nat} (h : z ∈ zs) (nd : zs.Nodup) : ∃ j : Nat, zs[j]? = some z ∧ (∀ m, m < j → zs[m]? ≠ some z) := by
  obtain ⟨j, hj⟩ := List.getElem?_of_mem h
  refine ⟨j, hj, fun m hm e => ?_⟩
  have hjl := (List.getElem?_eq_some_iff.mp hj).1
  have := (List.getElem?_inj hjl nd).mp (hj.trans e.symm)
  omega
theorem str_first {zs : List (List Nat)} {z : List Nat} {j : Nat} (h : zs[j]? = some z) (f : ∀ m, m < j → zs[m]? ≠ some z) : (zs.map sOf)[j]? = some (sOf z) ∧ ∀ m, m < j → (zs.map sOf)[m]? ≠ some (sOf z) := by
  refine ⟨by rw [List.getElem?_map, h]; rfl, fun m hm e => f m hm ?_⟩
  rw [List.getElem?_map] at e
  cases e1 : zs[m]? with
  | none => rw [e1] at e; cases e
  | some y => rw [e1] at e; exact congrArg some (sOf_inj (Option.some.inj e))
theorem take_map_succ {α β : Type} (f : α → β) {xs : List α} {i : Nat} {x : α} (h : xs[i]? = some x) : (xs.map f).take (i + 1) = (xs.map f).take i ++ [f x] := by
  rw [List.take_add_one, List.getElem?_map, h]; rfl
theorem take_all {α : Type} {xs : List α} {n : Nat} (h : xs.length = n) : xs.take n = xs := by rw [← h, List.take_length]
end TK

namespace TK
open PySem PySem.Spec PyProof.Rows L2
/-- o.m(k = v, ..) of an instance of the class at C -/
def tMethK (C : Addr) (m : Str) (n : Nat) (sp : Sp) (gV : List V → List V → List V) (E : XK) (ta : TE) (tk : TA) : TE := fun σ H Q => ta σ H fun x H1 => ∃ a dx fs, x = .ref a ∧ H1 a = some (.ins C dx fs) ∧ fs.lookup m = none ∧
  tk σ H1 fun zs H2 => zs.length = n ∧ sp (gV [x] zs) H2 Q E
section
variable {X : Cx} {CX : CXT} {k : Nat} {f C : Addr} {fd : FuncData} {ps ks : List Str} {sp : Sp} {E : XK} {m : Str} {pos apos : Pos} {o : Expr} {kws : List Keyword} {ta : TE} {tk : TA} {g : List Value → List Value → List Value} {gV : List V → List V → List V}
theorem run_kb {pins : List (Addr × Obj)} {σ : L2.St} {H : Hp} {s : Shared} {Q : VK} {n : Nat} {us ws : List Value} {vs zs : List V} (F : FnOk X.prog X.w X.K X.mg X.base CX k f fd ps sp) (hr : Room k X.A) (hb : KBn X.K fd ps n ks g gV) (hx : Passes CX X E)
    (I : Inv X pins σ H s) (r : Vals vs us) (rz : Vals zs ws) (l1 : us.length = n) (l2 : ws.length = ks.length) (h : sp (gV vs zs) H Q E) : wpAny (model X.prog X.w) X.A (call (.ref f) us (ks.zip ws)) (EP X pins σ Q) X.xe s := by
  refine wpAny_call (codeAny_mono (F.run X.A X.stack s H ⟨us, ks.zip ws⟩ (g us ws) (gV vs zs) Q E hr I.env0 (hb.to s us ws I.kIn l1 l2) (hb.rel r rz) h) fun r s' hq => ?_)
  cases r with
  | error e => exact hx pins σ H s e s' I hq
  | ok fl =>
    cases fl with
    | ret u => exact I.after hq
    | next => exact False.elim hq
    | brk => exact False.elim hq
    | cont => exact False.elim hq
theorem pe_methK0 {pl : Sem Bool} (he : PE X o ta) (c : Cls X.K C) (hm : Meth X.K C m f) (F : FnOk X.prog X.w X.K X.mg X.base CX k f fd ps sp) (hr : Room k X.A) (hb : KBn X.K fd ps 1 ks g gV) (hx : Passes CX X E) (hkw : PK X kws tk)
    (hall : (backToKw pos (keywordEach kws X.env)).all (·.1.isSome) = true := by rfl) (hks : (backToKw pos (keywordEach kws X.env)).filterMap (·.1) = ks := by rfl)
    (hpl : ((backTo pos (starEach [] X.env)).any (·.1) || (backToKw pos (keywordEach kws X.env)).any (·.1.isNone)) = false := by rfl)
    (ht : eval (.Call (.Attribute o m apos) [] kws pos) X.env = (do
      let ov ← eval o X.env
      standAt apos.atName
      let (f, first) ← holding [ov] (getMethod ov m pl)
      callWith pos f first (backTo pos (starEach [] X.env)) (backToKw pos (keywordEach kws X.env))) := by rfl) :
    PE X (.Call (.Attribute o m apos) [] kws pos) (tMethK C m ks.length sp gV E ta tk) := by
  refine ⟨fun pins s σ H Q I h => ?_⟩
  refine PySem.W.methodCall_KW (pl := pl) (thn (he.run pins s σ H _ I h) fun u s1 ⟨x, H1, I1, rx, a, dx, fs, ex, ea, l, q⟩ => ?_) ht
  subst ex
  obtain rfl : u = Value.ref a := rx
  refine getmeth_ok I1 ea c hm l ?_
  refine PySem.W.callWith_KW0 (first := [.ref a]) (h₀ := X.base) I.ok.mod.kin hm.kp hall ?_ hpl
  refine thn (hkw.run pos pins s1 σ H1 _ I1 q) fun ws s2 ⟨zs, H2, I2, rz, l1, q2⟩ => ⟨I2.kIn, ?_⟩
  rw [hks]
  exact run_kb (us := [.ref a]) (vs := [.ref a]) F hr hb hx I2 (.cons rfl .nil) rz rfl (rz.length.symm.trans l1) q2
end
section
variable {X : Cx} {K : PySem.W.Frag}
theorem call_tuple_ofK (h : X.K = K) : CallR X (.type "tuple") (fun xs H Q => ∃ p ys, xs = [.ref p] ∧ ((SqL K H p ys ∧ ∀ l, H l = none → Q (.ref l) (upd H l (.tup ys))) ∨ (SqT K H p ys ∧ Q (.ref p) H))) := h ▸ call_tuple_of
theorem call_list_ofK (h : X.K = K) : CallR X (.type "list") (fun xs H Q => ∃ p ys, xs = [.ref p] ∧ (SqL K H p ys ∨ SqT K H p ys) ∧ ∀ l, H l = none → Q (.ref l) (upd H l (.lst ys))) := h ▸ call_list_of
end
/-- what is no instance of the class, nor of one below it -/
inductive Odd (K : PySem.W.Frag) (C : Addr) (H : Hp) : V → Prop where
  | non (h : PySem.W.notFirst K C (.type "NoneType") = true) : Odd K C H .non
  | str (z : Str) (h : PySem.W.notFirst K C (.type "str") = true) : Odd K C H (.str z)
  | tup {a : Addr} {xs : List V} (e : H a = some (.tup xs)) (h : PySem.W.notFirst K C (.type "tuple") = true) : Odd K C H (.ref a)
section
variable {X : Cx} {K : PySem.W.Frag} {CX : CXT} {C g : Addr} {n : Nat} {fd : FuncData} {ps : List Str} {sp : Sp} {E : XK} {pins : List (Addr × Obj)} {σ : L2.St} {H : Hp} {s : Shared}
/-- o == y: y of one's own class, or of another kind -/
def rOwnA (K : PySem.W.Frag) (C : Addr) (sp : Sp) (E : XK) : R2 := fun x y H Q => IsIn H x C ∧ (IsIn H y C ∨ Odd K C H y) ∧ sp [x, y] H Q E
theorem odd_looks {x : V} {u : Value} (I : Inv X pins σ H s) (rx : RelV x u) (o : Odd X.K C H x) : ∃ tb, PySem.W.Looks (model X.prog X.w) s.heap (typeOf u) tb ∧ PySem.W.notFirst X.K C tb = true := by
  cases o with
  | non h => cases (show u = Value.none from rx); exact ⟨_, .now, h⟩
  | str z h => obtain ⟨t, q⟩ := (show ∃ t, u = Value.str z t from rx); cases q; exact ⟨_, .now, h⟩
  | @tup a xs ea h =>
    cases (show u = Value.ref a from rx)
    obtain ⟨_, _, _, o, h1, h2, _⟩ := (show ObjOk X.prog X.w H s.heap a (.tup xs) from I.hok a _ ea)
    exact ⟨_, h2 ▸ (PySem.W.Looks.ld h1).andThen .now, h⟩
theorem op_ownEqA {op : CmpOp} (hK : X.K = K) (hop : ∀ a b, compareOp op a b = richCompare op a b) (c : Own X.K C (cmpInfo op).2.1 g) (F : FnOk X.prog X.w X.K X.mg X.base CX n g fd ps sp) (hr : Room n X.A) (hb : Binds X.K fd ps []) (hx : Passes CX X E) :
    OpR X (compareOp op) (rOwnA K C sp E) := by
  subst hK
  intro pins s σ H x y v u Q I rx ry h
  obtain ⟨⟨a, dx, fs, rfl, ha⟩, hy, q⟩ := h
  cases rx
  obtain ⟨ox, od, J⟩ := own_at I ha
  obtain ⟨m, hF⟩ := I.fr
  rw [hop]
  have key : ∃ tb, PySem.W.Looks (model X.prog X.w) s.heap (typeOf u) tb ∧ PySem.W.notFirst X.K C tb = true := by
    rcases hy with ⟨b, dy, gs, rfl, hb'⟩ | o
    · cases ry
      obtain ⟨ox', od', J'⟩ := own_at I hb'
      exact ⟨_, J'.type, by simp [PySem.W.notFirst]⟩
    · exact odd_looks I ry o
  obtain ⟨tb, L, nf⟩ := key
  refine PySem.W.cmp_K (op := op) (tb := tb) hr.units0 hF I.ok.mod.kin J L nf c.at_ c.fn (wpAny_mono (run_own F hr I.env0 hb hx I (vs := [.ref a, y]) (.cons rfl (.cons ry .nil)) q) (fun w s' z => ?_) fun _ _ x => x)
  obtain ⟨z', H', I', rz, qz⟩ := z
  exact SlX.cmpback rz ⟨z', H', I', rz, qz⟩
end
end TK

/-! what the texts of books take from those of prices and links -/
namespace TK
open PySem PySem.Spec PyProof.Rows L2
theorem pi_listK {X : Cx} {K : PySem.W.Frag} {tg e : Expr} {te : TE} (h : X.K = K) (he : PE X e te) : PI X tg e (iList K te) := h ▸ pi_list he
theorem gTup3 {K : PySem.W.Frag} {i j k : Nat} {e : Addr} {x y z : V} {σ : L2.St} {H : Hp} {Q : L2.St → Hp → Prop} (he : H e = some (.tup [x, y, z])) (σ' : L2.St) (hσ : ((σ.set i (some x)).set j (some y)).set k (some z) = σ') (h : Q σ' H) :
    gTup K 3 (gCons (gName i) (gCons (gName j) (gCons (gName k) gNil))) (.ref e) σ H Q := by
  subst hσ
  exact ⟨_, _, rfl, tupAt he, rfl, _, _, rfl, _, _, rfl, _, _, rfl, rfl, h⟩
def SqS (K : PySem.W.Frag) (H : Hp) (a : Addr) (xs : List V) : Prop := SqL K H a xs ∨ SqT K H a xs
theorem SqS.same {K : PySem.W.Frag} {H H' : Hp} {a : Addr} {xs : List V} (h : SqS K H a xs) (s : Same H H') : SqS K H' a xs := by
  rcases h with h | h
  · exact .inl (s.seq h)
  · exact .inr (same_tup s h)
def spRange : Sp := fun vs H Q _ => ∃ a lo hi : Int, vs = [.int a, .int lo, .int hi] ∧ lo ≤ a ∧ a ≤ hi ∧ Q .non H
theorem cut_names (ws : List (List Nat)) (i : Nat) : cutV (ws.map vN) none (some ((i : Nat) : Int)) = (ws.take i).map vN := by
  unfold cutV
  rw [HT.sIx_none, HT.sIx_nat, List.drop_zero, Nat.sub_zero, List.map_take]
  by_cases h : i ≤ (ws.map vN).length
  · rw [Nat.min_eq_left h]
  · rw [Nat.min_eq_right (by omega), List.take_length, List.take_of_length_le (by omega)]
theorem not_before {zs : List (List Nat)} {i : Nat} {z : List Nat} (nd : zs.Nodup) (h : zs[i]? = some z) : z ∉ zs.take i := by
  intro m
  obtain ⟨j, hj⟩ := List.getElem?_of_mem m
  rw [List.getElem?_take] at hj
  split at hj
  · rename_i hji
    have hl := (List.getElem?_eq_some_iff.mp hj).1
    have := (List.getElem?_inj hl nd).mp (hj.trans h.symm)
    omega
  · cases hj
def capV : Option Int → V
  | none => .non
  | some x => .int x
section
variable {P : Program} {w : World} {K : PySem.W.Frag} {mg : Str → Option Value} {base : Heap}
theorem ok_check_size {f : Addr} {fd : FuncData} (F : Fun K "check_size" "check_size" s_check_size f fd) : FnOk P w K mg base CX0 1 f fd ["size", "low", "high"] spRange := by
  refine F.ok sc_check_size (fun vs H Q E h => ?_) (fun cdv A outer s H vs Q E hr h => ?_)
  · obtain ⟨a, lo, hi, rfl, _⟩ := h
    rfl
  · obtain ⟨a, lo, hi, rfl, h1, h2, q⟩ := h
    refine ⟨_, (pss_one (ps_if (pt_not (pt_chain op_le op_le (pv 1) (pv 0) (pv 2))) (pss_one ps_never) pss_nil)), ?_⟩
    refine ⟨_, rfl, _, rfl, _, _, rfl, rfl, _, rfl, ?_⟩
    rw [decide_eq_true h1]
    refine iteT ⟨_, rfl, _, _, rfl, rfl, _, rfl, ?_⟩
    rw [decide_eq_true h2]
    exact iteF q
end
section
variable {P : Program} {w : World} {K : PySem.W.Frag} {mg : Str → Option Value} {base : Heap}
/-! is_name, of a name or of the empty text -/
def nz (l : List Nat) : Bool := !l.isEmpty
end
section
variable {P : Program} {w : World} {K : PySem.W.Frag} {mg : Str → Option Value} {base : Heap}
theorem nz_nm {l : List Nat} (h : Nm l) : nz l = true := by
  obtain ⟨h1, _⟩ := h
  cases l with
  | nil => exact absurd h1 (by decide)
  | cons a l => rfl
end
section
variable {P : Program} {w : World} {K : PySem.W.Frag} {mg : Str → Option Value} {base : Heap}
def NmH (l : List Nat) : Prop := Nm l ∨ l = []
end
section
variable {P : Program} {w : World} {K : PySem.W.Frag} {mg : Str → Option Value} {base : Heap}
def spIsNameH : Sp := fun vs H Q _ => ∃ l : List Nat, vs = [vN l] ∧ NmH l ∧ ∀ H', Same H H' → Q (.bl (nz l)) H'
end
section
variable {P : Program} {w : World} {K : PySem.W.Frag} {mg : Str → Option Value} {base : Heap}
theorem all_true {n : Nat} : (List.replicate n true).all id = true := by
  induction n with
  | zero => rfl
  | succ n ih => rw [List.replicate_succ, List.all_cons, ih]; rfl
end
section
variable {P : Program} {w : World} {K : PySem.W.Frag} {mg : Str → Option Value} {base : Heap}
theorem ok_is_nameH {f : Addr} {fd : FuncData} (F : Fun K "is_name" "is_name" s_is_name f fd) (m_len : mg "len" = none) (m_all : mg "all" = none) {tk : Tok} (g_LETTERS : mg "LETTERS" = some (.str lettersZ tk)) : FnOk P w K mg base CX0 1 f fd ["word"] spIsNameH := by
  refine F.ok sc_is_name (fun vs H Q E h => ?_) (fun cdv A outer s H vs Q E hr h => ?_)
  · obtain ⟨l, rfl, _⟩ := h
    rfl
  · obtain ⟨l, rfl, hn, q⟩ := h
    refine ⟨_, (pss_one (ps_ret (pe_and (pe_chain op_le op_le pe_int (pe_callB call_len_str (by rfl) m_len (by decide +kernel) (pa_cons (pv 0) pa_nil)) pe_int) (pe_one (pe_callB (cr_all rfl) (by rfl) m_all (by decide +kernel) (pa_cons (pe_lc (own := [("sign", 1)]) (by rfl) sc_is_name.nd (pi_str (pv 0)) (blkOk_by (N := ["word", "sign"]) (sc := defScope s_is_name) (by decide +kernel)) (fun _ _ _ _ _ => (pg_name (i := 1) sc_is_name.nd rfl (.inl rfl))) (fun _ _ _ _ _ => pts_nil) (fun _ _ _ _ _ => (pe_cmpR op_in_sign (pv 1) (pe_glob (v := .str lettersZ) (by rfl) g_LETTERS ⟨_, rfl⟩) (by rfl)))) pa_nil)))))), ?_⟩
    rcases hn with hN | rfl
    · rw [nz_nm hN] at q
      obtain ⟨h1, h2, h3⟩ := hN
      refine ⟨_, rfl, _, rfl, small_len (by omega), _, _, rfl, rfl, _, rfl, ?_⟩
      rw [decide_eq_true (show (1 : Int) ≤ ((sOf l).length : Nat) by rw [sOf_len]; omega)]
      refine iteT ⟨_, _, rfl, rfl, _, rfl, ?_⟩
      rw [decide_eq_true (show (((sOf l).length : Nat) : Int) ≤ 8 by rw [sOf_len]; omega)]
      refine iteT ⟨_, rfl, _, rfl, fun D nD => ?_⟩
      refine lc_it walk_str (fun i H' => H' = upd H D (.lst ((List.replicate i true).map V.bl))) rfl (fun _ _ _ _ => True.intro) (fun i x H1 H2 hi hp hy => ?_) (fun H' hp => ?_)
      · subst hp
        obtain ⟨rfl, c, hc, rfl⟩ := hy
        have hcl : c ∈ l := by
          have : (sOf l).cps.toList[i]? = some c := by rw [Array.getElem?_toList]; exact hc
          exact List.mem_of_getElem? this
        have hin : c ∈ lettersZ.cps.toList := by
          rw [letters_codes]
          have := h3 c hcl
          exact List.mem_map.mpr ⟨c - 97, List.mem_range.mpr (by omega), by omega⟩
        have hil : i < l.length := by
          have : (sOf l).cps.size = l.length := sOf_len l
          omega
        refine ⟨rfl, yesT ⟨_, rfl, _, _, rfl, rfl, _, upd_same, ?_, ?_⟩⟩
        · rw [List.length_map, List.length_replicate]; exact small1000 (by omega)
        · rw [upd_twice, decide_eq_true hin, List.replicate_succ', List.map_append]
          rfl
      · subst hp
        refine ⟨_, _, rfl, lstAt upd_same, ?_⟩
        rw [all_true]
        exact q _ (same_upd nD)
    · refine ⟨_, rfl, _, rfl, small_len (by decide), _, _, rfl, rfl, _, rfl, iteF ⟨_, rfl, iteF (q H (Same.refl H))⟩⟩
end
abbrev Nam := List Nat
structure DefD (P : Program) (w : World) (K : PySem.W.Frag) (mg : Str → Option Value) (base : Heap) (x : Str) (k : Nat) (ps : List Str) (sp : Sp) (dvs : List V) : Prop where
  ex : ∃ (f : Addr) (fd : FuncData) (ds : List Value), FnOk P w K mg base CX0 k f fd ps sp ∧ mg x = some (.ref f) ∧ PySem.W.keepIn K (.ref f) = true ∧ Binds K fd ps ds ∧ Vals dvs ds
section
variable {X : Cx} {x : Str} {k : Nat} {ps : List Str} {sp : Sp} {dvs : List V} {e : Expr} {es : List Expr} {t : TA} {p pos : Pos}
theorem pe_callDD (D : DefD X.prog X.w X.K X.mg X.base x k ps sp dvs) (hr : Room k X.A) (hg : Gl X x) (ha : PA X (e :: es) t) (hdb : (x == ("__debug__" : Str)) = false := by decide)
    (he : starEach (e :: es) X.env = (false, eval e X.env) :: starEach es X.env := by rfl) (hpl : (backTo pos (starEach es X.env)).any (·.1) = false := by rfl) :
    PE X (.Call (.Name x p) (e :: es) [] pos) (tCall sp dvs E0 t) := by
  obtain ⟨f, fd, ds, F, g, kp, b, r⟩ := D.ex
  exact pe_call F hr hg g kp b r pass0 ha hdb he hpl
end
theorem putF_len (f : Str) (v : V) : ∀ fs : List (Str × V), (putF f v fs).length ≤ fs.length + 1
  | [] => Nat.le_refl _
  | (g, x) :: r => by
    show (if g = f then _ else _ : List (Str × V)).length ≤ _
    split
    · exact Nat.le_succ _
    · exact Nat.succ_le_succ (putF_len f v r)
theorem rd_frame {H H' : Hp} {a p : Addr} {o ins : HO} (h : Rd H a o) (hp : H p = some ins) (n1 : o ≠ ins) (n2 : ∀ ob, HO.frz ob o ≠ ins) (f : ∀ c x, H c = some x → c ≠ p → H' c = some x) : Rd H' a o := by
  rcases h with h | ⟨ob, h⟩
  · exact .inl (f _ _ h (ne_of h hp n1))
  · exact .inr ⟨ob, f _ _ h (ne_of h hp (n2 ob))⟩
theorem sqT_frame {K : PySem.W.Frag} {H H' : Hp} {a p C dx : Addr} {fs : List (Str × V)} {xs : List V} (h : SqT K H a xs) (hp : H p = some (.ins C dx fs)) (f : ∀ c x, H c = some x → c ≠ p → H' c = some x) : SqT K H' a xs := by
  rcases h with h | h
  · exact .inl (rd_frame h hp (by intro z; cases z) (by intro _ z; cases z) f)
  · exact .inr h
theorem sqS_frame {K : PySem.W.Frag} {H H' : Hp} {a p C dx : Addr} {fs : List (Str × V)} {xs : List V} (h : SqS K H a xs) (hp : H p = some (.ins C dx fs)) (f : ∀ c x, H c = some x → c ≠ p → H' c = some x) : SqS K H' a xs := by
  rcases h with h | h
  · rcases h with h | h
    · exact .inl (.inl (rd_frame h hp (by intro z; cases z) (by intro _ z; cases z) f))
    · exact .inl (.inr h)
  · exact .inr (sqT_frame h hp f)
theorem TL.same {H H' : Hp} {a : Addr} {xs : List V} (h : TL H a xs) (s : Same H H') : TL H' a xs := h.elim (fun h => .inl (s _ _ h)) (fun ⟨o, h⟩ => .inr ⟨o, s _ _ h⟩)
theorem tl_frame {H H' : Hp} {a p C dx : Addr} {fs : List (Str × V)} {xs : List V} (h : TL H a xs) (hp : H p = some (.ins C dx fs)) (f : ∀ c x, H c = some x → c ≠ p → H' c = some x) : TL H' a xs := rd_frame h hp (by intro z; cases z) (by intro _ z; cases z) f
theorem nd_len {p zs : List Nam} (h : p.Nodup) (s : ∀ w ∈ p, w ∈ zs) : p.length ≤ zs.length := by
  induction p generalizing zs with
  | nil => exact Nat.zero_le _
  | cons a p ih =>
    have ha := s a List.mem_cons_self
    obtain ⟨n1, n2⟩ := List.nodup_cons.mp h
    have := ih (zs := zs.erase a) n2 fun w hw => (List.mem_erase_of_ne (fun e => n1 (by rw [← e]; exact hw))).mpr (s w (List.mem_cons_of_mem _ hw))
    rw [List.length_erase_of_mem ha] at this
    have hp : 0 < zs.length := List.length_pos_of_mem ha
    simp only [List.length_cons]
    omega
theorem none_of {H H' : Hp} {p : Addr} (s : Same H H') (n : H' p = none) : H p = none := by
  cases e : H p with
  | none => rfl
  | some o => rw [s _ _ e] at n; cases n
theorem letters_nd : ((List.range 26).map fun j => [97 + j]).Nodup := nodup_range fun k j _ _ e => by
  have := List.cons.inj e
  omega
section
variable {P : Program} {w : World} {K : PySem.W.Frag} {mg : Str → Option Value} {base : Heap}
/-! _law_strange -/
def spStrange (K : PySem.W.Frag) : Sp := fun vs H Q _ => ∃ (a : Addr) (zs : List Nam), vs = [.ref a] ∧ SqL K H a (zs.map vN) ∧ zs.length ≤ 25 ∧ ∀ n : Nat, n < 26 → [97 + n] ∉ zs → Q (vN [97 + n]) H
end
section
variable {P : Program} {w : World} {K : PySem.W.Frag} {mg : Str → Option Value} {base : Heap}
end
theorem eq_flat {H : Hp} {t u : Addr} {xs : List V} (h1 : TL H t xs) (h2 : TL H u xs) (hl : xs.length ≤ 1000) (fl : ∀ x ∈ xs, flat1 x = true) (n : Nat) : Eq2 H (n + 1) (.ref t) (.ref u) := by
  refine .inr ⟨t, u, _, _, rfl, rfl, .inr ⟨h1, h2⟩, rfl, by omega, fun i x y hx hy => ?_⟩
  rw [hx] at hy
  have e := Option.some.inj hy
  have f := fl x (List.mem_of_getElem? hx)
  cases n with
  | zero => exact ⟨e, f⟩
  | succ n => exact .inl ⟨e, f⟩
theorem fl_nm {zs : List Nam} : ∀ x ∈ zs.map vN, flat1 x = true := fun x hx => by
  obtain ⟨z, _, rfl⟩ := List.mem_map.mp hx
  rfl
theorem nmH_ok {l : List Nat} (h : NmH l) : PyData.strOk (sOf l) = true := by
  show (sOf l).cps.all (· < 0x110000) = true
  rw [← Array.all_toList, sOf_codes, List.all_eq_true]
  intro c hc
  rcases h with h | rfl
  · have := h.2.2 c hc
    exact decide_eq_true (by omega)
  · cases hc
/-! the keys of two dicts with the same prices -/
theorem nd_lenK {α : Type} [DecidableEq α] {p zs : List α} (h : p.Nodup) (s : ∀ w ∈ p, w ∈ zs) : p.length ≤ zs.length := by
  induction p generalizing zs with
  | nil => exact Nat.zero_le _
  | cons a p ih =>
    have ha := s a List.mem_cons_self
    obtain ⟨n1, n2⟩ := List.nodup_cons.mp h
    have := ih (zs := zs.erase a) n2 fun w hw => (List.mem_erase_of_ne (fun e => n1 (by rw [← e]; exact hw))).mpr (s w (List.mem_cons_of_mem _ hw))
    rw [List.length_erase_of_mem ha] at this
    have hp : 0 < zs.length := List.length_pos_of_mem ha
    simp only [List.length_cons]
    omega
section
variable {X : Cx}
/-- x is not True, x is not False: x a bool -/
theorem op_notBl : OpR X (compareOp .IsNot) (fun x y H Q => ∃ a b : Bool, x = .bl a ∧ y = .bl b ∧ Q (.bl (!decide (a = b))) H) := by
  intro pins s σ H x y v u Q I rx ry h
  obtain ⟨a, b, rfl, rfl, q⟩ := h
  cases (show v = Value.bool a from rx)
  cases (show u = Value.bool b from ry)
  by_cases e : a = b
  · subst e
    exact wpAny_isNot_self rfl ⟨.bl false, H, I, rfl, by simpa using q⟩
  · exact wpAny_isNot_other rfl (fun z => e (Value.bool.inj z)) ⟨.bl true, H, I, rfl, by simpa [e] using q⟩
end
theorem eq_flatL {H : Hp} {t u : Addr} {xs : List V} (h1 : H t = some (.lst xs)) (h2 : H u = some (.lst xs)) (hl : xs.length ≤ 1000) (fl : ∀ x ∈ xs, flat1 x = true) (n : Nat) : Eq2 H (n + 1) (.ref t) (.ref u) := by
  refine .inr ⟨t, u, _, _, rfl, rfl, .inl ⟨h1, h2⟩, rfl, by omega, fun i x y hx hy => ?_⟩
  rw [hx] at hy
  have e := Option.some.inj hy
  have f := fl x (List.mem_of_getElem? hx)
  cases n with
  | zero => exact ⟨e, f⟩
  | succ n => exact .inl ⟨e, f⟩
theorem sqL_frame {K : PySem.W.Frag} {H H' : Hp} {a p C dx : Addr} {fs : List (Str × V)} {xs : List V} (h : SqL K H a xs) (hp : H p = some (.ins C dx fs)) (f : ∀ c x, H c = some x → c ≠ p → H' c = some x) : SqL K H' a xs := by
  rcases h with h | h
  · exact .inl (rd_frame h hp (by intro z; cases z) (by intro _ z; cases z) f)
  · exact .inr h
def spCheckN (K : PySem.W.Frag) : Sp := fun vs H Q _ => ∃ (a : Addr) (m : Int) (zs : List (List Nat)), vs = [.ref a, .int m, .bl false] ∧ SqS K H a (zs.map vN) ∧ 1 ≤ zs.length ∧ (zs.length : Int) ≤ m ∧ zs.length ≤ 6 ∧ (∀ z ∈ zs, Nm z) ∧ zs.Nodup ∧ ∀ H', Same H H' → Q .non H'
section
variable {P : Program} {w : World} {K : PySem.W.Frag} {mg : Str → Option Value} {base : Heap}
theorem ok_check_namesN {f : Addr} {fd : FuncData} {dvs : List V} {kws : List (Str × V)} (F : FunD K "check_names" "check_names" (defArgs s_check_names) (defBody s_check_names) (defScope s_check_names) dvs kws f fd) (m_len : mg "len" = none) (m_enumerate : mg "enumerate" = none)
    (d_check_size : Def P w K mg base "check_size" 1 ["size", "low", "high"] spRange) (d_is_name : Def P w K mg base "is_name" 1 ["word"] spIsNameH) : FnOk P w K mg base CX0 2 f fd ["names", "most", "hook"] (spCheckN K) := by
  refine F.ok (CX := CX0) sc_check_names (fun vs H Q E h => ?_) (fun cdv A outer s H vs Q E hr h => ?_)
  · obtain ⟨a, m, zs, rfl, _⟩ := h
    rfl
  · obtain ⟨a, m, zs, rfl, hS, l1, l2, l6, nm, nd, q⟩ := h
    have hp : ∀ (i : Nat) (x : V) (H2 : Hp), Same H H2 → (zs.map vN)[i]? = some x → ∃ z, zs[i]? = some z ∧ x = vN z ∧ Nm z := fun i x H2 _ hx => by
      obtain ⟨z, ez, rfl⟩ := vN_at hx
      exact ⟨z, ez, rfl, nm z (List.mem_of_getElem? ez)⟩
    rcases hS with hS | hS
    · refine ⟨_, PSs.nox (pss_cons (ps_expr (pe_callD d_check_size (hr.mono (by decide)) (by rfl) (pa_cons (pe_callB call_len_seq (by rfl) m_len (by decide +kernel) (pa_cons (pv 0) pa_nil)) (pa_cons pe_int (pa_cons (pv 1) pa_nil)))))
  (pss_one (ps_for PassesOwn.never rfl (pi_enum (by rfl) m_enumerate (pa_cons (pv 0) pa_nil)) (pg_tup (by rfl) (pgs_cons (pg_name (i := 3) sc_check_names.nd rfl (.inl rfl)) (pgs_cons (pg_name (i := 4) sc_check_names.nd rfl (.inl rfl)) pgs_nil)))
    (pss_cons (ps_if (PW.pt (pw_and (pt_not (pt_val (pe_callD d_is_name (hr.mono (by decide)) (by rfl) (pa_cons (pv 4) pa_nil)))) (pw_and1 (pt_not (PW.pt (pw_and (pt_val (pv 2)) (pw_and1 (pt_cmpR op_eq (pv 4) pe_str (nomark _))))))))) (pss_one ps_never) pss_nil)
  (pss_one (ps_if (pt_cmpR op_in_seq (pv 4) (pe_slice sl_list (pv 0) po_none (po_some (pv 3))) (by rfl)) (pss_one ps_never) pss_nil)))))), ?_⟩
      refine ⟨_, rfl, _, _, rfl, .inl hS, _, rfl, _, _, _, rfl, by rw [List.length_map]; omega, by rw [List.length_map]; omega, ?_⟩
      refine ⟨_, rfl, _, _, rfl, hS, for_it walk_enum (fun i σ H2 => Same H H2 ∧ ∃ y1 y2 : Option V, σ = [some (.ref a), some (.int m), some (.bl false), y1, y2]) ⟨Same.refl H, _, _, rfl⟩ (fun i σ H2 _ hp => hp.1.seq hS) ?_ ?_⟩
      · rintro i x σ H2 H3 hi ⟨sm, y1, y2, rfl⟩ ⟨T, v1, v2, rfl, nT, rfl, e1, e2⟩
        cases e1
        obtain ⟨z, ez, rfl, hz⟩ := hp i _ H2 sm e2
        have sm3 := sm.trans (same_upd (o := .tup [.int (i : Nat), vN z]) nT)
        refine ⟨_, _, rfl, tupAt upd_same, rfl, _, _, rfl, _, _, rfl, rfl, ?_⟩
        refine ⟨_, rfl, z, rfl, .inl hz, fun H4 s4 => ⟨_, rfl, ?_⟩⟩
        have sm4 := sm3.trans s4
        rw [nz_nm hz]
        refine iteF (iteF ?_)
        refine ⟨_, rfl, _, rfl, _, rfl, _, rfl, _, _, rfl, sm4.seq hS, fun p np => ?_⟩
        rw [cut_names]
        have sp := same_upd (o := .lst ((zs.take i).map vN)) np
        refine ⟨p, _, rfl, .inl (lstAt upd_same), rfl, nms_flat _, _, rfl, ?_⟩
        rw [in_nm, decide_eq_false (not_before nd ez)]
        exact iteF ⟨sm4.trans sp, _, _, rfl⟩
      · rintro σ H2 ⟨sm, y1, y2, rfl⟩
        exact q _ sm
    · refine ⟨_, PSs.nox (pss_cons (ps_expr (pe_callD d_check_size (hr.mono (by decide)) (by rfl) (pa_cons (pe_callB call_len_seq (by rfl) m_len (by decide +kernel) (pa_cons (pv 0) pa_nil)) (pa_cons pe_int (pa_cons (pv 1) pa_nil)))))
  (pss_one (ps_for PassesOwn.never rfl (pi_enumT (by rfl) m_enumerate (pa_cons (pv 0) pa_nil)) (pg_tup (by rfl) (pgs_cons (pg_name (i := 3) sc_check_names.nd rfl (.inl rfl)) (pgs_cons (pg_name (i := 4) sc_check_names.nd rfl (.inl rfl)) pgs_nil)))
    (pss_cons (ps_if (PW.pt (pw_and (pt_not (pt_val (pe_callD d_is_name (hr.mono (by decide)) (by rfl) (pa_cons (pv 4) pa_nil)))) (pw_and1 (pt_not (PW.pt (pw_and (pt_val (pv 2)) (pw_and1 (pt_cmpR op_eq (pv 4) pe_str (nomark _))))))))) (pss_one ps_never) pss_nil)
  (pss_one (ps_if (pt_cmpR op_in_seq (pv 4) (pe_slice sl_tup (pv 0) po_none (po_some (pv 3))) (by rfl)) (pss_one ps_never) pss_nil)))))), ?_⟩
      refine ⟨_, rfl, _, _, rfl, .inr hS, _, rfl, _, _, _, rfl, by rw [List.length_map]; omega, by rw [List.length_map]; omega, ?_⟩
      refine ⟨_, rfl, _, _, rfl, hS, for_it walk_enumT (fun i σ H2 => Same H H2 ∧ ∃ y1 y2 : Option V, σ = [some (.ref a), some (.int m), some (.bl false), y1, y2]) ⟨Same.refl H, _, _, rfl⟩ (fun i σ H2 _ hp => same_tup (hp.1) hS) ?_ ?_⟩
      · rintro i x σ H2 H3 hi ⟨sm, y1, y2, rfl⟩ ⟨T, v1, v2, rfl, nT, rfl, e1, e2⟩
        cases e1
        obtain ⟨z, ez, rfl, hz⟩ := hp i _ H2 sm e2
        have sm3 := sm.trans (same_upd (o := .tup [.int (i : Nat), vN z]) nT)
        refine ⟨_, _, rfl, tupAt upd_same, rfl, _, _, rfl, _, _, rfl, rfl, ?_⟩
        refine ⟨_, rfl, z, rfl, .inl hz, fun H4 s4 => ⟨_, rfl, ?_⟩⟩
        have sm4 := sm3.trans s4
        rw [nz_nm hz]
        refine iteF (iteF ?_)
        refine ⟨_, rfl, _, rfl, _, rfl, _, rfl, _, _, rfl, same_tup (sm4) hS, (by rintro ⟨_, hw⟩; rw [HT.sIx_nat] at hw; have hi' : i < (zs.map vN).length := hi; omega), fun p np => ?_⟩
        rw [cut_names]
        have sp := same_upd (o := .tup ((zs.take i).map vN)) np
        refine ⟨p, _, rfl, .inr (tupAt upd_same), rfl, nms_flat _, _, rfl, ?_⟩
        rw [in_nm, decide_eq_false (not_before nd ez)]
        exact iteF ⟨sm4.trans sp, _, _, rfl⟩
      · rintro σ H2 ⟨sm, y1, y2, rfl⟩
        exact q _ sm
end
theorem flt_at {α : Type} {p : α → Bool} {l : List α} {i : Nat} {x : α} (h : l[i]? = some x) : (l.take (i + 1)).filter p = (l.take i).filter p ++ if p x then [x] else [] := by
  rw [List.take_add_one, h, List.filter_append]
  by_cases q : p x = true
  · rw [if_pos q]; show _ ++ List.filter p [x] = _; rw [List.filter_cons, if_pos q, List.filter_nil]
  · rw [if_neg q]; show _ ++ List.filter p [x] = _; rw [List.filter_cons, if_neg q, List.filter_nil]
def SameP (p : Addr) (H H' : Hp) : Prop := ∀ c o, H c = some o → c ≠ p → H' c = some o
theorem same_p {p : Addr} {H H' : Hp} (s : Same H H') : SameP p H H' := fun c o e _ => s c o e
theorem SameP.trans {p : Addr} {H H' H'' : Hp} (s : SameP p H H') (t : SameP p H' H'') : SameP p H H'' := fun c o e n => t c o (s c o e n) n
theorem samep_upd {p : Addr} {H : Hp} {o : HO} : SameP p H (upd H p o) := fun c x e n => by rw [upd_ne n]; exact e
theorem put_len {f : Str} {v : V} {fs : List (Str × V)} {n : Nat} (h : fs.length ≤ n) : (putF f v fs).length ≤ n + 1 := Nat.le_trans (putF_len f v fs) (Nat.succ_le_succ h)
theorem put_same (f : Str) (v : V) (fs : List (Str × V)) : (putF f v fs).lookup f = some v := by
  rw [lookup_putF, if_pos rfl]
theorem put_ne {f g : Str} {v x : V} {fs : List (Str × V)} (h : fs.lookup g = some x) (n : ¬ g = f) : (putF f v fs).lookup g = some x := by
  rw [lookup_putF, if_neg n]
  exact h
end TK

/-! links, some of a row, a row in another order -/
namespace TK
open PySem PySem.Spec PyProof.Rows L2
/-! the two ends of a tie -/
theorem two_ne {L a d : Int} (h0 : 0 ≤ a) (h1 : a < L) (d0 : 0 ≤ d) (d1 : d < L - 1) : 0 ≤ (a + 1 + d) % L ∧ (a + 1 + d) % L < L ∧ (a + 1 + d) % L ≠ a := by
  refine ⟨Int.emod_nonneg _ (by omega), Int.emod_lt_of_pos _ (by omega), ?_⟩
  by_cases h : a + 1 + d < L
  · rw [Int.emod_eq_of_lt (by omega) h]; omega
  · rw [show a + 1 + d = (a + 1 + d - L) + L * 1 by omega, Int.add_mul_emod_self_left, Int.emod_eq_of_lt (by omega) (by omega)]; omega
theorem nm_getC {zs : List Nam} {i : Int} (h0 : 0 ≤ i) (h : i < zs.length) : ∃ z, zs[i.toNat]? = some z ∧ z ∈ zs ∧ atI (zs.map vN) i = some (vN z) := by
  have hl : i.toNat < zs.length := by omega
  refine ⟨zs[i.toNat], List.getElem?_eq_getElem hl, List.getElem_mem hl, atI_in h0 ?_⟩
  rw [List.getElem?_map, List.getElem?_eq_getElem hl]
  rfl
theorem nm_neC {zs : List Nam} {i j : Int} {y z : Nam} (nd : zs.Nodup) (i0 : 0 ≤ i) (j0 : 0 ≤ j) (h1 : zs[i.toNat]? = some y) (h2 : zs[j.toNat]? = some z) (ne : j ≠ i) : y ≠ z := by
  intro e
  subst e
  have hl := (List.getElem?_eq_some_iff.mp h1).1
  have := (List.getElem?_inj hl nd).mp (h1.trans h2.symm)
  omega
theorem pow4 {i : Int} (h0 : 0 ≤ i) (h1 : i < 4) : ∃ v : Int, atI [V.int 1, V.int 2, V.int 4, V.int 8] i = some (.int v) ∧ 0 < v ∧ v < 1000000 := by
  obtain rfl | rfl | rfl | rfl : i = 0 ∨ i = 1 ∨ i = 2 ∨ i = 3 := by omega
  · exact ⟨1, rfl, by decide, by decide⟩
  · exact ⟨2, rfl, by decide, by decide⟩
  · exact ⟨4, rfl, by decide, by decide⟩
  · exact ⟨8, rfl, by decide, by decide⟩
theorem nm_at {zs : List (List Nat)} {i : Int} (h0 : 0 ≤ i) (h : i < zs.length) : ∃ z, zs[i.toNat]? = some z ∧ atI (zs.map vN) i = some (vN z) := by
  have h1 : i.toNat < zs.length := by omega
  refine ⟨zs[i.toNat], List.getElem?_eq_getElem h1, atI_in h0 ?_⟩
  rw [List.getElem?_map, List.getElem?_eq_getElem h1]; rfl
theorem sub_snoc {α : Type} {ws zs : List α} {i : Nat} {z : α} (h : ws.Sublist (zs.take i)) (e : zs[i]? = some z) : (ws ++ [z]).Sublist (zs.take (i + 1)) := by
  rw [List.take_add_one, e]
  exact h.append (List.Sublist.refl _)
theorem sub_keep {α : Type} {ws zs : List α} {i : Nat} (h : ws.Sublist (zs.take i)) : ws.Sublist (zs.take (i + 1)) := by
  rw [List.take_add_one]
  exact h.trans (List.sublist_append_left _ _)
theorem erase_perm {α : Type} : ∀ {rs : List α} {k : Nat} {x : α}, rs[k]? = some x → (x :: rs.eraseIdx k).Perm rs
  | [], k, x, h => by simp at h
  | r :: rs, 0, x, h => by
    have : r = x := by simpa using h
    subst this; exact List.Perm.refl _
  | r :: rs, k + 1, x, h => by
    have ih := erase_perm (rs := rs) (k := k) (x := x) (by simpa using h)
    exact (List.Perm.swap r x _).trans (ih.cons r)
theorem erase_map {α β : Type} (f : α → β) : ∀ {rs : List α} {k : Nat}, (rs.map f).eraseIdx k = (rs.eraseIdx k).map f
  | [], k => rfl
  | r :: rs, 0 => rfl
  | r :: rs, k + 1 => by
    show f r :: (rs.map f).eraseIdx k = _
    rw [erase_map f]; rfl
theorem erase_len {α : Type} {rs : List α} {k : Nat} (h : k < rs.length) : (rs.eraseIdx k).length + 1 = rs.length := by
  rw [List.length_eraseIdx, if_pos h]; omega
theorem sh1 {i : Int} (h0 : 0 ≤ i) (h1 : i < 4) : ∃ v : Int, atI [V.int 1, V.int 4, V.int 12, V.int 24] i = some (.int v) ∧ 0 < v ∧ v < 1000000 := by
  obtain rfl | rfl | rfl | rfl : i = 0 ∨ i = 1 ∨ i = 2 ∨ i = 3 := by omega
  · exact ⟨1, rfl, by decide, by decide⟩
  · exact ⟨4, rfl, by decide, by decide⟩
  · exact ⟨12, rfl, by decide, by decide⟩
  · exact ⟨24, rfl, by decide, by decide⟩
theorem sh2 {i : Int} (h0 : 0 ≤ i) (h1 : i < 4) : ∃ v : Int, atI [V.int 4, V.int 3, V.int 2, V.int 1] i = some (.int v) ∧ 0 < v ∧ v < 1000000 := by
  obtain rfl | rfl | rfl | rfl : i = 0 ∨ i = 1 ∨ i = 2 ∨ i = 3 := by omega
  · exact ⟨4, rfl, by decide, by decide⟩
  · exact ⟨3, rfl, by decide, by decide⟩
  · exact ⟨2, rfl, by decide, by decide⟩
  · exact ⟨1, rfl, by decide, by decide⟩
theorem ne_new {H : Hp} {a b : Addr} {o : HO} (h : H a = some o) (n : H b = none) : a ≠ b := fun e => by rw [e, n] at h; cases h
section
variable {P : Program} {w : World} {K : PySem.W.Frag} {mg : Str → Option Value} {base : Heap}
def spSome (K : PySem.W.Frag) : Sp := fun vs H Q _ => ∃ (a p : Addr) (ns : List Int) (s : Int) (zs : List (List Nat)), vs = [.ref a, .int s, .ref p] ∧ SqL K H a (ns.map V.int) ∧ 0 ≤ s ∧ s < ns.length ∧ SqL K H p (zs.map vN) ∧ zs.length ≤ 4 ∧
  ∀ (d : Addr) (ws : List (List Nat)) (H' : Hp), Same H H' → H d = none → H' d = some (.lst (ws.map vN)) → ws.Sublist zs → Q (.ref d) H'
theorem ok_L_some {f : Addr} {fd : FuncData} (F : Fun K "_law_some" "_law_some" s_L_some f fd) (m_len : mg "len" = none) (m_range : mg "range" = none) (d_L_part : Def P w K mg base "_law_part" 1 ["_law_pool_here", "_law_spot", "_law_under", "_law_size"] (spPart K)) :
    FnOk P w K mg base CX0 2 f fd ["_law_pool_here", "_law_spot", "_law_names_here"] (spSome K) := by
  refine F.ok sc_L_some (fun vs H Q E h => ?_) (fun cdv A outer s H vs Q E hr h => ?_)
  · obtain ⟨a, p, ns, s, zs, rfl, _⟩ := h
    rfl
  · obtain ⟨a, p, ns, s, zs, rfl, hS, h0, h1, hp, hl, q⟩ := h
    refine ⟨_, (pss_cons (ps_set (i := 3) sc_L_some.nd rfl (.inl rfl) (pe_lst pa_nil))
  (pss_cons (ps_for PassesOwn.never rfl (pi_range1 (by rfl) m_range (pa_cons (pe_callB call_len_seq (by rfl) m_len (by decide +kernel) (pa_cons (pv 2) pa_nil)) pa_nil)) (pg_name (i := 4) sc_L_some.nd rfl (.inl rfl))
    (pss_one (ps_if (pt_cmpR op_eq (pe_callD d_L_part (hr.mono (by decide)) (by rfl) (pa_cons (pv 0) (pa_cons (pv 1) (pa_cons (pe_ix ix_list (pe_lst (pa_cons pe_int (pa_cons pe_int (pa_cons pe_int (pa_cons pe_int pa_nil))))) (pv 4) (fun _ _ => rfl)) (pa_cons pe_int pa_nil))))) pe_int (nomark _)) (pss_one (ps_expr (pe_bm PySem.F.plainAttrs_list PySem.F.slot_list_append PySem.F.type_list_append mt_append (pv 3) (pa_cons (pe_ix ix_list (pv 2) (pv 4) (fun _ _ => rfl)) pa_nil)))) pss_nil)))
  (pss_one (ps_ret (pv 3))))), ?_⟩
    refine ⟨Nat.zero_le _, fun d nd => ?_⟩
    have s1 : Same H (upd H d (.lst [])) := same_upd nd
    refine ⟨_, rfl, _, _, rfl, .inl (s1.seq hp), _, rfl, by omega, by rw [List.length_map]; omega, for_range (fun i σ H2 => Same H H2 ∧ ∃ (ws : List (List Nat)) (y : Option V), σ = [some (.ref a), some (.int s), some (.ref p), some (.ref d), y] ∧ ws.Sublist (zs.take i) ∧ H2 d = some (.lst (ws.map vN))) ⟨s1, [], _, rfl, List.Sublist.refl _, upd_same⟩ ?_ ?_⟩
    · rintro i σ H2 hi ⟨sm, ws, y, rfl, sub, ed⟩
      rw [List.length_map] at hi
      obtain ⟨u, eu, u0, u1⟩ := pow4 (i := 0 + (i : Int)) (by omega) (by omega)
      refine ⟨_, rfl, _, rfl, (show 4 ≤ sizeLine by decide), fun l nl => ⟨_, rfl, _, _, _, _, rfl, rfl, lstAt upd_same, eu, ?_⟩⟩
      have sl := same_upd (o := .lst [V.int 1, V.int 2, V.int 4, V.int 8]) nl
      have sm2 := sm.trans sl
      refine ⟨a, ns, s, u, 2, rfl, sm2.seq hS, h0, h1, u0, u1, by decide, ?_⟩
      refine ⟨rfl, _, rfl, ite2 (fun e => ?_) (fun e => ?_)⟩
      · obtain ⟨z, ez, az⟩ := nm_at (zs := zs) (i := 0 + (i : Int)) (by omega) (by omega)
        rw [show (0 + (i : Int)).toNat = i by omega] at ez
        refine ⟨_, rfl, .inl ⟨rfl, _, lstAt (sl _ _ ed)⟩, _, rfl, _, rfl, _, _, _, _, rfl, rfl, sm2.seq hp, az, ?_⟩
        have hw := sub.length_le
        rw [List.length_take] at hw
        refine ⟨_, _, _, rfl, rfl, sl _ _ ed, by rw [List.length_map]; exact small1000 (by omega), same_at sm2 nd, ws ++ [z], _, rfl, sub_snoc sub ez, ?_⟩
        rw [upd_same, List.map_append]; rfl
      · exact ⟨sm2, ws, _, rfl, sub_keep sub, sl _ _ ed⟩
    · rintro σ H2 ⟨sm, ws, y, rfl, sub, ed⟩
      rw [List.length_map, Int.toNat_natCast, List.take_length] at sub
      exact ⟨_, rfl, q d ws H2 sm nd ed sub⟩
def spShufG {α : Type} (emb : α → V) (K : PySem.W.Frag) : Sp := fun vs H Q _ => ∃ (a p : Addr) (ns : List Int) (s : Int) (zs : List α), vs = [.ref a, .int s, .ref p] ∧ SqL K H a (ns.map V.int) ∧ 0 ≤ s ∧ s < ns.length ∧ SqL K H p (zs.map emb) ∧ zs.length ≤ 4 ∧
  ∀ (d : Addr) (ts : List α) (H' : Hp), Same H H' → H d = none → H' d = some (.lst (ts.map emb)) → ts.Perm zs → Q (.ref d) H'
theorem ok_L_shuffledG {α : Type} (emb : α → V) {f : Addr} {fd : FuncData} (F : Fun K "_law_shuffled" "_law_shuffled" s_L_shuffled f fd) (m_len : mg "len" = none) (m_range : mg "range" = none) (m_list : mg "list" = none) (d_L_part : Def P w K mg base "_law_part" 1 ["_law_pool_here", "_law_spot", "_law_under", "_law_size"] (spPart K)) :
    FnOk P w K mg base CX0 2 f fd ["_law_pool_here", "_law_spot", "_law_row"] (spShufG emb K) := by
  refine F.ok sc_L_shuffled (fun vs H Q E h => ?_) (fun cdv A outer s H vs Q E hr h => ?_)
  · obtain ⟨a, p, ns, s, zs, rfl, _⟩ := h
    rfl
  · obtain ⟨a, p, ns, s, zs, rfl, hS, h0, h1, hp, hl, q⟩ := h
    refine ⟨_, (pss_cons (ps_set (i := 3) sc_L_shuffled.nd rfl (.inl rfl) (pe_callTy call_list_of (by rfl) m_list (by decide +kernel) (pa_cons (pv 2) pa_nil)))
  (pss_cons (ps_set (i := 4) sc_L_shuffled.nd rfl (.inl rfl) (pe_lst pa_nil))
  (pss_cons (ps_for PassesOwn.never rfl (pi_range1 (by rfl) m_range (pa_cons (pe_callB call_len_seq (by rfl) m_len (by decide +kernel) (pa_cons (pv 2) pa_nil)) pa_nil)) (pg_name (i := 5) sc_L_shuffled.nd rfl (.inl rfl))
    (pss_one (ps_expr (pe_bm PySem.F.plainAttrs_list PySem.F.slot_list_append PySem.F.type_list_append mt_append (pv 4) (pa_cons (pe_bm PySem.F.plainAttrs_list PySem.F.slot_list_pop PySem.F.type_list_pop mt_popAt (pv 3) (pa_cons (pe_op op_modN (pe_callD d_L_part (hr.mono (by decide)) (by rfl) (pa_cons (pv 0) (pa_cons (pv 1) (pa_cons (pe_ix ix_list (pe_lst (pa_cons pe_int (pa_cons pe_int (pa_cons pe_int (pa_cons pe_int pa_nil))))) (pv 5) (fun _ _ => rfl)) (pa_cons (pe_ix ix_list (pe_lst (pa_cons pe_int (pa_cons pe_int (pa_cons pe_int (pa_cons pe_int pa_nil))))) (pv 5) (fun _ _ => rfl)) pa_nil))))) (pe_callB call_len_seq (by rfl) m_len (by decide +kernel) (pa_cons (pv 3) pa_nil))) pa_nil)) pa_nil)))))
  (pss_one (ps_ret (pv 4)))))), ?_⟩
    refine ⟨_, rfl, p, _, rfl, .inl hp, fun lf nlf => ?_⟩
    have s1 : Same H (upd H lf (.lst (zs.map emb))) := same_upd nlf
    refine ⟨Nat.zero_le _, fun tk ntk => ?_⟩
    have s2 := s1.trans (same_upd (o := .lst []) ntk)
    have ntk0 : H tk = none := s1.free ntk
    have hne : lf ≠ tk := ne_new upd_same ntk
    refine ⟨_, rfl, _, _, rfl, .inl (s2.seq hp), _, rfl, by omega, by rw [List.length_map]; omega, for_range (fun i σ H2 => Same H H2 ∧ ∃ (rs ts : List α) (y : Option V), σ = [some (.ref a), some (.int s), some (.ref p), some (.ref lf), some (.ref tk), y] ∧ H2 lf = some (.lst (rs.map emb)) ∧ H2 tk = some (.lst (ts.map emb)) ∧ rs.length + i = zs.length ∧ ts.length = i ∧ (ts ++ rs).Perm zs)
      ⟨s2, zs, [], _, rfl, by rw [upd_ne hne]; exact upd_same, upd_same, rfl, rfl, List.Perm.refl _⟩ ?_ ?_⟩
    · rintro i σ H2 hi ⟨sm, rs, ts, y, rfl, el, et, ll, lt, pm⟩
      rw [List.length_map] at hi
      obtain ⟨u, eu, u0, u1⟩ := sh1 (i := 0 + (i : Int)) (by omega) (by omega)
      obtain ⟨v, ev, v0, v1⟩ := sh2 (i := 0 + (i : Int)) (by omega) (by omega)
      have rl : 0 < rs.length := by omega
      have m0 := Int.emod_nonneg (partOf ns s u v) (show (rs.length : Int) ≠ 0 by omega)
      have m1 := Int.emod_lt_of_pos (partOf ns s u v) (show (0 : Int) < (rs.length : Int) by omega)
      obtain ⟨k, hk⟩ : ∃ k : Nat, partOf ns s u v % (rs.length : Int) = (k : Int) := ⟨(partOf ns s u v % (rs.length : Int)).toNat, by omega⟩
      have hkl : k < rs.length := by omega
      have ek : rs[k]? = some rs[k] := List.getElem?_eq_getElem hkl
      refine ⟨_, rfl, .inl ⟨rfl, _, lstAt et⟩, _, rfl, .inl ⟨rfl, _, lstAt el⟩, ?_⟩
      refine ⟨_, rfl, _, rfl, (show 4 ≤ sizeLine by decide), fun l1 n1 => ⟨_, rfl, _, _, _, _, rfl, rfl, lstAt upd_same, eu, (show 4 ≤ sizeLine by decide), fun l2 n2 => ⟨_, rfl, _, _, _, _, rfl, rfl, lstAt upd_same, ev, ?_⟩⟩⟩
      have t1 := same_upd (o := .lst [V.int 1, V.int 4, V.int 12, V.int 24]) n1
      have t2 := t1.trans (same_upd (o := .lst [V.int 4, V.int 3, V.int 2, V.int 1]) n2)
      have sm2 := sm.trans t2
      have el2 := t2 _ _ el
      have et2 := t2 _ _ et
      obtain ⟨H4, eH4⟩ : ∃ H4, H4 = upd (upd H2 l1 (.lst [V.int 1, V.int 4, V.int 12, V.int 24])) l2 (.lst [V.int 4, V.int 3, V.int 2, V.int 1]) := ⟨_, rfl⟩
      rw [← eH4] at t2 sm2 el2 et2 ⊢
      refine ⟨a, ns, s, u, v, rfl, sm2.seq hS, h0, h1, u0, u1, v0, ?_⟩
      refine ⟨_, rfl, _, _, rfl, .inl (lstAt el2), _, _, rfl, rfl, (by show ((rs.map emb).length : Int) ≠ 0; rw [List.length_map]; omega), ?_⟩
      have fm : (partOf ns s u v).fmod ((rs.map emb).length : Int) = (k : Int) := by rw [List.length_map, Int.fmod_eq_emod_of_nonneg _ (by omega), hk]
      refine ⟨lf, rs.map emb, (k : Int), k, emb rs[k], rfl, congrArg (fun z => [V.int z]) fm, el2, by omega, by omega, ?_, by rw [List.getElem?_map, ek]; rfl, ?_⟩
      · rw [List.length_map]
        have : seqIndex? ((k : Nat) : Int) rs.length = some k := by
          unfold seqIndex?
          simp
          omega
        exact this
      rw [erase_map]
      have et5 : (upd H4 lf (.lst ((rs.eraseIdx k).map emb))) tk = some (.lst (ts.map emb)) := by rw [upd_ne hne.symm]; exact et2
      refine ⟨_, _, _, rfl, rfl, et5, by rw [List.length_map]; exact small1000 (by omega), ?_⟩
      refine ⟨same_at (same_at sm2 nlf) ntk0, rs.eraseIdx k, ts ++ [rs[k]], _, rfl, by rw [upd_ne hne]; exact upd_same, by rw [upd_same, List.map_append]; rfl, by have := erase_len hkl; omega, by rw [List.length_append, lt]; rfl, ?_⟩
      refine List.Perm.trans ?_ pm
      rw [List.append_assoc]
      exact (erase_perm ek).append_left ts
    · rintro σ H2 ⟨sm, rs, ts, y, rfl, el, et, ll, lt, pm⟩
      rw [List.length_map, Int.toNat_natCast] at ll
      have : rs = [] := List.length_eq_zero_iff.mp (by omega)
      subst this
      rw [List.append_nil] at pm
      exact ⟨_, rfl, q tk ts H2 sm ntk0 et pm⟩
end
end TK


/-! picks and bids of pages -/
namespace TK
open PySem PySem.Spec PyProof.Rows L2
theorem gTup2w {K : PySem.W.Frag} {i j : Nat} {e : Addr} {x y : V} {σ : L2.St} {H : Hp} {Q : L2.St → Hp → Prop} (he : H e = some (.tup [x, y])) (σ' : L2.St) (hσ : (σ.set i (some x)).set j (some y) = σ') (h : Q σ' H) :
    gTup K 2 (gCons (gName i) (gCons (gName j) gNil)) (.ref e) σ H Q := by
  subst hσ
  exact ⟨_, _, rfl, tupAt he, rfl, _, _, rfl, _, _, rfl, rfl, h⟩
abbrev BidD := Nam × Int
def BidsAt (H : Hp) (es : List Addr) (ds : List BidD) : Prop := es.length = ds.length ∧ ∀ (i : Nat) (e : Addr), es[i]? = some e → ∃ d, ds[i]? = some d ∧ H e = some (.tup [vN d.1, .int d.2])
theorem BidsAt.same {H H' : Hp} {es : List Addr} {ds : List BidD} (h : BidsAt H es ds) (s : Same H H') : BidsAt H' es ds := ⟨h.1, fun i e he => by
  obtain ⟨d, a, b⟩ := h.2 i e he
  exact ⟨d, a, s _ _ b⟩⟩
theorem bids_at {H : Hp} {es : List Addr} {ds : List BidD} (h : BidsAt H es ds) {i : Nat} {x : V} (hx : (es.map V.ref)[i]? = some x) : ∃ e d, x = .ref e ∧ ds[i]? = some d ∧ H e = some (.tup [vN d.1, .int d.2]) := by
  rw [List.getElem?_map] at hx
  obtain ⟨e, he, rfl⟩ := Option.map_eq_some_iff.mp hx
  obtain ⟨d, a, b⟩ := h.2 i e he
  exact ⟨e, d, rfl, a, b⟩
theorem BidsAt.app {H : Hp} {es fs : List Addr} {ds us : List BidD} (h : BidsAt H es ds) (k : BidsAt H fs us) : BidsAt H (es ++ fs) (ds ++ us) := by
  refine ⟨by rw [List.length_append, List.length_append, h.1, k.1], fun i e he => ?_⟩
  by_cases hi : i < es.length
  · rw [List.getElem?_append_left hi] at he
    rw [List.getElem?_append_left (by rw [← h.1]; exact hi)]
    exact h.2 i e he
  · rw [List.getElem?_append_right (by omega)] at he
    rw [List.getElem?_append_right (by rw [← h.1]; omega), ← h.1]
    exact k.2 _ e he
theorem BidsAt.one {H : Hp} {e : Addr} {d : BidD} (h : H e = some (.tup [vN d.1, .int d.2])) : BidsAt H [e] [d] := ⟨rfl, fun i a ha => by
  match i, ha with
  | 0, ha => cases Option.some.inj ha; exact ⟨d, rfl, h⟩⟩
theorem BidsAt.wrote {H : Hp} {es : List Addr} {ds : List BidD} {D : Addr} {xs : List V} {o : HO} (h : BidsAt H es ds) (eD : H D = some (.lst xs)) : BidsAt (upd H D o) es ds := ⟨h.1, fun i e he => by
  obtain ⟨d, a, b⟩ := h.2 i e he
  exact ⟨d, a, by rw [upd_ne (ne_of b eD (by intro z; cases z))]; exact b⟩⟩
/-- right bids of the members -/
structure BOk (zs : List Nam) (ds : List BidD) : Prop where
  nd : (ds.map (·.1)).Nodup
  sub : ∀ x ∈ ds.map (·.1), x ∈ zs
  h0 : ∀ d ∈ ds, 0 ≤ d.2
  h9 : ∀ d ∈ ds, d.2 ≤ 1000000000
theorem strs_nd {xs : List Nam} (h : xs.Nodup) : (xs.map sOf).Nodup := by
  rw [List.nodup_iff_pairwise_ne, List.pairwise_map]
  exact (List.nodup_iff_pairwise_ne.mp h).imp fun hne e => hne (sOf_inj e)
section
variable {P : Program} {w : World} {K : PySem.W.Frag} {mg : Str → Option Value} {base : Heap}
def spArePicks (K : PySem.W.Frag) : Sp := fun vs H Q _ => ∃ (a b : Addr) (xs ys : List Nam), vs = [.ref a, .ref b] ∧ SqL K H a (xs.map vN) ∧ SqS K H b (ys.map vN) ∧ xs.Nodup ∧ (∀ x ∈ xs, x ∈ ys) ∧ xs.length < 64 ∧ ∀ H', Same H H' → Q (.bl true) H'
theorem ok_are_picks {f : Addr} {fd : FuncData} (F : Fun K "_are_picks" "_are_picks" s_are_picks f fd) (m_all : mg "all" = none) (m_len : mg "len" = none) (m_set : mg "set" = none) : FnOk P w K mg base CX0 1 f fd ["picks", "known"] (spArePicks K) := by
  refine F.ok sc_are_picks (fun vs H Q E h => ?_) (fun cdv A outer s H vs Q E hr h => ?_)
  · obtain ⟨a, b, xs, ys, rfl, _⟩ := h
    rfl
  · obtain ⟨a, b, xs, ys, rfl, hA, hB, nd, sub, l64, q⟩ := h
    have xl : (xs.map vN).length = xs.length := List.length_map ..
    refine ⟨_, (pss_one (ps_ret (pe_and (pe_callB (cr_all rfl) (by rfl) m_all (by decide +kernel) (pa_cons (pe_lc (own := [("pick", 2)]) (by rfl) sc_are_picks.nd (pi_list (pv 0)) (blkOk_by (N := ["picks", "known", "pick"]) (sc := defScope s_are_picks) (by decide +kernel)) (fun _ _ _ _ _ => (pg_name (i := 2) sc_are_picks.nd rfl (.inl rfl))) (fun _ _ _ _ _ => pts_nil) (fun _ _ _ _ _ => (pe_cmpR (op_in_seqK (K := K) rfl) (pv 2) (pv 1) (by rfl)))) pa_nil)) (pe_one (pe_cmpR op_eq (pe_lenSetN rfl (by rfl) m_len (by rfl) m_set (pv 0)) (pe_callB call_len_seq (by rfl) m_len (by decide +kernel) (pa_cons (pv 0) pa_nil)) (nomark _)))))), ?_⟩
    refine ⟨_, rfl, a, rfl, ⟨_, hA⟩, fun D nD => ?_⟩
    refine lc_list (K := K) (a := a) (xs := xs.map vN) (fun i H' => Same H H' ∧ H' D = some (.lst ((List.replicate i true).map V.bl))) ⟨same_upd nD, upd_same⟩ (fun i H' _ hq => hq.1.seq hA) (fun i v H' hv hq => ?_) (fun H' hq => ?_)
    · obtain ⟨s1, eD⟩ := hq
      obtain ⟨x, ex, rfl⟩ := vN_at hv
      have hi : i < 64 := Nat.lt_trans (List.getElem?_eq_some_iff.mp ex).1 l64
      refine ⟨rfl, yesT ⟨_, rfl, _, rfl, b, _, rfl, hB.elim (fun h => .inl (s1.seq h)) (fun h => .inr (same_tup s1 h)), rfl, nms_flat _, _, eD, by rw [List.length_map, List.length_replicate]; exact small1000 (by omega), same_at s1 nD, ?_⟩⟩
      rw [in_nm, decide_eq_true (sub x (List.mem_of_getElem? ex)), List.replicate_succ', List.map_append]
      exact upd_same
    · obtain ⟨s1, eD⟩ := hq
      refine ⟨_, _, rfl, lstAt eD, ?_⟩
      rw [all_true]
      refine ⟨_, rfl, iteT ?_⟩
      refine ⟨_, rfl, a, xs.map sOf, rfl, by rw [← vN_strs]; exact s1.seq hA, strs_nd nd, by rw [List.length_map]; exact l64, _, rfl, a, _, rfl, .inl (s1.seq hA), rfl, ?_⟩
      rw [List.length_map, xl]
      exact bint (congrArg V.bl (decide_eq_true rfl)) (q _ s1)
def spAreBids (K : PySem.W.Frag) : Sp := fun vs H Q _ => ∃ (a b : Addr) (zs : List Nam) (es : List Addr) (ds : List BidD), vs = [.ref a, .ref b] ∧ SqL K H a (es.map V.ref) ∧ BidsAt H es ds ∧ SqS K H b (zs.map vN) ∧ BOk zs ds ∧ ds.length < 64 ∧ ∀ H', Same H H' → Q (.bl true) H'
theorem ok_are_bids {f : Addr} {fd : FuncData} (F : Fun K "_are_bids" "_are_bids" s_are_bids f fd) (m_all : mg "all" = none) (d_are_picks : Def P w K mg base "_are_picks" 1 ["picks", "known"] (spArePicks K)) : FnOk P w K mg base CX0 2 f fd ["bids", "members"] (spAreBids K) := by
  refine F.ok sc_are_bids (fun vs H Q E h => ?_) (fun cdv A outer s H vs Q E hr h => ?_)
  · obtain ⟨a, b, zs, es, ds, rfl, _⟩ := h
    rfl
  · obtain ⟨a, b, zs, es, ds, rfl, hA, hT, hB, ok, l64, q⟩ := h
    have el : (es.map V.ref).length = ds.length := by rw [List.length_map, hT.1]
    refine ⟨_, (pss_one (ps_ret (pe_and (pe_callD d_are_picks (hr.mono (by decide)) (by rfl) (pa_cons (pe_lc (own := [("member", 2), ("_", 3)]) (by rfl) sc_are_bids.nd (pi_list (pv 0)) (blkOk_by (N := ["bids", "members", "member", "_", "bid"]) (sc := defScope s_are_bids) (by decide +kernel)) (fun _ _ _ _ _ => (pg_tupK (K := K) (n := 2) rfl (by rfl) (pgs_cons (pg_name (i := 2) sc_are_bids.nd rfl (.inl rfl)) (pgs_cons (pg_name (i := 3) sc_are_bids.nd rfl (.inl rfl)) pgs_nil)))) (fun _ _ _ _ _ => pts_nil) (fun _ _ _ _ _ => (pv 2))) (pa_cons (pv 1) pa_nil))) (pe_one (pe_callB (cr_all rfl) (by rfl) m_all (by decide +kernel) (pa_cons (pe_lc (own := [("_", 3), ("bid", 4)]) (by rfl) sc_are_bids.nd (pi_list (pv 0)) (blkOk_by (N := ["bids", "members", "member", "_", "bid"]) (sc := defScope s_are_bids) (by decide +kernel)) (fun _ _ _ _ _ => (pg_tupK (K := K) (n := 2) rfl (by rfl) (pgs_cons (pg_name (i := 3) sc_are_bids.nd rfl (.inl rfl)) (pgs_cons (pg_name (i := 4) sc_are_bids.nd rfl (.inl rfl)) pgs_nil)))) (fun _ _ _ _ _ => pts_nil) (fun _ _ _ _ _ => (pe_chain op_le op_le pe_int (pv 4) (pe_op op_pow pe_int pe_int)))) pa_nil)))))), ?_⟩
    refine ⟨_, rfl, a, rfl, ⟨_, hA⟩, fun D nD => ?_⟩
    refine lc_list (K := K) (a := a) (xs := es.map V.ref) (fun i H' => Same H H' ∧ H' D = some (.lst ((ds.take i).map fun d => vN d.1))) ⟨same_upd nD, upd_same⟩ (fun i H' _ hq => hq.1.seq hA) (fun i v H' hv hq => ?_) (fun H1 hq => ?_)
    · obtain ⟨s1, eD⟩ := hq
      obtain ⟨e, d, rfl, ed, he⟩ := bids_at (hT.same s1) hv
      have hi := (List.getElem?_eq_some_iff.mp ed).1
      refine gTup2w he [some (.ref a), some (.ref b), some (vN d.1), some (.int d.2), none] (by simp [wipe, L2.start]) ?_
      refine ⟨rfl, yesT ⟨_, rfl, _, eD, by rw [List.length_map, List.length_take]; exact small1000 (by omega), same_at s1 nD, ?_⟩⟩
      rw [List.take_add_one, ed, List.map_append]
      exact upd_same
    · obtain ⟨s1, eD⟩ := hq
      rw [el, List.take_length] at eD
      have e0 : (ds.map fun d => vN d.1) = (ds.map (·.1)).map vN := by rw [List.map_map]; rfl
      rw [e0] at eD
      refine ⟨_, rfl, D, b, ds.map (·.1), zs, rfl, lstAt eD, hB.elim (fun h => .inl (s1.seq h)) (fun h => .inr (same_tup s1 h)), ok.nd, ok.sub, by rw [List.length_map]; exact l64, fun H2 s2 => ?_⟩
      have s12 := s1.trans s2
      refine ⟨_, rfl, iteT ?_⟩
      refine ⟨_, rfl, a, rfl, ⟨_, s12.seq hA⟩, fun D2 nD2 => ?_⟩
      refine lc_list (K := K) (a := a) (xs := es.map V.ref) (fun i H' => Same H2 H' ∧ H' D2 = some (.lst ((List.replicate i true).map V.bl))) ⟨same_upd nD2, upd_same⟩ (fun i H' _ hq => (s12.trans hq.1).seq hA) (fun i v H' hv hq => ?_) (fun H3 hq => ?_)
      · obtain ⟨s3, eD2⟩ := hq
        obtain ⟨e, d, rfl, ed, he⟩ := bids_at (hT.same (s12.trans s3)) hv
        have hi := (List.getElem?_eq_some_iff.mp ed).1
        have md := List.mem_of_getElem? ed
        have d0 := ok.h0 d md
        have d9 := ok.h9 d md
        refine gTup2w he [some (.ref a), some (.ref b), none, some (vN d.1), some (.int d.2)] (by simp [wipe, L2.start]) ?_
        refine ⟨rfl, yesT ?_⟩
        refine ⟨_, rfl, _, _, rfl, rfl, _, rfl, ?_⟩
        rw [decide_eq_true d0]
        refine iteT ⟨_, _, rfl, rfl, ⟨by decide, by decide, by decide⟩, _, _, rfl, rfl, _, eD2, by rw [List.length_map, List.length_replicate]; exact small1000 (by omega), same_at s3 nD2, ?_⟩
        rw [upd_same, List.replicate_succ', List.map_append]
        exact congrArg (fun z => some (HO.lst ((List.replicate i true).map V.bl ++ [z]))) (congrArg V.bl (decide_eq_true d9))
      · obtain ⟨s3, eD2⟩ := hq
        refine ⟨_, _, rfl, lstAt eD2, ?_⟩
        rw [all_true]
        exact q _ (s12.trans s3)
end
end TK


/-! pages that are passed; the checks of a book -/
namespace TK
open PySem PySem.Spec PyProof.Rows L2
structure PgD where
  nm : Nam
  bids : List BidD
  fol : List Nam
/-- a page that is passed -/
def PgIn (K : PySem.W.Frag) (H : Hp) (p : Addr) (d : PgD) : Prop := ∃ (b f : Addr) (es : List Addr), H p = some (.tup [vN d.nm, .ref b, .ref f]) ∧ SqL K H b (es.map V.ref) ∧ BidsAt H es d.bids ∧ SqL K H f (d.fol.map vN)
def PgsIn (K : PySem.W.Frag) (H : Hp) (ps : List Addr) (ds : List PgD) : Prop := ps.length = ds.length ∧ ∀ (i : Nat) (p : Addr), ps[i]? = some p → ∃ d, ds[i]? = some d ∧ PgIn K H p d
theorem PgIn.same {K : PySem.W.Frag} {H H' : Hp} {p : Addr} {d : PgD} (h : PgIn K H p d) (s : Same H H') : PgIn K H' p d := by
  obtain ⟨b, f, es, h1, h2, h3, h4⟩ := h
  exact ⟨b, f, es, s _ _ h1, s.seq h2, h3.same s, s.seq h4⟩
theorem PgsIn.same {K : PySem.W.Frag} {H H' : Hp} {ps : List Addr} {ds : List PgD} (h : PgsIn K H ps ds) (s : Same H H') : PgsIn K H' ps ds := ⟨h.1, fun i p e => by
  obtain ⟨d, a, b⟩ := h.2 i p e
  exact ⟨d, a, b.same s⟩⟩
theorem pgs_at {K : PySem.W.Frag} {H : Hp} {ps : List Addr} {ds : List PgD} (h : PgsIn K H ps ds) {i : Nat} {x : V} (hx : (ps.map V.ref)[i]? = some x) : ∃ p d, x = .ref p ∧ ds[i]? = some d ∧ PgIn K H p d := by
  rw [List.getElem?_map] at hx
  obtain ⟨p, hp, rfl⟩ := Option.map_eq_some_iff.mp hx
  obtain ⟨d, a, b⟩ := h.2 i p hp
  exact ⟨p, d, rfl, a, b⟩
/-- right pages of the members -/
structure POk (zs : List Nam) (ds : List PgD) : Prop where
  l1 : 1 ≤ ds.length
  l4 : ds.length ≤ 4
  nm : ∀ d ∈ ds, Nm d.nm
  nd : (ds.map (·.nm)).Nodup
  b : ∀ d ∈ ds, BOk zs d.bids
  bl : ∀ d ∈ ds, d.bids.length < 64
  f : ∀ d ∈ ds, d.fol.Nodup
  fs : ∀ d ∈ ds, ∀ x ∈ d.fol, x ∈ ds.map (·.nm)
  fl : ∀ d ∈ ds, d.fol.length < 64
section
variable {P : Program} {w : World} {K : PySem.W.Frag} {mg : Str → Option Value} {base : Heap}
def spCheckPg (K : PySem.W.Frag) : Sp := fun vs H Q _ => ∃ (a b : Addr) (zs : List Nam) (ps : List Addr) (ds : List PgD), vs = [.ref a, .ref b] ∧ SqL K H a (zs.map vN) ∧ SqL K H b (ps.map V.ref) ∧ PgsIn K H ps ds ∧ POk zs ds ∧ ∀ H', Same H H' → Q .non H'
theorem ok_check_pages {f : Addr} {fd : FuncData} (F : Fun K "_check_pages" "_check_pages" s_check_pages f fd) (m_len : mg "len" = none) (m_enumerate : mg "enumerate" = none) (d_is_name : Def P w K mg base "is_name" 1 ["word"] spIsNameH)
    (d_are_picks : Def P w K mg base "_are_picks" 1 ["picks", "known"] (spArePicks K)) (d_are_bids : Def P w K mg base "_are_bids" 2 ["bids", "members"] (spAreBids K)) : FnOk P w K mg base CX0 3 f fd ["members", "pages"] (spCheckPg K) := by
  refine F.ok sc_check_pages (fun vs H Q E h => ?_) (fun cdv A outer s H vs Q E hr h => ?_)
  · obtain ⟨a, b, zs, ps, ds, rfl, _⟩ := h
    rfl
  · obtain ⟨a, b, zs, ps, ds, rfl, hA, hB, hT, ok, q⟩ := h
    have pl : (ps.map V.ref).length = ds.length := by rw [List.length_map, hT.1]
    have l1 := ok.l1
    have l4 := ok.l4
    refine ⟨_, (pss_cons (ps_if (pt_not (pt_chain op_le op_le pe_int (pe_callB call_len_seq (by rfl) m_len (by decide +kernel) (pa_cons (pv 1) pa_nil)) pe_int)) (pss_one ps_never) pss_nil)
  (pss_cons (ps_setLc (i := 2) (own := [("page", 8)]) (by rfl) sc_check_pages.nd rfl rfl (sw_true rfl rfl rfl (by decide +kernel)) (pi_list (pv 1)) (blkOk_by (N := ["members", "pages", "names", "at", "name", "bids", "_", "followers", "page"]) (sc := defScope s_check_pages) (by decide +kernel)) (fun _ _ _ _ _ => (pg_name (i := 8) sc_check_pages.nd rfl (.inl rfl))) (fun _ _ _ _ _ => pts_nil) (fun _ _ _ _ _ => (pe_ix (ix_tupK (K := K) rfl) (pv 8) pe_int (fun _ _ => rfl))))
  (pss_cons (ps_for PassesOwn.never rfl (pi_enum (by rfl) m_enumerate (pa_cons (pv 1) pa_nil)) (pg_tup (by rfl) (pgs_cons (pg_name (i := 3) sc_check_pages.nd rfl (.inl rfl)) (pgs_cons (pg_tup (by rfl) (pgs_cons (pg_name (i := 4) sc_check_pages.nd rfl (.inl rfl)) (pgs_cons (pg_name (i := 5) sc_check_pages.nd rfl (.inl rfl)) (pgs_cons (pg_name (i := 6) sc_check_pages.nd rfl (.inl rfl)) pgs_nil)))) pgs_nil)))
    (pss_one (ps_if (PW.pt (pw_or (pt_not (pt_val (pe_callD d_is_name (hr.mono (by decide)) (by rfl) (pa_cons (pv 4) pa_nil)))) (pw_or (pt_cmpR op_in_seq (pv 4) (pe_slice sl_list (pv 2) po_none (po_some (pv 3))) (by rfl)) (pw_or1 (pt_not (pt_val (pe_callD d_are_bids (hr.mono (by decide)) (by rfl) (pa_cons (pv 5) (pa_cons (pv 0) pa_nil))))))))) (pss_one ps_never) pss_nil)))
  (pss_one (ps_for PassesOwn.never rfl (pi_enum (by rfl) m_enumerate (pa_cons (pv 1) pa_nil)) (pg_tup (by rfl) (pgs_cons (pg_name (i := 3) sc_check_pages.nd rfl (.inl rfl)) (pgs_cons (pg_tup (by rfl) (pgs_cons (pg_name (i := 6) sc_check_pages.nd rfl (.inl rfl)) (pgs_cons (pg_name (i := 6) sc_check_pages.nd rfl (.inl rfl)) (pgs_cons (pg_name (i := 7) sc_check_pages.nd rfl (.inl rfl)) pgs_nil)))) pgs_nil)))
    (pss_one (ps_if (pt_not (pt_val (pe_callD d_are_picks (hr.mono (by decide)) (by rfl) (pa_cons (pv 7) (pa_cons (pv 2) pa_nil))))) (pss_one ps_never) pss_nil))))))), ?_⟩
    refine ⟨_, rfl, b, _, rfl, .inl hB, _, _, rfl, rfl, _, rfl, ?_⟩
    rw [decide_eq_true (show (1 : Int) ≤ ((ps.map V.ref).length : Nat) by rw [pl]; omega)]
    refine iteT ⟨_, _, rfl, rfl, _, rfl, ?_⟩
    rw [decide_eq_true (show (((ps.map V.ref).length : Nat) : Int) ≤ 4 by rw [pl]; omega)]
    refine iteF ?_
    refine ⟨_, rfl, b, rfl, ⟨_, hB⟩, fun D nD => ?_⟩
    refine lc_list (K := K) (a := b) (xs := ps.map V.ref) (fun i H' => Same H H' ∧ H' D = some (.lst (((ds.map (·.nm)).take i).map vN))) ⟨same_upd nD, upd_same⟩ (fun i H' _ hq => hq.1.seq hB) (fun i v H' hv hq => ?_) (fun H1 hq => ?_)
    · obtain ⟨s1, eD⟩ := hq
      obtain ⟨p, d, rfl, ed, ⟨b1, f1, es, he, _⟩⟩ := pgs_at (hT.same s1) hv
      have hi := (List.getElem?_eq_some_iff.mp ed).1
      refine ⟨rfl, yesT ⟨_, rfl, _, _, 0, vN d.nm, rfl, rfl, tupAt he, atI_in (by decide) rfl, _, eD, by rw [List.length_map, List.length_take, List.length_map]; exact small1000 (by omega), same_at s1 nD, ?_⟩⟩
      rw [List.take_add_one, List.getElem?_map, ed, List.map_append]
      exact upd_same
    obtain ⟨s1, eD⟩ := hq
    rw [pl, show ds.length = (ds.map (·.nm)).length from (List.length_map ..).symm, List.take_length] at eD
    refine ⟨_, rfl, _, _, rfl, s1.seq hB, for_it walk_enum (fun i σ H2 => Same H1 H2 ∧ ∃ y3 y4 y5 y6 y7 : Option V, σ = [some (.ref a), some (.ref b), some (.ref D), y3, y4, y5, y6, y7, none]) ⟨Same.refl _, _, _, _, _, _, rfl⟩ (fun i σ H2 _ hp => (s1.trans hp.1).seq hB) ?_ ?_⟩
    · rintro i x σ H2 H3 hi ⟨s2, y3, y4, y5, y6, y7, rfl⟩ ⟨T, v1, v2, rfl, nT, rfl, e1, e2⟩
      cases e1
      have s12 := s1.trans s2
      obtain ⟨p, d, rfl, ed, ⟨b1, f1, es, he, hb, hbs, hf⟩⟩ := pgs_at (hT.same s12) e2
      have md := List.mem_of_getElem? ed
      have sT := same_upd (o := .tup [.int (i : Nat), .ref p]) nT
      have sm := s12.trans sT
      refine ⟨_, _, rfl, tupAt upd_same, rfl, _, _, rfl, _, _, rfl, _, _, rfl, tupAt (sT _ _ he), rfl, _, _, rfl, _, _, rfl, _, _, rfl, rfl, rfl, ?_⟩
      refine ⟨_, rfl, d.nm, rfl, .inl (ok.nm d md), fun H4 s4 => ⟨_, rfl, ?_⟩⟩
      have sm4 := sm.trans s4
      rw [nz_nm (ok.nm d md)]
      refine iteF ?_
      refine ⟨_, rfl, _, rfl, _, rfl, _, rfl, _, _, rfl, lstAt (s4 _ _ (sT _ _ (s2 _ _ eD))), fun q2 nq2 => ?_⟩
      rw [cut_names]
      have s5 := same_upd (o := .lst (((ds.map (·.nm)).take i).map vN)) nq2
      have sm5 := sm4.trans s5
      refine ⟨q2, _, rfl, .inl (lstAt upd_same), rfl, nms_flat _, _, rfl, ?_⟩
      rw [in_nm, decide_eq_false (not_before ok.nd (by rw [List.getElem?_map, ed]; rfl))]
      refine iteF ?_
      have t3 : Same H2 (upd H4 q2 (.lst (((ds.map (·.nm)).take i).map vN))) := sT.trans (s4.trans s5)
      refine ⟨_, rfl, _, rfl, b1, a, zs, es, d.bids, rfl, t3.seq hb, hbs.same t3, .inl (sm5.seq hA), ok.b d md, ok.bl d md, fun H6 s6 => ⟨_, rfl, iteF ⟨s2.trans (t3.trans s6), _, _, _, _, _, rfl⟩⟩⟩
    · rintro σ H2 ⟨s2, y3, y4, y5, y6, y7, rfl⟩
      have s12 := s1.trans s2
      refine ⟨_, rfl, _, _, rfl, s12.seq hB, for_it walk_enum (fun i σ H3 => Same H2 H3 ∧ ∃ y3 y6 y7 : Option V, σ = [some (.ref a), some (.ref b), some (.ref D), y3, y4, y5, y6, y7, none]) ⟨Same.refl _, _, _, _, rfl⟩ (fun i σ H3 _ hp => (s12.trans hp.1).seq hB) ?_ ?_⟩
      · rintro i x σ H3 H4 hi ⟨s3, y3, y6, y7, rfl⟩ ⟨T, v1, v2, rfl, nT, rfl, e1, e2⟩
        cases e1
        have s13 := s12.trans s3
        obtain ⟨p, d, rfl, ed, ⟨b1, f1, es, he, hb, hbs, hf⟩⟩ := pgs_at (hT.same s13) e2
        have md := List.mem_of_getElem? ed
        have sT := same_upd (o := .tup [.int (i : Nat), .ref p]) nT
        refine ⟨_, _, rfl, tupAt upd_same, rfl, _, _, rfl, _, _, rfl, _, _, rfl, tupAt (sT _ _ he), rfl, _, _, rfl, _, _, rfl, _, _, rfl, rfl, rfl, ?_⟩
        refine ⟨_, rfl, _, rfl, f1, D, d.fol, ds.map (·.nm), rfl, sT.seq hf, .inl (lstAt (sT _ _ (s3 _ _ (s2 _ _ eD)))), ok.f d md, ok.fs d md, ok.fl d md, fun H5 s5 => ⟨_, rfl, iteF ⟨s3.trans (sT.trans s5), _, _, _, rfl⟩⟩⟩
      · rintro σ H3 ⟨s3, y3, y6, y7, rfl⟩
        exact q _ (s12.trans s3)
def spEnds (K : PySem.W.Frag) : Sp := fun vs H Q _ => ∃ (a b c : Addr) (ns ss hs : List Nam), vs = [.ref a, .ref b, .ref c] ∧ SqS K H a (ns.map vN) ∧ SqL K H b (ss.map vN) ∧ SqL K H c (hs.map vN) ∧ ss ≠ [] ∧ ss.Nodup ∧ (∀ x ∈ ss, x ∈ ns) ∧ hs.Nodup ∧ (∀ x ∈ hs, x ∈ ns) ∧ ns.length < 64 ∧ ∀ H', Same H H' → Q .non H'
theorem ok_check_ends {f : Addr} {fd : FuncData} (F : Fun K "_check_ends" "_check_ends" s_check_ends f fd) (m_len : mg "len" = none) (d_are_picks : Def P w K mg base "_are_picks" 1 ["picks", "known"] (spArePicks K)) : FnOk P w K mg base CX0 2 f fd ["names", "starts", "home"] (spEnds K) := by
  refine F.ok sc_check_ends (fun vs H Q E h => ?_) (fun cdv A outer s H vs Q E hr h => ?_)
  · obtain ⟨a, b, c, ns, ss, hs, rfl, _⟩ := h
    rfl
  · obtain ⟨a, b, c, ns, ss, hs, rfl, hA, hB, hC, ne, nd1, su1, nd2, su2, l64, q⟩ := h
    refine ⟨_, (pss_cons (ps_if (PW.pt (pw_or (pt_cmpR op_eq (pe_callB call_len_seq (by rfl) m_len (by decide +kernel) (pa_cons (pv 1) pa_nil)) pe_int (nomark _)) (pw_or1 (pt_not (pt_val (pe_callD d_are_picks (hr.mono (by decide)) (by rfl) (pa_cons (pv 1) (pa_cons (pv 0) pa_nil)))))))) (pss_one ps_never) pss_nil)
  (pss_one (ps_if (pt_not (pt_val (pe_callD d_are_picks (hr.mono (by decide)) (by rfl) (pa_cons (pv 2) (pa_cons (pv 0) pa_nil))))) (pss_one ps_never) pss_nil))), ?_⟩
    have sl : (ss.map vN).length ≠ 0 := fun e => ne (List.eq_nil_of_length_eq_zero (by rw [List.length_map] at e; exact e))
    refine ⟨_, rfl, b, _, rfl, .inl hB, rfl, _, rfl, ?_⟩
    rw [decide_eq_false (show ¬ V.int (((ss.map vN).length : Nat) : Int) = V.int 0 from fun e => sl (by have := V.int.inj e; omega))]
    refine iteF ?_
    refine ⟨_, rfl, _, rfl, b, a, ss, ns, rfl, hB, hA, nd1, su1, Nat.lt_of_le_of_lt (nd_lenK nd1 su1) l64, fun H1 s1 => ⟨_, rfl, iteF ?_⟩⟩
    exact ⟨_, rfl, _, rfl, c, a, hs, ns, rfl, s1.seq hC, hA.same s1, nd2, su2, Nat.lt_of_le_of_lt (nd_lenK nd2 su2) l64, fun H2 s2 => ⟨_, rfl, iteF (q _ (s1.trans s2))⟩⟩
end
end TK


/-! bids in the members' order; a page -/
namespace TK
open PySem PySem.Spec PyProof.Rows L2
def rowB (ds : List BidD) (z : Nam) : List BidD := ds.filter fun d => decide (d.1 = z)
def sortB (zs : List Nam) (ds : List BidD) : List BidD := zs.flatMap (rowB ds)
theorem sortB_fst {zs : List Nam} {ds : List BidD} (nd : (ds.map (·.1)).Nodup) : (sortB zs ds).map (·.1) = zs.filter fun z => decide (z ∈ ds.map (·.1)) := by
  have one : ∀ z, (rowB ds z).map (·.1) = if z ∈ ds.map (·.1) then [z] else [] := fun z => by
    unfold rowB
    induction ds with
    | nil => rfl
    | cons d ds ih =>
      have nd2 := (List.nodup_cons.mp (show (d.1 :: ds.map (·.1)).Nodup from nd))
      have ih := ih nd2.2
      have em : (d :: ds).map (·.1) = d.1 :: ds.map (·.1) := rfl
      rw [em]
      by_cases h : d.1 = z
      · rw [List.filter_cons_of_pos (by simp [h]), List.map_cons, ih, if_neg (by rw [← h]; exact nd2.1), if_pos (by rw [← h]; exact List.mem_cons_self)]
        rw [h]
      · rw [List.filter_cons_of_neg (by simp [h]), ih]
        by_cases q : z ∈ ds.map (·.1)
        · rw [if_pos q, if_pos (List.mem_cons_of_mem _ q)]
        · rw [if_neg q, if_neg fun m => (List.mem_cons.mp m).elim (fun e => h e.symm) q]
  induction zs with
  | nil => rfl
  | cons z zs ih =>
    show ((rowB ds z) ++ sortB zs ds).map (·.1) = _
    rw [List.map_append, one, ih, List.filter_cons]
    by_cases q : z ∈ ds.map (·.1)
    · rw [if_pos q, if_pos (decide_eq_true q)]; rfl
    · rw [if_neg q, if_neg (by rw [decide_eq_false q]; decide)]; rfl
theorem sortB_len {zs : List Nam} {ds : List BidD} : (sortB zs ds).length ≤ zs.length * ds.length := by
  induction zs with
  | nil => exact Nat.zero_le _
  | cons z zs ih =>
    show ((rowB ds z) ++ sortB zs ds).length ≤ _
    have : (rowB ds z).length ≤ ds.length := List.length_filter_le _ _
    rw [List.length_append, List.length_cons, Nat.succ_mul]
    omega
section
variable {P : Program} {w : World} {K : PySem.W.Frag} {mg : Str → Option Value} {base : Heap}
def spSortB (K : PySem.W.Frag) : Sp := fun vs H Q _ => ∃ (a b : Addr) (zs : List Nam) (es : List Addr) (ds : List BidD), vs = [.ref a, .ref b] ∧ SqL K H a (zs.map vN) ∧ SqL K H b (es.map V.ref) ∧ BidsAt H es ds ∧ zs.length ≤ 6 ∧ ds.length < 64 ∧ ∀ H' t es', H t = none → Same H H' → H' t = some (.tup (es'.map V.ref)) → BidsAt H' es' (sortB zs ds) → Q (.ref t) H'
theorem ok_sorted_bids {f : Addr} {fd : FuncData} (F : Fun K "_sorted_bids" "_sorted_bids" s_sorted_bids f fd) (m_tuple : mg "tuple" = none) : FnOk P w K mg base CX0 1 f fd ["members", "bids"] (spSortB K) := by
  refine F.ok sc_sorted_bids (fun vs H Q E h => ?_) (fun cdv A outer s H vs Q E hr h => ?_)
  · obtain ⟨a, b, zs, es, ds, rfl, _⟩ := h
    rfl
  · obtain ⟨a, b, zs, es, ds, rfl, hA, hB, hT, z6, l64, q⟩ := h
    have zl : (zs.map vN).length = zs.length := List.length_map ..
    have el : (es.map V.ref).length = ds.length := by rw [List.length_map, hT.1]
    refine ⟨_, (pss_one (ps_ret (pe_callTy call_tuple_of (by rfl) m_tuple (by decide +kernel) (pa_cons (pe_lc2 (own := [("member", 2), ("bidder", 3), ("bid", 4)]) (vs1 := [3, 4]) (by rfl) sc_sorted_bids.nd (pi_list (pv 0)) (blkOk_by (N := ["members", "bids", "member", "bidder", "bid"]) (sc := defScope s_sorted_bids) (by decide +kernel)) (by decide) (fun _ _ _ _ _ => (pg_name (i := 2) sc_sorted_bids.nd rfl (.inl rfl))) (fun _ _ _ _ _ => pts_nil) (fun _ _ _ _ _ => (pi_listK (K := K) rfl (pv 1))) (fun _ _ _ _ _ => (pg_tupK (K := K) (n := 2) rfl (by rfl) (pgs_cons (pg_name (i := 3) sc_sorted_bids.nd rfl (.inl rfl)) (pgs_cons (pg_name (i := 4) sc_sorted_bids.nd rfl (.inl rfl)) pgs_nil)))) (fun _ _ _ _ _ => (pts_one (pt_cmpR op_eq (pv 3) (pv 2) (nomark _)))) (fun _ _ _ _ _ => (pe_tup (pa_cons (pv 2) (pa_cons (pv 4) pa_nil))))) pa_nil)))), ?_⟩
    refine ⟨_, rfl, a, rfl, ⟨_, hA⟩, fun D nD => ?_⟩
    refine walk_go (walk_list (K := K) (a := a) (xs := zs.map vN)) (fun i H' => ∃ fs : List Addr, Same H H' ∧ H' D = some (.lst (fs.map V.ref)) ∧ BidsAt H' fs (sortB (zs.take i) ds)) ⟨[], same_upd nD, upd_same, ⟨rfl, fun _ _ h => nomatch h⟩⟩ (fun i H' _ hq => hq.choose_spec.1.seq hA) (fun i x H1 H2 hi hq hy => ?_) (fun H' hq => ?_)
    · obtain ⟨fs, s1, eD, hF⟩ := hq
      obtain ⟨rfl, hx⟩ := hy
      obtain ⟨z, ez, rfl⟩ := vN_at hx
      have hi6 : i < 6 := by have := (List.getElem?_eq_some_iff.mp ez).1; omega
      have fl : fs.length ≤ 6 * 64 := by
        rw [hF.1]
        refine Nat.le_trans sortB_len (Nat.mul_le_mul ?_ (by omega))
        rw [List.length_take]; omega
      have e1 : sortB (zs.take (i + 1)) ds = sortB (zs.take i) ds ++ rowB ds z := by
        unfold sortB
        rw [List.take_add_one, ez, List.flatMap_append]
        show _ ++ (rowB ds z ++ []) = _
        rw [List.append_nil]
      rw [e1]
      refine ⟨rfl, yesT ⟨_, rfl, b, rfl, ⟨_, s1.seq hB⟩, ?_⟩⟩
      refine walk_go (walk_list (K := K) (a := b) (xs := es.map V.ref)) (fun j H' => ∃ fs : List Addr, Same H H' ∧ H' D = some (.lst (fs.map V.ref)) ∧ BidsAt H' fs (sortB (zs.take i) ds ++ rowB (ds.take j) z)) ⟨fs, s1, eD, by rw [show rowB (ds.take 0) z = [] from rfl, List.append_nil]; exact hF⟩ (fun j H' _ hq => hq.choose_spec.1.seq hB) (fun j x H3 H4 hj hq hy => ?_) (fun H' hq => ?_)
      · obtain ⟨gs, s3, eD3, hG⟩ := hq
        obtain ⟨rfl, hx2⟩ := hy
        obtain ⟨e, d, rfl, ed, he⟩ := bids_at (hT.same s3) hx2
        have hj := (List.getElem?_eq_some_iff.mp ed).1
        have gl : gs.length ≤ 6 * 64 + 64 := by
          rw [hG.1, List.length_append, ← hF.1]
          have : (rowB (ds.take j) z).length ≤ (ds.take j).length := List.length_filter_le _ _
          rw [List.length_take] at this
          omega
        have e2 : rowB (ds.take (j + 1)) z = rowB (ds.take j) z ++ if d.1 = z then [d] else [] := by
          unfold rowB
          rw [flt_at ed]
          by_cases h : d.1 = z
          · rw [if_pos h, if_pos (decide_eq_true h)]
          · rw [if_neg h, if_neg (by rw [decide_eq_false h]; decide)]
        rw [e2]
        refine gTup2w he [some (.ref a), some (.ref b), some (vN z), some (vN d.1), some (.int d.2)] (by simp [wipe, L2.start]) ?_
        refine ⟨rfl, _, rfl, _, rfl, rfl, _, rfl, ?_⟩
        rw [eq_nm]
        by_cases h : d.1 = z
        · rw [decide_eq_true h, if_pos h]
          refine iteT ⟨_, rfl, _, rfl, (show (2 : Nat) ≤ sizeLine by decide), fun t nt => ?_⟩
          have st := same_upd (o := .tup [vN z, .int d.2]) nt
          refine ⟨_, st _ _ eD3, by rw [List.length_map]; exact small1000 (by omega), gs ++ [t], same_at (s3.trans st) nD, by rw [List.map_append]; exact upd_same, ?_⟩
          rw [← List.append_assoc]
          refine ((hG.same st).app (BidsAt.one ?_)).wrote (st _ _ eD3)
          rw [h]
          exact upd_same
        · rw [decide_eq_false h, if_neg h, List.append_nil]
          exact iteF ⟨gs, s3, eD3, hG⟩
      · obtain ⟨gs, s3, eD3, hG⟩ := hq
        rw [el, List.take_length] at hG
        exact ⟨gs, s3, eD3, hG⟩
    · obtain ⟨fs, s1, eD, hF⟩ := hq
      rw [zl, List.take_length] at hF
      refine ⟨D, _, rfl, .inl ⟨lstAt eD, fun t nt => ?_⟩⟩
      have st := same_upd (o := .tup (fs.map V.ref)) nt
      exact q _ t fs (none_of s1 nt) (s1.trans st) upd_same (hF.same st)
end
end TK

/-! a page -/
namespace TK
open PySem PySem.Spec PyProof.Rows L2
abbrev s_Page_init : Stmt := inClass (topS 20) 0
theorem sc_Page_init : FnScope ["self", "name", "bids", "followers", "home", "member", "_"] ["self", "name", "bids", "followers", "home"] (defScope s_Page_init) := ⟨rfl, rfl, rfl, by decide +kernel, rfl, by decide +kernel, by decide +kernel⟩
structure TxtPg (K : PySem.W.Frag) (C : Addr) : Prop where
  cl : Cls K C
  n1 : NoAttr K C "name"
  n2 : NoAttr K C "bids"
  n3 : NoAttr K C "wishers"
  n4 : NoAttr K C "followers"
  n5 : NoAttr K C "home"
/-- a page of a book -/
def PgAt (C : Addr) (H : Hp) (p : Addr) (n : Nam) (ds : List BidD) (fl : List Nam) (hb : Bool) : Prop := ∃ (dx bt wt ft : Addr) (fs : List (Str × V)) (es : List Addr), H p = some (.ins C dx fs) ∧ fs.lookup ("name" : Str) = some (vN n) ∧ fs.lookup ("bids" : Str) = some (.ref bt) ∧ fs.lookup ("wishers" : Str) = some (.ref wt) ∧ fs.lookup ("followers" : Str) = some (.ref ft) ∧ fs.lookup ("home" : Str) = some (.bl hb) ∧
  H bt = some (.tup (es.map V.ref)) ∧ BidsAt H es ds ∧ H wt = some (.tup ((ds.map (·.1)).map vN)) ∧ H ft = some (.tup (fl.map vN))
theorem PgAt.same {C : Addr} {H H' : Hp} {p : Addr} {n : Nam} {ds : List BidD} {fl : List Nam} {hb : Bool} (h : PgAt C H p n ds fl hb) (s : Same H H') : PgAt C H' p n ds fl hb := by
  obtain ⟨dx, bt, wt, ft, fs, es, h0, h1, h2, h3, h4, h5, h6, h7, h8, h9⟩ := h
  exact ⟨dx, bt, wt, ft, fs, es, s _ _ h0, h1, h2, h3, h4, h5, s _ _ h6, h7.same s, s _ _ h8, s _ _ h9⟩
theorem bids_frame {H H' : Hp} {p C dx : Addr} {fs : List (Str × V)} {es : List Addr} {ds : List BidD} (h : BidsAt H es ds) (hp : H p = some (.ins C dx fs)) (f : SameP p H H') : BidsAt H' es ds := ⟨h.1, fun i e he => by
  obtain ⟨d, h1, h2⟩ := h.2 i e he
  exact ⟨d, h1, f _ _ h2 (ne_of h2 hp (by intro z; cases z))⟩⟩
section
variable {P : Program} {w : World} {K : PySem.W.Frag} {mg : Str → Option Value} {base : Heap}
def spInitPg (C : Addr) : Sp := fun vs H Q _ => ∃ (p b f dx : Addr) (n : Nam) (hb : Bool) (es : List Addr) (ds : List BidD) (fl : List Nam), vs = [.ref p, vN n, .ref b, .ref f, .bl hb] ∧ H p = some (.ins C dx []) ∧ H b = some (.tup (es.map V.ref)) ∧ BidsAt H es ds ∧ H f = some (.tup (fl.map vN)) ∧ ds.length ≤ 500 ∧
  ∀ H', PgAt C H' p n ds fl hb → SameP p H H' → Q .non H'
theorem ok_Page {f C : Addr} {fd : FuncData} (F : Fun K "__init__" "Page.__init__" s_Page_init f fd) (T : TxtPg K C) (m_tuple : mg "tuple" = none) : FnOk P w K mg base CX0 1 f fd ["self", "name", "bids", "followers", "home"] (spInitPg C) := by
  refine F.ok sc_Page_init (fun vs H Q E h => ?_) (fun cdv A outer s H vs Q E hr h => ?_)
  · obtain ⟨p, b, f, dx, n, hb, es, ds, fl, rfl, _⟩ := h
    rfl
  · obtain ⟨p, b, f, dx, n, hb, es, ds, fl, rfl, hp, hb', hT, hf, l500, q⟩ := h
    have el : (es.map V.ref).length = ds.length := by rw [List.length_map, hT.1]
    refine ⟨_, (pss_cons (ps_fld (pv 0) (pv 1) rfl)
  (pss_cons (ps_fld (pv 0) (pe_callTy call_tuple_of (by rfl) m_tuple (by decide +kernel) (pa_cons (pv 2) pa_nil)) rfl)
  (pss_cons (ps_fld (pv 0) (pe_callTy call_tuple_of (by rfl) m_tuple (by decide +kernel) (pa_cons (pe_lc (own := [("member", 5), ("_", 6)]) (by rfl) sc_Page_init.nd (pi_tup (pe_fld (pv 0) rfl)) (blkOk_by (N := ["self", "name", "bids", "followers", "home", "member", "_"]) (sc := defScope s_Page_init) (by decide +kernel)) (fun _ _ _ _ _ => (pg_tupK (K := K) (n := 2) rfl (by rfl) (pgs_cons (pg_name (i := 5) sc_Page_init.nd rfl (.inl rfl)) (pgs_cons (pg_name (i := 6) sc_Page_init.nd rfl (.inl rfl)) pgs_nil)))) (fun _ _ _ _ _ => pts_nil) (fun _ _ _ _ _ => (pv 5))) pa_nil)) rfl)
  (pss_cons (ps_fld (pv 0) (pe_callTy call_tuple_of (by rfl) m_tuple (by decide +kernel) (pa_cons (pv 3) pa_nil)) rfl)
  (pss_one (ps_fld (pv 0) (pv 4) rfl)))))), ?_⟩
    refine ⟨_, rfl, _, rfl, p, C, dx, _, rfl, hp, T.cl, T.n1, by decide, ?_⟩
    have k1 := samep_upd (p := p) (H := H) (o := .ins C dx (putF "name" (vN n) []))
    have p1 := upd_same (H := H) (a := p) (o := .ins C dx (putF "name" (vN n) []))
    have b1 := k1 _ _ hb' (ne_of hb' hp (by intro z; cases z))
    have f1 := k1 _ _ hf (ne_of hf hp (by intro z; cases z))
    have t1 := bids_frame hT hp k1
    generalize upd H p (.ins C dx (putF "name" (vN n) [])) = H1 at k1 p1 b1 f1 t1 ⊢
    have l1 : (putF "name" (vN n) []).length ≤ 1 := put_len (Nat.zero_le _)
    have a1 : (putF "name" (vN n) []).lookup ("name" : Str) = some (vN n) := put_same _ _ _
    generalize putF "name" (vN n) [] = g1 at p1 l1 a1
    refine ⟨_, rfl, b, _, rfl, .inr ⟨tupAt b1, _, rfl, p, C, dx, _, rfl, p1, T.cl, T.n2, by omega, ?_⟩⟩
    have e2 := samep_upd (p := p) (H := H1) (o := .ins C dx (putF "bids" (.ref b) g1))
    have k2 := k1.trans e2
    have p2 := upd_same (H := H1) (a := p) (o := .ins C dx (putF "bids" (.ref b) g1))
    have b2 := e2 _ _ b1 (ne_of b1 p1 (by intro z; cases z))
    have f2 := e2 _ _ f1 (ne_of f1 p1 (by intro z; cases z))
    have t2 := bids_frame t1 p1 e2
    generalize upd H1 p (.ins C dx (putF "bids" (.ref b) g1)) = H2 at k2 p2 b2 f2 t2 ⊢
    have l2 : (putF "bids" (.ref b) g1).length ≤ 2 := put_len l1
    have a2 : (putF "bids" (.ref b) g1).lookup ("name" : Str) = some (vN n) := put_ne a1 (by decide +kernel)
    have c2 : (putF "bids" (.ref b) g1).lookup ("bids" : Str) = some (.ref b) := put_same _ _ _
    generalize putF "bids" (.ref b) g1 = g2 at p2 l2 a2 c2
    refine ⟨_, rfl, p, C, dx, _, _, rfl, p2, T.cl, T.n2, c2, b, rfl, ⟨_, tupAt b2⟩, fun D nD => ?_⟩
    refine lc_tup (K := K) (a := b) (xs := es.map V.ref) (fun i H' => Same H2 H' ∧ H' D = some (.lst ((ds.take i).map fun d => vN d.1))) ⟨same_upd nD, upd_same⟩ (fun i H' _ hq => tupAt (hq.1 _ _ b2)) (fun i v H' hv hq => ?_) (fun H3 hq => ?_)
    · obtain ⟨s1, eD⟩ := hq
      obtain ⟨e, d, rfl, ed, he⟩ := bids_at (t2.same s1) hv
      have hi := (List.getElem?_eq_some_iff.mp ed).1
      refine gTup2w he [some (.ref p), some (vN n), some (.ref b), some (.ref f), some (.bl hb), some (vN d.1), some (.int d.2)] (by simp [wipe, L2.start]) ?_
      refine ⟨rfl, yesT ⟨_, rfl, _, eD, by rw [List.length_map, List.length_take]; exact small1000 (by omega), same_at s1 nD, ?_⟩⟩
      rw [List.take_add_one, ed, List.map_append]
      exact upd_same
    obtain ⟨s3, eD⟩ := hq
    rw [el, List.take_length, show (ds.map fun d => vN d.1) = (ds.map (·.1)).map vN by rw [List.map_map]; rfl] at eD
    refine ⟨D, _, rfl, .inl ⟨lstAt eD, fun wt nw => ?_⟩⟩
    have s4 := s3.trans (same_upd (o := .tup ((ds.map (·.1)).map vN)) nw)
    have w4 := upd_same (H := H3) (a := wt) (o := .tup ((ds.map (·.1)).map vN))
    generalize upd H3 wt (.tup ((ds.map (·.1)).map vN)) = H4 at s4 w4 ⊢
    have p4 := s4 _ _ p2
    have b4 := s4 _ _ b2
    have f4 := s4 _ _ f2
    have t4 := t2.same s4
    have k4 := k2.trans (same_p (p := p) s4)
    refine ⟨_, rfl, p, C, dx, _, rfl, p4, T.cl, T.n3, by omega, ?_⟩
    have e5 := samep_upd (p := p) (H := H4) (o := .ins C dx (putF "wishers" (.ref wt) g2))
    have k5 := k4.trans e5
    have p5 := upd_same (H := H4) (a := p) (o := .ins C dx (putF "wishers" (.ref wt) g2))
    have b5 := e5 _ _ b4 (ne_of b4 p4 (by intro z; cases z))
    have f5 := e5 _ _ f4 (ne_of f4 p4 (by intro z; cases z))
    have w5 := e5 _ _ w4 (ne_of w4 p4 (by intro z; cases z))
    have t5 := bids_frame t4 p4 e5
    generalize upd H4 p (.ins C dx (putF "wishers" (.ref wt) g2)) = H5 at k5 p5 b5 f5 w5 t5 ⊢
    have l5 : (putF "wishers" (.ref wt) g2).length ≤ 3 := put_len l2
    have a5 : (putF "wishers" (.ref wt) g2).lookup ("name" : Str) = some (vN n) := put_ne a2 (by decide +kernel)
    have c5 : (putF "wishers" (.ref wt) g2).lookup ("bids" : Str) = some (.ref b) := put_ne c2 (by decide +kernel)
    have d5 : (putF "wishers" (.ref wt) g2).lookup ("wishers" : Str) = some (.ref wt) := put_same _ _ _
    generalize putF "wishers" (.ref wt) g2 = g5 at p5 l5 a5 c5 d5
    refine ⟨_, rfl, f, _, rfl, .inr ⟨tupAt f5, _, rfl, p, C, dx, _, rfl, p5, T.cl, T.n4, by omega, ?_⟩⟩
    have e6 := samep_upd (p := p) (H := H5) (o := .ins C dx (putF "followers" (.ref f) g5))
    have k6 := k5.trans e6
    have p6 := upd_same (H := H5) (a := p) (o := .ins C dx (putF "followers" (.ref f) g5))
    have b6 := e6 _ _ b5 (ne_of b5 p5 (by intro z; cases z))
    have f6 := e6 _ _ f5 (ne_of f5 p5 (by intro z; cases z))
    have w6 := e6 _ _ w5 (ne_of w5 p5 (by intro z; cases z))
    have t6 := bids_frame t5 p5 e6
    generalize upd H5 p (.ins C dx (putF "followers" (.ref f) g5)) = H6 at k6 p6 b6 f6 w6 t6 ⊢
    have l6 : (putF "followers" (.ref f) g5).length ≤ 4 := put_len l5
    have a6 : (putF "followers" (.ref f) g5).lookup ("name" : Str) = some (vN n) := put_ne a5 (by decide +kernel)
    have c6 : (putF "followers" (.ref f) g5).lookup ("bids" : Str) = some (.ref b) := put_ne c5 (by decide +kernel)
    have d6 : (putF "followers" (.ref f) g5).lookup ("wishers" : Str) = some (.ref wt) := put_ne d5 (by decide +kernel)
    have h6 : (putF "followers" (.ref f) g5).lookup ("followers" : Str) = some (.ref f) := put_same _ _ _
    generalize putF "followers" (.ref f) g5 = g6 at p6 l6 a6 c6 d6 h6
    refine ⟨_, rfl, _, rfl, p, C, dx, _, rfl, p6, T.cl, T.n5, by omega, ?_⟩
    have e7 := samep_upd (p := p) (H := H6) (o := .ins C dx (putF "home" (.bl hb) g6))
    exact q _ ⟨dx, b, wt, f, _, es, upd_same, put_ne a6 (by decide +kernel), put_ne c6 (by decide +kernel), put_ne d6 (by decide +kernel), put_ne h6 (by decide +kernel), put_same _ _ _, e7 _ _ b6 (ne_of b6 p6 (by intro z; cases z)), bids_frame t6 p6 e7, e7 _ _ w6 (ne_of w6 p6 (by intro z; cases z)), e7 _ _ f6 (ne_of f6 p6 (by intro z; cases z))⟩ (k6.trans e7)
end
end TK

/-! Book.__init__ -/
namespace TK
open PySem PySem.Spec PyProof.Rows L2
abbrev s_Book_init : Stmt := inClass (topS 21) 0
theorem sc_Book_init : FnScope ["self", "members", "pages", "starts", "home", "page", "name", "bids", "followers"] ["self", "members", "pages", "starts", "home"] (defScope s_Book_init) := ⟨rfl, rfl, rfl, by decide +kernel, rfl, by decide +kernel, by decide +kernel⟩
/-- one behind the other -/
def AllAt {α : Type} (R : Hp → Addr → α → Prop) (H : Hp) (es : List Addr) (ds : List α) : Prop := es.length = ds.length ∧ ∀ (i : Nat) (e : Addr), es[i]? = some e → ∃ d, ds[i]? = some d ∧ R H e d
theorem AllAt.mono {α : Type} {R S : Hp → Addr → α → Prop} {H H' : Hp} {es : List Addr} {ds : List α} (h : AllAt R H es ds) (k : ∀ e d, R H e d → S H' e d) : AllAt S H' es ds := ⟨h.1, fun i e he => by
  obtain ⟨d, a, b⟩ := h.2 i e he
  exact ⟨d, a, k e d b⟩⟩
theorem AllAt.app {α : Type} {R : Hp → Addr → α → Prop} {H : Hp} {es fs : List Addr} {ds us : List α} (h : AllAt R H es ds) (k : AllAt R H fs us) : AllAt R H (es ++ fs) (ds ++ us) := by
  refine ⟨by rw [List.length_append, List.length_append, h.1, k.1], fun i e he => ?_⟩
  by_cases hi : i < es.length
  · rw [List.getElem?_append_left hi] at he
    rw [List.getElem?_append_left (by rw [← h.1]; exact hi)]
    exact h.2 i e he
  · rw [List.getElem?_append_right (by omega)] at he
    rw [List.getElem?_append_right (by rw [← h.1]; omega), ← h.1]
    exact k.2 _ e he
theorem AllAt.one {α : Type} {R : Hp → Addr → α → Prop} {H : Hp} {e : Addr} {d : α} (h : R H e d) : AllAt R H [e] [d] := ⟨rfl, fun i a ha => by
  match i, ha with
  | 0, ha => cases Option.some.inj ha; exact ⟨d, rfl, h⟩⟩
theorem AllAt.nil {α : Type} {R : Hp → Addr → α → Prop} {H : Hp} : AllAt R H [] [] := ⟨rfl, fun _ _ h => nomatch h⟩
theorem all_at {α : Type} {R : Hp → Addr → α → Prop} {H : Hp} {es : List Addr} {ds : List α} (h : AllAt R H es ds) {i : Nat} {x : V} (hx : (es.map V.ref)[i]? = some x) : ∃ e d, x = .ref e ∧ ds[i]? = some d ∧ R H e d := by
  rw [List.getElem?_map] at hx
  obtain ⟨e, he, rfl⟩ := Option.map_eq_some_iff.mp hx
  obtain ⟨d, a, b⟩ := h.2 i e he
  exact ⟨e, d, rfl, a, b⟩
/-- what is no list stays -/
def NlKeep (H H' : Hp) : Prop := ∀ c o, H c = some o → (∀ xs : List V, o ≠ .lst xs) → H' c = some o
theorem nl_same {H H' : Hp} (s : Same H H') : NlKeep H H' := fun c o e _ => s c o e
theorem nl_wrote {H : Hp} {D : Addr} {xs : List V} {o : HO} (e : H D = some (.lst xs)) : NlKeep H (upd H D o) := fun c x ec n => by
  by_cases h : c = D
  · rw [h, e] at ec; exact absurd (Option.some.inj ec).symm (n xs)
  · rw [upd_ne h]; exact ec
theorem NlKeep.trans {H H' H'' : Hp} (s : NlKeep H H') (t : NlKeep H' H'') : NlKeep H H'' := fun c o e n => t c o (s c o e n) n
theorem bids_nl {H H' : Hp} {es : List Addr} {ds : List BidD} (h : BidsAt H es ds) (k : NlKeep H H') : BidsAt H' es ds := ⟨h.1, fun i e he => by
  obtain ⟨d, a, b⟩ := h.2 i e he
  exact ⟨d, a, k _ _ b (fun _ => nofun)⟩⟩
def RowR (zs : List Nam) (H : Hp) (r : Addr) (d : PgD) : Prop := ∃ (bt ft : Addr) (es : List Addr), H r = some (.tup [vN d.nm, .ref bt, .ref ft]) ∧ H bt = some (.tup (es.map V.ref)) ∧ BidsAt H es (sortB zs d.bids) ∧ H ft = some (.tup (d.fol.map vN))
theorem RowR.nl {zs : List Nam} {H H' : Hp} {r : Addr} {d : PgD} (h : RowR zs H r d) (k : NlKeep H H') : RowR zs H' r d := by
  obtain ⟨bt, ft, es, h1, h2, h3, h4⟩ := h
  exact ⟨bt, ft, es, k _ _ h1 (fun _ => nofun), k _ _ h2 (fun _ => nofun), bids_nl h3 k, k _ _ h4 (fun _ => nofun)⟩
theorem RowR.fr {zs : List Nam} {H H' : Hp} {r p C dx : Addr} {fs : List (Str × V)} {d : PgD} (h : RowR zs H r d) (hp : H p = some (.ins C dx fs)) (f : SameP p H H') : RowR zs H' r d := by
  obtain ⟨bt, ft, es, h1, h2, h3, h4⟩ := h
  exact ⟨bt, ft, es, f _ _ h1 (ne_of h1 hp (by intro z; cases z)), f _ _ h2 (ne_of h2 hp (by intro z; cases z)), bids_frame h3 hp f, f _ _ h4 (ne_of h4 hp (by intro z; cases z))⟩
theorem PgAt.nl {C : Addr} {H H' : Hp} {p : Addr} {n : Nam} {ds : List BidD} {fl : List Nam} {hb : Bool} (h : PgAt C H p n ds fl hb) (k : NlKeep H H') : PgAt C H' p n ds fl hb := by
  obtain ⟨dx, bt, wt, ft, fs, es, h0, h1, h2, h3, h4, h5, h6, h7, h8, h9⟩ := h
  exact ⟨dx, bt, wt, ft, fs, es, k _ _ h0 (fun _ => nofun), h1, h2, h3, h4, h5, k _ _ h6 (fun _ => nofun), bids_nl h7 k, k _ _ h8 (fun _ => nofun), k _ _ h9 (fun _ => nofun)⟩
theorem PgAt.fr {C : Addr} {H H' : Hp} {p b CB dx : Addr} {fs : List (Str × V)} {n : Nam} {ds : List BidD} {fl : List Nam} {hb : Bool} (h : PgAt C H p n ds fl hb) (hp : H b = some (.ins CB dx fs)) (ne : p ≠ b) (f : SameP b H H') : PgAt C H' p n ds fl hb := by
  obtain ⟨dx', bt, wt, ft, fs', es, h0, h1, h2, h3, h4, h5, h6, h7, h8, h9⟩ := h
  exact ⟨dx', bt, wt, ft, fs', es, f _ _ h0 ne, h1, h2, h3, h4, h5, f _ _ h6 (ne_of h6 hp (by intro z; cases z)), bids_frame h7 hp f, f _ _ h8 (ne_of h8 hp (by intro z; cases z)), f _ _ h9 (ne_of h9 hp (by intro z; cases z))⟩
theorem pgs_frame {K : PySem.W.Frag} {H H' : Hp} {p C dx : Addr} {fs : List (Str × V)} {ps : List Addr} {ds : List PgD} (h : PgsIn K H ps ds) (hp : H p = some (.ins C dx fs)) (f : SameP p H H') : PgsIn K H' ps ds := ⟨h.1, fun i e he => by
  obtain ⟨d, a, b1, f1, es, h1, h2, h3, h4⟩ := h.2 i e he
  exact ⟨d, a, b1, f1, es, f _ _ h1 (ne_of h1 hp (by intro z; cases z)), sqL_frame h2 hp f, bids_frame h3 hp f, sqL_frame h4 hp f⟩⟩
/-- what the def is given -/
structure BkG (K : PySem.W.Frag) (H : Hp) (a b c h : Addr) (zs ss hs : List Nam) (ps : List Addr) (ds : List PgD) : Prop where
  m : SqL K H a (zs.map vN)
  b : SqL K H b (ps.map V.ref)
  t : PgsIn K H ps ds
  c : SqL K H c (ss.map vN)
  h : SqL K H h (hs.map vN)
theorem BkG.same {K : PySem.W.Frag} {H H' : Hp} {a b c h : Addr} {zs ss hs : List Nam} {ps : List Addr} {ds : List PgD} (g : BkG K H a b c h zs ss hs ps ds) (s : Same H H') : BkG K H' a b c h zs ss hs ps ds := ⟨s.seq g.m, s.seq g.b, g.t.same s, s.seq g.c, s.seq g.h⟩
theorem BkG.fr {K : PySem.W.Frag} {H H' : Hp} {a b c h p C dx : Addr} {fs : List (Str × V)} {zs ss hs : List Nam} {ps : List Addr} {ds : List PgD} (g : BkG K H a b c h zs ss hs ps ds) (hp : H p = some (.ins C dx fs)) (f : SameP p H H') : BkG K H' a b c h zs ss hs ps ds := ⟨sqL_frame g.m hp f, sqL_frame g.b hp f, pgs_frame g.t hp f, sqL_frame g.c hp f, sqL_frame g.h hp f⟩
structure TxtBk (K : PySem.W.Frag) (C : Addr) : Prop where
  cl : Cls K C
  n1 : NoAttr K C "members"
  n2 : NoAttr K C "names"
  n3 : NoAttr K C "starts"
  n4 : NoAttr K C "home"
  n5 : NoAttr K C "_rows"
  n6 : NoAttr K C "_pages"
def fldsB (m n s h r g : Addr) : List (Str × V) := putF "_pages" (.ref g) (putF "_rows" (.ref r) (putF "home" (.ref h) (putF "starts" (.ref s) (putF "names" (.ref n) (putF "members" (.ref m) [])))))
theorem fldsB_names (m n s h r g : Addr) : (fldsB m n s h r g).lookup ("names" : Str) = some (.ref n) := put_ne (put_ne (put_ne (put_ne (put_same _ _ _) (by decide +kernel)) (by decide +kernel)) (by decide +kernel)) (by decide +kernel)
theorem fldsB_pages (m n s h r g : Addr) : (fldsB m n s h r g).lookup ("_pages" : Str) = some (.ref g) := put_same _ _ _
theorem fldsB_no (m n s h r g : Addr) {x : Str} (hx : x ∉ (["members", "names", "starts", "home", "_rows", "_pages"] : List Str)) : (fldsB m n s h r g).lookup x = none := by
  have k : ∀ y, y ∈ (["members", "names", "starts", "home", "_rows", "_pages"] : List Str) → ¬ x = y := fun y hy e => hx (e ▸ hy)
  unfold fldsB
  rw [lookup_putF, if_neg (k _ (by simp)), lookup_putF, if_neg (k _ (by simp)), lookup_putF, if_neg (k _ (by simp)), lookup_putF, if_neg (k _ (by simp)), lookup_putF, if_neg (k _ (by simp)), lookup_putF, if_neg (k _ (by simp))]
  rfl
abbrev PgR (CP : Addr) (zs hs : List Nam) (p : Addr) : Hp → Addr → PgD → Prop := fun H q d => PgAt CP H q d.nm (sortB zs d.bids) d.fol (decide (d.nm ∈ hs)) ∧ q ≠ p
/-- a book -/
def BkAt (C CP : Addr) (H : Hp) (p : Addr) (zs ss hs : List Nam) (ds : List PgD) : Prop := ∃ (dx m n s h r g : Addr) (o : Obj) (rs qs : List Addr), H p = some (.ins C dx (fldsB m n s h r g)) ∧ H m = some (.tup (zs.map vN)) ∧ H n = some (.frz o (.tup ((ds.map (·.nm)).map vN))) ∧ o.cls = .type "tuple" ∧ o.dict = none ∧ H s = some (.tup (ss.map vN)) ∧ H h = some (.tup (hs.map vN)) ∧
  H r = some (.tup (rs.map V.ref)) ∧ AllAt (RowR zs) H rs ds ∧ H g = some (.tup (qs.map V.ref)) ∧ AllAt (PgR CP zs hs p) H qs ds
theorem BkAt.same {C CP : Addr} {H H' : Hp} {p : Addr} {zs ss hs : List Nam} {ds : List PgD} (h : BkAt C CP H p zs ss hs ds) (t : Same H H') : BkAt C CP H' p zs ss hs ds := by
  obtain ⟨dx, m, n, s, hh, r, g, o, rs, qs, h1, h2, h3, h4, h5, h6, h7, h8, h9, h10, h11⟩ := h
  exact ⟨dx, m, n, s, hh, r, g, o, rs, qs, t _ _ h1, t _ _ h2, t _ _ h3, h4, h5, t _ _ h6, t _ _ h7, t _ _ h8, h9.mono fun _ _ k => k.nl (nl_same t), t _ _ h10, h11.mono fun _ _ k => ⟨k.1.same t, k.2⟩⟩
section
variable {P : Program} {w : World} {K : PySem.W.Frag} {mg : Str → Option Value} {base : Heap}
def spInitBk (K : PySem.W.Frag) (C CP : Addr) : Sp := fun vs H Q _ => ∃ (p a b c h dx : Addr) (zs ss hs : List Nam) (ps : List Addr) (ds : List PgD), vs = [.ref p, .ref a, .ref b, .ref c, .ref h] ∧ H p = some (.ins C dx []) ∧ BkG K H a b c h zs ss hs ps ds ∧ 1 ≤ zs.length ∧ zs.length ≤ 4 ∧ (∀ z ∈ zs, Nm z) ∧ zs.Nodup ∧ POk zs ds ∧ ss ≠ [] ∧ ss.Nodup ∧ (∀ x ∈ ss, x ∈ ds.map (·.nm)) ∧ hs.Nodup ∧ (∀ x ∈ hs, x ∈ ds.map (·.nm)) ∧
  ∀ H', BkAt C CP H' p zs ss ((ds.map (·.nm)).filter fun n => decide (n ∈ hs)) ds → SameP p H H' → Q .non H'
theorem ok_Book {f C CP fP : Addr} {fd fdP : FuncData} {dvs : List V} {kws : List (Str × V)} (F : FunD K "__init__" "Book.__init__" (defArgs s_Book_init) (defBody s_Book_init) (defScope s_Book_init) dvs kws f fd) (T : TxtBk K C) (m_tuple : mg "tuple" = none) (d_check_names : DefD P w K mg base "check_names" 2 ["names", "most", "hook"] (spCheckN K) [.bl false])
    (d_check_pages : Def P w K mg base "_check_pages" 3 ["members", "pages"] (spCheckPg K)) (d_check_ends : Def P w K mg base "_check_ends" 2 ["names", "starts", "home"] (spEnds K)) (d_sorted_bids : Def P w K mg base "_sorted_bids" 1 ["members", "bids"] (spSortB K))
    (M_Page : Mk K CP fP) (G_Page : FnOk P w K mg base CX0 1 fP fdP ["self", "name", "bids", "followers", "home"] (spInitPg CP)) (mg_Page : mg "Page" = some (.ref CP)) (b_Page : Binds K fdP ["self", "name", "bids", "followers", "home"] []) :
    FnOk P w K mg base CX0 4 f fd ["self", "members", "pages", "starts", "home"] (spInitBk K C CP) := by
  refine F.ok (CX := CX0) sc_Book_init (fun vs H Q E h => ?_) (fun cdv A outer s H vs Q E hr h => ?_)
  · obtain ⟨p, a, b, c, h, dx, zs, ss, hs, ps, ds, rfl, _⟩ := h
    rfl
  · obtain ⟨p, a, b, c, h, dx, zs, ss, hs, ps, ds, rfl, hp, g, z1, z4, nm, nd, ok, sne, snd, ssub, hnd, hsub, q⟩ := h
    have pl : (ps.map V.ref).length = ds.length := by rw [List.length_map, g.t.1]
    have l4 := ok.l4
    refine ⟨_, (pss_cons (ps_expr (pe_callDD d_check_names (hr.mono (by decide)) (by rfl) (pa_cons (pv 1) (pa_cons pe_int pa_nil))))
  (pss_cons (ps_expr (pe_callD d_check_pages (hr.mono (by decide)) (by rfl) (pa_cons (pv 1) (pa_cons (pv 2) pa_nil))))
  (pss_cons (ps_fld (pv 0) (pe_callTy call_tuple_of (by rfl) m_tuple (by decide +kernel) (pa_cons (pv 1) pa_nil)) rfl)
  (pss_cons (ps_fld (pv 0) (pe_callTy call_tuple_frz (by rfl) m_tuple (by decide +kernel) (pa_cons (pe_lc (own := [("page", 5)]) (by rfl) sc_Book_init.nd (pi_list (pv 2)) (blkOk_by (N := ["self", "members", "pages", "starts", "home", "page", "name", "bids", "followers"]) (sc := defScope s_Book_init) (by decide +kernel)) (fun _ _ _ _ _ => (pg_name (i := 5) sc_Book_init.nd rfl (.inl rfl))) (fun _ _ _ _ _ => pts_nil) (fun _ _ _ _ _ => (pe_ix (ix_tupK (K := K) rfl) (pv 5) pe_int (fun _ _ => rfl)))) pa_nil)) rfl)
  (pss_cons (ps_expr (pe_callD d_check_ends (hr.mono (by decide)) (by rfl) (pa_cons (pe_fld (pv 0) rfl) (pa_cons (pv 3) (pa_cons (pv 4) pa_nil)))))
  (pss_cons (ps_fld (pv 0) (pe_callTy call_tuple_of (by rfl) m_tuple (by decide +kernel) (pa_cons (pv 3) pa_nil)) rfl)
  (pss_cons (ps_fld (pv 0) (pe_callTy call_tuple_of (by rfl) m_tuple (by decide +kernel) (pa_cons (pe_lc (own := [("name", 6)]) (by rfl) sc_Book_init.nd (pi_tup (pe_fld (pv 0) rfl)) (blkOk_by (N := ["self", "members", "pages", "starts", "home", "page", "name", "bids", "followers"]) (sc := defScope s_Book_init) (by decide +kernel)) (fun _ _ _ _ _ => (pg_name (i := 6) sc_Book_init.nd rfl (.inl rfl))) (fun _ _ _ _ _ => (pts_one (pt_cmpR (op_in_seqK (K := K) rfl) (pv 6) (pv 4) (by rfl)))) (fun _ _ _ _ _ => (pv 6))) pa_nil)) rfl)
  (pss_cons (ps_fld (pv 0) (pe_callTy call_tuple_of (by rfl) m_tuple (by decide +kernel) (pa_cons (pe_lc (own := [("name", 6), ("bids", 7), ("followers", 8)]) (by rfl) sc_Book_init.nd (pi_list (pv 2)) (blkOk_by (N := ["self", "members", "pages", "starts", "home", "page", "name", "bids", "followers"]) (sc := defScope s_Book_init) (by decide +kernel)) (fun _ _ _ _ _ => (pg_tupK (K := K) (n := 3) rfl (by rfl) (pgs_cons (pg_name (i := 6) sc_Book_init.nd rfl (.inl rfl)) (pgs_cons (pg_name (i := 7) sc_Book_init.nd rfl (.inl rfl)) (pgs_cons (pg_name (i := 8) sc_Book_init.nd rfl (.inl rfl)) pgs_nil))))) (fun _ _ _ _ _ => pts_nil) (fun _ _ _ _ _ => (pe_tup (pa_cons (pv 6) (pa_cons (pe_callD d_sorted_bids (hr.mono (by decide)) (by rfl) (pa_cons (pv 1) (pa_cons (pv 7) pa_nil))) (pa_cons (pe_callTy (call_tuple_ofK (K := K) rfl) (by rfl) m_tuple (by decide +kernel) (pa_cons (pv 8) pa_nil)) pa_nil)))))) pa_nil)) rfl)
  (pss_one (ps_fld (pv 0) (pe_callTy call_tuple_of (by rfl) m_tuple (by decide +kernel) (pa_cons (pe_lc (own := [("name", 6), ("bids", 7), ("followers", 8)]) (by rfl) sc_Book_init.nd (pi_tup (pe_fld (pv 0) rfl)) (blkOk_by (N := ["self", "members", "pages", "starts", "home", "page", "name", "bids", "followers"]) (sc := defScope s_Book_init) (by decide +kernel)) (fun _ _ _ _ _ => (pg_tupK (K := K) (n := 3) rfl (by rfl) (pgs_cons (pg_name (i := 6) sc_Book_init.nd rfl (.inl rfl)) (pgs_cons (pg_name (i := 7) sc_Book_init.nd rfl (.inl rfl)) (pgs_cons (pg_name (i := 8) sc_Book_init.nd rfl (.inl rfl)) pgs_nil))))) (fun _ _ _ _ _ => pts_nil) (fun _ _ _ _ _ => (pe_make M_Page G_Page (hr.mono (by decide)) (by rfl) mg_Page b_Page .nil pass0 (pa_cons (pv 6) (pa_cons (pv 7) (pa_cons (pv 8) (pa_cons (pe_cmpR (op_in_seqK (K := K) rfl) (pv 6) (pe_fldK (K := K) rfl (pv 0) rfl) (by rfl)) pa_nil))))))) pa_nil)) rfl)))))))))), ?_⟩
    refine ⟨_, rfl, a, 4, zs, rfl, .inl g.m, z1, by omega, by omega, nm, nd, fun H1 s1 => ?_⟩
    refine ⟨_, rfl, _, rfl, a, b, zs, ps, ds, rfl, s1.seq g.m, s1.seq g.b, g.t.same s1, ok, fun H2 s2 => ?_⟩
    have s12 := s1.trans s2
    -- members
    refine ⟨_, rfl, a, _, rfl, .inl ⟨s12.seq g.m, fun m nmA => ?_⟩⟩
    have s3 := s12.trans (same_upd (o := .tup (zs.map vN)) nmA)
    have m3 := upd_same (H := H2) (a := m) (o := .tup (zs.map vN))
    have g3 := g.same s3
    have p3 := s3 _ _ hp
    have f3 := same_p (p := p) s3
    generalize upd H2 m (.tup (zs.map vN)) = H3 at m3 g3 p3 f3 ⊢
    refine ⟨_, rfl, p, C, dx, _, rfl, p3, T.cl, T.n1, by decide, ?_⟩
    have e4 := samep_upd (p := p) (H := H3) (o := .ins C dx (putF "members" (.ref m) []))
    have p4 := upd_same (H := H3) (a := p) (o := .ins C dx (putF "members" (.ref m) []))
    have f4 := f3.trans e4
    have m4 := e4 _ _ m3 (ne_of m3 p3 (by intro z; cases z))
    have g4 := g3.fr p3 e4
    generalize upd H3 p (.ins C dx (putF "members" (.ref m) [])) = H4 at p4 f4 m4 g4 ⊢
    -- names
    refine ⟨_, rfl, b, rfl, ⟨_, g4.b⟩, fun D nD => ?_⟩
    refine lc_list (K := K) (a := b) (xs := ps.map V.ref) (fun i H' => Same H4 H' ∧ H' D = some (.lst (((ds.map (·.nm)).take i).map vN))) ⟨same_upd nD, upd_same⟩ (fun i H' _ hq => hq.1.seq g4.b) (fun i v H' hv hq => ?_) (fun H5 hq => ?_)
    · obtain ⟨sq, eD⟩ := hq
      obtain ⟨p', d, rfl, ed, ⟨b1, f1, es, he, _⟩⟩ := pgs_at (g4.t.same sq) hv
      have hi := (List.getElem?_eq_some_iff.mp ed).1
      refine ⟨rfl, yesT ⟨_, rfl, _, _, 0, vN d.nm, rfl, rfl, tupAt he, atI_in (by decide) rfl, _, eD, by rw [List.length_map, List.length_take, List.length_map]; exact small1000 (by omega), same_at sq nD, ?_⟩⟩
      rw [List.take_add_one, List.getElem?_map, ed, List.map_append]
      exact upd_same
    obtain ⟨s5, eD⟩ := hq
    rw [pl, show ds.length = (ds.map (·.nm)).length from (List.length_map ..).symm, List.take_length] at eD
    refine ⟨D, _, rfl, lstAt eD, fun n o nn oc od => ?_⟩
    have s6 := s5.trans (same_upd (o := .frz o (.tup ((ds.map (·.nm)).map vN))) nn)
    have n6 := upd_same (H := H5) (a := n) (o := .frz o (.tup ((ds.map (·.nm)).map vN)))
    have p6 := s6 _ _ p4
    have m6 := s6 _ _ m4
    have g6 := g4.same s6
    have f6 := f4.trans (same_p (p := p) s6)
    generalize upd H5 n (.frz o (.tup ((ds.map (·.nm)).map vN))) = H6 at n6 p6 m6 g6 f6 ⊢
    refine ⟨_, rfl, p, C, dx, _, rfl, p6, T.cl, T.n2, Nat.lt_of_le_of_lt (put_len (n := 0) (Nat.le_refl 0)) (by decide), ?_⟩
    have e7 := samep_upd (p := p) (H := H6) (o := .ins C dx (putF "names" (.ref n) (putF "members" (.ref m) [])))
    have p7 := upd_same (H := H6) (a := p) (o := .ins C dx (putF "names" (.ref n) (putF "members" (.ref m) [])))
    have f7 := f6.trans e7
    have m7 := e7 _ _ m6 (ne_of m6 p6 (by intro z; cases z))
    have n7 := e7 _ _ n6 (ne_of n6 p6 (by intro z; cases z))
    have g7 := g6.fr p6 e7
    generalize upd H6 p (.ins C dx (putF "names" (.ref n) (putF "members" (.ref m) []))) = H7 at p7 f7 m7 n7 g7 ⊢
    clear e7 e4 p6 m6 n6 g6 f6 s6 s5 eD p4 m4 g4 f4 p3 m3 g3 f3 s3
    -- the ends
    refine ⟨_, rfl, p, C, dx, _, _, rfl, p7, T.cl, T.n2, put_same _ _ _, _, rfl, _, rfl, n, c, h, ds.map (·.nm), ss, hs, rfl, .inr (.inl (.inr ⟨o, n7⟩)), g7.c, g7.h, sne, snd, ssub, hnd, hsub, by rw [List.length_map]; omega, fun H8 s8 => ?_⟩
    -- starts
    refine ⟨_, rfl, c, _, rfl, .inl ⟨s8.seq g7.c, fun st nst => ?_⟩⟩
    have s9 := s8.trans (same_upd (o := .tup (ss.map vN)) nst)
    have t9 := upd_same (H := H8) (a := st) (o := .tup (ss.map vN))
    have p9 := s9 _ _ p7
    have m9 := s9 _ _ m7
    have n9 := s9 _ _ n7
    have g9 := g7.same s9
    have f9 := f7.trans (same_p (p := p) s9)
    generalize upd H8 st (.tup (ss.map vN)) = H9 at t9 p9 m9 n9 g9 f9 ⊢
    refine ⟨_, rfl, p, C, dx, _, rfl, p9, T.cl, T.n3, Nat.lt_of_le_of_lt (put_len (n := 1) (put_len (n := 0) (Nat.le_refl 0))) (by decide), ?_⟩
    have e10 := samep_upd (p := p) (H := H9) (o := .ins C dx (putF "starts" (.ref st) (putF "names" (.ref n) (putF "members" (.ref m) []))))
    have p10 := upd_same (H := H9) (a := p) (o := .ins C dx (putF "starts" (.ref st) (putF "names" (.ref n) (putF "members" (.ref m) []))))
    have f10 := f9.trans e10
    have m10 := e10 _ _ m9 (ne_of m9 p9 (by intro z; cases z))
    have n10 := e10 _ _ n9 (ne_of n9 p9 (by intro z; cases z))
    have t10 := e10 _ _ t9 (ne_of t9 p9 (by intro z; cases z))
    have g10 := g9.fr p9 e10
    generalize upd H9 p (.ins C dx (putF "starts" (.ref st) (putF "names" (.ref n) (putF "members" (.ref m) [])))) = H10 at p10 f10 m10 n10 t10 g10 ⊢
    clear e10 p9 m9 n9 t9 g9 f9 s9 s8 p7 m7 n7 g7 f7
    -- home
    refine ⟨_, rfl, p, C, dx, _, _, rfl, p10, T.cl, T.n2, put_ne (put_same _ _ _) (by decide +kernel), n, rfl, ⟨_, .inl (.inr ⟨o, n10⟩)⟩, fun D2 nD2 => ?_⟩
    refine lc_tup (K := K) (a := n) (xs := (ds.map (·.nm)).map vN) (fun i H' => Same H10 H' ∧ H' D2 = some (.lst ((((ds.map (·.nm)).take i).filter fun z => decide (z ∈ hs)).map vN))) ⟨same_upd nD2, upd_same⟩ (fun i H' _ hq => .inl (.inr ⟨o, hq.1 _ _ n10⟩)) (fun i v H' hv hq => ?_) (fun H11 hq => ?_)
    · obtain ⟨sq, eD⟩ := hq
      obtain ⟨z, ez, rfl⟩ := vN_at hv
      have hi := (List.getElem?_eq_some_iff.mp ez).1
      rw [List.length_map] at hi
      have fl : (((ds.map (·.nm)).take i).filter fun z => decide (z ∈ hs)).length ≤ 4 := Nat.le_trans (List.length_filter_le _ _) (by rw [List.length_take]; omega)
      rw [flt_at ez]
      refine ⟨rfl, _, rfl, _, rfl, h, _, rfl, .inl (sq.seq g10.h), rfl, nms_flat _, _, rfl, ?_⟩
      rw [in_nm]
      by_cases hz : z ∈ hs
      · rw [decide_eq_true hz]
        refine iteT ⟨_, rfl, _, eD, by rw [List.length_map]; exact small1000 (by omega), same_at sq nD2, ?_⟩
        rw [if_pos rfl, List.map_append]
        exact upd_same
      · rw [decide_eq_false hz]
        exact iteF ⟨sq, by rw [if_neg Bool.false_ne_true, List.append_nil]; exact eD⟩
    obtain ⟨s11, eD2⟩ := hq
    rw [List.length_map, List.take_length] at eD2
    generalize hh2 : (ds.map (·.nm)).filter (fun z => decide (z ∈ hs)) = hs2 at eD2 q
    refine ⟨D2, _, rfl, .inl ⟨lstAt eD2, fun ht nht => ?_⟩⟩
    have s12 := s11.trans (same_upd (o := .tup (hs2.map vN)) nht)
    have h12 := upd_same (H := H11) (a := ht) (o := .tup (hs2.map vN))
    have p12 := s12 _ _ p10
    have m12 := s12 _ _ m10
    have n12 := s12 _ _ n10
    have t12 := s12 _ _ t10
    have g12 := g10.same s12
    have f12 := f10.trans (same_p (p := p) s12)
    generalize upd H11 ht (.tup (hs2.map vN)) = H12 at h12 p12 m12 n12 t12 g12 f12 ⊢
    refine ⟨_, rfl, p, C, dx, _, rfl, p12, T.cl, T.n4, Nat.lt_of_le_of_lt (put_len (n := 2) (put_len (n := 1) (put_len (n := 0) (Nat.le_refl 0)))) (by decide), ?_⟩
    have e13 := samep_upd (p := p) (H := H12) (o := .ins C dx (putF "home" (.ref ht) (putF "starts" (.ref st) (putF "names" (.ref n) (putF "members" (.ref m) [])))))
    have p13 := upd_same (H := H12) (a := p) (o := .ins C dx (putF "home" (.ref ht) (putF "starts" (.ref st) (putF "names" (.ref n) (putF "members" (.ref m) [])))))
    have f13 := f12.trans e13
    have m13 := e13 _ _ m12 (ne_of m12 p12 (by intro z; cases z))
    have n13 := e13 _ _ n12 (ne_of n12 p12 (by intro z; cases z))
    have t13 := e13 _ _ t12 (ne_of t12 p12 (by intro z; cases z))
    have h13 := e13 _ _ h12 (ne_of h12 p12 (by intro z; cases z))
    have g13 := g12.fr p12 e13
    generalize upd H12 p (.ins C dx (putF "home" (.ref ht) (putF "starts" (.ref st) (putF "names" (.ref n) (putF "members" (.ref m) []))))) = H13 at p13 f13 m13 n13 t13 h13 g13 ⊢
    clear e13 p12 m12 n12 t12 h12 g12 f12 s12 s11 eD2 p10 m10 n10 t10 g10 f10
    -- the rows
    refine ⟨_, rfl, b, rfl, ⟨_, g13.b⟩, fun D3 nD3 => ?_⟩
    refine lc_list (K := K) (a := b) (xs := ps.map V.ref) (fun i H' => ∃ rs : List Addr, Same H13 H' ∧ H' D3 = some (.lst (rs.map V.ref)) ∧ AllAt (RowR zs) H' rs (ds.take i)) ⟨[], same_upd nD3, upd_same, .nil⟩ (fun i H' _ hq => hq.choose_spec.1.seq g13.b) (fun i v H' hv hq => ?_) (fun H14 hq => ?_)
    · obtain ⟨rs, sq, eD, hR⟩ := hq
      obtain ⟨p', d, rfl, ed, ⟨b1, f1, es, he, hb, hbs, hf⟩⟩ := pgs_at (g13.t.same sq) hv
      have hi := (List.getElem?_eq_some_iff.mp ed).1
      have rl : rs.length = i := by rw [hR.1, List.length_take]; omega
      rw [List.take_add_one, ed]
      refine gTup3 he [some (.ref p), some (.ref a), some (.ref b), some (.ref c), some (.ref h), none, some (vN d.nm), some (.ref b1), some (.ref f1)] (by simp [wipe, L2.start]) ?_
      refine ⟨rfl, yesT ⟨_, rfl, _, rfl, _, rfl, a, b1, zs, es, d.bids, rfl, sq.seq g13.m, hb, hbs, by omega, ok.bl d (List.mem_of_getElem? ed), fun H1' t es' nt s1' et hB => ?_⟩⟩
      refine ⟨_, rfl, f1, _, rfl, .inl ⟨s1'.seq hf, fun u nu => ?_⟩⟩
      have s2' := s1'.trans (same_upd (o := .tup (d.fol.map vN)) nu)
      refine ⟨(show (3 : Nat) ≤ sizeLine by decide), fun x nx => ?_⟩
      have s3' := s2'.trans (same_upd (o := .tup [vN d.nm, .ref t, .ref u]) nx)
      have eD' := s3' _ _ eD
      have row : RowR zs (upd (upd H1' u (.tup (d.fol.map vN))) x (.tup [vN d.nm, .ref t, .ref u])) x d := ⟨t, u, es', upd_same, (same_upd nx) _ _ ((same_upd nu) _ _ et), (hB.same (same_upd nu)).same (same_upd nx), (same_upd nx) _ _ upd_same⟩
      exact ⟨_, eD', by rw [List.length_map, rl]; exact small1000 (by omega), rs ++ [x], same_at (sq.trans s3') nD3, by rw [List.map_append]; exact upd_same, ((hR.mono fun _ _ k => k.nl (nl_same s3')).app (.one row)).mono fun _ _ k => k.nl (nl_wrote eD')⟩
    obtain ⟨rs, s14, eD3, hR⟩ := hq
    rw [pl, List.take_length] at hR
    refine ⟨D3, _, rfl, .inl ⟨lstAt eD3, fun r nr => ?_⟩⟩
    have tr := same_upd (o := .tup (rs.map V.ref)) nr
    have s15 := s14.trans tr
    have r15 := upd_same (H := H14) (a := r) (o := .tup (rs.map V.ref))
    have R15 := hR.mono fun _ _ k => k.nl (nl_same tr)
    have p15 := s15 _ _ p13
    have m15 := s15 _ _ m13
    have n15 := s15 _ _ n13
    have t15 := s15 _ _ t13
    have h15 := s15 _ _ h13
    have f15 := f13.trans (same_p (p := p) s15)
    generalize upd H14 r (.tup (rs.map V.ref)) = H15 at r15 R15 p15 m15 n15 t15 h15 f15 ⊢
    refine ⟨_, rfl, p, C, dx, _, rfl, p15, T.cl, T.n5, Nat.lt_of_le_of_lt (put_len (n := 3) (put_len (n := 2) (put_len (n := 1) (put_len (n := 0) (Nat.le_refl 0))))) (by decide), ?_⟩
    have e16 := samep_upd (p := p) (H := H15) (o := .ins C dx (putF "_rows" (.ref r) (putF "home" (.ref ht) (putF "starts" (.ref st) (putF "names" (.ref n) (putF "members" (.ref m) []))))))
    have p16 := upd_same (H := H15) (a := p) (o := .ins C dx (putF "_rows" (.ref r) (putF "home" (.ref ht) (putF "starts" (.ref st) (putF "names" (.ref n) (putF "members" (.ref m) []))))))
    have f16 := f15.trans e16
    have m16 := e16 _ _ m15 (ne_of m15 p15 (by intro z; cases z))
    have n16 := e16 _ _ n15 (ne_of n15 p15 (by intro z; cases z))
    have t16 := e16 _ _ t15 (ne_of t15 p15 (by intro z; cases z))
    have h16 := e16 _ _ h15 (ne_of h15 p15 (by intro z; cases z))
    have r16 := e16 _ _ r15 (ne_of r15 p15 (by intro z; cases z))
    have R16 := R15.mono fun _ _ k => k.fr p15 e16
    generalize upd H15 p (.ins C dx (putF "_rows" (.ref r) (putF "home" (.ref ht) (putF "starts" (.ref st) (putF "names" (.ref n) (putF "members" (.ref m) [])))))) = H16 at p16 f16 m16 n16 t16 h16 r16 R16 ⊢
    clear e16 p15 m15 n15 t15 h15 r15 R15 f15 s15 tr s14 eD3 hR p13 m13 n13 t13 h13 g13 f13
    have rl : (rs.map V.ref).length = ds.length := by rw [List.length_map, R16.1]
    -- the pages
    refine ⟨_, rfl, p, C, dx, _, _, rfl, p16, T.cl, T.n5, put_same _ _ _, r, rfl, ⟨_, tupAt r16⟩, fun D4 nD4 => ?_⟩
    refine lc_tup (K := K) (a := r) (xs := rs.map V.ref) (fun i H' => ∃ qs : List Addr, Same H16 H' ∧ H' D4 = some (.lst (qs.map V.ref)) ∧ AllAt (PgR CP zs hs2 p) H' qs (ds.take i)) ⟨[], same_upd nD4, upd_same, .nil⟩ (fun i H' _ hq => tupAt (hq.choose_spec.1 _ _ r16)) (fun i v H' hv hq => ?_) (fun H17 hq => ?_)
    · obtain ⟨qs, sq, eD, hQ⟩ := hq
      obtain ⟨r', d, rfl, ed, ⟨bt, ft, es, he, hb, hbs, hf⟩⟩ := all_at (R16.mono fun _ _ k => k.nl (nl_same sq)) hv
      have hi := (List.getElem?_eq_some_iff.mp ed).1
      have ql : qs.length = i := by rw [hQ.1, List.length_take]; omega
      rw [List.take_add_one, ed]
      refine gTup3 he [some (.ref p), some (.ref a), some (.ref b), some (.ref c), some (.ref h), none, some (vN d.nm), some (.ref bt), some (.ref ft)] (by simp [wipe, L2.start]) ?_
      refine ⟨rfl, yesT ⟨_, rfl, _, rfl, _, rfl, _, rfl, _, rfl, p, C, dx, _, _, rfl, sq _ _ p16, T.cl, T.n4, put_ne (put_same _ _ _) (by decide +kernel), ht, _, rfl, .inr (tupAt (sq _ _ h16)), rfl, nms_flat _, fun x dx' nx ndx nex => ?_⟩⟩
      have sdx := same_upd (o := .own x) ndx
      have nxx : (upd H' dx' (.own x)) x = none := by rw [upd_ne nex.symm]; exact nx
      have sx := sdx.trans (same_upd (o := .ins CP dx' []) nxx)
      have bl : (sortB zs d.bids).length ≤ 500 := by
        have b64 := ok.bl d (List.mem_of_getElem? ed)
        refine Nat.le_trans sortB_len (Nat.le_trans (Nat.mul_le_mul (show zs.length ≤ 4 from z4) (show d.bids.length ≤ 64 by omega)) (by decide))
      refine ⟨x, bt, ft, dx', d.nm, _, es, sortB zs d.bids, d.fol, rfl, upd_same, sx _ _ hb, hbs.same sx, sx _ _ hf, bl, fun H2' pg sp => ⟨rfl, ?_⟩⟩
      have sK : Same H' H2' := fun y ob e => sp y ob (sx _ _ e) (ne_of_none e nx)
      have eD' := sK _ _ eD
      have xp : x ≠ p := (ne_of_none (sq _ _ p16) nx).symm
      have pg' : PgAt CP H2' x d.nm (sortB zs d.bids) d.fol (decide (d.nm ∈ hs2)) := by
        have e : inV (vN d.nm) (hs2.map vN) = decide (d.nm ∈ hs2) := inV_nm
        rw [← e]
        exact pg
      have Q1 : AllAt (PgR CP zs hs2 p) H2' qs (ds.take i) := hQ.mono fun _ _ k => ⟨k.1.same sK, k.2⟩
      have Q2 : AllAt (PgR CP zs hs2 p) H2' (qs ++ [x]) (ds.take i ++ [d]) := Q1.app (.one ⟨pg', xp⟩)
      exact ⟨_, eD', by rw [List.length_map, ql]; exact small1000 (by omega), qs ++ [x], same_at (sq.trans sK) nD4, by rw [List.map_append]; exact upd_same, Q2.mono fun _ _ k => ⟨k.1.nl (nl_wrote eD'), k.2⟩⟩
    obtain ⟨qs, s17, eD4, hQ⟩ := hq
    rw [rl, List.take_length] at hQ
    refine ⟨D4, _, rfl, .inl ⟨lstAt eD4, fun gg ngg => ?_⟩⟩
    have tg := same_upd (o := .tup (qs.map V.ref)) ngg
    have s18 := s17.trans tg
    have g18 := upd_same (H := H17) (a := gg) (o := .tup (qs.map V.ref))
    have Q18 := hQ.mono (S := PgR CP zs hs2 p) (H' := upd H17 gg (.tup (qs.map V.ref))) fun _ _ k => ⟨k.1.same tg, k.2⟩
    have p18 := s18 _ _ p16
    generalize upd H17 gg (.tup (qs.map V.ref)) = H18 at tg s18 g18 Q18 p18 ⊢
    refine ⟨_, rfl, p, C, dx, _, rfl, p18, T.cl, T.n6, Nat.lt_of_le_of_lt (put_len (n := 4) (put_len (n := 3) (put_len (n := 2) (put_len (n := 1) (put_len (n := 0) (Nat.le_refl 0)))))) (by decide), ?_⟩
    have e19 := samep_upd (p := p) (H := H18) (o := .ins C dx (fldsB m n st ht r gg))
    have fr := (f16.trans (same_p (p := p) s18)).trans e19
    have go : ∀ {y : Addr} {xs : List V}, H16 y = some (.tup xs) → (upd H18 p (.ins C dx (fldsB m n st ht r gg))) y = some (.tup xs) := fun e => e19 _ _ (s18 _ _ e) (ne_of (s18 _ _ e) p18 (by intro z; cases z))
    refine q _ ⟨dx, m, n, st, ht, r, gg, o, rs, qs, upd_same, go m16, e19 _ _ (s18 _ _ n16) (ne_of (s18 _ _ n16) p18 (by intro z; cases z)), oc, od, go t16, go h16, go r16, R16.mono fun _ _ k => (k.nl (nl_same s18)).fr p18 e19, e19 _ _ g18 (ne_of g18 p18 (by intro z; cases z)), Q18.mono fun _ _ k => ⟨k.1.fr p18 k.2 e19, k.2⟩⟩ fr
end
end TK

/-! the pages that the law draws -/
namespace TK
open PySem PySem.Spec PyProof.Rows L2
theorem canLay_strs : ∀ zs : List Nam, (∀ z ∈ zs, Nm z) → PyData.canLayAll0 ((zs.map sOf).map PyData.str) = true
  | [], _ => rfl
  | z :: r, h => by
    have h1 := canLay_strs r fun z m => h z (List.mem_cons_of_mem _ m)
    have h2 : PyData.strOk (sOf z) = true := nmH_ok (.inl (h z (List.mem_cons_self ..)))
    show PyData.canLayAll0 (PyData.str (sOf z) :: _) = true
    simp only [PyData.canLayAll0, PyData.canLay0, h2, Bool.true_and]
    exact h1
theorem depth_strs : ∀ ns : List Str, PyData.depthAll (ns.map PyData.str) = 0
  | [] => rfl
  | _ :: r => by simp [PyData.depthAll, PyData.depth, depth_strs r]
theorem shaped_strs {zs : List Nam} (h : ∀ z ∈ zs, Nm z) : SeqAt.shaped (.list ((zs.map sOf).map PyData.str)) = true := by
  simp only [SeqAt.shaped, PyData.canLay0, PyData.depth, canLay_strs zs h, depth_strs]; rfl
theorem dpAll_nms {K : PySem.W.Frag} {H : Hp} : ∀ (zs : List Nam), DpAll K H (zs.map vN) ((zs.map sOf).map PyData.str)
  | [] => .nil
  | z :: zs => .cons (.str _) (dpAll_nms zs)
theorem dp_nms {K : PySem.W.Frag} {H : Hp} {a : Addr} {zs : List Nam} (h : SqL K H a (zs.map vN)) : Dp K H (.ref a) (.list ((zs.map sOf).map PyData.str)) := .lst h (dpAll_nms zs)
theorem eqv_nil (zs : List Str) : PyData.eqv (.list (zs.map PyData.str)) (.list (([] : List Str).map PyData.str)) = decide (zs = []) := by
  cases zs with
  | nil => rfl
  | cons z zs => rfl
/-- a row of the law -/
def RwI (H0 : Hp) (D : Addr) : Hp → Addr → PgD → Prop := fun H p d => ∃ (b f : Addr) (es : List Addr), H p = some (.tup [vN d.nm, .ref b, .ref f]) ∧ H b = some (.lst (es.map V.ref)) ∧ BidsAt H es d.bids ∧ H f = some (.lst (d.fol.map vN)) ∧ b ≠ D ∧ f ≠ D ∧ H0 b = none ∧ H0 f = none
theorem RwI.go {H0 : Hp} {D : Addr} {H H' : Hp} {p : Addr} {d : PgD} (h : RwI H0 D H p d) (e : ∃ xs, H D = some (.lst xs)) (k : ∀ c o, H c = some o → c ≠ D → H' c = some o) : RwI H0 D H' p d := by
  obtain ⟨b, f, es, h1, h2, h3, h4, h5, h6, h7, h8⟩ := h
  obtain ⟨xs, e⟩ := e
  refine ⟨b, f, es, k _ _ h1 (ne_of h1 e nofun), k _ _ h2 h5, ⟨h3.1, fun i e' he => ?_⟩, k _ _ h4 h6, h5, h6, h7, h8⟩
  obtain ⟨d', a, b'⟩ := h3.2 i e' he
  exact ⟨d', a, k _ _ b' (ne_of b' e nofun)⟩
/-- right rows -/
structure RwOk (zs ts us : List Nam) (ds : List PgD) : Prop where
  nm : ds.map (·.nm) = us
  b : ∀ d ∈ ds, BOk zs d.bids
  bl : ∀ d ∈ ds, d.bids.length ≤ 4
  f : ∀ d ∈ ds, d.fol.Nodup
  fs : ∀ d ∈ ds, ∀ x ∈ d.fol, x ∈ ts
  fl : ∀ d ∈ ds, d.fol.length ≤ 4
  b6 : ∀ d ∈ ds, ∀ b ∈ d.bids, b.2 ≤ 6
theorem RwOk.nil {zs ts : List Nam} : RwOk zs ts [] [] := ⟨rfl, nofun, nofun, nofun, nofun, nofun, nofun⟩
theorem RwOk.app {zs ts us : List Nam} {ds : List PgD} {d : PgD} (h : RwOk zs ts us ds) (b : BOk zs d.bids) (bl : d.bids.length ≤ 4) (f : d.fol.Nodup) (fs : ∀ x ∈ d.fol, x ∈ ts) (fl : d.fol.length ≤ 4) (b6 : ∀ b ∈ d.bids, b.2 ≤ 6) : RwOk zs ts (us ++ [d.nm]) (ds ++ [d]) := by
  have one : ∀ {p : PgD → Prop}, (∀ x ∈ ds, p x) → p d → ∀ x ∈ ds ++ [d], p x := fun h k x m => (List.mem_append.mp m).elim (h x) fun m => by rw [List.mem_singleton.mp m]; exact k
  exact ⟨by rw [List.map_append, h.nm]; rfl, one h.b b, one h.bl bl, one h.f f, one h.fs fs, one h.fl fl, one h.b6 b6⟩
theorem bids_rev {H : Hp} {es : List Addr} {ds : List BidD} (h : BidsAt H es ds) : BidsAt H es.reverse ds.reverse := by
  have l := h.1
  refine ⟨by rw [List.length_reverse, List.length_reverse, l], fun i e he => ?_⟩
  have hi : i < es.length := by have := (List.getElem?_eq_some_iff.mp he).1; rwa [List.length_reverse] at this
  rw [List.getElem?_reverse hi] at he
  obtain ⟨d, a, b⟩ := h.2 _ e he
  exact ⟨d, by rw [List.getElem?_reverse (by omega), ← l]; exact a, b⟩
theorem BOk.rev {zs : List Nam} {ds : List BidD} (h : BOk zs ds) : BOk zs ds.reverse := ⟨by rw [List.map_reverse]; exact (List.reverse_perm _).nodup_iff.mpr h.nd, fun x m => h.sub x (by rw [List.map_reverse] at m; exact List.mem_reverse.mp m), fun d m => h.h0 d (List.mem_reverse.mp m), fun d m => h.h9 d (List.mem_reverse.mp m)⟩
theorem sev {i : Int} (h0 : 0 ≤ i) (h1 : i < 4) : ∃ v : Int, atI [V.int 1, V.int 7, V.int 49, V.int 343] i = some (.int v) ∧ 0 < v ∧ v < 1000000 := by
  obtain rfl | rfl | rfl | rfl : i = 0 ∨ i = 1 ∨ i = 2 ∨ i = 3 := by omega
  · exact ⟨1, rfl, by decide, by decide⟩
  · exact ⟨7, rfl, by decide, by decide⟩
  · exact ⟨49, rfl, by decide, by decide⟩
  · exact ⟨343, rfl, by decide, by decide⟩
section
variable {P : Program} {w : World} {K : PySem.W.Frag} {mg : Str → Option Value} {base : Heap}
def spPagesL (K : PySem.W.Frag) : Sp := fun vs H Q _ => ∃ (a m t : Addr) (ns : List Int) (s : Int) (zs ts : List Nam), vs = [.ref a, .int s, .ref m, .ref t] ∧ SqL K H a (ns.map V.int) ∧ 0 ≤ s ∧ s + 12 ≤ ns.length ∧ SqL K H m (zs.map vN) ∧ SqL K H t (ts.map vN) ∧ zs.length ≤ 4 ∧ ts.length ≤ 4 ∧ zs.Nodup ∧ ts.Nodup ∧ (∀ z ∈ ts, Nm z) ∧
  ∀ (H' : Hp) (D : Addr) (ps : List Addr) (ds : List PgD), H D = none → Same H H' → H' D = some (.lst (ps.map V.ref)) → AllAt (RwI H D) H' ps ds → RwOk zs ts ts ds → Q (.ref D) H'
theorem ok_L_pages {f : Addr} {fd : FuncData} (F : Fun K "_law_pages" "_law_pages" s_L_pages f fd) (m_len : mg "len" = none) (m_range : mg "range" = none) (d_L_part : Def P w K mg base "_law_part" 1 ["_law_pool_here", "_law_spot", "_law_under", "_law_size"] (spPart K))
    (d_L_some : Def P w K mg base "_law_some" 2 ["_law_pool_here", "_law_spot", "_law_names_here"] (spSome K)) : FnOk P w K mg base CX0 3 f fd ["_law_pool_here", "_law_spot", "_law_members", "_law_names_here"] (spPagesL K) := by
  refine F.ok sc_L_pages (fun vs H Q E h => ?_) (fun cdv A outer s H vs Q E hr h => ?_)
  · obtain ⟨a, m, t, ns, s, zs, ts, rfl, _⟩ := h
    rfl
  · obtain ⟨a, m, t, ns, s, zs, ts, rfl, hA, s0, s12, hM, hT, z4, t4, nz, nt, tn, q⟩ := h
    refine ⟨_, (pss_cons (ps_set (i := 4) sc_L_pages.nd rfl (.inl rfl) (pe_lst pa_nil))
  (pss_cons (ps_for PassesOwn.never rfl (pi_range1 (by rfl) m_range (pa_cons (pe_callB call_len_seq (by rfl) m_len (by decide +kernel) (pa_cons (pv 3) pa_nil)) pa_nil)) (pg_name (i := 5) sc_L_pages.nd rfl (.inl rfl))
    (pss_cons (ps_set (i := 6) sc_L_pages.nd rfl (.inl rfl) (pv 2))
  (pss_cons (ps_cut (ps_if (pt_cmpR op_eq (pe_callD d_L_part (hr.mono (by decide)) (by rfl) (pa_cons (pv 0) (pa_cons (pe_op op_add (pv 1) (pe_op op_mul pe_int (pv 5))) (pa_cons pe_int (pa_cons pe_int pa_nil))))) pe_int (nomark _)) (pss_one (ps_set (i := 6) sc_L_pages.nd rfl (.inl rfl) (pe_callD d_L_some (hr.mono (by decide)) (by rfl) (pa_cons (pv 0) (pa_cons (pe_op op_add (pv 1) (pe_op op_mul pe_int (pv 5))) (pa_cons (pv 2) pa_nil)))))) pss_nil))
  (pss_cons (ps_set (i := 7) sc_L_pages.nd rfl (.inl rfl) (pe_lst pa_nil))
  (pss_cons (ps_for PassesOwn.never rfl (pi_range1 (by rfl) m_range (pa_cons (pe_callB call_len_seq (by rfl) m_len (by decide +kernel) (pa_cons (pv 2) pa_nil)) pa_nil)) (pg_name (i := 8) sc_L_pages.nd rfl (.inl rfl))
    (pss_one (ps_if (pt_cmpR op_in_seq (pe_ix ix_list (pv 2) (pv 8) (fun _ _ => rfl)) (pv 6) (by rfl)) (pss_one (ps_expr (pe_bm PySem.F.plainAttrs_list PySem.F.slot_list_append PySem.F.type_list_append mt_append (pv 7) (pa_cons (pe_tup (pa_cons (pe_ix ix_list (pv 2) (pv 8) (fun _ _ => rfl)) (pa_cons (pe_callD d_L_part (hr.mono (by decide)) (by rfl) (pa_cons (pv 0) (pa_cons (pe_op op_add (pe_op op_add (pv 1) (pe_op op_mul pe_int (pv 5))) pe_int) (pa_cons (pe_ix ix_list (pe_lst (pa_cons pe_int (pa_cons pe_int (pa_cons pe_int (pa_cons pe_int pa_nil))))) (pv 8) (fun _ _ => rfl)) (pa_cons pe_int pa_nil))))) pa_nil))) pa_nil)))) pss_nil)))
  (pss_cons (ps_cut (ps_if (pt_cmpR op_eq (pe_callD d_L_part (hr.mono (by decide)) (by rfl) (pa_cons (pv 0) (pa_cons (pe_op op_add (pv 1) (pe_op op_mul pe_int (pv 5))) (pa_cons pe_int (pa_cons pe_int pa_nil))))) pe_int (nomark _)) (pss_one (ps_set (i := 7) sc_L_pages.nd rfl (.inl rfl) (pe_revL (pv 7)))) pss_nil))
  (pss_cons (ps_set (i := 9) sc_L_pages.nd rfl (.inl rfl) (pe_callD d_L_some (hr.mono (by decide)) (by rfl) (pa_cons (pv 0) (pa_cons (pe_op op_add (pe_op op_add (pv 1) (pe_op op_mul pe_int (pv 5))) pe_int) (pa_cons (pv 3) pa_nil)))))
  (pss_cons (ps_cut (ps_if (PW.pt (pw_and (pt_cmpR (op_eqD hr.units) (pv 9) (pe_lst pa_nil) (nomark _)) (pw_and1 (pt_cmpR op_gt (pe_callD d_L_part (hr.mono (by decide)) (by rfl) (pa_cons (pv 0) (pa_cons (pe_op op_add (pe_op op_add (pv 1) (pe_op op_mul pe_int (pv 5))) pe_int) (pa_cons pe_int (pa_cons pe_int pa_nil))))) pe_int (nomark _))))) (pss_one (ps_set (i := 9) sc_L_pages.nd rfl (.inl rfl) (pe_lst (pa_cons (pe_ix ix_list (pv 3) (pv 5) (fun _ _ => rfl)) pa_nil)))) pss_nil))
  (pss_cons (ps_cut (ps_if (pt_cmpR op_eq (pe_callD d_L_part (hr.mono (by decide)) (by rfl) (pa_cons (pv 0) (pa_cons (pe_op op_add (pe_op op_add (pv 1) (pe_op op_mul pe_int (pv 5))) pe_int) (pa_cons pe_int (pa_cons pe_int pa_nil))))) pe_int (nomark _)) (pss_one (ps_set (i := 9) sc_L_pages.nd rfl (.inl rfl) (pe_revL (pv 9)))) pss_nil))
  (pss_one (ps_expr (pe_bm PySem.F.plainAttrs_list PySem.F.slot_list_append PySem.F.type_list_append mt_append (pv 4) (pa_cons (pe_tup (pa_cons (pe_ix ix_list (pv 3) (pv 5) (fun _ _ => rfl)) (pa_cons (pv 7) (pa_cons (pv 9) pa_nil)))) pa_nil)))))))))))))
  (pss_one (ps_ret (pv 4))))), ?_⟩
    refine ⟨Nat.zero_le _, fun D nD => ?_⟩
    have w0 := same_upd (o := .lst []) nD
    refine ⟨_, rfl, _, _, rfl, .inl (w0.seq hT), _, rfl, by rw [List.length_map]; omega, by rw [List.length_map]; omega, for_range (fun j σ H' => ∃ (ps : List Addr) (ds : List PgD) (y5 y6 y7 y8 y9 : Option V), σ = [some (.ref a), some (.int s), some (.ref m), some (.ref t), some (.ref D), y5, y6, y7, y8, y9] ∧ Same H H' ∧ H' D = some (.lst (ps.map V.ref)) ∧ AllAt (RwI H D) H' ps ds ∧ RwOk zs ts (ts.take j) ds) ⟨[], [], _, _, _, _, _, rfl, w0, upd_same, .nil, .nil⟩ ?_ ?_⟩
    · rintro j σ H1 hj ⟨ps, ds, y5, y6, y7, y8, y9, rfl, s1, eD, hR, ok⟩
      rw [List.length_map] at hj
      obtain ⟨z, ez, az⟩ := nm_at (zs := ts) (i := 0 + (j : Int)) (by omega) (by omega)
      rw [show (0 + (j : Int)).toNat = j by omega] at ez
      have hA1 := s1.seq hA
      have hM1 := s1.seq hM
      have hT1 := s1.seq hT
      have j3 : CMul 3 (0 + (j : Int)) := .inl ⟨by decide, by decide⟩
      refine ⟨_, rfl, (fun σ' H' => ∃ (wv : Addr) (ws : List Nam), σ' = [some (.ref a), some (.int s), some (.ref m), some (.ref t), some (.ref D), some (.int (0 + (j : Int))), some (.ref wv), y7, y8, y9] ∧ Same H1 H' ∧ SqL K H' wv (ws.map vN)), ?_, ?_⟩
      · refine ⟨_, rfl, _, rfl, _, rfl, _, _, rfl, rfl, j3, _, _, rfl, rfl, _, _, _, _, _, rfl, hA1, by omega, by omega, by decide, by decide, by decide, rfl, _, rfl, ite2 (fun e => ?_) (fun e => ?_)⟩
        · refine ⟨_, rfl, _, rfl, _, rfl, _, _, rfl, rfl, j3, _, _, rfl, rfl, _, rfl, _, _, _, _, _, rfl, hA1, by omega, by omega, hM1, z4, fun d ws H2 s2 nd ed _ => ?_⟩
          exact ⟨d, ws, rfl, s2, lstAt ed⟩
        · exact ⟨m, zs, rfl, Same.refl _, hM1⟩
      rintro σ' H2 ⟨wv, ws, rfl, s2, hW⟩
      have hA2 := s2.seq hA1
      have hM2 := s2.seq hM1
      -- the bids
      refine ⟨Nat.zero_le _, fun B nB => ?_⟩
      have sB := same_upd (o := .lst []) nB
      have b1 := upd_same (H := H2) (a := B) (o := .lst [])
      have hA3 := sB.seq hA2
      have hM3 := sB.seq hM2
      have hW3 := sB.seq hW
      have s3 := s2.trans sB
      have fB : ∀ {H' : Hp}, Same H2 H' → ∀ c o, H1 c = some o → c ≠ B := fun _ c o e => ne_of_none (s2 _ _ e) nB
      refine ⟨_, rfl, _, _, rfl, .inl hM3, _, rfl, by rw [List.length_map]; omega, by rw [List.length_map]; omega, for_range (fun k σ H' => ∃ (es : List Addr) (us : List BidD) (y8 : Option V), σ = [some (.ref a), some (.int s), some (.ref m), some (.ref t), some (.ref D), some (.int (0 + (j : Int))), some (.ref wv), some (.ref B), y8, y9] ∧ Same H2 H' ∧ H' B = some (.lst (es.map V.ref)) ∧ BidsAt H' es us ∧ (us.map (·.1)).Sublist (zs.take k) ∧ ∀ d ∈ us, 0 ≤ d.2 ∧ d.2 ≤ 6) ⟨[], [], _, rfl, sB, b1, ⟨rfl, nofun⟩, List.Sublist.refl _, nofun⟩ ?_ ?_⟩
      · rintro k σ H4 hk ⟨es, us, y8, rfl, s4, eB, hE, sub, bd⟩
        rw [List.length_map] at hk
        obtain ⟨x, ex, ax⟩ := nm_at (zs := zs) (i := 0 + (k : Int)) (by omega) (by omega)
        rw [show (0 + (k : Int)).toNat = k by omega] at ex
        have hl : us.length ≤ k := by have := sub.length_le; rw [List.length_map, List.length_take] at this; omega
        refine ⟨_, rfl, _, rfl, _, _, _, _, rfl, rfl, s4.seq hM2, ax, _, rfl, wv, _, rfl, .inl (s4.seq hW), rfl, nms_flat _, _, rfl, ?_⟩
        rw [in_nm]
        by_cases mx : x ∈ ws
        · rw [decide_eq_true mx]
          obtain ⟨u, eu, u0, u1⟩ := sev (i := 0 + (k : Int)) (by omega) (by omega)
          refine iteT ⟨_, rfl, .inl ⟨rfl, _, lstAt eB⟩, _, rfl, _, rfl, _, _, _, _, rfl, rfl, s4.seq hM2, ax, ?_⟩
          refine ⟨_, rfl, _, rfl, _, rfl, _, _, rfl, rfl, j3, _, _, rfl, rfl, _, _, rfl, rfl, (show 4 ≤ sizeLine by decide), fun l nl => ⟨_, rfl, _, _, _, _, rfl, rfl, lstAt upd_same, eu, ?_⟩⟩
          have sl := same_upd (o := .lst [V.int 1, V.int 7, V.int 49, V.int 343]) nl
          generalize upd H4 l (.lst [V.int 1, V.int 7, V.int 49, V.int 343]) = H5 at sl ⊢
          have p0 := part_lo (ns := ns) (s := s + 3 * (0 + (j : Int)) + 1) (u := u) (z := 7) (by decide)
          have p1 := part_hi (ns := ns) (s := s + 3 * (0 + (j : Int)) + 1) (u := u) (z := 7) (by decide)
          refine ⟨_, _, _, _, _, rfl, sl.seq (s4.seq hA2), by omega, by omega, u0, u1, by decide, (show (2 : Nat) ≤ sizeLine by decide), fun g ng => ?_⟩
          have sg := same_upd (o := .tup [vN x, V.int (partOf ns (s + 3 * (0 + (j : Int)) + 1) u 7)]) ng
          have g6 := upd_same (H := H5) (a := g) (o := .tup [vN x, V.int (partOf ns (s + 3 * (0 + (j : Int)) + 1) u 7)])
          generalize upd H5 g (.tup [vN x, V.int (partOf ns (s + 3 * (0 + (j : Int)) + 1) u 7)]) = H6 at sg g6 ⊢
          have s46 := sl.trans sg
          refine ⟨_, _, _, rfl, rfl, s46 _ _ eB, by rw [List.length_map, hE.1]; exact small1000 (by omega), es ++ [g], us ++ [(x, partOf ns (s + 3 * (0 + (j : Int)) + 1) u 7)], _, rfl, same_at (s4.trans s46) nB, by rw [upd_same, List.map_append]; rfl, ?_, ?_, ?_⟩
          · exact ((hE.same s46).app (.one g6)).wrote (s46 _ _ eB)
          · rw [List.map_append]; exact sub_snoc sub ex
          · exact fun d md => (List.mem_append.mp md).elim (bd d) fun md => by rw [List.mem_singleton.mp md]; exact ⟨p0, by show partOf ns (s + 3 * (0 + (j : Int)) + 1) u 7 ≤ 6; omega⟩
        · rw [decide_eq_false mx]
          exact iteF ⟨es, us, _, rfl, s4, eB, hE, sub_keep sub, bd⟩
      rintro σ H4 ⟨es, us, y8', rfl, s4, eB, hE, sub, bd⟩
      rw [List.length_map, Int.toNat_natCast, List.take_length] at sub
      have bok : BOk zs us := ⟨sub.nodup nz, fun x mx => sub.subset mx, fun d md => (bd d md).1, fun d md => by have := (bd d md).2; omega⟩
      have b6 : ∀ d ∈ us, d.2 ≤ 6 := fun d md => (bd d md).2
      have ul : us.length ≤ 4 := by have := sub.length_le; rw [List.length_map] at this; omega
      clear bd sub fB
      have BD : B ≠ D := (ne_of_none (s2 _ _ eD) nB).symm
      have hB0 : H B = none := none_of (s1.trans s2) nB
      have s24 := s2.trans s4
      refine ⟨(fun σ' H' => ∃ (bv : Addr) (es : List Addr) (us : List BidD), σ' = [some (.ref a), some (.int s), some (.ref m), some (.ref t), some (.ref D), some (.int (0 + (j : Int))), some (.ref wv), some (.ref bv), y8', y9] ∧ Same H1 H' ∧ H' bv = some (.lst (es.map V.ref)) ∧ BidsAt H' es us ∧ BOk zs us ∧ us.length ≤ 4 ∧ bv ≠ D ∧ H bv = none ∧ ∀ d ∈ us, d.2 ≤ 6), ?_, ?_⟩
      · refine ⟨_, rfl, _, rfl, _, rfl, _, _, rfl, rfl, j3, _, _, rfl, rfl, _, _, _, _, _, rfl, s24.seq hA1, by omega, by omega, by decide, by decide, by decide, rfl, _, rfl, ite2 (fun e => ?_) (fun e => ?_)⟩
        · refine ⟨_, rfl, B, _, rfl, lstAt eB, fun r nr => ?_⟩
          rw [← List.map_reverse]
          have sr := same_upd (o := .lst (es.reverse.map V.ref)) nr
          exact ⟨r, es.reverse, us.reverse, rfl, s24.trans sr, upd_same, bids_rev (hE.same sr), bok.rev, by rw [List.length_reverse]; exact ul, (ne_of_none (s24 _ _ eD) nr).symm, none_of (s1.trans s24) nr, fun d md => b6 d (List.mem_reverse.mp md)⟩
        · exact ⟨B, es, us, rfl, s24, eB, hE, bok, ul, BD, hB0, b6⟩
      clear eB hE bok ul BD hB0 b6
      rintro σ' H5 ⟨bv, es, us, rfl, s5, eB, hE, bok, ul, BD, hB0, b6⟩
      clear s24 s4 s3 sB b1 hA3 hM3 hW3 nB hA2 hM2 hW s2
      -- the followers
      refine ⟨_, rfl, _, rfl, _, rfl, _, _, rfl, rfl, j3, _, _, rfl, rfl, _, _, rfl, rfl, _, rfl, _, _, _, _, _, rfl, s5.seq hA1, by omega, by omega, s5.seq hT1, t4, fun d fs H6 s6 nd ed sub => ?_⟩
      have s56 := s5.trans s6
      have fsub := sub.subset
      have fnd := sub.nodup nt
      have fl4 : fs.length ≤ 4 := Nat.le_trans sub.length_le t4
      have fnm : ∀ z ∈ fs, Nm z := fun z mz => tn z (fsub mz)
      refine ⟨(fun σ' H' => ∃ (fv : Addr) (fs : List Nam), σ' = [some (.ref a), some (.int s), some (.ref m), some (.ref t), some (.ref D), some (.int (0 + (j : Int))), some (.ref wv), some (.ref bv), y8', some (.ref fv)] ∧ Same H5 H' ∧ H' fv = some (.lst (fs.map vN)) ∧ fs.Nodup ∧ (∀ x ∈ fs, x ∈ ts) ∧ fs.length ≤ 4 ∧ fv ≠ D ∧ H fv = none), ?_, ?_⟩
      · refine ⟨_, rfl, Nat.zero_le _, fun n0 nn0 => ?_⟩
        have s7 := same_upd (o := .lst []) nn0
        have h0 := upd_same (H := H6) (a := n0) (o := .lst [])
        generalize upd H6 n0 (.lst []) = H7 at s7 h0 ⊢
        have s67 := s6.trans s7
        have s17 := s5.trans s67
        have keep : ∀ {σ : L2.St}, σ = [some (.ref a), some (.int s), some (.ref m), some (.ref t), some (.ref D), some (.int (0 + (j : Int))), some (.ref wv), some (.ref bv), y8', some (.ref d)] → ∃ (fv : Addr) (fs : List Nam), σ = [some (.ref a), some (.int s), some (.ref m), some (.ref t), some (.ref D), some (.int (0 + (j : Int))), some (.ref wv), some (.ref bv), y8', some (.ref fv)] ∧ Same H5 H7 ∧ H7 fv = some (.lst (fs.map vN)) ∧ fs.Nodup ∧ (∀ x ∈ fs, x ∈ ts) ∧ fs.length ≤ 4 ∧ fv ≠ D ∧ H fv = none :=
          fun e => ⟨d, fs, e, s67, s7 _ _ ed, fnd, fun x m => fsub m, fl4, (ne_of_none (s5 _ _ eD) nd).symm, none_of (s1.trans s5) nd⟩
        refine ⟨_, _, dp_nms (lstAt (s7 _ _ ed)), dp_nms (zs := []) (lstAt h0), shaped_strs fnm, shaped_strs nofun, _, rfl, ite2 (fun e => ?_) (fun e => ?_)⟩
        · refine ⟨_, rfl, _, rfl, _, rfl, _, _, rfl, rfl, j3, _, _, rfl, rfl, _, _, rfl, rfl, _, _, _, _, _, rfl, s17.seq hA1, by omega, by omega, by decide, by decide, by decide, _, _, rfl, rfl, _, rfl, ite2 (fun e => ?_) (fun e => ?_)⟩
          · refine ⟨_, rfl, _, rfl, _, _, _, _, rfl, rfl, s17.seq hT1, az, (show (1 : Nat) ≤ sizeLine by decide), fun r nr => ?_⟩
            have sr := same_upd (o := .lst [vN z]) nr
            exact ⟨r, [z], rfl, s67.trans sr, upd_same, List.nodup_cons.mpr ⟨nofun, List.nodup_nil⟩, fun x mx => by rw [List.mem_singleton.mp mx]; exact List.mem_of_getElem? ez, by show 1 ≤ 4; decide, (ne_of_none (s17 _ _ eD) nr).symm, none_of (s1.trans s17) nr⟩
          · exact keep rfl
        · exact keep rfl
      clear ed sub fsub fnd fl4 fnm
      rintro σ' H7 ⟨fv, fs, rfl, s7, eF, fnd, fsub, fl4, FD, hF0⟩
      have s17 := s5.trans s7
      refine ⟨(fun σ' H' => ∃ (fv : Addr) (fs : List Nam), σ' = [some (.ref a), some (.int s), some (.ref m), some (.ref t), some (.ref D), some (.int (0 + (j : Int))), some (.ref wv), some (.ref bv), y8', some (.ref fv)] ∧ Same H5 H' ∧ H' fv = some (.lst (fs.map vN)) ∧ fs.Nodup ∧ (∀ x ∈ fs, x ∈ ts) ∧ fs.length ≤ 4 ∧ fv ≠ D ∧ H fv = none), ?_, ?_⟩
      · refine ⟨_, rfl, _, rfl, _, rfl, _, _, rfl, rfl, j3, _, _, rfl, rfl, _, _, rfl, rfl, _, _, _, _, _, rfl, s17.seq hA1, by omega, by omega, by decide, by decide, by decide, rfl, _, rfl, ite2 (fun e => ?_) (fun e => ?_)⟩
        · refine ⟨_, rfl, fv, _, rfl, lstAt eF, fun r nr => ?_⟩
          rw [← List.map_reverse]
          have sr := same_upd (o := .lst (fs.reverse.map vN)) nr
          exact ⟨r, fs.reverse, rfl, s7.trans sr, upd_same, (List.reverse_perm _).nodup_iff.mpr fnd, fun x mx => fsub x (List.mem_reverse.mp mx), by rw [List.length_reverse]; exact fl4, (ne_of_none (s17 _ _ eD) nr).symm, none_of (s1.trans s17) nr⟩
        · exact ⟨fv, fs, rfl, s7, eF, fnd, fsub, fl4, FD, hF0⟩
      clear eF fnd fsub fl4 FD hF0 s7 s17
      rintro σ' H8 ⟨fv, fs, rfl, s8, eF, fnd, fsub, fl4, FD, hF0⟩
      have s18 := s5.trans s8
      refine ⟨_, rfl, .inl ⟨rfl, _, lstAt (s18 _ _ eD)⟩, _, rfl, _, rfl, _, _, _, _, rfl, rfl, s18.seq hT1, az, _, rfl, _, rfl, (show (3 : Nat) ≤ sizeLine by decide), fun g ng => ?_⟩
      have sg := same_upd (o := .tup [vN z, .ref bv, .ref fv]) ng
      have g9 := upd_same (H := H8) (a := g) (o := .tup [vN z, .ref bv, .ref fv])
      generalize upd H8 g (.tup [vN z, .ref bv, .ref fv]) = H9 at sg g9 ⊢
      have s59 := s8.trans sg
      have s19 := s5.trans s59
      have pl : ds.length ≤ j := by have := congrArg List.length ok.nm; rw [List.length_map, List.length_take] at this; omega
      have eD9 := s19 _ _ eD
      have gd : RwI H D H9 g ⟨z, us, fs⟩ := ⟨bv, fv, es, g9, s59 _ _ eB, hE.same s59, sg _ _ eF, BD, FD, hB0, hF0⟩
      have kD : ∀ c o, H9 c = some o → c ≠ D → (upd H9 D (.lst (ps.map V.ref ++ [.ref g]))) c = some o := fun c o e n => by rw [upd_ne n]; exact e
      refine ⟨_, _, _, rfl, rfl, eD9, by rw [List.length_map, hR.1]; exact small1000 (by omega), ps ++ [g], ds ++ [⟨z, us, fs⟩], _, _, _, _, _, rfl, same_at (s1.trans s19) nD, by rw [upd_same, List.map_append]; rfl, ?_, ?_⟩
      · exact ((hR.mono fun _ _ k => k.go ⟨_, eD⟩ fun c o e n => s19 _ _ e).app (.one gd)).mono fun _ _ k => k.go ⟨_, eD9⟩ kD
      · rw [List.take_add_one, ez]
        exact ok.app (d := ⟨z, us, fs⟩) bok ul fnd fsub fl4 b6
    · rintro σ H2 ⟨ps, ds, y5, y6, y7, y8, y9, rfl, s1, eD, hR, ok⟩
      rw [List.length_map, Int.toNat_natCast, List.take_length] at ok
      exact ⟨_, rfl, q _ D ps ds nD s1 eD hR ok⟩
end
end TK

/-! the parts of a right book without home pages -/
namespace TK
open PySem PySem.Spec PyProof.Rows L2
theorem fn_or {P : Program} {w : World} {K : PySem.W.Frag} {mg : Str → Option Value} {base : Heap} {CX : CXT} {k : Nat} {f : Addr} {fd : FuncData} {ps : List Str} {sp sq : Sp} (F : FnOk P w K mg base CX k f fd ps sp) (G : FnOk P w K mg base CX k f fd ps sq) : FnOk P w K mg base CX k f fd ps (fun vs H Q E => sp vs H Q E ∨ sq vs H Q E) :=
  ⟨fun vs H Q E h => h.elim (F.len vs H Q E) (G.len vs H Q E), fun A outer s H args us vs Q E hr he hb hv hs => hs.elim (F.run A outer s H args us vs Q E hr he hb hv) (G.run A outer s H args us vs Q E hr he hb hv)⟩
theorem cutk (xs : List V) (k : Nat) : cutV xs none (some (k : Int)) = xs.take k := by
  unfold cutV
  rw [HT.sIx_none, HT.sIx_nat, List.drop_zero, Nat.sub_zero]
  by_cases h : k ≤ xs.length
  · rw [Nat.min_eq_left h]
  · rw [Nat.min_eq_right (by omega), List.take_length, List.take_of_length_le (by omega)]
/-- a row: a tuple of the name, the bids, the followers; A: which its lists are -/
def RwT (A : Addr → Prop) : Hp → Addr → PgD → Prop := fun H p d => ∃ (b f : Addr) (es : List Addr), H p = some (.tup [vN d.nm, .ref b, .ref f]) ∧ H b = some (.lst (es.map V.ref)) ∧ BidsAt H es d.bids ∧ H f = some (.lst (d.fol.map vN)) ∧ A b ∧ A f
theorem RwT.same {A : Addr → Prop} {H H' : Hp} {p : Addr} {d : PgD} (h : RwT A H p d) (s : Same H H') : RwT A H' p d := by
  obtain ⟨b, f, es, h1, h2, h3, h4, h5⟩ := h
  exact ⟨b, f, es, s _ _ h1, s _ _ h2, h3.same s, s _ _ h4, h5⟩
theorem RwT.mono {A B : Addr → Prop} {H : Hp} {p : Addr} {d : PgD} (h : RwT A H p d) (s : ∀ x, A x → B x) : RwT B H p d := by
  obtain ⟨b, f, es, h1, h2, h3, h4, h5, h6⟩ := h
  exact ⟨b, f, es, h1, h2, h3, h4, s _ h5, s _ h6⟩
theorem RwT.go {A : Addr → Prop} {D : Addr} {H H' : Hp} {p : Addr} {d : PgD} (h : RwT A H p d) (hA : ∀ x, A x → x ≠ D) (e : ∃ xs, H D = some (.lst xs)) (k : ∀ c o, H c = some o → c ≠ D → H' c = some o) : RwT A H' p d := by
  obtain ⟨b, f, es, h1, h2, h3, h4, h6, h7⟩ := h
  obtain ⟨xs, e⟩ := e
  refine ⟨b, f, es, k _ _ h1 (ne_of h1 e nofun), k _ _ h2 (hA _ h6), ⟨h3.1, fun i e' he => ?_⟩, k _ _ h4 (hA _ h7), h6, h7⟩
  obtain ⟨d', a, b'⟩ := h3.2 i e' he
  exact ⟨d', a, k _ _ b' (ne_of b' e nofun)⟩
/-- the parts: members, rows, starts -/
structure Pt3 where
  zs : List Nam
  ds : List PgD
  ss : List Nam
def P3At (N : Addr → Prop) (H : Hp) (D : Addr) (b : Pt3) : Prop := ∃ (c r f : Addr) (rs : List Addr), H D = some (.tup [.ref c, .ref r, .ref f]) ∧ H c = some (.lst (b.zs.map vN)) ∧ H r = some (.lst (rs.map V.ref)) ∧ AllAt (RwT N) H rs b.ds ∧ H f = some (.lst (b.ss.map vN)) ∧ N c ∧ N r ∧ N f
theorem P3At.same {N : Addr → Prop} {H H' : Hp} {D : Addr} {b : Pt3} (p : P3At N H D b) (s : Same H H') : P3At N H' D b := by
  obtain ⟨c, r, f, rs, h1, h2, h3, h4, h5, h6⟩ := p
  exact ⟨c, r, f, rs, s _ _ h1, s _ _ h2, s _ _ h3, h4.mono fun _ _ k => k.same s, s _ _ h5, h6⟩
theorem P3At.mono {N M : Addr → Prop} {H : Hp} {D : Addr} {b : Pt3} (p : P3At N H D b) (s : ∀ x, N x → M x) : P3At M H D b := by
  obtain ⟨c, r, f, rs, h1, h2, h3, h4, h5, h6, h7, h8⟩ := p
  exact ⟨c, r, f, rs, h1, h2, h3, h4.mono fun _ _ k => k.mono s, h5, s _ h6, s _ h7, s _ h8⟩
theorem P3At.go {N : Addr → Prop} {H H' : Hp} {D L : Addr} {b : Pt3} (p : P3At N H D b) (hN : ∀ x, N x → x ≠ L) (e : ∃ xs, H L = some (.lst xs)) (k : ∀ c o, H c = some o → c ≠ L → H' c = some o) : P3At N H' D b := by
  obtain ⟨c, r, f, rs, h1, h2, h3, h4, h5, h6, h7, h8⟩ := p
  refine ⟨c, r, f, rs, k _ _ h1 ?_, k _ _ h2 (hN _ h6), k _ _ h3 (hN _ h7), h4.mono fun _ _ q => q.go hN e k, k _ _ h5 (hN _ h8), h6, h7, h8⟩
  obtain ⟨xs, e⟩ := e
  exact ne_of h1 e nofun
structure P3Ok (b : Pt3) : Prop where
  z1 : 1 ≤ b.zs.length
  z4 : b.zs.length ≤ 4
  zn : ∀ z ∈ b.zs, Nm z
  nz : b.zs.Nodup
  ok : POk b.zs b.ds
  f4 : ∀ d ∈ b.ds, d.fol.length ≤ 4
  b4 : ∀ d ∈ b.ds, d.bids.length ≤ 4
  sne : b.ss ≠ []
  snd : b.ss.Nodup
  ssub : ∀ x ∈ b.ss, x ∈ b.ds.map (·.nm)
  s4 : b.ss.length ≤ 4
/-- right rows, as far as they are made -/
structure RwOk3 (zs ts us : List Nam) (ds : List PgD) : Prop where
  nm : ds.map (·.nm) = us
  b : ∀ d ∈ ds, BOk zs d.bids
  bl : ∀ d ∈ ds, d.bids.length ≤ 4
  f : ∀ d ∈ ds, d.fol.Nodup
  fs : ∀ d ∈ ds, ∀ x ∈ d.fol, x ∈ ts
  fl : ∀ d ∈ ds, d.fol.length ≤ 4
theorem RwOk3.nil {zs ts : List Nam} : RwOk3 zs ts [] [] := ⟨rfl, nofun, nofun, nofun, nofun, nofun⟩
theorem RwOk3.app {zs ts us : List Nam} {ds : List PgD} {d : PgD} (h : RwOk3 zs ts us ds) (b : BOk zs d.bids) (bl : d.bids.length ≤ 4) (f : d.fol.Nodup) (fs : ∀ x ∈ d.fol, x ∈ ts) (fl : d.fol.length ≤ 4) : RwOk3 zs ts (us ++ [d.nm]) (ds ++ [d]) := by
  have one : ∀ {p : PgD → Prop}, (∀ x ∈ ds, p x) → p d → ∀ x ∈ ds ++ [d], p x := fun h k x m => (List.mem_append.mp m).elim (h x) fun m => by rw [List.mem_singleton.mp m]; exact k
  exact ⟨by rw [List.map_append, h.nm]; rfl, one h.b b, one h.bl bl, one h.f f, one h.fs fs, one h.fl fl⟩
section
variable {P : Program} {w : World} {K : PySem.W.Frag} {mg : Str → Option Value} {base : Heap}
def spGood3 (K : PySem.W.Frag) : Sp := fun vs H Q _ => ∃ (a : Addr) (ns : List Int), vs = [.ref a] ∧ SqL K H a (ns.map V.int) ∧ ns.length = 30 ∧ ∀ (H' : Hp) (D : Addr) (b : Pt3), H D = none → Same H H' → P3At (fun x => H x = none) H' D b → P3Ok b → Q (.ref D) H'
theorem ok_L_good {f : Addr} {fd : FuncData} (F : Fun K "_law_good" "_law_good" s_L_good f fd) (m_len : mg "len" = none) (d_L_part : Def P w K mg base "_law_part" 1 ["_law_pool_here", "_law_spot", "_law_under", "_law_size"] (spPart K)) (d_L_names : Def P w K mg base "_law_names" 2 ["_law_pool_here", "_law_spot", "_law_number"] (spNames K))
    (d_L_pages : Def P w K mg base "_law_pages" 3 ["_law_pool_here", "_law_spot", "_law_members", "_law_names_here"] (spPagesL K)) (d_L_shuffled : Def P w K mg base "_law_shuffled" 2 ["_law_pool_here", "_law_spot", "_law_row"] (spShufG vN K)) : FnOk P w K mg base CX0 4 f fd ["_law_head"] (spGood3 K) := by
  refine F.ok sc_L_good (fun vs H Q E h => ?_) (fun cdv A outer s H vs Q E hr h => ?_)
  · obtain ⟨a, ns, rfl, _⟩ := h
    rfl
  · obtain ⟨a, ns, rfl, hA, nl, q⟩ := h
    refine ⟨_, (pss_cons (ps_set (i := 1) sc_L_good.nd rfl (.inl rfl) (pe_callD d_L_names (hr.mono (by decide)) (by rfl) (pa_cons (pv 0) (pa_cons pe_int (pa_cons (pe_op op_add pe_int (pe_callD d_L_part (hr.mono (by decide)) (by rfl) (pa_cons (pv 0) (pa_cons pe_int (pa_cons pe_int (pa_cons pe_int pa_nil)))))) pa_nil)))))
  (pss_cons (ps_set (i := 2) sc_L_good.nd rfl (.inl rfl) (pe_callD d_L_names (hr.mono (by decide)) (by rfl) (pa_cons (pv 0) (pa_cons pe_int (pa_cons (pe_op op_add pe_int (pe_callD d_L_part (hr.mono (by decide)) (by rfl) (pa_cons (pv 0) (pa_cons pe_int (pa_cons pe_int (pa_cons pe_int pa_nil)))))) pa_nil)))))
  (pss_cons (ps_set (i := 3) sc_L_good.nd rfl (.inl rfl) (pe_lst pa_nil))
  (pss_cons (ps_for PassesOwn.never rfl (pi_list (pe_callD d_L_pages (hr.mono (by decide)) (by rfl) (pa_cons (pv 0) (pa_cons pe_int (pa_cons (pv 1) (pa_cons (pv 2) pa_nil)))))) (pg_tup (by rfl) (pgs_cons (pg_name (i := 4) sc_L_good.nd rfl (.inl rfl)) (pgs_cons (pg_name (i := 5) sc_L_good.nd rfl (.inl rfl)) (pgs_cons (pg_name (i := 6) sc_L_good.nd rfl (.inl rfl)) pgs_nil))))
    (pss_cons (ps_set (i := 7) sc_L_good.nd rfl (.inl rfl) (pe_callD d_L_shuffled (hr.mono (by decide)) (by rfl) (pa_cons (pv 0) (pa_cons (pe_op op_add pe_int (pe_callB call_len_seq (by rfl) m_len (by decide +kernel) (pa_cons (pv 3) pa_nil))) (pa_cons (pv 6) pa_nil)))))
  (pss_cons (ps_cut (ps_if (pt_cmpR op_eq (pe_callD d_L_part (hr.mono (by decide)) (by rfl) (pa_cons (pv 0) (pa_cons pe_int (pa_cons pe_int (pa_cons pe_int pa_nil))))) pe_int (nomark _)) (pss_one (ps_set (i := 7) sc_L_good.nd rfl (.inl rfl) (pe_slice sl_list (pv 7) po_none (po_some pe_int)))) pss_nil))
  (pss_one (ps_expr (pe_bm PySem.F.plainAttrs_list PySem.F.slot_list_append PySem.F.type_list_append mt_append (pv 3) (pa_cons (pe_tup (pa_cons (pv 4) (pa_cons (pv 5) (pa_cons (pv 7) pa_nil)))) pa_nil)))))))
  (pss_cons (ps_set (i := 8) sc_L_good.nd rfl (.inl rfl) (pe_slice sl_list (pe_callD d_L_shuffled (hr.mono (by decide)) (by rfl) (pa_cons (pv 0) (pa_cons pe_int (pa_cons (pv 2) pa_nil)))) po_none (po_some (pe_op op_add pe_int (pe_op op_mod (pe_callD d_L_part (hr.mono (by decide)) (by rfl) (pa_cons (pv 0) (pa_cons pe_int (pa_cons pe_int (pa_cons pe_int pa_nil))))) (pe_callB call_len_seq (by rfl) m_len (by decide +kernel) (pa_cons (pv 2) pa_nil)))))))
  (pss_one (ps_ret (pe_tup (pa_cons (pv 1) (pa_cons (pv 3) (pa_cons (pv 8) pa_nil))))))))))), ?_⟩
    have u0 := part_lo (ns := ns) (s := 5) (u := 1) (z := 4) (by decide)
    have u1 := part_hi (ns := ns) (s := 5) (u := 1) (z := 4) (by decide)
    refine ⟨_, rfl, _, rfl, a, ns, 5, 1, 4, rfl, hA, by decide, by omega, by decide, by decide, by decide, _, _, rfl, rfl, a, ns, 0, _, rfl, hA, by decide, by omega, by omega, by omega, fun c zs nc0 lz zn nz => ?_⟩
    have s1 := same_upd (o := .lst (zs.map vN)) nc0
    have nc : H c = none := nc0
    have ec := upd_same (H := H) (a := c) (o := .lst (zs.map vN))
    generalize upd H c (.lst (zs.map vN)) = H1 at s1 ec ⊢
    have z1 : 1 ≤ zs.length := by omega
    have z4 : zs.length ≤ 4 := by omega
    have v0 := part_lo (ns := ns) (s := 5) (u := 4) (z := 4) (by decide)
    have v1 := part_hi (ns := ns) (s := 5) (u := 4) (z := 4) (by decide)
    refine ⟨_, rfl, _, rfl, a, ns, 5, 4, 4, rfl, s1.seq hA, by decide, by omega, by decide, by decide, by decide, _, _, rfl, rfl, a, ns, 6, _, rfl, s1.seq hA, by decide, by omega, by omega, by omega, fun t ts nt lt tn ntd => ?_⟩
    have s2 := s1.trans (same_upd (o := .lst (ts.map vN)) nt)
    have et := upd_same (H := H1) (a := t) (o := .lst (ts.map vN))
    have ec := (same_upd (o := .lst (ts.map vN)) nt) _ _ ec
    generalize upd H1 t (.lst (ts.map vN)) = H3 at s2 ec et ⊢
    have t1 : 1 ≤ ts.length := by omega
    have t4 : ts.length ≤ 4 := by omega
    refine ⟨Nat.zero_le _, fun D nD => ?_⟩
    have cD : c ≠ D := ne_of_none ec nD
    have tD : t ≠ D := ne_of_none et nD
    have w0 := same_upd (o := .lst []) nD
    have e0 := upd_same (H := H3) (a := D) (o := .lst [])
    have ec := w0 _ _ ec
    have et := w0 _ _ et
    have s4 := s2.trans w0
    generalize upd H3 D (.lst []) = H4 at w0 s4 e0 ec et ⊢
    refine ⟨_, rfl, _, rfl, _, rfl, a, c, t, ns, 12, zs, ts, rfl, s4.seq hA, by decide, by omega, lstAt ec, lstAt et, z4, t4, nz, ntd, tn, fun H5 D2 ps ds nD2 s5 eD2 hR ok => ?_⟩
    have D2D : D2 ≠ D := (ne_of_none e0 nD2).symm
    have eD := s5 _ _ e0
    have ec := s5 _ _ ec
    have et := s5 _ _ et
    have pl : (ps.map V.ref).length = ds.length := by rw [List.length_map, hR.1]
    have dl : ds.length = ts.length := by rw [← ok.nm, List.length_map]
    have KD : ∀ {H' : Hp}, (∀ c o, H5 c = some o → c ≠ D → H' c = some o) → Same H3 H' := fun k c o e => k _ _ (s5 _ _ (w0 _ _ e)) (ne_of_none e nD)
    refine ⟨D2, rfl, ⟨_, lstAt eD2⟩, for_list (K := K) (a := D2) (xs := ps.map V.ref) (fun i σ H' => ∃ (qs : List Addr) (us : List PgD) (y4 y5 y6 y7 : Option V), σ = [some (.ref a), some (.ref c), some (.ref t), some (.ref D), y4, y5, y6, y7, none] ∧ (∀ c o, H5 c = some o → c ≠ D → H' c = some o) ∧ H' D = some (.lst (qs.map V.ref)) ∧ AllAt (RwT fun x => x ≠ D ∧ H x = none) H' qs us ∧ RwOk3 zs ts (ts.take i) us) ⟨[], [], _, _, _, _, rfl, fun _ _ e _ => e, eD, .nil, .nil⟩ (fun i σ H' _ hq => by obtain ⟨_, _, _, _, _, _, rfl, k, _⟩ := hq; exact lstAt (k _ _ eD2 D2D)) ?_ ?_⟩
    · rintro i v σ H6 hv ⟨qs, us, y4, y5, y6, y7, rfl, k6, e6, hQ, uk⟩
      obtain ⟨p, d, rfl, ed, b, f, es, h1, h2, h3, h4, h5, h6, h7, h8⟩ := all_at hR hv
      have hi := (List.getElem?_eq_some_iff.mp ed).1
      have md := List.mem_of_getElem? ed
      have et' : ts[i]? = some d.nm := by rw [← ok.nm, List.getElem?_map, ed]; rfl
      have bD : b ≠ D := (ne_of_none e0 h7).symm
      have fD : f ≠ D := (ne_of_none e0 h8).symm
      have nbH : H b = none := s4.free h7
      have sH6 : Same H H6 := s2.trans (KD k6)
      have b3 := k6 _ _ h2 bD
      have B3 : BidsAt H6 es d.bids := ⟨h3.1, fun j e he => by
        obtain ⟨x, a1, a2⟩ := h3.2 j e he
        exact ⟨x, a1, k6 _ _ a2 (ne_of a2 eD nofun)⟩⟩
      have f3 := k6 _ _ h4 fD
      have ul : us.length = i := by have := congrArg List.length uk.nm; rw [List.length_map, List.length_take] at this; omega
      have ql : (qs.map V.ref).length = i := by rw [List.length_map, hQ.1, ul]
      refine ⟨_, _, rfl, tupAt (k6 _ _ h1 (ne_of h1 eD nofun)), rfl, _, _, rfl, _, _, rfl, _, _, rfl, rfl, ?_⟩
      refine ⟨_, rfl, _, rfl, _, _, rfl, .inl (lstAt e6), _, _, rfl, rfl, _, rfl, _, _, _, _, d.fol, rfl, sH6.seq hA, by omega, by rw [ql]; omega, lstAt f3, ok.fl _ md, fun fv fs H7 s7 nv ev pf => ?_⟩
      have vD : fv ≠ D ∧ H fv = none := ⟨(ne_of_none e6 nv).symm, sH6.free nv⟩
      have fnd : fs.Nodup := pf.nodup_iff.mpr (ok.f d md)
      have fsub : ∀ x ∈ fs, x ∈ ts := fun x mx => ok.fs d md x (pf.mem_iff.mp mx)
      have fl4 : fs.length ≤ 4 := by rw [pf.length_eq]; exact ok.fl d md
      refine ⟨(fun σ' H' => ∃ (ov : Addr) (vs : List Nam), σ' = [some (.ref a), some (.ref c), some (.ref t), some (.ref D), some (vN d.nm), some (.ref b), some (.ref f), some (.ref ov), none] ∧ Same H6 H' ∧ H' ov = some (.lst (vs.map vN)) ∧ vs.Nodup ∧ (∀ x ∈ vs, x ∈ ts) ∧ vs.length ≤ 4 ∧ ov ≠ D ∧ H ov = none), ?_, ?_⟩
      · refine ⟨_, rfl, _, _, _, _, _, rfl, s7.seq (sH6.seq hA), by decide, by omega, by decide, by decide, by decide, rfl, _, rfl, ite2 (fun e => ?_) (fun e => ?_)⟩
        · refine ⟨_, rfl, _, rfl, fv, _, rfl, lstAt ev, fun g ng => ?_⟩
          rw [show (1 : Int) = ((1 : Nat) : Int) from rfl, cutk, ← List.map_take]
          exact ⟨g, fs.take 1, rfl, s7.trans (same_upd ng), upd_same, (List.take_sublist _ _).nodup fnd, fun x mx => fsub x ((List.take_sublist _ _).subset mx), by rw [List.length_take]; omega, (ne_of_none (s7 _ _ e6) ng).symm, (sH6.trans s7).free ng⟩
        · exact ⟨fv, fs, rfl, s7, ev, fnd, fsub, fl4, vD⟩
      clear ev vD fnd fsub fl4 s7 nv pf
      rintro σ' H8 ⟨fv, fs, rfl, s68, ev, fnd, fsub, fl4, vD⟩
      refine ⟨_, rfl, .inl ⟨rfl, _, lstAt (s68 _ _ e6)⟩, _, rfl, _, rfl, _, rfl, (show (3 : Nat) ≤ sizeLine by decide), fun g ng => ?_⟩
      have sg := same_upd (o := .tup [vN d.nm, .ref b, .ref fv]) ng
      have g9 := upd_same (H := H8) (a := g) (o := .tup [vN d.nm, .ref b, .ref fv])
      generalize upd H8 g (.tup [vN d.nm, .ref b, .ref fv]) = H9 at sg g9 ⊢
      have s69 := s68.trans sg
      have e9 := s69 _ _ e6
      have kD : ∀ c o, H9 c = some o → c ≠ D → (upd H9 D (.lst (qs.map V.ref ++ [.ref g]))) c = some o := fun c o e n => by rw [upd_ne n]; exact e
      have gd : RwT (fun x => x ≠ D ∧ H x = none) H9 g ⟨d.nm, d.bids, fs⟩ := ⟨b, fv, es, g9, s69 _ _ b3, B3.same s69, sg _ _ ev, ⟨bD, nbH⟩, vD⟩
      refine ⟨_, _, _, rfl, rfl, e9, by rw [ql]; exact small1000 (by omega), qs ++ [g], us ++ [⟨d.nm, d.bids, fs⟩], _, _, _, _, rfl, fun c o e n => kD _ _ (s69 _ _ (k6 _ _ e n)) n, by rw [upd_same, List.map_append]; rfl, ?_, ?_⟩
      · exact ((hQ.mono fun _ _ k => k.go (fun _ z => z.1) ⟨_, e6⟩ fun c o e n => s69 _ _ e).app (.one gd)).mono fun _ _ k => k.go (fun _ z => z.1) ⟨_, e9⟩ kD
      · rw [List.take_add_one, et']
        exact uk.app (d := ⟨d.nm, d.bids, fs⟩) (show BOk zs d.bids from ok.b _ md) (show d.bids.length ≤ 4 from ok.bl _ md) fnd fsub fl4
    · rintro σ H6 ⟨qs, us, y4, y5, y6, y7, rfl, k6, e6, hQ, uk⟩
      rw [pl, dl, List.take_length] at uk
      have s36 := KD k6
      have sH6 := s2.trans s36
      have e6c := k6 _ _ ec cD
      have e6t := k6 _ _ et tD
      have tl : (((ts.map vN).length : Nat) : Int) = (ts.length : Int) := by rw [List.length_map]
      have tp : (0 : Int) < (ts.length : Int) := by omega
      refine ⟨_, rfl, _, rfl, _, _, _, _, ts, rfl, sH6.seq hA, by decide, by omega, lstAt e6t, t4, fun d1 u1 H7 s7 n7 ed1 pm1 => ?_⟩
      refine ⟨_, rfl, _, _, _, _, _, rfl, s7.seq (sH6.seq hA), by decide, by omega, by decide, by decide, by decide, _, rfl, t, _, rfl, .inl (lstAt (s7 _ _ e6t)), _, _, rfl, rfl, by rw [tl]; omega, _, _, rfl, rfl, _, rfl, d1, _, rfl, lstAt ed1, fun f1 nf1 => ?_⟩
      have m0 := Int.emod_nonneg (partOf ns 28 24 4) (show (((ts.map vN).length : Nat) : Int) ≠ 0 by rw [tl]; omega)
      obtain ⟨k1, hk1⟩ : ∃ k : Nat, 1 + partOf ns 28 24 4 % (((ts.map vN).length : Nat) : Int) = (k : Int) := ⟨(1 + partOf ns 28 24 4 % (((ts.map vN).length : Nat) : Int)).toNat, by omega⟩
      rw [hk1, cutk, ← List.map_take]
      have k1p : 1 ≤ k1 := by omega
      have s8 := s7.trans (same_upd (o := .lst ((u1.take k1).map vN)) nf1)
      have ef1 := upd_same (H := H7) (a := f1) (o := .lst ((u1.take k1).map vN))
      generalize upd H7 f1 (.lst ((u1.take k1).map vN)) = H8 at s8 ef1 ⊢
      refine ⟨_, rfl, _, rfl, _, rfl, (show (3 : Nat) ≤ sizeLine by decide), fun Z nZ => ?_⟩
      have sZ := s8.trans (same_upd (o := .tup [V.ref c, .ref D, .ref f1]) nZ)
      have zz := same_upd (o := .tup [V.ref c, .ref D, .ref f1]) nZ
      have un : us.map (·.nm) = ts := uk.nm
      have ll : us.length = ts.length := by rw [← un, List.length_map]
      refine q _ Z ⟨zs, us, u1.take k1⟩ (none_of (sH6.trans s8) nZ) (sH6.trans sZ) ⟨c, D, f1, qs, upd_same, sZ _ _ e6c, sZ _ _ e6, hQ.mono fun _ _ k => (k.same sZ).mono fun _ z => z.2, zz _ _ ef1, nc, s2.free nD, (sH6.trans s7).free nf1⟩ ?_
      refine ⟨z1, z4, zn, nz, ⟨show 1 ≤ us.length by omega, show us.length ≤ 4 by omega, fun d md => tn _ (by rw [← un]; exact List.mem_map.mpr ⟨d, md, rfl⟩), by rw [un]; exact ntd, uk.b, fun d md => by have := uk.bl d md; omega, uk.f, fun d md => by rw [un]; exact uk.fs d md, fun d md => by have := uk.fl d md; omega⟩, uk.fl, uk.bl, ?_, ?_, ?_, ?_⟩
      · intro e
        have e := congrArg List.length (show u1.take k1 = [] from e)
        rw [List.length_take, pm1.length_eq] at e
        have e : min k1 ts.length = 0 := e
        omega
      · exact (List.take_sublist _ _).nodup (pm1.nodup_iff.mpr ntd)
      · exact fun x mx => by show x ∈ us.map (·.nm); rw [un]; exact pm1.mem_iff.mp ((List.take_sublist _ _).subset mx)
      · show (u1.take k1).length ≤ 4
        rw [List.length_take, pm1.length_eq]; omega
end
end TK

/-! books that are passed as tuples -/
namespace TK
open PySem PySem.Spec PyProof.Rows L2
def PgInT (H : Hp) (p : Addr) (d : PgD) : Prop := ∃ (b f : Addr) (es : List Addr), H p = some (.tup [vN d.nm, .ref b, .ref f]) ∧ H b = some (.tup (es.map V.ref)) ∧ BidsAt H es d.bids ∧ H f = some (.tup (d.fol.map vN))
def PgsInT (H : Hp) (ps : List Addr) (ds : List PgD) : Prop := ps.length = ds.length ∧ ∀ (i : Nat) (p : Addr), ps[i]? = some p → ∃ d, ds[i]? = some d ∧ PgInT H p d
theorem PgInT.same {H H' : Hp} {p : Addr} {d : PgD} (h : PgInT H p d) (s : Same H H') : PgInT H' p d := by
  obtain ⟨b, f, es, h1, h2, h3, h4⟩ := h
  exact ⟨b, f, es, s _ _ h1, s _ _ h2, h3.same s, s _ _ h4⟩
theorem PgsInT.same {H H' : Hp} {ps : List Addr} {ds : List PgD} (h : PgsInT H ps ds) (s : Same H H') : PgsInT H' ps ds := ⟨h.1, fun i p e => by
  obtain ⟨d, a, b⟩ := h.2 i p e
  exact ⟨d, a, b.same s⟩⟩
theorem pgs_atT {H : Hp} {ps : List Addr} {ds : List PgD} (h : PgsInT H ps ds) {i : Nat} {x : V} (hx : (ps.map V.ref)[i]? = some x) : ∃ p d, x = .ref p ∧ ds[i]? = some d ∧ PgInT H p d := by
  rw [List.getElem?_map] at hx
  obtain ⟨p, hp, rfl⟩ := Option.map_eq_some_iff.mp hx
  obtain ⟨d, a, b⟩ := h.2 i p hp
  exact ⟨p, d, rfl, a, b⟩
section
variable {P : Program} {w : World} {K : PySem.W.Frag} {mg : Str → Option Value} {base : Heap}
def spArePicksT (K : PySem.W.Frag) : Sp := fun vs H Q _ => ∃ (a b : Addr) (xs ys : List Nam), vs = [.ref a, .ref b] ∧ SqT K H a (xs.map vN) ∧ SqS K H b (ys.map vN) ∧ xs.Nodup ∧ (∀ x ∈ xs, x ∈ ys) ∧ xs.length < 64 ∧ ∀ H', Same H H' → Q (.bl true) H'
theorem ok_are_picksT {f : Addr} {fd : FuncData} (F : Fun K "_are_picks" "_are_picks" s_are_picks f fd) (m_all : mg "all" = none) (m_len : mg "len" = none) (m_set : mg "set" = none) : FnOk P w K mg base CX0 1 f fd ["picks", "known"] (spArePicksT K) := by
  refine F.ok sc_are_picks (fun vs H Q E h => ?_) (fun cdv A outer s H vs Q E hr h => ?_)
  · obtain ⟨a, b, xs, ys, rfl, _⟩ := h
    rfl
  · obtain ⟨a, b, xs, ys, rfl, hA, hB, nd, sub, l64, q⟩ := h
    have xl : (xs.map vN).length = xs.length := List.length_map ..
    refine ⟨_, (pss_one (ps_ret (pe_and (pe_callB (cr_all rfl) (by rfl) m_all (by decide +kernel) (pa_cons (pe_lc (own := [("pick", 2)]) (by rfl) sc_are_picks.nd (pi_tup (pv 0)) (blkOk_by (N := ["picks", "known", "pick"]) (sc := defScope s_are_picks) (by decide +kernel)) (fun _ _ _ _ _ => (pg_name (i := 2) sc_are_picks.nd rfl (.inl rfl))) (fun _ _ _ _ _ => pts_nil) (fun _ _ _ _ _ => (pe_cmpR (op_in_seqK (K := K) rfl) (pv 2) (pv 1) (by rfl)))) pa_nil)) (pe_one (pe_cmpR op_eq (pe_lenSetT rfl (by rfl) m_len (by rfl) m_set (pv 0)) (pe_callB call_len_seq (by rfl) m_len (by decide +kernel) (pa_cons (pv 0) pa_nil)) (nomark _)))))), ?_⟩
    refine ⟨_, rfl, a, rfl, ⟨_, hA⟩, fun D nD => ?_⟩
    refine lc_tup (K := K) (a := a) (xs := xs.map vN) (fun i H' => Same H H' ∧ H' D = some (.lst ((List.replicate i true).map V.bl))) ⟨same_upd nD, upd_same⟩ (fun i H' _ hq => (same_tup hq.1 hA)) (fun i v H' hv hq => ?_) (fun H' hq => ?_)
    · obtain ⟨s1, eD⟩ := hq
      obtain ⟨x, ex, rfl⟩ := vN_at hv
      have hi : i < 64 := Nat.lt_trans (List.getElem?_eq_some_iff.mp ex).1 l64
      refine ⟨rfl, yesT ⟨_, rfl, _, rfl, b, _, rfl, hB.elim (fun h => .inl (s1.seq h)) (fun h => .inr (same_tup s1 h)), rfl, nms_flat _, _, eD, by rw [List.length_map, List.length_replicate]; exact small1000 (by omega), same_at s1 nD, ?_⟩⟩
      rw [in_nm, decide_eq_true (sub x (List.mem_of_getElem? ex)), List.replicate_succ', List.map_append]
      exact upd_same
    · obtain ⟨s1, eD⟩ := hq
      refine ⟨_, _, rfl, lstAt eD, ?_⟩
      rw [all_true]
      refine ⟨_, rfl, iteT ?_⟩
      refine ⟨_, rfl, a, xs.map sOf, rfl, by rw [← vN_strs]; exact (same_tup s1 hA), strs_nd nd, by rw [List.length_map]; exact l64, _, rfl, a, _, rfl, .inr ((same_tup s1 hA)), rfl, ?_⟩
      rw [List.length_map, xl]
      exact bint (congrArg V.bl (decide_eq_true rfl)) (q _ s1)
def spAreBidsT (K : PySem.W.Frag) : Sp := fun vs H Q _ => ∃ (a b : Addr) (zs : List Nam) (es : List Addr) (ds : List BidD), vs = [.ref a, .ref b] ∧ SqT K H a (es.map V.ref) ∧ BidsAt H es ds ∧ SqS K H b (zs.map vN) ∧ BOk zs ds ∧ ds.length < 64 ∧ ∀ H', Same H H' → Q (.bl true) H'
theorem ok_are_bidsT {f : Addr} {fd : FuncData} (F : Fun K "_are_bids" "_are_bids" s_are_bids f fd) (m_all : mg "all" = none) (d_are_picks : Def P w K mg base "_are_picks" 1 ["picks", "known"] (spArePicks K)) : FnOk P w K mg base CX0 2 f fd ["bids", "members"] (spAreBidsT K) := by
  refine F.ok sc_are_bids (fun vs H Q E h => ?_) (fun cdv A outer s H vs Q E hr h => ?_)
  · obtain ⟨a, b, zs, es, ds, rfl, _⟩ := h
    rfl
  · obtain ⟨a, b, zs, es, ds, rfl, hA, hT, hB, ok, l64, q⟩ := h
    have el : (es.map V.ref).length = ds.length := by rw [List.length_map, hT.1]
    refine ⟨_, (pss_one (ps_ret (pe_and (pe_callD d_are_picks (hr.mono (by decide)) (by rfl) (pa_cons (pe_lc (own := [("member", 2), ("_", 3)]) (by rfl) sc_are_bids.nd (pi_tup (pv 0)) (blkOk_by (N := ["bids", "members", "member", "_", "bid"]) (sc := defScope s_are_bids) (by decide +kernel)) (fun _ _ _ _ _ => (pg_tupK (K := K) (n := 2) rfl (by rfl) (pgs_cons (pg_name (i := 2) sc_are_bids.nd rfl (.inl rfl)) (pgs_cons (pg_name (i := 3) sc_are_bids.nd rfl (.inl rfl)) pgs_nil)))) (fun _ _ _ _ _ => pts_nil) (fun _ _ _ _ _ => (pv 2))) (pa_cons (pv 1) pa_nil))) (pe_one (pe_callB (cr_all rfl) (by rfl) m_all (by decide +kernel) (pa_cons (pe_lc (own := [("_", 3), ("bid", 4)]) (by rfl) sc_are_bids.nd (pi_tup (pv 0)) (blkOk_by (N := ["bids", "members", "member", "_", "bid"]) (sc := defScope s_are_bids) (by decide +kernel)) (fun _ _ _ _ _ => (pg_tupK (K := K) (n := 2) rfl (by rfl) (pgs_cons (pg_name (i := 3) sc_are_bids.nd rfl (.inl rfl)) (pgs_cons (pg_name (i := 4) sc_are_bids.nd rfl (.inl rfl)) pgs_nil)))) (fun _ _ _ _ _ => pts_nil) (fun _ _ _ _ _ => (pe_chain op_le op_le pe_int (pv 4) (pe_op op_pow pe_int pe_int)))) pa_nil)))))), ?_⟩
    refine ⟨_, rfl, a, rfl, ⟨_, hA⟩, fun D nD => ?_⟩
    refine lc_tup (K := K) (a := a) (xs := es.map V.ref) (fun i H' => Same H H' ∧ H' D = some (.lst ((ds.take i).map fun d => vN d.1))) ⟨same_upd nD, upd_same⟩ (fun i H' _ hq => (same_tup hq.1 hA)) (fun i v H' hv hq => ?_) (fun H1 hq => ?_)
    · obtain ⟨s1, eD⟩ := hq
      obtain ⟨e, d, rfl, ed, he⟩ := bids_at (hT.same s1) hv
      have hi := (List.getElem?_eq_some_iff.mp ed).1
      refine gTup2w he [some (.ref a), some (.ref b), some (vN d.1), some (.int d.2), none] (by simp [wipe, L2.start]) ?_
      refine ⟨rfl, yesT ⟨_, rfl, _, eD, by rw [List.length_map, List.length_take]; exact small1000 (by omega), same_at s1 nD, ?_⟩⟩
      rw [List.take_add_one, ed, List.map_append]
      exact upd_same
    · obtain ⟨s1, eD⟩ := hq
      rw [el, List.take_length] at eD
      have e0 : (ds.map fun d => vN d.1) = (ds.map (·.1)).map vN := by rw [List.map_map]; rfl
      rw [e0] at eD
      refine ⟨_, rfl, D, b, ds.map (·.1), zs, rfl, lstAt eD, hB.elim (fun h => .inl (s1.seq h)) (fun h => .inr (same_tup s1 h)), ok.nd, ok.sub, by rw [List.length_map]; exact l64, fun H2 s2 => ?_⟩
      have s12 := s1.trans s2
      refine ⟨_, rfl, iteT ?_⟩
      refine ⟨_, rfl, a, rfl, ⟨_, (same_tup s12 hA)⟩, fun D2 nD2 => ?_⟩
      refine lc_tup (K := K) (a := a) (xs := es.map V.ref) (fun i H' => Same H2 H' ∧ H' D2 = some (.lst ((List.replicate i true).map V.bl))) ⟨same_upd nD2, upd_same⟩ (fun i H' _ hq => same_tup (s12.trans hq.1) hA) (fun i v H' hv hq => ?_) (fun H3 hq => ?_)
      · obtain ⟨s3, eD2⟩ := hq
        obtain ⟨e, d, rfl, ed, he⟩ := bids_at (hT.same (s12.trans s3)) hv
        have hi := (List.getElem?_eq_some_iff.mp ed).1
        have md := List.mem_of_getElem? ed
        have d0 := ok.h0 d md
        have d9 := ok.h9 d md
        refine gTup2w he [some (.ref a), some (.ref b), none, some (vN d.1), some (.int d.2)] (by simp [wipe, L2.start]) ?_
        refine ⟨rfl, yesT ?_⟩
        refine ⟨_, rfl, _, _, rfl, rfl, _, rfl, ?_⟩
        rw [decide_eq_true d0]
        refine iteT ⟨_, _, rfl, rfl, ⟨by decide, by decide, by decide⟩, _, _, rfl, rfl, _, eD2, by rw [List.length_map, List.length_replicate]; exact small1000 (by omega), same_at s3 nD2, ?_⟩
        rw [upd_same, List.replicate_succ', List.map_append]
        exact congrArg (fun z => some (HO.lst ((List.replicate i true).map V.bl ++ [z]))) (congrArg V.bl (decide_eq_true d9))
      · obtain ⟨s3, eD2⟩ := hq
        refine ⟨_, _, rfl, lstAt eD2, ?_⟩
        rw [all_true]
        exact q _ (s12.trans s3)
def spCheckPgT (K : PySem.W.Frag) : Sp := fun vs H Q _ => ∃ (a b : Addr) (zs : List Nam) (ps : List Addr) (ds : List PgD), vs = [.ref a, .ref b] ∧ SqT K H a (zs.map vN) ∧ SqT K H b (ps.map V.ref) ∧ PgsInT H ps ds ∧ POk zs ds ∧ ∀ H', Same H H' → Q .non H'
theorem ok_check_pagesT {f : Addr} {fd : FuncData} (F : Fun K "_check_pages" "_check_pages" s_check_pages f fd) (m_len : mg "len" = none) (m_enumerate : mg "enumerate" = none) (d_is_name : Def P w K mg base "is_name" 1 ["word"] spIsNameH)
    (d_are_picks : Def P w K mg base "_are_picks" 1 ["picks", "known"] (spArePicksT K)) (d_are_bids : Def P w K mg base "_are_bids" 2 ["bids", "members"] (spAreBidsT K)) : FnOk P w K mg base CX0 3 f fd ["members", "pages"] (spCheckPgT K) := by
  refine F.ok sc_check_pages (fun vs H Q E h => ?_) (fun cdv A outer s H vs Q E hr h => ?_)
  · obtain ⟨a, b, zs, ps, ds, rfl, _⟩ := h
    rfl
  · obtain ⟨a, b, zs, ps, ds, rfl, hA, hB, hT, ok, q⟩ := h
    have pl : (ps.map V.ref).length = ds.length := by rw [List.length_map, hT.1]
    have l1 := ok.l1
    have l4 := ok.l4
    refine ⟨_, (pss_cons (ps_if (pt_not (pt_chain op_le op_le pe_int (pe_callB call_len_seq (by rfl) m_len (by decide +kernel) (pa_cons (pv 1) pa_nil)) pe_int)) (pss_one ps_never) pss_nil)
  (pss_cons (ps_setLc (i := 2) (own := [("page", 8)]) (by rfl) sc_check_pages.nd rfl rfl (sw_true rfl rfl rfl (by decide +kernel)) (pi_tup (pv 1)) (blkOk_by (N := ["members", "pages", "names", "at", "name", "bids", "_", "followers", "page"]) (sc := defScope s_check_pages) (by decide +kernel)) (fun _ _ _ _ _ => (pg_name (i := 8) sc_check_pages.nd rfl (.inl rfl))) (fun _ _ _ _ _ => pts_nil) (fun _ _ _ _ _ => (pe_ix (ix_tupK (K := K) rfl) (pv 8) pe_int (fun _ _ => rfl))))
  (pss_cons (ps_for PassesOwn.never rfl (pi_enumT (by rfl) m_enumerate (pa_cons (pv 1) pa_nil)) (pg_tup (by rfl) (pgs_cons (pg_name (i := 3) sc_check_pages.nd rfl (.inl rfl)) (pgs_cons (pg_tup (by rfl) (pgs_cons (pg_name (i := 4) sc_check_pages.nd rfl (.inl rfl)) (pgs_cons (pg_name (i := 5) sc_check_pages.nd rfl (.inl rfl)) (pgs_cons (pg_name (i := 6) sc_check_pages.nd rfl (.inl rfl)) pgs_nil)))) pgs_nil)))
    (pss_one (ps_if (PW.pt (pw_or (pt_not (pt_val (pe_callD d_is_name (hr.mono (by decide)) (by rfl) (pa_cons (pv 4) pa_nil)))) (pw_or (pt_cmpR op_in_seq (pv 4) (pe_slice sl_list (pv 2) po_none (po_some (pv 3))) (by rfl)) (pw_or1 (pt_not (pt_val (pe_callD d_are_bids (hr.mono (by decide)) (by rfl) (pa_cons (pv 5) (pa_cons (pv 0) pa_nil))))))))) (pss_one ps_never) pss_nil)))
  (pss_one (ps_for PassesOwn.never rfl (pi_enumT (by rfl) m_enumerate (pa_cons (pv 1) pa_nil)) (pg_tup (by rfl) (pgs_cons (pg_name (i := 3) sc_check_pages.nd rfl (.inl rfl)) (pgs_cons (pg_tup (by rfl) (pgs_cons (pg_name (i := 6) sc_check_pages.nd rfl (.inl rfl)) (pgs_cons (pg_name (i := 6) sc_check_pages.nd rfl (.inl rfl)) (pgs_cons (pg_name (i := 7) sc_check_pages.nd rfl (.inl rfl)) pgs_nil)))) pgs_nil)))
    (pss_one (ps_if (pt_not (pt_val (pe_callD d_are_picks (hr.mono (by decide)) (by rfl) (pa_cons (pv 7) (pa_cons (pv 2) pa_nil))))) (pss_one ps_never) pss_nil))))))), ?_⟩
    refine ⟨_, rfl, b, _, rfl, .inr hB, _, _, rfl, rfl, _, rfl, ?_⟩
    rw [decide_eq_true (show (1 : Int) ≤ ((ps.map V.ref).length : Nat) by rw [pl]; omega)]
    refine iteT ⟨_, _, rfl, rfl, _, rfl, ?_⟩
    rw [decide_eq_true (show (((ps.map V.ref).length : Nat) : Int) ≤ 4 by rw [pl]; omega)]
    refine iteF ?_
    refine ⟨_, rfl, b, rfl, ⟨_, hB⟩, fun D nD => ?_⟩
    refine lc_tup (K := K) (a := b) (xs := ps.map V.ref) (fun i H' => Same H H' ∧ H' D = some (.lst (((ds.map (·.nm)).take i).map vN))) ⟨same_upd nD, upd_same⟩ (fun i H' _ hq => (same_tup hq.1 hB)) (fun i v H' hv hq => ?_) (fun H1 hq => ?_)
    · obtain ⟨s1, eD⟩ := hq
      obtain ⟨p, d, rfl, ed, ⟨b1, f1, es, he, _⟩⟩ := pgs_atT (hT.same s1) hv
      have hi := (List.getElem?_eq_some_iff.mp ed).1
      refine ⟨rfl, yesT ⟨_, rfl, _, _, 0, vN d.nm, rfl, rfl, tupAt he, atI_in (by decide) rfl, _, eD, by rw [List.length_map, List.length_take, List.length_map]; exact small1000 (by omega), same_at s1 nD, ?_⟩⟩
      rw [List.take_add_one, List.getElem?_map, ed, List.map_append]
      exact upd_same
    obtain ⟨s1, eD⟩ := hq
    rw [pl, show ds.length = (ds.map (·.nm)).length from (List.length_map ..).symm, List.take_length] at eD
    refine ⟨_, rfl, _, _, rfl, (same_tup s1 hB), for_it walk_enumT (fun i σ H2 => Same H1 H2 ∧ ∃ y3 y4 y5 y6 y7 : Option V, σ = [some (.ref a), some (.ref b), some (.ref D), y3, y4, y5, y6, y7, none]) ⟨Same.refl _, _, _, _, _, _, rfl⟩ (fun i σ H2 _ hp => same_tup (s1.trans hp.1) hB) ?_ ?_⟩
    · rintro i x σ H2 H3 hi ⟨s2, y3, y4, y5, y6, y7, rfl⟩ ⟨T, v1, v2, rfl, nT, rfl, e1, e2⟩
      cases e1
      have s12 := s1.trans s2
      obtain ⟨p, d, rfl, ed, ⟨b1, f1, es, he, hb, hbs, hf⟩⟩ := pgs_atT (hT.same s12) e2
      have md := List.mem_of_getElem? ed
      have sT := same_upd (o := .tup [.int (i : Nat), .ref p]) nT
      have sm := s12.trans sT
      refine ⟨_, _, rfl, tupAt upd_same, rfl, _, _, rfl, _, _, rfl, _, _, rfl, tupAt (sT _ _ he), rfl, _, _, rfl, _, _, rfl, _, _, rfl, rfl, rfl, ?_⟩
      refine ⟨_, rfl, d.nm, rfl, .inl (ok.nm d md), fun H4 s4 => ⟨_, rfl, ?_⟩⟩
      have sm4 := sm.trans s4
      rw [nz_nm (ok.nm d md)]
      refine iteF ?_
      refine ⟨_, rfl, _, rfl, _, rfl, _, rfl, _, _, rfl, lstAt (s4 _ _ (sT _ _ (s2 _ _ eD))), fun q2 nq2 => ?_⟩
      rw [cut_names]
      have s5 := same_upd (o := .lst (((ds.map (·.nm)).take i).map vN)) nq2
      have sm5 := sm4.trans s5
      refine ⟨q2, _, rfl, .inl (lstAt upd_same), rfl, nms_flat _, _, rfl, ?_⟩
      rw [in_nm, decide_eq_false (not_before ok.nd (by rw [List.getElem?_map, ed]; rfl))]
      refine iteF ?_
      have t3 : Same H2 (upd H4 q2 (.lst (((ds.map (·.nm)).take i).map vN))) := sT.trans (s4.trans s5)
      refine ⟨_, rfl, _, rfl, b1, a, zs, es, d.bids, rfl, tupAt (t3 _ _ hb), hbs.same t3, .inr (same_tup sm5 hA), ok.b d md, ok.bl d md, fun H6 s6 => ⟨_, rfl, iteF ⟨s2.trans (t3.trans s6), _, _, _, _, _, rfl⟩⟩⟩
    · rintro σ H2 ⟨s2, y3, y4, y5, y6, y7, rfl⟩
      have s12 := s1.trans s2
      refine ⟨_, rfl, _, _, rfl, (same_tup s12 hB), for_it walk_enumT (fun i σ H3 => Same H2 H3 ∧ ∃ y3 y6 y7 : Option V, σ = [some (.ref a), some (.ref b), some (.ref D), y3, y4, y5, y6, y7, none]) ⟨Same.refl _, _, _, _, rfl⟩ (fun i σ H3 _ hp => same_tup (s12.trans hp.1) hB) ?_ ?_⟩
      · rintro i x σ H3 H4 hi ⟨s3, y3, y6, y7, rfl⟩ ⟨T, v1, v2, rfl, nT, rfl, e1, e2⟩
        cases e1
        have s13 := s12.trans s3
        obtain ⟨p, d, rfl, ed, ⟨b1, f1, es, he, hb, hbs, hf⟩⟩ := pgs_atT (hT.same s13) e2
        have md := List.mem_of_getElem? ed
        have sT := same_upd (o := .tup [.int (i : Nat), .ref p]) nT
        refine ⟨_, _, rfl, tupAt upd_same, rfl, _, _, rfl, _, _, rfl, _, _, rfl, tupAt (sT _ _ he), rfl, _, _, rfl, _, _, rfl, _, _, rfl, rfl, rfl, ?_⟩
        refine ⟨_, rfl, _, rfl, f1, D, d.fol, ds.map (·.nm), rfl, tupAt (sT _ _ hf), .inl (lstAt (sT _ _ (s3 _ _ (s2 _ _ eD)))), ok.f d md, ok.fs d md, ok.fl d md, fun H5 s5 => ⟨_, rfl, iteF ⟨s3.trans (sT.trans s5), _, _, _, rfl⟩⟩⟩
      · rintro σ H3 ⟨s3, y3, y6, y7, rfl⟩
        exact q _ (s12.trans s3)
def spEndsT (K : PySem.W.Frag) : Sp := fun vs H Q _ => ∃ (a b c : Addr) (ns ss hs : List Nam), vs = [.ref a, .ref b, .ref c] ∧ SqS K H a (ns.map vN) ∧ SqT K H b (ss.map vN) ∧ SqT K H c (hs.map vN) ∧ ss ≠ [] ∧ ss.Nodup ∧ (∀ x ∈ ss, x ∈ ns) ∧ hs.Nodup ∧ (∀ x ∈ hs, x ∈ ns) ∧ ns.length < 64 ∧ ∀ H', Same H H' → Q .non H'
theorem ok_check_endsT {f : Addr} {fd : FuncData} (F : Fun K "_check_ends" "_check_ends" s_check_ends f fd) (m_len : mg "len" = none) (d_are_picks : Def P w K mg base "_are_picks" 1 ["picks", "known"] (spArePicksT K)) : FnOk P w K mg base CX0 2 f fd ["names", "starts", "home"] (spEndsT K) := by
  refine F.ok sc_check_ends (fun vs H Q E h => ?_) (fun cdv A outer s H vs Q E hr h => ?_)
  · obtain ⟨a, b, c, ns, ss, hs, rfl, _⟩ := h
    rfl
  · obtain ⟨a, b, c, ns, ss, hs, rfl, hA, hB, hC, ne, nd1, su1, nd2, su2, l64, q⟩ := h
    refine ⟨_, (pss_cons (ps_if (PW.pt (pw_or (pt_cmpR op_eq (pe_callB call_len_seq (by rfl) m_len (by decide +kernel) (pa_cons (pv 1) pa_nil)) pe_int (nomark _)) (pw_or1 (pt_not (pt_val (pe_callD d_are_picks (hr.mono (by decide)) (by rfl) (pa_cons (pv 1) (pa_cons (pv 0) pa_nil)))))))) (pss_one ps_never) pss_nil)
  (pss_one (ps_if (pt_not (pt_val (pe_callD d_are_picks (hr.mono (by decide)) (by rfl) (pa_cons (pv 2) (pa_cons (pv 0) pa_nil))))) (pss_one ps_never) pss_nil))), ?_⟩
    have sl : (ss.map vN).length ≠ 0 := fun e => ne (List.eq_nil_of_length_eq_zero (by rw [List.length_map] at e; exact e))
    refine ⟨_, rfl, b, _, rfl, .inr hB, rfl, _, rfl, ?_⟩
    rw [decide_eq_false (show ¬ V.int (((ss.map vN).length : Nat) : Int) = V.int 0 from fun e => sl (by have := V.int.inj e; omega))]
    refine iteF ?_
    refine ⟨_, rfl, _, rfl, b, a, ss, ns, rfl, hB, hA, nd1, su1, Nat.lt_of_le_of_lt (nd_lenK nd1 su1) l64, fun H1 s1 => ⟨_, rfl, iteF ?_⟩⟩
    exact ⟨_, rfl, _, rfl, c, a, hs, ns, rfl, (same_tup s1 hC), hA.same s1, nd2, su2, Nat.lt_of_le_of_lt (nd_lenK nd2 su2) l64, fun H2 s2 => ⟨_, rfl, iteF (q _ (s1.trans s2))⟩⟩
def spSortBT (K : PySem.W.Frag) : Sp := fun vs H Q _ => ∃ (a b : Addr) (zs : List Nam) (es : List Addr) (ds : List BidD), vs = [.ref a, .ref b] ∧ SqT K H a (zs.map vN) ∧ SqT K H b (es.map V.ref) ∧ BidsAt H es ds ∧ zs.length ≤ 6 ∧ ds.length < 64 ∧ ∀ H' t es', H t = none → Same H H' → H' t = some (.tup (es'.map V.ref)) → BidsAt H' es' (sortB zs ds) → Q (.ref t) H'
theorem ok_sorted_bidsT {f : Addr} {fd : FuncData} (F : Fun K "_sorted_bids" "_sorted_bids" s_sorted_bids f fd) (m_tuple : mg "tuple" = none) : FnOk P w K mg base CX0 1 f fd ["members", "bids"] (spSortBT K) := by
  refine F.ok sc_sorted_bids (fun vs H Q E h => ?_) (fun cdv A outer s H vs Q E hr h => ?_)
  · obtain ⟨a, b, zs, es, ds, rfl, _⟩ := h
    rfl
  · obtain ⟨a, b, zs, es, ds, rfl, hA, hB, hT, z6, l64, q⟩ := h
    have zl : (zs.map vN).length = zs.length := List.length_map ..
    have el : (es.map V.ref).length = ds.length := by rw [List.length_map, hT.1]
    refine ⟨_, (pss_one (ps_ret (pe_callTy call_tuple_of (by rfl) m_tuple (by decide +kernel) (pa_cons (pe_lc2 (own := [("member", 2), ("bidder", 3), ("bid", 4)]) (vs1 := [3, 4]) (by rfl) sc_sorted_bids.nd (pi_tup (pv 0)) (blkOk_by (N := ["members", "bids", "member", "bidder", "bid"]) (sc := defScope s_sorted_bids) (by decide +kernel)) (by decide) (fun _ _ _ _ _ => (pg_name (i := 2) sc_sorted_bids.nd rfl (.inl rfl))) (fun _ _ _ _ _ => pts_nil) (fun _ _ _ _ _ => (pi_tupK (K := K) rfl (pv 1))) (fun _ _ _ _ _ => (pg_tupK (K := K) (n := 2) rfl (by rfl) (pgs_cons (pg_name (i := 3) sc_sorted_bids.nd rfl (.inl rfl)) (pgs_cons (pg_name (i := 4) sc_sorted_bids.nd rfl (.inl rfl)) pgs_nil)))) (fun _ _ _ _ _ => (pts_one (pt_cmpR op_eq (pv 3) (pv 2) (nomark _)))) (fun _ _ _ _ _ => (pe_tup (pa_cons (pv 2) (pa_cons (pv 4) pa_nil))))) pa_nil)))), ?_⟩
    refine ⟨_, rfl, a, rfl, ⟨_, hA⟩, fun D nD => ?_⟩
    refine walk_go (walk_tup (K := K) (a := a) (xs := zs.map vN)) (fun i H' => ∃ fs : List Addr, Same H H' ∧ H' D = some (.lst (fs.map V.ref)) ∧ BidsAt H' fs (sortB (zs.take i) ds)) ⟨[], same_upd nD, upd_same, ⟨rfl, fun _ _ h => nomatch h⟩⟩ (fun i H' _ hq => same_tup hq.choose_spec.1 hA) (fun i x H1 H2 hi hq hy => ?_) (fun H' hq => ?_)
    · obtain ⟨fs, s1, eD, hF⟩ := hq
      obtain ⟨rfl, hx⟩ := hy
      obtain ⟨z, ez, rfl⟩ := vN_at hx
      have hi6 : i < 6 := by have := (List.getElem?_eq_some_iff.mp ez).1; omega
      have fl : fs.length ≤ 6 * 64 := by
        rw [hF.1]
        refine Nat.le_trans sortB_len (Nat.mul_le_mul ?_ (by omega))
        rw [List.length_take]; omega
      have e1 : sortB (zs.take (i + 1)) ds = sortB (zs.take i) ds ++ rowB ds z := by
        unfold sortB
        rw [List.take_add_one, ez, List.flatMap_append]
        show _ ++ (rowB ds z ++ []) = _
        rw [List.append_nil]
      rw [e1]
      refine ⟨rfl, yesT ⟨_, rfl, b, rfl, ⟨_, (same_tup s1 hB)⟩, ?_⟩⟩
      refine walk_go (walk_tup (K := K) (a := b) (xs := es.map V.ref)) (fun j H' => ∃ fs : List Addr, Same H H' ∧ H' D = some (.lst (fs.map V.ref)) ∧ BidsAt H' fs (sortB (zs.take i) ds ++ rowB (ds.take j) z)) ⟨fs, s1, eD, by rw [show rowB (ds.take 0) z = [] from rfl, List.append_nil]; exact hF⟩ (fun j H' _ hq => same_tup hq.choose_spec.1 hB) (fun j x H3 H4 hj hq hy => ?_) (fun H' hq => ?_)
      · obtain ⟨gs, s3, eD3, hG⟩ := hq
        obtain ⟨rfl, hx2⟩ := hy
        obtain ⟨e, d, rfl, ed, he⟩ := bids_at (hT.same s3) hx2
        have hj := (List.getElem?_eq_some_iff.mp ed).1
        have gl : gs.length ≤ 6 * 64 + 64 := by
          rw [hG.1, List.length_append, ← hF.1]
          have : (rowB (ds.take j) z).length ≤ (ds.take j).length := List.length_filter_le _ _
          rw [List.length_take] at this
          omega
        have e2 : rowB (ds.take (j + 1)) z = rowB (ds.take j) z ++ if d.1 = z then [d] else [] := by
          unfold rowB
          rw [flt_at ed]
          by_cases h : d.1 = z
          · rw [if_pos h, if_pos (decide_eq_true h)]
          · rw [if_neg h, if_neg (by rw [decide_eq_false h]; decide)]
        rw [e2]
        refine gTup2w he [some (.ref a), some (.ref b), some (vN z), some (vN d.1), some (.int d.2)] (by simp [wipe, L2.start]) ?_
        refine ⟨rfl, _, rfl, _, rfl, rfl, _, rfl, ?_⟩
        rw [eq_nm]
        by_cases h : d.1 = z
        · rw [decide_eq_true h, if_pos h]
          refine iteT ⟨_, rfl, _, rfl, (show (2 : Nat) ≤ sizeLine by decide), fun t nt => ?_⟩
          have st := same_upd (o := .tup [vN z, .int d.2]) nt
          refine ⟨_, st _ _ eD3, by rw [List.length_map]; exact small1000 (by omega), gs ++ [t], same_at (s3.trans st) nD, by rw [List.map_append]; exact upd_same, ?_⟩
          rw [← List.append_assoc]
          refine ((hG.same st).app (BidsAt.one ?_)).wrote (st _ _ eD3)
          rw [h]
          exact upd_same
        · rw [decide_eq_false h, if_neg h, List.append_nil]
          exact iteF ⟨gs, s3, eD3, hG⟩
      · obtain ⟨gs, s3, eD3, hG⟩ := hq
        rw [el, List.take_length] at hG
        exact ⟨gs, s3, eD3, hG⟩
    · obtain ⟨fs, s1, eD, hF⟩ := hq
      rw [zl, List.take_length] at hF
      refine ⟨D, _, rfl, .inl ⟨lstAt eD, fun t nt => ?_⟩⟩
      have st := same_upd (o := .tup (fs.map V.ref)) nt
      exact q _ t fs (none_of s1 nt) (s1.trans st) upd_same (hF.same st)
end
end TK

/-! Book.__init__, with tuples -/
namespace TK
open PySem PySem.Spec PyProof.Rows L2
theorem tup_go {H H' : Hp} {p C dx : Addr} {fs : List (Str × V)} {a : Addr} {xs : List V} (h : H a = some (.tup xs)) (hp : H p = some (.ins C dx fs)) (f : SameP p H H') : H' a = some (.tup xs) := f _ _ h (ne_of h hp (by intro z; cases z))
theorem pgs_frameT {H H' : Hp} {p C dx : Addr} {fs : List (Str × V)} {ps : List Addr} {ds : List PgD} (h : PgsInT H ps ds) (hp : H p = some (.ins C dx fs)) (f : SameP p H H') : PgsInT H' ps ds := ⟨h.1, fun i e he => by
  obtain ⟨d, a, b1, f1, es, h1, h2, h3, h4⟩ := h.2 i e he
  exact ⟨d, a, b1, f1, es, f _ _ h1 (ne_of h1 hp (by intro z; cases z)), tup_go h2 hp f, bids_frame h3 hp f, tup_go h4 hp f⟩⟩
/-- what the def is given -/
structure BkGT (K : PySem.W.Frag) (H : Hp) (a b c h : Addr) (zs ss hs : List Nam) (ps : List Addr) (ds : List PgD) : Prop where
  m : H a = some (.tup (zs.map vN))
  b : H b = some (.tup (ps.map V.ref))
  t : PgsInT H ps ds
  c : H c = some (.tup (ss.map vN))
  h : SqT K H h (hs.map vN)
theorem BkGT.same {K : PySem.W.Frag} {H H' : Hp} {a b c h : Addr} {zs ss hs : List Nam} {ps : List Addr} {ds : List PgD} (g : BkGT K H a b c h zs ss hs ps ds) (s : Same H H') : BkGT K H' a b c h zs ss hs ps ds := ⟨s _ _ g.m, s _ _ g.b, g.t.same s, s _ _ g.c, same_tup s g.h⟩
theorem BkGT.fr {K : PySem.W.Frag} {H H' : Hp} {a b c h p C dx : Addr} {fs : List (Str × V)} {zs ss hs : List Nam} {ps : List Addr} {ds : List PgD} (g : BkGT K H a b c h zs ss hs ps ds) (hp : H p = some (.ins C dx fs)) (f : SameP p H H') : BkGT K H' a b c h zs ss hs ps ds := ⟨tup_go g.m hp f, tup_go g.b hp f, pgs_frameT g.t hp f, tup_go g.c hp f, sqT_frame g.h hp f⟩
section
variable {P : Program} {w : World} {K : PySem.W.Frag} {mg : Str → Option Value} {base : Heap}
def spInitBkT (K : PySem.W.Frag) (C CP : Addr) : Sp := fun vs H Q _ => ∃ (p a b c h dx : Addr) (zs ss hs : List Nam) (ps : List Addr) (ds : List PgD), vs = [.ref p, .ref a, .ref b, .ref c, .ref h] ∧ H p = some (.ins C dx []) ∧ BkGT K H a b c h zs ss hs ps ds ∧ 1 ≤ zs.length ∧ zs.length ≤ 4 ∧ (∀ z ∈ zs, Nm z) ∧ zs.Nodup ∧ POk zs ds ∧ ss ≠ [] ∧ ss.Nodup ∧ (∀ x ∈ ss, x ∈ ds.map (·.nm)) ∧ hs.Nodup ∧ (∀ x ∈ hs, x ∈ ds.map (·.nm)) ∧
  ∀ H', BkAt C CP H' p zs ss ((ds.map (·.nm)).filter fun n => decide (n ∈ hs)) ds → SameP p H H' → Q .non H'
theorem ok_BookT {f C CP fP : Addr} {fd fdP : FuncData} {dvs : List V} {kws : List (Str × V)} (F : FunD K "__init__" "Book.__init__" (defArgs s_Book_init) (defBody s_Book_init) (defScope s_Book_init) dvs kws f fd) (T : TxtBk K C) (m_tuple : mg "tuple" = none) (d_check_names : DefD P w K mg base "check_names" 2 ["names", "most", "hook"] (spCheckN K) [.bl false])
    (d_check_pages : Def P w K mg base "_check_pages" 3 ["members", "pages"] (spCheckPgT K)) (d_check_ends : Def P w K mg base "_check_ends" 2 ["names", "starts", "home"] (spEndsT K)) (d_sorted_bids : Def P w K mg base "_sorted_bids" 1 ["members", "bids"] (spSortBT K))
    (M_Page : Mk K CP fP) (G_Page : FnOk P w K mg base CX0 1 fP fdP ["self", "name", "bids", "followers", "home"] (spInitPg CP)) (mg_Page : mg "Page" = some (.ref CP)) (b_Page : Binds K fdP ["self", "name", "bids", "followers", "home"] []) :
    FnOk P w K mg base CX0 4 f fd ["self", "members", "pages", "starts", "home"] (spInitBkT K C CP) := by
  refine F.ok (CX := CX0) sc_Book_init (fun vs H Q E h => ?_) (fun cdv A outer s H vs Q E hr h => ?_)
  · obtain ⟨p, a, b, c, h, dx, zs, ss, hs, ps, ds, rfl, _⟩ := h
    rfl
  · obtain ⟨p, a, b, c, h, dx, zs, ss, hs, ps, ds, rfl, hp, g, z1, z4, nm, nd, ok, sne, snd, ssub, hnd, hsub, q⟩ := h
    have pl : (ps.map V.ref).length = ds.length := by rw [List.length_map, g.t.1]
    have l4 := ok.l4
    refine ⟨_, (pss_cons (ps_expr (pe_callDD d_check_names (hr.mono (by decide)) (by rfl) (pa_cons (pv 1) (pa_cons pe_int pa_nil))))
  (pss_cons (ps_expr (pe_callD d_check_pages (hr.mono (by decide)) (by rfl) (pa_cons (pv 1) (pa_cons (pv 2) pa_nil))))
  (pss_cons (ps_fld (pv 0) (pe_callTy call_tuple_of (by rfl) m_tuple (by decide +kernel) (pa_cons (pv 1) pa_nil)) rfl)
  (pss_cons (ps_fld (pv 0) (pe_callTy call_tuple_frz (by rfl) m_tuple (by decide +kernel) (pa_cons (pe_lc (own := [("page", 5)]) (by rfl) sc_Book_init.nd (pi_tup (pv 2)) (blkOk_by (N := ["self", "members", "pages", "starts", "home", "page", "name", "bids", "followers"]) (sc := defScope s_Book_init) (by decide +kernel)) (fun _ _ _ _ _ => (pg_name (i := 5) sc_Book_init.nd rfl (.inl rfl))) (fun _ _ _ _ _ => pts_nil) (fun _ _ _ _ _ => (pe_ix (ix_tupK (K := K) rfl) (pv 5) pe_int (fun _ _ => rfl)))) pa_nil)) rfl)
  (pss_cons (ps_expr (pe_callD d_check_ends (hr.mono (by decide)) (by rfl) (pa_cons (pe_fld (pv 0) rfl) (pa_cons (pv 3) (pa_cons (pv 4) pa_nil)))))
  (pss_cons (ps_fld (pv 0) (pe_callTy call_tuple_of (by rfl) m_tuple (by decide +kernel) (pa_cons (pv 3) pa_nil)) rfl)
  (pss_cons (ps_fld (pv 0) (pe_callTy call_tuple_of (by rfl) m_tuple (by decide +kernel) (pa_cons (pe_lc (own := [("name", 6)]) (by rfl) sc_Book_init.nd (pi_tup (pe_fld (pv 0) rfl)) (blkOk_by (N := ["self", "members", "pages", "starts", "home", "page", "name", "bids", "followers"]) (sc := defScope s_Book_init) (by decide +kernel)) (fun _ _ _ _ _ => (pg_name (i := 6) sc_Book_init.nd rfl (.inl rfl))) (fun _ _ _ _ _ => (pts_one (pt_cmpR (op_in_seqK (K := K) rfl) (pv 6) (pv 4) (by rfl)))) (fun _ _ _ _ _ => (pv 6))) pa_nil)) rfl)
  (pss_cons (ps_fld (pv 0) (pe_callTy call_tuple_of (by rfl) m_tuple (by decide +kernel) (pa_cons (pe_lc (own := [("name", 6), ("bids", 7), ("followers", 8)]) (by rfl) sc_Book_init.nd (pi_tup (pv 2)) (blkOk_by (N := ["self", "members", "pages", "starts", "home", "page", "name", "bids", "followers"]) (sc := defScope s_Book_init) (by decide +kernel)) (fun _ _ _ _ _ => (pg_tupK (K := K) (n := 3) rfl (by rfl) (pgs_cons (pg_name (i := 6) sc_Book_init.nd rfl (.inl rfl)) (pgs_cons (pg_name (i := 7) sc_Book_init.nd rfl (.inl rfl)) (pgs_cons (pg_name (i := 8) sc_Book_init.nd rfl (.inl rfl)) pgs_nil))))) (fun _ _ _ _ _ => pts_nil) (fun _ _ _ _ _ => (pe_tup (pa_cons (pv 6) (pa_cons (pe_callD d_sorted_bids (hr.mono (by decide)) (by rfl) (pa_cons (pv 1) (pa_cons (pv 7) pa_nil))) (pa_cons (pe_callTy (call_tuple_ofK (K := K) rfl) (by rfl) m_tuple (by decide +kernel) (pa_cons (pv 8) pa_nil)) pa_nil)))))) pa_nil)) rfl)
  (pss_one (ps_fld (pv 0) (pe_callTy call_tuple_of (by rfl) m_tuple (by decide +kernel) (pa_cons (pe_lc (own := [("name", 6), ("bids", 7), ("followers", 8)]) (by rfl) sc_Book_init.nd (pi_tup (pe_fld (pv 0) rfl)) (blkOk_by (N := ["self", "members", "pages", "starts", "home", "page", "name", "bids", "followers"]) (sc := defScope s_Book_init) (by decide +kernel)) (fun _ _ _ _ _ => (pg_tupK (K := K) (n := 3) rfl (by rfl) (pgs_cons (pg_name (i := 6) sc_Book_init.nd rfl (.inl rfl)) (pgs_cons (pg_name (i := 7) sc_Book_init.nd rfl (.inl rfl)) (pgs_cons (pg_name (i := 8) sc_Book_init.nd rfl (.inl rfl)) pgs_nil))))) (fun _ _ _ _ _ => pts_nil) (fun _ _ _ _ _ => (pe_make M_Page G_Page (hr.mono (by decide)) (by rfl) mg_Page b_Page .nil pass0 (pa_cons (pv 6) (pa_cons (pv 7) (pa_cons (pv 8) (pa_cons (pe_cmpR (op_in_seqK (K := K) rfl) (pv 6) (pe_fldK (K := K) rfl (pv 0) rfl) (by rfl)) pa_nil))))))) pa_nil)) rfl)))))))))), ?_⟩
    refine ⟨_, rfl, a, 4, zs, rfl, .inr (tupAt g.m), z1, by omega, by omega, nm, nd, fun H1 s1 => ?_⟩
    refine ⟨_, rfl, _, rfl, a, b, zs, ps, ds, rfl, tupAt (s1 _ _ g.m), tupAt (s1 _ _ g.b), g.t.same s1, ok, fun H2 s2 => ?_⟩
    have s12 := s1.trans s2
    -- members
    refine ⟨_, rfl, a, _, rfl, .inr ⟨tupAt (s12 _ _ g.m), ?_⟩⟩
    have s3 := s12
    have m3 := s12 _ _ g.m
    have g3 := g.same s3
    have p3 := s3 _ _ hp
    have f3 := same_p (p := p) s3
    generalize H2 = H3 at s3 m3 g3 p3 f3 ⊢
    refine ⟨_, rfl, p, C, dx, _, rfl, p3, T.cl, T.n1, by decide, ?_⟩
    have e4 := samep_upd (p := p) (H := H3) (o := .ins C dx (putF "members" (.ref a) []))
    have p4 := upd_same (H := H3) (a := p) (o := .ins C dx (putF "members" (.ref a) []))
    have f4 := f3.trans e4
    have m4 := e4 _ _ m3 (ne_of m3 p3 (by intro z; cases z))
    have g4 := g3.fr p3 e4
    generalize upd H3 p (.ins C dx (putF "members" (.ref a) [])) = H4 at p4 f4 m4 g4 ⊢
    -- names
    refine ⟨_, rfl, b, rfl, ⟨_, tupAt g4.b⟩, fun D nD => ?_⟩
    refine lc_tup (K := K) (a := b) (xs := ps.map V.ref) (fun i H' => Same H4 H' ∧ H' D = some (.lst (((ds.map (·.nm)).take i).map vN))) ⟨same_upd nD, upd_same⟩ (fun i H' _ hq => tupAt (hq.1 _ _ g4.b)) (fun i v H' hv hq => ?_) (fun H5 hq => ?_)
    · obtain ⟨sq, eD⟩ := hq
      obtain ⟨p', d, rfl, ed, ⟨b1, f1, es, he, _⟩⟩ := pgs_atT (g4.t.same sq) hv
      have hi := (List.getElem?_eq_some_iff.mp ed).1
      refine ⟨rfl, yesT ⟨_, rfl, _, _, 0, vN d.nm, rfl, rfl, tupAt he, atI_in (by decide) rfl, _, eD, by rw [List.length_map, List.length_take, List.length_map]; exact small1000 (by omega), same_at sq nD, ?_⟩⟩
      rw [List.take_add_one, List.getElem?_map, ed, List.map_append]
      exact upd_same
    obtain ⟨s5, eD⟩ := hq
    rw [pl, show ds.length = (ds.map (·.nm)).length from (List.length_map ..).symm, List.take_length] at eD
    refine ⟨D, _, rfl, lstAt eD, fun n o nn oc od => ?_⟩
    have s6 := s5.trans (same_upd (o := .frz o (.tup ((ds.map (·.nm)).map vN))) nn)
    have n6 := upd_same (H := H5) (a := n) (o := .frz o (.tup ((ds.map (·.nm)).map vN)))
    have p6 := s6 _ _ p4
    have m6 := s6 _ _ m4
    have g6 := g4.same s6
    have f6 := f4.trans (same_p (p := p) s6)
    generalize upd H5 n (.frz o (.tup ((ds.map (·.nm)).map vN))) = H6 at n6 p6 m6 g6 f6 ⊢
    refine ⟨_, rfl, p, C, dx, _, rfl, p6, T.cl, T.n2, Nat.lt_of_le_of_lt (put_len (n := 0) (Nat.le_refl 0)) (by decide), ?_⟩
    have e7 := samep_upd (p := p) (H := H6) (o := .ins C dx (putF "names" (.ref n) (putF "members" (.ref a) [])))
    have p7 := upd_same (H := H6) (a := p) (o := .ins C dx (putF "names" (.ref n) (putF "members" (.ref a) [])))
    have f7 := f6.trans e7
    have m7 := e7 _ _ m6 (ne_of m6 p6 (by intro z; cases z))
    have n7 := e7 _ _ n6 (ne_of n6 p6 (by intro z; cases z))
    have g7 := g6.fr p6 e7
    generalize upd H6 p (.ins C dx (putF "names" (.ref n) (putF "members" (.ref a) []))) = H7 at p7 f7 m7 n7 g7 ⊢
    clear e7 e4 p6 m6 n6 g6 f6 s6 s5 eD p4 m4 g4 f4 p3 m3 g3 f3 s3
    -- the ends
    refine ⟨_, rfl, p, C, dx, _, _, rfl, p7, T.cl, T.n2, put_same _ _ _, _, rfl, _, rfl, n, c, h, ds.map (·.nm), ss, hs, rfl, .inr (.inl (.inr ⟨o, n7⟩)), tupAt g7.c, g7.h, sne, snd, ssub, hnd, hsub, by rw [List.length_map]; omega, fun H8 s8 => ?_⟩
    -- starts
    refine ⟨_, rfl, c, _, rfl, .inr ⟨tupAt (s8 _ _ g7.c), ?_⟩⟩
    have s9 := s8
    have t9 := s8 _ _ g7.c
    have p9 := s9 _ _ p7
    have m9 := s9 _ _ m7
    have n9 := s9 _ _ n7
    have g9 := g7.same s9
    have f9 := f7.trans (same_p (p := p) s9)
    generalize H8 = H9 at t9 p9 m9 n9 g9 f9 ⊢
    refine ⟨_, rfl, p, C, dx, _, rfl, p9, T.cl, T.n3, Nat.lt_of_le_of_lt (put_len (n := 1) (put_len (n := 0) (Nat.le_refl 0))) (by decide), ?_⟩
    have e10 := samep_upd (p := p) (H := H9) (o := .ins C dx (putF "starts" (.ref c) (putF "names" (.ref n) (putF "members" (.ref a) []))))
    have p10 := upd_same (H := H9) (a := p) (o := .ins C dx (putF "starts" (.ref c) (putF "names" (.ref n) (putF "members" (.ref a) []))))
    have f10 := f9.trans e10
    have m10 := e10 _ _ m9 (ne_of m9 p9 (by intro z; cases z))
    have n10 := e10 _ _ n9 (ne_of n9 p9 (by intro z; cases z))
    have t10 := e10 _ _ t9 (ne_of t9 p9 (by intro z; cases z))
    have g10 := g9.fr p9 e10
    generalize upd H9 p (.ins C dx (putF "starts" (.ref c) (putF "names" (.ref n) (putF "members" (.ref a) [])))) = H10 at p10 f10 m10 n10 t10 g10 ⊢
    clear e10 p9 m9 n9 t9 g9 f9 s9 s8 p7 m7 n7 g7 f7
    -- home
    refine ⟨_, rfl, p, C, dx, _, _, rfl, p10, T.cl, T.n2, put_ne (put_same _ _ _) (by decide +kernel), n, rfl, ⟨_, .inl (.inr ⟨o, n10⟩)⟩, fun D2 nD2 => ?_⟩
    refine lc_tup (K := K) (a := n) (xs := (ds.map (·.nm)).map vN) (fun i H' => Same H10 H' ∧ H' D2 = some (.lst ((((ds.map (·.nm)).take i).filter fun z => decide (z ∈ hs)).map vN))) ⟨same_upd nD2, upd_same⟩ (fun i H' _ hq => .inl (.inr ⟨o, hq.1 _ _ n10⟩)) (fun i v H' hv hq => ?_) (fun H11 hq => ?_)
    · obtain ⟨sq, eD⟩ := hq
      obtain ⟨z, ez, rfl⟩ := vN_at hv
      have hi := (List.getElem?_eq_some_iff.mp ez).1
      rw [List.length_map] at hi
      have fl : (((ds.map (·.nm)).take i).filter fun z => decide (z ∈ hs)).length ≤ 4 := Nat.le_trans (List.length_filter_le _ _) (by rw [List.length_take]; omega)
      rw [flt_at ez]
      refine ⟨rfl, _, rfl, _, rfl, h, _, rfl, .inr (same_tup sq g10.h), rfl, nms_flat _, _, rfl, ?_⟩
      rw [in_nm]
      by_cases hz : z ∈ hs
      · rw [decide_eq_true hz]
        refine iteT ⟨_, rfl, _, eD, by rw [List.length_map]; exact small1000 (by omega), same_at sq nD2, ?_⟩
        rw [if_pos rfl, List.map_append]
        exact upd_same
      · rw [decide_eq_false hz]
        exact iteF ⟨sq, by rw [if_neg Bool.false_ne_true, List.append_nil]; exact eD⟩
    obtain ⟨s11, eD2⟩ := hq
    rw [List.length_map, List.take_length] at eD2
    generalize hh2 : (ds.map (·.nm)).filter (fun z => decide (z ∈ hs)) = hs2 at eD2 q
    refine ⟨D2, _, rfl, .inl ⟨lstAt eD2, fun ht nht => ?_⟩⟩
    have s12 := s11.trans (same_upd (o := .tup (hs2.map vN)) nht)
    have h12 := upd_same (H := H11) (a := ht) (o := .tup (hs2.map vN))
    have p12 := s12 _ _ p10
    have m12 := s12 _ _ m10
    have n12 := s12 _ _ n10
    have t12 := s12 _ _ t10
    have g12 := g10.same s12
    have f12 := f10.trans (same_p (p := p) s12)
    generalize upd H11 ht (.tup (hs2.map vN)) = H12 at h12 p12 m12 n12 t12 g12 f12 ⊢
    refine ⟨_, rfl, p, C, dx, _, rfl, p12, T.cl, T.n4, Nat.lt_of_le_of_lt (put_len (n := 2) (put_len (n := 1) (put_len (n := 0) (Nat.le_refl 0)))) (by decide), ?_⟩
    have e13 := samep_upd (p := p) (H := H12) (o := .ins C dx (putF "home" (.ref ht) (putF "starts" (.ref c) (putF "names" (.ref n) (putF "members" (.ref a) [])))))
    have p13 := upd_same (H := H12) (a := p) (o := .ins C dx (putF "home" (.ref ht) (putF "starts" (.ref c) (putF "names" (.ref n) (putF "members" (.ref a) [])))))
    have f13 := f12.trans e13
    have m13 := e13 _ _ m12 (ne_of m12 p12 (by intro z; cases z))
    have n13 := e13 _ _ n12 (ne_of n12 p12 (by intro z; cases z))
    have t13 := e13 _ _ t12 (ne_of t12 p12 (by intro z; cases z))
    have h13 := e13 _ _ h12 (ne_of h12 p12 (by intro z; cases z))
    have g13 := g12.fr p12 e13
    generalize upd H12 p (.ins C dx (putF "home" (.ref ht) (putF "starts" (.ref c) (putF "names" (.ref n) (putF "members" (.ref a) []))))) = H13 at p13 f13 m13 n13 t13 h13 g13 ⊢
    clear e13 p12 m12 n12 t12 h12 g12 f12 s12 s11 eD2 p10 m10 n10 t10 g10 f10
    -- the rows
    refine ⟨_, rfl, b, rfl, ⟨_, tupAt g13.b⟩, fun D3 nD3 => ?_⟩
    refine lc_tup (K := K) (a := b) (xs := ps.map V.ref) (fun i H' => ∃ rs : List Addr, Same H13 H' ∧ H' D3 = some (.lst (rs.map V.ref)) ∧ AllAt (RowR zs) H' rs (ds.take i)) ⟨[], same_upd nD3, upd_same, .nil⟩ (fun i H' _ hq => tupAt (hq.choose_spec.1 _ _ g13.b)) (fun i v H' hv hq => ?_) (fun H14 hq => ?_)
    · obtain ⟨rs, sq, eD, hR⟩ := hq
      obtain ⟨p', d, rfl, ed, ⟨b1, f1, es, he, hb, hbs, hf⟩⟩ := pgs_atT (g13.t.same sq) hv
      have hi := (List.getElem?_eq_some_iff.mp ed).1
      have rl : rs.length = i := by rw [hR.1, List.length_take]; omega
      rw [List.take_add_one, ed]
      refine gTup3 he [some (.ref p), some (.ref a), some (.ref b), some (.ref c), some (.ref h), none, some (vN d.nm), some (.ref b1), some (.ref f1)] (by simp [wipe, L2.start]) ?_
      refine ⟨rfl, yesT ⟨_, rfl, _, rfl, _, rfl, a, b1, zs, es, d.bids, rfl, tupAt (sq _ _ g13.m), tupAt hb, hbs, by omega, ok.bl d (List.mem_of_getElem? ed), fun H1' t es' nt s1' et hB => ?_⟩⟩
      refine ⟨_, rfl, f1, _, rfl, .inr ⟨tupAt (s1' _ _ hf), ?_⟩⟩
      refine ⟨(show (3 : Nat) ≤ sizeLine by decide), fun x nx => ?_⟩
      have s3' := s1'.trans (same_upd (o := .tup [vN d.nm, .ref t, .ref f1]) nx)
      have eD' := s3' _ _ eD
      have row : RowR zs (upd H1' x (.tup [vN d.nm, .ref t, .ref f1])) x d := ⟨t, f1, es', upd_same, (same_upd nx) _ _ et, hB.same (same_upd nx), (same_upd nx) _ _ (s1' _ _ hf)⟩
      exact ⟨_, eD', by rw [List.length_map, rl]; exact small1000 (by omega), rs ++ [x], same_at (sq.trans s3') nD3, by rw [List.map_append]; exact upd_same, ((hR.mono fun _ _ k => k.nl (nl_same s3')).app (.one row)).mono fun _ _ k => k.nl (nl_wrote eD')⟩
    obtain ⟨rs, s14, eD3, hR⟩ := hq
    rw [pl, List.take_length] at hR
    refine ⟨D3, _, rfl, .inl ⟨lstAt eD3, fun r nr => ?_⟩⟩
    have tr := same_upd (o := .tup (rs.map V.ref)) nr
    have s15 := s14.trans tr
    have r15 := upd_same (H := H14) (a := r) (o := .tup (rs.map V.ref))
    have R15 := hR.mono fun _ _ k => k.nl (nl_same tr)
    have p15 := s15 _ _ p13
    have m15 := s15 _ _ m13
    have n15 := s15 _ _ n13
    have t15 := s15 _ _ t13
    have h15 := s15 _ _ h13
    have f15 := f13.trans (same_p (p := p) s15)
    generalize upd H14 r (.tup (rs.map V.ref)) = H15 at r15 R15 p15 m15 n15 t15 h15 f15 ⊢
    refine ⟨_, rfl, p, C, dx, _, rfl, p15, T.cl, T.n5, Nat.lt_of_le_of_lt (put_len (n := 3) (put_len (n := 2) (put_len (n := 1) (put_len (n := 0) (Nat.le_refl 0))))) (by decide), ?_⟩
    have e16 := samep_upd (p := p) (H := H15) (o := .ins C dx (putF "_rows" (.ref r) (putF "home" (.ref ht) (putF "starts" (.ref c) (putF "names" (.ref n) (putF "members" (.ref a) []))))))
    have p16 := upd_same (H := H15) (a := p) (o := .ins C dx (putF "_rows" (.ref r) (putF "home" (.ref ht) (putF "starts" (.ref c) (putF "names" (.ref n) (putF "members" (.ref a) []))))))
    have f16 := f15.trans e16
    have m16 := e16 _ _ m15 (ne_of m15 p15 (by intro z; cases z))
    have n16 := e16 _ _ n15 (ne_of n15 p15 (by intro z; cases z))
    have t16 := e16 _ _ t15 (ne_of t15 p15 (by intro z; cases z))
    have h16 := e16 _ _ h15 (ne_of h15 p15 (by intro z; cases z))
    have r16 := e16 _ _ r15 (ne_of r15 p15 (by intro z; cases z))
    have R16 := R15.mono fun _ _ k => k.fr p15 e16
    generalize upd H15 p (.ins C dx (putF "_rows" (.ref r) (putF "home" (.ref ht) (putF "starts" (.ref c) (putF "names" (.ref n) (putF "members" (.ref a) [])))))) = H16 at p16 f16 m16 n16 t16 h16 r16 R16 ⊢
    clear e16 p15 m15 n15 t15 h15 r15 R15 f15 s15 tr s14 eD3 hR p13 m13 n13 t13 h13 g13 f13
    have rl : (rs.map V.ref).length = ds.length := by rw [List.length_map, R16.1]
    -- the pages
    refine ⟨_, rfl, p, C, dx, _, _, rfl, p16, T.cl, T.n5, put_same _ _ _, r, rfl, ⟨_, tupAt r16⟩, fun D4 nD4 => ?_⟩
    refine lc_tup (K := K) (a := r) (xs := rs.map V.ref) (fun i H' => ∃ qs : List Addr, Same H16 H' ∧ H' D4 = some (.lst (qs.map V.ref)) ∧ AllAt (PgR CP zs hs2 p) H' qs (ds.take i)) ⟨[], same_upd nD4, upd_same, .nil⟩ (fun i H' _ hq => tupAt (hq.choose_spec.1 _ _ r16)) (fun i v H' hv hq => ?_) (fun H17 hq => ?_)
    · obtain ⟨qs, sq, eD, hQ⟩ := hq
      obtain ⟨r', d, rfl, ed, ⟨bt, ft, es, he, hb, hbs, hf⟩⟩ := all_at (R16.mono fun _ _ k => k.nl (nl_same sq)) hv
      have hi := (List.getElem?_eq_some_iff.mp ed).1
      have ql : qs.length = i := by rw [hQ.1, List.length_take]; omega
      rw [List.take_add_one, ed]
      refine gTup3 he [some (.ref p), some (.ref a), some (.ref b), some (.ref c), some (.ref h), none, some (vN d.nm), some (.ref bt), some (.ref ft)] (by simp [wipe, L2.start]) ?_
      refine ⟨rfl, yesT ⟨_, rfl, _, rfl, _, rfl, _, rfl, _, rfl, p, C, dx, _, _, rfl, sq _ _ p16, T.cl, T.n4, put_ne (put_same _ _ _) (by decide +kernel), ht, _, rfl, .inr (tupAt (sq _ _ h16)), rfl, nms_flat _, fun x dx' nx ndx nex => ?_⟩⟩
      have sdx := same_upd (o := .own x) ndx
      have nxx : (upd H' dx' (.own x)) x = none := by rw [upd_ne nex.symm]; exact nx
      have sx := sdx.trans (same_upd (o := .ins CP dx' []) nxx)
      have bl : (sortB zs d.bids).length ≤ 500 := by
        have b64 := ok.bl d (List.mem_of_getElem? ed)
        refine Nat.le_trans sortB_len (Nat.le_trans (Nat.mul_le_mul (show zs.length ≤ 4 from z4) (show d.bids.length ≤ 64 by omega)) (by decide))
      refine ⟨x, bt, ft, dx', d.nm, _, es, sortB zs d.bids, d.fol, rfl, upd_same, sx _ _ hb, hbs.same sx, sx _ _ hf, bl, fun H2' pg sp => ⟨rfl, ?_⟩⟩
      have sK : Same H' H2' := fun y ob e => sp y ob (sx _ _ e) (ne_of_none e nx)
      have eD' := sK _ _ eD
      have xp : x ≠ p := (ne_of_none (sq _ _ p16) nx).symm
      have pg' : PgAt CP H2' x d.nm (sortB zs d.bids) d.fol (decide (d.nm ∈ hs2)) := by
        have e : inV (vN d.nm) (hs2.map vN) = decide (d.nm ∈ hs2) := inV_nm
        rw [← e]
        exact pg
      have Q1 : AllAt (PgR CP zs hs2 p) H2' qs (ds.take i) := hQ.mono fun _ _ k => ⟨k.1.same sK, k.2⟩
      have Q2 : AllAt (PgR CP zs hs2 p) H2' (qs ++ [x]) (ds.take i ++ [d]) := Q1.app (.one ⟨pg', xp⟩)
      exact ⟨_, eD', by rw [List.length_map, ql]; exact small1000 (by omega), qs ++ [x], same_at (sq.trans sK) nD4, by rw [List.map_append]; exact upd_same, Q2.mono fun _ _ k => ⟨k.1.nl (nl_wrote eD'), k.2⟩⟩
    obtain ⟨qs, s17, eD4, hQ⟩ := hq
    rw [rl, List.take_length] at hQ
    refine ⟨D4, _, rfl, .inl ⟨lstAt eD4, fun gg ngg => ?_⟩⟩
    have tg := same_upd (o := .tup (qs.map V.ref)) ngg
    have s18 := s17.trans tg
    have g18 := upd_same (H := H17) (a := gg) (o := .tup (qs.map V.ref))
    have Q18 := hQ.mono (S := PgR CP zs hs2 p) (H' := upd H17 gg (.tup (qs.map V.ref))) fun _ _ k => ⟨k.1.same tg, k.2⟩
    have p18 := s18 _ _ p16
    generalize upd H17 gg (.tup (qs.map V.ref)) = H18 at tg s18 g18 Q18 p18 ⊢
    refine ⟨_, rfl, p, C, dx, _, rfl, p18, T.cl, T.n6, Nat.lt_of_le_of_lt (put_len (n := 4) (put_len (n := 3) (put_len (n := 2) (put_len (n := 1) (put_len (n := 0) (Nat.le_refl 0)))))) (by decide), ?_⟩
    have e19 := samep_upd (p := p) (H := H18) (o := .ins C dx (fldsB a n c ht r gg))
    have fr := (f16.trans (same_p (p := p) s18)).trans e19
    have go : ∀ {y : Addr} {xs : List V}, H16 y = some (.tup xs) → (upd H18 p (.ins C dx (fldsB a n c ht r gg))) y = some (.tup xs) := fun e => e19 _ _ (s18 _ _ e) (ne_of (s18 _ _ e) p18 (by intro z; cases z))
    refine q _ ⟨dx, a, n, c, ht, r, gg, o, rs, qs, upd_same, go m16, e19 _ _ (s18 _ _ n16) (ne_of (s18 _ _ n16) p18 (by intro z; cases z)), oc, od, go t16, go h16, go r16, R16.mono fun _ _ k => (k.nl (nl_same s18)).fr p18 e19, e19 _ _ g18 (ne_of g18 p18 (by intro z; cases z)), Q18.mono fun _ _ k => ⟨k.1.fr p18 k.2 e19, k.2⟩⟩ fr
end
end TK

/-! Book.__init__, with lists, but home a tuple -/
namespace TK
open PySem PySem.Spec PyProof.Rows L2
structure BkGM (K : PySem.W.Frag) (H : Hp) (a b c h : Addr) (zs ss hs : List Nam) (ps : List Addr) (ds : List PgD) : Prop where
  m : SqL K H a (zs.map vN)
  b : SqL K H b (ps.map V.ref)
  t : PgsIn K H ps ds
  c : SqL K H c (ss.map vN)
  h : SqT K H h (hs.map vN)
theorem BkGM.same {K : PySem.W.Frag} {H H' : Hp} {a b c h : Addr} {zs ss hs : List Nam} {ps : List Addr} {ds : List PgD} (g : BkGM K H a b c h zs ss hs ps ds) (s : Same H H') : BkGM K H' a b c h zs ss hs ps ds := ⟨s.seq g.m, s.seq g.b, g.t.same s, s.seq g.c, same_tup s g.h⟩
theorem BkGM.fr {K : PySem.W.Frag} {H H' : Hp} {a b c h p C dx : Addr} {fs : List (Str × V)} {zs ss hs : List Nam} {ps : List Addr} {ds : List PgD} (g : BkGM K H a b c h zs ss hs ps ds) (hp : H p = some (.ins C dx fs)) (f : SameP p H H') : BkGM K H' a b c h zs ss hs ps ds := ⟨sqL_frame g.m hp f, sqL_frame g.b hp f, pgs_frame g.t hp f, sqL_frame g.c hp f, sqT_frame g.h hp f⟩
section
variable {P : Program} {w : World} {K : PySem.W.Frag} {mg : Str → Option Value} {base : Heap}
def spEndsM (K : PySem.W.Frag) : Sp := fun vs H Q _ => ∃ (a b c : Addr) (ns ss hs : List Nam), vs = [.ref a, .ref b, .ref c] ∧ SqS K H a (ns.map vN) ∧ SqL K H b (ss.map vN) ∧ SqT K H c (hs.map vN) ∧ ss ≠ [] ∧ ss.Nodup ∧ (∀ x ∈ ss, x ∈ ns) ∧ hs.Nodup ∧ (∀ x ∈ hs, x ∈ ns) ∧ ns.length < 64 ∧ ∀ H', Same H H' → Q .non H'
theorem ok_check_endsM {f : Addr} {fd : FuncData} (F : Fun K "_check_ends" "_check_ends" s_check_ends f fd) (m_len : mg "len" = none) (d_are_picks : Def P w K mg base "_are_picks" 1 ["picks", "known"] (fun vs H Q E => spArePicks K vs H Q E ∨ spArePicksT K vs H Q E)) : FnOk P w K mg base CX0 2 f fd ["names", "starts", "home"] (spEndsM K) := by
  refine F.ok sc_check_ends (fun vs H Q E h => ?_) (fun cdv A outer s H vs Q E hr h => ?_)
  · obtain ⟨a, b, c, ns, ss, hs, rfl, _⟩ := h
    rfl
  · obtain ⟨a, b, c, ns, ss, hs, rfl, hA, hB, hC, ne, nd1, su1, nd2, su2, l64, q⟩ := h
    refine ⟨_, (pss_cons (ps_if (PW.pt (pw_or (pt_cmpR op_eq (pe_callB call_len_seq (by rfl) m_len (by decide +kernel) (pa_cons (pv 1) pa_nil)) pe_int (nomark _)) (pw_or1 (pt_not (pt_val (pe_callD d_are_picks (hr.mono (by decide)) (by rfl) (pa_cons (pv 1) (pa_cons (pv 0) pa_nil)))))))) (pss_one ps_never) pss_nil)
  (pss_one (ps_if (pt_not (pt_val (pe_callD d_are_picks (hr.mono (by decide)) (by rfl) (pa_cons (pv 2) (pa_cons (pv 0) pa_nil))))) (pss_one ps_never) pss_nil))), ?_⟩
    have sl : (ss.map vN).length ≠ 0 := fun e => ne (List.eq_nil_of_length_eq_zero (by rw [List.length_map] at e; exact e))
    refine ⟨_, rfl, b, _, rfl, .inl hB, rfl, _, rfl, ?_⟩
    rw [decide_eq_false (show ¬ V.int (((ss.map vN).length : Nat) : Int) = V.int 0 from fun e => sl (by have := V.int.inj e; omega))]
    refine iteF ?_
    refine ⟨_, rfl, _, rfl, .inl ⟨b, a, ss, ns, rfl, hB, hA, nd1, su1, Nat.lt_of_le_of_lt (nd_lenK nd1 su1) l64, fun H1 s1 => ⟨_, rfl, iteF ?_⟩⟩⟩
    exact ⟨_, rfl, _, rfl, .inr ⟨c, a, hs, ns, rfl, same_tup s1 hC, hA.same s1, nd2, su2, Nat.lt_of_le_of_lt (nd_lenK nd2 su2) l64, fun H2 s2 => ⟨_, rfl, iteF (q _ (s1.trans s2))⟩⟩⟩
def spInitBkM (K : PySem.W.Frag) (C CP : Addr) : Sp := fun vs H Q _ => ∃ (p a b c h dx : Addr) (zs ss hs : List Nam) (ps : List Addr) (ds : List PgD), vs = [.ref p, .ref a, .ref b, .ref c, .ref h] ∧ H p = some (.ins C dx []) ∧ BkGM K H a b c h zs ss hs ps ds ∧ 1 ≤ zs.length ∧ zs.length ≤ 4 ∧ (∀ z ∈ zs, Nm z) ∧ zs.Nodup ∧ POk zs ds ∧ ss ≠ [] ∧ ss.Nodup ∧ (∀ x ∈ ss, x ∈ ds.map (·.nm)) ∧ hs.Nodup ∧ (∀ x ∈ hs, x ∈ ds.map (·.nm)) ∧
  ∀ H', BkAt C CP H' p zs ss ((ds.map (·.nm)).filter fun n => decide (n ∈ hs)) ds → SameP p H H' → Q .non H'
theorem ok_BookM {f C CP fP : Addr} {fd fdP : FuncData} {dvs : List V} {kws : List (Str × V)} (F : FunD K "__init__" "Book.__init__" (defArgs s_Book_init) (defBody s_Book_init) (defScope s_Book_init) dvs kws f fd) (T : TxtBk K C) (m_tuple : mg "tuple" = none) (d_check_names : DefD P w K mg base "check_names" 2 ["names", "most", "hook"] (spCheckN K) [.bl false])
    (d_check_pages : Def P w K mg base "_check_pages" 3 ["members", "pages"] (spCheckPg K)) (d_check_ends : Def P w K mg base "_check_ends" 2 ["names", "starts", "home"] (spEndsM K)) (d_sorted_bids : Def P w K mg base "_sorted_bids" 1 ["members", "bids"] (spSortB K))
    (M_Page : Mk K CP fP) (G_Page : FnOk P w K mg base CX0 1 fP fdP ["self", "name", "bids", "followers", "home"] (spInitPg CP)) (mg_Page : mg "Page" = some (.ref CP)) (b_Page : Binds K fdP ["self", "name", "bids", "followers", "home"] []) :
    FnOk P w K mg base CX0 4 f fd ["self", "members", "pages", "starts", "home"] (spInitBkM K C CP) := by
  refine F.ok (CX := CX0) sc_Book_init (fun vs H Q E h => ?_) (fun cdv A outer s H vs Q E hr h => ?_)
  · obtain ⟨p, a, b, c, h, dx, zs, ss, hs, ps, ds, rfl, _⟩ := h
    rfl
  · obtain ⟨p, a, b, c, h, dx, zs, ss, hs, ps, ds, rfl, hp, g, z1, z4, nm, nd, ok, sne, snd, ssub, hnd, hsub, q⟩ := h
    have pl : (ps.map V.ref).length = ds.length := by rw [List.length_map, g.t.1]
    have l4 := ok.l4
    refine ⟨_, (pss_cons (ps_expr (pe_callDD d_check_names (hr.mono (by decide)) (by rfl) (pa_cons (pv 1) (pa_cons pe_int pa_nil))))
  (pss_cons (ps_expr (pe_callD d_check_pages (hr.mono (by decide)) (by rfl) (pa_cons (pv 1) (pa_cons (pv 2) pa_nil))))
  (pss_cons (ps_fld (pv 0) (pe_callTy call_tuple_of (by rfl) m_tuple (by decide +kernel) (pa_cons (pv 1) pa_nil)) rfl)
  (pss_cons (ps_fld (pv 0) (pe_callTy call_tuple_frz (by rfl) m_tuple (by decide +kernel) (pa_cons (pe_lc (own := [("page", 5)]) (by rfl) sc_Book_init.nd (pi_list (pv 2)) (blkOk_by (N := ["self", "members", "pages", "starts", "home", "page", "name", "bids", "followers"]) (sc := defScope s_Book_init) (by decide +kernel)) (fun _ _ _ _ _ => (pg_name (i := 5) sc_Book_init.nd rfl (.inl rfl))) (fun _ _ _ _ _ => pts_nil) (fun _ _ _ _ _ => (pe_ix (ix_tupK (K := K) rfl) (pv 5) pe_int (fun _ _ => rfl)))) pa_nil)) rfl)
  (pss_cons (ps_expr (pe_callD d_check_ends (hr.mono (by decide)) (by rfl) (pa_cons (pe_fld (pv 0) rfl) (pa_cons (pv 3) (pa_cons (pv 4) pa_nil)))))
  (pss_cons (ps_fld (pv 0) (pe_callTy call_tuple_of (by rfl) m_tuple (by decide +kernel) (pa_cons (pv 3) pa_nil)) rfl)
  (pss_cons (ps_fld (pv 0) (pe_callTy call_tuple_of (by rfl) m_tuple (by decide +kernel) (pa_cons (pe_lc (own := [("name", 6)]) (by rfl) sc_Book_init.nd (pi_tup (pe_fld (pv 0) rfl)) (blkOk_by (N := ["self", "members", "pages", "starts", "home", "page", "name", "bids", "followers"]) (sc := defScope s_Book_init) (by decide +kernel)) (fun _ _ _ _ _ => (pg_name (i := 6) sc_Book_init.nd rfl (.inl rfl))) (fun _ _ _ _ _ => (pts_one (pt_cmpR (op_in_seqK (K := K) rfl) (pv 6) (pv 4) (by rfl)))) (fun _ _ _ _ _ => (pv 6))) pa_nil)) rfl)
  (pss_cons (ps_fld (pv 0) (pe_callTy call_tuple_of (by rfl) m_tuple (by decide +kernel) (pa_cons (pe_lc (own := [("name", 6), ("bids", 7), ("followers", 8)]) (by rfl) sc_Book_init.nd (pi_list (pv 2)) (blkOk_by (N := ["self", "members", "pages", "starts", "home", "page", "name", "bids", "followers"]) (sc := defScope s_Book_init) (by decide +kernel)) (fun _ _ _ _ _ => (pg_tupK (K := K) (n := 3) rfl (by rfl) (pgs_cons (pg_name (i := 6) sc_Book_init.nd rfl (.inl rfl)) (pgs_cons (pg_name (i := 7) sc_Book_init.nd rfl (.inl rfl)) (pgs_cons (pg_name (i := 8) sc_Book_init.nd rfl (.inl rfl)) pgs_nil))))) (fun _ _ _ _ _ => pts_nil) (fun _ _ _ _ _ => (pe_tup (pa_cons (pv 6) (pa_cons (pe_callD d_sorted_bids (hr.mono (by decide)) (by rfl) (pa_cons (pv 1) (pa_cons (pv 7) pa_nil))) (pa_cons (pe_callTy (call_tuple_ofK (K := K) rfl) (by rfl) m_tuple (by decide +kernel) (pa_cons (pv 8) pa_nil)) pa_nil)))))) pa_nil)) rfl)
  (pss_one (ps_fld (pv 0) (pe_callTy call_tuple_of (by rfl) m_tuple (by decide +kernel) (pa_cons (pe_lc (own := [("name", 6), ("bids", 7), ("followers", 8)]) (by rfl) sc_Book_init.nd (pi_tup (pe_fld (pv 0) rfl)) (blkOk_by (N := ["self", "members", "pages", "starts", "home", "page", "name", "bids", "followers"]) (sc := defScope s_Book_init) (by decide +kernel)) (fun _ _ _ _ _ => (pg_tupK (K := K) (n := 3) rfl (by rfl) (pgs_cons (pg_name (i := 6) sc_Book_init.nd rfl (.inl rfl)) (pgs_cons (pg_name (i := 7) sc_Book_init.nd rfl (.inl rfl)) (pgs_cons (pg_name (i := 8) sc_Book_init.nd rfl (.inl rfl)) pgs_nil))))) (fun _ _ _ _ _ => pts_nil) (fun _ _ _ _ _ => (pe_make M_Page G_Page (hr.mono (by decide)) (by rfl) mg_Page b_Page .nil pass0 (pa_cons (pv 6) (pa_cons (pv 7) (pa_cons (pv 8) (pa_cons (pe_cmpR (op_in_seqK (K := K) rfl) (pv 6) (pe_fldK (K := K) rfl (pv 0) rfl) (by rfl)) pa_nil))))))) pa_nil)) rfl)))))))))), ?_⟩
    refine ⟨_, rfl, a, 4, zs, rfl, .inl g.m, z1, by omega, by omega, nm, nd, fun H1 s1 => ?_⟩
    refine ⟨_, rfl, _, rfl, a, b, zs, ps, ds, rfl, s1.seq g.m, s1.seq g.b, g.t.same s1, ok, fun H2 s2 => ?_⟩
    have s12 := s1.trans s2
    -- members
    refine ⟨_, rfl, a, _, rfl, .inl ⟨s12.seq g.m, fun m nmA => ?_⟩⟩
    have s3 := s12.trans (same_upd (o := .tup (zs.map vN)) nmA)
    have m3 := upd_same (H := H2) (a := m) (o := .tup (zs.map vN))
    have g3 := g.same s3
    have p3 := s3 _ _ hp
    have f3 := same_p (p := p) s3
    generalize upd H2 m (.tup (zs.map vN)) = H3 at m3 g3 p3 f3 ⊢
    refine ⟨_, rfl, p, C, dx, _, rfl, p3, T.cl, T.n1, by decide, ?_⟩
    have e4 := samep_upd (p := p) (H := H3) (o := .ins C dx (putF "members" (.ref m) []))
    have p4 := upd_same (H := H3) (a := p) (o := .ins C dx (putF "members" (.ref m) []))
    have f4 := f3.trans e4
    have m4 := e4 _ _ m3 (ne_of m3 p3 (by intro z; cases z))
    have g4 := g3.fr p3 e4
    generalize upd H3 p (.ins C dx (putF "members" (.ref m) [])) = H4 at p4 f4 m4 g4 ⊢
    -- names
    refine ⟨_, rfl, b, rfl, ⟨_, g4.b⟩, fun D nD => ?_⟩
    refine lc_list (K := K) (a := b) (xs := ps.map V.ref) (fun i H' => Same H4 H' ∧ H' D = some (.lst (((ds.map (·.nm)).take i).map vN))) ⟨same_upd nD, upd_same⟩ (fun i H' _ hq => hq.1.seq g4.b) (fun i v H' hv hq => ?_) (fun H5 hq => ?_)
    · obtain ⟨sq, eD⟩ := hq
      obtain ⟨p', d, rfl, ed, ⟨b1, f1, es, he, _⟩⟩ := pgs_at (g4.t.same sq) hv
      have hi := (List.getElem?_eq_some_iff.mp ed).1
      refine ⟨rfl, yesT ⟨_, rfl, _, _, 0, vN d.nm, rfl, rfl, tupAt he, atI_in (by decide) rfl, _, eD, by rw [List.length_map, List.length_take, List.length_map]; exact small1000 (by omega), same_at sq nD, ?_⟩⟩
      rw [List.take_add_one, List.getElem?_map, ed, List.map_append]
      exact upd_same
    obtain ⟨s5, eD⟩ := hq
    rw [pl, show ds.length = (ds.map (·.nm)).length from (List.length_map ..).symm, List.take_length] at eD
    refine ⟨D, _, rfl, lstAt eD, fun n o nn oc od => ?_⟩
    have s6 := s5.trans (same_upd (o := .frz o (.tup ((ds.map (·.nm)).map vN))) nn)
    have n6 := upd_same (H := H5) (a := n) (o := .frz o (.tup ((ds.map (·.nm)).map vN)))
    have p6 := s6 _ _ p4
    have m6 := s6 _ _ m4
    have g6 := g4.same s6
    have f6 := f4.trans (same_p (p := p) s6)
    generalize upd H5 n (.frz o (.tup ((ds.map (·.nm)).map vN))) = H6 at n6 p6 m6 g6 f6 ⊢
    refine ⟨_, rfl, p, C, dx, _, rfl, p6, T.cl, T.n2, Nat.lt_of_le_of_lt (put_len (n := 0) (Nat.le_refl 0)) (by decide), ?_⟩
    have e7 := samep_upd (p := p) (H := H6) (o := .ins C dx (putF "names" (.ref n) (putF "members" (.ref m) [])))
    have p7 := upd_same (H := H6) (a := p) (o := .ins C dx (putF "names" (.ref n) (putF "members" (.ref m) [])))
    have f7 := f6.trans e7
    have m7 := e7 _ _ m6 (ne_of m6 p6 (by intro z; cases z))
    have n7 := e7 _ _ n6 (ne_of n6 p6 (by intro z; cases z))
    have g7 := g6.fr p6 e7
    generalize upd H6 p (.ins C dx (putF "names" (.ref n) (putF "members" (.ref m) []))) = H7 at p7 f7 m7 n7 g7 ⊢
    clear e7 e4 p6 m6 n6 g6 f6 s6 s5 eD p4 m4 g4 f4 p3 m3 g3 f3 s3
    -- the ends
    refine ⟨_, rfl, p, C, dx, _, _, rfl, p7, T.cl, T.n2, put_same _ _ _, _, rfl, _, rfl, n, c, h, ds.map (·.nm), ss, hs, rfl, .inr (.inl (.inr ⟨o, n7⟩)), g7.c, g7.h, sne, snd, ssub, hnd, hsub, by rw [List.length_map]; omega, fun H8 s8 => ?_⟩
    -- starts
    refine ⟨_, rfl, c, _, rfl, .inl ⟨s8.seq g7.c, fun st nst => ?_⟩⟩
    have s9 := s8.trans (same_upd (o := .tup (ss.map vN)) nst)
    have t9 := upd_same (H := H8) (a := st) (o := .tup (ss.map vN))
    have p9 := s9 _ _ p7
    have m9 := s9 _ _ m7
    have n9 := s9 _ _ n7
    have g9 := g7.same s9
    have f9 := f7.trans (same_p (p := p) s9)
    generalize upd H8 st (.tup (ss.map vN)) = H9 at t9 p9 m9 n9 g9 f9 ⊢
    refine ⟨_, rfl, p, C, dx, _, rfl, p9, T.cl, T.n3, Nat.lt_of_le_of_lt (put_len (n := 1) (put_len (n := 0) (Nat.le_refl 0))) (by decide), ?_⟩
    have e10 := samep_upd (p := p) (H := H9) (o := .ins C dx (putF "starts" (.ref st) (putF "names" (.ref n) (putF "members" (.ref m) []))))
    have p10 := upd_same (H := H9) (a := p) (o := .ins C dx (putF "starts" (.ref st) (putF "names" (.ref n) (putF "members" (.ref m) []))))
    have f10 := f9.trans e10
    have m10 := e10 _ _ m9 (ne_of m9 p9 (by intro z; cases z))
    have n10 := e10 _ _ n9 (ne_of n9 p9 (by intro z; cases z))
    have t10 := e10 _ _ t9 (ne_of t9 p9 (by intro z; cases z))
    have g10 := g9.fr p9 e10
    generalize upd H9 p (.ins C dx (putF "starts" (.ref st) (putF "names" (.ref n) (putF "members" (.ref m) [])))) = H10 at p10 f10 m10 n10 t10 g10 ⊢
    clear e10 p9 m9 n9 t9 g9 f9 s9 s8 p7 m7 n7 g7 f7
    -- home
    refine ⟨_, rfl, p, C, dx, _, _, rfl, p10, T.cl, T.n2, put_ne (put_same _ _ _) (by decide +kernel), n, rfl, ⟨_, .inl (.inr ⟨o, n10⟩)⟩, fun D2 nD2 => ?_⟩
    refine lc_tup (K := K) (a := n) (xs := (ds.map (·.nm)).map vN) (fun i H' => Same H10 H' ∧ H' D2 = some (.lst ((((ds.map (·.nm)).take i).filter fun z => decide (z ∈ hs)).map vN))) ⟨same_upd nD2, upd_same⟩ (fun i H' _ hq => .inl (.inr ⟨o, hq.1 _ _ n10⟩)) (fun i v H' hv hq => ?_) (fun H11 hq => ?_)
    · obtain ⟨sq, eD⟩ := hq
      obtain ⟨z, ez, rfl⟩ := vN_at hv
      have hi := (List.getElem?_eq_some_iff.mp ez).1
      rw [List.length_map] at hi
      have fl : (((ds.map (·.nm)).take i).filter fun z => decide (z ∈ hs)).length ≤ 4 := Nat.le_trans (List.length_filter_le _ _) (by rw [List.length_take]; omega)
      rw [flt_at ez]
      refine ⟨rfl, _, rfl, _, rfl, h, _, rfl, .inr (same_tup sq g10.h), rfl, nms_flat _, _, rfl, ?_⟩
      rw [in_nm]
      by_cases hz : z ∈ hs
      · rw [decide_eq_true hz]
        refine iteT ⟨_, rfl, _, eD, by rw [List.length_map]; exact small1000 (by omega), same_at sq nD2, ?_⟩
        rw [if_pos rfl, List.map_append]
        exact upd_same
      · rw [decide_eq_false hz]
        exact iteF ⟨sq, by rw [if_neg Bool.false_ne_true, List.append_nil]; exact eD⟩
    obtain ⟨s11, eD2⟩ := hq
    rw [List.length_map, List.take_length] at eD2
    generalize hh2 : (ds.map (·.nm)).filter (fun z => decide (z ∈ hs)) = hs2 at eD2 q
    refine ⟨D2, _, rfl, .inl ⟨lstAt eD2, fun ht nht => ?_⟩⟩
    have s12 := s11.trans (same_upd (o := .tup (hs2.map vN)) nht)
    have h12 := upd_same (H := H11) (a := ht) (o := .tup (hs2.map vN))
    have p12 := s12 _ _ p10
    have m12 := s12 _ _ m10
    have n12 := s12 _ _ n10
    have t12 := s12 _ _ t10
    have g12 := g10.same s12
    have f12 := f10.trans (same_p (p := p) s12)
    generalize upd H11 ht (.tup (hs2.map vN)) = H12 at h12 p12 m12 n12 t12 g12 f12 ⊢
    refine ⟨_, rfl, p, C, dx, _, rfl, p12, T.cl, T.n4, Nat.lt_of_le_of_lt (put_len (n := 2) (put_len (n := 1) (put_len (n := 0) (Nat.le_refl 0)))) (by decide), ?_⟩
    have e13 := samep_upd (p := p) (H := H12) (o := .ins C dx (putF "home" (.ref ht) (putF "starts" (.ref st) (putF "names" (.ref n) (putF "members" (.ref m) [])))))
    have p13 := upd_same (H := H12) (a := p) (o := .ins C dx (putF "home" (.ref ht) (putF "starts" (.ref st) (putF "names" (.ref n) (putF "members" (.ref m) [])))))
    have f13 := f12.trans e13
    have m13 := e13 _ _ m12 (ne_of m12 p12 (by intro z; cases z))
    have n13 := e13 _ _ n12 (ne_of n12 p12 (by intro z; cases z))
    have t13 := e13 _ _ t12 (ne_of t12 p12 (by intro z; cases z))
    have h13 := e13 _ _ h12 (ne_of h12 p12 (by intro z; cases z))
    have g13 := g12.fr p12 e13
    generalize upd H12 p (.ins C dx (putF "home" (.ref ht) (putF "starts" (.ref st) (putF "names" (.ref n) (putF "members" (.ref m) []))))) = H13 at p13 f13 m13 n13 t13 h13 g13 ⊢
    clear e13 p12 m12 n12 t12 h12 g12 f12 s12 s11 eD2 p10 m10 n10 t10 g10 f10
    -- the rows
    refine ⟨_, rfl, b, rfl, ⟨_, g13.b⟩, fun D3 nD3 => ?_⟩
    refine lc_list (K := K) (a := b) (xs := ps.map V.ref) (fun i H' => ∃ rs : List Addr, Same H13 H' ∧ H' D3 = some (.lst (rs.map V.ref)) ∧ AllAt (RowR zs) H' rs (ds.take i)) ⟨[], same_upd nD3, upd_same, .nil⟩ (fun i H' _ hq => hq.choose_spec.1.seq g13.b) (fun i v H' hv hq => ?_) (fun H14 hq => ?_)
    · obtain ⟨rs, sq, eD, hR⟩ := hq
      obtain ⟨p', d, rfl, ed, ⟨b1, f1, es, he, hb, hbs, hf⟩⟩ := pgs_at (g13.t.same sq) hv
      have hi := (List.getElem?_eq_some_iff.mp ed).1
      have rl : rs.length = i := by rw [hR.1, List.length_take]; omega
      rw [List.take_add_one, ed]
      refine gTup3 he [some (.ref p), some (.ref a), some (.ref b), some (.ref c), some (.ref h), none, some (vN d.nm), some (.ref b1), some (.ref f1)] (by simp [wipe, L2.start]) ?_
      refine ⟨rfl, yesT ⟨_, rfl, _, rfl, _, rfl, a, b1, zs, es, d.bids, rfl, sq.seq g13.m, hb, hbs, by omega, ok.bl d (List.mem_of_getElem? ed), fun H1' t es' nt s1' et hB => ?_⟩⟩
      refine ⟨_, rfl, f1, _, rfl, .inl ⟨s1'.seq hf, fun u nu => ?_⟩⟩
      have s2' := s1'.trans (same_upd (o := .tup (d.fol.map vN)) nu)
      refine ⟨(show (3 : Nat) ≤ sizeLine by decide), fun x nx => ?_⟩
      have s3' := s2'.trans (same_upd (o := .tup [vN d.nm, .ref t, .ref u]) nx)
      have eD' := s3' _ _ eD
      have row : RowR zs (upd (upd H1' u (.tup (d.fol.map vN))) x (.tup [vN d.nm, .ref t, .ref u])) x d := ⟨t, u, es', upd_same, (same_upd nx) _ _ ((same_upd nu) _ _ et), (hB.same (same_upd nu)).same (same_upd nx), (same_upd nx) _ _ upd_same⟩
      exact ⟨_, eD', by rw [List.length_map, rl]; exact small1000 (by omega), rs ++ [x], same_at (sq.trans s3') nD3, by rw [List.map_append]; exact upd_same, ((hR.mono fun _ _ k => k.nl (nl_same s3')).app (.one row)).mono fun _ _ k => k.nl (nl_wrote eD')⟩
    obtain ⟨rs, s14, eD3, hR⟩ := hq
    rw [pl, List.take_length] at hR
    refine ⟨D3, _, rfl, .inl ⟨lstAt eD3, fun r nr => ?_⟩⟩
    have tr := same_upd (o := .tup (rs.map V.ref)) nr
    have s15 := s14.trans tr
    have r15 := upd_same (H := H14) (a := r) (o := .tup (rs.map V.ref))
    have R15 := hR.mono fun _ _ k => k.nl (nl_same tr)
    have p15 := s15 _ _ p13
    have m15 := s15 _ _ m13
    have n15 := s15 _ _ n13
    have t15 := s15 _ _ t13
    have h15 := s15 _ _ h13
    have f15 := f13.trans (same_p (p := p) s15)
    generalize upd H14 r (.tup (rs.map V.ref)) = H15 at r15 R15 p15 m15 n15 t15 h15 f15 ⊢
    refine ⟨_, rfl, p, C, dx, _, rfl, p15, T.cl, T.n5, Nat.lt_of_le_of_lt (put_len (n := 3) (put_len (n := 2) (put_len (n := 1) (put_len (n := 0) (Nat.le_refl 0))))) (by decide), ?_⟩
    have e16 := samep_upd (p := p) (H := H15) (o := .ins C dx (putF "_rows" (.ref r) (putF "home" (.ref ht) (putF "starts" (.ref st) (putF "names" (.ref n) (putF "members" (.ref m) []))))))
    have p16 := upd_same (H := H15) (a := p) (o := .ins C dx (putF "_rows" (.ref r) (putF "home" (.ref ht) (putF "starts" (.ref st) (putF "names" (.ref n) (putF "members" (.ref m) []))))))
    have f16 := f15.trans e16
    have m16 := e16 _ _ m15 (ne_of m15 p15 (by intro z; cases z))
    have n16 := e16 _ _ n15 (ne_of n15 p15 (by intro z; cases z))
    have t16 := e16 _ _ t15 (ne_of t15 p15 (by intro z; cases z))
    have h16 := e16 _ _ h15 (ne_of h15 p15 (by intro z; cases z))
    have r16 := e16 _ _ r15 (ne_of r15 p15 (by intro z; cases z))
    have R16 := R15.mono fun _ _ k => k.fr p15 e16
    generalize upd H15 p (.ins C dx (putF "_rows" (.ref r) (putF "home" (.ref ht) (putF "starts" (.ref st) (putF "names" (.ref n) (putF "members" (.ref m) [])))))) = H16 at p16 f16 m16 n16 t16 h16 r16 R16 ⊢
    clear e16 p15 m15 n15 t15 h15 r15 R15 f15 s15 tr s14 eD3 hR p13 m13 n13 t13 h13 g13 f13
    have rl : (rs.map V.ref).length = ds.length := by rw [List.length_map, R16.1]
    -- the pages
    refine ⟨_, rfl, p, C, dx, _, _, rfl, p16, T.cl, T.n5, put_same _ _ _, r, rfl, ⟨_, tupAt r16⟩, fun D4 nD4 => ?_⟩
    refine lc_tup (K := K) (a := r) (xs := rs.map V.ref) (fun i H' => ∃ qs : List Addr, Same H16 H' ∧ H' D4 = some (.lst (qs.map V.ref)) ∧ AllAt (PgR CP zs hs2 p) H' qs (ds.take i)) ⟨[], same_upd nD4, upd_same, .nil⟩ (fun i H' _ hq => tupAt (hq.choose_spec.1 _ _ r16)) (fun i v H' hv hq => ?_) (fun H17 hq => ?_)
    · obtain ⟨qs, sq, eD, hQ⟩ := hq
      obtain ⟨r', d, rfl, ed, ⟨bt, ft, es, he, hb, hbs, hf⟩⟩ := all_at (R16.mono fun _ _ k => k.nl (nl_same sq)) hv
      have hi := (List.getElem?_eq_some_iff.mp ed).1
      have ql : qs.length = i := by rw [hQ.1, List.length_take]; omega
      rw [List.take_add_one, ed]
      refine gTup3 he [some (.ref p), some (.ref a), some (.ref b), some (.ref c), some (.ref h), none, some (vN d.nm), some (.ref bt), some (.ref ft)] (by simp [wipe, L2.start]) ?_
      refine ⟨rfl, yesT ⟨_, rfl, _, rfl, _, rfl, _, rfl, _, rfl, p, C, dx, _, _, rfl, sq _ _ p16, T.cl, T.n4, put_ne (put_same _ _ _) (by decide +kernel), ht, _, rfl, .inr (tupAt (sq _ _ h16)), rfl, nms_flat _, fun x dx' nx ndx nex => ?_⟩⟩
      have sdx := same_upd (o := .own x) ndx
      have nxx : (upd H' dx' (.own x)) x = none := by rw [upd_ne nex.symm]; exact nx
      have sx := sdx.trans (same_upd (o := .ins CP dx' []) nxx)
      have bl : (sortB zs d.bids).length ≤ 500 := by
        have b64 := ok.bl d (List.mem_of_getElem? ed)
        refine Nat.le_trans sortB_len (Nat.le_trans (Nat.mul_le_mul (show zs.length ≤ 4 from z4) (show d.bids.length ≤ 64 by omega)) (by decide))
      refine ⟨x, bt, ft, dx', d.nm, _, es, sortB zs d.bids, d.fol, rfl, upd_same, sx _ _ hb, hbs.same sx, sx _ _ hf, bl, fun H2' pg sp => ⟨rfl, ?_⟩⟩
      have sK : Same H' H2' := fun y ob e => sp y ob (sx _ _ e) (ne_of_none e nx)
      have eD' := sK _ _ eD
      have xp : x ≠ p := (ne_of_none (sq _ _ p16) nx).symm
      have pg' : PgAt CP H2' x d.nm (sortB zs d.bids) d.fol (decide (d.nm ∈ hs2)) := by
        have e : inV (vN d.nm) (hs2.map vN) = decide (d.nm ∈ hs2) := inV_nm
        rw [← e]
        exact pg
      have Q1 : AllAt (PgR CP zs hs2 p) H2' qs (ds.take i) := hQ.mono fun _ _ k => ⟨k.1.same sK, k.2⟩
      have Q2 : AllAt (PgR CP zs hs2 p) H2' (qs ++ [x]) (ds.take i ++ [d]) := Q1.app (.one ⟨pg', xp⟩)
      exact ⟨_, eD', by rw [List.length_map, ql]; exact small1000 (by omega), qs ++ [x], same_at (sq.trans sK) nD4, by rw [List.map_append]; exact upd_same, Q2.mono fun _ _ k => ⟨k.1.nl (nl_wrote eD'), k.2⟩⟩
    obtain ⟨qs, s17, eD4, hQ⟩ := hq
    rw [rl, List.take_length] at hQ
    refine ⟨D4, _, rfl, .inl ⟨lstAt eD4, fun gg ngg => ?_⟩⟩
    have tg := same_upd (o := .tup (qs.map V.ref)) ngg
    have s18 := s17.trans tg
    have g18 := upd_same (H := H17) (a := gg) (o := .tup (qs.map V.ref))
    have Q18 := hQ.mono (S := PgR CP zs hs2 p) (H' := upd H17 gg (.tup (qs.map V.ref))) fun _ _ k => ⟨k.1.same tg, k.2⟩
    have p18 := s18 _ _ p16
    generalize upd H17 gg (.tup (qs.map V.ref)) = H18 at tg s18 g18 Q18 p18 ⊢
    refine ⟨_, rfl, p, C, dx, _, rfl, p18, T.cl, T.n6, Nat.lt_of_le_of_lt (put_len (n := 4) (put_len (n := 3) (put_len (n := 2) (put_len (n := 1) (put_len (n := 0) (Nat.le_refl 0)))))) (by decide), ?_⟩
    have e19 := samep_upd (p := p) (H := H18) (o := .ins C dx (fldsB m n st ht r gg))
    have fr := (f16.trans (same_p (p := p) s18)).trans e19
    have go : ∀ {y : Addr} {xs : List V}, H16 y = some (.tup xs) → (upd H18 p (.ins C dx (fldsB m n st ht r gg))) y = some (.tup xs) := fun e => e19 _ _ (s18 _ _ e) (ne_of (s18 _ _ e) p18 (by intro z; cases z))
    refine q _ ⟨dx, m, n, st, ht, r, gg, o, rs, qs, upd_same, go m16, e19 _ _ (s18 _ _ n16) (ne_of (s18 _ _ n16) p18 (by intro z; cases z)), oc, od, go t16, go h16, go r16, R16.mono fun _ _ k => (k.nl (nl_same s18)).fr p18 e19, e19 _ _ g18 (ne_of g18 p18 (by intro z; cases z)), Q18.mono fun _ _ k => ⟨k.1.fr p18 k.2 e19, k.2⟩⟩ fr
end
end TK

/-! two books compared; how many pages -/
namespace TK
open PySem PySem.Spec PyProof.Rows L2
abbrev s_Book_eq : Stmt := inClass (topS 21) 3
theorem sc_Book_eq : FnScope ["self", "other"] ["self", "other"] (defScope s_Book_eq) := ⟨rfl, rfl, rfl, by decide +kernel, rfl, by decide +kernel, by decide +kernel⟩
abbrev s_Book_len : Stmt := inClass (topS 21) 1
theorem sc_Book_len : FnScope ["self"] ["self"] (defScope s_Book_len) := ⟨rfl, rfl, rfl, by decide +kernel, rfl, by decide +kernel, by decide +kernel⟩
theorem kit_self {K : PySem.W.Frag} {C : Addr} : PySem.W.kitOne K (.ref C) (.ref C) = some true := by
  unfold PySem.W.kitOne
  rw [if_pos (beq_self_eq_true _)]
theorem eqv_map {α : Type} [DecidableEq α] {f : α → PyData} (h : ∀ x y, PyData.eqv (f x) (f y) = decide (x = y)) : ∀ xs ys : List α, PyData.eqvAll (xs.map f) (ys.map f) = decide (xs = ys)
  | [], [] => by simp [PyData.eqvAll]
  | [], q :: qs => by simp [PyData.eqvAll]
  | o :: os, [] => by simp [PyData.eqvAll]
  | o :: os, q :: qs => by
    simp only [List.map_cons, PyData.eqvAll]
    rw [eqv_map h os qs, h]
    by_cases h1 : o = q <;> by_cases h2 : os = qs <;> simp [h1, h2]
theorem eqv_mapT {α : Type} [DecidableEq α] {f : α → PyData} (h : ∀ x y, PyData.eqv (f x) (f y) = decide (x = y)) (xs ys : List α) : PyData.eqv (.tuple (xs.map f)) (.tuple (ys.map f)) = decide (xs = ys) := by
  simp only [PyData.eqv]
  exact eqv_map h xs ys
def dN (z : Nam) : PyData := .str (sOf z)
def dB (d : BidD) : PyData := .tuple [.str (sOf d.1), .int d.2]
abbrev RowD := Nam × List BidD × List Nam
def dR (r : RowD) : PyData := .tuple [.str (sOf r.1), .tuple (r.2.1.map dB), .tuple (r.2.2.map dN)]
theorem eqv_str (x y : Nam) : (sOf x == sOf y) = decide (x = y) := by
  by_cases e : x = y
  · subst e; simp
  · rw [decide_eq_false e]
    cases e2 : (sOf x == sOf y) with
    | false => rfl
    | true => exact absurd (sOf_inj (eq_of_beq e2)) e
theorem eqv_dN (x y : Nam) : PyData.eqv (dN x) (dN y) = decide (x = y) := by
  simp only [dN, PyData.eqv]
  exact eqv_str x y
theorem eqv_dB (x y : BidD) : PyData.eqv (dB x) (dB y) = decide (x = y) := by
  obtain ⟨a, b⟩ := x
  obtain ⟨c, d⟩ := y
  simp only [dB, PyData.eqv, PyData.eqvAll, eqv_str, Bool.and_true, Prod.mk.injEq, Bool.decide_and]
  by_cases e : b = d <;> simp [e]
theorem eqv_dR (x y : RowD) : PyData.eqv (dR x) (dR y) = decide (x = y) := by
  obtain ⟨a, b, c⟩ := x
  obtain ⟨a', b', c'⟩ := y
  simp only [dR, PyData.eqv, PyData.eqvAll, eqv_str, eqv_map eqv_dB, eqv_map eqv_dN, Bool.and_true, Prod.mk.injEq, Bool.decide_and]
theorem lay_map {α : Type} {f : α → PyData} {n : Nat} : ∀ {xs : List α}, (∀ x ∈ xs, (f x).canLay0 = true ∧ (f x).depth ≤ n) → PyData.canLayAll0 (xs.map f) = true ∧ PyData.depthAll (xs.map f) ≤ n
  | [], _ => ⟨by simp [PyData.canLayAll0], by simp [PyData.depthAll]⟩
  | o :: os, h => by
    obtain ⟨h1, h2⟩ := lay_map (xs := os) fun t m => h t (List.mem_cons_of_mem _ m)
    obtain ⟨n1, n2⟩ := h o List.mem_cons_self
    refine ⟨?_, ?_⟩
    · simp only [List.map_cons, PyData.canLayAll0, Bool.and_eq_true]
      exact ⟨n1, h1⟩
    · simp only [List.map_cons, PyData.depthAll]
      omega
theorem lay_dN {z : Nam} (h : NmH z) : (dN z).canLay0 = true ∧ (dN z).depth ≤ 0 := by
  simp [dN, PyData.canLay0, PyData.depth, nmH_ok h]
theorem lay_dB {d : BidD} (h : NmH d.1) : (dB d).canLay0 = true ∧ (dB d).depth ≤ 1 := by
  simp [dB, PyData.canLay0, PyData.canLayAll0, PyData.depth, PyData.depthAll, nmH_ok h]
theorem lay_dR {r : RowD} (h : NmH r.1) (hb : ∀ d ∈ r.2.1, NmH d.1) (hf : ∀ z ∈ r.2.2, NmH z) : (dR r).canLay0 = true ∧ (dR r).depth ≤ 3 := by
  obtain ⟨b1, b2⟩ := lay_map (f := dB) fun d m => lay_dB (hb d m)
  obtain ⟨f1, f2⟩ := lay_map (f := dN) fun z m => lay_dN (hf z m)
  refine ⟨by simp [dR, PyData.canLay0, PyData.canLayAll0, nmH_ok h, b1, f1], ?_⟩
  simp only [dR, PyData.depth, PyData.depthAll]
  omega
theorem shaped_of {xs : List PyData} {n : Nat} (h : PyData.canLayAll0 xs = true ∧ PyData.depthAll xs ≤ n) (l : n ≤ 60) : SeqAt.shaped (.tuple xs) = true := by
  show ((PyData.tuple _).canLay0 && decide ((PyData.tuple _).depth ≤ 64)) = true
  rw [show (PyData.tuple xs).canLay0 = true by simp only [PyData.canLay0, h.1], show (PyData.tuple xs).depth = PyData.depthAll xs + 1 by simp only [PyData.depth]]
  exact decide_eq_true (by omega)
theorem dp_map {K : PySem.W.Frag} {H : Hp} {α : Type} {R : Hp → Addr → α → Prop} {f : α → PyData} (k : ∀ e d, R H e d → Dp K H (.ref e) (f d)) : ∀ {es : List Addr} {ds : List α}, AllAt R H es ds → DpAll K H (es.map V.ref) (ds.map f)
  | [], [], _ => .nil
  | [], o :: os, h => by cases h.1
  | t :: ts, [], h => by cases h.1
  | t :: ts, o :: os, h => by
    obtain ⟨o', h1, h2⟩ := h.2 0 t rfl
    cases Option.some.inj h1
    exact .cons (k _ _ h2) (dp_map k ⟨Nat.succ.inj h.1, fun i t' a => h.2 (i + 1) t' a⟩)
theorem dp_nmsN {K : PySem.W.Frag} {H : Hp} : ∀ (zs : List Nam), DpAll K H (zs.map vN) (zs.map dN)
  | [] => .nil
  | z :: zs => .cons (.str _) (dp_nmsN zs)
def keyR (zs : List Nam) (d : PgD) : RowD := (d.nm, sortB zs d.bids, d.fol)
theorem dp_row {K : PySem.W.Frag} {H : Hp} {zs : List Nam} {r : Addr} {d : PgD} (h : RowR zs H r d) : Dp K H (.ref r) (dR (keyR zs d)) := by
  obtain ⟨bt, ft, es, h1, h2, h3, h4⟩ := h
  exact .tup (tupAt h1) (.cons (.str _) (.cons (.tup (tupAt h2) (dp_map (f := dB) (R := fun H e (d : BidD) => H e = some (.tup [vN d.1, .int d.2])) (fun e d he => .tup (tupAt he) (.cons (.str _) (.cons (.int _) .nil))) h3)) (.cons (.tup (tupAt h4) (dp_nmsN _)) .nil)))
theorem sortB_mem {zs : List Nam} {ds : List BidD} {d : BidD} (h : d ∈ sortB zs ds) : d ∈ ds ∧ d.1 ∈ zs := by
  unfold sortB at h
  obtain ⟨z, mz, md⟩ := List.mem_flatMap.mp h
  obtain ⟨m, e⟩ := List.mem_filter.mp md
  rw [of_decide_eq_true e]
  exact ⟨m, mz⟩
/-- a book with right parts -/
structure BkX (C CP : Addr) (H : Hp) (p : Addr) (zs ss hs : List Nam) (ds : List PgD) : Prop where
  at_ : BkAt C CP H p zs ss hs ds
  z : ∀ z ∈ zs, Nm z
  ok : POk zs ds
  s : ∀ x ∈ ss, x ∈ ds.map (·.nm)
  h : ∀ x ∈ hs, x ∈ ds.map (·.nm)
theorem BkX.same {C CP : Addr} {H H' : Hp} {p : Addr} {zs ss hs : List Nam} {ds : List PgD} (b : BkX C CP H p zs ss hs ds) (t : Same H H') : BkX C CP H' p zs ss hs ds := ⟨b.at_.same t, b.z, b.ok, b.s, b.h⟩
theorem POk.tn {zs : List Nam} {ds : List PgD} (ok : POk zs ds) : ∀ x ∈ ds.map (·.nm), NmH x := fun x m => by
  obtain ⟨d, md, rfl⟩ := List.mem_map.mp m
  exact .inl (ok.nm d md)
theorem BkX.rows {C CP : Addr} {H : Hp} {p : Addr} {zs ss hs : List Nam} {ds : List PgD} (b : BkX C CP H p zs ss hs ds) : PyData.canLayAll0 ((ds.map (keyR zs)).map dR) = true ∧ PyData.depthAll ((ds.map (keyR zs)).map dR) ≤ 3 :=
  lay_map fun r m => by
    obtain ⟨d, md, rfl⟩ := List.mem_map.mp m
    exact lay_dR (.inl (b.ok.nm d md)) (fun x mx => .inl (b.z _ (sortB_mem mx).2)) fun x mx => b.ok.tn x (b.ok.fs d md x mx)
theorem fldsB_members (m n s h r g : Addr) : (fldsB m n s h r g).lookup ("members" : Str) = some (.ref m) := put_ne (put_ne (put_ne (put_ne (put_ne (put_same _ _ _) (by decide +kernel)) (by decide +kernel)) (by decide +kernel)) (by decide +kernel)) (by decide +kernel)
theorem fldsB_starts (m n s h r g : Addr) : (fldsB m n s h r g).lookup ("starts" : Str) = some (.ref s) := put_ne (put_ne (put_ne (put_same _ _ _) (by decide +kernel)) (by decide +kernel)) (by decide +kernel)
theorem fldsB_home (m n s h r g : Addr) : (fldsB m n s h r g).lookup ("home" : Str) = some (.ref h) := put_ne (put_ne (put_same _ _ _) (by decide +kernel)) (by decide +kernel)
theorem fldsB_rows (m n s h r g : Addr) : (fldsB m n s h r g).lookup ("_rows" : Str) = some (.ref r) := put_ne (put_same _ _ _) (by decide +kernel)
theorem ref_map {α : Type} {R : Hp → Addr → α → Prop} {β : Type} {g : α → β} {H : Hp} {es : List Addr} {ds : List α} (h : AllAt R H es ds) : AllAt (fun H e b => ∃ d, g d = b ∧ R H e d) H es (ds.map g) := ⟨by rw [List.length_map]; exact h.1, fun i e he => by
  obtain ⟨d, a, b⟩ := h.2 i e he
  exact ⟨g d, by rw [List.getElem?_map, a]; rfl, d, rfl, b⟩⟩
section
variable {P : Program} {w : World} {K : PySem.W.Frag} {mg : Str → Option Value} {base : Heap}
def spEqBk (K : PySem.W.Frag) (C CP : Addr) : Sp := fun vs H Q _ => ∃ (p : Addr) (y : V) (zs ss hs : List Nam) (ds : List PgD), vs = [.ref p, y] ∧ BkX C CP H p zs ss hs ds ∧
  ((∃ t, TyX K H y t ∧ PySem.W.kitOne K t (.ref C) = some false ∧ Q (.bl false) H) ∨
   (∃ (p' : Addr) (zs' ss' hs' : List Nam) (ds' : List PgD), y = .ref p' ∧ BkX C CP H p' zs' ss' hs' ds' ∧ Q (.bl (decide (zs = zs' ∧ ss = ss' ∧ hs = hs' ∧ ds.map (keyR zs) = ds'.map (keyR zs')))) H))
theorem ok_Book_eq {f C CP : Addr} {fd : FuncData} (F : Fun K "__eq__" "Book.__eq__" s_Book_eq f fd) (T : TxtBk K C) (m_isinstance : mg "isinstance" = none) (mg_Book : mg "Book" = some (.ref C))
    (ha : PySem.W.findIn K (.ref C) "__class__" = some (some (.builtin "object.__class__"))) (hn : PySem.W.specialIn K (.builtin "object.__class__") "__get__" = some (some (.builtin "getset_descriptor.__get__")))
    (htk : PySem.W.takesIn K (.builtin "object.__class__") = some true) (hm : PySem.W.mroIn K C (.type "object") = some true) : FnOk P w K mg base CX0 1 f fd ["self", "other"] (spEqBk K C CP) := by
  refine F.ok sc_Book_eq (fun vs H Q E h => ?_) (fun cdv A outer s H vs Q E hr h => ?_)
  · obtain ⟨p, y, zs, ss, hs, ds, rfl, _⟩ := h
    rfl
  · obtain ⟨p, y, zs, ss, hs, ds, rfl, bx, h⟩ := h
    obtain ⟨dx, m, n, s0, h0, r, g, o, rs, qs, hp, hM, hN, oc, od, hS, hH, hR, hRs, _⟩ := bx.at_
    refine ⟨_, (pss_one (ps_ret (pe_and (pe_callB call_isi (by rfl) m_isinstance (by decide +kernel) (pa_cons (pv 1) (pa_cons (pe_glob (v := .ref C) (u := .ref C) (by rfl) mg_Book rfl) pa_nil))) (pe_and (pe_cmpR (op_eqD hr.units) (pe_fld (pv 0) rfl) (pe_fld (pv 1) rfl) (nomark _)) (pe_and (pe_cmpR (op_eqD hr.units) (pe_fld (pv 0) rfl) (pe_fld (pv 1) rfl) (nomark _)) (pe_and (pe_cmpR (op_eqD hr.units) (pe_fld (pv 0) rfl) (pe_fld (pv 1) rfl) (nomark _)) (pe_one (pe_cmpR (op_eqD hr.units) (pe_fld (pv 0) rfl) (pe_fld (pv 1) rfl) (nomark _))))))))), ?_⟩
    rcases h with ⟨t, ty, kt, q⟩ | ⟨p', zs', ss', hs', ds', rfl, bx', q⟩
    · refine ⟨_, rfl, _, _, _, _, false, rfl, .own C, ty, kt, _, rfl, iteF ?_⟩
      exact q
    · obtain ⟨dx', m', n', s0', h0', r', g', o', rs', qs', hp', hM', hN', oc', od', hS', hH', hR', hRs', _⟩ := bx'.at_
      refine ⟨_, rfl, _, _, _, _, true, rfl, .own C, .base (.ins hp' T.cl ha hn htk hm), kit_self, _, rfl, iteT ?_⟩
      refine ⟨_, rfl, p, C, dx, _, _, rfl, hp, T.cl, T.n1, fldsB_members _ _ _ _ _ _, _, rfl, p', C, dx', _, _, rfl, hp', T.cl, T.n1, fldsB_members _ _ _ _ _ _, .tuple _, .tuple _, .tup (tupAt hM) (dp_nmsN zs), .tup (tupAt hM') (dp_nmsN zs'), shaped_of (lay_map fun z m => lay_dN (.inl (bx.z z m))) (by decide), shaped_of (lay_map fun z m => lay_dN (.inl (bx'.z z m))) (by decide), _, rfl, ?_⟩
      rw [eqv_mapT eqv_dN]
      by_cases e1 : ¬ zs = zs'
      · rw [decide_eq_false e1]; rw [decide_eq_false (fun z => e1 z.1)] at q; exact iteF q
      have e1 := Decidable.not_not.mp e1
      rw [decide_eq_true e1]
      refine iteT ⟨_, rfl, p, C, dx, _, _, rfl, hp, T.cl, T.n3, fldsB_starts _ _ _ _ _ _, _, rfl, p', C, dx', _, _, rfl, hp', T.cl, T.n3, fldsB_starts _ _ _ _ _ _, .tuple _, .tuple _, .tup (tupAt hS) (dp_nmsN ss), .tup (tupAt hS') (dp_nmsN ss'), shaped_of (lay_map fun z m => lay_dN (bx.ok.tn z (bx.s z m))) (by decide), shaped_of (lay_map fun z m => lay_dN (bx'.ok.tn z (bx'.s z m))) (by decide), _, rfl, ?_⟩
      rw [eqv_mapT eqv_dN]
      by_cases e2 : ¬ ss = ss'
      · rw [decide_eq_false e2]; rw [decide_eq_false (fun z => e2 z.2.1)] at q; exact iteF q
      have e2 := Decidable.not_not.mp e2
      rw [decide_eq_true e2]
      refine iteT ⟨_, rfl, p, C, dx, _, _, rfl, hp, T.cl, T.n4, fldsB_home _ _ _ _ _ _, _, rfl, p', C, dx', _, _, rfl, hp', T.cl, T.n4, fldsB_home _ _ _ _ _ _, .tuple _, .tuple _, .tup (tupAt hH) (dp_nmsN hs), .tup (tupAt hH') (dp_nmsN hs'), shaped_of (lay_map fun z m => lay_dN (bx.ok.tn z (bx.h z m))) (by decide), shaped_of (lay_map fun z m => lay_dN (bx'.ok.tn z (bx'.h z m))) (by decide), _, rfl, ?_⟩
      rw [eqv_mapT eqv_dN]
      by_cases e3 : ¬ hs = hs'
      · rw [decide_eq_false e3]; rw [decide_eq_false (fun z => e3 z.2.2.1)] at q; exact iteF q
      have e3 := Decidable.not_not.mp e3
      rw [decide_eq_true e3]
      have D1 : DpAll K H (rs.map V.ref) ((ds.map (keyR zs)).map dR) := dp_map (R := fun H e b => ∃ d, keyR zs d = b ∧ RowR zs H e d) (fun e b ⟨d, e1, k⟩ => e1 ▸ dp_row k) (ref_map hRs)
      have D2 : DpAll K H (rs'.map V.ref) ((ds'.map (keyR zs')).map dR) := dp_map (R := fun H e b => ∃ d, keyR zs' d = b ∧ RowR zs' H e d) (fun e b ⟨d, e1, k⟩ => e1 ▸ dp_row k) (ref_map hRs')
      refine iteT ⟨_, rfl, p, C, dx, _, _, rfl, hp, T.cl, T.n5, fldsB_rows _ _ _ _ _ _, _, rfl, p', C, dx', _, _, rfl, hp', T.cl, T.n5, fldsB_rows _ _ _ _ _ _, .tuple _, .tuple _, .tup (tupAt hR) D1, .tup (tupAt hR') D2, shaped_of bx.rows (by decide), shaped_of bx'.rows (by decide), ?_⟩
      rw [eqv_mapT eqv_dR]
      by_cases e4 : ds.map (keyR zs) = ds'.map (keyR zs')
      · rw [decide_eq_true e4]; rw [decide_eq_true ⟨e1, e2, e3, e4⟩] at q; exact q
      · rw [decide_eq_false e4]; rw [decide_eq_false (fun z => e4 z.2.2.2)] at q; exact q
def spLenBk (C CP : Addr) : Sp := fun vs H Q _ => ∃ (p : Addr) (zs ss hs : List Nam) (ds : List PgD), vs = [.ref p] ∧ BkAt C CP H p zs ss hs ds ∧ Q (.int ds.length) H
theorem ok_Book_len {f C CP : Addr} {fd : FuncData} (F : Fun K "__len__" "Book.__len__" s_Book_len f fd) (T : TxtBk K C) (m_len : mg "len" = none) : FnOk P w K mg base CX0 1 f fd ["self"] (spLenBk C CP) := by
  refine F.ok sc_Book_len (fun vs H Q E h => ?_) (fun cdv A outer s H vs Q E hr h => ?_)
  · obtain ⟨p, zs, ss, hs, ds, rfl, _⟩ := h
    rfl
  · obtain ⟨p, zs, ss, hs, ds, rfl, ⟨dx, m, n, s0, h0, r, g, o, rs, qs, hp, hm, hn, oc, od, hs', hh, hr', hR, hg, hQ⟩, q⟩ := h
    refine ⟨_, (pss_one (ps_ret (pe_callB call_len_seq (by rfl) m_len (by decide +kernel) (pa_cons (pe_fld (pv 0) rfl) pa_nil)))), ?_⟩
    refine ⟨_, rfl, p, C, dx, _, _, rfl, hp, T.cl, T.n6, fldsB_pages _ _ _ _ _ _, _, _, rfl, .inr (tupAt hg), ?_⟩
    rw [List.length_map, hQ.1]
    exact q
end
end TK

/-! the book made of three parts -/
namespace TK
open PySem PySem.Spec PyProof.Rows L2
section
variable {P : Program} {w : World} {K : PySem.W.Frag} {mg : Str → Option Value} {base : Heap}
def spMade3 (C CP : Addr) : Sp := fun vs H Q _ => ∃ (N : Addr → Prop) (D : Addr) (b : Pt3), vs = [.ref D] ∧ P3At N H D b ∧ P3Ok b ∧
  ∀ (H' : Hp) (x : Addr), H x = none → Same H H' → BkX C CP H' x b.zs b.ss [] b.ds → Q (.ref x) H'
theorem ok_L_made {f C CP EH fB : Addr} {fd fdB : FuncData} {dsB : List Value} (F : Fun K "_law_made" "_law_made" s_L_made f fd) (m_list : mg "list" = none)
    (M_Book : Mk K C fB) (G_Book : FnOk P w K mg base CX0 4 fB fdB ["self", "members", "pages", "starts", "home"] (spInitBkM K C CP)) (mg_Book : mg "Book" = some (.ref C)) (b_Book : Binds K fdB ["self", "members", "pages", "starts", "home"] dsB) (v_Book : Vals [V.ref EH] dsB) (hEH : ∀ H, SqT K H EH []) : FnOk P w K mg base CX0 6 f fd ["_law_parts"] (spMade3 C CP) := by
  refine F.ok sc_L_made (fun vs H Q E h => ?_) (fun cdv A outer s H vs Q E hr h => ?_)
  · obtain ⟨N, D, b, rfl, _⟩ := h
    rfl
  · obtain ⟨N, D, b, rfl, ⟨c, r, f, rs, hD, hc, hrr, hR, hf, _⟩, ok, q⟩ := h
    refine ⟨_, (pss_one (ps_ret (pe_make M_Book G_Book (hr.mono (by decide)) (by rfl) mg_Book b_Book v_Book pass0 (pa_cons (pe_callTy call_list_of (by rfl) m_list (by decide +kernel) (pa_cons (pe_ix ix_tup (pv 0) pe_int (fun _ _ => rfl)) pa_nil)) (pa_cons (pe_lc (own := [("_law_title", 1), ("_law_bids", 2), ("_law_after", 3)]) (by rfl) sc_L_made.nd (pi_list (pe_ix ix_tup (pv 0) pe_int (fun _ _ => rfl))) (blkOk_by (N := ["_law_parts", "_law_title", "_law_bids", "_law_after"]) (sc := defScope s_L_made) (by decide +kernel)) (fun _ _ _ _ _ => (pg_tupK (K := K) (n := 3) rfl (by rfl) (pgs_cons (pg_name (i := 1) sc_L_made.nd rfl (.inl rfl)) (pgs_cons (pg_name (i := 2) sc_L_made.nd rfl (.inl rfl)) (pgs_cons (pg_name (i := 3) sc_L_made.nd rfl (.inl rfl)) pgs_nil))))) (fun _ _ _ _ _ => pts_nil) (fun _ _ _ _ _ => (pe_tup (pa_cons (pv 1) (pa_cons (pe_callTy (call_list_ofK (K := K) rfl) (by rfl) m_list (by decide +kernel) (pa_cons (pv 2) pa_nil)) (pa_cons (pe_callTy (call_list_ofK (K := K) rfl) (by rfl) m_list (by decide +kernel) (pa_cons (pv 3) pa_nil)) pa_nil)))))) (pa_cons (pe_callTy call_list_of (by rfl) m_list (by decide +kernel) (pa_cons (pe_ix ix_tup (pv 0) pe_int (fun _ _ => rfl)) pa_nil)) pa_nil)))))), ?_⟩
    have d4 := ok.ok.l4
    have pl : (rs.map V.ref).length = b.ds.length := by rw [List.length_map, hR.1]
    refine ⟨_, rfl, _, _, 0, _, rfl, rfl, tupAt hD, rfl, _, _, rfl, .inl (lstAt hc), fun l1 nl1 => ?_⟩
    have s1 := same_upd (o := .lst (b.zs.map vN)) nl1
    have e1 := upd_same (H := H) (a := l1) (o := .lst (b.zs.map vN))
    generalize upd H l1 (.lst (b.zs.map vN)) = H1 at s1 e1 ⊢
    refine ⟨_, rfl, _, _, 1, _, rfl, rfl, tupAt (s1 _ _ hD), rfl, r, rfl, ⟨_, lstAt (s1 _ _ hrr)⟩, fun G nG => ?_⟩
    refine lc_list (K := K) (a := r) (xs := rs.map V.ref) (fun i H' => ∃ ps : List Addr, Same H1 H' ∧ H' G = some (.lst (ps.map V.ref)) ∧ AllAt (RwT (· ≠ G)) H' ps (b.ds.take i)) ⟨[], same_upd nG, upd_same, .nil⟩ (fun i H' _ hq => by obtain ⟨_, s, _⟩ := hq; exact lstAt (s _ _ (s1 _ _ hrr))) (fun i v H' hv hq => ?_) (fun H2 hq => ?_)
    · obtain ⟨ps, s2, eG, hP⟩ := hq
      obtain ⟨e, d, rfl, ed, b0, f0, es, h1, h2, h3, h4, _⟩ := all_at (hR.mono fun _ _ k => k.same (s1.trans s2)) hv
      have hi := (List.getElem?_eq_some_iff.mp ed).1
      have ql : ps.length = i := by rw [hP.1, List.length_take]; omega
      refine gTup3 h1 [some (.ref D), some (vN d.nm), some (.ref b0), some (.ref f0)] (by simp [wipe, L2.start]) ?_
      refine ⟨rfl, yesT ⟨_, rfl, _, rfl, b0, _, rfl, .inl (lstAt h2), fun g1 ng1 => ?_⟩⟩
      have k1 := same_upd (o := .lst (es.map V.ref)) ng1
      have eg1 := upd_same (H := H') (a := g1) (o := .lst (es.map V.ref))
      generalize upd H' g1 (.lst (es.map V.ref)) = H3 at k1 eg1 ⊢
      refine ⟨_, rfl, f0, _, rfl, .inl (lstAt (k1 _ _ h4)), fun g2 ng2 => ?_⟩
      have k2 := k1.trans (same_upd (o := .lst (d.fol.map vN)) ng2)
      have eg2 := upd_same (H := H3) (a := g2) (o := .lst (d.fol.map vN))
      have eg1 := (same_upd (o := .lst (d.fol.map vN)) ng2) _ _ eg1
      generalize upd H3 g2 (.lst (d.fol.map vN)) = H4 at k2 eg1 eg2 ⊢
      refine ⟨(show (3 : Nat) ≤ sizeLine by decide), fun g ng => ?_⟩
      have kg := same_upd (o := .tup [vN d.nm, .ref g1, .ref g2]) ng
      have eg := upd_same (H := H4) (a := g) (o := .tup [vN d.nm, .ref g1, .ref g2])
      generalize upd H4 g (.tup [vN d.nm, .ref g1, .ref g2]) = H5 at kg eg ⊢
      have k3 := k2.trans kg
      have eG5 := k3 _ _ eG
      have g1G : g1 ≠ G := (ne_of_none eG ng1).symm
      have g2G : g2 ≠ G := (ne_of_none (k1 _ _ eG) ng2).symm
      have row : RwT (· ≠ G) H5 g d := ⟨g1, g2, es, eg, kg _ _ eg1, h3.same k3, kg _ _ eg2, g1G, g2G⟩
      have kD : ∀ c o, H5 c = some o → c ≠ G → (upd H5 G (.lst (ps.map V.ref ++ [.ref g]))) c = some o := fun c o e n => by rw [upd_ne n]; exact e
      refine ⟨_, eG5, by rw [List.length_map, ql]; exact small1000 (by omega), ps ++ [g], same_at (s2.trans k3) nG, by rw [upd_same, List.map_append]; rfl, ?_⟩
      rw [List.take_add_one, ed]
      exact ((hP.mono fun _ _ k => k.same k3).app (.one row)).mono fun _ _ k => k.go (fun _ z => z) ⟨_, eG5⟩ kD
    obtain ⟨ps, s2, eG, hP⟩ := hq
    rw [pl, List.take_length] at hP
    have s12 := s1.trans s2
    have e12 := s2 _ _ e1
    refine ⟨_, rfl, _, _, 2, _, rfl, rfl, tupAt (s12 _ _ hD), rfl, f, _, rfl, .inl (lstAt (s12 _ _ hf)), fun l3 nl3 => ?_⟩
    have k3 := same_upd (o := .lst (b.ss.map vN)) nl3
    have s13 := s12.trans k3
    have e3 := upd_same (H := H2) (a := l3) (o := .lst (b.ss.map vN))
    generalize upd H2 l3 (.lst (b.ss.map vN)) = H3 at k3 s13 e3 ⊢
    have e13 := k3 _ _ e12
    have eG3 := k3 _ _ eG
    have hP3 := hP.mono (S := RwT (· ≠ G)) (H' := H3) fun _ _ k => k.same k3
    intro x dx nx ndx nex
    have sdx := same_upd (o := .own x) ndx
    have nxx : (upd H3 dx (.own x)) x = none := by rw [upd_ne nex.symm]; exact nx
    have sx := sdx.trans (same_upd (o := .ins C dx []) nxx)
    have ex := upd_same (H := upd H3 dx (.own x)) (a := x) (o := .ins C dx [])
    have nxH : H x = none := none_of s13 nx
    generalize upd (upd H3 dx (.own x)) x (.ins C dx []) = Hx at sx ex ⊢
    have sH : ∀ {H9 : Hp}, SameP x Hx H9 → Same H H9 := fun sp y o e => sp y o (sx _ _ (s13 _ _ e)) (ne_of_none e nxH)
    refine ⟨x, l1, G, l3, EH, dx, b.zs, b.ss, [], ps, b.ds, rfl, ex, ⟨lstAt (sx _ _ e13), lstAt (sx _ _ eG3), ⟨hP3.1, fun i p e => ?_⟩, lstAt (sx _ _ e3), hEH _⟩, ok.z1, ok.z4, ok.zn, ok.nz, ok.ok, ok.sne, ok.snd, ok.ssub, List.nodup_nil, nofun, fun H9 bk sp => ⟨rfl, ?_⟩⟩
    · obtain ⟨d, a1, b0, f0, es, a2, a3, a4, a5, _⟩ := hP3.2 i p e
      exact ⟨d, a1, b0, f0, es, sx _ _ a2, lstAt (sx _ _ a3), a4.same sx, lstAt (sx _ _ a5)⟩
    · refine q H9 x nxH (sH sp) ⟨?_, ok.zn, ok.ok, ok.ssub, nofun⟩
      rw [show ((b.ds.map (·.nm)).filter fun n => decide (n ∈ ([] : List Nam))) = [] from List.filter_eq_nil_iff.mpr fun x _ => by simp] at bk
      exact bk
end
end TK

/-! a page of a book; its pages, one behind the other; what a turn rule says of a page -/
namespace TK
open PySem PySem.Spec PyProof.Rows L2
abbrev s_Book_page : Stmt := inClass (topS 21) 4
theorem sc_Book_page : FnScope ["self", "name"] ["self", "name"] (defScope s_Book_page) := ⟨rfl, rfl, rfl, by decide +kernel, rfl, by decide +kernel, by decide +kernel⟩
abbrev s_Book_iter : Stmt := inClass (topS 21) 2
theorem sc_Book_iter : FnScope ["self"] ["self"] (defScope s_Book_iter) := ⟨rfl, rfl, rfl, by decide +kernel, rfl, by decide +kernel, by decide +kernel⟩
theorem first_bk {ns : List Nam} {x : Nam} {j : Nat} (nd : ns.Nodup) (h : ns[j]? = some x) : (ns.map sOf)[j]? = some (sOf x) ∧ ∀ m, m < j → (ns.map sOf)[m]? ≠ some (sOf x) := by
  refine ⟨by rw [List.getElem?_map, h]; rfl, fun m hm e => ?_⟩
  rw [List.getElem?_map] at e
  obtain ⟨y, ey, q⟩ := Option.map_eq_some_iff.mp e
  cases sOf_inj q
  have := (List.getElem?_inj (List.getElem?_eq_some_iff.mp ey).1 nd).mp (ey.trans h.symm)
  omega
section
variable {P : Program} {w : World} {K : PySem.W.Frag} {mg : Str → Option Value} {base : Heap}
def spPage (C CP : Addr) : Sp := fun vs H Q _ => ∃ (p : Addr) (x : Nam) (zs ss hs : List Nam) (ds : List PgD) (j : Nat) (d : PgD), vs = [.ref p, vN x] ∧ BkAt C CP H p zs ss hs ds ∧ (ds.map (·.nm)).Nodup ∧ ds[j]? = some d ∧ d.nm = x ∧
  ∀ g, PgAt CP H g d.nm (sortB zs d.bids) d.fol (decide (d.nm ∈ hs)) → Q (.ref g) H
theorem ok_Book_page {f C CP : Addr} {fd : FuncData} (F : Fun K "page" "Book.page" s_Book_page f fd) (T : TxtBk K C) : FnOk P w K mg base CX0 1 f fd ["self", "name"] (spPage C CP) := by
  refine F.ok sc_Book_page (fun vs H Q E h => ?_) (fun cdv A outer s H vs Q E hr h => ?_)
  · obtain ⟨p, x, zs, ss, hs, ds, j, d, rfl, _⟩ := h
    rfl
  · obtain ⟨p, x, zs, ss, hs, ds, j, d, rfl, ⟨dx, m, n, s0, h0, r, g, o, rs, qs, hp, hm, hn, oc, od, hs', hh, hr', hR, hg, hQ⟩, nd, ed, rfl, q⟩ := h
    have en : (ds.map (·.nm))[j]? = some d.nm := by rw [List.getElem?_map, ed]; rfl
    obtain ⟨f1, f2⟩ := first_bk nd en
    refine ⟨_, (pss_cons (ps_if (pt_cmpR op_notIn_seq (pv 1) (pe_fld (pv 0) rfl) (by rfl)) (pss_one ps_never) pss_nil)
  (pss_one (ps_ret (pe_ix ix_tup (pe_fld (pv 0) rfl) (pe_bmF PySem.F.plainAttrs_tuple PySem.F.slot_tuple_index PySem.F.type_tuple_index L2.mt_tup_index (pe_fld (pv 0) rfl) (pa_cons (pv 1) pa_nil)) (fun _ _ => rfl))))), ?_⟩
    refine ⟨_, rfl, _, rfl, p, C, dx, _, _, rfl, hp, T.cl, T.n2, fldsB_names _ _ _ _ _ _, n, _, rfl, .inr (.inl (.inr ⟨o, hn⟩)), rfl, nms_flat _, _, rfl, ?_⟩
    rw [notin_nm, decide_eq_true (List.mem_of_getElem? en)]
    refine iteF ?_
    have jl : j < qs.length := by rw [hQ.1]; exact (List.getElem?_eq_some_iff.mp ed).1
    obtain ⟨d', ed', pg⟩ := hQ.2 j _ (List.getElem?_eq_getElem jl)
    cases Option.some.inj (ed.symm.trans ed')
    refine ⟨_, rfl, p, C, dx, _, _, rfl, hp, T.cl, T.n6, fldsB_pages _ _ _ _ _ _, _, rfl, p, C, dx, _, _, rfl, hp, T.cl, T.n2, fldsB_names _ _ _ _ _ _, ⟨n, o, _, rfl, hn, oc, od⟩, _, rfl, n, (ds.map (·.nm)).map sOf, sOf d.nm, j, rfl, rfl, .inl (.inr ⟨o, by rw [← vN_strs]; exact hn⟩), f1, f2, ?_⟩
    refine ⟨_, _, _, _, rfl, rfl, tupAt hg, atI_nat (by rw [List.getElem?_map, List.getElem?_eq_getElem jl]; rfl), ?_⟩
    exact q _ pg.1
def RBk (K : PySem.W.Frag) (C : Addr) (a t : Addr) (H : Hp) : Prop := ∃ dx m n s h r xs, H a = some (.ins C dx (fldsB m n s h r t)) ∧ SqT K H t xs
theorem ok_Book_iter {f C : Addr} {fd : FuncData} (F : Fun K "__iter__" "Book.__iter__" s_Book_iter f fd) (b : Binds K fd ["self"] []) (T : TxtBk K C) (m_iter : mg "iter" = none) : FnIt P w K mg base 1 f (RBk K C) := by
  refine fnIt_of (k := 0) F sc_Book_iter b fun cdv A outer s H a t hr hR => ?_
  obtain ⟨dx, m, n, s0, h0, r, xs, ha, ht⟩ := hR
  refine ⟨_, PSs.nox (pss_one (ps_ret (pe_callB call_iterT (by rfl) m_iter (by decide +kernel) (pa_cons (pe_fld (pv 0) rfl) pa_nil)))), ?_⟩
  exact ⟨_, rfl, a, C, dx, _, _, rfl, ha, T.cl, T.n6, fldsB_pages _ _ _ _ _ _, t, xs, rfl, ht, fun it hn hs => ⟨it, rfl, hn, hs, rfl⟩⟩
end
end TK

/-! walks counted -/
namespace TK
open PySem PySem.Spec PyProof.Rows L2 NdefX
abbrev s_Book_count_walks : Stmt := inClass (topS 21) 7
theorem sc_Book_count_walks : FnScope ["self", "rounds", "many", "_", "name", "page"] ["self", "rounds"] (defScope s_Book_count_walks) := ⟨rfl, rfl, rfl, by decide +kernel, rfl, by decide +kernel, by decide +kernel⟩
/-- the scope of the comprehension around the other -/
abbrev scCW : Scope := { kind := ScopeKind.function, names := [(".0", NameKind.local), ("page", NameKind.local), ("sum", NameKind.globalImplicit), ("many", NameKind.cell)], isGenerator := false, isCoroutine := false, more := [] }
section
variable {X : Cx} {K : PySem.W.Frag}
theorem cr_sumK (h : X.K = K) (hc : X.calm = true) : CallR X (.builtin "sum") (rSum K) := h ▸ cr_sum hc
end
/-! dicts of names and numbers -/
def keyN (z : Nam) : Key := Sum.inr (sOf z)
def kvI (f : Nam → Int) (z : Nam) : Key × V := (keyN z, V.int (f z))
theorem keyN_inj {a b : Nam} (h : keyN a = keyN b) : a = b := sOf_inj (Sum.inr.inj h)
theorem valI {zs : List Nam} {f : Nam → Int} {z : Nam} (h : z ∈ zs) : valV (zs.map (kvI f)) (keyN z) = some (V.int (f z)) := by
  induction zs with
  | nil => cases h
  | cons a zs ih =>
    by_cases e : a = z
    · subst e
      exact valV_pos (p := kvI f a) rfl
    · rw [List.map_cons, valV_neg (p := kvI f a) (fun q => e (keyN_inj q))]
      rcases List.mem_cons.mp h with q | q
      · exact absurd q.symm e
      · exact ih q
theorem valI_none {zs : List Nam} {f : Nam → Int} {z : Nam} (h : z ∉ zs) : valV (zs.map (kvI f)) (keyN z) = none := by
  induction zs with
  | nil => rfl
  | cons a zs ih =>
    rw [List.map_cons, valV_neg (p := kvI f a) (fun q => h (by rw [keyN_inj q]; exact List.mem_cons_self))]
    exact ih fun q => h (List.mem_cons_of_mem _ q)
theorem not_take {zs : List Nam} {i : Nat} {z : Nam} (nd : zs.Nodup) (h : zs[i]? = some z) : z ∉ zs.take i := fun m => by
  obtain ⟨j, hj⟩ := List.getElem?_of_mem m
  rw [List.getElem?_take] at hj
  by_cases c : j < i
  · rw [if_pos c] at hj
    have := (List.getElem?_inj (List.getElem?_eq_some_iff.mp hj).1 nd).mp (hj.trans h.symm)
    omega
  · rw [if_neg c] at hj; cases hj
theorem put_kvI {zs : List Nam} {f : Nam → Int} {i : Nat} {z : Nam} (nd : zs.Nodup) (h : zs[i]? = some z) : putK ((zs.take i).map (kvI f)) (keyN z) (V.int (f z)) = (zs.take (i + 1)).map (kvI f) := by
  rw [putK_new _ (valI_none (not_take nd h)), List.take_add_one, h, List.map_append]
  rfl
/-! the number of the walks of k pages behind a page -/
def folOf (ds : List PgD) (n : Nam) : List Nam := match ds.find? fun d => decide (d.nm = n) with
  | some d => d.fol
  | none => []
theorem folOf_at {ds : List PgD} {d : PgD} (nd : (ds.map (·.nm)).Nodup) (m : d ∈ ds) : folOf ds d.nm = d.fol := by
  unfold folOf
  have e : ds.find? (fun e => decide (e.nm = d.nm)) = some d := by
    induction ds with
    | nil => cases m
    | cons a ds ih =>
      rw [List.map_cons, List.nodup_cons] at nd
      by_cases h : a.nm = d.nm
      · rw [List.find?_cons_of_pos (by rw [decide_eq_true h])]
        rcases List.mem_cons.mp m with e | e
        · rw [e]
        · exact absurd (List.mem_map.mpr ⟨d, e, h.symm⟩) nd.1
      · rw [List.find?_cons_of_neg (by rw [decide_eq_false h]; decide)]
        rcases List.mem_cons.mp m with e | e
        · rw [e] at h; exact absurd rfl h
        · exact ih nd.2 e
  rw [e]
def cntB (ds : List PgD) : Nat → Nam → Int
  | 0, _ => 1
  | k + 1, n => ((folOf ds n).map (cntB ds k)).sum
def cntA (ds : List PgD) (ss : List Nam) : Nat → Int
  | 0 => 1
  | k + 1 => (ss.map (cntB ds k)).sum
section
variable {P : Program} {w : World} {K : PySem.W.Frag} {mg : Str → Option Value} {base : Heap}
/-! check_range, that may raise -/
def spRangeX (CB : Addr) : Sp := fun vs H Q E => ∃ a lo hi : Int, vs = [.int a, .int lo, .int hi] ∧ ((lo ≤ a ∧ a ≤ hi ∧ Q .non H) ∨ (¬ (lo ≤ a ∧ a ≤ hi) ∧ ∀ H' d, H d = none → Same H H' → H' d = some (.xd [("number", .int a)]) → E (.ref CB) (some d) H'))
theorem ok_check_rangeX {f CB fB : Addr} {fd fdB : FuncData} (F : Fun K "check_range" "check_range" s_check_range f fd) (TB : SupT P w K mg base "BadNumber" "number" "number" (fun _ => True) CB fB fdB) : FnOk P w K mg base (L2.CX P w) 3 f fd ["number", "low", "high"] (spRangeX CB) := by
  refine F.okX sc_check_range (fun vs H Q E h => ?_) (fun cdv A outer s H vs Q E hr h => ?_)
  · obtain ⟨a, lo, hi, rfl, _⟩ := h
    rfl
  · obtain ⟨a, lo, hi, rfl, q⟩ := h
    refine ⟨_, (pss_one (ps_if (pt_not (pt_chain op_le op_le (pv 1) (pv 0) (pv 2))) (pss_one (ps_raiseSup rfl TB (hr.mono (by decide)) (takes_of rfl rfl rfl rfl) (pa_cons (pv 0) pa_nil) (by rfl))) pss_nil)), ?_⟩
    refine ⟨_, rfl, _, rfl, _, _, rfl, rfl, _, rfl, ?_⟩
    by_cases h1 : lo ≤ a
    · rw [decide_eq_true h1]
      refine iteT ⟨_, rfl, _, _, rfl, rfl, _, rfl, ?_⟩
      by_cases h2 : a ≤ hi
      · rw [decide_eq_true h2]
        rcases q with ⟨_, _, q⟩ | ⟨e, _⟩
        · exact iteF q
        · exact absurd ⟨h1, h2⟩ e
      · rw [decide_eq_false h2]
        rcases q with ⟨_, e, _⟩ | ⟨_, q⟩
        · exact absurd e h2
        · exact iteT ⟨_, rfl, sup_read trivial fun d nd => q _ d nd (same_upd nd) upd_same⟩
    · rw [decide_eq_false h1]
      rcases q with ⟨e, _⟩ | ⟨_, q⟩
      · exact absurd e h1
      · exact iteF ⟨_, rfl, iteT ⟨_, rfl, sup_read trivial fun d nd => q _ d nd (same_upd nd) upd_same⟩⟩
def spCountX (C CP CB : Addr) : Sp := fun vs H Q E => ∃ (p : Addr) (n : Int) (zs ss hs : List Nam) (ds : List PgD), vs = [.ref p, .int n] ∧ BkX C CP H p zs ss hs ds ∧ ss.length ≤ 4 ∧
  ((∃ k : Nat, n = (k : Int) ∧ k ≤ 200 ∧ ∀ H', Same H H' → Q (.int (cntA ds ss k)) H') ∨ (¬ (0 ≤ n ∧ n ≤ 200) ∧ ∀ H' d, H d = none → Same H H' → H' d = some (.xd [("number", .int n)]) → E (.ref CB) (some d) H'))
theorem ok_Book_count_walks {f C CP CB fR : Addr} {fd fdR : FuncData} (F : Fun K "count_walks" "Book.count_walks" s_Book_count_walks f fd) (T : TxtBk K C) (TP : TxtPg K CP) (m_sum : mg "sum" = none) (m_range : mg "range" = none)
    (G_check_range : FnOk P w K mg base (L2.CX P w) 3 fR fdR ["number", "low", "high"] (spRangeX CB)) (g_check_range : mg "check_range" = some (.ref fR)) (k_check_range : PySem.W.keepIn K (.ref fR) = true) (b_check_range : Binds K fdR ["number", "low", "high"] []) : FnOk P w K mg base (L2.CX P w) 4 f fd ["self", "rounds"] (spCountX C CP CB) := by
  refine F.okX sc_Book_count_walks (fun vs H Q E h => ?_) (fun cdv A outer s H vs Q E hr h => ?_)
  · obtain ⟨p, n, zs, ss, hs, ds, rfl, _⟩ := h
    rfl
  · obtain ⟨p, n, zs, ss, hs, ds, rfl, bx, s4, q⟩ := h
    obtain ⟨dx, m, nn, s0, h0, r, g, o, rs, qs, hp, hm, hn, oc, od, hs', hh, hr', hR, hg, hQ⟩ := id bx.at_
    refine ⟨_, (pss_cons (ps_expr (pe_callS (E := fun _ => E) G_check_range (hr.mono (by decide)) (by rfl) g_check_range k_check_range b_check_range (fun σ => passAt (takes_of rfl rfl rfl rfl) σ) (pa_cons (pv 1) (pa_cons pe_int (pa_cons pe_int pa_nil)))))
  (PSs.nox (pss_cons (ps_if (pt_cmpR op_eq (pv 1) pe_int (nomark _)) (pss_one (ps_ret pe_int)) pss_nil)
  (pss_cons (ps_set (i := 2) sc_Book_count_walks.nd rfl (.inr rfl) (pe_dc (own := [("name", 4)]) (by rfl) sc_Book_count_walks.nd (pi_tup (pe_fld (pv 0) rfl)) (blkOk_by (N := ["self", "rounds", "many", "_", "name", "page"]) (sc := defScope s_Book_count_walks) (by decide +kernel)) (fun _ _ _ _ _ => (pg_name (i := 4) sc_Book_count_walks.nd rfl (.inl rfl))) (fun _ _ _ _ _ => pts_nil) (fun _ _ _ _ _ => (pv 4)) (fun _ _ _ _ _ => pe_int)))
  (pss_cons (ps_for PassesOwn.never rfl (pi_range1 (by rfl) m_range (pa_cons (pe_op op_sub (pv 1) pe_int) pa_nil)) (pg_name (i := 3) sc_Book_count_walks.nd rfl (.inl rfl))
    (pss_one (ps_set (i := 2) sc_Book_count_walks.nd rfl (.inr rfl) (pe_dc (own := [("page", 5)]) (by rfl) sc_Book_count_walks.nd (pi_tup (pe_fld (pv 0) rfl)) (blkOk_by (N := ["self", "rounds", "many", "_", "name", "page"]) (sc := defScope s_Book_count_walks) (by decide +kernel)) (fun _ _ _ _ _ => (pg_name (i := 5) sc_Book_count_walks.nd rfl (.inl rfl))) (fun _ _ _ _ _ => pts_nil) (fun _ _ _ _ _ => (pe_fldK (K := K) rfl (pv 5) rfl)) (fun _ _ _ _ _ => (pe_callB (cr_sumK (K := K) rfl rfl) (by rfl) m_sum (by decide +kernel) (pa_cons (pe_lc (own := [("name", 4)]) (by rfl) sc_Book_count_walks.nd (pi_tupK (K := K) rfl (pe_fldK (K := K) rfl (pv 5) rfl)) (blkOk_by (N := ["self", "rounds", "many", "_", "name", "page"]) (sc := scCW) (by decide +kernel)) (fun _ _ _ _ _ => (pg_name (i := 4) sc_Book_count_walks.nd rfl (.inl rfl))) (fun _ _ _ _ _ => pts_nil) (fun _ _ _ _ _ => (pe_dget (hu_of hr) (pv 2) (pv 4) (fun _ _ => rfl)))) pa_nil)))))))
  (pss_one (ps_ret (pe_callB (cr_sum rfl) (by rfl) m_sum (by decide +kernel) (pa_cons (pe_lc (own := [("name", 4)]) (by rfl) sc_Book_count_walks.nd (pi_tup (pe_fld (pv 0) rfl)) (blkOk_by (N := ["self", "rounds", "many", "_", "name", "page"]) (sc := defScope s_Book_count_walks) (by decide +kernel)) (fun _ _ _ _ _ => (pg_name (i := 4) sc_Book_count_walks.nd rfl (.inl rfl))) (fun _ _ _ _ _ => pts_nil) (fun _ _ _ _ _ => (pe_dget (hu_of hr) (pv 2) (pv 4) (fun _ _ => rfl)))) pa_nil))))))))), ?_⟩
    refine ⟨_, rfl, n, 0, 200, rfl, ?_⟩
    rcases q with ⟨k, rfl, k200, q⟩ | ⟨bad, q⟩
    · refine .inl ⟨by omega, by omega, ?_⟩
      refine ⟨_, rfl, rfl, _, rfl, ite2 (fun e => ?_) (fun e => ?_)⟩
      · have e1 : (k : Int) = 0 := V.int.inj (of_decide_eq_true e)
        obtain rfl : k = 0 := by omega
        exact q H (Same.refl H)
      obtain ⟨k, rfl⟩ : ∃ j, k = j + 1 := ⟨k - 1, by have : ¬ ((k : Int) = 0) := fun z => e (decide_eq_true (congrArg V.int z)); omega⟩
      have nl : ((ds.map (·.nm)).map vN).length = ds.length := by rw [List.length_map, List.length_map]
      have gl : (qs.map V.ref).length = ds.length := by rw [List.length_map, hQ.1]
      have l4 := bx.ok.l4
      refine ⟨_, rfl, p, C, dx, _, _, rfl, hp, T.cl, T.n2, fldsB_names _ _ _ _ _ _, nn, rfl, ⟨_, .inl (.inr ⟨o, hn⟩)⟩, fun D nD => dc_it walk_tup (fun i H' => H' = upd H D (.dK (((ds.map (·.nm)).take i).map (kvI (cntB ds 0))))) rfl (fun i H' _ e => by rw [e]; exact (.inl (.inr ⟨o, same_upd nD _ _ hn⟩) : SqT K _ nn _)) ?_ ?_⟩
      · rintro i x H3 H' hi rfl ⟨rfl, hx⟩
        obtain ⟨z, ez, rfl⟩ := vN_at hx
        refine ⟨rfl, yesT ⟨_, rfl, _, keyN z, rfl, upd_same, by rw [List.length_map, List.length_take]; exact small1000 (by omega), ?_⟩⟩
        rw [upd_twice]
        exact congrArg (fun l => upd H D (.dK l)) (put_kvI (f := cntB ds 0) bx.ok.nd ez)
      rintro H1 rfl
      rw [nl, show ((ds.map (·.nm)).take ds.length) = ds.map (·.nm) from take_all (List.length_map ..)]
      have s1 := same_upd (o := .dK ((ds.map (·.nm)).map (kvI (cntB ds 0)))) nD
      have e1 := upd_same (H := H) (a := D) (o := .dK ((ds.map (·.nm)).map (kvI (cntB ds 0))))
      generalize upd H D (.dK ((ds.map (·.nm)).map (kvI (cntB ds 0)))) = H1 at s1 e1 ⊢
      refine ⟨_, rfl, _, _, rfl, rfl, _, rfl, by omega, by omega, for_range (fun i σ H' => ∃ (D : Addr) (y3 : Option V), σ = [some (.ref p), some (.int ((k + 1 : Nat) : Int)), some (.ref D), y3, none, none] ∧ Same H H' ∧ H' D = some (.dK ((ds.map (·.nm)).map (kvI (cntB ds i))))) ⟨D, _, rfl, s1, e1⟩ ?_ ?_⟩
      · rintro i σ H2 hi ⟨D, y3, rfl, s2, e2⟩
        refine ⟨_, rfl, p, C, dx, _, _, rfl, s2 _ _ hp, T.cl, T.n6, fldsB_pages _ _ _ _ _ _, g, rfl, ⟨_, tupAt (s2 _ _ hg)⟩, fun D2 nD2 => dc_it walk_tup (fun j H' => Same H2 H' ∧ H' D2 = some (.dK (((ds.map (·.nm)).take j).map (kvI (cntB ds (i + 1)))))) ⟨same_upd nD2, upd_same⟩ (fun j H' _ hq => tupAt (hq.1 _ _ (s2 _ _ hg))) ?_ ?_⟩
        · rintro j x H0' H3 hj ⟨s3, e3⟩ ⟨rfl, hx⟩
          have s23 := s2.trans s3
          obtain ⟨gp, d, rfl, ed, pg, _⟩ := all_at (hQ.mono (S := PgR CP zs hs p) (H' := H3) fun _ _ k => ⟨k.1.same s23, k.2⟩) hx
          obtain ⟨dx', bt, wt, ft, fs, es, p0, p1, p2, p3, p4, p5, p6, p7, p8, p9⟩ := pg
          have md := List.mem_of_getElem? ed
          have en : (ds.map (·.nm))[j]? = some d.nm := by rw [List.getElem?_map, ed]; rfl
          refine ⟨rfl, yesT ⟨_, rfl, gp, CP, dx', _, _, rfl, p0, TP.cl, TP.n1, p1, ?_⟩⟩
          refine ⟨_, rfl, gp, CP, dx', _, _, rfl, p0, TP.cl, TP.n4, p4, ft, rfl, ⟨_, tupAt p9⟩, fun U nU => ?_⟩
          refine lc_tup (K := K) (a := ft) (xs := d.fol.map vN) (fun l H'' => Same H3 H'' ∧ H'' U = some (.lst (((d.fol.take l).map (cntB ds i)).map V.int))) ⟨same_upd nU, upd_same⟩ (fun l H'' _ hq => tupAt (hq.1 _ _ p9)) (fun l v H'' hv hq => ?_) (fun H4 hq => ?_)
          · obtain ⟨s4, e4⟩ := hq
            obtain ⟨z, ez, rfl⟩ := vN_at hv
            have mz := bx.ok.fs d md z (List.mem_of_getElem? ez)
            have l64 := bx.ok.fl d md
            have gV : DGet H'' D (vN z) (some (.int (cntB ds i z))) := valI (f := cntB ds i) mz ▸ DGet.k (k := keyN z) (s4 _ _ (s3 _ _ e2))
            refine ⟨rfl, yesT ⟨_, rfl, _, rfl, D, _, rfl, gV, _, e4, by rw [List.length_map, List.length_map, List.length_take]; exact small1000 (by omega), same_at s4 nU, ?_⟩⟩
            rw [upd_same, List.take_add_one, ez, List.map_append, List.map_append]
            rfl
          · obtain ⟨s4, e4⟩ := hq
            rw [List.length_map, List.take_length] at e4
            have e34 := s4 _ _ e3
            refine ⟨U, _, rfl, lstAt e4, _, keyN d.nm, rfl, e34, by rw [List.length_map, List.length_take]; exact small1000 (by omega), same_at (s3.trans s4) nD2, ?_⟩
            have e5 : ((d.fol.map (cntB ds i))).sum = cntB ds (i + 1) d.nm := by
              show _ = ((folOf ds d.nm).map (cntB ds i)).sum
              rw [folOf_at bx.ok.nd md]
            rw [upd_same, e5]
            exact congrArg (fun l => some (HO.dK l)) (put_kvI (f := cntB ds (i + 1)) bx.ok.nd en)
        · rintro H3 ⟨s3, e3⟩
          rw [gl, show ((ds.map (·.nm)).take ds.length) = ds.map (·.nm) from take_all (List.length_map ..)] at e3
          exact ⟨D2, _, rfl, s2.trans s3, e3⟩
      · rintro σ H2 ⟨D, y3, rfl, s2, e2⟩
        rw [show (((k + 1 : Nat) : Int) - 1).toNat = k by omega] at e2
        refine ⟨_, rfl, p, C, dx, _, _, rfl, s2 _ _ hp, T.cl, T.n3, fldsB_starts _ _ _ _ _ _, s0, rfl, ⟨_, tupAt (s2 _ _ hs')⟩, fun U nU => ?_⟩
        refine lc_tup (K := K) (a := s0) (xs := ss.map vN) (fun l H'' => Same H2 H'' ∧ H'' U = some (.lst (((ss.take l).map (cntB ds k)).map V.int))) ⟨same_upd nU, upd_same⟩ (fun l H'' _ hq => tupAt (hq.1 _ _ (s2 _ _ hs'))) (fun l v H'' hv hq => ?_) (fun H4 hq => ?_)
        · obtain ⟨s4', e4⟩ := hq
          obtain ⟨z, ez, rfl⟩ := vN_at hv
          have mz := bx.s z (List.mem_of_getElem? ez)
          have gV : DGet H'' D (vN z) (some (.int (cntB ds k z))) := valI (f := cntB ds k) mz ▸ DGet.k (k := keyN z) (s4' _ _ e2)
          refine ⟨rfl, yesT ⟨_, rfl, _, rfl, D, _, rfl, gV, _, e4, by rw [List.length_map, List.length_map, List.length_take]; exact small1000 (by omega), same_at s4' nU, ?_⟩⟩
          rw [upd_same, List.take_add_one, ez, List.map_append, List.map_append]
          rfl
        · obtain ⟨s4', e4⟩ := hq
          rw [List.length_map, List.take_length] at e4
          exact ⟨U, _, rfl, lstAt e4, q _ (s2.trans s4')⟩
    · exact .inr ⟨bad, fun H' d nd s e => q H' d nd s e⟩
end
end TK

/-! the law's own count, by the last pages -/
namespace TK
open PySem PySem.Spec PyProof.Rows L2
/-! sums -/
theorem sumI_app (a b : List Int) : (a ++ b).sum = a.sum + b.sum := by
  induction a with
  | nil => simp
  | cons x a ih => rw [List.cons_append, List.sum_cons, List.sum_cons, ih, Int.add_assoc]
theorem sumI_add {α : Type} (l : List α) (f g : α → Int) : (l.map fun x => f x + g x).sum = (l.map f).sum + (l.map g).sum := by
  induction l with
  | nil => simp
  | cons a l ih => rw [List.map_cons, List.map_cons, List.map_cons, List.sum_cons, List.sum_cons, List.sum_cons, ih]; omega
theorem sumI_zero {α : Type} (l : List α) (f : α → Int) (h : ∀ x ∈ l, f x = 0) : (l.map f).sum = 0 := by
  induction l with
  | nil => rfl
  | cons a l ih => rw [List.map_cons, List.sum_cons, h a List.mem_cons_self, ih fun x m => h x (List.mem_cons_of_mem _ m), Int.zero_add]
theorem sumI_mul {α : Type} (l : List α) (f : α → Int) (c : Int) : (l.map fun x => c * f x).sum = c * (l.map f).sum := by
  induction l with
  | nil => simp
  | cons a l ih => rw [List.map_cons, List.map_cons, List.sum_cons, List.sum_cons, ih, Int.mul_add]
theorem sumI_congr {α : Type} {l : List α} {f g : α → Int} (h : ∀ x ∈ l, f x = g x) : (l.map f).sum = (l.map g).sum := congrArg List.sum (List.map_congr_left h)
theorem sumI_one {ns : List Nam} {x : Nam} {c : Int} {g : Nam → Int} (nd : ns.Nodup) (h : x ∈ ns) : (ns.map fun m => (if x = m then c else 0) * g m).sum = c * g x := by
  induction ns with
  | nil => cases h
  | cons a ns ih =>
    rw [List.map_cons, List.sum_cons]
    rw [List.nodup_cons] at nd
    by_cases e : x = a
    · subst e
      rw [if_pos rfl, sumI_zero (h := fun m hm => by rw [if_neg fun z => by rw [← z] at hm; exact nd.1 hm, Int.zero_mul]), Int.add_zero]
    · rw [if_neg e, Int.zero_mul, Int.zero_add]
      exact ih nd.2 ((List.mem_cons.mp h).resolve_left e)
/-- a sum of many against a weight -/
theorem sumI_lin {α : Type} (ns : List Nam) (g : Nam → Int) (l : List α) (v : α → Nam → Int) : (ns.map fun m => (l.map fun e => v e m).sum * g m).sum = (l.map fun e => (ns.map fun m => v e m * g m).sum).sum := by
  induction l with
  | nil =>
    refine sumI_zero _ _ fun m _ => ?_
    show (0 : Int) * g m = 0
    exact Int.zero_mul _
  | cons a l ih =>
    rw [List.map_cons, List.sum_cons, ← ih, ← sumI_add]
    refine sumI_congr fun m _ => ?_
    rw [List.map_cons, List.sum_cons, Int.add_mul]
/-! the ends -/
def addF (fs : List Nam) (c : Int) (m : Nam) : Int := (fs.map fun x => if x = m then c else 0).sum
def stepF (e : Nam → Int) (ds : List PgD) (m : Nam) : Int := (ds.map fun d => addF d.fol (e d.nm) m).sum
def endW (ds : List PgD) (ss : List Nam) : Nat → Nam → Int
  | 0 => fun n => if n ∈ ss then 1 else 0
  | k + 1 => stepF (endW ds ss k) ds
theorem end_zero {ss : List Nam} (nd : ss.Nodup) (n : Nam) : (if n ∈ ss then (1 : Int) else 0) = (ss.map fun s => if s = n then (1 : Int) else 0).sum := by
  induction ss with
  | nil => rfl
  | cons a ss ih =>
    rw [List.nodup_cons] at nd
    rw [List.map_cons, List.sum_cons]
    by_cases e : a = n
    · subst e
      rw [if_pos rfl, if_pos List.mem_cons_self, sumI_zero (h := fun m hm => if_neg fun z => by rw [z] at hm; exact nd.1 hm)]
      rfl
    · rw [if_neg e, Int.zero_add, ← ih nd.2]
      by_cases h : n ∈ ss
      · rw [if_pos h, if_pos (List.mem_cons_of_mem _ h)]
      · rw [if_neg h, if_neg fun z => (List.mem_cons.mp z).elim (fun y => e y.symm) h]
/-- both ways of counting -/
theorem end_pair {ds : List PgD} {ss : List Nam} (nd : (ds.map (·.nm)).Nodup) (sd : ss.Nodup) (sub : ∀ s ∈ ss, s ∈ ds.map (·.nm)) (fs : ∀ d ∈ ds, ∀ x ∈ d.fol, x ∈ ds.map (·.nm)) : ∀ k j, ((ds.map (·.nm)).map fun n => endW ds ss k n * cntB ds j n).sum = (ss.map (cntB ds (k + j))).sum := by
  intro k
  induction k with
  | zero =>
    intro j
    rw [Nat.zero_add]
    rw [sumI_congr (g := fun n => (ss.map fun s => if s = n then (1 : Int) else 0).sum * cntB ds j n) fun n _ => by rw [← end_zero sd n]; rfl]
    rw [sumI_lin (ds.map (·.nm)) (cntB ds j) ss fun s n => if s = n then (1 : Int) else 0]
    refine sumI_congr fun s hs => ?_
    rw [sumI_one nd (sub s hs), Int.one_mul]
  | succ k ih =>
    intro j
    rw [show k + 1 + j = k + (j + 1) by omega, ← ih (j + 1)]
    show ((ds.map (·.nm)).map fun m => (ds.map fun d => addF d.fol (endW ds ss k d.nm) m).sum * cntB ds j m).sum = _
    rw [sumI_lin (ds.map (·.nm)) (cntB ds j) ds fun d m => addF d.fol (endW ds ss k d.nm) m, List.map_map]
    refine sumI_congr fun d hd => ?_
    show ((ds.map (·.nm)).map fun m => (d.fol.map fun x => if x = m then endW ds ss k d.nm else 0).sum * cntB ds j m).sum = endW ds ss k d.nm * ((folOf ds d.nm).map (cntB ds j)).sum
    rw [sumI_lin (ds.map (·.nm)) (cntB ds j) d.fol fun x m => if x = m then endW ds ss k d.nm else 0, folOf_at nd hd, ← sumI_mul]
    exact sumI_congr fun x hx => sumI_one nd (fs d hd x hx)
theorem end_count {ds : List PgD} {ss : List Nam} (nd : (ds.map (·.nm)).Nodup) (sd : ss.Nodup) (sub : ∀ s ∈ ss, s ∈ ds.map (·.nm)) (fs : ∀ d ∈ ds, ∀ x ∈ d.fol, x ∈ ds.map (·.nm)) (k : Nat) : ((ds.map (·.nm)).map (endW ds ss k)).sum = cntA ds ss (k + 1) := by
  rw [show cntA ds ss (k + 1) = (ss.map (cntB ds (k + 0))).sum from rfl, ← end_pair nd sd sub fs k 0]
  exact sumI_congr fun n _ => (Int.mul_one _).symm
theorem set_map {ns : List Nam} {g : Nam → Int} {x : Nam} {c : Int} {j : Nat} (nd : ns.Nodup) (h : ns[j]? = some x) : (ns.map g).set j (g x + c) = ns.map fun m => g m + if x = m then c else 0 := by
  refine List.ext_getElem? fun i => ?_
  have hj := (List.getElem?_eq_some_iff.mp h).1
  by_cases e : j = i
  · subst e
    rw [List.getElem?_set_self (by rw [List.length_map]; exact hj), List.getElem?_map, h]
    show some (g x + c) = some (g x + if x = x then c else 0)
    rw [if_pos rfl]
  · rw [List.getElem?_set_ne e, List.getElem?_map, List.getElem?_map]
    cases e2 : ns[i]? with
    | none => rfl
    | some y =>
      show some (g y) = some (g y + if x = y then c else 0)
      rw [if_neg fun z => ?_, Int.add_zero]
      subst z
      exact e ((List.getElem?_inj hj nd).mp (h.trans e2.symm))
theorem addF_snoc {fs : List Nam} {c : Int} {j : Nat} {x m : Nam} (h : fs[j]? = some x) : addF (fs.take (j + 1)) c m = addF (fs.take j) c m + if x = m then c else 0 := by
  unfold addF
  rw [List.take_add_one, h, List.map_append, sumI_app]
  congr 1
  show (if x = m then c else 0) + 0 = _
  rw [Int.add_zero]
theorem stepF_snoc {e : Nam → Int} {ds : List PgD} {i : Nat} {d : PgD} {m : Nam} (h : ds[i]? = some d) : stepF e (ds.take (i + 1)) m = stepF e (ds.take i) m + addF d.fol (e d.nm) m := by
  unfold stepF
  rw [List.take_add_one, h, List.map_append, sumI_app]
  congr 1
  show addF d.fol (e d.nm) m + 0 = _
  rw [Int.add_zero]
theorem ixN_nat {n j : Nat} (h : j < n) : ixN n (j : Int) = some j := by
  unfold ixN
  rw [if_pos (by omega), if_pos (by omega), Int.toNat_natCast]
section
variable {P : Program} {w : World} {K : PySem.W.Frag} {mg : Str → Option Value} {base : Heap}
def cntsF (ds : List PgD) (ss : List Nam) (n : Nat) : List Int := (List.range (n + 1)).map (cntA ds ss)
theorem cntsF_snoc (ds : List PgD) (ss : List Nam) (n : Nat) : cntsF ds ss (n + 1) = cntsF ds ss n ++ [cntA ds ss (n + 1)] := by
  unfold cntsF
  rw [List.range_succ, List.map_append]; rfl
theorem cntsF_len (ds : List PgD) (ss : List Nam) (n : Nat) : (cntsF ds ss n).length = n + 1 := by
  unfold cntsF
  rw [List.length_map, List.length_range]
def spCounts (K : PySem.W.Frag) : Sp := fun vs H Q _ => ∃ (rD : Addr → Prop) (r f : Addr) (rs : List Addr) (ds : List PgD) (ss : List Nam) (n : Nat), vs = [.ref r, .ref f, .int (n : Nat)] ∧ H r = some (.lst (rs.map V.ref)) ∧ AllAt (RwT rD) H rs ds ∧ H f = some (.lst (ss.map vN)) ∧ n ≤ 200 ∧ ds.length ≤ 4 ∧ (ds.map (·.nm)).Nodup ∧ ss.Nodup ∧ (∀ s ∈ ss, s ∈ ds.map (·.nm)) ∧ (∀ d ∈ ds, ∀ x ∈ d.fol, x ∈ ds.map (·.nm)) ∧
  ∀ (H' : Hp) (D : Addr), H D = none → Same H H' → H' D = some (.lst ((cntsF ds ss n).map V.int)) → Q (.ref D) H'
theorem ok_L_counts {f : Addr} {fd : FuncData} (F : Fun K "_law_counts" "_law_counts" s_L_counts f fd) (m_int : mg "int" = none) (m_range : mg "range" = none) (m_len : mg "len" = none) (m_sum : mg "sum" = none) : FnOk P w K mg base CX0 1 f fd ["_law_rows", "_law_firsts", "_law_turns"] (spCounts K) := by
  refine F.ok sc_L_counts (fun vs H Q E h => ?_) (fun cdv A outer s H vs Q E hr h => ?_)
  · obtain ⟨rD, r, f, rs, ds, ss, n, rfl, _⟩ := h
    rfl
  · obtain ⟨rD, r, f, rs, ds, ss, n, rfl, hR0, hR, hF, n200, d4, nd, sd, sub, fs, q⟩ := h
    refine ⟨_, (pss_cons (ps_setLc (i := 3) (own := [("_law_row", 10)]) (by rfl) sc_L_counts.nd rfl rfl (sw_true rfl rfl rfl (by decide +kernel)) (pi_list (pv 0)) (blkOk_by (N := ["_law_rows", "_law_firsts", "_law_turns", "_law_titles", "_law_ends", "_law_counts_here", "_law_k", "_law_later", "_law_spot", "_law_name", "_law_row", "_law_title"]) (sc := defScope s_L_counts) (by decide +kernel)) (fun _ _ _ _ _ => (pg_name (i := 10) sc_L_counts.nd rfl (.inl rfl))) (fun _ _ _ _ _ => pts_nil) (fun _ _ _ _ _ => (pe_ix (ix_tupK (K := K) rfl) (pv 10) pe_int (fun _ _ => rfl))))
  (pss_cons (ps_setLc (i := 4) (own := [("_law_title", 11)]) (by rfl) sc_L_counts.nd rfl rfl (sw_true rfl rfl rfl (by decide +kernel)) (pi_list (pv 3)) (blkOk_by (N := ["_law_rows", "_law_firsts", "_law_turns", "_law_titles", "_law_ends", "_law_counts_here", "_law_k", "_law_later", "_law_spot", "_law_name", "_law_row", "_law_title"]) (sc := defScope s_L_counts) (by decide +kernel)) (fun _ _ _ _ _ => (pg_name (i := 11) sc_L_counts.nd rfl (.inl rfl))) (fun _ _ _ _ _ => pts_nil) (fun _ _ _ _ _ => (pe_callTy call_int1 (by rfl) m_int (by decide +kernel) (pa_cons (pe_cmpR (op_in_seqK (K := K) rfl) (pv 11) (pv 1) (by rfl)) pa_nil))))
  (pss_cons (ps_set (i := 5) sc_L_counts.nd rfl (.inl rfl) (pe_lst (pa_cons pe_int pa_nil)))
  (pss_cons (ps_for PassesOwn.never rfl (pi_range1 (by rfl) m_range (pa_cons (pv 2) pa_nil)) (pg_name (i := 6) sc_L_counts.nd rfl (.inl rfl))
    (pss_cons (ps_expr (pe_bm PySem.F.plainAttrs_list PySem.F.slot_list_append PySem.F.type_list_append mt_append (pv 5) (pa_cons (pe_callB (cr_sum rfl) (by rfl) m_sum (by decide +kernel) (pa_cons (pv 4) pa_nil)) pa_nil)))
  (pss_cons (ps_setLc (i := 7) (own := [("_law_title", 11)]) (by rfl) sc_L_counts.nd rfl rfl (sw_true rfl rfl rfl (by decide +kernel)) (pi_list (pv 3)) (blkOk_by (N := ["_law_rows", "_law_firsts", "_law_turns", "_law_titles", "_law_ends", "_law_counts_here", "_law_k", "_law_later", "_law_spot", "_law_name", "_law_row", "_law_title"]) (sc := defScope s_L_counts) (by decide +kernel)) (fun _ _ _ _ _ => (pg_name (i := 11) sc_L_counts.nd rfl (.inl rfl))) (fun _ _ _ _ _ => pts_nil) (fun _ _ _ _ _ => pe_int))
  (pss_cons (ps_for PassesOwn.never rfl (pi_range1 (by rfl) m_range (pa_cons (pe_callB call_len_seq (by rfl) m_len (by decide +kernel) (pa_cons (pv 0) pa_nil)) pa_nil)) (pg_name (i := 8) sc_L_counts.nd rfl (.inl rfl))
    (pss_one (ps_for PassesOwn.never rfl (pi_list (pe_ix ix_tup (pe_ix ix_list (pv 0) (pv 8) (fun _ _ => rfl)) pe_int (fun _ _ => rfl))) (pg_name (i := 9) sc_L_counts.nd rfl (.inl rfl))
    (pss_one (ps_asg (pe_op op_add (pe_ix ix_list (pv 7) (pe_bm PySem.F.plainAttrs_list PySem.F.slot_list_index PySem.F.type_list_index mt_index (pv 3) (pa_cons (pv 9) pa_nil)) (fun _ _ => rfl)) (pe_ix ix_list (pv 4) (pv 8) (fun _ _ => rfl))) (pg_sub (pv 7) (pe_bm PySem.F.plainAttrs_list PySem.F.slot_list_index PySem.F.type_list_index mt_index (pv 3) (pa_cons (pv 9) pa_nil)) set_list))))))
  (pss_one (ps_set (i := 4) sc_L_counts.nd rfl (.inl rfl) (pv 7)))))))
  (pss_one (ps_ret (pv 5))))))), ?_⟩
    have rl : (rs.map V.ref).length = ds.length := by rw [List.length_map, hR.1]
    have nl : (ds.map (·.nm)).length = ds.length := List.length_map ..
    generalize hns : ds.map (·.nm) = ns at nd sub fs nl
    refine ⟨_, rfl, r, rfl, ⟨_, lstAt hR0⟩, fun T0 nT => ?_⟩
    refine lc_list (K := K) (a := r) (xs := rs.map V.ref) (fun i H' => H' = upd H T0 (.lst ((ns.take i).map vN))) rfl (fun i H' _ e => e ▸ lstAt ((same_upd nT) _ _ hR0)) (fun i v H' hv hq => ?_) (fun H1 hq => ?_)
    · subst hq
      obtain ⟨e, d, rfl, ed, b0, f0, es, h1, _⟩ := all_at (hR.mono (S := RwT rD) (H' := upd H T0 (.lst ((ns.take i).map vN))) fun _ _ k => k.same (same_upd nT)) hv
      have hi := (List.getElem?_eq_some_iff.mp ed).1
      have en : ns[i]? = some d.nm := by rw [← hns, List.getElem?_map, ed]; rfl
      refine ⟨rfl, yesT ⟨_, rfl, _, _, 0, _, rfl, rfl, tupAt h1, rfl, _, upd_same, by rw [List.length_map, List.length_take]; exact small1000 (by omega), ?_⟩⟩
      rw [upd_twice, List.take_add_one, en, List.map_append]; rfl
    subst hq
    rw [rl, ← nl, List.take_length]
    have s1 := same_upd (o := .lst (ns.map vN)) nT
    have eT := upd_same (H := H) (a := T0) (o := .lst (ns.map vN))
    generalize upd H T0 (.lst (ns.map vN)) = H1 at s1 eT ⊢
    refine ⟨_, rfl, T0, rfl, ⟨_, lstAt eT⟩, fun E0 nE => ?_⟩
    refine lc_list (K := K) (a := T0) (xs := ns.map vN) (fun i H' => H' = upd H1 E0 (.lst (((ns.take i).map (endW ds ss 0)).map V.int))) rfl (fun i H' _ e => e ▸ lstAt ((same_upd nE) _ _ eT)) (fun i v H' hv hq => ?_) (fun H2 hq => ?_)
    · subst hq
      obtain ⟨z, ez, rfl⟩ := vN_at hv
      have hi := (List.getElem?_eq_some_iff.mp ez).1
      refine ⟨rfl, yesT ⟨_, rfl, _, rfl, f, _, rfl, .inl (lstAt ((same_upd nE) _ _ (s1 _ _ hF))), rfl, nms_flat _, .inr ⟨_, rfl, _, upd_same, by rw [List.length_map, List.length_map, List.length_take]; exact small1000 (by omega), ?_⟩⟩⟩
      rw [in_nm, upd_twice, List.take_add_one, ez, List.map_append, List.map_append]
      have e1 : (if decide (z ∈ ss) = true then (1 : Int) else 0) = endW ds ss 0 z := by
        show _ = if z ∈ ss then (1 : Int) else 0
        by_cases h : z ∈ ss
        · rw [if_pos h, if_pos (decide_eq_true h)]
        · rw [if_neg h, if_neg (by rw [decide_eq_false h]; decide)]
      rw [e1]; rfl
    subst hq
    rw [List.length_map, List.take_length]
    have s2 := s1.trans (same_upd (o := .lst ((ns.map (endW ds ss 0)).map V.int)) nE)
    have eE := upd_same (H := H1) (a := E0) (o := .lst ((ns.map (endW ds ss 0)).map V.int))
    have eT := (same_upd (o := .lst ((ns.map (endW ds ss 0)).map V.int)) nE) _ _ eT
    generalize upd H1 E0 (.lst ((ns.map (endW ds ss 0)).map V.int)) = H2 at s2 eE eT ⊢
    refine ⟨(show (1 : Nat) ≤ sizeLine by decide), fun C0 nC => ?_⟩
    have k3 := same_upd (o := .lst [V.int 1]) nC
    have s3 := s2.trans k3
    have eC := upd_same (H := H2) (a := C0) (o := .lst [V.int 1])
    have TC : T0 ≠ C0 := ne_of_none eT nC
    have EC : E0 ≠ C0 := ne_of_none eE nC
    have nCH : H C0 = none := s2.free nC
    have nTH : H T0 = none := nT
    have eT := k3 _ _ eT
    have eE := k3 _ _ eE
    generalize upd H2 C0 (.lst [V.int 1]) = H3 at k3 s3 eC eT eE ⊢
    refine ⟨_, rfl, _, rfl, by omega, by omega, for_range (fun i σ H' => ∃ (E : Addr) (y6 y7 y8 y9 : Option V), σ = [some (.ref r), some (.ref f), some (.int (n : Nat)), some (.ref T0), some (.ref E), some (.ref C0), y6, y7, y8, y9, none, none] ∧ Same H H' ∧ H' T0 = some (.lst (ns.map vN)) ∧ H' E = some (.lst ((ns.map (endW ds ss i)).map V.int)) ∧ E ≠ C0 ∧ H' C0 = some (.lst ((cntsF ds ss i).map V.int))) ⟨E0, _, _, _, _, rfl, s3, eT, eE, EC, eC⟩ ?_ ?_⟩
    · rintro i σ H4 hi ⟨E, y6, y7, y8, y9, rfl, s4, eT4, eE4, EC4, eC4⟩
      have hi' : i < n := by omega
      have cl := cntsF_len ds ss i
      refine ⟨_, rfl, .inl ⟨rfl, _, lstAt eC4⟩, _, rfl, _, _, rfl, lstAt eE4, _, _, _, rfl, rfl, eC4, by rw [List.length_map, cl]; exact small1000 (by omega), ?_⟩
      have ec1 : (ns.map (endW ds ss i)).sum = cntA ds ss (i + 1) := by
        rw [← hns]
        exact end_count (by rw [hns]; exact nd) sd (by rw [hns]; exact sub) (by rw [hns]; exact fs) i
      have eC5 : (upd H4 C0 (.lst ((cntsF ds ss i).map V.int ++ [.int (ns.map (endW ds ss i)).sum]))) C0 = some (.lst ((cntsF ds ss (i + 1)).map V.int)) := by
        rw [upd_same, ec1, cntsF_snoc, List.map_append]; rfl
      have s5 : Same H (upd H4 C0 (.lst ((cntsF ds ss i).map V.int ++ [.int (ns.map (endW ds ss i)).sum]))) := same_at s4 nCH
      have eT5 : (upd H4 C0 (.lst ((cntsF ds ss i).map V.int ++ [.int (ns.map (endW ds ss i)).sum]))) T0 = some (.lst (ns.map vN)) := by rw [upd_ne TC]; exact eT4
      have eE5 : (upd H4 C0 (.lst ((cntsF ds ss i).map V.int ++ [.int (ns.map (endW ds ss i)).sum]))) E = some (.lst ((ns.map (endW ds ss i)).map V.int)) := by rw [upd_ne EC4]; exact eE4
      generalize upd H4 C0 (.lst ((cntsF ds ss i).map V.int ++ [.int (ns.map (endW ds ss i)).sum])) = H5 at eC5 s5 eT5 eE5 ⊢
      refine ⟨_, rfl, T0, rfl, ⟨_, lstAt eT5⟩, fun L0 nL => ?_⟩
      refine lc_list (K := K) (a := T0) (xs := ns.map vN) (fun j H' => H' = upd H5 L0 (.lst (((ns.take j).map fun _ => (0 : Int)).map V.int))) rfl (fun j H' _ e => e ▸ lstAt ((same_upd nL) _ _ eT5)) (fun j v H' hv hq => ?_) (fun H6 hq => ?_)
      · subst hq
        obtain ⟨z, ez, rfl⟩ := vN_at hv
        have hj := (List.getElem?_eq_some_iff.mp ez).1
        refine ⟨rfl, yesT ⟨_, upd_same, by rw [List.length_map, List.length_map, List.length_take]; exact small1000 (by omega), ?_⟩⟩
        rw [upd_twice, List.take_add_one, ez, List.map_append, List.map_append]; rfl
      subst hq
      rw [List.length_map, List.take_length]
      have k6 := same_upd (o := .lst ((ns.map fun _ => (0 : Int)).map V.int)) nL
      have eL := upd_same (H := H5) (a := L0) (o := .lst ((ns.map fun _ => (0 : Int)).map V.int))
      have LC : L0 ≠ C0 := (ne_of_none eC5 nL).symm
      have LT : L0 ≠ T0 := (ne_of_none eT5 nL).symm
      have LE : L0 ≠ E := (ne_of_none eE5 nL).symm
      have nLH : H L0 = none := s5.free nL
      have s6 := s5.trans k6
      have eC6 := k6 _ _ eC5
      have eT6 := k6 _ _ eT5
      have eE6 := k6 _ _ eE5
      generalize upd H5 L0 (.lst ((ns.map fun _ => (0 : Int)).map V.int)) = H6 at k6 eL s6 eC6 eT6 eE6 ⊢
      refine ⟨_, rfl, r, _, rfl, .inl (lstAt (s6 _ _ hR0)), _, rfl, by omega, by rw [rl]; omega, for_range (fun j σ H' => ∃ (y8 y9 : Option V), σ = [some (.ref r), some (.ref f), some (.int (n : Nat)), some (.ref T0), some (.ref E), some (.ref C0), some (.int (0 + (i : Int))), some (.ref L0), y8, y9, none, none] ∧ Same H H' ∧ H' T0 = some (.lst (ns.map vN)) ∧ H' E = some (.lst ((ns.map (endW ds ss i)).map V.int)) ∧ H' C0 = some (.lst ((cntsF ds ss (i + 1)).map V.int)) ∧ H' L0 = some (.lst ((ns.map (stepF (endW ds ss i) (ds.take j))).map V.int))) ⟨_, _, rfl, s6, eT6, eE6, eC6, eL⟩ ?_ ?_⟩
      · rintro j σ H7 hj ⟨y8, y9, rfl, s7, eT7, eE7, eC7, eL7⟩
        have hj' : j < ds.length := by rw [rl] at hj; omega
        obtain ⟨d, ed⟩ : ∃ d, ds[j]? = some d := ⟨_, List.getElem?_eq_getElem hj'⟩
        have hjr : j < rs.length := by rw [hR.1]; exact hj'
        have er : (rs.map V.ref)[j]? = some (.ref rs[j]) := by rw [List.getElem?_map, List.getElem?_eq_getElem hjr]; rfl
        obtain ⟨d', ed', b0, f0, es, h1, h2, h3, h4, _⟩ := hR.2 j _ (List.getElem?_eq_getElem hjr)
        cases Option.some.inj (ed.symm.trans ed')
        have md := List.mem_of_getElem? ed
        have en : ns[j]? = some d.nm := by rw [← hns, List.getElem?_map, ed]; rfl
        have z0 : (0 + (j : Int)) = ((j : Nat) : Int) := Int.zero_add _
        refine ⟨_, rfl, _, rfl, _, _, _, _, rfl, rfl, lstAt (s7 _ _ hR0), by rw [z0]; exact atI_nat er, _, _, 2, _, rfl, rfl, tupAt (s7 _ _ h1), rfl, f0, rfl, ⟨_, lstAt (s7 _ _ h4)⟩, for_list (K := K) (a := f0) (xs := d.fol.map vN) (fun l σ H' => ∃ y9 : Option V, σ = [some (.ref r), some (.ref f), some (.int (n : Nat)), some (.ref T0), some (.ref E), some (.ref C0), some (.int (0 + (i : Int))), some (.ref L0), some (.int (0 + (j : Int))), y9, none, none] ∧ Same H H' ∧ H' T0 = some (.lst (ns.map vN)) ∧ H' E = some (.lst ((ns.map (endW ds ss i)).map V.int)) ∧ H' C0 = some (.lst ((cntsF ds ss (i + 1)).map V.int)) ∧ H' L0 = some (.lst ((ns.map fun m => stepF (endW ds ss i) (ds.take j) m + addF (d.fol.take l) (endW ds ss i d.nm) m).map V.int))) ⟨_, rfl, s7, eT7, eE7, eC7, ?_⟩ (fun l σ H' _ hq => by obtain ⟨_, rfl, s, _⟩ := hq; exact lstAt (s _ _ h4)) ?_ ?_⟩
        · rw [eL7]
          refine congrArg (fun l => some (HO.lst (l.map V.int))) (List.map_congr_left fun m _ => ?_)
          show _ = _ + (([] : List Nam).map _).sum
          simp
        · rintro l v σ H8 hv ⟨y9, rfl, s8, eT8, eE8, eC8, eL8⟩
          obtain ⟨x, ex, rfl⟩ := vN_at hv
          have mx := fs d md x (List.mem_of_getElem? ex)
          obtain ⟨g, hg⟩ := List.getElem?_of_mem mx
          have hgl := (List.getElem?_eq_some_iff.mp hg).1
          have evx : (ns.map vN)[g]? = some (vN x) := by rw [List.getElem?_map, hg]; rfl
          have none_ : ∀ (m : Nat) (z' : V), m < g → (ns.map vN)[m]? = some z' → eqV z' (vN x) = false := fun m z' hm hz => by
            obtain ⟨y, ey, rfl⟩ := vN_at hz
            rw [eqv_nm]
            refine decide_eq_false fun z => ?_
            subst z
            have := (List.getElem?_inj hgl nd).mp (hg.trans ey.symm)
            omega
          have evv : eqV (vN x) (vN x) = true := by rw [eqv_nm]; exact decide_eq_true rfl
          have eg : atI ((ns.map fun m => stepF (endW ds ss i) (ds.take j) m + addF (d.fol.take l) (endW ds ss i d.nm) m).map V.int) ((g : Nat) : Int) = some (.int (stepF (endW ds ss i) (ds.take j) x + addF (d.fol.take l) (endW ds ss i d.nm) x)) := atI_nat (by rw [List.getElem?_map, List.getElem?_map, hg]; rfl)
          have eE9 : atI ((ns.map (endW ds ss i)).map V.int) (0 + (j : Int)) = some (.int (endW ds ss i d.nm)) := by rw [z0]; exact atI_nat (by rw [List.getElem?_map, List.getElem?_map, en]; rfl)
          refine ⟨_, rfl, _, rfl, .inl ⟨rfl, _, lstAt eT8⟩, _, rfl, T0, ns.map vN, vN x, g, vN x, rfl, rfl, lstAt eT8, rfl, nms_flat _, evx, evv, none_, _, _, _, _, rfl, rfl, lstAt eL8, eg, ?_⟩
          refine ⟨_, rfl, _, rfl, _, _, _, _, rfl, rfl, lstAt eE8, eE9, _, _, rfl, rfl, ?_⟩
          refine ⟨_, rfl, _, rfl, .inl ⟨rfl, _, lstAt eT8⟩, _, rfl, T0, ns.map vN, vN x, g, vN x, rfl, rfl, lstAt eT8, rfl, nms_flat _, evx, evv, none_, L0, _, _, g, rfl, rfl, eL8, ixN_nat (by rw [List.length_map, List.length_map]; exact hgl), ?_⟩
          refine ⟨_, rfl, same_at s8 nLH, by rw [upd_ne LT.symm]; exact eT8, by rw [upd_ne LE.symm]; exact eE8, by rw [upd_ne LC.symm]; exact eC8, ?_⟩
          rw [upd_same]
          refine congrArg (fun l => some (HO.lst l)) ?_
          show List.set _ g (V.int (_ + _)) = _
          rw [← List.map_set, set_map (g := fun m => stepF (endW ds ss i) (ds.take j) m + addF (d.fol.take l) (endW ds ss i d.nm) m) nd hg]
          refine congrArg (List.map V.int) (List.map_congr_left fun m _ => ?_)
          rw [addF_snoc ex, Int.add_assoc]
        · rintro σ H8 ⟨y9, rfl, s8, eT8, eE8, eC8, eL8⟩
          refine ⟨_, _, rfl, s8, eT8, eE8, eC8, ?_⟩
          rw [eL8, List.length_map, List.take_length]
          refine congrArg (fun l => some (HO.lst (l.map V.int))) (List.map_congr_left fun m _ => ?_)
          rw [stepF_snoc ed]
      · rintro σ H7 ⟨y8, y9, rfl, s7, eT7, eE7, eC7, eL7⟩
        rw [rl, show (((ds.length : Nat) : Int)).toNat = ds.length from Int.toNat_natCast _, List.take_length] at eL7
        exact ⟨_, rfl, L0, _, _, _, _, rfl, s7, eT7, eL7, LC, eC7⟩
    · rintro σ H4 ⟨E, y6, y7, y8, y9, rfl, s4, eT4, eE4, EC4, eC4⟩
      rw [show ((n : Int)).toNat = n from Int.toNat_natCast _] at eC4
      exact ⟨_, rfl, q H4 C0 nCH s4 eC4⟩
end
end TK

/-! the generator of walks -/
namespace TK
open PySem PySem.Spec PyProof.Rows L2 GenW
abbrev s_Book_walks : Stmt := inClass (topS 21) 6
theorem gs_Book_walks : GScope ["self", "rounds", "stack", "walk", "nexts", "name"] ["self", "rounds"] (defScope s_Book_walks) := ⟨rfl, rfl, rfl, by decide +kernel, rfl, by decide +kernel, by decide +kernel⟩
/-! the walks, one behind the other -/
def nxtP (ds : List PgD) (ss : List Nam) (w : List Nam) : List Nam := match w.getLast? with
  | none => ss
  | some n => folOf ds n
def wlk (ds : List PgD) (ss : List Nam) : Nat → List Nam → List (List Nam)
  | 0, w => [w]
  | k + 1, w => (nxtP ds ss w).flatMap fun m => wlk ds ss k (w ++ [m])
/-- what is still to come of a stack (the next one last) -/
def remW (ds : List PgD) (ss : List Nam) (k : Nat) (st : List (List Nam)) : List (List Nam) := st.reverse.flatMap fun w => wlk ds ss (k - w.length) w
def treeW : Nat → Nat
  | 0 => 1
  | k + 1 => 1 + 4 * treeW k
def meaW (k : Nat) (st : List (List Nam)) : Nat := (st.map fun w => treeW (k - w.length)).sum
theorem remW_snoc {ds : List PgD} {ss : List Nam} {k : Nat} {st : List (List Nam)} {w : List Nam} : remW ds ss k (st ++ [w]) = wlk ds ss (k - w.length) w ++ remW ds ss k st := by
  unfold remW
  rw [List.reverse_append, List.flatMap_append]
  show ([w].flatMap _) ++ _ = _
  rw [List.flatMap_cons, List.flatMap_nil, List.append_nil]
theorem remW_push {ds : List PgD} {ss : List Nam} {k : Nat} {st : List (List Nam)} {w : List Nam} (h : w.length < k) : remW ds ss k (st ++ (nxtP ds ss w).reverse.map fun m => w ++ [m]) = wlk ds ss (k - w.length) w ++ remW ds ss k st := by
  obtain ⟨j, hj⟩ : ∃ j, k - w.length = j + 1 := ⟨k - w.length - 1, by omega⟩
  have hj' : ∀ m : Nam, k - (w ++ [m]).length = j := fun m => by rw [List.length_append, List.length_singleton]; omega
  unfold remW
  rw [List.reverse_append, List.flatMap_append, ← List.map_reverse, List.reverse_reverse, hj, List.flatMap_map]
  congr 1
  show _ = (nxtP ds ss w).flatMap fun m => wlk ds ss j (w ++ [m])
  congr 1
  funext m
  rw [hj']
theorem meaW_snoc {k : Nat} {st : List (List Nam)} {w : List Nam} : meaW k (st ++ [w]) = meaW k st + treeW (k - w.length) := by
  unfold meaW
  rw [List.map_append, List.sum_append]
  simp
theorem meaW_push {k : Nat} {st : List (List Nam)} {w : List Nam} {ms : List Nam} (h : w.length < k) (l4 : ms.length ≤ 4) : meaW k (st ++ ms.map fun m => w ++ [m]) < meaW k (st ++ [w]) := by
  obtain ⟨j, hj⟩ : ∃ j, k - w.length = j + 1 := ⟨k - w.length - 1, by omega⟩
  have e : ∀ l : List Nam, ((l.map fun m => w ++ [m]).map fun w => treeW (k - w.length)).sum = l.length * treeW j := fun l => by
    induction l with
    | nil => simp
    | cons m l ih =>
      rw [List.map_cons, List.map_cons, List.sum_cons, ih, List.length_cons, List.length_append, List.length_singleton, show k - (w.length + 1) = j by omega, Nat.succ_mul]
      omega
  rw [meaW_snoc, hj]
  unfold meaW
  rw [List.map_append, List.sum_append, e]
  show _ < _ + (1 + 4 * treeW j)
  have : ms.length * treeW j ≤ 4 * treeW j := Nat.mul_le_mul_right _ l4
  omega
/-! what stands while the generator sleeps -/
def SB (ch : Addr → Prop) (H h' : Hp) : Prop := (∀ b o, H b = some o → ¬ ch b → h' b = some o) ∧ ∀ b, ch b → (∃ xs, H b = some (.lst xs)) → ∃ xs, h' b = some (.lst xs)
def SGr (H2 : Hp) (ch : Addr → Prop) (h₀ H : Hp) : Prop := ∀ b o, h₀ b = some o → (H2 b ≠ none ∨ ∀ xs : List Addr, xs ≠ [] → o ≠ .lst (xs.map V.ref)) → H b = some o
def outW (H2 : Hp) (ch : Addr → Prop) (all : List (List Nam)) : FOut := fun m x h₀ H => SGr H2 ch h₀ H ∧ 0 < m ∧ m ≤ all.length ∧ ∃ (a : Addr) (w : List Nam), x = .ref a ∧ H a = some (.lst (w.map vN)) ∧ all[all.length - m]? = some w ∧ H2 a = none
def QW (H2 : Hp) (ch : Addr → Prop) : Nat → Hp → Hp → Prop := fun n h₀ H => n = 1 ∧ SGr H2 ch h₀ H
theorem bk_nl {C CP : Addr} {H H' : Hp} {p : Addr} {zs ss hs : List Nam} {ds : List PgD} (b : BkX C CP H p zs ss hs ds) (t : NlKeep H H') : BkX C CP H' p zs ss hs ds := by
  obtain ⟨⟨dx, m, n, s, hh, r, g, o, rs, qs, h1, h2, h3, h4, h5, h6, h7, h8, h9, h10, h11⟩, q1, q2, q3, q4⟩ := b
  exact ⟨⟨dx, m, n, s, hh, r, g, o, rs, qs, t _ _ h1 nofun, t _ _ h2 nofun, t _ _ h3 nofun, h4, h5, t _ _ h6 nofun, t _ _ h7 nofun, t _ _ h8 nofun, h9.mono fun _ _ k => k.nl t, t _ _ h10 nofun, h11.mono fun _ _ k => ⟨k.1.nl t, k.2⟩⟩, q1, q2, q3, q4⟩
/-- the generator between two turns of its while -/
structure GSt (H2 : Hp) (ch : Addr → Prop) (C CP p : Addr) (zs ss hs : List Nam) (ds : List PgD) (k : Nat) (H : Hp) (S : Addr) (as : List Addr) (st : List (List Nam)) : Prop where
  bk : BkX C CP H p zs ss hs ds
  hS : H S = some (.lst (as.map V.ref))
  nS : H2 S = none
  len : as.length = st.length
  at_ : ∀ (i : Nat) (a : Addr), as[i]? = some a → a ≠ S ∧ H2 a = none ∧ ∃ w : List Nam, st[i]? = some w ∧ H a = some (.lst (w.map vN))
  deep : ∀ (i : Nat) (w : List Nam), st[i]? = some w → w.length ≤ k ∧ i ≤ 3 * w.length ∧ ∀ x ∈ w, x ∈ ds.map (·.nm)
  dom : ∀ b, H2 b ≠ none → H b ≠ none
  lsts : ∀ b, ch b → H2 b ≠ none ∧ ∃ xs, H b = some (.lst xs)
theorem GSt.sb {H2 : Hp} {ch : Addr → Prop} {C CP p : Addr} {zs ss hs : List Nam} {ds : List PgD} {k : Nat} {H H' : Hp} {S : Addr} {as : List Addr} {st : List (List Nam)} (g : GSt H2 ch C CP p zs ss hs ds k H S as st) (s : SB ch H H') : GSt H2 ch C CP p zs ss hs ds k H' S as st := by
  have off : ∀ {b}, H2 b = none → ¬ ch b := fun h z => (g.lsts _ z).1 h
  refine ⟨bk_nl g.bk fun c o e n => s.1 c o e fun z => ?_, s.1 _ _ g.hS (off g.nS), g.nS, g.len, fun i a h => ?_, g.deep, fun b h => ?_, fun b z => ⟨(g.lsts b z).1, s.2 b z (g.lsts b z).2⟩⟩
  · obtain ⟨_, xs, e'⟩ := g.lsts c z
    rw [e] at e'
    exact n xs (Option.some.inj e')
  · obtain ⟨h1, h2, w, h3, h4⟩ := g.at_ i a h
    exact ⟨h1, h2, w, h3, s.1 _ _ h4 (off h2)⟩
  · by_cases z : ch b
    · obtain ⟨xs, e⟩ := s.2 b z (g.lsts b z).2
      rw [e]; exact nofun
    · cases e : H b with
      | none => exact absurd e (g.dom b h)
      | some o => rw [s.1 _ _ e z]; exact nofun
theorem SGr.refl {H2 : Hp} {ch : Addr → Prop} {H : Hp} : SGr H2 ch H H := fun _ _ e _ => e
theorem SGr.same {H2 : Hp} {ch : Addr → Prop} {h₀ H H' : Hp} (g : SGr H2 ch h₀ H) (s : Same H H') : SGr H2 ch h₀ H' := fun b o e q => s _ _ (g b o e q)
/-- the stack is written -/
theorem SGr.go {H2 : Hp} {ch : Addr → Prop} {h₀ H H9 : Hp} {S : Addr} {as : List Addr} (g : SGr H2 ch h₀ H) (e : H S = some (.lst (as.map V.ref))) (n : H2 S = none) (ne : as ≠ []) (k : ∀ b u, H b = some u → b ≠ S → H9 b = some u) : SGr H2 ch h₀ H9 := fun b u h q => by
  have h1 := g b u h q
  refine k b u h1 fun z => ?_
  subst z
  rw [e] at h1
  rcases q with q | q
  · exact absurd n q
  · exact absurd (Option.some.inj h1).symm (q as ne)
theorem GSt.go {H2 : Hp} {ch : Addr → Prop} {C CP p : Addr} {zs ss hs : List Nam} {ds : List PgD} {k : Nat} {H H9 : Hp} {S : Addr} {as as2 : List Addr} {st st2 : List (List Nam)} (g : GSt H2 ch C CP p zs ss hs ds k H S as st) (kp : ∀ b u, H b = some u → b ≠ S → H9 b = some u)
    (eS : H9 S = some (.lst (as2.map V.ref))) (len : as2.length = st2.length) (at2 : ∀ (i : Nat) (a : Addr), as2[i]? = some a → a ≠ S ∧ H2 a = none ∧ ∃ w : List Nam, st2[i]? = some w ∧ H9 a = some (.lst (w.map vN))) (deep : ∀ (i : Nat) (w : List Nam), st2[i]? = some w → w.length ≤ k ∧ i ≤ 3 * w.length ∧ ∀ x ∈ w, x ∈ ds.map (·.nm)) : GSt H2 ch C CP p zs ss hs ds k H9 S as2 st2 := by
  refine ⟨bk_nl g.bk fun c o e n => kp c o e fun z => ?_, eS, g.nS, len, at2, deep, fun b h => ?_, fun b z => ⟨(g.lsts b z).1, ?_⟩⟩
  · rw [z, g.hS] at e
    exact n _ (Option.some.inj e).symm
  · by_cases z : b = S
    · rw [z, eS]; exact nofun
    · cases e : H b with
      | none => exact absurd e (g.dom b h)
      | some o => rw [kp _ _ e z]; exact nofun
  · obtain ⟨h1, xs, e⟩ := g.lsts b z
    exact ⟨xs, kp _ _ e fun y => by rw [y] at h1; exact h1 g.nS⟩
def WW (H2 : Hp) (ch : Addr → Prop) (C CP p : Addr) (zs ss hs : List Nam) (ds : List PgD) (k : Nat) : Nat → Nat → Hp → L2.St → Hp → Prop := fun m n h₀ σ H => ∃ (S : Addr) (as : List Addr) (st : List (List Nam)) (y3 y4 : Option V), σ = [some (.ref p), some (.int (k : Nat)), some (.ref S), y3, y4, none] ∧
  GSt H2 ch C CP p zs ss hs ds k H S as st ∧ SGr H2 ch h₀ H ∧ n = (remW ds ss k st).length + 1 ∧ m = meaW k st ∧ ∃ done, wlk ds ss k [] = done ++ remW ds ss k st
theorem nil_or_snoc {α : Type} (xs : List α) : xs = [] ∨ ∃ ys x, xs = ys ++ [x] := by
  rcases List.eq_nil_or_concat xs with h | ⟨ys, x, h⟩
  · exact .inl h
  · exact .inr ⟨ys, x, by rw [h, List.concat_eq_append]⟩
theorem last_idx {st : List (List Nam)} {w : List Nam} : (st ++ [w])[st.length]? = some w := by
  rw [List.getElem?_append_right (Nat.le_refl _), Nat.sub_self]; rfl
theorem pre_idx {α : Type} {xs : List α} {x y : α} {i : Nat} (h : xs[i]? = some y) : (xs ++ [x])[i]? = some y := by
  rw [List.getElem?_append_left (List.getElem?_eq_some_iff.mp h).1]; exact h
section
variable {P : Program} {w : World} {K : PySem.W.Frag} {mg : Str → Option Value} {base : Heap}
/-- what the body of the generator asks, read -/
def WalksR (K : PySem.W.Frag) (C CP : Addr) (t : FOut → (Hp → Hp → Prop) → TF) : Prop := ∀ (H2 : Hp) (ch : Addr → Prop) (p : Addr) (zs ss hs : List Nam) (ds : List PgD) (k : Nat), BkX C CP H2 p zs ss hs ds → (∀ b, ch b → ∃ xs, H2 b = some (.lst xs)) → k ≤ 100 → (∀ d ∈ ds, d.fol.length ≤ 4) → ss.length ≤ 4 →
  ∀ h', SB ch H2 h' → t (outW H2 ch (wlk ds ss k [])) (SB ch) { nx := fun n h₀ _ H' => QW H2 ch n h₀ H', rt := fun n h₀ v H' => v = .non ∧ QW H2 ch n h₀ H' } ((wlk ds ss k []).length + 1) h' (start ["self", "rounds", "stack", "walk", "nexts", "name"] [.ref p, .int (k : Nat)]) h'
theorem ok_walks {f C CP gp : Addr} {fdp : FuncData} (T : TxtBk K C) (TP : TxtPg K CP) (m_len : mg "len" = none) (m_list : mg "list" = none) (m_reversed : mg "reversed" = none) (Me_page : Meth K C "page" gp) (G_page : FnOk P w K mg base CX0 1 gp fdp ["self", "name"] (spPage C CP)) (b_page : Binds K fdp ["self", "name"] []) :
    ∃ t, GBody P w K mg base 1 ["self", "rounds", "stack", "walk", "nexts", "name"] "Book.walks" s_Book_walks f t ∧ WalksR K C CP t := by
  refine ⟨_, fun cd A outer n0 E pn pf adm out sl hr => fss_cons (fs_ps fun n s₀ h₀ => ps_set (i := 2) gs_Book_walks.nd rfl (.inl rfl) (pe_lst (pa_cons (pe_lst pa_nil) pa_nil)))
    (fss_cons (fs_while (fun n s₀ h₀ => owns_gcx) (fun n s₀ h₀ => pt_truthG (K := K) rfl (pv 2) (by intro _; rfl))
      (fss_cons (fs_ps fun n s₀ h₀ => ps_set (i := 3) gs_Book_walks.nd rfl (.inr rfl) (pe_bm0G (K := K) rfl PySem.F.plainAttrs_list PySem.F.slot_list_pop PySem.F.type_list_pop mt_pop (pv 2)))
      (fss_cons (fs_if (fun n s₀ h₀ => pt_cmpR op_eq (pe_callB (call_len_seqK (K := K) rfl) (by rfl) m_len (by decide +kernel) (pa_cons (pv 3) pa_nil)) (pv 1) (nomark _))
        (fss_cons (fs_yield (fun n s₀ h₀ => pv 3) rfl rfl) fss_nil)
        (fss_pss fun n s₀ h₀ => pss_one (ps_if (pt_cmpR op_lt (pe_callB (call_len_seqK (K := K) rfl) (by rfl) m_len (by decide +kernel) (pa_cons (pv 3) pa_nil)) (pv 1) (nomark _))
          (pss_cons (ps_cut (ps_set (i := 4) gs_Book_walks.nd rfl (.inl rfl) (pe_ifExp (pt_truthG (K := K) rfl (pv 3) (by intro _; rfl)) (pe_fldK (K := K) rfl (pe_meth (pv 0) T.cl Me_page G_page (hr.deeper _) b_page .nil pass0 (pa_cons (pe_ix (ix_listK (K := K) rfl) (pv 3) (pe_un un_neg pe_int) (fun _ _ => rfl)) pa_nil)) rfl) (pe_fldK (K := K) rfl (pv 0) rfl))))
          (pss_one (ps_expr (pe_bmG (K := K) rfl PySem.F.plainAttrs_list PySem.F.slot_list_extend PySem.F.type_list_extend mt_extend (pv 2) (pa_cons (pe_lc (own := [("name", 5)]) (by rfl) gs_Book_walks.nd (pi_reversedG (K := K) rfl (by rfl) m_reversed (pa_cons (pe_callTy (call_list_ofG (K := K) rfl) (by rfl) m_list (by decide +kernel) (pa_cons (pv 4) pa_nil)) pa_nil)) (blkOk_by (N := ["self", "rounds", "stack", "walk", "nexts", "name"]) (sc := defScope s_Book_walks) (by decide +kernel)) (fun _ _ _ _ _ => (pg_name (i := 5) gs_Book_walks.nd rfl (.inl rfl))) (fun _ _ _ _ _ => pts_nil) (fun _ _ _ _ _ => (pe_lst (pa_starK (K := K) rfl (pv 3) (pa_cons (pv 5) pa_nil))))) pa_nil))))) pss_nil)))
        fss_nil))) fss_nil), ?_⟩
  intro H2 ch p zs ss hs ds k bx hch k100 f4 s4 h' hsb
  have hdom : ∀ b, H2 b ≠ none → h' b ≠ none := fun b h => by
    by_cases z : ch b
    · obtain ⟨xs, e⟩ := hsb.2 b z (hch b z)
      rw [e]; exact nofun
    · cases e : H2 b with
      | none => exact absurd e h
      | some o => rw [hsb.1 _ _ e z]; exact nofun
  refine ⟨Nat.zero_le _, fun l0 nl0 => ⟨(show (1 : Nat) ≤ sizeLine by decide), fun S nS => ?_⟩⟩
  have s0 := same_upd (o := .lst []) nl0
  have e0 := upd_same (H := h') (a := l0) (o := .lst [])
  generalize upd h' l0 (.lst []) = G1 at s0 e0 nS ⊢
  have s1 := s0.trans (same_upd (o := .lst [V.ref l0]) nS)
  have eS := upd_same (H := G1) (a := S) (o := .lst [V.ref l0])
  have el := (same_upd (o := .lst [V.ref l0]) nS) _ _ e0
  have l0S : l0 ≠ S := ne_of_none e0 nS
  generalize upd G1 S (.lst [V.ref l0]) = G2 at s1 eS el ⊢
  have n2 : ∀ {b}, h' b = none → H2 b = none := fun {b} h => by
    cases e : H2 b with
    | none => rfl
    | some o => exact absurd h (hdom b (by rw [e]; exact nofun))
  refine ⟨WW H2 ch C CP p zs ss hs ds k, ⟨meaW k [[]], S, [l0], [[]], _, _, rfl, ?_, fun b o e _ => s1 _ _ e, ?_, rfl, [], ?_⟩, ?_⟩
  · refine ⟨bk_nl bx fun c o e n => s1 _ _ (hsb.1 c o e fun z => ?_), eS, n2 (s0.free nS), rfl, fun i a h => ?_, fun i w h => ?_, fun b h => ?_, fun b z => ?_⟩
    · obtain ⟨xs, e'⟩ := hch c z
      rw [e] at e'
      exact n xs (Option.some.inj e')
    · match i, h with
      | 0, h => cases Option.some.inj h; exact ⟨l0S, n2 nl0, [], rfl, el⟩
    · match i, h with
      | 0, h => cases Option.some.inj h; exact ⟨Nat.zero_le _, Nat.le_refl _, nofun⟩
    · cases e : h' b with
      | none => exact absurd e (hdom b h)
      | some o => rw [s1 _ _ e]; exact nofun
    · obtain ⟨xs, e⟩ := hch b z
      obtain ⟨ys, e'⟩ := hsb.2 b z ⟨xs, e⟩
      exact ⟨by rw [e]; exact nofun, ys, s1 _ _ e'⟩
  · show _ = (remW ds ss k ([] ++ [[]])).length + 1
    rw [remW_snoc]
    show _ = (wlk ds ss k [] ++ []).length + 1
    rw [List.append_nil]
  · show _ = [] ++ remW ds ss k ([] ++ [[]])
    rw [remW_snoc]
    show _ = wlk ds ss k [] ++ []
    rw [List.append_nil]
  rintro m n h₀ σ H ⟨S, as, st, y3, y4, rfl, g, sg, rfl, rfl, done, hd⟩
  refine ⟨_, rfl, _, .inl ⟨_, lstAt g.hS, rfl⟩, ?_⟩
  rcases nil_or_snoc as with rfl | ⟨as', a, rfl⟩
  · have e : st = [] := List.eq_nil_of_length_eq_zero g.len.symm
    subst e
    refine iteF ?_
    exact ⟨rfl, sg⟩
  rcases nil_or_snoc st with rfl | ⟨st', w, rfl⟩
  · have := g.len
    simp at this
  have hlen : as'.length = st'.length := by have := g.len; simpa using this
  rw [show (!((as' ++ [a]).map V.ref).isEmpty) = true by simp]
  refine iteT ⟨fun n' h₀' σ' H' => ∃ m', m' < meaW k (st' ++ [w]) ∧ WW H2 ch C CP p zs ss hs ds k m' n' h₀' σ' H', fun _ _ _ _ h => h, ?_⟩
  refine ⟨_, rfl, .inl ⟨rfl, _, lstAt g.hS⟩, S, _, .ref a, rfl, rfl, g.hS, by simp, ?_⟩
  obtain ⟨aS, na, w', ew', ea0⟩ := g.at_ as'.length a (by rw [List.getElem?_append_right (Nat.le_refl _), Nat.sub_self]; rfl)
  rw [hlen, last_idx] at ew'
  cases Option.some.inj ew'
  obtain ⟨wk, wi, wn⟩ := g.deep st'.length w last_idx
  rw [show ((as' ++ [a]).map V.ref).dropLast = as'.map V.ref by simp]
  have ne : as' ++ [a] ≠ [] := by simp
  have kp1 : ∀ b u, H b = some u → b ≠ S → (upd H S (.lst (as'.map V.ref))) b = some u := fun b u h n => by rw [upd_ne n]; exact h
  have eS1 := upd_same (H := H) (a := S) (o := .lst (as'.map V.ref))
  have dm1 : ∀ b, (upd H S (.lst (as'.map V.ref))) b = none → H b = none := fun b h => by
    by_cases z : b = S
    · rw [z, eS1] at h; cases h
    · rw [upd_ne z] at h; exact h
  generalize upd H S (.lst (as'.map V.ref)) = H1 at kp1 eS1 dm1 ⊢
  have ea := kp1 _ _ ea0 aS
  have hle : (w.map vN).length = w.length := List.length_map ..
  refine ⟨_, rfl, a, _, rfl, .inl (lstAt ea), _, rfl, rfl, _, rfl, ite2 (fun e => ?_) (fun e => ?_)⟩
  · have e1 : (((w.map vN).length : Nat) : Int) = (k : Int) := V.int.inj (of_decide_eq_true e)
    have hk : k - w.length = 0 := by omega
    have er : remW ds ss k (st' ++ [w]) = w :: remW ds ss k st' := by
      rw [remW_snoc, hk]; rfl
    refine ⟨_, rfl, _, rfl, ⟨sg.go g.hS g.nS ne kp1, by rw [er]; exact Nat.succ_pos _, by rw [hd, List.length_append]; omega, a, w, rfl, ea, ?_, na⟩, fun h'' hs => ?_⟩
    · rw [hd, List.length_append, Nat.add_sub_cancel, er, List.getElem?_append_right (Nat.le_refl _), Nat.sub_self]; rfl
    · refine ⟨meaW k st', ?_, S, as', st', _, _, rfl, ?_, SGr.refl, ?_, rfl, done ++ [w], ?_⟩
      · rw [meaW_snoc, hk]
        exact Nat.lt_succ_self _
      · refine GSt.sb (g.go kp1 eS1 hlen (fun i b h => ?_) fun i u h => g.deep i u (pre_idx h)) hs
        obtain ⟨h1, h2, u, h3, h4⟩ := g.at_ i b (pre_idx h)
        have hi : i < st'.length := by rw [← hlen]; exact (List.getElem?_eq_some_iff.mp h).1
        rw [List.getElem?_append_left hi] at h3
        exact ⟨h1, h2, u, h3, kp1 _ _ h4 h1⟩
      · rw [er]; rfl
      · rw [hd, er, List.append_assoc]; rfl
  · have ne1 : ¬ w.length = k := fun z => e (decide_eq_true (congrArg V.int (by rw [hle, z])))
    have hwk : w.length < k := by omega
    refine ⟨_, rfl, a, _, rfl, .inl (lstAt ea), _, rfl, _, _, rfl, rfl, _, rfl, ?_⟩
    rw [decide_eq_true (show (((w.map vN).length : Nat) : Int) < (k : Int) by rw [hle]; omega)]
    refine iteT ?_
    have bk1 : BkX C CP H1 p zs ss hs ds := bk_nl g.bk fun c o e n => kp1 c o e fun z => by
      rw [z, g.hS] at e
      exact n _ (Option.some.inj e).symm
    obtain ⟨dx, m, nn, sx, h0, r, gg, o, rs, qs, hp, hm, hn, oc, od, hs', hh, hr', hR, hg, hQ⟩ := id bk1.at_
    refine ⟨(fun σ' H' => ∃ ft : Addr, σ' = [some (.ref p), some (.int (k : Nat)), some (.ref S), some (.ref a), some (.ref ft), none] ∧ H' = H1 ∧ SqT K H1 ft ((nxtP ds ss w).map vN)), ?_, ?_⟩
    · refine ⟨_, rfl, _, .inl ⟨_, lstAt ea, rfl⟩, ?_⟩
      rcases nil_or_snoc w with rfl | ⟨w', z, rfl⟩
      · refine iteF ?_
        exact ⟨_, rfl, p, C, dx, _, _, rfl, hp, T.cl, T.n3, fldsB_starts _ _ _ _ _ _, sx, rfl, rfl, tupAt hs'⟩
      · rw [show (!((w' ++ [z]).map vN).isEmpty) = true by simp]
        refine iteT ?_
        obtain ⟨d, md, ed⟩ := List.mem_map.mp (wn z (by simp))
        obtain ⟨j, hj⟩ := List.getElem?_of_mem md
        refine ⟨_, rfl, p, dx, _, rfl, hp, fldsB_no _ _ _ _ _ _ (by decide +kernel), _, rfl, _, rfl, _, _, _, _, rfl, rfl, lstAt ea, by rw [List.map_append]; exact atI_last _ _, ?_⟩
        refine ⟨p, z, zs, ss, hs, ds, j, d, rfl, bk1.at_, bk1.ok.nd, hj, ed, fun gp pg => ?_⟩
        obtain ⟨dx', bt, wt, ft, fs, es, p0, p1, p2, p3, p4, p5, p6, p7, p8, p9⟩ := pg
        refine ⟨gp, CP, dx', _, _, rfl, p0, TP.cl, TP.n4, p4, ft, rfl, rfl, ?_⟩
        have e2 : nxtP ds ss (w' ++ [z]) = d.fol := by
          unfold nxtP
          rw [List.getLast?_append]
          show folOf ds z = _
          rw [← ed]; exact folOf_at bk1.ok.nd md
        rw [e2]
        exact tupAt p9
    rintro σ' H' ⟨ft, rfl, rfl, hft⟩
    have l4 : (nxtP ds ss w).length ≤ 4 := by
      unfold nxtP
      split
      · exact s4
      · rename_i n he
        have hn' : n ∈ w := List.mem_of_getLast? he
        obtain ⟨d, md, ed⟩ := List.mem_map.mp (wn n hn')
        rw [← ed, folOf_at bk1.ok.nd md]
        exact f4 d md
    have sub : ∀ x ∈ nxtP ds ss w, x ∈ ds.map (·.nm) := by
      unfold nxtP
      split
      · exact bk1.s
      · rename_i n he
        obtain ⟨d, md, ed⟩ := List.mem_map.mp (wn n (List.mem_of_getLast? he))
        rw [← ed, folOf_at bk1.ok.nd md]
        exact bk1.ok.fs d md
    generalize enx : nxtP ds ss w = nx at hft l4 sub
    refine ⟨_, rfl, .inl ⟨rfl, _, lstAt eS1⟩, _, rfl, ft, _, rfl, .inr hft, fun l1 nl1 => ?_⟩
    have k1 := same_upd (o := .lst (nx.map vN)) nl1
    have el1 := upd_same (H := H') (a := l1) (o := .lst (nx.map vN))
    generalize upd H' l1 (.lst (nx.map vN)) = H3 at k1 el1 ⊢
    refine ⟨l1, _, rfl, lstAt el1, fun D nD => ?_⟩
    refine lc_it (walk_rev (K := K) (a := l1) (xs := nx.map vN)) (fun i H4 => ∃ bs : List Addr, Same H3 H4 ∧ H4 D = some (.lst (bs.map V.ref)) ∧ bs.length = i ∧ ∀ j b, bs[j]? = some b → H3 b = none ∧ b ≠ D ∧ ∃ x, nx.reverse[j]? = some x ∧ H4 b = some (.lst ((w ++ [x]).map vN))) ⟨[], same_upd nD, upd_same, rfl, fun j b h => by rw [List.getElem?_nil] at h; cases h⟩ (fun i H4 _ hq => by obtain ⟨_, s, _⟩ := hq; exact lstAt (s _ _ el1)) ?_ ?_
    · rintro i v H4' H4 hi ⟨bs, s4', eD, bl, hb⟩ ⟨rfl, hv⟩
      have hi' : i < nx.length := by rw [List.length_map] at hi; exact hi
      obtain ⟨x, ex, rfl⟩ := vN_at hv
      have exr : nx.reverse[i]? = some x := by
        rw [List.getElem?_reverse hi', ← ex, List.length_map]
      have ea4 := s4' _ _ (k1 _ _ ea)
      refine ⟨rfl, yesT ⟨_, rfl, a, _, rfl, .inr (lstAt ea4), _, rfl, ?_, fun b nb => ?_⟩⟩
      · show (w.map vN ++ [vN x]).length ≤ sizeLine
        rw [List.length_append, hle]
        exact Nat.le_of_lt (small1000 (by show w.length + 1 ≤ 1000; omega))
      · have sb := same_upd (o := .lst (w.map vN ++ [vN x])) nb
        have eb := upd_same (H := H4) (a := b) (o := .lst (w.map vN ++ [vN x]))
        generalize upd H4 b (.lst (w.map vN ++ [vN x])) = H5 at sb eb ⊢
        have eD5 := sb _ _ eD
        have bD : b ≠ D := (ne_of_none eD nb).symm
        refine ⟨_, eD5, by rw [List.length_map, bl]; exact small1000 (by omega), bs ++ [b], same_at (s4'.trans sb) nD, by rw [upd_same, List.map_append]; rfl, by rw [List.length_append, bl]; rfl, fun j c hc => ?_⟩
        by_cases hj : j < bs.length
        · rw [List.getElem?_append_left hj] at hc
          obtain ⟨q1, q2, y, q3, q4⟩ := hb j c hc
          exact ⟨q1, q2, y, q3, by rw [upd_ne q2]; exact sb _ _ q4⟩
        · have hj2 : j = bs.length := by
            have := (List.getElem?_eq_some_iff.mp hc).1
            rw [List.length_append, List.length_singleton] at this; omega
          subst hj2
          rw [List.getElem?_append_right (Nat.le_refl _), Nat.sub_self] at hc
          cases Option.some.inj hc
          refine ⟨s4'.free nb, bD, x, by rw [bl]; exact exr, ?_⟩
          rw [upd_ne bD, List.map_append]; exact eb
    · rintro H4 ⟨bs, s4', eD, bl, hb⟩
      rw [List.length_map] at bl
      have s34 := k1.trans s4'
      have eS4 := s34 _ _ eS1
      have al : as'.length ≤ 300 := by omega
      refine ⟨S, D, _, _, rfl, rfl, eS4, eD, by rw [List.length_map, List.length_map]; exact Nat.le_of_lt (small1000 (by omega)), ?_⟩
      have kp9 : ∀ b u, H b = some u → b ≠ S → (upd H4 S (.lst (as'.map V.ref ++ bs.map V.ref))) b = some u := fun b u h n => by rw [upd_ne n]; exact s34 _ _ (kp1 _ _ h n)
      have n2' : ∀ {b}, H3 b = none → H2 b = none := fun {b} h => by
        cases e : H2 b with
        | none => rfl
        | some o => exact absurd (dm1 b (k1.free h)) (g.dom b (by rw [e]; exact nofun))
      refine ⟨meaW k (st' ++ (nx.reverse.map fun m => w ++ [m])), ?_, S, as' ++ bs, st' ++ (nx.reverse.map fun m => w ++ [m]), _, _, rfl, ?_, sg.go g.hS g.nS ne kp9, ?_, rfl, done, ?_⟩
      · exact meaW_push hwk (by rw [List.length_reverse]; exact l4)
      · refine g.go kp9 (by rw [upd_same, List.map_append]) (by rw [List.length_append, List.length_append, List.length_map, List.length_reverse, hlen, bl]) (fun i b h => ?_) fun i u h => ?_
        · by_cases hi : i < as'.length
          · rw [List.getElem?_append_left hi] at h
            obtain ⟨h1, h2, u, h3, h4⟩ := g.at_ i b (pre_idx h)
            rw [List.getElem?_append_left (by omega)] at h3
            exact ⟨h1, h2, u, by rw [List.getElem?_append_left (by omega)]; exact h3, kp9 _ _ h4 h1⟩
          · rw [List.getElem?_append_right (by omega)] at h
            obtain ⟨q1, q2, x, q3, q4⟩ := hb _ _ h
            have bS : b ≠ S := (ne_of_none (k1 _ _ eS1) q1).symm
            refine ⟨bS, n2' q1, w ++ [x], ?_, by rw [upd_ne bS]; exact q4⟩
            rw [List.getElem?_append_right (by omega), List.getElem?_map, ← hlen, q3]; rfl
        · by_cases hi : i < st'.length
          · rw [List.getElem?_append_left hi] at h
            exact g.deep i u (pre_idx h)
          · rw [List.getElem?_append_right (by omega), List.getElem?_map] at h
            obtain ⟨x, hx, rfl⟩ := Option.map_eq_some_iff.mp h
            have hx2 := (List.getElem?_eq_some_iff.mp hx).1
            rw [List.length_reverse] at hx2
            have mx := List.mem_of_getElem? hx
            rw [List.mem_reverse] at mx
            refine ⟨by rw [List.length_append]; show w.length + 1 ≤ k; omega, by rw [List.length_append]; show i ≤ 3 * (w.length + 1); omega, fun y hy => ?_⟩
            rcases List.mem_append.mp hy with hy | hy
            · exact wn y hy
            · rw [List.mem_singleton.mp hy]; exact sub x mx
      · rw [← enx, remW_push hwk, ← remW_snoc]
      · rw [← enx, remW_push hwk, ← remW_snoc]; exact hd
end
end TK

/-! the walks counted as they come -/
namespace TK
open PySem PySem.Spec PyProof.Rows L2 GenW
theorem slok_sb {C ch : Addr → Prop} (h : ∀ b, ch b → ¬ C b) : SlOk C (SB ch) := fun co H Hx hn s => by
  have no : ∀ {b o}, H b = some o → ¬ C b := fun e z => by rw [hn _ z] at e; cases e
  refine ⟨fun b z => s.1 b _ (addC_yes z) fun y => h b y z, fun b o e n => ?_, fun b y e => ?_⟩
  · rw [dropC_no (no e)]
    exact s.1 b o (by rw [addC_no (no e)]; exact e) n
  · obtain ⟨xs, e⟩ := e
    obtain ⟨ys, e'⟩ := s.2 b y ⟨xs, by rw [addC_no (no e)]; exact e⟩
    exact ⟨ys, by rw [dropC_no (no e)]; exact e'⟩
theorem sb_refl {ch : Addr → Prop} {H : Hp} : SB ch H H := ⟨fun _ _ e _ => e, fun _ _ e => e⟩
section
variable {P : Program} {w : World} {K : PySem.W.Frag} {mg : Str → Option Value} {base : Heap}
def spListed (C CP : Addr) : Sp := fun vs H Q _ => ∃ (p : Addr) (k : Nat) (c : Int) (zs ss hs : List Nam) (ds : List PgD), vs = [.ref p, .int (k : Nat), .int c] ∧ BkX C CP H p zs ss hs ds ∧ k ≤ 100 ∧ (∀ d ∈ ds, d.fol.length ≤ 4) ∧ ss.length ≤ 4 ∧ ((wlk ds ss k []).length : Int) ≤ c ∧
  ∀ H', Same H H' → Q (.int ((wlk ds ss k []).length : Nat)) H'
theorem ok_L_listed {f fw C CP : Addr} {fd fdw : FuncData} {t : FOut → (Hp → Hp → Prop) → TF} (F : Fun K "_law_listed" "_law_listed" s_L_listed f fd) (T : TxtBk K C) (Me_walks : Meth K C "walks" fw) (F_walks : Fun K "walks" "Book.walks" s_Book_walks fw fdw) (b_walks : Binds K fdw ["self", "rounds"] [])
    (GB : GBody P w K mg base 1 ["self", "rounds", "stack", "walk", "nexts", "name"] "Book.walks" s_Book_walks fw t) (WR : WalksR K C CP t) : FnOk P w K mg base CX0 4 f fd ["_law_book", "_law_turns", "_law_crest"] (spListed C CP) := by
  refine F.ok sc_L_listed (fun vs H Q E h => ?_) (fun cdv A outer s H vs Q E hr h => ?_)
  · obtain ⟨p, k, c, zs, ss, hs, ds, rfl, _⟩ := h
    rfl
  · obtain ⟨p, k, c, zs, ss, hs, ds, rfl, bx, k100, f4, s4, hc, q⟩ := h
    obtain ⟨dx, m0, nn, s0, h0, r, g, o, rs, qs, hp, _⟩ := id bx.at_
    refine ⟨_, pss_cons (ps_set (i := 3) sc_L_listed.nd rfl (.inl rfl) pe_int)
      (pss_cons (ps_forL PassesOwn.never (pgl_meth (k := 1) (pv 0) T.cl Me_walks F_walks gs_Book_walks (hr.mono (by decide)) b_walks .nil (pa_cons (pv 1) pa_nil)) GB hr (pg_name (i := 4) sc_L_listed.nd rfl (.inl rfl))
        (pss_cons (ps_set (i := 3) sc_L_listed.nd rfl (.inl rfl) (pe_op op_add (pv 3) pe_int))
          (pss_one (ps_if (pt_cmpR op_gt (pv 3) (pv 2) (nomark _)) (pss_one ps_break) pss_nil))) (fun _ _ _ h => h) rfl ⟨rfl, rfl⟩ rfl)
        (pss_one (ps_ret (pv 3)))), ?_⟩
    generalize hall : wlk ds ss k [] = all at hc q
    refine ⟨_, rfl, p, dx, _, rfl, hp, fldsB_no _ _ _ _ _ _ (by decide +kernel), _, rfl, rfl, fun n0 hlt Cl hCl => ?_⟩
    refine ⟨fun n σ H' => Same H H' ∧ n ≤ all.length + 1 ∧ ∃ y4 : Option V, σ = [some (.ref p), some (.int (k : Nat)), some (.int c), some (.int ((all.length + 1 - n : Nat) : Int)), y4], outW H (fun _ => False) all, SB (fun _ => False), QW H (fun _ => False), all.length + 1, slok_sb (fun _ z => z.elim), ?_, ⟨Same.refl H, Nat.le_refl _, none, by rw [Nat.sub_self]; rfl⟩, Nat.succ_pos _, sb_refl, ?_, ?_, ?_⟩
    · rintro co n σ H' hco ⟨sm, hn, y4, rfl⟩
      refine ⟨fun b o e => ?_, hn, y4, rfl⟩
      rw [dropC_no fun z => Nat.lt_irrefl _ (Nat.lt_of_lt_of_le (hlt b o e) (hCl b z))]
      exact sm b o e
    · intro h' hs'
      have q1 := WR H (fun _ => False) p zs ss hs ds k bx (fun _ z => z.elim) k100 f4 s4 h' hs'
      rw [hall] at q1
      exact q1
    · rintro m x h₀ H1 σ ⟨sm, hn, y4, rfl⟩ ⟨sg, m0', ml, a, w, rfl, ea, ew, na⟩
      refine ⟨m0', fun H3 s3 => ?_⟩
      have sm3 : Same H H3 := fun b o e => s3 _ _ (sg b o (sm b o e) (.inl (by rw [e]; exact nofun)))
      refine ⟨_, rfl, _, _, rfl, rfl, _, rfl, _, rfl, _, _, rfl, rfl, _, rfl, ?_⟩
      rw [decide_eq_false (by show ¬ (c : Int) < ((all.length + 1 - (m + 1) : Nat) : Int) + 1; omega)]
      refine iteF ⟨⟨sm3, by omega, some (.ref a), ?_⟩, sb_refl⟩
      have e1 : ((all.length + 1 - (m + 1) : Nat) : Int) + 1 = ((all.length + 1 - m : Nat) : Int) := by omega
      show [_, _, _, some (V.int (((all.length + 1 - (m + 1) : Nat) : Int) + 1)), _] = _
      rw [e1]
    · rintro m h₀ H1 σ ⟨sm, hn, y4, rfl⟩ ⟨e1, sg⟩
      obtain rfl : m = 0 := by omega
      exact ⟨_, rfl, q H1 fun b o e => sg b o (sm b o e) (.inl (by rw [e]; exact nofun))⟩
end
end TK

/-! what count_walks tells or refuses -/
namespace TK
open PySem PySem.Spec PyProof.Rows L2 NdefX
theorem wlk_len (ds : List PgD) (ss : List Nam) : ∀ (k : Nat) (w : List Nam) (n : Nam), ((wlk ds ss k (w ++ [n])).length : Int) = cntB ds k n := by
  have fm : ∀ (l : List Nam) (g : Nam → List (List Nam)), ((l.flatMap g).length : Int) = (l.map fun m => ((g m).length : Int)).sum := fun l g => by
    induction l with
    | nil => rfl
    | cons a l ih => rw [List.flatMap_cons, List.length_append, List.map_cons, List.sum_cons, ← ih]; omega
  intro k
  induction k with
  | zero => intro w n; rfl
  | succ k ih =>
    intro w n
    show (((nxtP ds ss (w ++ [n])).flatMap fun m => wlk ds ss k (w ++ [n] ++ [m])).length : Int) = ((folOf ds n).map (cntB ds k)).sum
    rw [fm]
    have e : nxtP ds ss (w ++ [n]) = folOf ds n := by
      unfold nxtP
      rw [List.getLast?_append]
      rfl
    rw [e]
    exact congrArg List.sum (List.map_congr_left fun m _ => ih _ m)
theorem wlk_cnt (ds : List PgD) (ss : List Nam) (k : Nat) : ((wlk ds ss k []).length : Int) = cntA ds ss k := by
  cases k with
  | zero => rfl
  | succ k =>
    have fm : ∀ (l : List Nam) (g : Nam → List (List Nam)), ((l.flatMap g).length : Int) = (l.map fun m => ((g m).length : Int)).sum := fun l g => by
      induction l with
      | nil => rfl
      | cons a l ih => rw [List.flatMap_cons, List.length_append, List.map_cons, List.sum_cons, ← ih]; omega
    show ((ss.flatMap fun m => wlk ds ss k ([] ++ [m])).length : Int) = (ss.map (cntB ds k)).sum
    rw [fm]
    exact congrArg List.sum (List.map_congr_left fun m _ => wlk_len ds ss k [] m)
structure ErrN (K : PySem.W.Frag) (mg : Str → Option Value) (CU N1 N2 CH : Addr) : Prop where
  g1 : mg "BadBook" = some (.ref N1)
  g2 : mg "BadCount" = some (.ref N2)
  gH : mg "HouseError" = some (.ref CH)
  any : PySem.W.kitAny K (.ref CU) [.ref N1, .ref N2] = some false
  hs : PySem.W.kitOne K (.ref CU) (.ref CH) = some true
  ve : PySem.W.kitOne K (.ref CU) (.type "ValueError") = some true
section
variable {P : Program} {w : World} {K : PySem.W.Frag} {mg : Str → Option Value} {base : Heap}
def spTold3 (C CP : Addr) : Sp := fun vs H Q _ => ∃ (p : Addr) (n : Int) (zs ss hs : List Nam) (ds : List PgD), vs = [.ref p, .int n] ∧ BkX C CP H p zs ss hs ds ∧ ss.length ≤ 4 ∧
  ((∃ k : Nat, n = (k : Int) ∧ k ≤ 200 ∧ ∀ H', Same H H' → Q (.int (cntA ds ss k)) H') ∨ (¬ (0 ≤ n ∧ n ≤ 200) ∧ ∀ H' u, H u = none → Same H H' → H' u = some (.tup [.int n, .bl true, .bl true, .bl false]) → Q (.ref u) H'))
theorem ok_L_told {f C CP CB fB N1 N2 CH gc : Addr} {fd fdB fdc : FuncData} {g1 : List Value → List Value → List Value} (F : Fun K "_law_told" "_law_told" s_L_told f fd) (T : TxtBk K C) (TB : SupT P w K mg base "BadNumber" "number" "number" (fun _ => True) CB fB fdB) (EC : ExcC K CB) (ET : ErrN K mg CB N1 N2 CH)
    (m_isinstance : mg "isinstance" = none) (m_ValueError : mg "ValueError" = none) (Me_count : Meth K C "count_walks" gc) (G_count : FnOk P w K mg base (L2.CX P w) 4 gc fdc ["self", "rounds"] (spCountX C CP CB)) (kb_count : KBn K fdc ["self", "rounds"] 1 ["rounds"] g1 (fun vs zs => vs ++ zs)) :
    FnOk P w K mg base CX0 6 f fd ["_law_book", "_law_number"] (spTold3 C CP) := by
  refine F.ok sc_L_told (fun vs H Q E h => ?_) (fun cdv A outer s H vs Q E hr h => ?_)
  · obtain ⟨p, n, zs, ss, hs, ds, rfl, _⟩ := h
    rfl
  · obtain ⟨p, n, zs, ss, hs, ds, rfl, bx, s4, q⟩ := h
    obtain ⟨dx, m0, nn, s0, h0, r, g, o, rs, qs, hp, _⟩ := id bx.at_
    refine ⟨_, pss_cons (ps_set (i := 2) sc_L_told.nd rfl (.inl rfl) pe_non)
      (pss_cons (ps_try_as (i := 3) (Wout := fun _ _ _ _ => False) rfl rfl sc_L_told.nd rfl rfl ⟨rfl, by decide, .inl TB.gC⟩ takes0
        (fun W pn xe tk _ => pss_one (ps_set (i := 2) sc_L_told.nd rfl (.inl rfl) (pe_methKAtG (E := fun σ => WE W σ) (pv 0) T.cl Me_count G_count (hr.mono (by decide)) kb_count (fun σ => passAt tk σ) (pk_cons (pv 1) pk_nil))))
        (fun a oe cls d pn hz hf => pss_one (ps_set (i := 2) sc_L_told.nd rfl (.inl rfl) (pe_tup (pa_cons (pe_xf TB.xf TB.noN hz hf (pv 3)) (pa_cons (pe_callB (call_isX EC hz hf) (by rfl) m_isinstance (by decide +kernel) (pa_cons (pv 3) (pa_cons (pe_glob (v := .ref CH) (u := .ref CH) (by rfl) ET.gH rfl) pa_nil))) (pa_cons (pe_callB (call_isX EC hz hf) (by rfl) m_isinstance (by decide +kernel) (pa_cons (pv 3) (pa_cons (pe_bltn (v := .ty "ValueError") (u := .type "ValueError") (by rfl) m_ValueError (by decide +kernel) rfl) pa_nil))) (pa_cons (pe_callB (call_isXT EC hz hf) (by rfl) m_isinstance (by decide +kernel) (pa_cons (pv 3) (pa_cons (pe_tup (pa_cons (pe_glob (v := .ref N1) (u := .ref N1) (by rfl) ET.g1 rfl) (pa_cons (pe_glob (v := .ref N2) (u := .ref N2) (by rfl) ET.g2 rfl) pa_nil))) pa_nil))) pa_nil))))))))
      (pss_one (ps_ret (pv 2)))), ?_⟩
    refine ⟨_, rfl, p, dx, _, rfl, hp, fldsB_no _ _ _ _ _ _ (by decide +kernel), _, rfl, rfl, p, n, zs, ss, hs, ds, rfl, bx, s4, ?_⟩
    rcases q with ⟨k, e, k200, q⟩ | ⟨bad, q⟩
    · exact .inl ⟨k, e, k200, fun H' s1 => ⟨_, rfl, q H' s1⟩⟩
    refine .inr ⟨bad, fun H1 d nd s1 ed => ?_⟩
    refine ⟨true, TB.te, fun _ e0 ne0 => ?_, fun z => nomatch z⟩
    refine ⟨_, rfl, rfl, rfl, d, [(("number" : Str), .int n)], .int n, rfl, ed, by simp [List.lookup], ?_⟩
    refine ⟨_, rfl, .ref CH, .ref CH, true, rfl, rfl, .inr ⟨d, _, rfl, ed⟩, (fun u r => r), ET.hs, ?_⟩
    refine ⟨_, rfl, .ty "ValueError", .type "ValueError", true, rfl, rfl, .inr ⟨d, _, rfl, ed⟩, (fun u r => r), ET.ve, ?_⟩
    refine ⟨_, rfl, (show (2 : Nat) ≤ sizeLine by decide), fun tp ntp => ?_⟩
    have st := same_upd (o := .tup [V.ref N1, .ref N2]) ntp
    have ed2 := st _ _ ed
    refine ⟨tp, _, _, false, rfl, rfl, .inr ⟨d, _, rfl, ed2⟩, upd_same, fun us r => ClsV.all (.cons (.own N1) (.cons (.own N2) .nil)) r, ET.any, ?_⟩
    refine ⟨(show (4 : Nat) ≤ sizeLine by decide), fun u nu => ?_⟩
    have s2 := s1.trans st
    exact ⟨_, rfl, q _ u (s2.free nu) (s2.trans (same_upd nu)) upd_same⟩
end
end TK

namespace TK
open PySem PySem.Spec PyProof.Rows L2
section
variable {P : Program} {w : World} {K : PySem.W.Frag} {mg : Str → Option Value} {base : Heap}
def spBig (K : PySem.W.Frag) : Sp := fun vs H Q _ => ∃ (a : Addr) (ns : List Int) (s l c : Int), vs = [.ref a, .int s, .int l, .int c] ∧ SqL K H a (ns.map V.int) ∧ 0 ≤ s ∧ s + 3 ≤ ns.length ∧ l ≤ c ∧ ∀ r : Int, l ≤ r → r ≤ c → Q (.int r) H
theorem ok_L_big {f : Addr} {fd : FuncData} (F : Fun K "_law_big" "_law_big" s_L_big f fd) (m_int : mg "int" = none) : FnOk P w K mg base CX0 1 f fd ["_law_pool_here", "_law_spot", "_law_least", "_law_crest"] (spBig K) := by
  refine F.ok sc_L_big (fun vs H Q E h => ?_) (fun cdv A outer s H vs Q E hr h => ?_)
  · obtain ⟨a, ns, s, l, c, rfl, _⟩ := h
    rfl
  · obtain ⟨a, ns, s, l, c, rfl, hS, h0, h1, lc, q⟩ := h
    refine ⟨_, (pss_cons (ps_set (i := 4) sc_L_big.nd rfl (.inl rfl) (pe_op op_add (pe_op op_add (pe_op op_mul (pe_op op_mod (pe_callTy call_int1 (by rfl) m_int (by decide +kernel) (pa_cons (pe_ix ix_list (pv 0) (pv 1) (fun _ _ => rfl)) pa_nil)) pe_int) pe_int) (pe_op op_mul (pe_op op_mod (pe_callTy call_int1 (by rfl) m_int (by decide +kernel) (pa_cons (pe_ix ix_list (pv 0) (pe_op op_add (pv 1) pe_int) (fun _ _ => rfl)) pa_nil)) pe_int) pe_int)) (pe_op op_mod (pe_callTy call_int1 (by rfl) m_int (by decide +kernel) (pa_cons (pe_ix ix_list (pv 0) (pe_op op_add (pv 1) pe_int) (fun _ _ => rfl)) pa_nil)) pe_int)))
  (pss_one (ps_ret (pe_op op_add (pv 2) (pe_op op_mod (pe_callTy call_int1 (by rfl) m_int (by decide +kernel) (pa_cons (pv 4) pa_nil)) (pe_op op_add (pe_op op_sub (pv 3) (pv 2)) pe_int)))))), ?_⟩
    refine ⟨_, rfl, _, rfl, _, _, _, _, rfl, rfl, hS, get_int (by omega) (by omega), .inl ⟨_, rfl, _, _, rfl, rfl, pz, _, _, rfl, rfl, .inr ⟨by decide, by decide⟩, ?_⟩⟩
    refine ⟨_, rfl, _, rfl, _, _, rfl, rfl, _, _, _, _, rfl, rfl, hS, get_int (by omega) (by omega), .inl ⟨_, rfl, _, _, rfl, rfl, pz, _, _, rfl, rfl, .inr ⟨by decide, by decide⟩, _, _, rfl, rfl, ?_⟩⟩
    refine ⟨_, rfl, _, rfl, _, _, rfl, rfl, _, _, _, _, rfl, rfl, hS, get_int (by omega) (by omega), .inl ⟨_, rfl, _, _, rfl, rfl, pz, _, _, rfl, rfl, ?_⟩⟩
    refine ⟨_, rfl, _, rfl, .inl ⟨_, rfl, _, rfl, _, rfl, _, _, rfl, rfl, _, _, rfl, rfl, _, _, rfl, rfl, (show (0 : Int) < c - l + 1 by omega), _, _, rfl, rfl, ?_⟩⟩
    generalize ns.getD s.toNat 0 % 5040 * 25401600 + ns.getD (s + 1).toNat 0 % 5040 * 5040 + ns.getD (s + 2).toNat 0 % 5040 = x
    have h2 := Int.emod_nonneg x (show c - l + 1 ≠ 0 by omega)
    have h3 := Int.emod_lt_of_pos x (show 0 < c - l + 1 by omega)
    exact q _ (by show l ≤ l + x % (c - l + 1); omega) (by show l + x % (c - l + 1) ≤ c; omega)
end
end TK

/-! the law -/
namespace TK
open PySem PySem.Spec PyProof.Rows L2
def QsAt (H : Hp) (ts : List Addr) (qs : List (Int × Nat)) : Prop := AllAt (fun H t (q : Int × Nat) => H t = some (.tup [.int q.1, .int (q.2 : Int)])) H ts qs
theorem QsAt.same {H H' : Hp} {ts : List Addr} {qs : List (Int × Nat)} (h : QsAt H ts qs) (s : Same H H') : QsAt H' ts qs := h.mono fun _ _ k => s _ _ k
theorem QsAt.snoc {H : Hp} {ts : List Addr} {qs : List (Int × Nat)} {t : Addr} {a : Int} {k : Nat} (h : QsAt H ts qs) (nt : H t = none) : QsAt (upd H t (.tup [.int a, .int (k : Int)])) (ts ++ [t]) (qs ++ [(a, k)]) := (h.same (same_upd nt)).app (.one (R := fun H t (q : Int × Nat) => H t = some (.tup [.int q.1, .int (q.2 : Int)])) upd_same)
theorem cnts_at {ds : List PgD} {ss : List Nam} {n k : Nat} (h : k ≤ n) : atI ((cntsF ds ss n).map V.int) (k : Int) = some (.int (cntA ds ss k)) := by
  refine atI_nat ?_
  unfold cntsF
  rw [List.getElem?_map, List.getElem?_map, List.getElem?_range (by omega)]; rfl
section
variable {P : Program} {w : World} {K : PySem.W.Frag} {mg : Str → Option Value} {base : Heap}
def spLaw (K : PySem.W.Frag) : Sp := fun vs H Q _ => ∃ (a : Addr) (ns : List Int), vs = [.ref a] ∧ SqL K H a (ns.map V.int) ∧ ns.length ≤ 63 ∧ ∀ H', Q (.bl true) H'
theorem ok_law {f C CP : Addr} {fd : FuncData} (F : Fun K "law" "law" s_law f fd) (m_range : mg "range" = none)
    (d_L_cell : Def P w K mg base "_law_cell" 1 ["_law_script", "_law_k"] (spCellA K)) (d_L_pool : Def P w K mg base "_law_pool" 2 ["_law_cell_here", "_law_number"] spPool) (d_L_part : Def P w K mg base "_law_part" 1 ["_law_pool_here", "_law_spot", "_law_under", "_law_size"] (spPart K)) (d_L_big : Def P w K mg base "_law_big" 1 ["_law_pool_here", "_law_spot", "_law_least", "_law_crest"] (spBig K))
    (d_L_good : Def P w K mg base "_law_good" 4 ["_law_head"] (spGood3 K)) (d_L_made : Def P w K mg base "_law_made" 6 ["_law_parts"] (spMade3 C CP)) (d_L_counts : Def P w K mg base "_law_counts" 1 ["_law_rows", "_law_firsts", "_law_turns"] (spCounts K))
    (d_L_listed : Def P w K mg base "_law_listed" 4 ["_law_book", "_law_turns", "_law_crest"] (spListed C CP)) (d_L_told : Def P w K mg base "_law_told" 6 ["_law_book", "_law_number"] (spTold3 C CP)) (d_L_same : Def P w K mg base "_law_same" 3 ["_law_got", "_law_wanted"] (spSame 1)) : FnOk P w K mg base CX0 7 f fd ["_law_script"] (spLaw K) := by
  refine F.ok sc_law (fun vs H Q E h => ?_) (fun cdv A outer s H vs Q E hr h => ?_)
  · obtain ⟨a, ns, rfl, _⟩ := h
    rfl
  · obtain ⟨a, ns, rfl, hS, hlen, q⟩ := h
    refine ⟨_, (pss_cons (ps_set (i := 1) sc_law.nd rfl (.inl rfl) (pe_callD d_L_pool (hr.mono (by decide)) (by rfl) (pa_cons (pe_callD d_L_cell (hr.mono (by decide)) (by rfl) (pa_cons (pv 0) (pa_cons pe_int pa_nil))) (pa_cons pe_int pa_nil))))
  (pss_cons (ps_set (i := 2) sc_law.nd rfl (.inr rfl) (pe_lc (own := [("_law_k", 9)]) (by rfl) sc_law.nd (pi_range1 (by rfl) m_range (pa_cons pe_int pa_nil)) (blkOk_by (N := ["_law_script", "_law_pool_here", "_law_parts", "_law_books", "_law_counts_here", "_law_turns", "_law_few", "_law_far", "_law_number", "_law_k"]) (sc := defScope s_law) (by decide +kernel)) (fun _ _ _ _ _ => (pg_name (i := 9) sc_law.nd rfl (.inl rfl))) (fun _ _ _ _ _ => pts_nil) (fun _ _ _ _ _ => (pe_callD d_L_good (hr.mono (by decide)) (by rfl) (pa_cons (pe_callD d_L_pool (hr.mono (by decide)) (by rfl) (pa_cons (pe_callD d_L_cell (hr.mono (by decide)) (by rfl) (pa_cons (pv 0) (pa_cons (pv 9) pa_nil))) (pa_cons pe_int pa_nil))) pa_nil)))))
  (pss_cons (ps_setLc (i := 3) (own := [("_law_k", 9)]) (by rfl) sc_law.nd rfl rfl (sw_true rfl rfl rfl (by decide +kernel)) (pi_range1 (by rfl) m_range (pa_cons pe_int pa_nil)) (blkOk_by (N := ["_law_script", "_law_pool_here", "_law_parts", "_law_books", "_law_counts_here", "_law_turns", "_law_few", "_law_far", "_law_number", "_law_k"]) (sc := defScope s_law) (by decide +kernel)) (fun _ _ _ _ _ => (pg_name (i := 9) sc_law.nd rfl (.inl rfl))) (fun _ _ _ _ _ => pts_nil) (fun _ _ _ _ _ => (pe_callD d_L_made (hr.mono (by decide)) (by rfl) (pa_cons (pe_ix (ix_listK (K := K) rfl) (pv 2) (pv 9) (fun _ _ => rfl)) pa_nil))))
  (pss_cons (ps_setLc (i := 4) (own := [("_law_k", 9)]) (by rfl) sc_law.nd rfl rfl (sw_true rfl rfl rfl (by decide +kernel)) (pi_range1 (by rfl) m_range (pa_cons pe_int pa_nil)) (blkOk_by (N := ["_law_script", "_law_pool_here", "_law_parts", "_law_books", "_law_counts_here", "_law_turns", "_law_few", "_law_far", "_law_number", "_law_k"]) (sc := defScope s_law) (by decide +kernel)) (fun _ _ _ _ _ => (pg_name (i := 9) sc_law.nd rfl (.inl rfl))) (fun _ _ _ _ _ => pts_nil) (fun _ _ _ _ _ => (pe_callD d_L_counts (hr.mono (by decide)) (by rfl) (pa_cons (pe_ix (ix_tupK (K := K) rfl) (pe_ix (ix_listK (K := K) rfl) (pv 2) (pv 9) (fun _ _ => rfl)) pe_int (fun _ _ => rfl)) (pa_cons (pe_ix (ix_tupK (K := K) rfl) (pe_ix (ix_listK (K := K) rfl) (pv 2) (pv 9) (fun _ _ => rfl)) pe_int (fun _ _ => rfl)) (pa_cons pe_int pa_nil))))))
  (pss_cons (ps_set (i := 5) sc_law.nd rfl (.inl rfl) (pe_callD d_L_part (hr.mono (by decide)) (by rfl) (pa_cons (pv 1) (pa_cons pe_int (pa_cons pe_int (pa_cons pe_int pa_nil))))))
  (pss_cons (ps_set (i := 6) sc_law.nd rfl (.inl rfl) (pe_callD d_L_part (hr.mono (by decide)) (by rfl) (pa_cons (pv 1) (pa_cons pe_int (pa_cons pe_int (pa_cons pe_int pa_nil))))))
  (pss_cons (ps_set (i := 7) sc_law.nd rfl (.inl rfl) (pe_callD d_L_big (hr.mono (by decide)) (by rfl) (pa_cons (pv 1) (pa_cons pe_int (pa_cons pe_int (pa_cons (pe_op op_pow pe_int pe_int) pa_nil))))))
  (pss_cons (ps_cut (ps_if (pt_cmpR op_eq (pe_callD d_L_part (hr.mono (by decide)) (by rfl) (pa_cons (pv 1) (pa_cons pe_int (pa_cons pe_int (pa_cons pe_int pa_nil))))) pe_int (nomark _)) (pss_one (ps_set (i := 7) sc_law.nd rfl (.inl rfl) (pe_op op_pow pe_int pe_int))) pss_nil))
  (pss_cons (ps_for PassesOwn.never rfl (pi_list (pe_lst (pa_cons (pe_tup (pa_cons pe_int (pa_cons pe_int pa_nil))) (pa_cons (pe_tup (pa_cons pe_int (pa_cons pe_int pa_nil))) (pa_cons (pe_tup (pa_cons (pv 5) (pa_cons pe_int pa_nil))) (pa_cons (pe_tup (pa_cons (pv 5) (pa_cons pe_int pa_nil))) (pa_cons (pe_tup (pa_cons (pv 6) (pa_cons pe_int pa_nil))) (pa_cons (pe_tup (pa_cons (pv 6) (pa_cons pe_int pa_nil))) pa_nil)))))))) (pg_tup (by rfl) (pgs_cons (pg_name (i := 8) sc_law.nd rfl (.inl rfl)) (pgs_cons (pg_name (i := 9) sc_law.nd rfl (.inl rfl)) pgs_nil)))
    (pss_one (ps_if (pt_not (pt_val (pe_callD d_L_same (hr.mono (by decide)) (by rfl) (pa_cons (pe_callD d_L_told (hr.mono (by decide)) (by rfl) (pa_cons (pe_ix ix_list (pv 3) (pv 9) (fun _ _ => rfl)) (pa_cons (pv 8) pa_nil))) (pa_cons (pe_ix ix_list (pe_ix ix_list (pv 4) (pv 9) (fun _ _ => rfl)) (pv 8) (fun _ _ => rfl)) pa_nil))))) (pss_one (ps_ret pe_bl)) pss_nil)))
  (pss_cons (ps_for PassesOwn.never rfl (pi_list (pe_lst (pa_cons (pe_tup (pa_cons (pe_un un_neg pe_int) (pa_cons pe_int pa_nil))) (pa_cons (pe_tup (pa_cons pe_int (pa_cons pe_int pa_nil))) (pa_cons (pe_tup (pa_cons (pe_op op_sub (pe_un un_neg pe_int) (pv 7)) (pa_cons pe_int pa_nil))) (pa_cons (pe_tup (pa_cons (pe_op op_add pe_int (pv 7)) (pa_cons pe_int pa_nil))) pa_nil)))))) (pg_tup (by rfl) (pgs_cons (pg_name (i := 8) sc_law.nd rfl (.inl rfl)) (pgs_cons (pg_name (i := 9) sc_law.nd rfl (.inl rfl)) pgs_nil)))
    (pss_one (ps_if (pt_not (pt_val (pe_callD d_L_same (hr.mono (by decide)) (by rfl) (pa_cons (pe_callD d_L_told (hr.mono (by decide)) (by rfl) (pa_cons (pe_ix ix_list (pv 3) (pv 9) (fun _ _ => rfl)) (pa_cons (pv 8) pa_nil))) (pa_cons (pe_tup (pa_cons (pv 8) (pa_cons pe_bl (pa_cons pe_bl (pa_cons pe_bl pa_nil))))) pa_nil))))) (pss_one (ps_ret pe_bl)) pss_nil)))
  (pss_cons (ps_for PassesOwn.never rfl (pi_list (pe_lst (pa_cons (pe_tup (pa_cons pe_int (pa_cons pe_int pa_nil))) (pa_cons (pe_tup (pa_cons (pv 5) (pa_cons pe_int pa_nil))) (pa_cons (pe_tup (pa_cons (pv 6) (pa_cons pe_int pa_nil))) pa_nil))))) (pg_tup (by rfl) (pgs_cons (pg_name (i := 8) sc_law.nd rfl (.inl rfl)) (pgs_cons (pg_name (i := 9) sc_law.nd rfl (.inl rfl)) pgs_nil)))
    (pss_one (ps_if (pt_not (pt_val (pe_callD d_L_same (hr.mono (by decide)) (by rfl) (pa_cons (pe_callD d_L_told (hr.mono (by decide)) (by rfl) (pa_cons (pe_ix ix_list (pv 3) (pv 9) (fun _ _ => rfl)) (pa_cons (pv 8) pa_nil))) (pa_cons (pe_ix ix_list (pe_ix ix_list (pv 4) (pv 9) (fun _ _ => rfl)) (pv 8) (fun _ _ => rfl)) pa_nil))))) (pss_one (ps_ret pe_bl)) pss_nil)))
  (pss_cons (ps_for PassesOwn.never rfl (pi_range1 (by rfl) m_range (pa_cons pe_int pa_nil)) (pg_name (i := 9) sc_law.nd rfl (.inl rfl))
    (pss_one (ps_if (PW.pt (pw_and (pt_cmpR op_le (pe_ix ix_list (pe_ix ix_list (pv 4) (pv 9) (fun _ _ => rfl)) (pv 6) (fun _ _ => rfl)) pe_int (nomark _)) (pw_and1 (pt_cmpR op_ne (pe_callD d_L_listed (hr.mono (by decide)) (by rfl) (pa_cons (pe_ix ix_list (pv 3) (pv 9) (fun _ _ => rfl)) (pa_cons (pv 6) (pa_cons pe_int pa_nil)))) (pe_ix ix_list (pe_ix ix_list (pv 4) (pv 9) (fun _ _ => rfl)) (pv 6) (fun _ _ => rfl)) (nomark _))))) (pss_one (ps_ret pe_bl)) pss_nil)))
  (pss_one (ps_ret pe_bl)))))))))))))), ?_⟩
    refine ⟨_, rfl, a, ns, 2, rfl, hS, by decide, by decide, by omega, fun c1 => ⟨c1, 10, rfl, by decide, by decide, fun p1 ns1 np1 l1 o1 => ?_⟩⟩
    have s1 : Same H (upd H p1 (.lst (ns1.map V.int))) := same_upd np1
    have e1 := upd_same (H := H) (a := p1) (o := .lst (ns1.map V.int))
    generalize upd H p1 (.lst (ns1.map V.int)) = H1 at s1 e1 ⊢
    -- the parts
    refine ⟨2, rfl, by decide, by decide, fun D nD => ?_⟩
    refine lc_range (fun i H' => ∃ (es : List Addr) (bs : List Pt3), Same H1 H' ∧ H' D = some (.lst (es.map V.ref)) ∧ AllAt (fun H e b => P3At (· ≠ D) H e b ∧ P3Ok b) H' es bs ∧ bs.length = i) ⟨[], [], same_upd nD, upd_same, .nil, rfl⟩ (fun i H' hi hq => ?_) (fun H2 hq => ?_)
    · obtain ⟨es, bs, s2, eD, hA, bl⟩ := hq
      have hi : i < 2 := hi
      refine ⟨rfl, yesT ⟨_, rfl, _, rfl, a, ns, _, rfl, (s1.trans s2).seq hS, by omega, by omega, by omega, fun c2 => ⟨c2, 30, rfl, by decide, by decide, fun p2 ns2 np2 l2 o2 => ?_⟩⟩⟩
      have k2 := same_upd (o := .lst (ns2.map V.int)) np2
      have x2 := upd_same (H := H') (a := p2) (o := .lst (ns2.map V.int))
      generalize upd H' p2 (.lst (ns2.map V.int)) = H3 at k2 x2 ⊢
      refine ⟨p2, ns2, rfl, lstAt x2, by omega, fun H4 e b ne k4 pa ok => ?_⟩
      have eD3 := k2 _ _ eD
      have eD4 := k4 _ _ eD3
      have pa' : P3At (· ≠ D) H4 e b := pa.mono fun x hx => (ne_of_none eD3 hx).symm
      have kD : ∀ c o, H4 c = some o → c ≠ D → (upd H4 D (.lst (es.map V.ref ++ [.ref e]))) c = some o := fun c o e n => by rw [upd_ne n]; exact e
      refine ⟨_, eD4, by rw [List.length_map, hA.1, bl]; exact small1000 (by omega), es ++ [e], bs ++ [b], same_at (s2.trans (k2.trans k4)) nD, by rw [upd_same, List.map_append]; rfl, ?_, by rw [List.length_append, bl]; rfl⟩
      exact ((hA.mono (S := fun H e b => P3At (· ≠ D) H e b ∧ P3Ok b) (H' := H4) fun _ _ k => ⟨(k.1.same k2).same k4, k.2⟩).app (.one ⟨pa', ok⟩)).mono fun _ _ k => ⟨k.1.go (fun _ z => z) ⟨_, eD4⟩ kD, k.2⟩
    obtain ⟨es, bs, s2, eD, hA, bl⟩ := hq
    have s12 := s1.trans s2
    have bl : bs.length = 2 := bl
    have el : es.length = 2 := by rw [hA.1, bl]
    have at0 : ∀ {α : Type} {R : Hp → Addr → α → Prop} {G : Hp} {xs : List Addr} {as : List α} {i : Nat}, AllAt R G xs as → as.length = 2 → i < 2 → ∃ x b, atI (xs.map V.ref) (0 + (i : Int)) = some (.ref x) ∧ xs[i]? = some x ∧ as[i]? = some b ∧ R G x b := fun {α R G xs as i} h hl hi => by
      have hx : i < xs.length := by rw [h.1, hl]; exact hi
      obtain ⟨b, eb, r⟩ := h.2 i xs[i] (List.getElem?_eq_getElem hx)
      refine ⟨xs[i], b, ?_, List.getElem?_eq_getElem hx, eb, r⟩
      rw [Int.zero_add]
      exact atI_nat (by rw [List.getElem?_map, List.getElem?_eq_getElem hx]; rfl)
    -- the books
    refine ⟨2, rfl, by decide, by decide, fun D2 nD2 => ?_⟩
    refine lc_range (fun i H' => ∃ (xs : List Addr), Same H2 H' ∧ H' D2 = some (.lst (xs.map V.ref)) ∧ AllAt (fun H x b => BkX C CP H x b.zs b.ss [] b.ds) H' xs (bs.take i)) ⟨[], same_upd nD2, upd_same, .nil⟩ (fun i H' hi hq => ?_) (fun H3 hq => ?_)
    · obtain ⟨xs, s3, eD2, hX⟩ := hq
      have hi : i < 2 := hi
      obtain ⟨e, b, ea, ee, eb, pa, ok⟩ := at0 (hA.mono (S := fun H e b => P3At (· ≠ D) H e b ∧ P3Ok b) (H' := H') fun _ _ k => ⟨k.1.same s3, k.2⟩) bl hi
      have xl : xs.length = i := by rw [hX.1, List.length_take]; omega
      refine ⟨rfl, yesT ⟨_, rfl, _, rfl, _, _, _, _, rfl, rfl, lstAt (s3 _ _ eD), ea, (· ≠ D), e, b, rfl, pa, ok, fun H4 x nx s4 bx => ?_⟩⟩
      have eD4 := s4 _ _ eD2
      refine ⟨_, eD4, by rw [List.length_map, xl]; exact small1000 (by omega), xs ++ [x], same_at (s3.trans s4) nD2, by rw [upd_same, List.map_append]; rfl, ?_⟩
      rw [List.take_add_one, eb]
      exact ((hX.mono (S := fun H x b => BkX C CP H x b.zs b.ss [] b.ds) (H' := H4) fun _ _ k => k.same s4).app (.one bx)).mono fun _ _ k => bk_nl k (nl_wrote eD4)
    obtain ⟨xs, s3, eD2, hX⟩ := hq
    have hX : AllAt (fun H x (b : Pt3) => BkX C CP H x b.zs b.ss [] b.ds) H3 xs (bs.take 2) := hX
    rw [show bs.take 2 = bs by rw [← bl, List.take_length]] at hX
    have s13 := s12.trans s3
    have eD3 := s3 _ _ eD
    have hA3 := hA.mono (S := fun H e b => P3At (· ≠ D) H e b ∧ P3Ok b) (H' := H3) fun _ _ k => ⟨k.1.same s3, k.2⟩
    -- the counts
    refine ⟨2, rfl, by decide, by decide, fun D4 nD4 => ?_⟩
    refine lc_range (fun i H' => ∃ (cs : List Addr), Same H3 H' ∧ H' D4 = some (.lst (cs.map V.ref)) ∧ AllAt (fun H c (b : Pt3) => H c = some (.lst ((cntsF b.ds b.ss 200).map V.int)) ∧ c ≠ D4) H' cs (bs.take i)) ⟨[], same_upd nD4, upd_same, .nil⟩ (fun i H' hi hq => ?_) (fun H4 hq => ?_)
    · obtain ⟨cs, s4, eD4, hC⟩ := hq
      have hi : i < 2 := hi
      obtain ⟨e, b, ea, ee, eb, pa, ok⟩ := at0 (hA3.mono (S := fun H e b => P3At (· ≠ D) H e b ∧ P3Ok b) (H' := H') fun _ _ k => ⟨k.1.same s4, k.2⟩) bl hi
      obtain ⟨c, r, f, rs, g1, g2, g3, g4, g5, _⟩ := id pa
      have cl : cs.length = i := by rw [hC.1, List.length_take]; omega
      refine ⟨rfl, yesT ⟨_, rfl, _, rfl, _, _, _, _, rfl, rfl, lstAt (s4 _ _ eD3), ea, _, _, 1, _, rfl, rfl, tupAt g1, rfl, ?_⟩⟩
      refine ⟨_, rfl, _, rfl, _, _, _, _, rfl, rfl, lstAt (s4 _ _ eD3), ea, _, _, 2, _, rfl, rfl, tupAt g1, rfl, ?_⟩
      refine ⟨(· ≠ D), r, f, rs, b.ds, b.ss, 200, rfl, g3, g4, g5, by decide, ok.ok.l4, ok.ok.nd, ok.snd, ok.ssub, ok.ok.fs, fun H5 c nc s5 ec => ?_⟩
      have eD5 := s5 _ _ eD4
      have cD : c ≠ D4 := (ne_of_none eD4 nc).symm
      refine ⟨_, eD5, by rw [List.length_map, cl]; exact small1000 (by omega), cs ++ [c], same_at (s4.trans s5) nD4, by rw [upd_same, List.map_append]; rfl, ?_⟩
      rw [List.take_add_one, eb]
      exact ((hC.mono (S := fun H c (b : Pt3) => H c = some (.lst ((cntsF b.ds b.ss 200).map V.int)) ∧ c ≠ D4) (H' := H5) fun _ _ k => ⟨s5 _ _ k.1, k.2⟩).app (.one ⟨ec, cD⟩)).mono fun _ _ k => ⟨by rw [upd_ne k.2]; exact k.1, k.2⟩
    obtain ⟨cs, s4, eD4, hC⟩ := hq
    have hC : AllAt (fun H c (b : Pt3) => H c = some (.lst ((cntsF b.ds b.ss 200).map V.int)) ∧ c ≠ D4) H4 cs (bs.take 2) := hC
    rw [show bs.take 2 = bs by rw [← bl, List.take_length]] at hC
    have s14 := s13.trans s4
    have eB := s4 _ _ eD2
    have hX4 := hX.mono (S := fun H x b => BkX C CP H x b.zs b.ss [] b.ds) (H' := H4) fun _ _ k => k.same s4
    have hok : ∀ {b : Pt3} {i : Nat}, bs[i]? = some b → P3Ok b := fun {b i} e => by
      have hi : i < es.length := by rw [hA.1]; exact (List.getElem?_eq_some_iff.mp e).1
      obtain ⟨b', e', _, ok⟩ := hA.2 i es[i] (List.getElem?_eq_getElem hi)
      rw [e] at e'
      cases Option.some.inj e'
      exact ok
    have e14 := s4 _ _ (s3 _ _ (s2 _ _ e1))
    have u0 := part_lo (ns := ns1) (s := 0) (u := 1) (z := 201) (by decide)
    have u1 := part_hi (ns := ns1) (s := 0) (u := 1) (z := 201) (by decide)
    have v0 := part_lo (ns := ns1) (s := 1) (u := 1) (z := 12) (by decide)
    have v1 := part_hi (ns := ns1) (s := 1) (u := 1) (z := 12) (by decide)
    refine ⟨_, rfl, p1, ns1, 0, 1, 201, rfl, lstAt e14, by decide, by omega, by decide, by decide, by decide, ?_⟩
    refine ⟨_, rfl, p1, ns1, 1, 1, 12, rfl, lstAt e14, by decide, by omega, by decide, by decide, by decide, ?_⟩
    generalize partOf ns1 0 1 201 = tu at u0 u1 ⊢
    generalize partOf ns1 1 1 12 = fw at v0 v1 ⊢
    obtain ⟨tu, rfl⟩ : ∃ n : Nat, tu = (n : Int) := ⟨tu.toNat, by omega⟩
    obtain ⟨fw, rfl⟩ : ∃ n : Nat, fw = (n : Int) := ⟨fw.toNat, by omega⟩
    refine ⟨_, rfl, _, _, rfl, rfl, ⟨by decide, by decide, by decide⟩, p1, ns1, 2, 0, _, rfl, lstAt e14, by decide, by omega, by decide, fun far0 f0 f1 => ?_⟩
    refine ⟨(fun σ' H' => ∃ far : Int, σ' = [some (.ref a), some (.ref p1), some (.ref D), some (.ref D2), some (.ref D4), some (.int (tu : Int)), some (.int (fw : Int)), some (.int far), none, none] ∧ H' = H4 ∧ 0 ≤ far), ?_, ?_⟩
    · refine ⟨_, rfl, p1, ns1, 1, 12, 4, rfl, lstAt e14, by decide, by omega, by decide, by decide, by decide, rfl, _, rfl, ite2 (fun e => ?_) (fun e => ?_)⟩
      · exact ⟨_, _, rfl, rfl, ⟨by decide, by decide, by decide⟩, _, rfl, rfl, by decide⟩
      · exact ⟨_, rfl, rfl, f0⟩
    clear f0 f1
    rintro σ' H' ⟨far, rfl, rfl, f0⟩
    have eC := eD4
    clear eD4
    -- what is told of a book within the range
    have bk : ∀ {G : Hp} {k : Nat}, Same H' G → k < 2 → ∃ x c b, atI (xs.map V.ref) (k : Int) = some (.ref x) ∧ atI (cs.map V.ref) (k : Int) = some (.ref c) ∧ BkX C CP G x b.zs b.ss [] b.ds ∧ P3Ok b ∧ G c = some (.lst ((cntsF b.ds b.ss 200).map V.int)) := fun {G k} sg hk => by
      obtain ⟨x, b, h1, _, h3, h4⟩ := at0 hX4 bl hk
      obtain ⟨c, b', g1, _, g3, g4⟩ := at0 hC bl hk
      cases Option.some.inj (h3.symm.trans g3)
      rw [Int.zero_add] at h1 g1
      exact ⟨x, c, b, h1, g1, h4.same sg, hok h3, sg _ _ g4.1⟩
    have z2 : (2 : Nat) ≤ sizeLine := by decide
    refine ⟨z2, fun t1 n1 => ⟨z2, fun t2 n2 => ⟨_, rfl, z2, fun t3 n3 => ⟨_, rfl, z2, fun t4 n4 => ⟨_, rfl, z2, fun t5 n5 => ⟨_, rfl, z2, fun t6 n6 => ⟨(show (6 : Nat) ≤ sizeLine by decide), fun L nL => ?_⟩⟩⟩⟩⟩⟩⟩
    have q0 : QsAt H' [] [] := .nil
    have q6 := ((((((q0.snoc (a := 0) (k := 0) n1).snoc (a := 0) (k := 1) n2).snoc (a := (tu : Int)) (k := 0) n3).snoc (a := (tu : Int)) (k := 1) n4).snoc (a := (fw : Int)) (k := 0) n5).snoc (a := (fw : Int)) (k := 1) n6).same (same_upd (o := .lst [V.ref t1, .ref t2, .ref t3, .ref t4, .ref t5, .ref t6]) nL)
    have sL := ((((((same_upd (o := .tup [.int 0, .int 0]) n1).trans (same_upd (o := .tup [.int 0, .int 1]) n2)).trans (same_upd (o := .tup [.int (tu : Int), .int 0]) n3)).trans (same_upd (o := .tup [.int (tu : Int), .int 1]) n4)).trans (same_upd (o := .tup [.int (fw : Int), .int 0]) n5)).trans (same_upd (o := .tup [.int (fw : Int), .int 1]) n6)).trans (same_upd (o := .lst [V.ref t1, .ref t2, .ref t3, .ref t4, .ref t5, .ref t6]) nL)
    have eL := upd_same (H := upd (upd (upd (upd (upd (upd H' t1 (.tup [.int 0, .int 0])) t2 (.tup [.int 0, .int 1])) t3 (.tup [.int (tu : Int), .int 0])) t4 (.tup [.int (tu : Int), .int 1])) t5 (.tup [.int (fw : Int), .int 0])) t6 (.tup [.int (fw : Int), .int 1])) (a := L) (o := .lst [V.ref t1, .ref t2, .ref t3, .ref t4, .ref t5, .ref t6])
    generalize upd (upd (upd (upd (upd (upd (upd H' t1 (.tup [.int 0, .int 0])) t2 (.tup [.int 0, .int 1])) t3 (.tup [.int (tu : Int), .int 0])) t4 (.tup [.int (tu : Int), .int 1])) t5 (.tup [.int (fw : Int), .int 0])) t6 (.tup [.int (fw : Int), .int 1])) L (.lst [V.ref t1, .ref t2, .ref t3, .ref t4, .ref t5, .ref t6]) = HL at q6 sL eL ⊢
    have in6 : ∀ z ∈ ([(0, 0), (0, 1), ((tu : Int), 0), ((tu : Int), 1), ((fw : Int), 0), ((fw : Int), 1)] : List (Int × Nat)), (∃ n : Nat, z.1 = (n : Int) ∧ n ≤ 200) ∧ z.2 < 2 := fun z hz => by
      simp only [List.mem_cons, List.not_mem_nil, or_false] at hz
      rcases hz with rfl | rfl | rfl | rfl | rfl | rfl
      · exact ⟨⟨0, rfl, by omega⟩, by first | exact Nat.zero_lt_two | exact Nat.one_lt_two⟩
      · exact ⟨⟨0, rfl, by omega⟩, by first | exact Nat.zero_lt_two | exact Nat.one_lt_two⟩
      · exact ⟨⟨tu, rfl, by omega⟩, by first | exact Nat.zero_lt_two | exact Nat.one_lt_two⟩
      · exact ⟨⟨tu, rfl, by omega⟩, by first | exact Nat.zero_lt_two | exact Nat.one_lt_two⟩
      · exact ⟨⟨fw, rfl, by omega⟩, by first | exact Nat.zero_lt_two | exact Nat.one_lt_two⟩
      · exact ⟨⟨fw, rfl, by omega⟩, by first | exact Nat.zero_lt_two | exact Nat.one_lt_two⟩
    refine ⟨L, rfl, ⟨_, lstAt eL⟩, for_list (K := K) (a := L) (xs := [t1, t2, t3, t4, t5, t6].map V.ref) (fun i σ G => ∃ y8 y9 : Option V, σ = [some (.ref a), some (.ref p1), some (.ref D), some (.ref D2), some (.ref D4), some (.int (tu : Int)), some (.int (fw : Int)), some (.int far), y8, y9] ∧ Same HL G) ⟨_, _, rfl, Same.refl _⟩ (fun i σ G _ hq => by obtain ⟨_, _, rfl, s⟩ := hq; exact lstAt (s _ _ eL)) ?_ ?_⟩
    · rintro i v σ G hv ⟨y8, y9, rfl, sG⟩
      obtain ⟨t, z, rfl, ez, ht⟩ := all_at (q6.same sG) hv
      obtain ⟨⟨n, en, n200⟩, hk⟩ := in6 z (List.mem_of_getElem? ez)
      obtain ⟨x, c, b, h1, h2, bx, ok, ec⟩ := bk (sL.trans sG) hk
      refine gTup2w ht [some (.ref a), some (.ref p1), some (.ref D), some (.ref D2), some (.ref D4), some (.int (tu : Int)), some (.int (fw : Int)), some (.int far), some (.int z.1), some (.int (z.2 : Int))] rfl ?_
      refine ⟨_, rfl, _, rfl, _, _, _, _, rfl, rfl, lstAt ((sL.trans sG) _ _ eB), h1, _, rfl, x, z.1, b.zs, b.ss, [], b.ds, rfl, bx, ok.s4, .inl ⟨n, en, n200, fun G2 s2' => ?_⟩⟩
      refine ⟨_, rfl, _, rfl, _, _, _, _, rfl, rfl, lstAt (s2' _ _ ((sL.trans sG) _ _ eC)), h2, _, rfl, _, _, _, _, rfl, rfl, lstAt (s2' _ _ ec), by rw [en]; exact cnts_at n200, _, _, rfl, .inl ⟨rfl, rfl⟩, _, rfl, iteF ⟨_, _, rfl, sG.trans s2'⟩⟩
    rintro σ G ⟨y8, y9, rfl, sG⟩
    have sA := sL.trans sG
    clear in6 q6 q0 eL n1 n2 n3 n4 n5 n6 nL sL sG
    -- numbers out of the range
    refine ⟨_, rfl, z2, fun t1 n1 => ⟨z2, fun t2 n2 => ⟨_, rfl, _, rfl, _, _, rfl, rfl, z2, fun t3 n3 => ⟨_, rfl, _, _, rfl, rfl, z2, fun t4 n4 => ⟨(show (4 : Nat) ≤ sizeLine by decide), fun L nL => ?_⟩⟩⟩⟩⟩
    have q0 : QsAt G [] [] := .nil
    have q4 := ((((q0.snoc (a := -1) (k := 0) n1).snoc (a := 201) (k := 0) n2).snoc (a := -1 - far) (k := 1) n3).snoc (a := 201 + far) (k := 1) n4).same (same_upd (o := .lst [V.ref t1, .ref t2, .ref t3, .ref t4]) nL)
    have sL := ((((same_upd (o := .tup [.int (-1), .int 0]) n1).trans (same_upd (o := .tup [.int 201, .int 0]) n2)).trans (same_upd (o := .tup [.int (-1 - far), .int 1]) n3)).trans (same_upd (o := .tup [.int (201 + far), .int 1]) n4)).trans (same_upd (o := .lst [V.ref t1, .ref t2, .ref t3, .ref t4]) nL)
    have eL := upd_same (H := upd (upd (upd (upd G t1 (.tup [.int (-1), .int 0])) t2 (.tup [.int 201, .int 0])) t3 (.tup [.int (-1 - far), .int 1])) t4 (.tup [.int (201 + far), .int 1])) (a := L) (o := .lst [V.ref t1, .ref t2, .ref t3, .ref t4])
    generalize upd (upd (upd (upd (upd G t1 (.tup [.int (-1), .int 0])) t2 (.tup [.int 201, .int 0])) t3 (.tup [.int (-1 - far), .int 1])) t4 (.tup [.int (201 + far), .int 1])) L (.lst [V.ref t1, .ref t2, .ref t3, .ref t4]) = HL at q4 sL eL ⊢
    have in4 : ∀ z ∈ ([(-1, 0), (201, 0), (-1 - far, 1), (201 + far, 1)] : List (Int × Nat)), ¬ (0 ≤ z.1 ∧ z.1 ≤ 200) ∧ z.2 < 2 := fun z hz => by
      simp only [List.mem_cons, List.not_mem_nil, or_false] at hz
      rcases hz with rfl | rfl | rfl | rfl
      · exact ⟨by show ¬ (0 ≤ (-1 : Int) ∧ _); omega, by first | exact Nat.zero_lt_two | exact Nat.one_lt_two⟩
      · exact ⟨by show ¬ (_ ∧ (201 : Int) ≤ 200); omega, by first | exact Nat.zero_lt_two | exact Nat.one_lt_two⟩
      · exact ⟨by show ¬ (0 ≤ (-1 - far) ∧ _); omega, by first | exact Nat.zero_lt_two | exact Nat.one_lt_two⟩
      · exact ⟨by show ¬ (_ ∧ 201 + far ≤ 200); omega, by first | exact Nat.zero_lt_two | exact Nat.one_lt_two⟩
    refine ⟨L, rfl, ⟨_, lstAt eL⟩, for_list (K := K) (a := L) (xs := [t1, t2, t3, t4].map V.ref) (fun i σ G => ∃ y8 y9 : Option V, σ = [some (.ref a), some (.ref p1), some (.ref D), some (.ref D2), some (.ref D4), some (.int (tu : Int)), some (.int (fw : Int)), some (.int far), y8, y9] ∧ Same HL G) ⟨_, _, rfl, Same.refl _⟩ (fun i σ G _ hq => by obtain ⟨_, _, rfl, s⟩ := hq; exact lstAt (s _ _ eL)) ?_ ?_⟩
    · rintro i v σ G2 hv ⟨y8, y9, rfl, sG⟩
      obtain ⟨t, z, rfl, ez, ht⟩ := all_at (q4.same sG) hv
      obtain ⟨bad, hk⟩ := in4 z (List.mem_of_getElem? ez)
      obtain ⟨x, c, b, h1, h2, bx, ok, ec⟩ := bk (sA.trans (sL.trans sG)) hk
      refine gTup2w ht [some (.ref a), some (.ref p1), some (.ref D), some (.ref D2), some (.ref D4), some (.int (tu : Int)), some (.int (fw : Int)), some (.int far), some (.int z.1), some (.int (z.2 : Int))] rfl ?_
      refine ⟨_, rfl, _, rfl, _, _, _, _, rfl, rfl, lstAt ((sA.trans (sL.trans sG)) _ _ eB), h1, _, rfl, x, z.1, b.zs, b.ss, [], b.ds, rfl, bx, ok.s4, .inr ⟨bad, fun G3 u nu s3' eu => ?_⟩⟩
      refine ⟨_, rfl, (show (4 : Nat) ≤ sizeLine by decide), fun u2 nu2 => ?_⟩
      have k2 := same_upd (o := .tup [V.int z.1, .bl true, .bl true, .bl false]) nu2
      have fl4 : ∀ x' ∈ [V.int z.1, V.bl true, .bl true, .bl false], flat1 x' = true := fun x' hx => by
        rcases List.mem_cons.mp hx with rfl | hx
        · rfl
        rcases List.mem_cons.mp hx with rfl | hx
        · rfl
        rcases List.mem_cons.mp hx with rfl | hx
        · rfl
        rw [List.mem_singleton.mp hx]; rfl
      exact ⟨_, _, rfl, eq_flat (.inl (k2 _ _ eu)) (.inl upd_same) (show (4 : Nat) ≤ 1000 by decide) fl4 0, _, rfl, iteF ⟨_, _, rfl, sG.trans (s3'.trans k2)⟩⟩
    rintro σ G2 ⟨y8', y9', rfl, sG⟩
    have sB := sA.trans (sL.trans sG)
    clear in4 q4 q0 eL n1 n2 n3 n4 nL sL sG sA
    -- within once more
    refine ⟨z2, fun t1 n1 => ⟨_, rfl, z2, fun t2 n2 => ⟨_, rfl, z2, fun t3 n3 => ⟨(show (3 : Nat) ≤ sizeLine by decide), fun L nL => ?_⟩⟩⟩⟩
    have q0 : QsAt G2 [] [] := .nil
    have q3 := (((q0.snoc (a := 200) (k := 1) n1).snoc (a := (tu : Int)) (k := 0) n2).snoc (a := (fw : Int)) (k := 1) n3).same (same_upd (o := .lst [V.ref t1, .ref t2, .ref t3]) nL)
    have sL := (((same_upd (o := .tup [.int 200, .int 1]) n1).trans (same_upd (o := .tup [.int (tu : Int), .int 0]) n2)).trans (same_upd (o := .tup [.int (fw : Int), .int 1]) n3)).trans (same_upd (o := .lst [V.ref t1, .ref t2, .ref t3]) nL)
    have eL := upd_same (H := upd (upd (upd G2 t1 (.tup [.int 200, .int 1])) t2 (.tup [.int (tu : Int), .int 0])) t3 (.tup [.int (fw : Int), .int 1])) (a := L) (o := .lst [V.ref t1, .ref t2, .ref t3])
    generalize upd (upd (upd (upd G2 t1 (.tup [.int 200, .int 1])) t2 (.tup [.int (tu : Int), .int 0])) t3 (.tup [.int (fw : Int), .int 1])) L (.lst [V.ref t1, .ref t2, .ref t3]) = HL at q3 sL eL ⊢
    have in3 : ∀ z ∈ ([(200, 1), ((tu : Int), 0), ((fw : Int), 1)] : List (Int × Nat)), (∃ n : Nat, z.1 = (n : Int) ∧ n ≤ 200) ∧ z.2 < 2 := fun z hz => by
      simp only [List.mem_cons, List.not_mem_nil, or_false] at hz
      rcases hz with rfl | rfl | rfl
      · exact ⟨⟨200, rfl, by omega⟩, by first | exact Nat.zero_lt_two | exact Nat.one_lt_two⟩
      · exact ⟨⟨tu, rfl, by omega⟩, by first | exact Nat.zero_lt_two | exact Nat.one_lt_two⟩
      · exact ⟨⟨fw, rfl, by omega⟩, by first | exact Nat.zero_lt_two | exact Nat.one_lt_two⟩
    refine ⟨L, rfl, ⟨_, lstAt eL⟩, for_list (K := K) (a := L) (xs := [t1, t2, t3].map V.ref) (fun i σ G => ∃ y8 y9 : Option V, σ = [some (.ref a), some (.ref p1), some (.ref D), some (.ref D2), some (.ref D4), some (.int (tu : Int)), some (.int (fw : Int)), some (.int far), y8, y9] ∧ Same HL G) ⟨_, _, rfl, Same.refl _⟩ (fun i σ G _ hq => by obtain ⟨_, _, rfl, s⟩ := hq; exact lstAt (s _ _ eL)) ?_ ?_⟩
    · rintro i v σ G hv ⟨y8, y9, rfl, sG⟩
      obtain ⟨t, z, rfl, ez, ht⟩ := all_at (q3.same sG) hv
      obtain ⟨⟨n, en, n200⟩, hk⟩ := in3 z (List.mem_of_getElem? ez)
      obtain ⟨x, c, b, h1, h2, bx, ok, ec⟩ := bk (sB.trans (sL.trans sG)) hk
      refine gTup2w ht [some (.ref a), some (.ref p1), some (.ref D), some (.ref D2), some (.ref D4), some (.int (tu : Int)), some (.int (fw : Int)), some (.int far), some (.int z.1), some (.int (z.2 : Int))] rfl ?_
      refine ⟨_, rfl, _, rfl, _, _, _, _, rfl, rfl, lstAt ((sB.trans (sL.trans sG)) _ _ eB), h1, _, rfl, x, z.1, b.zs, b.ss, [], b.ds, rfl, bx, ok.s4, .inl ⟨n, en, n200, fun G2 s2' => ?_⟩⟩
      refine ⟨_, rfl, _, rfl, _, _, _, _, rfl, rfl, lstAt (s2' _ _ ((sB.trans (sL.trans sG)) _ _ eC)), h2, _, rfl, _, _, _, _, rfl, rfl, lstAt (s2' _ _ ec), by rw [en]; exact cnts_at n200, _, _, rfl, .inl ⟨rfl, rfl⟩, _, rfl, iteF ⟨_, _, rfl, sG.trans s2'⟩⟩
    rintro σ G3 ⟨y8'', y9'', rfl, sG⟩
    have sC := sB.trans (sL.trans sG)
    clear in3 q3 q0 eL n1 n2 n3 nL sL sG sB
    refine ⟨2, rfl, by decide, by decide, for_range (fun i σ G => ∃ y8 y9 : Option V, σ = [some (.ref a), some (.ref p1), some (.ref D), some (.ref D2), some (.ref D4), some (.int (tu : Int)), some (.int (fw : Int)), some (.int far), y8, y9] ∧ Same G3 G) ⟨_, _, rfl, Same.refl _⟩ ?_ ?_⟩
    · rintro i σ G hi ⟨y8, y9, rfl, sG⟩
      have hi : i < 2 := hi
      obtain ⟨x, c, b, h1, h2, bx, ok, ec⟩ := bk (sC.trans sG) hi
      have h1 : atI (xs.map V.ref) (0 + (i : Int)) = some (.ref x) := by rw [Int.zero_add]; exact h1
      have h2 : atI (cs.map V.ref) (0 + (i : Int)) = some (.ref c) := by rw [Int.zero_add]; exact h2
      have eB' := (sC.trans sG) _ _ eB
      have eC' := (sC.trans sG) _ _ eC
      refine ⟨_, rfl, _, rfl, _, _, _, _, rfl, rfl, lstAt eC', h2, _, rfl, _, _, _, _, rfl, rfl, lstAt ec, cnts_at (show fw ≤ 200 by omega), _, _, rfl, rfl, _, rfl, ite2 (fun e => ?_) (fun e => ?_)⟩
      · have e1 : cntA b.ds b.ss fw ≤ 100 := of_decide_eq_true e
        refine ⟨_, rfl, _, rfl, _, _, _, _, rfl, rfl, lstAt eB', h1, _, rfl, x, fw, 100, b.zs, b.ss, [], b.ds, rfl, bx, by omega, ok.f4, ok.s4, by rw [wlk_cnt]; exact e1, fun G4 s4' => ?_⟩
        refine ⟨_, rfl, _, rfl, _, _, _, _, rfl, rfl, lstAt (s4' _ _ eC'), h2, _, rfl, _, _, _, _, rfl, rfl, lstAt (s4' _ _ ec), cnts_at (show fw ≤ 200 by omega), rfl, _, rfl, ?_⟩
        exact iteNS (congrArg V.int (wlk_cnt b.ds b.ss fw)) ⟨_, _, rfl, sG.trans s4'⟩
      · exact ⟨_, _, rfl, sG⟩
    · rintro σ G ⟨y8, y9, rfl, sG⟩
      exact q _
end
end TK

namespace TK
open PySem PySem.Spec PyProof.Rows L2 NdefX
theorem kit_off {K : PySem.W.Frag} {C : Addr} {T : String} (h1 : PySem.W.isClsIn K C = true) (h2 : PySem.W.typeIn K (.ref C) = some (.type "type")) (h3 : PySem.W.notFirst K C (.type T) = true) : PySem.W.kitOne K (.type T) (.ref C) = some false := by
  unfold PySem.W.notFirst at h3
  have e0 : ((Value.type T) == Value.ref C) = false := rfl
  rw [e0, Bool.false_or] at h3
  have h4 := eq_of_beq h3
  unfold PySem.W.kitOne PySem.W.kitCls
  rw [e0]
  unfold PySem.W.isClsIn at h1
  simp [h1, h2, h4]
/-- how the keywords of a def without defaults bind -/
theorem fun_kb {K : PySem.W.Frag} {x qual : Str} {st : Stmt} {f : Addr} {fd : FuncData} {ps : List Str} (F : Fun K x qual st f fd) (n : Nat) (ks : List Str)
    (h : ∀ (kV doc pm : Value) (an : Option Addr) (cdv ct : Value) (us ws : List Value), us.length = n → ws.length = ks.length → bindArgs (PySem.W.fnOf x qual (defArgs st) (defBody st) (defScope st) .none kV doc pm an cdv ct) ⟨us, ks.zip ws⟩ = pure (ps.zip (us ++ ws))) :
    KBn K fd ps n ks (fun us ws => us ++ ws) (fun vs zs => vs ++ zs) := by
  obtain ⟨oc, od, kV, doc, pm, an, cdv, ct, osl, rfl, lk, hcd⟩ := F.ex
  exact ⟨fun s us ws X l1 l2 => .of_eq (h _ _ _ _ _ _ us ws l1 l2), fun r1 r2 => r1.append r2⟩
abbrev s_BadNumber_init : Stmt := inClass (topS 6) 0
theorem all_mk {l : PySem.W.OpenLaw} {w : World} {K : PySem.W.Frag} {h : Heap} {mg : Str → Option Value} {fa f0 f1 f2 f3 f4 f5 f6 f7 f8 f9 f10 f11 f12 f13 f14 f15 f16 f17 f18 f19 f20 f21 f22 f23 f24 f25 f26 : Addr} (X : K.In h) (G : h.Ns mainGlobals mg) (hfa : mg "law" = some (.ref fa))
    {tk : Tok}
    {CB CP EH DH DN : Addr} {odEH odN2 : Option Addr} {slEH slN2 : Array (Option Value)} {ocN2 : Value} {nEH nN : Nat}
    {CeB feB cceB cdaeB NNeB : Addr} {oceB ccleB cleB kVeB doceB pmeB cteB : Value} {aneB odeB cddeB cldeB : Option Addr} {osleB ccseB csleB : Array (Option Value)} {vseB : Array Value} {tfeB : Tok} {fileeB nmeB qeB : Str}
    {bseB bmeB subeB : List Value} {sneB : List Str} {abeB : Bool} {coleB : Option Bool} {ddeB : Option Addr} {k0eB k1eB k2eB k3eB k5eB : Option Value}
    {CN1 : Addr}
    {CN2 : Addr}
    {CNH : Addr}
    {fPg : Addr} {odPg anPg : Option Addr} {slPg : Array (Option Value)} {ocPg kVPg dcPg pmPg cdPg ctPg : Value}
    {fBk : Addr} {odBk anBk : Option Addr} {slBk : Array (Option Value)} {ocBk dcBk pmBk cdBk ctBk : Value}
    {fBp : Addr} {odBp anBp : Option Addr} {slBp : Array (Option Value)} {ocBp kVBp dcBp pmBp cdBp ctBp : Value}
    {fBw : Addr} {odBw anBw : Option Addr} {slBw : Array (Option Value)} {ocBw kVBw dcBw pmBw cdBw ctBw : Value}
    {fBc : Addr} {odBc anBc : Option Addr} {slBc : Array (Option Value)} {ocBc kVBc dcBc pmBc cdBc ctBc : Value}
    {od0 an0 : Option Addr} {sl0 : Array (Option Value)} {oc0 kV0 dc0 pm0 cd0 ct0 : Value}
    (a0 : PySem.W.nsIn K mainGlobals "_wall" = some (some (.ref f0))) (l0 : K.lookup f0 = some ⟨oc0, od0, .func (PySem.W.fnOf "_wall" "_wall" (defArgs s_wall) (defBody s_wall) (defScope s_wall) .none kV0 dc0 pm0 an0 cd0 ct0), sl0⟩) (c0 : PySem.W.codeIn K cd0 "_wall" = true) (k0 : PySem.W.keepIn K (.ref f0) = true)
    {od1 an1 : Option Addr} {sl1 : Array (Option Value)} {oc1 kV1 dc1 pm1 cd1 ct1 : Value}
    (a1 : PySem.W.nsIn K mainGlobals "is_name" = some (some (.ref f1))) (l1 : K.lookup f1 = some ⟨oc1, od1, .func (PySem.W.fnOf "is_name" "is_name" (defArgs s_is_name) (defBody s_is_name) (defScope s_is_name) .none kV1 dc1 pm1 an1 cd1 ct1), sl1⟩) (c1 : PySem.W.codeIn K cd1 "is_name" = true) (k1 : PySem.W.keepIn K (.ref f1) = true)
    {od2 an2 : Option Addr} {sl2 : Array (Option Value)} {oc2 kV2 dc2 pm2 cd2 ct2 : Value}
    (a2 : PySem.W.nsIn K mainGlobals "check_size" = some (some (.ref f2))) (l2 : K.lookup f2 = some ⟨oc2, od2, .func (PySem.W.fnOf "check_size" "check_size" (defArgs s_check_size) (defBody s_check_size) (defScope s_check_size) .none kV2 dc2 pm2 an2 cd2 ct2), sl2⟩) (c2 : PySem.W.codeIn K cd2 "check_size" = true) (k2 : PySem.W.keepIn K (.ref f2) = true)
    {od3 an3 : Option Addr} {sl3 : Array (Option Value)} {oc3 kV3 dc3 pm3 cd3 ct3 : Value}
    (a3 : PySem.W.nsIn K mainGlobals "check_range" = some (some (.ref f3))) (l3 : K.lookup f3 = some ⟨oc3, od3, .func (PySem.W.fnOf "check_range" "check_range" (defArgs s_check_range) (defBody s_check_range) (defScope s_check_range) .none kV3 dc3 pm3 an3 cd3 ct3), sl3⟩) (c3 : PySem.W.codeIn K cd3 "check_range" = true) (k3 : PySem.W.keepIn K (.ref f3) = true)
    {od4 an4 : Option Addr} {sl4 : Array (Option Value)} {oc4 kV4 dc4 pm4 cd4 ct4 : Value}
    (a4 : PySem.W.nsIn K mainGlobals "check_names" = some (some (.ref f4))) (l4 : K.lookup f4 = some ⟨oc4, od4, .func (PySem.W.fnOf "check_names" "check_names" (defArgs s_check_names) (defBody s_check_names) (defScope s_check_names) (.ref DN) kV4 dc4 pm4 an4 cd4 ct4), sl4⟩) (c4 : PySem.W.codeIn K cd4 "check_names" = true) (k4 : PySem.W.keepIn K (.ref f4) = true)
    {od5 an5 : Option Addr} {sl5 : Array (Option Value)} {oc5 kV5 dc5 pm5 cd5 ct5 : Value}
    (a5 : PySem.W.nsIn K mainGlobals "_are_picks" = some (some (.ref f5))) (l5 : K.lookup f5 = some ⟨oc5, od5, .func (PySem.W.fnOf "_are_picks" "_are_picks" (defArgs s_are_picks) (defBody s_are_picks) (defScope s_are_picks) .none kV5 dc5 pm5 an5 cd5 ct5), sl5⟩) (c5 : PySem.W.codeIn K cd5 "_are_picks" = true) (k5 : PySem.W.keepIn K (.ref f5) = true)
    {od6 an6 : Option Addr} {sl6 : Array (Option Value)} {oc6 kV6 dc6 pm6 cd6 ct6 : Value}
    (a6 : PySem.W.nsIn K mainGlobals "_are_bids" = some (some (.ref f6))) (l6 : K.lookup f6 = some ⟨oc6, od6, .func (PySem.W.fnOf "_are_bids" "_are_bids" (defArgs s_are_bids) (defBody s_are_bids) (defScope s_are_bids) .none kV6 dc6 pm6 an6 cd6 ct6), sl6⟩) (c6 : PySem.W.codeIn K cd6 "_are_bids" = true) (k6 : PySem.W.keepIn K (.ref f6) = true)
    {od7 an7 : Option Addr} {sl7 : Array (Option Value)} {oc7 kV7 dc7 pm7 cd7 ct7 : Value}
    (a7 : PySem.W.nsIn K mainGlobals "_check_pages" = some (some (.ref f7))) (l7 : K.lookup f7 = some ⟨oc7, od7, .func (PySem.W.fnOf "_check_pages" "_check_pages" (defArgs s_check_pages) (defBody s_check_pages) (defScope s_check_pages) .none kV7 dc7 pm7 an7 cd7 ct7), sl7⟩) (c7 : PySem.W.codeIn K cd7 "_check_pages" = true) (k7 : PySem.W.keepIn K (.ref f7) = true)
    {od8 an8 : Option Addr} {sl8 : Array (Option Value)} {oc8 kV8 dc8 pm8 cd8 ct8 : Value}
    (a8 : PySem.W.nsIn K mainGlobals "_check_ends" = some (some (.ref f8))) (l8 : K.lookup f8 = some ⟨oc8, od8, .func (PySem.W.fnOf "_check_ends" "_check_ends" (defArgs s_check_ends) (defBody s_check_ends) (defScope s_check_ends) .none kV8 dc8 pm8 an8 cd8 ct8), sl8⟩) (c8 : PySem.W.codeIn K cd8 "_check_ends" = true) (k8 : PySem.W.keepIn K (.ref f8) = true)
    {od9 an9 : Option Addr} {sl9 : Array (Option Value)} {oc9 kV9 dc9 pm9 cd9 ct9 : Value}
    (a9 : PySem.W.nsIn K mainGlobals "_sorted_bids" = some (some (.ref f9))) (l9 : K.lookup f9 = some ⟨oc9, od9, .func (PySem.W.fnOf "_sorted_bids" "_sorted_bids" (defArgs s_sorted_bids) (defBody s_sorted_bids) (defScope s_sorted_bids) .none kV9 dc9 pm9 an9 cd9 ct9), sl9⟩) (c9 : PySem.W.codeIn K cd9 "_sorted_bids" = true) (k9 : PySem.W.keepIn K (.ref f9) = true)
    {od10 an10 : Option Addr} {sl10 : Array (Option Value)} {oc10 kV10 dc10 pm10 cd10 ct10 : Value}
    (a10 : PySem.W.nsIn K mainGlobals "_law_cell" = some (some (.ref f10))) (l10 : K.lookup f10 = some ⟨oc10, od10, .func (PySem.W.fnOf "_law_cell" "_law_cell" (defArgs s_L_cell) (defBody s_L_cell) (defScope s_L_cell) .none kV10 dc10 pm10 an10 cd10 ct10), sl10⟩) (c10 : PySem.W.codeIn K cd10 "_law_cell" = true) (k10 : PySem.W.keepIn K (.ref f10) = true)
    {od11 an11 : Option Addr} {sl11 : Array (Option Value)} {oc11 kV11 dc11 pm11 cd11 ct11 : Value}
    (a11 : PySem.W.nsIn K mainGlobals "_law_mixed" = some (some (.ref f11))) (l11 : K.lookup f11 = some ⟨oc11, od11, .func (PySem.W.fnOf "_law_mixed" "_law_mixed" (defArgs s_L_mixed) (defBody s_L_mixed) (defScope s_L_mixed) .none kV11 dc11 pm11 an11 cd11 ct11), sl11⟩) (c11 : PySem.W.codeIn K cd11 "_law_mixed" = true) (k11 : PySem.W.keepIn K (.ref f11) = true)
    {od12 an12 : Option Addr} {sl12 : Array (Option Value)} {oc12 kV12 dc12 pm12 cd12 ct12 : Value}
    (a12 : PySem.W.nsIn K mainGlobals "_law_pool" = some (some (.ref f12))) (l12 : K.lookup f12 = some ⟨oc12, od12, .func (PySem.W.fnOf "_law_pool" "_law_pool" (defArgs s_L_pool) (defBody s_L_pool) (defScope s_L_pool) .none kV12 dc12 pm12 an12 cd12 ct12), sl12⟩) (c12 : PySem.W.codeIn K cd12 "_law_pool" = true) (k12 : PySem.W.keepIn K (.ref f12) = true)
    {od13 an13 : Option Addr} {sl13 : Array (Option Value)} {oc13 kV13 dc13 pm13 cd13 ct13 : Value}
    (a13 : PySem.W.nsIn K mainGlobals "_law_part" = some (some (.ref f13))) (l13 : K.lookup f13 = some ⟨oc13, od13, .func (PySem.W.fnOf "_law_part" "_law_part" (defArgs s_L_part) (defBody s_L_part) (defScope s_L_part) .none kV13 dc13 pm13 an13 cd13 ct13), sl13⟩) (c13 : PySem.W.codeIn K cd13 "_law_part" = true) (k13 : PySem.W.keepIn K (.ref f13) = true)
    {od14 an14 : Option Addr} {sl14 : Array (Option Value)} {oc14 kV14 dc14 pm14 cd14 ct14 : Value}
    (a14 : PySem.W.nsIn K mainGlobals "_law_names" = some (some (.ref f14))) (l14 : K.lookup f14 = some ⟨oc14, od14, .func (PySem.W.fnOf "_law_names" "_law_names" (defArgs s_L_names) (defBody s_L_names) (defScope s_L_names) .none kV14 dc14 pm14 an14 cd14 ct14), sl14⟩) (c14 : PySem.W.codeIn K cd14 "_law_names" = true) (k14 : PySem.W.keepIn K (.ref f14) = true)
    {od15 an15 : Option Addr} {sl15 : Array (Option Value)} {oc15 kV15 dc15 pm15 cd15 ct15 : Value}
    (a15 : PySem.W.nsIn K mainGlobals "_law_big" = some (some (.ref f15))) (l15 : K.lookup f15 = some ⟨oc15, od15, .func (PySem.W.fnOf "_law_big" "_law_big" (defArgs s_L_big) (defBody s_L_big) (defScope s_L_big) .none kV15 dc15 pm15 an15 cd15 ct15), sl15⟩) (c15 : PySem.W.codeIn K cd15 "_law_big" = true) (k15 : PySem.W.keepIn K (.ref f15) = true)
    {od16 an16 : Option Addr} {sl16 : Array (Option Value)} {oc16 kV16 dc16 pm16 cd16 ct16 : Value}
    (a16 : PySem.W.nsIn K mainGlobals "_law_some" = some (some (.ref f16))) (l16 : K.lookup f16 = some ⟨oc16, od16, .func (PySem.W.fnOf "_law_some" "_law_some" (defArgs s_L_some) (defBody s_L_some) (defScope s_L_some) .none kV16 dc16 pm16 an16 cd16 ct16), sl16⟩) (c16 : PySem.W.codeIn K cd16 "_law_some" = true) (k16 : PySem.W.keepIn K (.ref f16) = true)
    {od17 an17 : Option Addr} {sl17 : Array (Option Value)} {oc17 kV17 dc17 pm17 cd17 ct17 : Value}
    (a17 : PySem.W.nsIn K mainGlobals "_law_pages" = some (some (.ref f17))) (l17 : K.lookup f17 = some ⟨oc17, od17, .func (PySem.W.fnOf "_law_pages" "_law_pages" (defArgs s_L_pages) (defBody s_L_pages) (defScope s_L_pages) .none kV17 dc17 pm17 an17 cd17 ct17), sl17⟩) (c17 : PySem.W.codeIn K cd17 "_law_pages" = true) (k17 : PySem.W.keepIn K (.ref f17) = true)
    {od18 an18 : Option Addr} {sl18 : Array (Option Value)} {oc18 kV18 dc18 pm18 cd18 ct18 : Value}
    (a18 : PySem.W.nsIn K mainGlobals "_law_integer" = some (some (.ref f18))) (l18 : K.lookup f18 = some ⟨oc18, od18, .func (PySem.W.fnOf "_law_integer" "_law_integer" (defArgs s_L_integer) (defBody s_L_integer) (defScope s_L_integer) .none kV18 dc18 pm18 an18 cd18 ct18), sl18⟩) (c18 : PySem.W.codeIn K cd18 "_law_integer" = true) (k18 : PySem.W.keepIn K (.ref f18) = true)
    {od19 an19 : Option Addr} {sl19 : Array (Option Value)} {oc19 kV19 dc19 pm19 cd19 ct19 : Value}
    (a19 : PySem.W.nsIn K mainGlobals "_law_same" = some (some (.ref f19))) (l19 : K.lookup f19 = some ⟨oc19, od19, .func (PySem.W.fnOf "_law_same" "_law_same" (defArgs s_L_same) (defBody s_L_same) (defScope s_L_same) .none kV19 dc19 pm19 an19 cd19 ct19), sl19⟩) (c19 : PySem.W.codeIn K cd19 "_law_same" = true) (k19 : PySem.W.keepIn K (.ref f19) = true)
    {od20 an20 : Option Addr} {sl20 : Array (Option Value)} {oc20 kV20 dc20 pm20 cd20 ct20 : Value}
    (a20 : PySem.W.nsIn K mainGlobals "_law_shuffled" = some (some (.ref f20))) (l20 : K.lookup f20 = some ⟨oc20, od20, .func (PySem.W.fnOf "_law_shuffled" "_law_shuffled" (defArgs s_L_shuffled) (defBody s_L_shuffled) (defScope s_L_shuffled) .none kV20 dc20 pm20 an20 cd20 ct20), sl20⟩) (c20 : PySem.W.codeIn K cd20 "_law_shuffled" = true) (k20 : PySem.W.keepIn K (.ref f20) = true)
    {od21 an21 : Option Addr} {sl21 : Array (Option Value)} {oc21 kV21 dc21 pm21 cd21 ct21 : Value}
    (a21 : PySem.W.nsIn K mainGlobals "_law_good" = some (some (.ref f21))) (l21 : K.lookup f21 = some ⟨oc21, od21, .func (PySem.W.fnOf "_law_good" "_law_good" (defArgs s_L_good) (defBody s_L_good) (defScope s_L_good) .none kV21 dc21 pm21 an21 cd21 ct21), sl21⟩) (c21 : PySem.W.codeIn K cd21 "_law_good" = true) (k21 : PySem.W.keepIn K (.ref f21) = true)
    {od22 an22 : Option Addr} {sl22 : Array (Option Value)} {oc22 kV22 dc22 pm22 cd22 ct22 : Value}
    (a22 : PySem.W.nsIn K mainGlobals "_law_made" = some (some (.ref f22))) (l22 : K.lookup f22 = some ⟨oc22, od22, .func (PySem.W.fnOf "_law_made" "_law_made" (defArgs s_L_made) (defBody s_L_made) (defScope s_L_made) .none kV22 dc22 pm22 an22 cd22 ct22), sl22⟩) (c22 : PySem.W.codeIn K cd22 "_law_made" = true) (k22 : PySem.W.keepIn K (.ref f22) = true)
    {od23 an23 : Option Addr} {sl23 : Array (Option Value)} {oc23 kV23 dc23 pm23 cd23 ct23 : Value}
    (a23 : PySem.W.nsIn K mainGlobals "_law_counts" = some (some (.ref f23))) (l23 : K.lookup f23 = some ⟨oc23, od23, .func (PySem.W.fnOf "_law_counts" "_law_counts" (defArgs s_L_counts) (defBody s_L_counts) (defScope s_L_counts) .none kV23 dc23 pm23 an23 cd23 ct23), sl23⟩) (c23 : PySem.W.codeIn K cd23 "_law_counts" = true) (k23 : PySem.W.keepIn K (.ref f23) = true)
    {od24 an24 : Option Addr} {sl24 : Array (Option Value)} {oc24 kV24 dc24 pm24 cd24 ct24 : Value}
    (a24 : PySem.W.nsIn K mainGlobals "_law_listed" = some (some (.ref f24))) (l24 : K.lookup f24 = some ⟨oc24, od24, .func (PySem.W.fnOf "_law_listed" "_law_listed" (defArgs s_L_listed) (defBody s_L_listed) (defScope s_L_listed) .none kV24 dc24 pm24 an24 cd24 ct24), sl24⟩) (c24 : PySem.W.codeIn K cd24 "_law_listed" = true) (k24 : PySem.W.keepIn K (.ref f24) = true)
    {od25 an25 : Option Addr} {sl25 : Array (Option Value)} {oc25 kV25 dc25 pm25 cd25 ct25 : Value}
    (a25 : PySem.W.nsIn K mainGlobals "_law_told" = some (some (.ref f25))) (l25 : K.lookup f25 = some ⟨oc25, od25, .func (PySem.W.fnOf "_law_told" "_law_told" (defArgs s_L_told) (defBody s_L_told) (defScope s_L_told) .none kV25 dc25 pm25 an25 cd25 ct25), sl25⟩) (c25 : PySem.W.codeIn K cd25 "_law_told" = true) (k25 : PySem.W.keepIn K (.ref f25) = true)
    {od26 an26 : Option Addr} {sl26 : Array (Option Value)} {oc26 kV26 dc26 pm26 cd26 ct26 : Value}
    (a26 : PySem.W.nsIn K mainGlobals "law" = some (some (.ref f26))) (l26 : K.lookup f26 = some ⟨oc26, od26, .func (PySem.W.fnOf "law" "law" (defArgs s_law) (defBody s_law) (defScope s_law) .none kV26 dc26 pm26 an26 cd26 ct26), sl26⟩) (c26 : PySem.W.codeIn K cd26 "law" = true) (k26 : PySem.W.keepIn K (.ref f26) = true)
    (aL : PySem.W.nsIn K mainGlobals "LETTERS" = some (some (.str lettersZ tk)))
    (z_len : PySem.W.nsIn K mainGlobals "len" = some none)
    (z_all : PySem.W.nsIn K mainGlobals "all" = some none)
    (z_enumerate : PySem.W.nsIn K mainGlobals "enumerate" = some none)
    (z_tuple : PySem.W.nsIn K mainGlobals "tuple" = some none)
    (z_list : PySem.W.nsIn K mainGlobals "list" = some none)
    (z_range : PySem.W.nsIn K mainGlobals "range" = some none)
    (z_abs : PySem.W.nsIn K mainGlobals "abs" = some none)
    (z_int : PySem.W.nsIn K mainGlobals "int" = some none)
    (z_isinstance : PySem.W.nsIn K mainGlobals "isinstance" = some none)
    (z_bool : PySem.W.nsIn K mainGlobals "bool" = some none)
    (z_str : PySem.W.nsIn K mainGlobals "str" = some none)
    (z_set : PySem.W.nsIn K mainGlobals "set" = some none)
    (z_ValueError : PySem.W.nsIn K mainGlobals "ValueError" = some none)
    (z_sum : PySem.W.nsIn K mainGlobals "sum" = some none)
    (z_reversed : PySem.W.nsIn K mainGlobals "reversed" = some none)
    (aBo : PySem.W.nsIn K mainGlobals "Book" = some (some (.ref CB))) (aPag : PySem.W.nsIn K mainGlobals "Page" = some (some (.ref CP)))
    (aPg : PySem.W.findIn K (.ref CP) "__init__" = some (some (.ref fPg))) (iPg : PySem.W.isFn K (.ref fPg) = true) (lPg : K.lookup fPg = some ⟨ocPg, odPg, .func (PySem.W.fnOf "__init__" "Page.__init__" (defArgs s_Page_init) (defBody s_Page_init) (defScope s_Page_init) .none kVPg dcPg pmPg anPg cdPg ctPg), slPg⟩) (cPg : PySem.W.codeIn K cdPg "Page.__init__" = true) (kPg : PySem.W.keepIn K (.ref fPg) = true)
    (aBk : PySem.W.findIn K (.ref CB) "__init__" = some (some (.ref fBk))) (iBk : PySem.W.isFn K (.ref fBk) = true) (lBk : K.lookup fBk = some ⟨ocBk, odBk, .func (PySem.W.fnOf "__init__" "Book.__init__" (defArgs s_Book_init) (defBody s_Book_init) (defScope s_Book_init) .none (.ref DH) dcBk pmBk anBk cdBk ctBk), slBk⟩) (cBk : PySem.W.codeIn K cdBk "Book.__init__" = true) (kBk : PySem.W.keepIn K (.ref fBk) = true)
    (aBp : PySem.W.findIn K (.ref CB) "page" = some (some (.ref fBp))) (iBp : PySem.W.isFn K (.ref fBp) = true) (lBp : K.lookup fBp = some ⟨ocBp, odBp, .func (PySem.W.fnOf "page" "Book.page" (defArgs s_Book_page) (defBody s_Book_page) (defScope s_Book_page) .none kVBp dcBp pmBp anBp cdBp ctBp), slBp⟩) (cBp : PySem.W.codeIn K cdBp "Book.page" = true) (kBp : PySem.W.keepIn K (.ref fBp) = true)
    (aBw : PySem.W.findIn K (.ref CB) "walks" = some (some (.ref fBw))) (iBw : PySem.W.isFn K (.ref fBw) = true) (lBw : K.lookup fBw = some ⟨ocBw, odBw, .func (PySem.W.fnOf "walks" "Book.walks" (defArgs s_Book_walks) (defBody s_Book_walks) (defScope s_Book_walks) .none kVBw dcBw pmBw anBw cdBw ctBw), slBw⟩) (cBw : PySem.W.codeIn K cdBw "Book.walks" = true) (kBw : PySem.W.keepIn K (.ref fBw) = true)
    (aBc : PySem.W.findIn K (.ref CB) "count_walks" = some (some (.ref fBc))) (iBc : PySem.W.isFn K (.ref fBc) = true) (lBc : K.lookup fBc = some ⟨ocBc, odBc, .func (PySem.W.fnOf "count_walks" "Book.count_walks" (defArgs s_Book_count_walks) (defBody s_Book_count_walks) (defScope s_Book_count_walks) .none kVBc dcBc pmBc anBc cdBc ctBc), slBc⟩) (cBc : PySem.W.codeIn K cdBc "Book.count_walks" = true) (kBc : PySem.W.keepIn K (.ref fBc) = true)
    (pgB : PySem.W.plainGet K CB Str.empty = true) (hdB : PySem.W.hasDictIn K CB = true) (poB : PySem.W.plainOver K CB = true) (saB : PySem.W.findIn K (.ref CB) "__setattr__" = some (some (.builtin "object.__setattr__"))) (mkB : PySem.W.makesIn K CB = true) (kcB : PySem.W.keepIn K (.ref CB) = true) (nA0B : PySem.W.findIn K (.ref CB) "members" = some none) (nA1B : PySem.W.findIn K (.ref CB) "names" = some none) (nA2B : PySem.W.findIn K (.ref CB) "starts" = some none) (nA3B : PySem.W.findIn K (.ref CB) "home" = some none) (nA4B : PySem.W.findIn K (.ref CB) "_rows" = some none) (nA5B : PySem.W.findIn K (.ref CB) "_pages" = some none)
    (pgP : PySem.W.plainGet K CP Str.empty = true) (hdP : PySem.W.hasDictIn K CP = true) (poP : PySem.W.plainOver K CP = true) (saP : PySem.W.findIn K (.ref CP) "__setattr__" = some (some (.builtin "object.__setattr__"))) (mkP : PySem.W.makesIn K CP = true) (kcP : PySem.W.keepIn K (.ref CP) = true) (nA0P : PySem.W.findIn K (.ref CP) "name" = some none) (nA1P : PySem.W.findIn K (.ref CP) "bids" = some none) (nA2P : PySem.W.findIn K (.ref CP) "wishers" = some none) (nA3P : PySem.W.findIn K (.ref CP) "followers" = some none) (nA4P : PySem.W.findIn K (.ref CP) "home" = some none)
    (nHm : PySem.W.nsIn K DH "home" = some (some (.ref EH))) (lEH : K.lookup EH = some ⟨.type "tuple", odEH, .seq (List.toArray []) nEH, slEH⟩)
    (lDN : K.lookup DN = some ⟨ocN2, odN2, .seq (List.toArray [Value.bool false]) nN, slN2⟩)
    (hgt : PySem.W.specialIn K (.builtin "object.__class__") "__get__" = some (some (.builtin "getset_descriptor.__get__"))) (htk : PySem.W.takesIn K (.builtin "object.__class__") = some true)
    (htopS : (l.prog.main.scope.names.lookup ("super" : Str)).isSome = false) (z_super : PySem.W.nsIn K mainGlobals "super" = some none) (hstS : PySem.W.nsIn K cStatics "thirdparty.any" = some none)
    (aeB : PySem.W.nsIn K mainGlobals "BadNumber" = some (some (.ref CeB))) (ibeB : PySem.W.findIn K (.ref CeB) "__init__" = some (some (.ref feB)))
    (leB : K.lookup feB = some ⟨oceB, odeB, .func (PySem.W.fnX "__init__" "BadNumber.__init__" (defArgs s_BadNumber_init) (defBody s_BadNumber_init) (defScope s_BadNumber_init) [("__class__", cceB)] .none kVeB doceB pmeB aneB (.ref cdaeB) cteB), osleB⟩) (cbeB : PySem.W.codeIn K (.ref cdaeB) "BadNumber.__init__" = true)
    (hceB : K.lookup cdaeB = some ⟨ccleB, cddeB, .fields vseB, ccseB⟩) (hveB : vseB[2]? = some (.str fileeB tfeB)) (hfeB : ((l.prog.main.file : Str) == fileeB) = true) (hleB : K.lookup cceB = some ⟨cleB, cldeB, .cell (some (.ref CeB)), csleB⟩)
    (lceB : K.lookup CeB = some (excClassObj nmeB qeB CeB NNeB bseB bmeB true sneB subeB abeB coleB ddeB k0eB k1eB k2eB k3eB k5eB "ValueError.__new__")) (rfeB : PySem.HandSPX.refsVE bmeB = true) (saeB : PySem.W.findIn K (.ref CeB) "__setattr__" = some (some (.builtin "object.__setattr__")))
    (bxeB : PySem.W.subIn K (.ref CeB) (.type "BaseException") = some true) (tyeB : PySem.W.typeIn K (.ref CeB) = some (.type "type")) (kceB : PySem.W.keepIn K (.ref CeB) = true) (hmeB : PySem.W.mroIn K CeB (.ref CeB) = some true)
    (aleB : PySem.W.ks_superIn K CeB CeB "__init__" = some (some (.builtin "ValueError.__init__"))) (veeB : PySem.W.subIn K (.ref CeB) (.type "ValueError") = some true) (noeB : PySem.W.findIn K (.ref CeB) "number" = some none) (tfeBx : PySem.W.typeIn K (.ref feB) = some (.type "function"))
    (gaeB : PySem.W.findIn K (.ref CeB) "__getattribute__" = some (some (.builtin "BaseException.__getattribute__"))) (ggeB : PySem.W.findIn K (.ref CeB) "__getattr__" = some none) (hdeB : PySem.W.hasDictIn K CeB = true) (cceBx : PySem.W.findIn K (.ref CeB) "__class__" = some (some (.builtin "object.__class__")))
    (moeB : PySem.W.mroIn K CeB (.type "object") = some true) (iseB : PySem.W.isClsIn K CeB = true) (sueB : PySem.W.subIn K (.ref CeB) (.ref CeB) = some true)
    (aN1 : PySem.W.nsIn K mainGlobals "BadBook" = some (some (.ref CN1))) (isN1 : PySem.W.isClsIn K CN1 = true) (tyN1 : PySem.W.typeIn K (.ref CN1) = some (.type "type"))
    (aN2 : PySem.W.nsIn K mainGlobals "BadCount" = some (some (.ref CN2))) (isN2 : PySem.W.isClsIn K CN2 = true) (tyN2 : PySem.W.typeIn K (.ref CN2) = some (.type "type"))
    (aNH : PySem.W.nsIn K mainGlobals "HouseError" = some (some (.ref CNH))) (isNH : PySem.W.isClsIn K CNH = true) (tyNH : PySem.W.typeIn K (.ref CNH) = some (.type "type"))
    (sbeB_N1 : PySem.W.subIn K (.ref CeB) (.ref CN1) = some false)
    (sbeB_N2 : PySem.W.subIn K (.ref CeB) (.ref CN2) = some false)
    (sbeB_NH : PySem.W.subIn K (.ref CeB) (.ref CNH) = some true) :
    ∃ fd : FuncData, (∀ (s : Shared) (v : Value), BindsTo s fd ⟨[v], []⟩ [("_law_script", v)]) ∧ ∀ base : Heap, K.In base → base.Ns mainGlobals mg → FnOk l.prog w K mg base CX0 7 fa fd ["_law_script"] (spLaw K) := by
  have e := hfa.symm.trans (PySem.W.mg_of X G a26)
  cases e
  have m_len := PySem.W.mg_none_of X G z_len
  have m_all := PySem.W.mg_none_of X G z_all
  have m_enumerate := PySem.W.mg_none_of X G z_enumerate
  have m_tuple := PySem.W.mg_none_of X G z_tuple
  have m_list := PySem.W.mg_none_of X G z_list
  have m_range := PySem.W.mg_none_of X G z_range
  have m_abs := PySem.W.mg_none_of X G z_abs
  have m_int := PySem.W.mg_none_of X G z_int
  have m_isinstance := PySem.W.mg_none_of X G z_isinstance
  have m_bool := PySem.W.mg_none_of X G z_bool
  have m_str := PySem.W.mg_none_of X G z_str
  have m_set := PySem.W.mg_none_of X G z_set
  have m_ValueError := PySem.W.mg_none_of X G z_ValueError
  have m_sum := PySem.W.mg_none_of X G z_sum
  have m_reversed := PySem.W.mg_none_of X G z_reversed
  have F0 := fun_mk (st := s_wall) l0 c0 k0
  have b0 := F0.binds (ps := ["k"]) fun _ _ _ _ _ _ us hl => match us, hl with | [_], _ => rfl
  have g0 := PySem.W.mg_of X G a0
  have F1 := fun_mk (st := s_is_name) l1 c1 k1
  have b1 := F1.binds (ps := ["word"]) fun _ _ _ _ _ _ us hl => match us, hl with | [_], _ => rfl
  have g1 := PySem.W.mg_of X G a1
  have F2 := fun_mk (st := s_check_size) l2 c2 k2
  have b2 := F2.binds (ps := ["size", "low", "high"]) fun _ _ _ _ _ _ us hl => match us, hl with | [_, _, _], _ => rfl
  have g2 := PySem.W.mg_of X G a2
  have F3 := fun_mk (st := s_check_range) l3 c3 k3
  have b3 := F3.binds (ps := ["number", "low", "high"]) fun _ _ _ _ _ _ us hl => match us, hl with | [_, _, _], _ => rfl
  have g3 := PySem.W.mg_of X G a3
  have F4 : FunD K "check_names" "check_names" (defArgs s_check_names) (defBody s_check_names) (defScope s_check_names) [V.bl false] [] f4 _ := ⟨⟨oc4, od4, .ref DN, kV4, dc4, pm4, an4, cd4, ct4, sl4, rfl, l4, c4, .inr ⟨by simp, DN, _, [Value.bool false], nN, rfl, lDN, rfl, .cons rfl .nil⟩, .inl rfl⟩, k4⟩
  have g4 := PySem.W.mg_of X G a4
  have F5 := fun_mk (st := s_are_picks) l5 c5 k5
  have b5 := F5.binds (ps := ["picks", "known"]) fun _ _ _ _ _ _ us hl => match us, hl with | [_, _], _ => rfl
  have g5 := PySem.W.mg_of X G a5
  have F6 := fun_mk (st := s_are_bids) l6 c6 k6
  have b6 := F6.binds (ps := ["bids", "members"]) fun _ _ _ _ _ _ us hl => match us, hl with | [_, _], _ => rfl
  have g6 := PySem.W.mg_of X G a6
  have F7 := fun_mk (st := s_check_pages) l7 c7 k7
  have b7 := F7.binds (ps := ["members", "pages"]) fun _ _ _ _ _ _ us hl => match us, hl with | [_, _], _ => rfl
  have g7 := PySem.W.mg_of X G a7
  have F8 := fun_mk (st := s_check_ends) l8 c8 k8
  have b8 := F8.binds (ps := ["names", "starts", "home"]) fun _ _ _ _ _ _ us hl => match us, hl with | [_, _, _], _ => rfl
  have g8 := PySem.W.mg_of X G a8
  have F9 := fun_mk (st := s_sorted_bids) l9 c9 k9
  have b9 := F9.binds (ps := ["members", "bids"]) fun _ _ _ _ _ _ us hl => match us, hl with | [_, _], _ => rfl
  have g9 := PySem.W.mg_of X G a9
  have F10 := fun_mk (st := s_L_cell) l10 c10 k10
  have b10 := F10.binds (ps := ["_law_script", "_law_k"]) fun _ _ _ _ _ _ us hl => match us, hl with | [_, _], _ => rfl
  have g10 := PySem.W.mg_of X G a10
  have F11 := fun_mk (st := s_L_mixed) l11 c11 k11
  have b11 := F11.binds (ps := ["_law_cell_here", "_law_k"]) fun _ _ _ _ _ _ us hl => match us, hl with | [_, _], _ => rfl
  have g11 := PySem.W.mg_of X G a11
  have F12 := fun_mk (st := s_L_pool) l12 c12 k12
  have b12 := F12.binds (ps := ["_law_cell_here", "_law_number"]) fun _ _ _ _ _ _ us hl => match us, hl with | [_, _], _ => rfl
  have g12 := PySem.W.mg_of X G a12
  have F13 := fun_mk (st := s_L_part) l13 c13 k13
  have b13 := F13.binds (ps := ["_law_pool_here", "_law_spot", "_law_under", "_law_size"]) fun _ _ _ _ _ _ us hl => match us, hl with | [_, _, _, _], _ => rfl
  have g13 := PySem.W.mg_of X G a13
  have F14 := fun_mk (st := s_L_names) l14 c14 k14
  have b14 := F14.binds (ps := ["_law_pool_here", "_law_spot", "_law_number"]) fun _ _ _ _ _ _ us hl => match us, hl with | [_, _, _], _ => rfl
  have g14 := PySem.W.mg_of X G a14
  have F15 := fun_mk (st := s_L_big) l15 c15 k15
  have b15 := F15.binds (ps := ["_law_pool_here", "_law_spot", "_law_least", "_law_crest"]) fun _ _ _ _ _ _ us hl => match us, hl with | [_, _, _, _], _ => rfl
  have g15 := PySem.W.mg_of X G a15
  have F16 := fun_mk (st := s_L_some) l16 c16 k16
  have b16 := F16.binds (ps := ["_law_pool_here", "_law_spot", "_law_names_here"]) fun _ _ _ _ _ _ us hl => match us, hl with | [_, _, _], _ => rfl
  have g16 := PySem.W.mg_of X G a16
  have F17 := fun_mk (st := s_L_pages) l17 c17 k17
  have b17 := F17.binds (ps := ["_law_pool_here", "_law_spot", "_law_members", "_law_names_here"]) fun _ _ _ _ _ _ us hl => match us, hl with | [_, _, _, _], _ => rfl
  have g17 := PySem.W.mg_of X G a17
  have F18 := fun_mk (st := s_L_integer) l18 c18 k18
  have b18 := F18.binds (ps := ["_law_got"]) fun _ _ _ _ _ _ us hl => match us, hl with | [_], _ => rfl
  have g18 := PySem.W.mg_of X G a18
  have F19 := fun_mk (st := s_L_same) l19 c19 k19
  have b19 := F19.binds (ps := ["_law_got", "_law_wanted"]) fun _ _ _ _ _ _ us hl => match us, hl with | [_, _], _ => rfl
  have g19 := PySem.W.mg_of X G a19
  have F20 := fun_mk (st := s_L_shuffled) l20 c20 k20
  have b20 := F20.binds (ps := ["_law_pool_here", "_law_spot", "_law_row"]) fun _ _ _ _ _ _ us hl => match us, hl with | [_, _, _], _ => rfl
  have g20 := PySem.W.mg_of X G a20
  have F21 := fun_mk (st := s_L_good) l21 c21 k21
  have b21 := F21.binds (ps := ["_law_head"]) fun _ _ _ _ _ _ us hl => match us, hl with | [_], _ => rfl
  have g21 := PySem.W.mg_of X G a21
  have F22 := fun_mk (st := s_L_made) l22 c22 k22
  have b22 := F22.binds (ps := ["_law_parts"]) fun _ _ _ _ _ _ us hl => match us, hl with | [_], _ => rfl
  have g22 := PySem.W.mg_of X G a22
  have F23 := fun_mk (st := s_L_counts) l23 c23 k23
  have b23 := F23.binds (ps := ["_law_rows", "_law_firsts", "_law_turns"]) fun _ _ _ _ _ _ us hl => match us, hl with | [_, _, _], _ => rfl
  have g23 := PySem.W.mg_of X G a23
  have F24 := fun_mk (st := s_L_listed) l24 c24 k24
  have b24 := F24.binds (ps := ["_law_book", "_law_turns", "_law_crest"]) fun _ _ _ _ _ _ us hl => match us, hl with | [_, _, _], _ => rfl
  have g24 := PySem.W.mg_of X G a24
  have F25 := fun_mk (st := s_L_told) l25 c25 k25
  have b25 := F25.binds (ps := ["_law_book", "_law_number"]) fun _ _ _ _ _ _ us hl => match us, hl with | [_, _], _ => rfl
  have g25 := PySem.W.mg_of X G a25
  have F26 := fun_mk (st := s_law) l26 c26 k26
  have b26 := F26.binds (ps := ["_law_script"]) fun _ _ _ _ _ _ us hl => match us, hl with | [_], _ => rfl
  have g26 := PySem.W.mg_of X G a26
  have gLET := PySem.W.mg_of X G aL
  refine ⟨PySem.W.fnOf "law" "law" (defArgs s_law) (defBody s_law) (defScope s_law) .none kV26 dc26 pm26 an26 cd26 ct26, fun s v => .of_eq rfl, fun base _ _ => ?_⟩
  have FPg := fun_mk (st := s_Page_init) lPg cPg kPg
  have bPg := FPg.binds (ps := ["self", "name", "bids", "followers", "home"]) fun _ _ _ _ _ _ us hl => match us, hl with | [_, _, _, _, _], _ => rfl
  have FBp := fun_mk (st := s_Book_page) lBp cBp kBp
  have bBp := FBp.binds (ps := ["self", "name"]) fun _ _ _ _ _ _ us hl => match us, hl with | [_, _], _ => rfl
  have FBw := fun_mk (st := s_Book_walks) lBw cBw kBw
  have bBw := FBw.binds (ps := ["self", "rounds"]) fun _ _ _ _ _ _ us hl => match us, hl with | [_, _], _ => rfl
  have FBc := fun_mk (st := s_Book_count_walks) lBc cBc kBc
  have bBc := FBc.binds (ps := ["self", "rounds"]) fun _ _ _ _ _ _ us hl => match us, hl with | [_, _], _ => rfl
  have kbBc := fun_kb (ps := ["self", "rounds"]) FBc 1 ["rounds"] fun _ _ _ _ _ _ us ws h1 h2 => match us, h1, ws, h2 with | [_], _, [_], _ => rfl
  have FBk : FunD K "__init__" "Book.__init__" (defArgs s_Book_init) (defBody s_Book_init) (defScope s_Book_init) [] [("home", V.ref EH)] fBk _ := ⟨⟨ocBk, odBk, .none, .ref DH, dcBk, pmBk, anBk, cdBk, ctBk, slBk, rfl, lBk, cBk, .inl ⟨rfl, rfl⟩, .inr ⟨DH, rfl, fun q hq => by
    rw [List.mem_singleton.mp hq]
    exact ⟨_, nHm, rfl⟩⟩⟩, kBk⟩
  obtain ⟨dsB, vB, bB⟩ := FBk.binds0 (ps := ["self", "members", "pages", "starts", "home"]) 4 (by simp) rfl fun D doc pm an cdv ct us ks h1 h2 => match us, h1, ks, h2 with | [_, _, _, _], _, [_], _ => ⟨_, _, _, _, _, _, rfl, rfl, rfl⟩
  have hEH : ∀ H : Hp, SqT K H EH [] := fun H => .inr ⟨_, List.toArray [], nEH, lEH, rfl, rfl, by decide, .nil⟩
  have MePg : Meth K CB "page" fBp := ⟨aBp, iBp, kBp⟩
  have MeBw : Meth K CB "walks" fBw := ⟨aBw, iBw, kBw⟩
  have MeBc : Meth K CB "count_walks" fBc := ⟨aBc, iBc, kBc⟩
  have MkP : Mk K CP fPg := ⟨mkP, aPg, iPg, kcP⟩
  have MkB : Mk K CB fBk := ⟨mkB, aBk, iBk, kcB⟩

  have m_super := PySem.W.mg_none_of X G z_super
  have KeB : ClsK K CeB := ⟨iseB, tyeB⟩
  have TeB : SupT l.prog w K mg base "BadNumber" "number" "number" (fun _ => True) CeB feB _ := ⟨PySem.W.mg_of X G aeB, oexC_mk lceB rfeB saeB bxeB tyeB kceB, ibeB, tfeBx, fn_sup (k := 0) (okv := fun _ => True) leB cbeB hceB hveB hfeB hleB (nscope_by (by decide +kernel)) (by decide +kernel) rfl rfl htopS m_super (oexC_mk lceB rfeB saeB bxeB tyeB kceB) hmeB hstS aleB veeB noeB
    (fun A outer s H E => pa_cons pe_str pa_nil) (fun _ => rfl) (fun a y H Q _ h => h _) (by decide) (by decide) (fun _ => rfl), Binds.all (fun us hl => match us, hl with | [_, _], _ => rfl), ⟨gaeB, ggeB, bxeB, hdeB⟩, noeB, exm_self KeB bxeB sueB⟩
  have EeB : ExcC K CeB := ⟨gaeB, ggeB, bxeB, hdeB, cceBx, hgt, htk, moeB⟩
  have KN1 : ClsK K CN1 := ⟨isN1, tyN1⟩
  have KN2 : ClsK K CN2 := ⟨isN2, tyN2⟩
  have KNH : ClsK K CNH := ⟨isNH, tyNH⟩
  have ET : ErrN K mg CeB CN1 CN2 CNH := ⟨PySem.W.mg_of X G aN1, PySem.W.mg_of X G aN2, PySem.W.mg_of X G aNH, (kitAny_c (kit_no KN1 sueB sbeB_N1) (kitAny_c (kit_no KN2 sueB sbeB_N2) rfl)), kit_yes KNH sbeB_NH, kitT_yes kitMeta_VE veeB⟩
  have TB : TxtBk K CB := ⟨⟨pgB, hdB, poB, saB⟩, nA0B, nA1B, nA2B, nA3B, nA4B, nA5B⟩
  have TP_ : TxtPg K CP := ⟨⟨pgP, hdP, poP, saP⟩, nA0P, nA1P, nA2P, nA3P, nA4P⟩

  have d_is_name : Def l.prog w K mg base "is_name" 1 ["word"] spIsNameH := ⟨_, _, ok_is_nameH F1 m_len m_all gLET, g1, k1, b1⟩
  have d_check_size : Def l.prog w K mg base "check_size" 1 ["size", "low", "high"] (spRange) := ⟨_, _, ok_check_size F2 , g2, k2, b2⟩

  obtain ⟨dsN2, vdN2, bdN2⟩ := F4.binds1 (ps := ["names", "most", "hook"]) 2 0 (by simp) rfl fun _ _ _ _ _ _ _ us its h1 h2 => match us, h1, its, h2 with | [_, _], _, [_], _ => ⟨_, rfl, rfl⟩
  have d_check_names : DefD l.prog w K mg base "check_names" 2 ["names", "most", "hook"] (spCheckN K) [.bl false] := ⟨_, _, dsN2, ok_check_namesN F4 m_len m_enumerate d_check_size d_is_name, g4, k4, bdN2, vdN2⟩
  have d_are_picks : Def l.prog w K mg base "_are_picks" 1 ["picks", "known"] (spArePicks K) := ⟨_, _, ok_are_picks F5 m_all m_len m_set, g5, k5, b5⟩
  have d_are_picksM : Def l.prog w K mg base "_are_picks" 1 ["picks", "known"] (fun vs H Q E => spArePicks K vs H Q E ∨ spArePicksT K vs H Q E) := ⟨_, _, fn_or (ok_are_picks F5 m_all m_len m_set) (ok_are_picksT F5 m_all m_len m_set), g5, k5, b5⟩
  have d_are_bids : Def l.prog w K mg base "_are_bids" 2 ["bids", "members"] (spAreBids K) := ⟨_, _, ok_are_bids F6 m_all d_are_picks, g6, k6, b6⟩
  have d_check_pages : Def l.prog w K mg base "_check_pages" 3 ["members", "pages"] (spCheckPg K) := ⟨_, _, ok_check_pages F7 m_len m_enumerate d_is_name d_are_picks d_are_bids, g7, k7, b7⟩
  have d_check_endsM : Def l.prog w K mg base "_check_ends" 2 ["names", "starts", "home"] (spEndsM K) := ⟨_, _, ok_check_endsM F8 m_len d_are_picksM, g8, k8, b8⟩
  have d_sorted_bids : Def l.prog w K mg base "_sorted_bids" 1 ["members", "bids"] (spSortB K) := ⟨_, _, ok_sorted_bids F9 m_tuple, g9, k9, b9⟩
  have G_Page := ok_Page (P := l.prog) (w := w) (mg := mg) (base := base) FPg TP_ m_tuple
  have G_BookM := ok_BookM (P := l.prog) (w := w) (mg := mg) (base := base) FBk TB m_tuple d_check_names d_check_pages d_check_endsM d_sorted_bids MkP G_Page (PySem.W.mg_of X G aPag) bPg
  have G_page := ok_Book_page (CP := CP) (P := l.prog) (w := w) (mg := mg) (base := base) FBp TB
  have G_check_range := ok_check_rangeX (P := l.prog) (w := w) (mg := mg) (base := base) F3 TeB
  have G_count := ok_Book_count_walks (CP := CP) (P := l.prog) (w := w) (mg := mg) (base := base) FBc TB TP_ m_sum m_range G_check_range g3 k3 b3
  obtain ⟨tW, GBw, WRw⟩ := ok_walks (CP := CP) (f := fBw) (P := l.prog) (w := w) (mg := mg) (base := base) TB TP_ m_len m_list m_reversed MePg G_page bBp
  have d_L_cell : Def l.prog w K mg base "_law_cell" 1 ["_law_script", "_law_k"] (spCellA K) := ⟨_, _, ok_L_cell F10 m_len m_range m_abs, g10, k10, b10⟩
  have d_L_mixed : Def l.prog w K mg base "_law_mixed" 1 ["_law_cell_here", "_law_k"] (spMixed) := ⟨_, _, ok_L_mixed F11 m_abs, g11, k11, b11⟩
  have d_L_pool : Def l.prog w K mg base "_law_pool" 2 ["_law_cell_here", "_law_number"] (spPool) := ⟨_, _, ok_L_pool F12 m_range m_abs d_L_mixed, g12, k12, b12⟩
  have d_L_part : Def l.prog w K mg base "_law_part" 1 ["_law_pool_here", "_law_spot", "_law_under", "_law_size"] (spPart K) := ⟨_, _, ok_L_part F13 m_int, g13, k13, b13⟩
  have d_L_names : Def l.prog w K mg base "_law_names" 2 ["_law_pool_here", "_law_spot", "_law_number"] (spNames K) := ⟨_, _, ok_L_names F14 m_range m_int d_L_part, g14, k14, b14⟩
  have d_L_big : Def l.prog w K mg base "_law_big" 1 ["_law_pool_here", "_law_spot", "_law_least", "_law_crest"] (spBig K) := ⟨_, _, ok_L_big F15 m_int, g15, k15, b15⟩
  have d_L_some : Def l.prog w K mg base "_law_some" 2 ["_law_pool_here", "_law_spot", "_law_names_here"] (spSome K) := ⟨_, _, ok_L_some F16 m_len m_range d_L_part, g16, k16, b16⟩
  have d_L_pages : Def l.prog w K mg base "_law_pages" 3 ["_law_pool_here", "_law_spot", "_law_members", "_law_names_here"] (spPagesL K) := ⟨_, _, ok_L_pages F17 m_len m_range d_L_part d_L_some, g17, k17, b17⟩
  have d_L_integer : Def l.prog w K mg base "_law_integer" 1 ["_law_got"] (spInteger) := ⟨_, _, ok_L_integer F18 m_isinstance m_int m_bool, g18, k18, b18⟩
  have d_L_same : Def l.prog w K mg base "_law_same" 3 ["_law_got", "_law_wanted"] (spSame 1) := ⟨_, _, ok_L_same F19 g19 b19 ⟨m_isinstance, m_int, m_bool, m_str, m_tuple, m_list, m_len, m_range⟩ d_L_integer 1 (by decide), g19, k19, b19⟩
  have d_L_shuffled : Def l.prog w K mg base "_law_shuffled" 2 ["_law_pool_here", "_law_spot", "_law_row"] (spShufG vN K) := ⟨_, _, ok_L_shuffledG vN F20 m_len m_range m_list d_L_part, g20, k20, b20⟩
  have d_L_good : Def l.prog w K mg base "_law_good" 4 ["_law_head"] (spGood3 K) := ⟨_, _, ok_L_good F21 m_len d_L_part d_L_names d_L_pages d_L_shuffled, g21, k21, b21⟩
  have d_L_made : Def l.prog w K mg base "_law_made" 6 ["_law_parts"] (spMade3 CB CP) := ⟨_, _, ok_L_made F22 m_list MkB G_BookM (PySem.W.mg_of X G aBo) bB vB hEH, g22, k22, b22⟩
  have d_L_counts : Def l.prog w K mg base "_law_counts" 1 ["_law_rows", "_law_firsts", "_law_turns"] (spCounts K) := ⟨_, _, ok_L_counts F23 m_int m_range m_len m_sum, g23, k23, b23⟩
  have d_L_listed : Def l.prog w K mg base "_law_listed" 4 ["_law_book", "_law_turns", "_law_crest"] (spListed CB CP) := ⟨_, _, ok_L_listed F24 TB MeBw FBw bBw GBw WRw, g24, k24, b24⟩
  have d_L_told : Def l.prog w K mg base "_law_told" 6 ["_law_book", "_law_number"] (spTold3 CB CP) := ⟨_, _, ok_L_told F25 TB TeB EeB ET m_isinstance m_ValueError MeBc G_count kbBc, g25, k25, b25⟩
  exact ok_law F26 m_range d_L_cell d_L_pool d_L_part d_L_big d_L_good d_L_made d_L_counts d_L_listed d_L_told d_L_same
end TK

open PySem PySem.W PyProof.Rows
set_option maxRecDepth 100000 in
set_option maxHeartbeats 0 in
theorem PySem.Challenge.cw_turnsandkeys_k39_walks_counted_holds : PySem.Challenge.rw_turnsandkeys_k39_walks_counted.Holds := by
  w_on; o_law; k_head; (case hw => w_witness2)
  k_fill
  refine L2.walk_of (l := PySem.Challenge.rw_turnsandkeys_k39_walks_counted) (n := 63) (k := 7) (x := "_law_script") (CX := fun _ => L2.CX0) (sp := fun w => TK.spLaw _) rfl (by decide) rfl ⟨rfl, by decide, by decide⟩ (fun w h Y => PySem.W.kIn_of Y) ?F (fun _ _ a ns hl _ hS => ⟨a, ns, rfl, hS, hl, fun _ => rfl⟩) (fun _ _ _ _ _ h => h)
  case F =>
    intro w mg fa h KX G hmg
    refine' TK.all_mk KX G hmg ?a0 ?l0 ?c0 ?k0 ?a1 ?l1 ?c1 ?k1 ?a2 ?l2 ?c2 ?k2 ?a3 ?l3 ?c3 ?k3 ?a4 ?l4 ?c4 ?k4 ?a5 ?l5 ?c5 ?k5 ?a6 ?l6 ?c6 ?k6 ?a7 ?l7 ?c7 ?k7 ?a8 ?l8 ?c8 ?k8 ?a9 ?l9 ?c9 ?k9 ?a10 ?l10 ?c10 ?k10 ?a11 ?l11 ?c11 ?k11 ?a12 ?l12 ?c12 ?k12 ?a13 ?l13 ?c13 ?k13 ?a14 ?l14 ?c14 ?k14 ?a15 ?l15 ?c15 ?k15 ?a16 ?l16 ?c16 ?k16 ?a17 ?l17 ?c17 ?k17 ?a18 ?l18 ?c18 ?k18 ?a19 ?l19 ?c19 ?k19 ?a20 ?l20 ?c20 ?k20 ?a21 ?l21 ?c21 ?k21 ?a22 ?l22 ?c22 ?k22 ?a23 ?l23 ?c23 ?k23 ?a24 ?l24 ?c24 ?k24 ?a25 ?l25 ?c25 ?k25 ?a26 ?l26 ?c26 ?k26 ?aL ?z_len ?z_all ?z_enumerate ?z_tuple ?z_list ?z_range ?z_abs ?z_int ?z_isinstance ?z_bool ?z_str ?z_set ?z_ValueError ?z_sum ?z_reversed ?aBo ?aPag ?aPg ?iPg ?lPg ?cPg ?kPg ?aBk ?iBk ?lBk ?cBk ?kBk ?aBp ?iBp ?lBp ?cBp ?kBp ?aBw ?iBw ?lBw ?cBw ?kBw ?aBc ?iBc ?lBc ?cBc ?kBc ?pgB ?hdB ?poB ?saB ?mkB ?kcB ?nA0B ?nA1B ?nA2B ?nA3B ?nA4B ?nA5B ?pgP ?hdP ?poP ?saP ?mkP ?kcP ?nA0P ?nA1P ?nA2P ?nA3P ?nA4P ?nHm ?lEH ?lDN ?hgt ?htk ?htopS ?z_super ?hstS ?aeB ?ibeB ?leB ?cbeB ?hceB ?hveB ?hfeB ?hleB ?lceB ?rfeB ?saeB ?bxeB ?tyeB ?kceB ?hmeB ?aleB ?veeB ?noeB ?tfeBx ?gaeB ?ggeB ?hdeB ?cceBx ?moeB ?iseB ?sueB ?aN1 ?isN1 ?tyN1 ?aN2 ?isN2 ?tyN2 ?aNH ?isNH ?tyNH ?sbeB_N1 ?sbeB_N2 ?sbeB_NH
    (case a0 => k_is); (case l0 => k_is); (case c0 => k_is); (case k0 => k_is); (case a1 => k_is); (case l1 => k_is); (case c1 => k_is); (case k1 => k_is); (case a2 => k_is); (case l2 => k_is); (case c2 => k_is); (case k2 => k_is); (case a3 => k_is); (case l3 => k_is); (case c3 => k_is); (case k3 => k_is); (case a4 => k_is); (case l4 => k_is); (case c4 => k_is); (case k4 => k_is); (case a5 => k_is); (case l5 => k_is); (case c5 => k_is); (case k5 => k_is); (case a6 => k_is); (case l6 => k_is); (case c6 => k_is); (case k6 => k_is); (case a7 => k_is); (case l7 => k_is); (case c7 => k_is); (case k7 => k_is); (case a8 => k_is); (case l8 => k_is); (case c8 => k_is); (case k8 => k_is); (case a9 => k_is); (case l9 => k_is); (case c9 => k_is); (case k9 => k_is); (case a10 => k_is); (case l10 => k_is); (case c10 => k_is); (case k10 => k_is); (case a11 => k_is); (case l11 => k_is); (case c11 => k_is); (case k11 => k_is); (case a12 => k_is); (case l12 => k_is); (case c12 => k_is); (case k12 => k_is); (case a13 => k_is); (case l13 => k_is); (case c13 => k_is); (case k13 => k_is); (case a14 => k_is); (case l14 => k_is); (case c14 => k_is); (case k14 => k_is); (case a15 => k_is); (case l15 => k_is); (case c15 => k_is); (case k15 => k_is); (case a16 => k_is); (case l16 => k_is); (case c16 => k_is); (case k16 => k_is); (case a17 => k_is); (case l17 => k_is); (case c17 => k_is); (case k17 => k_is); (case a18 => k_is); (case l18 => k_is); (case c18 => k_is); (case k18 => k_is); (case a19 => k_is); (case l19 => k_is); (case c19 => k_is); (case k19 => k_is); (case a20 => k_is); (case l20 => k_is); (case c20 => k_is); (case k20 => k_is); (case a21 => k_is); (case l21 => k_is); (case c21 => k_is); (case k21 => k_is); (case a22 => k_is); (case l22 => k_is); (case c22 => k_is); (case k22 => k_is); (case a23 => k_is); (case l23 => k_is); (case c23 => k_is); (case k23 => k_is); (case a24 => k_is); (case l24 => k_is); (case c24 => k_is); (case k24 => k_is); (case a25 => k_is); (case l25 => k_is); (case c25 => k_is); (case k25 => k_is); (case a26 => k_is); (case l26 => k_is); (case c26 => k_is); (case k26 => k_is); (case aL => k_is); (case z_len => k_is); (case z_all => k_is); (case z_enumerate => k_is); (case z_tuple => k_is); (case z_list => k_is); (case z_range => k_is); (case z_abs => k_is); (case z_int => k_is); (case z_isinstance => k_is); (case z_bool => k_is); (case z_str => k_is); (case z_set => k_is); (case z_ValueError => k_is); (case z_sum => k_is); (case z_reversed => k_is); (case aBo => k_is); (case aPag => k_is); (case aPg => k_is); (case iPg => k_is); (case lPg => k_is); (case cPg => k_is); (case kPg => k_is); (case aBk => k_is); (case iBk => k_is); (case lBk => k_is); (case cBk => k_is); (case kBk => k_is); (case aBp => k_is); (case iBp => k_is); (case lBp => k_is); (case cBp => k_is); (case kBp => k_is); (case aBw => k_is); (case iBw => k_is); (case lBw => k_is); (case cBw => k_is); (case kBw => k_is); (case aBc => k_is); (case iBc => k_is); (case lBc => k_is); (case cBc => k_is); (case kBc => k_is); (case pgB => k_is); (case hdB => k_is); (case poB => k_is); (case saB => k_is); (case mkB => k_is); (case kcB => k_is); (case nA0B => k_is); (case nA1B => k_is); (case nA2B => k_is); (case nA3B => k_is); (case nA4B => k_is); (case nA5B => k_is); (case pgP => k_is); (case hdP => k_is); (case poP => k_is); (case saP => k_is); (case mkP => k_is); (case kcP => k_is); (case nA0P => k_is); (case nA1P => k_is); (case nA2P => k_is); (case nA3P => k_is); (case nA4P => k_is); (case nHm => k_is); (case lEH => k_is); (case lDN => k_is); (case hgt => k_is); (case htk => k_is); (case htopS => first | rfl | decide +kernel); (case z_super => k_is); (case hstS => k_is); (case aeB => k_is); (case ibeB => k_is); (case leB => k_is); (case cbeB => k_is); (case hceB => k_is); (case hveB => first | rfl | k_is); (case hfeB => first | rfl | decide +kernel); (case hleB => k_is); (case lceB => k_is); (case rfeB => first | rfl | decide +kernel); (case saeB => k_is); (case bxeB => k_is); (case tyeB => k_is); (case kceB => k_is); (case hmeB => k_is); (case aleB => first | k_is | rfl | kernel_rfl); (case veeB => k_is); (case noeB => k_is); (case tfeBx => k_is); (case gaeB => k_is); (case ggeB => k_is); (case hdeB => k_is); (case cceBx => k_is); (case moeB => k_is); (case iseB => k_is); (case sueB => k_is); (case aN1 => k_is); (case isN1 => k_is); (case tyN1 => k_is); (case aN2 => k_is); (case isN2 => k_is); (case tyN2 => k_is); (case aNH => k_is); (case isNH => k_is); (case tyNH => k_is); (case sbeB_N1 => k_is); (case sbeB_N2 => k_is); (case sbeB_NH => k_is)
