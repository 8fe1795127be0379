import PyProof.Rows.All
import Wide.All
import OpenK.AllK
import Wide.FinOn
import HandS.ForMost
import HandS.Style
import HandS.IsInst
import HandS.Defaults
import HandS.MakeKwOnly
import HandS.SortKw
import HandS.Walk
import KE.KSortKeySt
import KE.GoesEnum
import KE.DatumOrd
import KE.KRevSl
import HandS.Star
import KE.KTupSum
import KE.GoesMore
import KE.GoesZip
import HandS.DictComp
import HandS.RevRange
import HandS.Strs
import HandS.OwnEq
import HandS.SlotsOwn
import HandS.IterVal
import KE.KOwnIter
import KE.KOpsOwn
import KE.KEqDict
import HandS.ExcInit
import HandS.ExcSuper
import HandS.Nested
import KE.KSuper
import KE.KSuperObj
import KE.KExcSuper
import HandS.ExcField
import HandS.ExcOwn
import HandS.ExcIs
import KE.KTryMore
import PyProof.InstSpecial
import HandS.OwnIter
import HandS.Zip
import HandS.Wide
import HandS.Gcd
import HandS.Conv
import PySem.Challenge.RW_turnsandkeys_k05_links_kept
set_option Elab.async false
set_option linter.all false
set_option maxRecDepth 100000
set_option maxHeartbeats 8000000
namespace TK
open PySem PySem.Spec PyProof.Rows L2
/-! ### a def that keeps its promise, as callers see it -/
structure Def (P : Program) (w : World) (K : PySem.W.Frag) (mg : Str → Option Value) (base : Heap) (x : Str) (k : Nat) (ps : List Str) (sp : Sp) : Prop where
  ex : ∃ (f : Addr) (fd : FuncData), FnOk P w K mg base CX0 k f fd ps sp ∧ mg x = some (.ref f) ∧ PySem.W.keepIn K (.ref f) = true ∧ Binds K fd ps []
section
variable {X : Cx} {x : Str} {k : Nat} {ps : List Str} {sp : Sp} {e : Expr} {es : List Expr} {t : TA} {p pos : Pos}
theorem pe_callD (D : Def X.prog X.w X.K X.mg X.base x k ps sp) (hr : Room k X.A) (hg : Gl X x) (ha : PA X (e :: es) t) (hdb : (x == ("__debug__" : Str)) = false := by decide)
    (he : starEach (e :: es) X.env = (false, eval e X.env) :: starEach es X.env := by rfl) (hpl : (backTo pos (starEach es X.env)).any (·.1) = false := by rfl) :
    PE X (.Call (.Name x p) (e :: es) [] pos) (tCall sp [] E0 t) := by
  obtain ⟨f, fd, F, g, kp, b⟩ := D.ex
  exact pe_call F hr hg g kp b .nil pass0 ha hdb he hpl
end
section
variable {X : Cx}
/-- x is True, x is False: x of any kind -/
def rIsT : R2 := fun x y H Q => ∃ b : Bool, y = .bl b ∧ Q (.bl (decide (x = .bl b))) H
theorem op_isT : OpR X (compareOp .Is) rIsT := by
  intro pins s σ H x y v u Q I rx ry h
  obtain ⟨b, rfl, q⟩ := h
  cases (show u = Value.bool b from ry)
  cases x with
  | bl a =>
    cases (show v = Value.bool a from rx)
    by_cases e : a = b
    · subst e
      exact wpAny_is_self rfl ⟨.bl true, H, I, rfl, by simpa using q⟩
    · exact wpAny_is_other rfl (fun z => e (Value.bool.inj z)) ⟨.bl false, H, I, rfl, by simpa [e] using q⟩
  | non => cases (show v = Value.none from rx); exact wpAny_is_other rfl (fun z => nomatch z) ⟨.bl false, H, I, rfl, by simpa using q⟩
  | int i => obtain ⟨t, rfl⟩ := (show ∃ t, v = Value.int i t from rx); exact wpAny_is_other rfl (fun z => nomatch z) ⟨.bl false, H, I, rfl, by simpa using q⟩
  | str i => obtain ⟨t, rfl⟩ := (show ∃ t, v = Value.str i t from rx); exact wpAny_is_other rfl (fun z => nomatch z) ⟨.bl false, H, I, rfl, by simpa using q⟩
  | byt i => obtain ⟨t, rfl⟩ := (show ∃ t, v = Value.bytes i t from rx); exact wpAny_is_other rfl (fun z => nomatch z) ⟨.bl false, H, I, rfl, by simpa using q⟩
  | flt i => obtain ⟨t, rfl⟩ := (show ∃ t, v = Value.float i t from rx); exact wpAny_is_other rfl (fun z => nomatch z) ⟨.bl false, H, I, rfl, by simpa using q⟩
  | ref a => cases (show v = Value.ref a from rx); exact wpAny_is_other rfl (fun z => nomatch z) ⟨.bl false, H, I, rfl, by simpa using q⟩
  | ty n => cases (show v = Value.type n from rx); exact wpAny_is_other rfl (fun z => nomatch z) ⟨.bl false, H, I, rfl, by simpa using q⟩
end
/-! ### rules within a comprehension: K by name -/
section
variable {X : Cx} {K : PySem.W.Frag}
theorem ix_listK (h : X.K = K) : IxR X (rIxL K) := h ▸ ix_list
theorem ix_tupK (h : X.K = K) : IxR X (rIxT K) := h ▸ ix_tup
theorem pg_tupK (h : X.K = K) {elts : List Expr} {kk : Nat} {pos : Pos} {n : Nat} {t : TGs} (hc : X.calm = true) (hp : PGs X elts t) (hn : (assignEach elts X.env).length = n := by rfl) (hst : (assignEach elts X.env).findIdx? (·.1) = none := by rfl) : PG X (.Tuple elts kk pos) (gTup K n t) := h ▸ pg_tup hc hp hn hst
theorem op_in_seqK (h : X.K = K) : OpR X (compareOp .In) (rIn K false) := h ▸ op_in_seq
theorem op_notIn_seqK (h : X.K = K) : OpR X (compareOp .NotIn) (rIn K true) := h ▸ op_notIn_seq
theorem call_len_seqK (h : X.K = K) : CallR X (.builtin "len") (fun xs H Q => ∃ p ys, xs = [.ref p] ∧ (SqL K H p ys ∨ SqT K H p ys) ∧ Q (.int ys.length) H) := h ▸ call_len_seq
end
/-! ### heaps -/
theorem same_upd {H : Hp} {p : Addr} {o : HO} (h : H p = none) : Same H (upd H p o) := fun b x e => by
  rw [upd_ne (ne_of_none e h)]
  exact e
theorem same_at {H H' : Hp} {p : Addr} {o : HO} (s : Same H H') (h : H p = none) : Same H (upd H' p o) := fun b x e => by
  rw [upd_ne (ne_of_none e h)]
  exact s b x e
theorem same_tup {K : PySem.W.Frag} {H H' : Hp} {a : Addr} {xs : List V} (e : Same H H') (h : SqT K H a xs) : SqT K H' a xs := by
  rcases h with (h | ⟨o, h⟩) | h
  · exact .inl (.inl (e _ _ h))
  · exact .inl (.inr ⟨o, e _ _ h⟩)
  · exact .inr h
theorem lstAt {K : PySem.W.Frag} {H : Hp} {a : Addr} {xs : List V} (h : H a = some (.lst xs)) : SqL K H a xs := .inl (.inl h)
theorem tupAt {K : PySem.W.Frag} {H : Hp} {a : Addr} {xs : List V} (h : H a = some (.tup xs)) : SqT K H a xs := .inl (.inl h)
theorem atI_in {α : Type} {xs : List α} {i : Int} {v : α} (h0 : 0 ≤ i) (h : xs[i.toNat]? = some v) : atI xs i = some v := by
  obtain ⟨n, rfl⟩ : ∃ n : Nat, i = (n : Int) := ⟨i.toNat, by omega⟩
  exact atI_nat h
theorem yesT {σ : L2.St} {H : Hp} {A B : Hp → Prop} (h : A H) : tYes σ H (fun b H3 => if b = true then A H3 else B H3) := by
  show if true = true then A H else B H
  rw [if_pos rfl]
  exact h
end TK

namespace TK
open PySem PySem.Spec PyProof.Rows L2
section
variable {X : Cx} {pins : List (Addr × Obj)} {σ : L2.St} {H : Hp} {s : Shared}
/-- an untracked object of ours comes to be tracked -/
theorem adopt {a : Addr} {o : HO} (I : Inv X pins σ H s) (f : FpOk X pins H a) (new : ObjOk X.prog X.w (upd H a o) s.heap a o) : Inv X pins σ (upd H a o) s := by
  obtain ⟨q0, q1, q2, q3, q4, q5⟩ := f
  have ne : ∀ b u, H b = some u → b ≠ a := fun b u e z => by rw [z, q0] at e; cases e
  refine I.step (h' := s.heap) (g' := s.gens) (t' := s.toks) (d' := s.drawn) (ch := [a]) (fun b hb => ?_) (fun b o _ _ _ e _ => e) (fun b o _ _ _ e _ => ⟨o.slots, e⟩) (fun b o hb _ n => ?_) (fun b o _ e => ⟨o, e⟩) (fun b xs e => ?_) (fun b o u e => ?_) (fun b ps e => ⟨#[], ?_⟩) (fun m hm => hm) (fun b u e => ?_) I.bare
  · have e : b = a := by simpa using hb
    subst e
    exact ⟨q3, q1, q4, q5⟩
  · rw [upd_ne (fun z => hb (by simp [z]))]; exact n
  · rw [upd_ne (ne b _ e)]; exact e
  · rw [upd_ne (ne b _ e)]; exact e
  · rw [upd_ne (ne b _ e), e]; simp
  · by_cases hb : b = a
    · subst hb
      rw [upd_same] at e
      cases e
      exact new
    · rw [upd_ne hb] at e
      exact (I.hok b u e).stay (fun c v _ q => q) (fun c q => by rw [upd_ne (ne c _ q)]; exact q) fun c xs q => by rw [upd_ne (ne c _ q)]; exact q
/-- a def called from within a built-in's method -/
theorem run_fn2 {k : Nat} {f : Addr} {fd : FuncData} {ps : List Str} {sp : Sp} {Q : VK} {us : List Value} {itm : List V} {E' : Value → Shared → Prop} (F : FnOk X.prog X.w X.K X.mg X.base CX0 k f fd ps sp) (hr : Room (k + 2) X.A) (hb : Binds X.K fd ps [])
    (I : Inv X pins σ H s) (r : Vals itm us) (h : sp itm H Q E0) : wpAny (model X.prog X.w) X.A.in1.in1 (call (.ref f) us) (EP X pins σ Q) E' s := by
  have hl : (us ++ []).length = ps.length := by rw [List.append_nil, ← r.length]; exact F.len _ _ _ _ h
  have hbb := hb s us I.kIn hl
  rw [List.append_nil] at hbb
  refine wpAny_call (codeAny_mono (F.run X.A.in1.in1 X.stack s H ⟨us, []⟩ us itm Q E0 hr.in1.in1 I.env0.in1.in1 hbb r h) fun r s' hq => ?_)
  cases r with
  | error e => exact False.elim hq
  | ok fl =>
    cases fl with
    | ret u => exact I.after hq
    | next => exact False.elim hq
    | brk => exact False.elim hq
    | cont => exact False.elim hq
end
section
variable {X : Cx} {pins : List (Addr × Obj)} {σ : L2.St} {H : Hp} {s : Shared} {A : Around} {E : Value → Shared → Prop} {a kS : Addr} {itm : List Value} {kl : List Int} {kar : Array Value} {e ep1 : Nat} {P : PySem.Fin → Shared → Prop}
theorem sb_tail {st : SortSt} (I : Inv X pins σ H s) (gk : s.heap.get? kS = some (seqObj "list" kar e)) (ga : s.heap.get? a = some (seqObj "list" #[] ep1)) (fa : FpOk X pins H a) (fk : FpOk X pins H kS) (hka : kS ≠ a)
    (hki : IntsAre kar.toList kl) (hle : kl.length = itm.length) (hsm : itm.length ≤ sizeLine) (hp : (arrOf st).Perm (kar.zip itm.toArray)) (hs : SortedTo (arrOf st) (arrOf st).size) (hfl : failedOf st = none)
    (hst : Stable intKind (arrOf st) (kar.zip itm.toArray))
    (h : ∀ s' out c, Inv X pins σ H s' → s'.heap.get? a = some (seqObj "list" out c) → KskOutSt false kl itm out.toList → P (.done (.ret .none)) s') :
    wpAny (model X.prog X.w) A (ksk_tail a false ep1 (.ref kS) st) P E s := by
  have hsm2 := hsm
  rw [sizeLine_eq] at hsm2
  have zk : kar.size = itm.length := by
    have h1 := hki.length
    rw [Array.length_toList] at h1
    omega
  have za : (arrOf st).size = itm.length := by rw [hp.size_eq, Array.size_zip, zk, List.size_toArray, Nat.min_self]
  have zo : ((arrOf st).map (·.2)).size = itm.length := by rw [Array.size_map]; exact za
  have s1 := Heap.SameBut.update s.heap kS (Obj.mapSeq fun _ => (#[] : Array Value))
  have ga1 : (s.heap.update kS (Obj.mapSeq fun _ => (#[] : Array Value))).get? a = some (seqObj "list" #[] ep1) := (s1.2 a hka.symm).trans ga
  have s2 := Heap.SameBut.update (s.heap.update kS (Obj.mapSeq fun _ => (#[] : Array Value))) a (Obj.mapSeq fun _ => (arrOf st).map (·.2))
  obtain ⟨cn, gcn⟩ : ∃ cn, ((s.heap.update kS (Obj.mapSeq fun _ => (#[] : Array Value))).update a (Obj.mapSeq fun _ => (arrOf st).map (·.2))).get? a = some (seqObj "list" ((arrOf st).map (·.2)) cn) :=
    ⟨_, get?_update_seq ga1 fun _ => (arrOf st).map (·.2)⟩
  obtain ⟨k0, k1, k2, k3, k4, k5⟩ := fk
  obtain ⟨a0, a1, a2, a3, a4, a5⟩ := fa
  have I1 : Inv X pins σ H { s with heap := s.heap.update kS (Obj.mapSeq fun _ => (#[] : Array Value)) } := I.turned (t' := s.toks) (fun b o hb q => (s1.2 b hb).trans q) k0 k1 k3 k4 k5
  unfold ksk_tail
  try dsimp only
  refine wpAny_bind (listUpdate_at gk rfl ?_ (by rw [zk, sizeLine_eq]; omega) (Nat.zero_le _))
  refine wpAny_bind (wpAny_letGo ?_)
  refine wpAny_bind (seqEpoch_at ga1 rfl ?_)
  refine wpAny_bind (listUpdate_at ga1 rfl ?_ (Nat.zero_le _) (Nat.le_trans (Nat.le_of_eq zo) (by rw [sizeLine_eq]; omega)))
  rw [hfl]
  simp only [bne_self_eq_false, Bool.false_eq_true, if_false]
  refine wpAny_pure (h _ _ cn (I1.turned (t' := s.toks) (fun b o hb q => (s2.2 b hb).trans q) a0 a1 a3 a4 a5) gcn ?_)
  exact ksk_outSt (b := false) hki hp hs (by simpa using hst)
theorem sb_end (I : Inv X pins σ H s) (gk : s.heap.get? kS = some (seqObj "list" kar e)) (ga : s.heap.get? a = some (seqObj "list" #[] ep1)) (fa : FpOk X pins H a) (fk : FpOk X pins H kS) (hka : kS ≠ a)
    (hki : IntsAre kar.toList kl) (hle : kl.length = itm.length) (hsm : itm.length ≤ sizeLine)
    (h : ∀ s' out c, Inv X pins σ H s' → s'.heap.get? a = some (seqObj "list" out c) → KskOutSt false kl itm out.toList → P (.done (.ret .none)) s') :
    wpAny (model X.prog X.w) A (ksk_end a false itm.toArray ep1 (.ref kS) kar) P E s := by
  have hsm2 := hsm
  rw [sizeLine_eq] at hsm2
  have zk : kar.size = itm.length := by
    have h1 := hki.length
    rw [Array.length_toList] at h1
    omega
  have zz : (kar.zip itm.toArray).size = itm.length := by rw [Array.size_zip, zk, List.size_toArray, Nat.min_self]
  unfold ksk_end
  try dsimp only
  simp only [Bool.false_eq_true, if_false]
  by_cases few : itm.toArray.size < 2
  · rw [if_pos few, if_pos few]
    refine wpAny_bind (wpAny_pure ?_)
    rw [StateT.run_pure]
    refine wpAny_bind (wpAny_pure ?_)
    try dsimp only
    refine sb_tail (st := SortSt.mk' general' (kar.zip itm.toArray) #[] 7 none) I gk ga fa fk hka hki hle hsm (Array.Perm.refl _) ?_ rfl (Stable.refl _) h
    intro i j hij jlt
    have hj2 : j < (kar.zip itm.toArray).size := jlt
    rw [zz] at hj2
    rw [List.size_toArray] at few
    have : i = j := by omega
    subst this
    exact Int.le_refl _
  · rw [if_neg few, if_neg few]
    rw [List.size_toArray] at few
    rw [ksk_kind hki (by rw [zk]; omega)]
    refine wpAny_bind (wpAny_pure ?_)
    refine wpAny_bind (wpAny_mono (wpS_sortRunsSt (κ := intKind) (a₀ := kar.zip itm.toArray)
      (st := SortSt.mk' oneType' (kar.zip itm.toArray) #[] 7 none)
      (Q := fun _ sq => (arrOf sq).Perm (kar.zip itm.toArray) ∧ failedOf sq = none ∧ SortedTo (arrOf sq) (arrOf sq).size ∧
        Stable intKind (arrOf sq) (kar.zip itm.toArray))
      intKind_oneLt (ksk_keysOfInt (ksk_intKeys hki)) ⟨Array.Perm.refl _, rfl, rfl⟩ rfl (Stable.refl _) (by rw [zz]; omega)
      fun sq a1 a2 a3 a4 => ⟨a1, a2, by rw [a1.size_eq]; exact sortedTo_of_int a3, a4⟩) ?_ fun _ _ e => e)
    rintro ⟨⟨⟩, sq⟩ s' ⟨rfl, hp, hf, hs, hst⟩
    try dsimp only
    exact sb_tail I gk ga fa fk hka hki hle hsm hp hs hf hst h
theorem sb_rest {f : Value} (I : Inv X pins σ H s) (gk : s.heap.get? kS = some (seqObj "list" #[] 0)) (ga : s.heap.get? a = some (seqObj "list" #[] ep1)) (fa : FpOk X pins H a) (fk : FpOk X pins H kS) (hka : kS ≠ a)
    (hle : kl.length = itm.length) (hsm : itm.length ≤ sizeLine)
    (turn : ∀ (i : Nat) (v : Value) (k : Int) (pins' : List (Addr × Obj)) (s' : Shared), itm[i]? = some v → kl[i]? = some k → Inv X pins' σ H s' →
      wpAny (model X.prog X.w) A (call f [v]) (EP X pins' σ fun x H' => x = .int k ∧ H' = H) (fun _ _ => False) s')
    (h : ∀ s' out c, Inv X pins σ H s' → s'.heap.get? a = some (seqObj "list" out c) → KskOutSt false kl itm out.toList → P (.done (.ret .none)) s') :
    wpAny (model X.prog X.w) A (ksk_rest a f false itm.toArray ep1 (.ref kS)) P E s := by
  have hsm2 := hsm
  rw [sizeLine_eq] at hsm2
  unfold ksk_rest
  refine wpAny_bind (wpAny_rule ?_)
  first
    | rw [List.forIn_toArray]
    | (rw [← Array.forIn_toList]; simp only [List.toList_toArray])
    | rw [← Array.forIn_toList]
  refine wpAny_bind (ksk_fold (fun i s' => ∃ gar e, Inv X pins σ H s' ∧ s'.heap.get? kS = some (seqObj "list" gar e) ∧ s'.heap.get? a = some (seqObj "list" #[] ep1) ∧ IntsAre gar.toList (kl.take i)) itm 0 s
    ⟨#[], 0, I, gk, ga, by simpa using IntsAre.nil⟩ ?step ?done)
  case step =>
    rintro j x s' hx ⟨gar, e, I', nk', na', hki⟩
    simp only [Nat.zero_add] at hki ⊢
    have jlt : j < itm.length := (List.getElem?_eq_some_iff.mp hx).1
    obtain ⟨k, ekj⟩ : ∃ k, kl[j]? = some k := ⟨_, List.getElem?_eq_getElem (by omega)⟩
    have gsm : gar.size ≤ itm.length := by
      have h1 := hki.length
      rw [Array.length_toList, List.length_take] at h1
      omega
    have I2 : Inv X (pins ++ [(kS, seqObj "list" gar e), (a, seqObj "list" #[] ep1)]) σ H s' := I'.pins_of fun p hp => by
      rcases List.mem_append.mp hp with hp | hp
      · exact I'.pin p (List.mem_append_right _ hp)
      · rcases List.mem_cons.mp hp with rfl | hp
        · exact ⟨nk', fk.1, fk.2.1, fk.2.2.1, fun v z => nomatch z⟩
        · rw [List.mem_singleton.mp hp]
          exact ⟨na', fa.1, fa.2.1, fa.2.2.1, fun v z => nomatch z⟩
    refine wpAny_bind (wpAny_attempt (wpAny_mono (turn j x k _ s' hx ekj I2) (fun v s'' he => ?_) fun _ _ hF => hF.elim))
    obtain ⟨y, H', I3, ry, rfl, rfl⟩ := he
    obtain ⟨t2, rfl⟩ : ∃ t, v = Value.int k t := ry
    try dsimp only
    have nk3 := (I3.pin (kS, seqObj "list" gar e) (List.mem_append_right _ (List.mem_append_right _ (.head _)))).1
    have na3 := (I3.pin (a, seqObj "list" #[] ep1) (List.mem_append_right _ (List.mem_append_right _ (.tail _ (.head _))))).1
    have s1 := Heap.SameBut.update s''.heap kS (Obj.mapSeq (·.push (.int k t2)))
    obtain ⟨cn, gcn⟩ : ∃ cn, (s''.heap.update kS (Obj.mapSeq (·.push (.int k t2)))).get? kS = some (seqObj "list" (gar.push (.int k t2)) cn) := ⟨_, get?_update_seq nk3 (·.push (.int k t2))⟩
    have et : kl.take (j + 1) = kl.take j ++ [k] := by rw [List.take_add_one, ekj]; simp
    have epu : (gar.push (Value.int k t2)).toList = gar.toList ++ [Value.int k t2] := by simp
    obtain ⟨k0, k1, _, k3, k4, k5⟩ := fk
    refine wpAny_bind (listUpdate_at nk3 rfl ?_ (by rw [sizeLine_eq]; omega) (Nat.le_trans (Nat.le_of_eq (Array.size_push ..)) (by rw [sizeLine_eq]; omega)))
    refine wpAny_pure ⟨rfl, gar.push (.int k t2), cn, I3.unpinned.turned (t' := s''.toks) (fun b o hb q => (s1.2 b hb).trans q) k0 k1 k3 k4 k5, gcn, (s1.2 a hka.symm).trans na3, by rw [epu, et]; exact ksk_snoc hki⟩
  case done =>
    rintro s' ⟨gar, e, I', nk', na', hki⟩
    have hkf : IntsAre gar.toList kl := by
      have eall : kl.take (0 + itm.length) = kl := List.take_of_length_le (by omega)
      rw [eall] at hki
      exact hki
    try dsimp only
    refine wpAny_bind (listItems_at nk' rfl ?_)
    exact sb_end I' nk' na' fa fk hka hkf hle hsm h
end
end TK

namespace TK
open PySem PySem.Spec PyProof.Rows L2
section
variable {prog : Program} {w : World} {A : Around} {E : Value → Shared → Prop} {s : Shared}
/-- the items of a tuple, drawn together -/
theorem collect_tup {t : Addr} {vs : List Value} {Q : List Value → Shared → Prop} (ht : IsTup s.heap t vs.toArray) (hsm : vs.length ≤ sizeLine)
    (h : Q vs { s with heap := (s.heap.push (seqObj "list" #[] 0)).update s.heap.objs.size (Obj.mapSeq (· ++ vs.toArray)) }) : wpAny (model prog w) A (collect (.ref t)) Q E s := by
  obtain ⟨ob, gob0, hcls, n, hdt⟩ := ht
  unfold collect
  refine wpAny_bind (wpAny_runValue (codeAny_builtin entry_proto_collect' ?_))
  show wpAny _ _ (do again (.builtin "list.__iadd__" ⟨[← newList [], .ref t], []⟩)) _ _ s
  refine wpAny_bind (wpAny_newList (wpAny_pure ⟨Code.quiet_builtin _ (by decide +kernel), codeAny_builtin entry_list_iadd' ?_⟩))
  show wpAny _ _ (Builtin.List.listExtendWith (.ref s.heap.objs.size) (.ref t) (.ref s.heap.objs.size)) _ _ { s with heap := s.heap.push (seqObj "list" #[] 0) }
  have gob : (s.heap.push (seqObj "list" #[] 0)).get? t = some ob := Heap.get?_push_of_some _ gob0
  have gnew : (s.heap.push (seqObj "list" #[] 0)).get? s.heap.objs.size = some (seqObj "list" #[] 0) := Heap.get?_push_size _ rfl
  unfold Builtin.List.listExtendWith
  refine wpAny_bind (wpAny_typeOf (T := "tuple") ⟨ob, gob, hcls⟩ ?_)
  rw [if_pos (by simp only [show (Value.type "tuple" == Value.type "tuple") = true from rfl, Bool.or_true])]
  refine wpAny_bind (listItems_at gob hdt (wpAny_bind (listItems_at gnew rfl ?_)))
  rw [if_neg (by simp)]
  refine wpAny_bind (listUpdate_at gnew rfl (wpAny_pure ?_) (Nat.zero_le _) (by simp only [Array.size_append, List.size_toArray, List.length_nil]; omega))
  show wpAny (model prog w) A (do
      let o ← load s.heap.objs.size
      match o.data with
      | .seq xs _ => pure xs.toList
      | _ => unsupported "internal:collect") Q E _
  refine wpAny_bind (wpAny_load (get?_update_seq gnew _) ?_)
  show wpAny _ _ (pure ((#[] : Array Value) ++ vs.toArray).toList) Q E _
  rw [show ((#[] : Array Value) ++ vs.toArray).toList = vs by simp]
  exact wpAny_pure h
end
section
variable {X : Cx} {pins : List (Addr × Obj)} {σ : L2.St} {H : Hp} {s : Shared} {A : Around} {E : Value → Shared → Prop} {a : Addr} {vs : List Value} {kz : List Int} {P : PySem.Fin → Shared → Prop}
theorem sb_sort {f : Value} {n : Nat} (I : Inv X pins σ H s) (ho : s.heap.get? a = some (seqObj "list" vs.toArray n)) (fa : FpOk X pins H a) (hlen : kz.length = vs.length) (hZ : vs.length ≤ sizeLine)
    (turn : ∀ (i : Nat) (v : Value) (k : Int) (pins' : List (Addr × Obj)) (s' : Shared), vs[i]? = some v → kz[i]? = some k → Inv X pins' σ H s' →
      wpAny (model X.prog X.w) A (call f [v]) (EP X pins' σ fun x H' => x = .int k ∧ H' = H) (fun _ _ => False) s')
    (h : ∀ s' out c, Inv X pins σ H s' → s'.heap.get? a = some (seqObj "list" out c) → KskOutSt false kz vs out.toList → P (.done (.ret .none)) s') :
    wpAny (model X.prog X.w) A (ksk_tree a f false) P E s := by
  have hZ2 := hZ
  rw [sizeLine_eq] at hZ2
  have hal : a < s.heap.objs.size := Heap.lt_size ho
  generalize hh1 : s.heap.update a (Obj.mapSeq fun _ => (#[] : Array Value)) = h1
  have sb : Heap.SameBut a s.heap h1 := by rw [← hh1]; exact Heap.SameBut.update s.heap a _
  obtain ⟨e1, ho1⟩ : ∃ e1, h1.get? a = some (seqObj "list" #[] e1) := by rw [← hh1]; exact ⟨_, get?_update_seq ho fun _ => #[]⟩
  have hz1 : h1.objs.size = s.heap.objs.size := by rw [← hh1, Heap.size_update]
  obtain ⟨a0, a1, a2, a3, a4, a5⟩ := id fa
  have I1 : Inv X pins σ H { s with heap := h1 } := I.turned (t' := s.toks) (fun b o hb q => (sb.2 b hb).trans q) a0 a1 a3 a4 a5
  have I2 : Inv X pins σ H { s with heap := (h1.push (seqObj "tuple" vs.toArray 0)).push (seqObj "list" #[] 0) } := I1.kept (t' := s.toks) fun b o q => Heap.get?_push_of_some _ (Heap.get?_push_of_some _ q)
  have hkz : (h1.push (seqObj "tuple" vs.toArray 0)).objs.size = s.heap.objs.size + 1 := by rw [size_push', hz1]
  unfold ksk_tree
  refine wpAny_bind (listItems_at ho rfl (wpAny_bind (listUpdate_at ho rfl ?_ (by rw [List.size_toArray, sizeLine_eq]; omega) (Nat.zero_le _))))
  rw [hh1]
  refine wpAny_bind (seqEpoch_at ho1 rfl (wpAny_bind (wpAny_newTuple (wpAny_bind (wpAny_newList (wpAny_holding ?_) (Nat.zero_le _))) (by show vs.length ≤ _; rw [sizeLine_eq]; omega))))
  refine sb_rest (s := { s with heap := (h1.push (seqObj "tuple" vs.toArray 0)).push (seqObj "list" #[] 0) }) (kS := (h1.push (seqObj "tuple" vs.toArray 0)).objs.size) I2 (Heap.get?_push_size _ rfl) (Heap.get?_push_of_some _ (Heap.get?_push_of_some _ ho1)) fa ?_ (Nat.ne_of_gt (by rw [hkz]; exact Nat.lt_succ_of_lt hal)) hlen hZ turn h
  exact I1.fpOk (by show h1.objs.size ≤ _; rw [hkz, hz1]; omega) (I1.hok.fresh (by show h1.objs.size ≤ _; rw [hkz, hz1]; omega))
end
/-! ### the stable order by a key -/
def insK {α : Type} (x : Int × α) : List (Int × α) → List (Int × α)
  | [] => [x]
  | y :: r => if x.1 ≤ y.1 then x :: y :: r else y :: insK x r
def sortK {α : Type} : List (Int × α) → List (Int × α)
  | [] => []
  | x :: r => insK x (sortK r)
section
variable {α : Type}
theorem insK_perm (x : Int × α) : ∀ l, (insK x l).Perm (x :: l)
  | [] => .refl _
  | y :: r => by
    unfold insK
    split
    · exact .refl _
    · exact ((insK_perm x r).cons y).trans (.swap x y r)
theorem sortK_perm : ∀ l : List (Int × α), (sortK l).Perm l
  | [] => .refl _
  | x :: r => (insK_perm x (sortK r)).trans ((sortK_perm r).cons x)
theorem insK_up (x : Int × α) : ∀ l : List (Int × α), l.Pairwise (fun p q => p.1 ≤ q.1) → (insK x l).Pairwise (fun p q => p.1 ≤ q.1)
  | [], _ => List.pairwise_singleton ..
  | y :: r, h => by
    unfold insK
    split
    · rename_i hx
      refine List.Pairwise.cons (fun z hsm => ?_) h
      rcases List.mem_cons.mp hsm with rfl | hsm
      · exact hx
      · exact Int.le_trans hx (List.rel_of_pairwise_cons h hsm)
    · rename_i hx
      refine List.Pairwise.cons (fun z hsm => ?_) (insK_up x r (List.Pairwise.of_cons h))
      rcases List.mem_cons.mp ((insK_perm x r).mem_iff.mp hsm) with rfl | hsm
      · omega
      · exact List.rel_of_pairwise_cons h hsm
theorem sortK_up : ∀ l : List (Int × α), (sortK l).Pairwise (fun p q => p.1 ≤ q.1)
  | [] => .nil
  | x :: r => insK_up x _ (sortK_up r)
theorem insK_filter (x : Int × α) (c : Int) : ∀ l : List (Int × α), l.Pairwise (fun p q => p.1 ≤ q.1) → (insK x l).filter (fun p => p.1 == c) = (x :: l).filter (fun p => p.1 == c)
  | [], _ => rfl
  | y :: r, h => by
    unfold insK
    split
    · rfl
    · rename_i hx
      have ih := insK_filter x c r (List.Pairwise.of_cons h)
      rw [List.filter_cons, ih, List.filter_cons, List.filter_cons, List.filter_cons]
      by_cases h1 : (x.1 == c) = true
      · by_cases h2 : (y.1 == c) = true
        · have e1 : x.1 = c := by simpa using h1
          have e2 : y.1 = c := by simpa using h2
          omega
        · simp [h1, h2]
      · simp [h1]
theorem sortK_filter (c : Int) : ∀ l : List (Int × α), (sortK l).filter (fun p => p.1 == c) = l.filter (fun p => p.1 == c)
  | [] => rfl
  | x :: r => by
    show (insK x (sortK r)).filter _ = _
    rw [insK_filter x c _ (sortK_up r), List.filter_cons, sortK_filter c r, List.filter_cons]
theorem stable_one : ∀ {l m : List (Int × α)}, l.Perm m → l.Pairwise (fun p q => p.1 ≤ q.1) → m.Pairwise (fun p q => p.1 ≤ q.1) → (∀ c, l.filter (fun p => p.1 == c) = m.filter (fun p => p.1 == c)) → l = m
  | [], m, hp, _, _, _ => by rw [List.nil_perm.mp hp]
  | x :: l, [], hp, _, _, _ => by cases hp.length_eq
  | x :: l, y :: m, hp, h1, h2, hf => by
    have le1 : x.1 ≤ y.1 := by
      rcases List.mem_cons.mp (hp.mem_iff.mpr (List.mem_cons_self ..) : y ∈ x :: l) with e | e
      · rw [e]; exact Int.le_refl _
      · exact List.rel_of_pairwise_cons h1 e
    have le2 : y.1 ≤ x.1 := by
      rcases List.mem_cons.mp (hp.mem_iff.mp (List.mem_cons_self ..) : x ∈ y :: m) with e | e
      · rw [e]; exact Int.le_refl _
      · exact List.rel_of_pairwise_cons h2 e
    have e : x.1 = y.1 := by omega
    have hx := hf x.1
    rw [List.filter_cons, List.filter_cons, if_pos (by simp), if_pos (by simp [e])] at hx
    obtain ⟨exy, _⟩ := List.cons.inj hx
    subst exy
    rw [stable_one (List.Perm.cons_inv hp) (List.Pairwise.of_cons h1) (List.Pairwise.of_cons h2) fun c => ?_]
    have := hf c
    rw [List.filter_cons, List.filter_cons] at this
    split at this
    · exact (List.cons.inj this).2
    · exact this
theorem insK_map {β : Type} (g : α → β) (x : Int × α) : ∀ l : List (Int × α), (insK x l).map (fun p => (p.1, g p.2)) = insK (x.1, g x.2) (l.map fun p => (p.1, g p.2))
  | [] => rfl
  | y :: r => by
    unfold insK
    by_cases h : x.1 ≤ y.1
    · rw [if_pos h]
      show _ = if x.1 ≤ y.1 then _ else _
      rw [if_pos h]; rfl
    · rw [if_neg h]
      show _ = if x.1 ≤ y.1 then _ else _
      rw [if_neg h, List.map_cons, insK_map g x r]
theorem sortK_map {β : Type} (g : α → β) : ∀ l : List (Int × α), (sortK l).map (fun p => (p.1, g p.2)) = sortK (l.map fun p => (p.1, g p.2))
  | [] => rfl
  | x :: r => by
    show (insK x (sortK r)).map _ = insK _ (sortK (r.map _))
    rw [insK_map, sortK_map g r]
end
/-- sorted pairs of related values are related -/
theorem insK_rel {x : Int × V} {u : Int × Value} (e : x.1 = u.1) (r : RelV x.2 u.2) : ∀ {l : List (Int × V)} {m : List (Int × Value)}, Paired (fun p q => p.1 = q.1 ∧ RelV p.2 q.2) l m → Paired (fun (p : Int × V) (q : Int × Value) => p.1 = q.1 ∧ RelV p.2 q.2) (insK x l) (insK u m)
  | _, _, .nil => .cons ⟨e, r⟩ .nil
  | y :: l, v :: m, .cons h t => by
    unfold insK
    rw [← e, ← h.1]
    split
    · exact .cons ⟨e, r⟩ (.cons h t)
    · exact .cons h (insK_rel e r t)
theorem sortK_rel : ∀ {l : List (Int × V)} {m : List (Int × Value)}, Paired (fun p q => p.1 = q.1 ∧ RelV p.2 q.2) l m → Paired (fun (p : Int × V) (q : Int × Value) => p.1 = q.1 ∧ RelV p.2 q.2) (sortK l) (sortK m)
  | _, _, .nil => .nil
  | _, _, .cons h t => insK_rel h.1 h.2 (sortK_rel t)
theorem zip_rel : ∀ {kz : List Int} {xs : List V} {us : List Value}, Vals xs us → Paired (fun (p : Int × V) (q : Int × Value) => p.1 = q.1 ∧ RelV p.2 q.2) (kz.zip xs) (kz.zip us)
  | [], _, _, _ => .nil
  | _ :: _, _, _, .nil => .nil
  | k :: kz, _, _, .cons r t => .cons ⟨rfl, r⟩ (zip_rel t)
theorem rel_snd : ∀ {l : List (Int × V)} {m : List (Int × Value)}, Paired (fun p q => p.1 = q.1 ∧ RelV p.2 q.2) l m → Vals (l.map Prod.snd) (m.map Prod.snd)
  | _, _, .nil => .nil
  | _, _, .cons h t => .cons h.2 (rel_snd t)
def byKey (ks : List Int) (xs : List V) : List V := (sortK (ks.zip xs)).map Prod.snd
theorem byKey_len {ks : List Int} {xs : List V} (h : ks.length = xs.length) : (byKey ks xs).length = xs.length := by
  unfold byKey
  rw [List.length_map, (sortK_perm _).length_eq, List.length_zip, h, Nat.min_self]
section
variable {X : Cx}
/-- sorted(xs, key=f), f a def whose answer is an int and that leaves the heap -/
def rSortedBy (K : PySem.W.Frag) (f : Addr) (sp : Sp) : List V → List V → Hp → VK → Prop := fun vs zs H Q => ∃ (a : Addr) (xs : List V) (ks : List Int), vs = [V.ref a] ∧ zs = [V.ref f] ∧ (SqL K H a xs ∨ SqT K H a xs) ∧ ks.length = xs.length ∧
  (∀ (i : Nat) (x : V) (k : Int), xs[i]? = some x → ks[i]? = some k → sp [x] H (fun v H' => v = .int k ∧ H' = H) E0) ∧ ∀ p, H p = none → Q (.ref p) (upd H p (.lst (byKey ks xs)))
theorem cr_sortedBy {k : Nat} {f : Addr} {fd : FuncData} {ps : List Str} {sp : Sp} (F : FnOk X.prog X.w X.K X.mg X.base CX0 k f fd ps sp) (hr : Room (k + 2) X.A) (hb : Binds X.K fd ps []) : CallRK X (.builtin "sorted") [Str.ofString "key"] (rSortedBy X.K f sp) := by
  intro pins s σ H xs zs us ws Q I rx rz hq
  obtain ⟨a, ys, ks, rfl, rfl, hS, hkl, hsp, q⟩ := hq
  cases rx with
  | cons r1 r2 =>
    cases r2
    cases r1
    cases rz with
    | cons z1 z2 =>
      cases z2
      cases z1
      obtain ⟨its, rv, hcol, hsm⟩ : ∃ its : List Value, Vals ys its ∧ (∀ (A : Around) (Q : List Value → Shared → Prop) (E : Value → Shared → Prop), Q its { s with heap := (s.heap.push (seqObj "list" #[] 0)).update s.heap.objs.size (Obj.mapSeq (· ++ its.toArray)) } → wpAny (model X.prog X.w) A (collect (.ref a)) Q E s) ∧ its.length ≤ sizeLine := by
        rcases hS with hS | hS
        · obtain ⟨its, rv, hl, hsm⟩ := I.list hS
          have hz' : its.length ≤ sizeLine := by rw [← rv.length]; exact hsm
          exact ⟨its, rv, fun A Q E h => collect_list hl.isList h hz', hz'⟩
        · obtain ⟨its, rv, hl, hsm⟩ := I.tuple hS
          have hz' : its.length ≤ sizeLine := by rw [← rv.length]; exact hsm
          exact ⟨its, rv, fun A Q E h => collect_tup hl hz' h, hz'⟩
      have hlen : ks.length = its.length := by rw [hkl, rv.length]
      show wpAny _ _ (call (.builtin "sorted") [.ref a] [(Str.ofString "key", .ref f)]) _ _ _
      refine call_function_entry_kw kind_sorted plain_sorted entry_sorted (ksk_s1 _ _) ?_
      unfold Builtin.«sorted»
      refine wpAny_bind (m := checkCount "sorted" 1 1 _) (wpAny_pure (wpAny_bind (hcol _ _ _ (wpAny_bind (wpAny_newList ?_ hsm)))))
      generalize hh1 : (s.heap.push (seqObj "list" #[] 0)).update s.heap.objs.size (Obj.mapSeq (· ++ its.toArray)) = h1
      have hz1 : h1.objs.size = s.heap.objs.size + 1 := by rw [← hh1, Heap.size_update, size_push']
      have kp1 : ∀ b o, s.heap.get? b = some o → h1.get? b = some o := fun b o e => by
        rw [← hh1, Heap.get?_update_ne _ _ _ _ (Nat.ne_of_lt (Heap.lt_size e))]
        exact Heap.get?_push_of_some _ e
      have hoL : (h1.push (seqObj "list" its.toArray 0)).get? h1.objs.size = some (seqObj "list" its.toArray 0) := Heap.get?_push_size _ rfl
      have I1 : Inv X pins σ H { s with heap := h1 } := I.kept (t' := s.toks) kp1
      have I2 : Inv X pins σ H { s with heap := h1.push (seqObj "list" its.toArray 0) } := I1.kept (t' := s.toks) fun b o e => Heap.get?_push_of_some _ e
      have fa : FpOk X pins H h1.objs.size := I1.fpOk (Nat.le_refl _) (I1.hok.fresh (Nat.le_refl _))
      refine wpAny_bind (wpAny_holding (wpAny_call_entry_kw slot_list_sort ⟨_, hoL, rfl⟩ entry_list_sort ?_ (ksk_l1 _ _)))
      show wpAny (model X.prog X.w) X.A.in1.in1 (Builtin.«list.sort» ⟨[.ref h1.objs.size], [(Str.ofString "key", .ref f)]⟩) _ _ _
      rw [ksk_t1]
      refine sb_sort (s := { s with heap := h1.push (seqObj "list" its.toArray 0) }) (kz := ks) I2 hoL fa hlen hsm (fun i v k pins' s' hv hk I' => ?_) fun s' out c I' ho' ko => ⟨_, rfl, ?_⟩
      · obtain ⟨x, hx, rxv⟩ : ∃ x, ys[i]? = some x ∧ RelV x v := by
          have hi : i < ys.length := by rw [rv.length]; exact (List.getElem?_eq_some_iff.mp hv).1
          obtain ⟨u, hu, ru⟩ := rv.get (List.getElem?_eq_getElem hi)
          rw [hv] at hu
          cases hu
          exact ⟨_, List.getElem?_eq_getElem hi, ru⟩
        exact run_fn2 F hr hb I' (.cons rxv .nil) (hsp i x k hx hk)
      · obtain ⟨pr, p1, p2, p3, p4⟩ := ko
        have e1 : pr = sortK (ks.zip its) := stable_one (p1.trans (sortK_perm _).symm) (by simpa using p3) (sortK_up _) fun c => (p4 c).trans (sortK_filter c _).symm
        have rel : Vals (byKey ks ys) out.toList := by
          rw [p2, e1]
          exact rel_snd (sortK_rel (zip_rel rv))
        have hbz : (byKey ks ys).length ≤ sizeLine := by rw [byKey_len hkl, rv.length]; exact hsm
        refine wpAny_pure ⟨_, rfl, ?_⟩
        exact ⟨.ref h1.objs.size, upd H h1.objs.size (.lst (byKey ks ys)), adopt I' fa ⟨hbz, out.toList, c, rel, by rw [Array.toArray_toList]; exact ho'⟩, rfl, q _ fa.1⟩
end
end TK

namespace TK
open PySem PySem.Spec PyProof.Rows L2
/-! ### enumerate(tuple) -/
theorem meets_enum1 {v : Value} {o : Obj} {G : Heap → Prop} (B : Begins v o G) :
    Meets (Builtin.«enumerate.__new__» ⟨[.type "enumerate", v], []⟩) (fun _ R s => G s.heap ∧
      R (.ok (.ret (.ref (s.heap.push o).objs.size))) { s with heap := (s.heap.push o).push { cls := .type "enumerate", data := .fields #[.none, .bool false, .ref s.heap.objs.size, rawInt 0, .none, .none] } }) :=
  .of_wp fun prog w A R s hh => by
    obtain ⟨hp, gg, dd, tk, os⟩ := s
    obtain ⟨hG, hR⟩ := hh
    have hsub := sub_enumerate
    have it1 : ∀ {A' : Around} {E' : Value → Shared → Prop} {Q : Value → Shared → Prop}, Q (.ref hp.objs.size) ⟨hp.push o, gg, dd, tk, os⟩ → wpAny (model prog w) A' (pyIter v) Q E' ⟨hp, gg, dd, tk, os⟩ := fun q => B.iter prog w _ _ ⟨hp, gg, dd, tk, os⟩ _ hG q
    wp_walk using it1
    refine wpAny_stack_any fun st => wpAny_pure ?_
    split
    · rename_i c _ _ _ _ _
      cases (c == Value.type "enumerate") <;> (wp_walk using it1; exact ⟨_, rfl, hR⟩)
    · wp_walk using it1
      exact ⟨_, rfl, hR⟩
section
variable {prog : Program} {w : World} {A : Around} {E : Value → Shared → Prop} {s : Shared}
theorem call_enum1 {v : Value} {o : Obj} {G : Heap → Prop} {Q : Value → Shared → Prop} (B : Begins v o G) (hG : G s.heap)
    (h : ∀ h', IsEnum h' (s.heap.objs.size + 1) s.heap.objs.size 0 .none → h'.get? s.heap.objs.size = some o → (∀ b o, s.heap.get? b = some o → h'.get? b = some o) → Q (.ref (s.heap.objs.size + 1)) { s with heap := h' }) :
    wpAny (model prog w) A (call (.type "enumerate") [v]) Q E s := by
  refine callType_new F.called_enumerate (by decide) (F.typeCall_enumerate_1 _) (F.newCall_enumerate_1 _) (fun obj => F.args_object_init_2 obj _) F.entry_enumerate_new (meets_enum1 B) ⟨hG, ?_⟩
  have zp : (s.heap.push o).objs.size = s.heap.objs.size + 1 := Heap.size_push ..
  show _ ∧ _
  rw [zp]
  have gen : IsEnum ((s.heap.push o).push { cls := .type "enumerate", data := .fields #[.none, .bool false, .ref s.heap.objs.size, rawInt 0, .none, .none] }) (s.heap.objs.size + 1) s.heap.objs.size 0 .none := by
    unfold IsEnum
    rw [← zp]
    exact Heap.get?_push_size _ rfl
  exact ⟨⟨_, gen, rfl⟩, h _ gen (Heap.get?_push_of_some _ (Heap.get?_push_size _ B.free)) fun b o q => Heap.get?_push_of_some _ (Heap.get?_push_of_some _ q)⟩
end
def IteT (K : PySem.W.Frag) (a : Addr) (n : Nat) : It :=
  ⟨fun i H => i < n ∧ ∃ xs : List V, SqT K H a xs ∧ xs.length = n, fun i H v H' => ∃ T x, v = .ref T ∧ H T = none ∧ H' = upd H T (.tup [.int (i : Nat), x]) ∧ ∀ xs, SqT K H a xs → xs[i]? = some x, fun i H => n ≤ i ∧ ∃ xs : List V, SqT K H a xs ∧ xs.length = n⟩
theorem turn_enumT {P : Program} {w : World} {K : PySem.W.Frag} {elts : List Expr} {kk : Nat} {tpos : Pos} (a e it : Addr) (n : Nat) (nei : e ≠ it) (nae : a ≠ e) (nai : a ≠ it) :
    Turn P w K (.Tuple elts kk tpos) (IteT K a n) [e, it] e (fun i h => (∃ old, IsEnum h e it ((i : Nat) : Int) old) ∧ h.IsTupleIter it a i ∧ i ≤ n) where
  mem := List.mem_cons_self ..
  obj := fun i h st b hb => by
    obtain ⟨⟨old, gen⟩, ⟨o, ho, _, hd⟩, _⟩ := st
    rcases List.mem_cons.mp hb with z | z
    · rw [z]; exact ⟨_, gen, fun v q => nomatch q⟩
    · rw [List.mem_singleton.mp z]; exact ⟨o, ho, fun v q => by rw [hd] at q; cases q⟩
  keep := fun i h h' st k => by
    obtain ⟨⟨old, gen⟩, hi, hn⟩ := st
    exact ⟨⟨old, k e (by simp) _ gen⟩, hi.at fun o q => k it (by simp) o q, hn⟩
  item := by
    intro X hP hw hK hc i pins s σ H E I hf st hg
    subst hP hw hK
    obtain ⟨⟨old, gen⟩, git, _⟩ := st
    obtain ⟨ltn, xs, hq, hxl⟩ := hg
    obtain ⟨itm, rel, p, zp⟩ := I.tuple hq
    have elt : e < s.heap.objs.size := Heap.lt_size gen
    have ilt : it < s.heap.objs.size := by obtain ⟨_, q, _⟩ := git; exact Heap.lt_size q
    have hsz : itm.toArray.size = n := by rw [List.size_toArray, ← rel.length]; exact hxl
    have D := Draws.tuple (prog := X.prog) (w := X.w) (A := X.A.in1) (I.ok.hd hc) it a nai itm.toArray
    refine wpAny_pyNext_enum_itemD D gen ⟨git, p⟩ (by rw [hsz]; exact ltn) nei (by simp [nei, Ne.symm nae]) fun u h' tk hu ho hst hT _ hk => ?_
    obtain ⟨x, hx, ru⟩ : ∃ x, xs[i]? = some x ∧ RelV x u := by
      obtain ⟨u', hu', ru'⟩ := rel.get (List.getElem?_eq_getElem (show i < xs.length by omega))
      have hu2 : itm[i]? = some u := by simpa using hu
      rw [hu2] at hu'
      cases hu'
      exact ⟨_, List.getElem?_eq_getElem (by omega), ru'⟩
    refine ⟨_, rfl, wpAny_letOwnedTupleGo_enum (s := { s with heap := h', toks := tk + 1 }) ho fun h'' he' sb => ?_⟩
    have atT : h''.get? s.heap.objs.size = some { cls := .type "tuple", data := .seq #[.int i tk, u] } := (sb.2 _ (Nat.ne_of_gt elt)).trans hT
    have new : ObjOk X.prog X.w (upd H s.heap.objs.size (.tup [.int (i : Nat), x])) h'' s.heap.objs.size (.tup [.int (i : Nat), x]) :=
      ⟨by show 2 ≤ sizeLine; decide, [.int i tk, u], .cons ⟨_, rfl⟩ (.cons ru .nil), ⟨_, atT, rfl, _, rfl⟩⟩
    have I1 : Inv X pins σ (upd H s.heap.objs.size (.tup [.int (i : Nat), x])) { s with heap := h'', toks := tk + 1 } :=
      I.turnedNew (ch := [e, it]) (fun b ob hb q => (sb.2 b (fun z => hb (by simp [z]))).trans (hk b ob (fun z => hb (by simp [z])) (fun z => hb (by simp [z])) q)) hf (Nat.le_refl _) new
    refine ⟨.ref s.heap.objs.size, _, I1, rfl, ⟨_, x, rfl, I.hok.fresh (Nat.le_refl _), rfl, fun ys hy => by rw [I.tuple_inj hy hq]; exact hx⟩, ⟨⟨u, ?_⟩, hst.1.at fun o q => (sb.2 it (Ne.symm nei)).trans q, by omega⟩, fun b hb => ?_⟩
    · rw [show ((i + 1 : Nat) : Int) = (i : Int) + 1 by omega]; exact he'
    · have blt : b < s.heap.objs.size := by
        rcases List.mem_cons.mp hb with z | z
        · rw [z]; exact elt
        · rw [List.mem_singleton.mp z]; exact ilt
      rw [upd_ne (Nat.ne_of_lt blt)]
      exact (hf b hb).1
  done := by
    intro X hP hw hK hc i pins s σ H E I hf st hg
    subst hP hw hK
    obtain ⟨⟨old, gen⟩, git, ble⟩ := st
    obtain ⟨hge, xs, hq, hxl⟩ := hg
    obtain ⟨itm, rel, p, zp⟩ := I.tuple hq
    have hin : i = itm.toArray.size := by rw [List.size_toArray, ← rel.length]; omega
    obtain ⟨q0, q1, q2, q3, q4, q5⟩ := hf it (by simp)
    have D := Draws.tuple (prog := X.prog) (w := X.w) (A := X.A.in1) (I.ok.hd hc) it a nai itm.toArray
    refine wpAny_pyNext_enum_endD D gen ⟨by rw [← hin]; exact git, p⟩ fun h' eb => ⟨rfl, I.turned (t' := s.toks) (fun b o hb q => eb b o hb q) q0 q1 q3 q4 q5⟩
  self := fun A i s Q E st h => by
    obtain ⟨⟨_, gen⟩, _⟩ := st
    exact wpAny_pyIter_enum gen h
def iEnumT (K : PySem.W.Frag) (ta : TA) : TI := fun σ H R => ta σ H fun vs H1 => ∃ a xs, vs = [.ref a] ∧ SqT K H1 a xs ∧ R (IteT K a xs.length) H1
theorem pi_enumT {X : Cx} {e : Expr} {ta : TA} {p pos tpos : Pos} {elts : List Expr} {kk : Nat} (hg : Gl X "enumerate") (hm : X.mg "enumerate" = none) (ha : PA X [e] ta) (hs : starEach [e] X.env = [(false, eval e X.env)] := by rfl) :
    PI X (.Tuple elts kk tpos) (.Call (.Name "enumerate" p) [e] [] pos) (iEnumT X.K ta) := by
  refine ⟨fun pins s σ H R I h => Call_ (ld_blt I hg hm boot_enumerate (PyProof.Rows.callWith_type1 (thn (ha.run pos pins s σ H _ I h) fun us s1 ⟨vs, H1, I1, r1, q1⟩ => ?_) hs rfl))⟩
  obtain ⟨a, xs, rfl, hq, q⟩ := q1
  cases r1 with
  | cons r rr =>
    cases rr
    cases r
    obtain ⟨itm, rel, p', zp⟩ := I1.tuple hq
    have hal : a < s1.heap.objs.size := by obtain ⟨_, q, _⟩ := p'; exact Heap.lt_size q
    refine call_enum1 (begins_tuple a itm.toArray) p' fun h' gen git hk => wpAny_pyIter_enum gen ?_
    have J2 : Inv X pins σ H1 { s1 with heap := h' } := I1.kept (t' := s1.toks) hk
    refine ⟨s1.heap.objs.size + 1, [s1.heap.objs.size + 1, s1.heap.objs.size], _, _, H1, rfl, J2, turn_enumT a (s1.heap.objs.size + 1) s1.heap.objs.size xs.length (Nat.succ_ne_self _) (Nat.ne_of_lt (Nat.lt_succ_of_lt hal)) (Nat.ne_of_lt hal), ⟨⟨.none, gen⟩, ⟨_, git, rfl, rfl⟩, Nat.zero_le _⟩, fun b hb => ?_, q⟩
    have ble : s1.heap.objs.size ≤ b := by
      rcases List.mem_cons.mp hb with z | z
      · rw [z]; exact Nat.le_add_right _ _
      · rw [List.mem_singleton.mp z]; exact Nat.le_refl _
    exact I1.fpOk ble (I1.hok.fresh ble)
theorem walk_enumT {K : PySem.W.Frag} {a : Addr} {xs : List V} : Walk (IteT K a xs.length) xs.length (fun H => SqT K H a xs) (YPair (fun i => some (.int (i : Nat))) (fun i => xs[i]?)) where
  goes := fun i H hi hG => ⟨hi, xs, hG, rfl⟩
  stops := fun H hG => ⟨Nat.le_refl _, xs, hG, rfl⟩
  yields := fun i H x H' _ hG hy => by
    obtain ⟨T, v, e1, e2, e3, e4⟩ := hy
    exact ⟨T, _, v, e1, e2, e3, rfl, e4 xs hG⟩
end TK

namespace TK
open PySem PySem.Spec PyProof.Rows L2
/-! ### max(xs, default=d), min(xs, default=d) of ints -/
theorem hold_ints {h : Heap} : ∀ {us : List Value} {ns : List Int}, IntsAre us ns → ∃ as, ReadsAll h us (ns.map PySem.W.Datum.toD) as
  | _, _, .nil => ⟨[], .nil⟩
  | _, _, .cons n t r => by
    obtain ⟨as, ra⟩ := hold_ints (h := h) r
    exact ⟨[] ++ as, .cons (.int n t) ra⟩
theorem hold_int {h : Heap} {v : Value} {m : Int} (H : PySem.W.Holds h v m) : ∃ t, v = Value.int m t := by
  obtain ⟨as, r⟩ := H
  have r : Reads h v (.int m) as := r
  cases r with
  | int i t => exact ⟨t, rfl⟩
theorem maxOf_is : ∀ (ys : List Int) (y : Int), PySem.W.maxOf y ys ∈ y :: ys ∧ ∀ z ∈ y :: ys, z ≤ PySem.W.maxOf y ys
  | [], y => ⟨List.mem_cons_self .., fun z hz => by cases List.mem_singleton.mp hz; exact Int.le_refl _⟩
  | a :: ys, y => by
    have e : PySem.W.maxOf y (a :: ys) = PySem.W.maxOf (if y < a then a else y) ys := by
      show List.foldl _ (if decide (y < a) = true then a else y) ys = _
      by_cases h : y < a
      · rw [if_pos (decide_eq_true h), if_pos h]; rfl
      · rw [if_neg (by simpa using h), if_neg h]; rfl
    obtain ⟨h1, h2⟩ := maxOf_is ys (if y < a then a else y)
    rw [e]
    by_cases h : y < a
    · rw [if_pos h] at h1 h2 ⊢
      refine ⟨?_, fun z hz => ?_⟩
      · exact List.mem_cons_of_mem _ h1
      · rcases List.mem_cons.mp hz with q | q
        · have := h2 a (List.mem_cons_self ..)
          omega
        · exact h2 z q
    · rw [if_neg h] at h1 h2 ⊢
      refine ⟨?_, fun z hz => ?_⟩
      · rcases List.mem_cons.mp h1 with q | q
        · rw [q]; exact List.mem_cons_self ..
        · exact List.mem_cons_of_mem _ (List.mem_cons_of_mem _ q)
      · rcases List.mem_cons.mp hz with q | q
        · rw [q]; exact h2 y (List.mem_cons_self ..)
        · rcases List.mem_cons.mp q with q | q
          · have := h2 y (List.mem_cons_self ..)
            omega
          · exact h2 z (List.mem_cons_of_mem _ q)
theorem minOf_is : ∀ (ys : List Int) (y : Int), PySem.W.minOf y ys ∈ y :: ys ∧ ∀ z ∈ y :: ys, PySem.W.minOf y ys ≤ z
  | [], y => ⟨List.mem_cons_self .., fun z hz => by cases List.mem_singleton.mp hz; exact Int.le_refl _⟩
  | a :: ys, y => by
    have e : PySem.W.minOf y (a :: ys) = PySem.W.minOf (if a < y then a else y) ys := by
      show List.foldl _ (if decide (a < y) = true then a else y) ys = _
      by_cases h : a < y
      · rw [if_pos (decide_eq_true h), if_pos h]; rfl
      · rw [if_neg (by simpa using h), if_neg h]; rfl
    obtain ⟨h1, h2⟩ := minOf_is ys (if a < y then a else y)
    rw [e]
    by_cases h : a < y
    · rw [if_pos h] at h1 h2 ⊢
      refine ⟨?_, fun z hz => ?_⟩
      · exact List.mem_cons_of_mem _ h1
      · rcases List.mem_cons.mp hz with q | q
        · have := h2 a (List.mem_cons_self ..)
          omega
        · exact h2 z q
    · rw [if_neg h] at h1 h2 ⊢
      refine ⟨?_, fun z hz => ?_⟩
      · rcases List.mem_cons.mp h1 with q | q
        · rw [q]; exact List.mem_cons_self ..
        · exact List.mem_cons_of_mem _ (List.mem_cons_of_mem _ q)
      · rcases List.mem_cons.mp hz with q | q
        · rw [q]; exact h2 y (List.mem_cons_self ..)
        · rcases List.mem_cons.mp q with q | q
          · have := h2 y (List.mem_cons_self ..)
            omega
          · exact h2 z (List.mem_cons_of_mem _ q)
def rMaxDef (K : PySem.W.Frag) : List V → List V → Hp → VK → Prop := fun vs zs H Q => ∃ (a : Addr) (ns : List Int) (d : V), vs = [V.ref a] ∧ zs = [d] ∧ SqL K H a (ns.map V.int) ∧ (ns = [] → Q d H) ∧ ∀ m, m ∈ ns → (∀ y, y ∈ ns → y ≤ m) → Q (.int m) H
def rMinDef (K : PySem.W.Frag) : List V → List V → Hp → VK → Prop := fun vs zs H Q => ∃ (a : Addr) (ns : List Int) (d : V), vs = [V.ref a] ∧ zs = [d] ∧ SqL K H a (ns.map V.int) ∧ (ns = [] → Q d H) ∧ ∀ m, m ∈ ns → (∀ y, y ∈ ns → m ≤ y) → Q (.int m) H
section
variable {X : Cx}
theorem cr_maxDef (hc : X.calm = true) (hu : X.A.units + 64 < cLine) : CallRK X (.builtin "max") [Str.ofString "default"] (rMaxDef X.K) := by
  intro pins s σ H xs zs us ws Q I rx rz hq
  obtain ⟨a, ns, d, rfl, rfl, hs, q0, q1⟩ := hq
  rw [Vals.ref1 rx]
  cases rz with
  | cons z1 z2 =>
    cases z2
    obtain ⟨its, rv, hl, _⟩ := I.list hs
    refine PySem.W.max_list_datum_default (α := Int) (xs := ns) (I.ok.hd hc) hl.isList (hold_ints rv.ints) (by show X.A.units + 1 + 0 < cLine; omega) (fun e h' tk hk => ⟨d, H, I.kept hk, z1, q0 e⟩) fun y ys i v h' tk e _ hv hk => ?_
    obtain ⟨t, rfl⟩ := hold_int hv
    obtain ⟨m1, m2⟩ := maxOf_is ys y
    exact ⟨.int _, H, I.kept hk, ⟨_, rfl⟩, q1 _ (by rw [e]; exact m1) fun z hz => m2 z (by rw [e] at hz; exact hz)⟩
theorem cr_minDef (hc : X.calm = true) (hu : X.A.units + 64 < cLine) : CallRK X (.builtin "min") [Str.ofString "default"] (rMinDef X.K) := by
  intro pins s σ H xs zs us ws Q I rx rz hq
  obtain ⟨a, ns, d, rfl, rfl, hs, q0, q1⟩ := hq
  rw [Vals.ref1 rx]
  cases rz with
  | cons z1 z2 =>
    cases z2
    obtain ⟨its, rv, hl, _⟩ := I.list hs
    refine PySem.W.min_list_datum_default (α := Int) (xs := ns) (I.ok.hd hc) hl.isList (hold_ints rv.ints) (by show X.A.units + 1 + 0 < cLine; omega) (fun e h' tk hk => ⟨d, H, I.kept hk, z1, q0 e⟩) fun y ys i v h' tk e _ hv hk => ?_
    obtain ⟨t, rfl⟩ := hold_int hv
    obtain ⟨m1, m2⟩ := minOf_is ys y
    exact ⟨.int _, H, I.kept hk, ⟨_, rfl⟩, q1 _ (by rw [e]; exact m1) fun z hz => m2 z (by rw [e] at hz; exact hz)⟩
end
/-! ### t[::-1] of a tuple -/
section
variable {prog : Program} {w : World} {A : Around} {E : Value → Shared → Prop} {s : Shared}
theorem places_rev (n : Nat) : Builtin.Slice.slicePlaces ((n : Int) - 1) (-1) (-1) = n := by
  unfold Builtin.Slice.slicePlaces
  rw [if_neg (by decide)]
  by_cases h : n = 0
  · subst h; rfl
  · rw [if_pos (by omega), show -(-1 : Int) = 1 from rfl, Int.ediv_one]
    omega
theorem applied_rev {sl : Addr} {vl vu vs : Value} {n : Nat} {Q : Int × Int × Nat → Shared → Prop} (hs : s.heap.IsSliceOf sl vl vu vs) (pl : IsPart vl none) (pu : IsPart vu none) (ps : IsPart vs (some (-1)))
    (h : Q ((n : Int) - 1, -1, n) s) : wpAny (model prog w) A (Builtin.Slice.sliceApplied (.ref sl) (pure (n : Int))) Q E s := by
  obtain ⟨ob, go, _, gd⟩ := id hs
  unfold Builtin.Slice.sliceApplied Builtin.Slice.sliceFields
  refine wpAny_bind (wpAny_bind (wpAny_field go gd (x := vl) rfl (wpAny_bind (wpAny_field go gd (x := vu) rfl (wpAny_bind (wpAny_field go gd (x := vs) rfl (wpAny_pure ?_)))))))
  refine wpAny_bind (HT.slicePart_ ps ?_)
  show wpAny _ _ (if ((-1 : Int) == 0) = true then _ else _) _ _ s
  rw [if_neg (by decide)]
  refine wpAny_bind (HT.slicePart_ pl (wpAny_bind (HT.slicePart_ pu (wpAny_bind (wpAny_pure ?_)))))
  show wpAny _ _ (pure ((n : Int) - 1, (-1 : Int), Builtin.Slice.slicePlaces ((n : Int) - 1) (-1) (-1))) _ _ s
  rw [places_rev]
  exact wpAny_pure h
theorem fm_congr {α β : Type} {f g : α → Option β} : ∀ {l : List α}, (∀ x ∈ l, f x = g x) → l.filterMap f = l.filterMap g
  | [], _ => rfl
  | x :: r, h => by
    rw [List.filterMap_cons, List.filterMap_cons, h x (List.mem_cons_self ..), fm_congr fun y hy => h y (List.mem_cons_of_mem _ hy)]
theorem pick_rev (xs : Array Value) : ((List.range xs.size).filterMap fun (m : Nat) => xs[((xs.size : Int) - 1 + (m : Int) * (-1)).toNat]?).toArray = xs.toList.reverse.toArray := by
  have e : ((List.range xs.size).filterMap fun (m : Nat) => xs[((xs.size : Int) - 1 + (m : Int) * (-1)).toNat]?) = ((List.range xs.size).map fun k => xs.size - 1 - k).filterMap (xs[·]?) := by
    rw [List.filterMap_map]
    refine fm_congr fun m hm => ?_
    have := List.mem_range.mp hm
    show xs[_]? = xs[xs.size - 1 - m]?
    congr 1
    omega
  rw [e, PySem.W.krv_range, List.filterMap_reverse, PySem.W.krv_all]
theorem getItem_tup_rev {t sl : Addr} {items : Array Value} {vl vu vs : Value} {Q : Value → Shared → Prop} (ht : IsTup s.heap t items) (hs : s.heap.IsSliceOf sl vl vu vs) (pl : IsPart vl none) (pu : IsPart vu none) (ps : IsPart vs (some (-1)))
    (h : Q (.ref s.heap.objs.size) { s with heap := s.heap.push { cls := .type "tuple", data := .seq items.toList.reverse.toArray } }) (hsz : items.size ≤ sizeLine) : wpAny (model prog w) A (getItem (.ref t) (.ref sl)) Q E s := by
  have small : sizeOk (.seq items.toList.reverse.toArray) := by
    show items.toList.reverse.toArray.size ≤ sizeLine
    rw [List.size_toArray, List.length_reverse, Array.length_toList]
    exact hsz
  obtain ⟨ob, go, gc, gd⟩ := id hs
  unfold getItem
  try with_reducible refine wpAny_holding ?_
  first | refine wpAny_bind (wpAny_pure ?_) | skip
  refine wpAny_bind (wpAny_sequenceKey ht.typeIs (by decide) (wpAny_bind (wpAny_callSpecial?_slot (name := Str.ofString "__getitem__") ht.typeIs PyProof.Rows.slot_tuple_getitem (wpAny_call_entry PyProof.Rows.slot_tuple_getitem ht.typeIs entry_tuple_getitem ?_ (args_tuple_getitem _ _)))))
  show wpAny _ _ (Builtin.Tuple.tupleItemsOf (.ref t) >>= _) _ _ s
  refine wpAny_bind (tupleItemsOf_ ht (wpAny_bind (wpAny_typeOf ⟨ob, go, gc⟩ ?_)))
  rw [if_pos (by decide)]
  refine wpAny_bind (applied_rev hs pl pu ps ?_)
  show wpAny _ _ (if (((items.size : Int) - 1) == 0 && (-1 : Int) == 1 && items.size == items.size) = true then _ else _) _ _ s
  rw [if_neg (by rw [show ((-1 : Int) == 1) = false from rfl, Bool.and_false, Bool.false_and]; decide), pick_rev]
  first
    | exact wpAny_bind (m := Builtin.Tuple.tupleExact _) (wpAny_newObj_type (wpAny_pure ⟨_, rfl, wpAny_pure h⟩) small)
    | exact wpAny_bind (m := Builtin.Tuple.tupleExact _) (wpAny_newObj_type (wpAny_bind (wpAny_pure (wpAny_pure ⟨_, rfl, wpAny_pure h⟩))) small)
    | exact wpAny_bind (wpAny_bind (m := Builtin.Tuple.tupleExact _) (wpAny_newObj_type (wpAny_pure (wpAny_pure ⟨_, rfl, wpAny_pure h⟩)) small))
    | exact wpAny_bind (wpAny_bind (m := Builtin.Tuple.tupleExact _) (wpAny_newObj_type (wpAny_pure ⟨_, rfl, wpAny_pure h⟩) small))
end
def tRevT (K : PySem.W.Frag) (te : TE) : TE := fun σ H Q => te σ H fun x H1 => ∃ a xs, x = .ref a ∧ SqT K H1 a xs ∧ ∀ p, H1 p = none → Q (.ref p) (upd H1 p (.tup xs.reverse))
theorem pe_revT {X : Cx} {e : Expr} {te : TE} {k : Nat} {p1 p2 p3 pos : Pos} (he : PE X e te) : PE X (.Subscript e (.Slice none none (some (.UnaryOp .USub (.Constant (.int 1) k p1) p2)) p3) pos) (tRevT X.K te) := by
  refine ⟨fun pins s σ H Q I h => Subscript_ (thn (he.run pins s σ H _ I h) fun v s1 ⟨x, H1, I1, r1, a, xs, ex, hx, q⟩ => ?_)⟩
  subst ex
  cases r1
  have one : PO X (some (.UnaryOp .USub (.Constant (.int 1) k p1) p2)) (tPart (tUn (rU fun i => .int (-i)) (tC (.int 1)))) := po_some (pe_un un_neg pe_int)
  refine wpAny_Slice (thn (po_none.run pins s1 σ H1 (fun o G => o = none ∧ G = H1) I1 ⟨rfl, rfl⟩) fun vl s2 ⟨l, H2, I2, pl, el, e2⟩ => ?_)
  subst el e2
  refine thn (po_none.run pins s2 σ H2 (fun o G => o = none ∧ G = H2) I2 ⟨rfl, rfl⟩) fun vu s3 ⟨u, H3, I3, pu, eu, e3⟩ => ?_
  subst eu e3
  refine thn (one.run pins s3 σ H3 (fun o G => o = some (-1) ∧ G = H3) I3 ⟨1, rfl, -1, rfl, rfl, rfl⟩) fun vs s4 ⟨o, H4, I4, ps, eo, e4⟩ => ?_
  subst eo e4
  have J : Inv X pins σ H4 { s4 with heap := s4.heap.push { cls := .type "slice", data := .fields #[vl, vu, vs] } } := I4.kept (t' := s4.toks) fun b ob q => Heap.get?_push_of_some _ q
  obtain ⟨itm, r, ht, hz⟩ := J.tuple hx
  have hlen := r.length
  show wpAny (model X.prog X.w) X.A (subscriptTail e (.Slice none none (some (.UnaryOp .USub (.Constant (.int 1) k p1) p2)) p3) (.ref a) (.ref s4.heap.objs.size)) (EP X pins σ Q) X.xe { s4 with heap := s4.heap.push { cls := .type "slice", data := .fields #[vl, vu, vs] } }
  refine tail_any (ops := [.ref a, .ref s4.heap.objs.size]) ht.typeIs PyProof.Rows.slot_tuple_getitem.lookup ?_ (by with_unfolding_all rfl)
  refine getItem_tup_rev ht (Heap.IsSliceOf.new _ vl vu vs) pl pu ps ?_ (by rw [List.size_toArray]; omega)
  refine ⟨.ref _, _, J.laid (t' := s4.toks) (o := .tup xs.reverse) (fun b ob q => Heap.get?_push_of_some _ q) (Nat.le_refl _) ?_, rfl, q _ (J.hok.fresh (Nat.le_refl _))⟩
  exact ⟨by rw [List.length_reverse]; exact hz, _, r.reverse, IsTup.new _ _⟩
end TK

namespace TK
open PySem PySem.Spec PyProof.Rows L2
section
variable {X : Cx}
/-! ### a word of one's own in the middle; two ways to read the same text -/
theorem ps_cut {st : Stmt} {t : TS} (h : PS X st t) : PS X st (fun D σ H => ∃ R : L2.St → Hp → Prop, t { D with nx := R } σ H ∧ ∀ σ' H', R σ' H' → D.nx σ' H') :=
  ⟨fun pins s σ H D I ⟨R, q, k⟩ => thn (h.run pins s σ H _ I q) fun f s' z => by
    cases f with
    | next => obtain ⟨σ', H', I', r⟩ := z; exact ⟨σ', H', I', k _ _ r⟩
    | brk => exact z
    | cont => exact z
    | ret u => exact z⟩
theorem pe_cut {e : Expr} {t : TE} (h : PE X e t) : PE X e (fun σ H Q => ∃ R : VK, t σ H R ∧ ∀ v H', R v H' → Q v H') :=
  ⟨fun pins s σ H Q I ⟨R, q, k⟩ => thn (h.run pins s σ H _ I q) fun v s' z => by
    obtain ⟨x, H', I', r, q'⟩ := z
    exact ⟨x, H', I', r, k _ _ q'⟩⟩
theorem pt_cut {e : Expr} {t : TT} (h : PT X e t) : PT X e (fun σ H Q => ∃ R : Bool → Hp → Prop, t σ H R ∧ ∀ b H', R b H' → Q b H') :=
  ⟨fun pins s σ H Q I ⟨R, q, k⟩ => thn (h.run pins s σ H _ I q) fun v s' z => by
    obtain ⟨H', I', q'⟩ := z
    exact ⟨H', I', k _ _ q'⟩⟩
theorem pi_or {tg it : Expr} {w1 w2 : TI} (h1 : PI X tg it w1) (h2 : PI X tg it w2) : PI X tg it (fun σ H R => w1 σ H R ∨ w2 σ H R) :=
  ⟨fun pins s σ H R I h => h.elim (h1.run pins s σ H R I) (h2.run pins s σ H R I)⟩
theorem ps_or {st : Stmt} {t1 t2 : TS} (h1 : PS X st t1) (h2 : PS X st t2) : PS X st (fun D σ H => t1 D σ H ∨ t2 D σ H) :=
  ⟨fun pins s σ H D I h => h.elim (h1.run pins s σ H D I) (h2.run pins s σ H D I)⟩
theorem pe_or2 {e : Expr} {t1 t2 : TE} (h1 : PE X e t1) (h2 : PE X e t2) : PE X e (fun σ H Q => t1 σ H Q ∨ t2 σ H Q) :=
  ⟨fun pins s σ H Q I h => h.elim (h1.run pins s σ H Q I) (h2.run pins s σ H Q I)⟩
theorem pt_or2 {e : Expr} {t1 t2 : TT} (h1 : PT X e t1) (h2 : PT X e t2) : PT X e (fun σ H Q => t1 σ H Q ∨ t2 σ H Q) :=
  ⟨fun pins s σ H Q I h => h.elim (h1.run pins s σ H Q I) (h2.run pins s σ H Q I)⟩
end
end TK

namespace TK
open PySem PySem.Spec PyProof.Rows L2
section
variable {X : Cx}
/-! sum(t), a tuple of ints -/
def rSumT (K : PySem.W.Frag) : List V → Hp → VK → Prop := fun vs H Q => ∃ (a : Addr) (ns : List Int), vs = [V.ref a] ∧ SqT K H a (ns.map V.int) ∧ Q (.int ns.sum) H
theorem cr_sumT (hc : X.calm = true) : CallR X (.builtin "sum") (rSumT X.K) := by
  intro pins s σ H vs us Q I r h
  obtain ⟨a, ns, rfl, hs, q⟩ := h
  obtain ⟨itm, rv, p, _⟩ := I.tuple hs
  rw [Vals.ref1 r]
  obtain ⟨xs, e⟩ := rv.ints.allInts.items
  have hn : numsOf itm.toArray.toList = ns := rv.ints.numsOf
  rw [e, nums_intItems] at hn
  refine PySem.W.ktm_sumG (I.ok.hd hc) (e ▸ p) fun h' tk t' hk => ?_
  rw [preSum_eq, List.take_of_length_le (by simp), hn]
  exact ⟨.int _, H, I.kept hk, ⟨_, rfl⟩, q⟩
/-- *e within a comprehension -/
theorem pa_starK {K : PySem.W.Frag} {e : Expr} {es : List Expr} {te : TE} {t : TA} {p : Pos} (h : X.K = K) (he : PE X e te) (hr : PA X es t) (hs : starEach (.Starred e p :: es) X.env = (true, eval e X.env) :: starEach es X.env := by rfl) : PA X (.Starred e p :: es) (StX.tStar K te t) := h ▸ StX.pa_star he hr hs
theorem op_eqDK {K : PySem.W.Frag} (h : X.K = K) (hu : X.A.units + 64 < cLine) : OpR X (compareOp .Eq) (rEqD K) := h ▸ op_eqD hu
theorem op_neDK {K : PySem.W.Frag} (h : X.K = K) (hu : X.A.units + 64 < cLine) : OpR X (compareOp .NotEq) (rNeD K) := h ▸ op_neD hu
/-! ### objects at a row of addresses -/
def At (H : Hp) (us : List Addr) (os : List HO) : Prop := us.length = os.length ∧ ∀ (i : Nat) (u : Addr) (o : HO), us[i]? = some u → os[i]? = some o → H u = some o
theorem At.same {H H' : Hp} {us : List Addr} {os : List HO} (h : At H us os) (s : Same H H') : At H' us os := ⟨h.1, fun i u o a b => s _ _ (h.2 i u o a b)⟩
theorem At.nil {H : Hp} : At H [] [] := ⟨rfl, fun i u o a _ => by simp at a⟩
theorem At.append {H : Hp} {us vs : List Addr} {os ps : List HO} (h : At H us os) (k : At H vs ps) : At H (us ++ vs) (os ++ ps) := by
  refine ⟨by rw [List.length_append, List.length_append, h.1, k.1], fun i u o a b => ?_⟩
  by_cases hi : i < us.length
  · rw [List.getElem?_append_left hi] at a
    rw [List.getElem?_append_left (by rw [← h.1]; exact hi)] at b
    exact h.2 i u o a b
  · rw [List.getElem?_append_right (by omega)] at a
    rw [List.getElem?_append_right (by rw [← h.1]; omega), ← h.1] at b
    exact k.2 _ u o a b
theorem At.one {H : Hp} {u : Addr} {o : HO} (e : H u = some o) : At H [u] [o] := ⟨rfl, fun i u' o' a b => by
  match i, a, b with
  | 0, a, b =>
    cases a
    cases b
    exact e⟩
theorem At.get {H : Hp} {us : List Addr} {os : List HO} {i : Nat} {x : V} (h : At H us os) (e : (us.map V.ref)[i]? = some x) : ∃ (u : Addr) (o : HO), x = .ref u ∧ us[i]? = some u ∧ os[i]? = some o ∧ H u = some o := by
  rw [List.getElem?_map] at e
  cases ht : us[i]? with
  | none => rw [ht] at e; cases e
  | some t =>
    rw [ht] at e
    cases e
    have hi : i < os.length := by rw [← h.1]; exact (List.getElem?_eq_some_iff.mp ht).1
    exact ⟨t, os[i], rfl, rfl, List.getElem?_eq_getElem hi, h.2 i t _ ht (List.getElem?_eq_getElem hi)⟩
/-- a list elsewhere is written anew -/
theorem At.wrote {H : Hp} {us : List Addr} {os : List HO} {D : Addr} {xs : List V} {o : HO} (h : At H us os) (t : ∀ p ∈ os, ∃ ys, p = HO.tup ys) (e : H D = some (.lst xs)) : At (upd H D o) us os := ⟨h.1, fun i u p a b => by
  have := h.2 i u p a b
  rw [upd_ne fun z => ?_]
  · exact this
  · subst z
    obtain ⟨ys, rfl⟩ := t p (List.mem_of_getElem? b)
    rw [e] at this
    cases this⟩
end
end TK

namespace TK
open PySem PySem.Spec PyProof.Rows L2
/-! ### zip(tuple, list) -/
def ItzM (K : PySem.W.Frag) (a b : Addr) : It :=
  ⟨fun i H => ∃ xs ys : List V, SqT K H a xs ∧ SqL K H b ys ∧ i < xs.length ∧ i < ys.length,
    fun i H v H' => ∃ T x y, v = .ref T ∧ H T = none ∧ H' = upd H T (.tup [x, y]) ∧ (∀ xs, SqT K H a xs → xs[i]? = some x) ∧ ∀ ys, SqL K H b ys → ys[i]? = some y,
    fun i H => ∃ xs ys : List V, SqT K H a xs ∧ SqL K H b ys ∧ i ≤ xs.length ∧ i ≤ ys.length ∧ (i = xs.length ∨ i = ys.length)⟩
theorem ne_nat {x y : Nat} (h : x < y ∨ y < x) : x ≠ y := by omega
theorem no_two {x p q : Nat} (h1 : x < p ∨ p < x) (h2 : x < q ∨ q < x) : x ∉ [p, q] := by
  intro h
  rcases List.mem_cons.mp h with z | z
  · exact ne_nat h1 z
  · exact ne_nat h2 (List.mem_singleton.mp z)
theorem sep_zip (I a b : Nat) (la : a < I) (lb : b < I) : ZipSep2 (I + 4) (I + 2) (I + 3) I (I + 1) [I, a] [I + 1, b] :=
  ⟨ne_nat (x := I + 2) (y := I + 4) (by omega), ne_nat (x := I + 3) (y := I + 4) (by omega), ne_nat (x := I + 2) (y := I + 3) (by omega), ne_nat (x := I + 2) (y := I) (by omega), List.mem_cons_self .., no_two (x := I + 4) (by omega) (by omega), no_two (x := I + 3) (by omega) (by omega),
    ne_nat (x := I + 2) (y := I + 1) (by omega), List.mem_cons_self .., no_two (x := I + 4) (by omega) (by omega), no_two (x := I + 3) (by omega) (by omega), no_two (x := I) (by omega) (by omega), no_two (x := I + 1) (by omega) (by omega)⟩
theorem turn_zipM {P : Program} {w : World} {K : PySem.W.Frag} {elts : List Expr} {kk : Nat} {tpos : Pos} {a b z TI TO i1 i2 : Addr} (S : ZipSep2 z TI TO i1 i2 [i1, a] [i2, b]) (na : a ≠ i1) (nb : b ≠ i2) :
    Turn P w K (.Tuple elts kk tpos) (ItzM K a b) [z, TI, TO, i1, i2] z (fun i h => IsZip h z TI TO .none ∧ IsTupOf2 h TI (.ref i1) (.ref i2) ∧ (∃ x y, IsTupOf2 h TO x y) ∧ h.IsTupleIter i1 a i ∧ h.IsListIter i2 b i) where
  mem := by simp
  obj := fun i h st c hc => by
    obtain ⟨hz, hTI, ⟨x, y, hTO⟩, ⟨o1, e1, _, d1⟩, ⟨o2, e2, _, d2⟩⟩ := st
    have e' : c = z ∨ c = TI ∨ c = TO ∨ c = i1 ∨ c = i2 := by simpa using hc
    rcases e' with rfl | rfl | rfl | rfl | rfl
    · exact ⟨_, hz, fun v q => nomatch q⟩
    · exact ⟨_, hTI, fun v q => nomatch q⟩
    · exact ⟨_, hTO, fun v q => nomatch q⟩
    · exact ⟨o1, e1, fun v q => by rw [d1] at q; cases q⟩
    · exact ⟨o2, e2, fun v q => by rw [d2] at q; cases q⟩
  keep := fun i h h' st k => by
    obtain ⟨hz, hTI, ⟨x, y, hTO⟩, h1, h2⟩ := st
    exact ⟨k z (by simp) _ hz, k TI (by simp) _ hTI, ⟨x, y, k TO (by simp) _ hTO⟩, h1.at fun o q => k i1 (by simp) o q, h2.at fun o q => k i2 (by simp) o q⟩
  item := by
    intro X hP hw hK hc i pins s σ H E I hf st hg
    subst hP hw hK
    obtain ⟨hz, hTI, ⟨x0, y0, hTO⟩, h1, h2⟩ := st
    obtain ⟨xs, ys, hqx, hqy, lx, ly⟩ := hg
    obtain ⟨its, rv, p, _⟩ := I.tuple hqx
    obtain ⟨its2, rv2, p2, _⟩ := I.list hqy
    have hzl : z < s.heap.objs.size := Heap.lt_size hz
    have n1 : its.toArray.size = xs.length := by rw [List.size_toArray, ← rv.length]
    have n2 : its2.toArray.size = ys.length := by rw [List.size_toArray, ← rv2.length]
    have D1 := Draws.tuple (prog := X.prog) (w := X.w) (A := X.A.in1) (I.ok.hd hc) i1 a na its.toArray
    have D2 := Draws.list (prog := X.prog) (w := X.w) (A := X.A.in1) (I.ok.hd hc) i2 b nb its2.toArray
    refine wpAny_pyNext_zipD2_item S D1 D2 hz hTI hTO ⟨h1, p⟩ ⟨h2, p2.isList⟩ (by rw [n1]; exact lx) (by rw [n2]; exact ly) fun u u2 h' tk hu hu2 z' TO' d1 d2 hT hsz hk => ?_
    refine ⟨_, rfl, wpAny_letOwnedTupleGo_zip (s := { s with heap := h', toks := tk }) z' fun h'' z'' sb => ?_⟩
    obtain ⟨x, hx, ru⟩ : ∃ x, xs[i]? = some x ∧ RelV x u := by
      obtain ⟨v, hv, r⟩ := rv.get (List.getElem?_eq_getElem lx)
      have : its[i]? = some u := by simpa using hu
      rw [this] at hv
      cases hv
      exact ⟨_, List.getElem?_eq_getElem lx, r⟩
    obtain ⟨y, hy, ru2⟩ : ∃ y, ys[i]? = some y ∧ RelV y u2 := by
      obtain ⟨v, hv, r⟩ := rv2.get (List.getElem?_eq_getElem ly)
      have : its2[i]? = some u2 := by simpa using hu2
      rw [this] at hv
      cases hv
      exact ⟨_, List.getElem?_eq_getElem ly, r⟩
    have hT2 : h''.get? s.heap.objs.size = some { cls := .type "tuple", data := .seq #[u, u2] } := (sb.2 _ (Nat.ne_of_gt hzl)).trans hT
    have new : ObjOk X.prog X.w (upd H s.heap.objs.size (.tup [x, y])) h'' s.heap.objs.size (.tup [x, y]) :=
      ⟨by show 2 ≤ sizeLine; decide, [u, u2], .cons ru (.cons ru2 .nil), ⟨_, hT2, rfl, _, rfl⟩⟩
    have I1 : Inv X pins σ (upd H s.heap.objs.size (.tup [x, y])) { s with heap := h'', toks := tk } :=
      I.turnedNew (ch := [z, TI, TO, i1, i2]) (fun c o hb q => (sb.2 c (fun q' => hb (by simp [q']))).trans (hk c o (fun q' => hb (by simp [q'])) (fun q' => hb (by simp [q'])) (fun q' => hb (by simp [q'])) (fun q' => hb (by simp [q'])) q)) hf (Nat.le_refl _) new
    refine ⟨.ref s.heap.objs.size, _, I1, rfl, ⟨_, x, y, rfl, I.hok.fresh (Nat.le_refl _), rfl, fun l hl => by rw [I.tuple_inj hl hqx]; exact hx, fun l hl => by rw [I.list_inj hl hqy]; exact hy⟩, ⟨z'', ?_, ⟨u, u2, ?_⟩, ?_, ?_⟩, fun c hcm => ?_⟩
    · exact (sb.2 _ S.TIz).trans (hk _ _ S.TIz S.TITO S.TIi1 S.TIi2 hTI)
    · exact (sb.2 _ S.TOz).trans TO'
    · exact d1.1.at fun o q => (sb.2 _ (Ne.symm S.zi1)).trans q
    · exact d2.1.at fun o q => (sb.2 _ (Ne.symm S.zi2)).trans q
    · have hlt : c < s.heap.objs.size := by
        have e' : c = z ∨ c = TI ∨ c = TO ∨ c = i1 ∨ c = i2 := by simpa using hcm
        rcases e' with rfl | rfl | rfl | rfl | rfl
        · exact hzl
        · exact Heap.lt_size hTI
        · exact Heap.lt_size hTO
        · obtain ⟨_, e1, _⟩ := h1; exact Heap.lt_size e1
        · obtain ⟨_, e2, _⟩ := h2; exact Heap.lt_size e2
      rw [upd_ne (Nat.ne_of_lt hlt)]
      exact (hf c hcm).1
  done := by
    intro X hP hw hK hc i pins s σ H E I hf st hg
    subst hP hw hK
    obtain ⟨hz, hTI, ⟨x0, y0, hTO⟩, h1, h2⟩ := st
    obtain ⟨xs, ys, hqx, hqy, le1, le2, hend⟩ := hg
    obtain ⟨its, rv, p, _⟩ := I.tuple hqx
    obtain ⟨its2, rv2, p2, _⟩ := I.list hqy
    have n1 : its.toArray.size = xs.length := by rw [List.size_toArray, ← rv.length]
    have n2 : its2.toArray.size = ys.length := by rw [List.size_toArray, ← rv2.length]
    have D1 := Draws.tuple (prog := X.prog) (w := X.w) (A := X.A.in1) (I.ok.hd hc) i1 a na its.toArray
    have D2 := Draws.list (prog := X.prog) (w := X.w) (A := X.A.in1) (I.ok.hd hc) i2 b nb its2.toArray
    exact wpAny_pyNext_zipD2_end S D1 D2 hz hTI hTO ⟨h1, p⟩ ⟨h2, p2.isList⟩ (by rw [n1]; exact le1) (by rw [n2]; exact le2) (by rw [n1, n2]; exact hend) fun h' tk hk => ⟨rfl, I.turnedL (ch := [z, TI, TO, i1, i2]) (fun c o hb q =>
      hk c o (fun q' => hb (by simp [q'])) (fun q' => hb (by simp [q'])) (fun q' => hb (by simp [q'])) (fun q' => hb (by simp [q'])) q) hf⟩
  self := fun A i s Q E st h => wpAny_pyIter_zip st.1 h
def iZipM (K : PySem.W.Frag) (ta : TA) : TI := fun σ H R => ta σ H fun vs H1 => ∃ a b xs ys, vs = [.ref a, .ref b] ∧ SqT K H1 a xs ∧ SqL K H1 b ys ∧ R (ItzM K a b) H1
theorem pi_zipM {X : Cx} {e e2 : Expr} {ta : TA} {p pos tpos : Pos} {elts : List Expr} {kk : Nat} (hg : Gl X "zip") (hm : X.mg "zip" = none) (ha : PA X [e, e2] ta)
    (hs : starEach [e, e2] X.env = (false, eval e X.env) :: starEach [e2] X.env := by rfl) (hpl : (backTo pos (starEach [e2] X.env)).any (·.1) = false := by rfl) :
    PI X (.Tuple elts kk tpos) (.Call (.Name "zip" p) [e, e2] [] pos) (iZipM X.K ta) := by
  refine ⟨fun pins s σ H R I h => Call_ (ld_blt I hg hm PyProof.Rows.boot_zip (PyProof.Rows.callWith_type1 (thn (ha.run pos pins s σ H _ I h) fun us s1 ⟨vs, H1, I1, r1, q1⟩ => ?_) hs hpl))⟩
  obtain ⟨a, b, xs, ys, rfl, hqx, hqy, q⟩ := q1
  obtain ⟨u1, u2, rfl, r, r'⟩ := r1.two
  cases r
  cases r'
  obtain ⟨its, rv, p1, _⟩ := I1.tuple hqx
  obtain ⟨its2, rv2, p2, _⟩ := I1.list hqy
  have la : a < s1.heap.objs.size := by obtain ⟨_, q, _⟩ := p1; exact Heap.lt_size q
  have lb : b < s1.heap.objs.size := p2.lt
  refine zip_begins2 (begins_tuple a its.toArray) (begins_list b its2.toArray) p1 p2.isList fun h' hz hTI hTO h1 h2 hsz hk => wpAny_pyIter_zip hz ?_
  have I2 : Inv X pins σ H1 { s1 with heap := h' } := I1.kept (t' := s1.toks) hk
  refine ⟨s1.heap.objs.size + 4, [s1.heap.objs.size + 4, s1.heap.objs.size + 2, s1.heap.objs.size + 3, s1.heap.objs.size, s1.heap.objs.size + 1], _, _, H1, rfl, I2, turn_zipM (sep_zip _ _ _ la lb) (Nat.ne_of_lt la) (Nat.ne_of_lt (Nat.lt_succ_of_lt lb)), ⟨hz, hTI, ⟨_, _, hTO⟩, ⟨_, h1, rfl, rfl⟩, ⟨_, h2, rfl, rfl⟩⟩, fun c hcm => ?_, q⟩
  have hle : s1.heap.objs.size ≤ c := by
    have e' : c = s1.heap.objs.size + 4 ∨ c = s1.heap.objs.size + 2 ∨ c = s1.heap.objs.size + 3 ∨ c = s1.heap.objs.size ∨ c = s1.heap.objs.size + 1 := by simpa using hcm
    rcases e' with rfl | rfl | rfl | rfl | rfl
    · exact Nat.le_add_right _ _
    · exact Nat.le_add_right _ _
    · exact Nat.le_add_right _ _
    · exact Nat.le_refl _
    · exact Nat.le_add_right _ _
  exact I1.fpOk hle (I1.hok.fresh hle)
theorem walk_zipM {K : PySem.W.Frag} {a b : Addr} {xs ys : List V} (hl : xs.length = ys.length) : Walk (ItzM K a b) xs.length (fun H => SqT K H a xs ∧ SqL K H b ys) (YPair (fun i => xs[i]?) (fun i => ys[i]?)) where
  goes := fun i H hi q => ⟨xs, ys, q.1, q.2, hi, by omega⟩
  stops := fun H q => ⟨xs, ys, q.1, q.2, Nat.le_refl _, by omega, .inl rfl⟩
  yields := fun i H v H' _ q y => by
    obtain ⟨T, x, z, h1, h2, h3, h4, h5⟩ := y
    exact ⟨T, x, z, h1, h2, h3, h4 xs q.1, h5 ys q.2⟩
end TK

namespace TK
open PySem PySem.Spec PyProof.Rows L2
/-- a dict comprehension over whatever walks -/
theorem dc_it {J : It} {n : Nat} {G : Hp → Prop} {Y : Nat → Hp → V → Hp → Prop} (w : Walk J n G Y) {g : TG} {tt : TT} {tk tv : TE} {vs : List Nat} {σ : L2.St} {H1 : Hp} {D : Addr} {Qd : Hp → Prop} (Pv : Nat → Hp → Prop) (h0 : Pv 0 (upd H1 D (.dK []))) (hG : ∀ i H, i ≤ n → Pv i H → G H)
    (hs : ∀ i x H H', i < n → Pv i H → Y i H x H' → g x (wipe σ vs) H' fun σ2 H2 => wipe σ2 vs = wipe σ vs ∧ tt σ2 H2 fun b H3 =>
      if b = true then tk σ2 H3 fun y H4 => tv σ2 H4 fun z H5 => ∃ kvs k, y = kV k ∧ H5 D = some (.dK kvs) ∧ kvs.length < sizeLine ∧ Pv (i + 1) (upd H5 D (.dK (putK kvs k z))) else Pv (i + 1) H3) (hd : ∀ H, Pv n H → Qd H) :
    ∃ W : Nat → Nat → Hp → Prop, (∃ m, W 0 m (upd H1 D (.dK []))) ∧ ∀ i m H, W i m H →
      (J.stop i H ∧ Qd H) ∨ (J.go i H ∧ ∃ Nx : Hp → Prop, (∀ H', Nx H' → ∃ m', m' < m ∧ W (i + 1) m' H') ∧ ∀ x H', J.yld i H x H' → g x (wipe σ vs) H' fun σ2 H2 => wipe σ2 vs = wipe σ vs ∧ tt σ2 H2 fun b H3 =>
        if b = true then tk σ2 H3 fun y H4 => tv σ2 H4 fun z H5 => ∃ kvs k, y = kV k ∧ H5 D = some (.dK kvs) ∧ kvs.length < sizeLine ∧ Nx (upd H5 D (.dK (putK kvs k z))) else Nx H3) := by
  refine ⟨fun i m H => m = n - i ∧ i ≤ n ∧ Pv i H, ⟨n, by simp, Nat.zero_le _, h0⟩, ?_⟩
  rintro i m H ⟨rfl, hi, p⟩
  have q := hG i H hi p
  by_cases hlt : i < n
  · exact .inr ⟨w.goes i H hlt q, Pv (i + 1), fun H' p' => ⟨n - (i + 1), by omega, rfl, hlt, p'⟩, fun x H' y => hs i x H H' hlt p (w.yields i H x H' hlt q y)⟩
  · have e : i = n := by omega
    subst e
    exact .inl ⟨w.stops H q, hd H p⟩
end TK

namespace TK
open PySem PySem.Spec PyProof.Rows L2
section
variable {X : Cx}
/-- tuple(a list), the new tuple known to the object -/
theorem call_tuple_frz : CallR X (.type "tuple") (fun xs H Q => ∃ p ys, xs = [.ref p] ∧ SqL X.K H p ys ∧ ∀ (l : Addr) (o : Obj), H l = none → o.cls = .type "tuple" → o.dict = none → Q (.ref l) (upd H l (.frz o (.tup ys)))) := by
  intro pins s σ H xs us Q I r h
  obtain ⟨p, ys, rfl, hq, q⟩ := h
  obtain ⟨u, rfl, rx⟩ := vals1 r
  cases rx
  obtain ⟨its, r', pl, hz⟩ := I.list hq
  have hlen := r'.length
  refine call_tuple_list pl.isList (fun h' kp => ?_) (by simp only [List.size_toArray] <;> omega)
  have I1 : Inv X pins σ H { s with heap := h' } := I.kept (t' := s.toks) kp
  have I2 : Inv X pins σ (upd H h'.objs.size (.frz { cls := .type "tuple", data := .seq its.toArray } (.tup ys))) { s with heap := h'.push { cls := .type "tuple", data := .seq its.toArray } } :=
    I1.laid (t' := s.toks) (fun b o e => Heap.get?_push_of_some _ e) (Nat.le_refl _) (show ObjOk X.prog X.w _ _ _ (.frz _ (.tup ys)) from ⟨Heap.get?_push_size _ rfl, hz, its, r', IsTup.new _ _⟩)
  exact ⟨.ref h'.objs.size, _, I2, rfl, q _ _ (I1.hok.fresh (Nat.le_refl _)) rfl rfl⟩
/-- the value is such a tuple -/
def FrzT (x : V) (H : Hp) : Prop := ∃ p o xs, x = .ref p ∧ H p = some (.frz o (.tup xs)) ∧ o.cls = .type "tuple" ∧ o.dict = none
def tBMF (r : V → List V → Hp → VK → Prop) (to : TE) (t : TA) : TE := fun σ H Q => to σ H fun x H1 => FrzT x H1 ∧ t σ H1 fun xs H2 => r x xs H2 Q
variable {o e : Expr} {es : List Expr} {to : TE} {t : TA} {name : Str} {apos cpos : Pos} {id : String} {r : V → List V → Hp → VK → Prop}
theorem pe_bmF (pa : PlainAttrs "tuple") (slot : Slot "tuple" name id) (hty : typeOf (.builtin id) = pure (.type "method_descriptor")) (hm : MtR X id r) (ho : PE X o to) (ha : PA X (e :: es) t)
    (hbase : attributeBase o name X.env (eval o X.env) = eval o X.env := by rfl)
    (hfew : ((backTo cpos (starEach (e :: es) X.env)).all (fun x => !x.1) && (backToKw cpos (keywordEach [] X.env)).all (fun x => x.1.isSome)
      && decide ((e :: es).length + ([] : List Keyword).length + (if ([] : List Keyword).isEmpty then 0 else 1) < 30)) = true := by rfl)
    (hline : (apos.endLine == cpos.line) = true := by rfl) (hs : starEach (e :: es) X.env = (false, eval e X.env) :: starEach es X.env := by rfl) (hplain : (backTo cpos (starEach es X.env)).any (·.1) = false := by rfl) :
    PE X (.Call (.Attribute o name apos) (e :: es) [] cpos) (tBMF r to t) := by
  refine ⟨fun pins s σ H Q I h => ?_⟩
  refine wpAny_Call_method_late hbase hfew hline rfl (thn (ho.run pins s σ H _ I h) fun v s1 ⟨x, H1, I1, r1, ty, q1⟩ => ?_)
  have h12 : s1.TypeIs v "tuple" ∧ ∀ a, v = .ref a → ∃ ob, s1.heap.get? a = some ob ∧ ob.dict = none := by
    obtain ⟨p, ob, xs, rfl, hp, hc, hd⟩ := ty
    cases r1
    obtain ⟨eo, _⟩ := I1.hok p _ hp
    refine ⟨⟨ob, eo, hc⟩, fun a e => ?_⟩
    cases e
    exact ⟨ob, eo, hd⟩
  refine ⟨"tuple", id, pa, slot, hty, h12.1, h12.2, ?_⟩
  have hA := ha.run cpos pins s1 σ H1 _ I1 q1
  rw [hs] at hA ⊢
  refine Calls.callWith_builtin (by show (false || (backTo cpos (starEach es X.env)).any (·.1)) = false; rw [hplain] <;> rfl) (Calls.evalArgs_plain ?_)
  exact thn hA fun us s2 ⟨vs, H2, I2, r2, q2⟩ => hm pins s2 σ H2 x vs v us Q I2 r1 r2 q2
end
theorem tupFrz {K : PySem.W.Frag} {H : Hp} {a : Addr} {o : Obj} {xs : List V} (h : H a = some (.frz o (.tup xs))) : SqT K H a xs := .inl (.inr ⟨o, h⟩)
end TK

namespace TK
open PySem PySem.Spec PyProof.Rows L2
/-! ### the special methods of an own class -/
structure Own (K : PySem.W.Frag) (C : Addr) (name : Str) (g : Addr) : Prop where
  at_ : PySem.W.findIn K (.ref C) name = some (some (.ref g))
  fn : PySem.W.isFn K (.ref g) = true
def IsIn (H : Hp) (x : V) (C : Addr) : Prop := ∃ a dx fs, x = .ref a ∧ H a = some (.ins C dx fs)
section
variable {X : Cx} {CX : CXT} {C g : Addr} {n : Nat} {fd : FuncData} {ps : List Str} {sp : Sp} {E : XK} {pins : List (Addr × Obj)} {σ : L2.St} {H : Hp} {s : Shared}
theorem run_own {A : Around} {Q : VK} {us : List Value} {vs : List V} (F : FnOk X.prog X.w X.K X.mg X.base CX n g fd ps sp) (hr : Room n A) (e0 : Env0 X.prog X.w X.K X.mg X.base A X.stack s H) (hb : Binds X.K fd ps []) (hx : Passes CX X E)
    (I : Inv X pins σ H s) (r : Vals vs us) (h : sp vs H Q E) : wpAny (model X.prog X.w) A (call (.ref g) us) (EP X pins σ Q) X.xe s := by
  have hl : (us ++ []).length = ps.length := by rw [List.append_nil, ← r.length]; exact F.len _ _ _ _ h
  have hbb := hb s us I.kIn hl
  rw [List.append_nil] at hbb
  refine wpAny_call (codeAny_mono (F.run A X.stack s H ⟨us, []⟩ us vs Q E hr e0 hbb r h) fun r s' hq => ?_)
  cases r with
  | error e => exact hx pins σ H s e s' I hq
  | ok fl =>
    cases fl with
    | ret u => exact I.after hq
    | next => exact False.elim hq
    | brk => exact False.elim hq
    | cont => exact False.elim hq
theorem own_at {a dx : Addr} {fs : List (Str × V)} (I : Inv X pins σ H s) (h : H a = some (.ins C dx fs)) : ∃ ox od, PySem.W.InstAt s.heap a ox C od := by
  obtain ⟨mA, J, _⟩ := ins_get I.hok h
  obtain ⟨od, J, _⟩ := J.look
  exact ⟨_, _, J⟩
/-! o[k] -/
def rOwn (C : Addr) (sp : Sp) (E : XK) : R2 := fun x y H Q => IsIn H x C ∧ sp [x, y] H Q E
def PlainIxO (b : Expr) : Prop := ∀ (x : Addr) (i : Value), subscripted b true (.ref x) i = runValue (.builtin "lifetime.subscript" ⟨[.ref x, i], []⟩)
theorem pe_ixOwn {a b : Expr} {ta tb : TE} {pos : Pos} (c : Own X.K C "__getitem__" g) (cf : PySem.W.fnIn X.K g = true) (F : FnOk X.prog X.w X.K X.mg X.base CX n g fd ps sp) (hr : Room (n + 1) X.A) (hb : Binds X.K fd ps []) (hx : Passes CX X E)
    (ha : PE X a ta) (hb' : PE X b tb) (hs : PlainIxO b) : PE X (.Subscript a b pos) (tOp (rOwn C sp E) ta tb) := by
  refine ⟨fun pins s σ H Q I h => ?_⟩
  refine Subscript_ (binT ha hb' I h fun v u s2 x y H2 I2 rx ry q => ?_)
  obtain ⟨⟨p, dx, fs, rfl, hp⟩, q⟩ := q
  cases rx
  obtain ⟨ox, od, J⟩ := own_at I2 hp
  obtain ⟨m, hF⟩ := I2.fr
  exact PySem.W.sub_K hF I2.ok.mod.kin J c.at_ cf c.fn (run_own F hr.in1 I2.env0.in1 hb hx I2 (vs := [.ref p, y]) (.cons rfl (.cons ry .nil)) q) (hs _ _)
/-! o + p, o * p, o | p: two of one class -/
def rOwn2 (C : Addr) (sp : Sp) (E : XK) : R2 := fun x y H Q => IsIn H x C ∧ IsIn H y C ∧ sp [x, y] H Q E
theorem op_ownBin {op : Operator} (c : Own X.K C (PySem.dunder op.info.2) g) (sf : PySem.W.selfFirst X.K C = true) (F : FnOk X.prog X.w X.K X.mg X.base CX n g fd ps sp) (hr : Room n X.A) (hb : Binds X.K fd ps []) (hx : Passes CX X E) :
    OpR X (binaryOp op) (rOwn2 C sp E) := by
  intro pins s σ H x y v u Q I rx ry h
  obtain ⟨⟨a, dx, fs, rfl, ha⟩, ⟨b, dy, gs, rfl, hb'⟩, q⟩ := h
  cases rx
  cases ry
  obtain ⟨ox, od, J⟩ := own_at I ha
  obtain ⟨ox', od', J'⟩ := own_at I hb'
  obtain ⟨m, hF⟩ := I.fr
  refine PySem.W.binop_K hF I.ok.mod.kin J J'.type sf c.at_ c.fn (wpAny_mono (run_own F hr I.env0 hb hx I (vs := [.ref a, .ref b]) (.cons rfl (.cons rfl .nil)) q) (fun w s' z => ?_) fun _ _ x => x)
  obtain ⟨z', H', I', rz, qz⟩ := z
  exact SlX.cmpback rz ⟨z', H', I', rz, qz⟩
/-! o == p: two of one class -/
theorem op_ownEq {op : CmpOp} (hop : ∀ a b, compareOp op a b = richCompare op a b) (c : Own X.K C (cmpInfo op).2.1 g) (F : FnOk X.prog X.w X.K X.mg X.base CX n g fd ps sp) (hr : Room n X.A) (hb : Binds X.K fd ps []) (hx : Passes CX X E) :
    OpR X (compareOp op) (rOwn2 C sp E) := by
  intro pins s σ H x y v u Q I rx ry h
  obtain ⟨⟨a, dx, fs, rfl, ha⟩, ⟨b, dy, gs, rfl, hb'⟩, q⟩ := h
  cases rx
  cases ry
  obtain ⟨ox, od, J⟩ := own_at I ha
  obtain ⟨ox', od', J'⟩ := own_at I hb'
  obtain ⟨m, hF⟩ := I.fr
  rw [hop]
  refine PySem.W.cmp_K (op := op) (tb := .ref C) hr.units0 hF I.ok.mod.kin J J'.type (by simp [PySem.W.notFirst]) c.at_ c.fn (wpAny_mono (run_own F hr I.env0 hb hx I (vs := [.ref a, .ref b]) (.cons rfl (.cons rfl .nil)) q) (fun w s' z => ?_) fun _ _ x => x)
  obtain ⟨z', H', I', rz, qz⟩ := z
  exact SlX.cmpback rz ⟨z', H', I', rz, qz⟩
/-! x in o, x not in o -/
def rOwnIn (neg : Bool) (C : Addr) (sp : Sp) (E : XK) : R2 := fun x y H Q => IsIn H y C ∧ sp [y, x] H (fun z H' => ∃ b, z = .bl b ∧ Q (.bl (if neg then !b else b)) H') E
theorem op_ownIn (c : Own X.K C "__contains__" g) (F : FnOk X.prog X.w X.K X.mg X.base CX n g fd ps sp) (hr : Room n X.A) (hb : Binds X.K fd ps []) (hx : Passes CX X E) : OpR X (compareOp .In) (rOwnIn false C sp E) := by
  intro pins s σ H x y v u Q I rx ry h
  obtain ⟨⟨a, dx, fs, rfl, ha⟩, q⟩ := h
  cases ry
  obtain ⟨ox, od, J⟩ := own_at I ha
  obtain ⟨m, hF⟩ := I.fr
  refine PySem.W.in_K hF I.ok.mod.kin J c.at_ c.fn (wpAny_mono (run_own F hr I.env0 hb hx I (vs := [.ref a, x]) (.cons rfl (.cons rx .nil)) q) (fun w s' z => ?_) fun _ _ x => x)
  obtain ⟨z', H', I', rz, b, rfl, qz⟩ := z
  cases (show w = Value.bool b from rz)
  exact wpAny_truthy_bool ⟨.bl b, H', I', rfl, by simpa using qz⟩
theorem op_ownNotIn (c : Own X.K C "__contains__" g) (F : FnOk X.prog X.w X.K X.mg X.base CX n g fd ps sp) (hr : Room n X.A) (hb : Binds X.K fd ps []) (hx : Passes CX X E) : OpR X (compareOp .NotIn) (rOwnIn true C sp E) := by
  intro pins s σ H x y v u Q I rx ry h
  obtain ⟨⟨a, dx, fs, rfl, ha⟩, q⟩ := h
  cases ry
  obtain ⟨ox, od, J⟩ := own_at I ha
  obtain ⟨m, hF⟩ := I.fr
  refine PySem.W.notIn_K hF I.ok.mod.kin J c.at_ c.fn (wpAny_mono (run_own F hr I.env0 hb hx I (vs := [.ref a, x]) (.cons rfl (.cons rx .nil)) q) (fun w s' z => ?_) fun _ _ x => x)
  obtain ⟨z', H', I', rz, b, rfl, qz⟩ := z
  cases (show w = Value.bool b from rz)
  exact wpAny_truthy_bool ⟨.bl (!b), H', I', rfl, by simpa using qz⟩
/-! len(o) -/
def rOwnLen (C : Addr) (sp : Sp) (E : XK) : List V → Hp → VK → Prop := fun xs H Q => ∃ x, xs = [x] ∧ IsIn H x C ∧ sp [x] H (fun z H' => ∃ k : Nat, z = .int k ∧ k < 2 ^ 63 ∧ Q z H') E
theorem call_ownLen (c : Own X.K C "__len__" g) (F : FnOk X.prog X.w X.K X.mg X.base CX n g fd ps sp) (hr : Room (n + 1) X.A) (hb : Binds X.K fd ps []) (hx : Passes CX X E) : CallR X (.builtin "len") (rOwnLen C sp E) := by
  intro pins s σ H xs us Q I r h
  obtain ⟨x, rfl, ⟨a, dx, fs, rfl, ha⟩, q⟩ := h
  obtain ⟨u, rfl, ru⟩ := vals1 r
  cases ru
  obtain ⟨ox, od, J⟩ := own_at I ha
  obtain ⟨m, hF⟩ := I.fr
  refine PySem.W.len_K hF I.ok.mod.kin J c.at_ c.fn (wpAny_mono (run_own F hr.in1 I.env0.in1 hb hx I (vs := [.ref a]) (.cons rfl .nil) q) (fun w s' z => ?_) fun _ _ x => x)
  obtain ⟨z', H', I', rz, k, rfl, hk, qz⟩ := z
  obtain ⟨t, rfl⟩ := (show ∃ t, w = Value.int k t from rz)
  exact ⟨⟨by omega, by omega⟩, .int k, H', I'.tok _, ⟨_, rfl⟩, qz⟩
/-! iter(t), t a tuple; for x in o -/
abbrev itTObj (t : Addr) (i : Nat) : Obj := { cls := .type "tuple_iterator", data := .fields #[.ref t, .int i 0] }
def ItT (t it : Addr) : HO := .ext fun h => h.get? it = some (itTObj t 0)
theorem itT_ok {P : Program} {w : World} {H : Hp} {h : Heap} {t it : Addr} (e : h.get? it = some (itTObj t 0)) : ObjOk P w H h it (ItT t it) := ⟨e, ⟨_, e⟩, fun h1 h2 q k => k _ q⟩
theorem call_iterT : CallR X (.builtin "iter") (fun xs H Q => ∃ (l : Addr) (zs : List V), xs = [.ref l] ∧ SqT X.K H l zs ∧ ∀ it, H it = Option.none → X.s_0.heap.objs.size ≤ it → Q (.ref it) (upd H it (ItT l it))) := by
  intro pins s σ H xs us Q I r h
  obtain ⟨l, zs, rfl, hq, q⟩ := h
  obtain ⟨u, rfl, ru⟩ := vals1 r
  cases ru
  obtain ⟨its, rv, p, hz⟩ := I.tuple hq
  refine Calls.call_function_entry (by decide +kernel) (by decide +kernel) PySem.W.kdk_entry_iter (PySem.W.kdk_args_iter _) ?_
  unfold Builtin.«iter»
  refine wpAny_bind (m := someArgs "iter" 1 2 _) (wpAny_of_eq (a := [Value.ref l]) (by first | rfl | kernel_rfl!) ?_)
  show wpAny _ _ (pyIter (.ref l) >>= _) _ _ _
  refine wpAny_bind (wpAny_pyIter_tuple (show s.heap.IsTuple l its.toArray from p) ?_)
  exact wpAny_pure ⟨_, rfl, .ref s.heap.objs.size, _, I.laid (t' := s.toks) (fun b u e => Heap.get?_push_of_some _ e) (Nat.le_refl _) (itT_ok (Heap.get?_push_size _ rfl)), rfl, q _ (I.hok.fresh (Nat.le_refl _)) I.sz⟩
/-- what an __iter__ over a tuple does -/
def QIt (H : Hp) (n : Nat) (t : Addr) : VK := fun v H' => ∃ it, v = .ref it ∧ H it = Option.none ∧ n ≤ it ∧ H' = upd H it (ItT t it)
end
def FnIt (P : Program) (w : World) (K : PySem.W.Frag) (mg : Str → Option Value) (base : Heap) (k : Nat) (f : Addr) (R : Addr → Addr → Hp → Prop) : Prop :=
  ∀ (A : Around) (outer : List Env) (s : Shared) (H : Hp) (a t : Addr), Room k A → Env0 P w K mg base A outer s H → R a t H → codeAny (model P w) A (.call (.ref f) ⟨[.ref a], []⟩) (CR CX0 outer P w H s (QIt H s.heap.objs.size t) E0) s
theorem fnIt_of {P : Program} {w : World} {K : PySem.W.Frag} {mg : Str → Option Value} {base : Heap} {k : Nat} {f : Addr} {x qual : Str} {st : Stmt} {fd : FuncData} {N : List Str} {R : Addr → Addr → Hp → Prop} (F : Fun K x qual st f fd) (S : FnScope N ["self"] (defScope st)) (b : Binds K fd ["self"] [])
    (hbody : ∀ (cdv : Value) (A : Around) (outer : List Env) (s : Shared) (H : Hp) (a t : Addr), Room k (A.deeper (envOfC qual (defScope st) s.heap.objs.size f cdv)) → R a t H →
      ∃ tt, PSs (cxOf CX0 P w K mg base N qual (defScope st) f cdv A outer s H E0).nox (defBody st) tt ∧ tt { nx := fun _ H' => QIt H s.heap.objs.size t .non H', rt := QIt H s.heap.objs.size t } (start N [.ref a]) H) : FnIt P w K mg base (k + 1) f R := by
  intro A outer s H a t hr e0 hR
  obtain ⟨oc, od, kV, doc, pm, an, cdv, ct, osl, rfl, lk, hcd⟩ := F.ex
  have KX : K.In s.heap := e0.mod.kin.keeps fun b o e => (e0.bs b o e).1
  have lim : s.heap.NoLimit := e0.mod.nolimit.keeps fun b o e => (e0.bs b o e).1
  have hkind : ∀ y ∈ ([Str.ofString "self"] : List Str).zip [Value.ref a], (defScope st).names.lookup y.1 = some .local ∨ ((defScope st).names.lookup y.1 = some .cell ∧ ((cellsFrom (s.heap.objs.size + 1) (defScope st).names []).lookup y.1).isSome = true) := fun ⟨n, v⟩ hy => by
    rcases S.par n (List.of_mem_zip hy).1 with q | q
    · exact .inl q
    · exact .inr ⟨q, PySem.W.cellsFrom_some _ _ _ (.inl q)⟩
  have hbb := b s [.ref a] KX (by simp)
  rw [List.append_nil] at hbb
  refine codeAny_call_function hr.depth (KX _ _ lk) rfl S.co S.gen rfl (PySem.W.codeRec_of KX hcd) (hbb _ _ _ _ ?_)
  refine wpAny_newFunctionEnv_cells S.kind hkind fun env he s1 x => ?_
  subst he
  refine ⟨lim.keeps x.toInCall.keep, codeAny_func ?_⟩
  obtain ⟨t', ht, hq⟩ := hbody cdv A outer s H a t (hr.deeper _) hR
  have I : Inv (cxOf CX0 P w K mg base N qual (defScope st) f cdv A outer s H E0) [] (start N [V.ref a]) H s1 := inv_start S hr.hd e0 rfl (.cons rfl .nil) x
  refine wpAny_mono (ht.nox.run [] s1 (start N [V.ref a]) H _ I hq) (fun fl s' hs => ?_) fun e s' hs => hs
  have fin : ∀ {σ' : L2.St} {H' : Hp} {v : V} {u : Value}, Inv (cxOf CX0 P w K mg base N qual (defScope st) f cdv A outer s H E0) [] σ' H' s' → RelV v u → QIt H s.heap.objs.size t v H' → CE outer P w H s (QIt H s.heap.objs.size t) u s' :=
    fun {σ' H' v u} J rv q => ⟨v, H', J.os, J.bare, J.base, J.hok, rv, q⟩
  cases fl with
  | ret u =>
    obtain ⟨v, σ', H', J, rv, q⟩ := hs
    exact fin J rv q
  | next =>
    obtain ⟨σ', H', J, q⟩ := hs
    exact fin (v := V.non) (u := Value.none) J rfl q
  | brk =>
    obtain ⟨_, _, _, q⟩ := hs
    exact False.elim q
  | cont =>
    obtain ⟨_, _, _, q⟩ := hs
    exact False.elim q
section
variable {X : Cx} {CX : CXT} {C g : Addr} {n : Nat} {fd : FuncData} {ps : List Str} {sp : Sp} {E : XK} {pins : List (Addr × Obj)} {σ : L2.St} {H : Hp} {s : Shared}
def iOwn (K : PySem.W.Frag) (C : Addr) (R : Addr → Addr → Hp → Prop) (te : TE) : TI := fun σ H Z => te σ H fun x H1 => ∃ a dx fs t, x = .ref a ∧ H1 a = some (.ins C dx fs) ∧ R a t H1 ∧ (∃ xs, SqT K H1 t xs) ∧ Z (Itt K t) H1
theorem pi_own {R : Addr → Addr → Hp → Prop} {e tg : Expr} {te : TE} (c : Own X.K C "__iter__" g) (F : FnIt X.prog X.w X.K X.mg X.base n g R) (hr : Room n X.A) (he : PE X e te) : PI X tg e (iOwn X.K C R te) := by
  refine ⟨fun pins s σ H Z I h => ?_⟩
  refine thn (he.run pins s σ H _ I h) fun v s1 ⟨x, H1, I1, r1, q1⟩ => ?_
  obtain ⟨a, dx, fs, t, rfl, ha, hR, ⟨xs, hxs⟩, q⟩ := q1
  cases r1
  obtain ⟨ox, od, J⟩ := own_at I1 ha
  obtain ⟨m, hF⟩ := I1.fr
  refine PySem.W.owit_iter hF I1.ok.mod.kin J c.at_ c.fn ?_
  refine wpAny_call (codeAny_mono (F X.A X.stack s1 H1 a t hr I1.env0 hR) fun r s' hq => ?_)
  cases r with
  | error e => exact False.elim hq
  | ok fl =>
    cases fl with
    | ret u =>
      obtain ⟨z, H2, os, bare, un, hok, rz, it, rfl, hn, hge, rfl⟩ := id hq
      have I2 : Inv X pins σ (upd H1 it (ItT t it)) s' := I1.call' os un hok bare (fun b z => absurd z (by simp))
      cases rz
      have hget : s'.heap.get? it = some (itTObj t 0) := (I2.hok it _ upd_same).1
      have hT : s'.TypeIs (.ref it) "tuple_iterator" := ⟨_, hget, rfl⟩
      have hi : (upd H1 it (ItT t it)) it = some (.ext fun h => h.get? it = some (itTObj t 0)) := upd_same
      have I3 := ItX.inv_drop I2 hi
      have e3 : ItX.dropH (upd H1 it (ItT t it)) it = H1 := ItX.dropH_upd hn
      have fp := ItX.inv_fp I2 hi (Nat.le_trans I1.sz hge)
      rw [e3] at I3 fp
      unfold PySem.W.OwitIt
      refine wpAny_specialOf (name := Str.ofString "__next__") hT PySem.F.slot_tuple_iterator_next.lookup ?_
      refine ⟨it, [it], _, _, H1, rfl, I3, turn_tuple t it, ⟨_, hget, rfl, rfl⟩, fun b hb => ?_, q⟩
      cases List.mem_singleton.mp hb
      exact fp
    | next => exact False.elim hq
    | brk => exact False.elim hq
    | cont => exact False.elim hq
end
end TK

namespace TK
open PySem PySem.Calls PySem.Spec PyProof.Rows PyProof.V L2
/-! ### two dicts with tuples as keys, equal whatever the order -/
section
variable {prog : Program} {w : World} {K : Type} [DecidableEq K] {knd : HeapKind prog w K} {A : Around} {E : Value → Shared → Prop} {s : Shared}
theorem samePairsH {nm : String} {a b : Addr} {ka kb : List (K × Addr × Value)} {Q : Bool → Shared → Prop} (hu : knd.room A) (ha : (a == sysModules) = false) (hb : (b == sysModules) = false)
    (da : s.heap.DictOfH knd a ka) (db : s.heap.DictOfH knd b kb) (hl : ka.length = kb.length) (hits : ∀ x ∈ ka, ∃ p, atKey kb x.1 = some p ∧ SeqAt.EqAt A s x.2.2 p.2 true) (h : Q true s) :
    wpAny (model prog w) A (Builtin.Dict.samePairs nm a b) Q E s := by
  obtain ⟨oa, es, ep, hoa, _, hda, hea, hia, _⟩ := da
  obtain ⟨ob, es', ep', hob, _, hdb, heb, hib, hnb⟩ := db
  have hla : ka.length = es.size := (size_of_entries hea).symm
  have hlb : kb.length = es'.size := (size_of_entries heb).symm
  have hsz : es.size = es'.size := by omega
  unfold Builtin.Dict.samePairs Builtin.Dict.showsAll
  rw [if_neg (show ¬ (a == sysModules) = true by rw [ha]; exact Bool.false_ne_true), if_neg (show ¬ (b == sysModules) = true by rw [hb]; exact Bool.false_ne_true)]
  refine wpAny_bind (wpAny_pure (wpAny_bind (wpAny_pure ?_)))
  refine wpAny_bind (wpAny_dictEntries hoa hda ?_)
  dsimp only
  refine wpAny_bind (wpAny_dictEntries hob hdb ?_)
  rw [if_neg (by rw [hsz]; simp)]
  refine wpAny_bind (wpAny_dictEpoch hoa hda ?_)
  refine wpAny_bind ?_
  rw [Std.Legacy.Range.forIn_eq_forIn_range']
  simp only [Std.Legacy.Range.size, Nat.sub_zero, Nat.add_sub_cancel, Nat.div_one]
  refine wpAny_forIn_list _
    (fun rest q s' => s' = s ∧ q = (none, ()) ∧ ∃ i, rest = List.range' i (es.size - i) ∧ i ≤ es.size)
    _ ?_ ?_ _ _ ⟨rfl, rfl, 0, by simp, Nat.zero_le _⟩
  · rintro x rest q s' ⟨rfl, rfl, i, hr, hi⟩
    have hlt : i < es.size := by
      rcases Nat.lt_or_ge i es.size with h | h
      · exact h
      · rw [Nat.sub_eq_zero_of_le h] at hr; simp at hr
    obtain ⟨rfl, hrest⟩ : x = i ∧ rest = List.range' (i + 1) (es.size - (i + 1)) := by
      have e : es.size - i = (es.size - (i + 1)) + 1 := by omega
      rw [e, List.range'_succ] at hr
      injection hr with h1 h2
      exact ⟨h1, h2⟩
    refine wpAny_bind (wpAny_dictEntries hoa hda ?_)
    have hlt' : x < ka.length := by rw [hla]; exact hlt
    have hent : es[x]? = some (entryOfKey knd ka[x]) := by rw [entry_at hea x, List.getElem?_eq_getElem hlt']; rfl
    rw [hent]
    obtain ⟨p, hp, heq⟩ := hits ka[x] (List.getElem_mem hlt')
    have hkey := hia ka[x] (List.getElem_mem hlt')
    show wpAny _ _ (holding [(entryOfKey knd ka[x]).key, (entryOfKey knd ka[x]).val] _ >>= _) _ _ _
    refine wpAny_bind (wpAny_holding (wpAny_bind (wpAny_dictFind_heap hu hkey hob hdb heb hib hnb ?_ ?_)))
    · intro hno
      rw [atKey_none_of_get hno] at hp
      exact nomatch hp
    · intro j p' hj
      have ep' : p' = p := Option.some.inj ((atKey_of_get hnb hj).symm.trans hp)
      subst ep'
      refine wpAny_bind (wpAny_dictEntries hob hdb ?_)
      rw [entry_at heb j, hj]
      refine wpAny_holding (heq prog w _ _ ?_)
      show wpAny _ _ (if (!true) = true then _ else _) _ _ _
      rw [if_neg (by decide)]
      refine wpAny_bind (wpAny_dictEpoch hoa hda ?_)
      rw [if_neg (by simp)]
      exact wpAny_pure ⟨rfl, rfl, x + 1, hrest, hlt⟩
  · rintro q s' ⟨rfl, rfl, i, hr, hi⟩
    refine wpAny_pure ?_
    exact h
theorem eqDictH {a b : Addr} {ka kb : List (K × Addr × Value)} {Q : Value → Shared → Prop} (hr : knd.room A.in1) (ha : (a == sysModules) = false) (hb : (b == sysModules) = false)
    (da : s.heap.DictOfH knd a ka) (db : s.heap.DictOfH knd b kb) (hu : A.units < cLine) (hl : ka.length = kb.length) (hits : ∀ x ∈ ka, ∃ p, atKey kb x.1 = some p ∧ SeqAt.EqAt A.in1 s x.2.2 p.2 true) (h : Q (.bool true) s) :
    wpAny (model prog w) A (compareOp .Eq (.ref a) (.ref b)) Q E s := by
  refine wpAny_richCompare_same_room (op := .Eq) da.typeIs db.typeIs PySem.F.slot_dict_eq (wpAny_call_entry PySem.F.slot_dict_eq da.typeIs PySem.F.entry_dict_eq ?_ (PySem.F.args_dict_eq_2 _ _)) hu
  show wpAny _ _ (Builtin.Dict.dictSlotArgs "__eq__" ⟨[.ref a, .ref b], []⟩ >>= _) _ _ s
  refine wpAny_bind ?_
  unfold Builtin.Dict.dictSlotArgs
  refine wpAny_bind (wpAny_notOrdered_dict da.typeIs ?_)
  show wpAny _ _ (pure (Value.ref a, Value.ref b)) _ _ s
  refine wpAny_pure ?_
  refine wpAny_bind (wpAny_isInstance (T := "dict") db.typeIs PySem.F.sub_dict_dict ?_)
  simp only [Bool.not_true, Bool.false_eq_true, if_false]
  refine wpAny_bind (wpAny_pure (wpAny_bind (wpAny_pure ?_)))
  refine wpAny_bind (samePairsH hr ha hb da db hl hits ?_)
  refine wpAny_pure ⟨_, rfl, ?_, ?_⟩
  · exact fun x => nomatch x
  · simpa using h
end
section
variable {X : Cx}
def rEqDT : R2 := fun x y H Q => ∃ a b ks ls, x = .ref a ∧ y = .ref b ∧ H a = some (.dT ks) ∧ H b = some (.dT ls) ∧ ks.length = ls.length ∧ (∀ p ∈ ks, valV ls p.1 = some p.2 ∧ flatB p.2 = true) ∧ Q (.bl true) H
theorem hitsT {H : Hp} {A : Around} {s : Shared} {ls : List (List Key × V)} {xb : List (List Key × Addr × Value)} (rb : KT H ls xb) {ks : List (List Key × V)} {xa : List (List Key × Addr × Value)} (ra : KT H ks xa) :
    (∀ p ∈ ks, valV ls p.1 = some p.2 ∧ flatB p.2 = true) → ∀ x ∈ xa, ∃ p, atKey xb x.1 = some p ∧ SeqAt.EqAt A s x.2.2 p.2 true := by
  unfold KT at ra
  induction ra with
  | nil => intro _ x h; exact absurd h List.not_mem_nil
  | @cons p q ps qs h t ih =>
    intro hp x hx
    rcases List.mem_cons.mp hx with rfl | hx
    · obtain ⟨h1, _, h2⟩ := h
      obtain ⟨e, f⟩ := hp p List.mem_cons_self
      have rr : RelO (some p.2) ((atKey xb p.1).map (·.2)) := by rw [← e]; exact rb.val p.1
      obtain ⟨y, hy, ry⟩ := rr.some_of
      obtain ⟨z, hz, rfl⟩ := Option.map_eq_some_iff.mp hy
      exact ⟨z, by rw [← h1]; exact hz, eqAt_same h2 ry f⟩
    · exact ih (fun p' hm => hp p' (List.mem_cons_of_mem _ hm)) x hx
theorem op_eq_dictT (hu : X.A.units + 1 < cLine) : OpR X (compareOp .Eq) rEqDT := by
  intro pins s σ H x y v u Q I rx ry h
  obtain ⟨a, b, ks, ls, rfl, rfl, ea, eb, hlen, hp, q⟩ := h
  obtain rfl : v = Value.ref a := rx
  obtain rfl : u = Value.ref b := ry
  obtain ⟨_, ya, va, ra, da⟩ := dt_rd I.hok (.inl ea)
  obtain ⟨_, yb, vb, rb, db⟩ := dt_rd I.hok (.inl eb)
  have hl : va.length = vb.length := by rw [← Paired.length ra, ← Paired.length rb]; exact hlen
  exact eqDictH (tupleKind_room_in1 hu) ya yb da db (Nat.lt_of_succ_lt hu) hl (hitsT rb ra hp) (fin_bl I q rfl)
end
end TK

namespace TK
open PySem PySem.Spec PyProof.Rows L2
/-- any loop of a comprehension over whatever walks (for two generators: one time each) -/
theorem walk_go {J : It} {n : Nat} {G : Hp → Prop} {Y : Nat → Hp → V → Hp → Prop} (w : Walk J n G Y) {H0 : Hp} {Qd : Hp → Prop} {body : (Hp → Prop) → V → Hp → Prop} (Pv : Nat → Hp → Prop) (h0 : Pv 0 H0) (hG : ∀ i H, i ≤ n → Pv i H → G H)
    (hs : ∀ i x H H', i < n → Pv i H → Y i H x H' → body (Pv (i + 1)) x H') (hd : ∀ H, Pv n H → Qd H) :
    ∃ W : Nat → Nat → Hp → Prop, (∃ m, W 0 m H0) ∧ ∀ i m H, W i m H →
      (J.stop i H ∧ Qd H) ∨ (J.go i H ∧ ∃ Nx : Hp → Prop, (∀ H', Nx H' → ∃ m', m' < m ∧ W (i + 1) m' H') ∧ ∀ x H', J.yld i H x H' → body Nx x H') := by
  refine ⟨fun i m H => m = n - i ∧ i ≤ n ∧ Pv i H, ⟨n, by simp, Nat.zero_le _, h0⟩, ?_⟩
  rintro i m H ⟨rfl, hi, p⟩
  have q := hG i H hi p
  by_cases hlt : i < n
  · exact .inr ⟨w.goes i H hlt q, Pv (i + 1), fun H' p' => ⟨n - (i + 1), by omega, rfl, hlt, p'⟩, fun x H' y => hs i x H H' hlt p (w.yields i H x H' hlt q y)⟩
  · have e : i = n := by omega
    subst e
    exact .inl ⟨w.stops H q, hd H p⟩
theorem pe_fldK {X : Cx} {K : PySem.W.Frag} {e : Expr} {f : Str} {pos : Pos} {ta : TE} (h : X.K = K) (he : PE X e ta) (hb : attributeBase e f X.env (eval e X.env) = eval e X.env) : PE X (.Attribute e f pos) (tFld K ta f) := h ▸ pe_fld he hb
theorem pi_tupK {X : Cx} {K : PySem.W.Frag} {tg e : Expr} {te : TE} (h : X.K = K) (he : PE X e te) : PI X tg e (iTup K te) := h ▸ pi_tup he
end TK

/-! an own exception over ValueError whose __init__ says super().__init__(..); self.f = x -/
namespace TK
section
open PySem PySem.W PySem.Calls PySem.Spec PyProof.Rows
variable {prog : Program} {w : World} {A : Around} {E : Value → Shared → Prop} {h : Heap} {g : Array GenState} {d : Drawn} {t : Nat} {os : OsState}
variable {nm q : Str} {C N : Addr} {bs bm : List Value} {hdct : Bool} {sn : List Str} {sub : List Value} {ab : Bool} {col : Option Bool} {dd : Option Addr} {k0 k1 k2 k3 k5 : Option Value}
/-- the bound __init__ called -/
theorem call_mw {u e t0 : Addr} {rest : List Value} {Q : Value → Shared → Prop}
    (hC : h.get? C = some (excClassObj nm q C N bs bm hdct sn sub ab col dd k0 k1 k2 k3 k5 "ValueError.__new__")) (he : h.get? e = some (HandSPX.excO C t0)) (hu : h.get? u = some (kxs_mw "ValueError.__init__" e)) (hrest : rest.length ≤ sizeLine)
    (hq : ∀ h' t1, (∀ b o, b ≠ e → h.get? b = some o → h'.get? b = some o) → h'.get? e = some (HandSPX.excO C t1) → Q .none ⟨h', g, d, t, os⟩) :
    wpAny (model prog w) A (call (.ref u) rest) Q E ⟨h, g, d, t, os⟩ := by
  refine wpAny_call (codeAny_of_tree ?_)
  show wpAny _ A.in1 (callAny (.ref u) ⟨rest, []⟩) _ _ _
  simp only [callAny]
  refine wpAny_bind (wpAny_load hu ?_)
  simp only [kxs_mw, show (Value.type "method-wrapper" == Value.type "method" || Value.type "method-wrapper" == Value.type "builtin_function_or_method" || Value.type "method-wrapper" == Value.type "method-wrapper") = true by decide, if_true]
  refine PySem.W.KFB.if_so (by decide) ?_
  refine wpAny_bind (ESX.check_bound F.excBase_ValueError hC he rfl ?_)
  refine wpAny_bind (wpAny_pure (wpAny_pure ?_))
  refine ⟨Code.quiet_builtin _ (by decide +kernel), codeAny_builtin F.excBase_ValueError.initEntry ?_⟩
  rw [Around.under_plainId F.excBase_ValueError.init.plain _]
  wp_walk
  refine hq _ h.objs.size (fun b o hb ho => ?_) ?_
  · rw [Heap.get?_update_other _ _ (Ne.symm hb)]
    exact Heap.get?_push_of_some _ ho
  · rw [Heap.get?_update_self _ (Heap.get?_push_of_some _ he) rfl]
    rfl
end
open PySem PySem.Spec PyProof.Rows L2 NdefX
open PySem.W (ks_superIn kxs_mw kxs_getMethod kxs_ValueError kxs_callWith)
def supBody (p0 p1 p2 p3 p4 p5 p6 p7 p8 : Pos) (msg : Expr) (arg fld : Str) : List Stmt :=
  [.Expr (.Call (.Attribute (.Call (.Name "super" p0) [] [] p1) "__init__" p2) [msg] [] p3) p4, .Assign [.Attribute (.Name "self" p5) fld p6] (.Name arg p7) p8]
/-- X.__init__(self, y): the exception at a gets its dict with the one field -/
def spSup (C : Addr) (fld : Str) (okv : V → Prop) : Sp := fun vs H Q _ => ∃ (a : Addr) (y : V), vs = [.ref a, y] ∧ okv y ∧ H a = some (exo a C none) ∧ ∀ dx, H dx = none → dx ≠ a → Q .non (upd (upd H dx (exd dx [(fld, y)])) a (exo a C (some dx)))
theorem fn_sup {CX : CXT} {P : Program} {w : World} {K : PySem.W.Frag} {mg : Str → Option Value} {base : Heap} {k : Nat} {f C cc cda : Addr} {qual arg fld file : Str} {params : Arguments} {scope : Scope} {msg : Expr} {p0 p1 p2 p3 p4 p5 p6 p7 p8 : Pos}
    {oc ccl cl dV kV doc pm ct : Value} {an od cdd cld : Option Addr} {osl ccs csl : Array (Option Value)} {vs0 : Array Value} {tf : Tok} {okv : V → Prop} {te : TE} {ar : Arg}
    (lk : K.lookup f = some ⟨oc, od, .func (PySem.W.fnX "__init__" qual params (supBody p0 p1 p2 p3 p4 p5 p6 p7 p8 msg arg fld) scope [("__class__", cc)] dV kV doc pm an (.ref cda) ct), osl⟩) (hcd : PySem.W.codeIn K (.ref cda) qual = true)
    (hcode : K.lookup cda = some ⟨ccl, cdd, .fields vs0, ccs⟩) (hvs : vs0[2]? = some (.str file tf)) (hfile : ((P.main.file : Str) == file) = true)
    (hcell : K.lookup cc = some ⟨cl, cld, .cell (some (.ref C)), csl⟩)
    (S : NScope ["self", arg, "__class__"] ["self", arg] ["__class__"] scope) (hks : scope.names.lookup ("super" : Str) = some .globalImplicit)
    (hpar : (params.posonlyargs ++ params.args).head? = some ar) (har : ar.arg = "self")
    (htop : (P.main.scope.names.lookup ("super" : Str)).isSome = false) (hsup : mg "super" = none)
    (T : OexC K C) (hmr : PySem.W.mroIn K C (.ref C) = some true) (hst : PySem.W.nsIn K cStatics "thirdparty.any" = some none) (hal : ks_superIn K C C "__init__" = some (some (.builtin "ValueError.__init__")))
    (hVE : PySem.W.subIn K (.ref C) (.type "ValueError") = some true) (hno : PySem.W.findIn K (.ref C) fld = some none)
    (hpa : ∀ (A : Around) (outer : List Env) (s : Shared) (H : Hp) (E : XK), PA (ncx CX P w K mg base ["self", arg, "__class__"] ⟨"__init__", qual, params, supBody p0 p1 p2 p3 p4 p5 p6 p7 p8 msg arg fld, scope, [("__class__", cc)], cda⟩ f A outer s H E) [msg] (tCons te tNil))
    (hpl : ∀ env : Env, starEach [msg] env = [(false, eval msg env)])
    (hte : ∀ (a : Addr) (y : V) (H : Hp) (Q : VK), okv y → (∀ z, Q z H) → te [some (.ref a), some y, some (.ref C)] H Q)
    (hdb : (arg == ("__debug__" : Str)) = false) (hdc : (arg == ("__classdict__" : Str)) = false) {pl : Env → Sem Bool} (hev : ∀ env : Env, eval (.Call (.Attribute (.Call (.Name "super" p0) [] [] p1) "__init__" p2) [msg] [] p3) env = (do
      let ov ← attributeBase (.Call (.Name "super" p0) [] [] p1) "__init__" env (eval (.Call (.Name "super" p0) [] [] p1) env)
      standAt p2.atName
      let (f, first) ← holding [ov] (getMethod ov "__init__" (pl env))
      callWith p3 f first (backTo p3 (starEach [msg] env)) [])) :
    FnOk P w K mg base CX (k + 1) f (PySem.W.fnX "__init__" qual params (supBody p0 p1 p2 p3 p4 p5 p6 p7 p8 msg arg fld) scope [("__class__", cc)] dV kV doc pm an (.ref cda) ct) ["self", arg] (spSup C fld okv) := by
  have len : ∀ vs H Q E, spSup C fld okv vs H Q E → vs.length = (["self", arg] : List Str).length := fun vs H Q E h => by
    obtain ⟨a, y, rfl, _⟩ := h
    rfl
  refine ⟨len, fun A outer s H args us vs Q E hr e0 hb r hsp => ?_⟩
  have hl := len _ _ _ _ hsp
  obtain ⟨a, y, rfl, oky, ea, q⟩ := hsp
  obtain ⟨hp0, g0, d0, tk0, os0⟩ := s
  have KX : K.In hp0 := e0.mod.kin.keeps fun b o e => (e0.bs b o e).1
  have lim : hp0.NoLimit := e0.mod.nolimit.keeps fun b o e => (e0.bs b o e).1
  have one : ∀ (y : Str) (c : Addr), ([(("__class__" : Str), cc)] : List (Str × Addr)).lookup y = some c → y = ("__class__" : Str) ∧ c = cc := fun y c e => by
    simp only [List.lookup] at e
    split at e
    · rename_i h
      exact ⟨eq_of_beq h, (Option.some.inj e).symm⟩
    · cases e
  have cls : CellsAt [(("__class__" : Str), cc)] ["__class__"] [some (.ref C)] hp0 H := by
    refine ⟨rfl, fun y c e => ?_, fun x y c e1 e2 => (one _ _ e1).1.trans (one _ _ e2).1.symm, fun i y hy => ?_⟩
    · obtain ⟨_, rfl⟩ := one _ _ e
      exact ⟨(e0.bs _ _ (e0.mod.kin _ _ hcell)).2, _, _, KX _ _ hcell, rfl⟩
    · match i, hy with
      | 0, hy =>
        cases Option.some.inj hy
        refine ⟨cc, by simp [List.lookup], fun v ev => ?_⟩
        cases Option.some.inj (Option.some.inj ev)
        exact ⟨.ref C, rfl, _, KX _ _ hcell, rfl⟩
      | i + 1, hy => simp at hy
  refine PySem.ks_codeAny_call_defAt (body := supBody p0 p1 p2 p3 p4 p5 p6 p7 p8 msg arg fld) (binds := (["self", arg] : List Str).zip us) hr.depth (KX _ _ lk) rfl lim (PySem.W.codeRec_of KX hcd) rfl hb S.nocell (fun ⟨n, v⟩ hy => S.par n (List.of_mem_zip hy).1) (fun h₁ hns kp => ?_) S.co S.gen S.kind
  let F : NF := ⟨"__init__", qual, params, supBody p0 p1 p2 p3 p4 p5 p6 p7 p8 msg arg fld, scope, [("__class__", cc)], cda⟩
  let X : Cx := ncx CX P w K mg base ["self", arg, "__class__"] F f A outer ⟨hp0, g0, d0, tk0, os0⟩ H E
  have I : Inv X [] (startF ["self", arg, "__class__"] [V.ref a, y] [some (.ref C)]) H ⟨h₁, g0, d0, tk0 + ((["self", arg] : List Str).zip us).length, os0⟩ :=
    inv_startN (CX := CX) (E := E) (N := ["self", arg, "__class__"]) (F := F) (f := f) (ws := [some (.ref C)]) S hr.hd e0 hl r cls hns kp
  have eσ : startF ["self", arg, "__class__"] [V.ref a, y] [some (.ref C)] = [some (.ref a), some y, some (.ref C)] := rfl
  rw [eσ] at I
  have pa : PA X [msg] (tCons te tNil) := hpa A outer ⟨hp0, g0, d0, tk0, os0⟩ H E
  generalize tk0 + ((["self", arg] : List Str).zip us).length = tk1 at I ⊢
  have KX1 : K.In h₁ := I.kIn
  obtain ⟨nm, q1, N, bs, bm, sn, sub, ab, col, dd, k0, k1, k2, k3, k5, hC, hbm⟩ := id T.cls
  obtain ⟨t1, hx⟩ := exo_at I.hok ea
  obtain ⟨mb, hb1, hb2⟩ := I.mod.blt
  have hself : scope.names.lookup ar.arg = some .local := by rw [har]; exact S.par "self" (by simp)
  obtain ⟨u, rfl⟩ : ∃ u, us = [Value.ref a, u] := by
    cases r with
    | @cons _ u0 _ ur ra rw' =>
      obtain rfl : u0 = Value.ref a := ra
      cases rw' with
      | cons rb rc => cases rc; exact ⟨_, rfl⟩
  have vself : (((["self", arg] : List Str).zip [Value.ref a, u]).reverse.lookup ar.arg) = some (.ref a) := by
    rw [har]
    have nd : (["self", arg] : List Str).Nodup := by
      have q := S.nd
      simp only [List.nodup_cons, List.mem_cons, not_or] at q ⊢
      exact ⟨⟨q.1.1, by simp⟩, by simp, by simp⟩
    exact zip_look (i := 0) nd rfl rfl
  show _root_.PySem.wpAt (model P w) X.A (.func (supBody p0 p1 p2 p3 p4 p5 p6 p7 p8 msg arg fld) X.env) (execs (supBody p0 p1 p2 p3 p4 p5 p6 p7 p8 msg arg fld) X.env) _ X.xe _
  refine PySem.ks_wpAt_execs_cons (PySem.ks_wpAt_Expr_any (PySem.ks_wpAt_MethodCall (PySem.ks_wpAt_super_base (env := X.env) (ar := ar) (f := f) hks (S.frk _ (by simp)) (by decide) rfl (KX1 _ _ lk) rfl hpar rfl (KX1 _ _ hcode) rfl hvs hfile htop ?_) (hev X.env)) I.quiet)
  refine PySem.W.ks_loadName_global S.kind hks (Calls.loadGlobal_builtin (mg := mg) (I.mod.glob.keeps I.bk) hsup (hb1.keeps I.bk) ((hb2 "super" (by decide)).trans (by decide +kernel : bootBuiltins "super" = some (.type "super"))) ⟨rfl, ?_⟩)
  refine wpAny_loadName_free S.kind (S.frk "__class__" (by simp)) (c := cc) rfl ⟨_, KX1 _ _ hcell, rfl⟩ ?_
  refine wpAny_loadName_local S.kind hself hns vself ?_
  have hCd := KX1 _ _ hC
  refine PySem.ks_wpAny_isType_cls hCd rfl ⟨rfl, ?_⟩
  refine PySem.ks_wpAny_call_super hCd rfl hx rfl (fun c e => by cases e) (PySem.W.looks_mroIn KX1 hmr) (fun h2 e2 kp2 => ?_)
  have I2 : Inv X [] [some (.ref a), some y, some (.ref C)] H ⟨h2, g0, d0, tk1, os0⟩ := I.kept (t' := tk1) kp2
  have KX2 : K.In h2 := I2.kIn
  have hx2 := kp2 _ _ hx
  have IA : PySem.W.InstAt h2 a _ C none := ⟨hx2, rfl, rfl, trivial⟩
  -- the bound __init__
  cases hcc : PySem.W.clsIn K C with
  | none => unfold ks_superIn at hal; rw [hcc] at hal; cases hal
  | some cd =>
    unfold ks_superIn at hal
    rw [hcc] at hal
    refine kxs_getMethod kxs_ValueError e2 (PySem.W.looks_opaque KX2 hst) (l₀ := cd.mro) (fun A Q E s k q => wpAny_bind ((PySem.W.looks_clsIn KX2 hcc) A _ E s k (wpAny_pure q))) rfl KX2 hal (IA.type.andThen (PySem.W.looks_subIn KX2 hVE)) (PySem.W.ks_ne KX2 IA hcc) (by decide) ?_
    have kp3 : ∀ b o, h2.get? b = some o → (h2.push (kxs_mw "ValueError.__init__" a)).get? b = some o := fun b o e => Heap.get?_push_of_some _ e
    have hu3 : (h2.push (kxs_mw "ValueError.__init__" a)).get? h2.objs.size = some (kxs_mw "ValueError.__init__" a) := Heap.get?_push_at rfl rfl
    have I3 : Inv X [] [some (.ref a), some y, some (.ref C)] H ⟨h2.push (kxs_mw "ValueError.__init__" a), g0, d0, tk1 + 1, os0⟩ := I2.kept (t' := tk1 + 1) kp3
    have I4 : Inv X [(h2.objs.size, kxs_mw "ValueError.__init__" a)] [some (.ref a), some y, some (.ref C)] H ⟨h2.push (kxs_mw "ValueError.__init__" a), g0, d0, tk1 + 1, os0⟩ := I3.pins_of fun p hp => by
      rw [List.mem_singleton.mp hp]
      exact ⟨hu3, I2.hok.fresh (Nat.le_refl _), Nat.ne_of_gt I2.lt, I2.nofs (Nat.le_refl _), fun v z => by cases z⟩
    show wpAny _ _ (callWith p3 (.ref h2.objs.size) [] (backTo p3 (starEach [msg] X.env)) []) _ _ _
    have ra := pa.run p3 _ _ _ H (fun vs H1 => ∃ z, vs = [z] ∧ H1 = H) I4 (hte a y H _ oky fun z => ⟨z, rfl, rfl⟩)
    rw [hpl] at ra ⊢
    refine kxs_callWith (i := "ValueError.__init__") (x := a) rfl (Calls.evalArgs_plain (thn ra fun us4 s4 hh => ?_))
    obtain ⟨vs4, H4, I5, r5, z, ev, eH⟩ := hh
    subst ev
    subst eH
    obtain ⟨h4, g4, d4, tk4, os4⟩ := s4
    have pin4 := I5.pin (h2.objs.size, kxs_mw "ValueError.__init__" a) (List.mem_append_right _ List.mem_cons_self)
    obtain ⟨t4, hx4⟩ := exo_at I5.hok ea
    refine ⟨pin4.1, call_mw (I5.kIn _ _ hC) hx4 pin4.1 (by show us4.length ≤ sizeLine; rw [← r5.length]; exact (show (1 : Nat) ≤ sizeLine by decide)) fun h5 t5 k5' hx5 => ?_⟩
    have J := I5.write (t' := tk4) (x := a) (e := a) (o := exo a C none) (by rw [ea]; exact True.intro) (.inl rfl) k5' ⟨_, hx5⟩ (exo_ok hx5)
    have eu : upd H4 a (exo a C none) = H4 := by
      funext b
      by_cases hb : b = a
      · rw [hb, upd_same, ea]
      · rw [upd_ne hb]
    rw [eu] at J
    -- self.f = y
    have hst2 : PSs X [.Assign [.Attribute (.Name "self" p5) fld p6] (.Name arg p7) p8] _ := pss_one (ps_ost (f := fld) (pe_var (i := 0) rfl (.inl (S.par "self" (by simp))) (by decide) (by decide)) (pe_var (i := 1) rfl (.inl (S.par arg (by simp))) hdb hdc))
    refine wpAt_of_wpAny (wpAny_mono (hst2.run _ _ _ _ { nx := fun _ H' => Q .non H', rt := Q } J ?_) (fun fl s' hs => ?_) fun e s' hs => hs)
    · exact ⟨_, rfl, _, rfl, a, C, rfl, T, hno, .inl ⟨ea, fun dx hdx n => q dx hdx n⟩⟩
    · have fin : ∀ {σ' : L2.St} {H' : Hp} {v : V} {u : Value}, Inv X [(h2.objs.size, kxs_mw "ValueError.__init__" a)] σ' H' s' → RelV v u → Q v H' → CE outer P w H4 ⟨hp0, g0, d0, tk0, os0⟩ Q u s' :=
        fun {σ' H' v u} J rv q => ⟨v, H', J.os, J.bare, J.base, J.hok, rv, q⟩
      cases fl with
      | ret u =>
        obtain ⟨v, σ', H', J, rv, q⟩ := hs
        exact fin J rv q
      | next =>
        obtain ⟨σ', H', J, q⟩ := hs
        exact fin (v := V.non) (u := Value.none) J rfl q
      | brk =>
        obtain ⟨_, _, _, q⟩ := hs
        exact False.elim q
      | cont =>
        obtain ⟨_, _, _, q⟩ := hs
        exact False.elim q
end TK

/-! raise X(e), X an own exception whose __init__ says super().__init__(..); self.f = e -/
namespace TK
open PySem PySem.Spec PyProof.Rows L2 NdefX
/-- what is told of X, at C, its __init__ at fI -/
structure SupT (P : Program) (w : World) (K : PySem.W.Frag) (mg : Str → Option Value) (base : Heap) (x arg fld : Str) (okv : V → Prop) (C fI : Addr) (fd : FuncData) : Prop where
  gC : mg x = some (.ref C)
  T : OexC K C
  iC : PySem.W.findIn K (.ref C) "__init__" = some (some (.ref fI))
  tI : PySem.W.typeIn K (.ref fI) = some (.type "function")
  F : FnOk P w K mg base CX0 1 fI fd ["self", arg] (spSup C fld okv)
  b : Binds K fd ["self", arg] []
  xf : XfC K C
  noN : PySem.W.findIn K (.ref C) fld = some none
  te : PySem.W.exmOne K (.ref C) (.ref C) = some true
/-- what the making asks -/
theorem sup_read {C : Addr} {fld : Str} {okv : V → Prop} {v : V} {H1 : Hp} {Q : XK} (ok : okv v) (q : ∀ d, H1 d = none → Q (.ref C) (some d) (upd H1 d (.xd [(fld, v)]))) :
    ([v] : List V).length ≤ 1000 ∧ ∀ a, H1 a = none → spSup C fld okv (.ref a :: ([v] ++ [])) (upd H1 a (exo a C none))
      (fun v H2 => v = .non ∧ ∃ (d : Addr) (fs : List (Str × V)), H2 a = some (exo a C (some d)) ∧ H2 d = some (exd d fs) ∧ H1 d = none ∧ Q (.ref C) (some d) (upd (del H2 a) d (.xd fs))) (fun _ _ _ => False) := by
  refine ⟨(show (1 : Nat) ≤ 1000 by decide), fun a na => ⟨a, v, rfl, ok, upd_same, fun dx hdx ne => ⟨rfl, dx, [(fld, v)], upd_same, ?_, ?_, ?_⟩⟩⟩
  · rw [upd_ne ne]; exact upd_same
  · rw [upd_ne ne] at hdx; exact hdx
  · rw [upd_ne ne] at hdx
    have e : upd (del (upd (upd (upd H1 a (exo a C none)) dx (exd dx [(fld, v)])) a (exo a C (some dx))) a) dx (.xd [(fld, v)]) = upd H1 dx (.xd [(fld, v)]) := by
      funext b
      by_cases h1 : b = dx
      · rw [h1, upd_same, upd_same]
      · rw [upd_ne h1, upd_ne h1]
        by_cases h2 : b = a
        · rw [h2, del_same, na]
        · rw [del_ne h2, upd_ne h2, upd_ne h1, upd_ne h2]
    rw [e]
    exact q dx hdx
section
variable {X : Cx} {W : WX} {x arg fld : Str} {okv : V → Prop} {C fI : Addr} {fd : FuncData} {e : Expr} {ta : TA} {p pos pos2 : Pos}
theorem ps_raiseSup (hc : X.calm = true) (T : SupT X.prog X.w X.K X.mg X.base x arg fld okv C fI fd) (hr : Room 2 X.A) (tk : Takes X W) (ha : PA X [e] ta) (hg : Gl X x)
    (hdb : (x == ("__debug__" : Str)) = false := by decide) (he : starEach (e :: []) X.env = (false, eval e X.env) :: starEach [] X.env := by rfl) (hpl : (backTo pos (starEach [] X.env)).any (·.1) = false := by rfl) :
    PS X (.Raise (some (.Call (.Name x p) [e] [] pos)) none pos2) (fun _ σ H => tMkO C (spSup C fld okv) [] ta σ H fun cls d H' => W cls d σ H') :=
  ps_raise hc tk (pmk_oex (dvs := []) T.T T.iC T.tI T.F hr T.b .nil (fun _ _ _ _ _ _ _ h => h.elim) hg T.gC ha hdb he hpl)
end
end TK

/-! X(), X an own exception without an __init__ -/
namespace TK
open PySem PySem.Spec PyProof.Rows L2
theorem pmk_own0 {X : Cx} {C : Addr} {bmB : List Value} {B newId initId : String} {x : Str} {p pos : Pos} (F : ExcBaseFacts B newId initId bmB) (q : PySem.W.excIn X.K C bmB newId = true) (gC : X.mg x = some (.ref C)) (kC : PySem.W.keepIn X.K (.ref C) = true) (r : Raises X (.ref C)) (hg : Gl X x)
    (hdb : (x == ("__debug__" : Str)) = false := by decide) : PMk X (.Call (.Name x p) [] [] pos) (fun _ H Q => Q (.ref C) none H) := by
  intro pins s σ H Q I h
  refine wpAny_Call_Name_kw (ld_glob I hg gC ?_ hdb)
  refine PySem.W.callWith_K0 I.kIn kC ?_
  show wpAny _ _ (call (.ref C) []) _ _ _
  obtain ⟨bm, N, nm, qn, bs, hdct, sn, sub, ab, col, dd, k0, k1, k2, k3, k5, mN, hC, hN, hni, T⟩ := exc_obj I.kIn q
  refine wpAny_call_exc_subT F T hC hN hni (fun h' e hm => ?_) (by show 0 ≤ sizeLine; exact Nat.zero_le _)
  exact mk_of I hm r h (I.hok.gone hm.new)
end TK

/-! isinstance of a caught exception that has its dict -/
namespace TK
section
open PySem PySem.W PySem.Spec PySem.Calls PyProof.Rows
variable {prog : Program} {w : World} {A : Around} {E : Value → Shared → Prop} {s : Shared} {K : Frag} {x D : Addr} {ox : Obj}
theorem findObj_dataO {C : Addr} {odc : Option Obj} {name : Str} {a g : Value} (hc : (clsIn K C).isSome = true) (ha : findIn K (.ref C) name = some (some a)) (hg : specialIn K a "__get__" = some (some g)) (ht : takesIn K a = some true) : findObj K C odc name = some (.bind g a) := by
  obtain ⟨cd, hc⟩ := Option.isSome_iff_exists.mp hc
  unfold findObj
  rw [hc, Option.bind_some, ha, Option.bind_some]
  simp [hg, ht]
theorem kin_classEo {Q : Option Value → Shared → Prop} (hga : findIn K (.ref D) "__getattribute__" = some (some (.builtin "BaseException.__getattribute__"))) (hgt : findIn K (.ref D) "__getattr__" = some none) (hsub : subIn K (.ref D) (.type "BaseException") = some true)
    (hdct : hasDictIn K D = true) (ha : findIn K (.ref D) "__class__" = some (some (.builtin "object.__class__")))
    (hn : specialIn K (.builtin "object.__class__") "__get__" = some (some (.builtin "getset_descriptor.__get__"))) (htk : takesIn K (.builtin "object.__class__") = some true) (hm : mroIn K D (.type "object") = some true)
    {odc : Option Obj} (X : K.In s.heap) (I : InstAt s.heap x ox D odc) (h : Q (some (.ref D)) { s with toks := s.toks + 1 }) : wpAny (model prog w) A (getAttr? (.ref x) "__class__") Q E s := by
  have hf : findObj K D odc "__class__" = some (.bind (.builtin "getset_descriptor.__get__") (.builtin "object.__class__")) := findObj_dataO (by obtain ⟨cd, hc, _⟩ := any_some hdct; rw [hc]; rfl) ha hn htk
  obtain ⟨hp, g, d, t, os⟩ := s
  have L0 := I.type (M := model prog w)
  have L1 := looks_findIn (M := model prog w) X hga
  have L2 := looks_findIn (M := model prog w) X hgt
  have L3 := looks_find (M := model prog w) X I hf
  have sub : Looks (model prog w) hp (isInstance (.ref x) (.type "BaseException")) true := L0.andThen (looks_subIn X hsub)
  have hx0 : (false && onTheHeap (Value.builtin "BaseException.__getattribute__")) = false := rfl
  have hx2 : (Value.builtin "BaseException.__getattribute__" == Value.builtin "object.__getattribute__") = false := by decide +kernel
  have hx1 : (onTheHeap (Value.ref D) && Value.builtin "BaseException.__getattribute__" == Value.builtin "object.__getattribute__") = false := by rw [hx2]; rfl
  unfold getAttr? getAttrBy? getAttrBy
  refine wpAny_bind (wpAny_mkText (wpAny_bind (wpAny_attempt (wpAny_holding (wpAny_bind (L0.at (wpAny_bind (L1.at ?_))))))))
  show wpAny _ _ (if (onTheHeap (Value.ref D) && Value.builtin "BaseException.__getattribute__" == Value.builtin "object.__getattribute__") = true then _ else _) _ _ _
  rw [hx1, if_neg Bool.false_ne_true]
  unfold getAttrByItsOwn hookBefore
  refine wpAny_bind ?_
  rw [if_pos (show onTheHeap (Value.ref D) = true from rfl)]
  refine L2.at ?_
  refine wpAny_bind (wpAny_attempt (wpAny_holding ?_))
  unfold callGetattribute
  rw [hx0, if_neg Bool.false_ne_true]
  unfold boundAndCalled
  rw [PySem.F.excAttr_ValueError.ga.bind (.ref x)]
  refine wpAny_bind (wpAny_pure ?_)
  show wpAny _ _ (call (.builtin "BaseException.__getattribute__") [.ref x, .str "__class__" t]) _ _ _
  refine wpAny_call (codeAny_call_builtin PySem.F.excAttr_ValueError.ga.plain PySem.F.entry_bexc_ga ?_)
  refine @check_slot (model prog w) _ _ ⟨hp, g, d, t + 1, os⟩ "BaseException.__getattribute__" "BaseException" "__getattribute__" (.ref x) [.str "__class__" t] [] _ (by decide +kernel) (by decide +kernel) sub (PySem.F.args_bexc_ga (.ref x) (.str "__class__" t)) ?_
  unfold Builtin.«object.__getattribute__»
  refine wpAny_bind (wpAny_of_eq (a := ((Value.ref x : Value), [Value.str "__class__" t])) (by first | rfl | (simp only [slotArgs]; rfl)) ?_)
  refine wpAny_bind (wpAny_pure (wpAny_bind (L0.at (wpAny_bind (L3.at ?_)))))
  show wpAny _ _ (holding [Value.builtin "object.__class__"] (call (.builtin "getset_descriptor.__get__") [.builtin "object.__class__", .ref x, .ref D]) >>= ret) _ _ _
  refine wpAny_bind (wpAny_holding (wpAny_call (class_get (s := ⟨hp, g, d, t + 1, os⟩) (ox := ox) (od := odc) X I hm ?_)))
  refine wpAny_pure ?_
  show wpAny _ _ (handedOut (.ref D)) _ _ _
  rw [handedOut_of (v := .ref D) rfl]
  first
    | exact wpAny_pure (wpAny_pure h)
    | exact wpAny_pure h
    | exact wpAny_pure (wpAny_bind (wpAny_pure (wpAny_pure h)))
theorem kitx_exco (hga : findIn K (.ref D) "__getattribute__" = some (some (.builtin "BaseException.__getattribute__"))) (hgt : findIn K (.ref D) "__getattr__" = some none) (hsub : subIn K (.ref D) (.type "BaseException") = some true) (hdct : hasDictIn K D = true) (ha : findIn K (.ref D) "__class__" = some (some (.builtin "object.__class__")))
    (hn : specialIn K (.builtin "object.__class__") "__get__" = some (some (.builtin "getset_descriptor.__get__"))) (htk : takesIn K (.builtin "object.__class__") = some true) (hm : mroIn K D (.type "object") = some true) {odc : Option Obj} :
    KitX K (.ref x) (.ref D) (fun h => InstAt h x ox D odc) where
  ty := fun _ _ _ I => I.type
  it := fun _ _ X _ => by
    obtain ⟨cdD, hcD, _⟩ := any_some hdct
    unfold clsIn at hcD
    split at hcD
    · rename_i c' d' cd' sl' ho
      intro A' Q' E' s' k q
      unfold isType loadHead
      exact wpAny_bind (wpAny_loadPart (k _ _ (X _ _ ho)) (wpAny_pure q))
    · cases hcD
  ne := fun h tp dd its n sl X htp => by
    obtain ⟨cdD, hcD, _⟩ := any_some hdct
    refine Bool.eq_false_iff.mpr fun q => ?_
    have e : D = tp := Value.ref.inj (beq_iff_eq.mp q)
    subst e
    unfold clsIn at hcD
    split at hcD
    · rename_i c' d' cd' sl' ho
      have z := (X _ _ ho).symm.trans htp
      cases z
    · cases hcD
  ca := fun X I k => kin_classEo hga hgt hsub hdct ha hn htk hm X I k
end
end TK

namespace TK
open PySem PySem.Spec PyProof.Rows L2
/-- the caught exception as it stands: its dict none, or told -/
def DctAt (d : Option Addr) (H : Hp) : Prop := d = none ∨ ∃ (dd : Addr) (fs : List (Str × V)), d = some dd ∧ H dd = some (.xd fs)
theorem inst_suite {X : Cx} {a D : Addr} {oe : Obj} {cls : Value} {d : Option Addr} {pn pins : List (Addr × Obj)} {σ : L2.St} {H : Hp} {s : Shared} (hz : Zc cls d oe) (hf : ∃ vs, oe.data = .fields vs) (I : Inv (X.suite a ((a, oe) :: pn)) pins σ H s) (ec : cls = .ref D) (hd : DctAt d H) :
    ∃ od, PySem.W.InstAt s.heap a oe D od := by
  obtain ⟨hget, _⟩ := I.pin (a, oe) (List.mem_append.mpr (.inl List.mem_cons_self))
  obtain ⟨vs, hv⟩ := hf
  subst ec
  rcases hd with rfl | ⟨dd, fs, rfl, e⟩
  · exact ⟨none, hget, hz.1, by unfold PySem.W.notCls; rw [hv] <;> rfl, by rw [hz.2]; exact True.intro⟩
  · have hx : ObjOk X.prog X.w H s.heap dd (.xd fs) := I.hok dd _ e
    obtain ⟨mA, hns, hr⟩ := hx
    obtain ⟨od, ho, hl⟩ := lookIn_ns hns
    exact ⟨some od, hget, hz.1, by unfold PySem.W.notCls; rw [hv] <;> rfl, by rw [hz.2]; exact ho⟩
/-- isinstance(e, c) -/
def rIsX (K : PySem.W.Frag) (D a : Addr) (cls : Value) (d : Option Addr) : List V → Hp → VK → Prop := fun xs H Q => ∃ (c : V) (cv : Value) (b : Bool), xs = [.ref a, c] ∧ cls = .ref D ∧ DctAt d H ∧ (∀ u, RelV c u → u = cv) ∧ PySem.W.kitOne K (.ref D) cv = some b ∧ Q (.bl b) H
theorem call_isX {X : Cx} {a D : Addr} {oe : Obj} {cls : Value} {d : Option Addr} {pn : List (Addr × Obj)} (C : ExcC X.K D) (hz : Zc cls d oe) (hf : ∃ vs, oe.data = .fields vs) : CallR (X.suite a ((a, oe) :: pn)) (.builtin "isinstance") (rIsX X.K D a cls d) := by
  intro pins s σ H xs us Q I r h
  obtain ⟨c, cv, b, rfl, ec, hd, hcv, e, q⟩ := h
  cases r with
  | cons rx rr =>
    cases rr with
    | cons rt rr =>
      cases rr
      cases rx
      have ec2 := hcv _ rt
      subst ec2
      obtain ⟨od, J⟩ := inst_suite hz hf I ec hd
      exact PySem.W.kia_one (kitx_exco C.hg C.hk C.hs C.hd C.ha C.hn C.ht C.hm) I.kIn J e (fun z => nomatch z) fun tk => ⟨.bl b, H, I.kept (t' := tk) fun _ _ z => z, rfl, q⟩
/-- isinstance(e, (c, ..)) -/
def rIsXT (K : PySem.W.Frag) (D a : Addr) (cls : Value) (d : Option Addr) : List V → Hp → VK → Prop := fun xs H Q => ∃ (tp : Addr) (cs : List V) (ws : List Value) (b : Bool), xs = [.ref a, .ref tp] ∧ cls = .ref D ∧ DctAt d H ∧ H tp = some (.tup cs) ∧ (∀ us, Vals cs us → us = ws) ∧ PySem.W.kitAny K (.ref D) ws = some b ∧ Q (.bl b) H
theorem call_isXT {X : Cx} {a D : Addr} {oe : Obj} {cls : Value} {d : Option Addr} {pn : List (Addr × Obj)} (C : ExcC X.K D) (hz : Zc cls d oe) (hf : ∃ vs, oe.data = .fields vs) : CallR (X.suite a ((a, oe) :: pn)) (.builtin "isinstance") (rIsXT X.K D a cls d) := by
  intro pins s σ H xs us Q I r h
  obtain ⟨tp, cs, ws, b, rfl, ec, hd, hT, hw, e, q⟩ := h
  cases r with
  | cons rx rr =>
    cases rr with
    | cons rt rr =>
      cases rr
      cases rx
      cases rt
      obtain ⟨od, J⟩ := inst_suite hz hf I ec hd
      obtain ⟨_, its, rv, o, h1, h2, n, h3⟩ := (show ObjOk X.prog X.w H s.heap tp (.tup cs) from I.hok tp _ hT)
      have e3 := hw _ rv
      subst e3
      obtain ⟨oc, odd, dt, sl⟩ := o
      simp only at h2 h3
      subst h2 h3
      exact PySem.W.kia_tup (kitx_exco C.hg C.hk C.hs C.hd C.ha C.hn C.ht C.hm) I.kIn J h1 e (fun z => nomatch z) fun tk => ⟨.bl b, H, I.kept (t' := tk) fun _ _ z => z, rfl, q⟩
end TK

/-! which classes an own exception is of, from simple facts -/
namespace TK
open PySem PySem.Spec PyProof.Rows L2 NdefX
/-- what is known of a class -/
structure ClsK (K : PySem.W.Frag) (N : Addr) : Prop where
  is_ : PySem.W.isClsIn K N = true
  ty : PySem.W.typeIn K (.ref N) = some (.type "type")
theorem kitCls_ref {K : PySem.W.Frag} {A N : Addr} {b : Bool} (h : ClsK K N) (s : PySem.W.subIn K (.ref A) (.ref N) = some b) : PySem.W.kitCls K (.ref A) (.ref N) = some b := by
  have h1 := h.is_
  unfold PySem.W.isClsIn at h1
  unfold PySem.W.kitCls
  simp [h1, h.ty, s]
theorem kit_no {K : PySem.W.Frag} {A N : Addr} (h : ClsK K N) (r : PySem.W.subIn K (.ref A) (.ref A) = some true) (s : PySem.W.subIn K (.ref A) (.ref N) = some false) : PySem.W.kitOne K (.ref A) (.ref N) = some false := by
  have ne : ((Value.ref A) == Value.ref N) = false := by
    cases e : ((Value.ref A) == Value.ref N) with
    | false => rfl
    | true =>
      have e2 := eq_of_beq e
      rw [← e2, r] at s
      cases s
  unfold PySem.W.kitOne
  rw [ne]
  exact kitCls_ref h s
theorem kit_yes {K : PySem.W.Frag} {A N : Addr} (h : ClsK K N) (s : PySem.W.subIn K (.ref A) (.ref N) = some true) : PySem.W.kitOne K (.ref A) (.ref N) = some true := by
  unfold PySem.W.kitOne
  split
  · rfl
  · exact kitCls_ref h s
theorem kitT_yes {K : PySem.W.Frag} {A : Addr} {T : String} (m : PySem.W.kitMeta T = true) (s : PySem.W.subIn K (.ref A) (.type T) = some true) : PySem.W.kitOne K (.ref A) (.type T) = some true := by
  unfold PySem.W.kitOne
  split
  · rfl
  · unfold PySem.W.kitCls
    simp [m, s]
theorem exm_self {K : PySem.W.Frag} {C : Addr} (h : ClsK K C) (b : PySem.W.subIn K (.ref C) (.type "BaseException") = some true) (r : PySem.W.subIn K (.ref C) (.ref C) = some true) : PySem.W.exmOne K (.ref C) (.ref C) = some true := by
  unfold PySem.W.exmOne
  rw [b, kitCls_ref h r]
  rfl
theorem kitAny_no {K : PySem.W.Frag} {t : Value} : ∀ {cs : List Value}, (∀ c ∈ cs, PySem.W.kitOne K t c = some false) → PySem.W.kitAny K t cs = some false
  | [], _ => rfl
  | c :: r, h => by
    unfold PySem.W.kitAny
    rw [h c (List.mem_cons_self ..)]
    exact kitAny_no fun d hd => h d (List.mem_cons_of_mem _ hd)
theorem kitAny_c {K : PySem.W.Frag} {t c : Value} {cs : List Value} (h : PySem.W.kitOne K t c = some false) (r : PySem.W.kitAny K t cs = some false) : PySem.W.kitAny K t (c :: cs) = some false := by
  unfold PySem.W.kitAny
  rw [h]
  exact r
theorem kitMeta_VE : PySem.W.kitMeta "ValueError" = true := by decide +kernel
/-- the facts of an exception's class, as the top's world tells them -/
theorem oexC_mk {K : PySem.W.Frag} {C : Addr} {nm q : Str} {N : Addr} {bs bm : List Value} {sn : List Str} {sub : List Value} {ab : Bool} {col : Option Bool} {dd : Option Addr} {k0 k1 k2 k3 k5 : Option Value}
    (lC : K.lookup C = some (excClassObj nm q C N bs bm true sn sub ab col dd k0 k1 k2 k3 k5 "ValueError.__new__")) (rf : PySem.HandSPX.refsVE bm = true) (sa : PySem.W.findIn K (.ref C) "__setattr__" = some (some (.builtin "object.__setattr__")))
    (bx : PySem.W.subIn K (.ref C) (.type "BaseException") = some true) (ty : PySem.W.typeIn K (.ref C) = some (.type "type")) (kc : PySem.W.keepIn K (.ref C) = true) : OexC K C := ⟨⟨_, _, _, _, _, _, _, _, _, _, _, _, _, _, _, lC, rf⟩, sa, bx, ty, kc⟩
end TK

/-! calls of methods that may raise, the exception's promise with the slots as they stand -/
namespace TK
open PySem PySem.Spec PyProof.Rows L2 NdefX
section
variable {X : Cx} {CX : CXT} {k : Nat} {f g C : Addr} {m : Str} {fd : FuncData} {ps : List Str} {sp : Sp} {E : L2.St → XK} {apos pos : Pos} {o e : Expr} {es : List Expr} {ta : TE} {t : TA}
def tMethAt (C : Addr) (m : Str) (sp : Sp) (E : L2.St → XK) (ta : TE) (t : TA) : TE := fun σ H Q => ta σ H fun x H1 => ∃ a dx fs, x = V.ref a ∧ H1 a = some (.ins C dx fs) ∧ fs.lookup m = none ∧
  t σ H1 fun vs H2 => sp (x :: vs) H2 Q (E σ)
/-- o.m(e, ..), that may raise -/
theorem pe_methAt {pl : Sem Bool} (he : PE X o ta) (c : Cls X.K C) (hm : Meth X.K C m f) (F : FnOk X.prog X.w X.K X.mg X.base CX k f fd ps sp) (hr : Room k X.A) (hb : Binds X.K fd ps []) (hx : ∀ σ, PassesAt CX X σ (E σ)) (ha : PA X (e :: es) t)
    (hst : starEach (e :: es) X.env = (false, eval e X.env) :: starEach es X.env := by rfl) (hpl : (backTo pos (starEach es X.env)).any (·.1) = false := by rfl)
    (ht : eval (.Call (.Attribute o m apos) (e :: es) [] pos) X.env = (do
      let ov ← eval o X.env
      standAt apos.atName
      let (f, first) ← holding [ov] (getMethod ov m pl)
      callWith pos f first (backTo pos (starEach (e :: es) X.env)) (backToKw pos (keywordEach [] X.env))) := by rfl) :
    PE X (.Call (.Attribute o m apos) (e :: es) [] pos) (tMethAt C m sp E ta t) := by
  refine ⟨fun pins s σ H Q I h => ?_⟩
  refine PySem.W.methodCall_KW (pl := pl) (thn (he.run pins s σ H _ I h) fun u s1 ⟨x, H1, I1, rx, a, dx, fs, ex, ea, l, q⟩ => ?_) ht
  subst ex
  obtain rfl : u = Value.ref a := rx
  refine getmeth_ok I1 ea c hm l ?_
  refine PySem.W.callWith_K (first := [.ref a]) (h₀ := X.base) I.ok.mod.kin hm.kp (thn (ha.run pos pins s1 σ H1 _ I1 q) fun us s2 ⟨vs, H2, I2, r, q2⟩ => ⟨I2.kIn, ?_⟩) hst hpl
  exact run_fnS (us := .ref a :: us) (vs := .ref a :: vs) F hr hb (hx σ) I2 (.cons rfl r) q2
/-- o.m(), that may raise -/
theorem pe_methAt0 {pl : Sem Bool} (he : PE X o ta) (c : Cls X.K C) (hm : Meth X.K C m f) (F : FnOk X.prog X.w X.K X.mg X.base CX k f fd ps sp) (hr : Room k X.A) (hb : Binds X.K fd ps []) (hx : ∀ σ, PassesAt CX X σ (E σ))
    (ht : eval (.Call (.Attribute o m apos) [] [] pos) X.env = (do
      let ov ← eval o X.env
      standAt apos.atName
      let (f, first) ← holding [ov] (getMethod ov m pl)
      callWith pos f first (backTo pos (starEach [] X.env)) (backToKw pos (keywordEach [] X.env))) := by rfl) :
    PE X (.Call (.Attribute o m apos) [] [] pos) (tMethAt C m sp E ta tNil) := by
  refine ⟨fun pins s σ H Q I h => ?_⟩
  refine PySem.W.methodCall_KW (pl := pl) (thn (he.run pins s σ H _ I h) fun u s1 ⟨x, H1, I1, rx, a, dx, fs, ex, ea, l, q⟩ => ?_) ht
  subst ex
  obtain rfl : u = Value.ref a := rx
  refine getmeth_ok I1 ea c hm l ?_
  exact PySem.W.callWith_K0 (first := [.ref a]) I1.kIn hm.kp (run_fnS (us := [.ref a]) (vs := [.ref a]) F hr hb (hx σ) I1 (.cons rfl .nil) q)
end
end TK

namespace TK
open PySem PySem.Spec PyProof.Rows L2 NdefX
/-! a value of another kind, compared with an own object -/
inductive OddX (K : PySem.W.Frag) (C : Addr) (H : Hp) : V → Prop where
  | non (h : PySem.W.notFirst K C (.type "NoneType") = true) : OddX K C H .non
  | str (z : Str) (h : PySem.W.notFirst K C (.type "str") = true) : OddX K C H (.str z)
  | int (i : Int) (h : PySem.W.notFirst K C (.type "int") = true) : OddX K C H (.int i)
  | bl (b : Bool) (h : PySem.W.notFirst K C (.type "bool") = true) : OddX K C H (.bl b)
  | lst {a : Addr} {xs : List V} (e : H a = some (.lst xs)) (h : PySem.W.notFirst K C (.type "list") = true) : OddX K C H (.ref a)
  | tup {a : Addr} {xs : List V} (e : H a = some (.tup xs)) (h : PySem.W.notFirst K C (.type "tuple") = true) : OddX K C H (.ref a)
section
variable {X : Cx} {K : PySem.W.Frag} {CX : CXT} {C g : Addr} {n : Nat} {fd : FuncData} {ps : List Str} {sp : Sp} {E : XK} {pins : List (Addr × Obj)} {σ : L2.St} {H : Hp} {s : Shared}
def rOwnX (K : PySem.W.Frag) (C : Addr) (sp : Sp) (E : XK) : R2 := fun x y H Q => IsIn H x C ∧ (IsIn H y C ∨ OddX K C H y) ∧ sp [x, y] H Q E
theorem oddX_looks {x : V} {u : Value} (I : Inv X pins σ H s) (rx : RelV x u) (o : OddX X.K C H x) : ∃ tb, PySem.W.Looks (model X.prog X.w) s.heap (typeOf u) tb ∧ PySem.W.notFirst X.K C tb = true := by
  cases o with
  | non h => cases (show u = Value.none from rx); exact ⟨_, .now, h⟩
  | str z h => obtain ⟨t, q⟩ := (show ∃ t, u = Value.str z t from rx); cases q; exact ⟨_, .now, h⟩
  | int z h => obtain ⟨t, q⟩ := (show ∃ t, u = Value.int z t from rx); cases q; exact ⟨_, .now, h⟩
  | bl z h => cases (show u = Value.bool z from rx); exact ⟨_, .now, h⟩
  | @lst a xs ea h =>
    cases (show u = Value.ref a from rx)
    obtain ⟨_, _, n, _, h1⟩ := (show ObjOk X.prog X.w H s.heap a (.lst xs) from I.hok a _ ea)
    exact ⟨.type "list", (PySem.W.Looks.ld h1).andThen .now, h⟩
  | @tup a xs ea h =>
    cases (show u = Value.ref a from rx)
    obtain ⟨_, _, _, o, h1, h2, _⟩ := (show ObjOk X.prog X.w H s.heap a (.tup xs) from I.hok a _ ea)
    exact ⟨_, h2 ▸ (PySem.W.Looks.ld h1).andThen .now, h⟩
theorem op_ownEqX {op : CmpOp} (hK : X.K = K) (hop : ∀ a b, compareOp op a b = richCompare op a b) (c : Own X.K C (cmpInfo op).2.1 g) (F : FnOk X.prog X.w X.K X.mg X.base CX n g fd ps sp) (hr : Room n X.A) (hb : Binds X.K fd ps []) (hx : Passes CX X E) :
    OpR X (compareOp op) (rOwnX K C sp E) := by
  subst hK
  intro pins s σ H x y v u Q I rx ry h
  obtain ⟨⟨a, dx, fs, rfl, ha⟩, hy, q⟩ := h
  cases rx
  obtain ⟨ox, od, J⟩ := own_at I ha
  obtain ⟨m, hF⟩ := I.fr
  rw [hop]
  have key : ∃ tb, PySem.W.Looks (model X.prog X.w) s.heap (typeOf u) tb ∧ PySem.W.notFirst X.K C tb = true := by
    rcases hy with ⟨b, dy, gs, rfl, hb'⟩ | o
    · cases ry
      obtain ⟨ox', od', J'⟩ := own_at I hb'
      exact ⟨_, J'.type, by simp [PySem.W.notFirst]⟩
    · exact oddX_looks I ry o
  obtain ⟨tb, L, nf⟩ := key
  refine PySem.W.cmp_K (op := op) (tb := tb) hr.units0 hF I.ok.mod.kin J L nf c.at_ c.fn (wpAny_mono (run_own F hr I.env0 hb hx I (vs := [.ref a, y]) (.cons rfl (.cons ry .nil)) q) (fun w s' z => ?_) fun _ _ x => x)
  obtain ⟨z', H', I', rz, qz⟩ := z
  exact SlX.cmpback rz ⟨z', H', I', rz, qz⟩
end
/-! o op p of two of one class, that may raise -/
section
variable {X : Cx} {CX : CXT} {n : Nat} {g C : Addr} {fd : FuncData} {ps : List Str} {sp : Sp} {E : L2.St → XK} {pos : Pos} {a b : Expr} {ta tb : TE} {pins : List (Addr × Obj)} {σ : L2.St} {H : Hp} {s : Shared}
theorem run_ownAt {E : XK} {A : Around} {Q : VK} {us : List Value} {vs : List V} (F : FnOk X.prog X.w X.K X.mg X.base CX n g fd ps sp) (hr : Room n A) (e0 : Env0 X.prog X.w X.K X.mg X.base A X.stack s H) (hb : Binds X.K fd ps []) (hx : PassesAt CX X σ E)
    (I : Inv X pins σ H s) (r : Vals vs us) (h : sp vs H Q E) : wpAny (model X.prog X.w) A (call (.ref g) us) (EP X pins σ Q) X.xe s := by
  have hl : (us ++ []).length = ps.length := by rw [List.append_nil, ← r.length]; exact F.len _ _ _ _ h
  have hbb := hb s us I.kIn hl
  rw [List.append_nil] at hbb
  refine wpAny_call (codeAny_mono (F.run A X.stack s H ⟨us, []⟩ us vs Q E hr e0 hbb r h) fun r s' hq => ?_)
  cases r with
  | error e => exact hx pins H s e s' I hq
  | ok fl =>
    cases fl with
    | ret u => exact I.after hq
    | next => exact False.elim hq
    | brk => exact False.elim hq
    | cont => exact False.elim hq
theorem pe_ownBinAt {op : Operator} (c : Own X.K C (PySem.dunder op.info.2) g) (sf : PySem.W.selfFirst X.K C = true) (F : FnOk X.prog X.w X.K X.mg X.base CX n g fd ps sp) (hr : Room n X.A) (hb : Binds X.K fd ps []) (hx : ∀ σ, PassesAt CX X σ (E σ))
    (ha : PE X a ta) (hb' : PE X b tb) : PE X (.BinOp a op b pos) (fun σ H Q => ta σ H fun x H1 => tb σ H1 fun y H2 => rOwn2 C sp (E σ) x y H2 Q) := by
  refine ⟨fun pins s σ H Q I h => ?_⟩
  refine wpAny_BinOp (binT (R := fun x y H2 => rOwn2 C sp (E σ) x y H2 Q) ha hb' I h fun v u s2 x y H2 I2 rx ry q => ?_)
  obtain ⟨⟨a, dx, fs, rfl, ha⟩, ⟨b, dy, gs, rfl, hb''⟩, q⟩ := q
  cases rx
  cases ry
  obtain ⟨ox, od, J⟩ := own_at I2 ha
  obtain ⟨ox', od', J'⟩ := own_at I2 hb''
  obtain ⟨m, hF⟩ := I2.fr
  refine PySem.W.binop_K hF I2.ok.mod.kin J J'.type sf c.at_ c.fn (wpAny_mono (run_ownAt F hr I2.env0 hb (hx σ) I2 (vs := [.ref a, .ref b]) (.cons rfl (.cons rfl .nil)) q) (fun w s' z => ?_) fun _ _ x => x)
  obtain ⟨z', H', I', rz, qz⟩ := z
  exact SlX.cmpback rz ⟨z', H', I', rz, qz⟩
end
end TK

namespace TK
open PySem PySem.Spec PyProof.Rows L2 NdefX
/-! len(o), o an own object with a __len__ -/
section
variable {X : Cx} {CX : CXT} {C g : Addr} {n : Nat} {fd : FuncData} {sp : Sp} {E : XK}
def rLenOwn (C : Addr) (sp : Sp) (E : XK) : List V → Hp → VK → Prop := fun xs H Q => ∃ a dx fs, xs = [V.ref a] ∧ H a = some (.ins C dx fs) ∧ sp [.ref a] H (fun v H' => ∃ k : Int, v = .int k ∧ 0 ≤ k ∧ k < 2 ^ 63 ∧ Q (.int k) H') E
theorem call_lenOwn (c : Own X.K C "__len__" g) (F : FnOk X.prog X.w X.K X.mg X.base CX n g fd ["self"] sp) (hr : Room (n + 1) X.A) (hb : Binds X.K fd ["self"] []) (hx : Passes CX X E) : CallR X (.builtin "len") (rLenOwn C sp E) := by
  intro pins s σ H xs us Q I r h
  obtain ⟨a, dx, fs, rfl, ha, q⟩ := h
  obtain ⟨u, rfl, ru⟩ := vals1 r
  obtain rfl : u = Value.ref a := ru
  obtain ⟨ox, od, J⟩ := own_at I ha
  refine Calls.call_function_entry kind_len plain_len entry_len (args_len1 _) ?_
  unfold Builtin.«len»
  refine wpAny_bind (m := oneArg "len" _) (wpAny_pure ?_)
  refine wpAny_bind (m := callSpecial? (.ref a) (Str.ofString "__len__")) (PySem.W.special_fn I.kIn J c.at_ (beq_iff_eq.mp c.fn) (wpAny_mono (run_own F hr.in1 I.env0.in1 hb hx I (vs := [.ref a]) (.cons rfl .nil) q) (fun v s' z => ?_) fun _ _ x => x))
  obtain ⟨z', H', I', rz, k, rfl, k0, k1, qz⟩ := z
  obtain ⟨t, rfl⟩ := (show ∃ t, v = Value.int k t from rz)
  refine wpAny_bind (wpAny_holding (wpAny_pure ?_))
  refine wpAny_bind (wpAny_letGo ?_)
  show wpAny _ _ (if k < 0 then _ else _) _ _ _
  rw [if_neg (by omega)]
  show wpAny _ _ (if k ≥ 2 ^ 63 then _ else _) _ _ _
  rw [if_neg (by omega)]
  exact wpAny_bind (wpAny_mkInt (wpAny_pure ⟨_, rfl, ⟨.int k, H', I'.tok _, ⟨_, rfl⟩, qz⟩⟩))
end
end TK

/-! list(o), o an own object whose __iter__ gives the iterator of a tuple, with a __len__ -/
namespace TK
open PySem PySem.Spec PyProof.Rows L2
theorem sqT_upd {K : PySem.W.Frag} {H : Hp} {t q : Addr} {o : HO} {xs : List V} (h : SqT K H t xs) (hq : H q = none) : SqT K (upd H q o) t xs := by
  rcases h with (h | ⟨o', h⟩) | h
  · exact .inl (.inl (by rw [upd_ne (ne_of_none h hq)]; exact h))
  · exact .inl (.inr ⟨o', by rw [upd_ne (ne_of_none h hq)]; exact h⟩)
  · exact .inr h
theorem big1000 : 1000 < sizeLine := by rw [sizeLine_eq]; decide
section
variable {X : Cx} {C gi gl : Addr} {n : Nat} {fdL : FuncData} {spL : Sp} {CX : CXT} {E : XK} {pins : List (Addr × Obj)} {σ : L2.St} {H : Hp} {s : Shared}
theorem tup_loop {A1 : Around} (hd : A1.in1.handled = none) {t it q : Addr} {xs : List V} {Rs : Result → Shared → Prop} (hq : H q = none) (hT : SqT X.K H t xs) (hx : xs.length ≤ 1000) (iq : it ≠ q)
    (hdone : ∀ s, Inv X pins σ (upd H q (.lst xs)) s → Rs (.ok (.ret .none)) s) (hf : FpOk X pins (upd H q (.lst [])) it) :
    ∀ (k i : Nat) (s : Shared), xs.length - i = k → i ≤ xs.length → Inv X pins σ (upd H q (.lst (xs.take i))) s → s.heap.IsTupleIter it t i → codeAny (model X.prog X.w) A1 (.builtin "list.extend.loop" ⟨[.ref q, .ref it, .none], []⟩) Rs s := by
  intro k
  obtain ⟨f0, f1, f2, f3, f4, f5⟩ := hf
  rw [upd_ne iq] at f0
  induction k with
  | zero =>
    intro i s hk hi I st
    have hin : i = xs.length := by omega
    refine codeAny_builtin PySem.F.entry_extend_loop ?_
    rw [Around.under_plainId PySem.F.plain_extend_loop _]
    show wpAny _ A1.in1 (pyNext (.ref it) >>= _) _ _ s
    obtain ⟨its, rv, p, hz⟩ := I.tuple (sqT_upd (o := .lst (xs.take i)) hT hq)
    have hl := rv.length
    refine wpAny_bind (wpAny_pyNext_tuple_end hd st (show s.heap.IsTuple t its.toArray from p) (by simp; omega) fun h' eb => ?_)
    refine wpAny_pure (hdone _ ?_)
    have := I.turned (t' := s.toks) (fun b o hb e => eb b o hb e) (by rw [upd_ne iq]; exact f0) f1 f3 f4 f5
    rw [hin, List.take_length] at this
    exact this
  | succ k ih =>
    intro i s hk hi I st
    have hlt : i < xs.length := by omega
    refine codeAny_builtin PySem.F.entry_extend_loop ?_
    rw [Around.under_plainId PySem.F.plain_extend_loop _]
    show wpAny _ A1.in1 (pyNext (.ref it) >>= _) _ _ s
    obtain ⟨its, rv, p, hz⟩ := I.tuple (sqT_upd (o := .lst (xs.take i)) hT hq)
    obtain ⟨u, hu, ru⟩ := rv.get (List.getElem?_eq_getElem hlt)
    refine wpAny_bind (wpAny_pyNext_tuple_item st (show s.heap.IsTuple t its.toArray from p) (x := u) (by simpa using hu) fun h' st' sb => ?_)
    have I1 := I.turned (t' := s.toks) (h' := h') (fun b o hb e => (sb.2 b hb).trans e) (by rw [upd_ne iq]; exact f0) f1 f3 f4 f5
    show wpAny _ A1.in1 (updateSeq q (·.push u) >>= _) _ _ _
    obtain ⟨z, its2, k2, r2, hl, e⟩ := I1.lstM upd_same
    have hl2 : its2.length = i := by rw [← hl, List.length_take]; omega
    have hb := big1000
    refine wpAny_bind (wpAny_updateSeq e rfl (wpAny_pure ⟨plainId_quiet PySem.F.plain_extend_loop _, ?_⟩) (by rw [List.size_toArray]; omega) (by show (its2.toArray.push u).size ≤ sizeLine + 1; rw [Array.size_push, List.size_toArray]; omega))
    have I2 := I1.lset (f := (·.push u)) (its' := its2 ++ [u]) (ys := xs.take i ++ [xs[i]]) (t' := s.toks) upd_same e (by simp) (r2.append (.cons ru .nil)) (by rw [List.length_append, List.length_singleton, List.length_take]; omega)
    refine ih (i + 1) _ (by omega) (by omega) ?_ (st'.at fun o e => (Heap.get?_update_other _ _ (Ne.symm iq)).trans e)
    rw [upd_upd, show xs.take i ++ [xs[i]] = xs.take (i + 1) by rw [List.take_add_one, List.getElem?_eq_getElem hlt]; rfl] at I2
    exact I2
theorem len_hint {A1 : Around} {Q : Bool → Shared → Prop} {Er : Value → Shared → Prop} {a dx : Addr} {fs : List (Str × V)} {m : Nat} (c : Own X.K C "__len__" gl) (F : FnOk X.prog X.w X.K X.mg X.base CX n gl fdL ["self"] spL) (hb : Binds X.K fdL ["self"] []) (hx : Passes CX X.nox E)
    (sb : Sub X n A1.in1) (I : Inv X pins σ H s) (ha : H a = some (.ins C dx fs)) (hm : m ≤ 1000) (h : spL [.ref a] H (fun v H' => v = .int m ∧ H' = H) E) (q : ∀ s', Inv X pins σ H s' → ∀ b, Q b s') :
    wpAny (model X.prog X.w) A1 (Builtin.List.listLengthHint (.ref a)) Q Er s := by
  obtain ⟨ox, od, J⟩ := own_at I ha
  obtain ⟨m0, hF⟩ := I.fr
  unfold Builtin.List.listLengthHint
  refine wpAny_bind (wpAny_bind (J.type.here ((PySem.W.looks_findIn I.kIn c.at_).here ?_)))
  refine PySem.W.KFB.if_not rfl ?_
  refine PySem.W.KFB.if_so rfl ?_
  refine wpAny_bind (wpAny_rule ?_)
  have e0 : Env0 X.prog X.w X.K X.mg X.base A1.in1 X.stack s H := by
    have e := I.env0
    exact ⟨by rw [sb.fr]; exact e.frames, e.mod, e.bs, e.bsz, e.funs, e.frf, e.hok, e.bare⟩
  refine wpAny_bind (wpAny_attempt (PySem.W.len_K hF I.ok.mod.kin J c.at_ c.fn (wpAny_mono (run_own (X := X.nox) F sb.room e0 hb hx (I.wish _) (vs := [.ref a]) (.cons rfl .nil) h) (fun w s' z => ?_) fun _ _ x => False.elim x)))
  obtain ⟨z', H', I', rz, rfl, rfl⟩ := z
  obtain ⟨t, rfl⟩ := (show ∃ t, w = Value.int m t from rz)
  refine ⟨⟨by omega, by omega⟩, ?_⟩
  refine wpAny_bind (m := asInt? _) (wpAny_pure ?_)
  have hs := big1000
  refine PySem.W.KFB.if_not (by simp [Builtin.List.listTooLong]; omega) ?_
  exact wpAny_pure (q _ (I'.unwish.tok _) _)
theorem extendT {R : Addr → Addr → Hp → Prop} {Q : VK} {a dx t q : Addr} {fs : List (Str × V)} {ys : List V} (hc : X.calm = true) (ci : Own X.K C "__iter__" gi) (FI : FnIt X.prog X.w X.K X.mg X.base n gi R) (cl : Own X.K C "__len__" gl) (F : FnOk X.prog X.w X.K X.mg X.base CX n gl fdL ["self"] spL) (hb : Binds X.K fdL ["self"] []) (hx : Passes CX X.nox E)
    (hr : Room (n + 3) X.A) (fr : H q = none) (I2 : Inv X pins σ (upd H q (.lst [])) s) (ha : H a = some (.ins C dx fs)) (hT : SqT X.K H t ys) (hy : ys.length ≤ 1000) (hRa : R a t (upd H q (.lst []))) (hsp : spL [.ref a] (upd H q (.lst [])) (fun v H' => v = .int ys.length ∧ H' = upd H q (.lst [])) E) (hQ : Q (V.ref q) (upd H q (.lst ys))) :
    wpAny (model X.prog X.w) X.A.in1.in1 (Builtin.List.listExtendWith (.ref q) (.ref a) .none)
      (fun fin s' => match fin with | .done f => wants (fun r s₂ => r = .none ∧ EP X pins σ Q (.ref q) s₂) X.xe (.ok f) s' | .again c' => c'.quiet = true ∧ codeAny (model X.prog X.w) X.A.in1 c' (wants (fun r s₂ => r = .none ∧ EP X pins σ Q (.ref q) s₂) X.xe) s') (fun e s' => wants (fun r s₂ => r = .none ∧ EP X pins σ Q (.ref q) s₂) X.xe (.error e) s') s := by
  have sb : Sub X n X.A.in1.in1.in1 := (Sub.in1 (Sub.in1 (Sub.in1 (⟨hr, rfl⟩ : Sub X (n + 3) X.A))))
  have sb2 : Sub X (n + 1) X.A.in1.in1 := (Sub.in1 (Sub.in1 (⟨hr, rfl⟩ : Sub X (n + 3) X.A)))
  have ne : q ≠ a := Ne.symm (ne_of_none ha fr)
  have ha2 : upd H q (.lst []) a = some (.ins C dx fs) := by rw [upd_ne (Ne.symm ne)]; exact ha
  obtain ⟨ox, od, J⟩ := own_at I2 ha2
  obtain ⟨m0, hF⟩ := I2.fr
  unfold Builtin.List.listExtendWith
  refine wpAny_bind (J.type.here ?_)
  have h1 : Builtin.List.listSameRef (.ref q) (.ref a) = false := by simp [Builtin.List.listSameRef, ne]
  have h2 : (Value.ref C == Value.type "list") = false := rfl
  have h3 : (Value.ref C == Value.type "tuple") = false := rfl
  simp only [h1, h2, h3, Bool.or_false, Bool.false_eq_true, if_false]
  refine wpAny_bind (PySem.W.owit_iter hF I2.ok.mod.kin J ci.at_ ci.fn ?_)
  have e0 : Env0 X.prog X.w X.K X.mg X.base X.A.in1.in1 X.stack s (upd H q (.lst [])) := by
    have e := I2.env0
    exact ⟨by rw [sb2.fr]; exact e.frames, e.mod, e.bs, e.bsz, e.funs, e.frf, e.hok, e.bare⟩
  refine wpAny_call (codeAny_mono (FI X.A.in1.in1 X.stack s _ a t (sb2.room.mono (by omega)) e0 hRa) fun r s' hq => ?_)
  cases r with
  | error e => exact False.elim hq
  | ok fl =>
    cases fl with
    | next => exact False.elim hq
    | brk => exact False.elim hq
    | cont => exact False.elim hq
    | ret u =>
      obtain ⟨z, H2, os, bare, un, hok, rz, it, rfl, hn, hge, rfl⟩ := id hq
      have I3 : Inv X pins σ (upd (upd H q (.lst [])) it (ItT t it)) s' := I2.call' os un hok bare (fun b z => absurd z (by simp))
      cases rz
      have hget : s'.heap.get? it = some (itTObj t 0) := (I3.hok it _ upd_same).1
      have hTy : s'.TypeIs (.ref it) "tuple_iterator" := ⟨_, hget, rfl⟩
      have hi : (upd (upd H q (.lst [])) it (ItT t it)) it = some (.ext fun h => h.get? it = some (itTObj t 0)) := upd_same
      have I4 := ItX.inv_drop I3 hi
      have e3 : ItX.dropH (upd (upd H q (.lst [])) it (ItT t it)) it = upd H q (.lst []) := ItX.dropH_upd hn
      have fp := ItX.inv_fp I3 hi (Nat.le_trans I2.sz hge)
      rw [e3] at I4 fp
      have iq : it ≠ q := fun e => by rw [e, upd_same] at hn; cases hn
      unfold PySem.W.OwitIt
      refine wpAny_specialOf (name := Str.ofString "__next__") hTy PySem.F.slot_tuple_iterator_next.lookup ?_
      have Ip := I4.pinned (fp := [it]) (fun b hb => by cases List.mem_singleton.mp hb; exact fp) (fun b hb => by cases List.mem_singleton.mp hb; exact ⟨_, hget, fun v e => nomatch e⟩)
      have epin : pinsAt [it] s'.heap = [(it, itTObj t 0)] := by simp [pinsAt, hget]
      rw [epin] at Ip
      refine wpAny_bind (wpAny_holding (len_hint cl F hb hx sb Ip ha2 hy hsp fun s5 I5p bb => ?_))
      have hst : s5.heap.IsTupleIter it t 0 := ⟨_, (I5p.pin (it, itTObj t 0) (by simp)).1, rfl, rfl⟩
      have I5 := I5p.unpinned
      obtain ⟨z5, its5, k5, r5, hl5, e5⟩ := I5.lstM upd_same
      cases r5
      have hdn : X.A.in1.in1.handled = none := I5.ok.hd hc
      have fin : ∀ s' : Shared, Inv X pins σ (upd H q (.lst ys)) s' → wants (fun r s₂ => r = .none ∧ EP X pins σ Q (.ref q) s₂) X.xe (.ok (.ret .none)) s' := fun s' I' => ⟨rfl, .ref q, _, I', rfl, hQ⟩
      refine wpAny_ite_split (fun _ => ?_) (fun _ => wpAny_pure ⟨plainId_quiet PySem.F.plain_extend_loop _, tup_loop (A1 := X.A.in1) hdn fr hT hy iq fin fp ys.length 0 s5 rfl (Nat.zero_le _) I5 hst⟩)
      refine wpAny_bind (wpAny_rule ?_)
      refine wpAny_bind ?_
      show wpAny _ _ (updateSeq q (·.push .none) >>= fun _ => updateSeq q (·.pop)) _ _ _
      refine wpAny_bind (wpAny_updateSeq e5 rfl ?_)
      have I6 := I5.lset (f := (·.push Value.none)) (its' := [Value.none]) (ys := [.non]) (t' := s5.toks) upd_same e5 (by simp) (.cons rfl .nil) (by rw [List.length_singleton, sizeLine_eq]; decide)
      obtain ⟨z4, its4, k4, r4, hl4, e4⟩ := I6.lstM upd_same
      obtain ⟨u4, rfl, ru4⟩ := r4.one
      refine wpAny_updateSeq e4 rfl ?_ (by show 1 ≤ sizeLine; rw [sizeLine_eq]; decide) (by show 0 ≤ sizeLine + 1; exact Nat.zero_le _)
      have I7 := I6.lset (f := (·.pop)) (its := [u4]) (its' := []) (ys := []) (t' := s5.toks) upd_same e4 (by rfl) .nil (Nat.zero_le _)
      rw [upd_upd, upd_upd] at I7
      refine wpAny_pure ⟨plainId_quiet PySem.F.plain_extend_loop _, tup_loop (A1 := X.A.in1) hdn fr hT hy iq fin fp ys.length 0 _ rfl (Nat.zero_le _) I7 ?_⟩
      exact (hst.at fun o e => (Heap.get?_update_other _ _ (Ne.symm iq)).trans e).at fun o e => (Heap.get?_update_other _ _ (Ne.symm iq)).trans e
/-- list(o) -/
def rListOwn (K : PySem.W.Frag) (C : Addr) (R : Addr → Addr → Hp → Prop) (spL : Sp) (E : XK) : List V → Hp → VK → Prop := fun xs H Q => ∃ (a dx : Addr) (fs : List (Str × V)) (t : Addr) (ys : List V), xs = [.ref a] ∧ H a = some (.ins C dx fs) ∧ SqT K H t ys ∧ ys.length ≤ 1000 ∧
  (∀ q, H q = none → R a t (upd H q (.lst [])) ∧ spL [.ref a] (upd H q (.lst [])) (fun v H' => v = .int ys.length ∧ H' = upd H q (.lst [])) E) ∧ ∀ q, H q = none → Q (.ref q) (upd H q (.lst ys))
theorem call_listOwnT {R : Addr → Addr → Hp → Prop} (hc : X.calm = true) (ci : Own X.K C "__iter__" gi) (FI : FnIt X.prog X.w X.K X.mg X.base n gi R) (cl : Own X.K C "__len__" gl) (F : FnOk X.prog X.w X.K X.mg X.base CX n gl fdL ["self"] spL) (hb : Binds X.K fdL ["self"] []) (hx : Passes CX X.nox E)
    (hr : Room (n + 3) X.A) : CallR X (.type "list") (rListOwn X.K C R spL E) := by
  intro pins s σ H xs us Q I rv h
  obtain ⟨a, dx, fs, t, ys, rfl, ha, hT, hy, hR, hQ⟩ := h
  obtain ⟨u, rfl, ru⟩ := rv.one
  cases ru
  refine callType_codes (Q₁ := fun obj s₁ => obj = .ref s.heap.objs.size ∧ s₁ = { s with heap := s.heap.push { cls := .type "list", data := .seq #[] } }) PySem.F.called_list (PySem.F.typeCall_list_1 _) PySem.F.entry_list_init
    (code_list_new _ ⟨rfl, rfl⟩) fun obj s₁ h₁ => ?_
  obtain ⟨rfl, rfl⟩ := h₁
  have hS : (s.heap.push { cls := .type "list", data := .seq #[] }).get? s.heap.objs.size = some { cls := .type "list", data := .seq #[] } := Heap.get?_push_size _ rfl
  refine ⟨⟨_, hS, rfl⟩, PySem.F.args_list_init_2 _ _, ?_⟩
  have fr : H s.heap.objs.size = none := I.hok.fresh (Nat.le_refl _)
  generalize hqe : s.heap.objs.size = q at *
  have I1 : Inv X pins σ (upd H q (.lst [])) { s with heap := s.heap.push { cls := .type "list", data := .seq #[] } } := hqe ▸ I.lnew (its := []) (t' := s.toks) .nil (Nat.zero_le _)
  show wpAny _ _ (do let old ← Builtin.List.listItems (.ref q); Builtin.List.listUpdate (.ref q) (fun _ => #[]); letGo old.toList.reverse; Builtin.List.listExtendWith (.ref q) (.ref a) .none) _ _ _
  refine wpAny_bind ?_
  unfold Builtin.List.listItems
  refine wpAny_bind (wpAny_seqItems hS rfl (wpAny_pure ?_))
  show wpAny _ _ (updateSeq q (fun _ => #[]) >>= fun _ => letGo (#[] : Array Value).toList.reverse >>= fun _ => Builtin.List.listExtendWith (.ref q) (.ref a) .none) _ _ _
  refine wpAny_bind (wpAny_updateSeq hS rfl ?_)
  have I2 := I1.lset (f := fun _ => #[]) (its := []) (its' := []) (ys := []) (t' := s.toks) upd_same hS rfl .nil (Nat.zero_le _)
  rw [upd_upd] at I2
  refine wpAny_bind (wpAny_letGo ?_)
  exact extendT hc ci FI cl F hb hx hr fr I2 ha hT hy (hR q fr).1 (hR q fr).2 (hQ q fr)
end
end TK

namespace TK
open PySem PySem.Spec PyProof.Rows L2
def topS (i : Nat) : Stmt := PySem.Challenge.pw_turnsandkeys_k05_links_kept.main.body.getD i (.Pass ⟨0, 0, 0, 0⟩)
abbrev s_wall : Stmt := topS 0
theorem sc_wall : FnScope ["k"] ["k"] (defScope s_wall) := ⟨rfl, rfl, rfl, by decide +kernel, rfl, by decide +kernel, by decide +kernel⟩
abbrev s_is_name : Stmt := topS 12
theorem sc_is_name : FnScope ["word", "sign"] ["word"] (defScope s_is_name) := ⟨rfl, rfl, rfl, by decide +kernel, rfl, by decide +kernel, by decide +kernel⟩
abbrev s_check_size : Stmt := topS 13
theorem sc_check_size : FnScope ["size", "low", "high"] ["size", "low", "high"] (defScope s_check_size) := ⟨rfl, rfl, rfl, by decide +kernel, rfl, by decide +kernel, by decide +kernel⟩
abbrev s_check_range : Stmt := topS 14
theorem sc_check_range : FnScope ["number", "low", "high"] ["number", "low", "high"] (defScope s_check_range) := ⟨rfl, rfl, rfl, by decide +kernel, rfl, by decide +kernel, by decide +kernel⟩
abbrev s_check_names : Stmt := topS 15
theorem sc_check_names : FnScope ["names", "most", "hook", "at", "name"] ["names", "most", "hook"] (defScope s_check_names) := ⟨rfl, rfl, rfl, by decide +kernel, rfl, by decide +kernel, by decide +kernel⟩
abbrev s_check_known : Stmt := topS 16
theorem sc_check_known : FnScope ["names", "known", "name"] ["names", "known"] (defScope s_check_known) := ⟨rfl, rfl, rfl, by decide +kernel, rfl, by decide +kernel, by decide +kernel⟩
abbrev s_plus : Stmt := topS 18
theorem sc_plus : FnScope ["price", "other"] ["price", "other"] (defScope s_plus) := ⟨rfl, rfl, rfl, by decide +kernel, rfl, by decide +kernel, by decide +kernel⟩
abbrev s_least : Stmt := topS 19
theorem sc_least : FnScope ["prices", "price"] ["prices"] (defScope s_least) := ⟨rfl, rfl, rfl, by decide +kernel, rfl, by decide +kernel, by decide +kernel⟩
abbrev s_check_entries : Stmt := topS 21
theorem sc_check_entries : FnScope ["names", "entries", "giver", "taker", "toll"] ["names", "entries"] (defScope s_check_entries) := ⟨rfl, rfl, rfl, by decide +kernel, rfl, by decide +kernel, by decide +kernel⟩
abbrev s_least_tolls : Stmt := topS 22
theorem sc_least_tolls : FnScope ["entries", "tolls", "giver", "taker", "toll"] ["entries"] (defScope s_least_tolls) := ⟨rfl, rfl, rfl, by decide +kernel, rfl, by decide +kernel, by decide +kernel⟩
abbrev s_check_links : Stmt := topS 27
theorem sc_check_links : FnScope ["names", "links", "giver", "taker", "toll"] ["names", "links"] (defScope s_check_links) := ⟨rfl, rfl, rfl, by decide +kernel, rfl, by decide +kernel, by decide +kernel⟩
abbrev s_check_numbers : Stmt := topS 28
theorem sc_check_numbers : FnScope ["links", "numbers", "number"] ["links", "numbers"] (defScope s_check_numbers) := ⟨rfl, rfl, rfl, by decide +kernel, rfl, by decide +kernel, by decide +kernel⟩
abbrev s_L_cell : Stmt := topS 31
theorem sc_L_cell : FnScope ["_law_script", "_law_k", "_law_far", "_law_j"] ["_law_script", "_law_k"] (defScope s_L_cell) := ⟨rfl, rfl, rfl, by decide +kernel, rfl, by decide +kernel, by decide +kernel⟩
abbrev s_L_mixed : Stmt := topS 32
theorem sc_L_mixed : FnScope ["_law_cell_here", "_law_k", "_law_x"] ["_law_cell_here", "_law_k"] (defScope s_L_mixed) := ⟨rfl, rfl, rfl, by decide +kernel, rfl, by decide +kernel, by decide +kernel⟩
abbrev s_L_pool : Stmt := topS 33
theorem sc_L_pool : FnScope ["_law_cell_here", "_law_number", "_law_rest", "_law_deep", "_law_pool_here", "_law_k"] ["_law_cell_here", "_law_number"] (defScope s_L_pool) := ⟨rfl, rfl, rfl, by decide +kernel, rfl, by decide +kernel, by decide +kernel⟩
abbrev s_L_part : Stmt := topS 34
theorem sc_L_part : FnScope ["_law_pool_here", "_law_spot", "_law_under", "_law_size"] ["_law_pool_here", "_law_spot", "_law_under", "_law_size"] (defScope s_L_part) := ⟨rfl, rfl, rfl, by decide +kernel, rfl, by decide +kernel, by decide +kernel⟩
abbrev s_L_names : Stmt := topS 35
theorem sc_L_names : FnScope ["_law_pool_here", "_law_spot", "_law_number", "_law_letters", "_law_stem", "_law_k", "_law_turn", "_law_cut", "_law_first", "_law_short", "_law_tail", "_law_words_here", "_law_mark"] ["_law_pool_here", "_law_spot", "_law_number"] (defScope s_L_names) := ⟨rfl, rfl, rfl, by decide +kernel, rfl, by decide +kernel, by decide +kernel⟩
abbrev s_L_strange : Stmt := topS 36
theorem sc_L_strange : FnScope ["_law_words_here", "_law_letter"] ["_law_words_here"] (defScope s_L_strange) := ⟨rfl, rfl, rfl, by decide +kernel, rfl, by decide +kernel, by decide +kernel⟩
abbrev s_L_words : Stmt := topS 37
theorem sc_L_words : FnScope ["_law_cell_here", "_law_number", "_law_letters", "_law_rest", "_law_words_here", "_law_k", "_law_size", "_law_word", "_law_j"] ["_law_cell_here", "_law_number"] (defScope s_L_words) := ⟨rfl, rfl, rfl, by decide +kernel, rfl, by decide +kernel, by decide +kernel⟩
abbrev s_L_big : Stmt := topS 38
theorem sc_L_big : FnScope ["_law_pool_here", "_law_spot", "_law_least", "_law_crest", "_law_far"] ["_law_pool_here", "_law_spot", "_law_least", "_law_crest"] (defScope s_L_big) := ⟨rfl, rfl, rfl, by decide +kernel, rfl, by decide +kernel, by decide +kernel⟩
abbrev s_L_links : Stmt := topS 39
theorem sc_L_links : FnScope ["_law_pool_here", "_law_spot", "_law_words_here", "_law_number", "_law_ties_here", "_law_k", "_law_one", "_law_two", "_law_toll"] ["_law_pool_here", "_law_spot", "_law_words_here", "_law_number"] (defScope s_L_links) := ⟨rfl, rfl, rfl, by decide +kernel, rfl, by decide +kernel, by decide +kernel⟩
abbrev s_L_ties : Stmt := topS 40
theorem sc_L_ties : FnScope ["_law_cell_here", "_law_words_here", "_law_rest", "_law_ties_here", "_law_turn", "_law_one", "_law_two", "_law_toll"] ["_law_cell_here", "_law_words_here"] (defScope s_L_ties) := ⟨rfl, rfl, rfl, by decide +kernel, rfl, by decide +kernel, by decide +kernel⟩
abbrev s_L_integer : Stmt := topS 41
theorem sc_L_integer : FnScope ["_law_got"] ["_law_got"] (defScope s_L_integer) := ⟨rfl, rfl, rfl, by decide +kernel, rfl, by decide +kernel, by decide +kernel⟩
abbrev s_L_same : Stmt := topS 42
theorem sc_L_same : FnScope ["_law_got", "_law_wanted", "_law_k"] ["_law_got", "_law_wanted"] (defScope s_L_same) := ⟨rfl, rfl, rfl, by decide +kernel, rfl, by decide +kernel, by decide +kernel⟩
abbrev s_L_least_of : Stmt := topS 43
theorem sc_L_least_of : FnScope ["_law_loads", "_law_one", "_law_two", "_law_found", "_law_first", "_law_second", "_law_toll"] ["_law_loads", "_law_one", "_law_two"] (defScope s_L_least_of) := ⟨rfl, rfl, rfl, by decide +kernel, rfl, by decide +kernel, by decide +kernel⟩
abbrev s_L_rows : Stmt := topS 44
theorem sc_L_rows : FnScope ["_law_words_here", "_law_loads", "_law_rows_here", "_law_one", "_law_two"] ["_law_words_here", "_law_loads"] (defScope s_L_rows) := ⟨rfl, rfl, rfl, by decide +kernel, rfl, by decide +kernel, by decide +kernel⟩
abbrev s_L_lifts : Stmt := topS 45
theorem sc_L_lifts : FnScope ["_law_pool_here", "_law_ties_here", "_law_lifts_here", "_law_k", "_law_room", "_law_lift"] ["_law_pool_here", "_law_ties_here"] (defScope s_L_lifts) := ⟨rfl, rfl, rfl, by decide +kernel, rfl, by decide +kernel, by decide +kernel⟩
abbrev s_L_holds : Stmt := topS 46
theorem sc_L_holds : FnScope ["_law_made", "_law_words_here", "_law_ties_here", "_law_table", "_law_rows_here", "_law_k", "_law_j"] ["_law_made", "_law_words_here", "_law_ties_here"] (defScope s_L_holds) := ⟨rfl, rfl, rfl, by decide +kernel, rfl, by decide +kernel, by decide +kernel⟩
abbrev s_L_without : Stmt := topS 47
theorem sc_L_without : FnScope ["_law_made", "_law_out"] ["_law_made", "_law_out"] (defScope s_L_without) := ⟨rfl, rfl, rfl, by decide +kernel, rfl, by decide +kernel, by decide +kernel⟩
abbrev s_L_alike : Stmt := topS 48
theorem sc_L_alike : FnScope ["_law_made", "_law_words_here", "_law_ties_here", "_law_number", "_law_like", "_law_other", "_law_turned", "_law_place", "_law_one", "_law_two", "_law_toll", "_law_near", "_law_odd"] ["_law_made", "_law_words_here", "_law_ties_here", "_law_number"] (defScope s_L_alike) := ⟨rfl, rfl, rfl, by decide +kernel, rfl, by decide +kernel, by decide +kernel⟩
abbrev s_law : Stmt := topS 49
theorem sc_law : FnScope ["_law_script", "_law_head", "_law_size", "_law_words_here", "_law_ties_here", "_law_lifts_here", "_law_out", "_law_passed", "_law_made", "_law_higher", "_law_raised", "_law_left", "_law_k"] ["_law_script"] (defScope s_law) := ⟨rfl, rfl, rfl, by decide +kernel, rfl, by decide +kernel, by decide +kernel⟩
end TK

namespace TK
open PySem PySem.Spec PyProof.Rows L2
section
variable {P : Program} {w : World} {K : PySem.W.Frag} {mg : Str → Option Value} {base : Heap}
/-! check_size, check_range -/
theorem pz {n : Nat} : (0 : Int) < ((n + 1 : Nat) : Int) := by omega
theorem mb {a : Int} {n : Nat} (h : n + 1 ≤ 2 ^ 63) : -(2 ^ 64) < a % ((n + 1 : Nat) : Int) ∧ a % ((n + 1 : Nat) : Int) < 2 ^ 64 := by
  have h1 := Int.emod_nonneg a (b := ((n + 1 : Nat) : Int)) (by omega)
  have h2 := Int.emod_lt_of_pos a (b := ((n + 1 : Nat) : Int)) (by omega)
  omega
/-! _law_part -/
def partOf (ns : List Int) (s u z : Int) : Int := ns.getD s.toNat 0 / u % z
def spPart (K : PySem.W.Frag) : Sp := fun vs H Q _ => ∃ (a : Addr) (ns : List Int) (s u z : Int), vs = [.ref a, .int s, .int u, .int z] ∧ SqL K H a (ns.map V.int) ∧ 0 ≤ s ∧ s < ns.length ∧ 0 < u ∧ u < 1000000 ∧ 0 < z ∧ Q (.int (partOf ns s u z)) H
theorem get_int {ns : List Int} {s : Int} (h0 : 0 ≤ s) (h : s < ns.length) : atI (ns.map V.int) s = some (.int (ns.getD s.toNat 0)) := by
  have h1 : s.toNat < ns.length := by omega
  refine atI_in h0 ?_
  rw [List.getElem?_map, List.getElem?_eq_getElem h1, List.getD_eq_getElem?_getD, List.getElem?_eq_getElem h1]
  rfl
theorem ok_L_part {f : Addr} {fd : FuncData} (F : Fun K "_law_part" "_law_part" s_L_part f fd) (m_int : mg "int" = none) : FnOk P w K mg base CX0 1 f fd ["_law_pool_here", "_law_spot", "_law_under", "_law_size"] (spPart K) := by
  refine F.ok sc_L_part (fun vs H Q E h => ?_) (fun cdv A outer s H vs Q E hr h => ?_)
  · obtain ⟨a, ns, s, u, z, rfl, _⟩ := h
    rfl
  · obtain ⟨a, ns, s, u, z, rfl, hS, h0, h1, h2, h3, h4, q⟩ := h
    refine ⟨_, (pss_one (ps_ret (pe_op op_mod (pe_op op_fdiv (pe_callTy call_int1 (by rfl) m_int (by decide +kernel) (pa_cons (pe_ix ix_list (pv 0) (pv 1) (fun _ _ => rfl)) pa_nil)) (pv 2)) (pv 3)))), ?_⟩
    refine ⟨_, rfl, _, rfl, _, _, _, _, rfl, rfl, hS, get_int h0 h1, .inl ⟨_, rfl, _, rfl, _, _, rfl, rfl, ⟨h2, by omega⟩, _, rfl, _, _, rfl, rfl, h4, ?_⟩⟩
    exact q
theorem part_lo {ns : List Int} {s u z : Int} (h : 0 < z) : 0 ≤ partOf ns s u z := Int.emod_nonneg _ (by omega)
theorem part_hi {ns : List Int} {s u z : Int} (h : 0 < z) : partOf ns s u z < z := Int.emod_lt_of_pos _ h
/-! _law_mixed -/
def spMixed : Sp := fun vs H Q _ => ∃ c k : Int, vs = [.int c, .int k] ∧ 0 ≤ k ∧ k < 1000000 ∧ ∀ r : Int, 0 ≤ r → Q (.int r) H
theorem ok_L_mixed {f : Addr} {fd : FuncData} (F : Fun K "_law_mixed" "_law_mixed" s_L_mixed f fd) (m_abs : mg "abs" = none) : FnOk P w K mg base CX0 1 f fd ["_law_cell_here", "_law_k"] spMixed := by
  refine F.ok sc_L_mixed (fun vs H Q E h => ?_) (fun cdv A outer s H vs Q E hr h => ?_)
  · obtain ⟨c, k, rfl, _⟩ := h
    rfl
  · obtain ⟨c, k, rfl, h0, h1, q⟩ := h
    refine ⟨_, (pss_cons (ps_set (i := 2) sc_L_mixed.nd rfl (.inl rfl) (pe_op op_mod (pe_op op_add (pe_op op_mul (pe_op op_mod (pe_callB call_abs (by rfl) m_abs (by decide +kernel) (pa_cons (pv 0) pa_nil)) pe_int) pe_int) (pe_op op_mul (pe_op op_add (pv 1) pe_int) pe_int)) pe_int))
  (pss_cons (ps_set (i := 2) sc_L_mixed.nd rfl (.inl rfl) (pe_op op_mod (pe_op op_add (pe_op op_add (pe_op op_mul (pv 2) pe_int) (pe_op op_fdiv (pv 2) pe_int)) (pe_op op_mul (pe_op op_add (pv 1) pe_int) pe_int)) pe_int))
  (pss_one (ps_ret (pe_op op_fdiv (pv 2) pe_int))))), ?_⟩
    refine ⟨_, rfl, _, rfl, _, _, rfl, rfl, pz, _, _, rfl, rfl, .inr (by decide), _, rfl, _, _, rfl, rfl, _, _, rfl, rfl, .inr (by decide), _, _, rfl, rfl, _, _, rfl, rfl, pz, ?_⟩
    refine ⟨_, rfl, _, _, rfl, rfl, .inr (by decide), _, rfl, _, _, rfl, rfl, ⟨by decide, by decide⟩, _, _, rfl, rfl, _, rfl, _, _, rfl, rfl, _, _, rfl, rfl, .inr (by decide), _, _, rfl, rfl, _, _, rfl, rfl, pz, ?_⟩
    refine ⟨_, rfl, _, _, rfl, rfl, ⟨by decide, by decide⟩, ?_⟩
    exact q _ (Int.ediv_nonneg (Int.emod_nonneg _ (by decide)) (by decide))
/-! _law_cell -/
def spCellA (K : PySem.W.Frag) : Sp := fun vs H Q _ => ∃ (a : Addr) (ns : List Int) (k : Int), vs = [.ref a, .int k] ∧ SqL K H a (ns.map V.int) ∧ 0 ≤ k ∧ k < 1000 ∧ ns.length ≤ 1000 ∧ ∀ r : Int, Q (.int r) H
theorem ok_L_cell {f : Addr} {fd : FuncData} (F : Fun K "_law_cell" "_law_cell" s_L_cell f fd) (m_len : mg "len" = none) (m_range : mg "range" = none) (m_abs : mg "abs" = none) : FnOk P w K mg base CX0 1 f fd ["_law_script", "_law_k"] (spCellA K) := by
  refine F.ok sc_L_cell (fun vs H Q E h => ?_) (fun cdv A outer s H vs Q E hr h => ?_)
  · obtain ⟨a, ns, k, rfl, _⟩ := h
    rfl
  · obtain ⟨a, ns, k, rfl, hS, h0, h1, h2, q⟩ := h
    refine ⟨_, (pss_cons (ps_if (pt_cmpR op_lt (pv 1) (pe_callB call_len_seq (by rfl) m_len (by decide +kernel) (pa_cons (pv 0) pa_nil)) (nomark _)) (pss_one (ps_ret (pe_ix ix_list (pv 0) (pv 1) (fun _ _ => rfl)))) pss_nil)
  (pss_cons (ps_set (i := 2) sc_L_cell.nd rfl (.inl rfl) (pe_op op_mul pe_int (pe_op op_add (pv 1) pe_int)))
  (pss_cons (ps_for PassesOwn.never rfl (pi_range1 (by rfl) m_range (pa_cons (pe_callB call_len_seq (by rfl) m_len (by decide +kernel) (pa_cons (pv 0) pa_nil)) pa_nil)) (pg_name (i := 3) sc_L_cell.nd rfl (.inl rfl))
    (pss_one (ps_set (i := 2) sc_L_cell.nd rfl (.inl rfl) (pe_op op_mod (pe_op op_add (pv 2) (pe_op op_mul (pe_op op_mul (pe_op op_add (pv 3) pe_int) (pe_op op_mod (pe_callB call_abs (by rfl) m_abs (by decide +kernel) (pa_cons (pe_ix ix_list (pv 0) (pv 3) (fun _ _ => rfl)) pa_nil)) pe_int)) pe_int)) pe_int))))
  (pss_one (ps_ret (pv 2)))))), ?_⟩
    refine ⟨_, rfl, _, rfl, _, _, rfl, .inl hS, _, _, rfl, rfl, _, rfl, ite2 (fun e => ?_) (fun e => ?_)⟩
    · have e1 : k < ((ns.map V.int).length : Nat) := of_decide_eq_true e
      rw [List.length_map] at e1
      exact ⟨_, rfl, _, rfl, _, _, _, _, rfl, rfl, hS, get_int h0 e1, q _⟩
    · refine ⟨_, rfl, _, _, rfl, rfl, _, _, rfl, rfl, .inl (by decide), ?_⟩
      refine ⟨_, rfl, _, _, rfl, .inl hS, _, rfl, by omega, by rw [List.length_map]; omega, for_range (fun i σ H' => H' = H ∧ ∃ (r : Int) (y : Option V), σ = [some (.ref a), some (.int k), some (.int r), y]) ⟨rfl, _, _, rfl⟩ ?_ ?_⟩
      · rintro i σ H' hi ⟨rfl, r, y, rfl⟩
        rw [List.length_map] at hi
        have hi' : i < ns.length := by omega
        refine ⟨_, rfl, _, rfl, _, _, rfl, rfl, _, rfl, _, rfl, _, _, _, _, rfl, rfl, hS, get_int (by omega) (by omega), _, rfl, _, _, rfl, rfl, pz, _, _, rfl, rfl, .inr (mb (by decide)), _, _, rfl, rfl, .inr (by decide), _, _, rfl, rfl, _, _, rfl, rfl, pz, rfl, _, _, rfl⟩
      · rintro σ H' ⟨rfl, r, y, rfl⟩
        exact ⟨_, rfl, q _⟩
end
end TK

namespace TK
open PySem PySem.Spec PyProof.Rows L2
theorem upd_twice {H : Hp} {p : Addr} {a b : HO} : upd (upd H p a) p b = upd H p b := by
  funext x
  unfold upd
  by_cases e : x = p
  · rw [if_pos e, if_pos e]
  · rw [if_neg e, if_neg e, if_neg e]
section
variable {P : Program} {w : World} {K : PySem.W.Frag} {mg : Str → Option Value} {base : Heap}
/-! _law_pool -/
def spPool : Sp := fun vs H Q _ => ∃ (c n : Int), vs = [.int c, .int n] ∧ 0 ≤ n ∧ n ≤ 1000 ∧ ∀ (p : Addr) (ns : List Int), H p = none → (ns.length : Int) = n → (∀ x ∈ ns, 0 ≤ x) → Q (.ref p) (upd H p (.lst (ns.map V.int)))
theorem ok_L_pool {f : Addr} {fd : FuncData} (F : Fun K "_law_pool" "_law_pool" s_L_pool f fd) (m_range : mg "range" = none) (m_abs : mg "abs" = none) (d_L_mixed : Def P w K mg base "_law_mixed" 1 ["_law_cell_here", "_law_k"] spMixed) : FnOk P w K mg base CX0 2 f fd ["_law_cell_here", "_law_number"] spPool := by
  refine F.ok sc_L_pool (fun vs H Q E h => ?_) (fun cdv A outer s H vs Q E hr h => ?_)
  · obtain ⟨c, n, rfl, _⟩ := h
    rfl
  · obtain ⟨c, n, rfl, h0, h1, q⟩ := h
    refine ⟨_, (pss_cons (ps_set (i := 2) sc_L_pool.nd rfl (.inl rfl) (pe_callB call_abs (by rfl) m_abs (by decide +kernel) (pa_cons (pv 0) pa_nil)))
  (pss_cons (ps_set (i := 3) sc_L_pool.nd rfl (.inl rfl) (pe_cmpR op_ge (pv 2) (pe_op op_pow pe_int pe_int) (nomark _)))
  (pss_cons (ps_set (i := 4) sc_L_pool.nd rfl (.inl rfl) (pe_lst pa_nil))
  (pss_cons (ps_for PassesOwn.never rfl (pi_range1 (by rfl) m_range (pa_cons (pv 1) pa_nil)) (pg_name (i := 5) sc_L_pool.nd rfl (.inl rfl))
    (pss_one (ps_if (PW.pt (pw_and (pt_val (pv 3)) (pw_and1 (pt_cmpR op_gt (pv 2) pe_int (nomark _))))) (pss_cons (ps_expr (pe_bm PySem.F.plainAttrs_list PySem.F.slot_list_append PySem.F.type_list_append mt_append (pv 4) (pa_cons (pe_op op_mod (pv 2) pe_int) pa_nil)))
  (pss_one (ps_set (i := 2) sc_L_pool.nd rfl (.inl rfl) (pe_op op_fdiv (pv 2) pe_int)))) (pss_one (ps_expr (pe_bm PySem.F.plainAttrs_list PySem.F.slot_list_append PySem.F.type_list_append mt_append (pv 4) (pa_cons (pe_callD d_L_mixed (hr.mono (by decide)) (by rfl) (pa_cons (pv 0) (pa_cons (pv 5) pa_nil))) pa_nil)))))))
  (pss_one (ps_ret (pv 4))))))), ?_⟩
    have ha : 0 ≤ (if c < 0 then -c else c) := by split <;> omega
    refine ⟨_, rfl, _, rfl, _, rfl, _, _, rfl, rfl, ⟨by decide, by decide, by decide⟩, _, _, rfl, rfl, ?_⟩
    refine ⟨Nat.zero_le _, fun p np => ?_⟩
    refine ⟨_, rfl, _, rfl, by omega, by omega, for_range (fun i σ H' => ∃ (r : Int) (b : Bool) (ns : List Int) (y : Option V), σ = [some (.int c), some (.int n), some (.int r), some (.bl b), some (.ref p), y] ∧ 0 ≤ r ∧ ns.length = i ∧ (∀ x ∈ ns, 0 ≤ x) ∧ H' = upd H p (.lst (ns.map V.int))) ⟨_, _, [], _, rfl, ha, rfl, (fun x hx => nomatch hx), rfl⟩ ?_ ?_⟩
    · rintro i σ H' hi ⟨r, b, ns, y, rfl, r0, hl, hx, rfl⟩
      have hz : (ns.map V.int).length < sizeLine := by rw [List.length_map]; exact small1000 (by omega)
      refine ⟨_, rfl, _, rfl, ite2 (fun e => ?_) (fun e => ?_)⟩
      · refine ⟨_, rfl, _, _, rfl, rfl, _, rfl, ite2 (fun e => ?_) (fun e => ?_)⟩
        · refine ⟨_, rfl, .inl ⟨rfl, _, lstAt upd_same⟩, _, rfl, _, _, rfl, rfl, pz, _, _, _, rfl, rfl, upd_same, hz, ?_⟩
          refine ⟨_, rfl, _, _, rfl, rfl, ⟨by decide, by decide⟩, ?_⟩
          refine ⟨_, b, ns ++ [r % 5040], _, rfl, Int.ediv_nonneg r0 (by decide), by rw [List.length_append, hl]; rfl, ?_, ?_⟩
          · intro x h
            rcases List.mem_append.mp h with h | h
            · exact hx x h
            · cases List.mem_singleton.mp h; exact Int.emod_nonneg _ (by decide)
          · rw [upd_twice, List.map_append]; rfl
        · refine ⟨_, rfl, .inl ⟨rfl, _, lstAt upd_same⟩, _, rfl, _, rfl, _, _, rfl, by omega, by omega, fun z z0 => ⟨_, _, _, rfl, rfl, upd_same, hz, r, b, ns ++ [z], _, rfl, r0, by rw [List.length_append, hl]; rfl, ?_, ?_⟩⟩
          · intro x h
            rcases List.mem_append.mp h with h | h
            · exact hx x h
            · cases List.mem_singleton.mp h; exact z0
          · rw [upd_twice, List.map_append]; rfl
      · refine iteF ?_
        refine ⟨_, rfl, .inl ⟨rfl, _, lstAt upd_same⟩, _, rfl, _, rfl, _, _, rfl, by omega, by omega, fun z z0 => ⟨_, _, _, rfl, rfl, upd_same, hz, r, b, ns ++ [z], _, rfl, r0, by rw [List.length_append, hl]; rfl, ?_, ?_⟩⟩
        · intro x h
          rcases List.mem_append.mp h with h | h
          · exact hx x h
          · cases List.mem_singleton.mp h; exact z0
        · rw [upd_twice, List.map_append]; rfl
    · rintro σ H' ⟨r, b, ns, y, rfl, r0, hl, hx, rfl⟩
      exact ⟨_, rfl, q p ns np (by omega) hx⟩
/-! _law_far -/
/-! _law_chosen: from 0 to the crest -/
end
end TK

namespace TK
open PySem PySem.Spec PyProof.Rows L2
/-! ### texts as lists of codes -/
def sOf (l : List Nat) : Str := ⟨l.toArray⟩
theorem sOf_codes (l : List Nat) : (sOf l).cps.toList = l := rfl
theorem sOf_len (l : List Nat) : (sOf l).length = l.length := by simp [sOf, Str.length]
theorem sOf_app (a b : List Nat) : sOf a ++ sOf b = sOf (a ++ b) := by
  show (⟨a.toArray ++ b.toArray⟩ : Str) = ⟨(a ++ b).toArray⟩
  simp
theorem sOf_inj {a b : List Nat} (h : sOf a = sOf b) : a = b := by
  have := congrArg (fun z : Str => z.cps.toList) h
  exact this
theorem sOf_one (c : Nat) : (⟨#[c]⟩ : Str) = sOf [c] := rfl
theorem cut_to (l : List Nat) {m : Int} (h : 0 ≤ m) : cutS (sOf l) none (some m) = sOf (l.take m.toNat) := by
  obtain ⟨k, rfl⟩ : ∃ k : Nat, m = (k : Int) := ⟨m.toNat, by omega⟩
  unfold cutS
  rw [HT.sIx_none, HT.sIx_nat, sOf_len, sOf_codes, List.drop_zero, Nat.sub_zero, Int.toNat_natCast]
  show sOf _ = sOf _
  congr 1
  by_cases hk : k ≤ l.length
  · rw [Nat.min_eq_left hk]
  · rw [Nat.min_eq_right (by omega), List.take_of_length_le (by omega), List.take_of_length_le (by omega)]
theorem cut_from (l : List Nat) {m : Int} (h : 0 ≤ m) : cutS (sOf l) (some m) none = sOf (l.drop m.toNat) := by
  obtain ⟨k, rfl⟩ : ∃ k : Nat, m = (k : Int) := ⟨m.toNat, by omega⟩
  unfold cutS
  rw [HT.sIx_none, HT.sIx_nat, sOf_len, sOf_codes, Int.toNat_natCast]
  show sOf _ = sOf _
  congr 1
  by_cases hk : k ≤ l.length
  · rw [Nat.min_eq_left hk, List.take_of_length_le (by rw [List.length_drop]; omega)]
  · rw [Nat.min_eq_right (by omega), List.drop_of_length_le (by omega), List.drop_of_length_le (by omega), List.take_nil]
def lettersZ : Str := Str.ofString "abcdefghijklmnopqrstuvwxyz"
theorem letters_codes : lettersZ.cps.toList = (List.range 26).map (97 + ·) := by decide +kernel
theorem letters_len : lettersZ.length = 26 := by decide +kernel
theorem letter_at {i : Int} (h0 : 0 ≤ i) (h1 : i < 26) : atI lettersZ.cps.toList i = some (97 + i.toNat) := by
  refine atI_in h0 ?_
  rw [letters_codes, List.getElem?_map, List.getElem?_range (by omega)]
  rfl
def Let (l : List Nat) : Prop := ∀ c ∈ l, 97 ≤ c ∧ c ≤ 122
theorem Let.app {a b : List Nat} (h : Let a) (k : Let b) : Let (a ++ b) := fun c hc => by
  rcases List.mem_append.mp hc with e | e
  · exact h c e
  · exact k c e
theorem Let.one {n : Nat} (h : n < 26) : Let [97 + n] := fun c hc => by
  cases List.mem_singleton.mp hc
  omega
theorem Let.take {a : List Nat} (h : Let a) (n : Nat) : Let (a.take n) := fun c hc => h c (List.mem_of_mem_take hc)
theorem Let.drop {a : List Nat} (h : Let a) (n : Nat) : Let (a.drop n) := fun c hc => h c (List.mem_of_mem_drop hc)
/-- a name: 1 to 8 letters -/
def Nm (l : List Nat) : Prop := 1 ≤ l.length ∧ l.length ≤ 8 ∧ Let l
def nameF (b : Bool) (stem short tail : List Nat) (cut first turn : Nat) (k : Nat) : List Nat :=
  if b = true then short.take cut ++ [97 + (first + 7 * ((k + turn) % 6)) % 26] ++ short.drop cut ++ tail else stem.take ((k + turn) % 6 + 1)
theorem nameF_nm {b : Bool} {stem short tail : List Nat} {cut first turn k : Nat} (hs : stem.length = 6) (hsh : short.length ≤ 6) (ht : tail.length ≤ 1) (l1 : Let stem) (l2 : Let short) (l3 : Let tail) : Nm (nameF b stem short tail cut first turn k) := by
  unfold nameF
  cases b with
  | true =>
    rw [if_pos rfl]
    have e : (short.take cut).length + (short.drop cut).length = short.length := by rw [← List.length_append, List.take_append_drop]
    refine ⟨?_, ?_, (((l2.take _).app (.one (Nat.mod_lt _ (by decide)))).app (l2.drop _)).app l3⟩
    · simp only [List.length_append, List.length_cons, List.length_nil]; omega
    · simp only [List.length_append, List.length_cons, List.length_nil]; omega
  | false =>
    rw [if_neg (by decide)]
    have := Nat.mod_lt (k + turn) (show 6 > 0 by decide)
    exact ⟨by rw [List.length_take]; omega, by rw [List.length_take]; omega, l1.take _⟩
theorem nameF_inj {b : Bool} {stem short tail : List Nat} {cut first turn k j : Nat} (hs : stem.length = 6) (hk : k < 6) (hj : j < 6) (h : nameF b stem short tail cut first turn k = nameF b stem short tail cut first turn j) : k = j := by
  unfold nameF at h
  cases b with
  | true =>
    rw [if_pos rfl, if_pos rfl] at h
    simp only [List.append_assoc, List.append_cancel_left_eq, List.cons_append, List.nil_append, List.cons.injEq] at h
    have := h.1
    omega
  | false =>
    rw [if_neg (by decide), if_neg (by decide)] at h
    have e := congrArg List.length h
    rw [List.length_take, List.length_take, hs] at e
    omega
theorem nodup_range {f : Nat → List Nat} : ∀ {n : Nat}, (∀ k j, k < n → j < n → f k = f j → k = j) → ((List.range n).map f).Nodup := by
  intro n h
  rw [List.nodup_iff_pairwise_ne, List.pairwise_map]
  refine List.Pairwise.imp_of_mem ?_ (List.nodup_iff_pairwise_ne.mp List.nodup_range)
  intro a b ha hb hne e
  exact hne (h a b (List.mem_range.mp ha) (List.mem_range.mp hb) e)
def vN (l : List Nat) : V := .str (sOf l)
section
variable {P : Program} {w : World} {K : PySem.W.Frag} {mg : Str → Option Value} {base : Heap}
/-! _law_names -/
def spNames (K : PySem.W.Frag) : Sp := fun vs H Q _ => ∃ (a : Addr) (ns : List Int) (s n : Int), vs = [.ref a, .int s, .int n] ∧ SqL K H a (ns.map V.int) ∧ 0 ≤ s ∧ s + 5 ≤ ns.length ∧ 0 ≤ n ∧ n ≤ 6 ∧
  ∀ (p : Addr) (zs : List (List Nat)), H p = none → (zs.length : Int) = n → (∀ z ∈ zs, Nm z) → zs.Nodup → Q (.ref p) (upd H p (.lst (zs.map vN)))
theorem small_len {l : List Nat} (h : l.length ≤ 1000) : (sOf l).length ≤ sizeLine := by rw [sOf_len]; exact Nat.le_of_lt (small1000 h)
theorem ok_L_names {f : Addr} {fd : FuncData} (F : Fun K "_law_names" "_law_names" s_L_names f fd) (m_range : mg "range" = none) (m_int : mg "int" = none) (d_L_part : Def P w K mg base "_law_part" 1 ["_law_pool_here", "_law_spot", "_law_under", "_law_size"] (spPart K)) : FnOk P w K mg base CX0 2 f fd ["_law_pool_here", "_law_spot", "_law_number"] (spNames K) := by
  refine F.ok sc_L_names (fun vs H Q E h => ?_) (fun cdv A outer s H vs Q E hr h => ?_)
  · obtain ⟨a, ns, s, n, rfl, _⟩ := h
    rfl
  · obtain ⟨a, ns, s, n, rfl, hS, h0, h1, h2, h3, q⟩ := h
    refine ⟨_, (pss_cons (ps_set (i := 3) sc_L_names.nd rfl (.inl rfl) pe_str)
  (pss_cons (ps_set (i := 4) sc_L_names.nd rfl (.inl rfl) pe_str)
  (pss_cons (ps_for PassesOwn.never rfl (pi_range1 (by rfl) m_range (pa_cons pe_int pa_nil)) (pg_name (i := 5) sc_L_names.nd rfl (.inl rfl))
    (pss_one (ps_set (i := 4) sc_L_names.nd rfl (.inl rfl) (pe_op op_add_str (pe_op op_add_str (pv 4) (pe_ix ix_str (pv 3) (pe_callD d_L_part (hr.mono (by decide)) (by rfl) (pa_cons (pv 0) (pa_cons (pe_op op_add (pv 1) (pv 5)) (pa_cons pe_int (pa_cons pe_int pa_nil))))) (fun _ _ => rfl))) (pe_ix ix_str (pv 3) (pe_callD d_L_part (hr.mono (by decide)) (by rfl) (pa_cons (pv 0) (pa_cons (pe_op op_add (pv 1) (pv 5)) (pa_cons pe_int (pa_cons pe_int pa_nil))))) (fun _ _ => rfl))))))
  (pss_cons (ps_set (i := 6) sc_L_names.nd rfl (.inl rfl) (pe_callD d_L_part (hr.mono (by decide)) (by rfl) (pa_cons (pv 0) (pa_cons (pe_op op_add (pv 1) pe_int) (pa_cons pe_int (pa_cons pe_int pa_nil))))))
  (pss_cons (ps_set (i := 7) sc_L_names.nd rfl (.inl rfl) (pe_callD d_L_part (hr.mono (by decide)) (by rfl) (pa_cons (pv 0) (pa_cons (pe_op op_add (pv 1) pe_int) (pa_cons pe_int (pa_cons pe_int pa_nil))))))
  (pss_cons (ps_set (i := 8) sc_L_names.nd rfl (.inl rfl) (pe_callD d_L_part (hr.mono (by decide)) (by rfl) (pa_cons (pv 0) (pa_cons (pe_op op_add (pv 1) pe_int) (pa_cons pe_int (pa_cons pe_int pa_nil))))))
  (pss_cons (ps_set (i := 9) sc_L_names.nd rfl (.inl rfl) (pe_slice sl_str (pv 4) po_none (po_some (pe_callD d_L_part (hr.mono (by decide)) (by rfl) (pa_cons (pv 0) (pa_cons (pe_op op_add (pv 1) pe_int) (pa_cons pe_int (pa_cons pe_int pa_nil))))))))
  (pss_cons (ps_set (i := 10) sc_L_names.nd rfl (.inl rfl) (pe_slice sl_str (pv 4) po_none (po_some (pe_callD d_L_part (hr.mono (by decide)) (by rfl) (pa_cons (pv 0) (pa_cons (pe_op op_add (pv 1) pe_int) (pa_cons pe_int (pa_cons pe_int pa_nil))))))))
  (pss_cons (ps_set (i := 11) sc_L_names.nd rfl (.inl rfl) (pe_lst pa_nil))
  (pss_cons (ps_for PassesOwn.never rfl (pi_range1 (by rfl) m_range (pa_cons (pv 2) pa_nil)) (pg_name (i := 5) sc_L_names.nd rfl (.inl rfl))
    (pss_cons (ps_set (i := 12) sc_L_names.nd rfl (.inl rfl) (pe_op op_mod (pe_callTy call_int1 (by rfl) m_int (by decide +kernel) (pa_cons (pe_op op_add (pv 5) (pv 6)) pa_nil)) pe_int))
  (pss_one (ps_if (pt_cmpR op_eq (pe_callD d_L_part (hr.mono (by decide)) (by rfl) (pa_cons (pv 0) (pa_cons (pe_op op_add (pv 1) pe_int) (pa_cons pe_int (pa_cons pe_int pa_nil))))) pe_int (nomark _)) (pss_one (ps_expr (pe_bm PySem.F.plainAttrs_list PySem.F.slot_list_append PySem.F.type_list_append mt_append (pv 11) (pa_cons (pe_op op_add_str (pe_op op_add_str (pe_op op_add_str (pe_slice sl_str (pv 9) po_none (po_some (pv 7))) (pe_ix ix_str (pv 3) (pe_op op_mod (pe_callTy call_int1 (by rfl) m_int (by decide +kernel) (pa_cons (pe_op op_add (pv 8) (pe_op op_mul pe_int (pv 12))) pa_nil)) pe_int) (fun _ _ => rfl))) (pe_slice sl_str (pv 9) (po_some (pv 7)) po_none)) (pv 10)) pa_nil)))) (pss_one (ps_expr (pe_bm PySem.F.plainAttrs_list PySem.F.slot_list_append PySem.F.type_list_append mt_append (pv 11) (pa_cons (pe_slice sl_str (pv 4) po_none (po_some (pe_op op_add (pv 12) pe_int))) pa_nil))))))))
  (pss_one (ps_ret (pv 11))))))))))))), ?_⟩
    refine ⟨_, rfl, by decide, by decide, for_range (fun i σ H' => H' = H ∧ ∃ (st : List Nat) (y : Option V), σ = [some (.ref a), some (.int s), some (.int n), some (.str lettersZ), some (vN st), y, none, none, none, none, none, none, none] ∧ st.length = 2 * i ∧ Let st) ⟨rfl, [], _, rfl, rfl, fun c hc => nomatch hc⟩ ?_ ?_⟩
    · rintro i σ H' hi ⟨rfl, st, y, rfl, hl, le⟩
      have hi3 : i < 3 := hi
      have b1 := part_lo (ns := ns) (s := s + (0 + (i : Int))) (u := 1) (z := 26) (by decide)
      have b2 := part_hi (ns := ns) (s := s + (0 + (i : Int))) (u := 1) (z := 26) (by decide)
      have c1 := part_lo (ns := ns) (s := s + (0 + (i : Int))) (u := 26) (z := 26) (by decide)
      have c2 := part_hi (ns := ns) (s := s + (0 + (i : Int))) (u := 26) (z := 26) (by decide)
      refine ⟨_, rfl, _, rfl, _, rfl, _, rfl, _, rfl, _, _, rfl, rfl, _, _, _, _, _, rfl, hS, by omega, by omega, by decide, by decide, by decide, ?_⟩
      refine ⟨_, _, _, rfl, rfl, by rw [letters_len]; decide, letter_at b1 b2, _, _, rfl, rfl, ?_, ?_⟩
      · rw [sOf_len, sOf_one, sOf_len]; exact Nat.le_of_lt (small1000 (by simp only [List.length_cons, List.length_nil]; omega))
      refine ⟨_, rfl, _, rfl, _, rfl, _, rfl, _, _, rfl, rfl, _, _, _, _, _, rfl, hS, by omega, by omega, by decide, by decide, by decide, ?_⟩
      refine ⟨_, _, _, rfl, rfl, by rw [letters_len]; decide, letter_at c1 c2, _, _, rfl, rfl, ?_, ?_⟩
      · rw [sOf_one, sOf_one, sOf_app, sOf_len, sOf_len]; exact Nat.le_of_lt (small1000 (by simp only [List.length_append, List.length_cons, List.length_nil]; omega))
      refine ⟨rfl, (st ++ [97 + (partOf ns (s + (0 + (i : Int))) 1 26).toNat]) ++ [97 + (partOf ns (s + (0 + (i : Int))) 26 26).toNat], some (.int (0 + (i : Int))), ?_, ?_, ?_⟩
      · rw [sOf_one, sOf_one, sOf_app, sOf_app]; rfl
      · simp only [List.length_append, List.length_cons, List.length_nil]; omega
      · exact (le.app (.one (by omega))).app (.one (by omega))
    · rintro σ H' ⟨rfl, st, y, rfl, hl, le⟩
      have hl : st.length = 6 := hl
      have t1 := part_lo (ns := ns) (s := s + 3) (u := 1) (z := 6) (by decide)
      have t2 := part_hi (ns := ns) (s := s + 3) (u := 1) (z := 6) (by decide)
      have u1 := part_lo (ns := ns) (s := s + 3) (u := 6) (z := 7) (by decide)
      have u2 := part_hi (ns := ns) (s := s + 3) (u := 6) (z := 7) (by decide)
      have v1 := part_lo (ns := ns) (s := s + 3) (u := 42) (z := 26) (by decide)
      have v2 := part_hi (ns := ns) (s := s + 3) (u := 42) (z := 26) (by decide)
      have w1 := part_lo (ns := ns) (s := s + 4) (u := 4) (z := 7) (by decide)
      have w2 := part_hi (ns := ns) (s := s + 4) (u := 4) (z := 7) (by decide)
      have x1 := part_lo (ns := ns) (s := s + 4) (u := 2) (z := 2) (by decide)
      have x2 := part_hi (ns := ns) (s := s + 4) (u := 2) (z := 2) (by decide)
      refine ⟨_, rfl, _, rfl, _, _, rfl, rfl, _, _, _, _, _, rfl, hS, by omega, by omega, by decide, by decide, by decide, ?_⟩
      refine ⟨_, rfl, _, rfl, _, _, rfl, rfl, _, _, _, _, _, rfl, hS, by omega, by omega, by decide, by decide, by decide, ?_⟩
      refine ⟨_, rfl, _, rfl, _, _, rfl, rfl, _, _, _, _, _, rfl, hS, by omega, by omega, by decide, by decide, by decide, ?_⟩
      refine ⟨_, rfl, _, rfl, _, rfl, _, _, rfl, rfl, _, _, _, _, _, rfl, hS, by omega, by omega, by decide, by decide, by decide, _, rfl, _, rfl, small_len (by omega), ?_⟩
      refine ⟨_, rfl, _, rfl, _, rfl, _, _, rfl, rfl, _, _, _, _, _, rfl, hS, by omega, by omega, by decide, by decide, by decide, _, rfl, _, rfl, small_len (by omega), ?_⟩
      rw [cut_to st w1, cut_to st x1]
      refine ⟨Nat.zero_le _, fun p np => ?_⟩
      have hS2 : ∀ o, SqL K (upd H' p o) a (ns.map V.int) := fun o => (same_upd np).seq hS
      let nf := nameF (decide (partOf ns (s + 4) 1 2 = 0)) st (st.take (partOf ns (s + 4) 4 7).toNat) (st.take (partOf ns (s + 4) 2 2).toNat) (partOf ns (s + 3) 6 7).toNat (partOf ns (s + 3) 42 26).toNat (partOf ns (s + 3) 1 6).toNat
      refine ⟨_, rfl, _, rfl, by omega, by omega, for_range (fun i σ H2 => H2 = upd H' p (.lst (((List.range i).map nf).map vN)) ∧ ∃ (y m : Option V), σ = [some (.ref a), some (.int s), some (.int n), some (.str lettersZ), some (vN st), y, some (.int (partOf ns (s + 3) 1 6)), some (.int (partOf ns (s + 3) 6 7)), some (.int (partOf ns (s + 3) 42 26)), some (vN (st.take (partOf ns (s + 4) 4 7).toNat)), some (vN (st.take (partOf ns (s + 4) 2 2).toNat)), some (.ref p), m]) ⟨rfl, _, _, rfl⟩ ?_ ?_⟩
      · rintro i σ H2 hi ⟨rfl, y, m, rfl⟩
        have hz : (((List.range i).map nf).map vN).length < sizeLine := by rw [List.length_map, List.length_map, List.length_range]; exact small1000 (by omega)
        have mk : (0 + (i : Int) + partOf ns (s + 3) 1 6) % 6 = (((i + (partOf ns (s + 3) 1 6).toNat) % 6 : Nat) : Int) := by omega
        have next : ∀ (l : List Nat), l = nf i → ((List.range i).map nf).map vN ++ [vN l] = ((List.range (i + 1)).map nf).map vN := by
          intro l e
          rw [List.range_succ, List.map_append, List.map_append, e]
          rfl
        refine ⟨_, rfl, _, rfl, _, _, rfl, rfl, .inl ⟨_, rfl, _, _, rfl, rfl, pz, ?_⟩⟩
        refine ⟨_, rfl, _, rfl, _, _, rfl, rfl, _, _, _, _, _, rfl, hS2 _, by omega, by omega, by decide, by decide, by decide, rfl, _, rfl, ite2 (fun e => ?_) (fun e => ?_)⟩
        · have e1 : decide (partOf ns (s + 4) 1 2 = 0) = true := by
            have := V.int.inj (of_decide_eq_true e)
            exact decide_eq_true this
          have f1 : 0 ≤ (partOf ns (s + 3) 42 26 + 7 * ((0 + (i : Int) + partOf ns (s + 3) 1 6) % 6)) % 26 := by omega
          have f2 : (partOf ns (s + 3) 42 26 + 7 * ((0 + (i : Int) + partOf ns (s + 3) 1 6) % 6)) % 26 < 26 := by omega
          refine ⟨_, rfl, .inl ⟨rfl, _, lstAt upd_same⟩, ?_⟩
          refine ⟨_, rfl, _, rfl, _, rfl, _, rfl, small_len (by rw [List.length_take]; omega), ?_⟩
          refine ⟨_, rfl, _, rfl, _, rfl, _, _, rfl, rfl, .inl (by decide), _, _, rfl, rfl, .inl ⟨_, rfl, _, _, rfl, rfl, pz, _, _, _, rfl, rfl, by rw [letters_len]; decide, letter_at f1 f2, ?_⟩⟩
          rw [cut_to _ u1]
          refine ⟨_, _, rfl, rfl, ?_, ?_⟩
          · rw [sOf_one, sOf_len, sOf_len]
            exact Nat.le_of_lt (small1000 (by rw [List.length_take, List.length_take]; simp only [List.length_cons, List.length_nil]; omega))
          refine ⟨_, rfl, _, rfl, _, rfl, _, rfl, small_len (by rw [List.length_take]; omega), ?_⟩
          rw [cut_from _ u1, sOf_one, sOf_app]
          refine ⟨_, _, rfl, rfl, ?_, ?_⟩
          · rw [sOf_len, sOf_len]
            exact Nat.le_of_lt (small1000 (by rw [List.length_append, List.length_take, List.length_take, List.length_drop, List.length_take]; simp only [List.length_cons, List.length_nil]; omega))
          refine ⟨_, rfl, _, _, rfl, rfl, ?_, ?_⟩
          · rw [sOf_app, sOf_len, sOf_len]
            exact Nat.le_of_lt (small1000 (by rw [List.length_append, List.length_append, List.length_take, List.length_take, List.length_drop, List.length_take, List.length_take]; simp only [List.length_cons, List.length_nil]; omega))
          rw [sOf_app, sOf_app]
          refine ⟨_, _, _, rfl, rfl, upd_same, hz, ?_, _, _, rfl⟩
          rw [upd_twice]
          congr 2
          refine next _ ?_
          show _ = nameF _ _ _ _ _ _ _ _
          unfold nameF
          rw [if_pos e1]
          congr 5
          omega
        · have e1 : ¬ decide (partOf ns (s + 4) 1 2 = 0) = true := by
            intro z
            have := of_decide_eq_true z
            exact e (decide_eq_true (congrArg V.int this))
          refine ⟨_, rfl, .inl ⟨rfl, _, lstAt upd_same⟩, ?_⟩
          refine ⟨_, rfl, _, rfl, _, _, rfl, rfl, _, rfl, _, rfl, small_len (by omega), ?_⟩
          rw [cut_to _ (show (0 : Int) ≤ (0 + (i : Int) + partOf ns (s + 3) 1 6) % 6 + 1 by omega)]
          refine ⟨_, _, _, rfl, rfl, upd_same, hz, ?_, _, _, rfl⟩
          rw [upd_twice]
          congr 2
          refine next _ ?_
          show _ = nameF _ _ _ _ _ _ _ _
          unfold nameF
          rw [if_neg e1]
          congr 1
          omega
      · rintro σ H2 ⟨rfl, y, m, rfl⟩
        refine ⟨_, rfl, q p ((List.range n.toNat).map nf) np ?_ ?_ ?_⟩
        · rw [List.length_map, List.length_range]; omega
        · intro z hz
          obtain ⟨k, hk, rfl⟩ := List.mem_map.mp hz
          exact nameF_nm hl (by rw [List.length_take]; omega) (by rw [List.length_take]; omega) le (le.take _) (le.take _)
        · refine nodup_range fun k j hk hj e => ?_
          exact nameF_inj hl (by omega) (by omega) e
end
end TK

namespace TK
open PySem PySem.Spec PyProof.Rows L2
section
variable {P : Program} {w : World} {K : PySem.W.Frag} {mg : Str → Option Value} {base : Heap}
/-! _law_integer: of an int -/
def spInteger : Sp := fun vs H Q _ => ∃ i : Int, vs = [.int i] ∧ Q (.bl true) H
theorem ok_L_integer {f : Addr} {fd : FuncData} (F : Fun K "_law_integer" "_law_integer" s_L_integer f fd) (m_isinstance : mg "isinstance" = none) (m_int : mg "int" = none) (m_bool : mg "bool" = none) :
    FnOk P w K mg base CX0 1 f fd ["_law_got"] spInteger := by
  refine F.ok sc_L_integer (fun vs H Q E h => ?_) (fun cdv A outer s H vs Q E hr h => ?_)
  · obtain ⟨i, rfl, _⟩ := h
    rfl
  · obtain ⟨i, rfl, q⟩ := h
    refine ⟨_, (pss_one (ps_ret (pe_and (pe_callB call_isi (by rfl) m_isinstance (by decide +kernel) (pa_cons (pv 0) (pa_cons (pe_bltn (v := .ty "int") (u := .type "int") (by rfl) m_int (by decide +kernel) rfl) pa_nil))) (pe_one (pe_not (pe_callB call_isi (by rfl) m_isinstance (by decide +kernel) (pa_cons (pv 0) (pa_cons (pe_bltn (v := .ty "bool") (u := .type "bool") (by rfl) m_bool (by decide +kernel) rfl) pa_nil)))))))), ?_⟩
    refine ⟨_, rfl, _, _, _, _, true, rfl, .ty "int", .base (.int i), rfl, _, rfl, iteT ?_⟩
    refine ⟨_, rfl, _, _, _, _, false, rfl, .ty "bool", .base (.int i), rfl, _, rfl, ?_⟩
    exact q
end
end TK

namespace TK
open PySem PySem.Spec PyProof.Rows L2
/-! ### the same data, down to a depth -/
def flat1 : V → Bool
  | .non => true | .bl _ => true | .int _ => true | .str _ => true | _ => false
/-- a tuple, known to the object or not -/
def TL (H : Hp) (a : Addr) (xs : List V) : Prop := H a = some (.tup xs) ∨ ∃ o, H a = some (.frz o (.tup xs))
theorem TL.ty {K : PySem.W.Frag} {H : Hp} {a : Addr} {xs : List V} (h : TL H a xs) : TyX K H (.ref a) (.type "tuple") := by
  rcases h with h | ⟨o, h⟩
  · exact .base (.tup h)
  · exact .fTuple h
theorem TL.sq {K : PySem.W.Frag} {H : Hp} {a : Addr} {xs : List V} (h : TL H a xs) : SqT K H a xs := .inl (h.elim .inl .inr)
def Eq2 (H : Hp) : Nat → V → V → Prop
  | 0, x, y => x = y ∧ flat1 x = true
  | n + 1, x, y => (x = y ∧ flat1 x = true) ∨ ∃ (a b : Addr) (xs ys : List V), x = .ref a ∧ y = .ref b ∧ ((H a = some (.lst xs) ∧ H b = some (.lst ys)) ∨ (TL H a xs ∧ TL H b ys)) ∧ xs.length = ys.length ∧ xs.length < 2 ^ 40 ∧
      ∀ (i : Nat) (x y : V), xs[i]? = some x → ys[i]? = some y → Eq2 H n x y
theorem bint {z : V} {H : Hp} {Q : VK} (h : z = .bl true) (q : Q (.bl true) H) : Q z H := h ▸ q
section
variable {P : Program} {w : World} {K : PySem.W.Frag} {mg : Str → Option Value} {base : Heap}
def spSame (n : Nat) : Sp := fun vs H Q _ => ∃ x y, vs = [x, y] ∧ Eq2 H n x y ∧ Q (.bl true) H
theorem same_tail {x y : V} {H : Hp} (ex : x = y) (fx : flat1 x = true) : (x = .non ∧ y = .non) ∨ (∃ b, x = .bl b ∧ y = .bl b) ∨ (∃ i, x = .int i ∧ y = .int i) ∨ ∃ z, x = .str z ∧ y = .str z := by
  subst ex
  cases x with
  | non => exact .inl ⟨rfl, rfl⟩
  | bl b => exact .inr (.inl ⟨b, rfl, rfl⟩)
  | int i => exact .inr (.inr (.inl ⟨i, rfl, rfl⟩))
  | str z => exact .inr (.inr (.inr ⟨z, rfl, rfl⟩))
  | byt _ => cases fx
  | flt _ => cases fx
  | ref _ => cases fx
  | ty _ => cases fx
structure SameTx (K : PySem.W.Frag) (mg : Str → Option Value) : Prop where
  m_isinstance : mg "isinstance" = none
  m_int : mg "int" = none
  m_bool : mg "bool" = none
  m_str : mg "str" = none
  m_tuple : mg "tuple" = none
  m_list : mg "list" = none
  m_len : mg "len" = none
  m_range : mg "range" = none
theorem ok_L_same {f : Addr} {fd : FuncData} (F : Fun K "_law_same" "_law_same" s_L_same f fd) (g : mg "_law_same" = some (.ref f)) (b : Binds K fd ["_law_got", "_law_wanted"] []) (T : SameTx K mg) (d_L_integer : Def P w K mg base "_law_integer" 1 ["_law_got"] spInteger) :
    ∀ n : Nat, n ≤ 10 → FnOk P w K mg base CX0 (n + 2) f fd ["_law_got", "_law_wanted"] (spSame n) := by
  obtain ⟨m_isinstance, m_int, m_bool, m_str, m_tuple, m_list, m_len, m_range⟩ := T
  intro n
  induction n with
  | zero =>
    intro _
    refine F.ok sc_L_same (fun vs H Q E h => ?_) (fun cdv A outer s H vs Q E hr h => ?_)
    · obtain ⟨x, y, rfl, _⟩ := h
      rfl
    · obtain ⟨x, y, rfl, ⟨ex, fx⟩, q⟩ := h
      refine ⟨_, (pss_cons (ps_if (pt_cmpR op_isN (pv 1) pe_non (nomark _)) (pss_one (ps_ret (pe_cmpR op_isN (pv 0) pe_non (nomark _)))) pss_nil)
  (pss_cons (ps_if (pt_cmpR op_isT (pv 1) pe_bl (nomark _)) (pss_one (ps_ret (pe_cmpR op_isT (pv 0) pe_bl (nomark _)))) pss_nil)
  (pss_cons (ps_if (pt_cmpR op_isT (pv 1) pe_bl (nomark _)) (pss_one (ps_ret (pe_cmpR op_isT (pv 0) pe_bl (nomark _)))) pss_nil)
  (pss_cons (ps_if (pt_val (pe_callB call_isi (by rfl) m_isinstance (by decide +kernel) (pa_cons (pv 1) (pa_cons (pe_bltn (v := .ty "int") (u := .type "int") (by rfl) m_int (by decide +kernel) rfl) pa_nil)))) (pss_one (ps_ret (pe_and (pe_callD d_L_integer (hr.mono (by omega)) (by rfl) (pa_cons (pv 0) pa_nil)) (pe_one (pe_cmpR op_eq (pv 0) (pv 1) (nomark _)))))) pss_nil)
  (pss_cons (ps_if (pt_val (pe_callB call_isi (by rfl) m_isinstance (by decide +kernel) (pa_cons (pv 1) (pa_cons (pe_bltn (v := .ty "str") (u := .type "str") (by rfl) m_str (by decide +kernel) rfl) pa_nil)))) (pss_one (ps_ret (pe_and (pe_callB call_isi (by rfl) m_isinstance (by decide +kernel) (pa_cons (pv 0) (pa_cons (pe_bltn (v := .ty "str") (u := .type "str") (by rfl) m_str (by decide +kernel) rfl) pa_nil))) (pe_one (pe_cmpR op_eq (pv 0) (pv 1) (nomark _)))))) pss_nil)
  (pss_cons (ps_if (PW.pt (pw_and (pt_val (pe_callB call_isi (by rfl) m_isinstance (by decide +kernel) (pa_cons (pv 1) (pa_cons (pe_bltn (v := .ty "tuple") (u := .type "tuple") (by rfl) m_tuple (by decide +kernel) rfl) pa_nil)))) (pw_and1 (pt_not (pt_val (pe_callB call_isi (by rfl) m_isinstance (by decide +kernel) (pa_cons (pv 0) (pa_cons (pe_bltn (v := .ty "tuple") (u := .type "tuple") (by rfl) m_tuple (by decide +kernel) rfl) pa_nil)))))))) (pss_one (ps_ret pe_bl)) pss_nil)
  (pss_cons (ps_if (PW.pt (pw_and (pt_val (pe_callB call_isi (by rfl) m_isinstance (by decide +kernel) (pa_cons (pv 1) (pa_cons (pe_bltn (v := .ty "list") (u := .type "list") (by rfl) m_list (by decide +kernel) rfl) pa_nil)))) (pw_and1 (pt_not (pt_val (pe_callB call_isi (by rfl) m_isinstance (by decide +kernel) (pa_cons (pv 0) (pa_cons (pe_bltn (v := .ty "list") (u := .type "list") (by rfl) m_list (by decide +kernel) rfl) pa_nil)))))))) (pss_one (ps_ret pe_bl)) pss_nil)
  (pss_cons (ps_if (pt_cmpR op_ne (pe_callB call_len_seq (by rfl) m_len (by decide +kernel) (pa_cons (pv 0) pa_nil)) (pe_callB call_len_seq (by rfl) m_len (by decide +kernel) (pa_cons (pv 1) pa_nil)) (nomark _)) (pss_one (ps_ret pe_bl)) pss_nil)
  (pss_cons ps_never (pss_one ps_never)))))))))), ?_⟩
      rcases same_tail (H := H) ex fx with ⟨rfl, rfl⟩ | ⟨b, rfl, rfl⟩ | ⟨i, rfl, rfl⟩ | ⟨z, rfl, rfl⟩
      · exact ⟨_, rfl, rfl, _, rfl, iteT ⟨_, rfl, rfl, q⟩⟩
      · refine ⟨_, rfl, rfl, _, rfl, iteF ⟨_, rfl, _, rfl, _, rfl, ?_⟩⟩
        cases b with
        | true => exact iteT ⟨_, rfl, _, rfl, q⟩
        | false => exact iteF ⟨_, rfl, _, rfl, _, rfl, iteT ⟨_, rfl, _, rfl, q⟩⟩
      · refine ⟨_, rfl, rfl, _, rfl, iteF ⟨_, rfl, _, rfl, _, rfl, iteF ⟨_, rfl, _, rfl, _, rfl, iteF ?_⟩⟩⟩
        refine ⟨_, rfl, _, _, _, _, true, rfl, .ty "int", .base (.int i), rfl, _, rfl, iteT ?_⟩
        refine ⟨_, rfl, i, rfl, _, rfl, iteT ⟨_, rfl, _, rfl, rfl, ?_⟩⟩
        exact bint (congrArg V.bl (decide_eq_true rfl)) q
      · refine ⟨_, rfl, rfl, _, rfl, iteF ⟨_, rfl, _, rfl, _, rfl, iteF ⟨_, rfl, _, rfl, _, rfl, iteF ?_⟩⟩⟩
        refine ⟨_, rfl, _, _, _, _, false, rfl, .ty "int", .base (.str z), rfl, _, rfl, iteF ?_⟩
        refine ⟨_, rfl, _, _, _, _, true, rfl, .ty "str", .base (.str z), rfl, _, rfl, iteT ?_⟩
        refine ⟨_, rfl, _, _, _, _, true, rfl, .ty "str", .base (.str z), rfl, _, rfl, iteT ⟨_, rfl, _, rfl, rfl, ?_⟩⟩
        exact bint (congrArg V.bl (decide_eq_true rfl)) q
  | succ n ih =>
    intro hn
    have d_L_same : Def P w K mg base "_law_same" (n + 2) ["_law_got", "_law_wanted"] (spSame n) := ⟨_, _, ih (by omega), g, F.kp, b⟩
    refine F.ok sc_L_same (fun vs H Q E h => ?_) (fun cdv A outer s H vs Q E hr h => ?_)
    · obtain ⟨x, y, rfl, _⟩ := h
      rfl
    · obtain ⟨x, y, rfl, hE, q⟩ := h
      rcases hE with ⟨ex, fx⟩ | ⟨a, c, xs, ys, rfl, rfl, hk, hl, hz, hi⟩
      · refine ⟨_, (pss_cons (ps_if (pt_cmpR op_isN (pv 1) pe_non (nomark _)) (pss_one (ps_ret (pe_cmpR op_isN (pv 0) pe_non (nomark _)))) pss_nil)
  (pss_cons (ps_if (pt_cmpR op_isT (pv 1) pe_bl (nomark _)) (pss_one (ps_ret (pe_cmpR op_isT (pv 0) pe_bl (nomark _)))) pss_nil)
  (pss_cons (ps_if (pt_cmpR op_isT (pv 1) pe_bl (nomark _)) (pss_one (ps_ret (pe_cmpR op_isT (pv 0) pe_bl (nomark _)))) pss_nil)
  (pss_cons (ps_if (pt_val (pe_callB call_isi (by rfl) m_isinstance (by decide +kernel) (pa_cons (pv 1) (pa_cons (pe_bltn (v := .ty "int") (u := .type "int") (by rfl) m_int (by decide +kernel) rfl) pa_nil)))) (pss_one (ps_ret (pe_and (pe_callD d_L_integer (hr.mono (by omega)) (by rfl) (pa_cons (pv 0) pa_nil)) (pe_one (pe_cmpR op_eq (pv 0) (pv 1) (nomark _)))))) pss_nil)
  (pss_cons (ps_if (pt_val (pe_callB call_isi (by rfl) m_isinstance (by decide +kernel) (pa_cons (pv 1) (pa_cons (pe_bltn (v := .ty "str") (u := .type "str") (by rfl) m_str (by decide +kernel) rfl) pa_nil)))) (pss_one (ps_ret (pe_and (pe_callB call_isi (by rfl) m_isinstance (by decide +kernel) (pa_cons (pv 0) (pa_cons (pe_bltn (v := .ty "str") (u := .type "str") (by rfl) m_str (by decide +kernel) rfl) pa_nil))) (pe_one (pe_cmpR op_eq (pv 0) (pv 1) (nomark _)))))) pss_nil)
  (pss_cons (ps_if (PW.pt (pw_and (pt_val (pe_callB call_isi (by rfl) m_isinstance (by decide +kernel) (pa_cons (pv 1) (pa_cons (pe_bltn (v := .ty "tuple") (u := .type "tuple") (by rfl) m_tuple (by decide +kernel) rfl) pa_nil)))) (pw_and1 (pt_not (pt_val (pe_callB call_isi (by rfl) m_isinstance (by decide +kernel) (pa_cons (pv 0) (pa_cons (pe_bltn (v := .ty "tuple") (u := .type "tuple") (by rfl) m_tuple (by decide +kernel) rfl) pa_nil)))))))) (pss_one (ps_ret pe_bl)) pss_nil)
  (pss_cons (ps_if (PW.pt (pw_and (pt_val (pe_callB call_isi (by rfl) m_isinstance (by decide +kernel) (pa_cons (pv 1) (pa_cons (pe_bltn (v := .ty "list") (u := .type "list") (by rfl) m_list (by decide +kernel) rfl) pa_nil)))) (pw_and1 (pt_not (pt_val (pe_callB call_isi (by rfl) m_isinstance (by decide +kernel) (pa_cons (pv 0) (pa_cons (pe_bltn (v := .ty "list") (u := .type "list") (by rfl) m_list (by decide +kernel) rfl) pa_nil)))))))) (pss_one (ps_ret pe_bl)) pss_nil)
  (pss_cons (ps_if (pt_cmpR op_ne (pe_callB call_len_seq (by rfl) m_len (by decide +kernel) (pa_cons (pv 0) pa_nil)) (pe_callB call_len_seq (by rfl) m_len (by decide +kernel) (pa_cons (pv 1) pa_nil)) (nomark _)) (pss_one (ps_ret pe_bl)) pss_nil)
  (pss_cons ps_never (pss_one ps_never)))))))))), ?_⟩
        rcases same_tail (H := H) ex fx with ⟨rfl, rfl⟩ | ⟨b, rfl, rfl⟩ | ⟨i, rfl, rfl⟩ | ⟨z, rfl, rfl⟩
        · exact ⟨_, rfl, rfl, _, rfl, iteT ⟨_, rfl, rfl, q⟩⟩
        · refine ⟨_, rfl, rfl, _, rfl, iteF ⟨_, rfl, _, rfl, _, rfl, ?_⟩⟩
          cases b with
          | true => exact iteT ⟨_, rfl, _, rfl, q⟩
          | false => exact iteF ⟨_, rfl, _, rfl, _, rfl, iteT ⟨_, rfl, _, rfl, q⟩⟩
        · refine ⟨_, rfl, rfl, _, rfl, iteF ⟨_, rfl, _, rfl, _, rfl, iteF ⟨_, rfl, _, rfl, _, rfl, iteF ?_⟩⟩⟩
          refine ⟨_, rfl, _, _, _, _, true, rfl, .ty "int", .base (.int i), rfl, _, rfl, iteT ?_⟩
          refine ⟨_, rfl, i, rfl, _, rfl, iteT ⟨_, rfl, _, rfl, rfl, ?_⟩⟩
          exact bint (congrArg V.bl (decide_eq_true rfl)) q
        · refine ⟨_, rfl, rfl, _, rfl, iteF ⟨_, rfl, _, rfl, _, rfl, iteF ⟨_, rfl, _, rfl, _, rfl, iteF ?_⟩⟩⟩
          refine ⟨_, rfl, _, _, _, _, false, rfl, .ty "int", .base (.str z), rfl, _, rfl, iteF ?_⟩
          refine ⟨_, rfl, _, _, _, _, true, rfl, .ty "str", .base (.str z), rfl, _, rfl, iteT ?_⟩
          refine ⟨_, rfl, _, _, _, _, true, rfl, .ty "str", .base (.str z), rfl, _, rfl, iteT ⟨_, rfl, _, rfl, rfl, ?_⟩⟩
          exact bint (congrArg V.bl (decide_eq_true rfl)) q
      · have step : ∀ (i : Nat) (hi1 : i < ys.length), ∃ x y, atI xs (0 + (i : Int)) = some x ∧ atI ys (0 + (i : Int)) = some y ∧ Eq2 H n x y := by
          intro i h1
          have h2 : i < xs.length := by omega
          refine ⟨xs[i], ys[i], ?_, ?_, hi i _ _ (List.getElem?_eq_getElem h2) (List.getElem?_eq_getElem h1)⟩
          · exact atI_in (by omega) (by rw [show (0 + (i : Int)).toNat = i by omega]; exact List.getElem?_eq_getElem h2)
          · exact atI_in (by omega) (by rw [show (0 + (i : Int)).toNat = i by omega]; exact List.getElem?_eq_getElem h1)
        rcases hk with ⟨ha, hc⟩ | ⟨ha, hc⟩
        · refine ⟨_, (pss_cons (ps_if (pt_cmpR op_isN (pv 1) pe_non (nomark _)) (pss_one (ps_ret (pe_cmpR op_isN (pv 0) pe_non (nomark _)))) pss_nil)
  (pss_cons (ps_if (pt_cmpR op_isT (pv 1) pe_bl (nomark _)) (pss_one (ps_ret (pe_cmpR op_isT (pv 0) pe_bl (nomark _)))) pss_nil)
  (pss_cons (ps_if (pt_cmpR op_isT (pv 1) pe_bl (nomark _)) (pss_one (ps_ret (pe_cmpR op_isT (pv 0) pe_bl (nomark _)))) pss_nil)
  (pss_cons (ps_if (pt_val (pe_callB call_isi (by rfl) m_isinstance (by decide +kernel) (pa_cons (pv 1) (pa_cons (pe_bltn (v := .ty "int") (u := .type "int") (by rfl) m_int (by decide +kernel) rfl) pa_nil)))) (pss_one (ps_ret (pe_and (pe_callD d_L_integer (hr.mono (by omega)) (by rfl) (pa_cons (pv 0) pa_nil)) (pe_one (pe_cmpR op_eq (pv 0) (pv 1) (nomark _)))))) pss_nil)
  (pss_cons (ps_if (pt_val (pe_callB call_isi (by rfl) m_isinstance (by decide +kernel) (pa_cons (pv 1) (pa_cons (pe_bltn (v := .ty "str") (u := .type "str") (by rfl) m_str (by decide +kernel) rfl) pa_nil)))) (pss_one (ps_ret (pe_and (pe_callB call_isi (by rfl) m_isinstance (by decide +kernel) (pa_cons (pv 0) (pa_cons (pe_bltn (v := .ty "str") (u := .type "str") (by rfl) m_str (by decide +kernel) rfl) pa_nil))) (pe_one (pe_cmpR op_eq (pv 0) (pv 1) (nomark _)))))) pss_nil)
  (pss_cons (ps_if (PW.pt (pw_and (pt_val (pe_callB call_isi (by rfl) m_isinstance (by decide +kernel) (pa_cons (pv 1) (pa_cons (pe_bltn (v := .ty "tuple") (u := .type "tuple") (by rfl) m_tuple (by decide +kernel) rfl) pa_nil)))) (pw_and1 (pt_not (pt_val (pe_callB call_isi (by rfl) m_isinstance (by decide +kernel) (pa_cons (pv 0) (pa_cons (pe_bltn (v := .ty "tuple") (u := .type "tuple") (by rfl) m_tuple (by decide +kernel) rfl) pa_nil)))))))) (pss_one (ps_ret pe_bl)) pss_nil)
  (pss_cons (ps_if (PW.pt (pw_and (pt_val (pe_callB call_isi (by rfl) m_isinstance (by decide +kernel) (pa_cons (pv 1) (pa_cons (pe_bltn (v := .ty "list") (u := .type "list") (by rfl) m_list (by decide +kernel) rfl) pa_nil)))) (pw_and1 (pt_not (pt_val (pe_callB call_isi (by rfl) m_isinstance (by decide +kernel) (pa_cons (pv 0) (pa_cons (pe_bltn (v := .ty "list") (u := .type "list") (by rfl) m_list (by decide +kernel) rfl) pa_nil)))))))) (pss_one (ps_ret pe_bl)) pss_nil)
  (pss_cons (ps_if (pt_cmpR op_ne (pe_callB call_len_seq (by rfl) m_len (by decide +kernel) (pa_cons (pv 0) pa_nil)) (pe_callB call_len_seq (by rfl) m_len (by decide +kernel) (pa_cons (pv 1) pa_nil)) (nomark _)) (pss_one (ps_ret pe_bl)) pss_nil)
  (pss_cons (ps_for PassesOwn.never rfl (pi_range1 (by rfl) m_range (pa_cons (pe_callB call_len_seq (by rfl) m_len (by decide +kernel) (pa_cons (pv 1) pa_nil)) pa_nil)) (pg_name (i := 2) sc_L_same.nd rfl (.inl rfl))
    (pss_one (ps_if (pt_not (pt_val (pe_callD d_L_same (hr.mono (by omega)) (by rfl) (pa_cons (pe_ix ix_list (pv 0) (pv 2) (fun _ _ => rfl)) (pa_cons (pe_ix ix_list (pv 1) (pv 2) (fun _ _ => rfl)) pa_nil))))) (pss_one (ps_ret pe_bl)) pss_nil)))
  (pss_one (ps_ret pe_bl))))))))))), ?_⟩
          refine ⟨_, rfl, rfl, _, rfl, iteF ⟨_, rfl, _, rfl, _, rfl, iteF ⟨_, rfl, _, rfl, _, rfl, iteF ?_⟩⟩⟩
          refine ⟨_, rfl, _, _, _, _, false, rfl, .ty "int", .base (.lst hc), rfl, _, rfl, iteF ?_⟩
          refine ⟨_, rfl, _, _, _, _, false, rfl, .ty "str", .base (.lst hc), rfl, _, rfl, iteF ?_⟩
          refine ⟨_, rfl, _, _, _, _, false, rfl, .ty "tuple", .base (.lst hc), rfl, _, rfl, iteF (iteF ?_)⟩
          refine ⟨_, rfl, _, _, _, _, true, rfl, .ty "list", .base (.lst hc), rfl, _, rfl, iteT ⟨_, rfl, _, _, _, _, true, rfl, .ty "list", .base (.lst ha), rfl, _, rfl, iteF ?_⟩⟩
          refine ⟨_, rfl, _, _, rfl, .inl (lstAt ha), _, rfl, _, _, rfl, .inl (lstAt hc), rfl, _, rfl, ?_⟩
          refine iteNS (congrArg (fun k : Nat => V.int (k : Int)) hl) ?_
          refine ⟨_, rfl, _, _, rfl, .inl (lstAt hc), _, rfl, by omega, by omega, for_range (fun i σ H' => H' = H ∧ ∃ y : Option V, σ = [some (.ref a), some (.ref c), y]) ⟨rfl, _, rfl⟩ ?_ ?_⟩
          · rintro i σ H' hlt ⟨rfl, y, rfl⟩
            obtain ⟨x1, y1, e1, e2, e3⟩ := step i (by omega)
            refine ⟨_, rfl, _, rfl, _, _, _, _, rfl, rfl, lstAt ha, e1, _, rfl, _, rfl, _, _, _, _, rfl, rfl, lstAt hc, e2, x1, y1, rfl, e3, _, rfl, iteF ⟨rfl, _, rfl⟩⟩
          · rintro σ H' ⟨rfl, y, rfl⟩
            exact q
        · refine ⟨_, (pss_cons (ps_if (pt_cmpR op_isN (pv 1) pe_non (nomark _)) (pss_one (ps_ret (pe_cmpR op_isN (pv 0) pe_non (nomark _)))) pss_nil)
  (pss_cons (ps_if (pt_cmpR op_isT (pv 1) pe_bl (nomark _)) (pss_one (ps_ret (pe_cmpR op_isT (pv 0) pe_bl (nomark _)))) pss_nil)
  (pss_cons (ps_if (pt_cmpR op_isT (pv 1) pe_bl (nomark _)) (pss_one (ps_ret (pe_cmpR op_isT (pv 0) pe_bl (nomark _)))) pss_nil)
  (pss_cons (ps_if (pt_val (pe_callB call_isi (by rfl) m_isinstance (by decide +kernel) (pa_cons (pv 1) (pa_cons (pe_bltn (v := .ty "int") (u := .type "int") (by rfl) m_int (by decide +kernel) rfl) pa_nil)))) (pss_one (ps_ret (pe_and (pe_callD d_L_integer (hr.mono (by omega)) (by rfl) (pa_cons (pv 0) pa_nil)) (pe_one (pe_cmpR op_eq (pv 0) (pv 1) (nomark _)))))) pss_nil)
  (pss_cons (ps_if (pt_val (pe_callB call_isi (by rfl) m_isinstance (by decide +kernel) (pa_cons (pv 1) (pa_cons (pe_bltn (v := .ty "str") (u := .type "str") (by rfl) m_str (by decide +kernel) rfl) pa_nil)))) (pss_one (ps_ret (pe_and (pe_callB call_isi (by rfl) m_isinstance (by decide +kernel) (pa_cons (pv 0) (pa_cons (pe_bltn (v := .ty "str") (u := .type "str") (by rfl) m_str (by decide +kernel) rfl) pa_nil))) (pe_one (pe_cmpR op_eq (pv 0) (pv 1) (nomark _)))))) pss_nil)
  (pss_cons (ps_if (PW.pt (pw_and (pt_val (pe_callB call_isi (by rfl) m_isinstance (by decide +kernel) (pa_cons (pv 1) (pa_cons (pe_bltn (v := .ty "tuple") (u := .type "tuple") (by rfl) m_tuple (by decide +kernel) rfl) pa_nil)))) (pw_and1 (pt_not (pt_val (pe_callB call_isi (by rfl) m_isinstance (by decide +kernel) (pa_cons (pv 0) (pa_cons (pe_bltn (v := .ty "tuple") (u := .type "tuple") (by rfl) m_tuple (by decide +kernel) rfl) pa_nil)))))))) (pss_one (ps_ret pe_bl)) pss_nil)
  (pss_cons (ps_if (PW.pt (pw_and (pt_val (pe_callB call_isi (by rfl) m_isinstance (by decide +kernel) (pa_cons (pv 1) (pa_cons (pe_bltn (v := .ty "list") (u := .type "list") (by rfl) m_list (by decide +kernel) rfl) pa_nil)))) (pw_and1 (pt_not (pt_val (pe_callB call_isi (by rfl) m_isinstance (by decide +kernel) (pa_cons (pv 0) (pa_cons (pe_bltn (v := .ty "list") (u := .type "list") (by rfl) m_list (by decide +kernel) rfl) pa_nil)))))))) (pss_one (ps_ret pe_bl)) pss_nil)
  (pss_cons (ps_if (pt_cmpR op_ne (pe_callB call_len_seq (by rfl) m_len (by decide +kernel) (pa_cons (pv 0) pa_nil)) (pe_callB call_len_seq (by rfl) m_len (by decide +kernel) (pa_cons (pv 1) pa_nil)) (nomark _)) (pss_one (ps_ret pe_bl)) pss_nil)
  (pss_cons (ps_for PassesOwn.never rfl (pi_range1 (by rfl) m_range (pa_cons (pe_callB call_len_seq (by rfl) m_len (by decide +kernel) (pa_cons (pv 1) pa_nil)) pa_nil)) (pg_name (i := 2) sc_L_same.nd rfl (.inl rfl))
    (pss_one (ps_if (pt_not (pt_val (pe_callD d_L_same (hr.mono (by omega)) (by rfl) (pa_cons (pe_ix ix_tup (pv 0) (pv 2) (fun _ _ => rfl)) (pa_cons (pe_ix ix_tup (pv 1) (pv 2) (fun _ _ => rfl)) pa_nil))))) (pss_one (ps_ret pe_bl)) pss_nil)))
  (pss_one (ps_ret pe_bl))))))))))), ?_⟩
          refine ⟨_, rfl, rfl, _, rfl, iteF ⟨_, rfl, _, rfl, _, rfl, iteF ⟨_, rfl, _, rfl, _, rfl, iteF ?_⟩⟩⟩
          refine ⟨_, rfl, _, _, _, _, false, rfl, .ty "int", hc.ty, rfl, _, rfl, iteF ?_⟩
          refine ⟨_, rfl, _, _, _, _, false, rfl, .ty "str", hc.ty, rfl, _, rfl, iteF ?_⟩
          refine ⟨_, rfl, _, _, _, _, true, rfl, .ty "tuple", hc.ty, rfl, _, rfl, iteT ⟨_, rfl, _, _, _, _, true, rfl, .ty "tuple", ha.ty, rfl, _, rfl, iteF ?_⟩⟩
          refine ⟨_, rfl, _, _, _, _, false, rfl, .ty "list", hc.ty, rfl, _, rfl, iteF (iteF ?_)⟩
          refine ⟨_, rfl, _, _, rfl, .inr (ha.sq), _, rfl, _, _, rfl, .inr (hc.sq), rfl, _, rfl, ?_⟩
          refine iteNS (congrArg (fun k : Nat => V.int (k : Int)) hl) ?_
          refine ⟨_, rfl, _, _, rfl, .inr (hc.sq), _, rfl, by omega, by omega, for_range (fun i σ H' => H' = H ∧ ∃ y : Option V, σ = [some (.ref a), some (.ref c), y]) ⟨rfl, _, rfl⟩ ?_ ?_⟩
          · rintro i σ H' hlt ⟨rfl, y, rfl⟩
            obtain ⟨x1, y1, e1, e2, e3⟩ := step i (by omega)
            refine ⟨_, rfl, _, rfl, _, _, _, _, rfl, rfl, ha.sq, e1, _, rfl, _, rfl, _, _, _, _, rfl, rfl, hc.sq, e2, x1, y1, rfl, e3, _, rfl, iteF ⟨rfl, _, rfl⟩⟩
          · rintro σ H' ⟨rfl, y, rfl⟩
            exact q
end
end TK

namespace TK
open PySem PySem.Spec PyProof.Rows L2
theorem eqv_nm {a b : List Nat} : eqV (vN a) (vN b) = decide (a = b) := by
  show (sOf a == sOf b) = _
  by_cases h : a = b
  · subst h; simp
  · rw [decide_eq_false h]
    exact beq_eq_false_iff_ne.mpr fun z => h (sOf_inj z)
theorem nms_flat (zs : List (List Nat)) : (zs.map vN).all flatV = true := by
  rw [List.all_eq_true]
  intro x hx
  obtain ⟨c, _, rfl⟩ := List.mem_map.mp hx
  rfl
theorem inV_nm {z : List Nat} {zs : List (List Nat)} : inV (vN z) (zs.map vN) = decide (z ∈ zs) := by
  unfold inV
  rw [List.any_map]
  by_cases h : z ∈ zs
  · rw [decide_eq_true h]
    exact List.any_eq_true.mpr ⟨z, h, by show eqV (vN z) (vN z) = true; rw [eqv_nm]; exact decide_eq_true rfl⟩
  · rw [decide_eq_false h]
    exact List.any_eq_false.mpr fun x hx => by
      show ¬ eqV (vN x) (vN z) = true
      rw [eqv_nm]
      intro e
      have := of_decide_eq_true e
      subst this
      exact h hx
theorem in_nm {z : List Nat} {zs : List (List Nat)} : (if false = true then !inV (vN z) (zs.map vN) else inV (vN z) (zs.map vN)) = decide (z ∈ zs) := by
  rw [if_neg (by decide), inV_nm]
theorem notin_nm {z : List Nat} {zs : List (List Nat)} : (if true = true then !inV (vN z) (zs.map vN) else inV (vN z) (zs.map vN)) = !decide (z ∈ zs) := by
  rw [if_pos rfl, inV_nm]
theorem eq_nm {a b : List Nat} : decide (vN a = vN b) = decide (a = b) := by
  by_cases h : a = b
  · subst h; simp
  · rw [decide_eq_false h]
    exact decide_eq_false fun z => h (sOf_inj (V.str.inj z))
theorem vN_at {zs : List (List Nat)} {i : Nat} {x : V} (h : (zs.map vN)[i]? = some x) : ∃ z, zs[i]? = some z ∧ x = vN z := by
  rw [List.getElem?_map] at h
  cases e : zs[i]? with
  | none => rw [e] at h; cases h
  | some z => rw [e] at h; exact ⟨z, rfl, (Option.some.inj h).symm⟩
theorem int_at {zs : List Int} {i : Nat} {x : V} (h : (zs.map V.int)[i]? = some x) : ∃ z, zs[i]? = some z ∧ x = .int z := by
  rw [List.getElem?_map] at h
  cases e : zs[i]? with
  | none => rw [e] at h; cases h
  | some z => rw [e] at h; exact ⟨z, rfl, (Option.some.inj h).symm⟩
section
variable {X : Cx} {K : PySem.W.Frag}
theorem mt_tup_indexK (h : X.K = K) : MtR X "tuple.index" (fun x xs H Q => ∃ p, ∃ ys : List Str, ∃ z j, x = .ref p ∧ xs = [.str z] ∧ SqT K H p (ys.map V.str) ∧ ys[j]? = some z ∧ (∀ m, m < j → ys[m]? ≠ some z) ∧ Q (.int (j : Nat)) H) := h ▸ L2.mt_tup_index
end
theorem vN_strs (zs : List (List Nat)) : zs.map vN = (zs.map sOf).map V.str := by rw [List.map_map]; rfl
theorem idx_first {zs : List (List Nat)} {z : List Nat} (h : z ∈ zs) (nd : zs.Nodup) : ∃ j : Nat, zs[j]? = some z ∧ (∀ m, m < j → zs[m]? ≠ some z) := by
  obtain ⟨j, hj⟩ := List.getElem?_of_mem h
  refine ⟨j, hj, fun m hm e => ?_⟩
  have hjl := (List.getElem?_eq_some_iff.mp hj).1
  have := (List.getElem?_inj hjl nd).mp (hj.trans e.symm)
  omega
theorem str_first {zs : List (List Nat)} {z : List Nat} {j : Nat} (h : zs[j]? = some z) (f : ∀ m, m < j → zs[m]? ≠ some z) : (zs.map sOf)[j]? = some (sOf z) ∧ ∀ m, m < j → (zs.map sOf)[m]? ≠ some (sOf z) := by
  refine ⟨by rw [List.getElem?_map, h]; rfl, fun m hm e => f m hm ?_⟩
  rw [List.getElem?_map] at e
  cases e1 : zs[m]? with
  | none => rw [e1] at e; cases e
  | some y => rw [e1] at e; exact congrArg some (sOf_inj (Option.some.inj e))
theorem take_map_succ {α β : Type} (f : α → β) {xs : List α} {i : Nat} {x : α} (h : xs[i]? = some x) : (xs.map f).take (i + 1) = (xs.map f).take i ++ [f x] := by
  rw [List.take_add_one, List.getElem?_map, h]; rfl
theorem take_all {α : Type} {xs : List α} {n : Nat} (h : xs.length = n) : xs.take n = xs := by rw [← h, List.take_length]
end TK

namespace TK
open PySem PySem.Spec PyProof.Rows L2
def SqS (K : PySem.W.Frag) (H : Hp) (a : Addr) (xs : List V) : Prop := SqL K H a xs ∨ SqT K H a xs
theorem SqS.same {K : PySem.W.Frag} {H H' : Hp} {a : Addr} {xs : List V} (h : SqS K H a xs) (s : Same H H') : SqS K H' a xs := by
  rcases h with h | h
  · exact .inl (s.seq h)
  · exact .inr (same_tup s h)
def spRange : Sp := fun vs H Q _ => ∃ a lo hi : Int, vs = [.int a, .int lo, .int hi] ∧ lo ≤ a ∧ a ≤ hi ∧ Q .non H
theorem cut_names (ws : List (List Nat)) (i : Nat) : cutV (ws.map vN) none (some ((i : Nat) : Int)) = (ws.take i).map vN := by
  unfold cutV
  rw [HT.sIx_none, HT.sIx_nat, List.drop_zero, Nat.sub_zero, List.map_take]
  by_cases h : i ≤ (ws.map vN).length
  · rw [Nat.min_eq_left h]
  · rw [Nat.min_eq_right (by omega), List.take_length, List.take_of_length_le (by omega)]
theorem not_before {zs : List (List Nat)} {i : Nat} {z : List Nat} (nd : zs.Nodup) (h : zs[i]? = some z) : z ∉ zs.take i := by
  intro m
  obtain ⟨j, hj⟩ := List.getElem?_of_mem m
  rw [List.getElem?_take] at hj
  split at hj
  · rename_i hji
    have hl := (List.getElem?_eq_some_iff.mp hj).1
    have := (List.getElem?_inj hl nd).mp (hj.trans h.symm)
    omega
  · cases hj
def capV : Option Int → V
  | none => .non
  | some x => .int x
section
variable {P : Program} {w : World} {K : PySem.W.Frag} {mg : Str → Option Value} {base : Heap}
theorem ok_check_size {f : Addr} {fd : FuncData} (F : Fun K "check_size" "check_size" s_check_size f fd) : FnOk P w K mg base CX0 1 f fd ["size", "low", "high"] spRange := by
  refine F.ok sc_check_size (fun vs H Q E h => ?_) (fun cdv A outer s H vs Q E hr h => ?_)
  · obtain ⟨a, lo, hi, rfl, _⟩ := h
    rfl
  · obtain ⟨a, lo, hi, rfl, h1, h2, q⟩ := h
    refine ⟨_, (pss_one (ps_if (pt_not (pt_chain op_le op_le (pv 1) (pv 0) (pv 2))) (pss_one ps_never) pss_nil)), ?_⟩
    refine ⟨_, rfl, _, rfl, _, _, rfl, rfl, _, rfl, ?_⟩
    rw [decide_eq_true h1]
    refine iteT ⟨_, rfl, _, _, rfl, rfl, _, rfl, ?_⟩
    rw [decide_eq_true h2]
    exact iteF q
/-! is_name, of a name or of the empty text -/
def nz (l : List Nat) : Bool := !l.isEmpty
theorem nz_nm {l : List Nat} (h : Nm l) : nz l = true := by
  obtain ⟨h1, _⟩ := h
  cases l with
  | nil => exact absurd h1 (by decide)
  | cons a l => rfl
def NmH (l : List Nat) : Prop := Nm l ∨ l = []
def spIsNameH : Sp := fun vs H Q _ => ∃ l : List Nat, vs = [vN l] ∧ NmH l ∧ ∀ H', Same H H' → Q (.bl (nz l)) H'
theorem all_true {n : Nat} : (List.replicate n true).all id = true := by
  induction n with
  | zero => rfl
  | succ n ih => rw [List.replicate_succ, List.all_cons, ih]; rfl
theorem ok_is_nameH {f : Addr} {fd : FuncData} (F : Fun K "is_name" "is_name" s_is_name f fd) (m_len : mg "len" = none) (m_all : mg "all" = none) {tk : Tok} (g_LETTERS : mg "LETTERS" = some (.str lettersZ tk)) : FnOk P w K mg base CX0 1 f fd ["word"] spIsNameH := by
  refine F.ok sc_is_name (fun vs H Q E h => ?_) (fun cdv A outer s H vs Q E hr h => ?_)
  · obtain ⟨l, rfl, _⟩ := h
    rfl
  · obtain ⟨l, rfl, hn, q⟩ := h
    refine ⟨_, (pss_one (ps_ret (pe_and (pe_chain op_le op_le pe_int (pe_callB call_len_str (by rfl) m_len (by decide +kernel) (pa_cons (pv 0) pa_nil)) pe_int) (pe_one (pe_callB (cr_all rfl) (by rfl) m_all (by decide +kernel) (pa_cons (pe_lc (own := [("sign", 1)]) (by rfl) sc_is_name.nd (pi_str (pv 0)) (blkOk_by (N := ["word", "sign"]) (sc := defScope s_is_name) (by decide +kernel)) (fun _ _ _ _ _ => (pg_name (i := 1) sc_is_name.nd rfl (.inl rfl))) (fun _ _ _ _ _ => pts_nil) (fun _ _ _ _ _ => (pe_cmpR op_in_sign (pv 1) (pe_glob (v := .str lettersZ) (by rfl) g_LETTERS ⟨_, rfl⟩) (by rfl)))) pa_nil)))))), ?_⟩
    rcases hn with hN | rfl
    · rw [nz_nm hN] at q
      obtain ⟨h1, h2, h3⟩ := hN
      refine ⟨_, rfl, _, rfl, small_len (by omega), _, _, rfl, rfl, _, rfl, ?_⟩
      rw [decide_eq_true (show (1 : Int) ≤ ((sOf l).length : Nat) by rw [sOf_len]; omega)]
      refine iteT ⟨_, _, rfl, rfl, _, rfl, ?_⟩
      rw [decide_eq_true (show (((sOf l).length : Nat) : Int) ≤ 8 by rw [sOf_len]; omega)]
      refine iteT ⟨_, rfl, _, rfl, fun D nD => ?_⟩
      refine lc_it walk_str (fun i H' => H' = upd H D (.lst ((List.replicate i true).map V.bl))) rfl (fun _ _ _ _ => True.intro) (fun i x H1 H2 hi hp hy => ?_) (fun H' hp => ?_)
      · subst hp
        obtain ⟨rfl, c, hc, rfl⟩ := hy
        have hcl : c ∈ l := by
          have : (sOf l).cps.toList[i]? = some c := by rw [Array.getElem?_toList]; exact hc
          exact List.mem_of_getElem? this
        have hin : c ∈ lettersZ.cps.toList := by
          rw [letters_codes]
          have := h3 c hcl
          exact List.mem_map.mpr ⟨c - 97, List.mem_range.mpr (by omega), by omega⟩
        have hil : i < l.length := by
          have : (sOf l).cps.size = l.length := sOf_len l
          omega
        refine ⟨rfl, yesT ⟨_, rfl, _, _, rfl, rfl, _, upd_same, ?_, ?_⟩⟩
        · rw [List.length_map, List.length_replicate]; exact small1000 (by omega)
        · rw [upd_twice, decide_eq_true hin, List.replicate_succ', List.map_append]
          rfl
      · subst hp
        refine ⟨_, _, rfl, lstAt upd_same, ?_⟩
        rw [all_true]
        exact q _ (same_upd nD)
    · refine ⟨_, rfl, _, rfl, small_len (by decide), _, _, rfl, rfl, _, rfl, iteF ⟨_, rfl, iteF (q H (Same.refl H))⟩⟩
/-! check_names, with the hook -/
def spCheckH (K : PySem.W.Frag) : Sp := fun vs H Q _ => ∃ (a : Addr) (m : Int) (zs : List (List Nat)), vs = [.ref a, .int m, .bl true] ∧ SqS K H a (zs.map vN) ∧ 1 ≤ zs.length ∧ (zs.length : Int) ≤ m ∧ zs.length ≤ 6 ∧ (∀ z ∈ zs, NmH z) ∧ zs.Nodup ∧ ∀ H', Same H H' → Q .non H'
theorem empty_nm : vN [] = V.str (Str.ofString "") := rfl
theorem ok_check_namesH {f : Addr} {fd : FuncData} {dvs : List V} {kws : List (Str × V)} (F : FunD K "check_names" "check_names" (defArgs s_check_names) (defBody s_check_names) (defScope s_check_names) dvs kws f fd) (m_len : mg "len" = none) (m_enumerate : mg "enumerate" = none)
    (d_check_size : Def P w K mg base "check_size" 1 ["size", "low", "high"] spRange) (d_is_name : Def P w K mg base "is_name" 1 ["word"] spIsNameH) : FnOk P w K mg base CX0 2 f fd ["names", "most", "hook"] (spCheckH K) := by
  refine F.ok (CX := CX0) sc_check_names (fun vs H Q E h => ?_) (fun cdv A outer s H vs Q E hr h => ?_)
  · obtain ⟨a, m, zs, rfl, _⟩ := h
    rfl
  · obtain ⟨a, m, zs, rfl, hS, l1, l2, l6, nm, nd, q⟩ := h
    have hp : ∀ (i : Nat) (x : V) (H2 : Hp), Same H H2 → (zs.map vN)[i]? = some x → ∃ z, zs[i]? = some z ∧ x = vN z ∧ NmH z := fun i x H2 _ hx => by
      obtain ⟨z, ez, rfl⟩ := vN_at hx
      exact ⟨z, ez, rfl, nm z (List.mem_of_getElem? ez)⟩
    rcases hS with hS | hS
    · refine ⟨_, PSs.nox (pss_cons (ps_expr (pe_callD d_check_size (hr.mono (by decide)) (by rfl) (pa_cons (pe_callB call_len_seq (by rfl) m_len (by decide +kernel) (pa_cons (pv 0) pa_nil)) (pa_cons pe_int (pa_cons (pv 1) pa_nil)))))
  (pss_one (ps_for PassesOwn.never rfl (pi_enum (by rfl) m_enumerate (pa_cons (pv 0) pa_nil)) (pg_tup (by rfl) (pgs_cons (pg_name (i := 3) sc_check_names.nd rfl (.inl rfl)) (pgs_cons (pg_name (i := 4) sc_check_names.nd rfl (.inl rfl)) pgs_nil)))
    (pss_cons (ps_if (PW.pt (pw_and (pt_not (pt_val (pe_callD d_is_name (hr.mono (by decide)) (by rfl) (pa_cons (pv 4) pa_nil)))) (pw_and1 (pt_not (PW.pt (pw_and (pt_val (pv 2)) (pw_and1 (pt_cmpR op_eq (pv 4) pe_str (nomark _))))))))) (pss_one ps_never) pss_nil)
  (pss_one (ps_if (pt_cmpR op_in_seq (pv 4) (pe_slice sl_list (pv 0) po_none (po_some (pv 3))) (by rfl)) (pss_one ps_never) pss_nil)))))), ?_⟩
      refine ⟨_, rfl, _, _, rfl, .inl hS, _, rfl, _, _, _, rfl, by rw [List.length_map]; omega, by rw [List.length_map]; omega, ?_⟩
      refine ⟨_, rfl, _, _, rfl, hS, for_it walk_enum (fun i σ H2 => Same H H2 ∧ ∃ y1 y2 : Option V, σ = [some (.ref a), some (.int m), some (.bl true), y1, y2]) ⟨Same.refl H, _, _, rfl⟩ (fun i σ H2 _ hp => hp.1.seq hS) ?_ ?_⟩
      · rintro i x σ H2 H3 hi ⟨sm, y1, y2, rfl⟩ ⟨T, v1, v2, rfl, nT, rfl, e1, e2⟩
        cases e1
        obtain ⟨z, ez, rfl, hz⟩ := hp i _ H2 sm e2
        have sm3 := sm.trans (same_upd (o := .tup [.int (i : Nat), vN z]) nT)
        refine ⟨_, _, rfl, tupAt upd_same, rfl, _, _, rfl, _, _, rfl, rfl, ?_⟩
        refine ⟨_, rfl, z, rfl, hz, fun H4 s4 => ⟨_, rfl, ?_⟩⟩
        have sm4 := sm3.trans s4
        rcases hz with hz | rfl
        · rw [nz_nm hz]
          refine iteF (iteF ?_)
          refine ⟨_, rfl, _, rfl, _, rfl, _, rfl, _, _, rfl, sm4.seq hS, fun p np => ?_⟩
          rw [cut_names]
          have sp := same_upd (o := .lst ((zs.take i).map vN)) np
          refine ⟨p, _, rfl, .inl (lstAt upd_same), rfl, nms_flat _, _, rfl, ?_⟩
          rw [in_nm, decide_eq_false (not_before nd ez)]
          exact iteF ⟨sm4.trans sp, _, _, rfl⟩
        · refine iteT ⟨_, rfl, _, rfl, iteT ⟨_, rfl, rfl, _, rfl, ?_⟩⟩
          rw [decide_eq_true empty_nm]
          refine iteF ?_
          refine ⟨_, rfl, _, rfl, _, rfl, _, rfl, _, _, rfl, sm4.seq hS, fun p np => ?_⟩
          rw [cut_names]
          have sp := same_upd (o := .lst ((zs.take i).map vN)) np
          refine ⟨p, _, rfl, .inl (lstAt upd_same), rfl, nms_flat _, _, rfl, ?_⟩
          rw [in_nm, decide_eq_false (not_before nd ez)]
          exact iteF ⟨sm4.trans sp, _, _, rfl⟩
      · rintro σ H2 ⟨sm, y1, y2, rfl⟩
        exact q _ sm
    · refine ⟨_, PSs.nox (pss_cons (ps_expr (pe_callD d_check_size (hr.mono (by decide)) (by rfl) (pa_cons (pe_callB call_len_seq (by rfl) m_len (by decide +kernel) (pa_cons (pv 0) pa_nil)) (pa_cons pe_int (pa_cons (pv 1) pa_nil)))))
  (pss_one (ps_for PassesOwn.never rfl (pi_enumT (by rfl) m_enumerate (pa_cons (pv 0) pa_nil)) (pg_tup (by rfl) (pgs_cons (pg_name (i := 3) sc_check_names.nd rfl (.inl rfl)) (pgs_cons (pg_name (i := 4) sc_check_names.nd rfl (.inl rfl)) pgs_nil)))
    (pss_cons (ps_if (PW.pt (pw_and (pt_not (pt_val (pe_callD d_is_name (hr.mono (by decide)) (by rfl) (pa_cons (pv 4) pa_nil)))) (pw_and1 (pt_not (PW.pt (pw_and (pt_val (pv 2)) (pw_and1 (pt_cmpR op_eq (pv 4) pe_str (nomark _))))))))) (pss_one ps_never) pss_nil)
  (pss_one (ps_if (pt_cmpR op_in_seq (pv 4) (pe_slice sl_tup (pv 0) po_none (po_some (pv 3))) (by rfl)) (pss_one ps_never) pss_nil)))))), ?_⟩
      refine ⟨_, rfl, _, _, rfl, .inr hS, _, rfl, _, _, _, rfl, by rw [List.length_map]; omega, by rw [List.length_map]; omega, ?_⟩
      refine ⟨_, rfl, _, _, rfl, hS, for_it walk_enumT (fun i σ H2 => Same H H2 ∧ ∃ y1 y2 : Option V, σ = [some (.ref a), some (.int m), some (.bl true), y1, y2]) ⟨Same.refl H, _, _, rfl⟩ (fun i σ H2 _ hp => same_tup (hp.1) hS) ?_ ?_⟩
      · rintro i x σ H2 H3 hi ⟨sm, y1, y2, rfl⟩ ⟨T, v1, v2, rfl, nT, rfl, e1, e2⟩
        cases e1
        obtain ⟨z, ez, rfl, hz⟩ := hp i _ H2 sm e2
        have sm3 := sm.trans (same_upd (o := .tup [.int (i : Nat), vN z]) nT)
        refine ⟨_, _, rfl, tupAt upd_same, rfl, _, _, rfl, _, _, rfl, rfl, ?_⟩
        refine ⟨_, rfl, z, rfl, hz, fun H4 s4 => ⟨_, rfl, ?_⟩⟩
        have sm4 := sm3.trans s4
        rcases hz with hz | rfl
        · rw [nz_nm hz]
          refine iteF (iteF ?_)
          refine ⟨_, rfl, _, rfl, _, rfl, _, rfl, _, _, rfl, same_tup (sm4) hS, (by rintro ⟨_, hw⟩; rw [HT.sIx_nat] at hw; have hi' : i < (zs.map vN).length := hi; omega), fun p np => ?_⟩
          rw [cut_names]
          have sp := same_upd (o := .tup ((zs.take i).map vN)) np
          refine ⟨p, _, rfl, .inr (tupAt upd_same), rfl, nms_flat _, _, rfl, ?_⟩
          rw [in_nm, decide_eq_false (not_before nd ez)]
          exact iteF ⟨sm4.trans sp, _, _, rfl⟩
        · refine iteT ⟨_, rfl, _, rfl, iteT ⟨_, rfl, rfl, _, rfl, ?_⟩⟩
          rw [decide_eq_true empty_nm]
          refine iteF ?_
          refine ⟨_, rfl, _, rfl, _, rfl, _, rfl, _, _, rfl, same_tup (sm4) hS, (by rintro ⟨_, hw⟩; rw [HT.sIx_nat] at hw; have hi' : i < (zs.map vN).length := hi; omega), fun p np => ?_⟩
          rw [cut_names]
          have sp := same_upd (o := .tup ((zs.take i).map vN)) np
          refine ⟨p, _, rfl, .inr (tupAt upd_same), rfl, nms_flat _, _, rfl, ?_⟩
          rw [in_nm, decide_eq_false (not_before nd ez)]
          exact iteF ⟨sm4.trans sp, _, _, rfl⟩
      · rintro σ H2 ⟨sm, y1, y2, rfl⟩
        exact q _ sm
/-! check_known -/
def spKnown (K : PySem.W.Frag) : Sp := fun vs H Q _ => ∃ (a b : Addr) (zs ks : List (List Nat)), vs = [.ref a, .ref b] ∧ SqS K H a (zs.map vN) ∧ SqS K H b (ks.map vN) ∧ (∀ z ∈ zs, z ∈ ks) ∧ Q .non H
theorem ok_check_known {f : Addr} {fd : FuncData} (F : Fun K "check_known" "check_known" s_check_known f fd) : FnOk P w K mg base CX0 1 f fd ["names", "known"] (spKnown K) := by
  refine F.ok sc_check_known (fun vs H Q E h => ?_) (fun cdv A outer s H vs Q E hr h => ?_)
  · obtain ⟨a, b, zs, ks, rfl, _⟩ := h
    rfl
  · obtain ⟨a, b, zs, ks, rfl, hA, hB, sub, q⟩ := h
    refine ⟨_, (pss_one (ps_for PassesOwn.never rfl (pi_or (pi_list (pv 0)) (pi_tup (pv 0))) (pg_name (i := 2) sc_check_known.nd rfl (.inl rfl))
    (pss_one (ps_if (pt_cmpR op_notIn_seq (pv 2) (pv 1) (by rfl)) (pss_one ps_never) pss_nil)))), ?_⟩
    have one : ∀ (i : Nat) (x : V) (σ : L2.St) (H2 : Hp), (zs.map vN)[i]? = some x → ∃ z, z ∈ ks ∧ x = vN z := fun i x σ H2 hx => by
      obtain ⟨z, ez, rfl⟩ := vN_at hx
      exact ⟨z, sub z (List.mem_of_getElem? ez), rfl⟩
    rcases hA with hA | hA
    · refine .inl ⟨_, rfl, a, rfl, ⟨_, hA⟩, for_list (K := K) (a := a) (xs := zs.map vN) (fun i σ H2 => H2 = H ∧ ∃ y : Option V, σ = [some (.ref a), some (.ref b), y]) ⟨rfl, _, rfl⟩ (fun i σ H2 _ hp => by rw [hp.1]; exact hA) ?_ ?_⟩
      · rintro i x σ H2 hx ⟨rfl, y, rfl⟩
        obtain ⟨z, hz, rfl⟩ := one i x [] H2 hx
        refine ⟨_, rfl, _, rfl, b, _, rfl, hB, rfl, nms_flat _, _, rfl, ?_⟩
        rw [notin_nm, decide_eq_true hz]
        exact iteF ⟨rfl, _, rfl⟩
      · rintro σ H2 ⟨rfl, y, rfl⟩
        exact q
    · refine .inr ⟨_, rfl, a, rfl, ⟨_, hA⟩, for_tup (K := K) (a := a) (xs := zs.map vN) (fun i σ H2 => H2 = H ∧ ∃ y : Option V, σ = [some (.ref a), some (.ref b), y]) ⟨rfl, _, rfl⟩ (fun i σ H2 _ hp => by rw [hp.1]; exact hA) ?_ ?_⟩
      · rintro i x σ H2 hx ⟨rfl, y, rfl⟩
        obtain ⟨z, hz, rfl⟩ := one i x [] H2 hx
        refine ⟨_, rfl, _, rfl, b, _, rfl, hB, rfl, nms_flat _, _, rfl, ?_⟩
        rw [notin_nm, decide_eq_true hz]
        exact iteF ⟨rfl, _, rfl⟩
      · rintro σ H2 ⟨rfl, y, rfl⟩
        exact q
end
abbrev Nam := List Nat
abbrev Tie := Nam × Nam × Int
/-! ties -/
def TieAt (H : Hp) (e : Addr) (t : Tie) : Prop := H e = some (.tup [vN t.1, vN t.2.1, .int t.2.2])
def TiesAt (H : Hp) (es : List Addr) (ts : List Tie) : Prop := es.length = ts.length ∧ ∀ (i : Nat) (e : Addr), es[i]? = some e → ∃ t, ts[i]? = some t ∧ TieAt H e t
theorem TiesAt.same {H H' : Hp} {es : List Addr} {ts : List Tie} (h : TiesAt H es ts) (s : Same H H') : TiesAt H' es ts := ⟨h.1, fun i e he => by
  obtain ⟨t, a, b⟩ := h.2 i e he
  exact ⟨t, a, s _ _ b⟩⟩
theorem ties_at {H : Hp} {es : List Addr} {ts : List Tie} (h : TiesAt H es ts) {i : Nat} {x : V} (hx : (es.map V.ref)[i]? = some x) : ∃ e t, x = .ref e ∧ es[i]? = some e ∧ ts[i]? = some t ∧ TieAt H e t := by
  rw [List.getElem?_map] at hx
  cases e : es[i]? with
  | none => rw [e] at hx; cases hx
  | some a =>
    rw [e] at hx
    obtain ⟨t, h1, h2⟩ := h.2 i a e
    exact ⟨a, t, (Option.some.inj hx).symm, rfl, h1, h2⟩
theorem TiesAt.snoc {H H' : Hp} {es : List Addr} {ts : List Tie} {e : Addr} {t : Tie} (h : TiesAt H es ts) (s : Same H H') (k : TieAt H' e t) : TiesAt H' (es ++ [e]) (ts ++ [t]) := by
  refine ⟨by rw [List.length_append, List.length_append, h.1]; rfl, fun i x hx => ?_⟩
  by_cases hi : i < es.length
  · rw [List.getElem?_append_left hi] at hx
    obtain ⟨t', h1, h2⟩ := h.2 i x hx
    exact ⟨t', by rw [List.getElem?_append_left (by rw [← h.1]; exact hi)]; exact h1, s _ _ h2⟩
  · rw [List.getElem?_append_right (by omega)] at hx
    have hi2 : i - es.length = 0 := by
      have := (List.getElem?_eq_some_iff.mp hx).1
      simp at this
      omega
    rw [hi2] at hx
    cases Option.some.inj hx
    exact ⟨t, by rw [List.getElem?_append_right (by rw [← h.1]; omega), ← h.1, hi2]; rfl, k⟩
def plusO : Option Int → Int → Option Int
  | none, _ => none
  | some a, c => some (a + c)
def minO : Option Int → Option Int → Option Int
  | none, b => b
  | some a, none => some a
  | some a, some b => some (if b < a then b else a)
theorem mem_at {α : Type} {xs : List α} {i : Nat} {x : α} (h : xs[i]? = some x) : x ∈ xs := List.mem_of_getElem? h
end TK

namespace TK
open PySem PySem.Spec PyProof.Rows L2
structure DefD (P : Program) (w : World) (K : PySem.W.Frag) (mg : Str → Option Value) (base : Heap) (x : Str) (k : Nat) (ps : List Str) (sp : Sp) (dvs : List V) : Prop where
  ex : ∃ (f : Addr) (fd : FuncData) (ds : List Value), FnOk P w K mg base CX0 k f fd ps sp ∧ mg x = some (.ref f) ∧ PySem.W.keepIn K (.ref f) = true ∧ Binds K fd ps ds ∧ Vals dvs ds
section
variable {X : Cx} {x : Str} {k : Nat} {ps : List Str} {sp : Sp} {dvs : List V} {e : Expr} {es : List Expr} {t : TA} {p pos : Pos}
theorem pe_callDD (D : DefD X.prog X.w X.K X.mg X.base x k ps sp dvs) (hr : Room k X.A) (hg : Gl X x) (ha : PA X (e :: es) t) (hdb : (x == ("__debug__" : Str)) = false := by decide)
    (he : starEach (e :: es) X.env = (false, eval e X.env) :: starEach es X.env := by rfl) (hpl : (backTo pos (starEach es X.env)).any (·.1) = false := by rfl) :
    PE X (.Call (.Name x p) (e :: es) [] pos) (tCall sp dvs E0 t) := by
  obtain ⟨f, fd, ds, F, g, kp, b, r⟩ := D.ex
  exact pe_call F hr hg g kp b r pass0 ha hdb he hpl
end
/-- right entries -/
structure EOk (zs : List Nam) (ts : List Tie) : Prop where
  a : ∀ t ∈ ts, t.1 ∈ zs
  b : ∀ t ∈ ts, t.2.1 ∈ zs
  h0 : ∀ t ∈ ts, 0 ≤ t.2.2
/-! the least toll of an entry -/
def isE (x y : Nam) (t : Tie) : Bool := decide (t.1 = x ∧ t.2.1 = y)
def leastE (ts : List Tie) (x y : Nam) : Option Int := ts.foldl (fun o t => if isE x y t then minO o (some t.2.2) else o) none
theorem leastE_snoc {ts : List Tie} {i : Nat} {t : Tie} (h : ts[i]? = some t) (x y : Nam) : leastE (ts.take (i + 1)) x y = if isE x y t then minO (leastE (ts.take i) x y) (some t.2.2) else leastE (ts.take i) x y := by
  unfold leastE
  rw [List.take_add_one, h, List.foldl_append]
  rfl
def keyE (x y : Nam) : List Key := [Sum.inr (sOf x), Sum.inr (sOf y)]
theorem keyE_inj {x y x' y' : Nam} (h : keyE x y = keyE x' y') : x = x' ∧ y = y' := by
  unfold keyE at h
  injection h with h1 h2
  injection h2 with h2 _
  exact ⟨sOf_inj (Sum.inr.inj h1), sOf_inj (Sum.inr.inj h2)⟩
def capI : Option Int → V
  | none => .non
  | some x => .int x
/-- what the dict of the prices holds -/
structure KvE (kvs : List (List Key × V)) (ts : List Tie) : Prop where
  at_ : ∀ x y : Nam, valV kvs (keyE x y) = (leastE ts x y).map V.int
  ks : ∀ p ∈ kvs, ∃ x y v, p = (keyE x y, V.int v)
  nd : (kvs.map (·.1)).Nodup
theorem nd_put {kvs : List (List Key × V)} {k : List Key} {v : V} (h : (kvs.map (·.1)).Nodup) : ((putK kvs k v).map (·.1)).Nodup := by
  unfold putK
  split
  · rw [List.map_map]
    have e : ((fun p : List Key × V => p.1) ∘ fun kv : List Key × V => if kv.1 = k then (kv.1, v) else kv) = fun p => p.1 := by
      funext p
      show (if p.1 = k then (p.1, v) else p).1 = p.1
      split <;> rfl
    rw [e]
    exact h
  · rename_i hn
    rw [List.map_append]
    refine List.nodup_append.mpr ⟨h, by simp, fun a ha b hb => ?_⟩
    obtain ⟨p, hp, rfl⟩ := List.mem_map.mp ha
    have hb : b = k := by simpa using hb
    subst hb
    exact fun e => hn (List.any_eq_true.mpr ⟨p, hp, decide_eq_true e⟩)
theorem ks_put {kvs : List (List Key × V)} {x y : Nam} {v : Int} (h : ∀ p ∈ kvs, ∃ x y v, p = (keyE x y, V.int v)) : ∀ p ∈ putK kvs (keyE x y) (.int v), ∃ x y v, p = (keyE x y, V.int v) := by
  intro p hp
  unfold putK at hp
  split at hp
  · obtain ⟨q, hq, rfl⟩ := List.mem_map.mp hp
    obtain ⟨x', y', v', rfl⟩ := h q hq
    dsimp only
    split
    · exact ⟨x', y', v, rfl⟩
    · exact ⟨x', y', v', rfl⟩
  · rcases List.mem_append.mp hp with m | m
    · exact h p m
    · rw [List.mem_singleton.mp m]; exact ⟨x, y, v, rfl⟩
theorem KvE.nil : KvE [] [] := ⟨fun _ _ => rfl, (fun _ h => nomatch h), List.nodup_nil⟩
/-- one entry more -/
theorem KvE.put {kvs : List (List Key × V)} {ts : List Tie} {i : Nat} {t : Tie} (h : KvE kvs (ts.take i)) (e : ts[i]? = some t) (c : minO (leastE (ts.take i) t.1 t.2.1) (some t.2.2) = some t.2.2) : KvE (putK kvs (keyE t.1 t.2.1) (.int t.2.2)) (ts.take (i + 1)) := by
  refine ⟨fun x y => ?_, ks_put h.ks, nd_put h.nd⟩
  rw [valV_put, leastE_snoc e]
  by_cases q : keyE x y = keyE t.1 t.2.1
  · obtain ⟨rfl, rfl⟩ := keyE_inj q
    rw [if_pos q, if_pos (show isE t.1 t.2.1 t = true from decide_eq_true ⟨rfl, rfl⟩), c]
    rfl
  · rw [if_neg q, if_neg (show ¬ isE x y t = true from fun z => by
      obtain ⟨e1, e2⟩ := of_decide_eq_true z
      exact q (by rw [e1, e2]))]
    exact h.at_ x y
theorem KvE.stay {kvs : List (List Key × V)} {ts : List Tie} {i : Nat} {t : Tie} (h : KvE kvs (ts.take i)) (e : ts[i]? = some t) (c : minO (leastE (ts.take i) t.1 t.2.1) (some t.2.2) = leastE (ts.take i) t.1 t.2.1) : KvE kvs (ts.take (i + 1)) := by
  refine ⟨fun x y => ?_, h.ks, h.nd⟩
  rw [h.at_, leastE_snoc e]
  by_cases q : isE x y t = true
  · obtain ⟨e1, e2⟩ := of_decide_eq_true q
    subst e1 e2
    rw [if_pos q, c]
  · rw [if_neg q]
theorem kvE_len {kvs : List (List Key × V)} {ts : List Tie} {i : Nat} (h : kvs.length ≤ i) (k : List Key) (v : V) : (putK kvs k v).length ≤ i + 1 := Nat.le_trans (length_putK _ _ _) (Nat.succ_le_succ h)
section
variable {P : Program} {w : World} {K : PySem.W.Frag} {mg : Str → Option Value} {base : Heap}
/-! _check_entries -/
def spCheckE (K : PySem.W.Frag) : Sp := fun vs H Q _ => ∃ (a b : Addr) (zs : List Nam) (es : List Addr) (ts : List Tie), vs = [.ref a, .ref b] ∧ SqS K H a (zs.map vN) ∧ SqS K H b (es.map V.ref) ∧ TiesAt H es ts ∧ EOk zs ts ∧ ∀ H', Same H H' → Q .non H'
theorem ok_check_entries {f : Addr} {fd : FuncData} (F : Fun K "_check_entries" "_check_entries" s_check_entries f fd) (d_check_known : Def P w K mg base "check_known" 1 ["names", "known"] (spKnown K)) :
    FnOk P w K mg base CX0 2 f fd ["names", "entries"] (spCheckE K) := by
  refine F.ok sc_check_entries (fun vs H Q E h => ?_) (fun cdv A outer s H vs Q E hr h => ?_)
  · obtain ⟨a, b, zs, es, ts, rfl, _⟩ := h
    rfl
  · obtain ⟨a, b, zs, es, ts, rfl, hA, hB, hT, ok, q⟩ := h
    rcases hB with hB | hB
    · refine ⟨_, (pss_one (ps_for PassesOwn.never rfl (pi_list (pv 1)) (pg_tup (by rfl) (pgs_cons (pg_name (i := 2) sc_check_entries.nd rfl (.inl rfl)) (pgs_cons (pg_name (i := 3) sc_check_entries.nd rfl (.inl rfl)) (pgs_cons (pg_name (i := 4) sc_check_entries.nd rfl (.inl rfl)) pgs_nil))))
    (pss_cons (ps_expr (pe_callD d_check_known (hr.mono (by decide)) (by rfl) (pa_cons (pe_lst (pa_cons (pv 2) (pa_cons (pv 3) pa_nil))) (pa_cons (pv 0) pa_nil))))
  (pss_one (ps_if (pt_cmpR op_lt (pv 4) pe_int (nomark _)) (pss_one ps_never) pss_nil))))), ?_⟩
      refine ⟨_, rfl, b, rfl, ⟨_, hB⟩, for_list (K := K) (a := b) (xs := es.map V.ref) (fun i σ H2 => Same H H2 ∧ ∃ y1 y2 y3 : Option V, σ = [some (.ref a), some (.ref b), y1, y2, y3]) ⟨Same.refl H, _, _, _, rfl⟩ (fun i σ H2 _ hp => hp.1.seq hB) ?_ ?_⟩
      · rintro i x σ H2 hx ⟨sm, y1, y2, y3, rfl⟩
        obtain ⟨e, t, rfl, _, et, ht⟩ := ties_at hT hx
        have tm := mem_at et
        refine ⟨_, _, rfl, tupAt (sm _ _ ht), rfl, _, _, rfl, _, _, rfl, _, _, rfl, rfl, ?_⟩
        refine ⟨_, rfl, _, rfl, (show (2 : Nat) ≤ sizeLine by decide), fun p np => ?_⟩
        have sp := same_upd (o := .lst [vN t.1, vN t.2.1]) np
        refine ⟨_, rfl, p, a, [t.1, t.2.1], zs, rfl, .inl (lstAt upd_same), hA.same (sm.trans sp), ?_, ?_⟩
        · intro z hz
          rcases List.mem_cons.mp hz with rfl | hz
          · exact ok.a _ tm
          · rw [List.mem_singleton.mp hz]; exact ok.b _ tm
        refine ⟨_, rfl, _, _, rfl, rfl, _, rfl, ?_⟩
        rw [decide_eq_false (show ¬ t.2.2 < 0 by have := ok.h0 _ tm; omega)]
        exact iteF ⟨sm.trans sp, _, _, _, rfl⟩
      · rintro σ H2 ⟨sm, y1, y2, y3, rfl⟩
        exact q _ sm
    · refine ⟨_, (pss_one (ps_for PassesOwn.never rfl (pi_tup (pv 1)) (pg_tup (by rfl) (pgs_cons (pg_name (i := 2) sc_check_entries.nd rfl (.inl rfl)) (pgs_cons (pg_name (i := 3) sc_check_entries.nd rfl (.inl rfl)) (pgs_cons (pg_name (i := 4) sc_check_entries.nd rfl (.inl rfl)) pgs_nil))))
    (pss_cons (ps_expr (pe_callD d_check_known (hr.mono (by decide)) (by rfl) (pa_cons (pe_lst (pa_cons (pv 2) (pa_cons (pv 3) pa_nil))) (pa_cons (pv 0) pa_nil))))
  (pss_one (ps_if (pt_cmpR op_lt (pv 4) pe_int (nomark _)) (pss_one ps_never) pss_nil))))), ?_⟩
      refine ⟨_, rfl, b, rfl, ⟨_, hB⟩, for_tup (K := K) (a := b) (xs := es.map V.ref) (fun i σ H2 => Same H H2 ∧ ∃ y1 y2 y3 : Option V, σ = [some (.ref a), some (.ref b), y1, y2, y3]) ⟨Same.refl H, _, _, _, rfl⟩ (fun i σ H2 _ hp => same_tup hp.1 hB) ?_ ?_⟩
      · rintro i x σ H2 hx ⟨sm, y1, y2, y3, rfl⟩
        obtain ⟨e, t, rfl, _, et, ht⟩ := ties_at hT hx
        have tm := mem_at et
        refine ⟨_, _, rfl, tupAt (sm _ _ ht), rfl, _, _, rfl, _, _, rfl, _, _, rfl, rfl, ?_⟩
        refine ⟨_, rfl, _, rfl, (show (2 : Nat) ≤ sizeLine by decide), fun p np => ?_⟩
        have sp := same_upd (o := .lst [vN t.1, vN t.2.1]) np
        refine ⟨_, rfl, p, a, [t.1, t.2.1], zs, rfl, .inl (lstAt upd_same), hA.same (sm.trans sp), ?_, ?_⟩
        · intro z hz
          rcases List.mem_cons.mp hz with rfl | hz
          · exact ok.a _ tm
          · rw [List.mem_singleton.mp hz]; exact ok.b _ tm
        refine ⟨_, rfl, _, _, rfl, rfl, _, rfl, ?_⟩
        rw [decide_eq_false (show ¬ t.2.2 < 0 by have := ok.h0 _ tm; omega)]
        exact iteF ⟨sm.trans sp, _, _, _, rfl⟩
      · rintro σ H2 ⟨sm, y1, y2, y3, rfl⟩
        exact q _ sm
/-! _least_tolls -/
def spLeastT (K : PySem.W.Frag) : Sp := fun vs H Q _ => ∃ (b : Addr) (es : List Addr) (ts : List Tie), vs = [.ref b] ∧ SqS K H b (es.map V.ref) ∧ TiesAt H es ts ∧ ts.length ≤ 10000 ∧
  ∀ H' p kvs, H p = none → Same H H' → H' p = some (.dT kvs) → KvE kvs ts → kvs.length ≤ ts.length → Q (.ref p) H'
theorem ok_least_tolls {f : Addr} {fd : FuncData} (F : Fun K "_least_tolls" "_least_tolls" s_least_tolls f fd) : FnOk P w K mg base CX0 1 f fd ["entries"] (spLeastT K) := by
  refine F.ok sc_least_tolls (fun vs H Q E h => ?_) (fun cdv A outer s H vs Q E hr h => ?_)
  · obtain ⟨b, es, ts, rfl, _⟩ := h
    rfl
  · obtain ⟨b, es, ts, rfl, hB, hT, l4, q⟩ := h
    have el : (es.map V.ref).length = ts.length := by rw [List.length_map, hT.1]
    rcases hB with hB | hB
    · refine ⟨_, (pss_cons (ps_set (i := 1) sc_least_tolls.nd rfl (.inl rfl) pe_dnewT)
  (pss_cons (ps_for PassesOwn.never rfl (pi_list (pv 0)) (pg_tup (by rfl) (pgs_cons (pg_name (i := 2) sc_least_tolls.nd rfl (.inl rfl)) (pgs_cons (pg_name (i := 3) sc_least_tolls.nd rfl (.inl rfl)) (pgs_cons (pg_name (i := 4) sc_least_tolls.nd rfl (.inl rfl)) pgs_nil))))
    (pss_one (ps_if (PW.pt (pw_or (pt_cmp (pc_dnotin (hu_of hr) (pe_tup (pa_cons (pv 2) (pa_cons (pv 3) pa_nil))) (pv 1))) (pw_or1 (pt_cmpR op_lt (pv 4) (pe_dget (hu_of hr) (pv 1) (pe_tup (pa_cons (pv 2) (pa_cons (pv 3) pa_nil))) (fun _ _ => rfl)) (nomark _))))) (pss_one (ps_dput (hu_of hr) (pv 1) (pe_tup (pa_cons (pv 2) (pa_cons (pv 3) pa_nil))) (pv 4) rfl)) pss_nil)))
  (pss_one (ps_ret (pv 1))))), fun D nD => ?_⟩
      refine ⟨_, rfl, b, rfl, ⟨_, (same_upd nD).seq hB⟩, for_list (K := K) (a := b) (xs := es.map V.ref) (fun i σ H2 => Same H H2 ∧ ∃ (kvs : List (List Key × V)) (y1 y2 y3 : Option V), H2 D = some (.dT kvs) ∧ KvE kvs (ts.take i) ∧ kvs.length ≤ i ∧ σ = [some (.ref b), some (.ref D), y1, y2, y3]) ⟨same_upd nD, [], _, _, _, upd_same, .nil, Nat.le_refl _, rfl⟩ (fun i σ H2 _ hp => hp.1.seq hB) ?_ ?_⟩
      · rintro i x σ H2 hx ⟨sm, kvs, y1, y2, y3, hD, kv, kl, rfl⟩
        obtain ⟨e, t, rfl, _, et, ht⟩ := ties_at hT hx
        have hi : i < ts.length := (List.getElem?_eq_some_iff.mp et).1
        have hz : kvs.length < sizeLine := Nat.lt_of_le_of_lt (show kvs.length ≤ 10000 by omega) (by decide)
        refine ⟨_, _, rfl, tupAt (sm _ _ ht), rfl, _, _, rfl, _, _, rfl, _, _, rfl, rfl, ?_⟩
        refine ⟨_, rfl, _, rfl, (show (2 : Nat) ≤ sizeLine by decide), fun k1 nk1 => ?_⟩
        have s1 := same_upd (o := .tup [vN t.1, vN t.2.1]) nk1
        have g1 : DGet (upd H2 k1 (.tup [vN t.1, vN t.2.1])) D (.ref k1) ((leastE (ts.take i) t.1 t.2.1).map V.int) := kv.at_ t.1 t.2.1 ▸ DGet.t (k := keyE t.1 t.2.1) (s1 _ _ hD) upd_same
        refine ⟨_, rfl, D, _, rfl, g1, _, rfl, ?_⟩
        have sm1 := sm.trans s1
        have put : ∀ H5 : Hp, Same H H5 → H5 D = some (.dT kvs) → minO (leastE (ts.take i) t.1 t.2.1) (some t.2.2) = some t.2.2 → ∀ k, H5 k = none → Same H (upd (upd H5 k (.tup [vN t.1, vN t.2.1])) D (.dT (putK kvs (keyE t.1 t.2.1) (.int t.2.2)))) ∧ KvE (putK kvs (keyE t.1 t.2.1) (.int t.2.2)) (ts.take (i + 1)) ∧ (putK kvs (keyE t.1 t.2.1) (.int t.2.2)).length ≤ i + 1 :=
          fun H5 s5 hD5 c k nk => ⟨same_at (s5.trans (same_upd nk)) nD, kv.put et c, kvE_len (ts := ts) kl _ _⟩
        cases el2 : leastE (ts.take i) t.1 t.2.1 with
        | none =>
          refine iteT ?_
          refine ⟨_, rfl, _, rfl, _, rfl, _, rfl, (show (2 : Nat) ≤ sizeLine by decide), fun k2 nk2 => ?_⟩
          obtain ⟨h1, h2, h3⟩ := put _ sm1 (s1 _ _ hD) (by rw [el2]; rfl) k2 nk2
          exact ⟨D, _, rfl, DPut.t (k := keyE t.1 t.2.1) ((same_upd nk2) _ _ (s1 _ _ hD)) upd_same hz, h1, _, _, _, _, upd_same, h2, h3, rfl⟩
        | some v =>
          refine iteF ?_
          refine ⟨_, rfl, _, rfl, _, rfl, _, rfl, (show (2 : Nat) ≤ sizeLine by decide), fun k2 nk2 => ?_⟩
          have s2 := same_upd (o := .tup [vN t.1, vN t.2.1]) nk2
          have g2 : DGet (upd (upd H2 k1 (.tup [vN t.1, vN t.2.1])) k2 (.tup [vN t.1, vN t.2.1])) D (.ref k2) (some (V.int v)) := by
            have := DGet.t (k := keyE t.1 t.2.1) (s2 _ _ (s1 _ _ hD)) upd_same
            rw [kv.at_, el2] at this
            exact this
          refine ⟨D, _, rfl, g2, _, _, rfl, rfl, _, rfl, ite2 (fun c => ?_) (fun c => ?_)⟩
          · have c := of_decide_eq_true c
            refine ⟨_, rfl, _, rfl, _, rfl, _, rfl, (show (2 : Nat) ≤ sizeLine by decide), fun k3 nk3 => ?_⟩
            obtain ⟨h1, h2, h3⟩ := put _ (sm1.trans s2) (s2 _ _ (s1 _ _ hD)) (by rw [el2]; show some (if t.2.2 < v then t.2.2 else v) = _; rw [if_pos c]) k3 nk3
            exact ⟨D, _, rfl, DPut.t (k := keyE t.1 t.2.1) ((same_upd nk3) _ _ (s2 _ _ (s1 _ _ hD))) upd_same hz, h1, _, _, _, _, upd_same, h2, h3, rfl⟩
          · have c : ¬ t.2.2 < v := of_decide_eq_false (Bool.eq_false_iff.mpr c)
            exact ⟨sm1.trans s2, kvs, _, _, _, s2 _ _ (s1 _ _ hD), kv.stay et (by rw [el2]; show some (if t.2.2 < v then t.2.2 else v) = _; rw [if_neg c]), Nat.le_succ_of_le kl, rfl⟩
      · rintro σ H2 ⟨sm, kvs, y1, y2, y3, hD, kv, kl, rfl⟩
        rw [el, List.take_length] at kv
        rw [el] at kl
        exact ⟨_, rfl, q _ D kvs nD sm hD kv kl⟩
    · refine ⟨_, (pss_cons (ps_set (i := 1) sc_least_tolls.nd rfl (.inl rfl) pe_dnewT)
  (pss_cons (ps_for PassesOwn.never rfl (pi_tup (pv 0)) (pg_tup (by rfl) (pgs_cons (pg_name (i := 2) sc_least_tolls.nd rfl (.inl rfl)) (pgs_cons (pg_name (i := 3) sc_least_tolls.nd rfl (.inl rfl)) (pgs_cons (pg_name (i := 4) sc_least_tolls.nd rfl (.inl rfl)) pgs_nil))))
    (pss_one (ps_if (PW.pt (pw_or (pt_cmp (pc_dnotin (hu_of hr) (pe_tup (pa_cons (pv 2) (pa_cons (pv 3) pa_nil))) (pv 1))) (pw_or1 (pt_cmpR op_lt (pv 4) (pe_dget (hu_of hr) (pv 1) (pe_tup (pa_cons (pv 2) (pa_cons (pv 3) pa_nil))) (fun _ _ => rfl)) (nomark _))))) (pss_one (ps_dput (hu_of hr) (pv 1) (pe_tup (pa_cons (pv 2) (pa_cons (pv 3) pa_nil))) (pv 4) rfl)) pss_nil)))
  (pss_one (ps_ret (pv 1))))), fun D nD => ?_⟩
      refine ⟨_, rfl, b, rfl, ⟨_, same_tup (same_upd nD) hB⟩, for_tup (K := K) (a := b) (xs := es.map V.ref) (fun i σ H2 => Same H H2 ∧ ∃ (kvs : List (List Key × V)) (y1 y2 y3 : Option V), H2 D = some (.dT kvs) ∧ KvE kvs (ts.take i) ∧ kvs.length ≤ i ∧ σ = [some (.ref b), some (.ref D), y1, y2, y3]) ⟨same_upd nD, [], _, _, _, upd_same, .nil, Nat.le_refl _, rfl⟩ (fun i σ H2 _ hp => same_tup hp.1 hB) ?_ ?_⟩
      · rintro i x σ H2 hx ⟨sm, kvs, y1, y2, y3, hD, kv, kl, rfl⟩
        obtain ⟨e, t, rfl, _, et, ht⟩ := ties_at hT hx
        have hi : i < ts.length := (List.getElem?_eq_some_iff.mp et).1
        have hz : kvs.length < sizeLine := Nat.lt_of_le_of_lt (show kvs.length ≤ 10000 by omega) (by decide)
        refine ⟨_, _, rfl, tupAt (sm _ _ ht), rfl, _, _, rfl, _, _, rfl, _, _, rfl, rfl, ?_⟩
        refine ⟨_, rfl, _, rfl, (show (2 : Nat) ≤ sizeLine by decide), fun k1 nk1 => ?_⟩
        have s1 := same_upd (o := .tup [vN t.1, vN t.2.1]) nk1
        have g1 : DGet (upd H2 k1 (.tup [vN t.1, vN t.2.1])) D (.ref k1) ((leastE (ts.take i) t.1 t.2.1).map V.int) := kv.at_ t.1 t.2.1 ▸ DGet.t (k := keyE t.1 t.2.1) (s1 _ _ hD) upd_same
        refine ⟨_, rfl, D, _, rfl, g1, _, rfl, ?_⟩
        have sm1 := sm.trans s1
        have put : ∀ H5 : Hp, Same H H5 → H5 D = some (.dT kvs) → minO (leastE (ts.take i) t.1 t.2.1) (some t.2.2) = some t.2.2 → ∀ k, H5 k = none → Same H (upd (upd H5 k (.tup [vN t.1, vN t.2.1])) D (.dT (putK kvs (keyE t.1 t.2.1) (.int t.2.2)))) ∧ KvE (putK kvs (keyE t.1 t.2.1) (.int t.2.2)) (ts.take (i + 1)) ∧ (putK kvs (keyE t.1 t.2.1) (.int t.2.2)).length ≤ i + 1 :=
          fun H5 s5 hD5 c k nk => ⟨same_at (s5.trans (same_upd nk)) nD, kv.put et c, kvE_len (ts := ts) kl _ _⟩
        cases el2 : leastE (ts.take i) t.1 t.2.1 with
        | none =>
          refine iteT ?_
          refine ⟨_, rfl, _, rfl, _, rfl, _, rfl, (show (2 : Nat) ≤ sizeLine by decide), fun k2 nk2 => ?_⟩
          obtain ⟨h1, h2, h3⟩ := put _ sm1 (s1 _ _ hD) (by rw [el2]; rfl) k2 nk2
          exact ⟨D, _, rfl, DPut.t (k := keyE t.1 t.2.1) ((same_upd nk2) _ _ (s1 _ _ hD)) upd_same hz, h1, _, _, _, _, upd_same, h2, h3, rfl⟩
        | some v =>
          refine iteF ?_
          refine ⟨_, rfl, _, rfl, _, rfl, _, rfl, (show (2 : Nat) ≤ sizeLine by decide), fun k2 nk2 => ?_⟩
          have s2 := same_upd (o := .tup [vN t.1, vN t.2.1]) nk2
          have g2 : DGet (upd (upd H2 k1 (.tup [vN t.1, vN t.2.1])) k2 (.tup [vN t.1, vN t.2.1])) D (.ref k2) (some (V.int v)) := by
            have := DGet.t (k := keyE t.1 t.2.1) (s2 _ _ (s1 _ _ hD)) upd_same
            rw [kv.at_, el2] at this
            exact this
          refine ⟨D, _, rfl, g2, _, _, rfl, rfl, _, rfl, ite2 (fun c => ?_) (fun c => ?_)⟩
          · have c := of_decide_eq_true c
            refine ⟨_, rfl, _, rfl, _, rfl, _, rfl, (show (2 : Nat) ≤ sizeLine by decide), fun k3 nk3 => ?_⟩
            obtain ⟨h1, h2, h3⟩ := put _ (sm1.trans s2) (s2 _ _ (s1 _ _ hD)) (by rw [el2]; show some (if t.2.2 < v then t.2.2 else v) = _; rw [if_pos c]) k3 nk3
            exact ⟨D, _, rfl, DPut.t (k := keyE t.1 t.2.1) ((same_upd nk3) _ _ (s2 _ _ (s1 _ _ hD))) upd_same hz, h1, _, _, _, _, upd_same, h2, h3, rfl⟩
          · have c : ¬ t.2.2 < v := of_decide_eq_false (Bool.eq_false_iff.mpr c)
            exact ⟨sm1.trans s2, kvs, _, _, _, s2 _ _ (s1 _ _ hD), kv.stay et (by rw [el2]; show some (if t.2.2 < v then t.2.2 else v) = _; rw [if_neg c]), Nat.le_succ_of_le kl, rfl⟩
      · rintro σ H2 ⟨sm, kvs, y1, y2, y3, hD, kv, kl, rfl⟩
        rw [el, List.take_length] at kv
        rw [el] at kl
        exact ⟨_, rfl, q _ D kvs nD sm hD kv kl⟩
end
end TK

namespace TK
open PySem PySem.Spec PyProof.Rows L2
abbrev s_Tolls_init : Stmt := inClass (topS 23) 0
theorem sc_Tolls_init : FnScope ["self", "names", "entries"] ["self", "names", "entries"] (defScope s_Tolls_init) := ⟨rfl, rfl, rfl, by decide +kernel, rfl, by decide +kernel, by decide +kernel⟩
abbrev s_Tolls_getitem : Stmt := inClass (topS 23) 2
theorem sc_Tolls_getitem : FnScope ["self", "at", "giver", "taker"] ["self", "at"] (defScope s_Tolls_getitem) := ⟨rfl, rfl, rfl, by decide +kernel, rfl, by decide +kernel, by decide +kernel⟩
abbrev s_Tolls_entries : Stmt := inClass (topS 23) 10
theorem sc_Tolls_entries : FnScope ["self", "giver", "taker"] ["self"] (defScope s_Tolls_entries) := ⟨rfl, rfl, rfl, by decide +kernel, rfl, by decide +kernel, by decide +kernel⟩
structure NsOk (zs : List Nam) : Prop where
  nm : ∀ z ∈ zs, NmH z
  nd : zs.Nodup
  l1 : 1 ≤ zs.length
  l6 : zs.length ≤ 6
theorem putF_len (f : Str) (v : V) : ∀ fs : List (Str × V), (putF f v fs).length ≤ fs.length + 1
  | [] => Nat.le_refl _
  | (g, x) :: r => by
    show (if g = f then _ else _ : List (Str × V)).length ≤ _
    split
    · exact Nat.le_succ _
    · exact Nat.succ_le_succ (putF_len f v r)
def fldsT (a d : Addr) : List (Str × V) := putF "_prices" (.ref d) (putF "names" (.ref a) [])
theorem fldsT_names (a b : Addr) : (fldsT a b).lookup ("names" : Str) = some (.ref a) := by
  unfold fldsT
  rw [lookup_putF, if_neg (by decide +kernel), lookup_putF, if_pos rfl]
theorem fldsT_prices (a b : Addr) : (fldsT a b).lookup ("_prices" : Str) = some (.ref b) := by
  unfold fldsT
  rw [lookup_putF, if_pos rfl]
structure TxtT (K : PySem.W.Frag) (C : Addr) : Prop where
  cl : Cls K C
  nN : NoAttr K C "names"
  nP : NoAttr K C "_prices"
def TkAt (K : PySem.W.Frag) (C : Addr) (H : Hp) (p : Addr) (zs : List Nam) (ts : List Tie) : Prop := ∃ dx a d kvs, H p = some (.ins C dx (fldsT a d)) ∧ TL H a (zs.map vN) ∧ H d = some (.dT kvs) ∧ KvE kvs ts ∧ kvs.length ≤ ts.length
theorem TkAt.same {K : PySem.W.Frag} {C : Addr} {H H' : Hp} {p : Addr} {zs : List Nam} {ts : List Tie} (h : TkAt K C H p zs ts) (s : Same H H') : TkAt K C H' p zs ts := by
  obtain ⟨dx, a, d, kvs, h1, h2, h3, h4, h5⟩ := h
  exact ⟨dx, a, d, kvs, s _ _ h1, h2.elim (fun h => .inl (s _ _ h)) (fun ⟨o, h⟩ => .inr ⟨o, s _ _ h⟩), s _ _ h3, h4, h5⟩
section
variable {P : Program} {w : World} {K : PySem.W.Frag} {mg : Str → Option Value} {base : Heap}
/-! Tolls[..] -/
def spGetT (K : PySem.W.Frag) (C : Addr) : Sp := fun vs H Q _ => ∃ (p k : Addr) (zs : List Nam) (ts : List Tie) (x y : Nam), vs = [.ref p, .ref k] ∧ TkAt K C H p zs ts ∧ H k = some (.tup [vN x, vN y]) ∧ x ∈ zs ∧ y ∈ zs ∧ ∀ H', Same H H' → Q (capI (leastE ts x y)) H'
theorem ok_Tolls_getitem {f C : Addr} {fd : FuncData} (F : Fun K "__getitem__" "Tolls.__getitem__" s_Tolls_getitem f fd) (T : TxtT K C) (d_check_known : Def P w K mg base "check_known" 1 ["names", "known"] (spKnown K)) :
    FnOk P w K mg base CX0 2 f fd ["self", "at"] (spGetT K C) := by
  refine F.ok sc_Tolls_getitem (fun vs H Q E h => ?_) (fun cdv A outer s H vs Q E hr h => ?_)
  · obtain ⟨p, k, zs, ts, x, y, rfl, _⟩ := h
    rfl
  · obtain ⟨p, k, zs, ts, x, y, rfl, tk, hk, hx, hy, q⟩ := h
    obtain ⟨dx, a, d, kvs, hp, ha, hd, kv, kl⟩ := id tk
    refine ⟨_, (pss_cons (ps_asg (pv 1) (pg_tup (by rfl) (pgs_cons (pg_name (i := 2) sc_Tolls_getitem.nd rfl (.inl rfl)) (pgs_cons (pg_name (i := 3) sc_Tolls_getitem.nd rfl (.inl rfl)) pgs_nil))))
  (pss_cons (ps_expr (pe_callD d_check_known (hr.mono (by decide)) (by rfl) (pa_cons (pe_lst (pa_cons (pv 2) (pa_cons (pv 3) pa_nil))) (pa_cons (pe_fld (pv 0) rfl) pa_nil))))
  (pss_one (ps_ret (pe_dget1 (hu_of hr) (pe_fld (pv 0) rfl) (pe_tup (pa_cons (pv 2) (pa_cons (pv 3) pa_nil))) ⟨rfl, by rfl, by rfl, rfl⟩))))), ?_⟩
    refine ⟨_, rfl, _, _, rfl, tupAt hk, rfl, _, _, rfl, _, _, rfl, rfl, ?_⟩
    refine ⟨_, rfl, _, rfl, (show (2 : Nat) ≤ sizeLine by decide), fun l nl => ?_⟩
    have s1 := same_upd (o := .lst [vN x, vN y]) nl
    refine ⟨_, rfl, p, C, dx, _, _, rfl, s1 _ _ hp, T.cl, T.nN, fldsT_names _ _, l, a, [x, y], zs, rfl, .inl (lstAt upd_same), .inr (same_tup s1 ha.sq), ?_, ?_⟩
    · intro z hz
      rcases List.mem_cons.mp hz with rfl | hz
      · exact hx
      · rw [List.mem_singleton.mp hz]; exact hy
    refine ⟨_, rfl, p, C, dx, _, _, rfl, s1 _ _ hp, T.cl, T.nP, fldsT_prices _ _, d, rfl, .inr ⟨kvs, .inl (s1 _ _ hd)⟩, _, rfl, _, rfl, (show (2 : Nat) ≤ sizeLine by decide), fun k2 nk2 => ?_⟩
    have s2 := same_upd (o := .tup [vN x, vN y]) nk2
    refine ⟨_, DGet.t (k := keyE x y) (s2 _ _ (s1 _ _ hd)) upd_same, ?_⟩
    have := q _ (s1.trans s2)
    rw [kv.at_]
    cases e : leastE ts x y with
    | none => rw [e] at this; exact this
    | some v => rw [e] at this; exact this
/-! Tolls.__init__ -/
def spInitT (K : PySem.W.Frag) (C : Addr) : Sp := fun vs H Q _ => ∃ (p a b dx : Addr) (zs : List Nam) (es : List Addr) (ts : List Tie), vs = [.ref p, .ref a, .ref b] ∧ H p = some (.ins C dx []) ∧ (SqL K H a (zs.map vN) ∨ TL H a (zs.map vN)) ∧ SqS K H b (es.map V.ref) ∧ TiesAt H es ts ∧ NsOk zs ∧ EOk zs ts ∧ ts.length ≤ 10000 ∧
  ∀ H', TkAt K C H' p zs ts → (∀ c o, H c = some o → c ≠ p → H' c = some o) → Q .non H'
end
end TK

namespace TK
open PySem PySem.Spec PyProof.Rows L2
theorem rd_frame {H H' : Hp} {a p : Addr} {o ins : HO} (h : Rd H a o) (hp : H p = some ins) (n1 : o ≠ ins) (n2 : ∀ ob, HO.frz ob o ≠ ins) (f : ∀ c x, H c = some x → c ≠ p → H' c = some x) : Rd H' a o := by
  rcases h with h | ⟨ob, h⟩
  · exact .inl (f _ _ h (ne_of h hp n1))
  · exact .inr ⟨ob, f _ _ h (ne_of h hp (n2 ob))⟩
theorem sqT_frame {K : PySem.W.Frag} {H H' : Hp} {a p C dx : Addr} {fs : List (Str × V)} {xs : List V} (h : SqT K H a xs) (hp : H p = some (.ins C dx fs)) (f : ∀ c x, H c = some x → c ≠ p → H' c = some x) : SqT K H' a xs := by
  rcases h with h | h
  · exact .inl (rd_frame h hp (by intro z; cases z) (by intro _ z; cases z) f)
  · exact .inr h
theorem sqS_frame {K : PySem.W.Frag} {H H' : Hp} {a p C dx : Addr} {fs : List (Str × V)} {xs : List V} (h : SqS K H a xs) (hp : H p = some (.ins C dx fs)) (f : ∀ c x, H c = some x → c ≠ p → H' c = some x) : SqS K H' a xs := by
  rcases h with h | h
  · rcases h with h | h
    · exact .inl (.inl (rd_frame h hp (by intro z; cases z) (by intro _ z; cases z) f))
    · exact .inl (.inr h)
  · exact .inr (sqT_frame h hp f)
theorem TL.same {H H' : Hp} {a : Addr} {xs : List V} (h : TL H a xs) (s : Same H H') : TL H' a xs := h.elim (fun h => .inl (s _ _ h)) (fun ⟨o, h⟩ => .inr ⟨o, s _ _ h⟩)
theorem tl_frame {H H' : Hp} {a p C dx : Addr} {fs : List (Str × V)} {xs : List V} (h : TL H a xs) (hp : H p = some (.ins C dx fs)) (f : ∀ c x, H c = some x → c ≠ p → H' c = some x) : TL H' a xs := rd_frame h hp (by intro z; cases z) (by intro _ z; cases z) f
section
variable {P : Program} {w : World} {K : PySem.W.Frag} {mg : Str → Option Value} {base : Heap}
theorem ok_Tolls {f C : Addr} {fd : FuncData} {dvs : List V} {kws : List (Str × V)} (F : FunD K "__init__" "Tolls.__init__" (defArgs s_Tolls_init) (defBody s_Tolls_init) (defScope s_Tolls_init) dvs kws f fd) (T : TxtT K C) (m_tuple : mg "tuple" = none)
    (d_check_names : DefD P w K mg base "check_names" 2 ["names", "most", "hook"] (spCheckH K) []) (d_check_entries : Def P w K mg base "_check_entries" 2 ["names", "entries"] (spCheckE K)) (d_least_tolls : Def P w K mg base "_least_tolls" 1 ["entries"] (spLeastT K)) :
    FnOk P w K mg base CX0 3 f fd ["self", "names", "entries"] (spInitT K C) := by
  refine F.ok (CX := CX0) sc_Tolls_init (fun vs H Q E h => ?_) (fun cdv A outer s H vs Q E hr h => ?_)
  · obtain ⟨p, a, b, dx, zs, es, ts, rfl, _⟩ := h
    rfl
  · obtain ⟨p, a, b, dx, zs, es, ts, rfl, hp, hA, hB, hT, nok, eok, l4, q⟩ := h
    have l6 := nok.l6
    refine ⟨_, PSs.nox (pss_cons (ps_expr (pe_callDD d_check_names (hr.mono (by decide)) (by rfl) (pa_cons (pv 1) (pa_cons pe_int (pa_cons pe_bl pa_nil)))))
  (pss_cons (ps_expr (pe_callD d_check_entries (hr.mono (by decide)) (by rfl) (pa_cons (pv 1) (pa_cons (pv 2) pa_nil))))
  (pss_cons (ps_fld (pv 0) (pe_callTy call_tuple_of (by rfl) m_tuple (by decide +kernel) (pa_cons (pv 1) pa_nil)) rfl)
  (pss_one (ps_fld (pv 0) (pe_callD d_least_tolls (hr.mono (by decide)) (by rfl) (pa_cons (pv 2) pa_nil)) rfl))))), ?_⟩
    have hS : SqS K H a (zs.map vN) := hA.elim .inl fun h => .inr h.sq
    refine ⟨_, rfl, a, 6, zs, rfl, hS, nok.l1, by omega, l6, nok.nm, nok.nd, fun H1 s1 => ?_⟩
    refine ⟨_, rfl, _, rfl, a, b, zs, es, ts, rfl, hS.same s1, hB.same s1, hT.same s1, eok, fun H2 s2 => ?_⟩
    have s12 := s1.trans s2
    refine ⟨_, rfl, a, zs.map vN, rfl, ?_⟩
    rcases hA with hL | hU
    · refine .inl ⟨s12.seq hL, fun l nl => ?_⟩
      have s3 := s12.trans (same_upd (o := .tup (zs.map vN)) nl)
      have hl3 : TL (upd H2 l (.tup (zs.map vN))) l (zs.map vN) := .inl upd_same
      have hp3 := s3 _ _ hp
      refine ⟨_, rfl, p, C, dx, [], rfl, hp3, T.cl, T.nN, by decide, ?_⟩
      generalize eH3 : (upd H2 l (.tup (zs.map vN)) : Hp) = H3 at s3 hp3 hl3 ⊢
      clear eH3
      have f4 : ∀ (fs : List (Str × V)) c x, H3 c = some x → c ≠ p → (upd H3 p (.ins C dx fs)) c = some x := fun fs c x e n => by rw [upd_ne n]; exact e
      have hB4 := sqS_frame (hB.same s3) hp3 (f4 (putF "names" (.ref l) []))
      have hT4 : TiesAt (upd H3 p (.ins C dx (putF "names" (.ref l) []))) es ts := ⟨hT.1, fun i e he => by
        obtain ⟨t, h1, h2⟩ := hT.2 i e he
        exact ⟨t, h1, f4 _ _ _ (s3 _ _ h2) (ne_of (s3 _ _ h2) hp3 (by intro z; cases z))⟩⟩
      refine ⟨_, rfl, b, es, ts, rfl, hB4, hT4, l4, fun H5 d kvs nd5 s5 ed kv kl => ?_⟩
      have hp5 := s5 _ _ upd_same
      have dp : d ≠ p := (ne_of_none upd_same nd5).symm
      refine ⟨_, rfl, p, C, dx, _, rfl, hp5, T.cl, T.nP, Nat.lt_of_le_of_lt (putF_len _ _ _) (by decide), ?_⟩
      have f6 : ∀ c x, H3 c = some x → c ≠ p → (upd H5 p (.ins C dx (putF "_prices" (.ref d) (putF "names" (.ref l) [])))) c = some x := fun c x e n => by rw [upd_ne n]; exact s5 _ _ (f4 _ c x e n)
      exact q _ ⟨dx, l, d, kvs, upd_same, tl_frame hl3 hp3 f6, by rw [upd_ne dp]; exact ed, kv, kl⟩ fun c x e n => f6 c x (s3 _ _ e) n
    · refine .inr ⟨(hU.same s12).sq, ?_⟩
      have s3 := s12
      have hl3 := hU.same s12
      have hp3 := s3 _ _ hp
      refine ⟨_, rfl, p, C, dx, [], rfl, hp3, T.cl, T.nN, by decide, ?_⟩
      generalize eH3 : (H2 : Hp) = H3 at s3 hp3 hl3 ⊢
      clear eH3
      have f4 : ∀ (fs : List (Str × V)) c x, H3 c = some x → c ≠ p → (upd H3 p (.ins C dx fs)) c = some x := fun fs c x e n => by rw [upd_ne n]; exact e
      have hB4 := sqS_frame (hB.same s3) hp3 (f4 (putF "names" (.ref a) []))
      have hT4 : TiesAt (upd H3 p (.ins C dx (putF "names" (.ref a) []))) es ts := ⟨hT.1, fun i e he => by
        obtain ⟨t, h1, h2⟩ := hT.2 i e he
        exact ⟨t, h1, f4 _ _ _ (s3 _ _ h2) (ne_of (s3 _ _ h2) hp3 (by intro z; cases z))⟩⟩
      refine ⟨_, rfl, b, es, ts, rfl, hB4, hT4, l4, fun H5 d kvs nd5 s5 ed kv kl => ?_⟩
      have hp5 := s5 _ _ upd_same
      have dp : d ≠ p := (ne_of_none upd_same nd5).symm
      refine ⟨_, rfl, p, C, dx, _, rfl, hp5, T.cl, T.nP, Nat.lt_of_le_of_lt (putF_len _ _ _) (by decide), ?_⟩
      have f6 : ∀ c x, H3 c = some x → c ≠ p → (upd H5 p (.ins C dx (putF "_prices" (.ref d) (putF "names" (.ref a) [])))) c = some x := fun c x e n => by rw [upd_ne n]; exact s5 _ _ (f4 _ c x e n)
      exact q _ ⟨dx, a, d, kvs, upd_same, tl_frame hl3 hp3 f6, by rw [upd_ne dp]; exact ed, kv, kl⟩ fun c x e n => f6 c x (s3 _ _ e) n
/-! entries -/
def cellE (ts : List Tie) (x y : Nam) : Option Tie := (leastE ts x y).map fun v => (x, y, v)
def listE (zs : List Nam) (ts : List Tie) : List Tie := zs.flatMap fun x => zs.filterMap (cellE ts x)
def spEntries (K : PySem.W.Frag) (C : Addr) : Sp := fun vs H Q _ => ∃ (p : Addr) (zs : List Nam) (ts : List Tie), vs = [.ref p] ∧ TkAt K C H p zs ts ∧ zs.length ≤ 6 ∧
  ∀ H' q es, H q = none → Same H H' → H' q = some (.lst (es.map V.ref)) → TiesAt H' es (listE zs ts) → es.length ≤ 36 → Q (.ref q) H'
theorem fm_snoc {α β : Type} {f : α → Option β} {xs : List α} {i : Nat} {x : α} (h : xs[i]? = some x) : (xs.take (i + 1)).filterMap f = (xs.take i).filterMap f ++ (f x).toList := by
  rw [List.take_add_one, h, List.filterMap_append]
  cases e : f x <;> simp [e]
theorem ok_Tolls_entries {f C : Addr} {fd : FuncData} (F : Fun K "entries" "Tolls.entries" s_Tolls_entries f fd) (T : TxtT K C) : FnOk P w K mg base CX0 1 f fd ["self"] (spEntries K C) := by
  refine F.ok sc_Tolls_entries (fun vs H Q E h => ?_) (fun cdv A outer s H vs Q E hr h => ?_)
  · obtain ⟨p, zs, ts, rfl, _⟩ := h
    rfl
  · obtain ⟨p, zs, ts, rfl, tk, l6, q⟩ := h
    obtain ⟨dx, a, d, kvs, hp, ha, hd, kv, kl⟩ := id tk
    have zl : (zs.map vN).length = zs.length := List.length_map ..
    refine ⟨_, (pss_one (ps_ret (pe_lc2 (own := [("giver", 1), ("taker", 2)]) (vs1 := [2]) (by rfl) sc_Tolls_entries.nd (pi_tup (pe_fld (pv 0) rfl)) (blkOk_by (N := ["self", "giver", "taker"]) (sc := defScope s_Tolls_entries) (by decide +kernel)) (by decide) (fun _ _ _ _ _ => (pg_name (i := 1) sc_Tolls_entries.nd rfl (.inl rfl))) (fun _ _ _ _ _ => pts_nil) (fun _ _ _ _ _ => (pi_tupK (K := K) rfl (pe_fldK (K := K) rfl (pv 0) rfl))) (fun _ _ _ _ _ => (pg_name (i := 2) sc_Tolls_entries.nd rfl (.inl rfl))) (fun _ _ _ _ _ => (pts_one (pt_cmp (pc_din (hu_of hr) (pe_tup (pa_cons (pv 1) (pa_cons (pv 2) pa_nil))) (pe_fldK (K := K) rfl (pv 0) rfl))))) (fun _ _ _ _ _ => (pe_tup (pa_cons (pv 1) (pa_cons (pv 2) (pa_cons (pe_dget (hu_of hr) (pe_fldK (K := K) rfl (pv 0) rfl) (pe_tup (pa_cons (pv 1) (pa_cons (pv 2) pa_nil))) (fun _ _ => rfl)) pa_nil)))))))), ?_⟩
    refine ⟨_, rfl, p, C, dx, _, _, rfl, hp, T.cl, T.nN, fldsT_names _ _, a, rfl, ⟨_, ha.sq⟩, fun D nD => ?_⟩
    refine walk_go (walk_tup (K := K) (a := a) (xs := zs.map vN)) (fun i H' => ∃ es : List Addr, Same H H' ∧ H' D = some (.lst (es.map V.ref)) ∧ TiesAt H' es ((zs.take i).flatMap fun x => zs.filterMap (cellE ts x)) ∧ es.length ≤ 6 * i) ⟨[], same_upd nD, upd_same, ⟨rfl, fun _ _ h => nomatch h⟩, Nat.le_refl _⟩ (fun i H' _ hq => same_tup hq.choose_spec.1 ha.sq) (fun i x H1 H2 hi hq hy => ?_) (fun H' hq => ?_)
    · obtain ⟨es, s1, eD, hT, l1⟩ := hq
      obtain ⟨rfl, hx⟩ := hy
      obtain ⟨z, ez, rfl⟩ := vN_at hx
      have hi6 : i < 6 := by have := (List.getElem?_eq_some_iff.mp ez).1; omega
      refine ⟨rfl, yesT ⟨_, rfl, p, C, dx, _, _, rfl, s1 _ _ hp, T.cl, T.nN, fldsT_names _ _, a, rfl, ⟨_, same_tup s1 ha.sq⟩, ?_⟩⟩
      refine walk_go (walk_tup (K := K) (a := a) (xs := zs.map vN)) (fun j H' => ∃ es : List Addr, Same H H' ∧ H' D = some (.lst (es.map V.ref)) ∧ TiesAt H' es (((zs.take i).flatMap fun x => zs.filterMap (cellE ts x)) ++ (zs.take j).filterMap (cellE ts z)) ∧ es.length ≤ 6 * i + j) ⟨es, s1, eD, by rw [List.take_zero, List.filterMap_nil, List.append_nil]; exact hT, by omega⟩ (fun j H' _ hq => same_tup hq.choose_spec.1 ha.sq) (fun j x H3 H4 hj hq hy => ?_) (fun H' hq => ?_)
      · obtain ⟨es, s3, eD3, hT3, l3⟩ := hq
        obtain ⟨rfl, hx2⟩ := hy
        obtain ⟨y, ey, rfl⟩ := vN_at hx2
        have hj6 : j < 6 := by have := (List.getElem?_eq_some_iff.mp ey).1; omega
        refine ⟨rfl, _, rfl, _, rfl, (show (2 : Nat) ≤ sizeLine by decide), fun k nk => ?_⟩
        have sk := same_upd (o := .tup [vN z, vN y]) nk
        have s4 := s3.trans sk
        refine ⟨_, rfl, p, C, dx, _, _, rfl, s4 _ _ hp, T.cl, T.nP, fldsT_prices _ _, d, _, rfl, kv.at_ z y ▸ DGet.t (k := keyE z y) (s4 _ _ hd) upd_same, _, rfl, ?_⟩
        rw [fm_snoc ey]
        cases e : leastE ts z y with
        | none =>
          refine iteF ⟨es, s4, sk _ _ eD3, ?_, by omega⟩
          rw [show cellE ts z y = none by unfold cellE; rw [e]; rfl]
          show TiesAt _ es (_ ++ (_ ++ []))
          rw [List.append_nil]
          exact hT3.same sk
        | some v =>
          refine iteT ?_
          refine ⟨_, rfl, _, rfl, _, rfl, p, C, dx, _, _, rfl, s4 _ _ hp, T.cl, T.nP, fldsT_prices _ _, _, rfl, _, rfl, (show (2 : Nat) ≤ sizeLine by decide), fun k2 nk2 => ?_⟩
          have sk2 := same_upd (o := .tup [vN z, vN y]) nk2
          have g2 : DGet (upd (upd H4 k (.tup [vN z, vN y])) k2 (.tup [vN z, vN y])) d (.ref k2) (some (V.int v)) := by
            have := DGet.t (k := keyE z y) (sk2 _ _ (s4 _ _ hd)) upd_same
            rw [kv.at_, e] at this
            exact this
          refine ⟨d, _, rfl, g2, (show (3 : Nat) ≤ sizeLine by decide), fun t nt => ?_⟩
          have st := same_upd (o := .tup [vN z, vN y, .int v]) nt
          have s5 := (s4.trans sk2).trans st
          have skt := (sk.trans sk2).trans st
          have eD5 := skt _ _ eD3
          refine ⟨_, eD5, by rw [List.length_map]; exact small1000 (by omega), es ++ [t], same_at s5 nD, by rw [List.map_append]; exact upd_same, ?_, by rw [List.length_append]; simp only [List.length_singleton]; omega⟩
          rw [show cellE ts z y = some (z, y, v) by unfold cellE; rw [e]; rfl, ← List.append_assoc]
          have tD : t ≠ D := (ne_of_none ((sk.trans sk2) _ _ eD3) nt).symm
          refine TiesAt.snoc (H := upd (upd (upd (upd H4 k (.tup [vN z, vN y])) k2 (.tup [vN z, vN y])) t (.tup [vN z, vN y, .int v])) D (.lst (es.map V.ref ++ [.ref t]))) ⟨hT3.1, fun m e he => ?_⟩ (Same.refl _) ?_
          · obtain ⟨t', h1, h2⟩ := hT3.2 m e he
            have h3 := skt _ _ h2
            exact ⟨t', h1, by show _ = _; rw [upd_ne (ne_of h3 eD5 (by intro z; cases z))]; exact h3⟩
          · show _ = _
            rw [upd_ne tD]; exact upd_same
      · obtain ⟨es, s3, eD3, hT3, l3⟩ := hq
        rw [zl, List.take_length] at hT3
        rw [zl] at l3
        refine ⟨es, s3, eD3, ?_, by omega⟩
        rw [List.take_add_one, ez, List.flatMap_append]
        show TiesAt H' es (_ ++ List.flatMap _ [z])
        rw [List.flatMap_singleton]
        exact hT3
    · obtain ⟨es, s1, eD, hT, l1⟩ := hq
      rw [zl, List.take_length] at hT
      exact q _ D es nD s1 eD hT (by rw [zl] at l1; omega)
end
end TK

namespace TK
open PySem PySem.Spec PyProof.Rows L2
theorem nd_len {p zs : List Nam} (h : p.Nodup) (s : ∀ w ∈ p, w ∈ zs) : p.length ≤ zs.length := by
  induction p generalizing zs with
  | nil => exact Nat.zero_le _
  | cons a p ih =>
    have ha := s a List.mem_cons_self
    obtain ⟨n1, n2⟩ := List.nodup_cons.mp h
    have := ih (zs := zs.erase a) n2 fun w hw => (List.mem_erase_of_ne (fun e => n1 (by rw [← e]; exact hw))).mpr (s w (List.mem_cons_of_mem _ hw))
    rw [List.length_erase_of_mem ha] at this
    have hp : 0 < zs.length := List.length_pos_of_mem ha
    simp only [List.length_cons]
    omega
theorem none_of {H H' : Hp} {p : Addr} (s : Same H H') (n : H' p = none) : H p = none := by
  cases e : H p with
  | none => rfl
  | some o => rw [s _ _ e] at n; cases n
theorem letters_nd : ((List.range 26).map fun j => [97 + j]).Nodup := nodup_range fun k j _ _ e => by
  have := List.cons.inj e
  omega
section
variable {P : Program} {w : World} {K : PySem.W.Frag} {mg : Str → Option Value} {base : Heap}
/-! _law_strange -/
def spStrange (K : PySem.W.Frag) : Sp := fun vs H Q _ => ∃ (a : Addr) (zs : List Nam), vs = [.ref a] ∧ SqL K H a (zs.map vN) ∧ zs.length ≤ 25 ∧ ∀ n : Nat, n < 26 → [97 + n] ∉ zs → Q (vN [97 + n]) H
theorem ok_L_strange {f : Addr} {fd : FuncData} (F : Fun K "_law_strange" "_law_strange" s_L_strange f fd) : FnOk P w K mg base CX0 1 f fd ["_law_words_here"] (spStrange K) := by
  refine F.ok sc_L_strange (fun vs H Q E h => ?_) (fun cdv A outer s H vs Q E hr h => ?_)
  · obtain ⟨a, zs, rfl, _⟩ := h
    rfl
  · obtain ⟨a, zs, rfl, hS, l25, q⟩ := h
    refine ⟨_, (pss_cons (ps_for PassesOwn.never rfl (pi_str pe_str) (pg_name (i := 1) sc_L_strange.nd rfl (.inl rfl))
    (pss_one (ps_if (pt_cmpR op_notIn_seq (pv 1) (pv 0) (by rfl)) (pss_one (ps_ret (pv 1))) pss_nil)))
  (pss_one (ps_ret pe_str))), ?_⟩
    refine ⟨_, rfl, for_it (walk_str (z := lettersZ)) (fun i σ H' => H' = H ∧ (∃ y, σ = [some (.ref a), y]) ∧ ∀ j, j < i → [97 + j] ∈ zs) ⟨rfl, ⟨_, rfl⟩, fun _ h => nomatch h⟩ (fun _ _ _ _ _ => True.intro) ?_ ?_⟩
    · rintro i x σ H1 H2 hi ⟨rfl, ⟨y, rfl⟩, hj⟩ ⟨rfl, c, hc, rfl⟩
      have hi26 : i < 26 := by have := letters_len; have e : lettersZ.cps.size = 26 := this; omega
      have hc' : c = 97 + i := by
        have e : lettersZ.cps.toList[i]? = some c := by rw [Array.getElem?_toList]; exact hc
        rw [letters_codes, List.getElem?_map, List.getElem?_range hi26] at e
        exact (Option.some.inj e).symm
      subst hc'
      have e : (if true = true then !inV (V.str ⟨#[97 + i]⟩) (zs.map vN) else inV (V.str ⟨#[97 + i]⟩) (zs.map vN)) = !decide ([97 + i] ∈ zs) := notin_nm (z := [97 + i])
      refine ⟨_, rfl, _, rfl, a, _, rfl, .inl hS, rfl, nms_flat _, _, rfl, ?_⟩
      rw [e]
      by_cases h : [97 + i] ∈ zs
      · rw [decide_eq_true h]
        refine iteF ⟨rfl, ⟨_, rfl⟩, fun j hj' => ?_⟩
        rcases Nat.lt_succ_iff_lt_or_eq.mp hj' with q1 | rfl
        · exact hj j q1
        · exact h
      · rw [decide_eq_false h]
        exact iteT ⟨_, rfl, q i hi26 h⟩
    · rintro σ H1 ⟨rfl, ⟨y, rfl⟩, hj⟩
      have e26 : lettersZ.cps.size = 26 := letters_len
      have := nd_len letters_nd (zs := zs) (fun w hw => by
        obtain ⟨j, hj1, rfl⟩ := List.mem_map.mp hw
        exact hj j (by rw [e26]; exact List.mem_range.mp hj1))
      rw [List.length_map, List.length_range] at this
      omega
/-! _law_words -/
def spWords : Sp := fun vs H Q _ => ∃ (c n : Int), vs = [.int c, .int n] ∧ 1 ≤ n ∧ n ≤ 6 ∧
  ∀ (H' : Hp) (p : Addr) (zs : List Nam), H p = none → Same H H' → H' p = some (.lst (zs.map vN)) → (zs.length : Int) = n → (∀ z ∈ zs, Nm z) → zs.Nodup → Q (.ref p) H'
theorem ok_L_words {f : Addr} {fd : FuncData} (F : Fun K "_law_words" "_law_words" s_L_words f fd) (m_range : mg "range" = none) (m_abs : mg "abs" = none)
    (d_L_names : Def P w K mg base "_law_names" 2 ["_law_pool_here", "_law_spot", "_law_number"] (spNames K)) (d_L_pool : Def P w K mg base "_law_pool" 2 ["_law_cell_here", "_law_number"] spPool)
    (d_L_strange : Def P w K mg base "_law_strange" 1 ["_law_words_here"] (spStrange K)) : FnOk P w K mg base CX0 3 f fd ["_law_cell_here", "_law_number"] spWords := by
  refine F.ok sc_L_words (fun vs H Q E h => ?_) (fun cdv A outer s H vs Q E hr h => ?_)
  · obtain ⟨c, n, rfl, _⟩ := h
    rfl
  · obtain ⟨c, n, rfl, h1, h6, q⟩ := h
    have ha : 0 ≤ (if c < 0 then -c else c) := by split <;> omega
    refine ⟨_, (pss_cons (ps_set (i := 2) sc_L_words.nd rfl (.inl rfl) pe_str)
  (pss_cons (ps_set (i := 3) sc_L_words.nd rfl (.inl rfl) (pe_callB call_abs (by rfl) m_abs (by decide +kernel) (pa_cons (pv 0) pa_nil)))
  (pss_cons (ps_if (pt_cmpR op_lt (pv 3) (pe_op op_pow pe_int pe_int) (nomark _)) (pss_one (ps_ret (pe_callD d_L_names (hr.mono (by decide)) (by rfl) (pa_cons (pe_callD d_L_pool (hr.mono (by decide)) (by rfl) (pa_cons (pv 0) (pa_cons pe_int pa_nil))) (pa_cons pe_int (pa_cons (pv 1) pa_nil)))))) pss_nil)
  (pss_cons (ps_set (i := 4) sc_L_words.nd rfl (.inl rfl) (pe_lst pa_nil))
  (pss_cons (ps_for PassesOwn.never rfl (pi_range1 (by rfl) m_range (pa_cons (pv 1) pa_nil)) (pg_name (i := 5) sc_L_words.nd rfl (.inl rfl))
    (pss_cons (ps_set (i := 6) sc_L_words.nd rfl (.inl rfl) (pe_op op_add pe_int (pe_op op_mod (pv 3) pe_int)))
  (pss_cons (ps_set (i := 3) sc_L_words.nd rfl (.inl rfl) (pe_op op_fdiv (pv 3) pe_int))
  (pss_cons (ps_set (i := 7) sc_L_words.nd rfl (.inl rfl) pe_str)
  (pss_cons (ps_for PassesOwn.never rfl (pi_range1 (by rfl) m_range (pa_cons (pv 6) pa_nil)) (pg_name (i := 8) sc_L_words.nd rfl (.inl rfl))
    (pss_cons (ps_set (i := 7) sc_L_words.nd rfl (.inl rfl) (pe_op op_add_str (pv 7) (pe_ix ix_str (pv 2) (pe_op op_mod (pv 3) pe_int) (fun _ _ => rfl))))
  (pss_one (ps_set (i := 3) sc_L_words.nd rfl (.inl rfl) (pe_op op_fdiv (pv 3) pe_int)))))
  (pss_cons (ps_if (pt_cmpR op_in_seq (pv 7) (pv 4) (by rfl)) (pss_one (ps_set (i := 7) sc_L_words.nd rfl (.inl rfl) (pe_callD d_L_strange (hr.mono (by decide)) (by rfl) (pa_cons (pv 4) pa_nil)))) pss_nil)
  (pss_one (ps_expr (pe_bm PySem.F.plainAttrs_list PySem.F.slot_list_append PySem.F.type_list_append mt_append (pv 4) (pa_cons (pv 7) pa_nil))))))))))
  (pss_one (ps_ret (pv 4)))))))), ?_⟩
    refine ⟨_, rfl, _, rfl, _, rfl, _, _, rfl, rfl, ⟨by decide, by decide, by decide⟩, _, _, rfl, rfl, _, rfl, ite2 (fun e => ?_) (fun e => ?_)⟩
    · refine ⟨_, rfl, c, 5, rfl, by decide, by decide, fun p ns np hl hx => ?_⟩
      refine ⟨_, rfl, p, ns, 0, n, rfl, lstAt upd_same, by decide, by omega, by omega, h6, fun p2 zs np2 hl2 nm nd => ?_⟩
      exact q _ p2 zs (none_of (same_upd np) np2) ((same_upd np).trans (same_upd np2)) upd_same hl2 nm nd
    refine ⟨Nat.zero_le _, fun p np => ?_⟩
    refine ⟨_, rfl, _, rfl, by omega, by omega, for_range (fun i σ H' => ∃ (r : Int) (zs : List Nam) (y1 y2 y3 y4 : Option V), σ = [some (.int c), some (.int n), some (.str lettersZ), some (.int r), some (.ref p), y1, y2, y3, y4] ∧ 0 ≤ r ∧ zs.length = i ∧ (∀ z ∈ zs, Nm z) ∧ zs.Nodup ∧ H' = upd H p (.lst (zs.map vN))) ⟨_, [], _, _, _, _, rfl, ha, rfl, (fun x hx => nomatch hx), List.nodup_nil, rfl⟩ ?_ ?_⟩
    · rintro i σ H' hi ⟨r, zs, y1, y2, y3, y4, rfl, r0, hl, nm, nd, rfl⟩
      have m0 : 0 ≤ r % 8 := Int.emod_nonneg _ (by decide)
      have m8 : r % 8 < 8 := Int.emod_lt_of_pos _ (by decide)
      have d0 : 0 ≤ r / 8 := Int.ediv_nonneg r0 (by decide)
      refine ⟨_, rfl, _, _, rfl, rfl, pz, _, _, rfl, rfl, ?_⟩
      refine ⟨_, rfl, _, _, rfl, rfl, ⟨by decide, by decide⟩, ?_⟩
      refine ⟨_, rfl, _, rfl, by omega, by omega, for_range (fun j σ H' => ∃ (r' : Int) (st : List Nat) (y4 : Option V), σ = [some (.int c), some (.int n), some (.str lettersZ), some (.int r'), some (.ref p), some (.int (0 + (i : Int))), some (.int (1 + r % 8)), some (vN st), y4] ∧ 0 ≤ r' ∧ st.length = j ∧ Let st ∧ H' = upd H p (.lst (zs.map vN))) ⟨_, [], _, rfl, d0, rfl, (fun x hx => nomatch hx), rfl⟩ ?_ ?_⟩
      · rintro j σ H' hj ⟨r', st, y4, rfl, r0', hl', le, rfl⟩
        have b1 : 0 ≤ r' % 26 := Int.emod_nonneg _ (by decide)
        have b2 : r' % 26 < 26 := Int.emod_lt_of_pos _ (by decide)
        refine ⟨_, rfl, _, rfl, _, rfl, _, _, rfl, rfl, pz, _, _, _, rfl, rfl, by rw [letters_len]; decide, letter_at b1 b2, _, _, rfl, rfl, ?_, ?_⟩
        · rw [sOf_len, sOf_one, sOf_len]; exact Nat.le_of_lt (small1000 (by simp only [List.length_cons, List.length_nil]; omega))
        refine ⟨_, rfl, _, _, rfl, rfl, ⟨by decide, by decide⟩, ?_⟩
        refine ⟨r' / 26, st ++ [97 + (r' % 26).toNat], some (.int (0 + (j : Int))), ?_, Int.ediv_nonneg r0' (show (0 : Int) ≤ 26 by decide), by rw [List.length_append, hl']; rfl, le.app (.one (by omega)), rfl⟩
        rw [sOf_one, sOf_app]
        rfl
      · rintro σ H' ⟨r', st, y4, rfl, r0', hl', le, rfl⟩
        have hst : Nm st := ⟨by omega, by omega, le⟩
        have hz : (zs.map vN).length < sizeLine := by rw [List.length_map]; exact small1000 (by omega)
        refine ⟨_, rfl, _, rfl, p, _, rfl, .inl (lstAt upd_same), rfl, nms_flat _, _, rfl, ?_⟩
        rw [in_nm]
        by_cases h : st ∈ zs
        · rw [decide_eq_true h]
          refine iteT ⟨_, rfl, p, zs, rfl, lstAt upd_same, by omega, fun k hk hn => ?_⟩
          refine ⟨_, rfl, .inl ⟨rfl, _, lstAt upd_same⟩, _, rfl, _, _, _, rfl, rfl, upd_same, hz, r', zs ++ [[97 + k]], _, _, _, _, rfl, r0', by rw [List.length_append, hl]; rfl, ?_, ?_, ?_⟩
          · intro z hz'
            rcases List.mem_append.mp hz' with m | m
            · exact nm z m
            · rw [List.mem_singleton.mp m]; exact ⟨Nat.le_refl 1, (show 1 ≤ 8 by decide), .one hk⟩
          · exact List.nodup_append.mpr ⟨nd, by simp, fun a ha b hb => by rw [List.mem_singleton.mp hb]; exact fun e => hn (e ▸ ha)⟩
          · rw [upd_twice, List.map_append]; rfl
        · rw [decide_eq_false h]
          refine iteF ?_
          refine ⟨_, rfl, .inl ⟨rfl, _, lstAt upd_same⟩, _, rfl, _, _, _, rfl, rfl, upd_same, hz, r', zs ++ [st], _, _, _, _, rfl, r0', by rw [List.length_append, hl]; rfl, ?_, ?_, ?_⟩
          · intro z hz'
            rcases List.mem_append.mp hz' with m | m
            · exact nm z m
            · rw [List.mem_singleton.mp m]; exact hst
          · exact List.nodup_append.mpr ⟨nd, by simp, fun a ha b hb => by rw [List.mem_singleton.mp hb]; exact fun e => h (e ▸ ha)⟩
          · rw [upd_twice, List.map_append]; rfl
    · rintro σ H' ⟨r, zs, y1, y2, y3, y4, rfl, r0, hl, nm, nd, rfl⟩
      exact ⟨_, rfl, q _ p zs np (same_upd np) upd_same (by omega) nm nd⟩
end
end TK

namespace TK
open PySem PySem.Spec PyProof.Rows L2
/-- o.m(k = v, ..) of an instance of the class at C -/
def tMethK (C : Addr) (m : Str) (n : Nat) (sp : Sp) (gV : List V → List V → List V) (E : XK) (ta : TE) (tk : TA) : TE := fun σ H Q => ta σ H fun x H1 => ∃ a dx fs, x = .ref a ∧ H1 a = some (.ins C dx fs) ∧ fs.lookup m = none ∧
  tk σ H1 fun zs H2 => zs.length = n ∧ sp (gV [x] zs) H2 Q E
section
variable {X : Cx} {CX : CXT} {k : Nat} {f C : Addr} {fd : FuncData} {ps ks : List Str} {sp : Sp} {E : XK} {m : Str} {pos apos : Pos} {o : Expr} {kws : List Keyword} {ta : TE} {tk : TA} {g : List Value → List Value → List Value} {gV : List V → List V → List V}
theorem run_kb {pins : List (Addr × Obj)} {σ : L2.St} {H : Hp} {s : Shared} {Q : VK} {n : Nat} {us ws : List Value} {vs zs : List V} (F : FnOk X.prog X.w X.K X.mg X.base CX k f fd ps sp) (hr : Room k X.A) (hb : KBn X.K fd ps n ks g gV) (hx : Passes CX X E)
    (I : Inv X pins σ H s) (r : Vals vs us) (rz : Vals zs ws) (l1 : us.length = n) (l2 : ws.length = ks.length) (h : sp (gV vs zs) H Q E) : wpAny (model X.prog X.w) X.A (call (.ref f) us (ks.zip ws)) (EP X pins σ Q) X.xe s := by
  refine wpAny_call (codeAny_mono (F.run X.A X.stack s H ⟨us, ks.zip ws⟩ (g us ws) (gV vs zs) Q E hr I.env0 (hb.to s us ws I.kIn l1 l2) (hb.rel r rz) h) fun r s' hq => ?_)
  cases r with
  | error e => exact hx pins σ H s e s' I hq
  | ok fl =>
    cases fl with
    | ret u => exact I.after hq
    | next => exact False.elim hq
    | brk => exact False.elim hq
    | cont => exact False.elim hq
theorem pe_methK0 {pl : Sem Bool} (he : PE X o ta) (c : Cls X.K C) (hm : Meth X.K C m f) (F : FnOk X.prog X.w X.K X.mg X.base CX k f fd ps sp) (hr : Room k X.A) (hb : KBn X.K fd ps 1 ks g gV) (hx : Passes CX X E) (hkw : PK X kws tk)
    (hall : (backToKw pos (keywordEach kws X.env)).all (·.1.isSome) = true := by rfl) (hks : (backToKw pos (keywordEach kws X.env)).filterMap (·.1) = ks := by rfl)
    (hpl : ((backTo pos (starEach [] X.env)).any (·.1) || (backToKw pos (keywordEach kws X.env)).any (·.1.isNone)) = false := by rfl)
    (ht : eval (.Call (.Attribute o m apos) [] kws pos) X.env = (do
      let ov ← eval o X.env
      standAt apos.atName
      let (f, first) ← holding [ov] (getMethod ov m pl)
      callWith pos f first (backTo pos (starEach [] X.env)) (backToKw pos (keywordEach kws X.env))) := by rfl) :
    PE X (.Call (.Attribute o m apos) [] kws pos) (tMethK C m ks.length sp gV E ta tk) := by
  refine ⟨fun pins s σ H Q I h => ?_⟩
  refine PySem.W.methodCall_KW (pl := pl) (thn (he.run pins s σ H _ I h) fun u s1 ⟨x, H1, I1, rx, a, dx, fs, ex, ea, l, q⟩ => ?_) ht
  subst ex
  obtain rfl : u = Value.ref a := rx
  refine getmeth_ok I1 ea c hm l ?_
  refine PySem.W.callWith_KW0 (first := [.ref a]) (h₀ := X.base) I.ok.mod.kin hm.kp hall ?_ hpl
  refine thn (hkw.run pos pins s1 σ H1 _ I1 q) fun ws s2 ⟨zs, H2, I2, rz, l1, q2⟩ => ⟨I2.kIn, ?_⟩
  rw [hks]
  exact run_kb (us := [.ref a]) (vs := [.ref a]) F hr hb hx I2 (.cons rfl .nil) rz rfl (rz.length.symm.trans l1) q2
end
section
variable {X : Cx} {K : PySem.W.Frag}
theorem call_tuple_ofK (h : X.K = K) : CallR X (.type "tuple") (fun xs H Q => ∃ p ys, xs = [.ref p] ∧ ((SqL K H p ys ∧ ∀ l, H l = none → Q (.ref l) (upd H l (.tup ys))) ∨ (SqT K H p ys ∧ Q (.ref p) H))) := h ▸ call_tuple_of
theorem call_list_ofK (h : X.K = K) : CallR X (.type "list") (fun xs H Q => ∃ p ys, xs = [.ref p] ∧ (SqL K H p ys ∨ SqT K H p ys) ∧ ∀ l, H l = none → Q (.ref l) (upd H l (.lst ys))) := h ▸ call_list_of
end
/-- what is no instance of the class, nor of one below it -/
inductive Odd (K : PySem.W.Frag) (C : Addr) (H : Hp) : V → Prop where
  | non (h : PySem.W.notFirst K C (.type "NoneType") = true) : Odd K C H .non
  | str (z : Str) (h : PySem.W.notFirst K C (.type "str") = true) : Odd K C H (.str z)
  | tup {a : Addr} {xs : List V} (e : H a = some (.tup xs)) (h : PySem.W.notFirst K C (.type "tuple") = true) : Odd K C H (.ref a)
section
variable {X : Cx} {K : PySem.W.Frag} {CX : CXT} {C g : Addr} {n : Nat} {fd : FuncData} {ps : List Str} {sp : Sp} {E : XK} {pins : List (Addr × Obj)} {σ : L2.St} {H : Hp} {s : Shared}
/-- o == y: y of one's own class, or of another kind -/
def rOwnA (K : PySem.W.Frag) (C : Addr) (sp : Sp) (E : XK) : R2 := fun x y H Q => IsIn H x C ∧ (IsIn H y C ∨ Odd K C H y) ∧ sp [x, y] H Q E
theorem odd_looks {x : V} {u : Value} (I : Inv X pins σ H s) (rx : RelV x u) (o : Odd X.K C H x) : ∃ tb, PySem.W.Looks (model X.prog X.w) s.heap (typeOf u) tb ∧ PySem.W.notFirst X.K C tb = true := by
  cases o with
  | non h => cases (show u = Value.none from rx); exact ⟨_, .now, h⟩
  | str z h => obtain ⟨t, q⟩ := (show ∃ t, u = Value.str z t from rx); cases q; exact ⟨_, .now, h⟩
  | @tup a xs ea h =>
    cases (show u = Value.ref a from rx)
    obtain ⟨_, _, _, o, h1, h2, _⟩ := (show ObjOk X.prog X.w H s.heap a (.tup xs) from I.hok a _ ea)
    exact ⟨_, h2 ▸ (PySem.W.Looks.ld h1).andThen .now, h⟩
theorem op_ownEqA {op : CmpOp} (hK : X.K = K) (hop : ∀ a b, compareOp op a b = richCompare op a b) (c : Own X.K C (cmpInfo op).2.1 g) (F : FnOk X.prog X.w X.K X.mg X.base CX n g fd ps sp) (hr : Room n X.A) (hb : Binds X.K fd ps []) (hx : Passes CX X E) :
    OpR X (compareOp op) (rOwnA K C sp E) := by
  subst hK
  intro pins s σ H x y v u Q I rx ry h
  obtain ⟨⟨a, dx, fs, rfl, ha⟩, hy, q⟩ := h
  cases rx
  obtain ⟨ox, od, J⟩ := own_at I ha
  obtain ⟨m, hF⟩ := I.fr
  rw [hop]
  have key : ∃ tb, PySem.W.Looks (model X.prog X.w) s.heap (typeOf u) tb ∧ PySem.W.notFirst X.K C tb = true := by
    rcases hy with ⟨b, dy, gs, rfl, hb'⟩ | o
    · cases ry
      obtain ⟨ox', od', J'⟩ := own_at I hb'
      exact ⟨_, J'.type, by simp [PySem.W.notFirst]⟩
    · exact odd_looks I ry o
  obtain ⟨tb, L, nf⟩ := key
  refine PySem.W.cmp_K (op := op) (tb := tb) hr.units0 hF I.ok.mod.kin J L nf c.at_ c.fn (wpAny_mono (run_own F hr I.env0 hb hx I (vs := [.ref a, y]) (.cons rfl (.cons ry .nil)) q) (fun w s' z => ?_) fun _ _ x => x)
  obtain ⟨z', H', I', rz, qz⟩ := z
  exact SlX.cmpback rz ⟨z', H', I', rz, qz⟩
end
end TK

namespace TK
open PySem PySem.Spec PyProof.Rows L2
/-- what right links keep -/
structure LOk (zs : List Nam) (ts : List Tie) : Prop where
  nm : ∀ z ∈ zs, Nm z
  nd : zs.Nodup
  l1 : 1 ≤ zs.length
  l6 : zs.length ≤ 6
  t12 : ts.length ≤ 12
  a : ∀ t ∈ ts, t.1 ∈ zs
  b : ∀ t ∈ ts, t.2.1 ∈ zs
  ne : ∀ t ∈ ts, t.1 ≠ t.2.1
  h0 : ∀ t ∈ ts, 0 ≤ t.2.2
  h9 : ∀ t ∈ ts, t.2.2 ≤ 1000000000
/-! the object -/
def fldsL (a b : Addr) : List (Str × V) := putF "links" (.ref b) (putF "names" (.ref a) [])
theorem fldsL_names (a b : Addr) : (fldsL a b).lookup ("names" : Str) = some (.ref a) := by
  unfold fldsL
  rw [lookup_putF, if_neg (by decide +kernel), lookup_putF, if_pos rfl]
theorem fldsL_links (a b : Addr) : (fldsL a b).lookup ("links" : Str) = some (.ref b) := by
  unfold fldsL
  rw [lookup_putF, if_pos rfl]
structure TxtL (K : PySem.W.Frag) (C : Addr) : Prop where
  cl : Cls K C
  nN : NoAttr K C "names"
  nL : NoAttr K C "links"
def LkAt (C : Addr) (H : Hp) (p : Addr) (zs : List Nam) (ts : List Tie) : Prop := ∃ dx a b es, H p = some (.ins C dx (fldsL a b)) ∧ TL H a (zs.map vN) ∧ H b = some (.tup (es.map V.ref)) ∧ TiesAt H es ts
theorem LkAt.same {C : Addr} {H H' : Hp} {p : Addr} {zs : List Nam} {ts : List Tie} (h : LkAt C H p zs ts) (s : Same H H') : LkAt C H' p zs ts := by
  obtain ⟨dx, a, b, es, h1, h2, h5, h6⟩ := h
  exact ⟨dx, a, b, es, s _ _ h1, h2.same s, s _ _ h5, h6.same s⟩
theorem LOk.ns {zs : List Nam} {ts : List Tie} (h : LOk zs ts) : NsOk zs := ⟨fun z hz => .inl (h.nm z hz), h.nd, h.l1, h.l6⟩
theorem LOk.eo {zs : List Nam} {ts : List Tie} (h : LOk zs ts) : EOk zs ts := ⟨h.a, h.b, h.h0⟩
def spCheckN (K : PySem.W.Frag) : Sp := fun vs H Q _ => ∃ (a : Addr) (m : Int) (zs : List (List Nat)), vs = [.ref a, .int m, .bl false] ∧ SqS K H a (zs.map vN) ∧ 1 ≤ zs.length ∧ (zs.length : Int) ≤ m ∧ zs.length ≤ 6 ∧ (∀ z ∈ zs, Nm z) ∧ zs.Nodup ∧ ∀ H', Same H H' → Q .non H'
section
variable {P : Program} {w : World} {K : PySem.W.Frag} {mg : Str → Option Value} {base : Heap}
theorem ok_check_range {f : Addr} {fd : FuncData} (F : Fun K "check_range" "check_range" s_check_range f fd) : FnOk P w K mg base CX0 1 f fd ["number", "low", "high"] spRange := by
  refine F.ok sc_check_range (fun vs H Q E h => ?_) (fun cdv A outer s H vs Q E hr h => ?_)
  · obtain ⟨a, lo, hi, rfl, _⟩ := h
    rfl
  · obtain ⟨a, lo, hi, rfl, h1, h2, q⟩ := h
    refine ⟨_, (pss_one (ps_if (pt_not (pt_chain op_le op_le (pv 1) (pv 0) (pv 2))) (pss_one ps_never) pss_nil)), ?_⟩
    refine ⟨_, rfl, _, rfl, _, _, rfl, rfl, _, rfl, ?_⟩
    rw [decide_eq_true h1]
    refine iteT ⟨_, rfl, _, _, rfl, rfl, _, rfl, ?_⟩
    rw [decide_eq_true h2]
    exact iteF q
theorem ok_check_namesN {f : Addr} {fd : FuncData} {dvs : List V} {kws : List (Str × V)} (F : FunD K "check_names" "check_names" (defArgs s_check_names) (defBody s_check_names) (defScope s_check_names) dvs kws f fd) (m_len : mg "len" = none) (m_enumerate : mg "enumerate" = none)
    (d_check_size : Def P w K mg base "check_size" 1 ["size", "low", "high"] spRange) (d_is_name : Def P w K mg base "is_name" 1 ["word"] spIsNameH) : FnOk P w K mg base CX0 2 f fd ["names", "most", "hook"] (spCheckN K) := by
  refine F.ok (CX := CX0) sc_check_names (fun vs H Q E h => ?_) (fun cdv A outer s H vs Q E hr h => ?_)
  · obtain ⟨a, m, zs, rfl, _⟩ := h
    rfl
  · obtain ⟨a, m, zs, rfl, hS, l1, l2, l6, nm, nd, q⟩ := h
    have hp : ∀ (i : Nat) (x : V) (H2 : Hp), Same H H2 → (zs.map vN)[i]? = some x → ∃ z, zs[i]? = some z ∧ x = vN z ∧ Nm z := fun i x H2 _ hx => by
      obtain ⟨z, ez, rfl⟩ := vN_at hx
      exact ⟨z, ez, rfl, nm z (List.mem_of_getElem? ez)⟩
    rcases hS with hS | hS
    · refine ⟨_, PSs.nox (pss_cons (ps_expr (pe_callD d_check_size (hr.mono (by decide)) (by rfl) (pa_cons (pe_callB call_len_seq (by rfl) m_len (by decide +kernel) (pa_cons (pv 0) pa_nil)) (pa_cons pe_int (pa_cons (pv 1) pa_nil)))))
  (pss_one (ps_for PassesOwn.never rfl (pi_enum (by rfl) m_enumerate (pa_cons (pv 0) pa_nil)) (pg_tup (by rfl) (pgs_cons (pg_name (i := 3) sc_check_names.nd rfl (.inl rfl)) (pgs_cons (pg_name (i := 4) sc_check_names.nd rfl (.inl rfl)) pgs_nil)))
    (pss_cons (ps_if (PW.pt (pw_and (pt_not (pt_val (pe_callD d_is_name (hr.mono (by decide)) (by rfl) (pa_cons (pv 4) pa_nil)))) (pw_and1 (pt_not (PW.pt (pw_and (pt_val (pv 2)) (pw_and1 (pt_cmpR op_eq (pv 4) pe_str (nomark _))))))))) (pss_one ps_never) pss_nil)
  (pss_one (ps_if (pt_cmpR op_in_seq (pv 4) (pe_slice sl_list (pv 0) po_none (po_some (pv 3))) (by rfl)) (pss_one ps_never) pss_nil)))))), ?_⟩
      refine ⟨_, rfl, _, _, rfl, .inl hS, _, rfl, _, _, _, rfl, by rw [List.length_map]; omega, by rw [List.length_map]; omega, ?_⟩
      refine ⟨_, rfl, _, _, rfl, hS, for_it walk_enum (fun i σ H2 => Same H H2 ∧ ∃ y1 y2 : Option V, σ = [some (.ref a), some (.int m), some (.bl false), y1, y2]) ⟨Same.refl H, _, _, rfl⟩ (fun i σ H2 _ hp => hp.1.seq hS) ?_ ?_⟩
      · rintro i x σ H2 H3 hi ⟨sm, y1, y2, rfl⟩ ⟨T, v1, v2, rfl, nT, rfl, e1, e2⟩
        cases e1
        obtain ⟨z, ez, rfl, hz⟩ := hp i _ H2 sm e2
        have sm3 := sm.trans (same_upd (o := .tup [.int (i : Nat), vN z]) nT)
        refine ⟨_, _, rfl, tupAt upd_same, rfl, _, _, rfl, _, _, rfl, rfl, ?_⟩
        refine ⟨_, rfl, z, rfl, .inl hz, fun H4 s4 => ⟨_, rfl, ?_⟩⟩
        have sm4 := sm3.trans s4
        rw [nz_nm hz]
        refine iteF (iteF ?_)
        refine ⟨_, rfl, _, rfl, _, rfl, _, rfl, _, _, rfl, sm4.seq hS, fun p np => ?_⟩
        rw [cut_names]
        have sp := same_upd (o := .lst ((zs.take i).map vN)) np
        refine ⟨p, _, rfl, .inl (lstAt upd_same), rfl, nms_flat _, _, rfl, ?_⟩
        rw [in_nm, decide_eq_false (not_before nd ez)]
        exact iteF ⟨sm4.trans sp, _, _, rfl⟩
      · rintro σ H2 ⟨sm, y1, y2, rfl⟩
        exact q _ sm
    · refine ⟨_, PSs.nox (pss_cons (ps_expr (pe_callD d_check_size (hr.mono (by decide)) (by rfl) (pa_cons (pe_callB call_len_seq (by rfl) m_len (by decide +kernel) (pa_cons (pv 0) pa_nil)) (pa_cons pe_int (pa_cons (pv 1) pa_nil)))))
  (pss_one (ps_for PassesOwn.never rfl (pi_enumT (by rfl) m_enumerate (pa_cons (pv 0) pa_nil)) (pg_tup (by rfl) (pgs_cons (pg_name (i := 3) sc_check_names.nd rfl (.inl rfl)) (pgs_cons (pg_name (i := 4) sc_check_names.nd rfl (.inl rfl)) pgs_nil)))
    (pss_cons (ps_if (PW.pt (pw_and (pt_not (pt_val (pe_callD d_is_name (hr.mono (by decide)) (by rfl) (pa_cons (pv 4) pa_nil)))) (pw_and1 (pt_not (PW.pt (pw_and (pt_val (pv 2)) (pw_and1 (pt_cmpR op_eq (pv 4) pe_str (nomark _))))))))) (pss_one ps_never) pss_nil)
  (pss_one (ps_if (pt_cmpR op_in_seq (pv 4) (pe_slice sl_tup (pv 0) po_none (po_some (pv 3))) (by rfl)) (pss_one ps_never) pss_nil)))))), ?_⟩
      refine ⟨_, rfl, _, _, rfl, .inr hS, _, rfl, _, _, _, rfl, by rw [List.length_map]; omega, by rw [List.length_map]; omega, ?_⟩
      refine ⟨_, rfl, _, _, rfl, hS, for_it walk_enumT (fun i σ H2 => Same H H2 ∧ ∃ y1 y2 : Option V, σ = [some (.ref a), some (.int m), some (.bl false), y1, y2]) ⟨Same.refl H, _, _, rfl⟩ (fun i σ H2 _ hp => same_tup (hp.1) hS) ?_ ?_⟩
      · rintro i x σ H2 H3 hi ⟨sm, y1, y2, rfl⟩ ⟨T, v1, v2, rfl, nT, rfl, e1, e2⟩
        cases e1
        obtain ⟨z, ez, rfl, hz⟩ := hp i _ H2 sm e2
        have sm3 := sm.trans (same_upd (o := .tup [.int (i : Nat), vN z]) nT)
        refine ⟨_, _, rfl, tupAt upd_same, rfl, _, _, rfl, _, _, rfl, rfl, ?_⟩
        refine ⟨_, rfl, z, rfl, .inl hz, fun H4 s4 => ⟨_, rfl, ?_⟩⟩
        have sm4 := sm3.trans s4
        rw [nz_nm hz]
        refine iteF (iteF ?_)
        refine ⟨_, rfl, _, rfl, _, rfl, _, rfl, _, _, rfl, same_tup (sm4) hS, (by rintro ⟨_, hw⟩; rw [HT.sIx_nat] at hw; have hi' : i < (zs.map vN).length := hi; omega), fun p np => ?_⟩
        rw [cut_names]
        have sp := same_upd (o := .tup ((zs.take i).map vN)) np
        refine ⟨p, _, rfl, .inr (tupAt upd_same), rfl, nms_flat _, _, rfl, ?_⟩
        rw [in_nm, decide_eq_false (not_before nd ez)]
        exact iteF ⟨sm4.trans sp, _, _, rfl⟩
      · rintro σ H2 ⟨sm, y1, y2, rfl⟩
        exact q _ sm
/-! _check_links -/
def spCheckL (K : PySem.W.Frag) : Sp := fun vs H Q _ => ∃ (a b : Addr) (zs : List Nam) (es : List Addr) (ts : List Tie), vs = [.ref a, .ref b] ∧ SqS K H a (zs.map vN) ∧ SqS K H b (es.map V.ref) ∧ TiesAt H es ts ∧ LOk zs ts ∧ ∀ H', Same H H' → Q .non H'
theorem ok_check_links {f : Addr} {fd : FuncData} {t1 t2 : Tok} (F : Fun K "_check_links" "_check_links" s_check_links f fd) (m_len : mg "len" = none) (g_MOST_LINKS : mg "MOST_LINKS" = some (.int 12 t1)) (g_MOST_TOLL : mg "MOST_TOLL" = some (.int 1000000000 t2))
    (d_check_size : Def P w K mg base "check_size" 1 ["size", "low", "high"] spRange) (d_check_range : Def P w K mg base "check_range" 1 ["number", "low", "high"] spRange) (d_check_known : Def P w K mg base "check_known" 1 ["names", "known"] (spKnown K)) :
    FnOk P w K mg base CX0 2 f fd ["names", "links"] (spCheckL K) := by
  refine F.ok sc_check_links (fun vs H Q E h => ?_) (fun cdv A outer s H vs Q E hr h => ?_)
  · obtain ⟨a, b, zs, es, ts, rfl, _⟩ := h
    rfl
  · obtain ⟨a, b, zs, es, ts, rfl, hA, hB, hT, ok, q⟩ := h
    have el : (es.map V.ref).length = ts.length := by rw [List.length_map, hT.1]
    have t12 := ok.t12
    rcases hB with hB | hB
    · refine ⟨_, (pss_cons (ps_expr (pe_callD d_check_size (hr.mono (by decide)) (by rfl) (pa_cons (pe_callB call_len_seq (by rfl) m_len (by decide +kernel) (pa_cons (pv 1) pa_nil)) (pa_cons pe_int (pa_cons (pe_glob (v := .int 12) (by rfl) g_MOST_LINKS ⟨_, rfl⟩) pa_nil)))))
  (pss_one (ps_for PassesOwn.never rfl (pi_list (pv 1)) (pg_tup (by rfl) (pgs_cons (pg_name (i := 2) sc_check_links.nd rfl (.inl rfl)) (pgs_cons (pg_name (i := 3) sc_check_links.nd rfl (.inl rfl)) (pgs_cons (pg_name (i := 4) sc_check_links.nd rfl (.inl rfl)) pgs_nil))))
    (pss_cons (ps_expr (pe_callD d_check_known (hr.mono (by decide)) (by rfl) (pa_cons (pe_lst (pa_cons (pv 2) (pa_cons (pv 3) pa_nil))) (pa_cons (pv 0) pa_nil))))
  (pss_cons (ps_if (pt_cmpR op_eq (pv 2) (pv 3) (nomark _)) (pss_one ps_never) pss_nil)
  (pss_one (ps_expr (pe_callD d_check_range (hr.mono (by decide)) (by rfl) (pa_cons (pv 4) (pa_cons pe_int (pa_cons (pe_glob (v := .int 1000000000) (by rfl) g_MOST_TOLL ⟨_, rfl⟩) pa_nil))))))))))), ?_⟩
      refine ⟨_, rfl, _, _, rfl, .inl hB, _, _, _, rfl, by omega, by rw [el]; omega, ?_⟩
      refine ⟨_, rfl, b, rfl, ⟨_, hB⟩, for_list (K := K) (a := b) (xs := es.map V.ref) (fun i σ H2 => Same H H2 ∧ ∃ y1 y2 y3 : Option V, σ = [some (.ref a), some (.ref b), y1, y2, y3]) ⟨Same.refl H, _, _, _, rfl⟩ (fun i σ H2 _ hp => hp.1.seq hB) ?_ ?_⟩
      · rintro i x σ H2 hx ⟨sm, y1, y2, y3, rfl⟩
        obtain ⟨e, t, rfl, _, et, ht⟩ := ties_at hT hx
        have tm := mem_at et
        have ht2 := sm _ _ ht
        refine ⟨_, _, rfl, tupAt ht2, rfl, _, _, rfl, _, _, rfl, _, _, rfl, rfl, ?_⟩
        refine ⟨_, rfl, _, rfl, (show (2 : Nat) ≤ sizeLine by decide), fun p np => ?_⟩
        have sp := same_upd (o := .lst [vN t.1, vN t.2.1]) np
        refine ⟨_, rfl, p, a, [t.1, t.2.1], zs, rfl, .inl (lstAt upd_same), hA.same (sm.trans sp), ?_, ?_⟩
        · intro z hz
          rcases List.mem_cons.mp hz with rfl | hz
          · exact ok.a _ tm
          · rw [List.mem_singleton.mp hz]; exact ok.b _ tm
        refine ⟨_, rfl, _, rfl, rfl, _, rfl, ?_⟩
        rw [eq_nm, decide_eq_false (ok.ne _ tm)]
        refine iteF ⟨_, rfl, _, _, _, rfl, ok.h0 _ tm, ok.h9 _ tm, sm.trans sp, _, _, _, rfl⟩
      · rintro σ H2 ⟨sm, y1, y2, y3, rfl⟩
        exact q _ sm
    · refine ⟨_, (pss_cons (ps_expr (pe_callD d_check_size (hr.mono (by decide)) (by rfl) (pa_cons (pe_callB call_len_seq (by rfl) m_len (by decide +kernel) (pa_cons (pv 1) pa_nil)) (pa_cons pe_int (pa_cons (pe_glob (v := .int 12) (by rfl) g_MOST_LINKS ⟨_, rfl⟩) pa_nil)))))
  (pss_one (ps_for PassesOwn.never rfl (pi_tup (pv 1)) (pg_tup (by rfl) (pgs_cons (pg_name (i := 2) sc_check_links.nd rfl (.inl rfl)) (pgs_cons (pg_name (i := 3) sc_check_links.nd rfl (.inl rfl)) (pgs_cons (pg_name (i := 4) sc_check_links.nd rfl (.inl rfl)) pgs_nil))))
    (pss_cons (ps_expr (pe_callD d_check_known (hr.mono (by decide)) (by rfl) (pa_cons (pe_lst (pa_cons (pv 2) (pa_cons (pv 3) pa_nil))) (pa_cons (pv 0) pa_nil))))
  (pss_cons (ps_if (pt_cmpR op_eq (pv 2) (pv 3) (nomark _)) (pss_one ps_never) pss_nil)
  (pss_one (ps_expr (pe_callD d_check_range (hr.mono (by decide)) (by rfl) (pa_cons (pv 4) (pa_cons pe_int (pa_cons (pe_glob (v := .int 1000000000) (by rfl) g_MOST_TOLL ⟨_, rfl⟩) pa_nil))))))))))), ?_⟩
      refine ⟨_, rfl, _, _, rfl, .inr hB, _, _, _, rfl, by omega, by rw [el]; omega, ?_⟩
      refine ⟨_, rfl, b, rfl, ⟨_, hB⟩, for_tup (K := K) (a := b) (xs := es.map V.ref) (fun i σ H2 => Same H H2 ∧ ∃ y1 y2 y3 : Option V, σ = [some (.ref a), some (.ref b), y1, y2, y3]) ⟨Same.refl H, _, _, _, rfl⟩ (fun i σ H2 _ hp => same_tup hp.1 hB) ?_ ?_⟩
      · rintro i x σ H2 hx ⟨sm, y1, y2, y3, rfl⟩
        obtain ⟨e, t, rfl, _, et, ht⟩ := ties_at hT hx
        have tm := mem_at et
        have ht2 := sm _ _ ht
        refine ⟨_, _, rfl, tupAt ht2, rfl, _, _, rfl, _, _, rfl, _, _, rfl, rfl, ?_⟩
        refine ⟨_, rfl, _, rfl, (show (2 : Nat) ≤ sizeLine by decide), fun p np => ?_⟩
        have sp := same_upd (o := .lst [vN t.1, vN t.2.1]) np
        refine ⟨_, rfl, p, a, [t.1, t.2.1], zs, rfl, .inl (lstAt upd_same), hA.same (sm.trans sp), ?_, ?_⟩
        · intro z hz
          rcases List.mem_cons.mp hz with rfl | hz
          · exact ok.a _ tm
          · rw [List.mem_singleton.mp hz]; exact ok.b _ tm
        refine ⟨_, rfl, _, rfl, rfl, _, rfl, ?_⟩
        rw [eq_nm, decide_eq_false (ok.ne _ tm)]
        refine iteF ⟨_, rfl, _, _, _, rfl, ok.h0 _ tm, ok.h9 _ tm, sm.trans sp, _, _, _, rfl⟩
      · rintro σ H2 ⟨sm, y1, y2, y3, rfl⟩
        exact q _ sm
end
end TK

namespace TK
open PySem PySem.Spec PyProof.Rows L2
abbrev s_Links_init : Stmt := inClass (topS 29) 0
theorem sc_Links_init : FnScope ["self", "names", "links", "giver", "taker", "toll"] ["self", "names", "links"] (defScope s_Links_init) := ⟨rfl, rfl, rfl, by decide +kernel, rfl, by decide +kernel, by decide +kernel⟩
theorem sqL_frame {K : PySem.W.Frag} {H H' : Hp} {a p C dx : Addr} {fs : List (Str × V)} {xs : List V} (h : SqL K H a xs) (hp : H p = some (.ins C dx fs)) (f : ∀ c x, H c = some x → c ≠ p → H' c = some x) : SqL K H' a xs := by
  rcases h with h | h
  · exact .inl (rd_frame h hp (by intro z; cases z) (by intro _ z; cases z) f)
  · exact .inr h
section
variable {P : Program} {w : World} {K : PySem.W.Frag} {mg : Str → Option Value} {base : Heap}
/-! Links.__init__ -/
def spInitL (K : PySem.W.Frag) (C : Addr) : Sp := fun vs H Q _ => ∃ (p a b dx : Addr) (zs : List Nam) (es : List Addr) (ts : List Tie), vs = [.ref p, .ref a, .ref b] ∧ H p = some (.ins C dx []) ∧ (SqL K H a (zs.map vN) ∨ TL H a (zs.map vN)) ∧ SqS K H b (es.map V.ref) ∧ TiesAt H es ts ∧ LOk zs ts ∧
  ∀ H', LkAt C H' p zs ts → (∀ c o, H c = some o → c ≠ p → H' c = some o) → Q .non H'
theorem ok_Links {f C : Addr} {fd : FuncData} {dvs : List V} {kws : List (Str × V)} (F : FunD K "__init__" "Links.__init__" (defArgs s_Links_init) (defBody s_Links_init) (defScope s_Links_init) dvs kws f fd) (T : TxtL K C) (m_tuple : mg "tuple" = none)
    (d_check_names : DefD P w K mg base "check_names" 2 ["names", "most", "hook"] (spCheckN K) [.bl false]) (d_check_links : Def P w K mg base "_check_links" 2 ["names", "links"] (spCheckL K)) :
    FnOk P w K mg base CX0 3 f fd ["self", "names", "links"] (spInitL K C) := by
  refine F.ok (CX := CX0) sc_Links_init (fun vs H Q E h => ?_) (fun cdv A outer s H vs Q E hr h => ?_)
  · obtain ⟨p, a, b, dx, zs, es, ts, rfl, _⟩ := h
    rfl
  · obtain ⟨p, a, b, dx, zs, es, ts, rfl, hp, hA, hB, hT, ok, q⟩ := h
    have el : (es.map V.ref).length = ts.length := by rw [List.length_map, hT.1]
    have t12 := ok.t12
    have hS : SqS K H a (zs.map vN) := hA.elim .inl fun h => .inr h.sq
    rcases hB with hB | hB
    · refine ⟨_, PSs.nox (pss_cons (ps_expr (pe_callDD d_check_names (hr.mono (by decide)) (by rfl) (pa_cons (pv 1) (pa_cons pe_int pa_nil))))
  (pss_cons (ps_expr (pe_callD d_check_links (hr.mono (by decide)) (by rfl) (pa_cons (pv 1) (pa_cons (pv 2) pa_nil))))
  (pss_cons (ps_fld (pv 0) (pe_callTy call_tuple_of (by rfl) m_tuple (by decide +kernel) (pa_cons (pv 1) pa_nil)) rfl)
  (pss_one (ps_fld (pv 0) (pe_callTy call_tuple_of (by rfl) m_tuple (by decide +kernel) (pa_cons (pe_lc (own := [("giver", 3), ("taker", 4), ("toll", 5)]) (by rfl) sc_Links_init.nd (pi_list (pv 2)) (blkOk_by (N := ["self", "names", "links", "giver", "taker", "toll"]) (sc := defScope s_Links_init) (by decide +kernel)) (fun _ _ _ _ _ => (pg_tupK (K := K) (n := 3) rfl (by rfl) (pgs_cons (pg_name (i := 3) sc_Links_init.nd rfl (.inl rfl)) (pgs_cons (pg_name (i := 4) sc_Links_init.nd rfl (.inl rfl)) (pgs_cons (pg_name (i := 5) sc_Links_init.nd rfl (.inl rfl)) pgs_nil))))) (fun _ _ _ _ _ => pts_nil) (fun _ _ _ _ _ => (pe_tup (pa_cons (pv 3) (pa_cons (pv 4) (pa_cons (pv 5) pa_nil)))))) pa_nil)) rfl))))), ?_⟩
      refine ⟨_, rfl, a, 6, zs, rfl, hS, ok.l1, by have := ok.l6; omega, ok.l6, ok.nm, ok.nd, fun H1 s1 => ?_⟩
      refine ⟨_, rfl, _, rfl, a, b, zs, es, ts, rfl, hS.same s1, .inl (s1.seq hB), hT.same s1, ok, fun H2 s2 => ?_⟩
      have s12 := s1.trans s2
      refine ⟨_, rfl, a, zs.map vN, rfl, ?_⟩
      rcases hA with hL | hU
      · refine .inl ⟨s12.seq hL, fun l nl => ?_⟩
        have s3 := s12.trans (same_upd (o := .tup (zs.map vN)) nl)
        have hl3 : TL (upd H2 l (.tup (zs.map vN))) l (zs.map vN) := .inl upd_same
        have hp3 := s3 _ _ hp
        refine ⟨_, rfl, p, C, dx, [], rfl, hp3, T.cl, T.nN, by decide, ?_⟩
        generalize eH3 : (upd H2 l (.tup (zs.map vN)) : Hp) = H3 at s3 hp3 hl3 ⊢
        clear eH3
        have f4 : ∀ (fs : List (Str × V)) c x, H3 c = some x → c ≠ p → (upd H3 p (.ins C dx fs)) c = some x := fun fs c x e n => by rw [upd_ne n]; exact e
        have hB4 := sqL_frame (s3.seq hB) hp3 (f4 (putF "names" (.ref l) []))
        have hp4 : (upd H3 p (.ins C dx (putF "names" (.ref l) []))) p = some (.ins C dx (putF "names" (.ref l) [])) := upd_same
        have hl4 := tl_frame hl3 hp3 (f4 (putF "names" (.ref l) []))
        have hT4 : TiesAt (upd H3 p (.ins C dx (putF "names" (.ref l) []))) es ts := ⟨hT.1, fun i e he => by
          obtain ⟨t, h1, h2⟩ := hT.2 i e he
          exact ⟨t, h1, f4 _ _ _ (s3 _ _ h2) (ne_of (s3 _ _ h2) hp3 (by intro z; cases z))⟩⟩
        have f5 : ∀ c x, H c = some x → c ≠ p → (upd H3 p (.ins C dx (putF "names" (.ref l) []))) c = some x := fun c x e n => f4 _ c x (s3 _ _ e) n
        generalize eH4 : (upd H3 p (.ins C dx (putF "names" (.ref l) [])) : Hp) = H4 at hB4 hp4 hl4 hT4 f5 ⊢
        clear eH4
        refine ⟨_, rfl, b, rfl, ⟨_, hB4⟩, fun D nD => ?_⟩
        have sD := same_upd (o := .lst []) nD
        refine lc_list (K := K) (a := b) (xs := es.map V.ref) (fun i H' => ∃ es' : List Addr, Same H4 H' ∧ H' D = some (.lst (es'.map V.ref)) ∧ TiesAt H' es' (ts.take i)) ⟨[], sD, upd_same, rfl, fun _ _ h => nomatch h⟩ (fun i H' _ hq => hq.choose_spec.1.seq hB4) (fun i x H' hx hq => ?_) (fun H' hq => ?_)
        · obtain ⟨es', s5, hD5, hT5⟩ := hq
          obtain ⟨e, t, rfl, _, et, ht⟩ := ties_at hT4 hx
          have hi : i < ts.length := (List.getElem?_eq_some_iff.mp et).1
          have l5 : es'.length = i := by rw [hT5.1, List.length_take]; omega
          refine ⟨_, _, rfl, tupAt (s5 _ _ ht), rfl, _, _, rfl, _, _, rfl, _, _, rfl, rfl, rfl, yesT ⟨_, rfl, _, rfl, _, rfl, (show (3 : Nat) ≤ sizeLine by decide), fun q5 nq => ⟨_, (same_upd nq) _ _ hD5, ?_, ?_⟩⟩⟩
          · rw [List.length_map]; exact small1000 (by omega)
          · have sq := same_upd (o := .tup [vN t.1, vN t.2.1, .int t.2.2]) nq
            have Dq : D ≠ q5 := ne_of_none hD5 nq
            have fD : ∀ c x, H' c = some x → c ≠ D → (upd (upd H' q5 (.tup [vN t.1, vN t.2.1, .int t.2.2])) D (.lst (es'.map V.ref ++ [.ref q5]))) c = some x := fun c x e n => by rw [upd_ne n]; exact sq _ _ e
            refine ⟨es' ++ [q5], fun c x e => fD c x (s5 _ _ e) (ne_of_none e nD), by rw [List.map_append]; exact upd_same, ?_⟩
            rw [List.take_add_one, et]
            refine ⟨by rw [List.length_append, List.length_append, hT5.1]; rfl, (TiesAt.snoc (H := upd (upd H' q5 (.tup [vN t.1, vN t.2.1, .int t.2.2])) D (.lst (es'.map V.ref ++ [.ref q5]))) ⟨hT5.1, fun j e he => ?_⟩ (Same.refl _) ?_).2⟩
            · obtain ⟨t', h1, h2⟩ := hT5.2 j e he
              exact ⟨t', h1, fD _ _ h2 (ne_of h2 hD5 (by intro z; cases z))⟩
            · show _ = _
              rw [upd_ne Dq.symm]; exact upd_same
        · obtain ⟨es', s5, hD5, hT5⟩ := hq
          rw [List.take_of_length_le (by rw [el]; exact Nat.le_refl _)] at hT5
          refine ⟨D, _, rfl, .inl ⟨lstAt hD5, fun m nm => ?_⟩⟩
          have sm := s5.trans (same_upd (o := .tup (es'.map V.ref)) nm)
          have pm : p ≠ m := ne_of_none (s5 _ _ hp4) nm
          refine ⟨_, rfl, p, C, dx, _, rfl, sm _ _ hp4, T.cl, T.nL, Nat.lt_of_le_of_lt (putF_len _ _ _) (by decide), ?_⟩
          have f6 : ∀ (fs : List (Str × V)) c x, H4 c = some x → c ≠ p → (upd (upd H' m (.tup (es'.map V.ref))) p (.ins C dx fs)) c = some x := fun fs c x e n => by rw [upd_ne n]; exact sm _ _ e
          refine q _ ⟨dx, l, m, es', upd_same, tl_frame hl4 hp4 (f6 _), by rw [upd_ne pm.symm]; exact upd_same, ?_⟩ fun c x e n => f6 _ c x (f5 c x e n) n
          refine ⟨hT5.1, fun j e he => ?_⟩
          obtain ⟨t', h1, h2⟩ := hT5.2 j e he
          have e1 := (same_upd (o := .tup (es'.map V.ref)) nm) _ _ h2
          exact ⟨t', h1, by show _ = _; rw [upd_ne (ne_of e1 (sm _ _ hp4) (by intro z; cases z))]; exact e1⟩
      · refine .inr ⟨(hU.same s12).sq, ?_⟩
        have s3 := s12
        have hl3 := hU.same s12
        have hp3 := s3 _ _ hp
        refine ⟨_, rfl, p, C, dx, [], rfl, hp3, T.cl, T.nN, by decide, ?_⟩
        generalize eH3 : (H2 : Hp) = H3 at s3 hp3 hl3 ⊢
        clear eH3
        have f4 : ∀ (fs : List (Str × V)) c x, H3 c = some x → c ≠ p → (upd H3 p (.ins C dx fs)) c = some x := fun fs c x e n => by rw [upd_ne n]; exact e
        have hB4 := sqL_frame (s3.seq hB) hp3 (f4 (putF "names" (.ref a) []))
        have hp4 : (upd H3 p (.ins C dx (putF "names" (.ref a) []))) p = some (.ins C dx (putF "names" (.ref a) [])) := upd_same
        have hl4 := tl_frame hl3 hp3 (f4 (putF "names" (.ref a) []))
        have hT4 : TiesAt (upd H3 p (.ins C dx (putF "names" (.ref a) []))) es ts := ⟨hT.1, fun i e he => by
          obtain ⟨t, h1, h2⟩ := hT.2 i e he
          exact ⟨t, h1, f4 _ _ _ (s3 _ _ h2) (ne_of (s3 _ _ h2) hp3 (by intro z; cases z))⟩⟩
        have f5 : ∀ c x, H c = some x → c ≠ p → (upd H3 p (.ins C dx (putF "names" (.ref a) []))) c = some x := fun c x e n => f4 _ c x (s3 _ _ e) n
        generalize eH4 : (upd H3 p (.ins C dx (putF "names" (.ref a) [])) : Hp) = H4 at hB4 hp4 hl4 hT4 f5 ⊢
        clear eH4
        refine ⟨_, rfl, b, rfl, ⟨_, hB4⟩, fun D nD => ?_⟩
        have sD := same_upd (o := .lst []) nD
        refine lc_list (K := K) (a := b) (xs := es.map V.ref) (fun i H' => ∃ es' : List Addr, Same H4 H' ∧ H' D = some (.lst (es'.map V.ref)) ∧ TiesAt H' es' (ts.take i)) ⟨[], sD, upd_same, rfl, fun _ _ h => nomatch h⟩ (fun i H' _ hq => hq.choose_spec.1.seq hB4) (fun i x H' hx hq => ?_) (fun H' hq => ?_)
        · obtain ⟨es', s5, hD5, hT5⟩ := hq
          obtain ⟨e, t, rfl, _, et, ht⟩ := ties_at hT4 hx
          have hi : i < ts.length := (List.getElem?_eq_some_iff.mp et).1
          have l5 : es'.length = i := by rw [hT5.1, List.length_take]; omega
          refine ⟨_, _, rfl, tupAt (s5 _ _ ht), rfl, _, _, rfl, _, _, rfl, _, _, rfl, rfl, rfl, yesT ⟨_, rfl, _, rfl, _, rfl, (show (3 : Nat) ≤ sizeLine by decide), fun q5 nq => ⟨_, (same_upd nq) _ _ hD5, ?_, ?_⟩⟩⟩
          · rw [List.length_map]; exact small1000 (by omega)
          · have sq := same_upd (o := .tup [vN t.1, vN t.2.1, .int t.2.2]) nq
            have Dq : D ≠ q5 := ne_of_none hD5 nq
            have fD : ∀ c x, H' c = some x → c ≠ D → (upd (upd H' q5 (.tup [vN t.1, vN t.2.1, .int t.2.2])) D (.lst (es'.map V.ref ++ [.ref q5]))) c = some x := fun c x e n => by rw [upd_ne n]; exact sq _ _ e
            refine ⟨es' ++ [q5], fun c x e => fD c x (s5 _ _ e) (ne_of_none e nD), by rw [List.map_append]; exact upd_same, ?_⟩
            rw [List.take_add_one, et]
            refine ⟨by rw [List.length_append, List.length_append, hT5.1]; rfl, (TiesAt.snoc (H := upd (upd H' q5 (.tup [vN t.1, vN t.2.1, .int t.2.2])) D (.lst (es'.map V.ref ++ [.ref q5]))) ⟨hT5.1, fun j e he => ?_⟩ (Same.refl _) ?_).2⟩
            · obtain ⟨t', h1, h2⟩ := hT5.2 j e he
              exact ⟨t', h1, fD _ _ h2 (ne_of h2 hD5 (by intro z; cases z))⟩
            · show _ = _
              rw [upd_ne Dq.symm]; exact upd_same
        · obtain ⟨es', s5, hD5, hT5⟩ := hq
          rw [List.take_of_length_le (by rw [el]; exact Nat.le_refl _)] at hT5
          refine ⟨D, _, rfl, .inl ⟨lstAt hD5, fun m nm => ?_⟩⟩
          have sm := s5.trans (same_upd (o := .tup (es'.map V.ref)) nm)
          have pm : p ≠ m := ne_of_none (s5 _ _ hp4) nm
          refine ⟨_, rfl, p, C, dx, _, rfl, sm _ _ hp4, T.cl, T.nL, Nat.lt_of_le_of_lt (putF_len _ _ _) (by decide), ?_⟩
          have f6 : ∀ (fs : List (Str × V)) c x, H4 c = some x → c ≠ p → (upd (upd H' m (.tup (es'.map V.ref))) p (.ins C dx fs)) c = some x := fun fs c x e n => by rw [upd_ne n]; exact sm _ _ e
          refine q _ ⟨dx, a, m, es', upd_same, tl_frame hl4 hp4 (f6 _), by rw [upd_ne pm.symm]; exact upd_same, ?_⟩ fun c x e n => f6 _ c x (f5 c x e n) n
          refine ⟨hT5.1, fun j e he => ?_⟩
          obtain ⟨t', h1, h2⟩ := hT5.2 j e he
          have e1 := (same_upd (o := .tup (es'.map V.ref)) nm) _ _ h2
          exact ⟨t', h1, by show _ = _; rw [upd_ne (ne_of e1 (sm _ _ hp4) (by intro z; cases z))]; exact e1⟩
    · refine ⟨_, PSs.nox (pss_cons (ps_expr (pe_callDD d_check_names (hr.mono (by decide)) (by rfl) (pa_cons (pv 1) (pa_cons pe_int pa_nil))))
  (pss_cons (ps_expr (pe_callD d_check_links (hr.mono (by decide)) (by rfl) (pa_cons (pv 1) (pa_cons (pv 2) pa_nil))))
  (pss_cons (ps_fld (pv 0) (pe_callTy call_tuple_of (by rfl) m_tuple (by decide +kernel) (pa_cons (pv 1) pa_nil)) rfl)
  (pss_one (ps_fld (pv 0) (pe_callTy call_tuple_of (by rfl) m_tuple (by decide +kernel) (pa_cons (pe_lc (own := [("giver", 3), ("taker", 4), ("toll", 5)]) (by rfl) sc_Links_init.nd (pi_tup (pv 2)) (blkOk_by (N := ["self", "names", "links", "giver", "taker", "toll"]) (sc := defScope s_Links_init) (by decide +kernel)) (fun _ _ _ _ _ => (pg_tupK (K := K) (n := 3) rfl (by rfl) (pgs_cons (pg_name (i := 3) sc_Links_init.nd rfl (.inl rfl)) (pgs_cons (pg_name (i := 4) sc_Links_init.nd rfl (.inl rfl)) (pgs_cons (pg_name (i := 5) sc_Links_init.nd rfl (.inl rfl)) pgs_nil))))) (fun _ _ _ _ _ => pts_nil) (fun _ _ _ _ _ => (pe_tup (pa_cons (pv 3) (pa_cons (pv 4) (pa_cons (pv 5) pa_nil)))))) pa_nil)) rfl))))), ?_⟩
      refine ⟨_, rfl, a, 6, zs, rfl, hS, ok.l1, by have := ok.l6; omega, ok.l6, ok.nm, ok.nd, fun H1 s1 => ?_⟩
      refine ⟨_, rfl, _, rfl, a, b, zs, es, ts, rfl, hS.same s1, .inr (same_tup s1 hB), hT.same s1, ok, fun H2 s2 => ?_⟩
      have s12 := s1.trans s2
      refine ⟨_, rfl, a, zs.map vN, rfl, ?_⟩
      rcases hA with hL | hU
      · refine .inl ⟨s12.seq hL, fun l nl => ?_⟩
        have s3 := s12.trans (same_upd (o := .tup (zs.map vN)) nl)
        have hl3 : TL (upd H2 l (.tup (zs.map vN))) l (zs.map vN) := .inl upd_same
        have hp3 := s3 _ _ hp
        refine ⟨_, rfl, p, C, dx, [], rfl, hp3, T.cl, T.nN, by decide, ?_⟩
        generalize eH3 : (upd H2 l (.tup (zs.map vN)) : Hp) = H3 at s3 hp3 hl3 ⊢
        clear eH3
        have f4 : ∀ (fs : List (Str × V)) c x, H3 c = some x → c ≠ p → (upd H3 p (.ins C dx fs)) c = some x := fun fs c x e n => by rw [upd_ne n]; exact e
        have hB4 := sqT_frame (same_tup s3 hB) hp3 (f4 (putF "names" (.ref l) []))
        have hp4 : (upd H3 p (.ins C dx (putF "names" (.ref l) []))) p = some (.ins C dx (putF "names" (.ref l) [])) := upd_same
        have hl4 := tl_frame hl3 hp3 (f4 (putF "names" (.ref l) []))
        have hT4 : TiesAt (upd H3 p (.ins C dx (putF "names" (.ref l) []))) es ts := ⟨hT.1, fun i e he => by
          obtain ⟨t, h1, h2⟩ := hT.2 i e he
          exact ⟨t, h1, f4 _ _ _ (s3 _ _ h2) (ne_of (s3 _ _ h2) hp3 (by intro z; cases z))⟩⟩
        have f5 : ∀ c x, H c = some x → c ≠ p → (upd H3 p (.ins C dx (putF "names" (.ref l) []))) c = some x := fun c x e n => f4 _ c x (s3 _ _ e) n
        generalize eH4 : (upd H3 p (.ins C dx (putF "names" (.ref l) [])) : Hp) = H4 at hB4 hp4 hl4 hT4 f5 ⊢
        clear eH4
        refine ⟨_, rfl, b, rfl, ⟨_, hB4⟩, fun D nD => ?_⟩
        have sD := same_upd (o := .lst []) nD
        refine lc_tup (K := K) (a := b) (xs := es.map V.ref) (fun i H' => ∃ es' : List Addr, Same H4 H' ∧ H' D = some (.lst (es'.map V.ref)) ∧ TiesAt H' es' (ts.take i)) ⟨[], sD, upd_same, rfl, fun _ _ h => nomatch h⟩ (fun i H' _ hq => same_tup hq.choose_spec.1 hB4) (fun i x H' hx hq => ?_) (fun H' hq => ?_)
        · obtain ⟨es', s5, hD5, hT5⟩ := hq
          obtain ⟨e, t, rfl, _, et, ht⟩ := ties_at hT4 hx
          have hi : i < ts.length := (List.getElem?_eq_some_iff.mp et).1
          have l5 : es'.length = i := by rw [hT5.1, List.length_take]; omega
          refine ⟨_, _, rfl, tupAt (s5 _ _ ht), rfl, _, _, rfl, _, _, rfl, _, _, rfl, rfl, rfl, yesT ⟨_, rfl, _, rfl, _, rfl, (show (3 : Nat) ≤ sizeLine by decide), fun q5 nq => ⟨_, (same_upd nq) _ _ hD5, ?_, ?_⟩⟩⟩
          · rw [List.length_map]; exact small1000 (by omega)
          · have sq := same_upd (o := .tup [vN t.1, vN t.2.1, .int t.2.2]) nq
            have Dq : D ≠ q5 := ne_of_none hD5 nq
            have fD : ∀ c x, H' c = some x → c ≠ D → (upd (upd H' q5 (.tup [vN t.1, vN t.2.1, .int t.2.2])) D (.lst (es'.map V.ref ++ [.ref q5]))) c = some x := fun c x e n => by rw [upd_ne n]; exact sq _ _ e
            refine ⟨es' ++ [q5], fun c x e => fD c x (s5 _ _ e) (ne_of_none e nD), by rw [List.map_append]; exact upd_same, ?_⟩
            rw [List.take_add_one, et]
            refine ⟨by rw [List.length_append, List.length_append, hT5.1]; rfl, (TiesAt.snoc (H := upd (upd H' q5 (.tup [vN t.1, vN t.2.1, .int t.2.2])) D (.lst (es'.map V.ref ++ [.ref q5]))) ⟨hT5.1, fun j e he => ?_⟩ (Same.refl _) ?_).2⟩
            · obtain ⟨t', h1, h2⟩ := hT5.2 j e he
              exact ⟨t', h1, fD _ _ h2 (ne_of h2 hD5 (by intro z; cases z))⟩
            · show _ = _
              rw [upd_ne Dq.symm]; exact upd_same
        · obtain ⟨es', s5, hD5, hT5⟩ := hq
          rw [List.take_of_length_le (by rw [el]; exact Nat.le_refl _)] at hT5
          refine ⟨D, _, rfl, .inl ⟨lstAt hD5, fun m nm => ?_⟩⟩
          have sm := s5.trans (same_upd (o := .tup (es'.map V.ref)) nm)
          have pm : p ≠ m := ne_of_none (s5 _ _ hp4) nm
          refine ⟨_, rfl, p, C, dx, _, rfl, sm _ _ hp4, T.cl, T.nL, Nat.lt_of_le_of_lt (putF_len _ _ _) (by decide), ?_⟩
          have f6 : ∀ (fs : List (Str × V)) c x, H4 c = some x → c ≠ p → (upd (upd H' m (.tup (es'.map V.ref))) p (.ins C dx fs)) c = some x := fun fs c x e n => by rw [upd_ne n]; exact sm _ _ e
          refine q _ ⟨dx, l, m, es', upd_same, tl_frame hl4 hp4 (f6 _), by rw [upd_ne pm.symm]; exact upd_same, ?_⟩ fun c x e n => f6 _ c x (f5 c x e n) n
          refine ⟨hT5.1, fun j e he => ?_⟩
          obtain ⟨t', h1, h2⟩ := hT5.2 j e he
          have e1 := (same_upd (o := .tup (es'.map V.ref)) nm) _ _ h2
          exact ⟨t', h1, by show _ = _; rw [upd_ne (ne_of e1 (sm _ _ hp4) (by intro z; cases z))]; exact e1⟩
      · refine .inr ⟨(hU.same s12).sq, ?_⟩
        have s3 := s12
        have hl3 := hU.same s12
        have hp3 := s3 _ _ hp
        refine ⟨_, rfl, p, C, dx, [], rfl, hp3, T.cl, T.nN, by decide, ?_⟩
        generalize eH3 : (H2 : Hp) = H3 at s3 hp3 hl3 ⊢
        clear eH3
        have f4 : ∀ (fs : List (Str × V)) c x, H3 c = some x → c ≠ p → (upd H3 p (.ins C dx fs)) c = some x := fun fs c x e n => by rw [upd_ne n]; exact e
        have hB4 := sqT_frame (same_tup s3 hB) hp3 (f4 (putF "names" (.ref a) []))
        have hp4 : (upd H3 p (.ins C dx (putF "names" (.ref a) []))) p = some (.ins C dx (putF "names" (.ref a) [])) := upd_same
        have hl4 := tl_frame hl3 hp3 (f4 (putF "names" (.ref a) []))
        have hT4 : TiesAt (upd H3 p (.ins C dx (putF "names" (.ref a) []))) es ts := ⟨hT.1, fun i e he => by
          obtain ⟨t, h1, h2⟩ := hT.2 i e he
          exact ⟨t, h1, f4 _ _ _ (s3 _ _ h2) (ne_of (s3 _ _ h2) hp3 (by intro z; cases z))⟩⟩
        have f5 : ∀ c x, H c = some x → c ≠ p → (upd H3 p (.ins C dx (putF "names" (.ref a) []))) c = some x := fun c x e n => f4 _ c x (s3 _ _ e) n
        generalize eH4 : (upd H3 p (.ins C dx (putF "names" (.ref a) [])) : Hp) = H4 at hB4 hp4 hl4 hT4 f5 ⊢
        clear eH4
        refine ⟨_, rfl, b, rfl, ⟨_, hB4⟩, fun D nD => ?_⟩
        have sD := same_upd (o := .lst []) nD
        refine lc_tup (K := K) (a := b) (xs := es.map V.ref) (fun i H' => ∃ es' : List Addr, Same H4 H' ∧ H' D = some (.lst (es'.map V.ref)) ∧ TiesAt H' es' (ts.take i)) ⟨[], sD, upd_same, rfl, fun _ _ h => nomatch h⟩ (fun i H' _ hq => same_tup hq.choose_spec.1 hB4) (fun i x H' hx hq => ?_) (fun H' hq => ?_)
        · obtain ⟨es', s5, hD5, hT5⟩ := hq
          obtain ⟨e, t, rfl, _, et, ht⟩ := ties_at hT4 hx
          have hi : i < ts.length := (List.getElem?_eq_some_iff.mp et).1
          have l5 : es'.length = i := by rw [hT5.1, List.length_take]; omega
          refine ⟨_, _, rfl, tupAt (s5 _ _ ht), rfl, _, _, rfl, _, _, rfl, _, _, rfl, rfl, rfl, yesT ⟨_, rfl, _, rfl, _, rfl, (show (3 : Nat) ≤ sizeLine by decide), fun q5 nq => ⟨_, (same_upd nq) _ _ hD5, ?_, ?_⟩⟩⟩
          · rw [List.length_map]; exact small1000 (by omega)
          · have sq := same_upd (o := .tup [vN t.1, vN t.2.1, .int t.2.2]) nq
            have Dq : D ≠ q5 := ne_of_none hD5 nq
            have fD : ∀ c x, H' c = some x → c ≠ D → (upd (upd H' q5 (.tup [vN t.1, vN t.2.1, .int t.2.2])) D (.lst (es'.map V.ref ++ [.ref q5]))) c = some x := fun c x e n => by rw [upd_ne n]; exact sq _ _ e
            refine ⟨es' ++ [q5], fun c x e => fD c x (s5 _ _ e) (ne_of_none e nD), by rw [List.map_append]; exact upd_same, ?_⟩
            rw [List.take_add_one, et]
            refine ⟨by rw [List.length_append, List.length_append, hT5.1]; rfl, (TiesAt.snoc (H := upd (upd H' q5 (.tup [vN t.1, vN t.2.1, .int t.2.2])) D (.lst (es'.map V.ref ++ [.ref q5]))) ⟨hT5.1, fun j e he => ?_⟩ (Same.refl _) ?_).2⟩
            · obtain ⟨t', h1, h2⟩ := hT5.2 j e he
              exact ⟨t', h1, fD _ _ h2 (ne_of h2 hD5 (by intro z; cases z))⟩
            · show _ = _
              rw [upd_ne Dq.symm]; exact upd_same
        · obtain ⟨es', s5, hD5, hT5⟩ := hq
          rw [List.take_of_length_le (by rw [el]; exact Nat.le_refl _)] at hT5
          refine ⟨D, _, rfl, .inl ⟨lstAt hD5, fun m nm => ?_⟩⟩
          have sm := s5.trans (same_upd (o := .tup (es'.map V.ref)) nm)
          have pm : p ≠ m := ne_of_none (s5 _ _ hp4) nm
          refine ⟨_, rfl, p, C, dx, _, rfl, sm _ _ hp4, T.cl, T.nL, Nat.lt_of_le_of_lt (putF_len _ _ _) (by decide), ?_⟩
          have f6 : ∀ (fs : List (Str × V)) c x, H4 c = some x → c ≠ p → (upd (upd H' m (.tup (es'.map V.ref))) p (.ins C dx fs)) c = some x := fun fs c x e n => by rw [upd_ne n]; exact sm _ _ e
          refine q _ ⟨dx, a, m, es', upd_same, tl_frame hl4 hp4 (f6 _), by rw [upd_ne pm.symm]; exact upd_same, ?_⟩ fun c x e n => f6 _ c x (f5 c x e n) n
          refine ⟨hT5.1, fun j e he => ?_⟩
          obtain ⟨t', h1, h2⟩ := hT5.2 j e he
          have e1 := (same_upd (o := .tup (es'.map V.ref)) nm) _ _ h2
          exact ⟨t', h1, by show _ = _; rw [upd_ne (ne_of e1 (sm _ _ hp4) (by intro z; cases z))]; exact e1⟩
end
end TK

namespace TK
open PySem PySem.Spec PyProof.Rows L2
theorem kit_self {K : PySem.W.Frag} {C : Addr} : PySem.W.kitOne K (.ref C) (.ref C) = some true := by
  unfold PySem.W.kitOne
  rw [if_pos (beq_self_eq_true _)]
theorem nmH_ok {l : List Nat} (h : NmH l) : PyData.strOk (sOf l) = true := by
  show (sOf l).cps.all (· < 0x110000) = true
  rw [← Array.all_toList, sOf_codes, List.all_eq_true]
  intro c hc
  rcases h with h | rfl
  · have := h.2.2 c hc
    exact decide_eq_true (by omega)
  · cases hc
theorem namesH_dp {K : PySem.W.Frag} {H : Hp} : ∀ {zs : List (List Nat)}, (∀ z ∈ zs, NmH z) → DpAll K H (zs.map vN) (zs.map fun z => PyData.str (sOf z)) ∧ PyData.canLayAll0 (zs.map fun z => PyData.str (sOf z)) = true ∧ PyData.depthAll (zs.map fun z => PyData.str (sOf z)) ≤ 1
  | [], _ => ⟨.nil, by simp [PyData.canLayAll0], by simp [PyData.depthAll]⟩
  | z :: zs, ok => by
    obtain ⟨h1, h3, h4⟩ := namesH_dp (K := K) (H := H) (zs := zs) fun c hc => ok c (List.mem_cons_of_mem _ hc)
    refine ⟨.cons (.str _) h1, ?_, ?_⟩
    · simp only [List.map_cons, PyData.canLayAll0, PyData.canLay0, Bool.and_eq_true]
      exact ⟨nmH_ok (ok z (List.mem_cons_self ..)), h3⟩
    · simp only [List.map_cons, PyData.depthAll, PyData.depth]
      omega
theorem nmT_lay {ds : List PyData} (h3 : PyData.canLayAll0 ds = true) : (PyData.tuple ds).canLay0 = true := by simp only [PyData.canLay0, h3]
theorem nmT_shape {ds : List PyData} (h3 : PyData.canLayAll0 ds = true) (h4 : PyData.depthAll ds ≤ 1) : SeqAt.shaped (.tuple ds) = true := by
  show ((PyData.tuple ds).canLay0 && decide ((PyData.tuple ds).depth ≤ 64)) = true
  rw [nmT_lay h3, show (PyData.tuple ds).depth = PyData.depthAll ds + 1 by simp only [PyData.depth]]
  exact decide_eq_true (by omega)
theorem eqv_nms : ∀ zs us : List Nam, PyData.eqvAll (zs.map fun z => PyData.str (sOf z)) (us.map fun z => PyData.str (sOf z)) = decide (zs = us)
  | [], [] => by simp [PyData.eqvAll]
  | [], q :: qs => by simp [PyData.eqvAll]
  | o :: os, [] => by simp [PyData.eqvAll]
  | o :: os, q :: qs => by
    simp only [List.map_cons, PyData.eqvAll, PyData.eqv]
    rw [eqv_nms os qs]
    by_cases h1 : o = q
    · subst h1
      by_cases h2 : os = qs <;> simp [h2]
    · have : (sOf o == sOf q) = false := by
        cases e : (sOf o == sOf q) with
        | false => rfl
        | true => exact absurd (sOf_inj (eq_of_beq e)) h1
      simp [h1, this]
theorem eqv_nmT (zs us : List Nam) : PyData.eqv (.tuple (zs.map fun z => PyData.str (sOf z))) (.tuple (us.map fun z => PyData.str (sOf z))) = decide (zs = us) := by
  simp only [PyData.eqv]
  exact eqv_nms zs us
/-! ties as data -/
def dT (t : Tie) : PyData := .tuple [.str (sOf t.1), .str (sOf t.2.1), .int t.2.2]
theorem ties_dp {K : PySem.W.Frag} {H : Hp} : ∀ {es : List Addr} {ts : List Tie}, TiesAt H es ts → DpAll K H (es.map V.ref) (ts.map dT)
  | [], [], _ => .nil
  | [], o :: os, h => by cases h.1
  | t :: ts, [], h => by cases h.1
  | t :: ts, o :: os, h => by
    obtain ⟨o', h1, h2⟩ := h.2 0 t rfl
    cases Option.some.inj h1
    exact .cons (.tup (tupAt h2) (.cons (.str _) (.cons (.str _) (.cons (.int _) .nil)))) (ties_dp ⟨Nat.succ.inj h.1, fun i t' a => h.2 (i + 1) t' a⟩)
theorem ties_lay : ∀ {ts : List Tie}, (∀ t ∈ ts, NmH t.1 ∧ NmH t.2.1) → PyData.canLayAll0 (ts.map dT) = true ∧ PyData.depthAll (ts.map dT) ≤ 2
  | [], _ => ⟨by simp [PyData.canLayAll0], by simp [PyData.depthAll]⟩
  | o :: os, h => by
    obtain ⟨h1, h2⟩ := ties_lay (ts := os) fun t m => h t (List.mem_cons_of_mem _ m)
    obtain ⟨n1, n2⟩ := h o List.mem_cons_self
    refine ⟨?_, ?_⟩
    · simp only [List.map_cons, PyData.canLayAll0, Bool.and_eq_true]
      exact ⟨by simp [dT, PyData.canLay0, PyData.canLayAll0, nmH_ok n1, nmH_ok n2], h1⟩
    · simp only [List.map_cons, PyData.depthAll]
      have : (dT o).depth ≤ 2 := by simp [dT, PyData.depth, PyData.depthAll]
      omega
theorem shape_ties {ts : List Tie} (h : ∀ t ∈ ts, NmH t.1 ∧ NmH t.2.1) : SeqAt.shaped (.list (ts.map dT)) = true := by
  obtain ⟨h1, h2⟩ := ties_lay h
  show ((PyData.list _).canLay0 && decide ((PyData.list _).depth ≤ 64)) = true
  rw [show (PyData.list (ts.map dT)).canLay0 = true by simp only [PyData.canLay0, h1], show (PyData.list (ts.map dT)).depth = PyData.depthAll (ts.map dT) + 1 by simp only [PyData.depth]]
  exact decide_eq_true (by omega)
theorem TiesAt.take {H : Hp} {es : List Addr} {ts : List Tie} (h : TiesAt H es ts) (k : Nat) : TiesAt H (es.take k) (ts.take k) := by
  refine ⟨by rw [List.length_take, List.length_take, h.1], fun i e he => ?_⟩
  rw [List.getElem?_take] at he
  split at he
  · rename_i hi
    obtain ⟨t, h1, h2⟩ := h.2 i e he
    exact ⟨t, by rw [List.getElem?_take, if_pos hi]; exact h1, h2⟩
  · cases he
theorem TiesAt.drop {H : Hp} {es : List Addr} {ts : List Tie} (h : TiesAt H es ts) (k : Nat) : TiesAt H (es.drop k) (ts.drop k) := by
  refine ⟨by rw [List.length_drop, List.length_drop, h.1], fun i e he => ?_⟩
  rw [List.getElem?_drop] at he
  obtain ⟨t, h1, h2⟩ := h.2 _ e he
  exact ⟨t, by rw [List.getElem?_drop]; exact h1, h2⟩
theorem cut_to_l (xs : List V) (i : Nat) : cutV xs none (some ((i : Nat) : Int)) = xs.take i := by
  unfold cutV
  rw [HT.sIx_none, List.drop_zero, Nat.sub_zero, HT.sIx_nat]
  by_cases h : i ≤ xs.length
  · rw [Nat.min_eq_left h]
  · rw [Nat.min_eq_right (by omega), List.take_length, List.take_of_length_le (by omega)]
theorem eqv_tie (o q : Tie) : PyData.eqv (dT o) (dT q) = decide (o = q) := by
  obtain ⟨a, b, c⟩ := o
  obtain ⟨a', b', c'⟩ := q
  have h : ∀ x y : Nam, (sOf x == sOf y) = decide (x = y) := fun x y => by
    by_cases e : x = y
    · subst e; simp
    · rw [decide_eq_false e]
      cases e2 : (sOf x == sOf y) with
      | false => rfl
      | true => exact absurd (sOf_inj (eq_of_beq e2)) e
  simp only [dT, PyData.eqv, PyData.eqvAll, h, Bool.and_true, Prod.mk.injEq, Bool.decide_and]
  by_cases e : c = c' <;> simp [e]
theorem eqv_ties : ∀ os qs : List Tie, PyData.eqvAll (os.map dT) (qs.map dT) = decide (os = qs)
  | [], [] => by simp [PyData.eqvAll]
  | [], q :: qs => by simp [PyData.eqvAll]
  | o :: os, [] => by simp [PyData.eqvAll]
  | o :: os, q :: qs => by
    simp only [List.map_cons, PyData.eqvAll]
    rw [eqv_ties os qs, eqv_tie]
    by_cases h1 : o = q <;> by_cases h2 : os = qs <;> simp [h1, h2]
theorem eqv_tiesT (os qs : List Tie) : PyData.eqv (.tuple (os.map dT)) (.tuple (qs.map dT)) = decide (os = qs) := by
  simp only [PyData.eqv]
  exact eqv_ties os qs
theorem eqv_tiesL (os qs : List Tie) : PyData.eqv (.list (os.map dT)) (.list (qs.map dT)) = decide (os = qs) := by
  simp only [PyData.eqv]
  exact eqv_ties os qs
theorem shape_tiesT {ts : List Tie} (h : ∀ t ∈ ts, NmH t.1 ∧ NmH t.2.1) : SeqAt.shaped (.tuple (ts.map dT)) = true := by
  obtain ⟨h1, h2⟩ := ties_lay h
  show ((PyData.tuple _).canLay0 && decide ((PyData.tuple _).depth ≤ 64)) = true
  rw [show (PyData.tuple (ts.map dT)).canLay0 = true by simp only [PyData.canLay0, h1], show (PyData.tuple (ts.map dT)).depth = PyData.depthAll (ts.map dT) + 1 by simp only [PyData.depth]]
  exact decide_eq_true (by omega)
theorem LOk.tn {zs : List Nam} {ts : List Tie} (h : LOk zs ts) : ∀ t ∈ ts, NmH t.1 ∧ NmH t.2.1 := fun t m => ⟨.inl (h.nm _ (h.a t m)), .inl (h.nm _ (h.b t m))⟩
abbrev s_Links_len : Stmt := inClass (topS 29) 1
theorem sc_Links_len : FnScope ["self"] ["self"] (defScope s_Links_len) := ⟨rfl, rfl, rfl, by decide +kernel, rfl, by decide +kernel, by decide +kernel⟩
abbrev s_Links_iter : Stmt := inClass (topS 29) 2
theorem sc_Links_iter : FnScope ["self"] ["self"] (defScope s_Links_iter) := ⟨rfl, rfl, rfl, by decide +kernel, rfl, by decide +kernel, by decide +kernel⟩
abbrev s_Links_eq : Stmt := inClass (topS 29) 3
theorem sc_Links_eq : FnScope ["self", "other"] ["self", "other"] (defScope s_Links_eq) := ⟨rfl, rfl, rfl, by decide +kernel, rfl, by decide +kernel, by decide +kernel⟩
abbrev s_Links_tolls : Stmt := inClass (topS 29) 4
theorem sc_Links_tolls : FnScope ["self"] ["self"] (defScope s_Links_tolls) := ⟨rfl, rfl, rfl, by decide +kernel, rfl, by decide +kernel, by decide +kernel⟩
section
variable {P : Program} {w : World} {K : PySem.W.Frag} {mg : Str → Option Value} {base : Heap}
/-! Links.__iter__ -/
def RLk (K : PySem.W.Frag) (C : Addr) (a t : Addr) (H : Hp) : Prop := ∃ dx b xs, H a = some (.ins C dx (fldsL b t)) ∧ SqT K H t xs
theorem ok_Links_iter {f C : Addr} {fd : FuncData} (F : Fun K "__iter__" "Links.__iter__" s_Links_iter f fd) (b : Binds K fd ["self"] []) (T : TxtL K C) (m_iter : mg "iter" = none) : FnIt P w K mg base 1 f (RLk K C) := by
  refine fnIt_of (k := 0) F sc_Links_iter b fun cdv A outer s H a t hr hR => ?_
  obtain ⟨dx, b, xs, ha, ht⟩ := hR
  refine ⟨_, PSs.nox (pss_one (ps_ret (pe_callB call_iterT (by rfl) m_iter (by decide +kernel) (pa_cons (pe_fld (pv 0) rfl) pa_nil)))), ?_⟩
  exact ⟨_, rfl, a, C, dx, _, _, rfl, ha, T.cl, T.nL, fldsL_links _ _, t, xs, rfl, ht, fun it hn hs => ⟨it, rfl, hn, hs, rfl⟩⟩
/-! len of links -/
def spLenL (C : Addr) : Sp := fun vs H Q _ => ∃ (p : Addr) (zs : List Nam) (ts : List Tie), vs = [.ref p] ∧ LkAt C H p zs ts ∧ ts.length ≤ 12 ∧ Q (.int ((ts.length : Nat) : Int)) H
theorem ok_Links_len {f C : Addr} {fd : FuncData} (F : Fun K "__len__" "Links.__len__" s_Links_len f fd) (T : TxtL K C) (m_len : mg "len" = none) : FnOk P w K mg base CX0 1 f fd ["self"] (spLenL C) := by
  refine F.ok sc_Links_len (fun vs H Q E h => ?_) (fun cdv A outer s H vs Q E hr h => ?_)
  · obtain ⟨p, zs, ts, rfl, _⟩ := h
    rfl
  · obtain ⟨p, zs, ts, rfl, ⟨dx, a, b, es, hp, _, hb, hT⟩, l, q⟩ := h
    refine ⟨_, (pss_one (ps_ret (pe_callB call_len_seq (by rfl) m_len (by decide +kernel) (pa_cons (pe_fld (pv 0) rfl) pa_nil)))), ?_⟩
    refine ⟨_, rfl, p, C, dx, _, _, rfl, hp, T.cl, T.nL, fldsL_links _ _, b, _, rfl, .inr (tupAt hb), ?_⟩
    rw [List.length_map, hT.1]
    exact q
theorem lk_list {C p : Addr} {H : Hp} {zs : List Nam} {ts : List Tie} {Q : VK} (l : LkAt C H p zs ts) (t12 : ts.length ≤ 12) (h : ∀ q es, H q = none → TiesAt H es ts → Q (.ref q) (upd H q (.lst (es.map V.ref)))) : rListOwn K C (RLk K C) (spLenL C) E0 [.ref p] H Q := by
  obtain ⟨dx, a, b, es, hp, ha, hb, hT⟩ := id l
  have el : (es.map V.ref).length = ts.length := by rw [List.length_map, hT.1]
  refine ⟨p, dx, _, b, es.map V.ref, rfl, hp, tupAt hb, by omega, fun q nq => ?_, fun q nq => h q es nq hT⟩
  have s := same_upd (o := .lst []) nq
  exact ⟨⟨dx, a, _, s _ _ hp, tupAt (s _ _ hb)⟩, p, zs, ts, rfl, l.same s, t12, by rw [el], rfl⟩
/-! Links == anything -/
def spEqL (K : PySem.W.Frag) (C : Addr) : Sp := fun vs H Q _ => ∃ (p : Addr) (y : V) (zs : List Nam) (ts : List Tie), vs = [.ref p, y] ∧ LkAt C H p zs ts ∧ LOk zs ts ∧
  ((∃ t, TyX K H y t ∧ PySem.W.kitOne K t (.ref C) = some false ∧ Q (.bl false) H) ∨
   (∃ (p' : Addr) (us : List Nam) (ts' : List Tie), y = .ref p' ∧ LkAt C H p' us ts' ∧ LOk us ts' ∧ Q (.bl (decide (zs = us ∧ ts = ts'))) H))
theorem ok_Links_eq {f C : Addr} {fd : FuncData} (F : Fun K "__eq__" "Links.__eq__" s_Links_eq f fd) (T : TxtL K C) (m_isinstance : mg "isinstance" = none) (mg_Links : mg "Links" = some (.ref C))
    (ha : PySem.W.findIn K (.ref C) "__class__" = some (some (.builtin "object.__class__"))) (hn : PySem.W.specialIn K (.builtin "object.__class__") "__get__" = some (some (.builtin "getset_descriptor.__get__")))
    (htk : PySem.W.takesIn K (.builtin "object.__class__") = some true) (hm : PySem.W.mroIn K C (.type "object") = some true) : FnOk P w K mg base CX0 1 f fd ["self", "other"] (spEqL K C) := by
  refine F.ok sc_Links_eq (fun vs H Q E h => ?_) (fun cdv A outer s H vs Q E hr h => ?_)
  · obtain ⟨p, y, zs, ts, rfl, _⟩ := h
    rfl
  · obtain ⟨p, y, zs, ts, rfl, tk, ok, h⟩ := h
    obtain ⟨dx, a, b, es, hp, hA, hB, hT⟩ := id tk
    refine ⟨_, (pss_one (ps_ret (pe_and (pe_callB call_isi (by rfl) m_isinstance (by decide +kernel) (pa_cons (pv 1) (pa_cons (pe_glob (v := .ref C) (u := .ref C) (by rfl) mg_Links rfl) pa_nil))) (pe_and (pe_cmpR (op_eqD hr.units) (pe_fld (pv 0) rfl) (pe_fld (pv 1) rfl) (nomark _)) (pe_one (pe_cmpR (op_eqD hr.units) (pe_fld (pv 0) rfl) (pe_fld (pv 1) rfl) (nomark _))))))), ?_⟩
    rcases h with ⟨t, ty, kt, q⟩ | ⟨p', us, ts', rfl, tk', ok', q⟩
    · refine ⟨_, rfl, _, _, _, _, false, rfl, .own C, ty, kt, _, rfl, iteF ?_⟩
      exact q
    · obtain ⟨dx', a', b', es', hp', hA', hB', hT'⟩ := id tk'
      refine ⟨_, rfl, _, _, _, _, true, rfl, .own C, .base (.ins hp' T.cl ha hn htk hm), kit_self, _, rfl, iteT ?_⟩
      obtain ⟨d1, d3, d4⟩ := namesH_dp (K := K) (H := H) ok.ns.nm
      obtain ⟨d1', d3', d4'⟩ := namesH_dp (K := K) (H := H) ok'.ns.nm
      refine ⟨_, rfl, p, C, dx, _, _, rfl, hp, T.cl, T.nN, fldsL_names _ _, _, rfl, p', C, dx', _, _, rfl, hp', T.cl, T.nN, fldsL_names _ _, .tuple _, .tuple _, .tup hA.sq d1, .tup hA'.sq d1', nmT_shape d3 d4, nmT_shape d3' d4', _, rfl, ?_⟩
      rw [eqv_nmT]
      by_cases e : zs = us
      · rw [decide_eq_true e]
        refine iteT ⟨_, rfl, p, C, dx, _, _, rfl, hp, T.cl, T.nL, fldsL_links _ _, _, rfl, p', C, dx', _, _, rfl, hp', T.cl, T.nL, fldsL_links _ _, .tuple _, .tuple _, .tup (tupAt hB) (ties_dp hT), .tup (tupAt hB') (ties_dp hT'), shape_tiesT ok.tn, shape_tiesT ok'.tn, ?_⟩
        rw [eqv_tiesT]
        by_cases e2 : ts = ts'
        · rw [decide_eq_true e2]; rw [decide_eq_true ⟨e, e2⟩] at q; exact q
        · rw [decide_eq_false e2]; rw [decide_eq_false (fun z => e2 z.2)] at q; exact q
      · rw [decide_eq_false e]
        rw [decide_eq_false (fun z => e z.1)] at q
        exact iteF q
/-! Links.tolls -/
def spTollsM (K : PySem.W.Frag) (C CT : Addr) : Sp := fun vs H Q _ => ∃ (p : Addr) (zs : List Nam) (ts : List Tie), vs = [.ref p] ∧ LkAt C H p zs ts ∧ LOk zs ts ∧ ∀ H' r, H r = none → Same H H' → TkAt K CT H' r zs ts → Q (.ref r) H'
theorem ok_Links_tolls {f C CT fI : Addr} {fd fdI : FuncData} (F : Fun K "tolls" "Links.tolls" s_Links_tolls f fd) (T : TxtL K C) (M_Tolls : Mk K CT fI) (G_Tolls : FnOk P w K mg base CX0 3 fI fdI ["self", "names", "entries"] (spInitT K CT)) (mg_Tolls : mg "Tolls" = some (.ref CT)) (b_Tolls : Binds K fdI ["self", "names", "entries"] []) :
    FnOk P w K mg base CX0 5 f fd ["self"] (spTollsM K C CT) := by
  refine F.ok sc_Links_tolls (fun vs H Q E h => ?_) (fun cdv A outer s H vs Q E hr h => ?_)
  · obtain ⟨p, zs, ts, rfl, _⟩ := h
    rfl
  · obtain ⟨p, zs, ts, rfl, ⟨dx, a, b, es, hp, hA, hB, hT⟩, ok, q⟩ := h
    refine ⟨_, (pss_one (ps_ret (pe_make M_Tolls G_Tolls (hr.mono (by decide)) (by rfl) mg_Tolls b_Tolls .nil pass0 (pa_cons (pe_fld (pv 0) rfl) (pa_cons (pe_fld (pv 0) rfl) pa_nil))))), ?_⟩
    refine ⟨_, rfl, p, C, dx, _, _, rfl, hp, T.cl, T.nN, fldsL_names _ _, _, rfl, p, C, dx, _, _, rfl, hp, T.cl, T.nL, fldsL_links _ _, fun r d nr nd dn => ?_⟩
    have s2 := (same_upd (o := .own r) nd).trans (same_upd (H := upd H d (.own r)) (o := .ins CT d []) (by rw [upd_ne (Ne.symm dn)]; exact nr))
    have t12 := ok.t12
    refine ⟨r, a, b, d, zs, es, ts, rfl, upd_same, .inr (hA.same s2), .inr (same_tup s2 (tupAt hB)), hT.same s2, ok.ns, ok.eo, by omega, fun H' tk f => ?_⟩
    exact ⟨rfl, q H' r nr (fun c x e => f c x (s2 _ _ e) (ne_of_none e nr)) tk⟩
end
end TK

namespace TK
open PySem PySem.Spec PyProof.Rows L2
abbrev s_Links_raised : Stmt := inClass (topS 29) 5
theorem sc_Links_raised : FnScope ["self", "raises", "number", "more", "giver", "taker", "toll"] ["self", "raises"] (defScope s_Links_raised) := ⟨rfl, rfl, rfl, by decide +kernel, rfl, by decide +kernel, by decide +kernel⟩
abbrev s_Links_without : Stmt := inClass (topS 29) 6
theorem sc_Links_without : FnScope ["self", "numbers", "at", "link"] ["self", "numbers"] (defScope s_Links_without) := ⟨rfl, rfl, rfl, by decide +kernel, rfl, by decide +kernel, by decide +kernel⟩
theorem gTupM {K : PySem.W.Frag} {i j k l : Nat} {e t : Addr} {x y z m : V} {σ : L2.St} {H : Hp} {Q : L2.St → Hp → Prop} (he : H e = some (.tup [.ref t, m])) (ht : H t = some (.tup [x, y, z])) (σ' : L2.St) (hσ : (((σ.set i (some x)).set j (some y)).set k (some z)).set l (some m) = σ') (h : Q σ' H) :
    gTup K 2 (gCons (gTup K 3 (gCons (gName i) (gCons (gName j) (gCons (gName k) gNil)))) (gCons (gName l) gNil)) (.ref e) σ H Q := by
  subst hσ
  exact ⟨_, _, rfl, tupAt he, rfl, _, _, rfl, ⟨_, _, rfl, tupAt ht, rfl, _, _, rfl, _, _, rfl, _, _, rfl, rfl, _, _, rfl, rfl, h⟩⟩
theorem walk_zipT {K : PySem.W.Frag} {a b : Addr} {xs ys : List V} (hl : xs.length = ys.length) : Walk (RZ.ItzT K a b) xs.length (fun H => SqT K H a xs ∧ SqT K H b ys) (YPair (fun i => xs[i]?) (fun i => ys[i]?)) where
  goes := fun i H hi q => ⟨xs, ys, _, _, q.1, q.2, List.getElem?_eq_getElem hi, List.getElem?_eq_getElem (hl ▸ hi)⟩
  stops := fun H q => ⟨xs, ys, q.1, q.2, .inl (Nat.le_refl _)⟩
  yields := fun i H v H' _ q y => by
    obtain ⟨T, x, z, h1, h2, h3, h4, h5⟩ := y
    exact ⟨T, x, z, h1, h2, h3, h4 xs q.1, h5 ys q.2⟩
/-- each toll raised -/
def raiseT (ts : List Tie) (ms : List Int) : List Tie := List.zipWith (fun t m => (t.1, t.2.1, t.2.2 + m)) ts ms
theorem raise_snoc {ts : List Tie} {ms : List Int} {i : Nat} {t : Tie} {m : Int} (h1 : ts[i]? = some t) (h2 : ms[i]? = some m) : (raiseT ts ms).take (i + 1) = (raiseT ts ms).take i ++ [(t.1, t.2.1, t.2.2 + m)] := by
  unfold raiseT
  rw [List.take_add_one, List.getElem?_zipWith, h1, h2]
  rfl
theorem raise_len {ts : List Tie} {ms : List Int} (h : ms.length = ts.length) : (raiseT ts ms).length = ts.length := by
  unfold raiseT
  rw [List.length_zipWith, h, Nat.min_self]
/-- the links whose places are not among the numbers -/
def leftT (ks : List Int) (ts : List Tie) (n : Nat) : List Tie := (List.range n).filterMap fun i : Nat => if (i : Int) ∈ ks then none else ts[i]?
theorem left_snoc {ks : List Int} {ts : List Tie} {i : Nat} {t : Tie} (h : ts[i]? = some t) : leftT ks ts (i + 1) = leftT ks ts i ++ (if (i : Int) ∈ ks then [] else [t]) := by
  unfold leftT
  rw [List.range_succ, List.filterMap_append]
  by_cases e : (i : Int) ∈ ks
  · rw [if_pos e]; simp [e]
  · rw [if_neg e]; simp [e, h]
theorem left_mem {ks : List Int} {ts : List Tie} {n : Nat} {t : Tie} (h : t ∈ leftT ks ts n) : t ∈ ts := by
  unfold leftT at h
  obtain ⟨i, _, hi⟩ := List.mem_filterMap.mp h
  split at hi
  · cases hi
  · exact List.mem_of_getElem? hi
theorem left_len (ks : List Int) (ts : List Tie) (n : Nat) : (leftT ks ts n).length ≤ n := by
  unfold leftT
  refine Nat.le_trans (List.length_filterMap_le _ _) ?_
  rw [List.length_range]
  exact Nat.le_refl _
theorem left_ok {zs : List Nam} {ks : List Int} {ts : List Tie} (h : LOk zs ts) : LOk zs (leftT ks ts ts.length) :=
  ⟨h.nm, h.nd, h.l1, h.l6, Nat.le_trans (left_len _ _ _) h.t12, fun t m => h.a t (left_mem m), fun t m => h.b t (left_mem m), fun t m => h.ne t (left_mem m), fun t m => h.h0 t (left_mem m), fun t m => h.h9 t (left_mem m)⟩
section
variable {X : Cx} {CX : CXT} {k : Nat} {f C : Addr} {m : Str} {sp : Sp} {E : XK} {apos pos : Pos} {o e : Expr} {es : List Expr} {ta : TE} {t : TA}
def tMethR (C : Addr) (m : Str) (sp : Sp) (E : XK) (ta : TE) (t : TA) : TE := fun σ H Q => ta σ H fun x H1 => ∃ a dx fs, x = V.ref a ∧ H1 a = some (.ins C dx fs) ∧ fs.lookup m = none ∧
  t σ H1 fun vs H2 => sp (x :: vs) H2 Q E
/-- o.m(e, ..), m a def with a star parameter -/
theorem pe_methR {pl : Sem Bool} (he : PE X o ta) (c : Cls X.K C) (hm : Meth X.K C m f) (F : FnR X.prog X.w X.K X.mg X.base CX k f sp) (hr : Room k X.A) (hx : Passes CX X E) (ha : PA X (e :: es) t)
    (hst : starEach (e :: es) X.env = (false, eval e X.env) :: starEach es X.env := by rfl) (hpl : (backTo pos (starEach es X.env)).any (·.1) = false := by rfl)
    (ht : eval (.Call (.Attribute o m apos) (e :: es) [] pos) X.env = (do
      let ov ← eval o X.env
      standAt apos.atName
      let (f, first) ← holding [ov] (getMethod ov m pl)
      callWith pos f first (backTo pos (starEach (e :: es) X.env)) (backToKw pos (keywordEach [] X.env))) := by rfl) :
    PE X (.Call (.Attribute o m apos) (e :: es) [] pos) (tMethR C m sp E ta t) := by
  refine ⟨fun pins s σ H Q I h => ?_⟩
  refine PySem.W.methodCall_KW (pl := pl) (thn (he.run pins s σ H _ I h) fun u s1 ⟨x, H1, I1, rx, a, dx, fs, ex, ea, l, q⟩ => ?_) ht
  subst ex
  obtain rfl : u = Value.ref a := rx
  refine getmeth_ok I1 ea c hm l ?_
  refine PySem.W.callWith_K (first := [.ref a]) (h₀ := X.base) I.ok.mod.kin hm.kp (thn (ha.run pos pins s1 σ H1 _ I1 q) fun us s2 ⟨vs, H2, I2, r, q2⟩ => ⟨I2.kIn, ?_⟩) hst hpl
  exact wpAny_call (run_fnR (us := .ref a :: us) (vs := .ref a :: vs) F hr hx I2 (.cons rfl r) q2)
/-- o.m() -/
theorem pe_methR0 {pl : Sem Bool} (he : PE X o ta) (c : Cls X.K C) (hm : Meth X.K C m f) (F : FnR X.prog X.w X.K X.mg X.base CX k f sp) (hr : Room k X.A) (hx : Passes CX X E)
    (ht : eval (.Call (.Attribute o m apos) [] [] pos) X.env = (do
      let ov ← eval o X.env
      standAt apos.atName
      let (f, first) ← holding [ov] (getMethod ov m pl)
      callWith pos f first (backTo pos (starEach [] X.env)) (backToKw pos (keywordEach [] X.env))) := by rfl) :
    PE X (.Call (.Attribute o m apos) [] [] pos) (tMethR C m sp E ta tNil) := by
  refine ⟨fun pins s σ H Q I h => ?_⟩
  refine PySem.W.methodCall_KW (pl := pl) (thn (he.run pins s σ H _ I h) fun u s1 ⟨x, H1, I1, rx, a, dx, fs, ex, ea, l, q⟩ => ?_) ht
  subst ex
  obtain rfl : u = Value.ref a := rx
  refine getmeth_ok I1 ea c hm l ?_
  exact PySem.W.callWith_K0 (first := [.ref a]) I1.kIn hm.kp (wpAny_call (run_fnR (us := [.ref a]) (vs := [.ref a]) F hr hx I1 (.cons rfl .nil) q))
end
section
variable {P : Program} {w : World} {K : PySem.W.Frag} {mg : Str → Option Value} {base : Heap}
theorem eqv_int {a b : Int} : eqV (.int a) (.int b) = decide (a = b) := by
  show (a == b) = _
  by_cases h : a = b
  · subst h; simp
  · rw [decide_eq_false h]; exact beq_eq_false_iff_ne.mpr h
theorem inV_int {k : Int} : ∀ ks : List Int, inV (.int k) (ks.map V.int) = decide (k ∈ ks)
  | [] => rfl
  | c :: ks => by
    show (eqV (.int c) (.int k) || inV (.int k) (ks.map V.int)) = _
    rw [inV_int ks, eqv_int]
    by_cases h : c = k
    · subst h; simp
    · have : ¬ k = c := fun e => h e.symm
      simp [h, this]
theorem notin_int {k : Int} {ks : List Int} : (if true = true then !inV (V.int k) (ks.map V.int) else inV (V.int k) (ks.map V.int)) = !decide (k ∈ ks) := by
  rw [if_pos rfl, inV_int]
theorem ints_flat (ns : List Int) : (ns.map V.int).all flatV = true := by
  rw [List.all_eq_true]
  intro x hx
  obtain ⟨c, _, rfl⟩ := List.mem_map.mp hx
  rfl
/-! check_numbers -/
def spCheckNum (K : PySem.W.Frag) (C : Addr) : Sp := fun vs H Q _ => ∃ (p a : Addr) (zs : List Nam) (ts : List Tie) (ks : List Int), vs = [.ref p, .ref a] ∧ LkAt C H p zs ts ∧ ts.length ≤ 12 ∧ SqT K H a (ks.map V.int) ∧ (∀ k ∈ ks, 0 ≤ k ∧ k < (ts.length : Int)) ∧ Q .non H
theorem ok_check_numbers {f C gL : Addr} {fd fdL : FuncData} (F : Fun K "check_numbers" "check_numbers" s_check_numbers f fd) (m_len : mg "len" = none)
    (O_len : Own K C "__len__" gL) (G_len : FnOk P w K mg base CX0 1 gL fdL ["self"] (spLenL C)) (b_len : Binds K fdL ["self"] []) : FnOk P w K mg base CX0 4 f fd ["links", "numbers"] (spCheckNum K C) := by
  refine F.ok sc_check_numbers (fun vs H Q E h => ?_) (fun cdv A outer s H vs Q E hr h => ?_)
  · obtain ⟨p, a, zs, ts, ks, rfl, _⟩ := h
    rfl
  · obtain ⟨p, a, zs, ts, ks, rfl, lk, t12, hS, ok, q⟩ := h
    obtain ⟨dx, na, lb, es, hp, _⟩ := id lk
    refine ⟨_, (pss_one (ps_for PassesOwn.never rfl (pi_tup (pv 1)) (pg_name (i := 2) sc_check_numbers.nd rfl (.inl rfl))
    (pss_one (ps_if (pt_not (pt_chain op_le op_lt pe_int (pv 2) (pe_callB (call_lenOwn O_len G_len (hr.mono (by decide)) b_len pass0) (by rfl) m_len (by decide +kernel) (pa_cons (pv 0) pa_nil)))) (pss_one ps_never) pss_nil)))), ?_⟩
    refine ⟨_, rfl, a, rfl, ⟨_, hS⟩, for_tup (K := K) (a := a) (xs := ks.map V.int) (fun i σ H' => H' = H ∧ ∃ y2 : Option V, σ = [some (.ref p), some (.ref a), y2]) ⟨rfl, none, rfl⟩ (fun i σ H' _ hq => by rw [hq.1]; exact hS) ?_ ?_⟩
    · rintro i x σ H1 hx ⟨rfl, y2, rfl⟩
      obtain ⟨k, ek, rfl⟩ := int_at hx
      have ik := ok k (List.mem_of_getElem? ek)
      refine ⟨_, rfl, _, _, rfl, rfl, _, rfl, ?_⟩
      rw [decide_eq_true ik.1]
      refine iteT ⟨_, rfl, p, dx, _, rfl, hp, p, zs, ts, rfl, lk, t12, _, rfl, by omega, by omega, _, _, rfl, rfl, _, rfl, ?_⟩
      rw [decide_eq_true ik.2]
      exact iteF ⟨rfl, _, rfl⟩
    · rintro σ H1 ⟨rfl, y2, rfl⟩
      exact q
/-! Links.without -/
def spWithout (C : Addr) : Sp := fun vs H Q _ => ∃ (p t : Addr) (zs : List Nam) (ts : List Tie) (ks : List Int), vs = [.ref p, .ref t] ∧ LkAt C H p zs ts ∧ LOk zs ts ∧ H t = some (.tup (ks.map V.int)) ∧ ks.length ≤ 12 ∧ (∀ k ∈ ks, 0 ≤ k ∧ k < (ts.length : Int)) ∧
  ∀ H' r, H r = none → Same H H' → LkAt C H' r zs (leftT ks ts ts.length) → Q (.ref r) H'
def spWithoutR (C : Addr) : Sp := fun vs H Q E => ∃ ws rest : List V, vs = ws ++ rest ∧ ws.length = 1 ∧ rest.length ≤ sizeLine ∧ ∀ p, H p = none → spWithout C (ws ++ [V.ref p]) (upd H p (.tup rest)) Q E
theorem ok_Links_without {f C fI : Addr} {fd fdI : FuncData} (F : Fun K "without" "Links.without" s_Links_without f fd) (T : TxtL K C) (m_enumerate : mg "enumerate" = none)
    (M_Links : Mk K C fI) (G_Links : FnOk P w K mg base CX0 3 fI fdI ["self", "names", "links"] (spInitL K C)) (mg_Links : mg "Links" = some (.ref C)) (b_Links : Binds K fdI ["self", "names", "links"] [])
    (d_check_numbers : Def P w K mg base "check_numbers" 4 ["links", "numbers"] (spCheckNum K C)) : FnR P w K mg base CX0 6 f (spWithoutR C) := by
  obtain ⟨oc, od, kV, doc, pm, an, cdv, ct, osl, rfl, lk, hcd⟩ := F.ex
  have hb : ∀ us rest : List Value, us.length = [Str.ofString "self"].length → bindArgs (PySem.W.fnOf (Str.ofString "without") (Str.ofString "Links.without") (defArgs s_Links_without) (defBody s_Links_without) (defScope s_Links_without) Value.none kV doc pm an cdv ct) ⟨us ++ rest, []⟩ = (newTuple rest >>= fun t => pure (([Str.ofString "self"] : List Str).zip us ++ [(Str.ofString "numbers", t)])) :=
    StX.bind_star1 (B := fun us => bindArgs (PySem.W.fnOf (Str.ofString "without") (Str.ofString "Links.without") (defArgs s_Links_without) (defBody s_Links_without) (defScope s_Links_without) Value.none kV doc pm an cdv ct) ⟨us, []⟩) (p1 := Str.ofString "self") (pv := Str.ofString "numbers") (fun a => rfl) (fun a r rs => rfl)
  refine StX.fn_star (ps := ["self"]) (pv := "numbers") (N := ["self", "numbers", "at", "link"]) (sp := spWithout C) lk hcd sc_Links_without StX.cxUp_none hb fun A outer s H vs Q E hr h => ?_
  obtain ⟨p, t, zs, ts, ks, rfl, l, ok, ht, k12, hk, q⟩ := h
  obtain ⟨dx, a, b, es, hp, hA, hB, hT⟩ := id l
  have el : (es.map V.ref).length = ts.length := by rw [List.length_map, hT.1]
  have t12 := ok.t12
  refine ⟨_, PSs.nox (pss_cons (ps_expr (pe_callD d_check_numbers (hr.mono (by decide)) (by rfl) (pa_cons (pv 0) (pa_cons (pv 1) pa_nil))))
  (pss_one (ps_ret (pe_make M_Links G_Links (hr.mono (by decide)) (by rfl) mg_Links b_Links .nil pass0 (pa_cons (pe_fld (pv 0) rfl) (pa_cons (pe_lc (own := [("at", 2), ("link", 3)]) (by rfl) sc_Links_without.nd (pi_enumT (by rfl) m_enumerate (pa_cons (pe_fld (pv 0) rfl) pa_nil)) (blkOk_by (N := ["self", "numbers", "at", "link"]) (sc := defScope s_Links_without) (by decide +kernel)) (fun _ _ _ _ _ => (pg_tupK (K := K) (n := 2) rfl (by rfl) (pgs_cons (pg_name (i := 2) sc_Links_without.nd rfl (.inl rfl)) (pgs_cons (pg_name (i := 3) sc_Links_without.nd rfl (.inl rfl)) pgs_nil)))) (fun _ _ _ _ _ => (pts_one (pt_cmpR (op_notIn_seqK (K := K) rfl) (pv 2) (pv 1) (by rfl)))) (fun _ _ _ _ _ => (pv 3))) pa_nil)))))), ?_⟩
  refine ⟨_, rfl, _, rfl, p, t, zs, ts, ks, rfl, l, t12, tupAt ht, hk, ?_⟩
  refine ⟨_, rfl, p, C, dx, _, _, rfl, hp, T.cl, T.nN, fldsL_names _ _, _, rfl, p, C, dx, _, _, rfl, hp, T.cl, T.nL, fldsL_links _ _, b, _, rfl, tupAt hB, fun D nD => ?_⟩
  refine lc_it (walk_enumT (K := K) (a := b) (xs := es.map V.ref)) (fun i H' => ∃ es' : List Addr, Same H H' ∧ H' D = some (.lst (es'.map V.ref)) ∧ TiesAt H' es' (leftT ks ts i)) ⟨[], same_upd nD, upd_same, rfl, fun _ _ h => nomatch h⟩ (fun i H' _ hq => same_tup hq.choose_spec.1 (tupAt hB)) (fun i x H1 H2 hi hq hy => ?_) (fun H' hq => ?_)
  · obtain ⟨es', s1, eD, hT1⟩ := hq
    obtain ⟨T0, x0, y0, rfl, nT, rfl, e1, e2⟩ := hy
    cases Option.some.inj e1
    obtain ⟨e, tt, rfl, _, et, hte⟩ := ties_at hT e2
    have sT := same_upd (o := .tup [.int (i : Nat), V.ref e]) nT
    have s2 := s1.trans sT
    have hi12 : i < 12 := by rw [el] at hi; omega
    have l5 : es'.length ≤ i := by rw [hT1.1]; exact left_len _ _ _
    refine ⟨_, _, rfl, tupAt upd_same, rfl, _, _, rfl, _, _, rfl, rfl, rfl, ?_⟩
    refine ⟨_, rfl, _, rfl, t, _, rfl, .inr (same_tup s2 (tupAt ht)), rfl, ints_flat _, _, rfl, ?_⟩
    rw [notin_int, left_snoc et]
    by_cases hm : (i : Int) ∈ ks
    · rw [decide_eq_true hm, if_pos hm, List.append_nil]
      exact iteF ⟨es', s2, sT _ _ eD, hT1.same sT⟩
    · rw [decide_eq_false hm, if_neg hm]
      refine iteT ⟨_, rfl, _, sT _ _ eD, by rw [List.length_map]; exact small1000 (by omega), es' ++ [e], same_at s2 nD, by rw [List.map_append]; exact upd_same, ?_⟩
      have eD2 := sT _ _ eD
      have fD : ∀ c x, upd H1 T0 (.tup [.int (i : Nat), V.ref e]) c = some x → x ≠ .lst (es'.map V.ref) → (upd (upd H1 T0 (.tup [.int (i : Nat), V.ref e])) D (.lst (es'.map V.ref ++ [V.ref e]))) c = some x := fun c x q n => by rw [upd_ne (fun z => n (by rw [z, eD2] at q; exact (Option.some.inj q).symm))]; exact q
      refine ⟨by rw [List.length_append, List.length_append, hT1.1]; rfl, (TiesAt.snoc (e := e) (t := tt) (H := upd (upd H1 T0 (.tup [.int (i : Nat), V.ref e])) D (.lst (es'.map V.ref ++ [V.ref e]))) ⟨hT1.1, fun j e he => ?_⟩ (Same.refl _) (fD _ _ (s2 _ _ hte) (by intro z; cases z))).2⟩
      obtain ⟨t', h1, h2⟩ := hT1.2 j e he
      exact ⟨t', h1, fD _ _ (sT _ _ h2) (by intro z; cases z)⟩
  · obtain ⟨es', s1, eD, hT1⟩ := hq
    rw [el] at hT1
    intro r d nr nd dn
    have s2 := (same_upd (o := .own r) nd).trans (same_upd (H := upd H' d (.own r)) (o := .ins C d []) (by rw [upd_ne (Ne.symm dn)]; exact nr))
    refine ⟨r, a, D, d, zs, es', _, rfl, upd_same, .inr (hA.same (s1.trans s2)), .inl (lstAt (s2 _ _ eD)), hT1.same s2, left_ok ok, fun H3 lk3 f => ⟨rfl, q H3 r (none_of s1 nr) (fun c x e => f c x (s2 _ _ (s1 _ _ e)) (ne_of_none (s1 _ _ e) nr)) lk3⟩⟩
/-! Links.raised -/
def spRaised (K : PySem.W.Frag) (C : Addr) : Sp := fun vs H Q _ => ∃ (p a : Addr) (zs : List Nam) (ts : List Tie) (ms : List Int), vs = [.ref p, .ref a] ∧ LkAt C H p zs ts ∧ LOk zs ts ∧ SqS K H a (ms.map V.int) ∧ ms.length = ts.length ∧ (∀ m ∈ ms, 0 ≤ m) ∧ LOk zs (raiseT ts ms) ∧
  ∀ H' r, H r = none → Same H H' → LkAt C H' r zs (raiseT ts ms) → Q (.ref r) H'
theorem ok_Links_raised {f C fI : Addr} {fd fdI : FuncData} (F : Fun K "raised" "Links.raised" s_Links_raised f fd) (T : TxtL K C) (m_len : mg "len" = none) (m_zip : mg "zip" = none)
    (M_Links : Mk K C fI) (G_Links : FnOk P w K mg base CX0 3 fI fdI ["self", "names", "links"] (spInitL K C)) (mg_Links : mg "Links" = some (.ref C)) (b_Links : Binds K fdI ["self", "names", "links"] []) :
    FnOk P w K mg base CX0 5 f fd ["self", "raises"] (spRaised K C) := by
  refine F.ok sc_Links_raised (fun vs H Q E h => ?_) (fun cdv A outer s H vs Q E hr h => ?_)
  · obtain ⟨p, a, zs, ts, ms, rfl, _⟩ := h
    rfl
  · obtain ⟨p, a, zs, ts, ms, rfl, l, ok, hS, ml, m0, ok2, q⟩ := h
    obtain ⟨dx, na, b, es, hp, hA, hB, hT⟩ := id l
    have el : (es.map V.ref).length = ts.length := by rw [List.length_map, hT.1]
    have ml2 : (ms.map V.int).length = ts.length := by rw [List.length_map, ml]
    have t12 := ok.t12
    rcases hS with hS | hS
    · refine ⟨_, PSs.nox (pss_cons (ps_if (pt_cmpR op_ne (pe_callB call_len_seq (by rfl) m_len (by decide +kernel) (pa_cons (pv 1) pa_nil)) (pe_callB call_len_seq (by rfl) m_len (by decide +kernel) (pa_cons (pe_fld (pv 0) rfl) pa_nil)) (nomark _)) (pss_one ps_never) pss_nil)
  (pss_cons (ps_for PassesOwn.never rfl (pi_list (pv 1)) (pg_name (i := 2) sc_Links_raised.nd rfl (.inl rfl))
    (pss_one (ps_if (pt_cmpR op_lt (pv 2) pe_int (nomark _)) (pss_one ps_never) pss_nil)))
  (pss_one (ps_ret (pe_make M_Links G_Links (hr.mono (by decide)) (by rfl) mg_Links b_Links .nil pass0 (pa_cons (pe_fld (pv 0) rfl) (pa_cons (pe_lc (own := [("more", 3), ("giver", 4), ("taker", 5), ("toll", 6)]) (by rfl) sc_Links_raised.nd (pi_zipM (by rfl) m_zip (pa_cons (pe_fld (pv 0) rfl) (pa_cons (pv 1) pa_nil))) (blkOk_by (N := ["self", "raises", "number", "more", "giver", "taker", "toll"]) (sc := defScope s_Links_raised) (by decide +kernel)) (fun _ _ _ _ _ => (pg_tupK (K := K) (n := 2) rfl (by rfl) (pgs_cons (pg_tupK (K := K) (n := 3) rfl (by rfl) (pgs_cons (pg_name (i := 4) sc_Links_raised.nd rfl (.inl rfl)) (pgs_cons (pg_name (i := 5) sc_Links_raised.nd rfl (.inl rfl)) (pgs_cons (pg_name (i := 6) sc_Links_raised.nd rfl (.inl rfl)) pgs_nil)))) (pgs_cons (pg_name (i := 3) sc_Links_raised.nd rfl (.inl rfl)) pgs_nil)))) (fun _ _ _ _ _ => pts_nil) (fun _ _ _ _ _ => (pe_tup (pa_cons (pv 4) (pa_cons (pv 5) (pa_cons (pe_op op_add (pv 6) (pv 3)) pa_nil)))))) pa_nil))))))), ?_⟩
      refine ⟨_, rfl, a, _, rfl, .inl hS, _, rfl, p, C, dx, _, _, rfl, hp, T.cl, T.nL, fldsL_links _ _, b, _, rfl, .inr (tupAt hB), rfl, _, rfl, ?_⟩
      rw [ml2, el, decide_eq_true rfl]
      refine iteF ?_
      refine ⟨_, rfl, a, rfl, ⟨_, hS⟩, for_list (K := K) (a := a) (xs := ms.map V.int) (fun i σ H' => H' = H ∧ ∃ y2 : Option V, σ = [some (.ref p), some (.ref a), y2, none, none, none, none]) ⟨rfl, none, rfl⟩ (fun i σ H' _ hq => by rw [hq.1]; exact hS) ?_ ?_⟩
      · rintro i x σ H1 hx ⟨rfl, y2, rfl⟩
        obtain ⟨k, ek, rfl⟩ := int_at hx
        have ik := m0 k (List.mem_of_getElem? ek)
        refine ⟨_, rfl, _, _, rfl, rfl, _, rfl, ?_⟩
        rw [decide_eq_false (show ¬ k < 0 by omega)]
        exact iteF ⟨rfl, _, rfl⟩
      rintro σ H1 ⟨rfl, y2, rfl⟩
      refine ⟨_, rfl, p, C, dx, _, _, rfl, hp, T.cl, T.nN, fldsL_names _ _, _, rfl, p, C, dx, _, _, rfl, hp, T.cl, T.nL, fldsL_links _ _, _, rfl, b, a, _, _, rfl, tupAt hB, hS, fun D nD => ?_⟩
      refine lc_it (walk_zipM (K := K) (a := b) (b := a) (xs := es.map V.ref) (ys := ms.map V.int) (by rw [el, ml2])) (fun i H' => ∃ es' : List Addr, Same H1 H' ∧ H' D = some (.lst (es'.map V.ref)) ∧ TiesAt H' es' ((raiseT ts ms).take i)) ⟨[], same_upd nD, upd_same, rfl, fun _ _ h => nomatch h⟩ (fun i H' _ hq => ⟨same_tup hq.choose_spec.1 (tupAt hB), hq.choose_spec.1.seq hS⟩) (fun i x H2 H3 hi hq hy => ?_) (fun H' hq => ?_)
      · obtain ⟨es', s1, eD, hT1⟩ := hq
        obtain ⟨T0, x0, y0, rfl, nT, rfl, e1, e2⟩ := hy
        obtain ⟨e, tt, rfl, _, et, hte⟩ := ties_at hT e1
        obtain ⟨m, em, rfl⟩ := int_at e2
        have sT := same_upd (o := .tup [V.ref e, .int m]) nT
        have s2 := s1.trans sT
        have hi12 : i < 12 := by rw [el] at hi; omega
        have l5 : es'.length ≤ i := by rw [hT1.1, List.length_take]; omega
        refine gTupM upd_same (s2 _ _ hte) [some (.ref p), some (.ref a), y2, some (.int m), some (vN tt.1), some (vN tt.2.1), some (.int tt.2.2)] (by simp [wipe]) ?_
        refine ⟨by simp [wipe], yesT ⟨_, rfl, _, rfl, _, rfl, _, rfl, _, _, rfl, rfl, (show (3 : Nat) ≤ sizeLine by decide), fun q5 nq => ?_⟩⟩
        have sq := same_upd (o := .tup [vN tt.1, vN tt.2.1, .int (tt.2.2 + m)]) nq
        have eD2 := sq _ _ (sT _ _ eD)
        refine ⟨_, eD2, by rw [List.length_map]; exact small1000 (by omega), es' ++ [q5], same_at (s2.trans sq) nD, by rw [List.map_append]; exact upd_same, ?_⟩
        rw [raise_snoc et em]
        have fD : ∀ c x, upd (upd H2 T0 (.tup [V.ref e, .int m])) q5 (.tup [vN tt.1, vN tt.2.1, .int (tt.2.2 + m)]) c = some x → x ≠ .lst (es'.map V.ref) → (upd (upd (upd H2 T0 (.tup [V.ref e, .int m])) q5 (.tup [vN tt.1, vN tt.2.1, .int (tt.2.2 + m)])) D (.lst (es'.map V.ref ++ [V.ref q5]))) c = some x := fun c x q n => by rw [upd_ne (fun z => n (by rw [z, eD2] at q; exact (Option.some.inj q).symm))]; exact q
        refine ⟨by rw [List.length_append, List.length_append, hT1.1]; rfl, (TiesAt.snoc (e := q5) (t := (tt.1, tt.2.1, tt.2.2 + m)) (H := upd (upd (upd H2 T0 (.tup [V.ref e, .int m])) q5 (.tup [vN tt.1, vN tt.2.1, .int (tt.2.2 + m)])) D (.lst (es'.map V.ref ++ [V.ref q5]))) ⟨hT1.1, fun j e he => ?_⟩ (Same.refl _) (fD _ _ upd_same (by intro z; cases z))).2⟩
        obtain ⟨t', h1, h2⟩ := hT1.2 j e he
        exact ⟨t', h1, fD _ _ (sq _ _ (sT _ _ h2)) (by intro z; cases z)⟩
      · obtain ⟨es', s1, eD, hT1⟩ := hq
        rw [el, List.take_of_length_le (by rw [raise_len ml]; exact Nat.le_refl _)] at hT1
        intro r d nr nd dn
        have s2 := (same_upd (o := .own r) nd).trans (same_upd (H := upd H' d (.own r)) (o := .ins C d []) (by rw [upd_ne (Ne.symm dn)]; exact nr))
        refine ⟨r, na, D, d, zs, es', _, rfl, upd_same, .inr (hA.same (s1.trans s2)), .inl (lstAt (s2 _ _ eD)), hT1.same s2, ok2, fun H3 lk3 f => ⟨rfl, q H3 r (none_of s1 nr) (fun c x e => f c x (s2 _ _ (s1 _ _ e)) (ne_of_none (s1 _ _ e) nr)) lk3⟩⟩
    · refine ⟨_, PSs.nox (pss_cons (ps_if (pt_cmpR op_ne (pe_callB call_len_seq (by rfl) m_len (by decide +kernel) (pa_cons (pv 1) pa_nil)) (pe_callB call_len_seq (by rfl) m_len (by decide +kernel) (pa_cons (pe_fld (pv 0) rfl) pa_nil)) (nomark _)) (pss_one ps_never) pss_nil)
  (pss_cons (ps_for PassesOwn.never rfl (pi_tup (pv 1)) (pg_name (i := 2) sc_Links_raised.nd rfl (.inl rfl))
    (pss_one (ps_if (pt_cmpR op_lt (pv 2) pe_int (nomark _)) (pss_one ps_never) pss_nil)))
  (pss_one (ps_ret (pe_make M_Links G_Links (hr.mono (by decide)) (by rfl) mg_Links b_Links .nil pass0 (pa_cons (pe_fld (pv 0) rfl) (pa_cons (pe_lc (own := [("more", 3), ("giver", 4), ("taker", 5), ("toll", 6)]) (by rfl) sc_Links_raised.nd (RZ.pi_zipA (by rfl) m_zip (pa_cons (pe_fld (pv 0) rfl) (pa_cons (pv 1) pa_nil))) (blkOk_by (N := ["self", "raises", "number", "more", "giver", "taker", "toll"]) (sc := defScope s_Links_raised) (by decide +kernel)) (fun _ _ _ _ _ => (pg_tupK (K := K) (n := 2) rfl (by rfl) (pgs_cons (pg_tupK (K := K) (n := 3) rfl (by rfl) (pgs_cons (pg_name (i := 4) sc_Links_raised.nd rfl (.inl rfl)) (pgs_cons (pg_name (i := 5) sc_Links_raised.nd rfl (.inl rfl)) (pgs_cons (pg_name (i := 6) sc_Links_raised.nd rfl (.inl rfl)) pgs_nil)))) (pgs_cons (pg_name (i := 3) sc_Links_raised.nd rfl (.inl rfl)) pgs_nil)))) (fun _ _ _ _ _ => pts_nil) (fun _ _ _ _ _ => (pe_tup (pa_cons (pv 4) (pa_cons (pv 5) (pa_cons (pe_op op_add (pv 6) (pv 3)) pa_nil)))))) pa_nil))))))), ?_⟩
      refine ⟨_, rfl, a, _, rfl, .inr hS, _, rfl, p, C, dx, _, _, rfl, hp, T.cl, T.nL, fldsL_links _ _, b, _, rfl, .inr (tupAt hB), rfl, _, rfl, ?_⟩
      rw [ml2, el, decide_eq_true rfl]
      refine iteF ?_
      refine ⟨_, rfl, a, rfl, ⟨_, hS⟩, for_tup (K := K) (a := a) (xs := ms.map V.int) (fun i σ H' => H' = H ∧ ∃ y2 : Option V, σ = [some (.ref p), some (.ref a), y2, none, none, none, none]) ⟨rfl, none, rfl⟩ (fun i σ H' _ hq => by rw [hq.1]; exact hS) ?_ ?_⟩
      · rintro i x σ H1 hx ⟨rfl, y2, rfl⟩
        obtain ⟨k, ek, rfl⟩ := int_at hx
        have ik := m0 k (List.mem_of_getElem? ek)
        refine ⟨_, rfl, _, _, rfl, rfl, _, rfl, ?_⟩
        rw [decide_eq_false (show ¬ k < 0 by omega)]
        exact iteF ⟨rfl, _, rfl⟩
      rintro σ H1 ⟨rfl, y2, rfl⟩
      refine ⟨_, rfl, p, C, dx, _, _, rfl, hp, T.cl, T.nN, fldsL_names _ _, _, rfl, p, C, dx, _, _, rfl, hp, T.cl, T.nL, fldsL_links _ _, _, rfl, b, a, _, _, rfl, .inr ⟨tupAt hB, hS, fun D nD => ?_⟩⟩
      refine lc_it (walk_zipT (K := K) (a := b) (b := a) (xs := es.map V.ref) (ys := ms.map V.int) (by rw [el, ml2])) (fun i H' => ∃ es' : List Addr, Same H1 H' ∧ H' D = some (.lst (es'.map V.ref)) ∧ TiesAt H' es' ((raiseT ts ms).take i)) ⟨[], same_upd nD, upd_same, rfl, fun _ _ h => nomatch h⟩ (fun i H' _ hq => ⟨same_tup hq.choose_spec.1 (tupAt hB), same_tup hq.choose_spec.1 hS⟩) (fun i x H2 H3 hi hq hy => ?_) (fun H' hq => ?_)
      · obtain ⟨es', s1, eD, hT1⟩ := hq
        obtain ⟨T0, x0, y0, rfl, nT, rfl, e1, e2⟩ := hy
        obtain ⟨e, tt, rfl, _, et, hte⟩ := ties_at hT e1
        obtain ⟨m, em, rfl⟩ := int_at e2
        have sT := same_upd (o := .tup [V.ref e, .int m]) nT
        have s2 := s1.trans sT
        have hi12 : i < 12 := by rw [el] at hi; omega
        have l5 : es'.length ≤ i := by rw [hT1.1, List.length_take]; omega
        refine gTupM upd_same (s2 _ _ hte) [some (.ref p), some (.ref a), y2, some (.int m), some (vN tt.1), some (vN tt.2.1), some (.int tt.2.2)] (by simp [wipe]) ?_
        refine ⟨by simp [wipe], yesT ⟨_, rfl, _, rfl, _, rfl, _, rfl, _, _, rfl, rfl, (show (3 : Nat) ≤ sizeLine by decide), fun q5 nq => ?_⟩⟩
        have sq := same_upd (o := .tup [vN tt.1, vN tt.2.1, .int (tt.2.2 + m)]) nq
        have eD2 := sq _ _ (sT _ _ eD)
        refine ⟨_, eD2, by rw [List.length_map]; exact small1000 (by omega), es' ++ [q5], same_at (s2.trans sq) nD, by rw [List.map_append]; exact upd_same, ?_⟩
        rw [raise_snoc et em]
        have fD : ∀ c x, upd (upd H2 T0 (.tup [V.ref e, .int m])) q5 (.tup [vN tt.1, vN tt.2.1, .int (tt.2.2 + m)]) c = some x → x ≠ .lst (es'.map V.ref) → (upd (upd (upd H2 T0 (.tup [V.ref e, .int m])) q5 (.tup [vN tt.1, vN tt.2.1, .int (tt.2.2 + m)])) D (.lst (es'.map V.ref ++ [V.ref q5]))) c = some x := fun c x q n => by rw [upd_ne (fun z => n (by rw [z, eD2] at q; exact (Option.some.inj q).symm))]; exact q
        refine ⟨by rw [List.length_append, List.length_append, hT1.1]; rfl, (TiesAt.snoc (e := q5) (t := (tt.1, tt.2.1, tt.2.2 + m)) (H := upd (upd (upd H2 T0 (.tup [V.ref e, .int m])) q5 (.tup [vN tt.1, vN tt.2.1, .int (tt.2.2 + m)])) D (.lst (es'.map V.ref ++ [V.ref q5]))) ⟨hT1.1, fun j e he => ?_⟩ (Same.refl _) (fD _ _ upd_same (by intro z; cases z))).2⟩
        obtain ⟨t', h1, h2⟩ := hT1.2 j e he
        exact ⟨t', h1, fD _ _ (sq _ _ (sT _ _ h2)) (by intro z; cases z)⟩
      · obtain ⟨es', s1, eD, hT1⟩ := hq
        rw [el, List.take_of_length_le (by rw [raise_len ml]; exact Nat.le_refl _)] at hT1
        intro r d nr nd dn
        have s2 := (same_upd (o := .own r) nd).trans (same_upd (H := upd H' d (.own r)) (o := .ins C d []) (by rw [upd_ne (Ne.symm dn)]; exact nr))
        refine ⟨r, na, D, d, zs, es', _, rfl, upd_same, .inr (hA.same (s1.trans s2)), .inl (lstAt (s2 _ _ eD)), hT1.same s2, ok2, fun H3 lk3 f => ⟨rfl, q H3 r (none_of s1 nr) (fun c x e => f c x (s2 _ _ (s1 _ _ e)) (ne_of_none (s1 _ _ e) nr)) lk3⟩⟩
end
end TK

namespace TK
open PySem PySem.Spec PyProof.Rows L2
theorem ints_dp {K : PySem.W.Frag} {H : Hp} : ∀ {ns : List Int}, ∃ ds, DpAll K H (ns.map V.int) ds ∧ ds.length = ns.length ∧ PyData.canLayAll0 ds = true ∧ PyData.depthAll ds ≤ 1
  | [] => ⟨[], .nil, rfl, by simp [PyData.canLayAll0], by simp [PyData.depthAll]⟩
  | z :: ns => by
    obtain ⟨ds, h1, h2, h3, h4⟩ := ints_dp (K := K) (H := H) (ns := ns)
    refine ⟨.int z :: ds, .cons (.int _) h1, congrArg Nat.succ h2, ?_, ?_⟩
    · simp only [PyData.canLayAll0, PyData.canLay0, Bool.and_eq_true]
      exact ⟨trivial, h3⟩
    · simp only [PyData.depthAll, PyData.depth]
      omega
theorem nm_shape {ds : List PyData} (h3 : PyData.canLayAll0 ds = true) (h4 : PyData.depthAll ds ≤ 1) : SeqAt.shaped (.list ds) = true := by
  show ((PyData.list ds).canLay0 && decide ((PyData.list ds).depth ≤ 64)) = true
  rw [show (PyData.list ds).canLay0 = true by simp only [PyData.canLay0, h3], show (PyData.list ds).depth = PyData.depthAll ds + 1 by simp only [PyData.depth]]
  exact decide_eq_true (by omega)
theorem nil_eqv {ds : List PyData} : PyData.eqv (.list ds) (.list []) = decide (ds.length = 0) := by
  cases ds with
  | nil => rfl
  | cons d ds => rfl
/-- the tolls of the entries between two names -/
def valsE (ts : List Tie) (x y : Nam) : List Int := (ts.filter (isE x y)).map (·.2.2)
theorem valsE_snoc {ts : List Tie} {i : Nat} {t : Tie} (h : ts[i]? = some t) (x y : Nam) : valsE (ts.take (i + 1)) x y = valsE (ts.take i) x y ++ (if isE x y t then [t.2.2] else []) := by
  unfold valsE
  rw [List.take_add_one, h, List.filter_append, List.map_append]
  congr 1
  by_cases k : isE x y t = true
  · rw [if_pos k]; show List.map _ (List.filter _ [t]) = _; rw [List.filter_cons_of_pos k]; rfl
  · rw [if_neg k]; show List.map _ (List.filter _ [t]) = _; rw [List.filter_cons_of_neg k]; rfl
def accE (x y : Nam) (o : Option Int) (t : Tie) : Option Int := if isE x y t then minO o (some t.2.2) else o
theorem fold_spec (x y : Nam) : ∀ (ts : List Tie) (o : Option Int), (∀ m, ts.foldl (accE x y) o = some m → (m ∈ valsE ts x y ∨ o = some m) ∧ (∀ u ∈ valsE ts x y, m ≤ u) ∧ ∀ u, o = some u → m ≤ u) ∧ (ts.foldl (accE x y) o = none → valsE ts x y = [] ∧ o = none)
  | [], o => ⟨fun m h => ⟨.inr h, (fun _ h => nomatch h), fun u e => by rw [show o = some m from h] at e; cases e; exact Int.le_refl _⟩, fun h => ⟨rfl, h⟩⟩
  | t :: ts, o => by
    obtain ⟨h1, h2⟩ := fold_spec x y ts (accE x y o t)
    by_cases k : isE x y t = true
    · have ev : valsE (t :: ts) x y = t.2.2 :: valsE ts x y := by unfold valsE; rw [List.filter_cons_of_pos k]; rfl
      have ea : accE x y o t = minO o (some t.2.2) := by unfold accE; rw [if_pos k]
      rw [ev]
      rw [ea] at h1 h2
      show (∀ m, ts.foldl (accE x y) (accE x y o t) = some m → _) ∧ (ts.foldl (accE x y) (accE x y o t) = none → _)
      rw [ea]
      constructor
      · intro m hm
        obtain ⟨a, b, c⟩ := h1 m hm
        cases o with
        | none =>
          refine ⟨?_, ?_, fun u e => nomatch e⟩
          · rcases a with a | a
            · exact .inl (List.mem_cons_of_mem _ a)
            · exact .inl (by rw [← Option.some.inj (show some t.2.2 = some m from a)]; exact List.mem_cons_self)
          · intro u hu
            rcases List.mem_cons.mp hu with rfl | hu
            · exact c _ rfl
            · exact b u hu
        | some v =>
          have cv := c (if t.2.2 < v then t.2.2 else v) rfl
          refine ⟨?_, ?_, fun u e => ?_⟩
          · rcases a with a | a
            · exact .inl (List.mem_cons_of_mem _ a)
            · have a := Option.some.inj (show some (if t.2.2 < v then t.2.2 else v) = some m from a)
              by_cases q : t.2.2 < v
              · rw [if_pos q] at a; exact .inl (by rw [← a]; exact List.mem_cons_self)
              · rw [if_neg q] at a; exact .inr (by rw [a])
          · intro u hu
            rcases List.mem_cons.mp hu with rfl | hu
            · split at cv <;> omega
            · exact b u hu
          · cases e
            split at cv <;> omega
      · intro hn
        obtain ⟨_, z⟩ := h2 hn
        cases o <;> cases z
    · have ev : valsE (t :: ts) x y = valsE ts x y := by unfold valsE; rw [List.filter_cons_of_neg k]
      have ea : accE x y o t = o := by unfold accE; rw [if_neg k]
      rw [ev]
      rw [ea] at h1 h2
      show (∀ m, ts.foldl (accE x y) (accE x y o t) = some m → _) ∧ (ts.foldl (accE x y) (accE x y o t) = none → _)
      rw [ea]
      exact ⟨h1, h2⟩
theorem leastE_some {ts : List Tie} {x y : Nam} {m : Int} (h : leastE ts x y = some m) : m ∈ valsE ts x y ∧ ∀ u ∈ valsE ts x y, m ≤ u := by
  obtain ⟨a, b, _⟩ := (fold_spec x y ts none).1 m h
  rcases a with a | a
  · exact ⟨a, b⟩
  · cases a
theorem leastE_none {ts : List Tie} {x y : Nam} (h : leastE ts x y = none) : valsE ts x y = [] := ((fold_spec x y ts none).2 h).1
section
variable {P : Program} {w : World} {K : PySem.W.Frag} {mg : Str → Option Value} {base : Heap}
/-! _law_least_of -/
def spLeastOf (K : PySem.W.Frag) : Sp := fun vs H Q _ => ∃ (a : Addr) (es : List Addr) (ts : List Tie) (x y : Nam), vs = [.ref a, vN x, vN y] ∧ SqL K H a (es.map V.ref) ∧ TiesAt H es ts ∧ ts.length ≤ 10000 ∧ ∀ H', Same H H' → Q (capI (leastE ts x y)) H'
theorem ok_L_least_of {f : Addr} {fd : FuncData} (F : Fun K "_law_least_of" "_law_least_of" s_L_least_of f fd) (m_min : mg "min" = none) : FnOk P w K mg base CX0 1 f fd ["_law_loads", "_law_one", "_law_two"] (spLeastOf K) := by
  refine F.ok sc_L_least_of (fun vs H Q E h => ?_) (fun cdv A outer s H vs Q E hr h => ?_)
  · obtain ⟨a, es, ts, x, y, rfl, _⟩ := h
    rfl
  · obtain ⟨a, es, ts, x, y, rfl, hA, hT, l4, q⟩ := h
    have el : (es.map V.ref).length = ts.length := by rw [List.length_map, hT.1]
    refine ⟨_, (pss_cons (ps_setLc (i := 3) (own := [("_law_first", 4), ("_law_second", 5), ("_law_toll", 6)]) (by rfl) sc_L_least_of.nd rfl rfl (sw_true rfl rfl rfl (by decide +kernel)) (pi_list (pv 0)) (blkOk_by (N := ["_law_loads", "_law_one", "_law_two", "_law_found", "_law_first", "_law_second", "_law_toll"]) (sc := defScope s_L_least_of) (by decide +kernel)) (fun _ _ _ _ _ => (pg_tupK (K := K) (n := 3) rfl (by rfl) (pgs_cons (pg_name (i := 4) sc_L_least_of.nd rfl (.inl rfl)) (pgs_cons (pg_name (i := 5) sc_L_least_of.nd rfl (.inl rfl)) (pgs_cons (pg_name (i := 6) sc_L_least_of.nd rfl (.inl rfl)) pgs_nil))))) (fun _ _ _ _ _ => (pts_one (PW.pt (pw_and (pt_cmpR op_eq (pv 4) (pv 1) (nomark _)) (pw_and1 (pt_cmpR op_eq (pv 5) (pv 2) (nomark _))))))) (fun _ _ _ _ _ => (pv 6)))
  (pss_cons (ps_if (pt_cmpR (op_eqD hr.units) (pv 3) (pe_lst pa_nil) (nomark _)) (pss_one (ps_ret pe_non)) pss_nil)
  (pss_one (ps_ret (pe_callB (cr_min rfl) (by rfl) m_min (by decide +kernel) (pa_cons (pv 3) pa_nil)))))), ?_⟩
    refine ⟨_, rfl, a, rfl, ⟨_, hA⟩, fun D nD => ?_⟩
    refine lc_list (K := K) (a := a) (xs := es.map V.ref) (fun i H' => H' = upd H D (.lst ((valsE (ts.take i) x y).map V.int))) rfl (fun i H' _ e => e ▸ (same_upd nD).seq hA) (fun i v H' hx hq => ?_) (fun H' hq => ?_)
    · subst hq
      obtain ⟨e, t, rfl, _, et, ht⟩ := ties_at hT hx
      have hi : i < ts.length := (List.getElem?_eq_some_iff.mp et).1
      have hz : ((valsE (ts.take i) x y).map V.int).length < sizeLine := by
        rw [List.length_map]
        have h1 := List.length_filter_le (isE x y) (ts.take i)
        rw [List.length_take] at h1
        have : (valsE (ts.take i) x y).length ≤ 10000 := by unfold valsE; rw [List.length_map]; omega
        exact Nat.lt_of_le_of_lt this (by decide)
      refine ⟨_, _, rfl, tupAt ((same_upd nD) _ _ ht), rfl, _, _, rfl, _, _, rfl, _, _, rfl, rfl, rfl, _, rfl, _, rfl, rfl, _, rfl, ?_⟩
      rw [valsE_snoc et, eq_nm]
      by_cases h1 : t.1 = x
      · rw [decide_eq_true h1]
        refine iteT ⟨_, rfl, _, rfl, rfl, _, rfl, ?_⟩
        rw [eq_nm]
        by_cases h2 : t.2.1 = y
        · rw [decide_eq_true h2, if_pos (show isE x y t = true from decide_eq_true ⟨h1, h2⟩)]
          refine iteT ⟨_, rfl, _, upd_same, hz, ?_⟩
          rw [upd_twice, List.map_append]; rfl
        · rw [decide_eq_false h2, if_neg (show ¬ isE x y t = true from fun z => h2 (of_decide_eq_true z).2), List.append_nil]
          exact iteF rfl
      · rw [decide_eq_false h1, if_neg (show ¬ isE x y t = true from fun z => h1 (of_decide_eq_true z).1), List.append_nil]
        exact iteF (iteF rfl)
    subst hq
    rw [el, List.take_length]
    have sD := same_upd (o := .lst ((valsE ts x y).map V.int)) nD
    refine ⟨_, rfl, Nat.zero_le _, fun n nn => ?_⟩
    have sn := sD.trans (same_upd (o := .lst []) nn)
    have eD := (same_upd (o := .lst []) nn) _ _ upd_same
    obtain ⟨ds, d1, d2, d3, d4⟩ := ints_dp (K := K) (H := upd (upd H D (.lst ((valsE ts x y).map V.int))) n (.lst [])) (ns := valsE ts x y)
    refine ⟨.list ds, .list [], .lst (lstAt eD) d1, .lst (lstAt upd_same) .nil, nm_shape d3 d4, rfl, _, rfl, ?_⟩
    rw [nil_eqv, d2]
    cases e : leastE ts x y with
    | none =>
      rw [decide_eq_true (show (valsE ts x y).length = 0 by rw [leastE_none e]; rfl)]
      have := q _ sn
      rw [e] at this
      exact iteT this
    | some m =>
      obtain ⟨h1, h2⟩ := leastE_some e
      have hl : 0 < (valsE ts x y).length := List.length_pos_of_mem h1
      rw [decide_eq_false (by omega)]
      refine iteF ⟨_, rfl, D, valsE ts x y, rfl, lstAt eD, hl, fun k k1 k2 => ?_⟩
      have ek : k = m := Int.le_antisymm (k2 m h1) (h2 k k1)
      have := q _ sn
      rw [e] at this
      rw [ek]
      exact this
end
end TK

namespace TK
open PySem PySem.Spec PyProof.Rows L2
def rowE (zs : List Nam) (ts : List Tie) (x : Nam) : List V := zs.map fun y => capI (leastE ts x y)
def RowsIn (H : Hp) (rs : List Addr) (zs us : List Nam) (ts : List Tie) : Prop := rs.length = us.length ∧ ∀ (i : Nat) (q : Addr), rs[i]? = some q → ∃ x, us[i]? = some x ∧ H q = some (.lst (rowE zs ts x))
def RowsAt (H : Hp) (r : Addr) (zs : List Nam) (ts : List Tie) : Prop := ∃ rs : List Addr, H r = some (.lst (rs.map V.ref)) ∧ RowsIn H rs zs zs ts
theorem RowsAt.same {H H' : Hp} {r : Addr} {zs : List Nam} {ts : List Tie} (h : RowsAt H r zs ts) (s : Same H H') : RowsAt H' r zs ts := by
  obtain ⟨rs, h1, h2, h3⟩ := h
  exact ⟨rs, s _ _ h1, h2, fun i q e => by
    obtain ⟨x, a, b⟩ := h3 i q e
    exact ⟨x, a, s _ _ b⟩⟩
theorem zs_at0 {zs : List Nam} {j : Nat} {y : Nam} (h : zs[j]? = some y) : atI (zs.map vN) (0 + (j : Int)) = some (vN y) := by
  refine atI_in (by omega) ?_
  rw [show (0 + (j : Int)).toNat = j by omega, List.getElem?_map, h]
  rfl
theorem row_at0 {zs : List Nam} {ts : List Tie} {x y : Nam} {j : Nat} (h : zs[j]? = some y) : atI (rowE zs ts x) (0 + (j : Int)) = some (capI (leastE ts x y)) := by
  refine atI_in (by omega) ?_
  rw [show (0 + (j : Int)).toNat = j by omega]
  unfold rowE
  rw [List.getElem?_map, h]
  rfl
theorem rows_at0 {H : Hp} {rs : List Addr} {zs : List Nam} {ts : List Tie} {j : Nat} {x : Nam} (h : RowsIn H rs zs zs ts) (e : zs[j]? = some x) : ∃ q, atI (rs.map V.ref) (0 + (j : Int)) = some (.ref q) ∧ H q = some (.lst (rowE zs ts x)) := by
  have hj : j < rs.length := by rw [h.1]; exact (List.getElem?_eq_some_iff.mp e).1
  obtain ⟨x', e', hq⟩ := h.2 j rs[j] (List.getElem?_eq_getElem hj)
  have : x' = x := Option.some.inj (e'.symm.trans e)
  subst this
  refine ⟨rs[j], atI_in (by omega) ?_, hq⟩
  rw [show (0 + (j : Int)).toNat = j by omega, List.getElem?_map, List.getElem?_eq_getElem hj]
  rfl
section
variable {P : Program} {w : World} {K : PySem.W.Frag} {mg : Str → Option Value} {base : Heap}
/-! _law_rows -/
def spRows (K : PySem.W.Frag) : Sp := fun vs H Q _ => ∃ (a b : Addr) (zs : List Nam) (es : List Addr) (ts : List Tie), vs = [.ref a, .ref b] ∧ SqL K H a (zs.map vN) ∧ zs.length ≤ 6 ∧ SqL K H b (es.map V.ref) ∧ TiesAt H es ts ∧ ts.length ≤ 10000 ∧ ∀ H' p, Same H H' → RowsAt H' p zs ts → Q (.ref p) H'
theorem ok_L_rows {f : Addr} {fd : FuncData} (F : Fun K "_law_rows" "_law_rows" s_L_rows f fd) (d_L_least_of : Def P w K mg base "_law_least_of" 1 ["_law_loads", "_law_one", "_law_two"] (spLeastOf K)) : FnOk P w K mg base CX0 2 f fd ["_law_words_here", "_law_loads"] (spRows K) := by
  refine F.ok sc_L_rows (fun vs H Q E h => ?_) (fun cdv A outer s H vs Q E hr h => ?_)
  · obtain ⟨a, b, zs, es, ts, rfl, _⟩ := h
    rfl
  · obtain ⟨a, b, zs, es, ts, rfl, hA, z6, hB, hT, l4, q⟩ := h
    have zl : (zs.map vN).length = zs.length := List.length_map ..
    refine ⟨_, (pss_cons (ps_set (i := 2) sc_L_rows.nd rfl (.inl rfl) (pe_lst pa_nil))
  (pss_cons (ps_for PassesOwn.never rfl (pi_list (pv 0)) (pg_name (i := 3) sc_L_rows.nd rfl (.inr rfl))
    (pss_one (ps_expr (pe_bm PySem.F.plainAttrs_list PySem.F.slot_list_append PySem.F.type_list_append mt_append (pv 2) (pa_cons (pe_lc (own := [("_law_two", 4)]) (by rfl) sc_L_rows.nd (pi_list (pv 0)) (blkOk_by (N := ["_law_words_here", "_law_loads", "_law_rows_here", "_law_one", "_law_two"]) (sc := defScope s_L_rows) (by decide +kernel)) (fun _ _ _ _ _ => (pg_name (i := 4) sc_L_rows.nd rfl (.inl rfl))) (fun _ _ _ _ _ => pts_nil) (fun _ _ _ _ _ => (pe_callD d_L_least_of (hr.mono (by decide)) (by rfl) (pa_cons (pv 1) (pa_cons (pv 3) (pa_cons (pv 4) pa_nil)))))) pa_nil)))))
  (pss_one (ps_ret (pv 2))))), ?_⟩
    refine ⟨Nat.zero_le _, fun D nD => ?_⟩
    have s0 := same_upd (o := .lst []) nD
    refine ⟨_, rfl, a, rfl, ⟨_, s0.seq hA⟩, for_list (K := K) (a := a) (xs := zs.map vN) (fun i σ H' => ∃ (rs : List Addr) (y1 : Option V), σ = [some (.ref a), some (.ref b), some (.ref D), y1, none] ∧ Same H H' ∧ H' D = some (.lst (rs.map V.ref)) ∧ RowsIn H' rs zs (zs.take i) ts ∧ ∀ r ∈ rs, r ≠ D) ⟨[], _, rfl, s0, upd_same, ⟨rfl, fun _ _ h => nomatch h⟩, fun _ h => nomatch h⟩ (fun i σ H' _ hp => by obtain ⟨rs, y1, _, s1, _⟩ := hp; exact s1.seq hA) ?_ ?_⟩
    · rintro i x σ H2 hx ⟨rs, y1, rfl, sm, eD, ⟨rl, rr⟩, rD⟩
      obtain ⟨z, ez, rfl⟩ := vN_at hx
      have hi : i < zs.length := (List.getElem?_eq_some_iff.mp ez).1
      have rl' : rs.length = i := by rw [rl, List.length_take]; omega
      refine ⟨_, rfl, .inl ⟨rfl, _, lstAt eD⟩, _, rfl, a, rfl, ⟨_, sm.seq hA⟩, fun E nE => ?_⟩
      refine lc_list (K := K) (a := a) (xs := zs.map vN) (fun j H' => Same H2 H' ∧ H' E = some (.lst ((zs.take j).map fun y => capI (leastE ts z y)))) ⟨same_upd nE, upd_same⟩ (fun j H' _ hp => (sm.trans hp.1).seq hA) (fun j v H' hx2 hq => ?_) (fun H' hq => ?_)
      · obtain ⟨s3, eE⟩ := hq
        obtain ⟨y, ey, rfl⟩ := vN_at hx2
        have s4 := sm.trans s3
        refine ⟨rfl, yesT ⟨_, rfl, _, rfl, _, rfl, b, es, ts, z, y, rfl, s4.seq hB, hT.same s4, l4, fun H5 s5 => ⟨_, s5 _ _ eE, ?_, same_at (s3.trans s5) nE, ?_⟩⟩⟩
        · rw [List.length_map, List.length_take]; exact small1000 (by omega)
        · rw [List.take_add_one, ey, List.map_append]; exact upd_same
      · obtain ⟨s3, eE⟩ := hq
        rw [zl, List.take_length] at eE
        have eD3 := s3 _ _ eD
        have ED : E ≠ D := (ne_of_none eD nE).symm
        refine ⟨_, _, _, rfl, rfl, eD3, by rw [List.length_map, rl']; exact small1000 (by omega), rs ++ [E], _, rfl, same_at (sm.trans s3) nD, by rw [List.map_append]; exact upd_same, ⟨?_, ?_⟩, fun r hr => ?_⟩
        · rw [List.length_append, rl', List.length_take]; simp only [List.length_singleton]; omega
        · intro k p hk
          by_cases hki : k < rs.length
          · rw [List.getElem?_append_left hki] at hk
            obtain ⟨x, h1, h2⟩ := rr k p hk
            have h3 := s3 _ _ h2
            refine ⟨x, ?_, ?_⟩
            · rw [List.getElem?_take] at h1 ⊢
              rw [if_pos (by omega)] at h1
              rw [if_pos (by omega)]; exact h1
            · rw [upd_ne (rD p (List.mem_of_getElem? hk))]; exact h3
          · rw [List.getElem?_append_right (by omega)] at hk
            have h0 : k - rs.length = 0 := by
              have := (List.getElem?_eq_some_iff.mp hk).1
              simp at this
              omega
            rw [h0] at hk
            have hk := (Option.some.inj hk)
            subst hk
            refine ⟨z, ?_, by rw [upd_ne ED]; exact eE⟩
            rw [show k = i by omega, List.getElem?_take, if_pos (by omega)]
            exact ez
        · rcases List.mem_append.mp hr with m | m
          · exact rD r m
          · rw [List.mem_singleton.mp m]; exact ED
    · rintro σ H' ⟨rs, y1, rfl, sm, eD, rr, _⟩
      rw [zl, List.take_length] at rr
      exact ⟨_, rfl, q _ D sm ⟨rs, eD, rr⟩⟩
end
end TK

namespace TK
open PySem PySem.Spec PyProof.Rows L2
/-! right ties, under way -/
structure TsOk (zs : List Nam) (ts : List Tie) : Prop where
  a : ∀ t ∈ ts, t.1 ∈ zs
  b : ∀ t ∈ ts, t.2.1 ∈ zs
  ne : ∀ t ∈ ts, t.1 ≠ t.2.1
  h0 : ∀ t ∈ ts, 0 ≤ t.2.2
  h9 : ∀ t ∈ ts, t.2.2 ≤ 1000000000
theorem TsOk.nil {zs : List Nam} : TsOk zs [] := ⟨(fun _ h => nomatch h), (fun _ h => nomatch h), (fun _ h => nomatch h), (fun _ h => nomatch h), (fun _ h => nomatch h)⟩
theorem TsOk.app {zs : List Nam} {ts us : List Tie} (h : TsOk zs ts) (k : TsOk zs us) : TsOk zs (ts ++ us) :=
  ⟨fun t m => (List.mem_append.mp m).elim (h.a t) (k.a t), fun t m => (List.mem_append.mp m).elim (h.b t) (k.b t), fun t m => (List.mem_append.mp m).elim (h.ne t) (k.ne t), fun t m => (List.mem_append.mp m).elim (h.h0 t) (k.h0 t), fun t m => (List.mem_append.mp m).elim (h.h9 t) (k.h9 t)⟩
theorem TsOk.sub {zs : List Nam} {ts us : List Tie} (h : TsOk zs ts) (k : ∀ t ∈ us, t ∈ ts) : TsOk zs us :=
  ⟨fun t m => h.a t (k t m), fun t m => h.b t (k t m), fun t m => h.ne t (k t m), fun t m => h.h0 t (k t m), fun t m => h.h9 t (k t m)⟩
structure TW (H0 H : Hp) (D : Addr) (zs : List Nam) (es : List Addr) (ts : List Tie) : Prop where
  s : Same H0 H
  d : H D = some (.lst (es.map V.ref))
  t : TiesAt H es ts
  o : TsOk zs ts
theorem TW.add {H0 H : Hp} {D q : Addr} {zs : List Nam} {es : List Addr} {ts : List Tie} {t : Tie} (h : TW H0 H D zs es ts) (n : H0 D = none) (nq : H q = none) (a : t.1 ∈ zs) (b : t.2.1 ∈ zs) (ne : t.1 ≠ t.2.1) (h0 : 0 ≤ t.2.2) (h9 : t.2.2 ≤ 1000000000) :
    TW H0 (upd (upd H q (.tup [vN t.1, vN t.2.1, .int t.2.2])) D (.lst (es.map V.ref ++ [.ref q]))) D zs (es ++ [q]) (ts ++ [t]) := by
  have sq := same_upd (o := .tup [vN t.1, vN t.2.1, .int t.2.2]) nq
  have Dq : D ≠ q := ne_of_none h.d nq
  have fD : ∀ c x, H c = some x → c ≠ D → (upd (upd H q (.tup [vN t.1, vN t.2.1, .int t.2.2])) D (.lst (es.map V.ref ++ [.ref q]))) c = some x := fun c x e n => by rw [upd_ne n]; exact sq _ _ e
  refine ⟨fun c x e => fD c x (h.s _ _ e) (ne_of_none e n), by rw [List.map_append]; exact upd_same, ?_, h.o.app ?_⟩
  · refine TiesAt.snoc (H := upd (upd H q (.tup [vN t.1, vN t.2.1, .int t.2.2])) D (.lst (es.map V.ref ++ [.ref q]))) ⟨h.t.1, fun j e he => ?_⟩ (Same.refl _) ?_
    · obtain ⟨t', h1, h2⟩ := h.t.2 j e he
      exact ⟨t', h1, fD _ _ h2 (ne_of h2 h.d (by intro z; cases z))⟩
    · show _ = _
      rw [upd_ne Dq.symm]; exact upd_same
  · have one : ∀ x ∈ [t], x = t := fun x m => List.mem_singleton.mp m
    exact ⟨fun x m => by rw [one x m]; exact a, fun x m => by rw [one x m]; exact b, fun x m => by rw [one x m]; exact ne, fun x m => by rw [one x m]; exact h0, fun x m => by rw [one x m]; exact h9⟩
/-! the two ends of a tie -/
theorem two_ne {L a d : Int} (h0 : 0 ≤ a) (h1 : a < L) (d0 : 0 ≤ d) (d1 : d < L - 1) : 0 ≤ (a + 1 + d) % L ∧ (a + 1 + d) % L < L ∧ (a + 1 + d) % L ≠ a := by
  refine ⟨Int.emod_nonneg _ (by omega), Int.emod_lt_of_pos _ (by omega), ?_⟩
  by_cases h : a + 1 + d < L
  · rw [Int.emod_eq_of_lt (by omega) h]; omega
  · rw [show a + 1 + d = (a + 1 + d - L) + L * 1 by omega, Int.add_mul_emod_self_left, Int.emod_eq_of_lt (by omega) (by omega)]; omega
theorem nm_get {zs : List Nam} {i : Int} (h0 : 0 ≤ i) (h : i < zs.length) : ∃ z, zs[i.toNat]? = some z ∧ z ∈ zs ∧ atI (zs.map vN) i = some (vN z) := by
  have hl : i.toNat < zs.length := by omega
  refine ⟨zs[i.toNat], List.getElem?_eq_getElem hl, List.getElem_mem hl, atI_in h0 ?_⟩
  rw [List.getElem?_map, List.getElem?_eq_getElem hl]
  rfl
theorem nm_ne {zs : List Nam} {i j : Int} {y z : Nam} (nd : zs.Nodup) (i0 : 0 ≤ i) (j0 : 0 ≤ j) (h1 : zs[i.toNat]? = some y) (h2 : zs[j.toNat]? = some z) (ne : j ≠ i) : y ≠ z := by
  intro e
  subst e
  have hl := (List.getElem?_eq_some_iff.mp h1).1
  have := (List.getElem?_inj hl nd).mp (h1.trans h2.symm)
  omega
section
variable {P : Program} {w : World} {K : PySem.W.Frag} {mg : Str → Option Value} {base : Heap}
/-! _law_links -/
def spLinks (K : PySem.W.Frag) : Sp := fun vs H Q _ => ∃ (a b : Addr) (ns : List Int) (s n : Int) (zs : List Nam), vs = [.ref a, .int s, .ref b, .int n] ∧ SqL K H a (ns.map V.int) ∧ SqL K H b (zs.map vN) ∧ 0 ≤ s ∧ s + n ≤ ns.length ∧ 0 ≤ n ∧ n ≤ 12 ∧ zs.length ≤ 6 ∧ zs.Nodup ∧
  ∀ (H' : Hp) (p : Addr) (es : List Addr) (ts : List Tie), TW H H' p zs es ts → ts.length ≤ 12 → Q (.ref p) H'
theorem ok_L_links {f : Addr} {fd : FuncData} (F : Fun K "_law_links" "_law_links" s_L_links f fd) (m_len : mg "len" = none) (m_range : mg "range" = none)
    (d_L_part : Def P w K mg base "_law_part" 1 ["_law_pool_here", "_law_spot", "_law_under", "_law_size"] (spPart K)) : FnOk P w K mg base CX0 2 f fd ["_law_pool_here", "_law_spot", "_law_words_here", "_law_number"] (spLinks K) := by
  refine F.ok sc_L_links (fun vs H Q E h => ?_) (fun cdv A outer s H vs Q E hr h => ?_)
  · obtain ⟨a, b, ns, s, n, zs, rfl, _⟩ := h
    rfl
  · obtain ⟨a, b, ns, sp, n, zs, rfl, hA, hB, s0, sn, n0, n12, z6, nd, q⟩ := h
    have zl : (zs.map vN).length = zs.length := List.length_map ..
    refine ⟨_, (pss_cons (ps_set (i := 4) sc_L_links.nd rfl (.inl rfl) (pe_lst pa_nil))
  (pss_cons (ps_if (pt_cmpR op_lt (pe_callB call_len_seq (by rfl) m_len (by decide +kernel) (pa_cons (pv 2) pa_nil)) pe_int (nomark _)) (pss_one (ps_ret (pv 4))) pss_nil)
  (pss_cons (ps_for PassesOwn.never rfl (pi_range1 (by rfl) m_range (pa_cons (pv 3) pa_nil)) (pg_name (i := 5) sc_L_links.nd rfl (.inl rfl))
    (pss_cons (ps_set (i := 6) sc_L_links.nd rfl (.inl rfl) (pe_op op_mod (pe_callD d_L_part (hr.mono (by decide)) (by rfl) (pa_cons (pv 0) (pa_cons (pe_op op_add (pv 1) (pv 5)) (pa_cons pe_int (pa_cons pe_int pa_nil))))) (pe_callB call_len_seq (by rfl) m_len (by decide +kernel) (pa_cons (pv 2) pa_nil))))
  (pss_cons (ps_set (i := 7) sc_L_links.nd rfl (.inl rfl) (pe_op op_mod (pe_op op_add (pe_op op_add (pv 6) pe_int) (pe_op op_mod (pe_callD d_L_part (hr.mono (by decide)) (by rfl) (pa_cons (pv 0) (pa_cons (pe_op op_add (pv 1) (pv 5)) (pa_cons pe_int (pa_cons pe_int pa_nil))))) (pe_op op_sub (pe_callB call_len_seq (by rfl) m_len (by decide +kernel) (pa_cons (pv 2) pa_nil)) pe_int))) (pe_callB call_len_seq (by rfl) m_len (by decide +kernel) (pa_cons (pv 2) pa_nil))))
  (pss_cons (ps_set (i := 8) sc_L_links.nd rfl (.inl rfl) (pe_callD d_L_part (hr.mono (by decide)) (by rfl) (pa_cons (pv 0) (pa_cons (pe_op op_add (pv 1) (pv 5)) (pa_cons pe_int (pa_cons pe_int pa_nil))))))
  (pss_cons (ps_if (pt_cmpR op_eq (pe_callD d_L_part (hr.mono (by decide)) (by rfl) (pa_cons (pv 0) (pa_cons (pe_op op_add (pv 1) (pv 5)) (pa_cons pe_int (pa_cons pe_int pa_nil))))) pe_int (nomark _)) (pss_one (ps_set (i := 8) sc_L_links.nd rfl (.inl rfl) (pe_op op_sub (pe_op op_pow pe_int pe_int) (pv 8)))) pss_nil)
  (pss_one (ps_expr (pe_bm PySem.F.plainAttrs_list PySem.F.slot_list_append PySem.F.type_list_append mt_append (pv 4) (pa_cons (pe_tup (pa_cons (pe_ix ix_list (pv 2) (pv 6) (fun _ _ => rfl)) (pa_cons (pe_ix ix_list (pv 2) (pv 7) (fun _ _ => rfl)) (pa_cons (pv 8) pa_nil)))) pa_nil)))))))))
  (pss_one (ps_ret (pv 4)))))), ?_⟩
    refine ⟨Nat.zero_le _, fun p np => ?_⟩
    have s1 := same_upd (o := .lst []) np
    have w0 : TW H (upd H p (.lst [])) p zs [] [] := ⟨s1, upd_same, ⟨rfl, fun _ _ h => nomatch h⟩, .nil⟩
    refine ⟨_, rfl, _, _, rfl, .inl (s1.seq hB), _, _, rfl, rfl, _, rfl, ite2 (fun e => ?_) (fun e => ?_)⟩
    · exact ⟨_, rfl, q _ p [] [] w0 (Nat.zero_le _)⟩
    have l2 : 2 ≤ zs.length := by
      rw [zl] at e
      have := of_decide_eq_false (Bool.eq_false_iff.mpr e)
      omega
    refine ⟨_, rfl, _, rfl, by omega, by omega, for_range (fun i σ H' => ∃ (es : List Addr) (ts : List Tie) (y1 y2 y3 y4 : Option V), σ = [some (.ref a), some (.int sp), some (.ref b), some (.int n), some (.ref p), y1, y2, y3, y4] ∧ TW H H' p zs es ts ∧ ts.length = i) ⟨[], [], _, _, _, _, rfl, w0, rfl⟩ ?_ ?_⟩
    · rintro i σ H' hi ⟨es, ts, y1, y2, y3, y4, rfl, tw, hl⟩
      have hA' := tw.s.seq hA
      have hB' := tw.s.seq hB
      have p1 := part_lo (ns := ns) (s := sp + (0 + (i : Int))) (u := 1) (z := 12) (by decide)
      have p2 := part_lo (ns := ns) (s := sp + (0 + (i : Int))) (u := 12) (z := 6) (by decide)
      have t1 := part_lo (ns := ns) (s := sp + (0 + (i : Int))) (u := 72) (z := 7) (by decide)
      have t2 := part_hi (ns := ns) (s := sp + (0 + (i : Int))) (u := 72) (z := 7) (by decide)
      have o1 : 0 ≤ partOf ns (sp + (0 + (i : Int))) 1 12 % (zs.length : Int) := Int.emod_nonneg _ (by omega)
      have o2 : partOf ns (sp + (0 + (i : Int))) 1 12 % (zs.length : Int) < zs.length := Int.emod_lt_of_pos _ (by omega)
      have d1 : 0 ≤ partOf ns (sp + (0 + (i : Int))) 12 6 % ((zs.length : Int) - 1) := Int.emod_nonneg _ (by omega)
      have d2 : partOf ns (sp + (0 + (i : Int))) 12 6 % ((zs.length : Int) - 1) < (zs.length : Int) - 1 := Int.emod_lt_of_pos _ (by omega)
      obtain ⟨w1, w2, w3⟩ := two_ne o1 o2 d1 d2
      obtain ⟨y, gy, my, ay⟩ := nm_get o1 o2
      obtain ⟨z, gz, mz, az⟩ := nm_get w1 w2
      have nyz := nm_ne nd o1 w1 gy gz w3
      refine ⟨_, rfl, _, rfl, _, rfl, _, _, rfl, rfl, _, _, _, _, _, rfl, hA', by omega, by omega, by decide, by decide, by decide, _, rfl, _, _, rfl, .inl hB', _, _, rfl, rfl, by rw [zl]; omega, ?_⟩
      rw [zl]
      refine ⟨_, rfl, _, _, rfl, rfl, _, rfl, _, rfl, _, rfl, _, _, rfl, rfl, _, _, _, _, _, rfl, hA', by omega, by omega, by decide, by decide, by decide, _, rfl, _, _, rfl, .inl hB', _, _, rfl, rfl, _, _, rfl, rfl, by rw [zl]; omega, _, _, rfl, rfl, _, rfl, _, _, rfl, .inl hB', _, _, rfl, rfl, by rw [zl]; omega, ?_⟩
      rw [zl]
      refine ⟨_, rfl, _, rfl, _, rfl, _, _, rfl, rfl, _, _, _, _, _, rfl, hA', by omega, by omega, by decide, by decide, by decide, ?_⟩
      refine ⟨_, rfl, _, rfl, _, rfl, _, _, rfl, rfl, _, _, _, _, _, rfl, hA', by omega, by omega, by decide, by decide, by decide, rfl, _, rfl, ite2 (fun e => ?_) (fun e => ?_)⟩
      · refine ⟨_, _, rfl, rfl, ⟨by decide, by decide, by decide⟩, _, rfl, _, _, rfl, rfl, ?_⟩
        refine ⟨_, rfl, .inl ⟨rfl, _, lstAt tw.d⟩, _, rfl, _, rfl, _, _, _, _, rfl, rfl, hB', ay, _, rfl, _, rfl, _, _, _, _, rfl, rfl, hB', az, _, rfl, (show (3 : Nat) ≤ sizeLine by decide), fun t nt => ?_⟩
        have Dt : p ≠ t := ne_of_none tw.d nt
        refine ⟨_, _, _, rfl, rfl, by rw [upd_ne Dt]; exact tw.d, by rw [List.length_map, tw.t.1]; exact small1000 (by omega), es ++ [t], ts ++ [(y, z, 10 ^ (9 : Int).toNat - partOf ns (sp + (0 + (i : Int))) 72 7)], _, _, _, _, rfl, tw.add (t := (y, z, 10 ^ (9 : Int).toNat - partOf ns (sp + (0 + (i : Int))) 72 7)) np nt my mz nyz ?_ ?_, by rw [List.length_append, hl]; rfl⟩
        · show (0 : Int) ≤ 1000000000 - partOf ns (sp + (0 + (i : Int))) 72 7
          omega
        · show (1000000000 : Int) - partOf ns (sp + (0 + (i : Int))) 72 7 ≤ 1000000000
          omega
      · refine ⟨_, rfl, .inl ⟨rfl, _, lstAt tw.d⟩, _, rfl, _, rfl, _, _, _, _, rfl, rfl, hB', ay, _, rfl, _, rfl, _, _, _, _, rfl, rfl, hB', az, _, rfl, (show (3 : Nat) ≤ sizeLine by decide), fun t nt => ?_⟩
        have Dt : p ≠ t := ne_of_none tw.d nt
        exact ⟨_, _, _, rfl, rfl, by rw [upd_ne Dt]; exact tw.d, by rw [List.length_map, tw.t.1]; exact small1000 (by omega), es ++ [t], ts ++ [(y, z, partOf ns (sp + (0 + (i : Int))) 72 7)], _, _, _, _, rfl, tw.add (t := (y, z, partOf ns (sp + (0 + (i : Int))) 72 7)) np nt my mz nyz (by show 0 ≤ partOf ns (sp + (0 + (i : Int))) 72 7; omega) (by show partOf ns (sp + (0 + (i : Int))) 72 7 ≤ 1000000000; omega), by rw [List.length_append, hl]; rfl⟩
    · rintro σ H' ⟨es, ts, y1, y2, y3, y4, rfl, tw, hl⟩
      exact ⟨_, rfl, q _ p es ts tw (by omega)⟩
/-! _law_ties -/
def spTies (K : PySem.W.Frag) : Sp := fun vs H Q _ => ∃ (c : Int) (b : Addr) (zs : List Nam), vs = [.int c, .ref b] ∧ SqL K H b (zs.map vN) ∧ zs.length ≤ 6 ∧ zs.Nodup ∧
  ∀ (H' : Hp) (p : Addr) (es : List Addr) (ts : List Tie), TW H H' p zs es ts → ts.length ≤ 12 → Q (.ref p) H'
theorem ok_L_ties {f : Addr} {fd : FuncData} (F : Fun K "_law_ties" "_law_ties" s_L_ties f fd) (m_len : mg "len" = none) (m_range : mg "range" = none) (m_abs : mg "abs" = none) : FnOk P w K mg base CX0 1 f fd ["_law_cell_here", "_law_words_here"] (spTies K) := by
  refine F.ok sc_L_ties (fun vs H Q E h => ?_) (fun cdv A outer s H vs Q E hr h => ?_)
  · obtain ⟨c, b, zs, rfl, _⟩ := h
    rfl
  · obtain ⟨c, b, zs, rfl, hB, z6, nd, q⟩ := h
    have zl : (zs.map vN).length = zs.length := List.length_map ..
    have ha : 0 ≤ (if c < 0 then -c else c) := by split <;> omega
    refine ⟨_, (pss_cons (ps_set (i := 2) sc_L_ties.nd rfl (.inl rfl) (pe_callB call_abs (by rfl) m_abs (by decide +kernel) (pa_cons (pv 0) pa_nil)))
  (pss_cons (ps_set (i := 3) sc_L_ties.nd rfl (.inl rfl) (pe_lst pa_nil))
  (pss_cons (ps_if (pt_cmpR op_lt (pe_callB call_len_seq (by rfl) m_len (by decide +kernel) (pa_cons (pv 1) pa_nil)) pe_int (nomark _)) (pss_one (ps_ret (pv 3))) pss_nil)
  (pss_cons (ps_for PassesOwn.never rfl (pi_range1 (by rfl) m_range (pa_cons pe_int pa_nil)) (pg_name (i := 4) sc_L_ties.nd rfl (.inl rfl))
    (pss_cons (ps_if (pt_cmpR op_eq (pv 2) pe_int (nomark _)) (pss_one ps_break) pss_nil)
  (pss_cons (ps_set (i := 5) sc_L_ties.nd rfl (.inl rfl) (pe_op op_mod (pe_op op_mod (pv 2) pe_int) (pe_callB call_len_seq (by rfl) m_len (by decide +kernel) (pa_cons (pv 1) pa_nil))))
  (pss_cons (ps_set (i := 6) sc_L_ties.nd rfl (.inl rfl) (pe_op op_mod (pe_op op_add (pe_op op_add (pv 5) pe_int) (pe_op op_mod (pe_op op_mod (pe_op op_fdiv (pv 2) pe_int) pe_int) (pe_op op_sub (pe_callB call_len_seq (by rfl) m_len (by decide +kernel) (pa_cons (pv 1) pa_nil)) pe_int))) (pe_callB call_len_seq (by rfl) m_len (by decide +kernel) (pa_cons (pv 1) pa_nil))))
  (pss_cons (ps_set (i := 7) sc_L_ties.nd rfl (.inl rfl) (pe_op op_mod (pe_op op_fdiv (pv 2) pe_int) (pe_op op_add (pe_op op_pow pe_int pe_int) pe_int)))
  (pss_cons (ps_if (pt_cmpR op_eq (pe_op op_mod (pe_op op_fdiv (pv 2) pe_int) pe_int) pe_int (nomark _)) (pss_one (ps_set (i := 7) sc_L_ties.nd rfl (.inl rfl) (pe_op op_mod (pe_op op_fdiv (pv 2) pe_int) pe_int))) pss_nil)
  (pss_cons (ps_expr (pe_bm PySem.F.plainAttrs_list PySem.F.slot_list_append PySem.F.type_list_append mt_append (pv 3) (pa_cons (pe_tup (pa_cons (pe_ix ix_list (pv 1) (pv 5) (fun _ _ => rfl)) (pa_cons (pe_ix ix_list (pv 1) (pv 6) (fun _ _ => rfl)) (pa_cons (pv 7) pa_nil)))) pa_nil)))
  (pss_one (ps_set (i := 2) sc_L_ties.nd rfl (.inl rfl) (pe_op op_fdivW (pv 2) (pe_op op_mul pe_int (pe_op op_add (pe_op op_pow pe_int pe_int) pe_int))))))))))))
  (pss_one (ps_ret (pv 3))))))), ?_⟩
    refine ⟨_, rfl, _, rfl, Nat.zero_le _, fun p np => ?_⟩
    have s1 := same_upd (o := .lst []) np
    have w0 : TW H (upd H p (.lst [])) p zs [] [] := ⟨s1, upd_same, ⟨rfl, fun _ _ h => nomatch h⟩, .nil⟩
    refine ⟨_, rfl, _, _, rfl, .inl (s1.seq hB), _, _, rfl, rfl, _, rfl, ite2 (fun e => ?_) (fun e => ?_)⟩
    · exact ⟨_, rfl, q _ p [] [] w0 (Nat.zero_le _)⟩
    have l2 : 2 ≤ zs.length := by
      rw [zl] at e
      have := of_decide_eq_false (Bool.eq_false_iff.mpr e)
      omega
    refine ⟨_, rfl, by decide, by decide, for_range (fun i σ H' => ∃ (r : Int) (es : List Addr) (ts : List Tie) (y1 y2 y3 y4 : Option V), σ = [some (.int c), some (.ref b), some (.int r), some (.ref p), y1, y2, y3, y4] ∧ 0 ≤ r ∧ TW H H' p zs es ts ∧ ts.length ≤ i) ⟨_, [], [], _, _, _, _, rfl, ha, w0, Nat.le_refl _⟩ ?_ ?_⟩
    · rintro i σ H' hi ⟨r, es, ts, y1, y2, y3, y4, rfl, r0, tw, hl⟩
      have hi12 : i < 12 := hi
      have hB' := tw.s.seq hB
      have o1 : 0 ≤ r % 6 % (zs.length : Int) := Int.emod_nonneg _ (by omega)
      have o2 : r % 6 % (zs.length : Int) < zs.length := Int.emod_lt_of_pos _ (by omega)
      have d1 : 0 ≤ r / 6 % 5 % ((zs.length : Int) - 1) := Int.emod_nonneg _ (by omega)
      have d2 : r / 6 % 5 % ((zs.length : Int) - 1) < (zs.length : Int) - 1 := Int.emod_lt_of_pos _ (by omega)
      obtain ⟨w1, w2, w3⟩ := two_ne o1 o2 d1 d2
      obtain ⟨y, gy, my, ay⟩ := nm_get o1 o2
      obtain ⟨z, gz, mz, az⟩ := nm_get w1 w2
      have nyz := nm_ne nd o1 w1 gy gz w3
      have u1 : 0 ≤ r / 60 % 1000000001 := Int.emod_nonneg _ (by decide)
      have u2 : r / 60 % 1000000001 < 1000000001 := Int.emod_lt_of_pos _ (by decide)
      have v1 : 0 ≤ r / 60 % 7 := Int.emod_nonneg _ (by decide)
      have v2 : r / 60 % 7 < 7 := Int.emod_lt_of_pos _ (by decide)
      refine ⟨_, rfl, rfl, _, rfl, ite2 (fun e => ?_) (fun e => ?_)⟩
      · exact ⟨_, rfl, q _ p es ts tw (by omega)⟩
      refine ⟨_, rfl, _, _, rfl, rfl, pz, _, rfl, _, _, rfl, .inl hB', _, _, rfl, rfl, by rw [zl]; omega, ?_⟩
      rw [zl]
      refine ⟨_, rfl, _, _, rfl, rfl, _, rfl, _, _, rfl, rfl, ⟨by decide, by decide⟩, _, _, rfl, rfl, pz, _, rfl, _, _, rfl, .inl hB', _, _, rfl, rfl, _, _, rfl, rfl, by rw [zl]; omega, _, _, rfl, rfl, _, rfl, _, _, rfl, .inl hB', _, _, rfl, rfl, by rw [zl]; omega, ?_⟩
      rw [zl]
      refine ⟨_, rfl, _, _, rfl, rfl, ⟨by decide, by decide⟩, _, _, rfl, rfl, ⟨by decide, by decide, by decide⟩, _, _, rfl, rfl, _, _, rfl, rfl, (show (0 : Int) < 10 ^ (9 : Int).toNat + 1 by decide), ?_⟩
      refine ⟨_, rfl, _, _, rfl, rfl, ⟨by decide, by decide⟩, _, _, rfl, rfl, pz, rfl, _, rfl, ite2 (fun e => ?_) (fun e => ?_)⟩
      · refine ⟨_, rfl, _, _, rfl, rfl, ⟨by decide, by decide⟩, _, _, rfl, rfl, pz, ?_⟩
        refine ⟨_, rfl, .inl ⟨rfl, _, lstAt tw.d⟩, _, rfl, _, rfl, _, _, _, _, rfl, rfl, hB', ay, _, rfl, _, rfl, _, _, _, _, rfl, rfl, hB', az, _, rfl, (show (3 : Nat) ≤ sizeLine by decide), fun t nt => ?_⟩
        have Dt : p ≠ t := ne_of_none tw.d nt
        refine ⟨_, _, _, rfl, rfl, by rw [upd_ne Dt]; exact tw.d, by rw [List.length_map, tw.t.1]; exact small1000 (by omega), ?_⟩
        refine ⟨_, rfl, _, _, rfl, rfl, ⟨by decide, by decide, by decide⟩, _, _, rfl, rfl, _, _, rfl, rfl, .inl ⟨by decide, by decide⟩, _, _, rfl, rfl, wide_div (b := 40) (by decide) (by decide) (by decide) (by decide), ?_⟩
        exact ⟨_, es ++ [t], ts ++ [(y, z, r / 60 % 7)], _, _, _, _, rfl, Int.ediv_nonneg r0 (by decide), tw.add (t := (y, z, r / 60 % 7)) np nt my mz nyz v1 (by show r / 60 % 7 ≤ 1000000000; omega), by rw [List.length_append]; exact Nat.succ_le_succ hl⟩
      · refine ⟨_, rfl, .inl ⟨rfl, _, lstAt tw.d⟩, _, rfl, _, rfl, _, _, _, _, rfl, rfl, hB', ay, _, rfl, _, rfl, _, _, _, _, rfl, rfl, hB', az, _, rfl, (show (3 : Nat) ≤ sizeLine by decide), fun t nt => ?_⟩
        have Dt : p ≠ t := ne_of_none tw.d nt
        refine ⟨_, _, _, rfl, rfl, by rw [upd_ne Dt]; exact tw.d, by rw [List.length_map, tw.t.1]; exact small1000 (by omega), ?_⟩
        refine ⟨_, rfl, _, _, rfl, rfl, ⟨by decide, by decide, by decide⟩, _, _, rfl, rfl, _, _, rfl, rfl, .inl ⟨by decide, by decide⟩, _, _, rfl, rfl, wide_div (b := 40) (by decide) (by decide) (by decide) (by decide), ?_⟩
        exact ⟨_, es ++ [t], ts ++ [(y, z, r / 60 % 1000000001)], _, _, _, _, rfl, Int.ediv_nonneg r0 (by decide), tw.add (t := (y, z, r / 60 % 1000000001)) np nt my mz nyz u1 (by show r / 60 % 1000000001 ≤ 1000000000; omega), by rw [List.length_append]; exact Nat.succ_le_succ hl⟩
    · rintro σ H' ⟨r, es, ts, y1, y2, y3, y4, rfl, r0, tw, hl⟩
      exact ⟨_, rfl, q _ p es ts tw hl⟩
end
end TK

namespace TK
open PySem PySem.Spec PyProof.Rows L2
theorem eq_flat {H : Hp} {t u : Addr} {xs : List V} (h1 : TL H t xs) (h2 : TL H u xs) (hl : xs.length ≤ 1000) (fl : ∀ x ∈ xs, flat1 x = true) (n : Nat) : Eq2 H (n + 1) (.ref t) (.ref u) := by
  refine .inr ⟨t, u, _, _, rfl, rfl, .inr ⟨h1, h2⟩, rfl, by omega, fun i x y hx hy => ?_⟩
  rw [hx] at hy
  have e := Option.some.inj hy
  have f := fl x (List.mem_of_getElem? hx)
  cases n with
  | zero => exact ⟨e, f⟩
  | succ n => exact .inl ⟨e, f⟩
theorem fl_nm {zs : List Nam} : ∀ x ∈ zs.map vN, flat1 x = true := fun x hx => by
  obtain ⟨z, _, rfl⟩ := List.mem_map.mp hx
  rfl
theorem fl_capI (x : Option Int) : flat1 (capI x) = true := by cases x <;> rfl
theorem eq_tiesL {H : Hp} {t u : Addr} {es fs : List Addr} {ts : List Tie} (h1 : H t = some (.lst (es.map V.ref))) (h2 : H u = some (.lst (fs.map V.ref))) (a : TiesAt H es ts) (b : TiesAt H fs ts) (hl : es.length ≤ 10000) : Eq2 H 2 (.ref t) (.ref u) := by
  refine .inr ⟨t, u, _, _, rfl, rfl, .inl ⟨h1, h2⟩, by rw [List.length_map, List.length_map, a.1, b.1], by rw [List.length_map]; omega, fun i x y hx hy => ?_⟩
  obtain ⟨e, k, rfl, _, ek, hk⟩ := ties_at a hx
  obtain ⟨e', k', rfl, _, ek', hk'⟩ := ties_at b hy
  have : k = k' := Option.some.inj (ek.symm.trans ek')
  subst this
  refine eq_flat (.inl hk) (.inl hk') (show (3 : Nat) ≤ 1000 by decide) (fun x hx => ?_) 0
  rcases List.mem_cons.mp hx with rfl | hx
  · rfl
  rcases List.mem_cons.mp hx with rfl | hx
  · rfl
  rcases List.mem_cons.mp hx with rfl | hx
  · rfl
  · cases hx
theorem eq_tiesT {H : Hp} {t u : Addr} {es fs : List Addr} {ts : List Tie} (h1 : TL H t (es.map V.ref)) (h2 : TL H u (fs.map V.ref)) (a : TiesAt H es ts) (b : TiesAt H fs ts) (hl : es.length ≤ 10000) : Eq2 H 2 (.ref t) (.ref u) := by
  refine .inr ⟨t, u, _, _, rfl, rfl, .inr ⟨h1, h2⟩, by rw [List.length_map, List.length_map, a.1, b.1], by rw [List.length_map]; omega, fun i x y hx hy => ?_⟩
  obtain ⟨e, k, rfl, _, ek, hk⟩ := ties_at a hx
  obtain ⟨e', k', rfl, _, ek', hk'⟩ := ties_at b hy
  have : k = k' := Option.some.inj (ek.symm.trans ek')
  subst this
  refine eq_flat (.inl hk) (.inl hk') (show (3 : Nat) ≤ 1000 by decide) (fun x hx => ?_) 0
  rcases List.mem_cons.mp hx with rfl | hx
  · rfl
  rcases List.mem_cons.mp hx with rfl | hx
  · rfl
  rcases List.mem_cons.mp hx with rfl | hx
  · rfl
  · cases hx
theorem fldsL_none (a b : Addr) (m : Str) (h1 : (m = ("links" : Str)) = False) (h2 : (m = ("names" : Str)) = False) : (fldsL a b).lookup m = none := by
  unfold fldsL
  rw [lookup_putF, if_neg (by rw [h1]; exact id), lookup_putF, if_neg (by rw [h2]; exact id)]
  rfl
section
variable {P : Program} {w : World} {K : PySem.W.Frag} {mg : Str → Option Value} {base : Heap}
/-! _law_big -/
def spBig (K : PySem.W.Frag) : Sp := fun vs H Q _ => ∃ (a : Addr) (ns : List Int) (s l c : Int), vs = [.ref a, .int s, .int l, .int c] ∧ SqL K H a (ns.map V.int) ∧ 0 ≤ s ∧ s + 3 ≤ ns.length ∧ l ≤ c ∧ ∀ r : Int, l ≤ r → r ≤ c → Q (.int r) H
theorem ok_L_big {f : Addr} {fd : FuncData} (F : Fun K "_law_big" "_law_big" s_L_big f fd) (m_int : mg "int" = none) : FnOk P w K mg base CX0 1 f fd ["_law_pool_here", "_law_spot", "_law_least", "_law_crest"] (spBig K) := by
  refine F.ok sc_L_big (fun vs H Q E h => ?_) (fun cdv A outer s H vs Q E hr h => ?_)
  · obtain ⟨a, ns, s, l, c, rfl, _⟩ := h
    rfl
  · obtain ⟨a, ns, s, l, c, rfl, hS, h0, h1, lc, q⟩ := h
    refine ⟨_, (pss_cons (ps_set (i := 4) sc_L_big.nd rfl (.inl rfl) (pe_op op_add (pe_op op_add (pe_op op_mul (pe_op op_mod (pe_callTy call_int1 (by rfl) m_int (by decide +kernel) (pa_cons (pe_ix ix_list (pv 0) (pv 1) (fun _ _ => rfl)) pa_nil)) pe_int) pe_int) (pe_op op_mul (pe_op op_mod (pe_callTy call_int1 (by rfl) m_int (by decide +kernel) (pa_cons (pe_ix ix_list (pv 0) (pe_op op_add (pv 1) pe_int) (fun _ _ => rfl)) pa_nil)) pe_int) pe_int)) (pe_op op_mod (pe_callTy call_int1 (by rfl) m_int (by decide +kernel) (pa_cons (pe_ix ix_list (pv 0) (pe_op op_add (pv 1) pe_int) (fun _ _ => rfl)) pa_nil)) pe_int)))
  (pss_one (ps_ret (pe_op op_add (pv 2) (pe_op op_mod (pe_callTy call_int1 (by rfl) m_int (by decide +kernel) (pa_cons (pv 4) pa_nil)) (pe_op op_add (pe_op op_sub (pv 3) (pv 2)) pe_int)))))), ?_⟩
    refine ⟨_, rfl, _, rfl, _, _, _, _, rfl, rfl, hS, get_int (by omega) (by omega), .inl ⟨_, rfl, _, _, rfl, rfl, pz, _, _, rfl, rfl, .inr ⟨by decide, by decide⟩, ?_⟩⟩
    refine ⟨_, rfl, _, rfl, _, _, rfl, rfl, _, _, _, _, rfl, rfl, hS, get_int (by omega) (by omega), .inl ⟨_, rfl, _, _, rfl, rfl, pz, _, _, rfl, rfl, .inr ⟨by decide, by decide⟩, _, _, rfl, rfl, ?_⟩⟩
    refine ⟨_, rfl, _, rfl, _, _, rfl, rfl, _, _, _, _, rfl, rfl, hS, get_int (by omega) (by omega), .inl ⟨_, rfl, _, _, rfl, rfl, pz, _, _, rfl, rfl, ?_⟩⟩
    refine ⟨_, rfl, _, rfl, .inl ⟨_, rfl, _, rfl, _, rfl, _, _, rfl, rfl, _, _, rfl, rfl, _, _, rfl, rfl, (show (0 : Int) < c - l + 1 by omega), _, _, rfl, rfl, ?_⟩⟩
    generalize ns.getD s.toNat 0 % 5040 * 25401600 + ns.getD (s + 1).toNat 0 % 5040 * 5040 + ns.getD (s + 2).toNat 0 % 5040 = x
    have h2 := Int.emod_nonneg x (show c - l + 1 ≠ 0 by omega)
    have h3 := Int.emod_lt_of_pos x (show 0 < c - l + 1 by omega)
    exact q _ (by show l ≤ l + x % (c - l + 1); omega) (by show l + x % (c - l + 1) ≤ c; omega)
/-! _law_lifts -/
def spLifts (K : PySem.W.Frag) : Sp := fun vs H Q _ => ∃ (a b : Addr) (ns : List Int) (es : List Addr) (ts : List Tie), vs = [.ref a, .ref b] ∧ SqL K H a (ns.map V.int) ∧ ns.length = 48 ∧ H b = some (.lst (es.map V.ref)) ∧ TiesAt H es ts ∧ ts.length ≤ 12 ∧ (∀ t ∈ ts, t.2.2 ≤ 1000000000) ∧
  ∀ (H' : Hp) (p : Addr) (ms : List Int), H p = none → Same H H' → H' p = some (.lst (ms.map V.int)) → ms.length = ts.length → (∀ (i : Nat) (m : Int) (t : Tie), ms[i]? = some m → ts[i]? = some t → 0 ≤ m ∧ t.2.2 + m ≤ 1000000000) → Q (.ref p) H'
theorem ok_L_lifts {f : Addr} {fd : FuncData} (F : Fun K "_law_lifts" "_law_lifts" s_L_lifts f fd) (m_len : mg "len" = none) (m_range : mg "range" = none) (m_min : mg "min" = none)
    (d_L_part : Def P w K mg base "_law_part" 1 ["_law_pool_here", "_law_spot", "_law_under", "_law_size"] (spPart K)) (d_L_big : Def P w K mg base "_law_big" 1 ["_law_pool_here", "_law_spot", "_law_least", "_law_crest"] (spBig K)) : FnOk P w K mg base CX0 2 f fd ["_law_pool_here", "_law_ties_here"] (spLifts K) := by
  refine F.ok sc_L_lifts (fun vs H Q E h => ?_) (fun cdv A outer s H vs Q E hr h => ?_)
  · obtain ⟨a, b, ns, es, ts, rfl, _⟩ := h
    rfl
  · obtain ⟨a, b, ns, es, ts, rfl, hS, n48, hB, hT, t12, h9, q⟩ := h
    have el : (es.map V.ref).length = ts.length := by rw [List.length_map, hT.1]
    refine ⟨_, (pss_cons (ps_set (i := 2) sc_L_lifts.nd rfl (.inl rfl) (pe_lst pa_nil))
  (pss_cons (ps_for PassesOwn.never rfl (pi_range1 (by rfl) m_range (pa_cons (pe_callB call_len_seq (by rfl) m_len (by decide +kernel) (pa_cons (pv 1) pa_nil)) pa_nil)) (pg_name (i := 3) sc_L_lifts.nd rfl (.inl rfl))
    (pss_cons (ps_set (i := 4) sc_L_lifts.nd rfl (.inl rfl) (pe_op op_sub (pe_op op_pow pe_int pe_int) (pe_ix ix_tup (pe_ix ix_list (pv 1) (pv 3) (fun _ _ => rfl)) pe_int (fun _ _ => rfl))))
  (pss_cons (ps_set (i := 5) sc_L_lifts.nd rfl (.inl rfl) (pe_callD d_L_part (hr.mono (by decide)) (by rfl) (pa_cons (pv 0) (pa_cons (pe_op op_mul pe_int (pv 3)) (pa_cons pe_int (pa_cons pe_int pa_nil))))))
  (pss_cons (ps_if (pt_cmpR op_eq (pe_callD d_L_part (hr.mono (by decide)) (by rfl) (pa_cons (pv 0) (pa_cons (pe_op op_mul pe_int (pv 3)) (pa_cons pe_int (pa_cons pe_int pa_nil))))) pe_int (nomark _)) (pss_one (ps_set (i := 5) sc_L_lifts.nd rfl (.inl rfl) (pe_callD d_L_big (hr.mono (by decide)) (by rfl) (pa_cons (pv 0) (pa_cons (pe_op op_add (pe_op op_mul pe_int (pv 3)) pe_int) (pa_cons pe_int (pa_cons (pv 4) pa_nil))))))) pss_nil)
  (pss_one (ps_expr (pe_bm PySem.F.plainAttrs_list PySem.F.slot_list_append PySem.F.type_list_append mt_append (pv 2) (pa_cons (pe_callB (call_min2 rfl) (by rfl) m_min (by decide +kernel) (pa_cons (pv 5) (pa_cons (pv 4) pa_nil))) pa_nil))))))))
  (pss_one (ps_ret (pv 2))))), ?_⟩
    refine ⟨Nat.zero_le _, fun p np => ?_⟩
    have s0 := same_upd (o := .lst []) np
    refine ⟨_, rfl, _, _, rfl, .inl (lstAt (s0 _ _ hB)), _, rfl, by omega, by omega, for_range (fun i σ H' => ∃ (ms : List Int) (y1 y2 y3 : Option V), σ = [some (.ref a), some (.ref b), some (.ref p), y1, y2, y3] ∧ H' = upd H p (.lst (ms.map V.int)) ∧ ms.length = i ∧ (∀ (i : Nat) (m : Int) (t : Tie), ms[i]? = some m → ts[i]? = some t → 0 ≤ m ∧ t.2.2 + m ≤ 1000000000)) ⟨[], _, _, _, rfl, rfl, rfl, fun _ _ _ h => nomatch h⟩ ?_ ?_⟩
    · rintro i σ H' hi ⟨ms, y1, y2, y3, rfl, rfl, ml, hm⟩
      have hi2 : i < ts.length := by rw [el] at hi; omega
      have s1 := same_upd (o := .lst (ms.map V.int)) np
      have hie : i < es.length := by rw [hT.1]; exact hi2
      obtain ⟨t, et, ht⟩ := hT.2 i _ (List.getElem?_eq_getElem hie)
      have ae : atI (es.map V.ref) (0 + (i : Int)) = some (.ref es[i]) := atI_in (by omega) (by rw [show (0 + (i : Int)).toNat = i by omega, List.getElem?_map, List.getElem?_eq_getElem hie]; rfl)
      have t9 := h9 t (mem_at et)
      refine ⟨_, _, rfl, rfl, ⟨by decide, by decide, by decide⟩, _, rfl, _, rfl, _, _, _, _, rfl, rfl, lstAt (s1 _ _ hB), ae, _, _, _, _, rfl, rfl, tupAt (s1 _ _ ht), rfl, _, _, rfl, rfl, ?_⟩
      refine ⟨_, rfl, _, rfl, _, _, rfl, rfl, .inl ⟨by decide, by decide⟩, a, ns, _, 1, 10, rfl, s1.seq hS, by omega, by omega, by decide, by decide, by decide, ?_⟩
      have dn : ∀ m : Int, 0 ≤ m → t.2.2 + m ≤ 1000000000 → ∀ (j : Nat) (m' : Int) (t' : Tie), (ms ++ [m])[j]? = some m' → ts[j]? = some t' → 0 ≤ m' ∧ t'.2.2 + m' ≤ 1000000000 := fun m m0 m9 j m' t' h1 h2 => by
        by_cases hj : j < ms.length
        · rw [List.getElem?_append_left hj] at h1
          exact hm j m' t' h1 h2
        · have hj3 := (List.getElem?_eq_some_iff.mp h1).1
          rw [List.length_append, List.length_singleton] at hj3
          obtain rfl : j = ms.length := by omega
          rw [List.getElem?_append_right (Nat.le_refl _), Nat.sub_self] at h1
          cases Option.some.inj h1
          rw [ml, et] at h2
          cases Option.some.inj h2
          exact ⟨m0, m9⟩
      have p0 := part_lo (ns := ns) (s := 4 * (0 + (i : Int))) (u := 1) (z := 10) (by decide)
      refine ⟨_, rfl, _, rfl, _, _, rfl, rfl, .inl ⟨by decide, by decide⟩, a, ns, _, 10, 5, rfl, s1.seq hS, by omega, by omega, by decide, by decide, by decide, rfl, _, rfl, ite2 (fun e => ?_) (fun e => ?_)⟩
      · refine ⟨_, rfl, _, rfl, _, _, rfl, rfl, .inl ⟨by decide, by decide⟩, _, _, rfl, rfl, _, rfl, a, ns, _, 0, _, rfl, s1.seq hS, by omega, by omega, (by show (0 : Int) ≤ 1000000000 - t.2.2; omega), fun r r0 r1 => ?_⟩
        refine ⟨_, rfl, .inl ⟨rfl, _, lstAt upd_same⟩, _, rfl, _, rfl, _, _, rfl, _, _, _, rfl, rfl, upd_same, by rw [List.length_map, ml]; exact small1000 (by omega), ms ++ [if (1000000000 - t.2.2) < r then 1000000000 - t.2.2 else r], _, _, _, rfl, ?_, by rw [List.length_append, ml]; rfl, dn _ (by split <;> omega) (by split <;> omega)⟩
        rw [upd_twice, List.map_append]; rfl
      · refine ⟨_, rfl, .inl ⟨rfl, _, lstAt upd_same⟩, _, rfl, _, rfl, _, _, rfl, _, _, _, rfl, rfl, upd_same, by rw [List.length_map, ml]; exact small1000 (by omega), ms ++ [if (1000000000 - t.2.2) < partOf ns (4 * (0 + (i : Int))) 1 10 then 1000000000 - t.2.2 else partOf ns (4 * (0 + (i : Int))) 1 10], _, _, _, rfl, ?_, by rw [List.length_append, ml]; rfl, dn _ (by split <;> omega) (by split <;> omega)⟩
        rw [upd_twice, List.map_append]; rfl
    · rintro σ H' ⟨ms, y1, y2, y3, rfl, rfl, ml, hm⟩
      exact ⟨_, rfl, q _ p ms np (same_upd np) upd_same (by rw [ml, el]; omega) hm⟩
end
end TK

namespace TK
open PySem PySem.Spec PyProof.Rows L2
theorem wo_R {C p : Addr} {H : Hp} {zs : List Nam} {ts : List Tie} {ks : List Int} {Q : VK} {E : XK} (l : LkAt C H p zs ts) (ok : LOk zs ts) (kl : ks.length ≤ 4) (hk : ∀ k ∈ ks, 0 ≤ k ∧ k < (ts.length : Int))
    (q : ∀ H' r, H r = none → Same H H' → LkAt C H' r zs (leftT ks ts ts.length) → Q (.ref r) H') : spWithoutR C (.ref p :: ks.map V.int) H Q E := by
  refine ⟨[.ref p], ks.map V.int, rfl, rfl, Nat.le_of_lt (small1000 (by rw [List.length_map]; omega)), fun t nt => ?_⟩
  have s := same_upd (o := .tup (ks.map V.int)) nt
  exact ⟨p, t, zs, ts, ks, rfl, l.same s, ok, upd_same, by omega, hk, fun H' r nr s2 lk => q H' r (none_of s nr) (s.trans s2) lk⟩
section
variable {P : Program} {w : World} {K : PySem.W.Frag} {mg : Str → Option Value} {base : Heap}
/-! _law_without -/
def spLwo (K : PySem.W.Frag) (C : Addr) : Sp := fun vs H Q _ => ∃ (p o : Addr) (zs : List Nam) (ts : List Tie) (ks : List Int), vs = [.ref p, .ref o] ∧ LkAt C H p zs ts ∧ LOk zs ts ∧ SqL K H o (ks.map V.int) ∧ ks.length ≤ 4 ∧ (∀ k ∈ ks, 0 ≤ k ∧ k < (ts.length : Int)) ∧
  ∀ H' r, H r = none → Same H H' → LkAt C H' r zs (leftT ks ts ts.length) → Q (.ref r) H'
theorem ok_L_without {f C gW : Addr} {fd : FuncData} (F : Fun K "_law_without" "_law_without" s_L_without f fd) (T : TxtL K C) (m_len : mg "len" = none) (Me_without : Meth K C "without" gW) (G_without : FnR P w K mg base CX0 6 gW (spWithoutR C)) :
    FnOk P w K mg base CX0 7 f fd ["_law_made", "_law_out"] (spLwo K C) := by
  refine F.ok sc_L_without (fun vs H Q E h => ?_) (fun cdv A outer s H vs Q E hr h => ?_)
  · obtain ⟨p, o, zs, ts, ks, rfl, _⟩ := h
    rfl
  · obtain ⟨p, o, zs, ts, ks, rfl, l, ok, hO, k4, hk, q⟩ := h
    obtain ⟨dx, na, lb, es, hp, _⟩ := id l
    refine ⟨_, (pss_cons (ps_if (pt_cmpR op_eq (pe_callB call_len_seq (by rfl) m_len (by decide +kernel) (pa_cons (pv 1) pa_nil)) pe_int (nomark _)) (pss_one (ps_ret (pe_methR0 (pv 0) T.cl Me_without G_without (hr.mono (by decide)) pass0))) pss_nil)
  (pss_cons (ps_if (pt_cmpR op_eq (pe_callB call_len_seq (by rfl) m_len (by decide +kernel) (pa_cons (pv 1) pa_nil)) pe_int (nomark _)) (pss_one (ps_ret (pe_methR (pv 0) T.cl Me_without G_without (hr.mono (by decide)) pass0 (pa_cons (pe_ix ix_list (pv 1) pe_int (fun _ _ => rfl)) pa_nil)))) pss_nil)
  (pss_cons (ps_if (pt_cmpR op_eq (pe_callB call_len_seq (by rfl) m_len (by decide +kernel) (pa_cons (pv 1) pa_nil)) pe_int (nomark _)) (pss_one (ps_ret (pe_methR (pv 0) T.cl Me_without G_without (hr.mono (by decide)) pass0 (pa_cons (pe_ix ix_list (pv 1) pe_int (fun _ _ => rfl)) (pa_cons (pe_ix ix_list (pv 1) pe_int (fun _ _ => rfl)) pa_nil))))) pss_nil)
  (pss_cons (ps_if (pt_cmpR op_eq (pe_callB call_len_seq (by rfl) m_len (by decide +kernel) (pa_cons (pv 1) pa_nil)) pe_int (nomark _)) (pss_one (ps_ret (pe_methR (pv 0) T.cl Me_without G_without (hr.mono (by decide)) pass0 (pa_cons (pe_ix ix_list (pv 1) pe_int (fun _ _ => rfl)) (pa_cons (pe_ix ix_list (pv 1) pe_int (fun _ _ => rfl)) (pa_cons (pe_ix ix_list (pv 1) pe_int (fun _ _ => rfl)) pa_nil)))))) pss_nil)
  (pss_one (ps_ret (pe_methR (pv 0) T.cl Me_without G_without (hr.mono (by decide)) pass0 (pa_cons (pe_ix ix_list (pv 1) pe_int (fun _ _ => rfl)) (pa_cons (pe_ix ix_list (pv 1) pe_int (fun _ _ => rfl)) (pa_cons (pe_ix ix_list (pv 1) pe_int (fun _ _ => rfl)) (pa_cons (pe_ix ix_list (pv 1) pe_int (fun _ _ => rfl)) pa_nil))))))))))), ?_⟩
    have W := wo_R (E := E0) l ok k4 hk q
    have nn := fldsL_none na lb "without" (by decide +kernel) (by decide +kernel)
    rcases ks with _ | ⟨k1, _ | ⟨k2, _ | ⟨k3, _ | ⟨k4', _ | ⟨k5, ks⟩⟩⟩⟩⟩
    · refine ⟨_, rfl, o, _, rfl, .inl hO, rfl, _, rfl, ite2 (fun _ => ⟨_, rfl, p, dx, _, rfl, hp, nn, W⟩) (fun e => absurd (decide_eq_true rfl) e)⟩
    · refine ⟨_, rfl, o, _, rfl, .inl hO, rfl, _, rfl, ite2 (fun e => absurd (V.int.inj (of_decide_eq_true e)) (by simp)) (fun _ => ?_)⟩
      refine ⟨_, rfl, o, _, rfl, .inl hO, rfl, _, rfl, ite2 (fun _ => ⟨_, rfl, p, dx, _, rfl, hp, nn, _, rfl, _, _, _, _, rfl, rfl, hO, rfl, W⟩) (fun e => absurd (decide_eq_true rfl) e)⟩
    · refine ⟨_, rfl, o, _, rfl, .inl hO, rfl, _, rfl, ite2 (fun e => absurd (V.int.inj (of_decide_eq_true e)) (by simp)) (fun _ => ?_)⟩
      refine ⟨_, rfl, o, _, rfl, .inl hO, rfl, _, rfl, ite2 (fun e => absurd (V.int.inj (of_decide_eq_true e)) (by simp)) (fun _ => ?_)⟩
      refine ⟨_, rfl, o, _, rfl, .inl hO, rfl, _, rfl, ite2 (fun _ => ⟨_, rfl, p, dx, _, rfl, hp, nn, _, rfl, _, _, _, _, rfl, rfl, hO, rfl, _, rfl, _, _, _, _, rfl, rfl, hO, rfl, W⟩) (fun e => absurd (decide_eq_true rfl) e)⟩
    · refine ⟨_, rfl, o, _, rfl, .inl hO, rfl, _, rfl, ite2 (fun e => absurd (V.int.inj (of_decide_eq_true e)) (by simp)) (fun _ => ?_)⟩
      refine ⟨_, rfl, o, _, rfl, .inl hO, rfl, _, rfl, ite2 (fun e => absurd (V.int.inj (of_decide_eq_true e)) (by simp)) (fun _ => ?_)⟩
      refine ⟨_, rfl, o, _, rfl, .inl hO, rfl, _, rfl, ite2 (fun e => absurd (V.int.inj (of_decide_eq_true e)) (by simp)) (fun _ => ?_)⟩
      refine ⟨_, rfl, o, _, rfl, .inl hO, rfl, _, rfl, ite2 (fun _ => ⟨_, rfl, p, dx, _, rfl, hp, nn, _, rfl, _, _, _, _, rfl, rfl, hO, rfl, _, rfl, _, _, _, _, rfl, rfl, hO, rfl, _, rfl, _, _, _, _, rfl, rfl, hO, rfl, W⟩) (fun e => absurd (decide_eq_true rfl) e)⟩
    · refine ⟨_, rfl, o, _, rfl, .inl hO, rfl, _, rfl, ite2 (fun e => absurd (V.int.inj (of_decide_eq_true e)) (by simp)) (fun _ => ?_)⟩
      refine ⟨_, rfl, o, _, rfl, .inl hO, rfl, _, rfl, ite2 (fun e => absurd (V.int.inj (of_decide_eq_true e)) (by simp)) (fun _ => ?_)⟩
      refine ⟨_, rfl, o, _, rfl, .inl hO, rfl, _, rfl, ite2 (fun e => absurd (V.int.inj (of_decide_eq_true e)) (by simp)) (fun _ => ?_)⟩
      refine ⟨_, rfl, o, _, rfl, .inl hO, rfl, _, rfl, ite2 (fun e => absurd (V.int.inj (of_decide_eq_true e)) (by simp)) (fun _ => ?_)⟩
      exact ⟨_, rfl, p, dx, _, rfl, hp, nn, _, rfl, _, _, _, _, rfl, rfl, hO, rfl, _, rfl, _, _, _, _, rfl, rfl, hO, rfl, _, rfl, _, _, _, _, rfl, rfl, hO, rfl, _, rfl, _, _, _, _, rfl, rfl, hO, rfl, W⟩
    · simp at k4
theorem lk_half {C p dx a b g : Addr} {H : Hp} {zs : List Nam} {es : List Addr} {ts : List Tie} (hp : H p = some (.ins C dx (fldsL a b))) (hb : H b = some (.tup (es.map V.ref))) (hT : TiesAt H es ts) (l : LkAt C H p zs ts) (t12 : ts.length ≤ 12) (ng : H g = none) :
    RLk K C p b (upd H g (.lst [])) ∧ spLenL C [.ref p] (upd H g (.lst [])) (fun v H' => v = .int (((es.map V.ref).length : Nat) : Int) ∧ H' = upd H g (.lst [])) E0 := by
  have el : (es.map V.ref).length = ts.length := by rw [List.length_map, hT.1]
  have s := same_upd (o := .lst []) ng
  exact ⟨⟨dx, a, _, s _ _ hp, tupAt (s _ _ hb)⟩, p, zs, ts, rfl, l.same s, t12, by rw [el], rfl⟩
/-! _law_holds -/
def spHolds (C : Addr) : Sp := fun vs H Q _ => ∃ (p c l : Addr) (zs : List Nam) (es : List Addr) (ts : List Tie), vs = [.ref p, .ref c, .ref l] ∧ LkAt C H p zs ts ∧ LOk zs ts ∧ H c = some (.lst (zs.map vN)) ∧ H l = some (.lst (es.map V.ref)) ∧ TiesAt H es ts ∧ ∀ H', Same H H' → Q (.bl true) H'
theorem ok_L_holds {f C CT gG gL gi gT : Addr} {fd fdG fdL fdT : FuncData} (F : Fun K "_law_holds" "_law_holds" s_L_holds f fd) (T : TxtL K C) (TT : TxtT K CT) (m_tuple : mg "tuple" = none) (m_list : mg "list" = none) (m_len : mg "len" = none) (m_range : mg "range" = none)
    (d_L_same : Def P w K mg base "_law_same" 4 ["_law_got", "_law_wanted"] (spSame 2)) (d_L_rows : Def P w K mg base "_law_rows" 2 ["_law_words_here", "_law_loads"] (spRows K))
    (O_getitem : Own K CT "__getitem__" gG) (cf_getitem : PySem.W.fnIn K gG = true) (G_getitem : FnOk P w K mg base CX0 2 gG fdG ["self", "at"] (spGetT K CT)) (b_getitem : Binds K fdG ["self", "at"] [])
    (O_len : Own K C "__len__" gL) (G_len : FnOk P w K mg base CX0 1 gL fdL ["self"] (spLenL C)) (b_len : Binds K fdL ["self"] []) (O_iter : Own K C "__iter__" gi) (I_Links : FnIt P w K mg base 1 gi (RLk K C))
    (Me_tolls : Meth K C "tolls" gT) (G_tolls : FnOk P w K mg base CX0 5 gT fdT ["self"] (spTollsM K C CT)) (b_tolls : Binds K fdT ["self"] []) :
    FnOk P w K mg base CX0 6 f fd ["_law_made", "_law_words_here", "_law_ties_here"] (spHolds C) := by
  refine F.ok sc_L_holds (fun vs H Q E h => ?_) (fun cdv A outer s H vs Q E hr h => ?_)
  · obtain ⟨p, c, l, zs, es, ts, rfl, _⟩ := h
    rfl
  · obtain ⟨p, c, l, zs, es, ts, rfl, lk, ok, hc, hl, hT, q⟩ := h
    obtain ⟨dx, na, lb, es', hp, hA, hB, hT'⟩ := id lk
    have z6 := ok.l6
    have t12 := ok.t12
    have zl : (zs.map vN).length = zs.length := List.length_map ..
    have el : (es.map V.ref).length = ts.length := by rw [List.length_map, hT.1]
    refine ⟨_, (pss_cons (ps_if (PW.pt (pw_or (pt_not (pt_val (pe_callD d_L_same (hr.mono (by decide)) (by rfl) (pa_cons (pe_fld (pv 0) rfl) (pa_cons (pe_callTy call_tuple_of (by rfl) m_tuple (by decide +kernel) (pa_cons (pv 1) pa_nil)) pa_nil))))) (pw_or1 (pt_not (pt_val (pe_callD d_L_same (hr.mono (by decide)) (by rfl) (pa_cons (pe_fld (pv 0) rfl) (pa_cons (pe_callTy call_tuple_of (by rfl) m_tuple (by decide +kernel) (pa_cons (pv 2) pa_nil)) pa_nil)))))))) (pss_one (ps_ret pe_bl)) pss_nil)
  (pss_cons (ps_if (PW.pt (pw_or (pt_not (pt_val (pe_callD d_L_same (hr.mono (by decide)) (by rfl) (pa_cons (pe_callB (call_lenOwn O_len G_len (hr.mono (by decide)) b_len pass0) (by rfl) m_len (by decide +kernel) (pa_cons (pv 0) pa_nil)) (pa_cons (pe_callB call_len_seq (by rfl) m_len (by decide +kernel) (pa_cons (pv 2) pa_nil)) pa_nil))))) (pw_or1 (pt_not (pt_val (pe_callD d_L_same (hr.mono (by decide)) (by rfl) (pa_cons (pe_callTy (call_listOwnT rfl O_iter I_Links O_len G_len b_len pass0 (hr.mono (by decide))) (by rfl) m_list (by decide +kernel) (pa_cons (pv 0) pa_nil)) (pa_cons (pv 2) pa_nil)))))))) (pss_one (ps_ret pe_bl)) pss_nil)
  (pss_cons (ps_set (i := 3) sc_L_holds.nd rfl (.inl rfl) (pe_meth0 (pv 0) T.cl Me_tolls G_tolls (hr.mono (by decide)) b_tolls .nil pass0))
  (pss_cons (ps_set (i := 4) sc_L_holds.nd rfl (.inl rfl) (pe_callD d_L_rows (hr.mono (by decide)) (by rfl) (pa_cons (pv 1) (pa_cons (pv 2) pa_nil))))
  (pss_cons (ps_for PassesOwn.never rfl (pi_range1 (by rfl) m_range (pa_cons (pe_callB call_len_seq (by rfl) m_len (by decide +kernel) (pa_cons (pv 1) pa_nil)) pa_nil)) (pg_name (i := 5) sc_L_holds.nd rfl (.inl rfl))
    (pss_one (ps_for PassesOwn.never rfl (pi_range1 (by rfl) m_range (pa_cons (pe_callB call_len_seq (by rfl) m_len (by decide +kernel) (pa_cons (pv 1) pa_nil)) pa_nil)) (pg_name (i := 6) sc_L_holds.nd rfl (.inl rfl))
    (pss_one (ps_if (pt_not (pt_val (pe_callD d_L_same (hr.mono (by decide)) (by rfl) (pa_cons (pe_ixOwn O_getitem cf_getitem G_getitem (hr.mono (by decide)) b_getitem pass0 (pv 3) (pe_tup (pa_cons (pe_ix ix_list (pv 1) (pv 5) (fun _ _ => rfl)) (pa_cons (pe_ix ix_list (pv 1) (pv 6) (fun _ _ => rfl)) pa_nil))) (fun _ _ => rfl)) (pa_cons (pe_ix ix_list (pe_ix ix_list (pv 4) (pv 5) (fun _ _ => rfl)) (pv 6) (fun _ _ => rfl)) pa_nil))))) (pss_one (ps_ret pe_bl)) pss_nil)))))
  (pss_one (ps_ret (pe_callD d_L_same (hr.mono (by decide)) (by rfl) (pa_cons (pe_fld (pv 3) rfl) (pa_cons (pe_callTy call_tuple_of (by rfl) m_tuple (by decide +kernel) (pa_cons (pv 1) pa_nil)) pa_nil)))))))))), ?_⟩
    refine ⟨_, rfl, p, C, dx, _, _, rfl, hp, T.cl, T.nN, fldsL_names _ _, _, rfl, c, _, rfl, .inl ⟨lstAt hc, fun t nt => ?_⟩⟩
    have s1 := same_upd (o := .tup (zs.map vN)) nt
    refine ⟨_, _, rfl, eq_flat (hA.same s1) (.inl upd_same) (by rw [zl]; omega) fl_nm 1, _, rfl, iteF ?_⟩
    refine ⟨_, rfl, p, C, dx, _, _, rfl, s1 _ _ hp, T.cl, T.nL, fldsL_links _ _, _, rfl, l, _, rfl, .inl ⟨lstAt (s1 _ _ hl), fun t2 nt2 => ?_⟩⟩
    have s2 := s1.trans (same_upd (o := .tup (es.map V.ref)) nt2)
    refine ⟨_, _, rfl, eq_tiesT (.inl (s2 _ _ hB)) (.inl upd_same) (hT'.same s2) (hT.same s2) (by rw [hT'.1]; omega), _, rfl, iteF ?_⟩
    refine ⟨_, rfl, p, dx, _, rfl, s2 _ _ hp, p, zs, ts, rfl, lk.same s2, t12, _, rfl, by omega, by omega, _, rfl, l, _, rfl, .inl (lstAt (s2 _ _ hl)), ?_⟩
    rw [el]
    refine ⟨_, _, rfl, .inl ⟨rfl, rfl⟩, _, rfl, iteF ?_⟩
    refine ⟨_, rfl, p, dx, _, lb, es'.map V.ref, rfl, s2 _ _ hp, tupAt (s2 _ _ hB), (by rw [List.length_map, hT'.1]; omega), fun g ng => lk_half (s2 _ _ hp) (s2 _ _ hB) (hT'.same s2) (lk.same s2) t12 ng, fun g ng => ?_⟩
    have s3 := s2.trans (same_upd (o := .lst (es'.map V.ref)) ng)
    refine ⟨_, rfl, _, _, rfl, eq_tiesL upd_same (s3 _ _ hl) (hT'.same s3) (hT.same s3) (by rw [hT'.1]; omega), _, rfl, iteF ?_⟩
    refine ⟨_, rfl, p, dx, _, rfl, s3 _ _ hp, fldsL_none _ _ "tolls" (by decide +kernel) (by decide +kernel), p, zs, ts, rfl, lk.same s3, ok, fun H4 r nr s34 tk => ?_⟩
    have s4 := s3.trans s34
    refine ⟨_, rfl, _, rfl, c, l, zs, es, ts, rfl, lstAt (s4 _ _ hc), z6, lstAt (s4 _ _ hl), hT.same s4, by omega, fun H5 rr s45 hR => ?_⟩
    have s5 := s4.trans s45
    have tk5 := tk.same s45
    refine ⟨_, rfl, _, _, rfl, .inl (lstAt (s5 _ _ hc)), _, rfl, by rw [zl]; omega, by rw [zl]; omega, for_range (fun i σ H' => Same H5 H' ∧ ∃ y1 y2 : Option V, σ = [some (.ref p), some (.ref c), some (.ref l), some (.ref r), some (.ref rr), y1, y2]) ⟨Same.refl _, _, _, rfl⟩ ?_ ?_⟩
    · rintro i σ H2 hi ⟨t2, y1, y2, rfl⟩
      have hi2 : i < zs.length := by rw [zl] at hi; omega
      have ez : zs[i]? = some zs[i] := List.getElem?_eq_getElem hi2
      refine ⟨_, rfl, _, _, rfl, .inl (lstAt (t2 _ _ (s5 _ _ hc))), _, rfl, by rw [zl]; omega, by rw [zl]; omega, for_range (fun j σ H' => Same H5 H' ∧ ∃ y2 : Option V, σ = [some (.ref p), some (.ref c), some (.ref l), some (.ref r), some (.ref rr), some (.int (0 + (i : Int))), y2]) ⟨t2, _, rfl⟩ ?_ ?_⟩
      · rintro j σ H3 hj ⟨t3, y2, rfl⟩
        have hj2 : j < zs.length := by rw [zl] at hj; omega
        have ey : zs[j]? = some zs[j] := List.getElem?_eq_getElem hj2
        have ax := zs_at0 ez
        have ay := zs_at0 ey
        have ar := row_at0 (ts := ts) (x := zs[i]) ey
        have hc3 := t3 _ _ (s5 _ _ hc)
        refine ⟨_, rfl, _, rfl, _, rfl, _, _, _, _, rfl, rfl, lstAt hc3, ax, _, rfl, _, rfl, _, _, _, _, rfl, rfl, lstAt hc3, ay, (show (2 : Nat) ≤ sizeLine by decide), fun k nk => ?_⟩
        have s6 := t3.trans (same_upd (o := .tup [vN zs[i], vN zs[j]]) nk)
        have tk6 := tk5.same s6
        obtain ⟨dT, aT, dT', kvs, hpT, _⟩ := id tk6
        refine ⟨⟨r, dT, _, rfl, hpT⟩, r, k, zs, ts, zs[i], zs[j], rfl, tk6, upd_same, List.getElem_mem hi2, List.getElem_mem hj2, fun H7 s7 => ?_⟩
        have s8 := s6.trans s7
        obtain ⟨rs, er, rw'⟩ := hR.same s8
        obtain ⟨p2, ap, hp2⟩ := rows_at0 rw' ez
        exact ⟨_, rfl, _, rfl, _, _, _, _, rfl, rfl, lstAt er, ap, _, rfl, _, _, _, _, rfl, rfl, lstAt hp2, ar, _, _, rfl, .inl ⟨rfl, fl_capI _⟩, _, rfl, iteF ⟨s8, _, rfl⟩⟩
      · rintro σ H3 ⟨t3, y2, rfl⟩
        exact ⟨t3, _, _, rfl⟩
    · rintro σ H2 ⟨t2, y1, y2, rfl⟩
      have tk6 := tk5.same t2
      obtain ⟨dT, aT, dT', kvs, hpT, hAT, _⟩ := id tk6
      refine ⟨_, rfl, r, CT, dT, _, _, rfl, hpT, TT.cl, TT.nN, fldsT_names _ _, _, rfl, c, _, rfl, .inl ⟨lstAt (t2 _ _ (s5 _ _ hc)), fun t9 nt9 => ?_⟩⟩
      have s9 := same_upd (o := .tup (zs.map vN)) nt9
      exact ⟨_, _, rfl, eq_flat (hAT.same s9) (.inl upd_same) (by rw [zl]; omega) fl_nm 1, q _ ((s5.trans t2).trans s9)⟩
end
end TK

namespace TK
open PySem PySem.Spec PyProof.Rows L2
/-- a table and values of other kinds -/
structure OddT (K : PySem.W.Frag) (C : Addr) : Prop where
  nN : PySem.W.notFirst K C (.type "NoneType") = true
  nS : PySem.W.notFirst K C (.type "str") = true
  nI : PySem.W.notFirst K C (.type "int") = true
  nB : PySem.W.notFirst K C (.type "bool") = true
  nL : PySem.W.notFirst K C (.type "list") = true
  nT : PySem.W.notFirst K C (.type "tuple") = true
  kN : PySem.W.kitOne K (.type "NoneType") (.ref C) = some false
  kS : PySem.W.kitOne K (.type "str") (.ref C) = some false
  kI : PySem.W.kitOne K (.type "int") (.ref C) = some false
  kB : PySem.W.kitOne K (.type "bool") (.ref C) = some false
  kL : PySem.W.kitOne K (.type "list") (.ref C) = some false
  kT : PySem.W.kitOne K (.type "tuple") (.ref C) = some false
def OddV (K : PySem.W.Frag) (C : Addr) (H : Hp) (x : V) : Prop := OddX K C H x ∧ ∃ t, TyX K H x t ∧ PySem.W.kitOne K t (.ref C) = some false
theorem TiesAt.app {H : Hp} {es fs : List Addr} {ts us : List Tie} (h : TiesAt H es ts) (k : TiesAt H fs us) : TiesAt H (es ++ fs) (ts ++ us) := by
  refine ⟨by rw [List.length_append, List.length_append, h.1, k.1], fun i e he => ?_⟩
  by_cases hi : i < es.length
  · rw [List.getElem?_append_left hi] at he
    obtain ⟨t, h1, h2⟩ := h.2 i e he
    exact ⟨t, by rw [List.getElem?_append_left (by rw [← h.1]; exact hi)]; exact h1, h2⟩
  · rw [List.getElem?_append_right (by omega)] at he
    obtain ⟨t, h1, h2⟩ := k.2 _ e he
    exact ⟨t, by rw [List.getElem?_append_right (by rw [← h.1]; omega), ← h.1]; exact h1, h2⟩
theorem cut_from_l (xs : List V) (i : Nat) : cutV xs (some ((i : Nat) : Int)) none = xs.drop i := by
  unfold cutV
  rw [HT.sIx_nat]
  have e : HT.sIx xs.length xs.length none = xs.length := rfl
  rw [e]
  by_cases h : i ≤ xs.length
  · rw [Nat.min_eq_left h, List.take_of_length_le (by rw [List.length_drop]; exact Nat.le_refl _)]
  · rw [Nat.min_eq_right (by omega), List.drop_length, List.drop_of_length_le (by omega), List.take_nil]
theorem TiesAt.wrote {H : Hp} {D : Addr} {es : List Addr} {ts : List Tie} {xs : List V} {o : HO} (h : TiesAt H es ts) (e : H D = some (.lst xs)) : TiesAt (upd H D o) es ts := ⟨h.1, fun i a ha => by
  obtain ⟨t, h1, h2⟩ := h.2 i a ha
  exact ⟨t, h1, by show _ = _; rw [upd_ne (ne_of h2 e (by intro z; cases z))]; exact h2⟩⟩
theorem gTup3 {K : PySem.W.Frag} {i j k : Nat} {e : Addr} {x y z : V} {σ : L2.St} {H : Hp} {Q : L2.St → Hp → Prop} (he : H e = some (.tup [x, y, z])) (σ' : L2.St) (hσ : ((σ.set i (some x)).set j (some y)).set k (some z) = σ') (h : Q σ' H) :
    gTup K 3 (gCons (gName i) (gCons (gName j) (gCons (gName k) gNil))) (.ref e) σ H Q := by
  subst hσ
  exact ⟨_, _, rfl, tupAt he, rfl, _, _, rfl, _, _, rfl, _, _, rfl, rfl, h⟩
theorem cut_from1 (xs : List V) : cutV xs (some 1) none = xs.drop 1 := cut_from_l xs 1
theorem cut_to1 (xs : List V) : cutV xs none (some 1) = xs.take 1 := cut_to_l xs 1
theorem LkAt.ins {C p : Addr} {H : Hp} {zs : List Nam} {ts : List Tie} (h : LkAt C H p zs ts) : IsIn H (.ref p) C := by
  obtain ⟨dx, a, b, es, hp, _⟩ := h
  exact ⟨p, dx, _, rfl, hp⟩
theorem eqL_odd {K : PySem.W.Frag} {C : Addr} {H : Hp} {p : Addr} {y : V} {zs : List Nam} {ts : List Tie} {Q : VK} {E : XK} (a : LkAt C H p zs ts) (ok : LOk zs ts) (o : OddV K C H y) (q : Q (.bl false) H) : rOwnX K C (spEqL K C) E (.ref p) y H Q :=
  ⟨a.ins, .inr o.1, p, y, zs, ts, rfl, a, ok, .inl (o.2.elim fun t h => ⟨t, h.1, h.2, q⟩)⟩
theorem eqL_any {K : PySem.W.Frag} {C : Addr} {H : Hp} {p p' : Addr} {zs us : List Nam} {ts ts' : List Tie} {Q : VK} {E : XK} (a : LkAt C H p zs ts) (a' : LkAt C H p' us ts') (ok : LOk zs ts) (ok' : LOk us ts') (q : Q (.bl (decide (zs = us ∧ ts = ts'))) H) : rOwnX K C (spEqL K C) E (.ref p) (.ref p') H Q :=
  ⟨a.ins, .inl a'.ins, p, .ref p', zs, ts, rfl, a, ok, .inr ⟨p', us, ts', rfl, a', ok', q⟩⟩
theorem eqL_yes {K : PySem.W.Frag} {C : Addr} {H : Hp} {p p' : Addr} {zs : List Nam} {ts : List Tie} {Q : VK} {E : XK} (a : LkAt C H p zs ts) (a' : LkAt C H p' zs ts) (ok : LOk zs ts) (q : Q (.bl true) H) : rOwnX K C (spEqL K C) E (.ref p) (.ref p') H Q :=
  eqL_any a a' ok ok (by rw [decide_eq_true ⟨rfl, rfl⟩]; exact q)
theorem eqL_no {K : PySem.W.Frag} {C : Addr} {H : Hp} {p p' : Addr} {zs us : List Nam} {ts ts' : List Tie} {Q : VK} {E : XK} (a : LkAt C H p zs ts) (a' : LkAt C H p' us ts') (ok : LOk zs ts) (ok' : LOk us ts') (ne : ¬ (zs = us ∧ ts = ts')) (q : Q (.bl false) H) : rOwnX K C (spEqL K C) E (.ref p) (.ref p') H Q :=
  eqL_any a a' ok ok' (by rw [decide_eq_false ne]; exact q)
theorem make_goL {K : PySem.W.Frag} {C : Addr} {H : Hp} {x dx a b : Addr} {zs : List Nam} {es : List Addr} {ts : List Tie} {R : Hp → Prop} {E : XK} (n1 : H x = none) (n2 : H dx = none) (ne : dx ≠ x) (hA : SqL K H a (zs.map vN) ∨ TL H a (zs.map vN)) (hB : SqS K H b (es.map V.ref)) (hT : TiesAt H es ts) (ok : LOk zs ts)
    (k : ∀ H', LkAt C H' x zs ts → Same H H' → R H') : spInitL K C [.ref x, .ref a, .ref b] (upd (upd H dx (.own x)) x (.ins C dx [])) (fun v H2 => v = .non ∧ R H2) E := by
  have sdx := same_upd (o := .own x) n2
  have nmm : (upd H dx (.own x)) x = none := by rw [upd_ne ne.symm]; exact n1
  have sm := sdx.trans (same_upd (o := .ins C dx []) nmm)
  exact ⟨x, a, b, dx, zs, es, ts, rfl, upd_same, hA.elim (fun h => .inl (sm.seq h)) (fun h => .inr (h.same sm)), hB.same sm, hT.same sm, ok, fun H' tk fr => ⟨rfl, k H' tk fun c o e => fr c o (sm _ _ e) (ne_of_none e n1)⟩⟩
theorem left_all (ts : List Tie) : ∀ n, n ≤ ts.length → leftT [] ts n = ts.take n
  | 0, _ => rfl
  | n + 1, h => by
    have e : ts[n]? = some ts[n] := List.getElem?_eq_getElem (by omega)
    rw [left_snoc e, left_all ts n (by omega), if_neg (by simp), List.take_add_one, e]
    rfl
theorem LOk.sub {zs : List Nam} {ts us : List Tie} (h : LOk zs ts) (l : us.length ≤ 12) (s : ∀ t ∈ us, t ∈ ts) : LOk zs us :=
  ⟨h.nm, h.nd, h.l1, h.l6, l, fun t m => h.a t (s t m), fun t m => h.b t (s t m), fun t m => h.ne t (s t m), fun t m => h.h0 t (s t m), fun t m => h.h9 t (s t m)⟩
theorem LOk.nms {zs us : List Nam} {ts : List Tie} (h : LOk zs ts) (p : us.Perm zs) : LOk us ts :=
  ⟨fun z m => h.nm z (p.mem_iff.mp m), p.nodup_iff.mpr h.nd, by rw [p.length_eq]; exact h.l1, by rw [p.length_eq]; exact h.l6, h.t12, fun t m => p.mem_iff.mpr (h.a t m), fun t m => p.mem_iff.mpr (h.b t m), h.ne, h.h0, h.h9⟩
theorem turn_perm {α : Type} (xs : List α) : (xs.drop 1 ++ xs.take 1).Perm xs := (List.perm_append_comm).trans (by rw [List.take_append_drop])
theorem turn_ne {zs : List Nam} (nd : zs.Nodup) (h : 1 < zs.length) : zs ≠ zs.drop 1 ++ zs.take 1 := by
  intro e
  match zs, nd, h, e with
  | a :: b :: r, nd, _, e =>
    have : a = b := by simpa using congrArg List.head? e
    subst this
    simp at nd
section
variable {P : Program} {w : World} {K : PySem.W.Frag} {mg : Str → Option Value} {base : Heap}
/-! _law_alike -/
def spAlike (C : Addr) : Sp := fun vs H Q _ => ∃ (p c l : Addr) (n : Int) (zs : List Nam) (es : List Addr) (ts : List Tie), vs = [.ref p, .ref c, .ref l, .int n] ∧ LkAt C H p zs ts ∧ LOk zs ts ∧ H c = some (.lst (zs.map vN)) ∧ H l = some (.lst (es.map V.ref)) ∧ TiesAt H es ts ∧ ∀ H', Same H H' → Q (.bl true) H'
theorem ok_L_alike {f C fI gQ gW : Addr} {fd fdI fdQ : FuncData} (F : Fun K "_law_alike" "_law_alike" s_L_alike f fd) (T : TxtL K C) (OT : OddT K C) (m_list : mg "list" = none) (m_tuple : mg "tuple" = none) (m_len : mg "len" = none) (m_int : mg "int" = none) (m_abs : mg "abs" = none)
    (M_Links : Mk K C fI) (G_Links : FnOk P w K mg base CX0 3 fI fdI ["self", "names", "links"] (spInitL K C)) (mg_Links : mg "Links" = some (.ref C)) (b_Links : Binds K fdI ["self", "names", "links"] [])
    {g1 : List Value → List Value → List Value} (kb_Links : KBn K fdI ["self", "names", "links"] 1 ["links", "names"] g1 (fun vs zs => vs ++ zs.reverse))
    (O_eq : Own K C "__eq__" gQ) (G_eq : FnOk P w K mg base CX0 1 gQ fdQ ["self", "other"] (spEqL K C)) (b_eq : Binds K fdQ ["self", "other"] [])
    (Me_without : Meth K C "without" gW) (G_without : FnR P w K mg base CX0 6 gW (spWithoutR C)) (d_L_same : Def P w K mg base "_law_same" 4 ["_law_got", "_law_wanted"] (spSame 2)) :
    FnOk P w K mg base CX0 7 f fd ["_law_made", "_law_words_here", "_law_ties_here", "_law_number"] (spAlike C) := by
  refine F.ok sc_L_alike (fun vs H Q E h => ?_) (fun cdv A outer s H vs Q E hr h => ?_)
  · obtain ⟨p, c, l, n, zs, es, ts, rfl, _⟩ := h
    rfl
  · obtain ⟨p, c, l, n, zs, es, ts, rfl, lk, ok, hc, hl, hT, q⟩ := h
    obtain ⟨dx, na, lb, es', hp, hA, hB, hT'⟩ := id lk
    have z6 := ok.l6
    have t12 := ok.t12
    have zl : (zs.map vN).length = zs.length := List.length_map ..
    have el : (es.map V.ref).length = ts.length := by rw [List.length_map, hT.1]
    have nn := fldsL_none na lb "without" (by decide +kernel) (by decide +kernel)
    refine ⟨_, (pss_cons (ps_set (i := 4) sc_L_alike.nd rfl (.inl rfl) (pe_lst (pa_cons (pe_make M_Links G_Links (hr.mono (by decide)) (by rfl) mg_Links b_Links .nil pass0 (pa_cons (pe_callTy call_tuple_of (by rfl) m_tuple (by decide +kernel) (pa_cons (pv 1) pa_nil)) (pa_cons (pe_callTy call_tuple_of (by rfl) m_tuple (by decide +kernel) (pa_cons (pv 2) pa_nil)) pa_nil))) (pa_cons (pe_makeK0 M_Links G_Links (hr.mono (by decide)) (by rfl) mg_Links kb_Links pass0 (pk_cons (pe_callTy call_list_of (by rfl) m_list (by decide +kernel) (pa_cons (pv 2) pa_nil)) (pk_cons (pe_callTy call_list_of (by rfl) m_list (by decide +kernel) (pa_cons (pv 1) pa_nil)) pk_nil))) (pa_cons (pe_methR0 (pv 0) T.cl Me_without G_without (hr.mono (by decide)) pass0) pa_nil)))))
  (pss_cons (ps_for PassesOwn.never rfl (pi_list (pv 4)) (pg_name (i := 5) sc_L_alike.nd rfl (.inl rfl))
    (pss_one (ps_if (PW.pt (pw_or (pt_cmpR op_notBl (pe_cmpR (op_ownEqX (K := K) rfl (fun _ _ => rfl) O_eq G_eq (hr.mono (by decide)) b_eq pass0) (pv 0) (pv 5) (nomark _)) pe_bl (nomark _)) (pw_or1 (pt_cmpR op_notBl (pe_cmpR (op_ownEqX (K := K) rfl (fun _ _ => rfl) O_eq G_eq (hr.mono (by decide)) b_eq pass0) (pv 5) (pv 0) (nomark _)) pe_bl (nomark _))))) (pss_one (ps_ret pe_bl)) pss_nil)))
  (pss_cons (ps_set (i := 6) sc_L_alike.nd rfl (.inl rfl) (pe_op op_cat (pe_slice sl_list (pv 2) (po_some pe_int) po_none) (pe_slice sl_list (pv 2) po_none (po_some pe_int))))
  (pss_cons (ps_if (pt_not (pt_val (pe_callD d_L_same (hr.mono (by decide)) (by rfl) (pa_cons (pe_cmpR (op_ownEqX (K := K) rfl (fun _ _ => rfl) O_eq G_eq (hr.mono (by decide)) b_eq pass0) (pv 0) (pe_make M_Links G_Links (hr.mono (by decide)) (by rfl) mg_Links b_Links .nil pass0 (pa_cons (pe_callTy call_list_of (by rfl) m_list (by decide +kernel) (pa_cons (pv 1) pa_nil)) (pa_cons (pv 6) pa_nil))) (nomark _)) (pa_cons (pe_cmpR (op_eqD hr.units) (pv 6) (pv 2) (nomark _)) pa_nil))))) (pss_one (ps_ret pe_bl)) pss_nil)
  (pss_cons (ps_cut (ps_if (PW.pt (pw_and (pt_cmpR op_gt (pe_callB call_len_seq (by rfl) m_len (by decide +kernel) (pa_cons (pv 1) pa_nil)) pe_int (nomark _)) (pw_and1 (pt_cmpR op_notBl (pe_cmpR (op_ownEqX (K := K) rfl (fun _ _ => rfl) O_eq G_eq (hr.mono (by decide)) b_eq pass0) (pv 0) (pe_make M_Links G_Links (hr.mono (by decide)) (by rfl) mg_Links b_Links .nil pass0 (pa_cons (pe_op op_cat (pe_slice sl_list (pv 1) (po_some pe_int) po_none) (pe_slice sl_list (pv 1) po_none (po_some pe_int))) (pa_cons (pe_callTy call_list_of (by rfl) m_list (by decide +kernel) (pa_cons (pv 2) pa_nil)) pa_nil))) (nomark _)) pe_bl (nomark _))))) (pss_one (ps_ret pe_bl)) pss_nil))
  (pss_cons (ps_cut (ps_if (pt_cmpR (op_neD hr.units) (pv 2) (pe_lst pa_nil) (nomark _)) (pss_cons (ps_set (i := 7) sc_L_alike.nd rfl (.inl rfl) (pe_op op_mod (pe_callTy call_int1 (by rfl) m_int (by decide +kernel) (pa_cons (pv 3) pa_nil)) (pe_callB call_len_seq (by rfl) m_len (by decide +kernel) (pa_cons (pv 2) pa_nil))))
  (pss_cons (ps_asg (pe_ix ix_list (pv 2) (pv 7) (fun _ _ => rfl)) (pg_tup (by rfl) (pgs_cons (pg_name (i := 8) sc_L_alike.nd rfl (.inl rfl)) (pgs_cons (pg_name (i := 9) sc_L_alike.nd rfl (.inl rfl)) (pgs_cons (pg_name (i := 10) sc_L_alike.nd rfl (.inl rfl)) pgs_nil)))))
  (pss_cons (ps_set (i := 11) sc_L_alike.nd rfl (.inl rfl) (pe_op op_cat (pe_op op_cat (pe_slice sl_list (pv 2) po_none (po_some (pv 7))) (pe_lst (pa_cons (pe_tup (pa_cons (pv 8) (pa_cons (pv 9) (pa_cons (pe_callB call_abs (by rfl) m_abs (by decide +kernel) (pa_cons (pe_op op_sub (pv 10) pe_int) pa_nil)) pa_nil)))) pa_nil))) (pe_slice sl_list (pv 2) (po_some (pe_op op_add (pv 7) pe_int)) po_none)))
  (pss_one (ps_for PassesOwn.never rfl (pi_list (pe_lst (pa_cons (pe_make M_Links G_Links (hr.mono (by decide)) (by rfl) mg_Links b_Links .nil pass0 (pa_cons (pe_callTy call_list_of (by rfl) m_list (by decide +kernel) (pa_cons (pv 1) pa_nil)) (pa_cons (pv 11) pa_nil))) (pa_cons (pe_make M_Links G_Links (hr.mono (by decide)) (by rfl) mg_Links b_Links .nil pass0 (pa_cons (pe_callTy call_list_of (by rfl) m_list (by decide +kernel) (pa_cons (pv 1) pa_nil)) (pa_cons (pe_op op_cat (pe_slice sl_list (pv 2) po_none (po_some (pv 7))) (pe_slice sl_list (pv 2) (po_some (pe_op op_add (pv 7) pe_int)) po_none)) pa_nil))) pa_nil)))) (pg_name (i := 5) sc_L_alike.nd rfl (.inl rfl))
    (pss_one (ps_if (PW.pt (pw_or (pt_cmpR op_notBl (pe_cmpR (op_ownEqX (K := K) rfl (fun _ _ => rfl) O_eq G_eq (hr.mono (by decide)) b_eq pass0) (pv 0) (pv 5) (nomark _)) pe_bl (nomark _)) (pw_or1 (pt_cmpR op_notBl (pe_cmpR (op_ownEqX (K := K) rfl (fun _ _ => rfl) O_eq G_eq (hr.mono (by decide)) b_eq pass0) (pv 5) (pv 0) (nomark _)) pe_bl (nomark _))))) (pss_one (ps_ret pe_bl)) pss_nil))))))) pss_nil))
  (pss_cons (ps_for PassesOwn.never rfl (pi_list (pe_lst (pa_cons pe_non (pa_cons pe_str (pa_cons pe_int (pa_cons pe_bl (pa_cons (pe_callTy call_list_of (by rfl) m_list (by decide +kernel) (pa_cons (pv 1) pa_nil)) (pa_cons (pe_callTy call_list_of (by rfl) m_list (by decide +kernel) (pa_cons (pv 2) pa_nil)) (pa_cons (pe_callTy call_tuple_of (by rfl) m_tuple (by decide +kernel) (pa_cons (pv 2) pa_nil)) pa_nil))))))))) (pg_name (i := 12) sc_L_alike.nd rfl (.inl rfl))
    (pss_one (ps_if (pt_cmpR op_notBl (pe_cmpR (op_ownEqX (K := K) rfl (fun _ _ => rfl) O_eq G_eq (hr.mono (by decide)) b_eq pass0) (pv 0) (pv 12) (nomark _)) pe_bl (nomark _)) (pss_one (ps_ret pe_bl)) pss_nil)))
  (pss_one (ps_ret pe_bl))))))))), ?_⟩
    -- three that are equal
    refine ⟨_, rfl, c, _, rfl, .inl ⟨lstAt hc, fun t1 nt1 => ?_⟩⟩
    have s1 := same_upd (o := .tup (zs.map vN)) nt1
    refine ⟨_, rfl, l, _, rfl, .inl ⟨lstAt (s1 _ _ hl), fun t2 nt2 => ?_⟩⟩
    have s2' := same_upd (o := .tup (es.map V.ref)) nt2
    have s2 := s1.trans s2'
    intro o1 d1 n1 n2 ne1
    refine make_goL n1 n2 ne1 (.inr (.inl (s2' _ _ upd_same))) (.inr (tupAt upd_same)) (hT.same s2) ok fun H1 k1 s3' => ?_
    have s3 := s2.trans s3'
    refine ⟨_, rfl, l, _, rfl, .inl (lstAt (s3 _ _ hl)), fun l1 nl1 => ?_⟩
    have s4' := same_upd (o := .lst (es.map V.ref)) nl1
    have s4 := s3.trans s4'
    refine ⟨_, rfl, c, _, rfl, .inl (lstAt (s4 _ _ hc)), fun l2 nl2 => ⟨rfl, rfl, ?_⟩⟩
    have s5' := same_upd (o := .lst (zs.map vN)) nl2
    have s5 := s4.trans s5'
    intro o2 d2 n3 n4 ne2
    refine make_goL n3 n4 ne2 (.inl (lstAt upd_same)) (.inl (lstAt (s5' _ _ upd_same))) (hT.same s5) ok fun H2 k2 s6' => ?_
    have s6 := s5.trans s6'
    have k1b := k1.same ((s4'.trans s5').trans s6')
    refine ⟨_, rfl, p, dx, _, rfl, s6 _ _ hp, nn, wo_R (ks := []) (lk.same s6) ok (by decide) (fun _ h => nomatch h) fun H3 o3 n5 s7' k3 => ?_⟩
    rw [left_all ts _ (Nat.le_refl _), List.take_length] at k3
    refine ⟨(show (3 : Nat) ≤ sizeLine by decide), fun D nD => ?_⟩
    have sD := same_upd (o := .lst [V.ref o1, .ref o2, .ref o3]) nD
    have s8 := (s6.trans s7').trans sD
    have all : ∀ (i : Nat) (x : V), [V.ref o1, .ref o2, .ref o3][i]? = some x → ∃ o, x = .ref o ∧ LkAt C (upd H3 D (.lst [V.ref o1, .ref o2, .ref o3])) o zs ts := fun i x e => by
      match i, e with
      | 0, e => cases Option.some.inj e; exact ⟨_, rfl, k1b.same (s7'.trans sD)⟩
      | 1, e => cases Option.some.inj e; exact ⟨_, rfl, k2.same (s7'.trans sD)⟩
      | 2, e => cases Option.some.inj e; exact ⟨_, rfl, k3.same sD⟩
      | i + 3, e => simp at e
    have eD := upd_same (H := H3) (a := D) (o := .lst [V.ref o1, .ref o2, .ref o3])
    generalize upd H3 D (.lst [V.ref o1, .ref o2, .ref o3]) = H4 at all s8 eD ⊢
    refine ⟨_, rfl, D, rfl, ⟨_, lstAt eD⟩, for_list (K := K) (a := D) (xs := [V.ref o1, .ref o2, .ref o3]) (fun i σ H' => H' = H4 ∧ ∃ y5 : Option V, σ = [some (.ref p), some (.ref c), some (.ref l), some (.int n), some (.ref D), y5, none, none, none, none, none, none, none]) ⟨rfl, none, rfl⟩ (fun i σ H' _ hq => by rw [hq.1]; exact lstAt eD) ?_ ?_⟩
    · rintro i x σ H' hx ⟨rfl, y5, rfl⟩
      obtain ⟨o, rfl, ko⟩ := all i x hx
      refine ⟨_, rfl, _, rfl, eqL_yes (lk.same s8) ko ok ⟨true, true, rfl, rfl, _, rfl, iteF ?_⟩⟩
      exact ⟨_, rfl, _, rfl, eqL_yes ko (lk.same s8) ok ⟨true, true, rfl, rfl, _, rfl, iteF ⟨rfl, _, rfl⟩⟩⟩
    rintro σ H' ⟨rfl, y5, rfl⟩
    -- the turned links
    refine ⟨_, rfl, _, rfl, l, _, rfl, lstAt (s8 _ _ hl), fun A nA => ?_⟩
    rw [cut_from1, ← List.map_drop]
    have sA := same_upd (o := .lst ((es.drop 1).map V.ref)) nA
    refine ⟨_, rfl, _, rfl, l, _, rfl, lstAt (sA _ _ (s8 _ _ hl)), fun B nB => ?_⟩
    rw [cut_to1, ← List.map_take]
    have sB := same_upd (o := .lst ((es.take 1).map V.ref)) nB
    refine ⟨A, B, _, _, rfl, rfl, sB _ _ upd_same, upd_same, by rw [List.length_map, List.length_map, List.length_take, List.length_drop]; exact Nat.le_of_lt (small1000 (by have := hT.1; omega)), fun G nG => ?_⟩
    rw [← List.map_append]
    have sG := same_upd (o := .lst ((es.drop 1 ++ es.take 1).map V.ref)) nG
    have s9 := ((s8.trans sA).trans sB).trans sG
    have eG := upd_same (H := upd (upd H' A (.lst ((es.drop 1).map V.ref))) B (.lst ((es.take 1).map V.ref))) (a := G) (o := .lst ((es.drop 1 ++ es.take 1).map V.ref))
    generalize upd (upd (upd H' A (.lst ((es.drop 1).map V.ref))) B (.lst ((es.take 1).map V.ref))) G (.lst ((es.drop 1 ++ es.take 1).map V.ref)) = H5 at s9 eG ⊢
    clear all eD sA sB sG
    have pu := turn_perm ts
    have okU : LOk zs (ts.drop 1 ++ ts.take 1) := ok.sub (by rw [pu.length_eq]; exact t12) fun t m => pu.mem_iff.mp m
    have hTU : ∀ {H'}, Same H H' → TiesAt H' (es.drop 1 ++ es.take 1) (ts.drop 1 ++ ts.take 1) := fun s => ((hT.same s).drop 1).app ((hT.same s).take 1)
    refine ⟨_, rfl, _, rfl, c, _, rfl, .inl (lstAt (s9 _ _ hc)), fun A nA => ?_⟩
    have sA := same_upd (o := .lst (zs.map vN)) nA
    refine ⟨_, rfl, ?_⟩
    intro o4 d4 n6 n7 ne4
    refine make_goL n6 n7 ne4 (.inl (lstAt upd_same)) (.inl (lstAt (sA _ _ eG))) (hTU (s9.trans sA)) okU fun H6 k4 s10' => ?_
    have s10 := (s9.trans sA).trans s10'
    refine eqL_any (lk.same s10) k4 ok okU ?_
    refine ⟨_, rfl, _, rfl, .list _, .list _, .lst (lstAt ((sA.trans s10') _ _ eG)) (ties_dp (hTU s10)), .lst (lstAt (s10 _ _ hl)) (ties_dp (hT.same s10)), shape_ties okU.tn, shape_ties ok.tn, ?_⟩
    refine ⟨_, _, rfl, .inl ⟨?_, rfl⟩, _, rfl, iteF ?_⟩
    · rw [eqv_tiesL]
      exact congrArg V.bl (decide_eq_decide.mpr ⟨fun h => h.2.symm, fun h => ⟨rfl, h.symm⟩⟩)
    -- other names
    refine ⟨fun σ H2 => Same H6 H2 ∧ σ = [some (.ref p), some (.ref c), some (.ref l), some (.int n), some (.ref D), y5, some (.ref G), none, none, none, none, none, none], ?_, ?_⟩
    · refine ⟨_, rfl, c, _, rfl, .inl (lstAt (s10 _ _ hc)), _, _, rfl, rfl, _, rfl, ?_⟩
      rw [zl]
      by_cases hz : 1 < zs.length
      · rw [decide_eq_true (show (1 : Int) < ((zs.length : Nat) : Int) by omega)]
        refine iteT ?_
        refine ⟨_, rfl, _, rfl, _, rfl, c, _, rfl, lstAt (s10 _ _ hc), fun A nA => ?_⟩
        rw [cut_from1, ← List.map_drop]
        have sA := same_upd (o := .lst ((zs.drop 1).map vN)) nA
        refine ⟨_, rfl, _, rfl, c, _, rfl, lstAt (sA _ _ (s10 _ _ hc)), fun B nB => ?_⟩
        rw [cut_to1, ← List.map_take]
        have sB := same_upd (o := .lst ((zs.take 1).map vN)) nB
        refine ⟨A, B, _, _, rfl, rfl, sB _ _ upd_same, upd_same, by rw [List.length_map, List.length_map, List.length_take, List.length_drop]; exact Nat.le_of_lt (small1000 (by omega)), fun G2 nG2 => ?_⟩
        rw [← List.map_append]
        have sG2 := same_upd (o := .lst ((zs.drop 1 ++ zs.take 1).map vN)) nG2
        have t3 := (sA.trans sB).trans sG2
        refine ⟨_, rfl, l, _, rfl, .inl (lstAt (t3 _ _ (s10 _ _ hl))), fun M nM => ?_⟩
        have sM := same_upd (o := .lst (es.map V.ref)) nM
        have t4 := t3.trans sM
        intro o5 d5 n8 n9 ne5
        have okP := ok.nms (turn_perm zs)
        refine make_goL n8 n9 ne5 (.inl (lstAt (sM _ _ upd_same))) (.inl (lstAt upd_same)) (hT.same (s10.trans t4)) okP fun H7 k5 t5 => ?_
        exact eqL_no (lk.same ((s10.trans t4).trans t5)) k5 ok okP (fun z => turn_ne ok.nd hz z.1) ⟨false, false, rfl, rfl, _, rfl, iteF ⟨t4.trans t5, rfl⟩⟩
      · rw [decide_eq_false (show ¬ (1 : Int) < ((zs.length : Nat) : Int) by omega)]
        exact iteF (iteF ⟨Same.refl _, rfl⟩)
    rintro σ H7 ⟨t7, rfl⟩
    have s11 := s10.trans t7
    clear t7 k4
    -- links that are near
    refine ⟨fun σ H2 => Same H7 H2 ∧ ∃ y5 y7 y8 y9 y10 y11 : Option V, σ = [some (.ref p), some (.ref c), some (.ref l), some (.int n), some (.ref D), y5, some (.ref G), y7, y8, y9, y10, y11, none], ?_, ?_⟩
    · refine ⟨_, rfl, Nat.zero_le _, fun n0 nn0 => ?_⟩
      have sn := same_upd (o := .lst []) nn0
      refine ⟨.list _, .list [], .lst (lstAt (sn _ _ (s11 _ _ hl))) (ties_dp (hT.same (s11.trans sn))), .lst (lstAt upd_same) .nil, shape_ties ok.tn, rfl, _, rfl, ?_⟩
      rw [nil_eqv, List.length_map]
      have s12 := s11.trans sn
      generalize upd H7 n0 (.lst []) = H8 at sn s12 ⊢
      by_cases e0 : ts.length = 0
      · rw [decide_eq_true e0]
        exact iteF ⟨sn, _, _, _, _, _, _, rfl⟩
      · rw [decide_eq_false e0]
        refine iteT ?_
        have elm : (es.map V.ref).length = es.length := List.length_map ..
        have el2 : es.length = ts.length := hT.1
        have k0 := Int.emod_nonneg n (show ((es.map V.ref).length : Int) ≠ 0 by omega)
        have k1 := Int.emod_lt_of_pos n (show (0 : Int) < ((es.map V.ref).length : Int) by omega)
        refine ⟨_, rfl, .inl ⟨_, rfl, _, rfl, l, _, rfl, .inl (lstAt (s12 _ _ hl)), _, _, rfl, rfl, (show (0 : Int) < ((es.map V.ref).length : Int) by omega), ?_⟩⟩
        obtain ⟨k, hk⟩ : ∃ k : Nat, n % ((es.map V.ref).length : Int) = (k : Int) := ⟨(n % ((es.map V.ref).length : Int)).toNat, by omega⟩
        have kl : k < es.length := by omega
        obtain ⟨e, he⟩ : ∃ e, es[k]? = some e := ⟨_, List.getElem?_eq_getElem kl⟩
        obtain ⟨t, ht, hte⟩ := hT.2 k e he
        have ak : atI (es.map V.ref) (n % ((es.map V.ref).length : Int)) = some (.ref e) := by
          rw [hk]
          exact atI_in (by omega) (by rw [Int.toNat_natCast, List.getElem?_map, he]; rfl)
        refine ⟨_, rfl, _, rfl, _, _, _, _, rfl, rfl, lstAt (s12 _ _ hl), ak, ?_⟩
        refine gTup3 (s12 _ _ hte) [some (.ref p), some (.ref c), some (.ref l), some (.int n), some (.ref D), y5, some (.ref G), some (.int (k : Int)), some (vN t.1), some (vN t.2.1), some (.int t.2.2), none, none] (by rw [← hk]; rfl) ?_
        have tm : t ∈ ts := List.mem_of_getElem? ht
        have t0 := ok.h0 t tm
        have t9 := ok.h9 t tm
        have kl2 : k < ts.length := by omega
        -- one toll changed
        refine ⟨_, rfl, _, rfl, _, rfl, l, _, rfl, lstAt (s12 _ _ hl), fun A nA => ?_⟩
        rw [cut_to_l, ← List.map_take]
        have sA := same_upd (o := .lst ((es.take k).map V.ref)) nA
        obtain ⟨v, hv⟩ : ∃ v : Int, v = (if t.2.2 - 1 < 0 then -(t.2.2 - 1) else t.2.2 - 1) := ⟨_, rfl⟩
        have v0 : 0 ≤ v ∧ v ≤ 1000000000 ∧ v ≠ t.2.2 := by rw [hv]; split <;> omega
        refine ⟨_, rfl, _, rfl, _, rfl, _, _, rfl, rfl, _, rfl, (show (3 : Nat) ≤ sizeLine by decide), fun T' nT => ⟨(show (1 : Nat) ≤ sizeLine by decide), fun O nO => ?_⟩⟩
        rw [← hv] at nO ⊢
        have sT := same_upd (o := .tup [vN t.1, vN t.2.1, .int v]) nT
        have sO := same_upd (o := .lst [V.ref T']) nO
        have eA := sO _ _ (sT _ _ (upd_same (H := H8) (a := A) (o := .lst ((es.take k).map V.ref))))
        refine ⟨A, O, _, _, rfl, rfl, eA, upd_same, by rw [List.length_map, List.length_take]; exact Nat.le_of_lt (small1000 (by show _ + 1 ≤ 1000; omega)), fun M nM => ?_⟩
        have sM := same_upd (o := .lst ((es.take k).map V.ref ++ [V.ref T'])) nM
        have s4 := ((sA.trans sT).trans sO).trans sM
        refine ⟨_, rfl, _, rfl, _, _, rfl, rfl, _, rfl, l, _, rfl, lstAt (s4 _ _ (s12 _ _ hl)), fun B nB => ?_⟩
        rw [show ((k : Int) + 1) = ((k + 1 : Nat) : Int) by omega, cut_from_l, ← List.map_drop]
        have sB := same_upd (o := .lst ((es.drop (k + 1)).map V.ref)) nB
        have eM := sB _ _ (upd_same (a := M) (o := .lst ((es.take k).map V.ref ++ [V.ref T'])))
        refine ⟨M, B, _, _, rfl, rfl, eM, upd_same, by rw [List.length_append, List.length_map, List.length_map, List.length_take, List.length_drop]; exact Nat.le_of_lt (small1000 (by show _ + 1 + _ ≤ 1000; omega)), fun N' nN => ?_⟩
        have emap : (es.take k).map V.ref ++ [V.ref T'] ++ (es.drop (k + 1)).map V.ref = (es.take k ++ [T'] ++ es.drop (k + 1)).map V.ref := by simp
        rw [emap]
        have sN := same_upd (o := .lst ((es.take k ++ [T'] ++ es.drop (k + 1)).map V.ref)) nN
        have s5 := (s4.trans sB).trans sN
        have eT := sN _ _ (sB _ _ (sM _ _ (sO _ _ (upd_same (a := T') (o := .tup [vN t.1, vN t.2.1, V.int v])))))
        have hone : TiesAt (upd (upd (upd (upd (upd (upd H8 A (.lst ((es.take k).map V.ref))) T' (.tup [vN t.1, vN t.2.1, .int v])) O (.lst [V.ref T'])) M (.lst ((es.take k).map V.ref ++ [V.ref T']))) B (.lst ((es.drop (k + 1)).map V.ref))) N' (.lst ((es.take k ++ [T'] ++ es.drop (k + 1)).map V.ref))) [T'] [(t.1, t.2.1, v)] := ⟨rfl, fun i e he => by
          match i, he with
          | 0, he => cases Option.some.inj he; exact ⟨_, rfl, eT⟩⟩
        have eN := upd_same (H := upd (upd (upd (upd (upd H8 A (.lst ((es.take k).map V.ref))) T' (.tup [vN t.1, vN t.2.1, .int v])) O (.lst [V.ref T'])) M (.lst ((es.take k).map V.ref ++ [V.ref T']))) B (.lst ((es.drop (k + 1)).map V.ref))) (a := N') (o := .lst ((es.take k ++ [T'] ++ es.drop (k + 1)).map V.ref))
        generalize upd (upd (upd (upd (upd (upd H8 A (.lst ((es.take k).map V.ref))) T' (.tup [vN t.1, vN t.2.1, .int v])) O (.lst [V.ref T'])) M (.lst ((es.take k).map V.ref ++ [V.ref T']))) B (.lst ((es.drop (k + 1)).map V.ref))) N' (.lst ((es.take k ++ [T'] ++ es.drop (k + 1)).map V.ref)) = H9 at s5 hone eN ⊢
        clear s4 sA sB sM sN sO sT eA eM eT
        have s13 := s12.trans s5
        have hTN := (((hT.same s13).take k).app hone).app ((hT.same s13).drop (k + 1))
        have sub1 : ∀ t' ∈ ts.take k, t' ∈ ts := fun t' m => List.mem_of_mem_take m
        have sub2 : ∀ t' ∈ ts.drop (k + 1), t' ∈ ts := fun t' m => List.mem_of_mem_drop m
        have memN : ∀ t' ∈ ts.take k ++ [(t.1, t.2.1, v)] ++ ts.drop (k + 1), t' ∈ ts ∨ t' = (t.1, t.2.1, v) := fun t' m => by
          rcases List.mem_append.mp m with m | m
          · rcases List.mem_append.mp m with m | m
            · exact .inl (sub1 _ m)
            · exact .inr (List.mem_singleton.mp m)
          · exact .inl (sub2 _ m)
        have okN : LOk zs (ts.take k ++ [(t.1, t.2.1, v)] ++ ts.drop (k + 1)) :=
          ⟨ok.nm, ok.nd, ok.l1, ok.l6, by rw [List.length_append, List.length_append, List.length_take, List.length_drop, List.length_singleton]; omega,
            fun t' m => (memN t' m).elim (ok.a t') (fun e => by rw [e]; exact ok.a t tm), fun t' m => (memN t' m).elim (ok.b t') (fun e => by rw [e]; exact ok.b t tm), fun t' m => (memN t' m).elim (ok.ne t') (fun e => by rw [e]; exact ok.ne t tm),
            fun t' m => (memN t' m).elim (ok.h0 t') (fun e => by rw [e]; exact v0.1), fun t' m => (memN t' m).elim (ok.h9 t') (fun e => by rw [e]; exact v0.2.1)⟩
        have neN : ts ≠ ts.take k ++ [(t.1, t.2.1, v)] ++ ts.drop (k + 1) := fun e => by
          have h := congrArg (fun l : List Tie => l[k]?) e
          have h' : ts[k]? = (ts.take k ++ [(t.1, t.2.1, v)] ++ ts.drop (k + 1))[k]? := h
          have lt : (ts.take k).length = k := by rw [List.length_take]; omega
          rw [ht, List.append_assoc, List.getElem?_append_right (by omega), lt, Nat.sub_self] at h'
          have h2 : t = (t.1, t.2.1, v) := Option.some.inj h'
          exact v0.2.2 (congrArg (fun x : Tie => x.2.2) h2).symm
        have okD : LOk zs (ts.take k ++ ts.drop (k + 1)) := ok.sub (by rw [List.length_append, List.length_take, List.length_drop]; omega) fun t' m => (List.mem_append.mp m).elim (sub1 t') (sub2 t')
        have neD : ts ≠ ts.take k ++ ts.drop (k + 1) := fun e => by
          have h := congrArg List.length e
          rw [List.length_append, List.length_take, List.length_drop] at h
          omega
        refine ⟨_, rfl, c, _, rfl, .inl (lstAt (s13 _ _ hc)), fun A nA => ?_⟩
        have sA := same_upd (o := .lst (zs.map vN)) nA
        refine ⟨_, rfl, ?_⟩
        intro o6 d6 n8 n9 ne6
        refine make_goL n8 n9 ne6 (.inl (lstAt upd_same)) (.inl (lstAt (sA _ _ eN))) (hTN.same sA) okN fun H10 k6 s14' => ?_
        have s14 := (s13.trans sA).trans s14'
        refine ⟨_, rfl, c, _, rfl, .inl (lstAt (s14 _ _ hc)), fun A2 nA2 => ?_⟩
        have sA2 := same_upd (o := .lst (zs.map vN)) nA2
        refine ⟨_, rfl, _, rfl, _, rfl, l, _, rfl, lstAt (sA2 _ _ (s14 _ _ hl)), fun B nB => ?_⟩
        rw [cut_to_l, ← List.map_take]
        have sB := same_upd (o := .lst ((es.take k).map V.ref)) nB
        refine ⟨_, rfl, _, rfl, _, _, rfl, rfl, _, rfl, l, _, rfl, lstAt (sB _ _ (sA2 _ _ (s14 _ _ hl))), fun B2 nB2 => ?_⟩
        rw [show ((k : Int) + 1) = ((k + 1 : Nat) : Int) by omega, cut_from_l, ← List.map_drop]
        have sB2 := same_upd (o := .lst ((es.drop (k + 1)).map V.ref)) nB2
        refine ⟨B, B2, _, _, rfl, rfl, sB2 _ _ upd_same, upd_same, by rw [List.length_map, List.length_map, List.length_take, List.length_drop]; exact Nat.le_of_lt (small1000 (by omega)), fun N2 nN2 => ?_⟩
        rw [← List.map_append]
        have sN2 := same_upd (o := .lst ((es.take k ++ es.drop (k + 1)).map V.ref)) nN2
        have t5 := ((sA2.trans sB).trans sB2).trans sN2
        intro o7 d7 n10 n11 ne7
        refine make_goL n10 n11 ne7 (.inl (lstAt (sN2 _ _ (sB2 _ _ (sB _ _ upd_same))))) (.inl (lstAt upd_same)) (((hT.same (s14.trans t5)).take k).app ((hT.same (s14.trans t5)).drop (k + 1))) okD fun H11 k7 s15' => ?_
        have s15 := (s14.trans t5).trans s15'
        have k6b := k6.same (t5.trans s15')
        refine ⟨(show (2 : Nat) ≤ sizeLine by decide), fun D2 nD2 => ?_⟩
        have sD2 := same_upd (o := .lst [V.ref o6, .ref o7]) nD2
        have s16 := s15.trans sD2
        have all2 : ∀ (i : Nat) (x : V), [V.ref o6, .ref o7][i]? = some x → ∃ o us, x = .ref o ∧ LkAt C (upd H11 D2 (.lst [V.ref o6, .ref o7])) o zs us ∧ LOk zs us ∧ ts ≠ us := fun i x e => by
          match i, e with
          | 0, e => cases Option.some.inj e; exact ⟨_, _, rfl, k6b.same sD2, okN, neN⟩
          | 1, e => cases Option.some.inj e; exact ⟨_, _, rfl, k7.same sD2, okD, neD⟩
          | i + 2, e => simp at e
        have eD2 := upd_same (H := H11) (a := D2) (o := .lst [V.ref o6, .ref o7])
        have s78 : Same H7 (upd H11 D2 (.lst [V.ref o6, .ref o7])) := (((((sn.trans s5).trans sA).trans s14').trans t5).trans s15').trans sD2
        generalize upd H11 D2 (.lst [V.ref o6, .ref o7]) = H12 at all2 s16 eD2 s78 ⊢
        refine ⟨D2, rfl, ⟨_, lstAt eD2⟩, for_list (K := K) (a := D2) (xs := [V.ref o6, .ref o7]) (fun i σ H' => H' = H12 ∧ ∃ y5 : Option V, σ = [some (.ref p), some (.ref c), some (.ref l), some (.int n), some (.ref D), y5, some (.ref G), some (.int (k : Int)), some (vN t.1), some (vN t.2.1), some (.int t.2.2), some (.ref N'), none]) ⟨rfl, _, rfl⟩ (fun i σ H' _ hq => by rw [hq.1]; exact lstAt eD2) ?_ ?_⟩
        · rintro i x σ _ hx ⟨rfl, y5, rfl⟩
          obtain ⟨o, us, rfl, ko, oku, neu⟩ := all2 i x hx
          refine ⟨_, rfl, _, rfl, eqL_no (lk.same s16) ko ok oku (fun z => neu z.2) ⟨false, false, rfl, rfl, _, rfl, iteF ?_⟩⟩
          exact ⟨_, rfl, _, rfl, eqL_no ko (lk.same s16) oku ok (fun z => neu z.2.symm) ⟨false, false, rfl, rfl, _, rfl, iteF ⟨rfl, _, rfl⟩⟩⟩
        · rintro σ _ ⟨rfl, y5, rfl⟩
          exact ⟨s78, _, _, _, _, _, _, rfl⟩
    rintro σ H8 ⟨t8, y5, y7, y8, y9, y10, y11, rfl⟩
    have s12 := s11.trans t8
    -- other kinds
    refine ⟨_, rfl, c, _, rfl, .inl (lstAt (s12 _ _ hc)), fun A2 nA2 => ?_⟩
    have sA2 := same_upd (o := .lst (zs.map vN)) nA2
    refine ⟨_, rfl, l, _, rfl, .inl (lstAt (sA2 _ _ (s12 _ _ hl))), fun C2 nC2 => ?_⟩
    have sC2 := same_upd (o := .lst (es.map V.ref)) nC2
    refine ⟨_, rfl, l, _, rfl, .inl ⟨lstAt (sC2 _ _ (sA2 _ _ (s12 _ _ hl))), fun B2 nB2 => ⟨(show (7 : Nat) ≤ sizeLine by decide), fun D2 nD2 => ?_⟩⟩⟩
    have sB2 := same_upd (o := .tup (es.map V.ref)) nB2
    have sD2 := same_upd (o := .lst [V.non, .str "", .int 0, .bl false, .ref A2, .ref C2, .ref B2]) nD2
    have eA := sD2 _ _ (sB2 _ _ (sC2 _ _ (upd_same (H := H8) (a := A2) (o := .lst (zs.map vN)))))
    have eC := sD2 _ _ (sB2 _ _ (upd_same (a := C2) (o := .lst (es.map V.ref))))
    have eB := sD2 _ _ (upd_same (a := B2) (o := .tup (es.map V.ref)))
    have eD2 := upd_same (H := upd (upd (upd H8 A2 (.lst (zs.map vN))) C2 (.lst (es.map V.ref))) B2 (.tup (es.map V.ref))) (a := D2) (o := .lst [V.non, .str "", .int 0, .bl false, .ref A2, .ref C2, .ref B2])
    have s13 := s12.trans (((sA2.trans sC2).trans sB2).trans sD2)
    generalize upd (upd (upd (upd H8 A2 (.lst (zs.map vN))) C2 (.lst (es.map V.ref))) B2 (.tup (es.map V.ref))) D2 (.lst [V.non, .str "", .int 0, .bl false, .ref A2, .ref C2, .ref B2]) = H9 at eA eB eC eD2 s13 ⊢
    have odd : ∀ (i : Nat) (x : V), [V.non, .str "", .int 0, .bl false, .ref A2, .ref C2, .ref B2][i]? = some x → OddV K C H9 x := fun i x e => by
      match i, e with
      | 0, e => cases Option.some.inj e; exact ⟨.non OT.nN, _, .base .non, OT.kN⟩
      | 1, e => cases Option.some.inj e; exact ⟨.str _ OT.nS, _, .base (.str _), OT.kS⟩
      | 2, e => cases Option.some.inj e; exact ⟨.int _ OT.nI, _, .base (.int _), OT.kI⟩
      | 3, e => cases Option.some.inj e; exact ⟨.bl _ OT.nB, _, .base (.bl _), OT.kB⟩
      | 4, e => cases Option.some.inj e; exact ⟨.lst eA OT.nL, _, .base (.lst eA), OT.kL⟩
      | 5, e => cases Option.some.inj e; exact ⟨.lst eC OT.nL, _, .base (.lst eC), OT.kL⟩
      | 6, e => cases Option.some.inj e; exact ⟨.tup eB OT.nT, _, .base (.tup eB), OT.kT⟩
      | i + 7, e => simp at e
    refine ⟨D2, rfl, ⟨_, lstAt eD2⟩, for_list (K := K) (a := D2) (xs := [V.non, .str "", .int 0, .bl false, .ref A2, .ref C2, .ref B2]) (fun i σ H' => H' = H9 ∧ ∃ y12 : Option V, σ = [some (.ref p), some (.ref c), some (.ref l), some (.int n), some (.ref D), y5, some (.ref G), y7, y8, y9, y10, y11, y12]) ⟨rfl, none, rfl⟩ (fun i σ H' _ hq => by rw [hq.1]; exact lstAt eD2) ?_ ?_⟩
    · rintro i x σ _ hx ⟨rfl, y12, rfl⟩
      exact ⟨_, rfl, _, rfl, eqL_odd (lk.same s13) ok (odd i x hx) ⟨false, false, rfl, rfl, _, rfl, iteF ⟨rfl, _, rfl⟩⟩⟩
    · rintro σ _ ⟨rfl, y12, rfl⟩
      exact q _ s13
end
end TK

namespace TK
open PySem PySem.Spec PyProof.Rows L2
theorem cut12 (xs : List V) : cutV xs none (some 12) = xs.take 12 := by
  unfold cutV
  rw [HT.sIx_none, show (12 : Int) = ((12 : Nat) : Int) from rfl, HT.sIx_nat, List.drop_zero, Nat.sub_zero]
  by_cases h : 12 ≤ xs.length
  · rw [Nat.min_eq_left h]
  · rw [Nat.min_eq_right (by omega), List.take_length, List.take_of_length_le (by omega)]
theorem eq_flatL {H : Hp} {t u : Addr} {xs : List V} (h1 : H t = some (.lst xs)) (h2 : H u = some (.lst xs)) (hl : xs.length ≤ 1000) (fl : ∀ x ∈ xs, flat1 x = true) (n : Nat) : Eq2 H (n + 1) (.ref t) (.ref u) := by
  refine .inr ⟨t, u, _, _, rfl, rfl, .inl ⟨h1, h2⟩, rfl, by omega, fun i x y hx hy => ?_⟩
  rw [hx] at hy
  have e := Option.some.inj hy
  have f := fl x (List.mem_of_getElem? hx)
  cases n with
  | zero => exact ⟨e, f⟩
  | succ n => exact .inl ⟨e, f⟩
theorem LkAt.wrote {C : Addr} {H : Hp} {p D : Addr} {zs : List Nam} {ts : List Tie} {xs : List V} {o : HO} (h : LkAt C H p zs ts) (e : H D = some (.lst xs)) : LkAt C (upd H D o) p zs ts := by
  obtain ⟨dx, a, b, es, h1, h2, h3, h4⟩ := h
  refine ⟨dx, a, b, es, by rw [upd_ne (ne_of h1 e (by intro z; cases z))]; exact h1, ?_, by rw [upd_ne (ne_of h3 e (by intro z; cases z))]; exact h3, ⟨h4.1, fun i x hx => ?_⟩⟩
  · rcases h2 with h | ⟨ob, h⟩
    · exact .inl (by rw [upd_ne (ne_of h e (by intro z; cases z))]; exact h)
    · exact .inr ⟨ob, by rw [upd_ne (ne_of h e (by intro z; cases z))]; exact h⟩
  · obtain ⟨t, k1, k2⟩ := h4.2 i x hx
    exact ⟨t, k1, by show _ = _; rw [upd_ne (ne_of k2 e (by intro z; cases z))]; exact k2⟩
theorem fl_int {ns : List Int} : ∀ x ∈ ns.map V.int, flat1 x = true := fun x hx => by
  obtain ⟨z, _, rfl⟩ := List.mem_map.mp hx
  rfl
theorem eq_pass3 {H : Hp} {L M l1 l2 l3 c D E : Addr} {zs : List Nam} {es : List Addr} {ts : List Tie} {ms : List Int} (hL : H L = some (.lst [V.ref l1, .ref l2, .ref l3])) (hM : H M = some (.lst [V.ref c, .ref D, .ref E])) (h1 : H l1 = some (.lst (zs.map vN))) (h2 : H c = some (.lst (zs.map vN))) (h3 : H l2 = some (.lst (es.map V.ref))) (h4 : H D = some (.lst (es.map V.ref))) (h5 : H l3 = some (.lst (ms.map V.int))) (h6 : H E = some (.lst (ms.map V.int))) (hT : TiesAt H es ts) (z6 : zs.length ≤ 6) (l4 : es.length ≤ 10000) (m12 : ms.length ≤ 12) : Eq2 H 3 (.ref L) (.ref M) := by
  refine .inr ⟨L, M, _, _, rfl, rfl, .inl ⟨hL, hM⟩, rfl, (show (3 : Nat) < 2 ^ 40 by decide), fun i x y hx hy => ?_⟩
  match i, hx, hy with
  | 0, hx, hy =>
    cases Option.some.inj hx; cases Option.some.inj hy
    exact eq_flatL h1 h2 (by rw [List.length_map]; omega) fl_nm 1
  | 1, hx, hy =>
    cases Option.some.inj hx; cases Option.some.inj hy
    exact eq_tiesL h3 h4 hT hT l4
  | 2, hx, hy =>
    cases Option.some.inj hx; cases Option.some.inj hy
    exact eq_flatL h5 h6 (by rw [List.length_map]; omega) fl_int 1
  | i + 3, hx, _ => simp at hx
theorem raise_ok {zs : List Nam} {ts : List Tie} {ms : List Int} (h : LOk zs ts) (l : ms.length = ts.length) (r : ∀ (i : Nat) (m : Int) (t : Tie), ms[i]? = some m → ts[i]? = some t → 0 ≤ m ∧ t.2.2 + m ≤ 1000000000) : LOk zs (raiseT ts ms) := by
  have key : ∀ t' ∈ raiseT ts ms, ∃ (t : Tie) (m : Int), t ∈ ts ∧ t' = (t.1, t.2.1, t.2.2 + m) ∧ 0 ≤ m ∧ t.2.2 + m ≤ 1000000000 := fun t' m' => by
    obtain ⟨i, hi⟩ := List.getElem?_of_mem m'
    unfold raiseT at hi
    rw [List.getElem?_zipWith] at hi
    cases e1 : ts[i]? with
    | none => rw [e1] at hi; cases hi
    | some t =>
      cases e2 : ms[i]? with
      | none => rw [e1, e2] at hi; cases hi
      | some m =>
        rw [e1, e2] at hi
        obtain ⟨r1, r2⟩ := r i m t e2 e1
        exact ⟨t, m, mem_at e1, (Option.some.inj hi).symm, r1, r2⟩
  refine ⟨h.nm, h.nd, h.l1, h.l6, by rw [raise_len l]; exact h.t12, fun t' m' => ?_, fun t' m' => ?_, fun t' m' => ?_, fun t' m' => ?_, fun t' m' => ?_⟩
  · obtain ⟨t, m, mt, rfl, _⟩ := key t' m'; exact h.a t mt
  · obtain ⟨t, m, mt, rfl, _⟩ := key t' m'; exact h.b t mt
  · obtain ⟨t, m, mt, rfl, _⟩ := key t' m'; exact h.ne t mt
  · obtain ⟨t, m, mt, rfl, r1, r2⟩ := key t' m'; have := h.h0 t mt; show 0 ≤ t.2.2 + m; omega
  · obtain ⟨t, m, mt, rfl, r1, r2⟩ := key t' m'; exact r2
theorem left_rev (ks : List Int) (ts : List Tie) (n : Nat) : leftT ks.reverse ts n = leftT ks ts n := by
  unfold leftT
  congr 1
  funext i
  simp
theorem ref_at0 {es : List Addr} {i : Nat} {e : Addr} (h : es[i]? = some e) : atI (es.map V.ref) (0 + (i : Int)) = some (.ref e) := by
  refine atI_in (by omega) ?_
  rw [show (0 + (i : Int)).toNat = i by omega, List.getElem?_map, h]
  rfl
theorem int_at0 {ms : List Int} {i : Nat} {m : Int} (h : ms[i]? = some m) : atI (ms.map V.int) (0 + (i : Int)) = some (.int m) := by
  refine atI_in (by omega) ?_
  rw [show (0 + (i : Int)).toNat = i by omega, List.getElem?_map, h]
  rfl
section
variable {P : Program} {w : World} {K : PySem.W.Frag} {mg : Str → Option Value} {base : Heap}
def spLaw (K : PySem.W.Frag) : Sp := fun vs H Q _ => ∃ (a : Addr) (ns : List Int), vs = [.ref a] ∧ SqL K H a (ns.map V.int) ∧ ns.length ≤ 63 ∧ ∀ H', Q (.bl true) H'
theorem ok_law {f C fI gR EI : Addr} {fd fdI fdR : FuncData} {dsB : List Value} (F : Fun K "law" "law" s_law f fd) (T : TxtL K C) (m_range : mg "range" = none) (m_list : mg "list" = none) (m_tuple : mg "tuple" = none) (m_len : mg "len" = none)
    (M_Links : Mk K C fI) (G_Links : FnOk P w K mg base CX0 3 fI fdI ["self", "names", "links"] (spInitL K C)) (mg_Links : mg "Links" = some (.ref C)) (b_Links : Binds K fdI ["self", "names", "links"] [])
    (b_bare : Binds K fdI ["self", "names", "links"] dsB) (v_bare : Vals [V.ref EI] dsB) (e_bare : ∀ H : Hp, SqT K H EI [])
    (Me_raised : Meth K C "raised" gR) (G_raised : FnOk P w K mg base CX0 5 gR fdR ["self", "raises"] (spRaised K C)) (b_raised : Binds K fdR ["self", "raises"] []) {g2 : List Value → List Value → List Value} (kb_raised : KBn K fdR ["self", "raises"] 1 ["raises"] g2 (fun vs zs => vs ++ zs))
    (d_L_cell : Def P w K mg base "_law_cell" 1 ["_law_script", "_law_k"] (spCellA K)) (d_L_pool : Def P w K mg base "_law_pool" 2 ["_law_cell_here", "_law_number"] spPool)
    (d_L_part : Def P w K mg base "_law_part" 1 ["_law_pool_here", "_law_spot", "_law_under", "_law_size"] (spPart K)) (d_L_words : Def P w K mg base "_law_words" 3 ["_law_cell_here", "_law_number"] spWords)
    (d_L_links : Def P w K mg base "_law_links" 2 ["_law_pool_here", "_law_spot", "_law_words_here", "_law_number"] (spLinks K)) (d_L_ties : Def P w K mg base "_law_ties" 1 ["_law_cell_here", "_law_words_here"] (spTies K))
    (d_L_lifts : Def P w K mg base "_law_lifts" 2 ["_law_pool_here", "_law_ties_here"] (spLifts K)) (d_L_strange : Def P w K mg base "_law_strange" 1 ["_law_words_here"] (spStrange K))
    (d_L_holds : Def P w K mg base "_law_holds" 6 ["_law_made", "_law_words_here", "_law_ties_here"] (spHolds C)) (d_L_without : Def P w K mg base "_law_without" 7 ["_law_made", "_law_out"] (spLwo K C))
    (d_L_alike : Def P w K mg base "_law_alike" 7 ["_law_made", "_law_words_here", "_law_ties_here", "_law_number"] (spAlike C)) (d_L_same : Def P w K mg base "_law_same" 5 ["_law_got", "_law_wanted"] (spSame 3)) :
    FnOk P w K mg base CX0 8 f fd ["_law_script"] (spLaw K) := by
  refine F.ok sc_law (fun vs H Q E h => ?_) (fun cdv A outer s H vs Q E hr h => ?_)
  · obtain ⟨a, ns, rfl, _⟩ := h
    rfl
  · obtain ⟨a, ns, rfl, hS, hlen, q⟩ := h
    refine ⟨_, (pss_cons (ps_set (i := 1) sc_law.nd rfl (.inr rfl) (pe_callD d_L_pool (hr.mono (by decide)) (by rfl) (pa_cons (pe_callD d_L_cell (hr.mono (by decide)) (by rfl) (pa_cons (pv 0) (pa_cons pe_int pa_nil))) (pa_cons pe_int pa_nil))))
  (pss_cons (ps_set (i := 2) sc_law.nd rfl (.inl rfl) (pe_op op_add pe_int (pe_callD d_L_part (hr.mono (by decide)) (by rfl) (pa_cons (pv 1) (pa_cons pe_int (pa_cons pe_int (pa_cons pe_int pa_nil)))))))
  (pss_cons (ps_set (i := 3) sc_law.nd rfl (.inl rfl) (pe_callD d_L_words (hr.mono (by decide)) (by rfl) (pa_cons (pe_callD d_L_cell (hr.mono (by decide)) (by rfl) (pa_cons (pv 0) (pa_cons pe_int pa_nil))) (pa_cons (pv 2) pa_nil))))
  (pss_cons (ps_set (i := 4) sc_law.nd rfl (.inr rfl) (pe_op op_cat (pe_callD d_L_links (hr.mono (by decide)) (by rfl) (pa_cons (pv 1) (pa_cons pe_int (pa_cons (pv 3) (pa_cons (pe_callD d_L_part (hr.mono (by decide)) (by rfl) (pa_cons (pv 1) (pa_cons pe_int (pa_cons pe_int (pa_cons pe_int pa_nil))))) pa_nil))))) (pe_callD d_L_ties (hr.mono (by decide)) (by rfl) (pa_cons (pe_callD d_L_cell (hr.mono (by decide)) (by rfl) (pa_cons (pv 0) (pa_cons pe_int pa_nil))) (pa_cons (pv 3) pa_nil)))))
  (pss_cons (ps_set (i := 4) sc_law.nd rfl (.inr rfl) (pe_slice sl_list (pv 4) po_none (po_some pe_int)))
  (pss_cons (ps_set (i := 5) sc_law.nd rfl (.inr rfl) (pe_callD d_L_lifts (hr.mono (by decide)) (by rfl) (pa_cons (pe_callD d_L_pool (hr.mono (by decide)) (by rfl) (pa_cons (pe_callD d_L_cell (hr.mono (by decide)) (by rfl) (pa_cons (pv 0) (pa_cons pe_int pa_nil))) (pa_cons pe_int pa_nil))) (pa_cons (pv 4) pa_nil))))
  (pss_cons (ps_set (i := 6) sc_law.nd rfl (.inr rfl) (pe_lst pa_nil))
  (pss_cons (ps_cut (ps_if (pt_cmpR (op_neD hr.units) (pv 4) (pe_lst pa_nil) (nomark _)) (pss_one (ps_set (i := 6) sc_law.nd rfl (.inr rfl) (pe_lc (own := [("_law_k", 12)]) (by rfl) sc_law.nd (pi_range1 (by rfl) m_range (pa_cons (pe_callD d_L_part (hr.mono (by decide)) (by rfl) (pa_cons (pv 1) (pa_cons pe_int (pa_cons pe_int (pa_cons pe_int pa_nil))))) pa_nil)) (blkOk_by (N := ["_law_script", "_law_head", "_law_size", "_law_words_here", "_law_ties_here", "_law_lifts_here", "_law_out", "_law_passed", "_law_made", "_law_higher", "_law_raised", "_law_left", "_law_k"]) (sc := defScope s_law) (by decide +kernel)) (fun _ _ _ _ _ => (pg_name (i := 12) sc_law.nd rfl (.inl rfl))) (fun _ _ _ _ _ => pts_nil) (fun _ _ _ _ _ => (pe_op op_mod (pe_callD d_L_part (hr.mono (by decide)) (by rfl) (pa_cons (pv 1) (pa_cons (pe_op op_add pe_int (pv 12)) (pa_cons pe_int (pa_cons pe_int pa_nil))))) (pe_callB (call_len_seqK (K := K) rfl) (by rfl) m_len (by decide +kernel) (pa_cons (pv 4) pa_nil))))))) pss_nil))
  (pss_cons (ps_set (i := 7) sc_law.nd rfl (.inl rfl) (pe_lst (pa_cons (pe_callTy call_list_of (by rfl) m_list (by decide +kernel) (pa_cons (pv 3) pa_nil)) (pa_cons (pe_callTy call_list_of (by rfl) m_list (by decide +kernel) (pa_cons (pv 4) pa_nil)) (pa_cons (pe_callTy call_list_of (by rfl) m_list (by decide +kernel) (pa_cons (pv 5) pa_nil)) pa_nil)))))
  (pss_cons (ps_set (i := 8) sc_law.nd rfl (.inl rfl) (pe_make M_Links G_Links (hr.mono (by decide)) (by rfl) mg_Links b_Links .nil pass0 (pa_cons (pe_ix ix_list (pv 7) pe_int (fun _ _ => rfl)) (pa_cons (pe_ix ix_list (pv 7) pe_int (fun _ _ => rfl)) pa_nil))))
  (pss_cons (ps_set (i := 9) sc_law.nd rfl (.inl rfl) (pe_meth (pv 8) T.cl Me_raised G_raised (hr.mono (by decide)) b_raised .nil pass0 (pa_cons (pe_ix ix_list (pv 7) pe_int (fun _ _ => rfl)) pa_nil)))
  (pss_cons (ps_set (i := 10) sc_law.nd rfl (.inr rfl) (pe_lc (own := [("_law_k", 12)]) (by rfl) sc_law.nd (pi_range1 (by rfl) m_range (pa_cons (pe_callB call_len_seq (by rfl) m_len (by decide +kernel) (pa_cons (pv 4) pa_nil)) pa_nil)) (blkOk_by (N := ["_law_script", "_law_head", "_law_size", "_law_words_here", "_law_ties_here", "_law_lifts_here", "_law_out", "_law_passed", "_law_made", "_law_higher", "_law_raised", "_law_left", "_law_k"]) (sc := defScope s_law) (by decide +kernel)) (fun _ _ _ _ _ => (pg_name (i := 12) sc_law.nd rfl (.inl rfl))) (fun _ _ _ _ _ => pts_nil) (fun _ _ _ _ _ => (pe_tup (pa_cons (pe_ix (ix_tupK (K := K) rfl) (pe_ix (ix_listK (K := K) rfl) (pv 4) (pv 12) (fun _ _ => rfl)) pe_int (fun _ _ => rfl)) (pa_cons (pe_ix (ix_tupK (K := K) rfl) (pe_ix (ix_listK (K := K) rfl) (pv 4) (pv 12) (fun _ _ => rfl)) pe_int (fun _ _ => rfl)) (pa_cons (pe_op op_add (pe_ix (ix_tupK (K := K) rfl) (pe_ix (ix_listK (K := K) rfl) (pv 4) (pv 12) (fun _ _ => rfl)) pe_int (fun _ _ => rfl)) (pe_ix (ix_listK (K := K) rfl) (pv 5) (pv 12) (fun _ _ => rfl))) pa_nil)))))))
  (pss_cons (ps_setLc (i := 11) (own := [("_law_k", 12)]) (by rfl) sc_law.nd rfl rfl (sw_true rfl rfl rfl (by decide +kernel)) (pi_range1 (by rfl) m_range (pa_cons (pe_callB call_len_seq (by rfl) m_len (by decide +kernel) (pa_cons (pv 4) pa_nil)) pa_nil)) (blkOk_by (N := ["_law_script", "_law_head", "_law_size", "_law_words_here", "_law_ties_here", "_law_lifts_here", "_law_out", "_law_passed", "_law_made", "_law_higher", "_law_raised", "_law_left", "_law_k"]) (sc := defScope s_law) (by decide +kernel)) (fun _ _ _ _ _ => (pg_name (i := 12) sc_law.nd rfl (.inl rfl))) (fun _ _ _ _ _ => (pts_one (pt_cmpR (op_notIn_seqK (K := K) rfl) (pv 12) (pv 6) (by rfl)))) (fun _ _ _ _ _ => (pe_ix (ix_listK (K := K) rfl) (pv 4) (pv 12) (fun _ _ => rfl))))
  (pss_cons (ps_if (PW.pt (pw_or (pt_not (pt_val (pe_callD d_L_holds (hr.mono (by decide)) (by rfl) (pa_cons (pv 8) (pa_cons (pv 3) (pa_cons (pv 4) pa_nil)))))) (pw_or1 (pt_not (pt_val (pe_callD d_L_holds (hr.mono (by decide)) (by rfl) (pa_cons (pv 9) (pa_cons (pv 3) (pa_cons (pv 10) pa_nil))))))))) (pss_one (ps_ret pe_bl)) pss_nil)
  (pss_cons (ps_if (PW.pt (pw_or (pt_not (pt_val (pe_callD d_L_holds (hr.mono (by decide)) (by rfl) (pa_cons (pe_callD d_L_without (hr.mono (by decide)) (by rfl) (pa_cons (pv 8) (pa_cons (pv 6) pa_nil))) (pa_cons (pv 3) (pa_cons (pv 11) pa_nil)))))) (pw_or1 (pt_not (pt_val (pe_callD d_L_same (hr.mono (by decide)) (by rfl) (pa_cons (pv 7) (pa_cons (pe_lst (pa_cons (pv 3) (pa_cons (pv 4) (pa_cons (pv 5) pa_nil)))) pa_nil)))))))) (pss_one (ps_ret pe_bl)) pss_nil)
  (pss_cons (ps_expr (pe_bm0 PySem.F.plainAttrs_list PySem.F.slot_list_reverse PySem.F.type_list_reverse mt_reverse (pe_ix ix_list (pv 7) pe_int (fun _ _ => rfl))))
  (pss_cons (ps_expr (pe_bm PySem.F.plainAttrs_list PySem.F.slot_list_append PySem.F.type_list_append mt_append (pe_ix ix_list (pv 7) pe_int (fun _ _ => rfl)) (pa_cons (pe_callD d_L_strange (hr.mono (by decide)) (by rfl) (pa_cons (pv 3) pa_nil)) pa_nil)))
  (pss_cons (ps_expr (pe_bm0 PySem.F.plainAttrs_list PySem.F.slot_list_clear PySem.F.type_list_clear mt_clear (pe_ix ix_list (pv 7) pe_int (fun _ _ => rfl))))
  (pss_cons (ps_expr (pe_bm0 PySem.F.plainAttrs_list PySem.F.slot_list_clear PySem.F.type_list_clear mt_clear (pe_ix ix_list (pv 7) pe_int (fun _ _ => rfl))))
  (pss_cons (ps_if (PW.pt (pw_or (pt_not (pt_val (pe_callD d_L_holds (hr.mono (by decide)) (by rfl) (pa_cons (pv 8) (pa_cons (pv 3) (pa_cons (pv 4) pa_nil)))))) (pw_or1 (pt_not (pt_val (pe_callD d_L_holds (hr.mono (by decide)) (by rfl) (pa_cons (pv 9) (pa_cons (pv 3) (pa_cons (pv 10) pa_nil))))))))) (pss_one (ps_ret pe_bl)) pss_nil)
  (pss_cons (ps_if (pt_not (pt_val (pe_callD d_L_holds (hr.mono (by decide)) (by rfl) (pa_cons (pe_methK0 (pv 8) T.cl Me_raised G_raised (hr.mono (by decide)) kb_raised pass0 (pk_cons (pe_callTy call_tuple_of (by rfl) m_tuple (by decide +kernel) (pa_cons (pv 5) pa_nil)) pk_nil)) (pa_cons (pv 3) (pa_cons (pv 10) pa_nil)))))) (pss_one (ps_ret pe_bl)) pss_nil)
  (pss_cons (ps_if (pt_not (pt_val (pe_callD d_L_alike (hr.mono (by decide)) (by rfl) (pa_cons (pv 8) (pa_cons (pv 3) (pa_cons (pv 4) (pa_cons (pe_callD d_L_part (hr.mono (by decide)) (by rfl) (pa_cons (pv 1) (pa_cons pe_int (pa_cons pe_int (pa_cons pe_int pa_nil))))) pa_nil))))))) (pss_one (ps_ret pe_bl)) pss_nil)
  (pss_cons (ps_setLc (i := 11) (own := [("_law_k", 12)]) (by rfl) sc_law.nd rfl rfl (sw_true rfl rfl rfl (by decide +kernel)) (pi_range1 (by rfl) m_range (pa_cons (pe_callB call_len_seq (by rfl) m_len (by decide +kernel) (pa_cons (pv 4) pa_nil)) pa_nil)) (blkOk_by (N := ["_law_script", "_law_head", "_law_size", "_law_words_here", "_law_ties_here", "_law_lifts_here", "_law_out", "_law_passed", "_law_made", "_law_higher", "_law_raised", "_law_left", "_law_k"]) (sc := defScope s_law) (by decide +kernel)) (fun _ _ _ _ _ => (pg_name (i := 12) sc_law.nd rfl (.inl rfl))) (fun _ _ _ _ _ => (pts_one (pt_cmpR (op_notIn_seqK (K := K) rfl) (pv 12) (pv 6) (by rfl)))) (fun _ _ _ _ _ => (pe_ix (ix_listK (K := K) rfl) (pv 10) (pv 12) (fun _ _ => rfl))))
  (pss_one (ps_ret (pe_and (pe_callD d_L_holds (hr.mono (by decide)) (by rfl) (pa_cons (pe_callD d_L_without (hr.mono (by decide)) (by rfl) (pa_cons (pv 9) (pa_cons (pe_revL (pv 6)) pa_nil))) (pa_cons (pv 3) (pa_cons (pv 11) pa_nil)))) (pe_one (pe_callD d_L_holds (hr.mono (by decide)) (by rfl) (pa_cons (pe_make M_Links G_Links (hr.mono (by decide)) (by rfl) mg_Links b_bare v_bare pass0 (pa_cons (pe_callTy call_list_of (by rfl) m_list (by decide +kernel) (pa_cons (pv 3) pa_nil)) pa_nil)) (pa_cons (pv 3) (pa_cons (pe_lst pa_nil) pa_nil))))))))))))))))))))))))))))))), ?_⟩
    -- the pool
    refine ⟨_, rfl, a, ns, 1, rfl, hS, by decide, by decide, by omega, fun c1 => ⟨c1, 20, rfl, by decide, by decide, fun p1 ns1 np1 l1 o1 => ?_⟩⟩
    have s2 : Same H (upd H p1 (.lst (ns1.map V.int))) := same_upd np1
    have e1 : (upd H p1 (.lst (ns1.map V.int))) p1 = some (.lst (ns1.map V.int)) := upd_same
    generalize upd H p1 (.lst (ns1.map V.int)) = H2 at s2 e1 ⊢
    have u0 := part_lo (ns := ns1) (s := 0) (u := 1) (z := 6) (by decide)
    have u1 := part_hi (ns := ns1) (s := 0) (u := 1) (z := 6) (by decide)
    have v0 := part_lo (ns := ns1) (s := 1) (u := 1) (z := 13) (by decide)
    have v1 := part_hi (ns := ns1) (s := 1) (u := 1) (z := 13) (by decide)
    refine ⟨_, rfl, p1, ns1, 0, 1, 6, rfl, lstAt e1, by decide, by omega, by decide, by decide, by decide, _, _, rfl, rfl, ?_⟩
    -- the words
    refine ⟨_, rfl, a, ns, 0, rfl, s2.seq hS, by decide, by decide, by omega, fun c3 => ⟨_, rfl, c3, _, rfl, by omega, by omega, fun H3 c zs nc s3 ec lz nm nd => ?_⟩⟩
    have s23 := s2.trans s3
    have z1 : 1 ≤ zs.length := by omega
    have z6 : zs.length ≤ 6 := by omega
    have zl : (zs.map vN).length = zs.length := List.length_map ..
    -- the ties
    refine ⟨_, rfl, _, rfl, _, rfl, p1, ns1, 1, 1, 13, rfl, lstAt (s3 _ _ e1), by decide, by omega, by decide, by decide, by decide, ?_⟩
    refine ⟨p1, c, ns1, 2, _, zs, rfl, lstAt (s3 _ _ e1), lstAt ec, by decide, by omega, by omega, by omega, z6, nd, fun H4 d5 es5 ts5 tw5 t5 => ?_⟩
    have s4 := tw5.s
    refine ⟨_, rfl, a, ns, 2, rfl, (s23.trans s4).seq hS, by decide, by decide, by omega, fun c4 => ⟨_, rfl, c4, c, zs, rfl, lstAt (s4 _ _ ec), z6, nd, fun H5 d6 es6 ts6 tw6 t6 => ?_⟩⟩
    have s5 := tw6.s
    refine ⟨d5, d6, _, _, rfl, rfl, s5 _ _ tw5.d, tw6.d, by rw [List.length_map, List.length_map, tw5.t.1, tw6.t.1]; exact Nat.le_of_lt (small1000 (by omega)), fun p7 np7 => ?_⟩
    refine ⟨_, rfl, _, rfl, _, _, rfl, lstAt upd_same, fun p8 np8 => ?_⟩
    rw [cut12, ← List.map_append, ← List.map_take]
    rw [← List.map_append] at np8
    obtain ⟨es, ees⟩ : ∃ es, es = (es5 ++ es6).take 12 := ⟨_, rfl⟩
    obtain ⟨ts, ets⟩ : ∃ ts, ts = (ts5 ++ ts6).take 12 := ⟨_, rfl⟩
    rw [← ees]
    obtain ⟨H8, eH8⟩ : ∃ H8, H8 = upd (upd H5 p7 (.lst ((es5 ++ es6).map V.ref))) p8 (.lst (es.map V.ref)) := ⟨_, rfl⟩
    have s58 : Same H5 H8 := by rw [eH8]; exact (same_upd np7).trans (same_upd np8)
    have e8 : H8 p8 = some (.lst (es.map V.ref)) := by rw [eH8]; exact upd_same
    have hT8 : TiesAt H8 es ts := by rw [ees, ets]; exact (((tw5.t.same s5).app tw6.t).take 12).same s58
    have tok : TsOk zs ts := (tw5.o.app tw6.o).sub fun t m => by rw [ets] at m; exact List.mem_of_mem_take m
    have t12 : ts.length ≤ 12 := by rw [ets, List.length_take]; omega
    have ok : LOk zs ts := ⟨nm, nd, z1, z6, t12, tok.a, tok.b, tok.ne, tok.h0, tok.h9⟩
    have el : (es.map V.ref).length = ts.length := by rw [List.length_map, hT8.1]
    rw [← eH8]
    have s38 : Same H3 H8 := (s4.trans s5).trans s58
    have ec8 := s38 _ _ ec
    have e18 := s38 _ _ (s3 _ _ e1)
    have s08 := s23.trans s38
    clear eH8 ees ets tok tw5 tw6 s58 s5 s4 np7 np8 s38 s3 s23
    -- the lifts
    refine ⟨_, rfl, a, ns, 3, rfl, s08.seq hS, by decide, by decide, by omega, fun c5 => ⟨c5, 48, rfl, by decide, by decide, fun p9 ns2 np9 l9 o9 => ?_⟩⟩
    have s9 := same_upd (o := .lst (ns2.map V.int)) np9
    refine ⟨_, rfl, p9, p8, ns2, es, ts, rfl, lstAt upd_same, by omega, s9 _ _ e8, hT8.same s9, t12, ok.h9, fun H10 pl ms npl s10' epl ml hms => ?_⟩
    have s10 := s9.trans s10'
    have ec10 := s10 _ _ ec8
    have e110 := s10 _ _ e18
    have e810 := s10 _ _ e8
    have hT10 := hT8.same s10
    have okR := raise_ok ok ml hms
    -- the places that are left out
    refine ⟨Nat.zero_le _, fun o0 no0 => ?_⟩
    have s11 := same_upd (o := .lst []) no0
    have e0 : (upd H10 o0 (.lst [])) o0 = some (.lst (([] : List Int).map V.int)) := upd_same
    have epl11 := s11 _ _ epl
    have ec11 := s11 _ _ ec10
    have e111 := s11 _ _ e110
    have e811 := s11 _ _ e810
    have hT11 := hT10.same s11
    generalize upd H10 o0 (.lst []) = H11 at s11 e0 epl11 ec11 e111 e811 hT11 ⊢
    refine ⟨fun σ H2 => Same H11 H2 ∧ ∃ (o : Addr) (ks : List Int), σ = [some (.ref a), some (.ref p1), some (.int (1 + partOf ns1 0 1 6)), some (.ref c), some (.ref p8), some (.ref pl), some (.ref o), none, none, none, none, none, none] ∧ H2 o = some (.lst (ks.map V.int)) ∧ ks.length ≤ 4 ∧ ∀ k ∈ ks, 0 ≤ k ∧ k < (ts.length : Int), ?_, ?_⟩
    · refine ⟨_, rfl, Nat.zero_le _, fun n0 nn0 => ?_⟩
      have sn := same_upd (o := .lst []) nn0
      refine ⟨.list _, .list [], .lst (lstAt (sn _ _ e811)) (ties_dp (hT11.same sn)), .lst (lstAt upd_same) .nil, shape_ties ok.tn, rfl, _, rfl, ?_⟩
      rw [nil_eqv, List.length_map]
      have e012 := sn _ _ e0
      have e112 := sn _ _ e111
      have e812 := sn _ _ e811
      generalize upd H11 n0 (.lst []) = H12 at sn e012 e112 e812 ⊢
      by_cases e0' : ts.length = 0
      · rw [decide_eq_true e0']
        exact iteF ⟨sn, o0, [], rfl, e012, by decide, fun _ h => nomatch h⟩
      · rw [decide_eq_false e0']
        have w0 := part_lo (ns := ns1) (s := 1) (u := 13) (z := 5) (by decide)
        have w1 := part_hi (ns := ns1) (s := 1) (u := 13) (z := 5) (by decide)
        refine iteT ⟨_, rfl, p1, ns1, 1, 13, 5, rfl, lstAt e112, by decide, by omega, by decide, by decide, by decide, _, rfl, by omega, by omega, fun D nD => ?_⟩
        refine lc_range (fun i H' => ∃ ks : List Int, ks.length = i ∧ (∀ k ∈ ks, 0 ≤ k ∧ k < (ts.length : Int)) ∧ H' = upd H12 D (.lst (ks.map V.int))) ⟨[], rfl, (fun k h => nomatch h), rfl⟩ (fun i H' hi hq => ?_) (fun H' hq => ?_)
        · obtain ⟨ks, lk, sub, rfl⟩ := hq
          have sD := same_upd (o := .lst (ks.map V.int)) nD
          have o1 : 0 ≤ partOf ns1 (14 + (0 + (i : Int))) 1 60 % (ts.length : Int) := Int.emod_nonneg _ (by omega)
          have o2 : partOf ns1 (14 + (0 + (i : Int))) 1 60 % (ts.length : Int) < ts.length := Int.emod_lt_of_pos _ (by omega)
          refine ⟨rfl, yesT ⟨_, rfl, _, rfl, _, _, rfl, rfl, p1, ns1, _, 1, 60, rfl, lstAt (sD _ _ e112), by omega, by omega, by decide, by decide, by decide, _, rfl, p8, _, rfl, .inl (lstAt (sD _ _ e812)), _, _, rfl, rfl, by rw [el]; omega, ?_⟩⟩
          rw [el]
          refine ⟨_, upd_same, by rw [List.length_map]; exact small1000 (by omega), ks ++ [partOf ns1 (14 + (0 + (i : Int))) 1 60 % (ts.length : Int)], by rw [List.length_append, lk]; rfl, ?_, ?_⟩
          · intro k hk
            rcases List.mem_append.mp hk with m | m
            · exact sub k m
            · rw [List.mem_singleton.mp m]; exact ⟨o1, o2⟩
          · rw [upd_twice, List.map_append]; rfl
        obtain ⟨ks, lk, sub, rfl⟩ := hq
        exact ⟨sn.trans (same_upd nD), D, ks, rfl, upd_same, by omega, sub⟩
    rintro σ H12 ⟨s12, o, ks, rfl, eo, k4, hk⟩
    have ec12 := s12 _ _ ec11
    have e112 := s12 _ _ e111
    have e812 := s12 _ _ e811
    have epl12 := s12 _ _ epl11
    have hT12 := hT11.same s12
    -- what is passed
    refine ⟨_, rfl, c, _, rfl, .inl (lstAt ec12), fun k1 nk1 => ?_⟩
    have t1 := same_upd (o := .lst (zs.map vN)) nk1
    refine ⟨_, rfl, p8, _, rfl, .inl (lstAt (t1 _ _ e812)), fun k2 nk2 => ?_⟩
    have t2' := same_upd (o := .lst (es.map V.ref)) nk2
    have t2 := t1.trans t2'
    refine ⟨_, rfl, pl, _, rfl, .inl (lstAt (t2 _ _ epl12)), fun k3 nk3 => ?_⟩
    have t3' := same_upd (o := .lst (ms.map V.int)) nk3
    have t3 := t2.trans t3'
    have nk2' : H12 k2 = none := none_of t1 nk2
    have nk3' : H12 k3 = none := none_of t2 nk3
    refine ⟨(show (3 : Nat) ≤ sizeLine by decide), fun L nL => ?_⟩
    have t4' := same_upd (o := .lst [V.ref k1, .ref k2, .ref k3]) nL
    have t4 := t3.trans t4'
    have ek1 := t4' _ _ (t3' _ _ (t2' _ _ (upd_same (H := H12) (a := k1) (o := .lst (zs.map vN)))))
    have ek2 := t4' _ _ (t3' _ _ (upd_same (a := k2) (o := .lst (es.map V.ref))))
    have ek3 := t4' _ _ (upd_same (a := k3) (o := .lst (ms.map V.int)))
    have k12 : k1 ≠ k2 := ne_of_none upd_same nk2
    have k13 : k1 ≠ k3 := ne_of_none (t2' _ _ upd_same) nk3
    have k23 : k2 ≠ k3 := ne_of_none upd_same nk3
    have Lk1 : L ≠ k1 := (ne_of_none (t3' _ _ (t2' _ _ upd_same)) nL).symm
    have Lk2 : L ≠ k2 := (ne_of_none (t3' _ _ upd_same) nL).symm
    have Lk3 : L ≠ k3 := (ne_of_none upd_same nL).symm
    have eL := upd_same (H := upd (upd (upd H12 k1 (.lst (zs.map vN))) k2 (.lst (es.map V.ref))) k3 (.lst (ms.map V.int))) (a := L) (o := .lst [V.ref k1, .ref k2, .ref k3])
    generalize upd (upd (upd (upd H12 k1 (.lst (zs.map vN))) k2 (.lst (es.map V.ref))) k3 (.lst (ms.map V.int))) L (.lst [V.ref k1, .ref k2, .ref k3]) = H13 at t4 ek1 ek2 ek3 eL ⊢
    clear t1 t2 t2' t3 t3' t4'
    have at0 : atI [V.ref k1, .ref k2, .ref k3] 0 = some (.ref k1) := atI_in (by decide) rfl
    have at1 : atI [V.ref k1, .ref k2, .ref k3] 1 = some (.ref k2) := atI_in (by decide) rfl
    have at2 : atI [V.ref k1, .ref k2, .ref k3] 2 = some (.ref k3) := atI_in (by decide) rfl
    -- the links
    refine ⟨_, rfl, _, _, _, _, rfl, rfl, lstAt eL, at0, _, rfl, _, _, _, _, rfl, rfl, lstAt eL, at1, ?_⟩
    intro m dx n1 n2 ne
    refine make_goL n1 n2 ne (.inl (lstAt ek1)) (.inl (lstAt ek2)) (hT12.same t4) ok fun H14 lm s14 => ?_
    obtain ⟨dxm, nam, lbm, esm, hm, _⟩ := id lm
    have nnr := fldsL_none nam lbm "raised" (by decide +kernel) (by decide +kernel)
    refine ⟨_, rfl, m, dxm, _, rfl, hm, nnr, _, rfl, _, _, _, _, rfl, rfl, lstAt (s14 _ _ eL), at2, m, k3, zs, ts, ms, rfl, lm, ok, .inl (lstAt (s14 _ _ ek3)), ml, ?_, okR, fun H15 g ng s15 lg => ?_⟩
    · intro x hx
      obtain ⟨i, hi⟩ := List.getElem?_of_mem hx
      have hi2 : i < ts.length := by rw [← ml]; exact (List.getElem?_eq_some_iff.mp hi).1
      exact (hms i x _ hi (List.getElem?_eq_getElem hi2)).1
    have u15 := s14.trans s15
    have t15 := t4.trans u15
    have lm15 := lm.same s15
    have e815 := t15 _ _ e812
    have epl15 := t15 _ _ epl12
    have hT15 := hT12.same t15
    have rl := raise_len ml
    -- the raised links, as they ought to be
    refine ⟨_, rfl, p8, _, rfl, .inl (lstAt e815), _, rfl, by rw [el]; omega, by rw [el]; omega, fun D nD => ?_⟩
    refine lc_range (fun i H' => ∃ rs : List Addr, Same H15 H' ∧ H' D = some (.lst (rs.map V.ref)) ∧ TiesAt H' rs ((raiseT ts ms).take i)) ⟨[], same_upd nD, upd_same, rfl, fun _ _ h => nomatch h⟩ (fun i H' hi hq => ?_) (fun H16 hq => ?_)
    · obtain ⟨rs, s1, eD, hR⟩ := hq
      have hi2 : i < ts.length := by rw [el] at hi; omega
      have hie : i < es.length := by rw [hT12.1]; exact hi2
      obtain ⟨t, et, ht⟩ := (hT15.same s1).2 i _ (List.getElem?_eq_getElem hie)
      have em : ms[i]? = some ms[i] := List.getElem?_eq_getElem (by omega)
      have l5 : rs.length ≤ i := by rw [hR.1, List.length_take]; omega
      have ae := ref_at0 (List.getElem?_eq_getElem hie)
      refine ⟨rfl, yesT ⟨_, rfl, _, rfl, _, _, _, _, rfl, rfl, lstAt (s1 _ _ e815), ae, _, _, _, _, rfl, rfl, tupAt ht, rfl, _, rfl, _, rfl, _, _, _, _, rfl, rfl, lstAt (s1 _ _ e815), ae, _, _, _, _, rfl, rfl, tupAt ht, rfl, _, rfl, _, rfl, _, _, _, _, rfl, rfl, lstAt (s1 _ _ e815), ae, _, _, _, _, rfl, rfl, tupAt ht, rfl, _, rfl, _, rfl, _, _, _, _, rfl, rfl, lstAt (s1 _ _ epl15), int_at0 em, _, _, rfl, rfl, (show (3 : Nat) ≤ sizeLine by decide), fun q5 nq => ?_⟩⟩
      have sq := same_upd (o := .tup [vN t.1, vN t.2.1, .int (t.2.2 + ms[i])]) nq
      have eD2 := sq _ _ eD
      refine ⟨_, eD2, by rw [List.length_map]; exact small1000 (by omega), rs ++ [q5], same_at (s1.trans sq) nD, by rw [List.map_append]; exact upd_same, ?_⟩
      rw [raise_snoc et em]
      exact ((hR.same sq).snoc (Same.refl _) (show TieAt _ q5 (t.1, t.2.1, t.2.2 + ms[i]) from upd_same)).wrote eD2
    obtain ⟨rs, s16, eD, hR⟩ := hq
    rw [show ((((es.map V.ref).length : Nat) : Int)).toNat = ts.length by rw [el]; rfl, List.take_of_length_le (by rw [rl]; exact Nat.le_refl _)] at hR
    have u16 := u15.trans s16
    have t16 := t15.trans s16
    -- what is left
    have e816 := t16 _ _ e812
    have hT16 := hT12.same t16
    have eo16 := t16 _ _ eo
    refine ⟨_, rfl, p8, _, rfl, .inl (lstAt e816), _, rfl, by rw [el]; omega, by rw [el]; omega, fun D2 nD2 => ?_⟩
    refine lc_range (fun i H' => ∃ ls : List Addr, Same H16 H' ∧ H' D2 = some (.lst (ls.map V.ref)) ∧ TiesAt H' ls (leftT ks ts i)) ⟨[], same_upd nD2, upd_same, rfl, fun _ _ h => nomatch h⟩ (fun i H' hi hq => ?_) (fun H17 hq => ?_)
    · obtain ⟨ls, s1, eD2, hL⟩ := hq
      have hi2 : i < ts.length := by rw [el] at hi; omega
      have hie : i < es.length := by rw [hT12.1]; exact hi2
      obtain ⟨t, et, ht⟩ := (hT16.same s1).2 i _ (List.getElem?_eq_getElem hie)
      have l5 : ls.length ≤ i := by rw [hL.1]; exact left_len _ _ _
      have ae := ref_at0 (List.getElem?_eq_getElem hie)
      refine ⟨rfl, _, rfl, _, rfl, o, _, rfl, .inl (lstAt (s1 _ _ eo16)), rfl, ints_flat _, _, rfl, ?_⟩
      rw [show (0 : Int) + (i : Int) = (i : Int) by omega, notin_int, left_snoc et]
      rw [show (0 : Int) + (i : Int) = (i : Int) by omega] at ae
      by_cases hm' : (i : Int) ∈ ks
      · rw [decide_eq_true hm', if_pos hm', List.append_nil]
        exact iteF ⟨ls, s1, eD2, hL⟩
      · rw [decide_eq_false hm', if_neg hm']
        refine iteT ⟨_, rfl, _, rfl, _, _, _, _, rfl, rfl, lstAt (s1 _ _ e816), ae, _, eD2, by rw [List.length_map]; exact small1000 (by omega), ls ++ [es[i]], same_at s1 nD2, by rw [List.map_append]; exact upd_same, ?_⟩
        exact (hL.snoc (Same.refl _) ht).wrote eD2
    obtain ⟨ls, s17, eD2, hL⟩ := hq
    rw [show ((((es.map V.ref).length : Nat) : Int)).toNat = ts.length by rw [el]; rfl] at hL
    have u17 := u16.trans s17
    have t17 := t16.trans s17
    have v17 := s16.trans s17
    have lm17 := lm15.same v17
    have lg17 := lg.same v17
    have eD17 := s17 _ _ eD
    have hR17 := hR.same s17
    -- held
    refine ⟨_, rfl, _, rfl, _, rfl, m, c, p8, zs, es, ts, rfl, lm17, ok, t17 _ _ ec12, t17 _ _ e812, hT12.same t17, fun H18 s18 => ⟨_, rfl, iteF ?_⟩⟩
    refine ⟨_, rfl, _, rfl, _, rfl, g, c, D, zs, rs, _, rfl, lg17.same s18, okR, s18 _ _ (t17 _ _ ec12), s18 _ _ eD17, hR17.same s18, fun H19 s19 => ⟨_, rfl, iteF ?_⟩⟩
    have v19 := s18.trans s19
    have t19 := t17.trans v19
    refine ⟨_, rfl, _, rfl, m, o, zs, ts, ks, rfl, lm17.same v19, ok, lstAt (t19 _ _ eo), k4, hk, fun H20 r nr s20 lr => ?_⟩
    have v20 := v19.trans s20
    refine ⟨_, rfl, _, rfl, r, c, D2, zs, ls, _, rfl, lr, left_ok ok, (t17.trans v20) _ _ ec12, v20 _ _ eD2, hL.same v20, fun H21 s21 => ⟨_, rfl, iteF ?_⟩⟩
    have v21 := v20.trans s21
    have t21 := t17.trans v21
    refine ⟨_, rfl, _, rfl, _, rfl, _, rfl, (show (3 : Nat) ≤ sizeLine by decide), fun M nM => ?_⟩
    have sM := same_upd (o := .lst [V.ref c, .ref p8, .ref pl]) nM
    have v22 := v21.trans sM
    have t22 := t17.trans v22
    have u22 := u17.trans v22
    refine ⟨_, _, rfl, eq_pass3 (u22 _ _ eL) upd_same (u22 _ _ ek1) (t22 _ _ ec12) (u22 _ _ ek2) (t22 _ _ e812) (u22 _ _ ek3) (t22 _ _ epl12) (hT12.same t22) z6 (by rw [hT12.1]; omega) (by omega), _, rfl, iteF ?_⟩
    have lm22 := lm17.same v22
    have lg22 := lg17.same v22
    have eD22 := v22 _ _ eD17
    have hR22 := hR17.same v22
    have eL22 := u22 _ _ eL
    have ek122 := u22 _ _ ek1
    have ek222 := u22 _ _ ek2
    have ek322 := u22 _ _ ek3
    have nDk : ∀ k x, H13 k = some x → k ≠ D := fun k x h => ne_of_none (u15 _ _ h) nD
    have D1 := (nDk _ _ ek1).symm
    have D2' := (nDk _ _ ek2).symm
    have D3 := (nDk _ _ ek3).symm
    generalize upd H21 M (.lst [V.ref c, .ref p8, .ref pl]) = H22 at t22 lm22 lg22 eD22 hR22 eL22 ek122 ek222 ek322 ⊢
    clear v22 u22 sM v21 t21 v20 v19 t19 lm17 lg17 u17 u16 t16 v17 s17 s16
    -- the lists that were passed are changed
    have m0 : ∀ x ∈ ms, 0 ≤ x := fun x hx => by
      obtain ⟨i, hi⟩ := List.getElem?_of_mem hx
      have hi2 : i < ts.length := by rw [← ml]; exact (List.getElem?_eq_some_iff.mp hi).1
      exact (hms i x _ hi (List.getElem?_eq_getElem hi2)).1
    refine ⟨_, rfl, _, _, _, _, rfl, rfl, lstAt eL22, at0, .inl ⟨rfl, _, lstAt ek122⟩, k1, _, rfl, rfl, ek122, ?_⟩
    have lm23 := lm22.wrote (o := .lst (zs.map vN).reverse) ek122
    have lg23 := lg22.wrote (o := .lst (zs.map vN).reverse) ek122
    have hR23 := hR22.wrote (o := .lst (zs.map vN).reverse) ek122
    have t23 := same_at (o := .lst (zs.map vN).reverse) t22 nk1
    have eL23 : (upd H22 k1 (.lst (zs.map vN).reverse)) L = some (.lst [V.ref k1, .ref k2, .ref k3]) := by rw [upd_ne Lk1]; exact eL22
    have ek223 : (upd H22 k1 (.lst (zs.map vN).reverse)) k2 = some (.lst (es.map V.ref)) := by rw [upd_ne k12.symm]; exact ek222
    have ek323 : (upd H22 k1 (.lst (zs.map vN).reverse)) k3 = some (.lst (ms.map V.int)) := by rw [upd_ne k13.symm]; exact ek322
    have eD23 : (upd H22 k1 (.lst (zs.map vN).reverse)) D = some (.lst (rs.map V.ref)) := by rw [upd_ne D1]; exact eD22
    have ek123 : (upd H22 k1 (.lst (zs.map vN).reverse)) k1 = some (.lst (zs.map vN).reverse) := upd_same
    generalize upd H22 k1 (.lst (zs.map vN).reverse) = H23 at lm23 lg23 hR23 t23 eL23 ek223 ek323 eD23 ek123 ⊢
    refine ⟨_, rfl, _, _, _, _, rfl, rfl, lstAt eL23, at0, .inl ⟨rfl, _, lstAt ek123⟩, _, rfl, c, zs, rfl, lstAt (t23 _ _ ec12), by omega, fun n hn hnn => ?_⟩
    refine ⟨_, _, _, rfl, rfl, ek123, by rw [List.length_reverse, List.length_map]; exact small1000 (by omega), ?_⟩
    have lm24 := lm23.wrote (o := .lst ((zs.map vN).reverse ++ [vN [97 + n]])) ek123
    have lg24 := lg23.wrote (o := .lst ((zs.map vN).reverse ++ [vN [97 + n]])) ek123
    have hR24 := hR23.wrote (o := .lst ((zs.map vN).reverse ++ [vN [97 + n]])) ek123
    have t24 := same_at (o := .lst ((zs.map vN).reverse ++ [vN [97 + n]])) t23 nk1
    have eL24 : (upd H23 k1 (.lst ((zs.map vN).reverse ++ [vN [97 + n]]))) L = some (.lst [V.ref k1, .ref k2, .ref k3]) := by rw [upd_ne Lk1]; exact eL23
    have ek224 : (upd H23 k1 (.lst ((zs.map vN).reverse ++ [vN [97 + n]]))) k2 = some (.lst (es.map V.ref)) := by rw [upd_ne k12.symm]; exact ek223
    have ek324 : (upd H23 k1 (.lst ((zs.map vN).reverse ++ [vN [97 + n]]))) k3 = some (.lst (ms.map V.int)) := by rw [upd_ne k13.symm]; exact ek323
    have eD24 : (upd H23 k1 (.lst ((zs.map vN).reverse ++ [vN [97 + n]]))) D = some (.lst (rs.map V.ref)) := by rw [upd_ne D1]; exact eD23
    generalize upd H23 k1 (.lst ((zs.map vN).reverse ++ [vN [97 + n]])) = H24 at lm24 lg24 hR24 t24 eL24 ek224 ek324 eD24 ⊢
    refine ⟨_, rfl, _, _, _, _, rfl, rfl, lstAt eL24, at1, .inl ⟨rfl, _, lstAt ek224⟩, k2, _, rfl, rfl, ek224, ?_⟩
    have lm25 := lm24.wrote (o := .lst []) ek224
    have lg25 := lg24.wrote (o := .lst []) ek224
    have hR25 := hR24.wrote (o := .lst []) ek224
    have t25 := same_at (o := .lst []) t24 nk2'
    have eL25 : (upd H24 k2 (.lst [])) L = some (.lst [V.ref k1, .ref k2, .ref k3]) := by rw [upd_ne Lk2]; exact eL24
    have ek325 : (upd H24 k2 (.lst [])) k3 = some (.lst (ms.map V.int)) := by rw [upd_ne k23.symm]; exact ek324
    have eD25 : (upd H24 k2 (.lst [])) D = some (.lst (rs.map V.ref)) := by rw [upd_ne D2']; exact eD24
    generalize upd H24 k2 (.lst []) = H25 at lm25 lg25 hR25 t25 eL25 ek325 eD25 ⊢
    refine ⟨_, rfl, _, _, _, _, rfl, rfl, lstAt eL25, at2, .inl ⟨rfl, _, lstAt ek325⟩, k3, _, rfl, rfl, ek325, ?_⟩
    have lm26 := lm25.wrote (o := .lst []) ek325
    have lg26 := lg25.wrote (o := .lst []) ek325
    have hR26 := hR25.wrote (o := .lst []) ek325
    have t26 := same_at (o := .lst []) t25 nk3'
    have eD26 : (upd H25 k3 (.lst [])) D = some (.lst (rs.map V.ref)) := by rw [upd_ne D3]; exact eD25
    generalize upd H25 k3 (.lst []) = H26 at lm26 lg26 hR26 t26 eD26 ⊢
    have ec26 := t26 _ _ ec12
    have e826 := t26 _ _ e812
    have epl26 := t26 _ _ epl12
    have eo26 := t26 _ _ eo
    have e126 := t26 _ _ e112
    have hT26 := hT12.same t26
    clear lm25 lg25 hR25 lm24 lg24 hR24 lm23 lg23 hR23 lm22 lg22 hR22 t22 t23 t24 t25 t17 t15 t4 hT12 hT15 hT16
    -- held still
    refine ⟨_, rfl, _, rfl, _, rfl, m, c, p8, zs, es, ts, rfl, lm26, ok, ec26, e826, hT26, fun H27 s27 => ⟨_, rfl, iteF ?_⟩⟩
    refine ⟨_, rfl, _, rfl, _, rfl, g, c, D, zs, rs, _, rfl, lg26.same s27, okR, s27 _ _ ec26, s27 _ _ eD26, hR26.same s27, fun H28 s28 => ⟨_, rfl, iteF ?_⟩⟩
    have v28 := s27.trans s28
    have lm28 := lm26.same v28
    obtain ⟨dxm2, nam2, lbm2, esm2, hm2, _⟩ := id lm28
    have nnr2 := fldsL_none nam2 lbm2 "raised" (by decide +kernel) (by decide +kernel)
    refine ⟨_, rfl, m, dxm2, _, rfl, hm2, nnr2, _, rfl, pl, _, rfl, .inl ⟨lstAt (v28 _ _ epl26), fun tt ntt => ⟨rfl, ?_⟩⟩⟩
    have stt := same_upd (o := .tup (ms.map V.int)) ntt
    refine ⟨m, tt, zs, ts, ms, rfl, lm28.same stt, ok, .inr (tupAt upd_same), ml, m0, okR, fun H29 r2 nr2 s29 lr2 => ?_⟩
    have v29 := (v28.trans stt).trans s29
    refine ⟨_, rfl, _, rfl, r2, c, D, zs, rs, _, rfl, lr2, okR, v29 _ _ ec26, v29 _ _ eD26, hR26.same v29, fun H30 s30 => ⟨_, rfl, iteF ?_⟩⟩
    have v30 := v29.trans s30
    -- equal, unequal
    refine ⟨_, rfl, _, rfl, _, rfl, _, rfl, p1, ns1, 18, 1, 60, rfl, lstAt (v30 _ _ e126), by decide, by omega, by decide, by decide, by decide, ?_⟩
    refine ⟨m, c, p8, _, zs, es, ts, rfl, lm26.same v30, ok, v30 _ _ ec26, v30 _ _ e826, hT26.same v30, fun H31 s31 => ⟨_, rfl, iteF ?_⟩⟩
    have v31 := v30.trans s31
    have e831 := v31 _ _ e826
    have eo31 := v31 _ _ eo26
    have eD31 := v31 _ _ eD26
    have hR31 := hR26.same v31
    -- the raised ones that are left
    have rl2 : rs.length = ts.length := by rw [hR31.1, rl]
    refine ⟨_, rfl, p8, _, rfl, .inl (lstAt e831), _, rfl, by rw [el]; omega, by rw [el]; omega, fun D5 nD5 => ?_⟩
    refine lc_range (fun i H' => ∃ ls : List Addr, Same H31 H' ∧ H' D5 = some (.lst (ls.map V.ref)) ∧ TiesAt H' ls (leftT ks (raiseT ts ms) i)) ⟨[], same_upd nD5, upd_same, rfl, fun _ _ h => nomatch h⟩ (fun i H' hi hq => ?_) (fun H32 hq => ?_)
    · obtain ⟨ls, s1, eD5, hL⟩ := hq
      have hi2 : i < ts.length := by rw [el] at hi; omega
      have hie : i < rs.length := by omega
      obtain ⟨t, et, ht⟩ := (hR31.same s1).2 i _ (List.getElem?_eq_getElem hie)
      have l5 : ls.length ≤ i := by rw [hL.1]; exact left_len _ _ _
      have ae := ref_at0 (List.getElem?_eq_getElem hie)
      refine ⟨rfl, _, rfl, _, rfl, o, _, rfl, .inl (lstAt (s1 _ _ eo31)), rfl, ints_flat _, _, rfl, ?_⟩
      rw [show (0 : Int) + (i : Int) = (i : Int) by omega, notin_int, left_snoc et]
      rw [show (0 : Int) + (i : Int) = (i : Int) by omega] at ae
      by_cases hm' : (i : Int) ∈ ks
      · rw [decide_eq_true hm', if_pos hm', List.append_nil]
        exact iteF ⟨ls, s1, eD5, hL⟩
      · rw [decide_eq_false hm', if_neg hm']
        refine iteT ⟨_, rfl, _, rfl, _, _, _, _, rfl, rfl, lstAt (s1 _ _ eD31), ae, _, eD5, by rw [List.length_map]; exact small1000 (by omega), ls ++ [rs[i]], same_at s1 nD5, by rw [List.map_append]; exact upd_same, ?_⟩
        exact (hL.snoc (Same.refl _) ht).wrote eD5
    obtain ⟨ls2, s32, eD5, hL5⟩ := hq
    rw [show ((((es.map V.ref).length : Nat) : Int)).toNat = (raiseT ts ms).length by rw [el, rl]; rfl] at hL5
    have v32 := v31.trans s32
    refine ⟨_, rfl, _, rfl, o, _, rfl, lstAt (v32 _ _ eo26), fun o2 no2 => ?_⟩
    rw [← List.map_reverse]
    have so2 := same_upd (o := .lst (ks.reverse.map V.int)) no2
    have v33 := v32.trans so2
    refine ⟨g, o2, zs, _, ks.reverse, rfl, lg26.same v33, okR, lstAt upd_same, by rw [List.length_reverse]; exact k4, fun k hk' => by rw [rl]; exact hk k (List.mem_reverse.mp hk'), fun H34 r3 nr3 s34 lr3 => ?_⟩
    rw [left_rev] at lr3
    have v34 := v33.trans s34
    refine ⟨_, rfl, _, rfl, r3, c, D5, zs, ls2, _, rfl, lr3, left_ok okR, v34 _ _ ec26, (so2.trans s34) _ _ eD5, hL5.same (so2.trans s34), fun H35 s35 => ?_⟩
    have v35 := v34.trans s35
    refine ⟨_, rfl, iteT ?_⟩
    -- bare links
    refine ⟨_, rfl, c, _, rfl, .inl (lstAt (v35 _ _ ec26)), fun l9 nl9 => ?_⟩
    have s36 := same_upd (o := .lst (zs.map vN)) nl9
    have v36 := v35.trans s36
    intro m2 dx3 n3 n4 ne3
    have okE : LOk zs [] := ok.sub (by decide) fun _ h => nomatch h
    refine make_goL (es := []) (ts := []) n3 n4 ne3 (.inl (lstAt upd_same)) (.inr (e_bare _)) ⟨rfl, fun _ _ h => nomatch h⟩ okE fun H37 lk2 s37 => ?_
    have v37 := v36.trans s37
    refine ⟨_, rfl, Nat.zero_le _, fun t nt => ?_⟩
    have s38 := same_upd (o := .lst []) nt
    exact ⟨m2, c, t, zs, [], [], rfl, lk2.same s38, okE, (v37.trans s38) _ _ ec26, upd_same, ⟨rfl, fun _ _ h => nomatch h⟩, fun H39 _ => q _⟩
end
end TK

namespace TK
open PySem PySem.Spec PyProof.Rows L2
theorem kit_off {K : PySem.W.Frag} {C : Addr} {T : String} (h1 : PySem.W.isClsIn K C = true) (h2 : PySem.W.typeIn K (.ref C) = some (.type "type")) (h3 : PySem.W.notFirst K C (.type T) = true) : PySem.W.kitOne K (.type T) (.ref C) = some false := by
  unfold PySem.W.notFirst at h3
  have e0 : ((Value.type T) == Value.ref C) = false := rfl
  rw [e0, Bool.false_or] at h3
  have h4 := eq_of_beq h3
  unfold PySem.W.kitOne PySem.W.kitCls
  rw [e0]
  unfold PySem.W.isClsIn at h1
  simp [h1, h2, h4]
/-- how the keywords of a def without defaults bind -/
theorem fun_kb {K : PySem.W.Frag} {x qual : Str} {st : Stmt} {f : Addr} {fd : FuncData} {ps : List Str} (F : Fun K x qual st f fd) (n : Nat) (ks : List Str)
    (h : ∀ (kV doc pm : Value) (an : Option Addr) (cdv ct : Value) (us ws : List Value), us.length = n → ws.length = ks.length → bindArgs (PySem.W.fnOf x qual (defArgs st) (defBody st) (defScope st) .none kV doc pm an cdv ct) ⟨us, ks.zip ws⟩ = pure (ps.zip (us ++ ws))) :
    KBn K fd ps n ks (fun us ws => us ++ ws) (fun vs zs => vs ++ zs) := by
  obtain ⟨oc, od, kV, doc, pm, an, cdv, ct, osl, rfl, lk, hcd⟩ := F.ex
  exact ⟨fun s us ws X l1 l2 => .of_eq (h _ _ _ _ _ _ us ws l1 l2), fun r1 r2 => r1.append r2⟩
theorem vals_rev {vs : List V} {us : List Value} (r : Vals vs us) : Vals vs.reverse us.reverse := by
  induction r with
  | nil => exact .nil
  | cons a r ih =>
    rw [List.reverse_cons, List.reverse_cons]
    exact ih.append (.cons a .nil)
/-- Links(links = .., names = ..) -/
theorem links_kb {K : PySem.W.Frag} {f : Addr} {fd : FuncData} {E : Addr} (F : FunD K "__init__" "Links.__init__" (defArgs s_Links_init) (defBody s_Links_init) (defScope s_Links_init) [V.ref E] [] f fd) :
    KBn K fd ["self", "names", "links"] 1 ["links", "names"] (fun us ws => us ++ ws.reverse) (fun vs zs => vs ++ zs.reverse) := by
  obtain ⟨oc, od, dV, kV, doc, pm, an, cdv, ct, osl, rfl, lk, hcd, hD, hK⟩ := F.ex
  rcases hD with ⟨e, _⟩ | ⟨_, T, o, its, m, rfl, lT, oT, rT⟩
  · exact absurd e (by simp)
  · refine ⟨fun s us ws X l1 l2 => ?_, fun r1 r2 => r1.append (vals_rev r2)⟩
    have hi : its.length = 1 := rT.length.symm
    have h : ∃ k, bindArgs (PySem.W.fnOf "__init__" "Links.__init__" (defArgs s_Links_init) (defBody s_Links_init) (defScope s_Links_init) (.ref T) kV doc pm an cdv ct) ⟨us, (["links", "names"] : List Str).zip ws⟩ = seqItems? (.ref T) >>= k ∧ k (some its.toArray) = pure ((["self", "names", "links"] : List Str).zip (us ++ ws.reverse)) :=
      match us, l1, ws, l2, its, hi with | [_], _, [_, _], _, [_], _ => ⟨_, rfl, rfl⟩
    obtain ⟨k, e1, e2⟩ := h
    refine BindsTo.of_looks fun M => ?_
    rw [e1]
    exact looks_items X lT oT (.of_pure e2)

theorem all_mk {l : PySem.W.OpenLaw} {w : World} {K : PySem.W.Frag} {h : Heap} {mg : Str → Option Value} {fa f0 f1 f2 f3 f4 f5 f6 f7 f8 f9 f10 f11 f12 f13 f14 f15 f16 f17 f18 f19 f20 f21 f22 f23 f24 f25 f26 f27 f28 f29 f30 : Addr} (X : K.In h) (G : h.Ns mainGlobals mg) (hfa : mg "law" = some (.ref fa))
    {tk : Tok}
    {C CT TP EP TI EI DN : Addr} {odTP odD odN2 odEm : Option Addr} {slTP slD slN2 slEm : Array (Option Value)} {ocTP ocD ocN2 : Value} {nTP nD nN nX : Nat} {tkL tkT : Tok}
    {fP : Addr} {odP anP : Option Addr} {slP : Array (Option Value)} {ocP kVP dcP pmP cdP ctP : Value}
    {fG : Addr} {odG anG : Option Addr} {slG : Array (Option Value)} {ocG kVG dcG pmG cdG ctG : Value}
    {fI : Addr} {odI anI : Option Addr} {slI : Array (Option Value)} {ocI kVI dcI pmI cdI ctI : Value}
    {fN : Addr} {odN anN : Option Addr} {slN : Array (Option Value)} {ocN kVN dcN pmN cdN ctN : Value}
    {fY : Addr} {odY anY : Option Addr} {slY : Array (Option Value)} {ocY kVY dcY pmY cdY ctY : Value}
    {fQ : Addr} {odQ anQ : Option Addr} {slQ : Array (Option Value)} {ocQ kVQ dcQ pmQ cdQ ctQ : Value}
    {fV : Addr} {odV anV : Option Addr} {slV : Array (Option Value)} {ocV kVV dcV pmV cdV ctV : Value}
    {fR : Addr} {odR anR : Option Addr} {slR : Array (Option Value)} {ocR kVR dcR pmR cdR ctR : Value}
    {fW : Addr} {odW anW : Option Addr} {slW : Array (Option Value)} {ocW kVW dcW pmW cdW ctW : Value}
    {od0 an0 : Option Addr} {sl0 : Array (Option Value)} {oc0 kV0 dc0 pm0 cd0 ct0 : Value}
    (a0 : PySem.W.nsIn K mainGlobals "_wall" = some (some (.ref f0))) (l0 : K.lookup f0 = some ⟨oc0, od0, .func (PySem.W.fnOf "_wall" "_wall" (defArgs s_wall) (defBody s_wall) (defScope s_wall) .none kV0 dc0 pm0 an0 cd0 ct0), sl0⟩) (c0 : PySem.W.codeIn K cd0 "_wall" = true) (k0 : PySem.W.keepIn K (.ref f0) = true)
    {od1 an1 : Option Addr} {sl1 : Array (Option Value)} {oc1 kV1 dc1 pm1 cd1 ct1 : Value}
    (a1 : PySem.W.nsIn K mainGlobals "is_name" = some (some (.ref f1))) (l1 : K.lookup f1 = some ⟨oc1, od1, .func (PySem.W.fnOf "is_name" "is_name" (defArgs s_is_name) (defBody s_is_name) (defScope s_is_name) .none kV1 dc1 pm1 an1 cd1 ct1), sl1⟩) (c1 : PySem.W.codeIn K cd1 "is_name" = true) (k1 : PySem.W.keepIn K (.ref f1) = true)
    {od2 an2 : Option Addr} {sl2 : Array (Option Value)} {oc2 kV2 dc2 pm2 cd2 ct2 : Value}
    (a2 : PySem.W.nsIn K mainGlobals "check_size" = some (some (.ref f2))) (l2 : K.lookup f2 = some ⟨oc2, od2, .func (PySem.W.fnOf "check_size" "check_size" (defArgs s_check_size) (defBody s_check_size) (defScope s_check_size) .none kV2 dc2 pm2 an2 cd2 ct2), sl2⟩) (c2 : PySem.W.codeIn K cd2 "check_size" = true) (k2 : PySem.W.keepIn K (.ref f2) = true)
    {od3 an3 : Option Addr} {sl3 : Array (Option Value)} {oc3 kV3 dc3 pm3 cd3 ct3 : Value}
    (a3 : PySem.W.nsIn K mainGlobals "check_range" = some (some (.ref f3))) (l3 : K.lookup f3 = some ⟨oc3, od3, .func (PySem.W.fnOf "check_range" "check_range" (defArgs s_check_range) (defBody s_check_range) (defScope s_check_range) .none kV3 dc3 pm3 an3 cd3 ct3), sl3⟩) (c3 : PySem.W.codeIn K cd3 "check_range" = true) (k3 : PySem.W.keepIn K (.ref f3) = true)
    {od4 an4 : Option Addr} {sl4 : Array (Option Value)} {oc4 kV4 dc4 pm4 cd4 ct4 : Value}
    (a4 : PySem.W.nsIn K mainGlobals "check_names" = some (some (.ref f4))) (l4 : K.lookup f4 = some ⟨oc4, od4, .func (PySem.W.fnOf "check_names" "check_names" (defArgs s_check_names) (defBody s_check_names) (defScope s_check_names) (.ref DN) kV4 dc4 pm4 an4 cd4 ct4), sl4⟩) (c4 : PySem.W.codeIn K cd4 "check_names" = true) (k4 : PySem.W.keepIn K (.ref f4) = true)
    {od5 an5 : Option Addr} {sl5 : Array (Option Value)} {oc5 kV5 dc5 pm5 cd5 ct5 : Value}
    (a5 : PySem.W.nsIn K mainGlobals "check_known" = some (some (.ref f5))) (l5 : K.lookup f5 = some ⟨oc5, od5, .func (PySem.W.fnOf "check_known" "check_known" (defArgs s_check_known) (defBody s_check_known) (defScope s_check_known) .none kV5 dc5 pm5 an5 cd5 ct5), sl5⟩) (c5 : PySem.W.codeIn K cd5 "check_known" = true) (k5 : PySem.W.keepIn K (.ref f5) = true)
    {od6 an6 : Option Addr} {sl6 : Array (Option Value)} {oc6 kV6 dc6 pm6 cd6 ct6 : Value}
    (a6 : PySem.W.nsIn K mainGlobals "plus" = some (some (.ref f6))) (l6 : K.lookup f6 = some ⟨oc6, od6, .func (PySem.W.fnOf "plus" "plus" (defArgs s_plus) (defBody s_plus) (defScope s_plus) .none kV6 dc6 pm6 an6 cd6 ct6), sl6⟩) (c6 : PySem.W.codeIn K cd6 "plus" = true) (k6 : PySem.W.keepIn K (.ref f6) = true)
    {od7 an7 : Option Addr} {sl7 : Array (Option Value)} {oc7 kV7 dc7 pm7 cd7 ct7 : Value}
    (a7 : PySem.W.nsIn K mainGlobals "least" = some (some (.ref f7))) (l7 : K.lookup f7 = some ⟨oc7, od7, .func (PySem.W.fnOf "least" "least" (defArgs s_least) (defBody s_least) (defScope s_least) .none kV7 dc7 pm7 an7 cd7 ct7), sl7⟩) (c7 : PySem.W.codeIn K cd7 "least" = true) (k7 : PySem.W.keepIn K (.ref f7) = true)
    {od8 an8 : Option Addr} {sl8 : Array (Option Value)} {oc8 kV8 dc8 pm8 cd8 ct8 : Value}
    (a8 : PySem.W.nsIn K mainGlobals "_check_entries" = some (some (.ref f8))) (l8 : K.lookup f8 = some ⟨oc8, od8, .func (PySem.W.fnOf "_check_entries" "_check_entries" (defArgs s_check_entries) (defBody s_check_entries) (defScope s_check_entries) .none kV8 dc8 pm8 an8 cd8 ct8), sl8⟩) (c8 : PySem.W.codeIn K cd8 "_check_entries" = true) (k8 : PySem.W.keepIn K (.ref f8) = true)
    {od9 an9 : Option Addr} {sl9 : Array (Option Value)} {oc9 kV9 dc9 pm9 cd9 ct9 : Value}
    (a9 : PySem.W.nsIn K mainGlobals "_least_tolls" = some (some (.ref f9))) (l9 : K.lookup f9 = some ⟨oc9, od9, .func (PySem.W.fnOf "_least_tolls" "_least_tolls" (defArgs s_least_tolls) (defBody s_least_tolls) (defScope s_least_tolls) .none kV9 dc9 pm9 an9 cd9 ct9), sl9⟩) (c9 : PySem.W.codeIn K cd9 "_least_tolls" = true) (k9 : PySem.W.keepIn K (.ref f9) = true)
    {od10 an10 : Option Addr} {sl10 : Array (Option Value)} {oc10 kV10 dc10 pm10 cd10 ct10 : Value}
    (a10 : PySem.W.nsIn K mainGlobals "_check_links" = some (some (.ref f10))) (l10 : K.lookup f10 = some ⟨oc10, od10, .func (PySem.W.fnOf "_check_links" "_check_links" (defArgs s_check_links) (defBody s_check_links) (defScope s_check_links) .none kV10 dc10 pm10 an10 cd10 ct10), sl10⟩) (c10 : PySem.W.codeIn K cd10 "_check_links" = true) (k10 : PySem.W.keepIn K (.ref f10) = true)
    {od11 an11 : Option Addr} {sl11 : Array (Option Value)} {oc11 kV11 dc11 pm11 cd11 ct11 : Value}
    (a11 : PySem.W.nsIn K mainGlobals "check_numbers" = some (some (.ref f11))) (l11 : K.lookup f11 = some ⟨oc11, od11, .func (PySem.W.fnOf "check_numbers" "check_numbers" (defArgs s_check_numbers) (defBody s_check_numbers) (defScope s_check_numbers) .none kV11 dc11 pm11 an11 cd11 ct11), sl11⟩) (c11 : PySem.W.codeIn K cd11 "check_numbers" = true) (k11 : PySem.W.keepIn K (.ref f11) = true)
    {od12 an12 : Option Addr} {sl12 : Array (Option Value)} {oc12 kV12 dc12 pm12 cd12 ct12 : Value}
    (a12 : PySem.W.nsIn K mainGlobals "_law_cell" = some (some (.ref f12))) (l12 : K.lookup f12 = some ⟨oc12, od12, .func (PySem.W.fnOf "_law_cell" "_law_cell" (defArgs s_L_cell) (defBody s_L_cell) (defScope s_L_cell) .none kV12 dc12 pm12 an12 cd12 ct12), sl12⟩) (c12 : PySem.W.codeIn K cd12 "_law_cell" = true) (k12 : PySem.W.keepIn K (.ref f12) = true)
    {od13 an13 : Option Addr} {sl13 : Array (Option Value)} {oc13 kV13 dc13 pm13 cd13 ct13 : Value}
    (a13 : PySem.W.nsIn K mainGlobals "_law_mixed" = some (some (.ref f13))) (l13 : K.lookup f13 = some ⟨oc13, od13, .func (PySem.W.fnOf "_law_mixed" "_law_mixed" (defArgs s_L_mixed) (defBody s_L_mixed) (defScope s_L_mixed) .none kV13 dc13 pm13 an13 cd13 ct13), sl13⟩) (c13 : PySem.W.codeIn K cd13 "_law_mixed" = true) (k13 : PySem.W.keepIn K (.ref f13) = true)
    {od14 an14 : Option Addr} {sl14 : Array (Option Value)} {oc14 kV14 dc14 pm14 cd14 ct14 : Value}
    (a14 : PySem.W.nsIn K mainGlobals "_law_pool" = some (some (.ref f14))) (l14 : K.lookup f14 = some ⟨oc14, od14, .func (PySem.W.fnOf "_law_pool" "_law_pool" (defArgs s_L_pool) (defBody s_L_pool) (defScope s_L_pool) .none kV14 dc14 pm14 an14 cd14 ct14), sl14⟩) (c14 : PySem.W.codeIn K cd14 "_law_pool" = true) (k14 : PySem.W.keepIn K (.ref f14) = true)
    {od15 an15 : Option Addr} {sl15 : Array (Option Value)} {oc15 kV15 dc15 pm15 cd15 ct15 : Value}
    (a15 : PySem.W.nsIn K mainGlobals "_law_part" = some (some (.ref f15))) (l15 : K.lookup f15 = some ⟨oc15, od15, .func (PySem.W.fnOf "_law_part" "_law_part" (defArgs s_L_part) (defBody s_L_part) (defScope s_L_part) .none kV15 dc15 pm15 an15 cd15 ct15), sl15⟩) (c15 : PySem.W.codeIn K cd15 "_law_part" = true) (k15 : PySem.W.keepIn K (.ref f15) = true)
    {od16 an16 : Option Addr} {sl16 : Array (Option Value)} {oc16 kV16 dc16 pm16 cd16 ct16 : Value}
    (a16 : PySem.W.nsIn K mainGlobals "_law_names" = some (some (.ref f16))) (l16 : K.lookup f16 = some ⟨oc16, od16, .func (PySem.W.fnOf "_law_names" "_law_names" (defArgs s_L_names) (defBody s_L_names) (defScope s_L_names) .none kV16 dc16 pm16 an16 cd16 ct16), sl16⟩) (c16 : PySem.W.codeIn K cd16 "_law_names" = true) (k16 : PySem.W.keepIn K (.ref f16) = true)
    {od17 an17 : Option Addr} {sl17 : Array (Option Value)} {oc17 kV17 dc17 pm17 cd17 ct17 : Value}
    (a17 : PySem.W.nsIn K mainGlobals "_law_strange" = some (some (.ref f17))) (l17 : K.lookup f17 = some ⟨oc17, od17, .func (PySem.W.fnOf "_law_strange" "_law_strange" (defArgs s_L_strange) (defBody s_L_strange) (defScope s_L_strange) .none kV17 dc17 pm17 an17 cd17 ct17), sl17⟩) (c17 : PySem.W.codeIn K cd17 "_law_strange" = true) (k17 : PySem.W.keepIn K (.ref f17) = true)
    {od18 an18 : Option Addr} {sl18 : Array (Option Value)} {oc18 kV18 dc18 pm18 cd18 ct18 : Value}
    (a18 : PySem.W.nsIn K mainGlobals "_law_words" = some (some (.ref f18))) (l18 : K.lookup f18 = some ⟨oc18, od18, .func (PySem.W.fnOf "_law_words" "_law_words" (defArgs s_L_words) (defBody s_L_words) (defScope s_L_words) .none kV18 dc18 pm18 an18 cd18 ct18), sl18⟩) (c18 : PySem.W.codeIn K cd18 "_law_words" = true) (k18 : PySem.W.keepIn K (.ref f18) = true)
    {od19 an19 : Option Addr} {sl19 : Array (Option Value)} {oc19 kV19 dc19 pm19 cd19 ct19 : Value}
    (a19 : PySem.W.nsIn K mainGlobals "_law_big" = some (some (.ref f19))) (l19 : K.lookup f19 = some ⟨oc19, od19, .func (PySem.W.fnOf "_law_big" "_law_big" (defArgs s_L_big) (defBody s_L_big) (defScope s_L_big) .none kV19 dc19 pm19 an19 cd19 ct19), sl19⟩) (c19 : PySem.W.codeIn K cd19 "_law_big" = true) (k19 : PySem.W.keepIn K (.ref f19) = true)
    {od20 an20 : Option Addr} {sl20 : Array (Option Value)} {oc20 kV20 dc20 pm20 cd20 ct20 : Value}
    (a20 : PySem.W.nsIn K mainGlobals "_law_links" = some (some (.ref f20))) (l20 : K.lookup f20 = some ⟨oc20, od20, .func (PySem.W.fnOf "_law_links" "_law_links" (defArgs s_L_links) (defBody s_L_links) (defScope s_L_links) .none kV20 dc20 pm20 an20 cd20 ct20), sl20⟩) (c20 : PySem.W.codeIn K cd20 "_law_links" = true) (k20 : PySem.W.keepIn K (.ref f20) = true)
    {od21 an21 : Option Addr} {sl21 : Array (Option Value)} {oc21 kV21 dc21 pm21 cd21 ct21 : Value}
    (a21 : PySem.W.nsIn K mainGlobals "_law_ties" = some (some (.ref f21))) (l21 : K.lookup f21 = some ⟨oc21, od21, .func (PySem.W.fnOf "_law_ties" "_law_ties" (defArgs s_L_ties) (defBody s_L_ties) (defScope s_L_ties) .none kV21 dc21 pm21 an21 cd21 ct21), sl21⟩) (c21 : PySem.W.codeIn K cd21 "_law_ties" = true) (k21 : PySem.W.keepIn K (.ref f21) = true)
    {od22 an22 : Option Addr} {sl22 : Array (Option Value)} {oc22 kV22 dc22 pm22 cd22 ct22 : Value}
    (a22 : PySem.W.nsIn K mainGlobals "_law_integer" = some (some (.ref f22))) (l22 : K.lookup f22 = some ⟨oc22, od22, .func (PySem.W.fnOf "_law_integer" "_law_integer" (defArgs s_L_integer) (defBody s_L_integer) (defScope s_L_integer) .none kV22 dc22 pm22 an22 cd22 ct22), sl22⟩) (c22 : PySem.W.codeIn K cd22 "_law_integer" = true) (k22 : PySem.W.keepIn K (.ref f22) = true)
    {od23 an23 : Option Addr} {sl23 : Array (Option Value)} {oc23 kV23 dc23 pm23 cd23 ct23 : Value}
    (a23 : PySem.W.nsIn K mainGlobals "_law_same" = some (some (.ref f23))) (l23 : K.lookup f23 = some ⟨oc23, od23, .func (PySem.W.fnOf "_law_same" "_law_same" (defArgs s_L_same) (defBody s_L_same) (defScope s_L_same) .none kV23 dc23 pm23 an23 cd23 ct23), sl23⟩) (c23 : PySem.W.codeIn K cd23 "_law_same" = true) (k23 : PySem.W.keepIn K (.ref f23) = true)
    {od24 an24 : Option Addr} {sl24 : Array (Option Value)} {oc24 kV24 dc24 pm24 cd24 ct24 : Value}
    (a24 : PySem.W.nsIn K mainGlobals "_law_least_of" = some (some (.ref f24))) (l24 : K.lookup f24 = some ⟨oc24, od24, .func (PySem.W.fnOf "_law_least_of" "_law_least_of" (defArgs s_L_least_of) (defBody s_L_least_of) (defScope s_L_least_of) .none kV24 dc24 pm24 an24 cd24 ct24), sl24⟩) (c24 : PySem.W.codeIn K cd24 "_law_least_of" = true) (k24 : PySem.W.keepIn K (.ref f24) = true)
    {od25 an25 : Option Addr} {sl25 : Array (Option Value)} {oc25 kV25 dc25 pm25 cd25 ct25 : Value}
    (a25 : PySem.W.nsIn K mainGlobals "_law_rows" = some (some (.ref f25))) (l25 : K.lookup f25 = some ⟨oc25, od25, .func (PySem.W.fnOf "_law_rows" "_law_rows" (defArgs s_L_rows) (defBody s_L_rows) (defScope s_L_rows) .none kV25 dc25 pm25 an25 cd25 ct25), sl25⟩) (c25 : PySem.W.codeIn K cd25 "_law_rows" = true) (k25 : PySem.W.keepIn K (.ref f25) = true)
    {od26 an26 : Option Addr} {sl26 : Array (Option Value)} {oc26 kV26 dc26 pm26 cd26 ct26 : Value}
    (a26 : PySem.W.nsIn K mainGlobals "_law_lifts" = some (some (.ref f26))) (l26 : K.lookup f26 = some ⟨oc26, od26, .func (PySem.W.fnOf "_law_lifts" "_law_lifts" (defArgs s_L_lifts) (defBody s_L_lifts) (defScope s_L_lifts) .none kV26 dc26 pm26 an26 cd26 ct26), sl26⟩) (c26 : PySem.W.codeIn K cd26 "_law_lifts" = true) (k26 : PySem.W.keepIn K (.ref f26) = true)
    {od27 an27 : Option Addr} {sl27 : Array (Option Value)} {oc27 kV27 dc27 pm27 cd27 ct27 : Value}
    (a27 : PySem.W.nsIn K mainGlobals "_law_holds" = some (some (.ref f27))) (l27 : K.lookup f27 = some ⟨oc27, od27, .func (PySem.W.fnOf "_law_holds" "_law_holds" (defArgs s_L_holds) (defBody s_L_holds) (defScope s_L_holds) .none kV27 dc27 pm27 an27 cd27 ct27), sl27⟩) (c27 : PySem.W.codeIn K cd27 "_law_holds" = true) (k27 : PySem.W.keepIn K (.ref f27) = true)
    {od28 an28 : Option Addr} {sl28 : Array (Option Value)} {oc28 kV28 dc28 pm28 cd28 ct28 : Value}
    (a28 : PySem.W.nsIn K mainGlobals "_law_without" = some (some (.ref f28))) (l28 : K.lookup f28 = some ⟨oc28, od28, .func (PySem.W.fnOf "_law_without" "_law_without" (defArgs s_L_without) (defBody s_L_without) (defScope s_L_without) .none kV28 dc28 pm28 an28 cd28 ct28), sl28⟩) (c28 : PySem.W.codeIn K cd28 "_law_without" = true) (k28 : PySem.W.keepIn K (.ref f28) = true)
    {od29 an29 : Option Addr} {sl29 : Array (Option Value)} {oc29 kV29 dc29 pm29 cd29 ct29 : Value}
    (a29 : PySem.W.nsIn K mainGlobals "_law_alike" = some (some (.ref f29))) (l29 : K.lookup f29 = some ⟨oc29, od29, .func (PySem.W.fnOf "_law_alike" "_law_alike" (defArgs s_L_alike) (defBody s_L_alike) (defScope s_L_alike) .none kV29 dc29 pm29 an29 cd29 ct29), sl29⟩) (c29 : PySem.W.codeIn K cd29 "_law_alike" = true) (k29 : PySem.W.keepIn K (.ref f29) = true)
    {od30 an30 : Option Addr} {sl30 : Array (Option Value)} {oc30 kV30 dc30 pm30 cd30 ct30 : Value}
    (a30 : PySem.W.nsIn K mainGlobals "law" = some (some (.ref f30))) (l30 : K.lookup f30 = some ⟨oc30, od30, .func (PySem.W.fnOf "law" "law" (defArgs s_law) (defBody s_law) (defScope s_law) .none kV30 dc30 pm30 an30 cd30 ct30), sl30⟩) (c30 : PySem.W.codeIn K cd30 "law" = true) (k30 : PySem.W.keepIn K (.ref f30) = true)
    (aL : PySem.W.nsIn K mainGlobals "LETTERS" = some (some (.str lettersZ tk)))
    (z_len : PySem.W.nsIn K mainGlobals "len" = some none)
    (z_all : PySem.W.nsIn K mainGlobals "all" = some none)
    (z_enumerate : PySem.W.nsIn K mainGlobals "enumerate" = some none)
    (z_tuple : PySem.W.nsIn K mainGlobals "tuple" = some none)
    (z_list : PySem.W.nsIn K mainGlobals "list" = some none)
    (z_range : PySem.W.nsIn K mainGlobals "range" = some none)
    (z_abs : PySem.W.nsIn K mainGlobals "abs" = some none)
    (z_int : PySem.W.nsIn K mainGlobals "int" = some none)
    (z_min : PySem.W.nsIn K mainGlobals "min" = some none)
    (z_isinstance : PySem.W.nsIn K mainGlobals "isinstance" = some none)
    (z_bool : PySem.W.nsIn K mainGlobals "bool" = some none)
    (z_str : PySem.W.nsIn K mainGlobals "str" = some none)
    (z_iter : PySem.W.nsIn K mainGlobals "iter" = some none)
    (z_zip : PySem.W.nsIn K mainGlobals "zip" = some none)
    (aML : PySem.W.nsIn K mainGlobals "MOST_LINKS" = some (some (.int 12 tkL))) (aMT : PySem.W.nsIn K mainGlobals "MOST_TOLL" = some (some (.int 1000000000 tkT)))
    (aC : PySem.W.nsIn K mainGlobals "Links" = some (some (.ref C))) (aT : PySem.W.nsIn K mainGlobals "Tolls" = some (some (.ref CT)))
    (aP : PySem.W.findIn K (.ref CT) "__init__" = some (some (.ref fP))) (iP : PySem.W.isFn K (.ref fP) = true) (lP : K.lookup fP = some ⟨ocP, odP, .func (PySem.W.fnOf "__init__" "Tolls.__init__" (defArgs s_Tolls_init) (defBody s_Tolls_init) (defScope s_Tolls_init) (.ref TP) kVP dcP pmP anP cdP ctP), slP⟩) (cP : PySem.W.codeIn K cdP "Tolls.__init__" = true) (kP : PySem.W.keepIn K (.ref fP) = true)
    (aG : PySem.W.findIn K (.ref CT) "__getitem__" = some (some (.ref fG))) (iG : PySem.W.isFn K (.ref fG) = true) (lG : K.lookup fG = some ⟨ocG, odG, .func (PySem.W.fnOf "__getitem__" "Tolls.__getitem__" (defArgs s_Tolls_getitem) (defBody s_Tolls_getitem) (defScope s_Tolls_getitem) .none kVG dcG pmG anG cdG ctG), slG⟩) (cG : PySem.W.codeIn K cdG "Tolls.__getitem__" = true) (kG : PySem.W.keepIn K (.ref fG) = true)
    (aI : PySem.W.findIn K (.ref C) "__init__" = some (some (.ref fI))) (iI : PySem.W.isFn K (.ref fI) = true) (lI : K.lookup fI = some ⟨ocI, odI, .func (PySem.W.fnOf "__init__" "Links.__init__" (defArgs s_Links_init) (defBody s_Links_init) (defScope s_Links_init) (.ref TI) kVI dcI pmI anI cdI ctI), slI⟩) (cI : PySem.W.codeIn K cdI "Links.__init__" = true) (kI : PySem.W.keepIn K (.ref fI) = true)
    (aN : PySem.W.findIn K (.ref C) "__len__" = some (some (.ref fN))) (iN : PySem.W.isFn K (.ref fN) = true) (lN : K.lookup fN = some ⟨ocN, odN, .func (PySem.W.fnOf "__len__" "Links.__len__" (defArgs s_Links_len) (defBody s_Links_len) (defScope s_Links_len) .none kVN dcN pmN anN cdN ctN), slN⟩) (cN : PySem.W.codeIn K cdN "Links.__len__" = true) (kN : PySem.W.keepIn K (.ref fN) = true)
    (aY : PySem.W.findIn K (.ref C) "__iter__" = some (some (.ref fY))) (iY : PySem.W.isFn K (.ref fY) = true) (lY : K.lookup fY = some ⟨ocY, odY, .func (PySem.W.fnOf "__iter__" "Links.__iter__" (defArgs s_Links_iter) (defBody s_Links_iter) (defScope s_Links_iter) .none kVY dcY pmY anY cdY ctY), slY⟩) (cY : PySem.W.codeIn K cdY "Links.__iter__" = true) (kY : PySem.W.keepIn K (.ref fY) = true)
    (aQ : PySem.W.findIn K (.ref C) "__eq__" = some (some (.ref fQ))) (iQ : PySem.W.isFn K (.ref fQ) = true) (lQ : K.lookup fQ = some ⟨ocQ, odQ, .func (PySem.W.fnOf "__eq__" "Links.__eq__" (defArgs s_Links_eq) (defBody s_Links_eq) (defScope s_Links_eq) .none kVQ dcQ pmQ anQ cdQ ctQ), slQ⟩) (cQ : PySem.W.codeIn K cdQ "Links.__eq__" = true) (kQ : PySem.W.keepIn K (.ref fQ) = true)
    (aV : PySem.W.findIn K (.ref C) "tolls" = some (some (.ref fV))) (iV : PySem.W.isFn K (.ref fV) = true) (lV : K.lookup fV = some ⟨ocV, odV, .func (PySem.W.fnOf "tolls" "Links.tolls" (defArgs s_Links_tolls) (defBody s_Links_tolls) (defScope s_Links_tolls) .none kVV dcV pmV anV cdV ctV), slV⟩) (cV : PySem.W.codeIn K cdV "Links.tolls" = true) (kV : PySem.W.keepIn K (.ref fV) = true)
    (aR : PySem.W.findIn K (.ref C) "raised" = some (some (.ref fR))) (iR : PySem.W.isFn K (.ref fR) = true) (lR : K.lookup fR = some ⟨ocR, odR, .func (PySem.W.fnOf "raised" "Links.raised" (defArgs s_Links_raised) (defBody s_Links_raised) (defScope s_Links_raised) .none kVR dcR pmR anR cdR ctR), slR⟩) (cR : PySem.W.codeIn K cdR "Links.raised" = true) (kR : PySem.W.keepIn K (.ref fR) = true)
    (aW : PySem.W.findIn K (.ref C) "without" = some (some (.ref fW))) (iW : PySem.W.isFn K (.ref fW) = true) (lW : K.lookup fW = some ⟨ocW, odW, .func (PySem.W.fnOf "without" "Links.without" (defArgs s_Links_without) (defBody s_Links_without) (defScope s_Links_without) .none kVW dcW pmW anW cdW ctW), slW⟩) (cW : PySem.W.codeIn K cdW "Links.without" = true) (kW : PySem.W.keepIn K (.ref fW) = true)
    (pg : PySem.W.plainGet K C Str.empty = true) (hd : PySem.W.hasDictIn K C = true) (po : PySem.W.plainOver K C = true) (sa : PySem.W.findIn K (.ref C) "__setattr__" = some (some (.builtin "object.__setattr__"))) (mk : PySem.W.makesIn K C = true) (kc : PySem.W.keepIn K (.ref C) = true) (nA0 : PySem.W.findIn K (.ref C) "names" = some none) (nA1 : PySem.W.findIn K (.ref C) "links" = some none)
    (pgT : PySem.W.plainGet K CT Str.empty = true) (hdT : PySem.W.hasDictIn K CT = true) (poT : PySem.W.plainOver K CT = true) (saT : PySem.W.findIn K (.ref CT) "__setattr__" = some (some (.builtin "object.__setattr__"))) (mkT : PySem.W.makesIn K CT = true) (kcT : PySem.W.keepIn K (.ref CT) = true) (nA0T : PySem.W.findIn K (.ref CT) "names" = some none) (nA1T : PySem.W.findIn K (.ref CT) "_prices" = some none)
    (lTP : K.lookup TP = some ⟨ocTP, odTP, .seq (List.toArray [Value.ref EP]) nTP, slTP⟩) (lTI : K.lookup TI = some ⟨ocD, odD, .seq (List.toArray [Value.ref EI]) nD, slD⟩) (lEI : K.lookup EI = some ⟨.type "tuple", odEm, .seq (List.toArray []) nX, slEm⟩)
    (lDN : K.lookup DN = some ⟨ocN2, odN2, .seq (List.toArray [Value.bool false]) nN, slN2⟩) (cfG : PySem.W.fnIn K fG = true)
    (hcl : PySem.W.findIn K (.ref C) "__class__" = some (some (.builtin "object.__class__"))) (hgt : PySem.W.specialIn K (.builtin "object.__class__") "__get__" = some (some (.builtin "getset_descriptor.__get__")))
    (htk : PySem.W.takesIn K (.builtin "object.__class__") = some true) (hmr : PySem.W.mroIn K C (.type "object") = some true)
    (isC : PySem.W.isClsIn K C = true) (tyC : PySem.W.typeIn K (.ref C) = some (.type "type")) (nfN : PySem.W.notFirst K C (.type "NoneType") = true) (nfS : PySem.W.notFirst K C (.type "str") = true) (nfI : PySem.W.notFirst K C (.type "int") = true) (nfB : PySem.W.notFirst K C (.type "bool") = true) (nfL : PySem.W.notFirst K C (.type "list") = true) (nfT : PySem.W.notFirst K C (.type "tuple") = true) :
    ∃ fd : FuncData, (∀ (s : Shared) (v : Value), BindsTo s fd ⟨[v], []⟩ [("_law_script", v)]) ∧ ∀ base : Heap, K.In base → base.Ns mainGlobals mg → FnOk l.prog w K mg base CX0 8 fa fd ["_law_script"] (spLaw K) := by
  have e := hfa.symm.trans (PySem.W.mg_of X G a30)
  cases e
  have m_len := PySem.W.mg_none_of X G z_len
  have m_all := PySem.W.mg_none_of X G z_all
  have m_enumerate := PySem.W.mg_none_of X G z_enumerate
  have m_tuple := PySem.W.mg_none_of X G z_tuple
  have m_list := PySem.W.mg_none_of X G z_list
  have m_range := PySem.W.mg_none_of X G z_range
  have m_abs := PySem.W.mg_none_of X G z_abs
  have m_int := PySem.W.mg_none_of X G z_int
  have m_min := PySem.W.mg_none_of X G z_min
  have m_isinstance := PySem.W.mg_none_of X G z_isinstance
  have m_bool := PySem.W.mg_none_of X G z_bool
  have m_str := PySem.W.mg_none_of X G z_str
  have m_iter := PySem.W.mg_none_of X G z_iter
  have m_zip := PySem.W.mg_none_of X G z_zip
  have F0 := fun_mk (st := s_wall) l0 c0 k0
  have b0 := F0.binds (ps := ["k"]) fun _ _ _ _ _ _ us hl => match us, hl with | [_], _ => rfl
  have g0 := PySem.W.mg_of X G a0
  have F1 := fun_mk (st := s_is_name) l1 c1 k1
  have b1 := F1.binds (ps := ["word"]) fun _ _ _ _ _ _ us hl => match us, hl with | [_], _ => rfl
  have g1 := PySem.W.mg_of X G a1
  have F2 := fun_mk (st := s_check_size) l2 c2 k2
  have b2 := F2.binds (ps := ["size", "low", "high"]) fun _ _ _ _ _ _ us hl => match us, hl with | [_, _, _], _ => rfl
  have g2 := PySem.W.mg_of X G a2
  have F3 := fun_mk (st := s_check_range) l3 c3 k3
  have b3 := F3.binds (ps := ["number", "low", "high"]) fun _ _ _ _ _ _ us hl => match us, hl with | [_, _, _], _ => rfl
  have g3 := PySem.W.mg_of X G a3
  have F4 : FunD K "check_names" "check_names" (defArgs s_check_names) (defBody s_check_names) (defScope s_check_names) [V.bl false] [] f4 _ := ⟨⟨oc4, od4, .ref DN, kV4, dc4, pm4, an4, cd4, ct4, sl4, rfl, l4, c4, .inr ⟨by simp, DN, _, [Value.bool false], nN, rfl, lDN, rfl, .cons rfl .nil⟩, .inl rfl⟩, k4⟩
  have g4 := PySem.W.mg_of X G a4
  have F5 := fun_mk (st := s_check_known) l5 c5 k5
  have b5 := F5.binds (ps := ["names", "known"]) fun _ _ _ _ _ _ us hl => match us, hl with | [_, _], _ => rfl
  have g5 := PySem.W.mg_of X G a5
  have F6 := fun_mk (st := s_plus) l6 c6 k6
  have b6 := F6.binds (ps := ["price", "other"]) fun _ _ _ _ _ _ us hl => match us, hl with | [_, _], _ => rfl
  have g6 := PySem.W.mg_of X G a6
  have F7 := fun_mk (st := s_least) l7 c7 k7
  have b7 := F7.binds (ps := ["prices"]) fun _ _ _ _ _ _ us hl => match us, hl with | [_], _ => rfl
  have g7 := PySem.W.mg_of X G a7
  have F8 := fun_mk (st := s_check_entries) l8 c8 k8
  have b8 := F8.binds (ps := ["names", "entries"]) fun _ _ _ _ _ _ us hl => match us, hl with | [_, _], _ => rfl
  have g8 := PySem.W.mg_of X G a8
  have F9 := fun_mk (st := s_least_tolls) l9 c9 k9
  have b9 := F9.binds (ps := ["entries"]) fun _ _ _ _ _ _ us hl => match us, hl with | [_], _ => rfl
  have g9 := PySem.W.mg_of X G a9
  have F10 := fun_mk (st := s_check_links) l10 c10 k10
  have b10 := F10.binds (ps := ["names", "links"]) fun _ _ _ _ _ _ us hl => match us, hl with | [_, _], _ => rfl
  have g10 := PySem.W.mg_of X G a10
  have F11 := fun_mk (st := s_check_numbers) l11 c11 k11
  have b11 := F11.binds (ps := ["links", "numbers"]) fun _ _ _ _ _ _ us hl => match us, hl with | [_, _], _ => rfl
  have g11 := PySem.W.mg_of X G a11
  have F12 := fun_mk (st := s_L_cell) l12 c12 k12
  have b12 := F12.binds (ps := ["_law_script", "_law_k"]) fun _ _ _ _ _ _ us hl => match us, hl with | [_, _], _ => rfl
  have g12 := PySem.W.mg_of X G a12
  have F13 := fun_mk (st := s_L_mixed) l13 c13 k13
  have b13 := F13.binds (ps := ["_law_cell_here", "_law_k"]) fun _ _ _ _ _ _ us hl => match us, hl with | [_, _], _ => rfl
  have g13 := PySem.W.mg_of X G a13
  have F14 := fun_mk (st := s_L_pool) l14 c14 k14
  have b14 := F14.binds (ps := ["_law_cell_here", "_law_number"]) fun _ _ _ _ _ _ us hl => match us, hl with | [_, _], _ => rfl
  have g14 := PySem.W.mg_of X G a14
  have F15 := fun_mk (st := s_L_part) l15 c15 k15
  have b15 := F15.binds (ps := ["_law_pool_here", "_law_spot", "_law_under", "_law_size"]) fun _ _ _ _ _ _ us hl => match us, hl with | [_, _, _, _], _ => rfl
  have g15 := PySem.W.mg_of X G a15
  have F16 := fun_mk (st := s_L_names) l16 c16 k16
  have b16 := F16.binds (ps := ["_law_pool_here", "_law_spot", "_law_number"]) fun _ _ _ _ _ _ us hl => match us, hl with | [_, _, _], _ => rfl
  have g16 := PySem.W.mg_of X G a16
  have F17 := fun_mk (st := s_L_strange) l17 c17 k17
  have b17 := F17.binds (ps := ["_law_words_here"]) fun _ _ _ _ _ _ us hl => match us, hl with | [_], _ => rfl
  have g17 := PySem.W.mg_of X G a17
  have F18 := fun_mk (st := s_L_words) l18 c18 k18
  have b18 := F18.binds (ps := ["_law_cell_here", "_law_number"]) fun _ _ _ _ _ _ us hl => match us, hl with | [_, _], _ => rfl
  have g18 := PySem.W.mg_of X G a18
  have F19 := fun_mk (st := s_L_big) l19 c19 k19
  have b19 := F19.binds (ps := ["_law_pool_here", "_law_spot", "_law_least", "_law_crest"]) fun _ _ _ _ _ _ us hl => match us, hl with | [_, _, _, _], _ => rfl
  have g19 := PySem.W.mg_of X G a19
  have F20 := fun_mk (st := s_L_links) l20 c20 k20
  have b20 := F20.binds (ps := ["_law_pool_here", "_law_spot", "_law_words_here", "_law_number"]) fun _ _ _ _ _ _ us hl => match us, hl with | [_, _, _, _], _ => rfl
  have g20 := PySem.W.mg_of X G a20
  have F21 := fun_mk (st := s_L_ties) l21 c21 k21
  have b21 := F21.binds (ps := ["_law_cell_here", "_law_words_here"]) fun _ _ _ _ _ _ us hl => match us, hl with | [_, _], _ => rfl
  have g21 := PySem.W.mg_of X G a21
  have F22 := fun_mk (st := s_L_integer) l22 c22 k22
  have b22 := F22.binds (ps := ["_law_got"]) fun _ _ _ _ _ _ us hl => match us, hl with | [_], _ => rfl
  have g22 := PySem.W.mg_of X G a22
  have F23 := fun_mk (st := s_L_same) l23 c23 k23
  have b23 := F23.binds (ps := ["_law_got", "_law_wanted"]) fun _ _ _ _ _ _ us hl => match us, hl with | [_, _], _ => rfl
  have g23 := PySem.W.mg_of X G a23
  have F24 := fun_mk (st := s_L_least_of) l24 c24 k24
  have b24 := F24.binds (ps := ["_law_loads", "_law_one", "_law_two"]) fun _ _ _ _ _ _ us hl => match us, hl with | [_, _, _], _ => rfl
  have g24 := PySem.W.mg_of X G a24
  have F25 := fun_mk (st := s_L_rows) l25 c25 k25
  have b25 := F25.binds (ps := ["_law_words_here", "_law_loads"]) fun _ _ _ _ _ _ us hl => match us, hl with | [_, _], _ => rfl
  have g25 := PySem.W.mg_of X G a25
  have F26 := fun_mk (st := s_L_lifts) l26 c26 k26
  have b26 := F26.binds (ps := ["_law_pool_here", "_law_ties_here"]) fun _ _ _ _ _ _ us hl => match us, hl with | [_, _], _ => rfl
  have g26 := PySem.W.mg_of X G a26
  have F27 := fun_mk (st := s_L_holds) l27 c27 k27
  have b27 := F27.binds (ps := ["_law_made", "_law_words_here", "_law_ties_here"]) fun _ _ _ _ _ _ us hl => match us, hl with | [_, _, _], _ => rfl
  have g27 := PySem.W.mg_of X G a27
  have F28 := fun_mk (st := s_L_without) l28 c28 k28
  have b28 := F28.binds (ps := ["_law_made", "_law_out"]) fun _ _ _ _ _ _ us hl => match us, hl with | [_, _], _ => rfl
  have g28 := PySem.W.mg_of X G a28
  have F29 := fun_mk (st := s_L_alike) l29 c29 k29
  have b29 := F29.binds (ps := ["_law_made", "_law_words_here", "_law_ties_here", "_law_number"]) fun _ _ _ _ _ _ us hl => match us, hl with | [_, _, _, _], _ => rfl
  have g29 := PySem.W.mg_of X G a29
  have F30 := fun_mk (st := s_law) l30 c30 k30
  have b30 := F30.binds (ps := ["_law_script"]) fun _ _ _ _ _ _ us hl => match us, hl with | [_], _ => rfl
  have g30 := PySem.W.mg_of X G a30
  have gLET := PySem.W.mg_of X G aL
  refine ⟨PySem.W.fnOf "law" "law" (defArgs s_law) (defBody s_law) (defScope s_law) .none kV30 dc30 pm30 an30 cd30 ct30, fun s v => .of_eq rfl, fun base _ _ => ?_⟩
  have gML := PySem.W.mg_of X G aML
  have gMT := PySem.W.mg_of X G aMT
  have TL : TxtL K C := ⟨⟨pg, hd, po, sa⟩, nA0, nA1⟩
  have TT : TxtT K CT := ⟨⟨pgT, hdT, poT, saT⟩, nA0T, nA1T⟩
  have FP : FunD K "__init__" "Tolls.__init__" (defArgs s_Tolls_init) (defBody s_Tolls_init) (defScope s_Tolls_init) [V.ref EP] [] fP _ := ⟨⟨ocP, odP, .ref TP, kVP, dcP, pmP, anP, cdP, ctP, slP, rfl, lP, cP, .inr ⟨by simp, TP, _, [Value.ref EP], nTP, rfl, lTP, rfl, .cons rfl .nil⟩, .inl rfl⟩, kP⟩
  obtain ⟨dsP, vdP, bP⟩ := FP.binds1 (ps := ["self", "names", "entries"]) 3 1 (by simp) rfl fun _ _ _ _ _ _ _ us its h1 h2 => match us, h1, its, h2 with | [_, _, _], _, [_], _ => ⟨_, rfl, rfl⟩
  cases (show Vals [] dsP from vdP)
  have FI : FunD K "__init__" "Links.__init__" (defArgs s_Links_init) (defBody s_Links_init) (defScope s_Links_init) [V.ref EI] [] fI _ := ⟨⟨ocI, odI, .ref TI, kVI, dcI, pmI, anI, cdI, ctI, slI, rfl, lI, cI, .inr ⟨by simp, TI, _, [Value.ref EI], nD, rfl, lTI, rfl, .cons rfl .nil⟩, .inl rfl⟩, kI⟩
  obtain ⟨dsI, vdI, bI⟩ := FI.binds1 (ps := ["self", "names", "links"]) 3 1 (by simp) rfl fun _ _ _ _ _ _ _ us its h1 h2 => match us, h1, its, h2 with | [_, _, _], _, [_], _ => ⟨_, rfl, rfl⟩
  cases (show Vals [] dsI from vdI)
  obtain ⟨dsB, vB, bB⟩ := FI.binds1 (ps := ["self", "names", "links"]) 2 0 (by simp) rfl fun _ _ _ _ _ _ _ us its h1 h2 => match us, h1, its, h2 with | [_, _], _, [_], _ => ⟨_, rfl, rfl⟩
  have kbI := links_kb FI
  have eB : ∀ H : Hp, SqT K H EI [] := fun H => .inr ⟨_, List.toArray [], nX, lEI, rfl, rfl, by decide, .nil⟩
  have M : Mk K C fI := ⟨mk, aI, iI, kc⟩
  have MT : Mk K CT fP := ⟨mkT, aP, iP, kcT⟩
  have FG := fun_mk (st := s_Tolls_getitem) lG cG kG
  have bG := FG.binds (ps := ["self", "at"]) fun _ _ _ _ _ _ us hl => match us, hl with | [_, _], _ => rfl
  have FN := fun_mk (st := s_Links_len) lN cN kN
  have bN := FN.binds (ps := ["self"]) fun _ _ _ _ _ _ us hl => match us, hl with | [_], _ => rfl
  have FY := fun_mk (st := s_Links_iter) lY cY kY
  have bY := FY.binds (ps := ["self"]) fun _ _ _ _ _ _ us hl => match us, hl with | [_], _ => rfl
  have FQ := fun_mk (st := s_Links_eq) lQ cQ kQ
  have bQ := FQ.binds (ps := ["self", "other"]) fun _ _ _ _ _ _ us hl => match us, hl with | [_, _], _ => rfl
  have FV := fun_mk (st := s_Links_tolls) lV cV kV
  have bV := FV.binds (ps := ["self"]) fun _ _ _ _ _ _ us hl => match us, hl with | [_], _ => rfl
  have FR := fun_mk (st := s_Links_raised) lR cR kR
  have bR := FR.binds (ps := ["self", "raises"]) fun _ _ _ _ _ _ us hl => match us, hl with | [_, _], _ => rfl
  have FW := fun_mk (st := s_Links_without) lW cW kW
  have kbR := fun_kb (ps := ["self", "raises"]) FR 1 ["raises"] fun _ _ _ _ _ _ us ws h1 h2 => match us, h1, ws, h2 with | [_], _, [_], _ => rfl
  have Og : Own K CT "__getitem__" fG := ⟨aG, iG⟩
  have On : Own K C "__len__" fN := ⟨aN, iN⟩
  have Oy : Own K C "__iter__" fY := ⟨aY, iY⟩
  have Oq : Own K C "__eq__" fQ := ⟨aQ, iQ⟩
  have Mev : Meth K C "tolls" fV := ⟨aV, iV, kV⟩
  have Mer : Meth K C "raised" fR := ⟨aR, iR, kR⟩
  have Mew : Meth K C "without" fW := ⟨aW, iW, kW⟩
  have OT : OddT K C := ⟨nfN, nfS, nfI, nfB, nfL, nfT, kit_off isC tyC nfN, kit_off isC tyC nfS, kit_off isC tyC nfI, kit_off isC tyC nfB, kit_off isC tyC nfL, kit_off isC tyC nfT⟩

  have d_is_name : Def l.prog w K mg base "is_name" 1 ["word"] spIsNameH := ⟨_, _, ok_is_nameH F1 m_len m_all gLET, g1, k1, b1⟩
  have d_check_size : Def l.prog w K mg base "check_size" 1 ["size", "low", "high"] (spRange) := ⟨_, _, ok_check_size F2 , g2, k2, b2⟩
  have d_check_range : Def l.prog w K mg base "check_range" 1 ["number", "low", "high"] (spRange) := ⟨_, _, ok_check_range F3 , g3, k3, b3⟩
  obtain ⟨dsN, vdN, bdN⟩ := F4.binds1 (ps := ["names", "most", "hook"]) 3 1 (by simp) rfl fun _ _ _ _ _ _ _ us its h1 h2 => match us, h1, its, h2 with | [_, _, _], _, [_], _ => ⟨_, rfl, rfl⟩
  have d_check_namesH : DefD l.prog w K mg base "check_names" 2 ["names", "most", "hook"] (spCheckH K) [] := ⟨_, _, dsN, ok_check_namesH F4 m_len m_enumerate d_check_size d_is_name, g4, k4, bdN, vdN⟩
  obtain ⟨dsN2, vdN2, bdN2⟩ := F4.binds1 (ps := ["names", "most", "hook"]) 2 0 (by simp) rfl fun _ _ _ _ _ _ _ us its h1 h2 => match us, h1, its, h2 with | [_, _], _, [_], _ => ⟨_, rfl, rfl⟩
  have d_check_names : DefD l.prog w K mg base "check_names" 2 ["names", "most", "hook"] (spCheckN K) [.bl false] := ⟨_, _, dsN2, ok_check_namesN F4 m_len m_enumerate d_check_size d_is_name, g4, k4, bdN2, vdN2⟩
  have d_check_known : Def l.prog w K mg base "check_known" 1 ["names", "known"] (spKnown K) := ⟨_, _, ok_check_known F5 , g5, k5, b5⟩


  have d_check_entries : Def l.prog w K mg base "_check_entries" 2 ["names", "entries"] (spCheckE K) := ⟨_, _, ok_check_entries F8 d_check_known, g8, k8, b8⟩
  have d_least_tolls : Def l.prog w K mg base "_least_tolls" 1 ["entries"] (spLeastT K) := ⟨_, _, ok_least_tolls F9 , g9, k9, b9⟩
  have d_check_links : Def l.prog w K mg base "_check_links" 2 ["names", "links"] (spCheckL K) := ⟨_, _, ok_check_links F10 m_len gML gMT d_check_size d_check_range d_check_known, g10, k10, b10⟩
  have G_len := ok_Links_len (P := l.prog) (w := w) (mg := mg) (base := base) FN TL m_len
  have d_check_numbers : Def l.prog w K mg base "check_numbers" 4 ["links", "numbers"] (spCheckNum K C) := ⟨_, _, ok_check_numbers F11 m_len On G_len bN, g11, k11, b11⟩
  have d_L_cell : Def l.prog w K mg base "_law_cell" 1 ["_law_script", "_law_k"] (spCellA K) := ⟨_, _, ok_L_cell F12 m_len m_range m_abs, g12, k12, b12⟩
  have d_L_mixed : Def l.prog w K mg base "_law_mixed" 1 ["_law_cell_here", "_law_k"] (spMixed) := ⟨_, _, ok_L_mixed F13 m_abs, g13, k13, b13⟩
  have d_L_pool : Def l.prog w K mg base "_law_pool" 2 ["_law_cell_here", "_law_number"] (spPool) := ⟨_, _, ok_L_pool F14 m_range m_abs d_L_mixed, g14, k14, b14⟩
  have d_L_part : Def l.prog w K mg base "_law_part" 1 ["_law_pool_here", "_law_spot", "_law_under", "_law_size"] (spPart K) := ⟨_, _, ok_L_part F15 m_int, g15, k15, b15⟩
  have d_L_names : Def l.prog w K mg base "_law_names" 2 ["_law_pool_here", "_law_spot", "_law_number"] (spNames K) := ⟨_, _, ok_L_names F16 m_range m_int d_L_part, g16, k16, b16⟩
  have d_L_strange : Def l.prog w K mg base "_law_strange" 1 ["_law_words_here"] (spStrange K) := ⟨_, _, ok_L_strange F17 , g17, k17, b17⟩
  have d_L_words : Def l.prog w K mg base "_law_words" 3 ["_law_cell_here", "_law_number"] (spWords) := ⟨_, _, ok_L_words F18 m_range m_abs d_L_names d_L_pool d_L_strange, g18, k18, b18⟩
  have d_L_big : Def l.prog w K mg base "_law_big" 1 ["_law_pool_here", "_law_spot", "_law_least", "_law_crest"] (spBig K) := ⟨_, _, ok_L_big F19 m_int, g19, k19, b19⟩
  have d_L_links : Def l.prog w K mg base "_law_links" 2 ["_law_pool_here", "_law_spot", "_law_words_here", "_law_number"] (spLinks K) := ⟨_, _, ok_L_links F20 m_len m_range d_L_part, g20, k20, b20⟩
  have d_L_ties : Def l.prog w K mg base "_law_ties" 1 ["_law_cell_here", "_law_words_here"] (spTies K) := ⟨_, _, ok_L_ties F21 m_len m_range m_abs, g21, k21, b21⟩
  have d_L_integer : Def l.prog w K mg base "_law_integer" 1 ["_law_got"] (spInteger) := ⟨_, _, ok_L_integer F22 m_isinstance m_int m_bool, g22, k22, b22⟩
  have d_L_same : Def l.prog w K mg base "_law_same" 4 ["_law_got", "_law_wanted"] (spSame 2) := ⟨_, _, ok_L_same F23 g23 b23 ⟨m_isinstance, m_int, m_bool, m_str, m_tuple, m_list, m_len, m_range⟩ d_L_integer 2 (by decide), g23, k23, b23⟩
  have d_L_same3 : Def l.prog w K mg base "_law_same" 5 ["_law_got", "_law_wanted"] (spSame 3) := ⟨_, _, ok_L_same F23 g23 b23 ⟨m_isinstance, m_int, m_bool, m_str, m_tuple, m_list, m_len, m_range⟩ d_L_integer 3 (by decide), g23, k23, b23⟩
  have d_L_least_of : Def l.prog w K mg base "_law_least_of" 1 ["_law_loads", "_law_one", "_law_two"] (spLeastOf K) := ⟨_, _, ok_L_least_of F24 m_min, g24, k24, b24⟩
  have d_L_rows : Def l.prog w K mg base "_law_rows" 2 ["_law_words_here", "_law_loads"] (spRows K) := ⟨_, _, ok_L_rows F25 d_L_least_of, g25, k25, b25⟩
  have d_L_lifts : Def l.prog w K mg base "_law_lifts" 2 ["_law_pool_here", "_law_ties_here"] (spLifts K) := ⟨_, _, ok_L_lifts F26 m_len m_range m_min d_L_part d_L_big, g26, k26, b26⟩
  have G_getitem := ok_Tolls_getitem (P := l.prog) (w := w) (mg := mg) (base := base) FG TT d_check_known
  have G_Tolls := ok_Tolls (P := l.prog) (w := w) (mg := mg) (base := base) FP TT m_tuple d_check_namesH d_check_entries d_least_tolls
  have G_Links := ok_Links (P := l.prog) (w := w) (mg := mg) (base := base) FI TL m_tuple d_check_names d_check_links
  have I_Links := ok_Links_iter (P := l.prog) (w := w) (mg := mg) (base := base) FY bY TL m_iter
  have G_eq := ok_Links_eq (P := l.prog) (w := w) (mg := mg) (base := base) FQ TL m_isinstance (PySem.W.mg_of X G aC) hcl hgt htk hmr
  have G_tolls := ok_Links_tolls (P := l.prog) (w := w) (mg := mg) (base := base) FV TL MT G_Tolls (PySem.W.mg_of X G aT) bP
  have G_raised := ok_Links_raised (P := l.prog) (w := w) (mg := mg) (base := base) FR TL m_len m_zip M G_Links (PySem.W.mg_of X G aC) bI
  have G_without := ok_Links_without (P := l.prog) (w := w) (mg := mg) (base := base) FW TL m_enumerate M G_Links (PySem.W.mg_of X G aC) bI d_check_numbers
  have d_L_holds : Def l.prog w K mg base "_law_holds" 6 ["_law_made", "_law_words_here", "_law_ties_here"] (spHolds C) := ⟨_, _, ok_L_holds F27 TL TT m_tuple m_list m_len m_range d_L_same d_L_rows Og cfG G_getitem bG On G_len bN Oy I_Links Mev G_tolls bV, g27, k27, b27⟩
  have d_L_without : Def l.prog w K mg base "_law_without" 7 ["_law_made", "_law_out"] (spLwo K C) := ⟨_, _, ok_L_without F28 TL m_len Mew G_without, g28, k28, b28⟩
  have d_L_alike : Def l.prog w K mg base "_law_alike" 7 ["_law_made", "_law_words_here", "_law_ties_here", "_law_number"] (spAlike C) := ⟨_, _, ok_L_alike F29 TL OT m_list m_tuple m_len m_int m_abs M G_Links (PySem.W.mg_of X G aC) bI kbI Oq G_eq bQ Mew G_without d_L_same, g29, k29, b29⟩
  exact ok_law F30 TL m_range m_list m_tuple m_len M G_Links (PySem.W.mg_of X G aC) bI bB vB eB Mer G_raised bR kbR d_L_cell d_L_pool d_L_part d_L_words d_L_links d_L_ties d_L_lifts d_L_strange d_L_holds d_L_without d_L_alike d_L_same3
end TK

open PySem PySem.W PyProof.Rows
set_option maxRecDepth 100000 in
set_option maxHeartbeats 0 in
theorem PySem.Challenge.cw_turnsandkeys_k05_links_kept_holds : PySem.Challenge.rw_turnsandkeys_k05_links_kept.Holds := by
  w_on; o_law; k_head; (case hw => w_witness2)
  k_fill
  refine L2.walk_of (l := PySem.Challenge.rw_turnsandkeys_k05_links_kept) (n := 63) (k := 8) (x := "_law_script") (CX := fun _ => L2.CX0) (sp := fun w => TK.spLaw _) rfl (by decide) rfl ⟨rfl, by decide, by decide⟩ (fun w h Y => PySem.W.kIn_of Y) ?F (fun _ _ a ns hl _ hS => ⟨a, ns, rfl, hS, hl, fun _ => rfl⟩) (fun _ _ _ _ _ h => h)
  case F =>
    intro w mg fa h KX G hmg
    refine' TK.all_mk KX G hmg ?a0 ?l0 ?c0 ?k0 ?a1 ?l1 ?c1 ?k1 ?a2 ?l2 ?c2 ?k2 ?a3 ?l3 ?c3 ?k3 ?a4 ?l4 ?c4 ?k4 ?a5 ?l5 ?c5 ?k5 ?a6 ?l6 ?c6 ?k6 ?a7 ?l7 ?c7 ?k7 ?a8 ?l8 ?c8 ?k8 ?a9 ?l9 ?c9 ?k9 ?a10 ?l10 ?c10 ?k10 ?a11 ?l11 ?c11 ?k11 ?a12 ?l12 ?c12 ?k12 ?a13 ?l13 ?c13 ?k13 ?a14 ?l14 ?c14 ?k14 ?a15 ?l15 ?c15 ?k15 ?a16 ?l16 ?c16 ?k16 ?a17 ?l17 ?c17 ?k17 ?a18 ?l18 ?c18 ?k18 ?a19 ?l19 ?c19 ?k19 ?a20 ?l20 ?c20 ?k20 ?a21 ?l21 ?c21 ?k21 ?a22 ?l22 ?c22 ?k22 ?a23 ?l23 ?c23 ?k23 ?a24 ?l24 ?c24 ?k24 ?a25 ?l25 ?c25 ?k25 ?a26 ?l26 ?c26 ?k26 ?a27 ?l27 ?c27 ?k27 ?a28 ?l28 ?c28 ?k28 ?a29 ?l29 ?c29 ?k29 ?a30 ?l30 ?c30 ?k30 ?aL ?z_len ?z_all ?z_enumerate ?z_tuple ?z_list ?z_range ?z_abs ?z_int ?z_min ?z_isinstance ?z_bool ?z_str ?z_iter ?z_zip ?aML ?aMT ?aC ?aT ?aP ?iP ?lP ?cP ?kP ?aG ?iG ?lG ?cG ?kG ?aI ?iI ?lI ?cI ?kI ?aN ?iN ?lN ?cN ?kN ?aY ?iY ?lY ?cY ?kY ?aQ ?iQ ?lQ ?cQ ?kQ ?aV ?iV ?lV ?cV ?kV ?aR ?iR ?lR ?cR ?kR ?aW ?iW ?lW ?cW ?kW ?pg ?hd ?po ?sa ?mk ?kc ?nA0 ?nA1 ?pgT ?hdT ?poT ?saT ?mkT ?kcT ?nA0T ?nA1T ?lTP ?lTI ?lEI ?lDN ?cfG ?hcl ?hgt ?htk ?hmr ?isC ?tyC ?nfN ?nfS ?nfI ?nfB ?nfL ?nfT
    (case a0 => k_is); (case l0 => k_is); (case c0 => k_is); (case k0 => k_is); (case a1 => k_is); (case l1 => k_is); (case c1 => k_is); (case k1 => k_is); (case a2 => k_is); (case l2 => k_is); (case c2 => k_is); (case k2 => k_is); (case a3 => k_is); (case l3 => k_is); (case c3 => k_is); (case k3 => k_is); (case a4 => k_is); (case l4 => k_is); (case c4 => k_is); (case k4 => k_is); (case a5 => k_is); (case l5 => k_is); (case c5 => k_is); (case k5 => k_is); (case a6 => k_is); (case l6 => k_is); (case c6 => k_is); (case k6 => k_is); (case a7 => k_is); (case l7 => k_is); (case c7 => k_is); (case k7 => k_is); (case a8 => k_is); (case l8 => k_is); (case c8 => k_is); (case k8 => k_is); (case a9 => k_is); (case l9 => k_is); (case c9 => k_is); (case k9 => k_is); (case a10 => k_is); (case l10 => k_is); (case c10 => k_is); (case k10 => k_is); (case a11 => k_is); (case l11 => k_is); (case c11 => k_is); (case k11 => k_is); (case a12 => k_is); (case l12 => k_is); (case c12 => k_is); (case k12 => k_is); (case a13 => k_is); (case l13 => k_is); (case c13 => k_is); (case k13 => k_is); (case a14 => k_is); (case l14 => k_is); (case c14 => k_is); (case k14 => k_is); (case a15 => k_is); (case l15 => k_is); (case c15 => k_is); (case k15 => k_is); (case a16 => k_is); (case l16 => k_is); (case c16 => k_is); (case k16 => k_is); (case a17 => k_is); (case l17 => k_is); (case c17 => k_is); (case k17 => k_is); (case a18 => k_is); (case l18 => k_is); (case c18 => k_is); (case k18 => k_is); (case a19 => k_is); (case l19 => k_is); (case c19 => k_is); (case k19 => k_is); (case a20 => k_is); (case l20 => k_is); (case c20 => k_is); (case k20 => k_is); (case a21 => k_is); (case l21 => k_is); (case c21 => k_is); (case k21 => k_is); (case a22 => k_is); (case l22 => k_is); (case c22 => k_is); (case k22 => k_is); (case a23 => k_is); (case l23 => k_is); (case c23 => k_is); (case k23 => k_is); (case a24 => k_is); (case l24 => k_is); (case c24 => k_is); (case k24 => k_is); (case a25 => k_is); (case l25 => k_is); (case c25 => k_is); (case k25 => k_is); (case a26 => k_is); (case l26 => k_is); (case c26 => k_is); (case k26 => k_is); (case a27 => k_is); (case l27 => k_is); (case c27 => k_is); (case k27 => k_is); (case a28 => k_is); (case l28 => k_is); (case c28 => k_is); (case k28 => k_is); (case a29 => k_is); (case l29 => k_is); (case c29 => k_is); (case k29 => k_is); (case a30 => k_is); (case l30 => k_is); (case c30 => k_is); (case k30 => k_is); (case aL => k_is); (case z_len => k_is); (case z_all => k_is); (case z_enumerate => k_is); (case z_tuple => k_is); (case z_list => k_is); (case z_range => k_is); (case z_abs => k_is); (case z_int => k_is); (case z_min => k_is); (case z_isinstance => k_is); (case z_bool => k_is); (case z_str => k_is); (case z_iter => k_is); (case z_zip => k_is); (case aML => k_is); (case aMT => k_is); (case aC => k_is); (case aT => k_is); (case aP => k_is); (case iP => k_is); (case lP => k_is); (case cP => k_is); (case kP => k_is); (case aG => k_is); (case iG => k_is); (case lG => k_is); (case cG => k_is); (case kG => k_is); (case aI => k_is); (case iI => k_is); (case lI => k_is); (case cI => k_is); (case kI => k_is); (case aN => k_is); (case iN => k_is); (case lN => k_is); (case cN => k_is); (case kN => k_is); (case aY => k_is); (case iY => k_is); (case lY => k_is); (case cY => k_is); (case kY => k_is); (case aQ => k_is); (case iQ => k_is); (case lQ => k_is); (case cQ => k_is); (case kQ => k_is); (case aV => k_is); (case iV => k_is); (case lV => k_is); (case cV => k_is); (case kV => k_is); (case aR => k_is); (case iR => k_is); (case lR => k_is); (case cR => k_is); (case kR => k_is); (case aW => k_is); (case iW => k_is); (case lW => k_is); (case cW => k_is); (case kW => k_is); (case pg => k_is); (case hd => k_is); (case po => k_is); (case sa => k_is); (case mk => k_is); (case kc => k_is); (case nA0 => k_is); (case nA1 => k_is); (case pgT => k_is); (case hdT => k_is); (case poT => k_is); (case saT => k_is); (case mkT => k_is); (case kcT => k_is); (case nA0T => k_is); (case nA1T => k_is); (case lTP => k_is); (case lTI => k_is); (case lEI => k_is); (case lDN => k_is); (case cfG => k_is); (case hcl => k_is); (case hgt => k_is); (case htk => k_is); (case hmr => k_is); (case isC => k_is); (case tyC => k_is); (case nfN => k_is); (case nfS => k_is); (case nfI => k_is); (case nfB => k_is); (case nfL => k_is); (case nfT => k_is)
