import PyProof.Rows.All
import Wide.All
import OpenK.AllK
import Wide.FinOn
import HandS.ForMost
import HandS.Style
import HandS.IsInst
import HandS.Defaults
import HandS.MakeKwOnly
import HandS.SortKw
import HandS.Walk
import KE.KSortKeySt
import KE.GoesEnum
import KE.DatumOrd
import KE.KRevSl
import HandS.Star
import KE.KTupSum
import KE.GoesMore
import KE.GoesZip
import HandS.DictComp
import HandS.RevRange
import HandS.Strs
import HandS.OwnEq
import HandS.SlotsOwn
import HandS.IterVal
import KE.KOwnIter
import KE.KOpsOwn
import KE.KEqDict
import HandS.ExcInit
import HandS.ExcSuper
import HandS.Nested
import KE.KSuper
import KE.KSuperObj
import KE.KExcSuper
import HandS.ExcField
import HandS.ExcOwn
import HandS.ExcIs
import KE.KTryMore
import HandS.Zip
import HandS.Gcd
import HandS.Conv
import HandS.Wide
import HandS.ClsMeth
import HandS.WordsExc
import PySem.Challenge.RW_turnsandkeys_k01_tolls_joined
set_option Elab.async false
set_option linter.all false
set_option maxRecDepth 100000
set_option maxHeartbeats 4000000
namespace TK
open PySem PySem.Spec PyProof.Rows L2
/-! ### a def that keeps its promise, as callers see it -/
structure Def (P : Program) (w : World) (K : PySem.W.Frag) (mg : Str → Option Value) (base : Heap) (x : Str) (k : Nat) (ps : List Str) (sp : Sp) : Prop where
  ex : ∃ (f : Addr) (fd : FuncData), FnOk P w K mg base CX0 k f fd ps sp ∧ mg x = some (.ref f) ∧ PySem.W.keepIn K (.ref f) = true ∧ Binds K fd ps []
section
variable {X : Cx} {x : Str} {k : Nat} {ps : List Str} {sp : Sp} {e : Expr} {es : List Expr} {t : TA} {p pos : Pos}
theorem pe_callD (D : Def X.prog X.w X.K X.mg X.base x k ps sp) (hr : Room k X.A) (hg : Gl X x) (ha : PA X (e :: es) t) (hdb : (x == ("__debug__" : Str)) = false := by decide)
    (he : starEach (e :: es) X.env = (false, eval e X.env) :: starEach es X.env := by rfl) (hpl : (backTo pos (starEach es X.env)).any (·.1) = false := by rfl) :
    PE X (.Call (.Name x p) (e :: es) [] pos) (tCall sp [] E0 t) := by
  obtain ⟨f, fd, F, g, kp, b⟩ := D.ex
  exact pe_call F hr hg g kp b .nil pass0 ha hdb he hpl
end
section
variable {X : Cx}
/-- x is True, x is False: x of any kind -/
def rIsT : R2 := fun x y H Q => ∃ b : Bool, y = .bl b ∧ Q (.bl (decide (x = .bl b))) H
theorem op_isT : OpR X (compareOp .Is) rIsT := by
  intro pins s σ H x y v u Q I rx ry h
  obtain ⟨b, rfl, q⟩ := h
  cases (show u = Value.bool b from ry)
  cases x with
  | bl a =>
    cases (show v = Value.bool a from rx)
    by_cases e : a = b
    · subst e
      exact wpAny_is_self rfl ⟨.bl true, H, I, rfl, by simpa using q⟩
    · exact wpAny_is_other rfl (fun z => e (Value.bool.inj z)) ⟨.bl false, H, I, rfl, by simpa [e] using q⟩
  | non => cases (show v = Value.none from rx); exact wpAny_is_other rfl (fun z => nomatch z) ⟨.bl false, H, I, rfl, by simpa using q⟩
  | int i => obtain ⟨t, rfl⟩ := (show ∃ t, v = Value.int i t from rx); exact wpAny_is_other rfl (fun z => nomatch z) ⟨.bl false, H, I, rfl, by simpa using q⟩
  | str i => obtain ⟨t, rfl⟩ := (show ∃ t, v = Value.str i t from rx); exact wpAny_is_other rfl (fun z => nomatch z) ⟨.bl false, H, I, rfl, by simpa using q⟩
  | byt i => obtain ⟨t, rfl⟩ := (show ∃ t, v = Value.bytes i t from rx); exact wpAny_is_other rfl (fun z => nomatch z) ⟨.bl false, H, I, rfl, by simpa using q⟩
  | flt i => obtain ⟨t, rfl⟩ := (show ∃ t, v = Value.float i t from rx); exact wpAny_is_other rfl (fun z => nomatch z) ⟨.bl false, H, I, rfl, by simpa using q⟩
  | ref a => cases (show v = Value.ref a from rx); exact wpAny_is_other rfl (fun z => nomatch z) ⟨.bl false, H, I, rfl, by simpa using q⟩
  | ty n => cases (show v = Value.type n from rx); exact wpAny_is_other rfl (fun z => nomatch z) ⟨.bl false, H, I, rfl, by simpa using q⟩
end
/-! ### rules within a comprehension: K by name -/
section
variable {X : Cx} {K : PySem.W.Frag}
theorem ix_listK (h : X.K = K) : IxR X (rIxL K) := h ▸ ix_list
theorem ix_tupK (h : X.K = K) : IxR X (rIxT K) := h ▸ ix_tup
theorem pg_tupK (h : X.K = K) {elts : List Expr} {kk : Nat} {pos : Pos} {n : Nat} {t : TGs} (hc : X.calm = true) (hp : PGs X elts t) (hn : (assignEach elts X.env).length = n := by rfl) (hst : (assignEach elts X.env).findIdx? (·.1) = none := by rfl) : PG X (.Tuple elts kk pos) (gTup K n t) := h ▸ pg_tup hc hp hn hst
theorem op_in_seqK (h : X.K = K) : OpR X (compareOp .In) (rIn K false) := h ▸ op_in_seq
theorem op_notIn_seqK (h : X.K = K) : OpR X (compareOp .NotIn) (rIn K true) := h ▸ op_notIn_seq
theorem call_len_seqK (h : X.K = K) : CallR X (.builtin "len") (fun xs H Q => ∃ p ys, xs = [.ref p] ∧ (SqL K H p ys ∨ SqT K H p ys) ∧ Q (.int ys.length) H) := h ▸ call_len_seq
end
/-! ### heaps -/
theorem same_upd {H : Hp} {p : Addr} {o : HO} (h : H p = none) : Same H (upd H p o) := fun b x e => by
  rw [upd_ne (ne_of_none e h)]
  exact e
theorem same_at {H H' : Hp} {p : Addr} {o : HO} (s : Same H H') (h : H p = none) : Same H (upd H' p o) := fun b x e => by
  rw [upd_ne (ne_of_none e h)]
  exact s b x e
theorem same_tup {K : PySem.W.Frag} {H H' : Hp} {a : Addr} {xs : List V} (e : Same H H') (h : SqT K H a xs) : SqT K H' a xs := by
  rcases h with (h | ⟨o, h⟩) | h
  · exact .inl (.inl (e _ _ h))
  · exact .inl (.inr ⟨o, e _ _ h⟩)
  · exact .inr h
theorem lstAt {K : PySem.W.Frag} {H : Hp} {a : Addr} {xs : List V} (h : H a = some (.lst xs)) : SqL K H a xs := .inl (.inl h)
theorem tupAt {K : PySem.W.Frag} {H : Hp} {a : Addr} {xs : List V} (h : H a = some (.tup xs)) : SqT K H a xs := .inl (.inl h)
theorem atI_in {α : Type} {xs : List α} {i : Int} {v : α} (h0 : 0 ≤ i) (h : xs[i.toNat]? = some v) : atI xs i = some v := by
  obtain ⟨n, rfl⟩ : ∃ n : Nat, i = (n : Int) := ⟨i.toNat, by omega⟩
  exact atI_nat h
theorem yesT {σ : L2.St} {H : Hp} {A B : Hp → Prop} (h : A H) : tYes σ H (fun b H3 => if b = true then A H3 else B H3) := by
  show if true = true then A H else B H
  rw [if_pos rfl]
  exact h
end TK

namespace TK
open PySem PySem.Spec PyProof.Rows L2
section
variable {X : Cx} {pins : List (Addr × Obj)} {σ : L2.St} {H : Hp} {s : Shared}
/-- an untracked object of ours comes to be tracked -/
theorem adopt {a : Addr} {o : HO} (I : Inv X pins σ H s) (f : FpOk X pins H a) (new : ObjOk X.prog X.w (upd H a o) s.heap a o) : Inv X pins σ (upd H a o) s := by
  obtain ⟨q0, q1, q2, q3, q4, q5⟩ := f
  have ne : ∀ b u, H b = some u → b ≠ a := fun b u e z => by rw [z, q0] at e; cases e
  refine I.step (h' := s.heap) (g' := s.gens) (t' := s.toks) (d' := s.drawn) (ch := [a]) (fun b hb => ?_) (fun b o _ _ _ e _ => e) (fun b o _ _ _ e _ => ⟨o.slots, e⟩) (fun b o hb _ n => ?_) (fun b o _ e => ⟨o, e⟩) (fun b xs e => ?_) (fun b o u e => ?_) (fun b ps e => ⟨#[], ?_⟩) (fun m hm => hm) (fun b u e => ?_) I.bare
  · have e : b = a := by simpa using hb
    subst e
    exact ⟨q3, q1, q4, q5⟩
  · rw [upd_ne (fun z => hb (by simp [z]))]; exact n
  · rw [upd_ne (ne b _ e)]; exact e
  · rw [upd_ne (ne b _ e)]; exact e
  · rw [upd_ne (ne b _ e), e]; simp
  · by_cases hb : b = a
    · subst hb
      rw [upd_same] at e
      cases e
      exact new
    · rw [upd_ne hb] at e
      exact (I.hok b u e).stay (fun c v _ q => q) (fun c q => by rw [upd_ne (ne c _ q)]; exact q) fun c xs q => by rw [upd_ne (ne c _ q)]; exact q
/-- a def called from within a built-in's method -/
theorem run_fn2 {k : Nat} {f : Addr} {fd : FuncData} {ps : List Str} {sp : Sp} {Q : VK} {us : List Value} {itm : List V} {E' : Value → Shared → Prop} (F : FnOk X.prog X.w X.K X.mg X.base CX0 k f fd ps sp) (hr : Room (k + 2) X.A) (hb : Binds X.K fd ps [])
    (I : Inv X pins σ H s) (r : Vals itm us) (h : sp itm H Q E0) : wpAny (model X.prog X.w) X.A.in1.in1 (call (.ref f) us) (EP X pins σ Q) E' s := by
  have hl : (us ++ []).length = ps.length := by rw [List.append_nil, ← r.length]; exact F.len _ _ _ _ h
  have hbb := hb s us I.kIn hl
  rw [List.append_nil] at hbb
  refine wpAny_call (codeAny_mono (F.run X.A.in1.in1 X.stack s H ⟨us, []⟩ us itm Q E0 hr.in1.in1 I.env0.in1.in1 hbb r h) fun r s' hq => ?_)
  cases r with
  | error e => exact False.elim hq
  | ok fl =>
    cases fl with
    | ret u => exact I.after hq
    | next => exact False.elim hq
    | brk => exact False.elim hq
    | cont => exact False.elim hq
end
section
variable {X : Cx} {pins : List (Addr × Obj)} {σ : L2.St} {H : Hp} {s : Shared} {A : Around} {E : Value → Shared → Prop} {a kS : Addr} {itm : List Value} {kl : List Int} {kar : Array Value} {e ep1 : Nat} {P : PySem.Fin → Shared → Prop}
theorem sb_tail {st : SortSt} (I : Inv X pins σ H s) (gk : s.heap.get? kS = some (seqObj "list" kar e)) (ga : s.heap.get? a = some (seqObj "list" #[] ep1)) (fa : FpOk X pins H a) (fk : FpOk X pins H kS) (hka : kS ≠ a)
    (hki : IntsAre kar.toList kl) (hle : kl.length = itm.length) (hsm : itm.length ≤ sizeLine) (hp : (arrOf st).Perm (kar.zip itm.toArray)) (hs : SortedTo (arrOf st) (arrOf st).size) (hfl : failedOf st = none)
    (hst : Stable intKind (arrOf st) (kar.zip itm.toArray))
    (h : ∀ s' out c, Inv X pins σ H s' → s'.heap.get? a = some (seqObj "list" out c) → KskOutSt false kl itm out.toList → P (.done (.ret .none)) s') :
    wpAny (model X.prog X.w) A (ksk_tail a false ep1 (.ref kS) st) P E s := by
  have hsm2 := hsm
  rw [sizeLine_eq] at hsm2
  have zk : kar.size = itm.length := by
    have h1 := hki.length
    rw [Array.length_toList] at h1
    omega
  have za : (arrOf st).size = itm.length := by rw [hp.size_eq, Array.size_zip, zk, List.size_toArray, Nat.min_self]
  have zo : ((arrOf st).map (·.2)).size = itm.length := by rw [Array.size_map]; exact za
  have s1 := Heap.SameBut.update s.heap kS (Obj.mapSeq fun _ => (#[] : Array Value))
  have ga1 : (s.heap.update kS (Obj.mapSeq fun _ => (#[] : Array Value))).get? a = some (seqObj "list" #[] ep1) := (s1.2 a hka.symm).trans ga
  have s2 := Heap.SameBut.update (s.heap.update kS (Obj.mapSeq fun _ => (#[] : Array Value))) a (Obj.mapSeq fun _ => (arrOf st).map (·.2))
  obtain ⟨cn, gcn⟩ : ∃ cn, ((s.heap.update kS (Obj.mapSeq fun _ => (#[] : Array Value))).update a (Obj.mapSeq fun _ => (arrOf st).map (·.2))).get? a = some (seqObj "list" ((arrOf st).map (·.2)) cn) :=
    ⟨_, get?_update_seq ga1 fun _ => (arrOf st).map (·.2)⟩
  obtain ⟨k0, k1, k2, k3, k4, k5⟩ := fk
  obtain ⟨a0, a1, a2, a3, a4, a5⟩ := fa
  have I1 : Inv X pins σ H { s with heap := s.heap.update kS (Obj.mapSeq fun _ => (#[] : Array Value)) } := I.turned (t' := s.toks) (fun b o hb q => (s1.2 b hb).trans q) k0 k1 k3 k4 k5
  unfold ksk_tail
  try dsimp only
  refine wpAny_bind (listUpdate_at gk rfl ?_ (by rw [zk, sizeLine_eq]; omega) (Nat.zero_le _))
  refine wpAny_bind (wpAny_letGo ?_)
  refine wpAny_bind (seqEpoch_at ga1 rfl ?_)
  refine wpAny_bind (listUpdate_at ga1 rfl ?_ (Nat.zero_le _) (Nat.le_trans (Nat.le_of_eq zo) (by rw [sizeLine_eq]; omega)))
  rw [hfl]
  simp only [bne_self_eq_false, Bool.false_eq_true, if_false]
  refine wpAny_pure (h _ _ cn (I1.turned (t' := s.toks) (fun b o hb q => (s2.2 b hb).trans q) a0 a1 a3 a4 a5) gcn ?_)
  exact ksk_outSt (b := false) hki hp hs (by simpa using hst)
theorem sb_end (I : Inv X pins σ H s) (gk : s.heap.get? kS = some (seqObj "list" kar e)) (ga : s.heap.get? a = some (seqObj "list" #[] ep1)) (fa : FpOk X pins H a) (fk : FpOk X pins H kS) (hka : kS ≠ a)
    (hki : IntsAre kar.toList kl) (hle : kl.length = itm.length) (hsm : itm.length ≤ sizeLine)
    (h : ∀ s' out c, Inv X pins σ H s' → s'.heap.get? a = some (seqObj "list" out c) → KskOutSt false kl itm out.toList → P (.done (.ret .none)) s') :
    wpAny (model X.prog X.w) A (ksk_end a false itm.toArray ep1 (.ref kS) kar) P E s := by
  have hsm2 := hsm
  rw [sizeLine_eq] at hsm2
  have zk : kar.size = itm.length := by
    have h1 := hki.length
    rw [Array.length_toList] at h1
    omega
  have zz : (kar.zip itm.toArray).size = itm.length := by rw [Array.size_zip, zk, List.size_toArray, Nat.min_self]
  unfold ksk_end
  try dsimp only
  simp only [Bool.false_eq_true, if_false]
  by_cases few : itm.toArray.size < 2
  · rw [if_pos few, if_pos few]
    refine wpAny_bind (wpAny_pure ?_)
    rw [StateT.run_pure]
    refine wpAny_bind (wpAny_pure ?_)
    try dsimp only
    refine sb_tail (st := SortSt.mk' general' (kar.zip itm.toArray) #[] 7 none) I gk ga fa fk hka hki hle hsm (Array.Perm.refl _) ?_ rfl (Stable.refl _) h
    intro i j hij jlt
    have hj2 : j < (kar.zip itm.toArray).size := jlt
    rw [zz] at hj2
    rw [List.size_toArray] at few
    have : i = j := by omega
    subst this
    exact Int.le_refl _
  · rw [if_neg few, if_neg few]
    rw [List.size_toArray] at few
    rw [ksk_kind hki (by rw [zk]; omega)]
    refine wpAny_bind (wpAny_pure ?_)
    refine wpAny_bind (wpAny_mono (wpS_sortRunsSt (κ := intKind) (a₀ := kar.zip itm.toArray)
      (st := SortSt.mk' oneType' (kar.zip itm.toArray) #[] 7 none)
      (Q := fun _ sq => (arrOf sq).Perm (kar.zip itm.toArray) ∧ failedOf sq = none ∧ SortedTo (arrOf sq) (arrOf sq).size ∧
        Stable intKind (arrOf sq) (kar.zip itm.toArray))
      intKind_oneLt (ksk_keysOfInt (ksk_intKeys hki)) ⟨Array.Perm.refl _, rfl, rfl⟩ rfl (Stable.refl _) (by rw [zz]; omega)
      fun sq a1 a2 a3 a4 => ⟨a1, a2, by rw [a1.size_eq]; exact sortedTo_of_int a3, a4⟩) ?_ fun _ _ e => e)
    rintro ⟨⟨⟩, sq⟩ s' ⟨rfl, hp, hf, hs, hst⟩
    try dsimp only
    exact sb_tail I gk ga fa fk hka hki hle hsm hp hs hf hst h
theorem sb_rest {f : Value} (I : Inv X pins σ H s) (gk : s.heap.get? kS = some (seqObj "list" #[] 0)) (ga : s.heap.get? a = some (seqObj "list" #[] ep1)) (fa : FpOk X pins H a) (fk : FpOk X pins H kS) (hka : kS ≠ a)
    (hle : kl.length = itm.length) (hsm : itm.length ≤ sizeLine)
    (turn : ∀ (i : Nat) (v : Value) (k : Int) (pins' : List (Addr × Obj)) (s' : Shared), itm[i]? = some v → kl[i]? = some k → Inv X pins' σ H s' →
      wpAny (model X.prog X.w) A (call f [v]) (EP X pins' σ fun x H' => x = .int k ∧ H' = H) (fun _ _ => False) s')
    (h : ∀ s' out c, Inv X pins σ H s' → s'.heap.get? a = some (seqObj "list" out c) → KskOutSt false kl itm out.toList → P (.done (.ret .none)) s') :
    wpAny (model X.prog X.w) A (ksk_rest a f false itm.toArray ep1 (.ref kS)) P E s := by
  have hsm2 := hsm
  rw [sizeLine_eq] at hsm2
  unfold ksk_rest
  refine wpAny_bind (wpAny_rule ?_)
  first
    | rw [List.forIn_toArray]
    | (rw [← Array.forIn_toList]; simp only [List.toList_toArray])
    | rw [← Array.forIn_toList]
  refine wpAny_bind (ksk_fold (fun i s' => ∃ gar e, Inv X pins σ H s' ∧ s'.heap.get? kS = some (seqObj "list" gar e) ∧ s'.heap.get? a = some (seqObj "list" #[] ep1) ∧ IntsAre gar.toList (kl.take i)) itm 0 s
    ⟨#[], 0, I, gk, ga, by simpa using IntsAre.nil⟩ ?step ?done)
  case step =>
    rintro j x s' hx ⟨gar, e, I', nk', na', hki⟩
    simp only [Nat.zero_add] at hki ⊢
    have jlt : j < itm.length := (List.getElem?_eq_some_iff.mp hx).1
    obtain ⟨k, ekj⟩ : ∃ k, kl[j]? = some k := ⟨_, List.getElem?_eq_getElem (by omega)⟩
    have gsm : gar.size ≤ itm.length := by
      have h1 := hki.length
      rw [Array.length_toList, List.length_take] at h1
      omega
    have I2 : Inv X (pins ++ [(kS, seqObj "list" gar e), (a, seqObj "list" #[] ep1)]) σ H s' := I'.pins_of fun p hp => by
      rcases List.mem_append.mp hp with hp | hp
      · exact I'.pin p (List.mem_append_right _ hp)
      · rcases List.mem_cons.mp hp with rfl | hp
        · exact ⟨nk', fk.1, fk.2.1, fk.2.2.1, fun v z => nomatch z⟩
        · rw [List.mem_singleton.mp hp]
          exact ⟨na', fa.1, fa.2.1, fa.2.2.1, fun v z => nomatch z⟩
    refine wpAny_bind (wpAny_attempt (wpAny_mono (turn j x k _ s' hx ekj I2) (fun v s'' he => ?_) fun _ _ hF => hF.elim))
    obtain ⟨y, H', I3, ry, rfl, rfl⟩ := he
    obtain ⟨t2, rfl⟩ : ∃ t, v = Value.int k t := ry
    try dsimp only
    have nk3 := (I3.pin (kS, seqObj "list" gar e) (List.mem_append_right _ (List.mem_append_right _ (.head _)))).1
    have na3 := (I3.pin (a, seqObj "list" #[] ep1) (List.mem_append_right _ (List.mem_append_right _ (.tail _ (.head _))))).1
    have s1 := Heap.SameBut.update s''.heap kS (Obj.mapSeq (·.push (.int k t2)))
    obtain ⟨cn, gcn⟩ : ∃ cn, (s''.heap.update kS (Obj.mapSeq (·.push (.int k t2)))).get? kS = some (seqObj "list" (gar.push (.int k t2)) cn) := ⟨_, get?_update_seq nk3 (·.push (.int k t2))⟩
    have et : kl.take (j + 1) = kl.take j ++ [k] := by rw [List.take_add_one, ekj]; simp
    have epu : (gar.push (Value.int k t2)).toList = gar.toList ++ [Value.int k t2] := by simp
    obtain ⟨k0, k1, _, k3, k4, k5⟩ := fk
    refine wpAny_bind (listUpdate_at nk3 rfl ?_ (by rw [sizeLine_eq]; omega) (Nat.le_trans (Nat.le_of_eq (Array.size_push ..)) (by rw [sizeLine_eq]; omega)))
    refine wpAny_pure ⟨rfl, gar.push (.int k t2), cn, I3.unpinned.turned (t' := s''.toks) (fun b o hb q => (s1.2 b hb).trans q) k0 k1 k3 k4 k5, gcn, (s1.2 a hka.symm).trans na3, by rw [epu, et]; exact ksk_snoc hki⟩
  case done =>
    rintro s' ⟨gar, e, I', nk', na', hki⟩
    have hkf : IntsAre gar.toList kl := by
      have eall : kl.take (0 + itm.length) = kl := List.take_of_length_le (by omega)
      rw [eall] at hki
      exact hki
    try dsimp only
    refine wpAny_bind (listItems_at nk' rfl ?_)
    exact sb_end I' nk' na' fa fk hka hkf hle hsm h
end
end TK

namespace TK
open PySem PySem.Spec PyProof.Rows L2
section
variable {prog : Program} {w : World} {A : Around} {E : Value → Shared → Prop} {s : Shared}
/-- the items of a tuple, drawn together -/
theorem collect_tup {t : Addr} {vs : List Value} {Q : List Value → Shared → Prop} (ht : IsTup s.heap t vs.toArray) (hsm : vs.length ≤ sizeLine)
    (h : Q vs { s with heap := (s.heap.push (seqObj "list" #[] 0)).update s.heap.objs.size (Obj.mapSeq (· ++ vs.toArray)) }) : wpAny (model prog w) A (collect (.ref t)) Q E s := by
  obtain ⟨ob, gob0, hcls, n, hdt⟩ := ht
  unfold collect
  refine wpAny_bind (wpAny_runValue (codeAny_builtin entry_proto_collect' ?_))
  show wpAny _ _ (do again (.builtin "list.__iadd__" ⟨[← newList [], .ref t], []⟩)) _ _ s
  refine wpAny_bind (wpAny_newList (wpAny_pure ⟨Code.quiet_builtin _ (by decide +kernel), codeAny_builtin entry_list_iadd' ?_⟩))
  show wpAny _ _ (Builtin.List.listExtendWith (.ref s.heap.objs.size) (.ref t) (.ref s.heap.objs.size)) _ _ { s with heap := s.heap.push (seqObj "list" #[] 0) }
  have gob : (s.heap.push (seqObj "list" #[] 0)).get? t = some ob := Heap.get?_push_of_some _ gob0
  have gnew : (s.heap.push (seqObj "list" #[] 0)).get? s.heap.objs.size = some (seqObj "list" #[] 0) := Heap.get?_push_size _ rfl
  unfold Builtin.List.listExtendWith
  refine wpAny_bind (wpAny_typeOf (T := "tuple") ⟨ob, gob, hcls⟩ ?_)
  rw [if_pos (by simp only [show (Value.type "tuple" == Value.type "tuple") = true from rfl, Bool.or_true])]
  refine wpAny_bind (listItems_at gob hdt (wpAny_bind (listItems_at gnew rfl ?_)))
  rw [if_neg (by simp)]
  refine wpAny_bind (listUpdate_at gnew rfl (wpAny_pure ?_) (Nat.zero_le _) (by simp only [Array.size_append, List.size_toArray, List.length_nil]; omega))
  show wpAny (model prog w) A (do
      let o ← load s.heap.objs.size
      match o.data with
      | .seq xs _ => pure xs.toList
      | _ => unsupported "internal:collect") Q E _
  refine wpAny_bind (wpAny_load (get?_update_seq gnew _) ?_)
  show wpAny _ _ (pure ((#[] : Array Value) ++ vs.toArray).toList) Q E _
  rw [show ((#[] : Array Value) ++ vs.toArray).toList = vs by simp]
  exact wpAny_pure h
end
section
variable {X : Cx} {pins : List (Addr × Obj)} {σ : L2.St} {H : Hp} {s : Shared} {A : Around} {E : Value → Shared → Prop} {a : Addr} {vs : List Value} {kz : List Int} {P : PySem.Fin → Shared → Prop}
theorem sb_sort {f : Value} {n : Nat} (I : Inv X pins σ H s) (ho : s.heap.get? a = some (seqObj "list" vs.toArray n)) (fa : FpOk X pins H a) (hlen : kz.length = vs.length) (hZ : vs.length ≤ sizeLine)
    (turn : ∀ (i : Nat) (v : Value) (k : Int) (pins' : List (Addr × Obj)) (s' : Shared), vs[i]? = some v → kz[i]? = some k → Inv X pins' σ H s' →
      wpAny (model X.prog X.w) A (call f [v]) (EP X pins' σ fun x H' => x = .int k ∧ H' = H) (fun _ _ => False) s')
    (h : ∀ s' out c, Inv X pins σ H s' → s'.heap.get? a = some (seqObj "list" out c) → KskOutSt false kz vs out.toList → P (.done (.ret .none)) s') :
    wpAny (model X.prog X.w) A (ksk_tree a f false) P E s := by
  have hZ2 := hZ
  rw [sizeLine_eq] at hZ2
  have hal : a < s.heap.objs.size := Heap.lt_size ho
  generalize hh1 : s.heap.update a (Obj.mapSeq fun _ => (#[] : Array Value)) = h1
  have sb : Heap.SameBut a s.heap h1 := by rw [← hh1]; exact Heap.SameBut.update s.heap a _
  obtain ⟨e1, ho1⟩ : ∃ e1, h1.get? a = some (seqObj "list" #[] e1) := by rw [← hh1]; exact ⟨_, get?_update_seq ho fun _ => #[]⟩
  have hz1 : h1.objs.size = s.heap.objs.size := by rw [← hh1, Heap.size_update]
  obtain ⟨a0, a1, a2, a3, a4, a5⟩ := id fa
  have I1 : Inv X pins σ H { s with heap := h1 } := I.turned (t' := s.toks) (fun b o hb q => (sb.2 b hb).trans q) a0 a1 a3 a4 a5
  have I2 : Inv X pins σ H { s with heap := (h1.push (seqObj "tuple" vs.toArray 0)).push (seqObj "list" #[] 0) } := I1.kept (t' := s.toks) fun b o q => Heap.get?_push_of_some _ (Heap.get?_push_of_some _ q)
  have hkz : (h1.push (seqObj "tuple" vs.toArray 0)).objs.size = s.heap.objs.size + 1 := by rw [size_push', hz1]
  unfold ksk_tree
  refine wpAny_bind (listItems_at ho rfl (wpAny_bind (listUpdate_at ho rfl ?_ (by rw [List.size_toArray, sizeLine_eq]; omega) (Nat.zero_le _))))
  rw [hh1]
  refine wpAny_bind (seqEpoch_at ho1 rfl (wpAny_bind (wpAny_newTuple (wpAny_bind (wpAny_newList (wpAny_holding ?_) (Nat.zero_le _))) (by show vs.length ≤ _; rw [sizeLine_eq]; omega))))
  refine sb_rest (s := { s with heap := (h1.push (seqObj "tuple" vs.toArray 0)).push (seqObj "list" #[] 0) }) (kS := (h1.push (seqObj "tuple" vs.toArray 0)).objs.size) I2 (Heap.get?_push_size _ rfl) (Heap.get?_push_of_some _ (Heap.get?_push_of_some _ ho1)) fa ?_ (Nat.ne_of_gt (by rw [hkz]; exact Nat.lt_succ_of_lt hal)) hlen hZ turn h
  exact I1.fpOk (by show h1.objs.size ≤ _; rw [hkz, hz1]; omega) (I1.hok.fresh (by show h1.objs.size ≤ _; rw [hkz, hz1]; omega))
end
/-! ### the stable order by a key -/
def insK {α : Type} (x : Int × α) : List (Int × α) → List (Int × α)
  | [] => [x]
  | y :: r => if x.1 ≤ y.1 then x :: y :: r else y :: insK x r
def sortK {α : Type} : List (Int × α) → List (Int × α)
  | [] => []
  | x :: r => insK x (sortK r)
section
variable {α : Type}
theorem insK_perm (x : Int × α) : ∀ l, (insK x l).Perm (x :: l)
  | [] => .refl _
  | y :: r => by
    unfold insK
    split
    · exact .refl _
    · exact ((insK_perm x r).cons y).trans (.swap x y r)
theorem sortK_perm : ∀ l : List (Int × α), (sortK l).Perm l
  | [] => .refl _
  | x :: r => (insK_perm x (sortK r)).trans ((sortK_perm r).cons x)
theorem insK_up (x : Int × α) : ∀ l : List (Int × α), l.Pairwise (fun p q => p.1 ≤ q.1) → (insK x l).Pairwise (fun p q => p.1 ≤ q.1)
  | [], _ => List.pairwise_singleton ..
  | y :: r, h => by
    unfold insK
    split
    · rename_i hx
      refine List.Pairwise.cons (fun z hsm => ?_) h
      rcases List.mem_cons.mp hsm with rfl | hsm
      · exact hx
      · exact Int.le_trans hx (List.rel_of_pairwise_cons h hsm)
    · rename_i hx
      refine List.Pairwise.cons (fun z hsm => ?_) (insK_up x r (List.Pairwise.of_cons h))
      rcases List.mem_cons.mp ((insK_perm x r).mem_iff.mp hsm) with rfl | hsm
      · omega
      · exact List.rel_of_pairwise_cons h hsm
theorem sortK_up : ∀ l : List (Int × α), (sortK l).Pairwise (fun p q => p.1 ≤ q.1)
  | [] => .nil
  | x :: r => insK_up x _ (sortK_up r)
theorem insK_filter (x : Int × α) (c : Int) : ∀ l : List (Int × α), l.Pairwise (fun p q => p.1 ≤ q.1) → (insK x l).filter (fun p => p.1 == c) = (x :: l).filter (fun p => p.1 == c)
  | [], _ => rfl
  | y :: r, h => by
    unfold insK
    split
    · rfl
    · rename_i hx
      have ih := insK_filter x c r (List.Pairwise.of_cons h)
      rw [List.filter_cons, ih, List.filter_cons, List.filter_cons, List.filter_cons]
      by_cases h1 : (x.1 == c) = true
      · by_cases h2 : (y.1 == c) = true
        · have e1 : x.1 = c := by simpa using h1
          have e2 : y.1 = c := by simpa using h2
          omega
        · simp [h1, h2]
      · simp [h1]
theorem sortK_filter (c : Int) : ∀ l : List (Int × α), (sortK l).filter (fun p => p.1 == c) = l.filter (fun p => p.1 == c)
  | [] => rfl
  | x :: r => by
    show (insK x (sortK r)).filter _ = _
    rw [insK_filter x c _ (sortK_up r), List.filter_cons, sortK_filter c r, List.filter_cons]
theorem stable_one : ∀ {l m : List (Int × α)}, l.Perm m → l.Pairwise (fun p q => p.1 ≤ q.1) → m.Pairwise (fun p q => p.1 ≤ q.1) → (∀ c, l.filter (fun p => p.1 == c) = m.filter (fun p => p.1 == c)) → l = m
  | [], m, hp, _, _, _ => by rw [List.nil_perm.mp hp]
  | x :: l, [], hp, _, _, _ => by cases hp.length_eq
  | x :: l, y :: m, hp, h1, h2, hf => by
    have le1 : x.1 ≤ y.1 := by
      rcases List.mem_cons.mp (hp.mem_iff.mpr (List.mem_cons_self ..) : y ∈ x :: l) with e | e
      · rw [e]; exact Int.le_refl _
      · exact List.rel_of_pairwise_cons h1 e
    have le2 : y.1 ≤ x.1 := by
      rcases List.mem_cons.mp (hp.mem_iff.mp (List.mem_cons_self ..) : x ∈ y :: m) with e | e
      · rw [e]; exact Int.le_refl _
      · exact List.rel_of_pairwise_cons h2 e
    have e : x.1 = y.1 := by omega
    have hx := hf x.1
    rw [List.filter_cons, List.filter_cons, if_pos (by simp), if_pos (by simp [e])] at hx
    obtain ⟨exy, _⟩ := List.cons.inj hx
    subst exy
    rw [stable_one (List.Perm.cons_inv hp) (List.Pairwise.of_cons h1) (List.Pairwise.of_cons h2) fun c => ?_]
    have := hf c
    rw [List.filter_cons, List.filter_cons] at this
    split at this
    · exact (List.cons.inj this).2
    · exact this
theorem insK_map {β : Type} (g : α → β) (x : Int × α) : ∀ l : List (Int × α), (insK x l).map (fun p => (p.1, g p.2)) = insK (x.1, g x.2) (l.map fun p => (p.1, g p.2))
  | [] => rfl
  | y :: r => by
    unfold insK
    by_cases h : x.1 ≤ y.1
    · rw [if_pos h]
      show _ = if x.1 ≤ y.1 then _ else _
      rw [if_pos h]; rfl
    · rw [if_neg h]
      show _ = if x.1 ≤ y.1 then _ else _
      rw [if_neg h, List.map_cons, insK_map g x r]
theorem sortK_map {β : Type} (g : α → β) : ∀ l : List (Int × α), (sortK l).map (fun p => (p.1, g p.2)) = sortK (l.map fun p => (p.1, g p.2))
  | [] => rfl
  | x :: r => by
    show (insK x (sortK r)).map _ = insK _ (sortK (r.map _))
    rw [insK_map, sortK_map g r]
end
/-- sorted pairs of related values are related -/
theorem insK_rel {x : Int × V} {u : Int × Value} (e : x.1 = u.1) (r : RelV x.2 u.2) : ∀ {l : List (Int × V)} {m : List (Int × Value)}, Paired (fun p q => p.1 = q.1 ∧ RelV p.2 q.2) l m → Paired (fun (p : Int × V) (q : Int × Value) => p.1 = q.1 ∧ RelV p.2 q.2) (insK x l) (insK u m)
  | _, _, .nil => .cons ⟨e, r⟩ .nil
  | y :: l, v :: m, .cons h t => by
    unfold insK
    rw [← e, ← h.1]
    split
    · exact .cons ⟨e, r⟩ (.cons h t)
    · exact .cons h (insK_rel e r t)
theorem sortK_rel : ∀ {l : List (Int × V)} {m : List (Int × Value)}, Paired (fun p q => p.1 = q.1 ∧ RelV p.2 q.2) l m → Paired (fun (p : Int × V) (q : Int × Value) => p.1 = q.1 ∧ RelV p.2 q.2) (sortK l) (sortK m)
  | _, _, .nil => .nil
  | _, _, .cons h t => insK_rel h.1 h.2 (sortK_rel t)
theorem zip_rel : ∀ {kz : List Int} {xs : List V} {us : List Value}, Vals xs us → Paired (fun (p : Int × V) (q : Int × Value) => p.1 = q.1 ∧ RelV p.2 q.2) (kz.zip xs) (kz.zip us)
  | [], _, _, _ => .nil
  | _ :: _, _, _, .nil => .nil
  | k :: kz, _, _, .cons r t => .cons ⟨rfl, r⟩ (zip_rel t)
theorem rel_snd : ∀ {l : List (Int × V)} {m : List (Int × Value)}, Paired (fun p q => p.1 = q.1 ∧ RelV p.2 q.2) l m → Vals (l.map Prod.snd) (m.map Prod.snd)
  | _, _, .nil => .nil
  | _, _, .cons h t => .cons h.2 (rel_snd t)
def byKey (ks : List Int) (xs : List V) : List V := (sortK (ks.zip xs)).map Prod.snd
theorem byKey_len {ks : List Int} {xs : List V} (h : ks.length = xs.length) : (byKey ks xs).length = xs.length := by
  unfold byKey
  rw [List.length_map, (sortK_perm _).length_eq, List.length_zip, h, Nat.min_self]
section
variable {X : Cx}
/-- sorted(xs, key=f), f a def whose answer is an int and that leaves the heap -/
def rSortedBy (K : PySem.W.Frag) (f : Addr) (sp : Sp) : List V → List V → Hp → VK → Prop := fun vs zs H Q => ∃ (a : Addr) (xs : List V) (ks : List Int), vs = [V.ref a] ∧ zs = [V.ref f] ∧ (SqL K H a xs ∨ SqT K H a xs) ∧ ks.length = xs.length ∧
  (∀ (i : Nat) (x : V) (k : Int), xs[i]? = some x → ks[i]? = some k → sp [x] H (fun v H' => v = .int k ∧ H' = H) E0) ∧ ∀ p, H p = none → Q (.ref p) (upd H p (.lst (byKey ks xs)))
theorem cr_sortedBy {k : Nat} {f : Addr} {fd : FuncData} {ps : List Str} {sp : Sp} (F : FnOk X.prog X.w X.K X.mg X.base CX0 k f fd ps sp) (hr : Room (k + 2) X.A) (hb : Binds X.K fd ps []) : CallRK X (.builtin "sorted") [Str.ofString "key"] (rSortedBy X.K f sp) := by
  intro pins s σ H xs zs us ws Q I rx rz hq
  obtain ⟨a, ys, ks, rfl, rfl, hS, hkl, hsp, q⟩ := hq
  cases rx with
  | cons r1 r2 =>
    cases r2
    cases r1
    cases rz with
    | cons z1 z2 =>
      cases z2
      cases z1
      obtain ⟨its, rv, hcol, hsm⟩ : ∃ its : List Value, Vals ys its ∧ (∀ (A : Around) (Q : List Value → Shared → Prop) (E : Value → Shared → Prop), Q its { s with heap := (s.heap.push (seqObj "list" #[] 0)).update s.heap.objs.size (Obj.mapSeq (· ++ its.toArray)) } → wpAny (model X.prog X.w) A (collect (.ref a)) Q E s) ∧ its.length ≤ sizeLine := by
        rcases hS with hS | hS
        · obtain ⟨its, rv, hl, hsm⟩ := I.list hS
          have hz' : its.length ≤ sizeLine := by rw [← rv.length]; exact hsm
          exact ⟨its, rv, fun A Q E h => collect_list hl.isList h hz', hz'⟩
        · obtain ⟨its, rv, hl, hsm⟩ := I.tuple hS
          have hz' : its.length ≤ sizeLine := by rw [← rv.length]; exact hsm
          exact ⟨its, rv, fun A Q E h => collect_tup hl hz' h, hz'⟩
      have hlen : ks.length = its.length := by rw [hkl, rv.length]
      show wpAny _ _ (call (.builtin "sorted") [.ref a] [(Str.ofString "key", .ref f)]) _ _ _
      refine call_function_entry_kw kind_sorted plain_sorted entry_sorted (ksk_s1 _ _) ?_
      unfold Builtin.«sorted»
      refine wpAny_bind (m := checkCount "sorted" 1 1 _) (wpAny_pure (wpAny_bind (hcol _ _ _ (wpAny_bind (wpAny_newList ?_ hsm)))))
      generalize hh1 : (s.heap.push (seqObj "list" #[] 0)).update s.heap.objs.size (Obj.mapSeq (· ++ its.toArray)) = h1
      have hz1 : h1.objs.size = s.heap.objs.size + 1 := by rw [← hh1, Heap.size_update, size_push']
      have kp1 : ∀ b o, s.heap.get? b = some o → h1.get? b = some o := fun b o e => by
        rw [← hh1, Heap.get?_update_ne _ _ _ _ (Nat.ne_of_lt (Heap.lt_size e))]
        exact Heap.get?_push_of_some _ e
      have hoL : (h1.push (seqObj "list" its.toArray 0)).get? h1.objs.size = some (seqObj "list" its.toArray 0) := Heap.get?_push_size _ rfl
      have I1 : Inv X pins σ H { s with heap := h1 } := I.kept (t' := s.toks) kp1
      have I2 : Inv X pins σ H { s with heap := h1.push (seqObj "list" its.toArray 0) } := I1.kept (t' := s.toks) fun b o e => Heap.get?_push_of_some _ e
      have fa : FpOk X pins H h1.objs.size := I1.fpOk (Nat.le_refl _) (I1.hok.fresh (Nat.le_refl _))
      refine wpAny_bind (wpAny_holding (wpAny_call_entry_kw slot_list_sort ⟨_, hoL, rfl⟩ entry_list_sort ?_ (ksk_l1 _ _)))
      show wpAny (model X.prog X.w) X.A.in1.in1 (Builtin.«list.sort» ⟨[.ref h1.objs.size], [(Str.ofString "key", .ref f)]⟩) _ _ _
      rw [ksk_t1]
      refine sb_sort (s := { s with heap := h1.push (seqObj "list" its.toArray 0) }) (kz := ks) I2 hoL fa hlen hsm (fun i v k pins' s' hv hk I' => ?_) fun s' out c I' ho' ko => ⟨_, rfl, ?_⟩
      · obtain ⟨x, hx, rxv⟩ : ∃ x, ys[i]? = some x ∧ RelV x v := by
          have hi : i < ys.length := by rw [rv.length]; exact (List.getElem?_eq_some_iff.mp hv).1
          obtain ⟨u, hu, ru⟩ := rv.get (List.getElem?_eq_getElem hi)
          rw [hv] at hu
          cases hu
          exact ⟨_, List.getElem?_eq_getElem hi, ru⟩
        exact run_fn2 F hr hb I' (.cons rxv .nil) (hsp i x k hx hk)
      · obtain ⟨pr, p1, p2, p3, p4⟩ := ko
        have e1 : pr = sortK (ks.zip its) := stable_one (p1.trans (sortK_perm _).symm) (by simpa using p3) (sortK_up _) fun c => (p4 c).trans (sortK_filter c _).symm
        have rel : Vals (byKey ks ys) out.toList := by
          rw [p2, e1]
          exact rel_snd (sortK_rel (zip_rel rv))
        have hbz : (byKey ks ys).length ≤ sizeLine := by rw [byKey_len hkl, rv.length]; exact hsm
        refine wpAny_pure ⟨_, rfl, ?_⟩
        exact ⟨.ref h1.objs.size, upd H h1.objs.size (.lst (byKey ks ys)), adopt I' fa ⟨hbz, out.toList, c, rel, by rw [Array.toArray_toList]; exact ho'⟩, rfl, q _ fa.1⟩
end
end TK

namespace TK
open PySem PySem.Spec PyProof.Rows L2
/-! ### enumerate(tuple) -/
theorem meets_enum1 {v : Value} {o : Obj} {G : Heap → Prop} (B : Begins v o G) :
    Meets (Builtin.«enumerate.__new__» ⟨[.type "enumerate", v], []⟩) (fun _ R s => G s.heap ∧
      R (.ok (.ret (.ref (s.heap.push o).objs.size))) { s with heap := (s.heap.push o).push { cls := .type "enumerate", data := .fields #[.none, .bool false, .ref s.heap.objs.size, rawInt 0, .none, .none] } }) :=
  .of_wp fun prog w A R s hh => by
    obtain ⟨hp, gg, dd, tk, os⟩ := s
    obtain ⟨hG, hR⟩ := hh
    have hsub := sub_enumerate
    have it1 : ∀ {A' : Around} {E' : Value → Shared → Prop} {Q : Value → Shared → Prop}, Q (.ref hp.objs.size) ⟨hp.push o, gg, dd, tk, os⟩ → wpAny (model prog w) A' (pyIter v) Q E' ⟨hp, gg, dd, tk, os⟩ := fun q => B.iter prog w _ _ ⟨hp, gg, dd, tk, os⟩ _ hG q
    wp_walk using it1
    refine wpAny_stack_any fun st => wpAny_pure ?_
    split
    · rename_i c _ _ _ _ _
      cases (c == Value.type "enumerate") <;> (wp_walk using it1; exact ⟨_, rfl, hR⟩)
    · wp_walk using it1
      exact ⟨_, rfl, hR⟩
section
variable {prog : Program} {w : World} {A : Around} {E : Value → Shared → Prop} {s : Shared}
theorem call_enum1 {v : Value} {o : Obj} {G : Heap → Prop} {Q : Value → Shared → Prop} (B : Begins v o G) (hG : G s.heap)
    (h : ∀ h', IsEnum h' (s.heap.objs.size + 1) s.heap.objs.size 0 .none → h'.get? s.heap.objs.size = some o → (∀ b o, s.heap.get? b = some o → h'.get? b = some o) → Q (.ref (s.heap.objs.size + 1)) { s with heap := h' }) :
    wpAny (model prog w) A (call (.type "enumerate") [v]) Q E s := by
  refine callType_new F.called_enumerate (by decide) (F.typeCall_enumerate_1 _) (F.newCall_enumerate_1 _) (fun obj => F.args_object_init_2 obj _) F.entry_enumerate_new (meets_enum1 B) ⟨hG, ?_⟩
  have zp : (s.heap.push o).objs.size = s.heap.objs.size + 1 := Heap.size_push ..
  show _ ∧ _
  rw [zp]
  have gen : IsEnum ((s.heap.push o).push { cls := .type "enumerate", data := .fields #[.none, .bool false, .ref s.heap.objs.size, rawInt 0, .none, .none] }) (s.heap.objs.size + 1) s.heap.objs.size 0 .none := by
    unfold IsEnum
    rw [← zp]
    exact Heap.get?_push_size _ rfl
  exact ⟨⟨_, gen, rfl⟩, h _ gen (Heap.get?_push_of_some _ (Heap.get?_push_size _ B.free)) fun b o q => Heap.get?_push_of_some _ (Heap.get?_push_of_some _ q)⟩
end
def IteT (K : PySem.W.Frag) (a : Addr) (n : Nat) : It :=
  ⟨fun i H => i < n ∧ ∃ xs : List V, SqT K H a xs ∧ xs.length = n, fun i H v H' => ∃ T x, v = .ref T ∧ H T = none ∧ H' = upd H T (.tup [.int (i : Nat), x]) ∧ ∀ xs, SqT K H a xs → xs[i]? = some x, fun i H => n ≤ i ∧ ∃ xs : List V, SqT K H a xs ∧ xs.length = n⟩
theorem turn_enumT {P : Program} {w : World} {K : PySem.W.Frag} {elts : List Expr} {kk : Nat} {tpos : Pos} (a e it : Addr) (n : Nat) (nei : e ≠ it) (nae : a ≠ e) (nai : a ≠ it) :
    Turn P w K (.Tuple elts kk tpos) (IteT K a n) [e, it] e (fun i h => (∃ old, IsEnum h e it ((i : Nat) : Int) old) ∧ h.IsTupleIter it a i ∧ i ≤ n) where
  mem := List.mem_cons_self ..
  obj := fun i h st b hb => by
    obtain ⟨⟨old, gen⟩, ⟨o, ho, _, hd⟩, _⟩ := st
    rcases List.mem_cons.mp hb with z | z
    · rw [z]; exact ⟨_, gen, fun v q => nomatch q⟩
    · rw [List.mem_singleton.mp z]; exact ⟨o, ho, fun v q => by rw [hd] at q; cases q⟩
  keep := fun i h h' st k => by
    obtain ⟨⟨old, gen⟩, hi, hn⟩ := st
    exact ⟨⟨old, k e (by simp) _ gen⟩, hi.at fun o q => k it (by simp) o q, hn⟩
  item := by
    intro X hP hw hK hc i pins s σ H E I hf st hg
    subst hP hw hK
    obtain ⟨⟨old, gen⟩, git, _⟩ := st
    obtain ⟨ltn, xs, hq, hxl⟩ := hg
    obtain ⟨itm, rel, p, zp⟩ := I.tuple hq
    have elt : e < s.heap.objs.size := Heap.lt_size gen
    have ilt : it < s.heap.objs.size := by obtain ⟨_, q, _⟩ := git; exact Heap.lt_size q
    have hsz : itm.toArray.size = n := by rw [List.size_toArray, ← rel.length]; exact hxl
    have D := Draws.tuple (prog := X.prog) (w := X.w) (A := X.A.in1) (I.ok.hd hc) it a nai itm.toArray
    refine wpAny_pyNext_enum_itemD D gen ⟨git, p⟩ (by rw [hsz]; exact ltn) nei (by simp [nei, Ne.symm nae]) fun u h' tk hu ho hst hT _ hk => ?_
    obtain ⟨x, hx, ru⟩ : ∃ x, xs[i]? = some x ∧ RelV x u := by
      obtain ⟨u', hu', ru'⟩ := rel.get (List.getElem?_eq_getElem (show i < xs.length by omega))
      have hu2 : itm[i]? = some u := by simpa using hu
      rw [hu2] at hu'
      cases hu'
      exact ⟨_, List.getElem?_eq_getElem (by omega), ru'⟩
    refine ⟨_, rfl, wpAny_letOwnedTupleGo_enum (s := { s with heap := h', toks := tk + 1 }) ho fun h'' he' sb => ?_⟩
    have atT : h''.get? s.heap.objs.size = some { cls := .type "tuple", data := .seq #[.int i tk, u] } := (sb.2 _ (Nat.ne_of_gt elt)).trans hT
    have new : ObjOk X.prog X.w (upd H s.heap.objs.size (.tup [.int (i : Nat), x])) h'' s.heap.objs.size (.tup [.int (i : Nat), x]) :=
      ⟨by show 2 ≤ sizeLine; decide, [.int i tk, u], .cons ⟨_, rfl⟩ (.cons ru .nil), ⟨_, atT, rfl, _, rfl⟩⟩
    have I1 : Inv X pins σ (upd H s.heap.objs.size (.tup [.int (i : Nat), x])) { s with heap := h'', toks := tk + 1 } :=
      I.turnedNew (ch := [e, it]) (fun b ob hb q => (sb.2 b (fun z => hb (by simp [z]))).trans (hk b ob (fun z => hb (by simp [z])) (fun z => hb (by simp [z])) q)) hf (Nat.le_refl _) new
    refine ⟨.ref s.heap.objs.size, _, I1, rfl, ⟨_, x, rfl, I.hok.fresh (Nat.le_refl _), rfl, fun ys hy => by rw [I.tuple_inj hy hq]; exact hx⟩, ⟨⟨u, ?_⟩, hst.1.at fun o q => (sb.2 it (Ne.symm nei)).trans q, by omega⟩, fun b hb => ?_⟩
    · rw [show ((i + 1 : Nat) : Int) = (i : Int) + 1 by omega]; exact he'
    · have blt : b < s.heap.objs.size := by
        rcases List.mem_cons.mp hb with z | z
        · rw [z]; exact elt
        · rw [List.mem_singleton.mp z]; exact ilt
      rw [upd_ne (Nat.ne_of_lt blt)]
      exact (hf b hb).1
  done := by
    intro X hP hw hK hc i pins s σ H E I hf st hg
    subst hP hw hK
    obtain ⟨⟨old, gen⟩, git, ble⟩ := st
    obtain ⟨hge, xs, hq, hxl⟩ := hg
    obtain ⟨itm, rel, p, zp⟩ := I.tuple hq
    have hin : i = itm.toArray.size := by rw [List.size_toArray, ← rel.length]; omega
    obtain ⟨q0, q1, q2, q3, q4, q5⟩ := hf it (by simp)
    have D := Draws.tuple (prog := X.prog) (w := X.w) (A := X.A.in1) (I.ok.hd hc) it a nai itm.toArray
    refine wpAny_pyNext_enum_endD D gen ⟨by rw [← hin]; exact git, p⟩ fun h' eb => ⟨rfl, I.turned (t' := s.toks) (fun b o hb q => eb b o hb q) q0 q1 q3 q4 q5⟩
  self := fun A i s Q E st h => by
    obtain ⟨⟨_, gen⟩, _⟩ := st
    exact wpAny_pyIter_enum gen h
def iEnumT (K : PySem.W.Frag) (ta : TA) : TI := fun σ H R => ta σ H fun vs H1 => ∃ a xs, vs = [.ref a] ∧ SqT K H1 a xs ∧ R (IteT K a xs.length) H1
theorem pi_enumT {X : Cx} {e : Expr} {ta : TA} {p pos tpos : Pos} {elts : List Expr} {kk : Nat} (hg : Gl X "enumerate") (hm : X.mg "enumerate" = none) (ha : PA X [e] ta) (hs : starEach [e] X.env = [(false, eval e X.env)] := by rfl) :
    PI X (.Tuple elts kk tpos) (.Call (.Name "enumerate" p) [e] [] pos) (iEnumT X.K ta) := by
  refine ⟨fun pins s σ H R I h => Call_ (ld_blt I hg hm boot_enumerate (PyProof.Rows.callWith_type1 (thn (ha.run pos pins s σ H _ I h) fun us s1 ⟨vs, H1, I1, r1, q1⟩ => ?_) hs rfl))⟩
  obtain ⟨a, xs, rfl, hq, q⟩ := q1
  cases r1 with
  | cons r rr =>
    cases rr
    cases r
    obtain ⟨itm, rel, p', zp⟩ := I1.tuple hq
    have hal : a < s1.heap.objs.size := by obtain ⟨_, q, _⟩ := p'; exact Heap.lt_size q
    refine call_enum1 (begins_tuple a itm.toArray) p' fun h' gen git hk => wpAny_pyIter_enum gen ?_
    have J2 : Inv X pins σ H1 { s1 with heap := h' } := I1.kept (t' := s1.toks) hk
    refine ⟨s1.heap.objs.size + 1, [s1.heap.objs.size + 1, s1.heap.objs.size], _, _, H1, rfl, J2, turn_enumT a (s1.heap.objs.size + 1) s1.heap.objs.size xs.length (Nat.succ_ne_self _) (Nat.ne_of_lt (Nat.lt_succ_of_lt hal)) (Nat.ne_of_lt hal), ⟨⟨.none, gen⟩, ⟨_, git, rfl, rfl⟩, Nat.zero_le _⟩, fun b hb => ?_, q⟩
    have ble : s1.heap.objs.size ≤ b := by
      rcases List.mem_cons.mp hb with z | z
      · rw [z]; exact Nat.le_add_right _ _
      · rw [List.mem_singleton.mp z]; exact Nat.le_refl _
    exact I1.fpOk ble (I1.hok.fresh ble)
theorem walk_enumT {K : PySem.W.Frag} {a : Addr} {xs : List V} : Walk (IteT K a xs.length) xs.length (fun H => SqT K H a xs) (YPair (fun i => some (.int (i : Nat))) (fun i => xs[i]?)) where
  goes := fun i H hi hG => ⟨hi, xs, hG, rfl⟩
  stops := fun H hG => ⟨Nat.le_refl _, xs, hG, rfl⟩
  yields := fun i H x H' _ hG hy => by
    obtain ⟨T, v, e1, e2, e3, e4⟩ := hy
    exact ⟨T, _, v, e1, e2, e3, rfl, e4 xs hG⟩
end TK

namespace TK
open PySem PySem.Spec PyProof.Rows L2
/-! ### max(xs, default=d), min(xs, default=d) of ints -/
theorem hold_ints {h : Heap} : ∀ {us : List Value} {ns : List Int}, IntsAre us ns → ∃ as, ReadsAll h us (ns.map PySem.W.Datum.toD) as
  | _, _, .nil => ⟨[], .nil⟩
  | _, _, .cons n t r => by
    obtain ⟨as, ra⟩ := hold_ints (h := h) r
    exact ⟨[] ++ as, .cons (.int n t) ra⟩
theorem hold_int {h : Heap} {v : Value} {m : Int} (H : PySem.W.Holds h v m) : ∃ t, v = Value.int m t := by
  obtain ⟨as, r⟩ := H
  have r : Reads h v (.int m) as := r
  cases r with
  | int i t => exact ⟨t, rfl⟩
theorem maxOf_is : ∀ (ys : List Int) (y : Int), PySem.W.maxOf y ys ∈ y :: ys ∧ ∀ z ∈ y :: ys, z ≤ PySem.W.maxOf y ys
  | [], y => ⟨List.mem_cons_self .., fun z hz => by cases List.mem_singleton.mp hz; exact Int.le_refl _⟩
  | a :: ys, y => by
    have e : PySem.W.maxOf y (a :: ys) = PySem.W.maxOf (if y < a then a else y) ys := by
      show List.foldl _ (if decide (y < a) = true then a else y) ys = _
      by_cases h : y < a
      · rw [if_pos (decide_eq_true h), if_pos h]; rfl
      · rw [if_neg (by simpa using h), if_neg h]; rfl
    obtain ⟨h1, h2⟩ := maxOf_is ys (if y < a then a else y)
    rw [e]
    by_cases h : y < a
    · rw [if_pos h] at h1 h2 ⊢
      refine ⟨?_, fun z hz => ?_⟩
      · exact List.mem_cons_of_mem _ h1
      · rcases List.mem_cons.mp hz with q | q
        · have := h2 a (List.mem_cons_self ..)
          omega
        · exact h2 z q
    · rw [if_neg h] at h1 h2 ⊢
      refine ⟨?_, fun z hz => ?_⟩
      · rcases List.mem_cons.mp h1 with q | q
        · rw [q]; exact List.mem_cons_self ..
        · exact List.mem_cons_of_mem _ (List.mem_cons_of_mem _ q)
      · rcases List.mem_cons.mp hz with q | q
        · rw [q]; exact h2 y (List.mem_cons_self ..)
        · rcases List.mem_cons.mp q with q | q
          · have := h2 y (List.mem_cons_self ..)
            omega
          · exact h2 z (List.mem_cons_of_mem _ q)
theorem minOf_is : ∀ (ys : List Int) (y : Int), PySem.W.minOf y ys ∈ y :: ys ∧ ∀ z ∈ y :: ys, PySem.W.minOf y ys ≤ z
  | [], y => ⟨List.mem_cons_self .., fun z hz => by cases List.mem_singleton.mp hz; exact Int.le_refl _⟩
  | a :: ys, y => by
    have e : PySem.W.minOf y (a :: ys) = PySem.W.minOf (if a < y then a else y) ys := by
      show List.foldl _ (if decide (a < y) = true then a else y) ys = _
      by_cases h : a < y
      · rw [if_pos (decide_eq_true h), if_pos h]; rfl
      · rw [if_neg (by simpa using h), if_neg h]; rfl
    obtain ⟨h1, h2⟩ := minOf_is ys (if a < y then a else y)
    rw [e]
    by_cases h : a < y
    · rw [if_pos h] at h1 h2 ⊢
      refine ⟨?_, fun z hz => ?_⟩
      · exact List.mem_cons_of_mem _ h1
      · rcases List.mem_cons.mp hz with q | q
        · have := h2 a (List.mem_cons_self ..)
          omega
        · exact h2 z q
    · rw [if_neg h] at h1 h2 ⊢
      refine ⟨?_, fun z hz => ?_⟩
      · rcases List.mem_cons.mp h1 with q | q
        · rw [q]; exact List.mem_cons_self ..
        · exact List.mem_cons_of_mem _ (List.mem_cons_of_mem _ q)
      · rcases List.mem_cons.mp hz with q | q
        · rw [q]; exact h2 y (List.mem_cons_self ..)
        · rcases List.mem_cons.mp q with q | q
          · have := h2 y (List.mem_cons_self ..)
            omega
          · exact h2 z (List.mem_cons_of_mem _ q)
def rMaxDef (K : PySem.W.Frag) : List V → List V → Hp → VK → Prop := fun vs zs H Q => ∃ (a : Addr) (ns : List Int) (d : V), vs = [V.ref a] ∧ zs = [d] ∧ SqL K H a (ns.map V.int) ∧ (ns = [] → Q d H) ∧ ∀ m, m ∈ ns → (∀ y, y ∈ ns → y ≤ m) → Q (.int m) H
def rMinDef (K : PySem.W.Frag) : List V → List V → Hp → VK → Prop := fun vs zs H Q => ∃ (a : Addr) (ns : List Int) (d : V), vs = [V.ref a] ∧ zs = [d] ∧ SqL K H a (ns.map V.int) ∧ (ns = [] → Q d H) ∧ ∀ m, m ∈ ns → (∀ y, y ∈ ns → m ≤ y) → Q (.int m) H
section
variable {X : Cx}
theorem cr_maxDef (hc : X.calm = true) (hu : X.A.units + 64 < cLine) : CallRK X (.builtin "max") [Str.ofString "default"] (rMaxDef X.K) := by
  intro pins s σ H xs zs us ws Q I rx rz hq
  obtain ⟨a, ns, d, rfl, rfl, hs, q0, q1⟩ := hq
  rw [Vals.ref1 rx]
  cases rz with
  | cons z1 z2 =>
    cases z2
    obtain ⟨its, rv, hl, _⟩ := I.list hs
    refine PySem.W.max_list_datum_default (α := Int) (xs := ns) (I.ok.hd hc) hl.isList (hold_ints rv.ints) (by show X.A.units + 1 + 0 < cLine; omega) (fun e h' tk hk => ⟨d, H, I.kept hk, z1, q0 e⟩) fun y ys i v h' tk e _ hv hk => ?_
    obtain ⟨t, rfl⟩ := hold_int hv
    obtain ⟨m1, m2⟩ := maxOf_is ys y
    exact ⟨.int _, H, I.kept hk, ⟨_, rfl⟩, q1 _ (by rw [e]; exact m1) fun z hz => m2 z (by rw [e] at hz; exact hz)⟩
theorem cr_minDef (hc : X.calm = true) (hu : X.A.units + 64 < cLine) : CallRK X (.builtin "min") [Str.ofString "default"] (rMinDef X.K) := by
  intro pins s σ H xs zs us ws Q I rx rz hq
  obtain ⟨a, ns, d, rfl, rfl, hs, q0, q1⟩ := hq
  rw [Vals.ref1 rx]
  cases rz with
  | cons z1 z2 =>
    cases z2
    obtain ⟨its, rv, hl, _⟩ := I.list hs
    refine PySem.W.min_list_datum_default (α := Int) (xs := ns) (I.ok.hd hc) hl.isList (hold_ints rv.ints) (by show X.A.units + 1 + 0 < cLine; omega) (fun e h' tk hk => ⟨d, H, I.kept hk, z1, q0 e⟩) fun y ys i v h' tk e _ hv hk => ?_
    obtain ⟨t, rfl⟩ := hold_int hv
    obtain ⟨m1, m2⟩ := minOf_is ys y
    exact ⟨.int _, H, I.kept hk, ⟨_, rfl⟩, q1 _ (by rw [e]; exact m1) fun z hz => m2 z (by rw [e] at hz; exact hz)⟩
end
/-! ### t[::-1] of a tuple -/
section
variable {prog : Program} {w : World} {A : Around} {E : Value → Shared → Prop} {s : Shared}
theorem places_rev (n : Nat) : Builtin.Slice.slicePlaces ((n : Int) - 1) (-1) (-1) = n := by
  unfold Builtin.Slice.slicePlaces
  rw [if_neg (by decide)]
  by_cases h : n = 0
  · subst h; rfl
  · rw [if_pos (by omega), show -(-1 : Int) = 1 from rfl, Int.ediv_one]
    omega
theorem applied_rev {sl : Addr} {vl vu vs : Value} {n : Nat} {Q : Int × Int × Nat → Shared → Prop} (hs : s.heap.IsSliceOf sl vl vu vs) (pl : IsPart vl none) (pu : IsPart vu none) (ps : IsPart vs (some (-1)))
    (h : Q ((n : Int) - 1, -1, n) s) : wpAny (model prog w) A (Builtin.Slice.sliceApplied (.ref sl) (pure (n : Int))) Q E s := by
  obtain ⟨ob, go, _, gd⟩ := id hs
  unfold Builtin.Slice.sliceApplied Builtin.Slice.sliceFields
  refine wpAny_bind (wpAny_bind (wpAny_field go gd (x := vl) rfl (wpAny_bind (wpAny_field go gd (x := vu) rfl (wpAny_bind (wpAny_field go gd (x := vs) rfl (wpAny_pure ?_)))))))
  refine wpAny_bind (HT.slicePart_ ps ?_)
  show wpAny _ _ (if ((-1 : Int) == 0) = true then _ else _) _ _ s
  rw [if_neg (by decide)]
  refine wpAny_bind (HT.slicePart_ pl (wpAny_bind (HT.slicePart_ pu (wpAny_bind (wpAny_pure ?_)))))
  show wpAny _ _ (pure ((n : Int) - 1, (-1 : Int), Builtin.Slice.slicePlaces ((n : Int) - 1) (-1) (-1))) _ _ s
  rw [places_rev]
  exact wpAny_pure h
theorem fm_congr {α β : Type} {f g : α → Option β} : ∀ {l : List α}, (∀ x ∈ l, f x = g x) → l.filterMap f = l.filterMap g
  | [], _ => rfl
  | x :: r, h => by
    rw [List.filterMap_cons, List.filterMap_cons, h x (List.mem_cons_self ..), fm_congr fun y hy => h y (List.mem_cons_of_mem _ hy)]
theorem pick_rev (xs : Array Value) : ((List.range xs.size).filterMap fun (m : Nat) => xs[((xs.size : Int) - 1 + (m : Int) * (-1)).toNat]?).toArray = xs.toList.reverse.toArray := by
  have e : ((List.range xs.size).filterMap fun (m : Nat) => xs[((xs.size : Int) - 1 + (m : Int) * (-1)).toNat]?) = ((List.range xs.size).map fun k => xs.size - 1 - k).filterMap (xs[·]?) := by
    rw [List.filterMap_map]
    refine fm_congr fun m hm => ?_
    have := List.mem_range.mp hm
    show xs[_]? = xs[xs.size - 1 - m]?
    congr 1
    omega
  rw [e, PySem.W.krv_range, List.filterMap_reverse, PySem.W.krv_all]
theorem getItem_tup_rev {t sl : Addr} {items : Array Value} {vl vu vs : Value} {Q : Value → Shared → Prop} (ht : IsTup s.heap t items) (hs : s.heap.IsSliceOf sl vl vu vs) (pl : IsPart vl none) (pu : IsPart vu none) (ps : IsPart vs (some (-1)))
    (h : Q (.ref s.heap.objs.size) { s with heap := s.heap.push { cls := .type "tuple", data := .seq items.toList.reverse.toArray } }) (hsz : items.size ≤ sizeLine) : wpAny (model prog w) A (getItem (.ref t) (.ref sl)) Q E s := by
  have small : sizeOk (.seq items.toList.reverse.toArray) := by
    show items.toList.reverse.toArray.size ≤ sizeLine
    rw [List.size_toArray, List.length_reverse, Array.length_toList]
    exact hsz
  obtain ⟨ob, go, gc, gd⟩ := id hs
  unfold getItem
  try with_reducible refine wpAny_holding ?_
  first | refine wpAny_bind (wpAny_pure ?_) | skip
  refine wpAny_bind (wpAny_sequenceKey ht.typeIs (by decide) (wpAny_bind (wpAny_callSpecial?_slot (name := Str.ofString "__getitem__") ht.typeIs PyProof.Rows.slot_tuple_getitem (wpAny_call_entry PyProof.Rows.slot_tuple_getitem ht.typeIs entry_tuple_getitem ?_ (args_tuple_getitem _ _)))))
  show wpAny _ _ (Builtin.Tuple.tupleItemsOf (.ref t) >>= _) _ _ s
  refine wpAny_bind (tupleItemsOf_ ht (wpAny_bind (wpAny_typeOf ⟨ob, go, gc⟩ ?_)))
  rw [if_pos (by decide)]
  refine wpAny_bind (applied_rev hs pl pu ps ?_)
  show wpAny _ _ (if (((items.size : Int) - 1) == 0 && (-1 : Int) == 1 && items.size == items.size) = true then _ else _) _ _ s
  rw [if_neg (by rw [show ((-1 : Int) == 1) = false from rfl, Bool.and_false, Bool.false_and]; decide), pick_rev]
  first
    | exact wpAny_bind (m := Builtin.Tuple.tupleExact _) (wpAny_newObj_type (wpAny_pure ⟨_, rfl, wpAny_pure h⟩) small)
    | exact wpAny_bind (m := Builtin.Tuple.tupleExact _) (wpAny_newObj_type (wpAny_bind (wpAny_pure (wpAny_pure ⟨_, rfl, wpAny_pure h⟩))) small)
    | exact wpAny_bind (wpAny_bind (m := Builtin.Tuple.tupleExact _) (wpAny_newObj_type (wpAny_pure (wpAny_pure ⟨_, rfl, wpAny_pure h⟩)) small))
    | exact wpAny_bind (wpAny_bind (m := Builtin.Tuple.tupleExact _) (wpAny_newObj_type (wpAny_pure ⟨_, rfl, wpAny_pure h⟩) small))
end
def tRevT (K : PySem.W.Frag) (te : TE) : TE := fun σ H Q => te σ H fun x H1 => ∃ a xs, x = .ref a ∧ SqT K H1 a xs ∧ ∀ p, H1 p = none → Q (.ref p) (upd H1 p (.tup xs.reverse))
theorem pe_revT {X : Cx} {e : Expr} {te : TE} {k : Nat} {p1 p2 p3 pos : Pos} (he : PE X e te) : PE X (.Subscript e (.Slice none none (some (.UnaryOp .USub (.Constant (.int 1) k p1) p2)) p3) pos) (tRevT X.K te) := by
  refine ⟨fun pins s σ H Q I h => Subscript_ (thn (he.run pins s σ H _ I h) fun v s1 ⟨x, H1, I1, r1, a, xs, ex, hx, q⟩ => ?_)⟩
  subst ex
  cases r1
  have one : PO X (some (.UnaryOp .USub (.Constant (.int 1) k p1) p2)) (tPart (tUn (rU fun i => .int (-i)) (tC (.int 1)))) := po_some (pe_un un_neg pe_int)
  refine wpAny_Slice (thn (po_none.run pins s1 σ H1 (fun o G => o = none ∧ G = H1) I1 ⟨rfl, rfl⟩) fun vl s2 ⟨l, H2, I2, pl, el, e2⟩ => ?_)
  subst el e2
  refine thn (po_none.run pins s2 σ H2 (fun o G => o = none ∧ G = H2) I2 ⟨rfl, rfl⟩) fun vu s3 ⟨u, H3, I3, pu, eu, e3⟩ => ?_
  subst eu e3
  refine thn (one.run pins s3 σ H3 (fun o G => o = some (-1) ∧ G = H3) I3 ⟨1, rfl, -1, rfl, rfl, rfl⟩) fun vs s4 ⟨o, H4, I4, ps, eo, e4⟩ => ?_
  subst eo e4
  have J : Inv X pins σ H4 { s4 with heap := s4.heap.push { cls := .type "slice", data := .fields #[vl, vu, vs] } } := I4.kept (t' := s4.toks) fun b ob q => Heap.get?_push_of_some _ q
  obtain ⟨itm, r, ht, hz⟩ := J.tuple hx
  have hlen := r.length
  show wpAny (model X.prog X.w) X.A (subscriptTail e (.Slice none none (some (.UnaryOp .USub (.Constant (.int 1) k p1) p2)) p3) (.ref a) (.ref s4.heap.objs.size)) (EP X pins σ Q) X.xe { s4 with heap := s4.heap.push { cls := .type "slice", data := .fields #[vl, vu, vs] } }
  refine tail_any (ops := [.ref a, .ref s4.heap.objs.size]) ht.typeIs PyProof.Rows.slot_tuple_getitem.lookup ?_ (by with_unfolding_all rfl)
  refine getItem_tup_rev ht (Heap.IsSliceOf.new _ vl vu vs) pl pu ps ?_ (by rw [List.size_toArray]; omega)
  refine ⟨.ref _, _, J.laid (t' := s4.toks) (o := .tup xs.reverse) (fun b ob q => Heap.get?_push_of_some _ q) (Nat.le_refl _) ?_, rfl, q _ (J.hok.fresh (Nat.le_refl _))⟩
  exact ⟨by rw [List.length_reverse]; exact hz, _, r.reverse, IsTup.new _ _⟩
end TK

namespace TK
open PySem PySem.Spec PyProof.Rows L2
section
variable {X : Cx}
/-! ### a word of one's own in the middle; two ways to read the same text -/
theorem ps_cut {st : Stmt} {t : TS} (h : PS X st t) : PS X st (fun D σ H => ∃ R : L2.St → Hp → Prop, t { D with nx := R } σ H ∧ ∀ σ' H', R σ' H' → D.nx σ' H') :=
  ⟨fun pins s σ H D I ⟨R, q, k⟩ => thn (h.run pins s σ H _ I q) fun f s' z => by
    cases f with
    | next => obtain ⟨σ', H', I', r⟩ := z; exact ⟨σ', H', I', k _ _ r⟩
    | brk => exact z
    | cont => exact z
    | ret u => exact z⟩
theorem pe_cut {e : Expr} {t : TE} (h : PE X e t) : PE X e (fun σ H Q => ∃ R : VK, t σ H R ∧ ∀ v H', R v H' → Q v H') :=
  ⟨fun pins s σ H Q I ⟨R, q, k⟩ => thn (h.run pins s σ H _ I q) fun v s' z => by
    obtain ⟨x, H', I', r, q'⟩ := z
    exact ⟨x, H', I', r, k _ _ q'⟩⟩
theorem pt_cut {e : Expr} {t : TT} (h : PT X e t) : PT X e (fun σ H Q => ∃ R : Bool → Hp → Prop, t σ H R ∧ ∀ b H', R b H' → Q b H') :=
  ⟨fun pins s σ H Q I ⟨R, q, k⟩ => thn (h.run pins s σ H _ I q) fun v s' z => by
    obtain ⟨H', I', q'⟩ := z
    exact ⟨H', I', k _ _ q'⟩⟩
theorem pi_or {tg it : Expr} {w1 w2 : TI} (h1 : PI X tg it w1) (h2 : PI X tg it w2) : PI X tg it (fun σ H R => w1 σ H R ∨ w2 σ H R) :=
  ⟨fun pins s σ H R I h => h.elim (h1.run pins s σ H R I) (h2.run pins s σ H R I)⟩
theorem ps_or {st : Stmt} {t1 t2 : TS} (h1 : PS X st t1) (h2 : PS X st t2) : PS X st (fun D σ H => t1 D σ H ∨ t2 D σ H) :=
  ⟨fun pins s σ H D I h => h.elim (h1.run pins s σ H D I) (h2.run pins s σ H D I)⟩
theorem pe_or2 {e : Expr} {t1 t2 : TE} (h1 : PE X e t1) (h2 : PE X e t2) : PE X e (fun σ H Q => t1 σ H Q ∨ t2 σ H Q) :=
  ⟨fun pins s σ H Q I h => h.elim (h1.run pins s σ H Q I) (h2.run pins s σ H Q I)⟩
theorem pt_or2 {e : Expr} {t1 t2 : TT} (h1 : PT X e t1) (h2 : PT X e t2) : PT X e (fun σ H Q => t1 σ H Q ∨ t2 σ H Q) :=
  ⟨fun pins s σ H Q I h => h.elim (h1.run pins s σ H Q I) (h2.run pins s σ H Q I)⟩
end
end TK

namespace TK
open PySem PySem.Spec PyProof.Rows L2
section
variable {X : Cx}
/-! sum(t), a tuple of ints -/
def rSumT (K : PySem.W.Frag) : List V → Hp → VK → Prop := fun vs H Q => ∃ (a : Addr) (ns : List Int), vs = [V.ref a] ∧ SqT K H a (ns.map V.int) ∧ Q (.int ns.sum) H
theorem cr_sumT (hc : X.calm = true) : CallR X (.builtin "sum") (rSumT X.K) := by
  intro pins s σ H vs us Q I r h
  obtain ⟨a, ns, rfl, hs, q⟩ := h
  obtain ⟨itm, rv, p, _⟩ := I.tuple hs
  rw [Vals.ref1 r]
  obtain ⟨xs, e⟩ := rv.ints.allInts.items
  have hn : numsOf itm.toArray.toList = ns := rv.ints.numsOf
  rw [e, nums_intItems] at hn
  refine PySem.W.ktm_sumG (I.ok.hd hc) (e ▸ p) fun h' tk t' hk => ?_
  rw [preSum_eq, List.take_of_length_le (by simp), hn]
  exact ⟨.int _, H, I.kept hk, ⟨_, rfl⟩, q⟩
/-- *e within a comprehension -/
theorem pa_starK {K : PySem.W.Frag} {e : Expr} {es : List Expr} {te : TE} {t : TA} {p : Pos} (h : X.K = K) (he : PE X e te) (hr : PA X es t) (hs : starEach (.Starred e p :: es) X.env = (true, eval e X.env) :: starEach es X.env := by rfl) : PA X (.Starred e p :: es) (StX.tStar K te t) := h ▸ StX.pa_star he hr hs
theorem op_eqDK {K : PySem.W.Frag} (h : X.K = K) (hu : X.A.units + 64 < cLine) : OpR X (compareOp .Eq) (rEqD K) := h ▸ op_eqD hu
theorem op_neDK {K : PySem.W.Frag} (h : X.K = K) (hu : X.A.units + 64 < cLine) : OpR X (compareOp .NotEq) (rNeD K) := h ▸ op_neD hu
/-! ### objects at a row of addresses -/
def At (H : Hp) (us : List Addr) (os : List HO) : Prop := us.length = os.length ∧ ∀ (i : Nat) (u : Addr) (o : HO), us[i]? = some u → os[i]? = some o → H u = some o
theorem At.same {H H' : Hp} {us : List Addr} {os : List HO} (h : At H us os) (s : Same H H') : At H' us os := ⟨h.1, fun i u o a b => s _ _ (h.2 i u o a b)⟩
theorem At.nil {H : Hp} : At H [] [] := ⟨rfl, fun i u o a _ => by simp at a⟩
theorem At.append {H : Hp} {us vs : List Addr} {os ps : List HO} (h : At H us os) (k : At H vs ps) : At H (us ++ vs) (os ++ ps) := by
  refine ⟨by rw [List.length_append, List.length_append, h.1, k.1], fun i u o a b => ?_⟩
  by_cases hi : i < us.length
  · rw [List.getElem?_append_left hi] at a
    rw [List.getElem?_append_left (by rw [← h.1]; exact hi)] at b
    exact h.2 i u o a b
  · rw [List.getElem?_append_right (by omega)] at a
    rw [List.getElem?_append_right (by rw [← h.1]; omega), ← h.1] at b
    exact k.2 _ u o a b
theorem At.one {H : Hp} {u : Addr} {o : HO} (e : H u = some o) : At H [u] [o] := ⟨rfl, fun i u' o' a b => by
  match i, a, b with
  | 0, a, b =>
    cases a
    cases b
    exact e⟩
theorem At.get {H : Hp} {us : List Addr} {os : List HO} {i : Nat} {x : V} (h : At H us os) (e : (us.map V.ref)[i]? = some x) : ∃ (u : Addr) (o : HO), x = .ref u ∧ us[i]? = some u ∧ os[i]? = some o ∧ H u = some o := by
  rw [List.getElem?_map] at e
  cases ht : us[i]? with
  | none => rw [ht] at e; cases e
  | some t =>
    rw [ht] at e
    cases e
    have hi : i < os.length := by rw [← h.1]; exact (List.getElem?_eq_some_iff.mp ht).1
    exact ⟨t, os[i], rfl, rfl, List.getElem?_eq_getElem hi, h.2 i t _ ht (List.getElem?_eq_getElem hi)⟩
/-- a list elsewhere is written anew -/
theorem At.wrote {H : Hp} {us : List Addr} {os : List HO} {D : Addr} {xs : List V} {o : HO} (h : At H us os) (t : ∀ p ∈ os, ∃ ys, p = HO.tup ys) (e : H D = some (.lst xs)) : At (upd H D o) us os := ⟨h.1, fun i u p a b => by
  have := h.2 i u p a b
  rw [upd_ne fun z => ?_]
  · exact this
  · subst z
    obtain ⟨ys, rfl⟩ := t p (List.mem_of_getElem? b)
    rw [e] at this
    cases this⟩
end
end TK

namespace TK
open PySem PySem.Spec PyProof.Rows L2
/-! ### zip(tuple, list) -/
def ItzM (K : PySem.W.Frag) (a b : Addr) : It :=
  ⟨fun i H => ∃ xs ys : List V, SqT K H a xs ∧ SqL K H b ys ∧ i < xs.length ∧ i < ys.length,
    fun i H v H' => ∃ T x y, v = .ref T ∧ H T = none ∧ H' = upd H T (.tup [x, y]) ∧ (∀ xs, SqT K H a xs → xs[i]? = some x) ∧ ∀ ys, SqL K H b ys → ys[i]? = some y,
    fun i H => ∃ xs ys : List V, SqT K H a xs ∧ SqL K H b ys ∧ i ≤ xs.length ∧ i ≤ ys.length ∧ (i = xs.length ∨ i = ys.length)⟩
theorem ne_nat {x y : Nat} (h : x < y ∨ y < x) : x ≠ y := by omega
theorem no_two {x p q : Nat} (h1 : x < p ∨ p < x) (h2 : x < q ∨ q < x) : x ∉ [p, q] := by
  intro h
  rcases List.mem_cons.mp h with z | z
  · exact ne_nat h1 z
  · exact ne_nat h2 (List.mem_singleton.mp z)
theorem sep_zip (I a b : Nat) (la : a < I) (lb : b < I) : ZipSep2 (I + 4) (I + 2) (I + 3) I (I + 1) [I, a] [I + 1, b] :=
  ⟨ne_nat (x := I + 2) (y := I + 4) (by omega), ne_nat (x := I + 3) (y := I + 4) (by omega), ne_nat (x := I + 2) (y := I + 3) (by omega), ne_nat (x := I + 2) (y := I) (by omega), List.mem_cons_self .., no_two (x := I + 4) (by omega) (by omega), no_two (x := I + 3) (by omega) (by omega),
    ne_nat (x := I + 2) (y := I + 1) (by omega), List.mem_cons_self .., no_two (x := I + 4) (by omega) (by omega), no_two (x := I + 3) (by omega) (by omega), no_two (x := I) (by omega) (by omega), no_two (x := I + 1) (by omega) (by omega)⟩
theorem turn_zipM {P : Program} {w : World} {K : PySem.W.Frag} {elts : List Expr} {kk : Nat} {tpos : Pos} {a b z TI TO i1 i2 : Addr} (S : ZipSep2 z TI TO i1 i2 [i1, a] [i2, b]) (na : a ≠ i1) (nb : b ≠ i2) :
    Turn P w K (.Tuple elts kk tpos) (ItzM K a b) [z, TI, TO, i1, i2] z (fun i h => IsZip h z TI TO .none ∧ IsTupOf2 h TI (.ref i1) (.ref i2) ∧ (∃ x y, IsTupOf2 h TO x y) ∧ h.IsTupleIter i1 a i ∧ h.IsListIter i2 b i) where
  mem := by simp
  obj := fun i h st c hc => by
    obtain ⟨hz, hTI, ⟨x, y, hTO⟩, ⟨o1, e1, _, d1⟩, ⟨o2, e2, _, d2⟩⟩ := st
    have e' : c = z ∨ c = TI ∨ c = TO ∨ c = i1 ∨ c = i2 := by simpa using hc
    rcases e' with rfl | rfl | rfl | rfl | rfl
    · exact ⟨_, hz, fun v q => nomatch q⟩
    · exact ⟨_, hTI, fun v q => nomatch q⟩
    · exact ⟨_, hTO, fun v q => nomatch q⟩
    · exact ⟨o1, e1, fun v q => by rw [d1] at q; cases q⟩
    · exact ⟨o2, e2, fun v q => by rw [d2] at q; cases q⟩
  keep := fun i h h' st k => by
    obtain ⟨hz, hTI, ⟨x, y, hTO⟩, h1, h2⟩ := st
    exact ⟨k z (by simp) _ hz, k TI (by simp) _ hTI, ⟨x, y, k TO (by simp) _ hTO⟩, h1.at fun o q => k i1 (by simp) o q, h2.at fun o q => k i2 (by simp) o q⟩
  item := by
    intro X hP hw hK hc i pins s σ H E I hf st hg
    subst hP hw hK
    obtain ⟨hz, hTI, ⟨x0, y0, hTO⟩, h1, h2⟩ := st
    obtain ⟨xs, ys, hqx, hqy, lx, ly⟩ := hg
    obtain ⟨its, rv, p, _⟩ := I.tuple hqx
    obtain ⟨its2, rv2, p2, _⟩ := I.list hqy
    have hzl : z < s.heap.objs.size := Heap.lt_size hz
    have n1 : its.toArray.size = xs.length := by rw [List.size_toArray, ← rv.length]
    have n2 : its2.toArray.size = ys.length := by rw [List.size_toArray, ← rv2.length]
    have D1 := Draws.tuple (prog := X.prog) (w := X.w) (A := X.A.in1) (I.ok.hd hc) i1 a na its.toArray
    have D2 := Draws.list (prog := X.prog) (w := X.w) (A := X.A.in1) (I.ok.hd hc) i2 b nb its2.toArray
    refine wpAny_pyNext_zipD2_item S D1 D2 hz hTI hTO ⟨h1, p⟩ ⟨h2, p2.isList⟩ (by rw [n1]; exact lx) (by rw [n2]; exact ly) fun u u2 h' tk hu hu2 z' TO' d1 d2 hT hsz hk => ?_
    refine ⟨_, rfl, wpAny_letOwnedTupleGo_zip (s := { s with heap := h', toks := tk }) z' fun h'' z'' sb => ?_⟩
    obtain ⟨x, hx, ru⟩ : ∃ x, xs[i]? = some x ∧ RelV x u := by
      obtain ⟨v, hv, r⟩ := rv.get (List.getElem?_eq_getElem lx)
      have : its[i]? = some u := by simpa using hu
      rw [this] at hv
      cases hv
      exact ⟨_, List.getElem?_eq_getElem lx, r⟩
    obtain ⟨y, hy, ru2⟩ : ∃ y, ys[i]? = some y ∧ RelV y u2 := by
      obtain ⟨v, hv, r⟩ := rv2.get (List.getElem?_eq_getElem ly)
      have : its2[i]? = some u2 := by simpa using hu2
      rw [this] at hv
      cases hv
      exact ⟨_, List.getElem?_eq_getElem ly, r⟩
    have hT2 : h''.get? s.heap.objs.size = some { cls := .type "tuple", data := .seq #[u, u2] } := (sb.2 _ (Nat.ne_of_gt hzl)).trans hT
    have new : ObjOk X.prog X.w (upd H s.heap.objs.size (.tup [x, y])) h'' s.heap.objs.size (.tup [x, y]) :=
      ⟨by show 2 ≤ sizeLine; decide, [u, u2], .cons ru (.cons ru2 .nil), ⟨_, hT2, rfl, _, rfl⟩⟩
    have I1 : Inv X pins σ (upd H s.heap.objs.size (.tup [x, y])) { s with heap := h'', toks := tk } :=
      I.turnedNew (ch := [z, TI, TO, i1, i2]) (fun c o hb q => (sb.2 c (fun q' => hb (by simp [q']))).trans (hk c o (fun q' => hb (by simp [q'])) (fun q' => hb (by simp [q'])) (fun q' => hb (by simp [q'])) (fun q' => hb (by simp [q'])) q)) hf (Nat.le_refl _) new
    refine ⟨.ref s.heap.objs.size, _, I1, rfl, ⟨_, x, y, rfl, I.hok.fresh (Nat.le_refl _), rfl, fun l hl => by rw [I.tuple_inj hl hqx]; exact hx, fun l hl => by rw [I.list_inj hl hqy]; exact hy⟩, ⟨z'', ?_, ⟨u, u2, ?_⟩, ?_, ?_⟩, fun c hcm => ?_⟩
    · exact (sb.2 _ S.TIz).trans (hk _ _ S.TIz S.TITO S.TIi1 S.TIi2 hTI)
    · exact (sb.2 _ S.TOz).trans TO'
    · exact d1.1.at fun o q => (sb.2 _ (Ne.symm S.zi1)).trans q
    · exact d2.1.at fun o q => (sb.2 _ (Ne.symm S.zi2)).trans q
    · have hlt : c < s.heap.objs.size := by
        have e' : c = z ∨ c = TI ∨ c = TO ∨ c = i1 ∨ c = i2 := by simpa using hcm
        rcases e' with rfl | rfl | rfl | rfl | rfl
        · exact hzl
        · exact Heap.lt_size hTI
        · exact Heap.lt_size hTO
        · obtain ⟨_, e1, _⟩ := h1; exact Heap.lt_size e1
        · obtain ⟨_, e2, _⟩ := h2; exact Heap.lt_size e2
      rw [upd_ne (Nat.ne_of_lt hlt)]
      exact (hf c hcm).1
  done := by
    intro X hP hw hK hc i pins s σ H E I hf st hg
    subst hP hw hK
    obtain ⟨hz, hTI, ⟨x0, y0, hTO⟩, h1, h2⟩ := st
    obtain ⟨xs, ys, hqx, hqy, le1, le2, hend⟩ := hg
    obtain ⟨its, rv, p, _⟩ := I.tuple hqx
    obtain ⟨its2, rv2, p2, _⟩ := I.list hqy
    have n1 : its.toArray.size = xs.length := by rw [List.size_toArray, ← rv.length]
    have n2 : its2.toArray.size = ys.length := by rw [List.size_toArray, ← rv2.length]
    have D1 := Draws.tuple (prog := X.prog) (w := X.w) (A := X.A.in1) (I.ok.hd hc) i1 a na its.toArray
    have D2 := Draws.list (prog := X.prog) (w := X.w) (A := X.A.in1) (I.ok.hd hc) i2 b nb its2.toArray
    exact wpAny_pyNext_zipD2_end S D1 D2 hz hTI hTO ⟨h1, p⟩ ⟨h2, p2.isList⟩ (by rw [n1]; exact le1) (by rw [n2]; exact le2) (by rw [n1, n2]; exact hend) fun h' tk hk => ⟨rfl, I.turnedL (ch := [z, TI, TO, i1, i2]) (fun c o hb q =>
      hk c o (fun q' => hb (by simp [q'])) (fun q' => hb (by simp [q'])) (fun q' => hb (by simp [q'])) (fun q' => hb (by simp [q'])) q) hf⟩
  self := fun A i s Q E st h => wpAny_pyIter_zip st.1 h
def iZipM (K : PySem.W.Frag) (ta : TA) : TI := fun σ H R => ta σ H fun vs H1 => ∃ a b xs ys, vs = [.ref a, .ref b] ∧ SqT K H1 a xs ∧ SqL K H1 b ys ∧ R (ItzM K a b) H1
theorem pi_zipM {X : Cx} {e e2 : Expr} {ta : TA} {p pos tpos : Pos} {elts : List Expr} {kk : Nat} (hg : Gl X "zip") (hm : X.mg "zip" = none) (ha : PA X [e, e2] ta)
    (hs : starEach [e, e2] X.env = (false, eval e X.env) :: starEach [e2] X.env := by rfl) (hpl : (backTo pos (starEach [e2] X.env)).any (·.1) = false := by rfl) :
    PI X (.Tuple elts kk tpos) (.Call (.Name "zip" p) [e, e2] [] pos) (iZipM X.K ta) := by
  refine ⟨fun pins s σ H R I h => Call_ (ld_blt I hg hm PyProof.Rows.boot_zip (PyProof.Rows.callWith_type1 (thn (ha.run pos pins s σ H _ I h) fun us s1 ⟨vs, H1, I1, r1, q1⟩ => ?_) hs hpl))⟩
  obtain ⟨a, b, xs, ys, rfl, hqx, hqy, q⟩ := q1
  obtain ⟨u1, u2, rfl, r, r'⟩ := r1.two
  cases r
  cases r'
  obtain ⟨its, rv, p1, _⟩ := I1.tuple hqx
  obtain ⟨its2, rv2, p2, _⟩ := I1.list hqy
  have la : a < s1.heap.objs.size := by obtain ⟨_, q, _⟩ := p1; exact Heap.lt_size q
  have lb : b < s1.heap.objs.size := p2.lt
  refine zip_begins2 (begins_tuple a its.toArray) (begins_list b its2.toArray) p1 p2.isList fun h' hz hTI hTO h1 h2 hsz hk => wpAny_pyIter_zip hz ?_
  have I2 : Inv X pins σ H1 { s1 with heap := h' } := I1.kept (t' := s1.toks) hk
  refine ⟨s1.heap.objs.size + 4, [s1.heap.objs.size + 4, s1.heap.objs.size + 2, s1.heap.objs.size + 3, s1.heap.objs.size, s1.heap.objs.size + 1], _, _, H1, rfl, I2, turn_zipM (sep_zip _ _ _ la lb) (Nat.ne_of_lt la) (Nat.ne_of_lt (Nat.lt_succ_of_lt lb)), ⟨hz, hTI, ⟨_, _, hTO⟩, ⟨_, h1, rfl, rfl⟩, ⟨_, h2, rfl, rfl⟩⟩, fun c hcm => ?_, q⟩
  have hle : s1.heap.objs.size ≤ c := by
    have e' : c = s1.heap.objs.size + 4 ∨ c = s1.heap.objs.size + 2 ∨ c = s1.heap.objs.size + 3 ∨ c = s1.heap.objs.size ∨ c = s1.heap.objs.size + 1 := by simpa using hcm
    rcases e' with rfl | rfl | rfl | rfl | rfl
    · exact Nat.le_add_right _ _
    · exact Nat.le_add_right _ _
    · exact Nat.le_add_right _ _
    · exact Nat.le_refl _
    · exact Nat.le_add_right _ _
  exact I1.fpOk hle (I1.hok.fresh hle)
theorem walk_zipM {K : PySem.W.Frag} {a b : Addr} {xs ys : List V} (hl : xs.length = ys.length) : Walk (ItzM K a b) xs.length (fun H => SqT K H a xs ∧ SqL K H b ys) (YPair (fun i => xs[i]?) (fun i => ys[i]?)) where
  goes := fun i H hi q => ⟨xs, ys, q.1, q.2, hi, by omega⟩
  stops := fun H q => ⟨xs, ys, q.1, q.2, Nat.le_refl _, by omega, .inl rfl⟩
  yields := fun i H v H' _ q y => by
    obtain ⟨T, x, z, h1, h2, h3, h4, h5⟩ := y
    exact ⟨T, x, z, h1, h2, h3, h4 xs q.1, h5 ys q.2⟩
end TK

namespace TK
open PySem PySem.Spec PyProof.Rows L2
/-- a dict comprehension over whatever walks -/
theorem dc_it {J : It} {n : Nat} {G : Hp → Prop} {Y : Nat → Hp → V → Hp → Prop} (w : Walk J n G Y) {g : TG} {tt : TT} {tk tv : TE} {vs : List Nat} {σ : L2.St} {H1 : Hp} {D : Addr} {Qd : Hp → Prop} (Pv : Nat → Hp → Prop) (h0 : Pv 0 (upd H1 D (.dK []))) (hG : ∀ i H, i ≤ n → Pv i H → G H)
    (hs : ∀ i x H H', i < n → Pv i H → Y i H x H' → g x (wipe σ vs) H' fun σ2 H2 => wipe σ2 vs = wipe σ vs ∧ tt σ2 H2 fun b H3 =>
      if b = true then tk σ2 H3 fun y H4 => tv σ2 H4 fun z H5 => ∃ kvs k, y = kV k ∧ H5 D = some (.dK kvs) ∧ kvs.length < sizeLine ∧ Pv (i + 1) (upd H5 D (.dK (putK kvs k z))) else Pv (i + 1) H3) (hd : ∀ H, Pv n H → Qd H) :
    ∃ W : Nat → Nat → Hp → Prop, (∃ m, W 0 m (upd H1 D (.dK []))) ∧ ∀ i m H, W i m H →
      (J.stop i H ∧ Qd H) ∨ (J.go i H ∧ ∃ Nx : Hp → Prop, (∀ H', Nx H' → ∃ m', m' < m ∧ W (i + 1) m' H') ∧ ∀ x H', J.yld i H x H' → g x (wipe σ vs) H' fun σ2 H2 => wipe σ2 vs = wipe σ vs ∧ tt σ2 H2 fun b H3 =>
        if b = true then tk σ2 H3 fun y H4 => tv σ2 H4 fun z H5 => ∃ kvs k, y = kV k ∧ H5 D = some (.dK kvs) ∧ kvs.length < sizeLine ∧ Nx (upd H5 D (.dK (putK kvs k z))) else Nx H3) := by
  refine ⟨fun i m H => m = n - i ∧ i ≤ n ∧ Pv i H, ⟨n, by simp, Nat.zero_le _, h0⟩, ?_⟩
  rintro i m H ⟨rfl, hi, p⟩
  have q := hG i H hi p
  by_cases hlt : i < n
  · exact .inr ⟨w.goes i H hlt q, Pv (i + 1), fun H' p' => ⟨n - (i + 1), by omega, rfl, hlt, p'⟩, fun x H' y => hs i x H H' hlt p (w.yields i H x H' hlt q y)⟩
  · have e : i = n := by omega
    subst e
    exact .inl ⟨w.stops H q, hd H p⟩
end TK

namespace TK
open PySem PySem.Spec PyProof.Rows L2
section
variable {X : Cx}
/-- tuple(a list), the new tuple known to the object -/
theorem call_tuple_frz : CallR X (.type "tuple") (fun xs H Q => ∃ p ys, xs = [.ref p] ∧ SqL X.K H p ys ∧ ∀ (l : Addr) (o : Obj), H l = none → o.cls = .type "tuple" → o.dict = none → Q (.ref l) (upd H l (.frz o (.tup ys)))) := by
  intro pins s σ H xs us Q I r h
  obtain ⟨p, ys, rfl, hq, q⟩ := h
  obtain ⟨u, rfl, rx⟩ := vals1 r
  cases rx
  obtain ⟨its, r', pl, hz⟩ := I.list hq
  have hlen := r'.length
  refine call_tuple_list pl.isList (fun h' kp => ?_) (by simp only [List.size_toArray] <;> omega)
  have I1 : Inv X pins σ H { s with heap := h' } := I.kept (t' := s.toks) kp
  have I2 : Inv X pins σ (upd H h'.objs.size (.frz { cls := .type "tuple", data := .seq its.toArray } (.tup ys))) { s with heap := h'.push { cls := .type "tuple", data := .seq its.toArray } } :=
    I1.laid (t' := s.toks) (fun b o e => Heap.get?_push_of_some _ e) (Nat.le_refl _) (show ObjOk X.prog X.w _ _ _ (.frz _ (.tup ys)) from ⟨Heap.get?_push_size _ rfl, hz, its, r', IsTup.new _ _⟩)
  exact ⟨.ref h'.objs.size, _, I2, rfl, q _ _ (I1.hok.fresh (Nat.le_refl _)) rfl rfl⟩
/-- the value is such a tuple -/
def FrzT (x : V) (H : Hp) : Prop := ∃ p o xs, x = .ref p ∧ H p = some (.frz o (.tup xs)) ∧ o.cls = .type "tuple" ∧ o.dict = none
def tBMF (r : V → List V → Hp → VK → Prop) (to : TE) (t : TA) : TE := fun σ H Q => to σ H fun x H1 => FrzT x H1 ∧ t σ H1 fun xs H2 => r x xs H2 Q
variable {o e : Expr} {es : List Expr} {to : TE} {t : TA} {name : Str} {apos cpos : Pos} {id : String} {r : V → List V → Hp → VK → Prop}
theorem pe_bmF (pa : PlainAttrs "tuple") (slot : Slot "tuple" name id) (hty : typeOf (.builtin id) = pure (.type "method_descriptor")) (hm : MtR X id r) (ho : PE X o to) (ha : PA X (e :: es) t)
    (hbase : attributeBase o name X.env (eval o X.env) = eval o X.env := by rfl)
    (hfew : ((backTo cpos (starEach (e :: es) X.env)).all (fun x => !x.1) && (backToKw cpos (keywordEach [] X.env)).all (fun x => x.1.isSome)
      && decide ((e :: es).length + ([] : List Keyword).length + (if ([] : List Keyword).isEmpty then 0 else 1) < 30)) = true := by rfl)
    (hline : (apos.endLine == cpos.line) = true := by rfl) (hs : starEach (e :: es) X.env = (false, eval e X.env) :: starEach es X.env := by rfl) (hplain : (backTo cpos (starEach es X.env)).any (·.1) = false := by rfl) :
    PE X (.Call (.Attribute o name apos) (e :: es) [] cpos) (tBMF r to t) := by
  refine ⟨fun pins s σ H Q I h => ?_⟩
  refine wpAny_Call_method_late hbase hfew hline rfl (thn (ho.run pins s σ H _ I h) fun v s1 ⟨x, H1, I1, r1, ty, q1⟩ => ?_)
  have h12 : s1.TypeIs v "tuple" ∧ ∀ a, v = .ref a → ∃ ob, s1.heap.get? a = some ob ∧ ob.dict = none := by
    obtain ⟨p, ob, xs, rfl, hp, hc, hd⟩ := ty
    cases r1
    obtain ⟨eo, _⟩ := I1.hok p _ hp
    refine ⟨⟨ob, eo, hc⟩, fun a e => ?_⟩
    cases e
    exact ⟨ob, eo, hd⟩
  refine ⟨"tuple", id, pa, slot, hty, h12.1, h12.2, ?_⟩
  have hA := ha.run cpos pins s1 σ H1 _ I1 q1
  rw [hs] at hA ⊢
  refine Calls.callWith_builtin (by show (false || (backTo cpos (starEach es X.env)).any (·.1)) = false; rw [hplain] <;> rfl) (Calls.evalArgs_plain ?_)
  exact thn hA fun us s2 ⟨vs, H2, I2, r2, q2⟩ => hm pins s2 σ H2 x vs v us Q I2 r1 r2 q2
end
theorem tupFrz {K : PySem.W.Frag} {H : Hp} {a : Addr} {o : Obj} {xs : List V} (h : H a = some (.frz o (.tup xs))) : SqT K H a xs := .inl (.inr ⟨o, h⟩)
end TK

namespace TK
open PySem PySem.Spec PyProof.Rows L2
/-! ### the special methods of an own class -/
structure Own (K : PySem.W.Frag) (C : Addr) (name : Str) (g : Addr) : Prop where
  at_ : PySem.W.findIn K (.ref C) name = some (some (.ref g))
  fn : PySem.W.isFn K (.ref g) = true
def IsIn (H : Hp) (x : V) (C : Addr) : Prop := ∃ a dx fs, x = .ref a ∧ H a = some (.ins C dx fs)
section
variable {X : Cx} {CX : CXT} {C g : Addr} {n : Nat} {fd : FuncData} {ps : List Str} {sp : Sp} {E : XK} {pins : List (Addr × Obj)} {σ : L2.St} {H : Hp} {s : Shared}
theorem run_own {A : Around} {Q : VK} {us : List Value} {vs : List V} (F : FnOk X.prog X.w X.K X.mg X.base CX n g fd ps sp) (hr : Room n A) (e0 : Env0 X.prog X.w X.K X.mg X.base A X.stack s H) (hb : Binds X.K fd ps []) (hx : Passes CX X E)
    (I : Inv X pins σ H s) (r : Vals vs us) (h : sp vs H Q E) : wpAny (model X.prog X.w) A (call (.ref g) us) (EP X pins σ Q) X.xe s := by
  have hl : (us ++ []).length = ps.length := by rw [List.append_nil, ← r.length]; exact F.len _ _ _ _ h
  have hbb := hb s us I.kIn hl
  rw [List.append_nil] at hbb
  refine wpAny_call (codeAny_mono (F.run A X.stack s H ⟨us, []⟩ us vs Q E hr e0 hbb r h) fun r s' hq => ?_)
  cases r with
  | error e => exact hx pins σ H s e s' I hq
  | ok fl =>
    cases fl with
    | ret u => exact I.after hq
    | next => exact False.elim hq
    | brk => exact False.elim hq
    | cont => exact False.elim hq
theorem own_at {a dx : Addr} {fs : List (Str × V)} (I : Inv X pins σ H s) (h : H a = some (.ins C dx fs)) : ∃ ox od, PySem.W.InstAt s.heap a ox C od := by
  obtain ⟨mA, J, _⟩ := ins_get I.hok h
  obtain ⟨od, J, _⟩ := J.look
  exact ⟨_, _, J⟩
/-! o[k] -/
def rOwn (C : Addr) (sp : Sp) (E : XK) : R2 := fun x y H Q => IsIn H x C ∧ sp [x, y] H Q E
def PlainIxO (b : Expr) : Prop := ∀ (x : Addr) (i : Value), subscripted b true (.ref x) i = runValue (.builtin "lifetime.subscript" ⟨[.ref x, i], []⟩)
theorem pe_ixOwn {a b : Expr} {ta tb : TE} {pos : Pos} (c : Own X.K C "__getitem__" g) (cf : PySem.W.fnIn X.K g = true) (F : FnOk X.prog X.w X.K X.mg X.base CX n g fd ps sp) (hr : Room (n + 1) X.A) (hb : Binds X.K fd ps []) (hx : Passes CX X E)
    (ha : PE X a ta) (hb' : PE X b tb) (hs : PlainIxO b) : PE X (.Subscript a b pos) (tOp (rOwn C sp E) ta tb) := by
  refine ⟨fun pins s σ H Q I h => ?_⟩
  refine Subscript_ (binT ha hb' I h fun v u s2 x y H2 I2 rx ry q => ?_)
  obtain ⟨⟨p, dx, fs, rfl, hp⟩, q⟩ := q
  cases rx
  obtain ⟨ox, od, J⟩ := own_at I2 hp
  obtain ⟨m, hF⟩ := I2.fr
  exact PySem.W.sub_K hF I2.ok.mod.kin J c.at_ cf c.fn (run_own F hr.in1 I2.env0.in1 hb hx I2 (vs := [.ref p, y]) (.cons rfl (.cons ry .nil)) q) (hs _ _)
/-! o + p, o * p, o | p: two of one class -/
def rOwn2 (C : Addr) (sp : Sp) (E : XK) : R2 := fun x y H Q => IsIn H x C ∧ IsIn H y C ∧ sp [x, y] H Q E
theorem op_ownBin {op : Operator} (c : Own X.K C (PySem.dunder op.info.2) g) (sf : PySem.W.selfFirst X.K C = true) (F : FnOk X.prog X.w X.K X.mg X.base CX n g fd ps sp) (hr : Room n X.A) (hb : Binds X.K fd ps []) (hx : Passes CX X E) :
    OpR X (binaryOp op) (rOwn2 C sp E) := by
  intro pins s σ H x y v u Q I rx ry h
  obtain ⟨⟨a, dx, fs, rfl, ha⟩, ⟨b, dy, gs, rfl, hb'⟩, q⟩ := h
  cases rx
  cases ry
  obtain ⟨ox, od, J⟩ := own_at I ha
  obtain ⟨ox', od', J'⟩ := own_at I hb'
  obtain ⟨m, hF⟩ := I.fr
  refine PySem.W.binop_K hF I.ok.mod.kin J J'.type sf c.at_ c.fn (wpAny_mono (run_own F hr I.env0 hb hx I (vs := [.ref a, .ref b]) (.cons rfl (.cons rfl .nil)) q) (fun w s' z => ?_) fun _ _ x => x)
  obtain ⟨z', H', I', rz, qz⟩ := z
  exact SlX.cmpback rz ⟨z', H', I', rz, qz⟩
/-! o == p: two of one class -/
theorem op_ownEq {op : CmpOp} (hop : ∀ a b, compareOp op a b = richCompare op a b) (c : Own X.K C (cmpInfo op).2.1 g) (F : FnOk X.prog X.w X.K X.mg X.base CX n g fd ps sp) (hr : Room n X.A) (hb : Binds X.K fd ps []) (hx : Passes CX X E) :
    OpR X (compareOp op) (rOwn2 C sp E) := by
  intro pins s σ H x y v u Q I rx ry h
  obtain ⟨⟨a, dx, fs, rfl, ha⟩, ⟨b, dy, gs, rfl, hb'⟩, q⟩ := h
  cases rx
  cases ry
  obtain ⟨ox, od, J⟩ := own_at I ha
  obtain ⟨ox', od', J'⟩ := own_at I hb'
  obtain ⟨m, hF⟩ := I.fr
  rw [hop]
  refine PySem.W.cmp_K (op := op) (tb := .ref C) hr.units0 hF I.ok.mod.kin J J'.type (by simp [PySem.W.notFirst]) c.at_ c.fn (wpAny_mono (run_own F hr I.env0 hb hx I (vs := [.ref a, .ref b]) (.cons rfl (.cons rfl .nil)) q) (fun w s' z => ?_) fun _ _ x => x)
  obtain ⟨z', H', I', rz, qz⟩ := z
  exact SlX.cmpback rz ⟨z', H', I', rz, qz⟩
/-! x in o, x not in o -/
def rOwnIn (neg : Bool) (C : Addr) (sp : Sp) (E : XK) : R2 := fun x y H Q => IsIn H y C ∧ sp [y, x] H (fun z H' => ∃ b, z = .bl b ∧ Q (.bl (if neg then !b else b)) H') E
theorem op_ownIn (c : Own X.K C "__contains__" g) (F : FnOk X.prog X.w X.K X.mg X.base CX n g fd ps sp) (hr : Room n X.A) (hb : Binds X.K fd ps []) (hx : Passes CX X E) : OpR X (compareOp .In) (rOwnIn false C sp E) := by
  intro pins s σ H x y v u Q I rx ry h
  obtain ⟨⟨a, dx, fs, rfl, ha⟩, q⟩ := h
  cases ry
  obtain ⟨ox, od, J⟩ := own_at I ha
  obtain ⟨m, hF⟩ := I.fr
  refine PySem.W.in_K hF I.ok.mod.kin J c.at_ c.fn (wpAny_mono (run_own F hr I.env0 hb hx I (vs := [.ref a, x]) (.cons rfl (.cons rx .nil)) q) (fun w s' z => ?_) fun _ _ x => x)
  obtain ⟨z', H', I', rz, b, rfl, qz⟩ := z
  cases (show w = Value.bool b from rz)
  exact wpAny_truthy_bool ⟨.bl b, H', I', rfl, by simpa using qz⟩
theorem op_ownNotIn (c : Own X.K C "__contains__" g) (F : FnOk X.prog X.w X.K X.mg X.base CX n g fd ps sp) (hr : Room n X.A) (hb : Binds X.K fd ps []) (hx : Passes CX X E) : OpR X (compareOp .NotIn) (rOwnIn true C sp E) := by
  intro pins s σ H x y v u Q I rx ry h
  obtain ⟨⟨a, dx, fs, rfl, ha⟩, q⟩ := h
  cases ry
  obtain ⟨ox, od, J⟩ := own_at I ha
  obtain ⟨m, hF⟩ := I.fr
  refine PySem.W.notIn_K hF I.ok.mod.kin J c.at_ c.fn (wpAny_mono (run_own F hr I.env0 hb hx I (vs := [.ref a, x]) (.cons rfl (.cons rx .nil)) q) (fun w s' z => ?_) fun _ _ x => x)
  obtain ⟨z', H', I', rz, b, rfl, qz⟩ := z
  cases (show w = Value.bool b from rz)
  exact wpAny_truthy_bool ⟨.bl (!b), H', I', rfl, by simpa using qz⟩
/-! len(o) -/
def rOwnLen (C : Addr) (sp : Sp) (E : XK) : List V → Hp → VK → Prop := fun xs H Q => ∃ x, xs = [x] ∧ IsIn H x C ∧ sp [x] H (fun z H' => ∃ k : Nat, z = .int k ∧ k < 2 ^ 63 ∧ Q z H') E
theorem call_ownLen (c : Own X.K C "__len__" g) (F : FnOk X.prog X.w X.K X.mg X.base CX n g fd ps sp) (hr : Room (n + 1) X.A) (hb : Binds X.K fd ps []) (hx : Passes CX X E) : CallR X (.builtin "len") (rOwnLen C sp E) := by
  intro pins s σ H xs us Q I r h
  obtain ⟨x, rfl, ⟨a, dx, fs, rfl, ha⟩, q⟩ := h
  obtain ⟨u, rfl, ru⟩ := vals1 r
  cases ru
  obtain ⟨ox, od, J⟩ := own_at I ha
  obtain ⟨m, hF⟩ := I.fr
  refine PySem.W.len_K hF I.ok.mod.kin J c.at_ c.fn (wpAny_mono (run_own F hr.in1 I.env0.in1 hb hx I (vs := [.ref a]) (.cons rfl .nil) q) (fun w s' z => ?_) fun _ _ x => x)
  obtain ⟨z', H', I', rz, k, rfl, hk, qz⟩ := z
  obtain ⟨t, rfl⟩ := (show ∃ t, w = Value.int k t from rz)
  exact ⟨⟨by omega, by omega⟩, .int k, H', I'.tok _, ⟨_, rfl⟩, qz⟩
/-! iter(t), t a tuple; for x in o -/
abbrev itTObj (t : Addr) (i : Nat) : Obj := { cls := .type "tuple_iterator", data := .fields #[.ref t, .int i 0] }
def ItT (t it : Addr) : HO := .ext fun h => h.get? it = some (itTObj t 0)
theorem itT_ok {P : Program} {w : World} {H : Hp} {h : Heap} {t it : Addr} (e : h.get? it = some (itTObj t 0)) : ObjOk P w H h it (ItT t it) := ⟨e, ⟨_, e⟩, fun h1 h2 q k => k _ q⟩
theorem call_iterT : CallR X (.builtin "iter") (fun xs H Q => ∃ (l : Addr) (zs : List V), xs = [.ref l] ∧ SqT X.K H l zs ∧ ∀ it, H it = Option.none → X.s_0.heap.objs.size ≤ it → Q (.ref it) (upd H it (ItT l it))) := by
  intro pins s σ H xs us Q I r h
  obtain ⟨l, zs, rfl, hq, q⟩ := h
  obtain ⟨u, rfl, ru⟩ := vals1 r
  cases ru
  obtain ⟨its, rv, p, hz⟩ := I.tuple hq
  refine Calls.call_function_entry (by decide +kernel) (by decide +kernel) PySem.W.kdk_entry_iter (PySem.W.kdk_args_iter _) ?_
  unfold Builtin.«iter»
  refine wpAny_bind (m := someArgs "iter" 1 2 _) (wpAny_of_eq (a := [Value.ref l]) (by first | rfl | kernel_rfl!) ?_)
  show wpAny _ _ (pyIter (.ref l) >>= _) _ _ _
  refine wpAny_bind (wpAny_pyIter_tuple (show s.heap.IsTuple l its.toArray from p) ?_)
  exact wpAny_pure ⟨_, rfl, .ref s.heap.objs.size, _, I.laid (t' := s.toks) (fun b u e => Heap.get?_push_of_some _ e) (Nat.le_refl _) (itT_ok (Heap.get?_push_size _ rfl)), rfl, q _ (I.hok.fresh (Nat.le_refl _)) I.sz⟩
/-- what an __iter__ over a tuple does -/
def QIt (H : Hp) (n : Nat) (t : Addr) : VK := fun v H' => ∃ it, v = .ref it ∧ H it = Option.none ∧ n ≤ it ∧ H' = upd H it (ItT t it)
end
def FnIt (P : Program) (w : World) (K : PySem.W.Frag) (mg : Str → Option Value) (base : Heap) (k : Nat) (f : Addr) (R : Addr → Addr → Hp → Prop) : Prop :=
  ∀ (A : Around) (outer : List Env) (s : Shared) (H : Hp) (a t : Addr), Room k A → Env0 P w K mg base A outer s H → R a t H → codeAny (model P w) A (.call (.ref f) ⟨[.ref a], []⟩) (CR CX0 outer P w H s (QIt H s.heap.objs.size t) E0) s
theorem fnIt_of {P : Program} {w : World} {K : PySem.W.Frag} {mg : Str → Option Value} {base : Heap} {k : Nat} {f : Addr} {x qual : Str} {st : Stmt} {fd : FuncData} {N : List Str} {R : Addr → Addr → Hp → Prop} (F : Fun K x qual st f fd) (S : FnScope N ["self"] (defScope st)) (b : Binds K fd ["self"] [])
    (hbody : ∀ (cdv : Value) (A : Around) (outer : List Env) (s : Shared) (H : Hp) (a t : Addr), Room k (A.deeper (envOfC qual (defScope st) s.heap.objs.size f cdv)) → R a t H →
      ∃ tt, PSs (cxOf CX0 P w K mg base N qual (defScope st) f cdv A outer s H E0).nox (defBody st) tt ∧ tt { nx := fun _ H' => QIt H s.heap.objs.size t .non H', rt := QIt H s.heap.objs.size t } (start N [.ref a]) H) : FnIt P w K mg base (k + 1) f R := by
  intro A outer s H a t hr e0 hR
  obtain ⟨oc, od, kV, doc, pm, an, cdv, ct, osl, rfl, lk, hcd⟩ := F.ex
  have KX : K.In s.heap := e0.mod.kin.keeps fun b o e => (e0.bs b o e).1
  have lim : s.heap.NoLimit := e0.mod.nolimit.keeps fun b o e => (e0.bs b o e).1
  have hkind : ∀ y ∈ ([Str.ofString "self"] : List Str).zip [Value.ref a], (defScope st).names.lookup y.1 = some .local ∨ ((defScope st).names.lookup y.1 = some .cell ∧ ((cellsFrom (s.heap.objs.size + 1) (defScope st).names []).lookup y.1).isSome = true) := fun ⟨n, v⟩ hy => by
    rcases S.par n (List.of_mem_zip hy).1 with q | q
    · exact .inl q
    · exact .inr ⟨q, PySem.W.cellsFrom_some _ _ _ (.inl q)⟩
  have hbb := b s [.ref a] KX (by simp)
  rw [List.append_nil] at hbb
  refine codeAny_call_function hr.depth (KX _ _ lk) rfl S.co S.gen rfl (PySem.W.codeRec_of KX hcd) (hbb _ _ _ _ ?_)
  refine wpAny_newFunctionEnv_cells S.kind hkind fun env he s1 x => ?_
  subst he
  refine ⟨lim.keeps x.toInCall.keep, codeAny_func ?_⟩
  obtain ⟨t', ht, hq⟩ := hbody cdv A outer s H a t (hr.deeper _) hR
  have I : Inv (cxOf CX0 P w K mg base N qual (defScope st) f cdv A outer s H E0) [] (start N [V.ref a]) H s1 := inv_start S hr.hd e0 rfl (.cons rfl .nil) x
  refine wpAny_mono (ht.nox.run [] s1 (start N [V.ref a]) H _ I hq) (fun fl s' hs => ?_) fun e s' hs => hs
  have fin : ∀ {σ' : L2.St} {H' : Hp} {v : V} {u : Value}, Inv (cxOf CX0 P w K mg base N qual (defScope st) f cdv A outer s H E0) [] σ' H' s' → RelV v u → QIt H s.heap.objs.size t v H' → CE outer P w H s (QIt H s.heap.objs.size t) u s' :=
    fun {σ' H' v u} J rv q => ⟨v, H', J.os, J.bare, J.base, J.hok, rv, q⟩
  cases fl with
  | ret u =>
    obtain ⟨v, σ', H', J, rv, q⟩ := hs
    exact fin J rv q
  | next =>
    obtain ⟨σ', H', J, q⟩ := hs
    exact fin (v := V.non) (u := Value.none) J rfl q
  | brk =>
    obtain ⟨_, _, _, q⟩ := hs
    exact False.elim q
  | cont =>
    obtain ⟨_, _, _, q⟩ := hs
    exact False.elim q
section
variable {X : Cx} {CX : CXT} {C g : Addr} {n : Nat} {fd : FuncData} {ps : List Str} {sp : Sp} {E : XK} {pins : List (Addr × Obj)} {σ : L2.St} {H : Hp} {s : Shared}
def iOwn (K : PySem.W.Frag) (C : Addr) (R : Addr → Addr → Hp → Prop) (te : TE) : TI := fun σ H Z => te σ H fun x H1 => ∃ a dx fs t, x = .ref a ∧ H1 a = some (.ins C dx fs) ∧ R a t H1 ∧ (∃ xs, SqT K H1 t xs) ∧ Z (Itt K t) H1
theorem pi_own {R : Addr → Addr → Hp → Prop} {e tg : Expr} {te : TE} (c : Own X.K C "__iter__" g) (F : FnIt X.prog X.w X.K X.mg X.base n g R) (hr : Room n X.A) (he : PE X e te) : PI X tg e (iOwn X.K C R te) := by
  refine ⟨fun pins s σ H Z I h => ?_⟩
  refine thn (he.run pins s σ H _ I h) fun v s1 ⟨x, H1, I1, r1, q1⟩ => ?_
  obtain ⟨a, dx, fs, t, rfl, ha, hR, ⟨xs, hxs⟩, q⟩ := q1
  cases r1
  obtain ⟨ox, od, J⟩ := own_at I1 ha
  obtain ⟨m, hF⟩ := I1.fr
  refine PySem.W.owit_iter hF I1.ok.mod.kin J c.at_ c.fn ?_
  refine wpAny_call (codeAny_mono (F X.A X.stack s1 H1 a t hr I1.env0 hR) fun r s' hq => ?_)
  cases r with
  | error e => exact False.elim hq
  | ok fl =>
    cases fl with
    | ret u =>
      obtain ⟨z, H2, os, bare, un, hok, rz, it, rfl, hn, hge, rfl⟩ := id hq
      have I2 : Inv X pins σ (upd H1 it (ItT t it)) s' := I1.call' os un hok bare (fun b z => absurd z (by simp))
      cases rz
      have hget : s'.heap.get? it = some (itTObj t 0) := (I2.hok it _ upd_same).1
      have hT : s'.TypeIs (.ref it) "tuple_iterator" := ⟨_, hget, rfl⟩
      have hi : (upd H1 it (ItT t it)) it = some (.ext fun h => h.get? it = some (itTObj t 0)) := upd_same
      have I3 := ItX.inv_drop I2 hi
      have e3 : ItX.dropH (upd H1 it (ItT t it)) it = H1 := ItX.dropH_upd hn
      have fp := ItX.inv_fp I2 hi (Nat.le_trans I1.sz hge)
      rw [e3] at I3 fp
      unfold PySem.W.OwitIt
      refine wpAny_specialOf (name := Str.ofString "__next__") hT PySem.F.slot_tuple_iterator_next.lookup ?_
      refine ⟨it, [it], _, _, H1, rfl, I3, turn_tuple t it, ⟨_, hget, rfl, rfl⟩, fun b hb => ?_, q⟩
      cases List.mem_singleton.mp hb
      exact fp
    | next => exact False.elim hq
    | brk => exact False.elim hq
    | cont => exact False.elim hq
end
end TK

namespace TK
open PySem PySem.Calls PySem.Spec PyProof.Rows PyProof.V L2
/-! ### two dicts with tuples as keys, equal whatever the order -/
section
variable {prog : Program} {w : World} {K : Type} [DecidableEq K] {knd : HeapKind prog w K} {A : Around} {E : Value → Shared → Prop} {s : Shared}
theorem samePairsH {nm : String} {a b : Addr} {ka kb : List (K × Addr × Value)} {Q : Bool → Shared → Prop} (hu : knd.room A) (ha : (a == sysModules) = false) (hb : (b == sysModules) = false)
    (da : s.heap.DictOfH knd a ka) (db : s.heap.DictOfH knd b kb) (hl : ka.length = kb.length) (hits : ∀ x ∈ ka, ∃ p, atKey kb x.1 = some p ∧ SeqAt.EqAt A s x.2.2 p.2 true) (h : Q true s) :
    wpAny (model prog w) A (Builtin.Dict.samePairs nm a b) Q E s := by
  obtain ⟨oa, es, ep, hoa, _, hda, hea, hia, _⟩ := da
  obtain ⟨ob, es', ep', hob, _, hdb, heb, hib, hnb⟩ := db
  have hla : ka.length = es.size := (size_of_entries hea).symm
  have hlb : kb.length = es'.size := (size_of_entries heb).symm
  have hsz : es.size = es'.size := by omega
  unfold Builtin.Dict.samePairs Builtin.Dict.showsAll
  rw [if_neg (show ¬ (a == sysModules) = true by rw [ha]; exact Bool.false_ne_true), if_neg (show ¬ (b == sysModules) = true by rw [hb]; exact Bool.false_ne_true)]
  refine wpAny_bind (wpAny_pure (wpAny_bind (wpAny_pure ?_)))
  refine wpAny_bind (wpAny_dictEntries hoa hda ?_)
  dsimp only
  refine wpAny_bind (wpAny_dictEntries hob hdb ?_)
  rw [if_neg (by rw [hsz]; simp)]
  refine wpAny_bind (wpAny_dictEpoch hoa hda ?_)
  refine wpAny_bind ?_
  rw [Std.Legacy.Range.forIn_eq_forIn_range']
  simp only [Std.Legacy.Range.size, Nat.sub_zero, Nat.add_sub_cancel, Nat.div_one]
  refine wpAny_forIn_list _
    (fun rest q s' => s' = s ∧ q = (none, ()) ∧ ∃ i, rest = List.range' i (es.size - i) ∧ i ≤ es.size)
    _ ?_ ?_ _ _ ⟨rfl, rfl, 0, by simp, Nat.zero_le _⟩
  · rintro x rest q s' ⟨rfl, rfl, i, hr, hi⟩
    have hlt : i < es.size := by
      rcases Nat.lt_or_ge i es.size with h | h
      · exact h
      · rw [Nat.sub_eq_zero_of_le h] at hr; simp at hr
    obtain ⟨rfl, hrest⟩ : x = i ∧ rest = List.range' (i + 1) (es.size - (i + 1)) := by
      have e : es.size - i = (es.size - (i + 1)) + 1 := by omega
      rw [e, List.range'_succ] at hr
      injection hr with h1 h2
      exact ⟨h1, h2⟩
    refine wpAny_bind (wpAny_dictEntries hoa hda ?_)
    have hlt' : x < ka.length := by rw [hla]; exact hlt
    have hent : es[x]? = some (entryOfKey knd ka[x]) := by rw [entry_at hea x, List.getElem?_eq_getElem hlt']; rfl
    rw [hent]
    obtain ⟨p, hp, heq⟩ := hits ka[x] (List.getElem_mem hlt')
    have hkey := hia ka[x] (List.getElem_mem hlt')
    show wpAny _ _ (holding [(entryOfKey knd ka[x]).key, (entryOfKey knd ka[x]).val] _ >>= _) _ _ _
    refine wpAny_bind (wpAny_holding (wpAny_bind (wpAny_dictFind_heap hu hkey hob hdb heb hib hnb ?_ ?_)))
    · intro hno
      rw [atKey_none_of_get hno] at hp
      exact nomatch hp
    · intro j p' hj
      have ep' : p' = p := Option.some.inj ((atKey_of_get hnb hj).symm.trans hp)
      subst ep'
      refine wpAny_bind (wpAny_dictEntries hob hdb ?_)
      rw [entry_at heb j, hj]
      refine wpAny_holding (heq prog w _ _ ?_)
      show wpAny _ _ (if (!true) = true then _ else _) _ _ _
      rw [if_neg (by decide)]
      refine wpAny_bind (wpAny_dictEpoch hoa hda ?_)
      rw [if_neg (by simp)]
      exact wpAny_pure ⟨rfl, rfl, x + 1, hrest, hlt⟩
  · rintro q s' ⟨rfl, rfl, i, hr, hi⟩
    refine wpAny_pure ?_
    exact h
theorem eqDictH {a b : Addr} {ka kb : List (K × Addr × Value)} {Q : Value → Shared → Prop} (hr : knd.room A.in1) (ha : (a == sysModules) = false) (hb : (b == sysModules) = false)
    (da : s.heap.DictOfH knd a ka) (db : s.heap.DictOfH knd b kb) (hu : A.units < cLine) (hl : ka.length = kb.length) (hits : ∀ x ∈ ka, ∃ p, atKey kb x.1 = some p ∧ SeqAt.EqAt A.in1 s x.2.2 p.2 true) (h : Q (.bool true) s) :
    wpAny (model prog w) A (compareOp .Eq (.ref a) (.ref b)) Q E s := by
  refine wpAny_richCompare_same_room (op := .Eq) da.typeIs db.typeIs PySem.F.slot_dict_eq (wpAny_call_entry PySem.F.slot_dict_eq da.typeIs PySem.F.entry_dict_eq ?_ (PySem.F.args_dict_eq_2 _ _)) hu
  show wpAny _ _ (Builtin.Dict.dictSlotArgs "__eq__" ⟨[.ref a, .ref b], []⟩ >>= _) _ _ s
  refine wpAny_bind ?_
  unfold Builtin.Dict.dictSlotArgs
  refine wpAny_bind (wpAny_notOrdered_dict da.typeIs ?_)
  show wpAny _ _ (pure (Value.ref a, Value.ref b)) _ _ s
  refine wpAny_pure ?_
  refine wpAny_bind (wpAny_isInstance (T := "dict") db.typeIs PySem.F.sub_dict_dict ?_)
  simp only [Bool.not_true, Bool.false_eq_true, if_false]
  refine wpAny_bind (wpAny_pure (wpAny_bind (wpAny_pure ?_)))
  refine wpAny_bind (samePairsH hr ha hb da db hl hits ?_)
  refine wpAny_pure ⟨_, rfl, ?_, ?_⟩
  · exact fun x => nomatch x
  · simpa using h
end
section
variable {X : Cx}
def rEqDT : R2 := fun x y H Q => ∃ a b ks ls, x = .ref a ∧ y = .ref b ∧ H a = some (.dT ks) ∧ H b = some (.dT ls) ∧ ks.length = ls.length ∧ (∀ p ∈ ks, valV ls p.1 = some p.2 ∧ flatB p.2 = true) ∧ Q (.bl true) H
theorem hitsT {H : Hp} {A : Around} {s : Shared} {ls : List (List Key × V)} {xb : List (List Key × Addr × Value)} (rb : KT H ls xb) {ks : List (List Key × V)} {xa : List (List Key × Addr × Value)} (ra : KT H ks xa) :
    (∀ p ∈ ks, valV ls p.1 = some p.2 ∧ flatB p.2 = true) → ∀ x ∈ xa, ∃ p, atKey xb x.1 = some p ∧ SeqAt.EqAt A s x.2.2 p.2 true := by
  unfold KT at ra
  induction ra with
  | nil => intro _ x h; exact absurd h List.not_mem_nil
  | @cons p q ps qs h t ih =>
    intro hp x hx
    rcases List.mem_cons.mp hx with rfl | hx
    · obtain ⟨h1, _, h2⟩ := h
      obtain ⟨e, f⟩ := hp p List.mem_cons_self
      have rr : RelO (some p.2) ((atKey xb p.1).map (·.2)) := by rw [← e]; exact rb.val p.1
      obtain ⟨y, hy, ry⟩ := rr.some_of
      obtain ⟨z, hz, rfl⟩ := Option.map_eq_some_iff.mp hy
      exact ⟨z, by rw [← h1]; exact hz, eqAt_same h2 ry f⟩
    · exact ih (fun p' hm => hp p' (List.mem_cons_of_mem _ hm)) x hx
theorem op_eq_dictT (hu : X.A.units + 1 < cLine) : OpR X (compareOp .Eq) rEqDT := by
  intro pins s σ H x y v u Q I rx ry h
  obtain ⟨a, b, ks, ls, rfl, rfl, ea, eb, hlen, hp, q⟩ := h
  obtain rfl : v = Value.ref a := rx
  obtain rfl : u = Value.ref b := ry
  obtain ⟨_, ya, va, ra, da⟩ := dt_rd I.hok (.inl ea)
  obtain ⟨_, yb, vb, rb, db⟩ := dt_rd I.hok (.inl eb)
  have hl : va.length = vb.length := by rw [← Paired.length ra, ← Paired.length rb]; exact hlen
  exact eqDictH (tupleKind_room_in1 hu) ya yb da db (Nat.lt_of_succ_lt hu) hl (hitsT rb ra hp) (fin_bl I q rfl)
end
end TK

namespace TK
open PySem PySem.Spec PyProof.Rows L2
/-- any loop of a comprehension over whatever walks (for two generators: one time each) -/
theorem walk_go {J : It} {n : Nat} {G : Hp → Prop} {Y : Nat → Hp → V → Hp → Prop} (w : Walk J n G Y) {H0 : Hp} {Qd : Hp → Prop} {body : (Hp → Prop) → V → Hp → Prop} (Pv : Nat → Hp → Prop) (h0 : Pv 0 H0) (hG : ∀ i H, i ≤ n → Pv i H → G H)
    (hs : ∀ i x H H', i < n → Pv i H → Y i H x H' → body (Pv (i + 1)) x H') (hd : ∀ H, Pv n H → Qd H) :
    ∃ W : Nat → Nat → Hp → Prop, (∃ m, W 0 m H0) ∧ ∀ i m H, W i m H →
      (J.stop i H ∧ Qd H) ∨ (J.go i H ∧ ∃ Nx : Hp → Prop, (∀ H', Nx H' → ∃ m', m' < m ∧ W (i + 1) m' H') ∧ ∀ x H', J.yld i H x H' → body Nx x H') := by
  refine ⟨fun i m H => m = n - i ∧ i ≤ n ∧ Pv i H, ⟨n, by simp, Nat.zero_le _, h0⟩, ?_⟩
  rintro i m H ⟨rfl, hi, p⟩
  have q := hG i H hi p
  by_cases hlt : i < n
  · exact .inr ⟨w.goes i H hlt q, Pv (i + 1), fun H' p' => ⟨n - (i + 1), by omega, rfl, hlt, p'⟩, fun x H' y => hs i x H H' hlt p (w.yields i H x H' hlt q y)⟩
  · have e : i = n := by omega
    subst e
    exact .inl ⟨w.stops H q, hd H p⟩
theorem pe_fldK {X : Cx} {K : PySem.W.Frag} {e : Expr} {f : Str} {pos : Pos} {ta : TE} (h : X.K = K) (he : PE X e ta) (hb : attributeBase e f X.env (eval e X.env) = eval e X.env) : PE X (.Attribute e f pos) (tFld K ta f) := h ▸ pe_fld he hb
theorem pi_tupK {X : Cx} {K : PySem.W.Frag} {tg e : Expr} {te : TE} (h : X.K = K) (he : PE X e te) : PI X tg e (iTup K te) := h ▸ pi_tup he
end TK

namespace TK
open PySem PySem.Calls PySem.Spec PyProof.Rows PyProof.V L2
/-! ### two dicts with tuples as keys, equal or not -/
section
variable {prog : Program} {w : World} {K : Type} [DecidableEq K] {knd : HeapKind prog w K} {A : Around} {E : Value → Shared → Prop} {s : Shared}
/-- the pairs of the one that show in the other, up to the first that does not -/
inductive HitsH (A : Around) (s : Shared) (kb : List (K × Addr × Value)) : List (K × Addr × Value) → Bool → Prop
  | nil : HitsH A s kb [] true
  | miss {x : K × Addr × Value} {r : List (K × Addr × Value)} : atKey kb x.1 = none → HitsH A s kb (x :: r) false
  | hit {x : K × Addr × Value} {p : Addr × Value} {r : List (K × Addr × Value)} {e b : Bool} : atKey kb x.1 = some p → SeqAt.EqAt A s x.2.2 p.2 e → HitsH A s kb r b → HitsH A s kb (x :: r) (e && b)
theorem HitsH.inv {kb : List (K × Addr × Value)} {x : K × Addr × Value} {r : List (K × Addr × Value)} {b : Bool} (h : HitsH A s kb (x :: r) b) :
    (atKey kb x.1 = none ∧ b = false) ∨ ∃ p e b', atKey kb x.1 = some p ∧ SeqAt.EqAt A s x.2.2 p.2 e ∧ HitsH A s kb r b' ∧ b = (e && b') := by
  cases h with
  | miss hn => exact .inl ⟨hn, rfl⟩
  | hit hy he hr => exact .inr ⟨_, _, _, hy, he, hr, rfl⟩
theorem samePairsHB {nm : String} {a b : Addr} {ka kb : List (K × Addr × Value)} {r : Bool} {Q : Bool → Shared → Prop} (hu : knd.room A) (ha : (a == sysModules) = false) (hb : (b == sysModules) = false)
    (da : s.heap.DictOfH knd a ka) (db : s.heap.DictOfH knd b kb) (hits : ka.length = kb.length → HitsH A s kb ka r) (h : Q (ka.length == kb.length && r) s) :
    wpAny (model prog w) A (Builtin.Dict.samePairs nm a b) Q E s := by
  obtain ⟨oa, es, ep, hoa, _, hda, hea, hia, _⟩ := da
  obtain ⟨ob, es', ep', hob, _, hdb, heb, hib, hnb⟩ := db
  have hla : ka.length = es.size := (size_of_entries hea).symm
  have hlb : kb.length = es'.size := (size_of_entries heb).symm
  rw [hla, hlb] at h
  unfold Builtin.Dict.samePairs Builtin.Dict.showsAll
  rw [if_neg (show ¬ (a == sysModules) = true by rw [ha]; exact Bool.false_ne_true), if_neg (show ¬ (b == sysModules) = true by rw [hb]; exact Bool.false_ne_true)]
  refine wpAny_bind (wpAny_pure (wpAny_bind (wpAny_pure ?_)))
  refine wpAny_bind (wpAny_dictEntries hoa hda ?_)
  dsimp only
  refine wpAny_bind (wpAny_dictEntries hob hdb ?_)
  by_cases hsz : es.size = es'.size
  case neg =>
    rw [if_pos (by simpa using hsz)]
    have hbf : (es.size == es'.size) = false := by simpa using hsz
    rw [hbf, Bool.false_and] at h
    exact wpAny_bind (wpAny_rule (wpAny_pure h))
  case pos =>
    have h' : Q r s := by simpa [hsz] using h
    have hits' := hits (by rw [hla, hlb]; exact hsz)
    rw [if_neg (by rw [hsz]; simp)]
    refine wpAny_bind (wpAny_dictEpoch hoa hda ?_)
    refine wpAny_bind ?_
    rw [Std.Legacy.Range.forIn_eq_forIn_range']
    simp only [Std.Legacy.Range.size, Nat.sub_zero, Nat.add_sub_cancel, Nat.div_one]
    refine wpAny_forIn_list _
      (fun rest q s' => s' = s ∧ q = (none, ()) ∧ ∃ i, rest = List.range' i (es.size - i) ∧ i ≤ es.size ∧ HitsH A s kb (ka.drop i) r)
      _ ?_ ?_ _ _ ⟨rfl, rfl, 0, by simp, Nat.zero_le _, hits'⟩
    · rintro x rest q s' ⟨rfl, rfl, i, hr, hi, hpre⟩
      have hlt : i < es.size := by
        rcases Nat.lt_or_ge i es.size with h | h
        · exact h
        · rw [Nat.sub_eq_zero_of_le h] at hr; simp at hr
      obtain ⟨rfl, hrest⟩ : x = i ∧ rest = List.range' (i + 1) (es.size - (i + 1)) := by
        have e : es.size - i = (es.size - (i + 1)) + 1 := by omega
        rw [e, List.range'_succ] at hr
        injection hr with h1 h2
        exact ⟨h1, h2⟩
      refine wpAny_bind (wpAny_dictEntries hoa hda ?_)
      have hlt' : x < ka.length := by rw [hla]; exact hlt
      have hent : es[x]? = some (entryOfKey knd ka[x]) := by rw [entry_at hea x, List.getElem?_eq_getElem hlt']; rfl
      rw [hent]
      have hdrop : ka.drop x = ka[x] :: ka.drop (x + 1) := List.drop_eq_getElem_cons hlt'
      rw [hdrop] at hpre
      have hkey := hia ka[x] (List.getElem_mem hlt')
      show wpAny _ _ (holding [(entryOfKey knd ka[x]).key, (entryOfKey knd ka[x]).val] _ >>= _) _ _ _
      refine wpAny_bind (wpAny_holding (wpAny_bind (wpAny_dictFind_heap hu hkey hob hdb heb hib hnb ?_ ?_)))
      · intro hno
        rcases hpre.inv with ⟨_, er⟩ | ⟨y, _, _, hy, _⟩
        · rw [er] at h'
          refine wpAny_pure ?_
          show wpAny _ _ (if (!false) = true then _ else _) _ _ _
          rw [if_pos (by decide)]
          exact wpAny_pure (wpAny_pure h')
        · rw [atKey_none_of_get hno] at hy
          exact nomatch hy
      · intro j p' hj
        have hat := atKey_of_get hnb hj
        refine wpAny_bind (wpAny_dictEntries hob hdb ?_)
        rw [entry_at heb j, hj]
        rcases hpre.inv with ⟨hn, _⟩ | ⟨y, e, b', hy, he, hrr, er⟩
        · rw [hat] at hn; exact nomatch hn
        · have ey : p' = y := Option.some.inj (hat.symm.trans hy)
          subst ey
          refine wpAny_holding (he prog w _ _ ?_)
          cases e with
          | false =>
            rw [er, Bool.false_and] at h'
            show wpAny _ _ (if (!false) = true then _ else _) _ _ _
            rw [if_pos (by decide)]
            exact wpAny_pure (wpAny_pure h')
          | true =>
            rw [Bool.true_and] at er
            rw [← er] at hrr
            show wpAny _ _ (if (!true) = true then _ else _) _ _ _
            rw [if_neg (by decide)]
            refine wpAny_bind (wpAny_dictEpoch hoa hda ?_)
            rw [if_neg (by simp)]
            exact wpAny_pure ⟨rfl, rfl, x + 1, hrest, hlt, hrr⟩
    · rintro q s' ⟨rfl, rfl, i, hr, hi, hpre⟩
      have hin : i = es.size := by
        rcases Nat.lt_or_ge i es.size with h | h
        · have e : es.size - i = (es.size - (i + 1)) + 1 := by omega
          rw [e, List.range'_succ] at hr; exact nomatch hr
        · exact Nat.le_antisymm hi h
      refine wpAny_pure ?_
      rw [hin, ← hla, List.drop_length] at hpre
      cases hpre
      exact h'
theorem eqDictHB {a b : Addr} {ka kb : List (K × Addr × Value)} {r : Bool} {Q : Value → Shared → Prop} (hr : knd.room A.in1) (ha : (a == sysModules) = false) (hb : (b == sysModules) = false)
    (da : s.heap.DictOfH knd a ka) (db : s.heap.DictOfH knd b kb) (hu : A.units < cLine) (hits : ka.length = kb.length → HitsH A.in1 s kb ka r) (h : Q (.bool (ka.length == kb.length && r)) s) :
    wpAny (model prog w) A (compareOp .Eq (.ref a) (.ref b)) Q E s := by
  refine wpAny_richCompare_same_room (op := .Eq) da.typeIs db.typeIs PySem.F.slot_dict_eq (wpAny_call_entry PySem.F.slot_dict_eq da.typeIs PySem.F.entry_dict_eq ?_ (PySem.F.args_dict_eq_2 _ _)) hu
  show wpAny _ _ (Builtin.Dict.dictSlotArgs "__eq__" ⟨[.ref a, .ref b], []⟩ >>= _) _ _ s
  refine wpAny_bind ?_
  unfold Builtin.Dict.dictSlotArgs
  refine wpAny_bind (wpAny_notOrdered_dict da.typeIs ?_)
  show wpAny _ _ (pure (Value.ref a, Value.ref b)) _ _ s
  refine wpAny_pure ?_
  refine wpAny_bind (wpAny_isInstance (T := "dict") db.typeIs PySem.F.sub_dict_dict ?_)
  simp only [Bool.not_true, Bool.false_eq_true, if_false]
  refine wpAny_bind (wpAny_pure (wpAny_bind (wpAny_pure ?_)))
  refine wpAny_bind (samePairsHB hr ha hb da db hits ?_)
  refine wpAny_pure ⟨_, rfl, ?_, ?_⟩
  · exact fun x => nomatch x
  · simpa using h
end
section
variable {X : Cx}
/-- how two dicts of plain values compare -/
def eqDT (ks ls : List (List Key × V)) : Bool := ks.length == ls.length && ks.all fun p => match valV ls p.1 with | some v => eqV p.2 v | none => false
def rEqDTB : R2 := fun x y H Q => ∃ a b ks ls, x = .ref a ∧ y = .ref b ∧ H a = some (.dT ks) ∧ H b = some (.dT ls) ∧ (∀ p ∈ ks, flatV p.2 = true) ∧ (∀ p ∈ ls, flatV p.2 = true) ∧ Q (.bl (eqDT ks ls)) H
theorem valV_flat {ls : List (List Key × V)} {k : List Key} {v : V} (f : ∀ p ∈ ls, flatV p.2 = true) (h : valV ls k = some v) : flatV v = true := by
  unfold valV at h
  obtain ⟨p, hp, rfl⟩ := Option.map_eq_some_iff.mp h
  exact f p (List.mem_of_find?_eq_some hp)
theorem hitsTB {H : Hp} {A : Around} {s : Shared} {ls : List (List Key × V)} {xb : List (List Key × Addr × Value)} (rb : KT H ls xb) (fl : ∀ p ∈ ls, flatV p.2 = true) {ks : List (List Key × V)} {xa : List (List Key × Addr × Value)} (ra : KT H ks xa) :
    (∀ p ∈ ks, flatV p.2 = true) → HitsH A s xb xa (ks.all fun p => match valV ls p.1 with | some v => eqV p.2 v | none => false) := by
  unfold KT at ra
  induction ra with
  | nil => intro _; exact .nil
  | @cons p q ps qs h t ih =>
    intro hp
    obtain ⟨h1, _, h2⟩ := h
    have rr := rb.val p.1
    rw [List.all_cons]
    cases e : valV ls p.1 with
    | none =>
      rw [e] at rr
      rw [Bool.false_and]
      refine .miss ?_
      have e2 := rr.none_of
      rw [← h1]
      exact Option.map_eq_none_iff.mp e2
    | some v =>
      rw [e] at rr
      obtain ⟨y, hy, ry⟩ := rr.some_of
      obtain ⟨z, hz, rfl⟩ := Option.map_eq_some_iff.mp hy
      refine .hit (by rw [← h1]; exact hz) ?_ (ih fun p' hm => hp p' (List.mem_cons_of_mem _ hm))
      exact eqAt_V h2 ry (hp p List.mem_cons_self) (valV_flat fl e)
theorem op_eq_dictTB (hu : X.A.units + 1 < cLine) : OpR X (compareOp .Eq) rEqDTB := by
  intro pins s σ H x y v u Q I rx ry h
  obtain ⟨a, b, ks, ls, rfl, rfl, ea, eb, f1, f2, q⟩ := h
  obtain rfl : v = Value.ref a := rx
  obtain rfl : u = Value.ref b := ry
  obtain ⟨_, ya, va, ra, da⟩ := dt_rd I.hok (.inl ea)
  obtain ⟨_, yb, vb, rb, db⟩ := dt_rd I.hok (.inl eb)
  have l1 : va.length = ks.length := (Paired.length ra).symm
  have l2 : vb.length = ls.length := (Paired.length rb).symm
  refine eqDictHB (r := ks.all fun p => match valV ls p.1 with | some v => eqV p.2 v | none => false) (tupleKind_room_in1 hu) ya yb da db (Nat.lt_of_succ_lt hu) (fun _ => hitsTB rb f2 ra f1) ?_
  rw [l1, l2]
  exact fin_bl I q rfl
end
end TK

/-! an own exception over ValueError whose __init__ says super().__init__(..); self.f = x -/
namespace TK
section
open PySem PySem.W PySem.Calls PySem.Spec PyProof.Rows
variable {prog : Program} {w : World} {A : Around} {E : Value → Shared → Prop} {h : Heap} {g : Array GenState} {d : Drawn} {t : Nat} {os : OsState}
variable {nm q : Str} {C N : Addr} {bs bm : List Value} {hdct : Bool} {sn : List Str} {sub : List Value} {ab : Bool} {col : Option Bool} {dd : Option Addr} {k0 k1 k2 k3 k5 : Option Value}
/-- the bound __init__ called -/
theorem call_mw {u e t0 : Addr} {rest : List Value} {Q : Value → Shared → Prop}
    (hC : h.get? C = some (excClassObj nm q C N bs bm hdct sn sub ab col dd k0 k1 k2 k3 k5 "ValueError.__new__")) (he : h.get? e = some (HandSPX.excO C t0)) (hu : h.get? u = some (kxs_mw "ValueError.__init__" e)) (hrest : rest.length ≤ sizeLine)
    (hq : ∀ h' t1, (∀ b o, b ≠ e → h.get? b = some o → h'.get? b = some o) → h'.get? e = some (HandSPX.excO C t1) → Q .none ⟨h', g, d, t, os⟩) :
    wpAny (model prog w) A (call (.ref u) rest) Q E ⟨h, g, d, t, os⟩ := by
  refine wpAny_call (codeAny_of_tree ?_)
  show wpAny _ A.in1 (callAny (.ref u) ⟨rest, []⟩) _ _ _
  simp only [callAny]
  refine wpAny_bind (wpAny_load hu ?_)
  simp only [kxs_mw, show (Value.type "method-wrapper" == Value.type "method" || Value.type "method-wrapper" == Value.type "builtin_function_or_method" || Value.type "method-wrapper" == Value.type "method-wrapper") = true by decide, if_true]
  refine PySem.W.KFB.if_so (by decide) ?_
  refine wpAny_bind (ESX.check_bound F.excBase_ValueError hC he rfl ?_)
  refine wpAny_bind (wpAny_pure (wpAny_pure ?_))
  refine ⟨Code.quiet_builtin _ (by decide +kernel), codeAny_builtin F.excBase_ValueError.initEntry ?_⟩
  rw [Around.under_plainId F.excBase_ValueError.init.plain _]
  wp_walk
  refine hq _ h.objs.size (fun b o hb ho => ?_) ?_
  · rw [Heap.get?_update_other _ _ (Ne.symm hb)]
    exact Heap.get?_push_of_some _ ho
  · rw [Heap.get?_update_self _ (Heap.get?_push_of_some _ he) rfl]
    rfl
end
open PySem PySem.Spec PyProof.Rows L2 NdefX
open PySem.W (ks_superIn kxs_mw kxs_getMethod kxs_ValueError kxs_callWith)
def supBody (p0 p1 p2 p3 p4 p5 p6 p7 p8 : Pos) (msg : Expr) (arg fld : Str) : List Stmt :=
  [.Expr (.Call (.Attribute (.Call (.Name "super" p0) [] [] p1) "__init__" p2) [msg] [] p3) p4, .Assign [.Attribute (.Name "self" p5) fld p6] (.Name arg p7) p8]
/-- X.__init__(self, y): the exception at a gets its dict with the one field -/
def spSup (C : Addr) (fld : Str) (okv : V → Prop) : Sp := fun vs H Q _ => ∃ (a : Addr) (y : V), vs = [.ref a, y] ∧ okv y ∧ H a = some (exo a C none) ∧ ∀ dx, H dx = none → dx ≠ a → Q .non (upd (upd H dx (exd dx [(fld, y)])) a (exo a C (some dx)))
theorem fn_sup {CX : CXT} {P : Program} {w : World} {K : PySem.W.Frag} {mg : Str → Option Value} {base : Heap} {k : Nat} {f C cc cda : Addr} {qual arg fld file : Str} {params : Arguments} {scope : Scope} {msg : Expr} {p0 p1 p2 p3 p4 p5 p6 p7 p8 : Pos}
    {oc ccl cl dV kV doc pm ct : Value} {an od cdd cld : Option Addr} {osl ccs csl : Array (Option Value)} {vs0 : Array Value} {tf : Tok} {okv : V → Prop} {te : TE} {ar : Arg}
    (lk : K.lookup f = some ⟨oc, od, .func (PySem.W.fnX "__init__" qual params (supBody p0 p1 p2 p3 p4 p5 p6 p7 p8 msg arg fld) scope [("__class__", cc)] dV kV doc pm an (.ref cda) ct), osl⟩) (hcd : PySem.W.codeIn K (.ref cda) qual = true)
    (hcode : K.lookup cda = some ⟨ccl, cdd, .fields vs0, ccs⟩) (hvs : vs0[2]? = some (.str file tf)) (hfile : ((P.main.file : Str) == file) = true)
    (hcell : K.lookup cc = some ⟨cl, cld, .cell (some (.ref C)), csl⟩)
    (S : NScope ["self", arg, "__class__"] ["self", arg] ["__class__"] scope) (hks : scope.names.lookup ("super" : Str) = some .globalImplicit)
    (hpar : (params.posonlyargs ++ params.args).head? = some ar) (har : ar.arg = "self")
    (htop : (P.main.scope.names.lookup ("super" : Str)).isSome = false) (hsup : mg "super" = none)
    (T : OexC K C) (hmr : PySem.W.mroIn K C (.ref C) = some true) (hst : PySem.W.nsIn K cStatics "thirdparty.any" = some none) (hal : ks_superIn K C C "__init__" = some (some (.builtin "ValueError.__init__")))
    (hVE : PySem.W.subIn K (.ref C) (.type "ValueError") = some true) (hno : PySem.W.findIn K (.ref C) fld = some none)
    (hpa : ∀ (A : Around) (outer : List Env) (s : Shared) (H : Hp) (E : XK), PA (ncx CX P w K mg base ["self", arg, "__class__"] ⟨"__init__", qual, params, supBody p0 p1 p2 p3 p4 p5 p6 p7 p8 msg arg fld, scope, [("__class__", cc)], cda⟩ f A outer s H E) [msg] (tCons te tNil))
    (hpl : ∀ env : Env, starEach [msg] env = [(false, eval msg env)])
    (hte : ∀ (a : Addr) (y : V) (H : Hp) (Q : VK), okv y → (∀ z, Q z H) → te [some (.ref a), some y, some (.ref C)] H Q)
    (hdb : (arg == ("__debug__" : Str)) = false) (hdc : (arg == ("__classdict__" : Str)) = false) {pl : Env → Sem Bool} (hev : ∀ env : Env, eval (.Call (.Attribute (.Call (.Name "super" p0) [] [] p1) "__init__" p2) [msg] [] p3) env = (do
      let ov ← attributeBase (.Call (.Name "super" p0) [] [] p1) "__init__" env (eval (.Call (.Name "super" p0) [] [] p1) env)
      standAt p2.atName
      let (f, first) ← holding [ov] (getMethod ov "__init__" (pl env))
      callWith p3 f first (backTo p3 (starEach [msg] env)) [])) :
    FnOk P w K mg base CX (k + 1) f (PySem.W.fnX "__init__" qual params (supBody p0 p1 p2 p3 p4 p5 p6 p7 p8 msg arg fld) scope [("__class__", cc)] dV kV doc pm an (.ref cda) ct) ["self", arg] (spSup C fld okv) := by
  have len : ∀ vs H Q E, spSup C fld okv vs H Q E → vs.length = (["self", arg] : List Str).length := fun vs H Q E h => by
    obtain ⟨a, y, rfl, _⟩ := h
    rfl
  refine ⟨len, fun A outer s H args us vs Q E hr e0 hb r hsp => ?_⟩
  have hl := len _ _ _ _ hsp
  obtain ⟨a, y, rfl, oky, ea, q⟩ := hsp
  obtain ⟨hp0, g0, d0, tk0, os0⟩ := s
  have KX : K.In hp0 := e0.mod.kin.keeps fun b o e => (e0.bs b o e).1
  have lim : hp0.NoLimit := e0.mod.nolimit.keeps fun b o e => (e0.bs b o e).1
  have one : ∀ (y : Str) (c : Addr), ([(("__class__" : Str), cc)] : List (Str × Addr)).lookup y = some c → y = ("__class__" : Str) ∧ c = cc := fun y c e => by
    simp only [List.lookup] at e
    split at e
    · rename_i h
      exact ⟨eq_of_beq h, (Option.some.inj e).symm⟩
    · cases e
  have cls : CellsAt [(("__class__" : Str), cc)] ["__class__"] [some (.ref C)] hp0 H := by
    refine ⟨rfl, fun y c e => ?_, fun x y c e1 e2 => (one _ _ e1).1.trans (one _ _ e2).1.symm, fun i y hy => ?_⟩
    · obtain ⟨_, rfl⟩ := one _ _ e
      exact ⟨(e0.bs _ _ (e0.mod.kin _ _ hcell)).2, _, _, KX _ _ hcell, rfl⟩
    · match i, hy with
      | 0, hy =>
        cases Option.some.inj hy
        refine ⟨cc, by simp [List.lookup], fun v ev => ?_⟩
        cases Option.some.inj (Option.some.inj ev)
        exact ⟨.ref C, rfl, _, KX _ _ hcell, rfl⟩
      | i + 1, hy => simp at hy
  refine PySem.ks_codeAny_call_defAt (body := supBody p0 p1 p2 p3 p4 p5 p6 p7 p8 msg arg fld) (binds := (["self", arg] : List Str).zip us) hr.depth (KX _ _ lk) rfl lim (PySem.W.codeRec_of KX hcd) rfl hb S.nocell (fun ⟨n, v⟩ hy => S.par n (List.of_mem_zip hy).1) (fun h₁ hns kp => ?_) S.co S.gen S.kind
  let F : NF := ⟨"__init__", qual, params, supBody p0 p1 p2 p3 p4 p5 p6 p7 p8 msg arg fld, scope, [("__class__", cc)], cda⟩
  let X : Cx := ncx CX P w K mg base ["self", arg, "__class__"] F f A outer ⟨hp0, g0, d0, tk0, os0⟩ H E
  have I : Inv X [] (startF ["self", arg, "__class__"] [V.ref a, y] [some (.ref C)]) H ⟨h₁, g0, d0, tk0 + ((["self", arg] : List Str).zip us).length, os0⟩ :=
    inv_startN (CX := CX) (E := E) (N := ["self", arg, "__class__"]) (F := F) (f := f) (ws := [some (.ref C)]) S hr.hd e0 hl r cls hns kp
  have eσ : startF ["self", arg, "__class__"] [V.ref a, y] [some (.ref C)] = [some (.ref a), some y, some (.ref C)] := rfl
  rw [eσ] at I
  have pa : PA X [msg] (tCons te tNil) := hpa A outer ⟨hp0, g0, d0, tk0, os0⟩ H E
  generalize tk0 + ((["self", arg] : List Str).zip us).length = tk1 at I ⊢
  have KX1 : K.In h₁ := I.kIn
  obtain ⟨nm, q1, N, bs, bm, sn, sub, ab, col, dd, k0, k1, k2, k3, k5, hC, hbm⟩ := id T.cls
  obtain ⟨t1, hx⟩ := exo_at I.hok ea
  obtain ⟨mb, hb1, hb2⟩ := I.mod.blt
  have hself : scope.names.lookup ar.arg = some .local := by rw [har]; exact S.par "self" (by simp)
  obtain ⟨u, rfl⟩ : ∃ u, us = [Value.ref a, u] := by
    cases r with
    | @cons _ u0 _ ur ra rw' =>
      obtain rfl : u0 = Value.ref a := ra
      cases rw' with
      | cons rb rc => cases rc; exact ⟨_, rfl⟩
  have vself : (((["self", arg] : List Str).zip [Value.ref a, u]).reverse.lookup ar.arg) = some (.ref a) := by
    rw [har]
    have nd : (["self", arg] : List Str).Nodup := by
      have q := S.nd
      simp only [List.nodup_cons, List.mem_cons, not_or] at q ⊢
      exact ⟨⟨q.1.1, by simp⟩, by simp, by simp⟩
    exact zip_look (i := 0) nd rfl rfl
  show _root_.PySem.wpAt (model P w) X.A (.func (supBody p0 p1 p2 p3 p4 p5 p6 p7 p8 msg arg fld) X.env) (execs (supBody p0 p1 p2 p3 p4 p5 p6 p7 p8 msg arg fld) X.env) _ X.xe _
  refine PySem.ks_wpAt_execs_cons (PySem.ks_wpAt_Expr_any (PySem.ks_wpAt_MethodCall (PySem.ks_wpAt_super_base (env := X.env) (ar := ar) (f := f) hks (S.frk _ (by simp)) (by decide) rfl (KX1 _ _ lk) rfl hpar rfl (KX1 _ _ hcode) rfl hvs hfile htop ?_) (hev X.env)) I.quiet)
  refine PySem.W.ks_loadName_global S.kind hks (Calls.loadGlobal_builtin (mg := mg) (I.mod.glob.keeps I.bk) hsup (hb1.keeps I.bk) ((hb2 "super" (by decide)).trans (by decide +kernel : bootBuiltins "super" = some (.type "super"))) ⟨rfl, ?_⟩)
  refine wpAny_loadName_free S.kind (S.frk "__class__" (by simp)) (c := cc) rfl ⟨_, KX1 _ _ hcell, rfl⟩ ?_
  refine wpAny_loadName_local S.kind hself hns vself ?_
  have hCd := KX1 _ _ hC
  refine PySem.ks_wpAny_isType_cls hCd rfl ⟨rfl, ?_⟩
  refine PySem.ks_wpAny_call_super hCd rfl hx rfl (fun c e => by cases e) (PySem.W.looks_mroIn KX1 hmr) (fun h2 e2 kp2 => ?_)
  have I2 : Inv X [] [some (.ref a), some y, some (.ref C)] H ⟨h2, g0, d0, tk1, os0⟩ := I.kept (t' := tk1) kp2
  have KX2 : K.In h2 := I2.kIn
  have hx2 := kp2 _ _ hx
  have IA : PySem.W.InstAt h2 a _ C none := ⟨hx2, rfl, rfl, trivial⟩
  -- the bound __init__
  cases hcc : PySem.W.clsIn K C with
  | none => unfold ks_superIn at hal; rw [hcc] at hal; cases hal
  | some cd =>
    unfold ks_superIn at hal
    rw [hcc] at hal
    refine kxs_getMethod kxs_ValueError e2 (PySem.W.looks_opaque KX2 hst) (l₀ := cd.mro) (fun A Q E s k q => wpAny_bind ((PySem.W.looks_clsIn KX2 hcc) A _ E s k (wpAny_pure q))) rfl KX2 hal (IA.type.andThen (PySem.W.looks_subIn KX2 hVE)) (PySem.W.ks_ne KX2 IA hcc) (by decide) ?_
    have kp3 : ∀ b o, h2.get? b = some o → (h2.push (kxs_mw "ValueError.__init__" a)).get? b = some o := fun b o e => Heap.get?_push_of_some _ e
    have hu3 : (h2.push (kxs_mw "ValueError.__init__" a)).get? h2.objs.size = some (kxs_mw "ValueError.__init__" a) := Heap.get?_push_at rfl rfl
    have I3 : Inv X [] [some (.ref a), some y, some (.ref C)] H ⟨h2.push (kxs_mw "ValueError.__init__" a), g0, d0, tk1 + 1, os0⟩ := I2.kept (t' := tk1 + 1) kp3
    have I4 : Inv X [(h2.objs.size, kxs_mw "ValueError.__init__" a)] [some (.ref a), some y, some (.ref C)] H ⟨h2.push (kxs_mw "ValueError.__init__" a), g0, d0, tk1 + 1, os0⟩ := I3.pins_of fun p hp => by
      rw [List.mem_singleton.mp hp]
      exact ⟨hu3, I2.hok.fresh (Nat.le_refl _), Nat.ne_of_gt I2.lt, I2.nofs (Nat.le_refl _), fun v z => by cases z⟩
    show wpAny _ _ (callWith p3 (.ref h2.objs.size) [] (backTo p3 (starEach [msg] X.env)) []) _ _ _
    have ra := pa.run p3 _ _ _ H (fun vs H1 => ∃ z, vs = [z] ∧ H1 = H) I4 (hte a y H _ oky fun z => ⟨z, rfl, rfl⟩)
    rw [hpl] at ra ⊢
    refine kxs_callWith (i := "ValueError.__init__") (x := a) rfl (Calls.evalArgs_plain (thn ra fun us4 s4 hh => ?_))
    obtain ⟨vs4, H4, I5, r5, z, ev, eH⟩ := hh
    subst ev
    subst eH
    obtain ⟨h4, g4, d4, tk4, os4⟩ := s4
    have pin4 := I5.pin (h2.objs.size, kxs_mw "ValueError.__init__" a) (List.mem_append_right _ List.mem_cons_self)
    obtain ⟨t4, hx4⟩ := exo_at I5.hok ea
    refine ⟨pin4.1, call_mw (I5.kIn _ _ hC) hx4 pin4.1 (by show us4.length ≤ sizeLine; rw [← r5.length]; exact (show (1 : Nat) ≤ sizeLine by decide)) fun h5 t5 k5' hx5 => ?_⟩
    have J := I5.write (t' := tk4) (x := a) (e := a) (o := exo a C none) (by rw [ea]; exact True.intro) (.inl rfl) k5' ⟨_, hx5⟩ (exo_ok hx5)
    have eu : upd H4 a (exo a C none) = H4 := by
      funext b
      by_cases hb : b = a
      · rw [hb, upd_same, ea]
      · rw [upd_ne hb]
    rw [eu] at J
    -- self.f = y
    have hst2 : PSs X [.Assign [.Attribute (.Name "self" p5) fld p6] (.Name arg p7) p8] _ := pss_one (ps_ost (f := fld) (pe_var (i := 0) rfl (.inl (S.par "self" (by simp))) (by decide) (by decide)) (pe_var (i := 1) rfl (.inl (S.par arg (by simp))) hdb hdc))
    refine wpAt_of_wpAny (wpAny_mono (hst2.run _ _ _ _ { nx := fun _ H' => Q .non H', rt := Q } J ?_) (fun fl s' hs => ?_) fun e s' hs => hs)
    · exact ⟨_, rfl, _, rfl, a, C, rfl, T, hno, .inl ⟨ea, fun dx hdx n => q dx hdx n⟩⟩
    · have fin : ∀ {σ' : L2.St} {H' : Hp} {v : V} {u : Value}, Inv X [(h2.objs.size, kxs_mw "ValueError.__init__" a)] σ' H' s' → RelV v u → Q v H' → CE outer P w H4 ⟨hp0, g0, d0, tk0, os0⟩ Q u s' :=
        fun {σ' H' v u} J rv q => ⟨v, H', J.os, J.bare, J.base, J.hok, rv, q⟩
      cases fl with
      | ret u =>
        obtain ⟨v, σ', H', J, rv, q⟩ := hs
        exact fin J rv q
      | next =>
        obtain ⟨σ', H', J, q⟩ := hs
        exact fin (v := V.non) (u := Value.none) J rfl q
      | brk =>
        obtain ⟨_, _, _, q⟩ := hs
        exact False.elim q
      | cont =>
        obtain ⟨_, _, _, q⟩ := hs
        exact False.elim q
end TK

/-! raise X(e), X an own exception whose __init__ says super().__init__(..); self.f = e -/
namespace TK
open PySem PySem.Spec PyProof.Rows L2 NdefX
/-- what is told of X, at C, its __init__ at fI -/
structure SupT (P : Program) (w : World) (K : PySem.W.Frag) (mg : Str → Option Value) (base : Heap) (x arg fld : Str) (okv : V → Prop) (C fI : Addr) (fd : FuncData) : Prop where
  gC : mg x = some (.ref C)
  T : OexC K C
  iC : PySem.W.findIn K (.ref C) "__init__" = some (some (.ref fI))
  tI : PySem.W.typeIn K (.ref fI) = some (.type "function")
  F : FnOk P w K mg base CX0 1 fI fd ["self", arg] (spSup C fld okv)
  b : Binds K fd ["self", arg] []
  xf : XfC K C
  noN : PySem.W.findIn K (.ref C) fld = some none
  te : PySem.W.exmOne K (.ref C) (.ref C) = some true
/-- what the making asks -/
theorem sup_read {C : Addr} {fld : Str} {okv : V → Prop} {v : V} {H1 : Hp} {Q : XK} (ok : okv v) (q : ∀ d, H1 d = none → Q (.ref C) (some d) (upd H1 d (.xd [(fld, v)]))) :
    ([v] : List V).length ≤ 1000 ∧ ∀ a, H1 a = none → spSup C fld okv (.ref a :: ([v] ++ [])) (upd H1 a (exo a C none))
      (fun v H2 => v = .non ∧ ∃ (d : Addr) (fs : List (Str × V)), H2 a = some (exo a C (some d)) ∧ H2 d = some (exd d fs) ∧ H1 d = none ∧ Q (.ref C) (some d) (upd (del H2 a) d (.xd fs))) (fun _ _ _ => False) := by
  refine ⟨(show (1 : Nat) ≤ 1000 by decide), fun a na => ⟨a, v, rfl, ok, upd_same, fun dx hdx ne => ⟨rfl, dx, [(fld, v)], upd_same, ?_, ?_, ?_⟩⟩⟩
  · rw [upd_ne ne]; exact upd_same
  · rw [upd_ne ne] at hdx; exact hdx
  · rw [upd_ne ne] at hdx
    have e : upd (del (upd (upd (upd H1 a (exo a C none)) dx (exd dx [(fld, v)])) a (exo a C (some dx))) a) dx (.xd [(fld, v)]) = upd H1 dx (.xd [(fld, v)]) := by
      funext b
      by_cases h1 : b = dx
      · rw [h1, upd_same, upd_same]
      · rw [upd_ne h1, upd_ne h1]
        by_cases h2 : b = a
        · rw [h2, del_same, na]
        · rw [del_ne h2, upd_ne h2, upd_ne h1, upd_ne h2]
    rw [e]
    exact q dx hdx
section
variable {X : Cx} {W : WX} {x arg fld : Str} {okv : V → Prop} {C fI : Addr} {fd : FuncData} {e : Expr} {ta : TA} {p pos pos2 : Pos}
theorem ps_raiseSup (hc : X.calm = true) (T : SupT X.prog X.w X.K X.mg X.base x arg fld okv C fI fd) (hr : Room 2 X.A) (tk : Takes X W) (ha : PA X [e] ta) (hg : Gl X x)
    (hdb : (x == ("__debug__" : Str)) = false := by decide) (he : starEach (e :: []) X.env = (false, eval e X.env) :: starEach [] X.env := by rfl) (hpl : (backTo pos (starEach [] X.env)).any (·.1) = false := by rfl) :
    PS X (.Raise (some (.Call (.Name x p) [e] [] pos)) none pos2) (fun _ σ H => tMkO C (spSup C fld okv) [] ta σ H fun cls d H' => W cls d σ H') :=
  ps_raise hc tk (pmk_oex (dvs := []) T.T T.iC T.tI T.F hr T.b .nil (fun _ _ _ _ _ _ _ h => h.elim) hg T.gC ha hdb he hpl)
end
end TK

/-! X(), X an own exception without an __init__ -/
namespace TK
open PySem PySem.Spec PyProof.Rows L2
theorem pmk_own0 {X : Cx} {C : Addr} {bmB : List Value} {B newId initId : String} {x : Str} {p pos : Pos} (F : ExcBaseFacts B newId initId bmB) (q : PySem.W.excIn X.K C bmB newId = true) (gC : X.mg x = some (.ref C)) (kC : PySem.W.keepIn X.K (.ref C) = true) (r : Raises X (.ref C)) (hg : Gl X x)
    (hdb : (x == ("__debug__" : Str)) = false := by decide) : PMk X (.Call (.Name x p) [] [] pos) (fun _ H Q => Q (.ref C) none H) := by
  intro pins s σ H Q I h
  refine wpAny_Call_Name_kw (ld_glob I hg gC ?_ hdb)
  refine PySem.W.callWith_K0 I.kIn kC ?_
  show wpAny _ _ (call (.ref C) []) _ _ _
  obtain ⟨bm, N, nm, qn, bs, hdct, sn, sub, ab, col, dd, k0, k1, k2, k3, k5, mN, hC, hN, hni, T⟩ := exc_obj I.kIn q
  refine wpAny_call_exc_subT F T hC hN hni (fun h' e hm => ?_) (by show 0 ≤ sizeLine; exact Nat.zero_le _)
  exact mk_of I hm r h (I.hok.gone hm.new)
end TK

/-! isinstance of a caught exception that has its dict -/
namespace TK
section
open PySem PySem.W PySem.Spec PySem.Calls PyProof.Rows
variable {prog : Program} {w : World} {A : Around} {E : Value → Shared → Prop} {s : Shared} {K : Frag} {x D : Addr} {ox : Obj}
theorem findObj_dataO {C : Addr} {odc : Option Obj} {name : Str} {a g : Value} (hc : (clsIn K C).isSome = true) (ha : findIn K (.ref C) name = some (some a)) (hg : specialIn K a "__get__" = some (some g)) (ht : takesIn K a = some true) : findObj K C odc name = some (.bind g a) := by
  obtain ⟨cd, hc⟩ := Option.isSome_iff_exists.mp hc
  unfold findObj
  rw [hc, Option.bind_some, ha, Option.bind_some]
  simp [hg, ht]
theorem kin_classEo {Q : Option Value → Shared → Prop} (hga : findIn K (.ref D) "__getattribute__" = some (some (.builtin "BaseException.__getattribute__"))) (hgt : findIn K (.ref D) "__getattr__" = some none) (hsub : subIn K (.ref D) (.type "BaseException") = some true)
    (hdct : hasDictIn K D = true) (ha : findIn K (.ref D) "__class__" = some (some (.builtin "object.__class__")))
    (hn : specialIn K (.builtin "object.__class__") "__get__" = some (some (.builtin "getset_descriptor.__get__"))) (htk : takesIn K (.builtin "object.__class__") = some true) (hm : mroIn K D (.type "object") = some true)
    {odc : Option Obj} (X : K.In s.heap) (I : InstAt s.heap x ox D odc) (h : Q (some (.ref D)) { s with toks := s.toks + 1 }) : wpAny (model prog w) A (getAttr? (.ref x) "__class__") Q E s := by
  have hf : findObj K D odc "__class__" = some (.bind (.builtin "getset_descriptor.__get__") (.builtin "object.__class__")) := findObj_dataO (by obtain ⟨cd, hc, _⟩ := any_some hdct; rw [hc]; rfl) ha hn htk
  obtain ⟨hp, g, d, t, os⟩ := s
  have L0 := I.type (M := model prog w)
  have L1 := looks_findIn (M := model prog w) X hga
  have L2 := looks_findIn (M := model prog w) X hgt
  have L3 := looks_find (M := model prog w) X I hf
  have sub : Looks (model prog w) hp (isInstance (.ref x) (.type "BaseException")) true := L0.andThen (looks_subIn X hsub)
  have hx0 : (false && onTheHeap (Value.builtin "BaseException.__getattribute__")) = false := rfl
  have hx2 : (Value.builtin "BaseException.__getattribute__" == Value.builtin "object.__getattribute__") = false := by decide +kernel
  have hx1 : (onTheHeap (Value.ref D) && Value.builtin "BaseException.__getattribute__" == Value.builtin "object.__getattribute__") = false := by rw [hx2]; rfl
  unfold getAttr? getAttrBy? getAttrBy
  refine wpAny_bind (wpAny_mkText (wpAny_bind (wpAny_attempt (wpAny_holding (wpAny_bind (L0.at (wpAny_bind (L1.at ?_))))))))
  show wpAny _ _ (if (onTheHeap (Value.ref D) && Value.builtin "BaseException.__getattribute__" == Value.builtin "object.__getattribute__") = true then _ else _) _ _ _
  rw [hx1, if_neg Bool.false_ne_true]
  unfold getAttrByItsOwn hookBefore
  refine wpAny_bind ?_
  rw [if_pos (show onTheHeap (Value.ref D) = true from rfl)]
  refine L2.at ?_
  refine wpAny_bind (wpAny_attempt (wpAny_holding ?_))
  unfold callGetattribute
  rw [hx0, if_neg Bool.false_ne_true]
  unfold boundAndCalled
  rw [PySem.F.excAttr_ValueError.ga.bind (.ref x)]
  refine wpAny_bind (wpAny_pure ?_)
  show wpAny _ _ (call (.builtin "BaseException.__getattribute__") [.ref x, .str "__class__" t]) _ _ _
  refine wpAny_call (codeAny_call_builtin PySem.F.excAttr_ValueError.ga.plain PySem.F.entry_bexc_ga ?_)
  refine @check_slot (model prog w) _ _ ⟨hp, g, d, t + 1, os⟩ "BaseException.__getattribute__" "BaseException" "__getattribute__" (.ref x) [.str "__class__" t] [] _ (by decide +kernel) (by decide +kernel) sub (PySem.F.args_bexc_ga (.ref x) (.str "__class__" t)) ?_
  unfold Builtin.«object.__getattribute__»
  refine wpAny_bind (wpAny_of_eq (a := ((Value.ref x : Value), [Value.str "__class__" t])) (by first | rfl | (simp only [slotArgs]; rfl)) ?_)
  refine wpAny_bind (wpAny_pure (wpAny_bind (L0.at (wpAny_bind (L3.at ?_)))))
  show wpAny _ _ (holding [Value.builtin "object.__class__"] (call (.builtin "getset_descriptor.__get__") [.builtin "object.__class__", .ref x, .ref D]) >>= ret) _ _ _
  refine wpAny_bind (wpAny_holding (wpAny_call (class_get (s := ⟨hp, g, d, t + 1, os⟩) (ox := ox) (od := odc) X I hm ?_)))
  refine wpAny_pure ?_
  show wpAny _ _ (handedOut (.ref D)) _ _ _
  rw [handedOut_of (v := .ref D) rfl]
  first
    | exact wpAny_pure (wpAny_pure h)
    | exact wpAny_pure h
    | exact wpAny_pure (wpAny_bind (wpAny_pure (wpAny_pure h)))
theorem kitx_exco (hga : findIn K (.ref D) "__getattribute__" = some (some (.builtin "BaseException.__getattribute__"))) (hgt : findIn K (.ref D) "__getattr__" = some none) (hsub : subIn K (.ref D) (.type "BaseException") = some true) (hdct : hasDictIn K D = true) (ha : findIn K (.ref D) "__class__" = some (some (.builtin "object.__class__")))
    (hn : specialIn K (.builtin "object.__class__") "__get__" = some (some (.builtin "getset_descriptor.__get__"))) (htk : takesIn K (.builtin "object.__class__") = some true) (hm : mroIn K D (.type "object") = some true) {odc : Option Obj} :
    KitX K (.ref x) (.ref D) (fun h => InstAt h x ox D odc) where
  ty := fun _ _ _ I => I.type
  it := fun _ _ X _ => by
    obtain ⟨cdD, hcD, _⟩ := any_some hdct
    unfold clsIn at hcD
    split at hcD
    · rename_i c' d' cd' sl' ho
      intro A' Q' E' s' k q
      unfold isType loadHead
      exact wpAny_bind (wpAny_loadPart (k _ _ (X _ _ ho)) (wpAny_pure q))
    · cases hcD
  ne := fun h tp dd its n sl X htp => by
    obtain ⟨cdD, hcD, _⟩ := any_some hdct
    refine Bool.eq_false_iff.mpr fun q => ?_
    have e : D = tp := Value.ref.inj (beq_iff_eq.mp q)
    subst e
    unfold clsIn at hcD
    split at hcD
    · rename_i c' d' cd' sl' ho
      have z := (X _ _ ho).symm.trans htp
      cases z
    · cases hcD
  ca := fun X I k => kin_classEo hga hgt hsub hdct ha hn htk hm X I k
end
end TK

namespace TK
open PySem PySem.Spec PyProof.Rows L2
/-- the caught exception as it stands: its dict none, or told -/
def DctAt (d : Option Addr) (H : Hp) : Prop := d = none ∨ ∃ (dd : Addr) (fs : List (Str × V)), d = some dd ∧ H dd = some (.xd fs)
theorem inst_suite {X : Cx} {a D : Addr} {oe : Obj} {cls : Value} {d : Option Addr} {pn pins : List (Addr × Obj)} {σ : L2.St} {H : Hp} {s : Shared} (hz : Zc cls d oe) (hf : ∃ vs, oe.data = .fields vs) (I : Inv (X.suite a ((a, oe) :: pn)) pins σ H s) (ec : cls = .ref D) (hd : DctAt d H) :
    ∃ od, PySem.W.InstAt s.heap a oe D od := by
  obtain ⟨hget, _⟩ := I.pin (a, oe) (List.mem_append.mpr (.inl List.mem_cons_self))
  obtain ⟨vs, hv⟩ := hf
  subst ec
  rcases hd with rfl | ⟨dd, fs, rfl, e⟩
  · exact ⟨none, hget, hz.1, by unfold PySem.W.notCls; rw [hv] <;> rfl, by rw [hz.2]; exact True.intro⟩
  · have hx : ObjOk X.prog X.w H s.heap dd (.xd fs) := I.hok dd _ e
    obtain ⟨mA, hns, hr⟩ := hx
    obtain ⟨od, ho, hl⟩ := lookIn_ns hns
    exact ⟨some od, hget, hz.1, by unfold PySem.W.notCls; rw [hv] <;> rfl, by rw [hz.2]; exact ho⟩
/-- isinstance(e, c) -/
def rIsX (K : PySem.W.Frag) (D a : Addr) (cls : Value) (d : Option Addr) : List V → Hp → VK → Prop := fun xs H Q => ∃ (c : V) (cv : Value) (b : Bool), xs = [.ref a, c] ∧ cls = .ref D ∧ DctAt d H ∧ (∀ u, RelV c u → u = cv) ∧ PySem.W.kitOne K (.ref D) cv = some b ∧ Q (.bl b) H
theorem call_isX {X : Cx} {a D : Addr} {oe : Obj} {cls : Value} {d : Option Addr} {pn : List (Addr × Obj)} (C : ExcC X.K D) (hz : Zc cls d oe) (hf : ∃ vs, oe.data = .fields vs) : CallR (X.suite a ((a, oe) :: pn)) (.builtin "isinstance") (rIsX X.K D a cls d) := by
  intro pins s σ H xs us Q I r h
  obtain ⟨c, cv, b, rfl, ec, hd, hcv, e, q⟩ := h
  cases r with
  | cons rx rr =>
    cases rr with
    | cons rt rr =>
      cases rr
      cases rx
      have ec2 := hcv _ rt
      subst ec2
      obtain ⟨od, J⟩ := inst_suite hz hf I ec hd
      exact PySem.W.kia_one (kitx_exco C.hg C.hk C.hs C.hd C.ha C.hn C.ht C.hm) I.kIn J e (fun z => nomatch z) fun tk => ⟨.bl b, H, I.kept (t' := tk) fun _ _ z => z, rfl, q⟩
/-- isinstance(e, (c, ..)) -/
def rIsXT (K : PySem.W.Frag) (D a : Addr) (cls : Value) (d : Option Addr) : List V → Hp → VK → Prop := fun xs H Q => ∃ (tp : Addr) (cs : List V) (ws : List Value) (b : Bool), xs = [.ref a, .ref tp] ∧ cls = .ref D ∧ DctAt d H ∧ H tp = some (.tup cs) ∧ (∀ us, Vals cs us → us = ws) ∧ PySem.W.kitAny K (.ref D) ws = some b ∧ Q (.bl b) H
theorem call_isXT {X : Cx} {a D : Addr} {oe : Obj} {cls : Value} {d : Option Addr} {pn : List (Addr × Obj)} (C : ExcC X.K D) (hz : Zc cls d oe) (hf : ∃ vs, oe.data = .fields vs) : CallR (X.suite a ((a, oe) :: pn)) (.builtin "isinstance") (rIsXT X.K D a cls d) := by
  intro pins s σ H xs us Q I r h
  obtain ⟨tp, cs, ws, b, rfl, ec, hd, hT, hw, e, q⟩ := h
  cases r with
  | cons rx rr =>
    cases rr with
    | cons rt rr =>
      cases rr
      cases rx
      cases rt
      obtain ⟨od, J⟩ := inst_suite hz hf I ec hd
      obtain ⟨_, its, rv, o, h1, h2, n, h3⟩ := (show ObjOk X.prog X.w H s.heap tp (.tup cs) from I.hok tp _ hT)
      have e3 := hw _ rv
      subst e3
      obtain ⟨oc, odd, dt, sl⟩ := o
      simp only at h2 h3
      subst h2 h3
      exact PySem.W.kia_tup (kitx_exco C.hg C.hk C.hs C.hd C.ha C.hn C.ht C.hm) I.kIn J h1 e (fun z => nomatch z) fun tk => ⟨.bl b, H, I.kept (t' := tk) fun _ _ z => z, rfl, q⟩
end TK

/-! which classes an own exception is of, from simple facts -/
namespace TK
open PySem PySem.Spec PyProof.Rows L2 NdefX
/-- what is known of a class -/
structure ClsK (K : PySem.W.Frag) (N : Addr) : Prop where
  is_ : PySem.W.isClsIn K N = true
  ty : PySem.W.typeIn K (.ref N) = some (.type "type")
theorem kitCls_ref {K : PySem.W.Frag} {A N : Addr} {b : Bool} (h : ClsK K N) (s : PySem.W.subIn K (.ref A) (.ref N) = some b) : PySem.W.kitCls K (.ref A) (.ref N) = some b := by
  have h1 := h.is_
  unfold PySem.W.isClsIn at h1
  unfold PySem.W.kitCls
  simp [h1, h.ty, s]
theorem kit_no {K : PySem.W.Frag} {A N : Addr} (h : ClsK K N) (r : PySem.W.subIn K (.ref A) (.ref A) = some true) (s : PySem.W.subIn K (.ref A) (.ref N) = some false) : PySem.W.kitOne K (.ref A) (.ref N) = some false := by
  have ne : ((Value.ref A) == Value.ref N) = false := by
    cases e : ((Value.ref A) == Value.ref N) with
    | false => rfl
    | true =>
      have e2 := eq_of_beq e
      rw [← e2, r] at s
      cases s
  unfold PySem.W.kitOne
  rw [ne]
  exact kitCls_ref h s
theorem kit_yes {K : PySem.W.Frag} {A N : Addr} (h : ClsK K N) (s : PySem.W.subIn K (.ref A) (.ref N) = some true) : PySem.W.kitOne K (.ref A) (.ref N) = some true := by
  unfold PySem.W.kitOne
  split
  · rfl
  · exact kitCls_ref h s
theorem kitT_yes {K : PySem.W.Frag} {A : Addr} {T : String} (m : PySem.W.kitMeta T = true) (s : PySem.W.subIn K (.ref A) (.type T) = some true) : PySem.W.kitOne K (.ref A) (.type T) = some true := by
  unfold PySem.W.kitOne
  split
  · rfl
  · unfold PySem.W.kitCls
    simp [m, s]
theorem exm_self {K : PySem.W.Frag} {C : Addr} (h : ClsK K C) (b : PySem.W.subIn K (.ref C) (.type "BaseException") = some true) (r : PySem.W.subIn K (.ref C) (.ref C) = some true) : PySem.W.exmOne K (.ref C) (.ref C) = some true := by
  unfold PySem.W.exmOne
  rw [b, kitCls_ref h r]
  rfl
theorem kitAny_no {K : PySem.W.Frag} {t : Value} : ∀ {cs : List Value}, (∀ c ∈ cs, PySem.W.kitOne K t c = some false) → PySem.W.kitAny K t cs = some false
  | [], _ => rfl
  | c :: r, h => by
    unfold PySem.W.kitAny
    rw [h c (List.mem_cons_self ..)]
    exact kitAny_no fun d hd => h d (List.mem_cons_of_mem _ hd)
theorem kitAny_c {K : PySem.W.Frag} {t c : Value} {cs : List Value} (h : PySem.W.kitOne K t c = some false) (r : PySem.W.kitAny K t cs = some false) : PySem.W.kitAny K t (c :: cs) = some false := by
  unfold PySem.W.kitAny
  rw [h]
  exact r
theorem kitMeta_VE : PySem.W.kitMeta "ValueError" = true := by decide +kernel
/-- the facts of an exception's class, as the top's world tells them -/
theorem oexC_mk {K : PySem.W.Frag} {C : Addr} {nm q : Str} {N : Addr} {bs bm : List Value} {sn : List Str} {sub : List Value} {ab : Bool} {col : Option Bool} {dd : Option Addr} {k0 k1 k2 k3 k5 : Option Value}
    (lC : K.lookup C = some (excClassObj nm q C N bs bm true sn sub ab col dd k0 k1 k2 k3 k5 "ValueError.__new__")) (rf : PySem.HandSPX.refsVE bm = true) (sa : PySem.W.findIn K (.ref C) "__setattr__" = some (some (.builtin "object.__setattr__")))
    (bx : PySem.W.subIn K (.ref C) (.type "BaseException") = some true) (ty : PySem.W.typeIn K (.ref C) = some (.type "type")) (kc : PySem.W.keepIn K (.ref C) = true) : OexC K C := ⟨⟨_, _, _, _, _, _, _, _, _, _, _, _, _, _, _, lC, rf⟩, sa, bx, ty, kc⟩
end TK

/-! calls of methods that may raise, the exception's promise with the slots as they stand -/
namespace TK
open PySem PySem.Spec PyProof.Rows L2 NdefX
section
variable {X : Cx} {CX : CXT} {k : Nat} {f g C : Addr} {m : Str} {fd : FuncData} {ps : List Str} {sp : Sp} {E : L2.St → XK} {apos pos : Pos} {o e : Expr} {es : List Expr} {ta : TE} {t : TA}
def tMethAt (C : Addr) (m : Str) (sp : Sp) (E : L2.St → XK) (ta : TE) (t : TA) : TE := fun σ H Q => ta σ H fun x H1 => ∃ a dx fs, x = V.ref a ∧ H1 a = some (.ins C dx fs) ∧ fs.lookup m = none ∧
  t σ H1 fun vs H2 => sp (x :: vs) H2 Q (E σ)
/-- o.m(e, ..), that may raise -/
theorem pe_methAt {pl : Sem Bool} (he : PE X o ta) (c : Cls X.K C) (hm : Meth X.K C m f) (F : FnOk X.prog X.w X.K X.mg X.base CX k f fd ps sp) (hr : Room k X.A) (hb : Binds X.K fd ps []) (hx : ∀ σ, PassesAt CX X σ (E σ)) (ha : PA X (e :: es) t)
    (hst : starEach (e :: es) X.env = (false, eval e X.env) :: starEach es X.env := by rfl) (hpl : (backTo pos (starEach es X.env)).any (·.1) = false := by rfl)
    (ht : eval (.Call (.Attribute o m apos) (e :: es) [] pos) X.env = (do
      let ov ← eval o X.env
      standAt apos.atName
      let (f, first) ← holding [ov] (getMethod ov m pl)
      callWith pos f first (backTo pos (starEach (e :: es) X.env)) (backToKw pos (keywordEach [] X.env))) := by rfl) :
    PE X (.Call (.Attribute o m apos) (e :: es) [] pos) (tMethAt C m sp E ta t) := by
  refine ⟨fun pins s σ H Q I h => ?_⟩
  refine PySem.W.methodCall_KW (pl := pl) (thn (he.run pins s σ H _ I h) fun u s1 ⟨x, H1, I1, rx, a, dx, fs, ex, ea, l, q⟩ => ?_) ht
  subst ex
  obtain rfl : u = Value.ref a := rx
  refine getmeth_ok I1 ea c hm l ?_
  refine PySem.W.callWith_K (first := [.ref a]) (h₀ := X.base) I.ok.mod.kin hm.kp (thn (ha.run pos pins s1 σ H1 _ I1 q) fun us s2 ⟨vs, H2, I2, r, q2⟩ => ⟨I2.kIn, ?_⟩) hst hpl
  exact run_fnS (us := .ref a :: us) (vs := .ref a :: vs) F hr hb (hx σ) I2 (.cons rfl r) q2
/-- o.m(), that may raise -/
theorem pe_methAt0 {pl : Sem Bool} (he : PE X o ta) (c : Cls X.K C) (hm : Meth X.K C m f) (F : FnOk X.prog X.w X.K X.mg X.base CX k f fd ps sp) (hr : Room k X.A) (hb : Binds X.K fd ps []) (hx : ∀ σ, PassesAt CX X σ (E σ))
    (ht : eval (.Call (.Attribute o m apos) [] [] pos) X.env = (do
      let ov ← eval o X.env
      standAt apos.atName
      let (f, first) ← holding [ov] (getMethod ov m pl)
      callWith pos f first (backTo pos (starEach [] X.env)) (backToKw pos (keywordEach [] X.env))) := by rfl) :
    PE X (.Call (.Attribute o m apos) [] [] pos) (tMethAt C m sp E ta tNil) := by
  refine ⟨fun pins s σ H Q I h => ?_⟩
  refine PySem.W.methodCall_KW (pl := pl) (thn (he.run pins s σ H _ I h) fun u s1 ⟨x, H1, I1, rx, a, dx, fs, ex, ea, l, q⟩ => ?_) ht
  subst ex
  obtain rfl : u = Value.ref a := rx
  refine getmeth_ok I1 ea c hm l ?_
  exact PySem.W.callWith_K0 (first := [.ref a]) I1.kIn hm.kp (run_fnS (us := [.ref a]) (vs := [.ref a]) F hr hb (hx σ) I1 (.cons rfl .nil) q)
end
end TK

namespace TK
open PySem PySem.Spec PyProof.Rows L2 NdefX
/-! a value of another kind, compared with an own object -/
inductive OddX (K : PySem.W.Frag) (C : Addr) (H : Hp) : V → Prop where
  | non (h : PySem.W.notFirst K C (.type "NoneType") = true) : OddX K C H .non
  | str (z : Str) (h : PySem.W.notFirst K C (.type "str") = true) : OddX K C H (.str z)
  | int (i : Int) (h : PySem.W.notFirst K C (.type "int") = true) : OddX K C H (.int i)
  | bl (b : Bool) (h : PySem.W.notFirst K C (.type "bool") = true) : OddX K C H (.bl b)
  | lst {a : Addr} {xs : List V} (e : H a = some (.lst xs)) (h : PySem.W.notFirst K C (.type "list") = true) : OddX K C H (.ref a)
  | tup {a : Addr} {xs : List V} (e : H a = some (.tup xs)) (h : PySem.W.notFirst K C (.type "tuple") = true) : OddX K C H (.ref a)
section
variable {X : Cx} {K : PySem.W.Frag} {CX : CXT} {C g : Addr} {n : Nat} {fd : FuncData} {ps : List Str} {sp : Sp} {E : XK} {pins : List (Addr × Obj)} {σ : L2.St} {H : Hp} {s : Shared}
def rOwnX (K : PySem.W.Frag) (C : Addr) (sp : Sp) (E : XK) : R2 := fun x y H Q => IsIn H x C ∧ (IsIn H y C ∨ OddX K C H y) ∧ sp [x, y] H Q E
theorem oddX_looks {x : V} {u : Value} (I : Inv X pins σ H s) (rx : RelV x u) (o : OddX X.K C H x) : ∃ tb, PySem.W.Looks (model X.prog X.w) s.heap (typeOf u) tb ∧ PySem.W.notFirst X.K C tb = true := by
  cases o with
  | non h => cases (show u = Value.none from rx); exact ⟨_, .now, h⟩
  | str z h => obtain ⟨t, q⟩ := (show ∃ t, u = Value.str z t from rx); cases q; exact ⟨_, .now, h⟩
  | int z h => obtain ⟨t, q⟩ := (show ∃ t, u = Value.int z t from rx); cases q; exact ⟨_, .now, h⟩
  | bl z h => cases (show u = Value.bool z from rx); exact ⟨_, .now, h⟩
  | @lst a xs ea h =>
    cases (show u = Value.ref a from rx)
    obtain ⟨_, _, n, _, h1⟩ := (show ObjOk X.prog X.w H s.heap a (.lst xs) from I.hok a _ ea)
    exact ⟨.type "list", (PySem.W.Looks.ld h1).andThen .now, h⟩
  | @tup a xs ea h =>
    cases (show u = Value.ref a from rx)
    obtain ⟨_, _, _, o, h1, h2, _⟩ := (show ObjOk X.prog X.w H s.heap a (.tup xs) from I.hok a _ ea)
    exact ⟨_, h2 ▸ (PySem.W.Looks.ld h1).andThen .now, h⟩
theorem op_ownEqX {op : CmpOp} (hK : X.K = K) (hop : ∀ a b, compareOp op a b = richCompare op a b) (c : Own X.K C (cmpInfo op).2.1 g) (F : FnOk X.prog X.w X.K X.mg X.base CX n g fd ps sp) (hr : Room n X.A) (hb : Binds X.K fd ps []) (hx : Passes CX X E) :
    OpR X (compareOp op) (rOwnX K C sp E) := by
  subst hK
  intro pins s σ H x y v u Q I rx ry h
  obtain ⟨⟨a, dx, fs, rfl, ha⟩, hy, q⟩ := h
  cases rx
  obtain ⟨ox, od, J⟩ := own_at I ha
  obtain ⟨m, hF⟩ := I.fr
  rw [hop]
  have key : ∃ tb, PySem.W.Looks (model X.prog X.w) s.heap (typeOf u) tb ∧ PySem.W.notFirst X.K C tb = true := by
    rcases hy with ⟨b, dy, gs, rfl, hb'⟩ | o
    · cases ry
      obtain ⟨ox', od', J'⟩ := own_at I hb'
      exact ⟨_, J'.type, by simp [PySem.W.notFirst]⟩
    · exact oddX_looks I ry o
  obtain ⟨tb, L, nf⟩ := key
  refine PySem.W.cmp_K (op := op) (tb := tb) hr.units0 hF I.ok.mod.kin J L nf c.at_ c.fn (wpAny_mono (run_own F hr I.env0 hb hx I (vs := [.ref a, y]) (.cons rfl (.cons ry .nil)) q) (fun w s' z => ?_) fun _ _ x => x)
  obtain ⟨z', H', I', rz, qz⟩ := z
  exact SlX.cmpback rz ⟨z', H', I', rz, qz⟩
end
/-! o op p of two of one class, that may raise -/
section
variable {X : Cx} {CX : CXT} {n : Nat} {g C : Addr} {fd : FuncData} {ps : List Str} {sp : Sp} {E : L2.St → XK} {pos : Pos} {a b : Expr} {ta tb : TE} {pins : List (Addr × Obj)} {σ : L2.St} {H : Hp} {s : Shared}
theorem run_ownAt {E : XK} {A : Around} {Q : VK} {us : List Value} {vs : List V} (F : FnOk X.prog X.w X.K X.mg X.base CX n g fd ps sp) (hr : Room n A) (e0 : Env0 X.prog X.w X.K X.mg X.base A X.stack s H) (hb : Binds X.K fd ps []) (hx : PassesAt CX X σ E)
    (I : Inv X pins σ H s) (r : Vals vs us) (h : sp vs H Q E) : wpAny (model X.prog X.w) A (call (.ref g) us) (EP X pins σ Q) X.xe s := by
  have hl : (us ++ []).length = ps.length := by rw [List.append_nil, ← r.length]; exact F.len _ _ _ _ h
  have hbb := hb s us I.kIn hl
  rw [List.append_nil] at hbb
  refine wpAny_call (codeAny_mono (F.run A X.stack s H ⟨us, []⟩ us vs Q E hr e0 hbb r h) fun r s' hq => ?_)
  cases r with
  | error e => exact hx pins H s e s' I hq
  | ok fl =>
    cases fl with
    | ret u => exact I.after hq
    | next => exact False.elim hq
    | brk => exact False.elim hq
    | cont => exact False.elim hq
theorem pe_ownBinAt {op : Operator} (c : Own X.K C (PySem.dunder op.info.2) g) (sf : PySem.W.selfFirst X.K C = true) (F : FnOk X.prog X.w X.K X.mg X.base CX n g fd ps sp) (hr : Room n X.A) (hb : Binds X.K fd ps []) (hx : ∀ σ, PassesAt CX X σ (E σ))
    (ha : PE X a ta) (hb' : PE X b tb) : PE X (.BinOp a op b pos) (fun σ H Q => ta σ H fun x H1 => tb σ H1 fun y H2 => rOwn2 C sp (E σ) x y H2 Q) := by
  refine ⟨fun pins s σ H Q I h => ?_⟩
  refine wpAny_BinOp (binT (R := fun x y H2 => rOwn2 C sp (E σ) x y H2 Q) ha hb' I h fun v u s2 x y H2 I2 rx ry q => ?_)
  obtain ⟨⟨a, dx, fs, rfl, ha⟩, ⟨b, dy, gs, rfl, hb''⟩, q⟩ := q
  cases rx
  cases ry
  obtain ⟨ox, od, J⟩ := own_at I2 ha
  obtain ⟨ox', od', J'⟩ := own_at I2 hb''
  obtain ⟨m, hF⟩ := I2.fr
  refine PySem.W.binop_K hF I2.ok.mod.kin J J'.type sf c.at_ c.fn (wpAny_mono (run_ownAt F hr I2.env0 hb (hx σ) I2 (vs := [.ref a, .ref b]) (.cons rfl (.cons rfl .nil)) q) (fun w s' z => ?_) fun _ _ x => x)
  obtain ⟨z', H', I', rz, qz⟩ := z
  exact SlX.cmpback rz ⟨z', H', I', rz, qz⟩
end
end TK

namespace TK
open PySem PySem.Spec PyProof.Rows L2
def topS (i : Nat) : Stmt := PySem.Challenge.pw_turnsandkeys_k01_tolls_joined.main.body.getD i (.Pass ⟨0, 0, 0, 0⟩)
abbrev s_wall : Stmt := topS 0
theorem sc_wall : FnScope ["k"] ["k"] (defScope s_wall) := ⟨rfl, rfl, rfl, by decide +kernel, rfl, by decide +kernel, by decide +kernel⟩
abbrev s_is_name : Stmt := topS 12
theorem sc_is_name : FnScope ["word", "sign"] ["word"] (defScope s_is_name) := ⟨rfl, rfl, rfl, by decide +kernel, rfl, by decide +kernel, by decide +kernel⟩
abbrev s_check_size : Stmt := topS 13
theorem sc_check_size : FnScope ["size", "low", "high"] ["size", "low", "high"] (defScope s_check_size) := ⟨rfl, rfl, rfl, by decide +kernel, rfl, by decide +kernel, by decide +kernel⟩
abbrev s_check_names : Stmt := topS 14
theorem sc_check_names : FnScope ["names", "most", "hook", "at", "name"] ["names", "most", "hook"] (defScope s_check_names) := ⟨rfl, rfl, rfl, by decide +kernel, rfl, by decide +kernel, by decide +kernel⟩
abbrev s_check_known : Stmt := topS 15
theorem sc_check_known : FnScope ["names", "known", "name"] ["names", "known"] (defScope s_check_known) := ⟨rfl, rfl, rfl, by decide +kernel, rfl, by decide +kernel, by decide +kernel⟩
abbrev s_plus : Stmt := topS 17
theorem sc_plus : FnScope ["price", "other"] ["price", "other"] (defScope s_plus) := ⟨rfl, rfl, rfl, by decide +kernel, rfl, by decide +kernel, by decide +kernel⟩
abbrev s_least : Stmt := topS 18
theorem sc_least : FnScope ["prices", "price"] ["prices"] (defScope s_least) := ⟨rfl, rfl, rfl, by decide +kernel, rfl, by decide +kernel, by decide +kernel⟩
abbrev s_check_entries : Stmt := topS 20
theorem sc_check_entries : FnScope ["names", "entries", "giver", "taker", "toll"] ["names", "entries"] (defScope s_check_entries) := ⟨rfl, rfl, rfl, by decide +kernel, rfl, by decide +kernel, by decide +kernel⟩
abbrev s_least_tolls : Stmt := topS 21
theorem sc_least_tolls : FnScope ["entries", "tolls", "giver", "taker", "toll"] ["entries"] (defScope s_least_tolls) := ⟨rfl, rfl, rfl, by decide +kernel, rfl, by decide +kernel, by decide +kernel⟩
abbrev s_L_cell : Stmt := topS 24
theorem sc_L_cell : FnScope ["_law_script", "_law_k", "_law_far", "_law_j"] ["_law_script", "_law_k"] (defScope s_L_cell) := ⟨rfl, rfl, rfl, by decide +kernel, rfl, by decide +kernel, by decide +kernel⟩
abbrev s_L_mixed : Stmt := topS 25
theorem sc_L_mixed : FnScope ["_law_cell_here", "_law_k", "_law_x"] ["_law_cell_here", "_law_k"] (defScope s_L_mixed) := ⟨rfl, rfl, rfl, by decide +kernel, rfl, by decide +kernel, by decide +kernel⟩
abbrev s_L_pool : Stmt := topS 26
theorem sc_L_pool : FnScope ["_law_cell_here", "_law_number", "_law_rest", "_law_deep", "_law_pool_here", "_law_k"] ["_law_cell_here", "_law_number"] (defScope s_L_pool) := ⟨rfl, rfl, rfl, by decide +kernel, rfl, by decide +kernel, by decide +kernel⟩
abbrev s_L_part : Stmt := topS 27
theorem sc_L_part : FnScope ["_law_pool_here", "_law_spot", "_law_under", "_law_size"] ["_law_pool_here", "_law_spot", "_law_under", "_law_size"] (defScope s_L_part) := ⟨rfl, rfl, rfl, by decide +kernel, rfl, by decide +kernel, by decide +kernel⟩
abbrev s_L_names : Stmt := topS 28
theorem sc_L_names : FnScope ["_law_pool_here", "_law_spot", "_law_number", "_law_letters", "_law_stem", "_law_k", "_law_turn", "_law_cut", "_law_first", "_law_short", "_law_tail", "_law_words_here", "_law_mark"] ["_law_pool_here", "_law_spot", "_law_number"] (defScope s_L_names) := ⟨rfl, rfl, rfl, by decide +kernel, rfl, by decide +kernel, by decide +kernel⟩
abbrev s_L_strange : Stmt := topS 29
theorem sc_L_strange : FnScope ["_law_words_here", "_law_letter"] ["_law_words_here"] (defScope s_L_strange) := ⟨rfl, rfl, rfl, by decide +kernel, rfl, by decide +kernel, by decide +kernel⟩
abbrev s_L_words : Stmt := topS 30
theorem sc_L_words : FnScope ["_law_cell_here", "_law_number", "_law_letters", "_law_rest", "_law_words_here", "_law_k", "_law_size", "_law_word", "_law_j"] ["_law_cell_here", "_law_number"] (defScope s_L_words) := ⟨rfl, rfl, rfl, by decide +kernel, rfl, by decide +kernel, by decide +kernel⟩
abbrev s_L_spots : Stmt := topS 31
theorem sc_L_spots : FnScope ["_law_cell_here", "_law_number", "_law_place", "_law_words_here"] ["_law_cell_here", "_law_number", "_law_place"] (defScope s_L_spots) := ⟨rfl, rfl, rfl, by decide +kernel, rfl, by decide +kernel, by decide +kernel⟩
abbrev s_L_tolls : Stmt := topS 32
theorem sc_L_tolls : FnScope ["_law_pool_here", "_law_spot", "_law_words_here", "_law_number", "_law_loads_here", "_law_k", "_law_one", "_law_two", "_law_toll"] ["_law_pool_here", "_law_spot", "_law_words_here", "_law_number"] (defScope s_L_tolls) := ⟨rfl, rfl, rfl, by decide +kernel, rfl, by decide +kernel, by decide +kernel⟩
abbrev s_L_loads : Stmt := topS 33
theorem sc_L_loads : FnScope ["_law_cell_here", "_law_words_here", "_law_rest", "_law_loads_here", "_law_turn", "_law_one", "_law_two", "_law_toll"] ["_law_cell_here", "_law_words_here"] (defScope s_L_loads) := ⟨rfl, rfl, rfl, by decide +kernel, rfl, by decide +kernel, by decide +kernel⟩
abbrev s_L_integer : Stmt := topS 34
theorem sc_L_integer : FnScope ["_law_got"] ["_law_got"] (defScope s_L_integer) := ⟨rfl, rfl, rfl, by decide +kernel, rfl, by decide +kernel, by decide +kernel⟩
abbrev s_L_same : Stmt := topS 35
theorem sc_L_same : FnScope ["_law_got", "_law_wanted", "_law_k"] ["_law_got", "_law_wanted"] (defScope s_L_same) := ⟨rfl, rfl, rfl, by decide +kernel, rfl, by decide +kernel, by decide +kernel⟩
abbrev s_L_less : Stmt := topS 36
theorem sc_L_less : FnScope ["_law_one", "_law_two"] ["_law_one", "_law_two"] (defScope s_L_less) := ⟨rfl, rfl, rfl, by decide +kernel, rfl, by decide +kernel, by decide +kernel⟩
abbrev s_L_least : Stmt := topS 37
theorem sc_L_least : FnScope ["_law_prices", "_law_least_here", "_law_cost"] ["_law_prices"] (defScope s_L_least) := ⟨rfl, rfl, rfl, by decide +kernel, rfl, by decide +kernel, by decide +kernel⟩
abbrev s_L_least_of : Stmt := topS 38
theorem sc_L_least_of : FnScope ["_law_loads_here", "_law_one", "_law_two", "_law_found", "_law_first", "_law_second", "_law_toll"] ["_law_loads_here", "_law_one", "_law_two"] (defScope s_L_least_of) := ⟨rfl, rfl, rfl, by decide +kernel, rfl, by decide +kernel, by decide +kernel⟩
abbrev s_L_rows : Stmt := topS 39
theorem sc_L_rows : FnScope ["_law_words_here", "_law_loads_here", "_law_rows_here", "_law_one", "_law_two"] ["_law_words_here", "_law_loads_here"] (defScope s_L_rows) := ⟨rfl, rfl, rfl, by decide +kernel, rfl, by decide +kernel, by decide +kernel⟩
abbrev s_L_listed : Stmt := topS 40
theorem sc_L_listed : FnScope ["_law_words_here", "_law_rows_here", "_law_told", "_law_k", "_law_j"] ["_law_words_here", "_law_rows_here"] (defScope s_L_listed) := ⟨rfl, rfl, rfl, by decide +kernel, rfl, by decide +kernel, by decide +kernel⟩
abbrev s_L_keeps : Stmt := topS 41
theorem sc_L_keeps : FnScope ["_law_table", "_law_words_here", "_law_rows_here", "_law_k", "_law_j"] ["_law_table", "_law_words_here", "_law_rows_here"] (defScope s_L_keeps) := ⟨rfl, rfl, rfl, by decide +kernel, rfl, by decide +kernel, by decide +kernel⟩
abbrev s_L_diagonal : Stmt := topS 42
theorem sc_L_diagonal : FnScope ["_law_size", "_law_rows_here", "_law_k", "_law_j"] ["_law_size"] (defScope s_L_diagonal) := ⟨rfl, rfl, rfl, by decide +kernel, rfl, by decide +kernel, by decide +kernel⟩
abbrev s_L_lesser : Stmt := topS 43
theorem sc_L_lesser : FnScope ["_law_a", "_law_b", "_law_rows_here", "_law_k", "_law_j"] ["_law_a", "_law_b"] (defScope s_L_lesser) := ⟨rfl, rfl, rfl, by decide +kernel, rfl, by decide +kernel, by decide +kernel⟩
abbrev s_L_changed : Stmt := topS 44
theorem sc_L_changed : FnScope ["_law_words_here", "_law_rows_here", "_law_number", "_law_told", "_law_place", "_law_one", "_law_two", "_law_toll"] ["_law_words_here", "_law_rows_here", "_law_number"] (defScope s_L_changed) := ⟨rfl, rfl, rfl, by decide +kernel, rfl, by decide +kernel, by decide +kernel⟩
abbrev s_L_refused : Stmt := topS 45
theorem sc_L_refused : FnScope ["_law_t", "_law_u", "_law_way", "_law_told", "_law_made", "e", "_law_other"] ["_law_t", "_law_u", "_law_way"] (defScope s_L_refused) := ⟨rfl, rfl, rfl, by decide +kernel, rfl, by decide +kernel, by decide +kernel⟩
abbrev s_L_foreign : Stmt := topS 46
theorem sc_L_foreign : FnScope ["_law_words_here", "_law_loads_here", "_law_strange_here", "_law_renamed", "_law_one", "_law_two", "_law_toll", "_law_tables", "_law_kept"] ["_law_words_here", "_law_loads_here"] (defScope s_L_foreign) := ⟨rfl, rfl, rfl, by decide +kernel, rfl, by decide +kernel, by decide +kernel⟩
abbrev s_L_unequal : Stmt := topS 47
theorem sc_L_unequal : FnScope ["_law_t", "_law_words_here", "_law_loads_here", "_law_rows_here", "_law_number", "_law_odd", "_law_v", "_law_way"] ["_law_t", "_law_words_here", "_law_loads_here", "_law_rows_here", "_law_number"] (defScope s_L_unequal) := ⟨rfl, rfl, rfl, by decide +kernel, rfl, by decide +kernel, by decide +kernel⟩
abbrev s_law : Stmt := topS 48
theorem sc_law : FnScope ["_law_script", "_law_head", "_law_tail", "_law_size", "_law_words_here", "_law_one", "_law_two", "_law_k", "_law_a", "_law_b", "_law_t", "_law_u", "_law_joined", "_law_plain"] ["_law_script"] (defScope s_law) := ⟨rfl, rfl, rfl, by decide +kernel, rfl, by decide +kernel, by decide +kernel⟩
end TK

namespace TK
open PySem PySem.Spec PyProof.Rows L2
section
variable {P : Program} {w : World} {K : PySem.W.Frag} {mg : Str → Option Value} {base : Heap}
/-! check_size, check_range -/
theorem pz {n : Nat} : (0 : Int) < ((n + 1 : Nat) : Int) := by omega
theorem mb {a : Int} {n : Nat} (h : n + 1 ≤ 2 ^ 63) : -(2 ^ 64) < a % ((n + 1 : Nat) : Int) ∧ a % ((n + 1 : Nat) : Int) < 2 ^ 64 := by
  have h1 := Int.emod_nonneg a (b := ((n + 1 : Nat) : Int)) (by omega)
  have h2 := Int.emod_lt_of_pos a (b := ((n + 1 : Nat) : Int)) (by omega)
  omega
/-! _law_part -/
def partOf (ns : List Int) (s u z : Int) : Int := ns.getD s.toNat 0 / u % z
def spPart (K : PySem.W.Frag) : Sp := fun vs H Q _ => ∃ (a : Addr) (ns : List Int) (s u z : Int), vs = [.ref a, .int s, .int u, .int z] ∧ SqL K H a (ns.map V.int) ∧ 0 ≤ s ∧ s < ns.length ∧ 0 < u ∧ u < 1000000 ∧ 0 < z ∧ Q (.int (partOf ns s u z)) H
theorem get_int {ns : List Int} {s : Int} (h0 : 0 ≤ s) (h : s < ns.length) : atI (ns.map V.int) s = some (.int (ns.getD s.toNat 0)) := by
  have h1 : s.toNat < ns.length := by omega
  refine atI_in h0 ?_
  rw [List.getElem?_map, List.getElem?_eq_getElem h1, List.getD_eq_getElem?_getD, List.getElem?_eq_getElem h1]
  rfl
theorem ok_L_part {f : Addr} {fd : FuncData} (F : Fun K "_law_part" "_law_part" s_L_part f fd) (m_int : mg "int" = none) : FnOk P w K mg base CX0 1 f fd ["_law_pool_here", "_law_spot", "_law_under", "_law_size"] (spPart K) := by
  refine F.ok sc_L_part (fun vs H Q E h => ?_) (fun cdv A outer s H vs Q E hr h => ?_)
  · obtain ⟨a, ns, s, u, z, rfl, _⟩ := h
    rfl
  · obtain ⟨a, ns, s, u, z, rfl, hS, h0, h1, h2, h3, h4, q⟩ := h
    refine ⟨_, (pss_one (ps_ret (pe_op op_mod (pe_op op_fdiv (pe_callTy call_int1 (by rfl) m_int (by decide +kernel) (pa_cons (pe_ix ix_list (pv 0) (pv 1) (fun _ _ => rfl)) pa_nil)) (pv 2)) (pv 3)))), ?_⟩
    refine ⟨_, rfl, _, rfl, _, _, _, _, rfl, rfl, hS, get_int h0 h1, .inl ⟨_, rfl, _, rfl, _, _, rfl, rfl, ⟨h2, by omega⟩, _, rfl, _, _, rfl, rfl, h4, ?_⟩⟩
    exact q
theorem part_lo {ns : List Int} {s u z : Int} (h : 0 < z) : 0 ≤ partOf ns s u z := Int.emod_nonneg _ (by omega)
theorem part_hi {ns : List Int} {s u z : Int} (h : 0 < z) : partOf ns s u z < z := Int.emod_lt_of_pos _ h
/-! _law_mixed -/
def spMixed : Sp := fun vs H Q _ => ∃ c k : Int, vs = [.int c, .int k] ∧ 0 ≤ k ∧ k < 1000000 ∧ ∀ r : Int, 0 ≤ r → Q (.int r) H
theorem ok_L_mixed {f : Addr} {fd : FuncData} (F : Fun K "_law_mixed" "_law_mixed" s_L_mixed f fd) (m_abs : mg "abs" = none) : FnOk P w K mg base CX0 1 f fd ["_law_cell_here", "_law_k"] spMixed := by
  refine F.ok sc_L_mixed (fun vs H Q E h => ?_) (fun cdv A outer s H vs Q E hr h => ?_)
  · obtain ⟨c, k, rfl, _⟩ := h
    rfl
  · obtain ⟨c, k, rfl, h0, h1, q⟩ := h
    refine ⟨_, (pss_cons (ps_set (i := 2) sc_L_mixed.nd rfl (.inl rfl) (pe_op op_mod (pe_op op_add (pe_op op_mul (pe_op op_mod (pe_callB call_abs (by rfl) m_abs (by decide +kernel) (pa_cons (pv 0) pa_nil)) pe_int) pe_int) (pe_op op_mul (pe_op op_add (pv 1) pe_int) pe_int)) pe_int))
  (pss_cons (ps_set (i := 2) sc_L_mixed.nd rfl (.inl rfl) (pe_op op_mod (pe_op op_add (pe_op op_add (pe_op op_mul (pv 2) pe_int) (pe_op op_fdiv (pv 2) pe_int)) (pe_op op_mul (pe_op op_add (pv 1) pe_int) pe_int)) pe_int))
  (pss_one (ps_ret (pe_op op_fdiv (pv 2) pe_int))))), ?_⟩
    refine ⟨_, rfl, _, rfl, _, _, rfl, rfl, pz, _, _, rfl, rfl, .inr (by decide), _, rfl, _, _, rfl, rfl, _, _, rfl, rfl, .inr (by decide), _, _, rfl, rfl, _, _, rfl, rfl, pz, ?_⟩
    refine ⟨_, rfl, _, _, rfl, rfl, .inr (by decide), _, rfl, _, _, rfl, rfl, ⟨by decide, by decide⟩, _, _, rfl, rfl, _, rfl, _, _, rfl, rfl, _, _, rfl, rfl, .inr (by decide), _, _, rfl, rfl, _, _, rfl, rfl, pz, ?_⟩
    refine ⟨_, rfl, _, _, rfl, rfl, ⟨by decide, by decide⟩, ?_⟩
    exact q _ (Int.ediv_nonneg (Int.emod_nonneg _ (by decide)) (by decide))
/-! _law_cell -/
def spCellA (K : PySem.W.Frag) : Sp := fun vs H Q _ => ∃ (a : Addr) (ns : List Int) (k : Int), vs = [.ref a, .int k] ∧ SqL K H a (ns.map V.int) ∧ 0 ≤ k ∧ k < 1000 ∧ ns.length ≤ 1000 ∧ ∀ r : Int, Q (.int r) H
theorem ok_L_cell {f : Addr} {fd : FuncData} (F : Fun K "_law_cell" "_law_cell" s_L_cell f fd) (m_len : mg "len" = none) (m_range : mg "range" = none) (m_abs : mg "abs" = none) : FnOk P w K mg base CX0 1 f fd ["_law_script", "_law_k"] (spCellA K) := by
  refine F.ok sc_L_cell (fun vs H Q E h => ?_) (fun cdv A outer s H vs Q E hr h => ?_)
  · obtain ⟨a, ns, k, rfl, _⟩ := h
    rfl
  · obtain ⟨a, ns, k, rfl, hS, h0, h1, h2, q⟩ := h
    refine ⟨_, (pss_cons (ps_if (pt_cmpR op_lt (pv 1) (pe_callB call_len_seq (by rfl) m_len (by decide +kernel) (pa_cons (pv 0) pa_nil)) (nomark _)) (pss_one (ps_ret (pe_ix ix_list (pv 0) (pv 1) (fun _ _ => rfl)))) pss_nil)
  (pss_cons (ps_set (i := 2) sc_L_cell.nd rfl (.inl rfl) (pe_op op_mul pe_int (pe_op op_add (pv 1) pe_int)))
  (pss_cons (ps_for PassesOwn.never rfl (pi_range1 (by rfl) m_range (pa_cons (pe_callB call_len_seq (by rfl) m_len (by decide +kernel) (pa_cons (pv 0) pa_nil)) pa_nil)) (pg_name (i := 3) sc_L_cell.nd rfl (.inl rfl))
    (pss_one (ps_set (i := 2) sc_L_cell.nd rfl (.inl rfl) (pe_op op_mod (pe_op op_add (pv 2) (pe_op op_mul (pe_op op_mul (pe_op op_add (pv 3) pe_int) (pe_op op_mod (pe_callB call_abs (by rfl) m_abs (by decide +kernel) (pa_cons (pe_ix ix_list (pv 0) (pv 3) (fun _ _ => rfl)) pa_nil)) pe_int)) pe_int)) pe_int))))
  (pss_one (ps_ret (pv 2)))))), ?_⟩
    refine ⟨_, rfl, _, rfl, _, _, rfl, .inl hS, _, _, rfl, rfl, _, rfl, ite2 (fun e => ?_) (fun e => ?_)⟩
    · have e1 : k < ((ns.map V.int).length : Nat) := of_decide_eq_true e
      rw [List.length_map] at e1
      exact ⟨_, rfl, _, rfl, _, _, _, _, rfl, rfl, hS, get_int h0 e1, q _⟩
    · refine ⟨_, rfl, _, _, rfl, rfl, _, _, rfl, rfl, .inl (by decide), ?_⟩
      refine ⟨_, rfl, _, _, rfl, .inl hS, _, rfl, by omega, by rw [List.length_map]; omega, for_range (fun i σ H' => H' = H ∧ ∃ (r : Int) (y : Option V), σ = [some (.ref a), some (.int k), some (.int r), y]) ⟨rfl, _, _, rfl⟩ ?_ ?_⟩
      · rintro i σ H' hi ⟨rfl, r, y, rfl⟩
        rw [List.length_map] at hi
        have hi' : i < ns.length := by omega
        refine ⟨_, rfl, _, rfl, _, _, rfl, rfl, _, rfl, _, rfl, _, _, _, _, rfl, rfl, hS, get_int (by omega) (by omega), _, rfl, _, _, rfl, rfl, pz, _, _, rfl, rfl, .inr (mb (by decide)), _, _, rfl, rfl, .inr (by decide), _, _, rfl, rfl, _, _, rfl, rfl, pz, rfl, _, _, rfl⟩
      · rintro σ H' ⟨rfl, r, y, rfl⟩
        exact ⟨_, rfl, q _⟩
end
end TK

namespace TK
open PySem PySem.Spec PyProof.Rows L2
theorem upd_twice {H : Hp} {p : Addr} {a b : HO} : upd (upd H p a) p b = upd H p b := by
  funext x
  unfold upd
  by_cases e : x = p
  · rw [if_pos e, if_pos e]
  · rw [if_neg e, if_neg e, if_neg e]
section
variable {P : Program} {w : World} {K : PySem.W.Frag} {mg : Str → Option Value} {base : Heap}
/-! _law_pool -/
def spPool : Sp := fun vs H Q _ => ∃ (c n : Int), vs = [.int c, .int n] ∧ 0 ≤ n ∧ n ≤ 1000 ∧ ∀ (p : Addr) (ns : List Int), H p = none → (ns.length : Int) = n → (∀ x ∈ ns, 0 ≤ x) → Q (.ref p) (upd H p (.lst (ns.map V.int)))
theorem ok_L_pool {f : Addr} {fd : FuncData} (F : Fun K "_law_pool" "_law_pool" s_L_pool f fd) (m_range : mg "range" = none) (m_abs : mg "abs" = none) (d_L_mixed : Def P w K mg base "_law_mixed" 1 ["_law_cell_here", "_law_k"] spMixed) : FnOk P w K mg base CX0 2 f fd ["_law_cell_here", "_law_number"] spPool := by
  refine F.ok sc_L_pool (fun vs H Q E h => ?_) (fun cdv A outer s H vs Q E hr h => ?_)
  · obtain ⟨c, n, rfl, _⟩ := h
    rfl
  · obtain ⟨c, n, rfl, h0, h1, q⟩ := h
    refine ⟨_, (pss_cons (ps_set (i := 2) sc_L_pool.nd rfl (.inl rfl) (pe_callB call_abs (by rfl) m_abs (by decide +kernel) (pa_cons (pv 0) pa_nil)))
  (pss_cons (ps_set (i := 3) sc_L_pool.nd rfl (.inl rfl) (pe_cmpR op_ge (pv 2) (pe_op op_pow pe_int pe_int) (nomark _)))
  (pss_cons (ps_set (i := 4) sc_L_pool.nd rfl (.inl rfl) (pe_lst pa_nil))
  (pss_cons (ps_for PassesOwn.never rfl (pi_range1 (by rfl) m_range (pa_cons (pv 1) pa_nil)) (pg_name (i := 5) sc_L_pool.nd rfl (.inl rfl))
    (pss_one (ps_if (PW.pt (pw_and (pt_val (pv 3)) (pw_and1 (pt_cmpR op_gt (pv 2) pe_int (nomark _))))) (pss_cons (ps_expr (pe_bm PySem.F.plainAttrs_list PySem.F.slot_list_append PySem.F.type_list_append mt_append (pv 4) (pa_cons (pe_op op_mod (pv 2) pe_int) pa_nil)))
  (pss_one (ps_set (i := 2) sc_L_pool.nd rfl (.inl rfl) (pe_op op_fdiv (pv 2) pe_int)))) (pss_one (ps_expr (pe_bm PySem.F.plainAttrs_list PySem.F.slot_list_append PySem.F.type_list_append mt_append (pv 4) (pa_cons (pe_callD d_L_mixed (hr.mono (by decide)) (by rfl) (pa_cons (pv 0) (pa_cons (pv 5) pa_nil))) pa_nil)))))))
  (pss_one (ps_ret (pv 4))))))), ?_⟩
    have ha : 0 ≤ (if c < 0 then -c else c) := by split <;> omega
    refine ⟨_, rfl, _, rfl, _, rfl, _, _, rfl, rfl, ⟨by decide, by decide, by decide⟩, _, _, rfl, rfl, ?_⟩
    refine ⟨Nat.zero_le _, fun p np => ?_⟩
    refine ⟨_, rfl, _, rfl, by omega, by omega, for_range (fun i σ H' => ∃ (r : Int) (b : Bool) (ns : List Int) (y : Option V), σ = [some (.int c), some (.int n), some (.int r), some (.bl b), some (.ref p), y] ∧ 0 ≤ r ∧ ns.length = i ∧ (∀ x ∈ ns, 0 ≤ x) ∧ H' = upd H p (.lst (ns.map V.int))) ⟨_, _, [], _, rfl, ha, rfl, (fun x hx => nomatch hx), rfl⟩ ?_ ?_⟩
    · rintro i σ H' hi ⟨r, b, ns, y, rfl, r0, hl, hx, rfl⟩
      have hz : (ns.map V.int).length < sizeLine := by rw [List.length_map]; exact small1000 (by omega)
      refine ⟨_, rfl, _, rfl, ite2 (fun e => ?_) (fun e => ?_)⟩
      · refine ⟨_, rfl, _, _, rfl, rfl, _, rfl, ite2 (fun e => ?_) (fun e => ?_)⟩
        · refine ⟨_, rfl, .inl ⟨rfl, _, lstAt upd_same⟩, _, rfl, _, _, rfl, rfl, pz, _, _, _, rfl, rfl, upd_same, hz, ?_⟩
          refine ⟨_, rfl, _, _, rfl, rfl, ⟨by decide, by decide⟩, ?_⟩
          refine ⟨_, b, ns ++ [r % 5040], _, rfl, Int.ediv_nonneg r0 (by decide), by rw [List.length_append, hl]; rfl, ?_, ?_⟩
          · intro x h
            rcases List.mem_append.mp h with h | h
            · exact hx x h
            · cases List.mem_singleton.mp h; exact Int.emod_nonneg _ (by decide)
          · rw [upd_twice, List.map_append]; rfl
        · refine ⟨_, rfl, .inl ⟨rfl, _, lstAt upd_same⟩, _, rfl, _, rfl, _, _, rfl, by omega, by omega, fun z z0 => ⟨_, _, _, rfl, rfl, upd_same, hz, r, b, ns ++ [z], _, rfl, r0, by rw [List.length_append, hl]; rfl, ?_, ?_⟩⟩
          · intro x h
            rcases List.mem_append.mp h with h | h
            · exact hx x h
            · cases List.mem_singleton.mp h; exact z0
          · rw [upd_twice, List.map_append]; rfl
      · refine iteF ?_
        refine ⟨_, rfl, .inl ⟨rfl, _, lstAt upd_same⟩, _, rfl, _, rfl, _, _, rfl, by omega, by omega, fun z z0 => ⟨_, _, _, rfl, rfl, upd_same, hz, r, b, ns ++ [z], _, rfl, r0, by rw [List.length_append, hl]; rfl, ?_, ?_⟩⟩
        · intro x h
          rcases List.mem_append.mp h with h | h
          · exact hx x h
          · cases List.mem_singleton.mp h; exact z0
        · rw [upd_twice, List.map_append]; rfl
    · rintro σ H' ⟨r, b, ns, y, rfl, r0, hl, hx, rfl⟩
      exact ⟨_, rfl, q p ns np (by omega) hx⟩
/-! _law_far -/
/-! _law_chosen: from 0 to the crest -/
end
end TK

namespace TK
open PySem PySem.Spec PyProof.Rows L2
/-! ### texts as lists of codes -/
def sOf (l : List Nat) : Str := ⟨l.toArray⟩
theorem sOf_codes (l : List Nat) : (sOf l).cps.toList = l := rfl
theorem sOf_len (l : List Nat) : (sOf l).length = l.length := by simp [sOf, Str.length]
theorem sOf_app (a b : List Nat) : sOf a ++ sOf b = sOf (a ++ b) := by
  show (⟨a.toArray ++ b.toArray⟩ : Str) = ⟨(a ++ b).toArray⟩
  simp
theorem sOf_inj {a b : List Nat} (h : sOf a = sOf b) : a = b := by
  have := congrArg (fun z : Str => z.cps.toList) h
  exact this
theorem sOf_one (c : Nat) : (⟨#[c]⟩ : Str) = sOf [c] := rfl
theorem cut_to (l : List Nat) {m : Int} (h : 0 ≤ m) : cutS (sOf l) none (some m) = sOf (l.take m.toNat) := by
  obtain ⟨k, rfl⟩ : ∃ k : Nat, m = (k : Int) := ⟨m.toNat, by omega⟩
  unfold cutS
  rw [HT.sIx_none, HT.sIx_nat, sOf_len, sOf_codes, List.drop_zero, Nat.sub_zero, Int.toNat_natCast]
  show sOf _ = sOf _
  congr 1
  by_cases hk : k ≤ l.length
  · rw [Nat.min_eq_left hk]
  · rw [Nat.min_eq_right (by omega), List.take_of_length_le (by omega), List.take_of_length_le (by omega)]
theorem cut_from (l : List Nat) {m : Int} (h : 0 ≤ m) : cutS (sOf l) (some m) none = sOf (l.drop m.toNat) := by
  obtain ⟨k, rfl⟩ : ∃ k : Nat, m = (k : Int) := ⟨m.toNat, by omega⟩
  unfold cutS
  rw [HT.sIx_none, HT.sIx_nat, sOf_len, sOf_codes, Int.toNat_natCast]
  show sOf _ = sOf _
  congr 1
  by_cases hk : k ≤ l.length
  · rw [Nat.min_eq_left hk, List.take_of_length_le (by rw [List.length_drop]; omega)]
  · rw [Nat.min_eq_right (by omega), List.drop_of_length_le (by omega), List.drop_of_length_le (by omega), List.take_nil]
def lettersZ : Str := Str.ofString "abcdefghijklmnopqrstuvwxyz"
theorem letters_codes : lettersZ.cps.toList = (List.range 26).map (97 + ·) := by decide +kernel
theorem letters_len : lettersZ.length = 26 := by decide +kernel
theorem letter_at {i : Int} (h0 : 0 ≤ i) (h1 : i < 26) : atI lettersZ.cps.toList i = some (97 + i.toNat) := by
  refine atI_in h0 ?_
  rw [letters_codes, List.getElem?_map, List.getElem?_range (by omega)]
  rfl
def Let (l : List Nat) : Prop := ∀ c ∈ l, 97 ≤ c ∧ c ≤ 122
theorem Let.app {a b : List Nat} (h : Let a) (k : Let b) : Let (a ++ b) := fun c hc => by
  rcases List.mem_append.mp hc with e | e
  · exact h c e
  · exact k c e
theorem Let.one {n : Nat} (h : n < 26) : Let [97 + n] := fun c hc => by
  cases List.mem_singleton.mp hc
  omega
theorem Let.take {a : List Nat} (h : Let a) (n : Nat) : Let (a.take n) := fun c hc => h c (List.mem_of_mem_take hc)
theorem Let.drop {a : List Nat} (h : Let a) (n : Nat) : Let (a.drop n) := fun c hc => h c (List.mem_of_mem_drop hc)
/-- a name: 1 to 8 letters -/
def Nm (l : List Nat) : Prop := 1 ≤ l.length ∧ l.length ≤ 8 ∧ Let l
def nameF (b : Bool) (stem short tail : List Nat) (cut first turn : Nat) (k : Nat) : List Nat :=
  if b = true then short.take cut ++ [97 + (first + 7 * ((k + turn) % 6)) % 26] ++ short.drop cut ++ tail else stem.take ((k + turn) % 6 + 1)
theorem nameF_nm {b : Bool} {stem short tail : List Nat} {cut first turn k : Nat} (hs : stem.length = 6) (hsh : short.length ≤ 6) (ht : tail.length ≤ 1) (l1 : Let stem) (l2 : Let short) (l3 : Let tail) : Nm (nameF b stem short tail cut first turn k) := by
  unfold nameF
  cases b with
  | true =>
    rw [if_pos rfl]
    have e : (short.take cut).length + (short.drop cut).length = short.length := by rw [← List.length_append, List.take_append_drop]
    refine ⟨?_, ?_, (((l2.take _).app (.one (Nat.mod_lt _ (by decide)))).app (l2.drop _)).app l3⟩
    · simp only [List.length_append, List.length_cons, List.length_nil]; omega
    · simp only [List.length_append, List.length_cons, List.length_nil]; omega
  | false =>
    rw [if_neg (by decide)]
    have := Nat.mod_lt (k + turn) (show 6 > 0 by decide)
    exact ⟨by rw [List.length_take]; omega, by rw [List.length_take]; omega, l1.take _⟩
theorem nameF_inj {b : Bool} {stem short tail : List Nat} {cut first turn k j : Nat} (hs : stem.length = 6) (hk : k < 6) (hj : j < 6) (h : nameF b stem short tail cut first turn k = nameF b stem short tail cut first turn j) : k = j := by
  unfold nameF at h
  cases b with
  | true =>
    rw [if_pos rfl, if_pos rfl] at h
    simp only [List.append_assoc, List.append_cancel_left_eq, List.cons_append, List.nil_append, List.cons.injEq] at h
    have := h.1
    omega
  | false =>
    rw [if_neg (by decide), if_neg (by decide)] at h
    have e := congrArg List.length h
    rw [List.length_take, List.length_take, hs] at e
    omega
theorem nodup_range {f : Nat → List Nat} : ∀ {n : Nat}, (∀ k j, k < n → j < n → f k = f j → k = j) → ((List.range n).map f).Nodup := by
  intro n h
  rw [List.nodup_iff_pairwise_ne, List.pairwise_map]
  refine List.Pairwise.imp_of_mem ?_ (List.nodup_iff_pairwise_ne.mp List.nodup_range)
  intro a b ha hb hne e
  exact hne (h a b (List.mem_range.mp ha) (List.mem_range.mp hb) e)
def vN (l : List Nat) : V := .str (sOf l)
section
variable {P : Program} {w : World} {K : PySem.W.Frag} {mg : Str → Option Value} {base : Heap}
/-! _law_names -/
def spNames (K : PySem.W.Frag) : Sp := fun vs H Q _ => ∃ (a : Addr) (ns : List Int) (s n : Int), vs = [.ref a, .int s, .int n] ∧ SqL K H a (ns.map V.int) ∧ 0 ≤ s ∧ s + 5 ≤ ns.length ∧ 0 ≤ n ∧ n ≤ 6 ∧
  ∀ (p : Addr) (zs : List (List Nat)), H p = none → (zs.length : Int) = n → (∀ z ∈ zs, Nm z) → zs.Nodup → Q (.ref p) (upd H p (.lst (zs.map vN)))
theorem small_len {l : List Nat} (h : l.length ≤ 1000) : (sOf l).length ≤ sizeLine := by rw [sOf_len]; exact Nat.le_of_lt (small1000 h)
theorem ok_L_names {f : Addr} {fd : FuncData} (F : Fun K "_law_names" "_law_names" s_L_names f fd) (m_range : mg "range" = none) (m_int : mg "int" = none) (d_L_part : Def P w K mg base "_law_part" 1 ["_law_pool_here", "_law_spot", "_law_under", "_law_size"] (spPart K)) : FnOk P w K mg base CX0 2 f fd ["_law_pool_here", "_law_spot", "_law_number"] (spNames K) := by
  refine F.ok sc_L_names (fun vs H Q E h => ?_) (fun cdv A outer s H vs Q E hr h => ?_)
  · obtain ⟨a, ns, s, n, rfl, _⟩ := h
    rfl
  · obtain ⟨a, ns, s, n, rfl, hS, h0, h1, h2, h3, q⟩ := h
    refine ⟨_, (pss_cons (ps_set (i := 3) sc_L_names.nd rfl (.inl rfl) pe_str)
  (pss_cons (ps_set (i := 4) sc_L_names.nd rfl (.inl rfl) pe_str)
  (pss_cons (ps_for PassesOwn.never rfl (pi_range1 (by rfl) m_range (pa_cons pe_int pa_nil)) (pg_name (i := 5) sc_L_names.nd rfl (.inl rfl))
    (pss_one (ps_set (i := 4) sc_L_names.nd rfl (.inl rfl) (pe_op op_add_str (pe_op op_add_str (pv 4) (pe_ix ix_str (pv 3) (pe_callD d_L_part (hr.mono (by decide)) (by rfl) (pa_cons (pv 0) (pa_cons (pe_op op_add (pv 1) (pv 5)) (pa_cons pe_int (pa_cons pe_int pa_nil))))) (fun _ _ => rfl))) (pe_ix ix_str (pv 3) (pe_callD d_L_part (hr.mono (by decide)) (by rfl) (pa_cons (pv 0) (pa_cons (pe_op op_add (pv 1) (pv 5)) (pa_cons pe_int (pa_cons pe_int pa_nil))))) (fun _ _ => rfl))))))
  (pss_cons (ps_set (i := 6) sc_L_names.nd rfl (.inl rfl) (pe_callD d_L_part (hr.mono (by decide)) (by rfl) (pa_cons (pv 0) (pa_cons (pe_op op_add (pv 1) pe_int) (pa_cons pe_int (pa_cons pe_int pa_nil))))))
  (pss_cons (ps_set (i := 7) sc_L_names.nd rfl (.inl rfl) (pe_callD d_L_part (hr.mono (by decide)) (by rfl) (pa_cons (pv 0) (pa_cons (pe_op op_add (pv 1) pe_int) (pa_cons pe_int (pa_cons pe_int pa_nil))))))
  (pss_cons (ps_set (i := 8) sc_L_names.nd rfl (.inl rfl) (pe_callD d_L_part (hr.mono (by decide)) (by rfl) (pa_cons (pv 0) (pa_cons (pe_op op_add (pv 1) pe_int) (pa_cons pe_int (pa_cons pe_int pa_nil))))))
  (pss_cons (ps_set (i := 9) sc_L_names.nd rfl (.inl rfl) (pe_slice sl_str (pv 4) po_none (po_some (pe_callD d_L_part (hr.mono (by decide)) (by rfl) (pa_cons (pv 0) (pa_cons (pe_op op_add (pv 1) pe_int) (pa_cons pe_int (pa_cons pe_int pa_nil))))))))
  (pss_cons (ps_set (i := 10) sc_L_names.nd rfl (.inl rfl) (pe_slice sl_str (pv 4) po_none (po_some (pe_callD d_L_part (hr.mono (by decide)) (by rfl) (pa_cons (pv 0) (pa_cons (pe_op op_add (pv 1) pe_int) (pa_cons pe_int (pa_cons pe_int pa_nil))))))))
  (pss_cons (ps_set (i := 11) sc_L_names.nd rfl (.inl rfl) (pe_lst pa_nil))
  (pss_cons (ps_for PassesOwn.never rfl (pi_range1 (by rfl) m_range (pa_cons (pv 2) pa_nil)) (pg_name (i := 5) sc_L_names.nd rfl (.inl rfl))
    (pss_cons (ps_set (i := 12) sc_L_names.nd rfl (.inl rfl) (pe_op op_mod (pe_callTy call_int1 (by rfl) m_int (by decide +kernel) (pa_cons (pe_op op_add (pv 5) (pv 6)) pa_nil)) pe_int))
  (pss_one (ps_if (pt_cmpR op_eq (pe_callD d_L_part (hr.mono (by decide)) (by rfl) (pa_cons (pv 0) (pa_cons (pe_op op_add (pv 1) pe_int) (pa_cons pe_int (pa_cons pe_int pa_nil))))) pe_int (nomark _)) (pss_one (ps_expr (pe_bm PySem.F.plainAttrs_list PySem.F.slot_list_append PySem.F.type_list_append mt_append (pv 11) (pa_cons (pe_op op_add_str (pe_op op_add_str (pe_op op_add_str (pe_slice sl_str (pv 9) po_none (po_some (pv 7))) (pe_ix ix_str (pv 3) (pe_op op_mod (pe_callTy call_int1 (by rfl) m_int (by decide +kernel) (pa_cons (pe_op op_add (pv 8) (pe_op op_mul pe_int (pv 12))) pa_nil)) pe_int) (fun _ _ => rfl))) (pe_slice sl_str (pv 9) (po_some (pv 7)) po_none)) (pv 10)) pa_nil)))) (pss_one (ps_expr (pe_bm PySem.F.plainAttrs_list PySem.F.slot_list_append PySem.F.type_list_append mt_append (pv 11) (pa_cons (pe_slice sl_str (pv 4) po_none (po_some (pe_op op_add (pv 12) pe_int))) pa_nil))))))))
  (pss_one (ps_ret (pv 11))))))))))))), ?_⟩
    refine ⟨_, rfl, by decide, by decide, for_range (fun i σ H' => H' = H ∧ ∃ (st : List Nat) (y : Option V), σ = [some (.ref a), some (.int s), some (.int n), some (.str lettersZ), some (vN st), y, none, none, none, none, none, none, none] ∧ st.length = 2 * i ∧ Let st) ⟨rfl, [], _, rfl, rfl, fun c hc => nomatch hc⟩ ?_ ?_⟩
    · rintro i σ H' hi ⟨rfl, st, y, rfl, hl, le⟩
      have hi3 : i < 3 := hi
      have b1 := part_lo (ns := ns) (s := s + (0 + (i : Int))) (u := 1) (z := 26) (by decide)
      have b2 := part_hi (ns := ns) (s := s + (0 + (i : Int))) (u := 1) (z := 26) (by decide)
      have c1 := part_lo (ns := ns) (s := s + (0 + (i : Int))) (u := 26) (z := 26) (by decide)
      have c2 := part_hi (ns := ns) (s := s + (0 + (i : Int))) (u := 26) (z := 26) (by decide)
      refine ⟨_, rfl, _, rfl, _, rfl, _, rfl, _, rfl, _, _, rfl, rfl, _, _, _, _, _, rfl, hS, by omega, by omega, by decide, by decide, by decide, ?_⟩
      refine ⟨_, _, _, rfl, rfl, by rw [letters_len]; decide, letter_at b1 b2, _, _, rfl, rfl, ?_, ?_⟩
      · rw [sOf_len, sOf_one, sOf_len]; exact Nat.le_of_lt (small1000 (by simp only [List.length_cons, List.length_nil]; omega))
      refine ⟨_, rfl, _, rfl, _, rfl, _, rfl, _, _, rfl, rfl, _, _, _, _, _, rfl, hS, by omega, by omega, by decide, by decide, by decide, ?_⟩
      refine ⟨_, _, _, rfl, rfl, by rw [letters_len]; decide, letter_at c1 c2, _, _, rfl, rfl, ?_, ?_⟩
      · rw [sOf_one, sOf_one, sOf_app, sOf_len, sOf_len]; exact Nat.le_of_lt (small1000 (by simp only [List.length_append, List.length_cons, List.length_nil]; omega))
      refine ⟨rfl, (st ++ [97 + (partOf ns (s + (0 + (i : Int))) 1 26).toNat]) ++ [97 + (partOf ns (s + (0 + (i : Int))) 26 26).toNat], some (.int (0 + (i : Int))), ?_, ?_, ?_⟩
      · rw [sOf_one, sOf_one, sOf_app, sOf_app]; rfl
      · simp only [List.length_append, List.length_cons, List.length_nil]; omega
      · exact (le.app (.one (by omega))).app (.one (by omega))
    · rintro σ H' ⟨rfl, st, y, rfl, hl, le⟩
      have hl : st.length = 6 := hl
      have t1 := part_lo (ns := ns) (s := s + 3) (u := 1) (z := 6) (by decide)
      have t2 := part_hi (ns := ns) (s := s + 3) (u := 1) (z := 6) (by decide)
      have u1 := part_lo (ns := ns) (s := s + 3) (u := 6) (z := 7) (by decide)
      have u2 := part_hi (ns := ns) (s := s + 3) (u := 6) (z := 7) (by decide)
      have v1 := part_lo (ns := ns) (s := s + 3) (u := 42) (z := 26) (by decide)
      have v2 := part_hi (ns := ns) (s := s + 3) (u := 42) (z := 26) (by decide)
      have w1 := part_lo (ns := ns) (s := s + 4) (u := 4) (z := 7) (by decide)
      have w2 := part_hi (ns := ns) (s := s + 4) (u := 4) (z := 7) (by decide)
      have x1 := part_lo (ns := ns) (s := s + 4) (u := 2) (z := 2) (by decide)
      have x2 := part_hi (ns := ns) (s := s + 4) (u := 2) (z := 2) (by decide)
      refine ⟨_, rfl, _, rfl, _, _, rfl, rfl, _, _, _, _, _, rfl, hS, by omega, by omega, by decide, by decide, by decide, ?_⟩
      refine ⟨_, rfl, _, rfl, _, _, rfl, rfl, _, _, _, _, _, rfl, hS, by omega, by omega, by decide, by decide, by decide, ?_⟩
      refine ⟨_, rfl, _, rfl, _, _, rfl, rfl, _, _, _, _, _, rfl, hS, by omega, by omega, by decide, by decide, by decide, ?_⟩
      refine ⟨_, rfl, _, rfl, _, rfl, _, _, rfl, rfl, _, _, _, _, _, rfl, hS, by omega, by omega, by decide, by decide, by decide, _, rfl, _, rfl, small_len (by omega), ?_⟩
      refine ⟨_, rfl, _, rfl, _, rfl, _, _, rfl, rfl, _, _, _, _, _, rfl, hS, by omega, by omega, by decide, by decide, by decide, _, rfl, _, rfl, small_len (by omega), ?_⟩
      rw [cut_to st w1, cut_to st x1]
      refine ⟨Nat.zero_le _, fun p np => ?_⟩
      have hS2 : ∀ o, SqL K (upd H' p o) a (ns.map V.int) := fun o => (same_upd np).seq hS
      let nf := nameF (decide (partOf ns (s + 4) 1 2 = 0)) st (st.take (partOf ns (s + 4) 4 7).toNat) (st.take (partOf ns (s + 4) 2 2).toNat) (partOf ns (s + 3) 6 7).toNat (partOf ns (s + 3) 42 26).toNat (partOf ns (s + 3) 1 6).toNat
      refine ⟨_, rfl, _, rfl, by omega, by omega, for_range (fun i σ H2 => H2 = upd H' p (.lst (((List.range i).map nf).map vN)) ∧ ∃ (y m : Option V), σ = [some (.ref a), some (.int s), some (.int n), some (.str lettersZ), some (vN st), y, some (.int (partOf ns (s + 3) 1 6)), some (.int (partOf ns (s + 3) 6 7)), some (.int (partOf ns (s + 3) 42 26)), some (vN (st.take (partOf ns (s + 4) 4 7).toNat)), some (vN (st.take (partOf ns (s + 4) 2 2).toNat)), some (.ref p), m]) ⟨rfl, _, _, rfl⟩ ?_ ?_⟩
      · rintro i σ H2 hi ⟨rfl, y, m, rfl⟩
        have hz : (((List.range i).map nf).map vN).length < sizeLine := by rw [List.length_map, List.length_map, List.length_range]; exact small1000 (by omega)
        have mk : (0 + (i : Int) + partOf ns (s + 3) 1 6) % 6 = (((i + (partOf ns (s + 3) 1 6).toNat) % 6 : Nat) : Int) := by omega
        have next : ∀ (l : List Nat), l = nf i → ((List.range i).map nf).map vN ++ [vN l] = ((List.range (i + 1)).map nf).map vN := by
          intro l e
          rw [List.range_succ, List.map_append, List.map_append, e]
          rfl
        refine ⟨_, rfl, _, rfl, _, _, rfl, rfl, .inl ⟨_, rfl, _, _, rfl, rfl, pz, ?_⟩⟩
        refine ⟨_, rfl, _, rfl, _, _, rfl, rfl, _, _, _, _, _, rfl, hS2 _, by omega, by omega, by decide, by decide, by decide, rfl, _, rfl, ite2 (fun e => ?_) (fun e => ?_)⟩
        · have e1 : decide (partOf ns (s + 4) 1 2 = 0) = true := by
            have := V.int.inj (of_decide_eq_true e)
            exact decide_eq_true this
          have f1 : 0 ≤ (partOf ns (s + 3) 42 26 + 7 * ((0 + (i : Int) + partOf ns (s + 3) 1 6) % 6)) % 26 := by omega
          have f2 : (partOf ns (s + 3) 42 26 + 7 * ((0 + (i : Int) + partOf ns (s + 3) 1 6) % 6)) % 26 < 26 := by omega
          refine ⟨_, rfl, .inl ⟨rfl, _, lstAt upd_same⟩, ?_⟩
          refine ⟨_, rfl, _, rfl, _, rfl, _, rfl, small_len (by rw [List.length_take]; omega), ?_⟩
          refine ⟨_, rfl, _, rfl, _, rfl, _, _, rfl, rfl, .inl (by decide), _, _, rfl, rfl, .inl ⟨_, rfl, _, _, rfl, rfl, pz, _, _, _, rfl, rfl, by rw [letters_len]; decide, letter_at f1 f2, ?_⟩⟩
          rw [cut_to _ u1]
          refine ⟨_, _, rfl, rfl, ?_, ?_⟩
          · rw [sOf_one, sOf_len, sOf_len]
            exact Nat.le_of_lt (small1000 (by rw [List.length_take, List.length_take]; simp only [List.length_cons, List.length_nil]; omega))
          refine ⟨_, rfl, _, rfl, _, rfl, _, rfl, small_len (by rw [List.length_take]; omega), ?_⟩
          rw [cut_from _ u1, sOf_one, sOf_app]
          refine ⟨_, _, rfl, rfl, ?_, ?_⟩
          · rw [sOf_len, sOf_len]
            exact Nat.le_of_lt (small1000 (by rw [List.length_append, List.length_take, List.length_take, List.length_drop, List.length_take]; simp only [List.length_cons, List.length_nil]; omega))
          refine ⟨_, rfl, _, _, rfl, rfl, ?_, ?_⟩
          · rw [sOf_app, sOf_len, sOf_len]
            exact Nat.le_of_lt (small1000 (by rw [List.length_append, List.length_append, List.length_take, List.length_take, List.length_drop, List.length_take, List.length_take]; simp only [List.length_cons, List.length_nil]; omega))
          rw [sOf_app, sOf_app]
          refine ⟨_, _, _, rfl, rfl, upd_same, hz, ?_, _, _, rfl⟩
          rw [upd_twice]
          congr 2
          refine next _ ?_
          show _ = nameF _ _ _ _ _ _ _ _
          unfold nameF
          rw [if_pos e1]
          congr 5
          omega
        · have e1 : ¬ decide (partOf ns (s + 4) 1 2 = 0) = true := by
            intro z
            have := of_decide_eq_true z
            exact e (decide_eq_true (congrArg V.int this))
          refine ⟨_, rfl, .inl ⟨rfl, _, lstAt upd_same⟩, ?_⟩
          refine ⟨_, rfl, _, rfl, _, _, rfl, rfl, _, rfl, _, rfl, small_len (by omega), ?_⟩
          rw [cut_to _ (show (0 : Int) ≤ (0 + (i : Int) + partOf ns (s + 3) 1 6) % 6 + 1 by omega)]
          refine ⟨_, _, _, rfl, rfl, upd_same, hz, ?_, _, _, rfl⟩
          rw [upd_twice]
          congr 2
          refine next _ ?_
          show _ = nameF _ _ _ _ _ _ _ _
          unfold nameF
          rw [if_neg e1]
          congr 1
          omega
      · rintro σ H2 ⟨rfl, y, m, rfl⟩
        refine ⟨_, rfl, q p ((List.range n.toNat).map nf) np ?_ ?_ ?_⟩
        · rw [List.length_map, List.length_range]; omega
        · intro z hz
          obtain ⟨k, hk, rfl⟩ := List.mem_map.mp hz
          exact nameF_nm hl (by rw [List.length_take]; omega) (by rw [List.length_take]; omega) le (le.take _) (le.take _)
        · refine nodup_range fun k j hk hj e => ?_
          exact nameF_inj hl (by omega) (by omega) e
end
end TK

namespace TK
open PySem PySem.Spec PyProof.Rows L2
section
variable {P : Program} {w : World} {K : PySem.W.Frag} {mg : Str → Option Value} {base : Heap}
/-! _law_integer: of an int -/
def spInteger : Sp := fun vs H Q _ => ∃ i : Int, vs = [.int i] ∧ Q (.bl true) H
theorem ok_L_integer {f : Addr} {fd : FuncData} (F : Fun K "_law_integer" "_law_integer" s_L_integer f fd) (m_isinstance : mg "isinstance" = none) (m_int : mg "int" = none) (m_bool : mg "bool" = none) :
    FnOk P w K mg base CX0 1 f fd ["_law_got"] spInteger := by
  refine F.ok sc_L_integer (fun vs H Q E h => ?_) (fun cdv A outer s H vs Q E hr h => ?_)
  · obtain ⟨i, rfl, _⟩ := h
    rfl
  · obtain ⟨i, rfl, q⟩ := h
    refine ⟨_, (pss_one (ps_ret (pe_and (pe_callB call_isi (by rfl) m_isinstance (by decide +kernel) (pa_cons (pv 0) (pa_cons (pe_bltn (v := .ty "int") (u := .type "int") (by rfl) m_int (by decide +kernel) rfl) pa_nil))) (pe_one (pe_not (pe_callB call_isi (by rfl) m_isinstance (by decide +kernel) (pa_cons (pv 0) (pa_cons (pe_bltn (v := .ty "bool") (u := .type "bool") (by rfl) m_bool (by decide +kernel) rfl) pa_nil)))))))), ?_⟩
    refine ⟨_, rfl, _, _, _, _, true, rfl, .ty "int", .base (.int i), rfl, _, rfl, iteT ?_⟩
    refine ⟨_, rfl, _, _, _, _, false, rfl, .ty "bool", .base (.int i), rfl, _, rfl, ?_⟩
    exact q
end
end TK

namespace TK
open PySem PySem.Spec PyProof.Rows L2
/-! ### the same data, down to a depth -/
def flat1 : V → Bool
  | .non => true | .bl _ => true | .int _ => true | .str _ => true | _ => false
/-- a tuple, known to the object or not -/
def TL (H : Hp) (a : Addr) (xs : List V) : Prop := H a = some (.tup xs) ∨ ∃ o, H a = some (.frz o (.tup xs))
theorem TL.ty {K : PySem.W.Frag} {H : Hp} {a : Addr} {xs : List V} (h : TL H a xs) : TyX K H (.ref a) (.type "tuple") := by
  rcases h with h | ⟨o, h⟩
  · exact .base (.tup h)
  · exact .fTuple h
theorem TL.sq {K : PySem.W.Frag} {H : Hp} {a : Addr} {xs : List V} (h : TL H a xs) : SqT K H a xs := .inl (h.elim .inl .inr)
def Eq2 (H : Hp) : Nat → V → V → Prop
  | 0, x, y => x = y ∧ flat1 x = true
  | n + 1, x, y => (x = y ∧ flat1 x = true) ∨ ∃ (a b : Addr) (xs ys : List V), x = .ref a ∧ y = .ref b ∧ ((H a = some (.lst xs) ∧ H b = some (.lst ys)) ∨ (TL H a xs ∧ TL H b ys)) ∧ xs.length = ys.length ∧ xs.length < 2 ^ 40 ∧
      ∀ (i : Nat) (x y : V), xs[i]? = some x → ys[i]? = some y → Eq2 H n x y
theorem bint {z : V} {H : Hp} {Q : VK} (h : z = .bl true) (q : Q (.bl true) H) : Q z H := h ▸ q
section
variable {P : Program} {w : World} {K : PySem.W.Frag} {mg : Str → Option Value} {base : Heap}
def spSame (n : Nat) : Sp := fun vs H Q _ => ∃ x y, vs = [x, y] ∧ Eq2 H n x y ∧ Q (.bl true) H
theorem same_tail {x y : V} {H : Hp} (ex : x = y) (fx : flat1 x = true) : (x = .non ∧ y = .non) ∨ (∃ b, x = .bl b ∧ y = .bl b) ∨ (∃ i, x = .int i ∧ y = .int i) ∨ ∃ z, x = .str z ∧ y = .str z := by
  subst ex
  cases x with
  | non => exact .inl ⟨rfl, rfl⟩
  | bl b => exact .inr (.inl ⟨b, rfl, rfl⟩)
  | int i => exact .inr (.inr (.inl ⟨i, rfl, rfl⟩))
  | str z => exact .inr (.inr (.inr ⟨z, rfl, rfl⟩))
  | byt _ => cases fx
  | flt _ => cases fx
  | ref _ => cases fx
  | ty _ => cases fx
structure SameTx (K : PySem.W.Frag) (mg : Str → Option Value) : Prop where
  m_isinstance : mg "isinstance" = none
  m_int : mg "int" = none
  m_bool : mg "bool" = none
  m_str : mg "str" = none
  m_tuple : mg "tuple" = none
  m_list : mg "list" = none
  m_len : mg "len" = none
  m_range : mg "range" = none
theorem ok_L_same {f : Addr} {fd : FuncData} (F : Fun K "_law_same" "_law_same" s_L_same f fd) (g : mg "_law_same" = some (.ref f)) (b : Binds K fd ["_law_got", "_law_wanted"] []) (T : SameTx K mg) (d_L_integer : Def P w K mg base "_law_integer" 1 ["_law_got"] spInteger) :
    ∀ n : Nat, n ≤ 10 → FnOk P w K mg base CX0 (n + 2) f fd ["_law_got", "_law_wanted"] (spSame n) := by
  obtain ⟨m_isinstance, m_int, m_bool, m_str, m_tuple, m_list, m_len, m_range⟩ := T
  intro n
  induction n with
  | zero =>
    intro _
    refine F.ok sc_L_same (fun vs H Q E h => ?_) (fun cdv A outer s H vs Q E hr h => ?_)
    · obtain ⟨x, y, rfl, _⟩ := h
      rfl
    · obtain ⟨x, y, rfl, ⟨ex, fx⟩, q⟩ := h
      refine ⟨_, (pss_cons (ps_if (pt_cmpR op_isN (pv 1) pe_non (nomark _)) (pss_one (ps_ret (pe_cmpR op_isN (pv 0) pe_non (nomark _)))) pss_nil)
  (pss_cons (ps_if (pt_cmpR op_isT (pv 1) pe_bl (nomark _)) (pss_one (ps_ret (pe_cmpR op_isT (pv 0) pe_bl (nomark _)))) pss_nil)
  (pss_cons (ps_if (pt_cmpR op_isT (pv 1) pe_bl (nomark _)) (pss_one (ps_ret (pe_cmpR op_isT (pv 0) pe_bl (nomark _)))) pss_nil)
  (pss_cons (ps_if (pt_val (pe_callB call_isi (by rfl) m_isinstance (by decide +kernel) (pa_cons (pv 1) (pa_cons (pe_bltn (v := .ty "int") (u := .type "int") (by rfl) m_int (by decide +kernel) rfl) pa_nil)))) (pss_one (ps_ret (pe_and (pe_callD d_L_integer (hr.mono (by omega)) (by rfl) (pa_cons (pv 0) pa_nil)) (pe_one (pe_cmpR op_eq (pv 0) (pv 1) (nomark _)))))) pss_nil)
  (pss_cons (ps_if (pt_val (pe_callB call_isi (by rfl) m_isinstance (by decide +kernel) (pa_cons (pv 1) (pa_cons (pe_bltn (v := .ty "str") (u := .type "str") (by rfl) m_str (by decide +kernel) rfl) pa_nil)))) (pss_one (ps_ret (pe_and (pe_callB call_isi (by rfl) m_isinstance (by decide +kernel) (pa_cons (pv 0) (pa_cons (pe_bltn (v := .ty "str") (u := .type "str") (by rfl) m_str (by decide +kernel) rfl) pa_nil))) (pe_one (pe_cmpR op_eq (pv 0) (pv 1) (nomark _)))))) pss_nil)
  (pss_cons (ps_if (PW.pt (pw_and (pt_val (pe_callB call_isi (by rfl) m_isinstance (by decide +kernel) (pa_cons (pv 1) (pa_cons (pe_bltn (v := .ty "tuple") (u := .type "tuple") (by rfl) m_tuple (by decide +kernel) rfl) pa_nil)))) (pw_and1 (pt_not (pt_val (pe_callB call_isi (by rfl) m_isinstance (by decide +kernel) (pa_cons (pv 0) (pa_cons (pe_bltn (v := .ty "tuple") (u := .type "tuple") (by rfl) m_tuple (by decide +kernel) rfl) pa_nil)))))))) (pss_one (ps_ret pe_bl)) pss_nil)
  (pss_cons (ps_if (PW.pt (pw_and (pt_val (pe_callB call_isi (by rfl) m_isinstance (by decide +kernel) (pa_cons (pv 1) (pa_cons (pe_bltn (v := .ty "list") (u := .type "list") (by rfl) m_list (by decide +kernel) rfl) pa_nil)))) (pw_and1 (pt_not (pt_val (pe_callB call_isi (by rfl) m_isinstance (by decide +kernel) (pa_cons (pv 0) (pa_cons (pe_bltn (v := .ty "list") (u := .type "list") (by rfl) m_list (by decide +kernel) rfl) pa_nil)))))))) (pss_one (ps_ret pe_bl)) pss_nil)
  (pss_cons (ps_if (pt_cmpR op_ne (pe_callB call_len_seq (by rfl) m_len (by decide +kernel) (pa_cons (pv 0) pa_nil)) (pe_callB call_len_seq (by rfl) m_len (by decide +kernel) (pa_cons (pv 1) pa_nil)) (nomark _)) (pss_one (ps_ret pe_bl)) pss_nil)
  (pss_cons ps_never (pss_one ps_never)))))))))), ?_⟩
      rcases same_tail (H := H) ex fx with ⟨rfl, rfl⟩ | ⟨b, rfl, rfl⟩ | ⟨i, rfl, rfl⟩ | ⟨z, rfl, rfl⟩
      · exact ⟨_, rfl, rfl, _, rfl, iteT ⟨_, rfl, rfl, q⟩⟩
      · refine ⟨_, rfl, rfl, _, rfl, iteF ⟨_, rfl, _, rfl, _, rfl, ?_⟩⟩
        cases b with
        | true => exact iteT ⟨_, rfl, _, rfl, q⟩
        | false => exact iteF ⟨_, rfl, _, rfl, _, rfl, iteT ⟨_, rfl, _, rfl, q⟩⟩
      · refine ⟨_, rfl, rfl, _, rfl, iteF ⟨_, rfl, _, rfl, _, rfl, iteF ⟨_, rfl, _, rfl, _, rfl, iteF ?_⟩⟩⟩
        refine ⟨_, rfl, _, _, _, _, true, rfl, .ty "int", .base (.int i), rfl, _, rfl, iteT ?_⟩
        refine ⟨_, rfl, i, rfl, _, rfl, iteT ⟨_, rfl, _, rfl, rfl, ?_⟩⟩
        exact bint (congrArg V.bl (decide_eq_true rfl)) q
      · refine ⟨_, rfl, rfl, _, rfl, iteF ⟨_, rfl, _, rfl, _, rfl, iteF ⟨_, rfl, _, rfl, _, rfl, iteF ?_⟩⟩⟩
        refine ⟨_, rfl, _, _, _, _, false, rfl, .ty "int", .base (.str z), rfl, _, rfl, iteF ?_⟩
        refine ⟨_, rfl, _, _, _, _, true, rfl, .ty "str", .base (.str z), rfl, _, rfl, iteT ?_⟩
        refine ⟨_, rfl, _, _, _, _, true, rfl, .ty "str", .base (.str z), rfl, _, rfl, iteT ⟨_, rfl, _, rfl, rfl, ?_⟩⟩
        exact bint (congrArg V.bl (decide_eq_true rfl)) q
  | succ n ih =>
    intro hn
    have d_L_same : Def P w K mg base "_law_same" (n + 2) ["_law_got", "_law_wanted"] (spSame n) := ⟨_, _, ih (by omega), g, F.kp, b⟩
    refine F.ok sc_L_same (fun vs H Q E h => ?_) (fun cdv A outer s H vs Q E hr h => ?_)
    · obtain ⟨x, y, rfl, _⟩ := h
      rfl
    · obtain ⟨x, y, rfl, hE, q⟩ := h
      rcases hE with ⟨ex, fx⟩ | ⟨a, c, xs, ys, rfl, rfl, hk, hl, hz, hi⟩
      · refine ⟨_, (pss_cons (ps_if (pt_cmpR op_isN (pv 1) pe_non (nomark _)) (pss_one (ps_ret (pe_cmpR op_isN (pv 0) pe_non (nomark _)))) pss_nil)
  (pss_cons (ps_if (pt_cmpR op_isT (pv 1) pe_bl (nomark _)) (pss_one (ps_ret (pe_cmpR op_isT (pv 0) pe_bl (nomark _)))) pss_nil)
  (pss_cons (ps_if (pt_cmpR op_isT (pv 1) pe_bl (nomark _)) (pss_one (ps_ret (pe_cmpR op_isT (pv 0) pe_bl (nomark _)))) pss_nil)
  (pss_cons (ps_if (pt_val (pe_callB call_isi (by rfl) m_isinstance (by decide +kernel) (pa_cons (pv 1) (pa_cons (pe_bltn (v := .ty "int") (u := .type "int") (by rfl) m_int (by decide +kernel) rfl) pa_nil)))) (pss_one (ps_ret (pe_and (pe_callD d_L_integer (hr.mono (by omega)) (by rfl) (pa_cons (pv 0) pa_nil)) (pe_one (pe_cmpR op_eq (pv 0) (pv 1) (nomark _)))))) pss_nil)
  (pss_cons (ps_if (pt_val (pe_callB call_isi (by rfl) m_isinstance (by decide +kernel) (pa_cons (pv 1) (pa_cons (pe_bltn (v := .ty "str") (u := .type "str") (by rfl) m_str (by decide +kernel) rfl) pa_nil)))) (pss_one (ps_ret (pe_and (pe_callB call_isi (by rfl) m_isinstance (by decide +kernel) (pa_cons (pv 0) (pa_cons (pe_bltn (v := .ty "str") (u := .type "str") (by rfl) m_str (by decide +kernel) rfl) pa_nil))) (pe_one (pe_cmpR op_eq (pv 0) (pv 1) (nomark _)))))) pss_nil)
  (pss_cons (ps_if (PW.pt (pw_and (pt_val (pe_callB call_isi (by rfl) m_isinstance (by decide +kernel) (pa_cons (pv 1) (pa_cons (pe_bltn (v := .ty "tuple") (u := .type "tuple") (by rfl) m_tuple (by decide +kernel) rfl) pa_nil)))) (pw_and1 (pt_not (pt_val (pe_callB call_isi (by rfl) m_isinstance (by decide +kernel) (pa_cons (pv 0) (pa_cons (pe_bltn (v := .ty "tuple") (u := .type "tuple") (by rfl) m_tuple (by decide +kernel) rfl) pa_nil)))))))) (pss_one (ps_ret pe_bl)) pss_nil)
  (pss_cons (ps_if (PW.pt (pw_and (pt_val (pe_callB call_isi (by rfl) m_isinstance (by decide +kernel) (pa_cons (pv 1) (pa_cons (pe_bltn (v := .ty "list") (u := .type "list") (by rfl) m_list (by decide +kernel) rfl) pa_nil)))) (pw_and1 (pt_not (pt_val (pe_callB call_isi (by rfl) m_isinstance (by decide +kernel) (pa_cons (pv 0) (pa_cons (pe_bltn (v := .ty "list") (u := .type "list") (by rfl) m_list (by decide +kernel) rfl) pa_nil)))))))) (pss_one (ps_ret pe_bl)) pss_nil)
  (pss_cons (ps_if (pt_cmpR op_ne (pe_callB call_len_seq (by rfl) m_len (by decide +kernel) (pa_cons (pv 0) pa_nil)) (pe_callB call_len_seq (by rfl) m_len (by decide +kernel) (pa_cons (pv 1) pa_nil)) (nomark _)) (pss_one (ps_ret pe_bl)) pss_nil)
  (pss_cons ps_never (pss_one ps_never)))))))))), ?_⟩
        rcases same_tail (H := H) ex fx with ⟨rfl, rfl⟩ | ⟨b, rfl, rfl⟩ | ⟨i, rfl, rfl⟩ | ⟨z, rfl, rfl⟩
        · exact ⟨_, rfl, rfl, _, rfl, iteT ⟨_, rfl, rfl, q⟩⟩
        · refine ⟨_, rfl, rfl, _, rfl, iteF ⟨_, rfl, _, rfl, _, rfl, ?_⟩⟩
          cases b with
          | true => exact iteT ⟨_, rfl, _, rfl, q⟩
          | false => exact iteF ⟨_, rfl, _, rfl, _, rfl, iteT ⟨_, rfl, _, rfl, q⟩⟩
        · refine ⟨_, rfl, rfl, _, rfl, iteF ⟨_, rfl, _, rfl, _, rfl, iteF ⟨_, rfl, _, rfl, _, rfl, iteF ?_⟩⟩⟩
          refine ⟨_, rfl, _, _, _, _, true, rfl, .ty "int", .base (.int i), rfl, _, rfl, iteT ?_⟩
          refine ⟨_, rfl, i, rfl, _, rfl, iteT ⟨_, rfl, _, rfl, rfl, ?_⟩⟩
          exact bint (congrArg V.bl (decide_eq_true rfl)) q
        · refine ⟨_, rfl, rfl, _, rfl, iteF ⟨_, rfl, _, rfl, _, rfl, iteF ⟨_, rfl, _, rfl, _, rfl, iteF ?_⟩⟩⟩
          refine ⟨_, rfl, _, _, _, _, false, rfl, .ty "int", .base (.str z), rfl, _, rfl, iteF ?_⟩
          refine ⟨_, rfl, _, _, _, _, true, rfl, .ty "str", .base (.str z), rfl, _, rfl, iteT ?_⟩
          refine ⟨_, rfl, _, _, _, _, true, rfl, .ty "str", .base (.str z), rfl, _, rfl, iteT ⟨_, rfl, _, rfl, rfl, ?_⟩⟩
          exact bint (congrArg V.bl (decide_eq_true rfl)) q
      · have step : ∀ (i : Nat) (hi1 : i < ys.length), ∃ x y, atI xs (0 + (i : Int)) = some x ∧ atI ys (0 + (i : Int)) = some y ∧ Eq2 H n x y := by
          intro i h1
          have h2 : i < xs.length := by omega
          refine ⟨xs[i], ys[i], ?_, ?_, hi i _ _ (List.getElem?_eq_getElem h2) (List.getElem?_eq_getElem h1)⟩
          · exact atI_in (by omega) (by rw [show (0 + (i : Int)).toNat = i by omega]; exact List.getElem?_eq_getElem h2)
          · exact atI_in (by omega) (by rw [show (0 + (i : Int)).toNat = i by omega]; exact List.getElem?_eq_getElem h1)
        rcases hk with ⟨ha, hc⟩ | ⟨ha, hc⟩
        · refine ⟨_, (pss_cons (ps_if (pt_cmpR op_isN (pv 1) pe_non (nomark _)) (pss_one (ps_ret (pe_cmpR op_isN (pv 0) pe_non (nomark _)))) pss_nil)
  (pss_cons (ps_if (pt_cmpR op_isT (pv 1) pe_bl (nomark _)) (pss_one (ps_ret (pe_cmpR op_isT (pv 0) pe_bl (nomark _)))) pss_nil)
  (pss_cons (ps_if (pt_cmpR op_isT (pv 1) pe_bl (nomark _)) (pss_one (ps_ret (pe_cmpR op_isT (pv 0) pe_bl (nomark _)))) pss_nil)
  (pss_cons (ps_if (pt_val (pe_callB call_isi (by rfl) m_isinstance (by decide +kernel) (pa_cons (pv 1) (pa_cons (pe_bltn (v := .ty "int") (u := .type "int") (by rfl) m_int (by decide +kernel) rfl) pa_nil)))) (pss_one (ps_ret (pe_and (pe_callD d_L_integer (hr.mono (by omega)) (by rfl) (pa_cons (pv 0) pa_nil)) (pe_one (pe_cmpR op_eq (pv 0) (pv 1) (nomark _)))))) pss_nil)
  (pss_cons (ps_if (pt_val (pe_callB call_isi (by rfl) m_isinstance (by decide +kernel) (pa_cons (pv 1) (pa_cons (pe_bltn (v := .ty "str") (u := .type "str") (by rfl) m_str (by decide +kernel) rfl) pa_nil)))) (pss_one (ps_ret (pe_and (pe_callB call_isi (by rfl) m_isinstance (by decide +kernel) (pa_cons (pv 0) (pa_cons (pe_bltn (v := .ty "str") (u := .type "str") (by rfl) m_str (by decide +kernel) rfl) pa_nil))) (pe_one (pe_cmpR op_eq (pv 0) (pv 1) (nomark _)))))) pss_nil)
  (pss_cons (ps_if (PW.pt (pw_and (pt_val (pe_callB call_isi (by rfl) m_isinstance (by decide +kernel) (pa_cons (pv 1) (pa_cons (pe_bltn (v := .ty "tuple") (u := .type "tuple") (by rfl) m_tuple (by decide +kernel) rfl) pa_nil)))) (pw_and1 (pt_not (pt_val (pe_callB call_isi (by rfl) m_isinstance (by decide +kernel) (pa_cons (pv 0) (pa_cons (pe_bltn (v := .ty "tuple") (u := .type "tuple") (by rfl) m_tuple (by decide +kernel) rfl) pa_nil)))))))) (pss_one (ps_ret pe_bl)) pss_nil)
  (pss_cons (ps_if (PW.pt (pw_and (pt_val (pe_callB call_isi (by rfl) m_isinstance (by decide +kernel) (pa_cons (pv 1) (pa_cons (pe_bltn (v := .ty "list") (u := .type "list") (by rfl) m_list (by decide +kernel) rfl) pa_nil)))) (pw_and1 (pt_not (pt_val (pe_callB call_isi (by rfl) m_isinstance (by decide +kernel) (pa_cons (pv 0) (pa_cons (pe_bltn (v := .ty "list") (u := .type "list") (by rfl) m_list (by decide +kernel) rfl) pa_nil)))))))) (pss_one (ps_ret pe_bl)) pss_nil)
  (pss_cons (ps_if (pt_cmpR op_ne (pe_callB call_len_seq (by rfl) m_len (by decide +kernel) (pa_cons (pv 0) pa_nil)) (pe_callB call_len_seq (by rfl) m_len (by decide +kernel) (pa_cons (pv 1) pa_nil)) (nomark _)) (pss_one (ps_ret pe_bl)) pss_nil)
  (pss_cons (ps_for PassesOwn.never rfl (pi_range1 (by rfl) m_range (pa_cons (pe_callB call_len_seq (by rfl) m_len (by decide +kernel) (pa_cons (pv 1) pa_nil)) pa_nil)) (pg_name (i := 2) sc_L_same.nd rfl (.inl rfl))
    (pss_one (ps_if (pt_not (pt_val (pe_callD d_L_same (hr.mono (by omega)) (by rfl) (pa_cons (pe_ix ix_list (pv 0) (pv 2) (fun _ _ => rfl)) (pa_cons (pe_ix ix_list (pv 1) (pv 2) (fun _ _ => rfl)) pa_nil))))) (pss_one (ps_ret pe_bl)) pss_nil)))
  (pss_one (ps_ret pe_bl))))))))))), ?_⟩
          refine ⟨_, rfl, rfl, _, rfl, iteF ⟨_, rfl, _, rfl, _, rfl, iteF ⟨_, rfl, _, rfl, _, rfl, iteF ?_⟩⟩⟩
          refine ⟨_, rfl, _, _, _, _, false, rfl, .ty "int", .base (.lst hc), rfl, _, rfl, iteF ?_⟩
          refine ⟨_, rfl, _, _, _, _, false, rfl, .ty "str", .base (.lst hc), rfl, _, rfl, iteF ?_⟩
          refine ⟨_, rfl, _, _, _, _, false, rfl, .ty "tuple", .base (.lst hc), rfl, _, rfl, iteF (iteF ?_)⟩
          refine ⟨_, rfl, _, _, _, _, true, rfl, .ty "list", .base (.lst hc), rfl, _, rfl, iteT ⟨_, rfl, _, _, _, _, true, rfl, .ty "list", .base (.lst ha), rfl, _, rfl, iteF ?_⟩⟩
          refine ⟨_, rfl, _, _, rfl, .inl (lstAt ha), _, rfl, _, _, rfl, .inl (lstAt hc), rfl, _, rfl, ?_⟩
          refine iteNS (congrArg (fun k : Nat => V.int (k : Int)) hl) ?_
          refine ⟨_, rfl, _, _, rfl, .inl (lstAt hc), _, rfl, by omega, by omega, for_range (fun i σ H' => H' = H ∧ ∃ y : Option V, σ = [some (.ref a), some (.ref c), y]) ⟨rfl, _, rfl⟩ ?_ ?_⟩
          · rintro i σ H' hlt ⟨rfl, y, rfl⟩
            obtain ⟨x1, y1, e1, e2, e3⟩ := step i (by omega)
            refine ⟨_, rfl, _, rfl, _, _, _, _, rfl, rfl, lstAt ha, e1, _, rfl, _, rfl, _, _, _, _, rfl, rfl, lstAt hc, e2, x1, y1, rfl, e3, _, rfl, iteF ⟨rfl, _, rfl⟩⟩
          · rintro σ H' ⟨rfl, y, rfl⟩
            exact q
        · refine ⟨_, (pss_cons (ps_if (pt_cmpR op_isN (pv 1) pe_non (nomark _)) (pss_one (ps_ret (pe_cmpR op_isN (pv 0) pe_non (nomark _)))) pss_nil)
  (pss_cons (ps_if (pt_cmpR op_isT (pv 1) pe_bl (nomark _)) (pss_one (ps_ret (pe_cmpR op_isT (pv 0) pe_bl (nomark _)))) pss_nil)
  (pss_cons (ps_if (pt_cmpR op_isT (pv 1) pe_bl (nomark _)) (pss_one (ps_ret (pe_cmpR op_isT (pv 0) pe_bl (nomark _)))) pss_nil)
  (pss_cons (ps_if (pt_val (pe_callB call_isi (by rfl) m_isinstance (by decide +kernel) (pa_cons (pv 1) (pa_cons (pe_bltn (v := .ty "int") (u := .type "int") (by rfl) m_int (by decide +kernel) rfl) pa_nil)))) (pss_one (ps_ret (pe_and (pe_callD d_L_integer (hr.mono (by omega)) (by rfl) (pa_cons (pv 0) pa_nil)) (pe_one (pe_cmpR op_eq (pv 0) (pv 1) (nomark _)))))) pss_nil)
  (pss_cons (ps_if (pt_val (pe_callB call_isi (by rfl) m_isinstance (by decide +kernel) (pa_cons (pv 1) (pa_cons (pe_bltn (v := .ty "str") (u := .type "str") (by rfl) m_str (by decide +kernel) rfl) pa_nil)))) (pss_one (ps_ret (pe_and (pe_callB call_isi (by rfl) m_isinstance (by decide +kernel) (pa_cons (pv 0) (pa_cons (pe_bltn (v := .ty "str") (u := .type "str") (by rfl) m_str (by decide +kernel) rfl) pa_nil))) (pe_one (pe_cmpR op_eq (pv 0) (pv 1) (nomark _)))))) pss_nil)
  (pss_cons (ps_if (PW.pt (pw_and (pt_val (pe_callB call_isi (by rfl) m_isinstance (by decide +kernel) (pa_cons (pv 1) (pa_cons (pe_bltn (v := .ty "tuple") (u := .type "tuple") (by rfl) m_tuple (by decide +kernel) rfl) pa_nil)))) (pw_and1 (pt_not (pt_val (pe_callB call_isi (by rfl) m_isinstance (by decide +kernel) (pa_cons (pv 0) (pa_cons (pe_bltn (v := .ty "tuple") (u := .type "tuple") (by rfl) m_tuple (by decide +kernel) rfl) pa_nil)))))))) (pss_one (ps_ret pe_bl)) pss_nil)
  (pss_cons (ps_if (PW.pt (pw_and (pt_val (pe_callB call_isi (by rfl) m_isinstance (by decide +kernel) (pa_cons (pv 1) (pa_cons (pe_bltn (v := .ty "list") (u := .type "list") (by rfl) m_list (by decide +kernel) rfl) pa_nil)))) (pw_and1 (pt_not (pt_val (pe_callB call_isi (by rfl) m_isinstance (by decide +kernel) (pa_cons (pv 0) (pa_cons (pe_bltn (v := .ty "list") (u := .type "list") (by rfl) m_list (by decide +kernel) rfl) pa_nil)))))))) (pss_one (ps_ret pe_bl)) pss_nil)
  (pss_cons (ps_if (pt_cmpR op_ne (pe_callB call_len_seq (by rfl) m_len (by decide +kernel) (pa_cons (pv 0) pa_nil)) (pe_callB call_len_seq (by rfl) m_len (by decide +kernel) (pa_cons (pv 1) pa_nil)) (nomark _)) (pss_one (ps_ret pe_bl)) pss_nil)
  (pss_cons (ps_for PassesOwn.never rfl (pi_range1 (by rfl) m_range (pa_cons (pe_callB call_len_seq (by rfl) m_len (by decide +kernel) (pa_cons (pv 1) pa_nil)) pa_nil)) (pg_name (i := 2) sc_L_same.nd rfl (.inl rfl))
    (pss_one (ps_if (pt_not (pt_val (pe_callD d_L_same (hr.mono (by omega)) (by rfl) (pa_cons (pe_ix ix_tup (pv 0) (pv 2) (fun _ _ => rfl)) (pa_cons (pe_ix ix_tup (pv 1) (pv 2) (fun _ _ => rfl)) pa_nil))))) (pss_one (ps_ret pe_bl)) pss_nil)))
  (pss_one (ps_ret pe_bl))))))))))), ?_⟩
          refine ⟨_, rfl, rfl, _, rfl, iteF ⟨_, rfl, _, rfl, _, rfl, iteF ⟨_, rfl, _, rfl, _, rfl, iteF ?_⟩⟩⟩
          refine ⟨_, rfl, _, _, _, _, false, rfl, .ty "int", hc.ty, rfl, _, rfl, iteF ?_⟩
          refine ⟨_, rfl, _, _, _, _, false, rfl, .ty "str", hc.ty, rfl, _, rfl, iteF ?_⟩
          refine ⟨_, rfl, _, _, _, _, true, rfl, .ty "tuple", hc.ty, rfl, _, rfl, iteT ⟨_, rfl, _, _, _, _, true, rfl, .ty "tuple", ha.ty, rfl, _, rfl, iteF ?_⟩⟩
          refine ⟨_, rfl, _, _, _, _, false, rfl, .ty "list", hc.ty, rfl, _, rfl, iteF (iteF ?_)⟩
          refine ⟨_, rfl, _, _, rfl, .inr (ha.sq), _, rfl, _, _, rfl, .inr (hc.sq), rfl, _, rfl, ?_⟩
          refine iteNS (congrArg (fun k : Nat => V.int (k : Int)) hl) ?_
          refine ⟨_, rfl, _, _, rfl, .inr (hc.sq), _, rfl, by omega, by omega, for_range (fun i σ H' => H' = H ∧ ∃ y : Option V, σ = [some (.ref a), some (.ref c), y]) ⟨rfl, _, rfl⟩ ?_ ?_⟩
          · rintro i σ H' hlt ⟨rfl, y, rfl⟩
            obtain ⟨x1, y1, e1, e2, e3⟩ := step i (by omega)
            refine ⟨_, rfl, _, rfl, _, _, _, _, rfl, rfl, ha.sq, e1, _, rfl, _, rfl, _, _, _, _, rfl, rfl, hc.sq, e2, x1, y1, rfl, e3, _, rfl, iteF ⟨rfl, _, rfl⟩⟩
          · rintro σ H' ⟨rfl, y, rfl⟩
            exact q
end
end TK

namespace TK
open PySem PySem.Spec PyProof.Rows L2
theorem eqv_nm {a b : List Nat} : eqV (vN a) (vN b) = decide (a = b) := by
  show (sOf a == sOf b) = _
  by_cases h : a = b
  · subst h; simp
  · rw [decide_eq_false h]
    exact beq_eq_false_iff_ne.mpr fun z => h (sOf_inj z)
theorem nms_flat (zs : List (List Nat)) : (zs.map vN).all flatV = true := by
  rw [List.all_eq_true]
  intro x hx
  obtain ⟨c, _, rfl⟩ := List.mem_map.mp hx
  rfl
theorem inV_nm {z : List Nat} {zs : List (List Nat)} : inV (vN z) (zs.map vN) = decide (z ∈ zs) := by
  unfold inV
  rw [List.any_map]
  by_cases h : z ∈ zs
  · rw [decide_eq_true h]
    exact List.any_eq_true.mpr ⟨z, h, by show eqV (vN z) (vN z) = true; rw [eqv_nm]; exact decide_eq_true rfl⟩
  · rw [decide_eq_false h]
    exact List.any_eq_false.mpr fun x hx => by
      show ¬ eqV (vN x) (vN z) = true
      rw [eqv_nm]
      intro e
      have := of_decide_eq_true e
      subst this
      exact h hx
theorem in_nm {z : List Nat} {zs : List (List Nat)} : (if false = true then !inV (vN z) (zs.map vN) else inV (vN z) (zs.map vN)) = decide (z ∈ zs) := by
  rw [if_neg (by decide), inV_nm]
theorem notin_nm {z : List Nat} {zs : List (List Nat)} : (if true = true then !inV (vN z) (zs.map vN) else inV (vN z) (zs.map vN)) = !decide (z ∈ zs) := by
  rw [if_pos rfl, inV_nm]
theorem eq_nm {a b : List Nat} : decide (vN a = vN b) = decide (a = b) := by
  by_cases h : a = b
  · subst h; simp
  · rw [decide_eq_false h]
    exact decide_eq_false fun z => h (sOf_inj (V.str.inj z))
theorem vN_at {zs : List (List Nat)} {i : Nat} {x : V} (h : (zs.map vN)[i]? = some x) : ∃ z, zs[i]? = some z ∧ x = vN z := by
  rw [List.getElem?_map] at h
  cases e : zs[i]? with
  | none => rw [e] at h; cases h
  | some z => rw [e] at h; exact ⟨z, rfl, (Option.some.inj h).symm⟩
theorem int_at {zs : List Int} {i : Nat} {x : V} (h : (zs.map V.int)[i]? = some x) : ∃ z, zs[i]? = some z ∧ x = .int z := by
  rw [List.getElem?_map] at h
  cases e : zs[i]? with
  | none => rw [e] at h; cases h
  | some z => rw [e] at h; exact ⟨z, rfl, (Option.some.inj h).symm⟩
section
variable {X : Cx} {K : PySem.W.Frag}
theorem mt_tup_indexK (h : X.K = K) : MtR X "tuple.index" (fun x xs H Q => ∃ p, ∃ ys : List Str, ∃ z j, x = .ref p ∧ xs = [.str z] ∧ SqT K H p (ys.map V.str) ∧ ys[j]? = some z ∧ (∀ m, m < j → ys[m]? ≠ some z) ∧ Q (.int (j : Nat)) H) := h ▸ L2.mt_tup_index
end
theorem vN_strs (zs : List (List Nat)) : zs.map vN = (zs.map sOf).map V.str := by rw [List.map_map]; rfl
theorem idx_first {zs : List (List Nat)} {z : List Nat} (h : z ∈ zs) (nd : zs.Nodup) : ∃ j : Nat, zs[j]? = some z ∧ (∀ m, m < j → zs[m]? ≠ some z) := by
  obtain ⟨j, hj⟩ := List.getElem?_of_mem h
  refine ⟨j, hj, fun m hm e => ?_⟩
  have hjl := (List.getElem?_eq_some_iff.mp hj).1
  have := (List.getElem?_inj hjl nd).mp (hj.trans e.symm)
  omega
theorem str_first {zs : List (List Nat)} {z : List Nat} {j : Nat} (h : zs[j]? = some z) (f : ∀ m, m < j → zs[m]? ≠ some z) : (zs.map sOf)[j]? = some (sOf z) ∧ ∀ m, m < j → (zs.map sOf)[m]? ≠ some (sOf z) := by
  refine ⟨by rw [List.getElem?_map, h]; rfl, fun m hm e => f m hm ?_⟩
  rw [List.getElem?_map] at e
  cases e1 : zs[m]? with
  | none => rw [e1] at e; cases e
  | some y => rw [e1] at e; exact congrArg some (sOf_inj (Option.some.inj e))
theorem take_map_succ {α β : Type} (f : α → β) {xs : List α} {i : Nat} {x : α} (h : xs[i]? = some x) : (xs.map f).take (i + 1) = (xs.map f).take i ++ [f x] := by
  rw [List.take_add_one, List.getElem?_map, h]; rfl
theorem take_all {α : Type} {xs : List α} {n : Nat} (h : xs.length = n) : xs.take n = xs := by rw [← h, List.take_length]
end TK

namespace TK
open PySem PySem.Spec PyProof.Rows L2
/-- o.m(k = v, ..) of an instance of the class at C -/
def tMethK (C : Addr) (m : Str) (n : Nat) (sp : Sp) (gV : List V → List V → List V) (E : XK) (ta : TE) (tk : TA) : TE := fun σ H Q => ta σ H fun x H1 => ∃ a dx fs, x = .ref a ∧ H1 a = some (.ins C dx fs) ∧ fs.lookup m = none ∧
  tk σ H1 fun zs H2 => zs.length = n ∧ sp (gV [x] zs) H2 Q E
section
variable {X : Cx} {CX : CXT} {k : Nat} {f C : Addr} {fd : FuncData} {ps ks : List Str} {sp : Sp} {E : XK} {m : Str} {pos apos : Pos} {o : Expr} {kws : List Keyword} {ta : TE} {tk : TA} {g : List Value → List Value → List Value} {gV : List V → List V → List V}
theorem run_kb {pins : List (Addr × Obj)} {σ : L2.St} {H : Hp} {s : Shared} {Q : VK} {n : Nat} {us ws : List Value} {vs zs : List V} (F : FnOk X.prog X.w X.K X.mg X.base CX k f fd ps sp) (hr : Room k X.A) (hb : KBn X.K fd ps n ks g gV) (hx : Passes CX X E)
    (I : Inv X pins σ H s) (r : Vals vs us) (rz : Vals zs ws) (l1 : us.length = n) (l2 : ws.length = ks.length) (h : sp (gV vs zs) H Q E) : wpAny (model X.prog X.w) X.A (call (.ref f) us (ks.zip ws)) (EP X pins σ Q) X.xe s := by
  refine wpAny_call (codeAny_mono (F.run X.A X.stack s H ⟨us, ks.zip ws⟩ (g us ws) (gV vs zs) Q E hr I.env0 (hb.to s us ws I.kIn l1 l2) (hb.rel r rz) h) fun r s' hq => ?_)
  cases r with
  | error e => exact hx pins σ H s e s' I hq
  | ok fl =>
    cases fl with
    | ret u => exact I.after hq
    | next => exact False.elim hq
    | brk => exact False.elim hq
    | cont => exact False.elim hq
theorem pe_methK0 {pl : Sem Bool} (he : PE X o ta) (c : Cls X.K C) (hm : Meth X.K C m f) (F : FnOk X.prog X.w X.K X.mg X.base CX k f fd ps sp) (hr : Room k X.A) (hb : KBn X.K fd ps 1 ks g gV) (hx : Passes CX X E) (hkw : PK X kws tk)
    (hall : (backToKw pos (keywordEach kws X.env)).all (·.1.isSome) = true := by rfl) (hks : (backToKw pos (keywordEach kws X.env)).filterMap (·.1) = ks := by rfl)
    (hpl : ((backTo pos (starEach [] X.env)).any (·.1) || (backToKw pos (keywordEach kws X.env)).any (·.1.isNone)) = false := by rfl)
    (ht : eval (.Call (.Attribute o m apos) [] kws pos) X.env = (do
      let ov ← eval o X.env
      standAt apos.atName
      let (f, first) ← holding [ov] (getMethod ov m pl)
      callWith pos f first (backTo pos (starEach [] X.env)) (backToKw pos (keywordEach kws X.env))) := by rfl) :
    PE X (.Call (.Attribute o m apos) [] kws pos) (tMethK C m ks.length sp gV E ta tk) := by
  refine ⟨fun pins s σ H Q I h => ?_⟩
  refine PySem.W.methodCall_KW (pl := pl) (thn (he.run pins s σ H _ I h) fun u s1 ⟨x, H1, I1, rx, a, dx, fs, ex, ea, l, q⟩ => ?_) ht
  subst ex
  obtain rfl : u = Value.ref a := rx
  refine getmeth_ok I1 ea c hm l ?_
  refine PySem.W.callWith_KW0 (first := [.ref a]) (h₀ := X.base) I.ok.mod.kin hm.kp hall ?_ hpl
  refine thn (hkw.run pos pins s1 σ H1 _ I1 q) fun ws s2 ⟨zs, H2, I2, rz, l1, q2⟩ => ⟨I2.kIn, ?_⟩
  rw [hks]
  exact run_kb (us := [.ref a]) (vs := [.ref a]) F hr hb hx I2 (.cons rfl .nil) rz rfl (rz.length.symm.trans l1) q2
end
section
variable {X : Cx} {K : PySem.W.Frag}
theorem call_tuple_ofK (h : X.K = K) : CallR X (.type "tuple") (fun xs H Q => ∃ p ys, xs = [.ref p] ∧ ((SqL K H p ys ∧ ∀ l, H l = none → Q (.ref l) (upd H l (.tup ys))) ∨ (SqT K H p ys ∧ Q (.ref p) H))) := h ▸ call_tuple_of
theorem call_list_ofK (h : X.K = K) : CallR X (.type "list") (fun xs H Q => ∃ p ys, xs = [.ref p] ∧ (SqL K H p ys ∨ SqT K H p ys) ∧ ∀ l, H l = none → Q (.ref l) (upd H l (.lst ys))) := h ▸ call_list_of
end
/-- what is no instance of the class, nor of one below it -/
inductive Odd (K : PySem.W.Frag) (C : Addr) (H : Hp) : V → Prop where
  | non (h : PySem.W.notFirst K C (.type "NoneType") = true) : Odd K C H .non
  | str (z : Str) (h : PySem.W.notFirst K C (.type "str") = true) : Odd K C H (.str z)
  | tup {a : Addr} {xs : List V} (e : H a = some (.tup xs)) (h : PySem.W.notFirst K C (.type "tuple") = true) : Odd K C H (.ref a)
section
variable {X : Cx} {K : PySem.W.Frag} {CX : CXT} {C g : Addr} {n : Nat} {fd : FuncData} {ps : List Str} {sp : Sp} {E : XK} {pins : List (Addr × Obj)} {σ : L2.St} {H : Hp} {s : Shared}
/-- o == y: y of one's own class, or of another kind -/
def rOwnA (K : PySem.W.Frag) (C : Addr) (sp : Sp) (E : XK) : R2 := fun x y H Q => IsIn H x C ∧ (IsIn H y C ∨ Odd K C H y) ∧ sp [x, y] H Q E
theorem odd_looks {x : V} {u : Value} (I : Inv X pins σ H s) (rx : RelV x u) (o : Odd X.K C H x) : ∃ tb, PySem.W.Looks (model X.prog X.w) s.heap (typeOf u) tb ∧ PySem.W.notFirst X.K C tb = true := by
  cases o with
  | non h => cases (show u = Value.none from rx); exact ⟨_, .now, h⟩
  | str z h => obtain ⟨t, q⟩ := (show ∃ t, u = Value.str z t from rx); cases q; exact ⟨_, .now, h⟩
  | @tup a xs ea h =>
    cases (show u = Value.ref a from rx)
    obtain ⟨_, _, _, o, h1, h2, _⟩ := (show ObjOk X.prog X.w H s.heap a (.tup xs) from I.hok a _ ea)
    exact ⟨_, h2 ▸ (PySem.W.Looks.ld h1).andThen .now, h⟩
theorem op_ownEqA {op : CmpOp} (hK : X.K = K) (hop : ∀ a b, compareOp op a b = richCompare op a b) (c : Own X.K C (cmpInfo op).2.1 g) (F : FnOk X.prog X.w X.K X.mg X.base CX n g fd ps sp) (hr : Room n X.A) (hb : Binds X.K fd ps []) (hx : Passes CX X E) :
    OpR X (compareOp op) (rOwnA K C sp E) := by
  subst hK
  intro pins s σ H x y v u Q I rx ry h
  obtain ⟨⟨a, dx, fs, rfl, ha⟩, hy, q⟩ := h
  cases rx
  obtain ⟨ox, od, J⟩ := own_at I ha
  obtain ⟨m, hF⟩ := I.fr
  rw [hop]
  have key : ∃ tb, PySem.W.Looks (model X.prog X.w) s.heap (typeOf u) tb ∧ PySem.W.notFirst X.K C tb = true := by
    rcases hy with ⟨b, dy, gs, rfl, hb'⟩ | o
    · cases ry
      obtain ⟨ox', od', J'⟩ := own_at I hb'
      exact ⟨_, J'.type, by simp [PySem.W.notFirst]⟩
    · exact odd_looks I ry o
  obtain ⟨tb, L, nf⟩ := key
  refine PySem.W.cmp_K (op := op) (tb := tb) hr.units0 hF I.ok.mod.kin J L nf c.at_ c.fn (wpAny_mono (run_own F hr I.env0 hb hx I (vs := [.ref a, y]) (.cons rfl (.cons ry .nil)) q) (fun w s' z => ?_) fun _ _ x => x)
  obtain ⟨z', H', I', rz, qz⟩ := z
  exact SlX.cmpback rz ⟨z', H', I', rz, qz⟩
end
end TK

namespace TK
open PySem PySem.Spec PyProof.Rows L2
def SqS (K : PySem.W.Frag) (H : Hp) (a : Addr) (xs : List V) : Prop := SqL K H a xs ∨ SqT K H a xs
theorem SqS.same {K : PySem.W.Frag} {H H' : Hp} {a : Addr} {xs : List V} (h : SqS K H a xs) (s : Same H H') : SqS K H' a xs := by
  rcases h with h | h
  · exact .inl (s.seq h)
  · exact .inr (same_tup s h)
def spRange : Sp := fun vs H Q _ => ∃ a lo hi : Int, vs = [.int a, .int lo, .int hi] ∧ lo ≤ a ∧ a ≤ hi ∧ Q .non H
theorem cut_names (ws : List (List Nat)) (i : Nat) : cutV (ws.map vN) none (some ((i : Nat) : Int)) = (ws.take i).map vN := by
  unfold cutV
  rw [HT.sIx_none, HT.sIx_nat, List.drop_zero, Nat.sub_zero, List.map_take]
  by_cases h : i ≤ (ws.map vN).length
  · rw [Nat.min_eq_left h]
  · rw [Nat.min_eq_right (by omega), List.take_length, List.take_of_length_le (by omega)]
theorem not_before {zs : List (List Nat)} {i : Nat} {z : List Nat} (nd : zs.Nodup) (h : zs[i]? = some z) : z ∉ zs.take i := by
  intro m
  obtain ⟨j, hj⟩ := List.getElem?_of_mem m
  rw [List.getElem?_take] at hj
  split at hj
  · rename_i hji
    have hl := (List.getElem?_eq_some_iff.mp hj).1
    have := (List.getElem?_inj hl nd).mp (hj.trans h.symm)
    omega
  · cases hj
def capV : Option Int → V
  | none => .non
  | some x => .int x
section
variable {P : Program} {w : World} {K : PySem.W.Frag} {mg : Str → Option Value} {base : Heap}
theorem ok_check_size {f : Addr} {fd : FuncData} (F : Fun K "check_size" "check_size" s_check_size f fd) : FnOk P w K mg base CX0 1 f fd ["size", "low", "high"] spRange := by
  refine F.ok sc_check_size (fun vs H Q E h => ?_) (fun cdv A outer s H vs Q E hr h => ?_)
  · obtain ⟨a, lo, hi, rfl, _⟩ := h
    rfl
  · obtain ⟨a, lo, hi, rfl, h1, h2, q⟩ := h
    refine ⟨_, (pss_one (ps_if (pt_not (pt_chain op_le op_le (pv 1) (pv 0) (pv 2))) (pss_one ps_never) pss_nil)), ?_⟩
    refine ⟨_, rfl, _, rfl, _, _, rfl, rfl, _, rfl, ?_⟩
    rw [decide_eq_true h1]
    refine iteT ⟨_, rfl, _, _, rfl, rfl, _, rfl, ?_⟩
    rw [decide_eq_true h2]
    exact iteF q
/-! is_name, of a name or of the empty text -/
def nz (l : List Nat) : Bool := !l.isEmpty
theorem nz_nm {l : List Nat} (h : Nm l) : nz l = true := by
  obtain ⟨h1, _⟩ := h
  cases l with
  | nil => exact absurd h1 (by decide)
  | cons a l => rfl
def NmH (l : List Nat) : Prop := Nm l ∨ l = []
def spIsNameH : Sp := fun vs H Q _ => ∃ l : List Nat, vs = [vN l] ∧ NmH l ∧ ∀ H', Same H H' → Q (.bl (nz l)) H'
theorem all_true {n : Nat} : (List.replicate n true).all id = true := by
  induction n with
  | zero => rfl
  | succ n ih => rw [List.replicate_succ, List.all_cons, ih]; rfl
theorem ok_is_nameH {f : Addr} {fd : FuncData} (F : Fun K "is_name" "is_name" s_is_name f fd) (m_len : mg "len" = none) (m_all : mg "all" = none) {tk : Tok} (g_LETTERS : mg "LETTERS" = some (.str lettersZ tk)) : FnOk P w K mg base CX0 1 f fd ["word"] spIsNameH := by
  refine F.ok sc_is_name (fun vs H Q E h => ?_) (fun cdv A outer s H vs Q E hr h => ?_)
  · obtain ⟨l, rfl, _⟩ := h
    rfl
  · obtain ⟨l, rfl, hn, q⟩ := h
    refine ⟨_, (pss_one (ps_ret (pe_and (pe_chain op_le op_le pe_int (pe_callB call_len_str (by rfl) m_len (by decide +kernel) (pa_cons (pv 0) pa_nil)) pe_int) (pe_one (pe_callB (cr_all rfl) (by rfl) m_all (by decide +kernel) (pa_cons (pe_lc (own := [("sign", 1)]) (by rfl) sc_is_name.nd (pi_str (pv 0)) (blkOk_by (N := ["word", "sign"]) (sc := defScope s_is_name) (by decide +kernel)) (fun _ _ _ _ _ => (pg_name (i := 1) sc_is_name.nd rfl (.inl rfl))) (fun _ _ _ _ _ => pts_nil) (fun _ _ _ _ _ => (pe_cmpR op_in_sign (pv 1) (pe_glob (v := .str lettersZ) (by rfl) g_LETTERS ⟨_, rfl⟩) (by rfl)))) pa_nil)))))), ?_⟩
    rcases hn with hN | rfl
    · rw [nz_nm hN] at q
      obtain ⟨h1, h2, h3⟩ := hN
      refine ⟨_, rfl, _, rfl, small_len (by omega), _, _, rfl, rfl, _, rfl, ?_⟩
      rw [decide_eq_true (show (1 : Int) ≤ ((sOf l).length : Nat) by rw [sOf_len]; omega)]
      refine iteT ⟨_, _, rfl, rfl, _, rfl, ?_⟩
      rw [decide_eq_true (show (((sOf l).length : Nat) : Int) ≤ 8 by rw [sOf_len]; omega)]
      refine iteT ⟨_, rfl, _, rfl, fun D nD => ?_⟩
      refine lc_it walk_str (fun i H' => H' = upd H D (.lst ((List.replicate i true).map V.bl))) rfl (fun _ _ _ _ => True.intro) (fun i x H1 H2 hi hp hy => ?_) (fun H' hp => ?_)
      · subst hp
        obtain ⟨rfl, c, hc, rfl⟩ := hy
        have hcl : c ∈ l := by
          have : (sOf l).cps.toList[i]? = some c := by rw [Array.getElem?_toList]; exact hc
          exact List.mem_of_getElem? this
        have hin : c ∈ lettersZ.cps.toList := by
          rw [letters_codes]
          have := h3 c hcl
          exact List.mem_map.mpr ⟨c - 97, List.mem_range.mpr (by omega), by omega⟩
        have hil : i < l.length := by
          have : (sOf l).cps.size = l.length := sOf_len l
          omega
        refine ⟨rfl, yesT ⟨_, rfl, _, _, rfl, rfl, _, upd_same, ?_, ?_⟩⟩
        · rw [List.length_map, List.length_replicate]; exact small1000 (by omega)
        · rw [upd_twice, decide_eq_true hin, List.replicate_succ', List.map_append]
          rfl
      · subst hp
        refine ⟨_, _, rfl, lstAt upd_same, ?_⟩
        rw [all_true]
        exact q _ (same_upd nD)
    · refine ⟨_, rfl, _, rfl, small_len (by decide), _, _, rfl, rfl, _, rfl, iteF ⟨_, rfl, iteF (q H (Same.refl H))⟩⟩
/-! check_names, with the hook -/
def spCheckH (K : PySem.W.Frag) : Sp := fun vs H Q _ => ∃ (a : Addr) (m : Int) (zs : List (List Nat)), vs = [.ref a, .int m, .bl true] ∧ SqS K H a (zs.map vN) ∧ 1 ≤ zs.length ∧ (zs.length : Int) ≤ m ∧ zs.length ≤ 6 ∧ (∀ z ∈ zs, NmH z) ∧ zs.Nodup ∧ ∀ H', Same H H' → Q .non H'
theorem empty_nm : vN [] = V.str (Str.ofString "") := rfl
theorem ok_check_namesH {f : Addr} {fd : FuncData} {dvs : List V} {kws : List (Str × V)} (F : FunD K "check_names" "check_names" (defArgs s_check_names) (defBody s_check_names) (defScope s_check_names) dvs kws f fd) (m_len : mg "len" = none) (m_enumerate : mg "enumerate" = none)
    (d_check_size : Def P w K mg base "check_size" 1 ["size", "low", "high"] spRange) (d_is_name : Def P w K mg base "is_name" 1 ["word"] spIsNameH) : FnOk P w K mg base CX0 2 f fd ["names", "most", "hook"] (spCheckH K) := by
  refine F.ok (CX := CX0) sc_check_names (fun vs H Q E h => ?_) (fun cdv A outer s H vs Q E hr h => ?_)
  · obtain ⟨a, m, zs, rfl, _⟩ := h
    rfl
  · obtain ⟨a, m, zs, rfl, hS, l1, l2, l6, nm, nd, q⟩ := h
    have hp : ∀ (i : Nat) (x : V) (H2 : Hp), Same H H2 → (zs.map vN)[i]? = some x → ∃ z, zs[i]? = some z ∧ x = vN z ∧ NmH z := fun i x H2 _ hx => by
      obtain ⟨z, ez, rfl⟩ := vN_at hx
      exact ⟨z, ez, rfl, nm z (List.mem_of_getElem? ez)⟩
    rcases hS with hS | hS
    · refine ⟨_, PSs.nox (pss_cons (ps_expr (pe_callD d_check_size (hr.mono (by decide)) (by rfl) (pa_cons (pe_callB call_len_seq (by rfl) m_len (by decide +kernel) (pa_cons (pv 0) pa_nil)) (pa_cons pe_int (pa_cons (pv 1) pa_nil)))))
  (pss_one (ps_for PassesOwn.never rfl (pi_enum (by rfl) m_enumerate (pa_cons (pv 0) pa_nil)) (pg_tup (by rfl) (pgs_cons (pg_name (i := 3) sc_check_names.nd rfl (.inl rfl)) (pgs_cons (pg_name (i := 4) sc_check_names.nd rfl (.inl rfl)) pgs_nil)))
    (pss_cons (ps_if (PW.pt (pw_and (pt_not (pt_val (pe_callD d_is_name (hr.mono (by decide)) (by rfl) (pa_cons (pv 4) pa_nil)))) (pw_and1 (pt_not (PW.pt (pw_and (pt_val (pv 2)) (pw_and1 (pt_cmpR op_eq (pv 4) pe_str (nomark _))))))))) (pss_one ps_never) pss_nil)
  (pss_one (ps_if (pt_cmpR op_in_seq (pv 4) (pe_slice sl_list (pv 0) po_none (po_some (pv 3))) (by rfl)) (pss_one ps_never) pss_nil)))))), ?_⟩
      refine ⟨_, rfl, _, _, rfl, .inl hS, _, rfl, _, _, _, rfl, by rw [List.length_map]; omega, by rw [List.length_map]; omega, ?_⟩
      refine ⟨_, rfl, _, _, rfl, hS, for_it walk_enum (fun i σ H2 => Same H H2 ∧ ∃ y1 y2 : Option V, σ = [some (.ref a), some (.int m), some (.bl true), y1, y2]) ⟨Same.refl H, _, _, rfl⟩ (fun i σ H2 _ hp => hp.1.seq hS) ?_ ?_⟩
      · rintro i x σ H2 H3 hi ⟨sm, y1, y2, rfl⟩ ⟨T, v1, v2, rfl, nT, rfl, e1, e2⟩
        cases e1
        obtain ⟨z, ez, rfl, hz⟩ := hp i _ H2 sm e2
        have sm3 := sm.trans (same_upd (o := .tup [.int (i : Nat), vN z]) nT)
        refine ⟨_, _, rfl, tupAt upd_same, rfl, _, _, rfl, _, _, rfl, rfl, ?_⟩
        refine ⟨_, rfl, z, rfl, hz, fun H4 s4 => ⟨_, rfl, ?_⟩⟩
        have sm4 := sm3.trans s4
        rcases hz with hz | rfl
        · rw [nz_nm hz]
          refine iteF (iteF ?_)
          refine ⟨_, rfl, _, rfl, _, rfl, _, rfl, _, _, rfl, sm4.seq hS, fun p np => ?_⟩
          rw [cut_names]
          have sp := same_upd (o := .lst ((zs.take i).map vN)) np
          refine ⟨p, _, rfl, .inl (lstAt upd_same), rfl, nms_flat _, _, rfl, ?_⟩
          rw [in_nm, decide_eq_false (not_before nd ez)]
          exact iteF ⟨sm4.trans sp, _, _, rfl⟩
        · refine iteT ⟨_, rfl, _, rfl, iteT ⟨_, rfl, rfl, _, rfl, ?_⟩⟩
          rw [decide_eq_true empty_nm]
          refine iteF ?_
          refine ⟨_, rfl, _, rfl, _, rfl, _, rfl, _, _, rfl, sm4.seq hS, fun p np => ?_⟩
          rw [cut_names]
          have sp := same_upd (o := .lst ((zs.take i).map vN)) np
          refine ⟨p, _, rfl, .inl (lstAt upd_same), rfl, nms_flat _, _, rfl, ?_⟩
          rw [in_nm, decide_eq_false (not_before nd ez)]
          exact iteF ⟨sm4.trans sp, _, _, rfl⟩
      · rintro σ H2 ⟨sm, y1, y2, rfl⟩
        exact q _ sm
    · refine ⟨_, PSs.nox (pss_cons (ps_expr (pe_callD d_check_size (hr.mono (by decide)) (by rfl) (pa_cons (pe_callB call_len_seq (by rfl) m_len (by decide +kernel) (pa_cons (pv 0) pa_nil)) (pa_cons pe_int (pa_cons (pv 1) pa_nil)))))
  (pss_one (ps_for PassesOwn.never rfl (pi_enumT (by rfl) m_enumerate (pa_cons (pv 0) pa_nil)) (pg_tup (by rfl) (pgs_cons (pg_name (i := 3) sc_check_names.nd rfl (.inl rfl)) (pgs_cons (pg_name (i := 4) sc_check_names.nd rfl (.inl rfl)) pgs_nil)))
    (pss_cons (ps_if (PW.pt (pw_and (pt_not (pt_val (pe_callD d_is_name (hr.mono (by decide)) (by rfl) (pa_cons (pv 4) pa_nil)))) (pw_and1 (pt_not (PW.pt (pw_and (pt_val (pv 2)) (pw_and1 (pt_cmpR op_eq (pv 4) pe_str (nomark _))))))))) (pss_one ps_never) pss_nil)
  (pss_one (ps_if (pt_cmpR op_in_seq (pv 4) (pe_slice sl_tup (pv 0) po_none (po_some (pv 3))) (by rfl)) (pss_one ps_never) pss_nil)))))), ?_⟩
      refine ⟨_, rfl, _, _, rfl, .inr hS, _, rfl, _, _, _, rfl, by rw [List.length_map]; omega, by rw [List.length_map]; omega, ?_⟩
      refine ⟨_, rfl, _, _, rfl, hS, for_it walk_enumT (fun i σ H2 => Same H H2 ∧ ∃ y1 y2 : Option V, σ = [some (.ref a), some (.int m), some (.bl true), y1, y2]) ⟨Same.refl H, _, _, rfl⟩ (fun i σ H2 _ hp => same_tup (hp.1) hS) ?_ ?_⟩
      · rintro i x σ H2 H3 hi ⟨sm, y1, y2, rfl⟩ ⟨T, v1, v2, rfl, nT, rfl, e1, e2⟩
        cases e1
        obtain ⟨z, ez, rfl, hz⟩ := hp i _ H2 sm e2
        have sm3 := sm.trans (same_upd (o := .tup [.int (i : Nat), vN z]) nT)
        refine ⟨_, _, rfl, tupAt upd_same, rfl, _, _, rfl, _, _, rfl, rfl, ?_⟩
        refine ⟨_, rfl, z, rfl, hz, fun H4 s4 => ⟨_, rfl, ?_⟩⟩
        have sm4 := sm3.trans s4
        rcases hz with hz | rfl
        · rw [nz_nm hz]
          refine iteF (iteF ?_)
          refine ⟨_, rfl, _, rfl, _, rfl, _, rfl, _, _, rfl, same_tup (sm4) hS, (by rintro ⟨_, hw⟩; rw [HT.sIx_nat] at hw; have hi' : i < (zs.map vN).length := hi; omega), fun p np => ?_⟩
          rw [cut_names]
          have sp := same_upd (o := .tup ((zs.take i).map vN)) np
          refine ⟨p, _, rfl, .inr (tupAt upd_same), rfl, nms_flat _, _, rfl, ?_⟩
          rw [in_nm, decide_eq_false (not_before nd ez)]
          exact iteF ⟨sm4.trans sp, _, _, rfl⟩
        · refine iteT ⟨_, rfl, _, rfl, iteT ⟨_, rfl, rfl, _, rfl, ?_⟩⟩
          rw [decide_eq_true empty_nm]
          refine iteF ?_
          refine ⟨_, rfl, _, rfl, _, rfl, _, rfl, _, _, rfl, same_tup (sm4) hS, (by rintro ⟨_, hw⟩; rw [HT.sIx_nat] at hw; have hi' : i < (zs.map vN).length := hi; omega), fun p np => ?_⟩
          rw [cut_names]
          have sp := same_upd (o := .tup ((zs.take i).map vN)) np
          refine ⟨p, _, rfl, .inr (tupAt upd_same), rfl, nms_flat _, _, rfl, ?_⟩
          rw [in_nm, decide_eq_false (not_before nd ez)]
          exact iteF ⟨sm4.trans sp, _, _, rfl⟩
      · rintro σ H2 ⟨sm, y1, y2, rfl⟩
        exact q _ sm
/-! check_known -/
def spKnown (K : PySem.W.Frag) : Sp := fun vs H Q _ => ∃ (a b : Addr) (zs ks : List (List Nat)), vs = [.ref a, .ref b] ∧ SqS K H a (zs.map vN) ∧ SqS K H b (ks.map vN) ∧ (∀ z ∈ zs, z ∈ ks) ∧ Q .non H
theorem ok_check_known {f : Addr} {fd : FuncData} (F : Fun K "check_known" "check_known" s_check_known f fd) : FnOk P w K mg base CX0 1 f fd ["names", "known"] (spKnown K) := by
  refine F.ok sc_check_known (fun vs H Q E h => ?_) (fun cdv A outer s H vs Q E hr h => ?_)
  · obtain ⟨a, b, zs, ks, rfl, _⟩ := h
    rfl
  · obtain ⟨a, b, zs, ks, rfl, hA, hB, sub, q⟩ := h
    refine ⟨_, (pss_one (ps_for PassesOwn.never rfl (pi_or (pi_list (pv 0)) (pi_tup (pv 0))) (pg_name (i := 2) sc_check_known.nd rfl (.inl rfl))
    (pss_one (ps_if (pt_cmpR op_notIn_seq (pv 2) (pv 1) (by rfl)) (pss_one ps_never) pss_nil)))), ?_⟩
    have one : ∀ (i : Nat) (x : V) (σ : L2.St) (H2 : Hp), (zs.map vN)[i]? = some x → ∃ z, z ∈ ks ∧ x = vN z := fun i x σ H2 hx => by
      obtain ⟨z, ez, rfl⟩ := vN_at hx
      exact ⟨z, sub z (List.mem_of_getElem? ez), rfl⟩
    rcases hA with hA | hA
    · refine .inl ⟨_, rfl, a, rfl, ⟨_, hA⟩, for_list (K := K) (a := a) (xs := zs.map vN) (fun i σ H2 => H2 = H ∧ ∃ y : Option V, σ = [some (.ref a), some (.ref b), y]) ⟨rfl, _, rfl⟩ (fun i σ H2 _ hp => by rw [hp.1]; exact hA) ?_ ?_⟩
      · rintro i x σ H2 hx ⟨rfl, y, rfl⟩
        obtain ⟨z, hz, rfl⟩ := one i x [] H2 hx
        refine ⟨_, rfl, _, rfl, b, _, rfl, hB, rfl, nms_flat _, _, rfl, ?_⟩
        rw [notin_nm, decide_eq_true hz]
        exact iteF ⟨rfl, _, rfl⟩
      · rintro σ H2 ⟨rfl, y, rfl⟩
        exact q
    · refine .inr ⟨_, rfl, a, rfl, ⟨_, hA⟩, for_tup (K := K) (a := a) (xs := zs.map vN) (fun i σ H2 => H2 = H ∧ ∃ y : Option V, σ = [some (.ref a), some (.ref b), y]) ⟨rfl, _, rfl⟩ (fun i σ H2 _ hp => by rw [hp.1]; exact hA) ?_ ?_⟩
      · rintro i x σ H2 hx ⟨rfl, y, rfl⟩
        obtain ⟨z, hz, rfl⟩ := one i x [] H2 hx
        refine ⟨_, rfl, _, rfl, b, _, rfl, hB, rfl, nms_flat _, _, rfl, ?_⟩
        rw [notin_nm, decide_eq_true hz]
        exact iteF ⟨rfl, _, rfl⟩
      · rintro σ H2 ⟨rfl, y, rfl⟩
        exact q
end
abbrev Nam := List Nat
abbrev Tie := Nam × Nam × Int
/-! ties -/
def TieAt (H : Hp) (e : Addr) (t : Tie) : Prop := H e = some (.tup [vN t.1, vN t.2.1, .int t.2.2])
def TiesAt (H : Hp) (es : List Addr) (ts : List Tie) : Prop := es.length = ts.length ∧ ∀ (i : Nat) (e : Addr), es[i]? = some e → ∃ t, ts[i]? = some t ∧ TieAt H e t
theorem TiesAt.same {H H' : Hp} {es : List Addr} {ts : List Tie} (h : TiesAt H es ts) (s : Same H H') : TiesAt H' es ts := ⟨h.1, fun i e he => by
  obtain ⟨t, a, b⟩ := h.2 i e he
  exact ⟨t, a, s _ _ b⟩⟩
theorem ties_at {H : Hp} {es : List Addr} {ts : List Tie} (h : TiesAt H es ts) {i : Nat} {x : V} (hx : (es.map V.ref)[i]? = some x) : ∃ e t, x = .ref e ∧ es[i]? = some e ∧ ts[i]? = some t ∧ TieAt H e t := by
  rw [List.getElem?_map] at hx
  cases e : es[i]? with
  | none => rw [e] at hx; cases hx
  | some a =>
    rw [e] at hx
    obtain ⟨t, h1, h2⟩ := h.2 i a e
    exact ⟨a, t, (Option.some.inj hx).symm, rfl, h1, h2⟩
theorem TiesAt.snoc {H H' : Hp} {es : List Addr} {ts : List Tie} {e : Addr} {t : Tie} (h : TiesAt H es ts) (s : Same H H') (k : TieAt H' e t) : TiesAt H' (es ++ [e]) (ts ++ [t]) := by
  refine ⟨by rw [List.length_append, List.length_append, h.1]; rfl, fun i x hx => ?_⟩
  by_cases hi : i < es.length
  · rw [List.getElem?_append_left hi] at hx
    obtain ⟨t', h1, h2⟩ := h.2 i x hx
    exact ⟨t', by rw [List.getElem?_append_left (by rw [← h.1]; exact hi)]; exact h1, s _ _ h2⟩
  · rw [List.getElem?_append_right (by omega)] at hx
    have hi2 : i - es.length = 0 := by
      have := (List.getElem?_eq_some_iff.mp hx).1
      simp at this
      omega
    rw [hi2] at hx
    cases Option.some.inj hx
    exact ⟨t, by rw [List.getElem?_append_right (by rw [← h.1]; omega), ← h.1, hi2]; rfl, k⟩
def plusO : Option Int → Int → Option Int
  | none, _ => none
  | some a, c => some (a + c)
def minO : Option Int → Option Int → Option Int
  | none, b => b
  | some a, none => some a
  | some a, some b => some (if b < a then b else a)
theorem mem_at {α : Type} {xs : List α} {i : Nat} {x : α} (h : xs[i]? = some x) : x ∈ xs := List.mem_of_getElem? h
end TK

namespace TK
open PySem PySem.Spec PyProof.Rows L2
structure DefD (P : Program) (w : World) (K : PySem.W.Frag) (mg : Str → Option Value) (base : Heap) (x : Str) (k : Nat) (ps : List Str) (sp : Sp) (dvs : List V) : Prop where
  ex : ∃ (f : Addr) (fd : FuncData) (ds : List Value), FnOk P w K mg base CX0 k f fd ps sp ∧ mg x = some (.ref f) ∧ PySem.W.keepIn K (.ref f) = true ∧ Binds K fd ps ds ∧ Vals dvs ds
section
variable {X : Cx} {x : Str} {k : Nat} {ps : List Str} {sp : Sp} {dvs : List V} {e : Expr} {es : List Expr} {t : TA} {p pos : Pos}
theorem pe_callDD (D : DefD X.prog X.w X.K X.mg X.base x k ps sp dvs) (hr : Room k X.A) (hg : Gl X x) (ha : PA X (e :: es) t) (hdb : (x == ("__debug__" : Str)) = false := by decide)
    (he : starEach (e :: es) X.env = (false, eval e X.env) :: starEach es X.env := by rfl) (hpl : (backTo pos (starEach es X.env)).any (·.1) = false := by rfl) :
    PE X (.Call (.Name x p) (e :: es) [] pos) (tCall sp dvs E0 t) := by
  obtain ⟨f, fd, ds, F, g, kp, b, r⟩ := D.ex
  exact pe_call F hr hg g kp b r pass0 ha hdb he hpl
end
/-- right entries -/
structure EOk (zs : List Nam) (ts : List Tie) : Prop where
  a : ∀ t ∈ ts, t.1 ∈ zs
  b : ∀ t ∈ ts, t.2.1 ∈ zs
  h0 : ∀ t ∈ ts, 0 ≤ t.2.2
/-! the least toll of an entry -/
def isE (x y : Nam) (t : Tie) : Bool := decide (t.1 = x ∧ t.2.1 = y)
def leastE (ts : List Tie) (x y : Nam) : Option Int := ts.foldl (fun o t => if isE x y t then minO o (some t.2.2) else o) none
theorem leastE_snoc {ts : List Tie} {i : Nat} {t : Tie} (h : ts[i]? = some t) (x y : Nam) : leastE (ts.take (i + 1)) x y = if isE x y t then minO (leastE (ts.take i) x y) (some t.2.2) else leastE (ts.take i) x y := by
  unfold leastE
  rw [List.take_add_one, h, List.foldl_append]
  rfl
def keyE (x y : Nam) : List Key := [Sum.inr (sOf x), Sum.inr (sOf y)]
theorem keyE_inj {x y x' y' : Nam} (h : keyE x y = keyE x' y') : x = x' ∧ y = y' := by
  unfold keyE at h
  injection h with h1 h2
  injection h2 with h2 _
  exact ⟨sOf_inj (Sum.inr.inj h1), sOf_inj (Sum.inr.inj h2)⟩
def capI : Option Int → V
  | none => .non
  | some x => .int x
/-- what the dict of the prices holds -/
structure KvE (kvs : List (List Key × V)) (ts : List Tie) : Prop where
  at_ : ∀ x y : Nam, valV kvs (keyE x y) = (leastE ts x y).map V.int
  ks : ∀ p ∈ kvs, ∃ x y v, p = (keyE x y, V.int v)
  nd : (kvs.map (·.1)).Nodup
theorem nd_put {kvs : List (List Key × V)} {k : List Key} {v : V} (h : (kvs.map (·.1)).Nodup) : ((putK kvs k v).map (·.1)).Nodup := by
  unfold putK
  split
  · rw [List.map_map]
    have e : ((fun p : List Key × V => p.1) ∘ fun kv : List Key × V => if kv.1 = k then (kv.1, v) else kv) = fun p => p.1 := by
      funext p
      show (if p.1 = k then (p.1, v) else p).1 = p.1
      split <;> rfl
    rw [e]
    exact h
  · rename_i hn
    rw [List.map_append]
    refine List.nodup_append.mpr ⟨h, by simp, fun a ha b hb => ?_⟩
    obtain ⟨p, hp, rfl⟩ := List.mem_map.mp ha
    have hb : b = k := by simpa using hb
    subst hb
    exact fun e => hn (List.any_eq_true.mpr ⟨p, hp, decide_eq_true e⟩)
theorem ks_put {kvs : List (List Key × V)} {x y : Nam} {v : Int} (h : ∀ p ∈ kvs, ∃ x y v, p = (keyE x y, V.int v)) : ∀ p ∈ putK kvs (keyE x y) (.int v), ∃ x y v, p = (keyE x y, V.int v) := by
  intro p hp
  unfold putK at hp
  split at hp
  · obtain ⟨q, hq, rfl⟩ := List.mem_map.mp hp
    obtain ⟨x', y', v', rfl⟩ := h q hq
    dsimp only
    split
    · exact ⟨x', y', v, rfl⟩
    · exact ⟨x', y', v', rfl⟩
  · rcases List.mem_append.mp hp with m | m
    · exact h p m
    · rw [List.mem_singleton.mp m]; exact ⟨x, y, v, rfl⟩
theorem KvE.nil : KvE [] [] := ⟨fun _ _ => rfl, (fun _ h => nomatch h), List.nodup_nil⟩
/-- one entry more -/
theorem KvE.put {kvs : List (List Key × V)} {ts : List Tie} {i : Nat} {t : Tie} (h : KvE kvs (ts.take i)) (e : ts[i]? = some t) (c : minO (leastE (ts.take i) t.1 t.2.1) (some t.2.2) = some t.2.2) : KvE (putK kvs (keyE t.1 t.2.1) (.int t.2.2)) (ts.take (i + 1)) := by
  refine ⟨fun x y => ?_, ks_put h.ks, nd_put h.nd⟩
  rw [valV_put, leastE_snoc e]
  by_cases q : keyE x y = keyE t.1 t.2.1
  · obtain ⟨rfl, rfl⟩ := keyE_inj q
    rw [if_pos q, if_pos (show isE t.1 t.2.1 t = true from decide_eq_true ⟨rfl, rfl⟩), c]
    rfl
  · rw [if_neg q, if_neg (show ¬ isE x y t = true from fun z => by
      obtain ⟨e1, e2⟩ := of_decide_eq_true z
      exact q (by rw [e1, e2]))]
    exact h.at_ x y
theorem KvE.stay {kvs : List (List Key × V)} {ts : List Tie} {i : Nat} {t : Tie} (h : KvE kvs (ts.take i)) (e : ts[i]? = some t) (c : minO (leastE (ts.take i) t.1 t.2.1) (some t.2.2) = leastE (ts.take i) t.1 t.2.1) : KvE kvs (ts.take (i + 1)) := by
  refine ⟨fun x y => ?_, h.ks, h.nd⟩
  rw [h.at_, leastE_snoc e]
  by_cases q : isE x y t = true
  · obtain ⟨e1, e2⟩ := of_decide_eq_true q
    subst e1 e2
    rw [if_pos q, c]
  · rw [if_neg q]
theorem kvE_len {kvs : List (List Key × V)} {ts : List Tie} {i : Nat} (h : kvs.length ≤ i) (k : List Key) (v : V) : (putK kvs k v).length ≤ i + 1 := Nat.le_trans (length_putK _ _ _) (Nat.succ_le_succ h)
section
variable {P : Program} {w : World} {K : PySem.W.Frag} {mg : Str → Option Value} {base : Heap}
/-! _check_entries -/
def spCheckE (K : PySem.W.Frag) : Sp := fun vs H Q _ => ∃ (a b : Addr) (zs : List Nam) (es : List Addr) (ts : List Tie), vs = [.ref a, .ref b] ∧ SqS K H a (zs.map vN) ∧ SqS K H b (es.map V.ref) ∧ TiesAt H es ts ∧ EOk zs ts ∧ ∀ H', Same H H' → Q .non H'
theorem ok_check_entries {f : Addr} {fd : FuncData} (F : Fun K "_check_entries" "_check_entries" s_check_entries f fd) (d_check_known : Def P w K mg base "check_known" 1 ["names", "known"] (spKnown K)) :
    FnOk P w K mg base CX0 2 f fd ["names", "entries"] (spCheckE K) := by
  refine F.ok sc_check_entries (fun vs H Q E h => ?_) (fun cdv A outer s H vs Q E hr h => ?_)
  · obtain ⟨a, b, zs, es, ts, rfl, _⟩ := h
    rfl
  · obtain ⟨a, b, zs, es, ts, rfl, hA, hB, hT, ok, q⟩ := h
    rcases hB with hB | hB
    · refine ⟨_, (pss_one (ps_for PassesOwn.never rfl (pi_list (pv 1)) (pg_tup (by rfl) (pgs_cons (pg_name (i := 2) sc_check_entries.nd rfl (.inl rfl)) (pgs_cons (pg_name (i := 3) sc_check_entries.nd rfl (.inl rfl)) (pgs_cons (pg_name (i := 4) sc_check_entries.nd rfl (.inl rfl)) pgs_nil))))
    (pss_cons (ps_expr (pe_callD d_check_known (hr.mono (by decide)) (by rfl) (pa_cons (pe_lst (pa_cons (pv 2) (pa_cons (pv 3) pa_nil))) (pa_cons (pv 0) pa_nil))))
  (pss_one (ps_if (pt_cmpR op_lt (pv 4) pe_int (nomark _)) (pss_one ps_never) pss_nil))))), ?_⟩
      refine ⟨_, rfl, b, rfl, ⟨_, hB⟩, for_list (K := K) (a := b) (xs := es.map V.ref) (fun i σ H2 => Same H H2 ∧ ∃ y1 y2 y3 : Option V, σ = [some (.ref a), some (.ref b), y1, y2, y3]) ⟨Same.refl H, _, _, _, rfl⟩ (fun i σ H2 _ hp => hp.1.seq hB) ?_ ?_⟩
      · rintro i x σ H2 hx ⟨sm, y1, y2, y3, rfl⟩
        obtain ⟨e, t, rfl, _, et, ht⟩ := ties_at hT hx
        have tm := mem_at et
        refine ⟨_, _, rfl, tupAt (sm _ _ ht), rfl, _, _, rfl, _, _, rfl, _, _, rfl, rfl, ?_⟩
        refine ⟨_, rfl, _, rfl, (show (2 : Nat) ≤ sizeLine by decide), fun p np => ?_⟩
        have sp := same_upd (o := .lst [vN t.1, vN t.2.1]) np
        refine ⟨_, rfl, p, a, [t.1, t.2.1], zs, rfl, .inl (lstAt upd_same), hA.same (sm.trans sp), ?_, ?_⟩
        · intro z hz
          rcases List.mem_cons.mp hz with rfl | hz
          · exact ok.a _ tm
          · rw [List.mem_singleton.mp hz]; exact ok.b _ tm
        refine ⟨_, rfl, _, _, rfl, rfl, _, rfl, ?_⟩
        rw [decide_eq_false (show ¬ t.2.2 < 0 by have := ok.h0 _ tm; omega)]
        exact iteF ⟨sm.trans sp, _, _, _, rfl⟩
      · rintro σ H2 ⟨sm, y1, y2, y3, rfl⟩
        exact q _ sm
    · refine ⟨_, (pss_one (ps_for PassesOwn.never rfl (pi_tup (pv 1)) (pg_tup (by rfl) (pgs_cons (pg_name (i := 2) sc_check_entries.nd rfl (.inl rfl)) (pgs_cons (pg_name (i := 3) sc_check_entries.nd rfl (.inl rfl)) (pgs_cons (pg_name (i := 4) sc_check_entries.nd rfl (.inl rfl)) pgs_nil))))
    (pss_cons (ps_expr (pe_callD d_check_known (hr.mono (by decide)) (by rfl) (pa_cons (pe_lst (pa_cons (pv 2) (pa_cons (pv 3) pa_nil))) (pa_cons (pv 0) pa_nil))))
  (pss_one (ps_if (pt_cmpR op_lt (pv 4) pe_int (nomark _)) (pss_one ps_never) pss_nil))))), ?_⟩
      refine ⟨_, rfl, b, rfl, ⟨_, hB⟩, for_tup (K := K) (a := b) (xs := es.map V.ref) (fun i σ H2 => Same H H2 ∧ ∃ y1 y2 y3 : Option V, σ = [some (.ref a), some (.ref b), y1, y2, y3]) ⟨Same.refl H, _, _, _, rfl⟩ (fun i σ H2 _ hp => same_tup hp.1 hB) ?_ ?_⟩
      · rintro i x σ H2 hx ⟨sm, y1, y2, y3, rfl⟩
        obtain ⟨e, t, rfl, _, et, ht⟩ := ties_at hT hx
        have tm := mem_at et
        refine ⟨_, _, rfl, tupAt (sm _ _ ht), rfl, _, _, rfl, _, _, rfl, _, _, rfl, rfl, ?_⟩
        refine ⟨_, rfl, _, rfl, (show (2 : Nat) ≤ sizeLine by decide), fun p np => ?_⟩
        have sp := same_upd (o := .lst [vN t.1, vN t.2.1]) np
        refine ⟨_, rfl, p, a, [t.1, t.2.1], zs, rfl, .inl (lstAt upd_same), hA.same (sm.trans sp), ?_, ?_⟩
        · intro z hz
          rcases List.mem_cons.mp hz with rfl | hz
          · exact ok.a _ tm
          · rw [List.mem_singleton.mp hz]; exact ok.b _ tm
        refine ⟨_, rfl, _, _, rfl, rfl, _, rfl, ?_⟩
        rw [decide_eq_false (show ¬ t.2.2 < 0 by have := ok.h0 _ tm; omega)]
        exact iteF ⟨sm.trans sp, _, _, _, rfl⟩
      · rintro σ H2 ⟨sm, y1, y2, y3, rfl⟩
        exact q _ sm
/-! _least_tolls -/
def spLeastT (K : PySem.W.Frag) : Sp := fun vs H Q _ => ∃ (b : Addr) (es : List Addr) (ts : List Tie), vs = [.ref b] ∧ SqS K H b (es.map V.ref) ∧ TiesAt H es ts ∧ ts.length ≤ 10000 ∧
  ∀ H' p kvs, H p = none → Same H H' → H' p = some (.dT kvs) → KvE kvs ts → kvs.length ≤ ts.length → Q (.ref p) H'
theorem ok_least_tolls {f : Addr} {fd : FuncData} (F : Fun K "_least_tolls" "_least_tolls" s_least_tolls f fd) : FnOk P w K mg base CX0 1 f fd ["entries"] (spLeastT K) := by
  refine F.ok sc_least_tolls (fun vs H Q E h => ?_) (fun cdv A outer s H vs Q E hr h => ?_)
  · obtain ⟨b, es, ts, rfl, _⟩ := h
    rfl
  · obtain ⟨b, es, ts, rfl, hB, hT, l4, q⟩ := h
    have el : (es.map V.ref).length = ts.length := by rw [List.length_map, hT.1]
    rcases hB with hB | hB
    · refine ⟨_, (pss_cons (ps_set (i := 1) sc_least_tolls.nd rfl (.inl rfl) pe_dnewT)
  (pss_cons (ps_for PassesOwn.never rfl (pi_list (pv 0)) (pg_tup (by rfl) (pgs_cons (pg_name (i := 2) sc_least_tolls.nd rfl (.inl rfl)) (pgs_cons (pg_name (i := 3) sc_least_tolls.nd rfl (.inl rfl)) (pgs_cons (pg_name (i := 4) sc_least_tolls.nd rfl (.inl rfl)) pgs_nil))))
    (pss_one (ps_if (PW.pt (pw_or (pt_cmp (pc_dnotin (hu_of hr) (pe_tup (pa_cons (pv 2) (pa_cons (pv 3) pa_nil))) (pv 1))) (pw_or1 (pt_cmpR op_lt (pv 4) (pe_dget (hu_of hr) (pv 1) (pe_tup (pa_cons (pv 2) (pa_cons (pv 3) pa_nil))) (fun _ _ => rfl)) (nomark _))))) (pss_one (ps_dput (hu_of hr) (pv 1) (pe_tup (pa_cons (pv 2) (pa_cons (pv 3) pa_nil))) (pv 4) rfl)) pss_nil)))
  (pss_one (ps_ret (pv 1))))), fun D nD => ?_⟩
      refine ⟨_, rfl, b, rfl, ⟨_, (same_upd nD).seq hB⟩, for_list (K := K) (a := b) (xs := es.map V.ref) (fun i σ H2 => Same H H2 ∧ ∃ (kvs : List (List Key × V)) (y1 y2 y3 : Option V), H2 D = some (.dT kvs) ∧ KvE kvs (ts.take i) ∧ kvs.length ≤ i ∧ σ = [some (.ref b), some (.ref D), y1, y2, y3]) ⟨same_upd nD, [], _, _, _, upd_same, .nil, Nat.le_refl _, rfl⟩ (fun i σ H2 _ hp => hp.1.seq hB) ?_ ?_⟩
      · rintro i x σ H2 hx ⟨sm, kvs, y1, y2, y3, hD, kv, kl, rfl⟩
        obtain ⟨e, t, rfl, _, et, ht⟩ := ties_at hT hx
        have hi : i < ts.length := (List.getElem?_eq_some_iff.mp et).1
        have hz : kvs.length < sizeLine := Nat.lt_of_le_of_lt (show kvs.length ≤ 10000 by omega) (by decide)
        refine ⟨_, _, rfl, tupAt (sm _ _ ht), rfl, _, _, rfl, _, _, rfl, _, _, rfl, rfl, ?_⟩
        refine ⟨_, rfl, _, rfl, (show (2 : Nat) ≤ sizeLine by decide), fun k1 nk1 => ?_⟩
        have s1 := same_upd (o := .tup [vN t.1, vN t.2.1]) nk1
        have g1 : DGet (upd H2 k1 (.tup [vN t.1, vN t.2.1])) D (.ref k1) ((leastE (ts.take i) t.1 t.2.1).map V.int) := kv.at_ t.1 t.2.1 ▸ DGet.t (k := keyE t.1 t.2.1) (s1 _ _ hD) upd_same
        refine ⟨_, rfl, D, _, rfl, g1, _, rfl, ?_⟩
        have sm1 := sm.trans s1
        have put : ∀ H5 : Hp, Same H H5 → H5 D = some (.dT kvs) → minO (leastE (ts.take i) t.1 t.2.1) (some t.2.2) = some t.2.2 → ∀ k, H5 k = none → Same H (upd (upd H5 k (.tup [vN t.1, vN t.2.1])) D (.dT (putK kvs (keyE t.1 t.2.1) (.int t.2.2)))) ∧ KvE (putK kvs (keyE t.1 t.2.1) (.int t.2.2)) (ts.take (i + 1)) ∧ (putK kvs (keyE t.1 t.2.1) (.int t.2.2)).length ≤ i + 1 :=
          fun H5 s5 hD5 c k nk => ⟨same_at (s5.trans (same_upd nk)) nD, kv.put et c, kvE_len (ts := ts) kl _ _⟩
        cases el2 : leastE (ts.take i) t.1 t.2.1 with
        | none =>
          refine iteT ?_
          refine ⟨_, rfl, _, rfl, _, rfl, _, rfl, (show (2 : Nat) ≤ sizeLine by decide), fun k2 nk2 => ?_⟩
          obtain ⟨h1, h2, h3⟩ := put _ sm1 (s1 _ _ hD) (by rw [el2]; rfl) k2 nk2
          exact ⟨D, _, rfl, DPut.t (k := keyE t.1 t.2.1) ((same_upd nk2) _ _ (s1 _ _ hD)) upd_same hz, h1, _, _, _, _, upd_same, h2, h3, rfl⟩
        | some v =>
          refine iteF ?_
          refine ⟨_, rfl, _, rfl, _, rfl, _, rfl, (show (2 : Nat) ≤ sizeLine by decide), fun k2 nk2 => ?_⟩
          have s2 := same_upd (o := .tup [vN t.1, vN t.2.1]) nk2
          have g2 : DGet (upd (upd H2 k1 (.tup [vN t.1, vN t.2.1])) k2 (.tup [vN t.1, vN t.2.1])) D (.ref k2) (some (V.int v)) := by
            have := DGet.t (k := keyE t.1 t.2.1) (s2 _ _ (s1 _ _ hD)) upd_same
            rw [kv.at_, el2] at this
            exact this
          refine ⟨D, _, rfl, g2, _, _, rfl, rfl, _, rfl, ite2 (fun c => ?_) (fun c => ?_)⟩
          · have c := of_decide_eq_true c
            refine ⟨_, rfl, _, rfl, _, rfl, _, rfl, (show (2 : Nat) ≤ sizeLine by decide), fun k3 nk3 => ?_⟩
            obtain ⟨h1, h2, h3⟩ := put _ (sm1.trans s2) (s2 _ _ (s1 _ _ hD)) (by rw [el2]; show some (if t.2.2 < v then t.2.2 else v) = _; rw [if_pos c]) k3 nk3
            exact ⟨D, _, rfl, DPut.t (k := keyE t.1 t.2.1) ((same_upd nk3) _ _ (s2 _ _ (s1 _ _ hD))) upd_same hz, h1, _, _, _, _, upd_same, h2, h3, rfl⟩
          · have c : ¬ t.2.2 < v := of_decide_eq_false (Bool.eq_false_iff.mpr c)
            exact ⟨sm1.trans s2, kvs, _, _, _, s2 _ _ (s1 _ _ hD), kv.stay et (by rw [el2]; show some (if t.2.2 < v then t.2.2 else v) = _; rw [if_neg c]), Nat.le_succ_of_le kl, rfl⟩
      · rintro σ H2 ⟨sm, kvs, y1, y2, y3, hD, kv, kl, rfl⟩
        rw [el, List.take_length] at kv
        rw [el] at kl
        exact ⟨_, rfl, q _ D kvs nD sm hD kv kl⟩
    · refine ⟨_, (pss_cons (ps_set (i := 1) sc_least_tolls.nd rfl (.inl rfl) pe_dnewT)
  (pss_cons (ps_for PassesOwn.never rfl (pi_tup (pv 0)) (pg_tup (by rfl) (pgs_cons (pg_name (i := 2) sc_least_tolls.nd rfl (.inl rfl)) (pgs_cons (pg_name (i := 3) sc_least_tolls.nd rfl (.inl rfl)) (pgs_cons (pg_name (i := 4) sc_least_tolls.nd rfl (.inl rfl)) pgs_nil))))
    (pss_one (ps_if (PW.pt (pw_or (pt_cmp (pc_dnotin (hu_of hr) (pe_tup (pa_cons (pv 2) (pa_cons (pv 3) pa_nil))) (pv 1))) (pw_or1 (pt_cmpR op_lt (pv 4) (pe_dget (hu_of hr) (pv 1) (pe_tup (pa_cons (pv 2) (pa_cons (pv 3) pa_nil))) (fun _ _ => rfl)) (nomark _))))) (pss_one (ps_dput (hu_of hr) (pv 1) (pe_tup (pa_cons (pv 2) (pa_cons (pv 3) pa_nil))) (pv 4) rfl)) pss_nil)))
  (pss_one (ps_ret (pv 1))))), fun D nD => ?_⟩
      refine ⟨_, rfl, b, rfl, ⟨_, same_tup (same_upd nD) hB⟩, for_tup (K := K) (a := b) (xs := es.map V.ref) (fun i σ H2 => Same H H2 ∧ ∃ (kvs : List (List Key × V)) (y1 y2 y3 : Option V), H2 D = some (.dT kvs) ∧ KvE kvs (ts.take i) ∧ kvs.length ≤ i ∧ σ = [some (.ref b), some (.ref D), y1, y2, y3]) ⟨same_upd nD, [], _, _, _, upd_same, .nil, Nat.le_refl _, rfl⟩ (fun i σ H2 _ hp => same_tup hp.1 hB) ?_ ?_⟩
      · rintro i x σ H2 hx ⟨sm, kvs, y1, y2, y3, hD, kv, kl, rfl⟩
        obtain ⟨e, t, rfl, _, et, ht⟩ := ties_at hT hx
        have hi : i < ts.length := (List.getElem?_eq_some_iff.mp et).1
        have hz : kvs.length < sizeLine := Nat.lt_of_le_of_lt (show kvs.length ≤ 10000 by omega) (by decide)
        refine ⟨_, _, rfl, tupAt (sm _ _ ht), rfl, _, _, rfl, _, _, rfl, _, _, rfl, rfl, ?_⟩
        refine ⟨_, rfl, _, rfl, (show (2 : Nat) ≤ sizeLine by decide), fun k1 nk1 => ?_⟩
        have s1 := same_upd (o := .tup [vN t.1, vN t.2.1]) nk1
        have g1 : DGet (upd H2 k1 (.tup [vN t.1, vN t.2.1])) D (.ref k1) ((leastE (ts.take i) t.1 t.2.1).map V.int) := kv.at_ t.1 t.2.1 ▸ DGet.t (k := keyE t.1 t.2.1) (s1 _ _ hD) upd_same
        refine ⟨_, rfl, D, _, rfl, g1, _, rfl, ?_⟩
        have sm1 := sm.trans s1
        have put : ∀ H5 : Hp, Same H H5 → H5 D = some (.dT kvs) → minO (leastE (ts.take i) t.1 t.2.1) (some t.2.2) = some t.2.2 → ∀ k, H5 k = none → Same H (upd (upd H5 k (.tup [vN t.1, vN t.2.1])) D (.dT (putK kvs (keyE t.1 t.2.1) (.int t.2.2)))) ∧ KvE (putK kvs (keyE t.1 t.2.1) (.int t.2.2)) (ts.take (i + 1)) ∧ (putK kvs (keyE t.1 t.2.1) (.int t.2.2)).length ≤ i + 1 :=
          fun H5 s5 hD5 c k nk => ⟨same_at (s5.trans (same_upd nk)) nD, kv.put et c, kvE_len (ts := ts) kl _ _⟩
        cases el2 : leastE (ts.take i) t.1 t.2.1 with
        | none =>
          refine iteT ?_
          refine ⟨_, rfl, _, rfl, _, rfl, _, rfl, (show (2 : Nat) ≤ sizeLine by decide), fun k2 nk2 => ?_⟩
          obtain ⟨h1, h2, h3⟩ := put _ sm1 (s1 _ _ hD) (by rw [el2]; rfl) k2 nk2
          exact ⟨D, _, rfl, DPut.t (k := keyE t.1 t.2.1) ((same_upd nk2) _ _ (s1 _ _ hD)) upd_same hz, h1, _, _, _, _, upd_same, h2, h3, rfl⟩
        | some v =>
          refine iteF ?_
          refine ⟨_, rfl, _, rfl, _, rfl, _, rfl, (show (2 : Nat) ≤ sizeLine by decide), fun k2 nk2 => ?_⟩
          have s2 := same_upd (o := .tup [vN t.1, vN t.2.1]) nk2
          have g2 : DGet (upd (upd H2 k1 (.tup [vN t.1, vN t.2.1])) k2 (.tup [vN t.1, vN t.2.1])) D (.ref k2) (some (V.int v)) := by
            have := DGet.t (k := keyE t.1 t.2.1) (s2 _ _ (s1 _ _ hD)) upd_same
            rw [kv.at_, el2] at this
            exact this
          refine ⟨D, _, rfl, g2, _, _, rfl, rfl, _, rfl, ite2 (fun c => ?_) (fun c => ?_)⟩
          · have c := of_decide_eq_true c
            refine ⟨_, rfl, _, rfl, _, rfl, _, rfl, (show (2 : Nat) ≤ sizeLine by decide), fun k3 nk3 => ?_⟩
            obtain ⟨h1, h2, h3⟩ := put _ (sm1.trans s2) (s2 _ _ (s1 _ _ hD)) (by rw [el2]; show some (if t.2.2 < v then t.2.2 else v) = _; rw [if_pos c]) k3 nk3
            exact ⟨D, _, rfl, DPut.t (k := keyE t.1 t.2.1) ((same_upd nk3) _ _ (s2 _ _ (s1 _ _ hD))) upd_same hz, h1, _, _, _, _, upd_same, h2, h3, rfl⟩
          · have c : ¬ t.2.2 < v := of_decide_eq_false (Bool.eq_false_iff.mpr c)
            exact ⟨sm1.trans s2, kvs, _, _, _, s2 _ _ (s1 _ _ hD), kv.stay et (by rw [el2]; show some (if t.2.2 < v then t.2.2 else v) = _; rw [if_neg c]), Nat.le_succ_of_le kl, rfl⟩
      · rintro σ H2 ⟨sm, kvs, y1, y2, y3, hD, kv, kl, rfl⟩
        rw [el, List.take_length] at kv
        rw [el] at kl
        exact ⟨_, rfl, q _ D kvs nD sm hD kv kl⟩
end
end TK

namespace TK
open PySem PySem.Spec PyProof.Rows L2
abbrev s_Tolls_init : Stmt := inClass (topS 22) 0
theorem sc_Tolls_init : FnScope ["self", "names", "entries"] ["self", "names", "entries"] (defScope s_Tolls_init) := ⟨rfl, rfl, rfl, by decide +kernel, rfl, by decide +kernel, by decide +kernel⟩
abbrev s_Tolls_getitem : Stmt := inClass (topS 22) 2
theorem sc_Tolls_getitem : FnScope ["self", "at", "giver", "taker"] ["self", "at"] (defScope s_Tolls_getitem) := ⟨rfl, rfl, rfl, by decide +kernel, rfl, by decide +kernel, by decide +kernel⟩
abbrev s_Tolls_entries : Stmt := inClass (topS 22) 10
theorem sc_Tolls_entries : FnScope ["self", "giver", "taker"] ["self"] (defScope s_Tolls_entries) := ⟨rfl, rfl, rfl, by decide +kernel, rfl, by decide +kernel, by decide +kernel⟩
structure NsOk (zs : List Nam) : Prop where
  nm : ∀ z ∈ zs, NmH z
  nd : zs.Nodup
  l1 : 1 ≤ zs.length
  l6 : zs.length ≤ 6
theorem putF_len (f : Str) (v : V) : ∀ fs : List (Str × V), (putF f v fs).length ≤ fs.length + 1
  | [] => Nat.le_refl _
  | (g, x) :: r => by
    show (if g = f then _ else _ : List (Str × V)).length ≤ _
    split
    · exact Nat.le_succ _
    · exact Nat.succ_le_succ (putF_len f v r)
def fldsT (a d : Addr) : List (Str × V) := putF "_prices" (.ref d) (putF "names" (.ref a) [])
theorem fldsT_names (a b : Addr) : (fldsT a b).lookup ("names" : Str) = some (.ref a) := by
  unfold fldsT
  rw [lookup_putF, if_neg (by decide +kernel), lookup_putF, if_pos rfl]
theorem fldsT_prices (a b : Addr) : (fldsT a b).lookup ("_prices" : Str) = some (.ref b) := by
  unfold fldsT
  rw [lookup_putF, if_pos rfl]
structure TxtT (K : PySem.W.Frag) (C : Addr) : Prop where
  cl : Cls K C
  nN : NoAttr K C "names"
  nP : NoAttr K C "_prices"
def TkAt (K : PySem.W.Frag) (C : Addr) (H : Hp) (p : Addr) (zs : List Nam) (ts : List Tie) : Prop := ∃ dx a d kvs, H p = some (.ins C dx (fldsT a d)) ∧ TL H a (zs.map vN) ∧ H d = some (.dT kvs) ∧ KvE kvs ts ∧ kvs.length ≤ ts.length
theorem TkAt.same {K : PySem.W.Frag} {C : Addr} {H H' : Hp} {p : Addr} {zs : List Nam} {ts : List Tie} (h : TkAt K C H p zs ts) (s : Same H H') : TkAt K C H' p zs ts := by
  obtain ⟨dx, a, d, kvs, h1, h2, h3, h4, h5⟩ := h
  exact ⟨dx, a, d, kvs, s _ _ h1, h2.elim (fun h => .inl (s _ _ h)) (fun ⟨o, h⟩ => .inr ⟨o, s _ _ h⟩), s _ _ h3, h4, h5⟩
section
variable {P : Program} {w : World} {K : PySem.W.Frag} {mg : Str → Option Value} {base : Heap}
/-! Tolls[..] -/
def spGetT (K : PySem.W.Frag) (C : Addr) : Sp := fun vs H Q _ => ∃ (p k : Addr) (zs : List Nam) (ts : List Tie) (x y : Nam), vs = [.ref p, .ref k] ∧ TkAt K C H p zs ts ∧ H k = some (.tup [vN x, vN y]) ∧ x ∈ zs ∧ y ∈ zs ∧ ∀ H', Same H H' → Q (capI (leastE ts x y)) H'
theorem ok_Tolls_getitem {f C : Addr} {fd : FuncData} (F : Fun K "__getitem__" "Tolls.__getitem__" s_Tolls_getitem f fd) (T : TxtT K C) (d_check_known : Def P w K mg base "check_known" 1 ["names", "known"] (spKnown K)) :
    FnOk P w K mg base CX0 2 f fd ["self", "at"] (spGetT K C) := by
  refine F.ok sc_Tolls_getitem (fun vs H Q E h => ?_) (fun cdv A outer s H vs Q E hr h => ?_)
  · obtain ⟨p, k, zs, ts, x, y, rfl, _⟩ := h
    rfl
  · obtain ⟨p, k, zs, ts, x, y, rfl, tk, hk, hx, hy, q⟩ := h
    obtain ⟨dx, a, d, kvs, hp, ha, hd, kv, kl⟩ := id tk
    refine ⟨_, (pss_cons (ps_asg (pv 1) (pg_tup (by rfl) (pgs_cons (pg_name (i := 2) sc_Tolls_getitem.nd rfl (.inl rfl)) (pgs_cons (pg_name (i := 3) sc_Tolls_getitem.nd rfl (.inl rfl)) pgs_nil))))
  (pss_cons (ps_expr (pe_callD d_check_known (hr.mono (by decide)) (by rfl) (pa_cons (pe_lst (pa_cons (pv 2) (pa_cons (pv 3) pa_nil))) (pa_cons (pe_fld (pv 0) rfl) pa_nil))))
  (pss_one (ps_ret (pe_dget1 (hu_of hr) (pe_fld (pv 0) rfl) (pe_tup (pa_cons (pv 2) (pa_cons (pv 3) pa_nil))) ⟨rfl, by rfl, by rfl, rfl⟩))))), ?_⟩
    refine ⟨_, rfl, _, _, rfl, tupAt hk, rfl, _, _, rfl, _, _, rfl, rfl, ?_⟩
    refine ⟨_, rfl, _, rfl, (show (2 : Nat) ≤ sizeLine by decide), fun l nl => ?_⟩
    have s1 := same_upd (o := .lst [vN x, vN y]) nl
    refine ⟨_, rfl, p, C, dx, _, _, rfl, s1 _ _ hp, T.cl, T.nN, fldsT_names _ _, l, a, [x, y], zs, rfl, .inl (lstAt upd_same), .inr (same_tup s1 ha.sq), ?_, ?_⟩
    · intro z hz
      rcases List.mem_cons.mp hz with rfl | hz
      · exact hx
      · rw [List.mem_singleton.mp hz]; exact hy
    refine ⟨_, rfl, p, C, dx, _, _, rfl, s1 _ _ hp, T.cl, T.nP, fldsT_prices _ _, d, rfl, .inr ⟨kvs, .inl (s1 _ _ hd)⟩, _, rfl, _, rfl, (show (2 : Nat) ≤ sizeLine by decide), fun k2 nk2 => ?_⟩
    have s2 := same_upd (o := .tup [vN x, vN y]) nk2
    refine ⟨_, DGet.t (k := keyE x y) (s2 _ _ (s1 _ _ hd)) upd_same, ?_⟩
    have := q _ (s1.trans s2)
    rw [kv.at_]
    cases e : leastE ts x y with
    | none => rw [e] at this; exact this
    | some v => rw [e] at this; exact this
/-! Tolls.__init__ -/
def spInitT (K : PySem.W.Frag) (C : Addr) : Sp := fun vs H Q _ => ∃ (p a b dx : Addr) (zs : List Nam) (es : List Addr) (ts : List Tie), vs = [.ref p, .ref a, .ref b] ∧ H p = some (.ins C dx []) ∧ (SqL K H a (zs.map vN) ∨ TL H a (zs.map vN)) ∧ SqS K H b (es.map V.ref) ∧ TiesAt H es ts ∧ NsOk zs ∧ EOk zs ts ∧ ts.length ≤ 10000 ∧
  ∀ H', TkAt K C H' p zs ts → (∀ c o, H c = some o → c ≠ p → H' c = some o) → Q .non H'
end
end TK

namespace TK
open PySem PySem.Spec PyProof.Rows L2
theorem rd_frame {H H' : Hp} {a p : Addr} {o ins : HO} (h : Rd H a o) (hp : H p = some ins) (n1 : o ≠ ins) (n2 : ∀ ob, HO.frz ob o ≠ ins) (f : ∀ c x, H c = some x → c ≠ p → H' c = some x) : Rd H' a o := by
  rcases h with h | ⟨ob, h⟩
  · exact .inl (f _ _ h (ne_of h hp n1))
  · exact .inr ⟨ob, f _ _ h (ne_of h hp (n2 ob))⟩
theorem sqT_frame {K : PySem.W.Frag} {H H' : Hp} {a p C dx : Addr} {fs : List (Str × V)} {xs : List V} (h : SqT K H a xs) (hp : H p = some (.ins C dx fs)) (f : ∀ c x, H c = some x → c ≠ p → H' c = some x) : SqT K H' a xs := by
  rcases h with h | h
  · exact .inl (rd_frame h hp (by intro z; cases z) (by intro _ z; cases z) f)
  · exact .inr h
theorem sqS_frame {K : PySem.W.Frag} {H H' : Hp} {a p C dx : Addr} {fs : List (Str × V)} {xs : List V} (h : SqS K H a xs) (hp : H p = some (.ins C dx fs)) (f : ∀ c x, H c = some x → c ≠ p → H' c = some x) : SqS K H' a xs := by
  rcases h with h | h
  · rcases h with h | h
    · exact .inl (.inl (rd_frame h hp (by intro z; cases z) (by intro _ z; cases z) f))
    · exact .inl (.inr h)
  · exact .inr (sqT_frame h hp f)
theorem TL.same {H H' : Hp} {a : Addr} {xs : List V} (h : TL H a xs) (s : Same H H') : TL H' a xs := h.elim (fun h => .inl (s _ _ h)) (fun ⟨o, h⟩ => .inr ⟨o, s _ _ h⟩)
theorem tl_frame {H H' : Hp} {a p C dx : Addr} {fs : List (Str × V)} {xs : List V} (h : TL H a xs) (hp : H p = some (.ins C dx fs)) (f : ∀ c x, H c = some x → c ≠ p → H' c = some x) : TL H' a xs := rd_frame h hp (by intro z; cases z) (by intro _ z; cases z) f
section
variable {P : Program} {w : World} {K : PySem.W.Frag} {mg : Str → Option Value} {base : Heap}
theorem ok_Tolls {f C : Addr} {fd : FuncData} {dvs : List V} {kws : List (Str × V)} (F : FunD K "__init__" "Tolls.__init__" (defArgs s_Tolls_init) (defBody s_Tolls_init) (defScope s_Tolls_init) dvs kws f fd) (T : TxtT K C) (m_tuple : mg "tuple" = none)
    (d_check_names : DefD P w K mg base "check_names" 2 ["names", "most", "hook"] (spCheckH K) []) (d_check_entries : Def P w K mg base "_check_entries" 2 ["names", "entries"] (spCheckE K)) (d_least_tolls : Def P w K mg base "_least_tolls" 1 ["entries"] (spLeastT K)) :
    FnOk P w K mg base CX0 3 f fd ["self", "names", "entries"] (spInitT K C) := by
  refine F.ok (CX := CX0) sc_Tolls_init (fun vs H Q E h => ?_) (fun cdv A outer s H vs Q E hr h => ?_)
  · obtain ⟨p, a, b, dx, zs, es, ts, rfl, _⟩ := h
    rfl
  · obtain ⟨p, a, b, dx, zs, es, ts, rfl, hp, hA, hB, hT, nok, eok, l4, q⟩ := h
    have l6 := nok.l6
    refine ⟨_, PSs.nox (pss_cons (ps_expr (pe_callDD d_check_names (hr.mono (by decide)) (by rfl) (pa_cons (pv 1) (pa_cons pe_int (pa_cons pe_bl pa_nil)))))
  (pss_cons (ps_expr (pe_callD d_check_entries (hr.mono (by decide)) (by rfl) (pa_cons (pv 1) (pa_cons (pv 2) pa_nil))))
  (pss_cons (ps_fld (pv 0) (pe_callTy call_tuple_of (by rfl) m_tuple (by decide +kernel) (pa_cons (pv 1) pa_nil)) rfl)
  (pss_one (ps_fld (pv 0) (pe_callD d_least_tolls (hr.mono (by decide)) (by rfl) (pa_cons (pv 2) pa_nil)) rfl))))), ?_⟩
    have hS : SqS K H a (zs.map vN) := hA.elim .inl fun h => .inr h.sq
    refine ⟨_, rfl, a, 6, zs, rfl, hS, nok.l1, by omega, l6, nok.nm, nok.nd, fun H1 s1 => ?_⟩
    refine ⟨_, rfl, _, rfl, a, b, zs, es, ts, rfl, hS.same s1, hB.same s1, hT.same s1, eok, fun H2 s2 => ?_⟩
    have s12 := s1.trans s2
    refine ⟨_, rfl, a, zs.map vN, rfl, ?_⟩
    rcases hA with hL | hU
    · refine .inl ⟨s12.seq hL, fun l nl => ?_⟩
      have s3 := s12.trans (same_upd (o := .tup (zs.map vN)) nl)
      have hl3 : TL (upd H2 l (.tup (zs.map vN))) l (zs.map vN) := .inl upd_same
      have hp3 := s3 _ _ hp
      refine ⟨_, rfl, p, C, dx, [], rfl, hp3, T.cl, T.nN, by decide, ?_⟩
      generalize eH3 : (upd H2 l (.tup (zs.map vN)) : Hp) = H3 at s3 hp3 hl3 ⊢
      clear eH3
      have f4 : ∀ (fs : List (Str × V)) c x, H3 c = some x → c ≠ p → (upd H3 p (.ins C dx fs)) c = some x := fun fs c x e n => by rw [upd_ne n]; exact e
      have hB4 := sqS_frame (hB.same s3) hp3 (f4 (putF "names" (.ref l) []))
      have hT4 : TiesAt (upd H3 p (.ins C dx (putF "names" (.ref l) []))) es ts := ⟨hT.1, fun i e he => by
        obtain ⟨t, h1, h2⟩ := hT.2 i e he
        exact ⟨t, h1, f4 _ _ _ (s3 _ _ h2) (ne_of (s3 _ _ h2) hp3 (by intro z; cases z))⟩⟩
      refine ⟨_, rfl, b, es, ts, rfl, hB4, hT4, l4, fun H5 d kvs nd5 s5 ed kv kl => ?_⟩
      have hp5 := s5 _ _ upd_same
      have dp : d ≠ p := (ne_of_none upd_same nd5).symm
      refine ⟨_, rfl, p, C, dx, _, rfl, hp5, T.cl, T.nP, Nat.lt_of_le_of_lt (putF_len _ _ _) (by decide), ?_⟩
      have f6 : ∀ c x, H3 c = some x → c ≠ p → (upd H5 p (.ins C dx (putF "_prices" (.ref d) (putF "names" (.ref l) [])))) c = some x := fun c x e n => by rw [upd_ne n]; exact s5 _ _ (f4 _ c x e n)
      exact q _ ⟨dx, l, d, kvs, upd_same, tl_frame hl3 hp3 f6, by rw [upd_ne dp]; exact ed, kv, kl⟩ fun c x e n => f6 c x (s3 _ _ e) n
    · refine .inr ⟨(hU.same s12).sq, ?_⟩
      have s3 := s12
      have hl3 := hU.same s12
      have hp3 := s3 _ _ hp
      refine ⟨_, rfl, p, C, dx, [], rfl, hp3, T.cl, T.nN, by decide, ?_⟩
      generalize eH3 : (H2 : Hp) = H3 at s3 hp3 hl3 ⊢
      clear eH3
      have f4 : ∀ (fs : List (Str × V)) c x, H3 c = some x → c ≠ p → (upd H3 p (.ins C dx fs)) c = some x := fun fs c x e n => by rw [upd_ne n]; exact e
      have hB4 := sqS_frame (hB.same s3) hp3 (f4 (putF "names" (.ref a) []))
      have hT4 : TiesAt (upd H3 p (.ins C dx (putF "names" (.ref a) []))) es ts := ⟨hT.1, fun i e he => by
        obtain ⟨t, h1, h2⟩ := hT.2 i e he
        exact ⟨t, h1, f4 _ _ _ (s3 _ _ h2) (ne_of (s3 _ _ h2) hp3 (by intro z; cases z))⟩⟩
      refine ⟨_, rfl, b, es, ts, rfl, hB4, hT4, l4, fun H5 d kvs nd5 s5 ed kv kl => ?_⟩
      have hp5 := s5 _ _ upd_same
      have dp : d ≠ p := (ne_of_none upd_same nd5).symm
      refine ⟨_, rfl, p, C, dx, _, rfl, hp5, T.cl, T.nP, Nat.lt_of_le_of_lt (putF_len _ _ _) (by decide), ?_⟩
      have f6 : ∀ c x, H3 c = some x → c ≠ p → (upd H5 p (.ins C dx (putF "_prices" (.ref d) (putF "names" (.ref a) [])))) c = some x := fun c x e n => by rw [upd_ne n]; exact s5 _ _ (f4 _ c x e n)
      exact q _ ⟨dx, a, d, kvs, upd_same, tl_frame hl3 hp3 f6, by rw [upd_ne dp]; exact ed, kv, kl⟩ fun c x e n => f6 c x (s3 _ _ e) n
/-! entries -/
def cellE (ts : List Tie) (x y : Nam) : Option Tie := (leastE ts x y).map fun v => (x, y, v)
def listE (zs : List Nam) (ts : List Tie) : List Tie := zs.flatMap fun x => zs.filterMap (cellE ts x)
def spEntries (K : PySem.W.Frag) (C : Addr) : Sp := fun vs H Q _ => ∃ (p : Addr) (zs : List Nam) (ts : List Tie), vs = [.ref p] ∧ TkAt K C H p zs ts ∧ zs.length ≤ 6 ∧
  ∀ H' q es, H q = none → Same H H' → H' q = some (.lst (es.map V.ref)) → TiesAt H' es (listE zs ts) → es.length ≤ 36 → Q (.ref q) H'
theorem fm_snoc {α β : Type} {f : α → Option β} {xs : List α} {i : Nat} {x : α} (h : xs[i]? = some x) : (xs.take (i + 1)).filterMap f = (xs.take i).filterMap f ++ (f x).toList := by
  rw [List.take_add_one, h, List.filterMap_append]
  cases e : f x <;> simp [e]
theorem ok_Tolls_entries {f C : Addr} {fd : FuncData} (F : Fun K "entries" "Tolls.entries" s_Tolls_entries f fd) (T : TxtT K C) : FnOk P w K mg base CX0 1 f fd ["self"] (spEntries K C) := by
  refine F.ok sc_Tolls_entries (fun vs H Q E h => ?_) (fun cdv A outer s H vs Q E hr h => ?_)
  · obtain ⟨p, zs, ts, rfl, _⟩ := h
    rfl
  · obtain ⟨p, zs, ts, rfl, tk, l6, q⟩ := h
    obtain ⟨dx, a, d, kvs, hp, ha, hd, kv, kl⟩ := id tk
    have zl : (zs.map vN).length = zs.length := List.length_map ..
    refine ⟨_, (pss_one (ps_ret (pe_lc2 (own := [("giver", 1), ("taker", 2)]) (vs1 := [2]) (by rfl) sc_Tolls_entries.nd (pi_tup (pe_fld (pv 0) rfl)) (blkOk_by (N := ["self", "giver", "taker"]) (sc := defScope s_Tolls_entries) (by decide +kernel)) (by decide) (fun _ _ _ _ _ => (pg_name (i := 1) sc_Tolls_entries.nd rfl (.inl rfl))) (fun _ _ _ _ _ => pts_nil) (fun _ _ _ _ _ => (pi_tupK (K := K) rfl (pe_fldK (K := K) rfl (pv 0) rfl))) (fun _ _ _ _ _ => (pg_name (i := 2) sc_Tolls_entries.nd rfl (.inl rfl))) (fun _ _ _ _ _ => (pts_one (pt_cmp (pc_din (hu_of hr) (pe_tup (pa_cons (pv 1) (pa_cons (pv 2) pa_nil))) (pe_fldK (K := K) rfl (pv 0) rfl))))) (fun _ _ _ _ _ => (pe_tup (pa_cons (pv 1) (pa_cons (pv 2) (pa_cons (pe_dget (hu_of hr) (pe_fldK (K := K) rfl (pv 0) rfl) (pe_tup (pa_cons (pv 1) (pa_cons (pv 2) pa_nil))) (fun _ _ => rfl)) pa_nil)))))))), ?_⟩
    refine ⟨_, rfl, p, C, dx, _, _, rfl, hp, T.cl, T.nN, fldsT_names _ _, a, rfl, ⟨_, ha.sq⟩, fun D nD => ?_⟩
    refine walk_go (walk_tup (K := K) (a := a) (xs := zs.map vN)) (fun i H' => ∃ es : List Addr, Same H H' ∧ H' D = some (.lst (es.map V.ref)) ∧ TiesAt H' es ((zs.take i).flatMap fun x => zs.filterMap (cellE ts x)) ∧ es.length ≤ 6 * i) ⟨[], same_upd nD, upd_same, ⟨rfl, fun _ _ h => nomatch h⟩, Nat.le_refl _⟩ (fun i H' _ hq => same_tup hq.choose_spec.1 ha.sq) (fun i x H1 H2 hi hq hy => ?_) (fun H' hq => ?_)
    · obtain ⟨es, s1, eD, hT, l1⟩ := hq
      obtain ⟨rfl, hx⟩ := hy
      obtain ⟨z, ez, rfl⟩ := vN_at hx
      have hi6 : i < 6 := by have := (List.getElem?_eq_some_iff.mp ez).1; omega
      refine ⟨rfl, yesT ⟨_, rfl, p, C, dx, _, _, rfl, s1 _ _ hp, T.cl, T.nN, fldsT_names _ _, a, rfl, ⟨_, same_tup s1 ha.sq⟩, ?_⟩⟩
      refine walk_go (walk_tup (K := K) (a := a) (xs := zs.map vN)) (fun j H' => ∃ es : List Addr, Same H H' ∧ H' D = some (.lst (es.map V.ref)) ∧ TiesAt H' es (((zs.take i).flatMap fun x => zs.filterMap (cellE ts x)) ++ (zs.take j).filterMap (cellE ts z)) ∧ es.length ≤ 6 * i + j) ⟨es, s1, eD, by rw [List.take_zero, List.filterMap_nil, List.append_nil]; exact hT, by omega⟩ (fun j H' _ hq => same_tup hq.choose_spec.1 ha.sq) (fun j x H3 H4 hj hq hy => ?_) (fun H' hq => ?_)
      · obtain ⟨es, s3, eD3, hT3, l3⟩ := hq
        obtain ⟨rfl, hx2⟩ := hy
        obtain ⟨y, ey, rfl⟩ := vN_at hx2
        have hj6 : j < 6 := by have := (List.getElem?_eq_some_iff.mp ey).1; omega
        refine ⟨rfl, _, rfl, _, rfl, (show (2 : Nat) ≤ sizeLine by decide), fun k nk => ?_⟩
        have sk := same_upd (o := .tup [vN z, vN y]) nk
        have s4 := s3.trans sk
        refine ⟨_, rfl, p, C, dx, _, _, rfl, s4 _ _ hp, T.cl, T.nP, fldsT_prices _ _, d, _, rfl, kv.at_ z y ▸ DGet.t (k := keyE z y) (s4 _ _ hd) upd_same, _, rfl, ?_⟩
        rw [fm_snoc ey]
        cases e : leastE ts z y with
        | none =>
          refine iteF ⟨es, s4, sk _ _ eD3, ?_, by omega⟩
          rw [show cellE ts z y = none by unfold cellE; rw [e]; rfl]
          show TiesAt _ es (_ ++ (_ ++ []))
          rw [List.append_nil]
          exact hT3.same sk
        | some v =>
          refine iteT ?_
          refine ⟨_, rfl, _, rfl, _, rfl, p, C, dx, _, _, rfl, s4 _ _ hp, T.cl, T.nP, fldsT_prices _ _, _, rfl, _, rfl, (show (2 : Nat) ≤ sizeLine by decide), fun k2 nk2 => ?_⟩
          have sk2 := same_upd (o := .tup [vN z, vN y]) nk2
          have g2 : DGet (upd (upd H4 k (.tup [vN z, vN y])) k2 (.tup [vN z, vN y])) d (.ref k2) (some (V.int v)) := by
            have := DGet.t (k := keyE z y) (sk2 _ _ (s4 _ _ hd)) upd_same
            rw [kv.at_, e] at this
            exact this
          refine ⟨d, _, rfl, g2, (show (3 : Nat) ≤ sizeLine by decide), fun t nt => ?_⟩
          have st := same_upd (o := .tup [vN z, vN y, .int v]) nt
          have s5 := (s4.trans sk2).trans st
          have skt := (sk.trans sk2).trans st
          have eD5 := skt _ _ eD3
          refine ⟨_, eD5, by rw [List.length_map]; exact small1000 (by omega), es ++ [t], same_at s5 nD, by rw [List.map_append]; exact upd_same, ?_, by rw [List.length_append]; simp only [List.length_singleton]; omega⟩
          rw [show cellE ts z y = some (z, y, v) by unfold cellE; rw [e]; rfl, ← List.append_assoc]
          have tD : t ≠ D := (ne_of_none ((sk.trans sk2) _ _ eD3) nt).symm
          refine TiesAt.snoc (H := upd (upd (upd (upd H4 k (.tup [vN z, vN y])) k2 (.tup [vN z, vN y])) t (.tup [vN z, vN y, .int v])) D (.lst (es.map V.ref ++ [.ref t]))) ⟨hT3.1, fun m e he => ?_⟩ (Same.refl _) ?_
          · obtain ⟨t', h1, h2⟩ := hT3.2 m e he
            have h3 := skt _ _ h2
            exact ⟨t', h1, by show _ = _; rw [upd_ne (ne_of h3 eD5 (by intro z; cases z))]; exact h3⟩
          · show _ = _
            rw [upd_ne tD]; exact upd_same
      · obtain ⟨es, s3, eD3, hT3, l3⟩ := hq
        rw [zl, List.take_length] at hT3
        rw [zl] at l3
        refine ⟨es, s3, eD3, ?_, by omega⟩
        rw [List.take_add_one, ez, List.flatMap_append]
        show TiesAt H' es (_ ++ List.flatMap _ [z])
        rw [List.flatMap_singleton]
        exact hT3
    · obtain ⟨es, s1, eD, hT, l1⟩ := hq
      rw [zl, List.take_length] at hT
      exact q _ D es nD s1 eD hT (by rw [zl] at l1; omega)
end
end TK

namespace TK
open PySem PySem.Spec PyProof.Rows L2
theorem nd_len {p zs : List Nam} (h : p.Nodup) (s : ∀ w ∈ p, w ∈ zs) : p.length ≤ zs.length := by
  induction p generalizing zs with
  | nil => exact Nat.zero_le _
  | cons a p ih =>
    have ha := s a List.mem_cons_self
    obtain ⟨n1, n2⟩ := List.nodup_cons.mp h
    have := ih (zs := zs.erase a) n2 fun w hw => (List.mem_erase_of_ne (fun e => n1 (by rw [← e]; exact hw))).mpr (s w (List.mem_cons_of_mem _ hw))
    rw [List.length_erase_of_mem ha] at this
    have hp : 0 < zs.length := List.length_pos_of_mem ha
    simp only [List.length_cons]
    omega
theorem none_of {H H' : Hp} {p : Addr} (s : Same H H') (n : H' p = none) : H p = none := by
  cases e : H p with
  | none => rfl
  | some o => rw [s _ _ e] at n; cases n
theorem letters_nd : ((List.range 26).map fun j => [97 + j]).Nodup := nodup_range fun k j _ _ e => by
  have := List.cons.inj e
  omega
section
variable {P : Program} {w : World} {K : PySem.W.Frag} {mg : Str → Option Value} {base : Heap}
/-! _law_strange -/
def spStrange (K : PySem.W.Frag) : Sp := fun vs H Q _ => ∃ (a : Addr) (zs : List Nam), vs = [.ref a] ∧ SqL K H a (zs.map vN) ∧ zs.length ≤ 25 ∧ ∀ n : Nat, n < 26 → [97 + n] ∉ zs → Q (vN [97 + n]) H
theorem ok_L_strange {f : Addr} {fd : FuncData} (F : Fun K "_law_strange" "_law_strange" s_L_strange f fd) : FnOk P w K mg base CX0 1 f fd ["_law_words_here"] (spStrange K) := by
  refine F.ok sc_L_strange (fun vs H Q E h => ?_) (fun cdv A outer s H vs Q E hr h => ?_)
  · obtain ⟨a, zs, rfl, _⟩ := h
    rfl
  · obtain ⟨a, zs, rfl, hS, l25, q⟩ := h
    refine ⟨_, (pss_cons (ps_for PassesOwn.never rfl (pi_str pe_str) (pg_name (i := 1) sc_L_strange.nd rfl (.inl rfl))
    (pss_one (ps_if (pt_cmpR op_notIn_seq (pv 1) (pv 0) (by rfl)) (pss_one (ps_ret (pv 1))) pss_nil)))
  (pss_one (ps_ret pe_str))), ?_⟩
    refine ⟨_, rfl, for_it (walk_str (z := lettersZ)) (fun i σ H' => H' = H ∧ (∃ y, σ = [some (.ref a), y]) ∧ ∀ j, j < i → [97 + j] ∈ zs) ⟨rfl, ⟨_, rfl⟩, fun _ h => nomatch h⟩ (fun _ _ _ _ _ => True.intro) ?_ ?_⟩
    · rintro i x σ H1 H2 hi ⟨rfl, ⟨y, rfl⟩, hj⟩ ⟨rfl, c, hc, rfl⟩
      have hi26 : i < 26 := by have := letters_len; have e : lettersZ.cps.size = 26 := this; omega
      have hc' : c = 97 + i := by
        have e : lettersZ.cps.toList[i]? = some c := by rw [Array.getElem?_toList]; exact hc
        rw [letters_codes, List.getElem?_map, List.getElem?_range hi26] at e
        exact (Option.some.inj e).symm
      subst hc'
      have e : (if true = true then !inV (V.str ⟨#[97 + i]⟩) (zs.map vN) else inV (V.str ⟨#[97 + i]⟩) (zs.map vN)) = !decide ([97 + i] ∈ zs) := notin_nm (z := [97 + i])
      refine ⟨_, rfl, _, rfl, a, _, rfl, .inl hS, rfl, nms_flat _, _, rfl, ?_⟩
      rw [e]
      by_cases h : [97 + i] ∈ zs
      · rw [decide_eq_true h]
        refine iteF ⟨rfl, ⟨_, rfl⟩, fun j hj' => ?_⟩
        rcases Nat.lt_succ_iff_lt_or_eq.mp hj' with q1 | rfl
        · exact hj j q1
        · exact h
      · rw [decide_eq_false h]
        exact iteT ⟨_, rfl, q i hi26 h⟩
    · rintro σ H1 ⟨rfl, ⟨y, rfl⟩, hj⟩
      have e26 : lettersZ.cps.size = 26 := letters_len
      have := nd_len letters_nd (zs := zs) (fun w hw => by
        obtain ⟨j, hj1, rfl⟩ := List.mem_map.mp hw
        exact hj j (by rw [e26]; exact List.mem_range.mp hj1))
      rw [List.length_map, List.length_range] at this
      omega
/-! _law_words -/
def spWords : Sp := fun vs H Q _ => ∃ (c n : Int), vs = [.int c, .int n] ∧ 1 ≤ n ∧ n ≤ 6 ∧
  ∀ (H' : Hp) (p : Addr) (zs : List Nam), H p = none → Same H H' → H' p = some (.lst (zs.map vN)) → (zs.length : Int) = n → (∀ z ∈ zs, Nm z) → zs.Nodup → Q (.ref p) H'
theorem ok_L_words {f : Addr} {fd : FuncData} (F : Fun K "_law_words" "_law_words" s_L_words f fd) (m_range : mg "range" = none) (m_abs : mg "abs" = none)
    (d_L_names : Def P w K mg base "_law_names" 2 ["_law_pool_here", "_law_spot", "_law_number"] (spNames K)) (d_L_pool : Def P w K mg base "_law_pool" 2 ["_law_cell_here", "_law_number"] spPool)
    (d_L_strange : Def P w K mg base "_law_strange" 1 ["_law_words_here"] (spStrange K)) : FnOk P w K mg base CX0 3 f fd ["_law_cell_here", "_law_number"] spWords := by
  refine F.ok sc_L_words (fun vs H Q E h => ?_) (fun cdv A outer s H vs Q E hr h => ?_)
  · obtain ⟨c, n, rfl, _⟩ := h
    rfl
  · obtain ⟨c, n, rfl, h1, h6, q⟩ := h
    have ha : 0 ≤ (if c < 0 then -c else c) := by split <;> omega
    refine ⟨_, (pss_cons (ps_set (i := 2) sc_L_words.nd rfl (.inl rfl) pe_str)
  (pss_cons (ps_set (i := 3) sc_L_words.nd rfl (.inl rfl) (pe_callB call_abs (by rfl) m_abs (by decide +kernel) (pa_cons (pv 0) pa_nil)))
  (pss_cons (ps_if (pt_cmpR op_lt (pv 3) (pe_op op_pow pe_int pe_int) (nomark _)) (pss_one (ps_ret (pe_callD d_L_names (hr.mono (by decide)) (by rfl) (pa_cons (pe_callD d_L_pool (hr.mono (by decide)) (by rfl) (pa_cons (pv 0) (pa_cons pe_int pa_nil))) (pa_cons pe_int (pa_cons (pv 1) pa_nil)))))) pss_nil)
  (pss_cons (ps_set (i := 4) sc_L_words.nd rfl (.inl rfl) (pe_lst pa_nil))
  (pss_cons (ps_for PassesOwn.never rfl (pi_range1 (by rfl) m_range (pa_cons (pv 1) pa_nil)) (pg_name (i := 5) sc_L_words.nd rfl (.inl rfl))
    (pss_cons (ps_set (i := 6) sc_L_words.nd rfl (.inl rfl) (pe_op op_add pe_int (pe_op op_mod (pv 3) pe_int)))
  (pss_cons (ps_set (i := 3) sc_L_words.nd rfl (.inl rfl) (pe_op op_fdiv (pv 3) pe_int))
  (pss_cons (ps_set (i := 7) sc_L_words.nd rfl (.inl rfl) pe_str)
  (pss_cons (ps_for PassesOwn.never rfl (pi_range1 (by rfl) m_range (pa_cons (pv 6) pa_nil)) (pg_name (i := 8) sc_L_words.nd rfl (.inl rfl))
    (pss_cons (ps_set (i := 7) sc_L_words.nd rfl (.inl rfl) (pe_op op_add_str (pv 7) (pe_ix ix_str (pv 2) (pe_op op_mod (pv 3) pe_int) (fun _ _ => rfl))))
  (pss_one (ps_set (i := 3) sc_L_words.nd rfl (.inl rfl) (pe_op op_fdiv (pv 3) pe_int)))))
  (pss_cons (ps_if (pt_cmpR op_in_seq (pv 7) (pv 4) (by rfl)) (pss_one (ps_set (i := 7) sc_L_words.nd rfl (.inl rfl) (pe_callD d_L_strange (hr.mono (by decide)) (by rfl) (pa_cons (pv 4) pa_nil)))) pss_nil)
  (pss_one (ps_expr (pe_bm PySem.F.plainAttrs_list PySem.F.slot_list_append PySem.F.type_list_append mt_append (pv 4) (pa_cons (pv 7) pa_nil))))))))))
  (pss_one (ps_ret (pv 4)))))))), ?_⟩
    refine ⟨_, rfl, _, rfl, _, rfl, _, _, rfl, rfl, ⟨by decide, by decide, by decide⟩, _, _, rfl, rfl, _, rfl, ite2 (fun e => ?_) (fun e => ?_)⟩
    · refine ⟨_, rfl, c, 5, rfl, by decide, by decide, fun p ns np hl hx => ?_⟩
      refine ⟨_, rfl, p, ns, 0, n, rfl, lstAt upd_same, by decide, by omega, by omega, h6, fun p2 zs np2 hl2 nm nd => ?_⟩
      exact q _ p2 zs (none_of (same_upd np) np2) ((same_upd np).trans (same_upd np2)) upd_same hl2 nm nd
    refine ⟨Nat.zero_le _, fun p np => ?_⟩
    refine ⟨_, rfl, _, rfl, by omega, by omega, for_range (fun i σ H' => ∃ (r : Int) (zs : List Nam) (y1 y2 y3 y4 : Option V), σ = [some (.int c), some (.int n), some (.str lettersZ), some (.int r), some (.ref p), y1, y2, y3, y4] ∧ 0 ≤ r ∧ zs.length = i ∧ (∀ z ∈ zs, Nm z) ∧ zs.Nodup ∧ H' = upd H p (.lst (zs.map vN))) ⟨_, [], _, _, _, _, rfl, ha, rfl, (fun x hx => nomatch hx), List.nodup_nil, rfl⟩ ?_ ?_⟩
    · rintro i σ H' hi ⟨r, zs, y1, y2, y3, y4, rfl, r0, hl, nm, nd, rfl⟩
      have m0 : 0 ≤ r % 8 := Int.emod_nonneg _ (by decide)
      have m8 : r % 8 < 8 := Int.emod_lt_of_pos _ (by decide)
      have d0 : 0 ≤ r / 8 := Int.ediv_nonneg r0 (by decide)
      refine ⟨_, rfl, _, _, rfl, rfl, pz, _, _, rfl, rfl, ?_⟩
      refine ⟨_, rfl, _, _, rfl, rfl, ⟨by decide, by decide⟩, ?_⟩
      refine ⟨_, rfl, _, rfl, by omega, by omega, for_range (fun j σ H' => ∃ (r' : Int) (st : List Nat) (y4 : Option V), σ = [some (.int c), some (.int n), some (.str lettersZ), some (.int r'), some (.ref p), some (.int (0 + (i : Int))), some (.int (1 + r % 8)), some (vN st), y4] ∧ 0 ≤ r' ∧ st.length = j ∧ Let st ∧ H' = upd H p (.lst (zs.map vN))) ⟨_, [], _, rfl, d0, rfl, (fun x hx => nomatch hx), rfl⟩ ?_ ?_⟩
      · rintro j σ H' hj ⟨r', st, y4, rfl, r0', hl', le, rfl⟩
        have b1 : 0 ≤ r' % 26 := Int.emod_nonneg _ (by decide)
        have b2 : r' % 26 < 26 := Int.emod_lt_of_pos _ (by decide)
        refine ⟨_, rfl, _, rfl, _, rfl, _, _, rfl, rfl, pz, _, _, _, rfl, rfl, by rw [letters_len]; decide, letter_at b1 b2, _, _, rfl, rfl, ?_, ?_⟩
        · rw [sOf_len, sOf_one, sOf_len]; exact Nat.le_of_lt (small1000 (by simp only [List.length_cons, List.length_nil]; omega))
        refine ⟨_, rfl, _, _, rfl, rfl, ⟨by decide, by decide⟩, ?_⟩
        refine ⟨r' / 26, st ++ [97 + (r' % 26).toNat], some (.int (0 + (j : Int))), ?_, Int.ediv_nonneg r0' (show (0 : Int) ≤ 26 by decide), by rw [List.length_append, hl']; rfl, le.app (.one (by omega)), rfl⟩
        rw [sOf_one, sOf_app]
        rfl
      · rintro σ H' ⟨r', st, y4, rfl, r0', hl', le, rfl⟩
        have hst : Nm st := ⟨by omega, by omega, le⟩
        have hz : (zs.map vN).length < sizeLine := by rw [List.length_map]; exact small1000 (by omega)
        refine ⟨_, rfl, _, rfl, p, _, rfl, .inl (lstAt upd_same), rfl, nms_flat _, _, rfl, ?_⟩
        rw [in_nm]
        by_cases h : st ∈ zs
        · rw [decide_eq_true h]
          refine iteT ⟨_, rfl, p, zs, rfl, lstAt upd_same, by omega, fun k hk hn => ?_⟩
          refine ⟨_, rfl, .inl ⟨rfl, _, lstAt upd_same⟩, _, rfl, _, _, _, rfl, rfl, upd_same, hz, r', zs ++ [[97 + k]], _, _, _, _, rfl, r0', by rw [List.length_append, hl]; rfl, ?_, ?_, ?_⟩
          · intro z hz'
            rcases List.mem_append.mp hz' with m | m
            · exact nm z m
            · rw [List.mem_singleton.mp m]; exact ⟨Nat.le_refl 1, (show 1 ≤ 8 by decide), .one hk⟩
          · exact List.nodup_append.mpr ⟨nd, by simp, fun a ha b hb => by rw [List.mem_singleton.mp hb]; exact fun e => hn (e ▸ ha)⟩
          · rw [upd_twice, List.map_append]; rfl
        · rw [decide_eq_false h]
          refine iteF ?_
          refine ⟨_, rfl, .inl ⟨rfl, _, lstAt upd_same⟩, _, rfl, _, _, _, rfl, rfl, upd_same, hz, r', zs ++ [st], _, _, _, _, rfl, r0', by rw [List.length_append, hl]; rfl, ?_, ?_, ?_⟩
          · intro z hz'
            rcases List.mem_append.mp hz' with m | m
            · exact nm z m
            · rw [List.mem_singleton.mp m]; exact hst
          · exact List.nodup_append.mpr ⟨nd, by simp, fun a ha b hb => by rw [List.mem_singleton.mp hb]; exact fun e => h (e ▸ ha)⟩
          · rw [upd_twice, List.map_append]; rfl
    · rintro σ H' ⟨r, zs, y1, y2, y3, y4, rfl, r0, hl, nm, nd, rfl⟩
      exact ⟨_, rfl, q _ p zs np (same_upd np) upd_same (by omega) nm nd⟩
end
end TK

namespace TK
open PySem PySem.Spec PyProof.Rows L2
theorem nm_get {zs : List Nam} {i : Int} (h0 : 0 ≤ i) (h : i < zs.length) : ∃ z, zs[i.toNat]? = some z ∧ z ∈ zs ∧ atI (zs.map vN) i = some (vN z) := by
  have hl : i.toNat < zs.length := by omega
  refine ⟨zs[i.toNat], List.getElem?_eq_getElem hl, List.getElem_mem hl, atI_in h0 ?_⟩
  rw [List.getElem?_map, List.getElem?_eq_getElem hl]
  rfl
theorem nd_set : ∀ {zs : List Nam} (i : Nat), zs.Nodup → ([] : Nam) ∉ zs → (zs.set i []).Nodup
  | [], _, h, _ => h
  | a :: zs, 0, h, n => List.nodup_cons.mpr ⟨fun m => n (List.mem_cons_of_mem _ m), (List.nodup_cons.mp h).2⟩
  | a :: zs, i + 1, h, n => by
    obtain ⟨h1, h2⟩ := List.nodup_cons.mp h
    refine List.nodup_cons.mpr ⟨fun m => ?_, nd_set i h2 fun m => n (List.mem_cons_of_mem _ m)⟩
    rcases List.mem_or_eq_of_mem_set m with m | m
    · exact h1 m
    · exact n (by rw [← m]; exact List.mem_cons_self)
/-! entries under way -/
theorem EOk.nil {zs : List Nam} : EOk zs [] := ⟨(fun _ h => nomatch h), (fun _ h => nomatch h), (fun _ h => nomatch h)⟩
theorem EOk.app {zs : List Nam} {ts us : List Tie} (h : EOk zs ts) (k : EOk zs us) : EOk zs (ts ++ us) :=
  ⟨fun t m => (List.mem_append.mp m).elim (h.a t) (k.a t), fun t m => (List.mem_append.mp m).elim (h.b t) (k.b t), fun t m => (List.mem_append.mp m).elim (h.h0 t) (k.h0 t)⟩
structure EW (H0 H : Hp) (D : Addr) (zs : List Nam) (es : List Addr) (ts : List Tie) : Prop where
  s : Same H0 H
  d : H D = some (.lst (es.map V.ref))
  t : TiesAt H es ts
  o : EOk zs ts
theorem EW.add {H0 H : Hp} {D q : Addr} {zs : List Nam} {es : List Addr} {ts : List Tie} {t : Tie} (h : EW H0 H D zs es ts) (n : H0 D = none) (nq : H q = none) (a : t.1 ∈ zs) (b : t.2.1 ∈ zs) (h0 : 0 ≤ t.2.2) :
    EW H0 (upd (upd H q (.tup [vN t.1, vN t.2.1, .int t.2.2])) D (.lst (es.map V.ref ++ [.ref q]))) D zs (es ++ [q]) (ts ++ [t]) := by
  have sq := same_upd (o := .tup [vN t.1, vN t.2.1, .int t.2.2]) nq
  have Dq : D ≠ q := ne_of_none h.d nq
  have fD : ∀ c x, H c = some x → c ≠ D → (upd (upd H q (.tup [vN t.1, vN t.2.1, .int t.2.2])) D (.lst (es.map V.ref ++ [.ref q]))) c = some x := fun c x e n => by rw [upd_ne n]; exact sq _ _ e
  refine ⟨fun c x e => fD c x (h.s _ _ e) (ne_of_none e n), by rw [List.map_append]; exact upd_same, ?_, h.o.app ?_⟩
  · refine TiesAt.snoc (H := upd (upd H q (.tup [vN t.1, vN t.2.1, .int t.2.2])) D (.lst (es.map V.ref ++ [.ref q]))) ⟨h.t.1, fun j e he => ?_⟩ (Same.refl _) ?_
    · obtain ⟨t', h1, h2⟩ := h.t.2 j e he
      exact ⟨t', h1, fD _ _ h2 (ne_of h2 h.d (by intro z; cases z))⟩
    · show _ = _
      rw [upd_ne Dq.symm]; exact upd_same
  · have one : ∀ x ∈ [t], x = t := fun x m => List.mem_singleton.mp m
    exact ⟨fun x m => by rw [one x m]; exact a, fun x m => by rw [one x m]; exact b, fun x m => by rw [one x m]; exact h0⟩
section
variable {P : Program} {w : World} {K : PySem.W.Frag} {mg : Str → Option Value} {base : Heap}
/-! _law_spots -/
def spSpots : Sp := fun vs H Q _ => ∃ (c n k : Int), vs = [.int c, .int n, .int k] ∧ 1 ≤ n ∧ n ≤ 6 ∧ 0 ≤ k ∧
  ∀ (H' : Hp) (p : Addr) (zs : List Nam), Same H H' → H' p = some (.lst (zs.map vN)) → (zs.length : Int) = n → NsOk zs → Q (.ref p) H'
theorem ok_L_spots {f : Addr} {fd : FuncData} (F : Fun K "_law_spots" "_law_spots" s_L_spots f fd) (d_L_words : Def P w K mg base "_law_words" 3 ["_law_cell_here", "_law_number"] spWords) : FnOk P w K mg base CX0 4 f fd ["_law_cell_here", "_law_number", "_law_place"] spSpots := by
  refine F.ok sc_L_spots (fun vs H Q E h => ?_) (fun cdv A outer s H vs Q E hr h => ?_)
  · obtain ⟨c, n, k, rfl, _⟩ := h
    rfl
  · obtain ⟨c, n, k, rfl, h1, h6, k0, q⟩ := h
    refine ⟨_, (pss_cons (ps_set (i := 3) sc_L_spots.nd rfl (.inl rfl) (pe_callD d_L_words (hr.mono (by decide)) (by rfl) (pa_cons (pv 0) (pa_cons (pv 1) pa_nil))))
  (pss_cons (ps_if (pt_cmpR op_lt (pv 2) (pv 1) (nomark _)) (pss_one (ps_asg pe_str (pg_sub (pv 3) (pv 2) set_list))) pss_nil)
  (pss_one (ps_ret (pv 3))))), ?_⟩
    refine ⟨_, rfl, _, rfl, c, n, rfl, h1, h6, fun H1 p zs np s1 ep lz nm nd => ?_⟩
    refine ⟨_, rfl, _, rfl, _, _, rfl, rfl, _, rfl, ite2 (fun e => ?_) (fun e => ?_)⟩
    · have e := of_decide_eq_true e
      have hk : k.toNat < zs.length := by omega
      refine ⟨_, rfl, _, rfl, p, _, k, k.toNat, rfl, rfl, ep, ?_, _, rfl, ?_⟩
      · unfold ixN
        rw [if_pos k0, if_pos (by rw [List.length_map]; omega)]
      · have em : (zs.map vN).set k.toNat (V.str (Str.ofString "")) = (zs.set k.toNat []).map vN := by rw [List.map_set]; rfl
        refine q _ p (zs.set k.toNat []) (same_at s1 np) (by rw [← em]; exact upd_same) (by rw [List.length_set]; exact lz) ⟨fun z m => ?_, nd_set _ nd fun m => ?_, by rw [List.length_set]; omega, by rw [List.length_set]; omega⟩
        · rcases List.mem_or_eq_of_mem_set m with m | m
          · exact .inl (nm z m)
          · exact .inr m
        · have := (nm [] m).1
          exact absurd this (by decide)
    · exact ⟨_, rfl, q _ p zs s1 ep lz ⟨fun z m => .inl (nm z m), nd, by omega, by omega⟩⟩
/-! _law_tolls -/
def spTollsL (K : PySem.W.Frag) : Sp := fun vs H Q _ => ∃ (a b : Addr) (ns : List Int) (s n : Int) (zs : List Nam), vs = [.ref a, .int s, .ref b, .int n] ∧ SqL K H a (ns.map V.int) ∧ SqL K H b (zs.map vN) ∧ 0 ≤ s ∧ s + n ≤ ns.length ∧ 0 ≤ n ∧ n ≤ 12 ∧ 1 ≤ zs.length ∧
  ∀ (H' : Hp) (p : Addr) (es : List Addr) (ts : List Tie), H p = none → EW H H' p zs es ts → ts.length ≤ 12 → Q (.ref p) H'
theorem ok_L_tolls {f : Addr} {fd : FuncData} (F : Fun K "_law_tolls" "_law_tolls" s_L_tolls f fd) (m_len : mg "len" = none) (m_range : mg "range" = none)
    (d_L_part : Def P w K mg base "_law_part" 1 ["_law_pool_here", "_law_spot", "_law_under", "_law_size"] (spPart K)) : FnOk P w K mg base CX0 2 f fd ["_law_pool_here", "_law_spot", "_law_words_here", "_law_number"] (spTollsL K) := by
  refine F.ok sc_L_tolls (fun vs H Q E h => ?_) (fun cdv A outer s H vs Q E hr h => ?_)
  · obtain ⟨a, b, ns, s, n, zs, rfl, _⟩ := h
    rfl
  · obtain ⟨a, b, ns, sp, n, zs, rfl, hA, hB, s0, sn, n0, n12, z1, q⟩ := h
    have zl : (zs.map vN).length = zs.length := List.length_map ..
    refine ⟨_, (pss_cons (ps_set (i := 4) sc_L_tolls.nd rfl (.inl rfl) (pe_lst pa_nil))
  (pss_cons (ps_for PassesOwn.never rfl (pi_range1 (by rfl) m_range (pa_cons (pv 3) pa_nil)) (pg_name (i := 5) sc_L_tolls.nd rfl (.inl rfl))
    (pss_cons (ps_set (i := 6) sc_L_tolls.nd rfl (.inl rfl) (pe_ix ix_list (pv 2) (pe_op op_mod (pe_callD d_L_part (hr.mono (by decide)) (by rfl) (pa_cons (pv 0) (pa_cons (pe_op op_add (pv 1) (pv 5)) (pa_cons pe_int (pa_cons pe_int pa_nil))))) (pe_callB call_len_seq (by rfl) m_len (by decide +kernel) (pa_cons (pv 2) pa_nil))) (fun _ _ => rfl)))
  (pss_cons (ps_set (i := 7) sc_L_tolls.nd rfl (.inl rfl) (pe_ix ix_list (pv 2) (pe_op op_mod (pe_callD d_L_part (hr.mono (by decide)) (by rfl) (pa_cons (pv 0) (pa_cons (pe_op op_add (pv 1) (pv 5)) (pa_cons pe_int (pa_cons pe_int pa_nil))))) (pe_callB call_len_seq (by rfl) m_len (by decide +kernel) (pa_cons (pv 2) pa_nil))) (fun _ _ => rfl)))
  (pss_cons (ps_set (i := 8) sc_L_tolls.nd rfl (.inl rfl) (pe_callD d_L_part (hr.mono (by decide)) (by rfl) (pa_cons (pv 0) (pa_cons (pe_op op_add (pv 1) (pv 5)) (pa_cons pe_int (pa_cons pe_int pa_nil))))))
  (pss_cons (ps_if (pt_cmpR op_eq (pe_callD d_L_part (hr.mono (by decide)) (by rfl) (pa_cons (pv 0) (pa_cons (pe_op op_add (pv 1) (pv 5)) (pa_cons pe_int (pa_cons pe_int pa_nil))))) pe_int (nomark _)) (pss_one (ps_set (i := 8) sc_L_tolls.nd rfl (.inl rfl) (pe_op op_add (pv 8) (pe_op op_pow pe_int pe_int)))) pss_nil)
  (pss_one (ps_expr (pe_bm PySem.F.plainAttrs_list PySem.F.slot_list_append PySem.F.type_list_append mt_append (pv 4) (pa_cons (pe_tup (pa_cons (pv 6) (pa_cons (pv 7) (pa_cons (pv 8) pa_nil)))) pa_nil)))))))))
  (pss_one (ps_ret (pv 4))))), ?_⟩
    refine ⟨Nat.zero_le _, fun p np => ?_⟩
    have w0 : EW H (upd H p (.lst [])) p zs [] [] := ⟨same_upd np, upd_same, ⟨rfl, fun _ _ h => nomatch h⟩, .nil⟩
    refine ⟨_, rfl, _, rfl, by omega, by omega, for_range (fun i σ H' => ∃ (es : List Addr) (ts : List Tie) (y1 y2 y3 y4 : Option V), σ = [some (.ref a), some (.int sp), some (.ref b), some (.int n), some (.ref p), y1, y2, y3, y4] ∧ EW H H' p zs es ts ∧ ts.length = i) ⟨[], [], _, _, _, _, rfl, w0, rfl⟩ ?_ ?_⟩
    · rintro i σ H' hi ⟨es, ts, y1, y2, y3, y4, rfl, tw, hl⟩
      have hA' := tw.s.seq hA
      have hB' := tw.s.seq hB
      have t1 := part_lo (ns := ns) (s := sp + (0 + (i : Int))) (u := 720) (z := 7) (by decide)
      obtain ⟨y, gy, my, ay⟩ := nm_get (zs := zs) (i := partOf ns (sp + (0 + (i : Int))) 1 60 % (zs.length : Int)) (Int.emod_nonneg _ (by omega)) (Int.emod_lt_of_pos _ (by omega))
      obtain ⟨z, gz, mz, az⟩ := nm_get (zs := zs) (i := partOf ns (sp + (0 + (i : Int))) 60 12 % (zs.length : Int)) (Int.emod_nonneg _ (by omega)) (Int.emod_lt_of_pos _ (by omega))
      refine ⟨_, rfl, _, rfl, _, rfl, _, rfl, _, _, rfl, rfl, _, _, _, _, _, rfl, hA', by omega, by omega, by decide, by decide, by decide, _, rfl, _, _, rfl, .inl hB', _, _, rfl, rfl, (show (0 : Int) < ((zs.map vN).length : Nat) by rw [zl]; omega), _, _, _, _, rfl, rfl, hB', by rw [zl]; exact ay, ?_⟩
      refine ⟨_, rfl, _, rfl, _, rfl, _, rfl, _, _, rfl, rfl, _, _, _, _, _, rfl, hA', by omega, by omega, by decide, by decide, by decide, _, rfl, _, _, rfl, .inl hB', _, _, rfl, rfl, (show (0 : Int) < ((zs.map vN).length : Nat) by rw [zl]; omega), _, _, _, _, rfl, rfl, hB', by rw [zl]; exact az, ?_⟩
      refine ⟨_, rfl, _, rfl, _, rfl, _, _, rfl, rfl, _, _, _, _, _, rfl, hA', by omega, by omega, by decide, by decide, by decide, ?_⟩
      refine ⟨_, rfl, _, rfl, _, rfl, _, _, rfl, rfl, _, _, _, _, _, rfl, hA', by omega, by omega, by decide, by decide, by decide, rfl, _, rfl, ite2 (fun e => ?_) (fun e => ?_)⟩
      · refine ⟨_, rfl, _, _, rfl, rfl, ⟨by decide, by decide, by decide⟩, _, _, rfl, rfl, ?_⟩
        refine ⟨_, rfl, .inl ⟨rfl, _, lstAt tw.d⟩, _, rfl, _, rfl, _, rfl, (show (3 : Nat) ≤ sizeLine by decide), fun t nt => ?_⟩
        have Dt : p ≠ t := ne_of_none tw.d nt
        exact ⟨_, _, _, rfl, rfl, by rw [upd_ne Dt]; exact tw.d, by rw [List.length_map, tw.t.1]; exact small1000 (by omega), es ++ [t], ts ++ [(y, z, partOf ns (sp + (0 + (i : Int))) 720 7 + 10 ^ (9 : Int).toNat)], _, _, _, _, rfl, tw.add (t := (y, z, partOf ns (sp + (0 + (i : Int))) 720 7 + 10 ^ (9 : Int).toNat)) np nt my mz (by show (0 : Int) ≤ partOf ns (sp + (0 + (i : Int))) 720 7 + 1000000000; omega), by rw [List.length_append, hl]; rfl⟩
      · refine ⟨_, rfl, .inl ⟨rfl, _, lstAt tw.d⟩, _, rfl, _, rfl, _, rfl, (show (3 : Nat) ≤ sizeLine by decide), fun t nt => ?_⟩
        have Dt : p ≠ t := ne_of_none tw.d nt
        exact ⟨_, _, _, rfl, rfl, by rw [upd_ne Dt]; exact tw.d, by rw [List.length_map, tw.t.1]; exact small1000 (by omega), es ++ [t], ts ++ [(y, z, partOf ns (sp + (0 + (i : Int))) 720 7)], _, _, _, _, rfl, tw.add (t := (y, z, partOf ns (sp + (0 + (i : Int))) 720 7)) np nt my mz t1, by rw [List.length_append, hl]; rfl⟩
    · rintro σ H' ⟨es, ts, y1, y2, y3, y4, rfl, tw, hl⟩
      exact ⟨_, rfl, q _ p es ts np tw (by omega)⟩
/-! _law_loads -/
def spLoads (K : PySem.W.Frag) : Sp := fun vs H Q _ => ∃ (c : Int) (b : Addr) (zs : List Nam), vs = [.int c, .ref b] ∧ SqL K H b (zs.map vN) ∧ 1 ≤ zs.length ∧ zs.length ≤ 6 ∧
  ∀ (H' : Hp) (p : Addr) (es : List Addr) (ts : List Tie), H p = none → EW H H' p zs es ts → ts.length ≤ 40 → Q (.ref p) H'
theorem ok_L_loads {f : Addr} {fd : FuncData} (F : Fun K "_law_loads" "_law_loads" s_L_loads f fd) (m_len : mg "len" = none) (m_range : mg "range" = none) (m_abs : mg "abs" = none) : FnOk P w K mg base CX0 1 f fd ["_law_cell_here", "_law_words_here"] (spLoads K) := by
  refine F.ok sc_L_loads (fun vs H Q E h => ?_) (fun cdv A outer s H vs Q E hr h => ?_)
  · obtain ⟨c, b, zs, rfl, _⟩ := h
    rfl
  · obtain ⟨c, b, zs, rfl, hB, z1, z6, q⟩ := h
    have zl : (zs.map vN).length = zs.length := List.length_map ..
    have ha : 0 ≤ (if c < 0 then -c else c) := by split <;> omega
    refine ⟨_, (pss_cons (ps_set (i := 2) sc_L_loads.nd rfl (.inl rfl) (pe_callB call_abs (by rfl) m_abs (by decide +kernel) (pa_cons (pv 0) pa_nil)))
  (pss_cons (ps_set (i := 3) sc_L_loads.nd rfl (.inl rfl) (pe_lst pa_nil))
  (pss_cons (ps_for PassesOwn.never rfl (pi_range1 (by rfl) m_range (pa_cons pe_int pa_nil)) (pg_name (i := 4) sc_L_loads.nd rfl (.inl rfl))
    (pss_cons (ps_if (pt_cmpR op_eq (pv 2) pe_int (nomark _)) (pss_one ps_break) pss_nil)
  (pss_cons (ps_set (i := 5) sc_L_loads.nd rfl (.inl rfl) (pe_ix ix_list (pv 1) (pe_op op_mod (pe_op op_mod (pv 2) pe_int) (pe_callB call_len_seq (by rfl) m_len (by decide +kernel) (pa_cons (pv 1) pa_nil))) (fun _ _ => rfl)))
  (pss_cons (ps_set (i := 6) sc_L_loads.nd rfl (.inl rfl) (pe_ix ix_list (pv 1) (pe_op op_mod (pe_op op_mod (pe_op op_fdiv (pv 2) pe_int) pe_int) (pe_callB call_len_seq (by rfl) m_len (by decide +kernel) (pa_cons (pv 1) pa_nil))) (fun _ _ => rfl)))
  (pss_cons (ps_set (i := 7) sc_L_loads.nd rfl (.inl rfl) (pe_op op_mod (pe_op op_fdiv (pv 2) pe_int) (pe_op op_pow pe_int pe_int)))
  (pss_cons (ps_if (pt_cmpR op_eq (pe_op op_mod (pe_op op_fdiv (pv 2) pe_int) pe_int) pe_int (nomark _)) (pss_one (ps_set (i := 7) sc_L_loads.nd rfl (.inl rfl) (pe_op op_mod (pe_op op_fdiv (pv 2) pe_int) pe_int))) pss_nil)
  (pss_cons (ps_expr (pe_bm PySem.F.plainAttrs_list PySem.F.slot_list_append PySem.F.type_list_append mt_append (pv 3) (pa_cons (pe_tup (pa_cons (pv 5) (pa_cons (pv 6) (pa_cons (pv 7) pa_nil)))) pa_nil)))
  (pss_one (ps_set (i := 2) sc_L_loads.nd rfl (.inl rfl) (pe_op op_fdivW (pv 2) (pe_op op_mul pe_int (pe_op op_pow pe_int pe_int))))))))))))
  (pss_one (ps_ret (pv 3)))))), ?_⟩
    refine ⟨_, rfl, _, rfl, Nat.zero_le _, fun p np => ?_⟩
    have w0 : EW H (upd H p (.lst [])) p zs [] [] := ⟨same_upd np, upd_same, ⟨rfl, fun _ _ h => nomatch h⟩, .nil⟩
    refine ⟨_, rfl, by decide, by decide, for_range (fun i σ H' => ∃ (r : Int) (es : List Addr) (ts : List Tie) (y1 y2 y3 y4 : Option V), σ = [some (.int c), some (.ref b), some (.int r), some (.ref p), y1, y2, y3, y4] ∧ 0 ≤ r ∧ EW H H' p zs es ts ∧ ts.length ≤ i) ⟨_, [], [], _, _, _, _, rfl, ha, w0, Nat.le_refl _⟩ ?_ ?_⟩
    · rintro i σ H' hi ⟨r, es, ts, y1, y2, y3, y4, rfl, r0, tw, hl⟩
      have hi40 : i < 40 := hi
      have hB' := tw.s.seq hB
      obtain ⟨y, gy, my, ay⟩ := nm_get (zs := zs) (i := r % 6 % (zs.length : Int)) (Int.emod_nonneg _ (by omega)) (Int.emod_lt_of_pos _ (by omega))
      obtain ⟨z, gz, mz, az⟩ := nm_get (zs := zs) (i := r / 6 % 6 % (zs.length : Int)) (Int.emod_nonneg _ (by omega)) (Int.emod_lt_of_pos _ (by omega))
      have u1 : 0 ≤ r / 72 % 10 ^ (60 : Int).toNat := Int.emod_nonneg _ (by decide)
      have v1 : 0 ≤ r / 72 % 7 := Int.emod_nonneg _ (by decide)
      refine ⟨_, rfl, rfl, _, rfl, ite2 (fun e => ?_) (fun e => ?_)⟩
      · exact ⟨_, rfl, q _ p es ts np tw (by omega)⟩
      refine ⟨_, rfl, _, rfl, _, _, rfl, rfl, pz, _, rfl, _, _, rfl, .inl hB', _, _, rfl, rfl, (show (0 : Int) < ((zs.map vN).length : Nat) by rw [zl]; omega), _, _, _, _, rfl, rfl, hB', by rw [zl]; exact ay, ?_⟩
      refine ⟨_, rfl, _, rfl, _, _, rfl, rfl, ⟨by decide, by decide⟩, _, _, rfl, rfl, pz, _, rfl, _, _, rfl, .inl hB', _, _, rfl, rfl, (show (0 : Int) < ((zs.map vN).length : Nat) by rw [zl]; omega), _, _, _, _, rfl, rfl, hB', by rw [zl]; exact az, ?_⟩
      refine ⟨_, rfl, _, _, rfl, rfl, ⟨by decide, by decide⟩, _, _, rfl, rfl, ⟨by decide, by decide, by decide⟩, _, _, rfl, rfl, (show (0 : Int) < 10 ^ (60 : Int).toNat by decide), ?_⟩
      refine ⟨_, rfl, _, _, rfl, rfl, ⟨by decide, by decide⟩, _, _, rfl, rfl, pz, rfl, _, rfl, ite2 (fun e => ?_) (fun e => ?_)⟩
      · refine ⟨_, rfl, _, _, rfl, rfl, ⟨by decide, by decide⟩, _, _, rfl, rfl, pz, ?_⟩
        refine ⟨_, rfl, .inl ⟨rfl, _, lstAt tw.d⟩, _, rfl, _, rfl, _, rfl, (show (3 : Nat) ≤ sizeLine by decide), fun t nt => ?_⟩
        have Dt : p ≠ t := ne_of_none tw.d nt
        refine ⟨_, _, _, rfl, rfl, by rw [upd_ne Dt]; exact tw.d, by rw [List.length_map, tw.t.1]; exact small1000 (by omega), ?_⟩
        refine ⟨_, rfl, _, _, rfl, rfl, ⟨by decide, by decide, by decide⟩, _, _, rfl, rfl, .inl ⟨by decide, by decide⟩, _, _, rfl, rfl, wide_div (b := 220) (by decide) (by decide) (by decide) (by decide), ?_⟩
        exact ⟨_, es ++ [t], ts ++ [(y, z, r / 72 % 7)], _, _, _, _, rfl, Int.ediv_nonneg r0 (by decide), tw.add (t := (y, z, r / 72 % 7)) np nt my mz v1, by rw [List.length_append]; exact Nat.succ_le_succ hl⟩
      · refine ⟨_, rfl, .inl ⟨rfl, _, lstAt tw.d⟩, _, rfl, _, rfl, _, rfl, (show (3 : Nat) ≤ sizeLine by decide), fun t nt => ?_⟩
        have Dt : p ≠ t := ne_of_none tw.d nt
        refine ⟨_, _, _, rfl, rfl, by rw [upd_ne Dt]; exact tw.d, by rw [List.length_map, tw.t.1]; exact small1000 (by omega), ?_⟩
        refine ⟨_, rfl, _, _, rfl, rfl, ⟨by decide, by decide, by decide⟩, _, _, rfl, rfl, .inl ⟨by decide, by decide⟩, _, _, rfl, rfl, wide_div (b := 220) (by decide) (by decide) (by decide) (by decide), ?_⟩
        exact ⟨_, es ++ [t], ts ++ [(y, z, r / 72 % 10 ^ (60 : Int).toNat)], _, _, _, _, rfl, Int.ediv_nonneg r0 (by decide), tw.add (t := (y, z, r / 72 % 10 ^ (60 : Int).toNat)) np nt my mz u1, by rw [List.length_append]; exact Nat.succ_le_succ hl⟩
    · rintro σ H' ⟨r, es, ts, y1, y2, y3, y4, rfl, r0, tw, hl⟩
      exact ⟨_, rfl, q _ p es ts np tw hl⟩
end
end TK

namespace TK
open PySem PySem.Spec PyProof.Rows L2
theorem ints_dp {K : PySem.W.Frag} {H : Hp} : ∀ {ns : List Int}, ∃ ds, DpAll K H (ns.map V.int) ds ∧ ds.length = ns.length ∧ PyData.canLayAll0 ds = true ∧ PyData.depthAll ds ≤ 1
  | [] => ⟨[], .nil, rfl, by simp [PyData.canLayAll0], by simp [PyData.depthAll]⟩
  | z :: ns => by
    obtain ⟨ds, h1, h2, h3, h4⟩ := ints_dp (K := K) (H := H) (ns := ns)
    refine ⟨.int z :: ds, .cons (.int _) h1, congrArg Nat.succ h2, ?_, ?_⟩
    · simp only [PyData.canLayAll0, PyData.canLay0, Bool.and_eq_true]
      exact ⟨trivial, h3⟩
    · simp only [PyData.depthAll, PyData.depth]
      omega
theorem nm_shape {ds : List PyData} (h3 : PyData.canLayAll0 ds = true) (h4 : PyData.depthAll ds ≤ 1) : SeqAt.shaped (.list ds) = true := by
  show ((PyData.list ds).canLay0 && decide ((PyData.list ds).depth ≤ 64)) = true
  rw [show (PyData.list ds).canLay0 = true by simp only [PyData.canLay0, h3], show (PyData.list ds).depth = PyData.depthAll ds + 1 by simp only [PyData.depth]]
  exact decide_eq_true (by omega)
theorem nil_eqv {ds : List PyData} : PyData.eqv (.list ds) (.list []) = decide (ds.length = 0) := by
  cases ds with
  | nil => rfl
  | cons d ds => rfl
/-- the tolls of the entries between two names -/
def valsE (ts : List Tie) (x y : Nam) : List Int := (ts.filter (isE x y)).map (·.2.2)
theorem valsE_snoc {ts : List Tie} {i : Nat} {t : Tie} (h : ts[i]? = some t) (x y : Nam) : valsE (ts.take (i + 1)) x y = valsE (ts.take i) x y ++ (if isE x y t then [t.2.2] else []) := by
  unfold valsE
  rw [List.take_add_one, h, List.filter_append, List.map_append]
  congr 1
  by_cases k : isE x y t = true
  · rw [if_pos k]; show List.map _ (List.filter _ [t]) = _; rw [List.filter_cons_of_pos k]; rfl
  · rw [if_neg k]; show List.map _ (List.filter _ [t]) = _; rw [List.filter_cons_of_neg k]; rfl
def accE (x y : Nam) (o : Option Int) (t : Tie) : Option Int := if isE x y t then minO o (some t.2.2) else o
theorem fold_spec (x y : Nam) : ∀ (ts : List Tie) (o : Option Int), (∀ m, ts.foldl (accE x y) o = some m → (m ∈ valsE ts x y ∨ o = some m) ∧ (∀ u ∈ valsE ts x y, m ≤ u) ∧ ∀ u, o = some u → m ≤ u) ∧ (ts.foldl (accE x y) o = none → valsE ts x y = [] ∧ o = none)
  | [], o => ⟨fun m h => ⟨.inr h, (fun _ h => nomatch h), fun u e => by rw [show o = some m from h] at e; cases e; exact Int.le_refl _⟩, fun h => ⟨rfl, h⟩⟩
  | t :: ts, o => by
    obtain ⟨h1, h2⟩ := fold_spec x y ts (accE x y o t)
    by_cases k : isE x y t = true
    · have ev : valsE (t :: ts) x y = t.2.2 :: valsE ts x y := by unfold valsE; rw [List.filter_cons_of_pos k]; rfl
      have ea : accE x y o t = minO o (some t.2.2) := by unfold accE; rw [if_pos k]
      rw [ev]
      rw [ea] at h1 h2
      show (∀ m, ts.foldl (accE x y) (accE x y o t) = some m → _) ∧ (ts.foldl (accE x y) (accE x y o t) = none → _)
      rw [ea]
      constructor
      · intro m hm
        obtain ⟨a, b, c⟩ := h1 m hm
        cases o with
        | none =>
          refine ⟨?_, ?_, fun u e => nomatch e⟩
          · rcases a with a | a
            · exact .inl (List.mem_cons_of_mem _ a)
            · exact .inl (by rw [← Option.some.inj (show some t.2.2 = some m from a)]; exact List.mem_cons_self)
          · intro u hu
            rcases List.mem_cons.mp hu with rfl | hu
            · exact c _ rfl
            · exact b u hu
        | some v =>
          have cv := c (if t.2.2 < v then t.2.2 else v) rfl
          refine ⟨?_, ?_, fun u e => ?_⟩
          · rcases a with a | a
            · exact .inl (List.mem_cons_of_mem _ a)
            · have a := Option.some.inj (show some (if t.2.2 < v then t.2.2 else v) = some m from a)
              by_cases q : t.2.2 < v
              · rw [if_pos q] at a; exact .inl (by rw [← a]; exact List.mem_cons_self)
              · rw [if_neg q] at a; exact .inr (by rw [a])
          · intro u hu
            rcases List.mem_cons.mp hu with rfl | hu
            · split at cv <;> omega
            · exact b u hu
          · cases e
            split at cv <;> omega
      · intro hn
        obtain ⟨_, z⟩ := h2 hn
        cases o <;> cases z
    · have ev : valsE (t :: ts) x y = valsE ts x y := by unfold valsE; rw [List.filter_cons_of_neg k]
      have ea : accE x y o t = o := by unfold accE; rw [if_neg k]
      rw [ev]
      rw [ea] at h1 h2
      show (∀ m, ts.foldl (accE x y) (accE x y o t) = some m → _) ∧ (ts.foldl (accE x y) (accE x y o t) = none → _)
      rw [ea]
      exact ⟨h1, h2⟩
theorem leastE_some {ts : List Tie} {x y : Nam} {m : Int} (h : leastE ts x y = some m) : m ∈ valsE ts x y ∧ ∀ u ∈ valsE ts x y, m ≤ u := by
  obtain ⟨a, b, _⟩ := (fold_spec x y ts none).1 m h
  rcases a with a | a
  · exact ⟨a, b⟩
  · cases a
theorem leastE_none {ts : List Tie} {x y : Nam} (h : leastE ts x y = none) : valsE ts x y = [] := ((fold_spec x y ts none).2 h).1
section
variable {P : Program} {w : World} {K : PySem.W.Frag} {mg : Str → Option Value} {base : Heap}
/-! _law_least_of -/
def spLeastOf (K : PySem.W.Frag) : Sp := fun vs H Q _ => ∃ (a : Addr) (es : List Addr) (ts : List Tie) (x y : Nam), vs = [.ref a, vN x, vN y] ∧ SqL K H a (es.map V.ref) ∧ TiesAt H es ts ∧ ts.length ≤ 10000 ∧ ∀ H', Same H H' → Q (capI (leastE ts x y)) H'
theorem ok_L_least_of {f : Addr} {fd : FuncData} (F : Fun K "_law_least_of" "_law_least_of" s_L_least_of f fd) (m_min : mg "min" = none) : FnOk P w K mg base CX0 1 f fd ["_law_loads_here", "_law_one", "_law_two"] (spLeastOf K) := by
  refine F.ok sc_L_least_of (fun vs H Q E h => ?_) (fun cdv A outer s H vs Q E hr h => ?_)
  · obtain ⟨a, es, ts, x, y, rfl, _⟩ := h
    rfl
  · obtain ⟨a, es, ts, x, y, rfl, hA, hT, l4, q⟩ := h
    have el : (es.map V.ref).length = ts.length := by rw [List.length_map, hT.1]
    refine ⟨_, (pss_cons (ps_setLc (i := 3) (own := [("_law_first", 4), ("_law_second", 5), ("_law_toll", 6)]) (by rfl) sc_L_least_of.nd rfl rfl (sw_true rfl rfl rfl (by decide +kernel)) (pi_list (pv 0)) (blkOk_by (N := ["_law_loads_here", "_law_one", "_law_two", "_law_found", "_law_first", "_law_second", "_law_toll"]) (sc := defScope s_L_least_of) (by decide +kernel)) (fun _ _ _ _ _ => (pg_tupK (K := K) (n := 3) rfl (by rfl) (pgs_cons (pg_name (i := 4) sc_L_least_of.nd rfl (.inl rfl)) (pgs_cons (pg_name (i := 5) sc_L_least_of.nd rfl (.inl rfl)) (pgs_cons (pg_name (i := 6) sc_L_least_of.nd rfl (.inl rfl)) pgs_nil))))) (fun _ _ _ _ _ => (pts_one (PW.pt (pw_and (pt_cmpR op_eq (pv 4) (pv 1) (nomark _)) (pw_and1 (pt_cmpR op_eq (pv 5) (pv 2) (nomark _))))))) (fun _ _ _ _ _ => (pv 6)))
  (pss_cons (ps_if (pt_cmpR (op_eqD hr.units) (pv 3) (pe_lst pa_nil) (nomark _)) (pss_one (ps_ret pe_non)) pss_nil)
  (pss_one (ps_ret (pe_callB (cr_min rfl) (by rfl) m_min (by decide +kernel) (pa_cons (pv 3) pa_nil)))))), ?_⟩
    refine ⟨_, rfl, a, rfl, ⟨_, hA⟩, fun D nD => ?_⟩
    refine lc_list (K := K) (a := a) (xs := es.map V.ref) (fun i H' => H' = upd H D (.lst ((valsE (ts.take i) x y).map V.int))) rfl (fun i H' _ e => e ▸ (same_upd nD).seq hA) (fun i v H' hx hq => ?_) (fun H' hq => ?_)
    · subst hq
      obtain ⟨e, t, rfl, _, et, ht⟩ := ties_at hT hx
      have hi : i < ts.length := (List.getElem?_eq_some_iff.mp et).1
      have hz : ((valsE (ts.take i) x y).map V.int).length < sizeLine := by
        rw [List.length_map]
        have h1 := List.length_filter_le (isE x y) (ts.take i)
        rw [List.length_take] at h1
        have : (valsE (ts.take i) x y).length ≤ 10000 := by unfold valsE; rw [List.length_map]; omega
        exact Nat.lt_of_le_of_lt this (by decide)
      refine ⟨_, _, rfl, tupAt ((same_upd nD) _ _ ht), rfl, _, _, rfl, _, _, rfl, _, _, rfl, rfl, rfl, _, rfl, _, rfl, rfl, _, rfl, ?_⟩
      rw [valsE_snoc et, eq_nm]
      by_cases h1 : t.1 = x
      · rw [decide_eq_true h1]
        refine iteT ⟨_, rfl, _, rfl, rfl, _, rfl, ?_⟩
        rw [eq_nm]
        by_cases h2 : t.2.1 = y
        · rw [decide_eq_true h2, if_pos (show isE x y t = true from decide_eq_true ⟨h1, h2⟩)]
          refine iteT ⟨_, rfl, _, upd_same, hz, ?_⟩
          rw [upd_twice, List.map_append]; rfl
        · rw [decide_eq_false h2, if_neg (show ¬ isE x y t = true from fun z => h2 (of_decide_eq_true z).2), List.append_nil]
          exact iteF rfl
      · rw [decide_eq_false h1, if_neg (show ¬ isE x y t = true from fun z => h1 (of_decide_eq_true z).1), List.append_nil]
        exact iteF (iteF rfl)
    subst hq
    rw [el, List.take_length]
    have sD := same_upd (o := .lst ((valsE ts x y).map V.int)) nD
    refine ⟨_, rfl, Nat.zero_le _, fun n nn => ?_⟩
    have sn := sD.trans (same_upd (o := .lst []) nn)
    have eD := (same_upd (o := .lst []) nn) _ _ upd_same
    obtain ⟨ds, d1, d2, d3, d4⟩ := ints_dp (K := K) (H := upd (upd H D (.lst ((valsE ts x y).map V.int))) n (.lst [])) (ns := valsE ts x y)
    refine ⟨.list ds, .list [], .lst (lstAt eD) d1, .lst (lstAt upd_same) .nil, nm_shape d3 d4, rfl, _, rfl, ?_⟩
    rw [nil_eqv, d2]
    cases e : leastE ts x y with
    | none =>
      rw [decide_eq_true (show (valsE ts x y).length = 0 by rw [leastE_none e]; rfl)]
      have := q _ sn
      rw [e] at this
      exact iteT this
    | some m =>
      obtain ⟨h1, h2⟩ := leastE_some e
      have hl : 0 < (valsE ts x y).length := List.length_pos_of_mem h1
      rw [decide_eq_false (by omega)]
      refine iteF ⟨_, rfl, D, valsE ts x y, rfl, lstAt eD, hl, fun k k1 k2 => ?_⟩
      have ek : k = m := Int.le_antisymm (k2 m h1) (h2 k k1)
      have := q _ sn
      rw [e] at this
      rw [ek]
      exact this
end
end TK

namespace TK
open PySem PySem.Spec PyProof.Rows L2
def rowE (zs : List Nam) (ts : List Tie) (x : Nam) : List V := zs.map fun y => capI (leastE ts x y)
def RowsIn (H : Hp) (rs : List Addr) (zs us : List Nam) (ts : List Tie) : Prop := rs.length = us.length ∧ ∀ (i : Nat) (q : Addr), rs[i]? = some q → ∃ x, us[i]? = some x ∧ H q = some (.lst (rowE zs ts x))
def RowsAt (H : Hp) (r : Addr) (zs : List Nam) (ts : List Tie) : Prop := ∃ rs : List Addr, H r = some (.lst (rs.map V.ref)) ∧ RowsIn H rs zs zs ts
theorem RowsAt.same {H H' : Hp} {r : Addr} {zs : List Nam} {ts : List Tie} (h : RowsAt H r zs ts) (s : Same H H') : RowsAt H' r zs ts := by
  obtain ⟨rs, h1, h2, h3⟩ := h
  exact ⟨rs, s _ _ h1, h2, fun i q e => by
    obtain ⟨x, a, b⟩ := h3 i q e
    exact ⟨x, a, s _ _ b⟩⟩
theorem zs_at0 {zs : List Nam} {j : Nat} {y : Nam} (h : zs[j]? = some y) : atI (zs.map vN) (0 + (j : Int)) = some (vN y) := by
  refine atI_in (by omega) ?_
  rw [show (0 + (j : Int)).toNat = j by omega, List.getElem?_map, h]
  rfl
theorem row_at0 {zs : List Nam} {ts : List Tie} {x y : Nam} {j : Nat} (h : zs[j]? = some y) : atI (rowE zs ts x) (0 + (j : Int)) = some (capI (leastE ts x y)) := by
  refine atI_in (by omega) ?_
  rw [show (0 + (j : Int)).toNat = j by omega]
  unfold rowE
  rw [List.getElem?_map, h]
  rfl
theorem rows_at0 {H : Hp} {rs : List Addr} {zs : List Nam} {ts : List Tie} {j : Nat} {x : Nam} (h : RowsIn H rs zs zs ts) (e : zs[j]? = some x) : ∃ q, atI (rs.map V.ref) (0 + (j : Int)) = some (.ref q) ∧ H q = some (.lst (rowE zs ts x)) := by
  have hj : j < rs.length := by rw [h.1]; exact (List.getElem?_eq_some_iff.mp e).1
  obtain ⟨x', e', hq⟩ := h.2 j rs[j] (List.getElem?_eq_getElem hj)
  have : x' = x := Option.some.inj (e'.symm.trans e)
  subst this
  refine ⟨rs[j], atI_in (by omega) ?_, hq⟩
  rw [show (0 + (j : Int)).toNat = j by omega, List.getElem?_map, List.getElem?_eq_getElem hj]
  rfl
section
variable {P : Program} {w : World} {K : PySem.W.Frag} {mg : Str → Option Value} {base : Heap}
/-! _law_rows -/
def spRows (K : PySem.W.Frag) : Sp := fun vs H Q _ => ∃ (a b : Addr) (zs : List Nam) (es : List Addr) (ts : List Tie), vs = [.ref a, .ref b] ∧ SqL K H a (zs.map vN) ∧ zs.length ≤ 6 ∧ SqL K H b (es.map V.ref) ∧ TiesAt H es ts ∧ ts.length ≤ 10000 ∧ ∀ H' p, Same H H' → RowsAt H' p zs ts → Q (.ref p) H'
theorem ok_L_rows {f : Addr} {fd : FuncData} (F : Fun K "_law_rows" "_law_rows" s_L_rows f fd) (d_L_least_of : Def P w K mg base "_law_least_of" 1 ["_law_loads_here", "_law_one", "_law_two"] (spLeastOf K)) : FnOk P w K mg base CX0 2 f fd ["_law_words_here", "_law_loads_here"] (spRows K) := by
  refine F.ok sc_L_rows (fun vs H Q E h => ?_) (fun cdv A outer s H vs Q E hr h => ?_)
  · obtain ⟨a, b, zs, es, ts, rfl, _⟩ := h
    rfl
  · obtain ⟨a, b, zs, es, ts, rfl, hA, z6, hB, hT, l4, q⟩ := h
    have zl : (zs.map vN).length = zs.length := List.length_map ..
    refine ⟨_, (pss_cons (ps_set (i := 2) sc_L_rows.nd rfl (.inl rfl) (pe_lst pa_nil))
  (pss_cons (ps_for PassesOwn.never rfl (pi_list (pv 0)) (pg_name (i := 3) sc_L_rows.nd rfl (.inr rfl))
    (pss_one (ps_expr (pe_bm PySem.F.plainAttrs_list PySem.F.slot_list_append PySem.F.type_list_append mt_append (pv 2) (pa_cons (pe_lc (own := [("_law_two", 4)]) (by rfl) sc_L_rows.nd (pi_list (pv 0)) (blkOk_by (N := ["_law_words_here", "_law_loads_here", "_law_rows_here", "_law_one", "_law_two"]) (sc := defScope s_L_rows) (by decide +kernel)) (fun _ _ _ _ _ => (pg_name (i := 4) sc_L_rows.nd rfl (.inl rfl))) (fun _ _ _ _ _ => pts_nil) (fun _ _ _ _ _ => (pe_callD d_L_least_of (hr.mono (by decide)) (by rfl) (pa_cons (pv 1) (pa_cons (pv 3) (pa_cons (pv 4) pa_nil)))))) pa_nil)))))
  (pss_one (ps_ret (pv 2))))), ?_⟩
    refine ⟨Nat.zero_le _, fun D nD => ?_⟩
    have s0 := same_upd (o := .lst []) nD
    refine ⟨_, rfl, a, rfl, ⟨_, s0.seq hA⟩, for_list (K := K) (a := a) (xs := zs.map vN) (fun i σ H' => ∃ (rs : List Addr) (y1 : Option V), σ = [some (.ref a), some (.ref b), some (.ref D), y1, none] ∧ Same H H' ∧ H' D = some (.lst (rs.map V.ref)) ∧ RowsIn H' rs zs (zs.take i) ts ∧ ∀ r ∈ rs, r ≠ D) ⟨[], _, rfl, s0, upd_same, ⟨rfl, fun _ _ h => nomatch h⟩, fun _ h => nomatch h⟩ (fun i σ H' _ hp => by obtain ⟨rs, y1, _, s1, _⟩ := hp; exact s1.seq hA) ?_ ?_⟩
    · rintro i x σ H2 hx ⟨rs, y1, rfl, sm, eD, ⟨rl, rr⟩, rD⟩
      obtain ⟨z, ez, rfl⟩ := vN_at hx
      have hi : i < zs.length := (List.getElem?_eq_some_iff.mp ez).1
      have rl' : rs.length = i := by rw [rl, List.length_take]; omega
      refine ⟨_, rfl, .inl ⟨rfl, _, lstAt eD⟩, _, rfl, a, rfl, ⟨_, sm.seq hA⟩, fun E nE => ?_⟩
      refine lc_list (K := K) (a := a) (xs := zs.map vN) (fun j H' => Same H2 H' ∧ H' E = some (.lst ((zs.take j).map fun y => capI (leastE ts z y)))) ⟨same_upd nE, upd_same⟩ (fun j H' _ hp => (sm.trans hp.1).seq hA) (fun j v H' hx2 hq => ?_) (fun H' hq => ?_)
      · obtain ⟨s3, eE⟩ := hq
        obtain ⟨y, ey, rfl⟩ := vN_at hx2
        have s4 := sm.trans s3
        refine ⟨rfl, yesT ⟨_, rfl, _, rfl, _, rfl, b, es, ts, z, y, rfl, s4.seq hB, hT.same s4, l4, fun H5 s5 => ⟨_, s5 _ _ eE, ?_, same_at (s3.trans s5) nE, ?_⟩⟩⟩
        · rw [List.length_map, List.length_take]; exact small1000 (by omega)
        · rw [List.take_add_one, ey, List.map_append]; exact upd_same
      · obtain ⟨s3, eE⟩ := hq
        rw [zl, List.take_length] at eE
        have eD3 := s3 _ _ eD
        have ED : E ≠ D := (ne_of_none eD nE).symm
        refine ⟨_, _, _, rfl, rfl, eD3, by rw [List.length_map, rl']; exact small1000 (by omega), rs ++ [E], _, rfl, same_at (sm.trans s3) nD, by rw [List.map_append]; exact upd_same, ⟨?_, ?_⟩, fun r hr => ?_⟩
        · rw [List.length_append, rl', List.length_take]; simp only [List.length_singleton]; omega
        · intro k p hk
          by_cases hki : k < rs.length
          · rw [List.getElem?_append_left hki] at hk
            obtain ⟨x, h1, h2⟩ := rr k p hk
            have h3 := s3 _ _ h2
            refine ⟨x, ?_, ?_⟩
            · rw [List.getElem?_take] at h1 ⊢
              rw [if_pos (by omega)] at h1
              rw [if_pos (by omega)]; exact h1
            · rw [upd_ne (rD p (List.mem_of_getElem? hk))]; exact h3
          · rw [List.getElem?_append_right (by omega)] at hk
            have h0 : k - rs.length = 0 := by
              have := (List.getElem?_eq_some_iff.mp hk).1
              simp at this
              omega
            rw [h0] at hk
            have hk := (Option.some.inj hk)
            subst hk
            refine ⟨z, ?_, by rw [upd_ne ED]; exact eE⟩
            rw [show k = i by omega, List.getElem?_take, if_pos (by omega)]
            exact ez
        · rcases List.mem_append.mp hr with m | m
          · exact rD r m
          · rw [List.mem_singleton.mp m]; exact ED
    · rintro σ H' ⟨rs, y1, rfl, sm, eD, rr, _⟩
      rw [zl, List.take_length] at rr
      exact ⟨_, rfl, q _ D sm ⟨rs, eD, rr⟩⟩
/-! _law_listed -/
def spListed (K : PySem.W.Frag) : Sp := fun vs H Q _ => ∃ (a r : Addr) (zs : List Nam) (ts : List Tie), vs = [.ref a, .ref r] ∧ SqL K H a (zs.map vN) ∧ zs.length ≤ 6 ∧ RowsAt H r zs ts ∧
  ∀ H' q es, H q = none → Same H H' → H' q = some (.lst (es.map V.ref)) → TiesAt H' es (listE zs ts) → es.length ≤ 36 → Q (.ref q) H'
theorem ok_L_listed {f : Addr} {fd : FuncData} (F : Fun K "_law_listed" "_law_listed" s_L_listed f fd) (m_len : mg "len" = none) (m_range : mg "range" = none) : FnOk P w K mg base CX0 1 f fd ["_law_words_here", "_law_rows_here"] (spListed K) := by
  refine F.ok sc_L_listed (fun vs H Q E h => ?_) (fun cdv A outer s H vs Q E hr h => ?_)
  · obtain ⟨a, r, zs, ts, rfl, _⟩ := h
    rfl
  · obtain ⟨a, r, zs, ts, rfl, hA, z6, hR, q⟩ := h
    have zl : (zs.map vN).length = zs.length := List.length_map ..
    refine ⟨_, (pss_cons (ps_set (i := 2) sc_L_listed.nd rfl (.inl rfl) (pe_lst pa_nil))
  (pss_cons (ps_for PassesOwn.never rfl (pi_range1 (by rfl) m_range (pa_cons (pe_callB call_len_seq (by rfl) m_len (by decide +kernel) (pa_cons (pv 0) pa_nil)) pa_nil)) (pg_name (i := 3) sc_L_listed.nd rfl (.inl rfl))
    (pss_one (ps_for PassesOwn.never rfl (pi_range1 (by rfl) m_range (pa_cons (pe_callB call_len_seq (by rfl) m_len (by decide +kernel) (pa_cons (pv 0) pa_nil)) pa_nil)) (pg_name (i := 4) sc_L_listed.nd rfl (.inl rfl))
    (pss_one (ps_if (pt_cmpR op_notN (pe_ix ix_list (pe_ix ix_list (pv 1) (pv 3) (fun _ _ => rfl)) (pv 4) (fun _ _ => rfl)) pe_non (nomark _)) (pss_one (ps_expr (pe_bm PySem.F.plainAttrs_list PySem.F.slot_list_append PySem.F.type_list_append mt_append (pv 2) (pa_cons (pe_tup (pa_cons (pe_ix ix_list (pv 0) (pv 3) (fun _ _ => rfl)) (pa_cons (pe_ix ix_list (pv 0) (pv 4) (fun _ _ => rfl)) (pa_cons (pe_ix ix_list (pe_ix ix_list (pv 1) (pv 3) (fun _ _ => rfl)) (pv 4) (fun _ _ => rfl)) pa_nil)))) pa_nil)))) pss_nil)))))
  (pss_one (ps_ret (pv 2))))), ?_⟩
    refine ⟨Nat.zero_le _, fun D nD => ?_⟩
    have s0 := same_upd (o := .lst []) nD
    refine ⟨_, rfl, _, _, rfl, .inl (s0.seq hA), _, rfl, by rw [zl]; omega, by rw [zl]; omega, for_range (fun i σ H' => ∃ (es : List Addr) (y1 y2 : Option V), σ = [some (.ref a), some (.ref r), some (.ref D), y1, y2] ∧ Same H H' ∧ H' D = some (.lst (es.map V.ref)) ∧ TiesAt H' es ((zs.take i).flatMap fun x => zs.filterMap (cellE ts x)) ∧ es.length ≤ 6 * i) ⟨[], _, _, rfl, s0, upd_same, ⟨rfl, fun _ _ h => nomatch h⟩, Nat.le_refl _⟩ ?_ ?_⟩
    · rintro i σ H2 hi ⟨es, y1, y2, rfl, s1, eD, hT, l1⟩
      have hi2 : i < zs.length := by rw [zl] at hi; omega
      have ez : zs[i]? = some zs[i] := List.getElem?_eq_getElem hi2
      refine ⟨_, rfl, _, _, rfl, .inl (s1.seq hA), _, rfl, by rw [zl]; omega, by rw [zl]; omega, for_range (fun j σ H' => ∃ (es : List Addr) (y2 : Option V), σ = [some (.ref a), some (.ref r), some (.ref D), some (.int (0 + (i : Int))), y2] ∧ Same H H' ∧ H' D = some (.lst (es.map V.ref)) ∧ TiesAt H' es (((zs.take i).flatMap fun x => zs.filterMap (cellE ts x)) ++ (zs.take j).filterMap (cellE ts zs[i])) ∧ es.length ≤ 6 * i + j) ⟨es, _, rfl, s1, eD, by rw [List.take_zero, List.filterMap_nil, List.append_nil]; exact hT, by omega⟩ ?_ ?_⟩
      · rintro j σ H3 hj ⟨es, y2, rfl, s3, eD3, hT3, l3⟩
        have hj2 : j < zs.length := by rw [zl] at hj; omega
        have ey : zs[j]? = some zs[j] := List.getElem?_eq_getElem hj2
        obtain ⟨rs, er, rr⟩ := hR.same s3
        obtain ⟨p, ap, hp⟩ := rows_at0 rr ez
        have ax := zs_at0 ez
        have ay := zs_at0 ey
        have ar := row_at0 (ts := ts) (x := zs[i]) ey
        have hA3 := s3.seq hA
        refine ⟨_, rfl, _, rfl, _, _, _, _, rfl, rfl, lstAt er, ap, _, rfl, _, _, _, _, rfl, rfl, lstAt hp, ar, rfl, _, rfl, ?_⟩
        rw [fm_snoc ey]
        cases e : leastE ts zs[i] zs[j] with
        | none =>
          refine iteF ⟨es, _, rfl, s3, eD3, ?_, by omega⟩
          rw [show cellE ts zs[i] zs[j] = none by unfold cellE; rw [e]; rfl]
          show TiesAt _ es (_ ++ (_ ++ []))
          rw [List.append_nil]
          exact hT3
        | some v =>
          rw [e] at ar
          refine iteT ?_
          refine ⟨_, rfl, .inl ⟨rfl, _, lstAt eD3⟩, _, rfl, _, rfl, _, _, _, _, rfl, rfl, hA3, ax, _, rfl, _, rfl, _, _, _, _, rfl, rfl, hA3, ay, _, rfl, _, rfl, _, _, _, _, rfl, rfl, lstAt er, ap, _, rfl, _, _, _, _, rfl, rfl, lstAt hp, ar, (show (3 : Nat) ≤ sizeLine by decide), fun t nt => ?_⟩
          have st := same_upd (o := .tup [vN zs[i], vN zs[j], .int v]) nt
          have tD : t ≠ D := (ne_of_none eD3 nt).symm
          have eD5 := st _ _ eD3
          refine ⟨_, _, _, rfl, rfl, eD5, by rw [List.length_map]; exact small1000 (by omega), es ++ [t], _, rfl, same_at (s3.trans st) nD, by rw [List.map_append]; exact upd_same, ?_, by rw [List.length_append]; simp only [List.length_singleton]; omega⟩
          rw [show cellE ts zs[i] zs[j] = some (zs[i], zs[j], v) by unfold cellE; rw [e]; rfl, ← List.append_assoc]
          refine TiesAt.snoc (H := upd (upd H3 t (.tup [vN zs[i], vN zs[j], .int v])) D (.lst (es.map V.ref ++ [.ref t]))) ⟨hT3.1, fun m e he => ?_⟩ (Same.refl _) ?_
          · obtain ⟨t', h1, h2⟩ := hT3.2 m e he
            have h3 := st _ _ h2
            exact ⟨t', h1, by show _ = _; rw [upd_ne (ne_of h3 eD5 (by intro z; cases z))]; exact h3⟩
          · show _ = _
            rw [upd_ne tD]; exact upd_same
      · rintro σ H3 ⟨es, y2, rfl, s3, eD3, hT3, l3⟩
        have hl : (((zs.map vN).length : Nat) : Int).toNat = zs.length := by rw [zl]; rfl
        rw [hl, List.take_length] at hT3
        rw [hl] at l3
        refine ⟨es, _, _, rfl, s3, eD3, ?_, by omega⟩
        rw [List.take_add_one, ez, List.flatMap_append]
        show TiesAt H3 es (_ ++ List.flatMap _ [zs[i]])
        rw [List.flatMap_singleton]
        exact hT3
    · rintro σ H2 ⟨es, y1, y2, rfl, s1, eD, hT, l1⟩
      rw [show (((zs.map vN).length : Nat) : Int).toNat = zs.length by rw [zl]; rfl, List.take_length] at hT
      exact ⟨_, rfl, q _ D es nD s1 eD hT (by rw [show (((zs.map vN).length : Nat) : Int).toNat = zs.length by rw [zl]; rfl] at l1; omega)⟩
end
end TK

namespace TK
open PySem PySem.Spec PyProof.Rows L2
theorem kit_self {K : PySem.W.Frag} {C : Addr} : PySem.W.kitOne K (.ref C) (.ref C) = some true := by
  unfold PySem.W.kitOne
  rw [if_pos (beq_self_eq_true _)]
abbrev s_Tolls_eq : Stmt := inClass (topS 22) 7
theorem sc_Tolls_eq : FnScope ["self", "other"] ["self", "other"] (defScope s_Tolls_eq) := ⟨rfl, rfl, rfl, by decide +kernel, rfl, by decide +kernel, by decide +kernel⟩
theorem eq_flat {H : Hp} {t u : Addr} {xs : List V} (h1 : TL H t xs) (h2 : TL H u xs) (hl : xs.length ≤ 1000) (fl : ∀ x ∈ xs, flat1 x = true) (n : Nat) : Eq2 H (n + 1) (.ref t) (.ref u) := by
  refine .inr ⟨t, u, _, _, rfl, rfl, .inr ⟨h1, h2⟩, rfl, by omega, fun i x y hx hy => ?_⟩
  rw [hx] at hy
  have e := Option.some.inj hy
  have f := fl x (List.mem_of_getElem? hx)
  cases n with
  | zero => exact ⟨e, f⟩
  | succ n => exact .inl ⟨e, f⟩
theorem fl_nm {zs : List Nam} : ∀ x ∈ zs.map vN, flat1 x = true := fun x hx => by
  obtain ⟨z, _, rfl⟩ := List.mem_map.mp hx
  rfl
theorem fl_capI (x : Option Int) : flat1 (capI x) = true := by cases x <;> rfl
theorem eq_tiesL {H : Hp} {t u : Addr} {es fs : List Addr} {ts : List Tie} (h1 : H t = some (.lst (es.map V.ref))) (h2 : H u = some (.lst (fs.map V.ref))) (a : TiesAt H es ts) (b : TiesAt H fs ts) (hl : es.length ≤ 10000) : Eq2 H 2 (.ref t) (.ref u) := by
  refine .inr ⟨t, u, _, _, rfl, rfl, .inl ⟨h1, h2⟩, by rw [List.length_map, List.length_map, a.1, b.1], by rw [List.length_map]; omega, fun i x y hx hy => ?_⟩
  obtain ⟨e, k, rfl, _, ek, hk⟩ := ties_at a hx
  obtain ⟨e', k', rfl, _, ek', hk'⟩ := ties_at b hy
  have : k = k' := Option.some.inj (ek.symm.trans ek')
  subst this
  refine eq_flat (.inl hk) (.inl hk') (show (3 : Nat) ≤ 1000 by decide) (fun x hx => ?_) 0
  rcases List.mem_cons.mp hx with rfl | hx
  · rfl
  rcases List.mem_cons.mp hx with rfl | hx
  · rfl
  rcases List.mem_cons.mp hx with rfl | hx
  · rfl
  · cases hx
theorem fldsT_none (a b : Addr) : (fldsT a b).lookup ("entries" : Str) = none := by
  unfold fldsT
  rw [lookup_putF, if_neg (by decide +kernel), lookup_putF, if_neg (by decide +kernel)]
  rfl
theorem nmH_ok {l : List Nat} (h : NmH l) : PyData.strOk (sOf l) = true := by
  show (sOf l).cps.all (· < 0x110000) = true
  rw [← Array.all_toList, sOf_codes, List.all_eq_true]
  intro c hc
  rcases h with h | rfl
  · have := h.2.2 c hc
    exact decide_eq_true (by omega)
  · cases hc
theorem namesH_dp {K : PySem.W.Frag} {H : Hp} : ∀ {zs : List (List Nat)}, (∀ z ∈ zs, NmH z) → DpAll K H (zs.map vN) (zs.map fun z => PyData.str (sOf z)) ∧ PyData.canLayAll0 (zs.map fun z => PyData.str (sOf z)) = true ∧ PyData.depthAll (zs.map fun z => PyData.str (sOf z)) ≤ 1
  | [], _ => ⟨.nil, by simp [PyData.canLayAll0], by simp [PyData.depthAll]⟩
  | z :: zs, ok => by
    obtain ⟨h1, h3, h4⟩ := namesH_dp (K := K) (H := H) (zs := zs) fun c hc => ok c (List.mem_cons_of_mem _ hc)
    refine ⟨.cons (.str _) h1, ?_, ?_⟩
    · simp only [List.map_cons, PyData.canLayAll0, PyData.canLay0, Bool.and_eq_true]
      exact ⟨nmH_ok (ok z (List.mem_cons_self ..)), h3⟩
    · simp only [List.map_cons, PyData.depthAll, PyData.depth]
      omega
theorem nmT_lay {ds : List PyData} (h3 : PyData.canLayAll0 ds = true) : (PyData.tuple ds).canLay0 = true := by simp only [PyData.canLay0, h3]
theorem nmT_shape {ds : List PyData} (h3 : PyData.canLayAll0 ds = true) (h4 : PyData.depthAll ds ≤ 1) : SeqAt.shaped (.tuple ds) = true := by
  show ((PyData.tuple ds).canLay0 && decide ((PyData.tuple ds).depth ≤ 64)) = true
  rw [nmT_lay h3, show (PyData.tuple ds).depth = PyData.depthAll ds + 1 by simp only [PyData.depth]]
  exact decide_eq_true (by omega)
/-! the keys of two dicts with the same prices -/
theorem nd_lenK {α : Type} [DecidableEq α] {p zs : List α} (h : p.Nodup) (s : ∀ w ∈ p, w ∈ zs) : p.length ≤ zs.length := by
  induction p generalizing zs with
  | nil => exact Nat.zero_le _
  | cons a p ih =>
    have ha := s a List.mem_cons_self
    obtain ⟨n1, n2⟩ := List.nodup_cons.mp h
    have := ih (zs := zs.erase a) n2 fun w hw => (List.mem_erase_of_ne (fun e => n1 (by rw [← e]; exact hw))).mpr (s w (List.mem_cons_of_mem _ hw))
    rw [List.length_erase_of_mem ha] at this
    have hp : 0 < zs.length := List.length_pos_of_mem ha
    simp only [List.length_cons]
    omega
theorem val_mem {kvs : List (List Key × V)} {k : List Key} {v : V} (h : valV kvs k = some v) : k ∈ kvs.map (·.1) := by
  unfold valV at h
  obtain ⟨p, hp, _⟩ := Option.map_eq_some_iff.mp h
  have := List.find?_some hp
  exact List.mem_map.mpr ⟨p, List.mem_of_find?_eq_some hp, of_decide_eq_true this⟩
theorem kvE_val {ks ls : List (List Key × V)} {ts us : List Tie} (a : KvE ks ts) (b : KvE ls us) (e : ∀ x y, leastE ts x y = leastE us x y) : ∀ p ∈ ks, valV ls p.1 = some p.2 ∧ flatB p.2 = true := by
  intro p hp
  have hv := val_nodup a.nd p hp
  obtain ⟨x, y, v, rfl⟩ := a.ks p hp
  refine ⟨?_, rfl⟩
  rw [b.at_, ← e, ← a.at_]
  exact hv
theorem kvE_len2 {ks ls : List (List Key × V)} {ts us : List Tie} (a : KvE ks ts) (b : KvE ls us) (e : ∀ x y, leastE ts x y = leastE us x y) : ks.length = ls.length := by
  refine Nat.le_antisymm ?_ ?_
  · have := nd_lenK a.nd (zs := ls.map (·.1)) fun w hw => by
      obtain ⟨p, hp, rfl⟩ := List.mem_map.mp hw
      exact val_mem (kvE_val a b e p hp).1
    rwa [List.length_map, List.length_map] at this
  · have := nd_lenK b.nd (zs := ks.map (·.1)) fun w hw => by
      obtain ⟨p, hp, rfl⟩ := List.mem_map.mp hw
      exact val_mem (kvE_val b a (fun x y => (e x y).symm) p hp).1
    rwa [List.length_map, List.length_map] at this
section
variable {P : Program} {w : World} {K : PySem.W.Frag} {mg : Str → Option Value} {base : Heap}
/-! Tolls == Tolls -/
def spEqT (K : PySem.W.Frag) (C : Addr) : Sp := fun vs H Q _ => ∃ (p p' : Addr) (zs : List Nam) (ts us : List Tie), vs = [.ref p, .ref p'] ∧ TkAt K C H p zs ts ∧ TkAt K C H p' zs us ∧ NsOk zs ∧ (∀ x y, leastE ts x y = leastE us x y) ∧ Q (.bl true) H
theorem ok_Tolls_eq {f C : Addr} {fd : FuncData} (F : Fun K "__eq__" "Tolls.__eq__" s_Tolls_eq f fd) (T : TxtT K C) (m_isinstance : mg "isinstance" = none) (mg_Tolls : mg "Tolls" = some (.ref C))
    (ha : PySem.W.findIn K (.ref C) "__class__" = some (some (.builtin "object.__class__"))) (hn : PySem.W.specialIn K (.builtin "object.__class__") "__get__" = some (some (.builtin "getset_descriptor.__get__")))
    (htk : PySem.W.takesIn K (.builtin "object.__class__") = some true) (hm : PySem.W.mroIn K C (.type "object") = some true) : FnOk P w K mg base CX0 1 f fd ["self", "other"] (spEqT K C) := by
  refine F.ok sc_Tolls_eq (fun vs H Q E h => ?_) (fun cdv A outer s H vs Q E hr h => ?_)
  · obtain ⟨p, p', zs, ts, us, rfl, _⟩ := h
    rfl
  · obtain ⟨p, p', zs, ts, us, rfl, ⟨dx, a, d, kvs, hp, hA, hd, kv, kl⟩, ⟨dx', a', d', kvs', hp', hA', hd', kv', kl'⟩, nok, e, q⟩ := h
    refine ⟨_, (pss_one (ps_ret (pe_and (pe_callB call_isi (by rfl) m_isinstance (by decide +kernel) (pa_cons (pv 1) (pa_cons (pe_glob (v := .ref C) (u := .ref C) (by rfl) mg_Tolls rfl) pa_nil))) (pe_and (pe_cmpR (op_eqD hr.units) (pe_fld (pv 0) rfl) (pe_fld (pv 1) rfl) (nomark _)) (pe_one (pe_cmpR (op_eq_dictT (hu_of hr)) (pe_fld (pv 0) rfl) (pe_fld (pv 1) rfl) (nomark _))))))), ?_⟩
    refine ⟨_, rfl, _, _, _, _, true, rfl, .own C, .base (.ins hp' T.cl ha hn htk hm), kit_self, _, rfl, iteT ?_⟩
    obtain ⟨d1, d3, d4⟩ := namesH_dp (K := K) (H := H) nok.nm
    refine ⟨_, rfl, p, C, dx, _, _, rfl, hp, T.cl, T.nN, fldsT_names _ _, _, rfl, p', C, dx', _, _, rfl, hp', T.cl, T.nN, fldsT_names _ _, .tuple _, .tuple _, .tup hA.sq d1, .tup hA'.sq d1, nmT_shape d3 d4, nmT_shape d3 d4, _, rfl, ?_⟩
    rw [SeqAt.eqv_refl _ (nmT_lay d3)]
    refine iteT ⟨_, rfl, p, C, dx, _, _, rfl, hp, T.cl, T.nP, fldsT_prices _ _, _, rfl, p', C, dx', _, _, rfl, hp', T.cl, T.nP, fldsT_prices _ _, ?_⟩
    exact ⟨d, d', kvs, kvs', rfl, rfl, hd, hd', kvE_len2 kv kv' e, kvE_val kv kv' e, q⟩
/-! _law_keeps -/
def spKeeps (K : PySem.W.Frag) (C : Addr) : Sp := fun vs H Q _ => ∃ (p c r : Addr) (zs : List Nam) (ts : List Tie), vs = [.ref p, .ref c, .ref r] ∧ TkAt K C H p zs ts ∧ H c = some (.lst (zs.map vN)) ∧ RowsAt H r zs ts ∧ NsOk zs ∧ ∀ H', Same H H' → Q (.bl true) H'
theorem ok_L_keeps {f C gG gE : Addr} {fd fdG fdE : FuncData} (F : Fun K "_law_keeps" "_law_keeps" s_L_keeps f fd) (T : TxtT K C) (m_tuple : mg "tuple" = none) (m_len : mg "len" = none) (m_range : mg "range" = none)
    (d_L_same : Def P w K mg base "_law_same" 4 ["_law_got", "_law_wanted"] (spSame 2)) (d_L_listed : Def P w K mg base "_law_listed" 1 ["_law_words_here", "_law_rows_here"] (spListed K))
    (O_getitem : Own K C "__getitem__" gG) (cf_getitem : PySem.W.fnIn K gG = true) (G_getitem : FnOk P w K mg base CX0 2 gG fdG ["self", "at"] (spGetT K C)) (b_getitem : Binds K fdG ["self", "at"] [])
    (Me_entries : Meth K C "entries" gE) (G_entries : FnOk P w K mg base CX0 1 gE fdE ["self"] (spEntries K C)) (b_entries : Binds K fdE ["self"] []) :
    FnOk P w K mg base CX0 5 f fd ["_law_table", "_law_words_here", "_law_rows_here"] (spKeeps K C) := by
  refine F.ok sc_L_keeps (fun vs H Q E h => ?_) (fun cdv A outer s H vs Q E hr h => ?_)
  · obtain ⟨p, c, r, zs, ts, rfl, _⟩ := h
    rfl
  · obtain ⟨p, c, r, zs, ts, rfl, tk, hc, hR, nok, q⟩ := h
    obtain ⟨dx, a, d, kvs, hp, hA, hd, kv, kl⟩ := id tk
    have z6 := nok.l6
    have zl : (zs.map vN).length = zs.length := List.length_map ..
    refine ⟨_, (pss_cons (ps_if (pt_not (pt_val (pe_callD d_L_same (hr.mono (by decide)) (by rfl) (pa_cons (pe_fld (pv 0) rfl) (pa_cons (pe_callTy call_tuple_of (by rfl) m_tuple (by decide +kernel) (pa_cons (pv 1) pa_nil)) pa_nil))))) (pss_one (ps_ret pe_bl)) pss_nil)
  (pss_cons (ps_for PassesOwn.never rfl (pi_range1 (by rfl) m_range (pa_cons (pe_callB call_len_seq (by rfl) m_len (by decide +kernel) (pa_cons (pv 1) pa_nil)) pa_nil)) (pg_name (i := 3) sc_L_keeps.nd rfl (.inl rfl))
    (pss_one (ps_for PassesOwn.never rfl (pi_range1 (by rfl) m_range (pa_cons (pe_callB call_len_seq (by rfl) m_len (by decide +kernel) (pa_cons (pv 1) pa_nil)) pa_nil)) (pg_name (i := 4) sc_L_keeps.nd rfl (.inl rfl))
    (pss_one (ps_if (pt_not (pt_val (pe_callD d_L_same (hr.mono (by decide)) (by rfl) (pa_cons (pe_ixOwn O_getitem cf_getitem G_getitem (hr.mono (by decide)) b_getitem pass0 (pv 0) (pe_tup (pa_cons (pe_ix ix_list (pv 1) (pv 3) (fun _ _ => rfl)) (pa_cons (pe_ix ix_list (pv 1) (pv 4) (fun _ _ => rfl)) pa_nil))) (fun _ _ => rfl)) (pa_cons (pe_ix ix_list (pe_ix ix_list (pv 2) (pv 3) (fun _ _ => rfl)) (pv 4) (fun _ _ => rfl)) pa_nil))))) (pss_one (ps_ret pe_bl)) pss_nil)))))
  (pss_one (ps_ret (pe_callD d_L_same (hr.mono (by decide)) (by rfl) (pa_cons (pe_meth0 (pv 0) T.cl Me_entries G_entries (hr.mono (by decide)) b_entries .nil pass0) (pa_cons (pe_callD d_L_listed (hr.mono (by decide)) (by rfl) (pa_cons (pv 1) (pa_cons (pv 2) pa_nil))) pa_nil))))))), ?_⟩
    refine ⟨_, rfl, p, C, dx, _, _, rfl, hp, T.cl, T.nN, fldsT_names _ _, _, rfl, c, _, rfl, .inl ⟨lstAt hc, fun t nt => ?_⟩⟩
    have s1 := same_upd (o := .tup (zs.map vN)) nt
    refine ⟨_, _, rfl, eq_flat (hA.same s1) (.inl upd_same) (by rw [zl]; omega) fl_nm 1, _, rfl, iteF ?_⟩
    refine ⟨_, rfl, _, _, rfl, .inl (lstAt (s1 _ _ hc)), _, rfl, by rw [zl]; omega, by rw [zl]; omega, for_range (fun i σ H' => Same H H' ∧ ∃ y1 y2 : Option V, σ = [some (.ref p), some (.ref c), some (.ref r), y1, y2]) ⟨s1, _, _, rfl⟩ ?_ ?_⟩
    · rintro i σ H2 hi ⟨s2, y1, y2, rfl⟩
      have hi2 : i < zs.length := by rw [zl] at hi; omega
      have ez : zs[i]? = some zs[i] := List.getElem?_eq_getElem hi2
      refine ⟨_, rfl, _, _, rfl, .inl (lstAt (s2 _ _ hc)), _, rfl, by rw [zl]; omega, by rw [zl]; omega, for_range (fun j σ H' => Same H H' ∧ ∃ y2 : Option V, σ = [some (.ref p), some (.ref c), some (.ref r), some (.int (0 + (i : Int))), y2]) ⟨s2, _, rfl⟩ ?_ ?_⟩
      · rintro j σ H3 hj ⟨s3, y2, rfl⟩
        have hj2 : j < zs.length := by rw [zl] at hj; omega
        have ey : zs[j]? = some zs[j] := List.getElem?_eq_getElem hj2
        have ax := zs_at0 ez
        have ay := zs_at0 ey
        have ar := row_at0 (ts := ts) (x := zs[i]) ey
        have hc3 := s3 _ _ hc
        refine ⟨_, rfl, _, rfl, _, rfl, _, _, _, _, rfl, rfl, lstAt hc3, ax, _, rfl, _, rfl, _, _, _, _, rfl, rfl, lstAt hc3, ay, (show (2 : Nat) ≤ sizeLine by decide), fun k nk => ?_⟩
        have s4 := s3.trans (same_upd (o := .tup [vN zs[i], vN zs[j]]) nk)
        refine ⟨⟨p, dx, _, rfl, s4 _ _ hp⟩, p, k, zs, ts, zs[i], zs[j], rfl, tk.same s4, upd_same, List.getElem_mem hi2, List.getElem_mem hj2, fun H5 s5 => ?_⟩
        have s6 := s4.trans s5
        obtain ⟨rs, er, rr⟩ := hR.same s6
        obtain ⟨p2, ap, hp2⟩ := rows_at0 rr ez
        exact ⟨_, rfl, _, rfl, _, _, _, _, rfl, rfl, lstAt er, ap, _, rfl, _, _, _, _, rfl, rfl, lstAt hp2, ar, _, _, rfl, .inl ⟨rfl, fl_capI _⟩, _, rfl, iteF ⟨s6, _, rfl⟩⟩
      · rintro σ H3 ⟨s3, y2, rfl⟩
        exact ⟨s3, _, _, rfl⟩
    · rintro σ H2 ⟨s2, y1, y2, rfl⟩
      refine ⟨_, rfl, p, dx, _, rfl, s2 _ _ hp, fldsT_none _ _, p, zs, ts, rfl, tk.same s2, z6, fun H3 t es nt s3 et tt t36 => ?_⟩
      have s23 := s2.trans s3
      refine ⟨_, rfl, _, rfl, c, r, zs, ts, rfl, lstAt (s23 _ _ hc), z6, hR.same s23, fun H4 t2 es2 nt2 s4 et2 tt2 t362 => ?_⟩
      exact ⟨_, _, rfl, eq_tiesL (s4 _ _ et) et2 (tt.same s4) tt2 (by omega), q _ (s23.trans s4)⟩
end
end TK

namespace TK
open PySem PySem.Spec PyProof.Rows L2
section
variable {X : Cx}
/-- x is not True, x is not False: x a bool -/
theorem op_notBl : OpR X (compareOp .IsNot) (fun x y H Q => ∃ a b : Bool, x = .bl a ∧ y = .bl b ∧ Q (.bl (!decide (a = b))) H) := by
  intro pins s σ H x y v u Q I rx ry h
  obtain ⟨a, b, rfl, rfl, q⟩ := h
  cases (show v = Value.bool a from rx)
  cases (show u = Value.bool b from ry)
  by_cases e : a = b
  · subst e
    exact wpAny_isNot_self rfl ⟨.bl false, H, I, rfl, by simpa using q⟩
  · exact wpAny_isNot_other rfl (fun z => e (Value.bool.inj z)) ⟨.bl true, H, I, rfl, by simpa [e] using q⟩
end
/-! the same prices of other entries -/
theorem leastE_ext {ts us : List Tie} {x y : Nam} (h : ∀ u, u ∈ valsE ts x y ↔ u ∈ valsE us x y) : leastE ts x y = leastE us x y := by
  cases e1 : leastE ts x y with
  | none =>
    cases e2 : leastE us x y with
    | none => rfl
    | some m =>
      have := (h m).mpr (leastE_some e2).1
      rw [leastE_none e1] at this
      cases this
  | some m =>
    obtain ⟨a1, a2⟩ := leastE_some e1
    cases e2 : leastE us x y with
    | none =>
      have := (h m).mp a1
      rw [leastE_none e2] at this
      cases this
    | some k =>
      obtain ⟨b1, b2⟩ := leastE_some e2
      have l1 := a2 k ((h k).mpr b1)
      have l2 := b2 m ((h m).mp a1)
      rw [Int.le_antisymm l1 l2]
theorem vals_mem {ts : List Tie} {x y : Nam} {u : Int} : u ∈ valsE ts x y ↔ (x, y, u) ∈ ts := by
  unfold valsE
  constructor
  · intro h
    obtain ⟨t, ht, rfl⟩ := List.mem_map.mp h
    obtain ⟨h1, h2⟩ := List.mem_filter.mp ht
    obtain ⟨rfl, rfl⟩ := of_decide_eq_true h2
    exact h1
  · intro h
    exact List.mem_map.mpr ⟨(x, y, u), List.mem_filter.mpr ⟨h, decide_eq_true ⟨rfl, rfl⟩⟩, rfl⟩
theorem least_rev {ts : List Tie} (x y : Nam) : leastE ts x y = leastE ts.reverse x y := leastE_ext fun u => by rw [vals_mem, vals_mem, List.mem_reverse]
theorem listE_mem {zs : List Nam} {ts : List Tie} {x y : Nam} {u : Int} : (x, y, u) ∈ listE zs ts ↔ x ∈ zs ∧ y ∈ zs ∧ leastE ts x y = some u := by
  unfold listE
  constructor
  · intro h
    obtain ⟨x', hx, h⟩ := List.mem_flatMap.mp h
    obtain ⟨y', hy, h⟩ := List.mem_filterMap.mp h
    unfold cellE at h
    obtain ⟨v, hv, e⟩ := Option.map_eq_some_iff.mp h
    cases e
    exact ⟨hx, hy, hv⟩
  · rintro ⟨hx, hy, e⟩
    exact List.mem_flatMap.mpr ⟨x, hx, List.mem_filterMap.mpr ⟨y, hy, by unfold cellE; rw [e]; rfl⟩⟩
theorem least_in {zs : List Nam} {ts : List Tie} (ok : EOk zs ts) {x y : Nam} {u : Int} (h : leastE ts x y = some u) : x ∈ zs ∧ y ∈ zs ∧ 0 ≤ u := by
  have := vals_mem.mp (leastE_some h).1
  exact ⟨ok.a _ this, ok.b _ this, ok.h0 _ this⟩
theorem least_list {zs : List Nam} {ts : List Tie} (ok : EOk zs ts) (x y : Nam) : leastE ts x y = leastE (listE zs ts) x y := by
  cases e : leastE ts x y with
  | none =>
    cases e2 : leastE (listE zs ts) x y with
    | none => rfl
    | some m =>
      have := (listE_mem.mp (vals_mem.mp (leastE_some e2).1)).2.2
      rw [e] at this
      cases this
  | some m =>
    obtain ⟨hx, hy, _⟩ := least_in ok e
    have hm : m ∈ valsE (listE zs ts) x y := vals_mem.mpr (listE_mem.mpr ⟨hx, hy, e⟩)
    cases e2 : leastE (listE zs ts) x y with
    | none => rw [leastE_none e2] at hm; cases hm
    | some k =>
      have := (listE_mem.mp (vals_mem.mp (leastE_some e2).1)).2.2
      rw [e] at this
      exact this
theorem listE_ok {zs : List Nam} {ts : List Tie} (ok : EOk zs ts) : EOk zs (listE zs ts) :=
  ⟨fun t m => ((listE_mem (x := t.1) (y := t.2.1) (u := t.2.2)).mp m).1, fun t m => ((listE_mem (x := t.1) (y := t.2.1) (u := t.2.2)).mp m).2.1, fun t m => (least_in ok ((listE_mem (x := t.1) (y := t.2.1) (u := t.2.2)).mp m).2.2).2.2⟩
theorem EOk.rev {zs : List Nam} {ts : List Tie} (ok : EOk zs ts) : EOk zs ts.reverse := ⟨fun t m => ok.a t (List.mem_reverse.mp m), fun t m => ok.b t (List.mem_reverse.mp m), fun t m => ok.h0 t (List.mem_reverse.mp m)⟩
theorem TiesAt.rev {H : Hp} {es : List Addr} {ts : List Tie} (h : TiesAt H es ts) : TiesAt H es.reverse ts.reverse := by
  refine ⟨by rw [List.length_reverse, List.length_reverse, h.1], fun i e he => ?_⟩
  have hi := (List.getElem?_eq_some_iff.mp he).1
  rw [List.length_reverse] at hi
  rw [List.getElem?_reverse hi] at he
  obtain ⟨t, h1, h2⟩ := h.2 _ e he
  exact ⟨t, by rw [List.getElem?_reverse (by rw [← h.1]; exact hi), ← h.1]; exact h1, h2⟩
theorem TkAt.wrote {K : PySem.W.Frag} {C : Addr} {H : Hp} {p D : Addr} {zs : List Nam} {ts : List Tie} {xs : List V} {o : HO} (h : TkAt K C H p zs ts) (e : H D = some (.lst xs)) : TkAt K C (upd H D o) p zs ts := by
  obtain ⟨dx, a, d, kvs, h1, h2, h3, h4, h5⟩ := h
  refine ⟨dx, a, d, kvs, ?_, ?_, ?_, h4, h5⟩
  · rw [upd_ne (ne_of h1 e (by intro z; cases z))]; exact h1
  · rcases h2 with h2 | ⟨ob, h2⟩
    · exact .inl (by rw [upd_ne (ne_of h2 e (by intro z; cases z))]; exact h2)
    · exact .inr ⟨ob, by rw [upd_ne (ne_of h2 e (by intro z; cases z))]; exact h2⟩
  · rw [upd_ne (ne_of h3 e (by intro z; cases z))]; exact h3
/-- a table is made -/
theorem make_go {K : PySem.W.Frag} {C : Addr} {H : Hp} {x dx a b : Addr} {zs : List Nam} {es : List Addr} {ts : List Tie} {R : Hp → Prop} {E : XK} (n1 : H x = none) (n2 : H dx = none) (ne : dx ≠ x) (hA : SqL K H a (zs.map vN) ∨ TL H a (zs.map vN)) (hB : SqS K H b (es.map V.ref)) (hT : TiesAt H es ts) (nok : NsOk zs) (eok : EOk zs ts) (l4 : ts.length ≤ 10000)
    (k : ∀ H', TkAt K C H' x zs ts → Same H H' → R H') : spInitT K C [.ref x, .ref a, .ref b] (upd (upd H dx (.own x)) x (.ins C dx [])) (fun v H2 => v = .non ∧ R H2) E := by
  have sdx := same_upd (o := .own x) n2
  have nmm : (upd H dx (.own x)) x = none := by rw [upd_ne ne.symm]; exact n1
  have sm := sdx.trans (same_upd (o := .ins C dx []) nmm)
  exact ⟨x, a, b, dx, zs, es, ts, rfl, upd_same, hA.elim (fun h => .inl (sm.seq h)) (fun h => .inr (h.same sm)), hB.same sm, hT.same sm, nok, eok, l4, fun H' tk fr => ⟨rfl, k H' tk fun c o e => fr c o (sm _ _ e) (ne_of_none e n1)⟩⟩
theorem TiesAt.app {H : Hp} {es fs : List Addr} {ts us : List Tie} (h : TiesAt H es ts) (k : TiesAt H fs us) : TiesAt H (es ++ fs) (ts ++ us) := by
  refine ⟨by rw [List.length_append, List.length_append, h.1, k.1], fun i e he => ?_⟩
  by_cases hi : i < es.length
  · rw [List.getElem?_append_left hi] at he
    obtain ⟨t, h1, h2⟩ := h.2 i e he
    exact ⟨t, by rw [List.getElem?_append_left (by rw [← h.1]; exact hi)]; exact h1, h2⟩
  · rw [List.getElem?_append_right (by omega)] at he
    obtain ⟨t, h1, h2⟩ := k.2 _ e he
    exact ⟨t, by rw [List.getElem?_append_right (by rw [← h.1]; omega), ← h.1]; exact h1, h2⟩
theorem ixN_zero {n : Nat} (h : 0 < n) : ixN n 0 = some 0 := by
  unfold ixN
  rw [if_pos (Int.le_refl 0), if_pos (by omega)]
  rfl
theorem eq_flatL {H : Hp} {t u : Addr} {xs : List V} (h1 : H t = some (.lst xs)) (h2 : H u = some (.lst xs)) (hl : xs.length ≤ 1000) (fl : ∀ x ∈ xs, flat1 x = true) (n : Nat) : Eq2 H (n + 1) (.ref t) (.ref u) := by
  refine .inr ⟨t, u, _, _, rfl, rfl, .inl ⟨h1, h2⟩, rfl, by omega, fun i x y hx hy => ?_⟩
  rw [hx] at hy
  have e := Option.some.inj hy
  have f := fl x (List.mem_of_getElem? hx)
  cases n with
  | zero => exact ⟨e, f⟩
  | succ n => exact .inl ⟨e, f⟩
theorem cut_from_l (xs : List V) (i : Nat) : cutV xs (some ((i : Nat) : Int)) none = xs.drop i := by
  unfold cutV
  rw [HT.sIx_nat]
  have e : HT.sIx xs.length xs.length none = xs.length := rfl
  rw [e]
  by_cases h : i ≤ xs.length
  · rw [Nat.min_eq_left h, List.take_of_length_le (by rw [List.length_drop]; exact Nat.le_refl _)]
  · rw [Nat.min_eq_right (by omega), List.drop_length, List.drop_of_length_le (by omega), List.take_nil]
theorem TiesAt.wrote {H : Hp} {D : Addr} {es : List Addr} {ts : List Tie} {xs : List V} {o : HO} (h : TiesAt H es ts) (e : H D = some (.lst xs)) : TiesAt (upd H D o) es ts := ⟨h.1, fun i a ha => by
  obtain ⟨t, h1, h2⟩ := h.2 i a ha
  exact ⟨t, h1, by show _ = _; rw [upd_ne (ne_of h2 e (by intro z; cases z))]; exact h2⟩⟩
theorem EW.cat {H0 H H1 : Hp} {D q : Addr} {zs : List Nam} {es fs : List Addr} {ts us : List Tie} (h : EW H0 H D zs es ts) (n : H0 D = none) (k : EW H H1 q zs fs us) : EW H0 (upd H1 D (.lst (es.map V.ref ++ fs.map V.ref))) D zs (es ++ fs) (ts ++ us) :=
  ⟨same_at (h.s.trans k.s) n, by rw [List.map_append]; exact upd_same, ((h.t.same k.s).app k.t).wrote (k.s _ _ h.d), h.o.app k.o⟩
theorem last_at {zs : List Nam} (h : 1 ≤ zs.length) : ∃ z, atI (zs.map vN) (-1) = some (vN z) := by
  have hl : zs.length - 1 < zs.length := by omega
  refine ⟨zs[zs.length - 1], ?_⟩
  unfold atI ixN
  rw [if_neg (by decide), if_pos (by rw [List.length_map]; omega)]
  show (zs.map vN)[((-1 : Int) + ((zs.map vN).length : Nat)).toNat]? = _
  rw [List.length_map, show ((-1 : Int) + (zs.length : Nat)).toNat = zs.length - 1 by omega, List.getElem?_map, List.getElem?_eq_getElem hl]
  rfl
theorem first_at {zs : List Nam} (h : 1 ≤ zs.length) : ∃ z, atI (zs.map vN) 0 = some (vN z) := by
  refine ⟨zs[0], atI_in (by decide) ?_⟩
  rw [show (0 : Int).toNat = 0 from rfl, List.getElem?_map, List.getElem?_eq_getElem (show 0 < zs.length by omega)]
  rfl
theorem eq_pass {H : Hp} {L M l1 l2 c D : Addr} {zs : List Nam} {es : List Addr} {ts : List Tie} (hL : H L = some (.lst [V.ref l1, .ref l2])) (hM : H M = some (.lst [V.ref c, .ref D])) (h1 : H l1 = some (.lst (zs.map vN))) (h2 : H c = some (.lst (zs.map vN))) (h3 : H l2 = some (.lst (es.map V.ref))) (h4 : H D = some (.lst (es.map V.ref))) (hT : TiesAt H es ts) (z6 : zs.length ≤ 6) (l4 : es.length ≤ 10000) : Eq2 H 3 (.ref L) (.ref M) := by
  refine .inr ⟨L, M, _, _, rfl, rfl, .inl ⟨hL, hM⟩, rfl, (show (2 : Nat) < 2 ^ 40 by decide), fun i x y hx hy => ?_⟩
  match i, hx, hy with
  | 0, hx, hy =>
    cases Option.some.inj hx; cases Option.some.inj hy
    exact eq_flatL h1 h2 (by rw [List.length_map]; omega) fl_nm 1
  | 1, hx, hy =>
    cases Option.some.inj hx; cases Option.some.inj hy
    exact eq_tiesL h3 h4 hT hT l4
  | i + 2, hx, _ => simp at hx
end TK

namespace TK
open PySem PySem.Spec PyProof.Rows L2
/-! least of a set of numbers, or none -/
def IsMin (o : Option Int) (S : Int → Prop) : Prop := (∀ m, o = some m → S m ∧ ∀ v, S v → m ≤ v) ∧ (o = none → ∀ v, ¬ S v)
theorem IsMin.uniq {o p : Option Int} {S : Int → Prop} (h : IsMin o S) (k : IsMin p S) : o = p := by
  cases o with
  | none =>
    cases p with
    | none => rfl
    | some m => exact absurd (k.1 m rfl).1 (h.2 rfl m)
  | some n =>
    cases p with
    | none => exact absurd (h.1 n rfl).1 (k.2 rfl n)
    | some m => exact congrArg some (Int.le_antisymm ((h.1 n rfl).2 _ (k.1 m rfl).1) ((k.1 m rfl).2 _ (h.1 n rfl).1))
theorem IsMin.congr {o : Option Int} {S T : Int → Prop} (h : IsMin o S) (e : ∀ v, S v ↔ T v) : IsMin o T :=
  ⟨fun m hm => ⟨(e m).mp (h.1 m hm).1, fun v hv => (h.1 m hm).2 v ((e v).mpr hv)⟩, fun hn v hv => h.2 hn v ((e v).mpr hv)⟩
/-- a larger set that is not below -/
theorem IsMin.dom {o : Option Int} {S T : Int → Prop} (h : IsMin o S) (a : ∀ v, S v → T v) (b : ∀ v, T v → ∃ v', S v' ∧ v' ≤ v) : IsMin o T := by
  refine ⟨fun m hm => ⟨a m (h.1 m hm).1, fun v hv => ?_⟩, fun hn v hv => ?_⟩
  · obtain ⟨v', h1, h2⟩ := b v hv
    exact Int.le_trans ((h.1 m hm).2 v' h1) h2
  · obtain ⟨v', h1, _⟩ := b v hv
    exact h.2 hn v' h1
theorem IsMin.ex {o : Option Int} {S : Int → Prop} (h : IsMin o S) {v : Int} (hv : S v) : ∃ m, o = some m ∧ S m ∧ m ≤ v := by
  cases o with
  | none => exact absurd hv (h.2 rfl v)
  | some m => exact ⟨m, rfl, (h.1 m rfl).1, (h.1 m rfl).2 v hv⟩
theorem leastE_min (ts : List Tie) (x y : Nam) : IsMin (leastE ts x y) fun u => (x, y, u) ∈ ts := by
  refine ⟨fun m hm => ?_, fun hn v hv => ?_⟩
  · obtain ⟨h1, h2⟩ := leastE_some hm
    exact ⟨vals_mem.mp h1, fun v hv => h2 v (vals_mem.mpr hv)⟩
  · have := vals_mem.mpr hv
    rw [leastE_none hn] at this
    cases this
/-! prices between names -/
abbrev Pr := Nam → Nam → Option Int
def FOk (zs : List Nam) (f : Pr) : Prop := ∀ x y v, f x y = some v → x ∈ zs ∧ y ∈ zs ∧ 0 ≤ v
/-- so many steps -/
def Wk (zs : List Nam) (f : Pr) : Nat → Nam → Nam → Int → Prop
  | 0, x, y, v => x = y ∧ x ∈ zs ∧ v = 0
  | k + 1, x, y, v => ∃ m u w, Wk zs f k x m u ∧ f m y = some w ∧ v = u + w
theorem Wk.ends {zs : List Nam} {f : Pr} (ok : FOk zs f) : ∀ {k : Nat} {x y : Nam} {v : Int}, Wk zs f k x y v → x ∈ zs ∧ y ∈ zs ∧ 0 ≤ v
  | 0, x, y, v, h => ⟨h.2.1, h.1 ▸ h.2.1, by rw [h.2.2]; exact Int.le_refl _⟩
  | k + 1, x, y, v, h => by
    obtain ⟨m, u, w, h1, h2, rfl⟩ := h
    obtain ⟨a, _, c⟩ := Wk.ends ok h1
    obtain ⟨_, e, g⟩ := ok _ _ _ h2
    exact ⟨a, e, by omega⟩
theorem Wk.cat {zs : List Nam} {f : Pr} {a : Nat} {x m : Nam} {u : Int} (h : Wk zs f a x m u) : ∀ {b : Nat} {y : Nam} {w : Int}, Wk zs f b m y w → Wk zs f (a + b) x y (u + w)
  | 0, y, w, k => by
    obtain ⟨rfl, _, rfl⟩ := k
    rw [Int.add_zero]
    exact h
  | b + 1, y, w, k => by
    obtain ⟨n, p, q, k1, k2, rfl⟩ := k
    exact ⟨n, u + p, q, h.cat k1, k2, by omega⟩
theorem Wk.cut {zs : List Nam} {f : Pr} (ok : FOk zs f) {a : Nat} {x : Nam} : ∀ {b : Nat} {y : Nam} {v : Int}, Wk zs f (a + b) x y v → ∃ m u w, Wk zs f a x m u ∧ Wk zs f b m y w ∧ v = u + w
  | 0, y, v, h => ⟨y, v, 0, h, ⟨rfl, (Wk.ends ok h).2.1, rfl⟩, by omega⟩
  | b + 1, y, v, h => by
    obtain ⟨m, u, w, h1, h2, rfl⟩ := h
    obtain ⟨n, p, q, k1, k2, rfl⟩ := Wk.cut ok h1
    exact ⟨n, p, q + w, k1, ⟨m, q, w, k2, h2, rfl⟩, by omega⟩
/-- the set of the sums over one name between -/
def Sum2 (S T : Nam → Nam → Int → Prop) (x y : Nam) (v : Int) : Prop := ∃ m u w, S x m u ∧ T m y w ∧ v = u + w
/-- the product of two tables of least numbers is that of the sums -/
theorem min_mul {S T : Nam → Nam → Int → Prop} {f g : Pr} (hf : ∀ x y, IsMin (f x y) (S x y)) (hg : ∀ x y, IsMin (g x y) (T x y)) {o : Option Int} {x y : Nam} (h : IsMin o (Sum2 (fun x m u => f x m = some u) (fun m y w => g m y = some w) x y)) : IsMin o (Sum2 S T x y) := by
  refine h.dom ?_ ?_
  · rintro v ⟨m, u, w, h1, h2, rfl⟩
    exact ⟨m, u, w, ((hf x m).1 u h1).1, ((hg m y).1 w h2).1, rfl⟩
  · rintro v ⟨m, u, w, h1, h2, rfl⟩
    obtain ⟨u', e1, _, l1⟩ := (hf x m).ex h1
    obtain ⟨w', e2, _, l2⟩ := (hg m y).ex h2
    exact ⟨u' + w', ⟨m, u', w', e1, e2, rfl⟩, by omega⟩
theorem min_or {S T : Int → Prop} {p q o : Option Int} (hp : IsMin p S) (hq : IsMin q T) (h : IsMin o fun v => p = some v ∨ q = some v) : IsMin o fun v => S v ∨ T v := by
  refine h.dom ?_ ?_
  · rintro v (e | e)
    · exact .inl (hp.1 v e).1
    · exact .inr (hq.1 v e).1
  · rintro v (e | e)
    · obtain ⟨m, e1, _, l⟩ := hp.ex e
      exact ⟨m, .inl e1, l⟩
    · obtain ⟨m, e1, _, l⟩ := hq.ex e
      exact ⟨m, .inr e1, l⟩
theorem min_self (o : Option Int) : IsMin o fun v => o = some v := ⟨fun m hm => ⟨hm, fun v hv => by rw [hm] at hv; exact Int.le_of_eq (Option.some.inj hv)⟩, fun hn v hv => by rw [hn] at hv; cases hv⟩
/-- at most so many steps; any number of them -/
def Up (zs : List Nam) (f : Pr) (n : Nat) (x y : Nam) (v : Int) : Prop := ∃ k, k ≤ n ∧ Wk zs f k x y v
def Any (zs : List Nam) (f : Pr) (x y : Nam) (v : Int) : Prop := ∃ k, Wk zs f k x y v
theorem up_sum {zs : List Nam} {f : Pr} (ok : FOk zs f) (a b : Nat) (x y : Nam) (v : Int) : Sum2 (Up zs f a) (Up zs f b) x y v ↔ Up zs f (a + b) x y v := by
  constructor
  · rintro ⟨m, u, w, ⟨i, hi, h1⟩, ⟨j, hj, h2⟩, rfl⟩
    exact ⟨i + j, by omega, h1.cat h2⟩
  · rintro ⟨k, hk, h⟩
    by_cases ha : k ≤ a
    · exact ⟨y, v, 0, ⟨k, ha, h⟩, ⟨0, Nat.zero_le _, rfl, (Wk.ends ok h).2.1, rfl⟩, by omega⟩
    · rw [show k = a + (k - a) by omega] at h
      obtain ⟨m, u, w, h1, h2, rfl⟩ := Wk.cut ok h
      exact ⟨m, u, w, ⟨a, Nat.le_refl _, h1⟩, ⟨k - a, by omega, h2⟩, rfl⟩
theorem wk_sum {zs : List Nam} {f : Pr} (ok : FOk zs f) (a b : Nat) (x y : Nam) (v : Int) : Sum2 (Wk zs f a) (Wk zs f b) x y v ↔ Wk zs f (a + b) x y v :=
  ⟨fun ⟨_, _, _, h1, h2, e⟩ => e ▸ h1.cat h2, fun h => Wk.cut ok h⟩
theorem any_sum {zs : List Nam} {f : Pr} (ok : FOk zs f) (x y : Nam) (v : Int) : Sum2 (Any zs f) (Any zs f) x y v ↔ Any zs f x y v := by
  constructor
  · rintro ⟨m, u, w, ⟨i, h1⟩, ⟨j, h2⟩, rfl⟩
    exact ⟨i + j, h1.cat h2⟩
  · rintro ⟨k, h⟩
    exact ⟨y, v, 0, ⟨k, h⟩, ⟨0, rfl, (Wk.ends ok h).2.1, rfl⟩, by omega⟩
/-! no name twice is enough -/
inductive Pt (zs : List Nam) (f : Pr) (x : Nam) : List Nam → Int → Prop
  | one : x ∈ zs → Pt zs f x [x] 0
  | step {y m : Nam} {r : List Nam} {u w : Int} : Pt zs f x (m :: r) u → f m y = some w → Pt zs f x (y :: m :: r) (u + w)
theorem Pt.wk {zs : List Nam} {f : Pr} {x : Nam} {l : List Nam} {v : Int} (h : Pt zs f x l v) : ∀ {y r}, l = y :: r → Wk zs f r.length x y v := by
  induction h with
  | one hx =>
    rintro y r e
    cases e
    exact ⟨rfl, hx, rfl⟩
  | step h1 h2 ih =>
    rintro y r e
    cases e
    exact ⟨_, _, _, ih rfl, h2, rfl⟩
theorem Wk.pt {zs : List Nam} {f : Pr} {x : Nam} : ∀ {k : Nat} {y : Nam} {v : Int}, Wk zs f k x y v → ∃ r, r.length = k ∧ Pt zs f x (y :: r) v
  | 0, y, v, h => by
    obtain ⟨rfl, hx, rfl⟩ := h
    exact ⟨[], rfl, .one hx⟩
  | k + 1, y, v, h => by
    obtain ⟨m, u, w, h1, h2, rfl⟩ := h
    obtain ⟨r, e, p⟩ := Wk.pt h1
    exact ⟨m :: r, by rw [List.length_cons, e], .step p h2⟩
theorem Pt.pos {zs : List Nam} {f : Pr} (ok : FOk zs f) {x : Nam} {l : List Nam} {v : Int} (h : Pt zs f x l v) : 0 ≤ v ∧ ∀ z ∈ l, z ∈ zs := by
  induction h with
  | one hx => exact ⟨Int.le_refl _, fun z hz => by rw [List.mem_singleton.mp hz]; exact hx⟩
  | step h1 h2 ih =>
    obtain ⟨_, e, g⟩ := ok _ _ _ h2
    refine ⟨by have := ih.1; omega, fun z hz => ?_⟩
    rcases List.mem_cons.mp hz with rfl | hz
    · exact e
    · exact ih.2 z hz
theorem Pt.suffix {zs : List Nam} {f : Pr} (ok : FOk zs f) {x y : Nam} {l : List Nam} {v : Int} (h : Pt zs f x l v) : y ∈ l → l.Nodup → ∃ r u, Pt zs f x (y :: r) u ∧ u ≤ v ∧ (y :: r).Nodup := by
  induction h with
  | one hx =>
    intro hy hn
    rw [List.mem_singleton.mp hy]
    exact ⟨[], 0, .one hx, Int.le_refl _, hn⟩
  | @step y0 m r u w h1 h2 ih =>
    intro hy hn
    rcases List.mem_cons.mp hy with rfl | hy
    · exact ⟨m :: r, u + w, .step h1 h2, Int.le_refl _, hn⟩
    · obtain ⟨r', u', p, l, n⟩ := ih hy (List.nodup_cons.mp hn).2
      have := (ok _ _ _ h2).2.2
      exact ⟨r', u', p, by omega, n⟩
theorem Pt.short {zs : List Nam} {f : Pr} (ok : FOk zs f) {x : Nam} {l : List Nam} {v : Int} (h : Pt zs f x l v) : ∀ {y r}, l = y :: r → ∃ r' u, Pt zs f x (y :: r') u ∧ u ≤ v ∧ (y :: r').Nodup := by
  induction h with
  | one hx =>
    rintro y r e
    cases e
    exact ⟨[], 0, .one hx, Int.le_refl _, by simp⟩
  | @step y0 m r u w h1 h2 ih =>
    rintro y r' e
    cases e
    obtain ⟨r', u', p, l, n⟩ := ih rfl
    have hw := (ok _ _ _ h2).2.2
    by_cases hy : y0 ∈ m :: r'
    · obtain ⟨r2, u2, p2, l2, n2⟩ := p.suffix ok hy n
      exact ⟨r2, u2, p2, by omega, n2⟩
    · exact ⟨m :: r', u' + w, .step p h2, by omega, List.nodup_cons.mpr ⟨hy, n⟩⟩
theorem Wk.short {zs : List Nam} {f : Pr} (ok : FOk zs f) {k : Nat} {x y : Nam} {v : Int} (h : Wk zs f k x y v) : ∃ j u, j + 1 ≤ zs.length ∧ Wk zs f j x y u ∧ u ≤ v := by
  obtain ⟨r, _, p⟩ := h.pt
  obtain ⟨r', u, p', l, n⟩ := p.short ok rfl
  have := nd_lenK n (p'.pos ok).2
  rw [List.length_cons] at this
  exact ⟨r'.length, u, this, p'.wk rfl, l⟩
/-- enough steps are as good as any number -/
theorem up_any {zs : List Nam} {f : Pr} (ok : FOk zs f) {n : Nat} (hn : zs.length ≤ n + 1) {o : Option Int} {x y : Nam} (h : IsMin o (Up zs f n x y)) : IsMin o (Any zs f x y) := by
  refine h.dom (fun v ⟨k, _, w⟩ => ⟨k, w⟩) ?_
  rintro v ⟨k, w⟩
  obtain ⟨j, u, hj, w', l⟩ := w.short ok
  exact ⟨u, ⟨j, by omega, w'⟩, l⟩
/-! tight steps -/
def Tight (f D : Pr) (x : Nam) : Nat → Nam → Prop
  | 0, y => y = x
  | j + 1, y => ∃ m u w, Tight f D x j m ∧ D x m = some u ∧ f m y = some w ∧ D x y = some (u + w)
theorem tight_of {zs : List Nam} {f D : Pr} (hD : ∀ x y, IsMin (D x y) (Any zs f x y)) {x : Nam} : ∀ {j : Nat} {y : Nam} {v : Int}, Wk zs f j x y v → D x y = some v → Tight f D x j y
  | 0, y, v, h, _ => h.1.symm
  | j + 1, y, v, h, e => by
    obtain ⟨m, u, w, h1, h2, rfl⟩ := h
    obtain ⟨u0, e0, ⟨k, hk⟩, l0⟩ := (hD x m).ex ⟨j, h1⟩
    have := ((hD x y).1 _ e).2 (u0 + w) ⟨k + 1, m, u0, w, hk, h2, rfl⟩
    have eu : u0 = u := by omega
    subst eu
    exact ⟨m, u0, w, tight_of hD h1 e0, e0, h2, e⟩
theorem tight_ex {zs : List Nam} {f D : Pr} (ok : FOk zs f) (hD : ∀ x y, IsMin (D x y) (Any zs f x y)) {x y : Nam} {v : Int} (e : D x y = some v) : ∃ j, j + 1 ≤ zs.length ∧ Tight f D x j y := by
  obtain ⟨⟨k, h⟩, mn⟩ := (hD x y).1 v e
  obtain ⟨j, u, hj, w, l⟩ := h.short ok
  have := mn u ⟨j, w⟩
  have eu : u = v := by omega
  subst eu
  exact ⟨j, hj, tight_of hD w e⟩
theorem any_refl {zs : List Nam} {f D : Pr} (ok : FOk zs f) (hD : ∀ x y, IsMin (D x y) (Any zs f x y)) {x : Nam} (hx : x ∈ zs) : D x x = some 0 := by
  obtain ⟨m, e, ⟨k, h⟩, l⟩ := (hD x x).ex ⟨0, rfl, hx, rfl⟩
  have := (Wk.ends ok h).2.2
  rw [e, show m = 0 by omega]
theorem any_pos {zs : List Nam} {f D : Pr} (ok : FOk zs f) (hD : ∀ x y, IsMin (D x y) (Any zs f x y)) : FOk zs D := fun x y v e => by
  obtain ⟨⟨k, h⟩, _⟩ := (hD x y).1 v e
  exact Wk.ends ok h
theorem any_step {zs : List Nam} {f D : Pr} (hD : ∀ x y, IsMin (D x y) (Any zs f x y)) {x y z : Nam} {u w : Int} (e : D x y = some u) (h : f y z = some w) : ∃ v, D x z = some v ∧ v ≤ u + w := by
  obtain ⟨⟨k, hk⟩, _⟩ := (hD x y).1 u e
  obtain ⟨m, e1, _, l⟩ := (hD x z).ex ⟨k + 1, y, u, w, hk, h, rfl⟩
  exact ⟨m, e1, l⟩
end TK

namespace TK
open PySem PySem.Spec PyProof.Rows L2
/-! a static method of an own class -/
structure SMet (K : PySem.W.Frag) (C : Addr) (mc : Value) (m : Str) (p g : Addr) : Prop where
  at_ : PySem.W.findCls K (.ref C) mc m = some (.get (.builtin "staticmethod.__get__") (.ref p) .none (.ref C))
  rc : ∃ rest, PySem.W.recIn K p "staticmethod" = some (.ref g :: rest)
section
variable {X : Cx} {pins : List (Addr × Obj)} {σ : L2.St} {H : Hp} {s : Shared} {C p g : Addr} {mc : Value} {m : Str} {A : Around} {E : Value → Shared → Prop}
theorem getsm_ok {b : Bool} {Q : Value → Shared → Prop} (I : Inv X pins σ H s) (r : ClX.CRead X.K C mc) (k : SMet X.K C mc m p g) (h : ∀ s', Inv X pins σ H s' → Q (.ref g) s') : wpAny (model X.prog X.w) A (getAttr (.ref C) m b) Q E s := by
  obtain ⟨rest, hp⟩ := k.rc
  refine PySem.W.cls_bind I.kIn r.rd k.at_ ?_
  refine wpAny_call (PySem.W.sm_get (s := { s with toks := s.toks + 1 }) I.kIn hp (PySem.W.handed_on rfl ?_))
  exact h _ (I.tok _)
theorem getmethsm_ok {pl : Sem Bool} {Q : Value × List Value → Shared → Prop} (I : Inv X pins σ H s) (r : ClX.CRead X.K C mc) (k : SMet X.K C mc m p g) (h : ∀ s', Inv X pins σ H s' → Q (.ref g, []) s') : wpAny (model X.prog X.w) A (getMethod (.ref C) m pl) Q E s :=
  PySem.W.method_cls I.kIn r.ga (getsm_ok I r k h)
end
/-- e.m(..), e the class at C, m a static method -/
def tSMeth (C : Addr) (sp : Sp) (E : XK) (ta : TE) (t : TA) : TE := fun σ H Q => ta σ H fun x H1 => x = .ref C ∧ t σ H1 fun vs H2 => sp vs H2 Q E
section
variable {X : Cx} {CX : CXT} {k : Nat} {C p g : Addr} {mc : Value} {fd : FuncData} {ps : List Str} {sp : Sp} {E : XK} {o e : Expr} {es : List Expr} {m : Str} {pos apos : Pos} {ta : TE} {t : TA} {pl : Sem Bool}
theorem pe_smeth (he : PE X o ta) (r : ClX.CRead X.K C mc) (c : SMet X.K C mc m p g) (F : FnOk X.prog X.w X.K X.mg X.base CX k g fd ps sp) (hr : Room k X.A) (hk : PySem.W.keepIn X.K (.ref g) = true) (hb : Binds X.K fd ps []) (hx : Passes CX X E) (ha : PA X (e :: es) t)
    (hst : starEach (e :: es) X.env = (false, eval e X.env) :: starEach es X.env := by rfl) (hpl : (backTo pos (starEach es X.env)).any (·.1) = false := by rfl)
    (ht : eval (.Call (.Attribute o m apos) (e :: es) [] pos) X.env = (do
      let ov ← eval o X.env
      standAt apos.atName
      let (f, first) ← holding [ov] (getMethod ov m pl)
      callWith pos f first (backTo pos (starEach (e :: es) X.env)) (backToKw pos (keywordEach [] X.env))) := by rfl) :
    PE X (.Call (.Attribute o m apos) (e :: es) [] pos) (tSMeth C sp E ta t) := by
  refine ⟨fun pins s σ H Q I h => ?_⟩
  refine PySem.W.methodCall_KW (pl := pl) (thn (he.run pins s σ H _ I h) fun u s1 ⟨x, H1, I1, rx, ex, q⟩ => ?_) ht
  subst ex
  obtain rfl : u = Value.ref C := rx
  refine getmethsm_ok I1 r c fun s2 I2 => ?_
  refine PySem.W.callWith_K (first := []) (h₀ := X.base) I2.ok.mod.kin hk (thn (ha.run pos pins s2 σ H1 _ I2 q) fun us s3 ⟨vs, H2, I3, rv, q2⟩ => ⟨I3.kIn, ?_⟩) hst hpl
  exact run_fn (dvs := []) (vs := vs) F hr hb .nil hx I3 rv (by rw [List.append_nil]; exact q2)
theorem pi_listK {X : Cx} {K : PySem.W.Frag} {tg e : Expr} {te : TE} (h : X.K = K) (he : PE X e te) : PI X tg e (iList K te) := h ▸ pi_list he
end
abbrev s_Tolls_same : Stmt := inClass (topS 22) 1
theorem sc_Tolls_same : FnScope ["names", "name"] ["names"] (defScope s_Tolls_same) := ⟨rfl, rfl, rfl, by decide +kernel, rfl, by decide +kernel, by decide +kernel⟩
abbrev s_Tolls_mul : Stmt := inClass (topS 22) 5
theorem sc_Tolls_mul : FnScope ["self", "other", "giver", "middle", "toll", "start", "taker", "further"] ["self", "other"] (defScope s_Tolls_mul) := ⟨rfl, rfl, rfl, by decide +kernel, rfl, by decide +kernel, by decide +kernel⟩
abbrev s_Tolls_or : Stmt := inClass (topS 22) 6
theorem sc_Tolls_or : FnScope ["self", "other"] ["self", "other"] (defScope s_Tolls_or) := ⟨rfl, rfl, rfl, by decide +kernel, rfl, by decide +kernel, by decide +kernel⟩
/-! tables by their prices -/
def TkF (K : PySem.W.Frag) (C : Addr) (H : Hp) (p : Addr) (zs : List Nam) (f : Pr) : Prop := ∃ ts, TkAt K C H p zs ts ∧ EOk zs ts ∧ (∀ x y, leastE ts x y = f x y) ∧ ts.length ≤ 10000
theorem TkF.same {K : PySem.W.Frag} {C : Addr} {H H' : Hp} {p : Addr} {zs : List Nam} {f : Pr} (h : TkF K C H p zs f) (s : Same H H') : TkF K C H' p zs f := by
  obtain ⟨ts, h1, h2⟩ := h
  exact ⟨ts, h1.same s, h2⟩
theorem TkF.ok {K : PySem.W.Frag} {C : Addr} {H : Hp} {p : Addr} {zs : List Nam} {f : Pr} (h : TkF K C H p zs f) : FOk zs f := by
  obtain ⟨ts, h1, h2, h3, h4⟩ := h
  intro x y v e
  rw [← h3] at e
  exact least_in h2 e
theorem TkF.ins {K : PySem.W.Frag} {C : Addr} {H : Hp} {p : Addr} {zs : List Nam} {f : Pr} (h : TkF K C H p zs f) : IsIn H (.ref p) C := by
  obtain ⟨ts, ⟨dx, a, d, kvs, h1, _⟩, _⟩ := h
  exact ⟨p, dx, _, rfl, h1⟩
theorem TkF.congr {K : PySem.W.Frag} {C : Addr} {H : Hp} {p : Addr} {zs : List Nam} {f g : Pr} (h : TkF K C H p zs f) (e : ∀ x y, f x y = g x y) : TkF K C H p zs g := by
  obtain ⟨ts, h1, h2, h3, h4⟩ := h
  exact ⟨ts, h1, h2, fun x y => (h3 x y).trans (e x y), h4⟩
def prod1 (a : Tie) (bs : List Tie) : List Tie := (bs.filter fun b => decide (b.1 = a.2.1)).map fun b => (a.1, b.2.1, a.2.2 + b.2.2)
def prodT (as bs : List Tie) : List Tie := as.flatMap fun a => prod1 a bs
theorem prod_mem {as bs : List Tie} {x y : Nam} {v : Int} : (x, y, v) ∈ prodT as bs ↔ ∃ m u w, (x, m, u) ∈ as ∧ (m, y, w) ∈ bs ∧ v = u + w := by
  unfold prodT prod1
  constructor
  · intro h
    obtain ⟨⟨a, m, u⟩, ha, h⟩ := List.mem_flatMap.mp h
    obtain ⟨⟨m', b, w⟩, hb, e⟩ := List.mem_map.mp h
    obtain ⟨hb2, e2⟩ := List.mem_filter.mp hb
    have e3 : m' = m := of_decide_eq_true e2
    subst e3
    cases e
    exact ⟨m', u, w, ha, hb2, rfl⟩
  · rintro ⟨m, u, w, ha, hb, rfl⟩
    exact List.mem_flatMap.mpr ⟨_, ha, List.mem_map.mpr ⟨(m, y, w), List.mem_filter.mpr ⟨hb, decide_eq_true rfl⟩, rfl⟩⟩
theorem prod_ok {zs : List Nam} {as bs : List Tie} (a : EOk zs as) (b : EOk zs bs) : EOk zs (prodT as bs) := by
  refine ⟨?_, ?_, ?_⟩ <;> rintro ⟨x, y, v⟩ h <;> obtain ⟨m, u, w, h1, h2, rfl⟩ := prod_mem.mp h
  · exact a.a (x, m, u) h1
  · exact b.b (m, y, w) h2
  · have t1 : 0 ≤ u := a.h0 (x, m, u) h1
    have t2 : 0 ≤ w := b.h0 (m, y, w) h2
    show 0 ≤ u + w
    omega
theorem prod_take {as bs : List Tie} {i : Nat} {a : Tie} (h : as[i]? = some a) : prodT (as.take (i + 1)) bs = prodT (as.take i) bs ++ prod1 a bs := by
  unfold prodT
  rw [List.take_add_one, h, List.flatMap_append]
  show _ ++ List.flatMap _ [a] = _
  rw [List.flatMap_singleton]
theorem prod1_nil {a : Tie} : prod1 a [] = [] := rfl
theorem prod1_take {a b : Tie} {bs : List Tie} {j : Nat} (h : bs[j]? = some b) : prod1 a (bs.take (j + 1)) = prod1 a (bs.take j) ++ (if b.1 = a.2.1 then [(a.1, b.2.1, a.2.2 + b.2.2)] else []) := by
  unfold prod1
  rw [List.take_add_one, h, List.filter_append, List.map_append]
  congr 1
  show List.map _ (List.filter _ [b]) = _
  by_cases e : b.1 = a.2.1
  · rw [if_pos e, List.filter_cons, if_pos (decide_eq_true e)]; rfl
  · rw [if_neg e, List.filter_cons, if_neg (by simp [e])]; rfl
section
variable {P : Program} {w : World} {K : PySem.W.Frag} {mg : Str → Option Value} {base : Heap}
/-! Tolls.same -/
def diagT (zs : List Nam) : List Tie := zs.map fun z => (z, z, 0)
theorem diag_mem {zs : List Nam} {x y : Nam} {v : Int} : (x, y, v) ∈ diagT zs ↔ x = y ∧ x ∈ zs ∧ v = 0 := by
  unfold diagT
  constructor
  · intro h
    obtain ⟨z, hz, e⟩ := List.mem_map.mp h
    cases e
    exact ⟨rfl, hz, rfl⟩
  · rintro ⟨rfl, hx, rfl⟩
    exact List.mem_map.mpr ⟨x, hx, rfl⟩
def spSameT (K : PySem.W.Frag) (C : Addr) : Sp := fun vs H Q _ => ∃ (a : Addr) (zs : List Nam), vs = [.ref a] ∧ (SqL K H a (zs.map vN) ∨ TL H a (zs.map vN)) ∧ NsOk zs ∧
  ∀ H' r f, Same H H' → TkF K C H' r zs f → (∀ x y, IsMin (f x y) fun v => x = y ∧ x ∈ zs ∧ v = 0) → Q (.ref r) H'
theorem ok_Tolls_same {f C fI : Addr} {fd fdI : FuncData} (F : Fun K "same" "Tolls.same" s_Tolls_same f fd) (M_Tolls : Mk K C fI) (G_Tolls : FnOk P w K mg base CX0 3 fI fdI ["self", "names", "entries"] (spInitT K C)) (mg_Tolls : mg "Tolls" = some (.ref C)) (b_Tolls : Binds K fdI ["self", "names", "entries"] []) :
    FnOk P w K mg base CX0 5 f fd ["names"] (spSameT K C) := by
  refine F.ok sc_Tolls_same (fun vs H Q E h => ?_) (fun cdv A outer s H vs Q E hr h => ?_)
  · obtain ⟨a, zs, rfl, _⟩ := h
    rfl
  · obtain ⟨a, zs, rfl, hA, nok, q⟩ := h
    have z6 := nok.l6
    have key : ∀ (D : Addr) (es : List Addr) (H1 : Hp), Same H H1 → H1 D = some (.lst (es.map V.ref)) → TiesAt H1 es (diagT zs) → ∀ x dx, H1 x = none → H1 dx = none → dx ≠ x →
        spInitT K C [.ref x, .ref a, .ref D] (upd (upd H1 dx (.own x)) x (.ins C dx [])) (fun v H2 => v = .non ∧ Q (.ref x) H2) E := by
      intro D es H1 s1 eD hT x dx n1 n2 ne
      have dok : EOk zs (diagT zs) := by
        refine ⟨?_, ?_, ?_⟩ <;> rintro ⟨x, y, v⟩ h <;> obtain ⟨h1, h2, h3⟩ := diag_mem.mp h
        · exact h2
        · exact h1 ▸ h2
        · show 0 ≤ v
          omega
      have dl : (diagT zs).length ≤ 10000 := by unfold diagT; rw [List.length_map]; omega
      exact make_go n1 n2 ne (hA.elim (fun h => .inl (s1.seq h)) (fun h => .inr (h.same s1))) (.inl (lstAt eD)) hT nok dok dl fun H2 tk s2 => q _ _ _ (s1.trans s2) ⟨_, tk, dok, fun _ _ => rfl, dl⟩ fun x y => (leastE_min _ x y).congr fun v => diag_mem
    rcases id hA with hL | hU
    · refine ⟨_, (pss_one (ps_ret (pe_make M_Tolls G_Tolls (hr.mono (by decide)) (by rfl) mg_Tolls b_Tolls .nil pass0 (pa_cons (pv 0) (pa_cons (pe_lc (own := [("name", 1)]) (by rfl) sc_Tolls_same.nd (pi_list (pv 0)) (blkOk_by (N := ["names", "name"]) (sc := defScope s_Tolls_same) (by decide +kernel)) (fun _ _ _ _ _ => (pg_name (i := 1) sc_Tolls_same.nd rfl (.inl rfl))) (fun _ _ _ _ _ => pts_nil) (fun _ _ _ _ _ => (pe_tup (pa_cons (pv 1) (pa_cons (pv 1) (pa_cons pe_int pa_nil)))))) pa_nil))))), ?_⟩
      refine ⟨_, rfl, _, rfl, a, rfl, ⟨_, hL⟩, fun D nD => ?_⟩
      refine lc_list (K := K) (a := a) (xs := zs.map vN) (fun i H' => ∃ es : List Addr, Same H H' ∧ H' D = some (.lst (es.map V.ref)) ∧ TiesAt H' es (diagT (zs.take i)) ∧ es.length = i) ⟨[], same_upd nD, upd_same, ⟨rfl, fun _ _ h => nomatch h⟩, rfl⟩ (fun i H' _ hq => hq.choose_spec.1.seq hL) (fun i x H' hx hq => ?_) (fun H' hq => ?_)
      · obtain ⟨es, s1, eD, hT, l1⟩ := hq
        obtain ⟨z, ez, rfl⟩ := vN_at hx
        have hi6 : i < 6 := by have := (List.getElem?_eq_some_iff.mp ez).1; omega
        refine ⟨rfl, yesT ⟨_, rfl, _, rfl, (show (3 : Nat) ≤ sizeLine by decide), fun t nt => ?_⟩⟩
        have st := same_upd (o := .tup [vN z, vN z, .int 0]) nt
        have tD : t ≠ D := (ne_of_none eD nt).symm
        refine ⟨_, st _ _ eD, by rw [List.length_map]; exact small1000 (by omega), es ++ [t], same_at (s1.trans st) nD, by rw [List.map_append]; exact upd_same, ?_, by rw [List.length_append, l1]; rfl⟩
        rw [show diagT (zs.take (i + 1)) = diagT (zs.take i) ++ [(z, z, 0)] by unfold diagT; rw [List.take_add_one, ez, List.map_append]; rfl]
        exact ((hT.same st).snoc (Same.refl _) (show TieAt _ t (z, z, 0) from upd_same)).wrote (st _ _ eD)
      · obtain ⟨es, s1, eD, hT, l1⟩ := hq
        rw [List.length_map, List.take_length] at hT
        exact key D es H' s1 eD hT
    · refine ⟨_, (pss_one (ps_ret (pe_make M_Tolls G_Tolls (hr.mono (by decide)) (by rfl) mg_Tolls b_Tolls .nil pass0 (pa_cons (pv 0) (pa_cons (pe_lc (own := [("name", 1)]) (by rfl) sc_Tolls_same.nd (pi_tup (pv 0)) (blkOk_by (N := ["names", "name"]) (sc := defScope s_Tolls_same) (by decide +kernel)) (fun _ _ _ _ _ => (pg_name (i := 1) sc_Tolls_same.nd rfl (.inl rfl))) (fun _ _ _ _ _ => pts_nil) (fun _ _ _ _ _ => (pe_tup (pa_cons (pv 1) (pa_cons (pv 1) (pa_cons pe_int pa_nil)))))) pa_nil))))), ?_⟩
      refine ⟨_, rfl, _, rfl, a, rfl, ⟨_, hU.sq⟩, fun D nD => ?_⟩
      refine lc_tup (K := K) (a := a) (xs := zs.map vN) (fun i H' => ∃ es : List Addr, Same H H' ∧ H' D = some (.lst (es.map V.ref)) ∧ TiesAt H' es (diagT (zs.take i)) ∧ es.length = i) ⟨[], same_upd nD, upd_same, ⟨rfl, fun _ _ h => nomatch h⟩, rfl⟩ (fun i H' _ hq => same_tup hq.choose_spec.1 hU.sq) (fun i x H' hx hq => ?_) (fun H' hq => ?_)
      · obtain ⟨es, s1, eD, hT, l1⟩ := hq
        obtain ⟨z, ez, rfl⟩ := vN_at hx
        have hi6 : i < 6 := by have := (List.getElem?_eq_some_iff.mp ez).1; omega
        refine ⟨rfl, yesT ⟨_, rfl, _, rfl, (show (3 : Nat) ≤ sizeLine by decide), fun t nt => ?_⟩⟩
        have st := same_upd (o := .tup [vN z, vN z, .int 0]) nt
        have tD : t ≠ D := (ne_of_none eD nt).symm
        refine ⟨_, st _ _ eD, by rw [List.length_map]; exact small1000 (by omega), es ++ [t], same_at (s1.trans st) nD, by rw [List.map_append]; exact upd_same, ?_, by rw [List.length_append, l1]; rfl⟩
        rw [show diagT (zs.take (i + 1)) = diagT (zs.take i) ++ [(z, z, 0)] by unfold diagT; rw [List.take_add_one, ez, List.map_append]; rfl]
        exact ((hT.same st).snoc (Same.refl _) (show TieAt _ t (z, z, 0) from upd_same)).wrote (st _ _ eD)
      · obtain ⟨es, s1, eD, hT, l1⟩ := hq
        rw [List.length_map, List.take_length] at hT
        exact key D es H' s1 eD hT
end
end TK

namespace TK
open PySem PySem.Spec PyProof.Rows L2
/-- three names for the items of a tuple, and what stands in the slots then -/
theorem gTup3 {K : PySem.W.Frag} {i j k : Nat} {e : Addr} {x y z : V} {σ : L2.St} {H : Hp} {Q : L2.St → Hp → Prop} (he : H e = some (.tup [x, y, z])) (σ' : L2.St) (hσ : ((σ.set i (some x)).set j (some y)).set k (some z) = σ') (h : Q σ' H) :
    gTup K 3 (gCons (gName i) (gCons (gName j) (gCons (gName k) gNil))) (.ref e) σ H Q := by
  subst hσ
  exact ⟨_, _, rfl, tupAt he, rfl, _, _, rfl, _, _, rfl, _, _, rfl, rfl, h⟩
section
variable {P : Program} {w : World} {K : PySem.W.Frag} {mg : Str → Option Value} {base : Heap}
/-! t | u -/
def spOrT (K : PySem.W.Frag) (C : Addr) : Sp := fun vs H Q _ => ∃ (p p' : Addr) (zs : List Nam) (f g : Pr), vs = [.ref p, .ref p'] ∧ TkF K C H p zs f ∧ TkF K C H p' zs g ∧ NsOk zs ∧
  ∀ H' r h, Same H H' → TkF K C H' r zs h → (∀ x y, IsMin (h x y) fun v => f x y = some v ∨ g x y = some v) → Q (.ref r) H'
theorem ok_Tolls_or {f C fI gE : Addr} {fd fdI fdE : FuncData} (F : Fun K "__or__" "Tolls.__or__" s_Tolls_or f fd) (T : TxtT K C) (M_Tolls : Mk K C fI) (G_Tolls : FnOk P w K mg base CX0 3 fI fdI ["self", "names", "entries"] (spInitT K C)) (mg_Tolls : mg "Tolls" = some (.ref C)) (b_Tolls : Binds K fdI ["self", "names", "entries"] [])
    (Me_entries : Meth K C "entries" gE) (G_entries : FnOk P w K mg base CX0 1 gE fdE ["self"] (spEntries K C)) (b_entries : Binds K fdE ["self"] []) : FnOk P w K mg base CX0 5 f fd ["self", "other"] (spOrT K C) := by
  refine F.ok sc_Tolls_or (fun vs H Q E h => ?_) (fun cdv A outer s H vs Q E hr h => ?_)
  · obtain ⟨p, p', zs, f, g, rfl, _⟩ := h
    rfl
  · obtain ⟨p, p', zs, f, g, rfl, ⟨ts, tk, eok, ef, tl⟩, ⟨us, uk, uok, eg, ul⟩, nok, q⟩ := h
    have z6 := nok.l6
    obtain ⟨dx, a, d, kvs, hp, hA, hd, kv, kl⟩ := id tk
    obtain ⟨dx', a', d', kvs', hp', hA', hd', kv', kl'⟩ := id uk
    refine ⟨_, (pss_cons (ps_if (pt_cmpR (op_neD hr.units) (pe_fld (pv 0) rfl) (pe_fld (pv 1) rfl) (nomark _)) (pss_one ps_never) pss_nil)
  (pss_one (ps_ret (pe_make M_Tolls G_Tolls (hr.mono (by decide)) (by rfl) mg_Tolls b_Tolls .nil pass0 (pa_cons (pe_fld (pv 0) rfl) (pa_cons (pe_op op_cat (pe_meth0 (pv 0) T.cl Me_entries G_entries (hr.mono (by decide)) b_entries .nil pass0) (pe_meth0 (pv 1) T.cl Me_entries G_entries (hr.mono (by decide)) b_entries .nil pass0)) pa_nil)))))), ?_⟩
    obtain ⟨d1, d3, d4⟩ := namesH_dp (K := K) (H := H) nok.nm
    refine ⟨_, rfl, p, C, dx, _, _, rfl, hp, T.cl, T.nN, fldsT_names _ _, _, rfl, p', C, dx', _, _, rfl, hp', T.cl, T.nN, fldsT_names _ _, .tuple _, .tuple _, .tup hA.sq d1, .tup hA'.sq d1, nmT_shape d3 d4, nmT_shape d3 d4, _, rfl, ?_⟩
    rw [SeqAt.eqv_refl _ (nmT_lay d3)]
    refine iteF ?_
    refine ⟨_, rfl, p, C, dx, _, _, rfl, hp, T.cl, T.nN, fldsT_names _ _, _, rfl, p, dx, _, rfl, hp, fldsT_none _ _, p, zs, ts, rfl, tk, z6, fun H1 e1 es1 ne1 s1 ee1 t1 m1 => ?_⟩
    refine ⟨_, rfl, p', dx', _, rfl, s1 _ _ hp', fldsT_none _ _, p', zs, us, rfl, uk.same s1, z6, fun H2 e2 es2 ne2 s2 ee2 t2 m2 => ?_⟩
    refine ⟨e1, e2, _, _, rfl, rfl, s2 _ _ ee1, ee2, by rw [List.length_map, List.length_map]; exact Nat.le_of_lt (small1000 (by omega)), fun L nL => ?_⟩
    rw [← List.map_append]
    have sL := same_upd (o := .lst ((es1 ++ es2).map V.ref)) nL
    have s3 := (s1.trans s2).trans sL
    have hT := ((t1.same s2).app t2).same sL
    have ok1 := listE_ok eok
    have ok2 := listE_ok uok
    have ok3 : EOk zs (listE zs ts ++ listE zs us) := ⟨fun t m => (List.mem_append.mp m).elim (ok1.a t) (ok2.a t), fun t m => (List.mem_append.mp m).elim (ok1.b t) (ok2.b t), fun t m => (List.mem_append.mp m).elim (ok1.h0 t) (ok2.h0 t)⟩
    have l3 : (listE zs ts ++ listE zs us).length ≤ 10000 := by rw [← hT.1, List.length_append]; omega
    intro x dx2 n1 n2 ne
    refine make_go n1 n2 ne (.inr (hA.same s3)) (.inl (lstAt upd_same)) hT nok ok3 l3 fun H4 k4 s4 => ?_
    refine q _ _ _ (s3.trans s4) ⟨_, k4, ok3, fun _ _ => rfl, l3⟩ fun x y => (leastE_min _ x y).congr fun v => ?_
    rw [List.mem_append, listE_mem, listE_mem, ef, eg]
    constructor
    · rintro (h | h)
      · exact .inl h.2.2
      · exact .inr h.2.2
    · rintro (h | h)
      · obtain ⟨i1, i2, _⟩ := least_in eok ((ef x y).trans h)
        exact .inl ⟨i1, i2, h⟩
      · obtain ⟨i1, i2, _⟩ := least_in uok ((eg x y).trans h)
        exact .inr ⟨i1, i2, h⟩
/-! t * u -/
def spMulT (K : PySem.W.Frag) (C : Addr) : Sp := fun vs H Q _ => ∃ (p p' : Addr) (zs : List Nam) (f g : Pr), vs = [.ref p, .ref p'] ∧ TkF K C H p zs f ∧ TkF K C H p' zs g ∧ NsOk zs ∧
  ∀ H' r h, Same H H' → TkF K C H' r zs h → (∀ x y, IsMin (h x y) (Sum2 (fun x m u => f x m = some u) (fun m y w => g m y = some w) x y)) → Q (.ref r) H'
theorem ok_Tolls_mul {f C fI gE : Addr} {fd fdI fdE : FuncData} (F : Fun K "__mul__" "Tolls.__mul__" s_Tolls_mul f fd) (T : TxtT K C) (M_Tolls : Mk K C fI) (G_Tolls : FnOk P w K mg base CX0 3 fI fdI ["self", "names", "entries"] (spInitT K C)) (mg_Tolls : mg "Tolls" = some (.ref C)) (b_Tolls : Binds K fdI ["self", "names", "entries"] [])
    (Me_entries : Meth K C "entries" gE) (G_entries : FnOk P w K mg base CX0 1 gE fdE ["self"] (spEntries K C)) (b_entries : Binds K fdE ["self"] []) : FnOk P w K mg base CX0 5 f fd ["self", "other"] (spMulT K C) := by
  refine F.ok sc_Tolls_mul (fun vs H Q E h => ?_) (fun cdv A outer s H vs Q E hr h => ?_)
  · obtain ⟨p, p', zs, f, g, rfl, _⟩ := h
    rfl
  · obtain ⟨p, p', zs, f, g, rfl, ⟨ts, tk, eok, ef, tl⟩, ⟨us, uk, uok, eg, ul⟩, nok, q⟩ := h
    have z6 := nok.l6
    obtain ⟨dx, a, d, kvs, hp, hA, hd, kv, kl⟩ := id tk
    obtain ⟨dx', a', d', kvs', hp', hA', hd', kv', kl'⟩ := id uk
    refine ⟨_, (pss_cons (ps_if (pt_cmpR (op_neD hr.units) (pe_fld (pv 0) rfl) (pe_fld (pv 1) rfl) (nomark _)) (pss_one ps_never) pss_nil)
  (pss_one (ps_ret (pe_make M_Tolls G_Tolls (hr.mono (by decide)) (by rfl) mg_Tolls b_Tolls .nil pass0 (pa_cons (pe_fld (pv 0) rfl) (pa_cons (pe_lc2 (own := [("giver", 2), ("middle", 3), ("toll", 4), ("start", 5), ("taker", 6), ("further", 7)]) (vs1 := [5, 6, 7]) (by rfl) sc_Tolls_mul.nd (pi_list (pe_meth0 (pv 0) T.cl Me_entries G_entries (hr.mono (by decide)) b_entries .nil pass0)) (blkOk_by (N := ["self", "other", "giver", "middle", "toll", "start", "taker", "further"]) (sc := defScope s_Tolls_mul) (by decide +kernel)) (by decide) (fun _ _ _ _ _ => (pg_tupK (K := K) (n := 3) rfl (by rfl) (pgs_cons (pg_name (i := 2) sc_Tolls_mul.nd rfl (.inl rfl)) (pgs_cons (pg_name (i := 3) sc_Tolls_mul.nd rfl (.inl rfl)) (pgs_cons (pg_name (i := 4) sc_Tolls_mul.nd rfl (.inl rfl)) pgs_nil))))) (fun _ _ _ _ _ => pts_nil) (fun _ _ _ _ _ => (pi_listK (K := K) rfl (pe_meth0 (pv 1) T.cl Me_entries G_entries (hr.mono (by decide)) b_entries .nil pass0))) (fun _ _ _ _ _ => (pg_tupK (K := K) (n := 3) rfl (by rfl) (pgs_cons (pg_name (i := 5) sc_Tolls_mul.nd rfl (.inl rfl)) (pgs_cons (pg_name (i := 6) sc_Tolls_mul.nd rfl (.inl rfl)) (pgs_cons (pg_name (i := 7) sc_Tolls_mul.nd rfl (.inl rfl)) pgs_nil))))) (fun _ _ _ _ _ => (pts_one (pt_cmpR op_eq (pv 5) (pv 3) (nomark _)))) (fun _ _ _ _ _ => (pe_tup (pa_cons (pv 2) (pa_cons (pv 6) (pa_cons (pe_op op_add (pv 4) (pv 7)) pa_nil)))))) pa_nil)))))), ?_⟩
    obtain ⟨d1, d3, d4⟩ := namesH_dp (K := K) (H := H) nok.nm
    refine ⟨_, rfl, p, C, dx, _, _, rfl, hp, T.cl, T.nN, fldsT_names _ _, _, rfl, p', C, dx', _, _, rfl, hp', T.cl, T.nN, fldsT_names _ _, .tuple _, .tuple _, .tup hA.sq d1, .tup hA'.sq d1, nmT_shape d3 d4, nmT_shape d3 d4, _, rfl, ?_⟩
    rw [SeqAt.eqv_refl _ (nmT_lay d3)]
    refine iteF ?_
    refine ⟨_, rfl, p, C, dx, _, _, rfl, hp, T.cl, T.nN, fldsT_names _ _, _, rfl, p, dx, _, rfl, hp, fldsT_none _ _, p, zs, ts, rfl, tk, z6, fun H1 e1 es1 ne1 s1 ee1 t1 m1 => ?_⟩
    refine ⟨e1, rfl, ⟨_, lstAt ee1⟩, fun D nD => ?_⟩
    refine walk_go (walk_list (K := K) (a := e1) (xs := es1.map V.ref)) (fun i H' => ∃ es : List Addr, Same H1 H' ∧ H' D = some (.lst (es.map V.ref)) ∧ TiesAt H' es (prodT ((listE zs ts).take i) (listE zs us)) ∧ es.length ≤ 36 * i) ⟨[], same_upd nD, upd_same, ⟨rfl, fun _ _ h => nomatch h⟩, Nat.le_refl _⟩ (fun i H' _ hq => lstAt (hq.choose_spec.1 _ _ ee1)) (fun i x H2 H2' hi hq hy => ?_) (fun H' hq => ?_)
    · obtain ⟨es, s2, eD, hT, l2⟩ := hq
      obtain ⟨rfl, hx⟩ := hy
      obtain ⟨e, t, rfl, ei, et, ht⟩ := ties_at t1 hx
      have hi36 : i < 36 := by have := (List.getElem?_eq_some_iff.mp ei).1; omega
      have s12 := s1.trans s2
      refine gTup3 (s2 _ _ ht) [some (.ref p), some (.ref p'), some (vN t.1), some (vN t.2.1), some (.int t.2.2), none, none, none] (by simp [wipe, L2.start]) ?_
      refine ⟨by simp [wipe, L2.start], yesT ?_⟩
      refine ⟨_, rfl, p', dx', _, rfl, s12 _ _ hp', fldsT_none _ _, p', zs, us, rfl, uk.same s12, z6, fun H3 e3 es3 ne3 s3 ee3 t3 m3 => ?_⟩
      refine ⟨e3, rfl, ⟨_, lstAt ee3⟩, ?_⟩
      refine walk_go (walk_list (K := K) (a := e3) (xs := es3.map V.ref)) (fun j H' => ∃ es : List Addr, (H' e3 = some (.lst (es3.map V.ref)) ∧ TiesAt H' es3 (listE zs us)) ∧ Same H1 H' ∧ H' D = some (.lst (es.map V.ref)) ∧ TiesAt H' es (prodT ((listE zs ts).take i) (listE zs us) ++ prod1 t ((listE zs us).take j)) ∧ es.length ≤ 36 * i + j) ?_ (fun j H' _ hq => ?_) (fun j y H4 H4' hj hq hy2 => ?_) (fun H' hq => ?_)
      · exact ⟨es, ⟨ee3, t3⟩, s2.trans s3, s3 _ _ eD, by rw [List.take_zero, prod1_nil, List.append_nil]; exact hT.same s3, by omega⟩
      · obtain ⟨_, q1, _⟩ := hq
        exact lstAt q1.1
      · obtain ⟨es', q1, q2, eD4, hT4, l4⟩ := hq
        obtain ⟨rfl, hx2⟩ := hy2
        obtain ⟨e', b, rfl, ej, eb, hb⟩ := ties_at q1.2 hx2
        have hj36 : j < 36 := by have := (List.getElem?_eq_some_iff.mp ej).1; omega
        refine gTup3 hb [some (.ref p), some (.ref p'), some (vN t.1), some (vN t.2.1), some (.int t.2.2), some (vN b.1), some (vN b.2.1), some (.int b.2.2)] (by simp [wipe]) ?_
        refine ⟨by simp [wipe], ?_⟩
        refine ⟨_, rfl, _, rfl, rfl, _, rfl, ?_⟩
        rw [eq_nm, prod1_take eb]
        by_cases e0 : b.1 = t.2.1
        · rw [decide_eq_true e0, if_pos e0]
          refine iteT ⟨_, rfl, _, rfl, _, rfl, _, rfl, _, _, rfl, rfl, (show (3 : Nat) ≤ sizeLine by decide), fun k nk => ?_⟩
          have sk := same_upd (o := .tup [vN t.1, vN b.2.1, .int (t.2.2 + b.2.2)]) nk
          have kD : k ≠ D := (ne_of_none eD4 nk).symm
          have eD5 := sk _ _ eD4
          have lz : (es'.map V.ref).length < sizeLine := by rw [List.length_map]; exact Nat.lt_of_le_of_lt (show es'.length ≤ 2000 by omega) (by decide)
          have h5 : TiesAt (upd (upd H4' k (.tup [vN t.1, vN b.2.1, .int (t.2.2 + b.2.2)])) D (.lst (es'.map V.ref ++ [.ref k]))) es3 (listE zs us) := (q1.2.same sk).wrote eD5
          have h6 : TiesAt (upd (upd H4' k (.tup [vN t.1, vN b.2.1, .int (t.2.2 + b.2.2)])) D (.lst (es'.map V.ref ++ [.ref k]))) (es' ++ [k]) ((prodT ((listE zs ts).take i) (listE zs us) ++ prod1 t ((listE zs us).take j)) ++ [(t.1, b.2.1, t.2.2 + b.2.2)]) :=
            ((hT4.same sk).snoc (Same.refl _) (show TieAt _ k (t.1, b.2.1, t.2.2 + b.2.2) from upd_same)).wrote eD5
          have h7 : (upd (upd H4' k (.tup [vN t.1, vN b.2.1, .int (t.2.2 + b.2.2)])) D (.lst (es'.map V.ref ++ [.ref k]))) e3 = some (.lst (es3.map V.ref)) := by
            have eD3 : e3 ≠ D := fun z => by
              subst z
              rw [eD] at ne3
              cases ne3
            rw [upd_ne eD3]
            exact sk _ _ q1.1
          rw [List.append_assoc] at h6
          exact ⟨_, eD5, lz, es' ++ [k], ⟨h7, h5⟩, same_at (q2.trans sk) nD, by rw [List.map_append]; exact upd_same, h6, by rw [List.length_append]; simp only [List.length_singleton]; omega⟩
        · rw [decide_eq_false e0, if_neg e0, List.append_nil]
          exact iteF ⟨es', q1, q2, eD4, hT4, by omega⟩
      · obtain ⟨es', q1, q2, eD4, hT4, l4⟩ := hq
        rw [List.length_map, t3.1, List.take_length] at hT4
        rw [List.length_map] at l4
        exact ⟨es', q2, eD4, by rw [prod_take et]; exact hT4, by omega⟩
    · obtain ⟨es, s2, eD, hT, l2⟩ := hq
      rw [List.length_map, t1.1, List.take_length] at hT
      rw [List.length_map] at l2
      have pok := prod_ok (listE_ok eok) (listE_ok uok)
      have pl : (prodT (listE zs ts) (listE zs us)).length ≤ 10000 := by rw [← hT.1]; omega
      intro x dx2 n1 n2 ne
      refine make_go n1 n2 ne (.inr (hA.same (s1.trans s2))) (.inl (lstAt eD)) hT nok pok pl fun H4 k4 s4 => ?_
      refine q _ _ _ ((s1.trans s2).trans s4) ⟨_, k4, pok, fun _ _ => rfl, pl⟩ fun x y => (leastE_min _ x y).congr fun v => ?_
      rw [prod_mem]
      constructor
      · rintro ⟨m, u, w, h1, h2, rfl⟩
        exact ⟨m, u, w, (ef x m).symm.trans (listE_mem.mp h1).2.2, (eg m y).symm.trans (listE_mem.mp h2).2.2, rfl⟩
      · rintro ⟨m, u, w, h1, h2, rfl⟩
        rw [← ef] at h1
        rw [← eg] at h2
        obtain ⟨i1, i2, _⟩ := least_in eok h1
        obtain ⟨i3, i4, _⟩ := least_in uok h2
        exact ⟨m, u, w, listE_mem.mpr ⟨i1, i2, h1⟩, listE_mem.mpr ⟨i3, i4, h2⟩, rfl⟩
end
end TK

namespace TK
open PySem PySem.Spec PyProof.Rows L2
/-! prices added, and the least of prices -/
def plus2 : Option Int → Option Int → Option Int
  | some a, some b => some (a + b)
  | _, _ => none
def minL (cs : List (Option Int)) : Option Int := cs.foldl minO none
theorem minL_snoc {cs : List (Option Int)} {i : Nat} {c : Option Int} (h : cs[i]? = some c) : minL (cs.take (i + 1)) = minO (minL (cs.take i)) c := by
  unfold minL
  rw [List.take_add_one, h, List.foldl_append]
  rfl
theorem minO_none {a : Option Int} : minO a none = a := by cases a <;> rfl
theorem minL_spec : ∀ (cs : List (Option Int)) (o : Option Int), (cs.foldl minO o = none ↔ o = none ∧ cs.filterMap id = []) ∧ (∀ m, cs.foldl minO o = some m → (o = some m ∨ m ∈ cs.filterMap id) ∧ (∀ u, o = some u → m ≤ u) ∧ ∀ u ∈ cs.filterMap id, m ≤ u)
  | [], o => ⟨⟨fun h => ⟨h, rfl⟩, fun h => h.1⟩, fun m h => ⟨.inl h, (fun u e => by
      have h : o = some m := h
      rw [h] at e
      cases e
      exact Int.le_refl _), fun u hu => nomatch hu⟩⟩
  | none :: cs, o => by
    have ih := minL_spec cs o
    have e0 : (none :: cs).foldl minO o = cs.foldl minO o := by rw [List.foldl_cons, minO_none]
    have e1 : ((none : Option Int) :: cs).filterMap id = cs.filterMap id := rfl
    rw [e0, e1]
    exact ih
  | some v :: cs, o => by
    obtain ⟨h1, h2⟩ := minL_spec cs (minO o (some v))
    have e : (some v :: cs).filterMap id = v :: cs.filterMap id := rfl
    have nn : minO o (some v) ≠ none := by cases o <;> simp [minO]
    refine ⟨⟨fun h => absurd (h1.mp h).1 nn, fun h => by rw [e] at h; cases h.2⟩, fun m h => ?_⟩
    obtain ⟨g1, g2, g3⟩ := h2 m h
    rw [e]
    cases o with
    | none =>
      have g2 : m ≤ v := g2 v rfl
      refine ⟨.inr ?_, (fun u z => nomatch z), fun u hu => ?_⟩
      · rcases g1 with g1 | g1
        · have g1 : some v = some m := g1
          cases g1
          exact List.mem_cons_self
        · exact List.mem_cons_of_mem _ g1
      · rcases List.mem_cons.mp hu with rfl | hu
        · exact g2
        · exact g3 u hu
    | some w =>
      have g2 : m ≤ (if v < w then v else w) := g2 _ rfl
      have g1 : some (if v < w then v else w) = some m ∨ m ∈ cs.filterMap id := g1
      have le1 : (if v < w then v else w) ≤ v := by split <;> omega
      have le2 : (if v < w then v else w) ≤ w := by split <;> omega
      refine ⟨?_, (fun u z => by cases z; omega), fun u hu => ?_⟩
      · rcases g1 with g1 | g1
        · have g1 := Option.some.inj g1
          by_cases hv : v < w
          · rw [if_pos hv] at g1
            subst g1
            exact .inr List.mem_cons_self
          · rw [if_neg hv] at g1
            subst g1
            exact .inl rfl
        · exact .inr (List.mem_cons_of_mem _ g1)
      · rcases List.mem_cons.mp hu with rfl | hu
        · omega
        · exact g3 u hu
theorem fm_id_take {cs : List (Option Int)} {i : Nat} {c : Option Int} (h : cs[i]? = some c) : (cs.take (i + 1)).filterMap id = (cs.take i).filterMap id ++ c.toList := by
  rw [List.take_add_one, h, List.filterMap_append]
  cases c <;> rfl
theorem capI_at {cs : List (Option Int)} {i : Nat} {x : V} (h : (cs.map capI)[i]? = some x) : ∃ c, cs[i]? = some c ∧ x = capI c := by
  rw [List.getElem?_map] at h
  cases e : cs[i]? with
  | none => rw [e] at h; cases h
  | some c =>
    rw [e] at h
    exact ⟨c, rfl, (Option.some.inj h).symm⟩
section
variable {P : Program} {w : World} {K : PySem.W.Frag} {mg : Str → Option Value} {base : Heap}
def spPlus2 : Sp := fun vs H Q _ => ∃ (a c : Option Int), vs = [capI a, capI c] ∧ Q (capI (plus2 a c)) H
theorem ok_plus {f : Addr} {fd : FuncData} (F : Fun K "plus" "plus" s_plus f fd) : FnOk P w K mg base CX0 1 f fd ["price", "other"] spPlus2 := by
  refine F.ok sc_plus (fun vs H Q E h => ?_) (fun cdv A outer s H vs Q E hr h => ?_)
  · obtain ⟨a, c, rfl, _⟩ := h
    rfl
  · obtain ⟨a, c, rfl, q⟩ := h
    refine ⟨_, (pss_cons (ps_if (PW.pt (pw_or (pt_cmpR op_isN (pv 0) pe_non (nomark _)) (pw_or1 (pt_cmpR op_isN (pv 1) pe_non (nomark _))))) (pss_one (ps_ret pe_non)) pss_nil)
  (pss_one (ps_ret (pe_op op_add (pv 0) (pv 1))))), ?_⟩
    cases a with
    | none => exact ⟨_, rfl, rfl, _, rfl, iteT (by cases c <;> exact q)⟩
    | some a =>
      cases c with
      | none => exact ⟨_, rfl, rfl, _, rfl, iteF ⟨_, rfl, rfl, _, rfl, iteT q⟩⟩
      | some c => exact ⟨_, rfl, rfl, _, rfl, iteF ⟨_, rfl, rfl, _, rfl, iteF ⟨_, rfl, _, rfl, _, _, rfl, rfl, q⟩⟩⟩
def lessB : Option Int → Option Int → Bool
  | none, _ => false
  | some _, none => true
  | some a, some b => decide (a < b)
theorem less_min (o c : Option Int) : (if lessB c o = true then c else o) = minO o c := by
  cases c with
  | none => cases o <;> rfl
  | some v =>
    cases o with
    | none => rfl
    | some u =>
      show (if decide (v < u) = true then some v else some u) = some (if v < u then v else u)
      by_cases h : v < u <;> simp [h]
def spLessB : Sp := fun vs H Q _ => ∃ a b : Option Int, vs = [capI a, capI b] ∧ Q (.bl (lessB a b)) H
theorem ok_L_less {f : Addr} {fd : FuncData} (F : Fun K "_law_less" "_law_less" s_L_less f fd) : FnOk P w K mg base CX0 1 f fd ["_law_one", "_law_two"] spLessB := by
  refine F.ok sc_L_less (fun vs H Q E h => ?_) (fun cdv A outer s H vs Q E hr h => ?_)
  · obtain ⟨a, c, rfl, _⟩ := h
    rfl
  · obtain ⟨a, c, rfl, q⟩ := h
    refine ⟨_, (pss_cons (ps_if (pt_cmpR op_isN (pv 0) pe_non (nomark _)) (pss_one (ps_ret pe_bl)) pss_nil)
  (pss_one (ps_ret (pe_or (pe_cmpR op_isN (pv 1) pe_non (nomark _)) (pe_one (pe_cmpR op_lt (pv 0) (pv 1) (nomark _))))))), ?_⟩
    cases a with
    | none => exact ⟨_, rfl, rfl, _, rfl, iteT q⟩
    | some a =>
      cases c with
      | none => exact ⟨_, rfl, rfl, _, rfl, iteF ⟨_, rfl, rfl, _, rfl, iteT q⟩⟩
      | some c => exact ⟨_, rfl, rfl, _, rfl, iteF ⟨_, rfl, rfl, _, rfl, iteF ⟨_, rfl, _, rfl, _, _, rfl, rfl, q⟩⟩⟩
/-! least, _law_least -/
def spLeastL (K : PySem.W.Frag) : Sp := fun vs H Q _ => ∃ (p : Addr) (cs : List (Option Int)), vs = [.ref p] ∧ SqL K H p (cs.map capI) ∧ cs.length ≤ 100 ∧ ∀ H', Same H H' → Q (capI (minL cs)) H'
theorem ok_least {f : Addr} {fd : FuncData} (F : Fun K "least" "least" s_least f fd) (m_min : mg "min" = none) : FnOk P w K mg base CX0 1 f fd ["prices"] (spLeastL K) := by
  refine F.ok sc_least (fun vs H Q E h => ?_) (fun cdv A outer s H vs Q E hr h => ?_)
  · obtain ⟨p, cs, rfl, _⟩ := h
    rfl
  · obtain ⟨p, cs, rfl, hp, cl, q⟩ := h
    refine ⟨_, (pss_one (ps_ret (pe_callBK (cr_minDef rfl hr.units) (by rfl) m_min (by decide +kernel) (pa_cons (pe_lc (own := [("price", 1)]) (by rfl) sc_least.nd (pi_list (pv 0)) (blkOk_by (N := ["prices", "price"]) (sc := defScope s_least) (by decide +kernel)) (fun _ _ _ _ _ => (pg_name (i := 1) sc_least.nd rfl (.inl rfl))) (fun _ _ _ _ _ => (pts_one (pt_cmpR op_notN (pv 1) pe_non (nomark _)))) (fun _ _ _ _ _ => (pv 1))) pa_nil) (pk_cons pe_non pk_nil)))), ?_⟩
    refine ⟨_, rfl, p, rfl, ⟨_, hp⟩, fun D nD => ?_⟩
    refine lc_list (K := K) (a := p) (xs := cs.map capI) (fun i H' => H' = upd H D (.lst (((cs.take i).filterMap id).map V.int))) rfl (fun i H' _ e => e ▸ (same_upd nD).seq hp) (fun i x H' hx hq => ?_) (fun H' hq => ?_)
    · subst hq
      obtain ⟨c, ec, rfl⟩ := capI_at hx
      have hz : (((cs.take i).filterMap id).map V.int).length < sizeLine := by
        rw [List.length_map]
        have h1 := List.length_filterMap_le id (cs.take i)
        rw [List.length_take] at h1
        exact small1000 (by omega)
      cases c with
      | none =>
        refine ⟨rfl, _, rfl, rfl, _, rfl, iteF ?_⟩
        rw [fm_id_take ec]
        show _ = upd H D (.lst ((_ ++ ([] : List Int)).map V.int))
        rw [List.append_nil]
      | some v =>
        refine ⟨rfl, _, rfl, rfl, _, rfl, iteT ⟨_, rfl, _, upd_same, hz, ?_⟩⟩
        rw [upd_twice, fm_id_take ec, List.map_append]
        rfl
    · subst hq
      rw [List.take_of_length_le (by rw [List.length_map]; exact Nat.le_refl _)]
      have sD := same_upd (o := .lst ((cs.filterMap id).map V.int)) nD
      obtain ⟨g1, g2⟩ := minL_spec cs none
      refine ⟨D, cs.filterMap id, .non, rfl, rfl, lstAt upd_same, fun e => ?_, fun m hm hle => ?_⟩
      · have e1 : minL cs = none := g1.mpr ⟨rfl, e⟩
        have := q _ sD
        rw [e1] at this
        exact this
      · have e1 : minL cs = some m := by
          cases e : minL cs with
          | none =>
            have := (g1.mp e).2
            rw [this] at hm
            cases hm
          | some k =>
            obtain ⟨k1, _, k3⟩ := g2 k e
            have k1 : k ∈ cs.filterMap id := k1.elim (fun z => nomatch z) id
            have h1 := k3 m hm
            have h2 := hle k k1
            congr 1
            omega
        have := q _ sD
        rw [e1] at this
        exact this
def spLeastLL (K : PySem.W.Frag) : Sp := fun vs H Q _ => ∃ (p : Addr) (cs : List (Option Int)), vs = [.ref p] ∧ SqL K H p (cs.map capI) ∧ Q (capI (minL cs)) H
theorem ok_L_least {f : Addr} {fd : FuncData} (F : Fun K "_law_least" "_law_least" s_L_least f fd) (d_L_less : Def P w K mg base "_law_less" 1 ["_law_one", "_law_two"] spLessB) : FnOk P w K mg base CX0 2 f fd ["_law_prices"] (spLeastLL K) := by
  refine F.ok sc_L_least (fun vs H Q E h => ?_) (fun cdv A outer s H vs Q E hr h => ?_)
  · obtain ⟨p, cs, rfl, _⟩ := h
    rfl
  · obtain ⟨p, cs, rfl, hp, q⟩ := h
    refine ⟨_, (pss_cons (ps_set (i := 1) sc_L_least.nd rfl (.inl rfl) pe_non)
  (pss_cons (ps_for PassesOwn.never rfl (pi_list (pv 0)) (pg_name (i := 2) sc_L_least.nd rfl (.inl rfl))
    (pss_one (ps_if (pt_val (pe_callD d_L_less (hr.mono (by decide)) (by rfl) (pa_cons (pv 2) (pa_cons (pv 1) pa_nil)))) (pss_one (ps_set (i := 1) sc_L_least.nd rfl (.inl rfl) (pv 2))) pss_nil)))
  (pss_one (ps_ret (pv 1))))), ?_⟩
    refine ⟨_, rfl, p, rfl, ⟨_, hp⟩, ?_⟩
    refine for_list (K := K) (a := p) (xs := cs.map capI) (fun i σ H' => H' = H ∧ ∃ y2 : Option V, σ = [some (.ref p), some (capI (minL (cs.take i))), y2]) ⟨rfl, none, rfl⟩ (fun i σ H' _ hq => by rw [hq.1]; exact hp) (fun i x σ H' hx hq => ?_) (fun σ H' hq => ?_)
    · obtain ⟨rfl, y2, rfl⟩ := hq
      obtain ⟨c, ec, rfl⟩ := capI_at hx
      refine ⟨_, rfl, _, rfl, c, minL (cs.take i), rfl, _, rfl, ?_⟩
      have e := less_min (minL (cs.take i)) c
      by_cases h : lessB c (minL (cs.take i)) = true
      · rw [h]
        rw [if_pos h] at e
        refine iteT ⟨_, rfl, rfl, some (capI c), ?_⟩
        rw [minL_snoc ec, ← e]
        rfl
      · rw [Bool.eq_false_iff.mpr h]
        rw [if_neg h] at e
        refine iteF ⟨rfl, some (capI c), ?_⟩
        rw [minL_snoc ec, ← e]
        rfl
    · obtain ⟨rfl, y2, rfl⟩ := hq
      rw [List.length_map, List.take_length]
      exact ⟨_, rfl, q⟩
end
end TK

namespace TK
open PySem PySem.Spec PyProof.Rows L2
/-! rows of prices, told by a function -/
def apF (zs : List Nam) (f : Pr) (cs : List (Option Int)) (y : Nam) : Option Int := minL ((zs.zip cs).map fun p => plus2 p.2 (f p.1 y))
theorem zip_at {zs : List Nam} {cs : List (Option Int)} {j : Nat} {z : Nam} {c : Option Int} (h1 : zs[j]? = some z) (h2 : cs[j]? = some c) : (zs.zip cs)[j]? = some (z, c) := by
  rw [List.getElem?_zip_eq_some]
  exact ⟨h1, h2⟩
theorem cost_at0 {cs : List (Option Int)} {j : Nat} {c : Option Int} (h : cs[j]? = some c) : atI (cs.map capI) (0 + (j : Int)) = some (capI c) := by
  refine atI_in (by omega) ?_
  rw [show (0 + (j : Int)).toNat = j by omega, List.getElem?_map, h]
  rfl
def RowsF (H : Hp) (r : Addr) (zs : List Nam) (f : Pr) : Prop := ∃ rs : List Addr, H r = some (.lst (rs.map V.ref)) ∧ rs.length = zs.length ∧ ∀ (i : Nat) (q : Addr), rs[i]? = some q → ∃ x, zs[i]? = some x ∧ H q = some (.lst ((zs.map (f x)).map capI))
theorem RowsF.same {H H' : Hp} {r : Addr} {zs : List Nam} {f : Pr} (h : RowsF H r zs f) (s : Same H H') : RowsF H' r zs f := by
  obtain ⟨rs, h1, h2, h3⟩ := h
  exact ⟨rs, s _ _ h1, h2, fun i q e => by obtain ⟨x, a, b⟩ := h3 i q e; exact ⟨x, a, s _ _ b⟩⟩
theorem RowsF.at0 {H : Hp} {r : Addr} {zs : List Nam} {f : Pr} (h : RowsF H r zs f) {j : Nat} {x : Nam} (e : zs[j]? = some x) : ∃ (rs : List Addr) (q : Addr), H r = some (.lst (rs.map V.ref)) ∧ atI (rs.map V.ref) (0 + (j : Int)) = some (.ref q) ∧ H q = some (.lst ((zs.map (f x)).map capI)) := by
  obtain ⟨rs, h1, h2, h3⟩ := h
  have hj : j < rs.length := by rw [h2]; exact (List.getElem?_eq_some_iff.mp e).1
  have eq : rs[j]? = some rs[j] := List.getElem?_eq_getElem hj
  obtain ⟨y, a, b⟩ := h3 j _ eq
  rw [e] at a
  cases a
  refine ⟨rs, rs[j], h1, atI_in (by omega) ?_, b⟩
  rw [show (0 + (j : Int)).toNat = j by omega, List.getElem?_map, eq]
  rfl
theorem RowsF.len {H : Hp} {r : Addr} {zs : List Nam} {f : Pr} (h : RowsF H r zs f) : ∃ xs : List V, H r = some (.lst xs) ∧ xs.length = zs.length := by
  obtain ⟨rs, h1, h2, _⟩ := h
  exact ⟨_, h1, by rw [List.length_map, h2]⟩
theorem rowsF_of {H : Hp} {r : Addr} {zs : List Nam} {ts : List Tie} (h : RowsAt H r zs ts) : RowsF H r zs (leastE ts) := by
  obtain ⟨rs, h1, h2, h3⟩ := h
  refine ⟨rs, h1, h2, fun i q e => ?_⟩
  obtain ⟨x, a, b⟩ := h3 i q e
  refine ⟨x, a, ?_⟩
  rw [b]
  unfold rowE
  rw [List.map_map]
  rfl
theorem RowsF.rows {H : Hp} {r : Addr} {zs : List Nam} {f : Pr} {ts : List Tie} (h : RowsF H r zs f) (e : ∀ x y, f x y = leastE ts x y) : RowsAt H r zs ts := by
  obtain ⟨rs, h1, h2, h3⟩ := h
  refine ⟨rs, h1, h2, fun i q hi => ?_⟩
  obtain ⟨x, a, b⟩ := h3 i q hi
  refine ⟨x, a, ?_⟩
  rw [b, show f x = fun y => leastE ts x y from funext (e x)]
  unfold rowE
  rw [List.map_map]
  rfl
/-- a row more -/
theorem rowsF_snoc {H H' : Hp} {zs : List Nam} {f : Pr} {qs : List Addr} {D k : Addr} {xs : List V} {z : Nam} (eD : H D = some (.lst xs)) (s : Same H H') (ek : H' k = some (.lst ((zs.map (f z)).map capI))) (kD : k ≠ D) (ez : zs[qs.length]? = some z)
    (qD : ∀ p ∈ qs, p ≠ D) (hQ : ∀ (j : Nat) (p : Addr), qs[j]? = some p → ∃ x, zs[j]? = some x ∧ H p = some (.lst ((zs.map (f x)).map capI))) (o : HO) :
    (∀ p ∈ qs ++ [k], p ≠ D) ∧ ∀ (j : Nat) (p : Addr), (qs ++ [k])[j]? = some p → ∃ x, zs[j]? = some x ∧ (upd H' D o) p = some (.lst ((zs.map (f x)).map capI)) := by
  constructor
  · intro u hu
    rcases List.mem_append.mp hu with hu | hu
    · exact qD u hu
    · rw [List.mem_singleton.mp hu]; exact kD
  · intro j u hu
    by_cases hj : j < qs.length
    · rw [List.getElem?_append_left hj] at hu
      obtain ⟨x, h1, h2⟩ := hQ j u hu
      exact ⟨x, h1, by rw [upd_ne (qD u (List.mem_of_getElem? hu))]; exact s _ _ h2⟩
    · have hj2 := (List.getElem?_eq_some_iff.mp hu).1
      rw [List.length_append, List.length_singleton] at hj2
      obtain rfl : j = qs.length := by omega
      rw [List.getElem?_append_right (Nat.le_refl _), Nat.sub_self] at hu
      cases Option.some.inj hu
      exact ⟨z, ez, by rw [upd_ne kD]; exact ek⟩
/-! the mathematics -/
abbrev isF (f : Pr) : Nam → Nam → Int → Prop := fun x y v => f x y = some v
theorem min_isF (f : Pr) (x y : Nam) : IsMin (f x y) (isF f x y) := min_self _
theorem minL_min (ls : List (Option Int)) : IsMin (minL ls) fun u => some u ∈ ls := by
  obtain ⟨h1, h2⟩ := minL_spec ls none
  refine ⟨fun m hm => ?_, fun hn v hv => ?_⟩
  · obtain ⟨a, _, c⟩ := h2 m hm
    refine ⟨?_, fun v hv => c v (List.mem_filterMap.mpr ⟨_, hv, rfl⟩)⟩
    rcases a with a | a
    · cases a
    · obtain ⟨o, ho, e⟩ := List.mem_filterMap.mp a
      cases e
      exact ho
  · obtain ⟨_, e⟩ := h1.mp hn
    have : v ∈ ls.filterMap id := List.mem_filterMap.mpr ⟨_, hv, rfl⟩
    rw [e] at this
    cases this
theorem plus2_some {a b : Option Int} {u : Int} : plus2 a b = some u ↔ ∃ v w, a = some v ∧ b = some w ∧ u = v + w := by
  cases a with
  | none =>
    constructor
    · intro h; cases h
    · rintro ⟨_, _, h, _⟩; cases h
  | some v =>
    cases b with
    | none =>
      constructor
      · intro h; cases h
      · rintro ⟨_, _, _, h, _⟩; cases h
    | some w =>
      constructor
      · intro h
        exact ⟨v, w, rfl, rfl, (Option.some.inj h).symm⟩
      · rintro ⟨_, _, h1, h2, h3⟩
        cases h1; cases h2; cases h3
        rfl
def mulF (zs : List Nam) (f g : Pr) : Pr := fun x y => apF zs g (zs.map (f x)) y
theorem mulF_min {zs : List Nam} {f g : Pr} (ok : FOk zs f) (x y : Nam) : IsMin (mulF zs f g x y) (Sum2 (isF f) (isF g) x y) := by
  refine (minL_min _).congr fun u => ?_
  constructor
  · intro h
    obtain ⟨⟨z, c⟩, h1, h2⟩ := List.mem_map.mp h
    obtain ⟨v, w, h3, h4, h5⟩ := plus2_some.mp h2
    obtain ⟨i, hi⟩ := List.getElem?_of_mem h1
    rw [List.getElem?_zip_eq_some] at hi
    obtain ⟨i1, i2⟩ := hi
    rw [List.getElem?_map, i1] at i2
    have e := Option.some.inj i2
    exact ⟨z, v, w, by show f x z = some v; rw [show f x z = c from e]; exact h3, h4, h5⟩
  · rintro ⟨m, v, w, h1, h2, h3⟩
    obtain ⟨_, hm, _⟩ := ok x m v h1
    obtain ⟨i, hi⟩ := List.getElem?_of_mem hm
    refine List.mem_map.mpr ⟨(m, f x m), List.mem_of_getElem? (zip_at hi (by rw [List.getElem?_map, hi]; rfl)), plus2_some.mpr ⟨v, w, h1, h2, h3⟩⟩
theorem FOk.min {zs : List Nam} {h : Pr} {S : Nam → Nam → Int → Prop} (m : ∀ x y, IsMin (h x y) (S x y)) (e : ∀ x y v, S x y v → x ∈ zs ∧ y ∈ zs ∧ 0 ≤ v) : FOk zs h := fun x y v hv => e x y v ((m x y).1 v hv).1
theorem wk_oneV {zs : List Nam} {f : Pr} (ok : FOk zs f) {x y : Nam} {v : Int} : Wk zs f 1 x y v ↔ f x y = some v := by
  constructor
  · rintro ⟨m, u, w, ⟨rfl, _, rfl⟩, h, rfl⟩
    rw [Int.zero_add]; exact h
  · intro h
    exact ⟨x, 0, v, ⟨rfl, (ok _ _ _ h).1, rfl⟩, h, by omega⟩
def eyeF (zs : List Nam) : Pr := fun x y => if x = y ∧ x ∈ zs then some 0 else none
theorem eyeF_min {zs : List Nam} (f : Pr) (x y : Nam) : IsMin (eyeF zs x y) (Wk zs f 0 x y) := by
  refine (min_self _).congr fun v => ?_
  unfold eyeF
  constructor
  · intro h
    split at h
    · rename_i e
      cases h
      exact ⟨e.1, e.2, rfl⟩
    · cases h
  · rintro ⟨a, b, c⟩
    rw [if_pos ⟨a, b⟩, c]
section
variable {P : Program} {w : World} {K : PySem.W.Frag} {mg : Str → Option Value} {base : Heap}
/-! _law_diagonal -/
def spDiag : Sp := fun vs H Q _ => ∃ zs : List Nam, vs = [.int ((zs.length : Nat) : Int)] ∧ zs.Nodup ∧ zs.length ≤ 6 ∧ ∀ H' q, Same H H' → RowsF H' q zs (eyeF zs) → Q (.ref q) H'
theorem eye_at {zs : List Nam} (nd : zs.Nodup) {i j : Nat} {x y : Nam} (hx : zs[i]? = some x) (hy : zs[j]? = some y) : (if V.int (0 + (i : Int)) = V.int (0 + (j : Int)) then some (0 : Int) else none) = eyeF zs x y := by
  unfold eyeF
  by_cases e : i = j
  · subst e
    rw [hx] at hy
    cases hy
    rw [if_pos rfl, if_pos ⟨rfl, List.mem_of_getElem? hx⟩]
  · rw [if_neg (fun z => e (by have := V.int.inj z; omega)), if_neg]
    rintro ⟨rfl, _⟩
    exact e ((List.getElem?_inj (List.getElem?_eq_some_iff.mp hx).1 nd).mp (by rw [hx, hy]))
theorem ok_L_diagonal {f : Addr} {fd : FuncData} (F : Fun K "_law_diagonal" "_law_diagonal" s_L_diagonal f fd) (m_range : mg "range" = none) (m_int : mg "int" = none) : FnOk P w K mg base CX0 1 f fd ["_law_size"] spDiag := by
  refine F.ok sc_L_diagonal (fun vs H Q E h => ?_) (fun cdv A outer s H vs Q E hr h => ?_)
  · obtain ⟨zs, rfl, _⟩ := h
    rfl
  · obtain ⟨zs, rfl, nd, z6, q⟩ := h
    refine ⟨_, (pss_cons (ps_set (i := 1) sc_L_diagonal.nd rfl (.inl rfl) (pe_lst pa_nil))
  (pss_cons (ps_for PassesOwn.never rfl (pi_range1 (by rfl) m_range (pa_cons (pv 0) pa_nil)) (pg_name (i := 2) sc_L_diagonal.nd rfl (.inr rfl))
    (pss_one (ps_expr (pe_bm PySem.F.plainAttrs_list PySem.F.slot_list_append PySem.F.type_list_append mt_append (pv 1) (pa_cons (pe_lc (own := [("_law_j", 3)]) (by rfl) sc_L_diagonal.nd (pi_range1 (by rfl) m_range (pa_cons (pv 0) pa_nil)) (blkOk_by (N := ["_law_size", "_law_rows_here", "_law_k", "_law_j"]) (sc := defScope s_L_diagonal) (by decide +kernel)) (fun _ _ _ _ _ => (pg_name (i := 3) sc_L_diagonal.nd rfl (.inl rfl))) (fun _ _ _ _ _ => pts_nil) (fun _ _ _ _ _ => (pe_ix (ix_listK (K := K) rfl) (pe_lst (pa_cons pe_non (pa_cons pe_int pa_nil))) (pe_callTy call_int1 (by rfl) m_int (by decide +kernel) (pa_cons (pe_cmpR op_eq (pv 2) (pv 3) (nomark _)) pa_nil)) (fun _ _ => rfl)))) pa_nil)))))
  (pss_one (ps_ret (pv 1))))), ?_⟩
    refine ⟨Nat.zero_le _, fun D nD => ?_⟩
    have s0 := same_upd (o := .lst []) nD
    refine ⟨_, rfl, _, rfl, by omega, by omega, for_range (fun i σ H' => ∃ (qs : List Addr) (y2 : Option V), σ = [some (.int ((zs.length : Nat) : Int)), some (.ref D), y2, none] ∧ Same H H' ∧ H' D = some (.lst (qs.map V.ref)) ∧ qs.length = i ∧ (∀ p ∈ qs, p ≠ D) ∧ ∀ (j : Nat) (p : Addr), qs[j]? = some p → ∃ x, zs[j]? = some x ∧ H' p = some (.lst ((zs.map (eyeF zs x)).map capI))) ⟨[], none, rfl, s0, upd_same, rfl, (fun _ h => nomatch h), (fun _ _ h => nomatch h)⟩ ?_ ?_⟩
    · rintro i σ H1 hi ⟨qs, y2, rfl, s1, eD, ql, qD, hQ⟩
      have hi : i < zs.length := by omega
      obtain ⟨x, ex⟩ : ∃ x, zs[i]? = some x := ⟨_, List.getElem?_eq_getElem hi⟩
      refine ⟨_, rfl, .inl ⟨rfl, _, lstAt eD⟩, _, rfl, _, rfl, by omega, by omega, fun D2 nD2 => ?_⟩
      refine lc_range (fun k H' => Same H1 H' ∧ H' D2 = some (.lst (((zs.take k).map (eyeF zs x)).map capI))) ⟨same_upd nD2, upd_same⟩ (fun k H2 hk hq => ?_) (fun H2 hq => ?_)
      · obtain ⟨s2, eD2⟩ := hq
        have hk : k < zs.length := by omega
        obtain ⟨y, ey⟩ : ∃ y, zs[k]? = some y := ⟨_, List.getElem?_eq_getElem hk⟩
        refine ⟨rfl, yesT ⟨(show (2 : Nat) ≤ sizeLine by decide), fun L nL => ?_⟩⟩
        have sL := same_upd (o := .lst [V.non, .int 0]) nL
        refine ⟨_, rfl, _, rfl, rfl, .inr ⟨_, rfl, ?_⟩⟩
        refine ⟨L, [V.non, .int 0], _, capI (eyeF zs x y), rfl, rfl, lstAt upd_same, ?_, _, sL _ _ eD2, ?_, ?_⟩
        · rw [← eye_at nd ex ey]
          by_cases e : V.int (0 + (i : Int)) = V.int (0 + (k : Int))
          · rw [if_pos e, decide_eq_true e]; rfl
          · rw [if_neg e, decide_eq_false e]; rfl
        · rw [List.length_map, List.length_map, List.length_take]; exact small1000 (by omega)
        · refine ⟨same_at (s2.trans sL) nD2, ?_⟩
          rw [List.take_add_one, ey, List.map_append, List.map_append, upd_same]
          rfl
      · obtain ⟨s2, eD2⟩ := hq
        rw [Int.toNat_natCast, List.take_length] at eD2
        have kD : D2 ≠ D := fun z => by subst z; rw [eD] at nD2; cases nD2
        obtain ⟨a, b⟩ := rowsF_snoc eD s2 eD2 kD (by rw [ql]; exact ex) qD hQ (.lst (qs.map V.ref ++ [V.ref D2]))
        refine ⟨_, _, _, rfl, rfl, s2 _ _ eD, by rw [List.length_map, ql]; exact small1000 (by omega), qs ++ [D2], _, rfl, same_at (s1.trans s2) nD, by rw [List.map_append]; exact upd_same, by rw [List.length_append, ql]; rfl, a, b⟩
    · rintro σ H1 ⟨qs, y2, rfl, s1, eD, ql, qD, hQ⟩
      rw [Int.toNat_natCast] at ql
      exact ⟨_, rfl, q _ D s1 ⟨qs, eD, ql, hQ⟩⟩
end
end TK

namespace TK
open PySem PySem.Spec PyProof.Rows L2
theorem eqv_nms : ∀ zs us : List Nam, PyData.eqvAll (zs.map fun z => PyData.str (sOf z)) (us.map fun z => PyData.str (sOf z)) = decide (zs = us)
  | [], [] => by simp [PyData.eqvAll]
  | [], q :: qs => by simp [PyData.eqvAll]
  | o :: os, [] => by simp [PyData.eqvAll]
  | o :: os, q :: qs => by
    simp only [List.map_cons, PyData.eqvAll, PyData.eqv]
    rw [eqv_nms os qs]
    by_cases h1 : o = q
    · subst h1
      by_cases h2 : os = qs <;> simp [h2]
    · have : (sOf o == sOf q) = false := by
        cases e : (sOf o == sOf q) with
        | false => rfl
        | true => exact absurd (sOf_inj (eq_of_beq e)) h1
      simp [h1, this]
theorem eqv_nmT (zs us : List Nam) : PyData.eqv (.tuple (zs.map fun z => PyData.str (sOf z))) (.tuple (us.map fun z => PyData.str (sOf z))) = decide (zs = us) := by
  simp only [PyData.eqv]
  exact eqv_nms zs us
theorem nd_turn {α : Type} [DecidableEq α] {p z : List α} (np : p.Nodup) (s : ∀ w ∈ p, w ∈ z) (l : z.length ≤ p.length) : ∀ w ∈ z, w ∈ p := by
  intro w hw
  by_cases h : w ∈ p
  · exact h
  · have nd : (w :: p).Nodup := List.nodup_cons.mpr ⟨h, np⟩
    have := nd_lenK nd (zs := z) fun v hv => by
      rcases List.mem_cons.mp hv with rfl | hv
      · exact hw
      · exact s v hv
    rw [List.length_cons] at this
    omega
theorem kvE_flat {ks : List (List Key × V)} {ts : List Tie} (a : KvE ks ts) : ∀ p ∈ ks, flatV p.2 = true := fun p hp => by
  obtain ⟨x, y, v, rfl⟩ := a.ks p hp
  rfl
theorem eqDT_iff {ks ls : List (List Key × V)} {ts us : List Tie} (a : KvE ks ts) (b : KvE ls us) : eqDT ks ls = true ↔ ∀ x y, leastE ts x y = leastE us x y := by
  constructor
  · intro h
    unfold eqDT at h
    rw [Bool.and_eq_true] at h
    obtain ⟨h1, h2⟩ := h
    have hl : ks.length = ls.length := by simpa using h1
    rw [List.all_eq_true] at h2
    have hit : ∀ p ∈ ks, valV ls p.1 = some p.2 := fun p hp => by
      have := h2 p hp
      cases e : valV ls p.1 with
      | none => rw [e] at this; cases this
      | some v =>
        rw [e] at this
        have fv : flatV v = true := valV_flat (kvE_flat b) e
        obtain ⟨x, y, i, rfl⟩ := a.ks p hp
        obtain ⟨q, hq, rfl⟩ : ∃ q ∈ ls, q.2 = v := by
          unfold valV at e
          obtain ⟨q, hq, rfl⟩ := Option.map_eq_some_iff.mp e
          exact ⟨q, List.mem_of_find?_eq_some hq, rfl⟩
        obtain ⟨x', y', j, rfl⟩ := b.ks q hq
        have : decide (i = j) = true := by simpa [eqV] using this
        rw [of_decide_eq_true this]
    have sub : ∀ k ∈ ks.map (·.1), k ∈ ls.map (·.1) := fun k hk => by
      obtain ⟨p, hp, rfl⟩ := List.mem_map.mp hk
      exact val_mem (hit p hp)
    have sup := nd_turn a.nd sub (by rw [List.length_map, List.length_map, hl]; exact Nat.le_refl _)
    intro x y
    have ax := a.at_ x y
    have bx := b.at_ x y
    by_cases hm : keyE x y ∈ ks.map (·.1)
    · obtain ⟨p, hp, e⟩ := List.mem_map.mp hm
      have h3 := val_nodup a.nd p hp
      have h4 := hit p hp
      rw [e] at h3 h4
      rw [h3] at ax
      rw [h4] at bx
      have := ax.symm.trans bx
      cases e1 : leastE ts x y with
      | none => rw [e1] at ax; cases ax
      | some u =>
        cases e2 : leastE us x y with
        | none => rw [e2] at bx; cases bx
        | some v =>
          rw [e1, e2] at this
          exact congrArg some (V.int.inj (Option.some.inj this))
    · have n1 : leastE ts x y = none := by
        cases e1 : leastE ts x y with
        | none => rfl
        | some u => rw [e1] at ax; exact absurd (val_mem ax) hm
      have n2 : leastE us x y = none := by
        cases e1 : leastE us x y with
        | none => rfl
        | some u => rw [e1] at bx; exact absurd (sup _ (val_mem bx)) hm
      rw [n1, n2]
  · intro h
    unfold eqDT
    rw [Bool.and_eq_true, List.all_eq_true]
    refine ⟨by simpa using kvE_len2 a b h, fun p hp => ?_⟩
    obtain ⟨h1, h2⟩ := kvE_val a b h p hp
    rw [h1]
    obtain ⟨x, y, i, rfl⟩ := a.ks p hp
    simp [eqV]
section
variable {P : Program} {w : World} {K : PySem.W.Frag} {mg : Str → Option Value} {base : Heap}
/-! Tolls == anything -/
def spEqB (K : PySem.W.Frag) (C : Addr) : Sp := fun vs H Q _ => ∃ (p : Addr) (y : V) (zs : List Nam) (f : Pr), vs = [.ref p, y] ∧ TkF K C H p zs f ∧ NsOk zs ∧
  ((∃ t, TyX K H y t ∧ PySem.W.kitOne K t (.ref C) = some false ∧ Q (.bl false) H) ∨
   (∃ (p' : Addr) (us : List Nam) (g : Pr), y = .ref p' ∧ TkF K C H p' us g ∧ NsOk us ∧ ∀ b : Bool, (b = true ↔ zs = us ∧ ∀ x y, f x y = g x y) → Q (.bl b) H))
theorem ok_Tolls_eqB {f C : Addr} {fd : FuncData} (F : Fun K "__eq__" "Tolls.__eq__" s_Tolls_eq f fd) (T : TxtT K C) (m_isinstance : mg "isinstance" = none) (mg_Tolls : mg "Tolls" = some (.ref C))
    (ha : PySem.W.findIn K (.ref C) "__class__" = some (some (.builtin "object.__class__"))) (hn : PySem.W.specialIn K (.builtin "object.__class__") "__get__" = some (some (.builtin "getset_descriptor.__get__")))
    (htk : PySem.W.takesIn K (.builtin "object.__class__") = some true) (hm : PySem.W.mroIn K C (.type "object") = some true) : FnOk P w K mg base CX0 1 f fd ["self", "other"] (spEqB K C) := by
  refine F.ok sc_Tolls_eq (fun vs H Q E h => ?_) (fun cdv A outer s H vs Q E hr h => ?_)
  · obtain ⟨p, y, zs, f, rfl, _⟩ := h
    rfl
  · obtain ⟨p, y, zs, f, rfl, ⟨ts, tk, eok, ef, tl⟩, nok, h⟩ := h
    obtain ⟨dx, a, d, kvs, hp, hA, hd, kv, kl⟩ := id tk
    refine ⟨_, (pss_one (ps_ret (pe_and (pe_callB call_isi (by rfl) m_isinstance (by decide +kernel) (pa_cons (pv 1) (pa_cons (pe_glob (v := .ref C) (u := .ref C) (by rfl) mg_Tolls rfl) pa_nil))) (pe_and (pe_cmpR (op_eqD hr.units) (pe_fld (pv 0) rfl) (pe_fld (pv 1) rfl) (nomark _)) (pe_one (pe_cmpR (op_eq_dictTB (hu_of hr)) (pe_fld (pv 0) rfl) (pe_fld (pv 1) rfl) (nomark _))))))), ?_⟩
    rcases h with ⟨t, ty, kt, q⟩ | ⟨p', us, g, rfl, ⟨ts', tk', eok', eg, tl'⟩, nok', q⟩
    · refine ⟨_, rfl, _, _, _, _, false, rfl, .own C, ty, kt, _, rfl, iteF ?_⟩
      exact q
    · obtain ⟨dx', a', d', kvs', hp', hA', hd', kv', kl'⟩ := id tk'
      refine ⟨_, rfl, _, _, _, _, true, rfl, .own C, .base (.ins hp' T.cl ha hn htk hm), kit_self, _, rfl, iteT ?_⟩
      obtain ⟨d1, d3, d4⟩ := namesH_dp (K := K) (H := H) nok.nm
      obtain ⟨d1', d3', d4'⟩ := namesH_dp (K := K) (H := H) nok'.nm
      refine ⟨_, rfl, p, C, dx, _, _, rfl, hp, T.cl, T.nN, fldsT_names _ _, _, rfl, p', C, dx', _, _, rfl, hp', T.cl, T.nN, fldsT_names _ _, .tuple _, .tuple _, .tup hA.sq d1, .tup hA'.sq d1', nmT_shape d3 d4, nmT_shape d3' d4', _, rfl, ?_⟩
      rw [eqv_nmT]
      by_cases e : zs = us
      · rw [decide_eq_true e]
        refine iteT ⟨_, rfl, p, C, dx, _, _, rfl, hp, T.cl, T.nP, fldsT_prices _ _, _, rfl, p', C, dx', _, _, rfl, hp', T.cl, T.nP, fldsT_prices _ _, ?_⟩
        refine ⟨d, d', kvs, kvs', rfl, rfl, hd, hd', kvE_flat kv, kvE_flat kv', q _ ?_⟩
        rw [eqDT_iff kv kv']
        constructor
        · intro h
          exact ⟨e, fun x y => by rw [← ef, ← eg, h]⟩
        · rintro ⟨_, h⟩ x y
          rw [ef, eg, h]
      · rw [decide_eq_false e]
        exact iteF (q false ⟨(fun z => nomatch z), fun z => absurd z.1 e⟩)
end
end TK

namespace TK
open PySem PySem.Spec PyProof.Rows L2
/-- e.m(k = v, ..), e the class at C, m a static method -/
def tSMethK (C : Addr) (n : Nat) (sp : Sp) (gV : List V → List V → List V) (E : XK) (ta : TE) (tk : TA) : TE := fun σ H Q => ta σ H fun x H1 => x = .ref C ∧ tk σ H1 fun zs H2 => zs.length = n ∧ sp (gV [] zs) H2 Q E
section
variable {X : Cx} {CX : CXT} {k : Nat} {C p g : Addr} {mc : Value} {fd : FuncData} {ps ks : List Str} {sp : Sp} {E : XK} {o : Expr} {kws : List Keyword} {m : Str} {pos apos : Pos} {ta : TE} {tk : TA} {gv : List Value → List Value → List Value} {gV : List V → List V → List V} {pl : Sem Bool}
theorem pe_smethK0 (he : PE X o ta) (r : ClX.CRead X.K C mc) (c : SMet X.K C mc m p g) (F : FnOk X.prog X.w X.K X.mg X.base CX k g fd ps sp) (hr : Room k X.A) (hk : PySem.W.keepIn X.K (.ref g) = true) (hb : KBn X.K fd ps 0 ks gv gV) (hx : Passes CX X E) (hkw : PK X kws tk)
    (hall : (backToKw pos (keywordEach kws X.env)).all (·.1.isSome) = true := by rfl) (hks : (backToKw pos (keywordEach kws X.env)).filterMap (·.1) = ks := by rfl)
    (hpl : ((backTo pos (starEach [] X.env)).any (·.1) || (backToKw pos (keywordEach kws X.env)).any (·.1.isNone)) = false := by rfl)
    (ht : eval (.Call (.Attribute o m apos) [] kws pos) X.env = (do
      let ov ← eval o X.env
      standAt apos.atName
      let (f, first) ← holding [ov] (getMethod ov m pl)
      callWith pos f first (backTo pos (starEach [] X.env)) (backToKw pos (keywordEach kws X.env))) := by rfl) :
    PE X (.Call (.Attribute o m apos) [] kws pos) (tSMethK C ks.length sp gV E ta tk) := by
  refine ⟨fun pins s σ H Q I h => ?_⟩
  refine PySem.W.methodCall_KW (pl := pl) (thn (he.run pins s σ H _ I h) fun u s1 ⟨x, H1, I1, rx, ex, q⟩ => ?_) ht
  subst ex
  obtain rfl : u = Value.ref C := rx
  refine getmethsm_ok I1 r c fun s2 I2 => ?_
  refine PySem.W.callWith_KW0 (first := []) (h₀ := X.base) I2.ok.mod.kin hk hall ?_ hpl
  refine thn (hkw.run pos pins s2 σ H1 _ I2 q) fun ws s3 ⟨zs, H2, I3, rz, l1, q2⟩ => ⟨I3.kIn, ?_⟩
  rw [hks]
  exact run_kb (us := []) (vs := []) F hr hb hx I3 .nil rz rfl (rz.length.symm.trans l1) q2
end
/-- the facts of an exception without an __init__ of its own -/
structure OthT (K : PySem.W.Frag) (mg : Str → Option Value) (CO : Addr) : Prop where
  q : PySem.W.excIn K CO [.type "ValueError", .type "Exception", .type "BaseException", .type "object"] "ValueError.__new__" = true
  gC : mg "OtherNames" = some (.ref CO)
  kC : PySem.W.keepIn K (.ref CO) = true
  bx : PySem.W.subIn K (.ref CO) (.type "BaseException") = some true
  ty : PySem.W.typeIn K (.ref CO) = some (.type "type")
  te : PySem.W.exmOne K (.ref CO) (.ref CO) = some true
section
variable {P : Program} {w : World} {K : PySem.W.Frag} {mg : Str → Option Value} {base : Heap}
/-! Tolls / Tolls, over the same names and over others -/
def spOrX (K : PySem.W.Frag) (C CO : Addr) : Sp := fun vs H Q E => ∃ (p p' : Addr) (zs us : List Nam) (f g : Pr), vs = [.ref p, .ref p'] ∧ TkF K C H p zs f ∧ TkF K C H p' us g ∧ NsOk zs ∧ NsOk us ∧
  ((zs = us ∧ ∀ H' r h, Same H H' → TkF K C H' r zs h → (∀ x y, IsMin (h x y) fun v => f x y = some v ∨ g x y = some v) → Q (.ref r) H') ∨ (zs ≠ us ∧ E (.ref CO) none H))
theorem ok_Tolls_orX {f C CO fI gE : Addr} {fd fdI fdE : FuncData} (F : Fun K "__or__" "Tolls.__or__" s_Tolls_or f fd) (T : TxtT K C) (EO : OthT K mg CO) (M_Tolls : Mk K C fI) (G_Tolls : FnOk P w K mg base CX0 3 fI fdI ["self", "names", "entries"] (spInitT K C)) (mg_Tolls : mg "Tolls" = some (.ref C)) (b_Tolls : Binds K fdI ["self", "names", "entries"] [])
    (Me_entries : Meth K C "entries" gE) (G_entries : FnOk P w K mg base CX0 1 gE fdE ["self"] (spEntries K C)) (b_entries : Binds K fdE ["self"] []) : FnOk P w K mg base (L2.CX P w) 5 f fd ["self", "other"] (spOrX K C CO) := by
  refine F.okX sc_Tolls_or (fun vs H Q E h => ?_) (fun cdv A outer s H vs Q E hr h => ?_)
  · obtain ⟨p, p', zs, us, f, g, rfl, _⟩ := h
    rfl
  · obtain ⟨p, p', zs, us', f, g, rfl, ⟨ts, tk, eok, ef, tl⟩, ⟨us, uk, uok, eg, ul⟩, nok, nok', q⟩ := h
    have z6 := nok.l6
    obtain ⟨dx, a, d, kvs, hp, hA, hd, kv, kl⟩ := id tk
    obtain ⟨dx', a', d', kvs', hp', hA', hd', kv', kl'⟩ := id uk
    refine ⟨_, (pss_cons (ps_if (pt_cmpR (op_neD hr.units) (pe_fld (pv 0) rfl) (pe_fld (pv 1) rfl) (nomark _)) (pss_one (ps_raise rfl (takes_of rfl rfl rfl rfl) (pmk_own0 PySem.F.excBase_ValueError EO.q EO.gC EO.kC (raises_own EO.bx EO.ty) (by rfl)))) pss_nil)
  (PSs.nox (pss_one (ps_ret (pe_make M_Tolls G_Tolls (hr.mono (by decide)) (by rfl) mg_Tolls b_Tolls .nil pass0 (pa_cons (pe_fld (pv 0) rfl) (pa_cons (pe_op op_cat (pe_meth0 (pv 0) T.cl Me_entries G_entries (hr.mono (by decide)) b_entries .nil pass0) (pe_meth0 (pv 1) T.cl Me_entries G_entries (hr.mono (by decide)) b_entries .nil pass0)) pa_nil))))))), ?_⟩
    obtain ⟨d1, d3, d4⟩ := namesH_dp (K := K) (H := H) nok.nm
    obtain ⟨d1', d3', d4'⟩ := namesH_dp (K := K) (H := H) nok'.nm
    refine ⟨_, rfl, p, C, dx, _, _, rfl, hp, T.cl, T.nN, fldsT_names _ _, _, rfl, p', C, dx', _, _, rfl, hp', T.cl, T.nN, fldsT_names _ _, .tuple _, .tuple _, .tup hA.sq d1, .tup hA'.sq d1', nmT_shape d3 d4, nmT_shape d3' d4', _, rfl, ?_⟩
    rw [eqv_nmT]
    rcases q with ⟨rfl, q⟩ | ⟨ne, q⟩
    · rw [decide_eq_true rfl]
      refine iteF ?_
      refine ⟨_, rfl, p, C, dx, _, _, rfl, hp, T.cl, T.nN, fldsT_names _ _, _, rfl, p, dx, _, rfl, hp, fldsT_none _ _, p, zs, ts, rfl, tk, z6, fun H1 e1 es1 ne1 s1 ee1 t1 m1 => ?_⟩
      refine ⟨_, rfl, p', dx', _, rfl, s1 _ _ hp', fldsT_none _ _, p', zs, us, rfl, uk.same s1, z6, fun H2 e2 es2 ne2 s2 ee2 t2 m2 => ?_⟩
      refine ⟨e1, e2, _, _, rfl, rfl, s2 _ _ ee1, ee2, by rw [List.length_map, List.length_map]; exact Nat.le_of_lt (small1000 (by omega)), fun L nL => ?_⟩
      rw [← List.map_append]
      have sL := same_upd (o := .lst ((es1 ++ es2).map V.ref)) nL
      have s3 := (s1.trans s2).trans sL
      have hT := ((t1.same s2).app t2).same sL
      have ok1 := listE_ok eok
      have ok2 := listE_ok uok
      have ok3 : EOk zs (listE zs ts ++ listE zs us) := ⟨fun t m => (List.mem_append.mp m).elim (ok1.a t) (ok2.a t), fun t m => (List.mem_append.mp m).elim (ok1.b t) (ok2.b t), fun t m => (List.mem_append.mp m).elim (ok1.h0 t) (ok2.h0 t)⟩
      have l3 : (listE zs ts ++ listE zs us).length ≤ 10000 := by rw [← hT.1, List.length_append]; omega
      intro x dx2 n1 n2 ne
      refine make_go n1 n2 ne (.inr (hA.same s3)) (.inl (lstAt upd_same)) hT nok ok3 l3 fun H4 k4 s4 => ?_
      refine q _ _ _ (s3.trans s4) ⟨_, k4, ok3, fun _ _ => rfl, l3⟩ fun x y => (leastE_min _ x y).congr fun v => ?_
      rw [List.mem_append, listE_mem, listE_mem, ef, eg]
      constructor
      · rintro (h | h)
        · exact .inl h.2.2
        · exact .inr h.2.2
      · rintro (h | h)
        · rw [← ef] at h
          obtain ⟨i1, i2, _⟩ := least_in eok h
          exact .inl ⟨i1, i2, by rw [← ef]; exact h⟩
        · rw [← eg] at h
          obtain ⟨i1, i2, _⟩ := least_in uok h
          exact .inr ⟨i1, i2, by rw [← eg]; exact h⟩
    · rw [decide_eq_false ne]
      exact iteT q
/-! Tolls * Tolls, over other names -/
def spMulN (K : PySem.W.Frag) (C CO : Addr) : Sp := fun vs H Q E => ∃ (p p' : Addr) (zs us : List Nam) (f g : Pr), vs = [.ref p, .ref p'] ∧ TkF K C H p zs f ∧ TkF K C H p' us g ∧ NsOk zs ∧ NsOk us ∧ zs ≠ us ∧ E (.ref CO) none H
theorem ok_Tolls_mulN {f C CO fI gE : Addr} {fd fdI fdE : FuncData} (F : Fun K "__mul__" "Tolls.__mul__" s_Tolls_mul f fd) (T : TxtT K C) (EO : OthT K mg CO) (M_Tolls : Mk K C fI) (G_Tolls : FnOk P w K mg base CX0 3 fI fdI ["self", "names", "entries"] (spInitT K C)) (mg_Tolls : mg "Tolls" = some (.ref C)) (b_Tolls : Binds K fdI ["self", "names", "entries"] [])
    (Me_entries : Meth K C "entries" gE) (G_entries : FnOk P w K mg base CX0 1 gE fdE ["self"] (spEntries K C)) (b_entries : Binds K fdE ["self"] []) : FnOk P w K mg base (L2.CX P w) 5 f fd ["self", "other"] (spMulN K C CO) := by
  refine F.okX sc_Tolls_mul (fun vs H Q E h => ?_) (fun cdv A outer s H vs Q E hr h => ?_)
  · obtain ⟨p, p', zs, us, f, g, rfl, _⟩ := h
    rfl
  · obtain ⟨p, p', zs, us', f, g, rfl, ⟨ts, tk, eok, ef, tl⟩, ⟨us, uk, uok, eg, ul⟩, nok, nok', ne, q⟩ := h
    obtain ⟨dx, a, d, kvs, hp, hA, hd, kv, kl⟩ := id tk
    obtain ⟨dx', a', d', kvs', hp', hA', hd', kv', kl'⟩ := id uk
    refine ⟨_, (pss_cons (ps_if (pt_cmpR (op_neD hr.units) (pe_fld (pv 0) rfl) (pe_fld (pv 1) rfl) (nomark _)) (pss_one (ps_raise rfl (takes_of rfl rfl rfl rfl) (pmk_own0 PySem.F.excBase_ValueError EO.q EO.gC EO.kC (raises_own EO.bx EO.ty) (by rfl)))) pss_nil)
  (PSs.nox (pss_one (ps_ret (pe_make M_Tolls G_Tolls (hr.mono (by decide)) (by rfl) mg_Tolls b_Tolls .nil pass0 (pa_cons (pe_fld (pv 0) rfl) (pa_cons (pe_lc2 (own := [("giver", 2), ("middle", 3), ("toll", 4), ("start", 5), ("taker", 6), ("further", 7)]) (vs1 := [5, 6, 7]) (by rfl) sc_Tolls_mul.nd (pi_list (pe_meth0 (pv 0) T.cl Me_entries G_entries (hr.mono (by decide)) b_entries .nil pass0)) (blkOk_by (N := ["self", "other", "giver", "middle", "toll", "start", "taker", "further"]) (sc := defScope s_Tolls_mul) (by decide +kernel)) (by decide) (fun _ _ _ _ _ => (pg_tupK (K := K) (n := 3) rfl (by rfl) (pgs_cons (pg_name (i := 2) sc_Tolls_mul.nd rfl (.inl rfl)) (pgs_cons (pg_name (i := 3) sc_Tolls_mul.nd rfl (.inl rfl)) (pgs_cons (pg_name (i := 4) sc_Tolls_mul.nd rfl (.inl rfl)) pgs_nil))))) (fun _ _ _ _ _ => pts_nil) (fun _ _ _ _ _ => (pi_listK (K := K) rfl (pe_meth0 (pv 1) T.cl Me_entries G_entries (hr.mono (by decide)) b_entries .nil pass0))) (fun _ _ _ _ _ => (pg_tupK (K := K) (n := 3) rfl (by rfl) (pgs_cons (pg_name (i := 5) sc_Tolls_mul.nd rfl (.inl rfl)) (pgs_cons (pg_name (i := 6) sc_Tolls_mul.nd rfl (.inl rfl)) (pgs_cons (pg_name (i := 7) sc_Tolls_mul.nd rfl (.inl rfl)) pgs_nil))))) (fun _ _ _ _ _ => (pts_one (pt_cmpR op_eq (pv 5) (pv 3) (nomark _)))) (fun _ _ _ _ _ => (pe_tup (pa_cons (pv 2) (pa_cons (pv 6) (pa_cons (pe_op op_add (pv 4) (pv 7)) pa_nil)))))) pa_nil))))))), ?_⟩
    obtain ⟨d1, d3, d4⟩ := namesH_dp (K := K) (H := H) nok.nm
    obtain ⟨d1', d3', d4'⟩ := namesH_dp (K := K) (H := H) nok'.nm
    refine ⟨_, rfl, p, C, dx, _, _, rfl, hp, T.cl, T.nN, fldsT_names _ _, _, rfl, p', C, dx', _, _, rfl, hp', T.cl, T.nN, fldsT_names _ _, .tuple _, .tuple _, .tup hA.sq d1, .tup hA'.sq d1', nmT_shape d3 d4, nmT_shape d3' d4', _, rfl, ?_⟩
    rw [eqv_nmT, decide_eq_false ne]
    exact iteT q
/-! _law_refused -/
theorem eq_flatT {H : Hp} {t u : Addr} {xs : List V} (h1 : H t = some (.tup xs)) (h2 : H u = some (.tup xs)) (hl : xs.length ≤ 1000) (fl : ∀ x ∈ xs, flat1 x = true) (n : Nat) : Eq2 H (n + 1) (.ref t) (.ref u) := by
  refine .inr ⟨t, u, _, _, rfl, rfl, .inr ⟨.inl h1, .inl h2⟩, rfl, by omega, fun i x y hx hy => ?_⟩
  rw [hx] at hy
  have e := Option.some.inj hy
  have f := fl x (List.mem_of_getElem? hx)
  cases n with
  | zero => exact ⟨e, f⟩
  | succ n => exact .inl ⟨e, f⟩
structure ErrT (K : PySem.W.Frag) (mg : Str → Option Value) (CB N1 N2 N3 N4 N5 N6 CH : Addr) : Prop where
  g1 : mg "BadCount" = some (.ref N1)
  g2 : mg "BadName" = some (.ref N2)
  g3 : mg "BadNumber" = some (.ref N3)
  g4 : mg "DoubledName" = some (.ref N4)
  g5 : mg "Refused" = some (.ref N5)
  g6 : mg "UnknownName" = some (.ref N6)
  gH : mg "HouseError" = some (.ref CH)
  any : PySem.W.kitAny K (.ref CB) [.ref N1, .ref N2, .ref N3, .ref N4, .ref N5, .ref N6] = some false
  hs : PySem.W.kitOne K (.ref CB) (.ref CH) = some true
  ve : PySem.W.kitOne K (.ref CB) (.type "ValueError") = some true
def spRefused (K : PySem.W.Frag) (C : Addr) : Sp := fun vs H Q _ => ∃ (p p' : Addr) (k : Int) (zs us : List Nam) (f g : Pr), vs = [.ref p, .ref p', .int k] ∧ TkF K C H p zs f ∧ TkF K C H p' us g ∧ NsOk zs ∧ NsOk us ∧ zs ≠ us ∧ ∀ H', Same H H' → Q (.bl true) H'
theorem ok_L_refused {f C CO gO gM N1 N2 N3 N4 N5 N6 CH : Addr} {fd fdO fdM : FuncData} (F : Fun K "_law_refused" "_law_refused" s_L_refused f fd) (EO : OthT K mg CO) (EC : ExcC K CO) (ET : ErrT K mg CO N1 N2 N3 N4 N5 N6 CH)
    (m_isinstance : mg "isinstance" = none) (m_ValueError : mg "ValueError" = none) (sf_ : PySem.W.selfFirst K C = true)
    (O_or : Own K C "__or__" gO) (G_or : FnOk P w K mg base (L2.CX P w) 5 gO fdO ["self", "other"] (spOrX K C CO)) (b_or : Binds K fdO ["self", "other"] [])
    (O_mul : Own K C "__mul__" gM) (G_mul : FnOk P w K mg base (L2.CX P w) 5 gM fdM ["self", "other"] (spMulN K C CO)) (b_mul : Binds K fdM ["self", "other"] [])
    (d_L_same : Def P w K mg base "_law_same" 4 ["_law_got", "_law_wanted"] (spSame 2)) : FnOk P w K mg base CX0 6 f fd ["_law_t", "_law_u", "_law_way"] (spRefused K C) := by
  refine F.ok sc_L_refused (fun vs H Q E h => ?_) (fun cdv A outer s H vs Q E hr h => ?_)
  · obtain ⟨p, p', k, zs, us, f, g, rfl, _⟩ := h
    rfl
  · obtain ⟨p, p', k, zs, us, f, g, rfl, tkf, tkg, nok, nok', ne, q⟩ := h
    refine ⟨_, pss_cons (ps_set (i := 3) sc_L_refused.nd rfl (.inl rfl) pe_non)
      (pss_cons (ps_try_as (i := 5) (Wout := fun _ _ _ _ => False) rfl rfl sc_L_refused.nd rfl rfl ⟨rfl, by decide, .inl EO.gC⟩ takes0
        (fun W pn xe tk _ => pss_one (ps_if (pt_cmpR op_eq (pv 2) pe_int (nomark _)) (pss_one (ps_set (i := 4) sc_L_refused.nd rfl (.inl rfl) (pe_ownBinAt O_or sf_ G_or (hr.mono (by decide)) b_or (fun σ => passAt tk σ) (pv 0) (pv 1)))) (pss_one (ps_set (i := 4) sc_L_refused.nd rfl (.inl rfl) (pe_ownBinAt O_mul sf_ G_mul (hr.mono (by decide)) b_mul (fun σ => passAt tk σ) (pv 0) (pv 1))))))
        (fun a oe cls d pn hz hf => pss_cons (ps_set (i := 6) sc_L_refused.nd rfl (.inl rfl) (pe_callB (call_isXT EC hz hf) (by rfl) m_isinstance (by decide +kernel) (pa_cons (pv 5) (pa_cons (pe_tup (pa_cons (pe_glob (v := .ref N1) (u := .ref N1) (by rfl) ET.g1 rfl) (pa_cons (pe_glob (v := .ref N2) (u := .ref N2) (by rfl) ET.g2 rfl) (pa_cons (pe_glob (v := .ref N3) (u := .ref N3) (by rfl) ET.g3 rfl) (pa_cons (pe_glob (v := .ref N4) (u := .ref N4) (by rfl) ET.g4 rfl) (pa_cons (pe_glob (v := .ref N5) (u := .ref N5) (by rfl) ET.g5 rfl) (pa_cons (pe_glob (v := .ref N6) (u := .ref N6) (by rfl) ET.g6 rfl) pa_nil))))))) pa_nil))))
          (pss_one (ps_set (i := 3) sc_L_refused.nd rfl (.inl rfl) (pe_tup (pa_cons (pe_callB (call_isX EC hz hf) (by rfl) m_isinstance (by decide +kernel) (pa_cons (pv 5) (pa_cons (pe_glob (v := .ref CH) (u := .ref CH) (by rfl) ET.gH rfl) pa_nil))) (pa_cons (pe_callB (call_isX EC hz hf) (by rfl) m_isinstance (by decide +kernel) (pa_cons (pv 5) (pa_cons (pe_bltn (v := .ty "ValueError") (u := .type "ValueError") (by rfl) m_ValueError (by decide +kernel) rfl) pa_nil))) (pa_cons (pv 6) pa_nil))))))))
      (pss_one (ps_ret (pe_callD d_L_same (hr.mono (by decide)) (by rfl) (pa_cons (pv 3) (pa_cons (pe_tup (pa_cons pe_bl (pa_cons pe_bl (pa_cons pe_bl pa_nil)))) pa_nil)))))), ?_⟩
    have key : ∀ H1 : Hp, Same H H1 → ∀ y4 : Option V, ∃ b, PySem.W.exmOne K (Value.ref CO) (.ref CO) = some b := fun _ _ _ => ⟨_, EO.te⟩
    refine ⟨_, rfl, rfl, _, rfl, ite2 (fun e => ?_) (fun e => ?_)⟩
    · refine ⟨_, rfl, _, rfl, tkf.ins, tkg.ins, p, p', zs, us, f, g, rfl, tkf, tkg, nok, nok', .inr ⟨ne, ?_⟩⟩
      refine ⟨true, EO.te, fun _ e0 ne0 => ?_, fun z => nomatch z⟩
      refine ⟨_, rfl, (show (6 : Nat) ≤ sizeLine by decide), fun tp ntp => ?_⟩
      have st := same_upd (o := .tup [V.ref N1, .ref N2, .ref N3, .ref N4, .ref N5, .ref N6]) ntp
      refine ⟨tp, _, _, false, rfl, rfl, .inl rfl, upd_same, fun us r => ClsV.all (.cons (.own N1) (.cons (.own N2) (.cons (.own N3) (.cons (.own N4) (.cons (.own N5) (.cons (.own N6) .nil)))))) r, ET.any, ?_⟩
      refine ⟨_, rfl, .ref CH, .ref CH, true, rfl, rfl, .inl rfl, (fun u r => r), ET.hs, ?_⟩
      refine ⟨_, rfl, .ty "ValueError", .type "ValueError", true, rfl, rfl, .inl rfl, (fun u r => r), ET.ve, ?_⟩
      refine ⟨_, rfl, (show (3 : Nat) ≤ sizeLine by decide), fun u nu => ?_⟩
      have su := same_upd (o := .tup [V.bl true, .bl true, .bl false]) nu
      refine ⟨_, rfl, (show (3 : Nat) ≤ sizeLine by decide), fun v nv => ?_⟩
      have sv := same_upd (o := .tup [V.bl true, .bl true, .bl false]) nv
      exact ⟨_, _, rfl, eq_flatT (sv _ _ upd_same) upd_same (show (3 : Nat) ≤ 1000 by decide) (fun x hx => by rcases List.mem_cons.mp hx with rfl | hx; rfl; rcases List.mem_cons.mp hx with rfl | hx; rfl; rw [List.mem_singleton.mp hx]; rfl) 1, q _ ((st.trans su).trans sv)⟩
    · refine ⟨_, rfl, _, rfl, tkf.ins, tkg.ins, p, p', zs, us, f, g, rfl, tkf, tkg, nok, nok', ne, ?_⟩
      refine ⟨true, EO.te, fun _ e0 ne0 => ?_, fun z => nomatch z⟩
      refine ⟨_, rfl, (show (6 : Nat) ≤ sizeLine by decide), fun tp ntp => ?_⟩
      have st := same_upd (o := .tup [V.ref N1, .ref N2, .ref N3, .ref N4, .ref N5, .ref N6]) ntp
      refine ⟨tp, _, _, false, rfl, rfl, .inl rfl, upd_same, fun us r => ClsV.all (.cons (.own N1) (.cons (.own N2) (.cons (.own N3) (.cons (.own N4) (.cons (.own N5) (.cons (.own N6) .nil)))))) r, ET.any, ?_⟩
      refine ⟨_, rfl, .ref CH, .ref CH, true, rfl, rfl, .inl rfl, (fun u r => r), ET.hs, ?_⟩
      refine ⟨_, rfl, .ty "ValueError", .type "ValueError", true, rfl, rfl, .inl rfl, (fun u r => r), ET.ve, ?_⟩
      refine ⟨_, rfl, (show (3 : Nat) ≤ sizeLine by decide), fun u nu => ?_⟩
      have su := same_upd (o := .tup [V.bl true, .bl true, .bl false]) nu
      refine ⟨_, rfl, (show (3 : Nat) ≤ sizeLine by decide), fun v nv => ?_⟩
      have sv := same_upd (o := .tup [V.bl true, .bl true, .bl false]) nv
      exact ⟨_, _, rfl, eq_flatT (sv _ _ upd_same) upd_same (show (3 : Nat) ≤ 1000 by decide) (fun x hx => by rcases List.mem_cons.mp hx with rfl | hx; rfl; rcases List.mem_cons.mp hx with rfl | hx; rfl; rw [List.mem_singleton.mp hx]; rfl) 1, q _ ((st.trans su).trans sv)⟩
end
end TK

namespace TK
open PySem PySem.Spec PyProof.Rows L2
/-- the lesser of two prices -/
def lesF (f g : Pr) : Pr := fun x y => minL [f x y, g x y]
theorem lesF_min (f g : Pr) (x y : Nam) : IsMin (lesF f g x y) fun v => f x y = some v ∨ g x y = some v := by
  refine (minL_min _).congr fun u => ?_
  constructor
  · intro h
    rcases List.mem_cons.mp h with h | h
    · exact .inl h.symm
    · exact .inr (List.mem_singleton.mp h).symm
  · rintro (h | h)
    · rw [← h]; exact List.mem_cons_self
    · rw [← h]; exact List.mem_cons_of_mem _ (List.mem_singleton.mpr rfl)
section
variable {P : Program} {w : World} {K : PySem.W.Frag} {mg : Str → Option Value} {base : Heap}
/-! _law_lesser -/
def spLesser : Sp := fun vs H Q _ => ∃ (a b : Addr) (zs : List Nam) (f g : Pr), vs = [.ref a, .ref b] ∧ RowsF H a zs f ∧ RowsF H b zs g ∧ zs.length ≤ 6 ∧ ∀ H' q, Same H H' → RowsF H' q zs (lesF f g) → Q (.ref q) H'
theorem ok_L_lesser {f : Addr} {fd : FuncData} (F : Fun K "_law_lesser" "_law_lesser" s_L_lesser f fd) (m_len : mg "len" = none) (m_range : mg "range" = none) (d_L_least : Def P w K mg base "_law_least" 2 ["_law_prices"] (spLeastLL K)) :
    FnOk P w K mg base CX0 3 f fd ["_law_a", "_law_b"] spLesser := by
  refine F.ok sc_L_lesser (fun vs H Q E h => ?_) (fun cdv A outer s H vs Q E hr h => ?_)
  · obtain ⟨a, b, zs, f, g, rfl, _⟩ := h
    rfl
  · obtain ⟨a, b, zs, ff, gg, rfl, ha, hb, z6, q⟩ := h
    obtain ⟨xs, ea, xl⟩ := ha.len
    refine ⟨_, (pss_cons (ps_set (i := 2) sc_L_lesser.nd rfl (.inl rfl) (pe_lst pa_nil))
  (pss_cons (ps_for PassesOwn.never rfl (pi_range1 (by rfl) m_range (pa_cons (pe_callB call_len_seq (by rfl) m_len (by decide +kernel) (pa_cons (pv 0) pa_nil)) pa_nil)) (pg_name (i := 3) sc_L_lesser.nd rfl (.inr rfl))
    (pss_one (ps_expr (pe_bm PySem.F.plainAttrs_list PySem.F.slot_list_append PySem.F.type_list_append mt_append (pv 2) (pa_cons (pe_lc (own := [("_law_j", 4)]) (by rfl) sc_L_lesser.nd (pi_range1 (by rfl) m_range (pa_cons (pe_callB call_len_seq (by rfl) m_len (by decide +kernel) (pa_cons (pv 0) pa_nil)) pa_nil)) (blkOk_by (N := ["_law_a", "_law_b", "_law_rows_here", "_law_k", "_law_j"]) (sc := defScope s_L_lesser) (by decide +kernel)) (fun _ _ _ _ _ => (pg_name (i := 4) sc_L_lesser.nd rfl (.inl rfl))) (fun _ _ _ _ _ => pts_nil) (fun _ _ _ _ _ => (pe_callD d_L_least (hr.mono (by decide)) (by rfl) (pa_cons (pe_lst (pa_cons (pe_ix (ix_listK (K := K) rfl) (pe_ix (ix_listK (K := K) rfl) (pv 0) (pv 3) (fun _ _ => rfl)) (pv 4) (fun _ _ => rfl)) (pa_cons (pe_ix (ix_listK (K := K) rfl) (pe_ix (ix_listK (K := K) rfl) (pv 1) (pv 3) (fun _ _ => rfl)) (pv 4) (fun _ _ => rfl)) pa_nil))) pa_nil)))) pa_nil)))))
  (pss_one (ps_ret (pv 2))))), ?_⟩
    refine ⟨Nat.zero_le _, fun D nD => ?_⟩
    have s0 := same_upd (o := .lst []) nD
    refine ⟨_, rfl, a, _, rfl, .inl (lstAt (s0 _ _ ea)), _, rfl, by rw [xl]; omega, by rw [xl]; omega, for_range (fun i σ H' => ∃ (qs : List Addr) (y3 : Option V), σ = [some (.ref a), some (.ref b), some (.ref D), y3, none] ∧ Same H H' ∧ H' D = some (.lst (qs.map V.ref)) ∧ qs.length = i ∧ (∀ p ∈ qs, p ≠ D) ∧ ∀ (j : Nat) (p : Addr), qs[j]? = some p → ∃ x, zs[j]? = some x ∧ H' p = some (.lst ((zs.map (lesF ff gg x)).map capI))) ⟨[], none, rfl, s0, upd_same, rfl, (fun _ h => nomatch h), (fun _ _ h => nomatch h)⟩ ?_ ?_⟩
    · rintro i σ H1 hi ⟨qs, y3, rfl, s1, eD, ql, qD, hQ⟩
      have hi : i < zs.length := by rw [xl] at hi; omega
      obtain ⟨x, ex⟩ : ∃ x, zs[i]? = some x := ⟨_, List.getElem?_eq_getElem hi⟩
      refine ⟨_, rfl, .inl ⟨rfl, _, lstAt eD⟩, _, rfl, a, _, rfl, .inl (lstAt (s1 _ _ ea)), _, rfl, by rw [xl]; omega, by rw [xl]; omega, fun D2 nD2 => ?_⟩
      refine lc_range (fun k H' => Same H1 H' ∧ H' D2 = some (.lst (((zs.take k).map (lesF ff gg x)).map capI))) ⟨same_upd nD2, upd_same⟩ (fun k H2 hk hq => ?_) (fun H2 hq => ?_)
      · obtain ⟨s2, eD2⟩ := hq
        have hk : k < zs.length := by rw [xl] at hk; omega
        obtain ⟨y, ey⟩ : ∃ y, zs[k]? = some y := ⟨_, List.getElem?_eq_getElem hk⟩
        have s3 := s1.trans s2
        obtain ⟨rs, p, e0, e1, e2⟩ := (ha.same s3).at0 ex
        obtain ⟨rs', p', e0', e1', e2'⟩ := (hb.same s3).at0 ex
        refine ⟨rfl, yesT ⟨_, rfl, _, rfl, _, _, _, _, rfl, rfl, lstAt e0, e1, _, rfl, _, _, _, _, rfl, rfl, lstAt e2, cost_at0 (by rw [List.getElem?_map, ey]; rfl), _, rfl, _, rfl, _, _, _, _, rfl, rfl, lstAt e0', e1', _, rfl, _, _, _, _, rfl, rfl, lstAt e2', cost_at0 (by rw [List.getElem?_map, ey]; rfl), (show (2 : Nat) ≤ sizeLine by decide), fun L nL => ?_⟩⟩
        have sL := same_upd (o := .lst [capI (ff x y), capI (gg x y)]) nL
        refine ⟨L, [ff x y, gg x y], rfl, lstAt upd_same, _, sL _ _ eD2, ?_, ?_⟩
        · rw [List.length_map, List.length_map, List.length_take]; exact small1000 (by omega)
        · refine ⟨same_at (s2.trans sL) nD2, ?_⟩
          rw [List.take_add_one, ey, List.map_append, List.map_append, upd_same]
          rfl
      · obtain ⟨s2, eD2⟩ := hq
        rw [xl, Int.toNat_natCast, List.take_length] at eD2
        have kD : D2 ≠ D := fun z => by subst z; rw [eD] at nD2; cases nD2
        obtain ⟨u1, u2⟩ := rowsF_snoc (f := lesF ff gg) eD s2 eD2 kD (by rw [ql]; exact ex) qD hQ (.lst (qs.map V.ref ++ [V.ref D2]))
        exact ⟨_, _, _, rfl, rfl, s2 _ _ eD, by rw [List.length_map, ql]; exact small1000 (by omega), qs ++ [D2], _, rfl, same_at (s1.trans s2) nD, by rw [List.map_append]; exact upd_same, by rw [List.length_append, ql]; rfl, u1, u2⟩
    · rintro σ H1 ⟨qs, y3, rfl, s1, eD, ql, qD, hQ⟩
      rw [xl, Int.toNat_natCast] at ql
      exact ⟨_, rfl, q _ D s1 ⟨qs, eD, ql, hQ⟩⟩
end
end TK

namespace TK
open PySem PySem.Spec PyProof.Rows L2
/-! ties as data -/
def dT (t : Tie) : PyData := .tuple [.str (sOf t.1), .str (sOf t.2.1), .int t.2.2]
theorem ties_dp {K : PySem.W.Frag} {H : Hp} : ∀ {es : List Addr} {ts : List Tie}, TiesAt H es ts → DpAll K H (es.map V.ref) (ts.map dT)
  | [], [], _ => .nil
  | [], o :: os, h => by cases h.1
  | t :: ts, [], h => by cases h.1
  | t :: ts, o :: os, h => by
    obtain ⟨o', h1, h2⟩ := h.2 0 t rfl
    cases Option.some.inj h1
    exact .cons (.tup (tupAt h2) (.cons (.str _) (.cons (.str _) (.cons (.int _) .nil)))) (ties_dp ⟨Nat.succ.inj h.1, fun i t' a => h.2 (i + 1) t' a⟩)
theorem ties_lay : ∀ {ts : List Tie}, (∀ t ∈ ts, NmH t.1 ∧ NmH t.2.1) → PyData.canLayAll0 (ts.map dT) = true ∧ PyData.depthAll (ts.map dT) ≤ 2
  | [], _ => ⟨by simp [PyData.canLayAll0], by simp [PyData.depthAll]⟩
  | o :: os, h => by
    obtain ⟨h1, h2⟩ := ties_lay (ts := os) fun t m => h t (List.mem_cons_of_mem _ m)
    obtain ⟨n1, n2⟩ := h o List.mem_cons_self
    refine ⟨?_, ?_⟩
    · simp only [List.map_cons, PyData.canLayAll0, Bool.and_eq_true]
      exact ⟨by simp [dT, PyData.canLay0, PyData.canLayAll0, nmH_ok n1, nmH_ok n2], h1⟩
    · simp only [List.map_cons, PyData.depthAll]
      have : (dT o).depth ≤ 2 := by simp [dT, PyData.depth, PyData.depthAll]
      omega
theorem shape_ties {ts : List Tie} (h : ∀ t ∈ ts, NmH t.1 ∧ NmH t.2.1) : SeqAt.shaped (.list (ts.map dT)) = true := by
  obtain ⟨h1, h2⟩ := ties_lay h
  show ((PyData.list _).canLay0 && decide ((PyData.list _).depth ≤ 64)) = true
  rw [show (PyData.list (ts.map dT)).canLay0 = true by simp only [PyData.canLay0, h1], show (PyData.list (ts.map dT)).depth = PyData.depthAll (ts.map dT) + 1 by simp only [PyData.depth]]
  exact decide_eq_true (by omega)
theorem TiesAt.take {H : Hp} {es : List Addr} {ts : List Tie} (h : TiesAt H es ts) (k : Nat) : TiesAt H (es.take k) (ts.take k) := by
  refine ⟨by rw [List.length_take, List.length_take, h.1], fun i e he => ?_⟩
  rw [List.getElem?_take] at he
  split at he
  · rename_i hi
    obtain ⟨t, h1, h2⟩ := h.2 i e he
    exact ⟨t, by rw [List.getElem?_take, if_pos hi]; exact h1, h2⟩
  · cases he
theorem TiesAt.drop {H : Hp} {es : List Addr} {ts : List Tie} (h : TiesAt H es ts) (k : Nat) : TiesAt H (es.drop k) (ts.drop k) := by
  refine ⟨by rw [List.length_drop, List.length_drop, h.1], fun i e he => ?_⟩
  rw [List.getElem?_drop] at he
  obtain ⟨t, h1, h2⟩ := h.2 _ e he
  exact ⟨t, by rw [List.getElem?_drop]; exact h1, h2⟩
theorem cut_to_l (xs : List V) (i : Nat) : cutV xs none (some ((i : Nat) : Int)) = xs.take i := by
  unfold cutV
  rw [HT.sIx_none, List.drop_zero, Nat.sub_zero, HT.sIx_nat]
  by_cases h : i ≤ xs.length
  · rw [Nat.min_eq_left h]
  · rw [Nat.min_eq_right (by omega), List.take_length, List.take_of_length_le (by omega)]
/-- no two ties of the list tell of one pair -/
def PairsOff (ts : List Tie) : Prop := ts.Pairwise fun t t' => ¬ (t.1 = t'.1 ∧ t.2.1 = t'.2.1)
theorem listE_off {zs : List Nam} (nd : zs.Nodup) (ts : List Tie) : PairsOff (listE zs ts) := by
  have cell : ∀ {x y : Nam} {t : Tie}, cellE ts x y = some t → t.1 = x ∧ t.2.1 = y := fun {x y t} h => by
    unfold cellE at h
    obtain ⟨v, _, rfl⟩ := Option.map_eq_some_iff.mp h
    exact ⟨rfl, rfl⟩
  unfold PairsOff listE
  rw [List.pairwise_flatMap]
  refine ⟨fun x _ => ?_, ?_⟩
  · rw [List.pairwise_filterMap]
    refine nd.imp ?_
    intro a b ne t ht t' ht' e
    exact ne ((cell ht).2.symm.trans (e.2.trans (cell ht').2))
  · refine nd.imp ?_
    intro a b ne t ht t' ht' e
    obtain ⟨y, _, h1⟩ := List.mem_filterMap.mp ht
    obtain ⟨y', _, h2⟩ := List.mem_filterMap.mp ht'
    exact ne ((cell h1).1.symm.trans (e.1.trans (cell h2).1))
theorem rest_off {ts : List Tie} (h : PairsOff ts) {k : Nat} {t : Tie} (e : ts[k]? = some t) : ∀ t' ∈ ts.take k ++ ts.drop (k + 1), ¬ (t'.1 = t.1 ∧ t'.2.1 = t.2.1) := by
  have hk := (List.getElem?_eq_some_iff.mp e).1
  have e2 := (List.getElem?_eq_some_iff.mp e).2
  have spl : ts = ts.take k ++ (t :: ts.drop (k + 1)) := by
    rw [← e2, ← List.drop_eq_getElem_cons hk, List.take_append_drop]
  unfold PairsOff at h
  rw [spl, List.pairwise_append] at h
  obtain ⟨_, h2, h3⟩ := h
  obtain ⟨h4, _⟩ := List.pairwise_cons.mp h2
  intro t' m z
  rcases List.mem_append.mp m with m | m
  · exact h3 t' m t List.mem_cons_self z
  · exact h4 t' m ⟨z.1.symm, z.2.symm⟩
theorem least_gone {us : List Tie} {x y : Nam} (h : ∀ t ∈ us, ¬ (t.1 = x ∧ t.2.1 = y)) : leastE us x y = none := by
  cases e : leastE us x y with
  | none => rfl
  | some v =>
    have := ((leastE_min us x y).1 v e).1
    exact absurd ⟨rfl, rfl⟩ (h _ this)
theorem least_only {as bs : List Tie} {x y : Nam} {v : Int} (h : ∀ t ∈ as ++ bs, ¬ (t.1 = x ∧ t.2.1 = y)) : leastE (as ++ [(x, y, v)] ++ bs) x y = some v := by
  have hm : (x, y, v) ∈ as ++ [(x, y, v)] ++ bs := List.mem_append.mpr (.inl (List.mem_append.mpr (.inr (List.mem_singleton.mpr rfl))))
  obtain ⟨m, e, h1, _⟩ := (leastE_min (as ++ [(x, y, v)] ++ bs) x y).ex hm
  rw [e]
  rcases List.mem_append.mp h1 with h1 | h1
  · rcases List.mem_append.mp h1 with h1 | h1
    · exact absurd ⟨rfl, rfl⟩ (h _ (List.mem_append.mpr (.inl h1)))
    · have := List.mem_singleton.mp h1
      rw [show m = v from congrArg (fun t : Tie => t.2.2) this]
  · exact absurd ⟨rfl, rfl⟩ (h _ (List.mem_append.mpr (.inr h1)))
theorem EOk.sub {zs : List Nam} {ts us : List Tie} (h : EOk zs ts) (s : ∀ t ∈ us, t ∈ ts) : EOk zs us := ⟨fun t m => h.a t (s t m), fun t m => h.b t (s t m), fun t m => h.h0 t (s t m)⟩
section
variable {P : Program} {w : World} {K : PySem.W.Frag} {mg : Str → Option Value} {base : Heap}
/-! _law_changed -/
def spChanged (K : PySem.W.Frag) : Sp := fun vs H Q _ => ∃ (c r : Addr) (n : Int) (zs : List Nam) (ts : List Tie), vs = [.ref c, .ref r, .int n] ∧ SqL K H c (zs.map vN) ∧ RowsAt H r zs ts ∧ NsOk zs ∧ EOk zs ts ∧ 0 ≤ n ∧
  ∀ H' p es us, H p = none → EW H H' p zs es us → us.length ≤ 40 → (∃ x y, leastE us x y ≠ leastE ts x y) → Q (.ref p) H'
theorem ok_L_changed {f : Addr} {fd : FuncData} (F : Fun K "_law_changed" "_law_changed" s_L_changed f fd) (m_len : mg "len" = none) (m_int : mg "int" = none) (d_L_listed : Def P w K mg base "_law_listed" 1 ["_law_words_here", "_law_rows_here"] (spListed K)) :
    FnOk P w K mg base CX0 2 f fd ["_law_words_here", "_law_rows_here", "_law_number"] (spChanged K) := by
  refine F.ok sc_L_changed (fun vs H Q E h => ?_) (fun cdv A outer s H vs Q E hr h => ?_)
  · obtain ⟨c, r, n, zs, ts, rfl, _⟩ := h
    rfl
  · obtain ⟨c, r, n, zs, ts, rfl, hc, hr', nok, eok, n0, q⟩ := h
    have z1 := nok.l1
    have z6 := nok.l6
    have okl := listE_ok eok
    have nml : ∀ t ∈ listE zs ts, NmH t.1 ∧ NmH t.2.1 := fun t m => ⟨nok.nm _ (okl.a t m), nok.nm _ (okl.b t m)⟩
    refine ⟨_, (pss_cons (ps_set (i := 3) sc_L_changed.nd rfl (.inl rfl) (pe_callD d_L_listed (hr.mono (by decide)) (by rfl) (pa_cons (pv 0) (pa_cons (pv 1) pa_nil))))
  (pss_cons (ps_if (pt_cmpR (op_eqD hr.units) (pv 3) (pe_lst pa_nil) (nomark _)) (pss_one (ps_ret (pe_lst (pa_cons (pe_tup (pa_cons (pe_ix ix_list (pv 0) pe_int (fun _ _ => rfl)) (pa_cons (pe_ix ix_list (pv 0) (pe_un un_neg pe_int) (fun _ _ => rfl)) (pa_cons pe_int pa_nil)))) pa_nil)))) pss_nil)
  (pss_cons (ps_set (i := 4) sc_L_changed.nd rfl (.inl rfl) (pe_op op_mod (pe_op op_fdiv (pe_callTy call_int1 (by rfl) m_int (by decide +kernel) (pa_cons (pv 2) pa_nil)) pe_int) (pe_callB call_len_seq (by rfl) m_len (by decide +kernel) (pa_cons (pv 3) pa_nil))))
  (pss_cons (ps_asg (pe_ix ix_list (pv 3) (pv 4) (fun _ _ => rfl)) (pg_tup (by rfl) (pgs_cons (pg_name (i := 5) sc_L_changed.nd rfl (.inl rfl)) (pgs_cons (pg_name (i := 6) sc_L_changed.nd rfl (.inl rfl)) (pgs_cons (pg_name (i := 7) sc_L_changed.nd rfl (.inl rfl)) pgs_nil)))))
  (pss_cons (ps_if (pt_cmpR op_eq (pe_op op_mod (pe_callTy call_int1 (by rfl) m_int (by decide +kernel) (pa_cons (pv 2) pa_nil)) pe_int) pe_int (nomark _)) (pss_one (ps_ret (pe_op op_cat (pe_slice sl_list (pv 3) po_none (po_some (pv 4))) (pe_slice sl_list (pv 3) (po_some (pe_op op_add (pv 4) pe_int)) po_none)))) pss_nil)
  (pss_one (ps_ret (pe_op op_cat (pe_op op_cat (pe_slice sl_list (pv 3) po_none (po_some (pv 4))) (pe_lst (pa_cons (pe_tup (pa_cons (pv 5) (pa_cons (pv 6) (pa_cons (pe_ix ix_list (pe_lst (pa_cons (pe_op op_sub (pv 7) pe_int) (pa_cons pe_int pa_nil))) (pe_callTy call_int1 (by rfl) m_int (by decide +kernel) (pa_cons (pe_cmpR op_eq (pv 7) pe_int (nomark _)) pa_nil)) (fun _ _ => rfl)) pa_nil)))) pa_nil))) (pe_slice sl_list (pv 3) (po_some (pe_op op_add (pv 4) pe_int)) po_none))))))))), ?_⟩
    refine ⟨_, rfl, _, rfl, c, r, zs, ts, rfl, hc, z6, hr', fun H1 D es nD s1 eD hT l36 => ?_⟩
    refine ⟨_, rfl, Nat.zero_le _, fun n0' nn => ?_⟩
    have sn := same_upd (o := .lst []) nn
    have s2 := s1.trans sn
    refine ⟨.list _, .list [], .lst (lstAt (sn _ _ eD)) (ties_dp (hT.same sn)), .lst (lstAt upd_same) .nil, shape_ties nml, rfl, _, rfl, ?_⟩
    rw [nil_eqv, List.length_map]
    have eD2 := sn _ _ eD
    have hT2 := hT.same sn
    generalize upd H1 n0' (.lst []) = H2 at s2 eD2 hT2 ⊢
    clear sn s1
    by_cases e0 : (listE zs ts).length = 0
    · rw [decide_eq_true e0]
      obtain ⟨x, hx⟩ : ∃ x, zs[0]? = some x := ⟨_, List.getElem?_eq_getElem (by omega)⟩
      obtain ⟨y, hy⟩ : ∃ y, zs[zs.length - 1]? = some y := ⟨_, List.getElem?_eq_getElem (by omega)⟩
      have a0 : atI (zs.map vN) 0 = some (vN x) := atI_in (by decide) (by rw [show (0 : Int).toNat = 0 from rfl, List.getElem?_map, hx]; rfl)
      have a1 : atI (zs.map vN) (-1) = some (vN y) := by
        unfold atI ixN
        rw [if_neg (by decide), if_pos (by rw [List.length_map]; omega)]
        show (zs.map vN)[((-1 : Int) + ((zs.map vN).length : Nat)).toNat]? = _
        rw [List.length_map, show ((-1 : Int) + (zs.length : Nat)).toNat = zs.length - 1 by omega, List.getElem?_map, hy]
        rfl
      refine iteT ⟨_, rfl, _, _, _, _, rfl, rfl, s2.seq hc, a0, _, rfl, _, rfl, _, _, _, _, rfl, rfl, s2.seq hc, a1, (show (3 : Nat) ≤ sizeLine by decide), fun t nt => ⟨(show (1 : Nat) ≤ sizeLine by decide), fun p np => ?_⟩⟩
      have st := same_upd (o := .tup [vN x, vN y, .int 0]) nt
      have sp := same_upd (o := .lst [V.ref t]) np
      refine q _ p [t] [(x, y, 0)] (none_of (s2.trans st) np) ⟨(s2.trans st).trans sp, upd_same, ⟨rfl, fun i e he => ?_⟩, ⟨fun t' m => ?_, fun t' m => ?_, fun t' m => ?_⟩⟩ (show (1 : Nat) ≤ 40 by decide) ⟨x, y, ?_⟩
      · match i, he with
        | 0, he => cases Option.some.inj he; exact ⟨_, rfl, sp _ _ upd_same⟩
      · rw [List.mem_singleton.mp m]; exact List.mem_of_getElem? hx
      · rw [List.mem_singleton.mp m]; exact List.mem_of_getElem? hy
      · rw [List.mem_singleton.mp m]; exact Int.le_refl _
      · have h1 : leastE [(x, y, (0 : Int))] x y = some 0 := least_only (as := []) (bs := []) (fun _ h => nomatch h)
        rw [h1, least_list eok, List.eq_nil_of_length_eq_zero e0]
        intro z
        cases z
    · rw [decide_eq_false e0]
      refine iteF ?_
      have el : es.length = (listE zs ts).length := hT2.1
      have elm : (es.map V.ref).length = es.length := List.length_map ..
      have k0 := Int.emod_nonneg (n / 2) (show ((es.map V.ref).length : Int) ≠ 0 by omega)
      have k1 := Int.emod_lt_of_pos (n / 2) (show (0 : Int) < ((es.map V.ref).length : Int) by omega)
      refine ⟨_, rfl, .inl ⟨_, rfl, _, _, rfl, rfl, ⟨by decide, by decide⟩, _, rfl, D, _, rfl, .inl (lstAt eD2), _, _, rfl, rfl, (show (0 : Int) < ((es.map V.ref).length : Int) by omega), ?_⟩⟩
      obtain ⟨k, hk⟩ : ∃ k : Nat, n / 2 % ((es.map V.ref).length : Int) = (k : Int) := ⟨(n / 2 % ((es.map V.ref).length : Int)).toNat, by omega⟩
      have kl : k < es.length := by omega
      obtain ⟨e, he⟩ : ∃ e, es[k]? = some e := ⟨_, List.getElem?_eq_getElem kl⟩
      obtain ⟨t, ht, hte⟩ := hT2.2 k e he
      have ak : atI (es.map V.ref) (n / 2 % ((es.map V.ref).length : Int)) = some (.ref e) := by
        rw [hk]
        exact atI_in (by omega) (by rw [Int.toNat_natCast, List.getElem?_map, he]; rfl)
      refine ⟨_, rfl, _, rfl, _, _, _, _, rfl, rfl, lstAt eD2, ak, ?_⟩
      refine gTup3 hte [some (.ref c), some (.ref r), some (.int n), some (.ref D), some (.int (k : Int)), some (vN t.1), some (vN t.2.1), some (.int t.2.2)] (by rw [← hk]; rfl) ?_
      have off := rest_off (listE_off nok.nd ts) ht
      have tm : t ∈ listE zs ts := List.mem_of_getElem? ht
      have tl := (listE_mem.mp (show (t.1, t.2.1, t.2.2) ∈ listE zs ts from tm)).2.2
      have t0 := okl.h0 t tm
      have sub1 : ∀ t' ∈ (listE zs ts).take k, t' ∈ listE zs ts := fun t' m => List.mem_of_mem_take m
      have sub2 : ∀ t' ∈ (listE zs ts).drop (k + 1), t' ∈ listE zs ts := fun t' m => List.mem_of_mem_drop m
      refine ⟨_, rfl, .inl ⟨_, rfl, _, _, rfl, rfl, (show (0 : Int) < 2 by decide), rfl, _, rfl, ite2 (fun ev => ?_) (fun ev => ?_)⟩⟩
      · refine ⟨_, rfl, _, rfl, _, rfl, D, _, rfl, lstAt eD2, fun A nA => ?_⟩
        rw [cut_to_l, ← List.map_take]
        have sA := same_upd (o := .lst ((es.take k).map V.ref)) nA
        refine ⟨_, rfl, _, rfl, _, _, rfl, rfl, _, rfl, D, _, rfl, lstAt (sA _ _ eD2), fun B nB => ?_⟩
        rw [show ((k : Int) + 1) = ((k + 1 : Nat) : Int) by omega, cut_from_l, ← List.map_drop]
        have sB := same_upd (o := .lst ((es.drop (k + 1)).map V.ref)) nB
        refine ⟨A, B, _, _, rfl, rfl, sB _ _ upd_same, upd_same, by rw [List.length_map, List.length_map, List.length_take, List.length_drop]; exact Nat.le_of_lt (small1000 (by omega)), fun p np => ?_⟩
        rw [← List.map_append]
        have sp := same_upd (o := .lst ((es.take k ++ es.drop (k + 1)).map V.ref)) np
        have s3 := ((s2.trans sA).trans sB)
        have s5 := (sA.trans sB).trans sp
        refine q _ p _ ((listE zs ts).take k ++ (listE zs ts).drop (k + 1)) (none_of s3 np) ⟨s3.trans sp, upd_same, ((hT2.same s5).take k).app ((hT2.same s5).drop (k + 1)), okl.sub fun t' m => (List.mem_append.mp m).elim (sub1 t') (sub2 t')⟩ (by rw [List.length_append, List.length_take, List.length_drop]; omega) ⟨t.1, t.2.1, ?_⟩
        rw [least_gone off, tl]
        intro z
        cases z
      · refine ⟨_, rfl, _, rfl, _, rfl, D, _, rfl, lstAt eD2, fun A nA => ?_⟩
        rw [cut_to_l, ← List.map_take]
        have sA := same_upd (o := .lst ((es.take k).map V.ref)) nA
        refine ⟨_, rfl, _, rfl, _, rfl, _, _, rfl, rfl, (show (2 : Nat) ≤ sizeLine by decide), fun L nL => ?_⟩
        have sL := same_upd (o := .lst [V.int (t.2.2 - 1), .int 1]) nL
        obtain ⟨v, hv, hne, hv0⟩ : ∃ v : Int, atI [V.int (t.2.2 - 1), .int 1] (if decide (V.int t.2.2 = V.int 0) = true then (1 : Int) else 0) = some (.int v) ∧ v ≠ t.2.2 ∧ 0 ≤ v := by
          by_cases e : t.2.2 = 0
          · refine ⟨1, ?_, by omega, by decide⟩
            rw [if_pos (decide_eq_true (congrArg V.int e))]
            rfl
          · refine ⟨t.2.2 - 1, ?_, by omega, by omega⟩
            rw [if_neg (fun z => e (V.int.inj (of_decide_eq_true z)))]
            rfl
        refine ⟨_, rfl, rfl, .inr ⟨_, rfl, L, _, _, .int v, rfl, rfl, lstAt upd_same, hv, (show (3 : Nat) ≤ sizeLine by decide), fun T nT => ⟨(show (1 : Nat) ≤ sizeLine by decide), fun O nO => ?_⟩⟩⟩
        have sT := same_upd (o := .tup [vN t.1, vN t.2.1, .int v]) nT
        have sO := same_upd (o := .lst [V.ref T]) nO
        have eA := sO _ _ (sT _ _ (sL _ _ (upd_same (H := H2) (a := A) (o := .lst ((es.take k).map V.ref)))))
        refine ⟨A, O, _, _, rfl, rfl, eA, upd_same, by rw [List.length_map, List.length_take]; exact Nat.le_of_lt (small1000 (by show _ + 1 ≤ 1000; omega)), fun M nM => ?_⟩
        have sM := same_upd (o := .lst ((es.take k).map V.ref ++ [V.ref T])) nM
        have s4 := (((sA.trans sL).trans sT).trans sO).trans sM
        refine ⟨_, rfl, _, rfl, _, _, rfl, rfl, _, rfl, D, _, rfl, lstAt (s4 _ _ eD2), fun B nB => ?_⟩
        rw [show ((k : Int) + 1) = ((k + 1 : Nat) : Int) by omega, cut_from_l, ← List.map_drop]
        have sB := same_upd (o := .lst ((es.drop (k + 1)).map V.ref)) nB
        have eM := sB _ _ (upd_same (a := M) (o := .lst ((es.take k).map V.ref ++ [V.ref T])))
        refine ⟨M, B, _, _, rfl, rfl, eM, upd_same, by rw [List.length_append, List.length_map, List.length_map, List.length_take, List.length_drop]; exact Nat.le_of_lt (small1000 (by show _ + 1 + _ ≤ 1000; omega)), fun p np => ?_⟩
        have emap : (es.take k).map V.ref ++ [V.ref T] ++ (es.drop (k + 1)).map V.ref = (es.take k ++ [T] ++ es.drop (k + 1)).map V.ref := by simp
        rw [emap]
        have sp := same_upd (o := .lst ((es.take k ++ [T] ++ es.drop (k + 1)).map V.ref)) np
        have s5 := (s4.trans sB).trans sp
        have eT := sp _ _ (sB _ _ (sM _ _ (sO _ _ (upd_same (a := T) (o := .tup [vN t.1, vN t.2.1, V.int v])))))
        have hone : TiesAt _ [T] [(t.1, t.2.1, v)] := ⟨rfl, fun i e he => by
          match i, he with
          | 0, he => cases Option.some.inj he; exact ⟨_, rfl, eT⟩⟩
        refine q _ p _ ((listE zs ts).take k ++ [(t.1, t.2.1, v)] ++ (listE zs ts).drop (k + 1)) (none_of (s2.trans (s4.trans sB)) np) ⟨s2.trans s5, upd_same, (((hT2.same s5).take k).app hone).app ((hT2.same s5).drop (k + 1)), ((okl.sub sub1).app ⟨fun t' m => ?_, fun t' m => ?_, fun t' m => ?_⟩).app (okl.sub sub2)⟩ (by rw [List.length_append, List.length_append, List.length_take, List.length_drop, List.length_singleton]; omega) ⟨t.1, t.2.1, ?_⟩
        · rw [List.mem_singleton.mp m]; exact okl.a t tm
        · rw [List.mem_singleton.mp m]; exact okl.b t tm
        · rw [List.mem_singleton.mp m]; exact hv0
        · rw [least_only off, tl]
          intro z
          exact hne (Option.some.inj z)
end
end TK

namespace TK
open PySem PySem.Spec PyProof.Rows L2
theorem TkF.wrote {K : PySem.W.Frag} {C : Addr} {H : Hp} {p D : Addr} {zs : List Nam} {f : Pr} {xs : List V} {o : HO} (h : TkF K C H p zs f) (e : H D = some (.lst xs)) : TkF K C (upd H D o) p zs f := by
  obtain ⟨ts, h1, h2, h3, h4⟩ := h
  exact ⟨ts, h1.wrote e, h2, h3, h4⟩
theorem EW.same {H0 H H1 : Hp} {D : Addr} {zs : List Nam} {es : List Addr} {ts : List Tie} (h : EW H0 H D zs es ts) (s : Same H H1) : EW H0 H1 D zs es ts := ⟨h.s.trans s, s _ _ h.d, h.t.same s, h.o⟩
theorem cut_last {zs : List Nam} (h : 1 ≤ zs.length) : cutV (zs.map vN) none (some (-1)) = zs.dropLast.map vN := by
  unfold cutV
  rw [HT.sIx_none, List.drop_zero, Nat.sub_zero, List.length_map]
  show (zs.map vN).take (if (-1 : Int) < 0 then ((-1 : Int) + (zs.length : Nat)).toNat else min (-1 : Int).toNat zs.length) = _
  rw [if_pos (by decide), show ((-1 : Int) + (zs.length : Nat)).toNat = zs.length - 1 by omega, ← List.map_take, ← List.dropLast_eq_take]
theorem last_at0 {zs : List Nam} {z : Nam} (hz : zs.getLast? = some z) : atI (zs.map vN) (-1) = some (vN z) := by
  have hl : 1 ≤ zs.length := by
    cases zs with
    | nil => cases hz
    | cons _ _ => exact Nat.le_add_left 1 _
  rw [List.getLast?_eq_getElem?] at hz
  unfold atI ixN
  rw [if_neg (by decide), if_pos (by rw [List.length_map]; omega)]
  show (zs.map vN)[((-1 : Int) + ((zs.map vN).length : Nat)).toNat]? = _
  rw [List.length_map, show ((-1 : Int) + (zs.length : Nat)).toNat = zs.length - 1 by omega, List.getElem?_map, hz]
  rfl
theorem split_last {zs : List Nam} {z : Nam} (hz : zs.getLast? = some z) : zs = zs.dropLast ++ [z] := by
  cases zs with
  | nil => cases hz
  | cons a r =>
    have := List.dropLast_concat_getLast (l := a :: r) (by simp)
    rw [List.getLast?_eq_some_getLast (by simp)] at hz
    rw [← Option.some.inj hz]
    exact this.symm
/-- a name changed -/
def ren (z st x : Nam) : Nam := if x = z then st else x
def renT (z st : Nam) (t : Tie) : Tie := (ren z st t.1, ren z st t.2.1, t.2.2)
theorem ren_mem {zs : List Nam} {z st x : Nam} (hz : zs.getLast? = some z) (h : x ∈ zs) : ren z st x ∈ zs.dropLast ++ [st] := by
  unfold ren
  split
  · exact List.mem_append.mpr (.inr (List.mem_singleton.mpr rfl))
  · rename_i ne
    rw [split_last hz] at h
    rcases List.mem_append.mp h with h | h
    · exact List.mem_append.mpr (.inl h)
    · exact absurd (List.mem_singleton.mp h) ne
theorem ren_pick (z st x : Nam) : atI [vN x, vN st] (if decide (vN x = vN z) = true then (1 : Int) else 0) = some (vN (ren z st x)) := by
  unfold ren
  by_cases e : x = z
  · rw [if_pos e, if_pos (decide_eq_true (congrArg vN e))]
    rfl
  · rw [if_neg e, if_neg (fun w => e (by have := of_decide_eq_true w; exact sOf_inj (V.str.inj this)))]
    rfl
theorem ns_last {zs : List Nam} {st : Nam} (nok : NsOk zs) (h : NmH st) (n : st ∉ zs) : NsOk (zs.dropLast ++ [st]) := by
  have sub : ∀ x ∈ zs.dropLast, x ∈ zs := fun x m => (List.dropLast_sublist zs).subset m
  refine ⟨fun x m => ?_, ?_, by rw [List.length_append]; exact Nat.le_add_left 1 _, by rw [List.length_append, List.length_dropLast, List.length_singleton]; have := nok.l6; have := nok.l1; omega⟩
  · rcases List.mem_append.mp m with m | m
    · exact nok.nm x (sub x m)
    · rw [List.mem_singleton.mp m]; exact h
  · rw [List.nodup_append]
    refine ⟨nok.nd.sublist (List.dropLast_sublist zs), List.nodup_cons.mpr ⟨(fun h => nomatch h), List.nodup_nil⟩, fun a ha b hb e => ?_⟩
    rw [List.mem_singleton.mp hb] at e
    exact n (e ▸ sub a ha)
theorem ns_ini {zs : List Nam} (nok : NsOk zs) (h : 2 ≤ zs.length) : NsOk zs.dropLast :=
  ⟨fun x m => nok.nm x ((List.dropLast_sublist zs).subset m), nok.nd.sublist (List.dropLast_sublist zs), by rw [List.length_dropLast]; omega, by rw [List.length_dropLast]; have := nok.l6; omega⟩
theorem ns_turn {zs : List Nam} (nok : NsOk zs) : NsOk (zs.drop 1 ++ zs.take 1) := by
  have p : (zs.drop 1 ++ zs.take 1).Perm zs := List.perm_append_comm.trans (by rw [List.take_append_drop])
  exact ⟨fun x m => nok.nm x (p.mem_iff.mp m), p.nodup_iff.mpr nok.nd, by rw [p.length_eq]; exact nok.l1, by rw [p.length_eq]; exact nok.l6⟩
theorem turn_ne {zs : List Nam} (nd : zs.Nodup) (h : 2 ≤ zs.length) : zs.drop 1 ++ zs.take 1 ≠ zs := by
  match zs, h with
  | a :: b :: r, _ =>
    intro e
    have h0 : b = a := by
      have := congrArg List.head? e
      simpa using this
    subst h0
    exact (List.nodup_cons.mp nd).1 List.mem_cons_self
theorem turn_mem {zs : List Nam} {x : Nam} : x ∈ zs.drop 1 ++ zs.take 1 ↔ x ∈ zs := by
  have p : (zs.drop 1 ++ zs.take 1).Perm zs := List.perm_append_comm.trans (by rw [List.take_append_drop])
  exact p.mem_iff
def keptB (z : Nam) (t : Tie) : Bool := !decide (t.1 = z) && !decide (t.2.1 = z)
theorem vN_dec (x z : Nam) : decide (vN x = vN z) = decide (x = z) := by
  by_cases e : x = z
  · rw [decide_eq_true e, decide_eq_true (congrArg vN e)]
  · rw [decide_eq_false e, decide_eq_false (show ¬ vN x = vN z from fun w => e (sOf_inj (V.str.inj w)))]
section
variable {P : Program} {w : World} {K : PySem.W.Frag} {mg : Str → Option Value} {base : Heap}
/-! _law_foreign -/
def spForeign (K : PySem.W.Frag) (C : Addr) : Sp := fun vs H Q _ => ∃ (c l : Addr) (zs : List Nam) (es : List Addr) (ts : List Tie), vs = [.ref c, .ref l] ∧ H c = some (.lst (zs.map vN)) ∧ H l = some (.lst (es.map V.ref)) ∧ TiesAt H es ts ∧ EOk zs ts ∧ NsOk zs ∧ ts.length ≤ 10000 ∧
  ∀ (H' : Hp) (p : Addr) (qs : List Addr), Same H H' → H' p = some (.lst (qs.map V.ref)) → (∀ q ∈ qs, ∃ us g, TkF K C H' q us g ∧ NsOk us ∧ us ≠ zs) → Q (.ref p) H'
theorem ok_L_foreign {f C fI : Addr} {fd fdI : FuncData} (F : Fun K "_law_foreign" "_law_foreign" s_L_foreign f fd) (T : TxtT K C) (m_list : mg "list" = none) (m_len : mg "len" = none) (m_int : mg "int" = none)
    (M_Tolls : Mk K C fI) (G_Tolls : FnOk P w K mg base CX0 3 fI fdI ["self", "names", "entries"] (spInitT K C)) (mg_Tolls : mg "Tolls" = some (.ref C)) (b_Tolls : Binds K fdI ["self", "names", "entries"] [])
    (d_L_strange : Def P w K mg base "_law_strange" 1 ["_law_words_here"] (spStrange K)) : FnOk P w K mg base CX0 5 f fd ["_law_words_here", "_law_loads_here"] (spForeign K C) := by
  refine F.ok sc_L_foreign (fun vs H Q E h => ?_) (fun cdv A outer s H vs Q E hr h => ?_)
  · obtain ⟨c, l, zs, es, ts, rfl, _⟩ := h
    rfl
  · obtain ⟨c, l, zs, es, ts, rfl, hc, hl, hT, eok, nok, tl, q⟩ := h
    have z1 := nok.l1
    have z6 := nok.l6
    have zl : (zs.map vN).length = zs.length := List.length_map ..
    have el : es.length = ts.length := hT.1
    obtain ⟨z, hz⟩ : ∃ z, zs.getLast? = some z := by
      cases zs with
      | nil => exact absurd z1 (by decide)
      | cons a r => exact ⟨_, List.getLast?_eq_some_getLast (by simp)⟩
    have az := last_at0 hz
    refine ⟨_, (pss_cons (ps_set (i := 2) sc_L_foreign.nd rfl (.inl rfl) (pe_callD d_L_strange (hr.mono (by decide)) (by rfl) (pa_cons (pv 0) pa_nil)))
  (pss_cons (ps_set (i := 3) sc_L_foreign.nd rfl (.inl rfl) (pe_lst pa_nil))
  (pss_cons (ps_for PassesOwn.never rfl (pi_list (pv 1)) (pg_tup (by rfl) (pgs_cons (pg_name (i := 4) sc_L_foreign.nd rfl (.inl rfl)) (pgs_cons (pg_name (i := 5) sc_L_foreign.nd rfl (.inl rfl)) (pgs_cons (pg_name (i := 6) sc_L_foreign.nd rfl (.inl rfl)) pgs_nil))))
    (pss_one (ps_expr (pe_bm PySem.F.plainAttrs_list PySem.F.slot_list_append PySem.F.type_list_append mt_append (pv 3) (pa_cons (pe_tup (pa_cons (pe_ix ix_list (pe_lst (pa_cons (pv 4) (pa_cons (pv 2) pa_nil))) (pe_callTy call_int1 (by rfl) m_int (by decide +kernel) (pa_cons (pe_cmpR op_eq (pv 4) (pe_ix ix_list (pv 0) (pe_un un_neg pe_int) (fun _ _ => rfl)) (nomark _)) pa_nil)) (fun _ _ => rfl)) (pa_cons (pe_ix ix_list (pe_lst (pa_cons (pv 5) (pa_cons (pv 2) pa_nil))) (pe_callTy call_int1 (by rfl) m_int (by decide +kernel) (pa_cons (pe_cmpR op_eq (pv 5) (pe_ix ix_list (pv 0) (pe_un un_neg pe_int) (fun _ _ => rfl)) (nomark _)) pa_nil)) (fun _ _ => rfl)) (pa_cons (pv 6) pa_nil)))) pa_nil)))))
  (pss_cons (ps_set (i := 7) sc_L_foreign.nd rfl (.inl rfl) (pe_lst (pa_cons (pe_make M_Tolls G_Tolls (hr.mono (by decide)) (by rfl) mg_Tolls b_Tolls .nil pass0 (pa_cons (pe_op op_cat (pe_slice sl_list (pv 0) po_none (po_some (pe_un un_neg pe_int))) (pe_lst (pa_cons (pv 2) pa_nil))) (pa_cons (pv 3) pa_nil))) pa_nil)))
  (pss_cons (ps_if (pt_cmpR op_gt (pe_callB call_len_seq (by rfl) m_len (by decide +kernel) (pa_cons (pv 0) pa_nil)) pe_int (nomark _)) (pss_cons (ps_setLc (i := 8) (own := [("_law_one", 4), ("_law_two", 5), ("_law_toll", 6)]) (by rfl) sc_L_foreign.nd rfl rfl (sw_true rfl rfl rfl (by decide +kernel)) (pi_list (pv 1)) (blkOk_by (N := ["_law_words_here", "_law_loads_here", "_law_strange_here", "_law_renamed", "_law_one", "_law_two", "_law_toll", "_law_tables", "_law_kept"]) (sc := defScope s_L_foreign) (by decide +kernel)) (fun _ _ _ _ _ => (pg_tupK (K := K) (n := 3) rfl (by rfl) (pgs_cons (pg_name (i := 4) sc_L_foreign.nd rfl (.inl rfl)) (pgs_cons (pg_name (i := 5) sc_L_foreign.nd rfl (.inl rfl)) (pgs_cons (pg_name (i := 6) sc_L_foreign.nd rfl (.inl rfl)) pgs_nil))))) (fun _ _ _ _ _ => (pts_one (PW.pt (pw_and (pt_cmpR op_ne (pv 4) (pe_ix (ix_listK (K := K) rfl) (pv 0) (pe_un un_neg pe_int) (fun _ _ => rfl)) (nomark _)) (pw_and1 (pt_cmpR op_ne (pv 5) (pe_ix (ix_listK (K := K) rfl) (pv 0) (pe_un un_neg pe_int) (fun _ _ => rfl)) (nomark _))))))) (fun _ _ _ _ _ => (pe_tup (pa_cons (pv 4) (pa_cons (pv 5) (pa_cons (pv 6) pa_nil))))))
  (pss_cons (ps_expr (pe_bm PySem.F.plainAttrs_list PySem.F.slot_list_append PySem.F.type_list_append mt_append (pv 7) (pa_cons (pe_make M_Tolls G_Tolls (hr.mono (by decide)) (by rfl) mg_Tolls b_Tolls .nil pass0 (pa_cons (pe_slice sl_list (pv 0) po_none (po_some (pe_un un_neg pe_int))) (pa_cons (pv 8) pa_nil))) pa_nil)))
  (pss_one (ps_expr (pe_bm PySem.F.plainAttrs_list PySem.F.slot_list_append PySem.F.type_list_append mt_append (pv 7) (pa_cons (pe_make M_Tolls G_Tolls (hr.mono (by decide)) (by rfl) mg_Tolls b_Tolls .nil pass0 (pa_cons (pe_op op_cat (pe_slice sl_list (pv 0) (po_some pe_int) po_none) (pe_slice sl_list (pv 0) po_none (po_some pe_int))) (pa_cons (pe_callTy call_list_of (by rfl) m_list (by decide +kernel) (pa_cons (pv 1) pa_nil)) pa_nil))) pa_nil)))))) pss_nil)
  (pss_one (ps_ret (pv 7)))))))), ?_⟩
    refine ⟨_, rfl, c, zs, rfl, lstAt hc, by omega, fun n hn nst => ?_⟩
    have nmst : NmH [97 + n] := .inl ⟨(show 1 ≤ 1 from Nat.le_refl _), (show 1 ≤ 8 by decide), .one (by omega)⟩
    generalize [97 + n] = st at nst nmst ⊢
    refine ⟨Nat.zero_le _, fun D nD => ?_⟩
    have s0 := same_upd (o := .lst []) nD
    -- with another name
    refine ⟨_, rfl, l, rfl, ⟨_, lstAt (s0 _ _ hl)⟩, for_list (K := K) (a := l) (xs := es.map V.ref) (fun i σ H' => ∃ (qs : List Addr) (y4 y5 y6 : Option V), σ = [some (.ref c), some (.ref l), some (vN st), some (.ref D), y4, y5, y6, none, none] ∧ EW H H' D (zs.dropLast ++ [st]) qs ((ts.take i).map (renT z st))) ⟨[], none, none, none, rfl, s0, upd_same, ⟨rfl, fun _ _ h => nomatch h⟩, .nil⟩ (fun i σ H' _ hq => by obtain ⟨_, _, _, _, _, ew⟩ := hq; exact lstAt (ew.s _ _ hl)) ?_ ?_⟩
    · rintro i x σ H1 hx ⟨qs, y4, y5, y6, rfl, ew⟩
      obtain ⟨e, t, rfl, ei, et, ht⟩ := ties_at hT hx
      have ht1 := ew.s _ _ ht
      have hi : i < ts.length := (List.getElem?_eq_some_iff.mp et).1
      have tm := List.mem_of_getElem? et
      refine gTup3 ht1 [some (.ref c), some (.ref l), some (vN st), some (.ref D), some (vN t.1), some (vN t.2.1), some (.int t.2.2), none, none] rfl ?_
      refine ⟨_, rfl, .inl ⟨rfl, _, lstAt ew.d⟩, _, rfl, _, rfl, (show (2 : Nat) ≤ sizeLine by decide), fun L nL => ?_⟩
      have sL := same_upd (o := .lst [vN t.1, vN st]) nL
      have ewL := ew.same sL
      refine ⟨_, rfl, _, rfl, _, rfl, _, _, _, _, rfl, rfl, lstAt (ewL.s _ _ hc), az, rfl, .inr ⟨_, rfl, L, [vN t.1, vN st], _, _, rfl, rfl, lstAt upd_same, ren_pick z st t.1, ?_⟩⟩
      refine ⟨_, rfl, _, rfl, (show (2 : Nat) ≤ sizeLine by decide), fun M nM => ?_⟩
      have sM := same_upd (o := .lst [vN t.2.1, vN st]) nM
      have ewM := ewL.same sM
      refine ⟨_, rfl, _, rfl, _, rfl, _, _, _, _, rfl, rfl, lstAt (ewM.s _ _ hc), az, rfl, .inr ⟨_, rfl, M, [vN t.2.1, vN st], _, _, rfl, rfl, lstAt upd_same, ren_pick z st t.2.1, ?_⟩⟩
      refine ⟨_, rfl, (show (3 : Nat) ≤ sizeLine by decide), fun k nk => ?_⟩
      have sk := same_upd (o := .tup [vN (ren z st t.1), vN (ren z st t.2.1), .int t.2.2]) nk
      refine ⟨D, _, _, rfl, rfl, sk _ _ ewM.d, ?_, qs ++ [k], _, _, _, rfl, ?_⟩
      · rw [List.length_map, ewM.t.1, List.length_map, List.length_take]
        exact Nat.lt_of_le_of_lt (show min i ts.length ≤ 10000 by omega) (by decide)
      · rw [List.take_add_one, et]
        have := ewM.add (t := renT z st t) nD nk (ren_mem hz (eok.a t tm)) (ren_mem hz (eok.b t tm)) (eok.h0 t tm)
        rw [show (ts.take i ++ (some t).toList).map (renT z st) = (ts.take i).map (renT z st) ++ [renT z st t] by simp]
        exact this
    rintro σ H1 ⟨qs, y4, y5, y6, rfl, ew⟩
    rw [show (es.map V.ref).length = ts.length by rw [List.length_map, el], List.take_length] at ew
    have ql : qs.length = ts.length := by rw [ew.t.1, List.length_map]
    -- the first table
    refine ⟨_, rfl, _, rfl, _, rfl, c, _, rfl, lstAt (ew.s _ _ hc), fun A nA => ?_⟩
    rw [cut_last z1]
    have sA := same_upd (o := .lst (zs.dropLast.map vN)) nA
    refine ⟨_, rfl, (show (1 : Nat) ≤ sizeLine by decide), fun B nB => ?_⟩
    have sB := same_upd (o := .lst [vN st]) nB
    refine ⟨A, B, _, _, rfl, rfl, sB _ _ upd_same, upd_same, by rw [List.length_map, List.length_dropLast]; exact Nat.le_of_lt (small1000 (by show _ + 1 ≤ 1000; omega)), fun G nG => ?_⟩
    rw [show zs.dropLast.map vN ++ [vN st] = (zs.dropLast ++ [st]).map vN by simp]
    have sG := same_upd (o := .lst ((zs.dropLast ++ [st]).map vN)) nG
    have s1 := (sA.trans sB).trans sG
    have ew1 := ew.same s1
    refine ⟨_, rfl, ?_⟩
    intro o1 d1 n1 n2 ne1
    refine make_go n1 n2 ne1 (.inl (lstAt upd_same)) (.inl (lstAt ew1.d)) ew1.t (ns_last nok nmst nst) ew1.o (by rw [List.length_map]; exact tl) fun H2 k1 s2 => ?_
    have ew2 := ew1.same s2
    have K1 : TkF K C H2 o1 (zs.dropLast ++ [st]) (leastE (ts.map (renT z st))) := ⟨_, k1, ew1.o, fun _ _ => rfl, by rw [List.length_map]; exact tl⟩
    have dif1 : zs.dropLast ++ [st] ≠ zs := fun e => nst (by rw [← e]; exact List.mem_append.mpr (.inr (List.mem_singleton.mpr rfl)))
    refine ⟨(show (1 : Nat) ≤ sizeLine by decide), fun TB nTB => ?_⟩
    have sTB := same_upd (o := .lst [V.ref o1]) nTB
    have sT0 := ew2.s.trans sTB
    have K1' := K1.same sTB
    have eTB := upd_same (H := H2) (a := TB) (o := .lst [V.ref o1])
    have nTB0 := none_of ew2.s nTB
    generalize upd H2 TB (.lst [V.ref o1]) = H3 at sT0 K1' eTB ⊢
    clear K1 sTB ew2 ew1 s1 sG sB sA s2 k1
    refine ⟨_, rfl, c, _, rfl, .inl (lstAt (sT0 _ _ hc)), _, _, rfl, rfl, _, rfl, ?_⟩
    rw [zl]
    by_cases hz2 : zs.length = 1
    · rw [decide_eq_false (show ¬ (1 : Int) < ((zs.length : Nat) : Int) by omega)]
      refine iteF ⟨_, rfl, q _ TB [o1] sT0 eTB fun x hx => ?_⟩
      rw [List.mem_singleton.mp hx]
      exact ⟨_, _, K1', ns_last nok nmst nst, dif1⟩
    · rw [decide_eq_true (show (1 : Int) < ((zs.length : Nat) : Int) by omega)]
      have z2 : 2 ≤ zs.length := by omega
      refine iteT ?_
      -- without the last name
      refine ⟨_, rfl, l, rfl, ⟨_, lstAt (sT0 _ _ hl)⟩, fun D2 nD2 => ?_⟩
      refine lc_list (K := K) (a := l) (xs := es.map V.ref) (fun i H' => ∃ qs : List Addr, Same H3 H' ∧ H' D2 = some (.lst (qs.map V.ref)) ∧ TiesAt H' qs ((ts.take i).filter (keptB z)) ∧ qs.length ≤ i) ⟨[], same_upd nD2, upd_same, ⟨rfl, fun _ _ h => nomatch h⟩, Nat.le_refl _⟩ (fun i H' _ hq => by obtain ⟨_, s, _⟩ := hq; exact lstAt (s _ _ (sT0 _ _ hl))) (fun i v H' hx hq => ?_) (fun H' hq => ?_)
      · obtain ⟨rs, s4, eD2, hR, rl⟩ := hq
        obtain ⟨e, t, rfl, ei, et, ht⟩ := ties_at hT hx
        have hi : i < ts.length := (List.getElem?_eq_some_iff.mp et).1
        have s04 := sT0.trans s4
        refine gTup3 (s04 _ _ ht) [some (.ref c), some (.ref l), some (vN st), some (.ref D), some (vN t.1), some (vN t.2.1), some (.int t.2.2), some (.ref TB), none] (by simp [wipe, L2.start]) ?_
        refine ⟨by simp [wipe, L2.start], ?_⟩
        refine ⟨_, rfl, _, rfl, _, rfl, _, _, _, _, rfl, rfl, lstAt (s04 _ _ hc), az, rfl, _, rfl, ?_⟩
        rw [vN_dec, List.take_add_one, et, List.filter_append]
        have kb : keptB z t = (!decide (t.1 = z) && !decide (t.2.1 = z)) := rfl
        by_cases e1 : t.1 = z
        · rw [decide_eq_true e1]
          refine iteF (iteF ⟨rs, s4, eD2, ?_, by omega⟩)
          rw [show List.filter (keptB z) (some t).toList = [] by simp [kb, e1], List.append_nil]
          exact hR
        · rw [decide_eq_false e1]
          refine iteT ⟨_, rfl, _, rfl, _, rfl, _, _, _, _, rfl, rfl, lstAt (s04 _ _ hc), az, rfl, _, rfl, ?_⟩
          rw [vN_dec]
          by_cases e2 : t.2.1 = z
          · rw [decide_eq_true e2]
            refine iteF ⟨rs, s4, eD2, ?_, by omega⟩
            rw [show List.filter (keptB z) (some t).toList = [] by simp [kb, e2], List.append_nil]
            exact hR
          · rw [decide_eq_false e2]
            refine iteT ⟨_, rfl, _, rfl, _, rfl, (show (3 : Nat) ≤ sizeLine by decide), fun k nk => ?_⟩
            have sk := same_upd (o := .tup [vN t.1, vN t.2.1, .int t.2.2]) nk
            refine ⟨_, sk _ _ eD2, ?_, rs ++ [k], same_at (s4.trans sk) nD2, by rw [List.map_append]; exact upd_same, ?_, by rw [List.length_append, List.length_singleton]; omega⟩
            · rw [List.length_map]
              exact Nat.lt_of_le_of_lt (show rs.length ≤ 10000 by omega) (by decide)
            · rw [show List.filter (keptB z) (some t).toList = [t] by simp [kb, e1, e2]]
              exact ((hR.same sk).snoc (Same.refl _) (show TieAt _ k t from upd_same)).wrote (sk _ _ eD2)
      · obtain ⟨rs, s4, eD2, hR, rl⟩ := hq
        rw [show (es.map V.ref).length = ts.length by rw [List.length_map, el], List.take_length] at hR
        have s04 := sT0.trans s4
        have okK : EOk zs.dropLast (ts.filter (keptB z)) := by
          have inI : ∀ x ∈ zs, x ≠ z → x ∈ zs.dropLast := fun x m ne => by
            rw [split_last hz] at m
            rcases List.mem_append.mp m with m | m
            · exact m
            · exact absurd (List.mem_singleton.mp m) ne
          have un : ∀ t ∈ ts.filter (keptB z), t ∈ ts ∧ t.1 ≠ z ∧ t.2.1 ≠ z := fun t m => by
            obtain ⟨m1, m2⟩ := List.mem_filter.mp m
            unfold keptB at m2
            simp at m2
            exact ⟨m1, m2.1, m2.2⟩
          exact ⟨fun t m => inI _ (eok.a t (un t m).1) (un t m).2.1, fun t m => inI _ (eok.b t (un t m).1) (un t m).2.2, fun t m => eok.h0 t (un t m).1⟩
        have lK : (ts.filter (keptB z)).length ≤ 10000 := Nat.le_trans (List.length_filter_le _ _) tl
        have eTB4 := s4 _ _ eTB
        refine ⟨_, rfl, .inl ⟨rfl, _, lstAt eTB4⟩, _, rfl, _, rfl, _, rfl, c, _, rfl, lstAt (s04 _ _ hc), fun A nA => ?_⟩
        rw [cut_last z1]
        have sA := same_upd (o := .lst (zs.dropLast.map vN)) nA
        refine ⟨_, rfl, ?_⟩
        intro o2 d2 n3 n4 ne2
        refine make_go n3 n4 ne2 (.inl (lstAt upd_same)) (.inl (lstAt (sA _ _ eD2))) (hR.same sA) (ns_ini nok z2) okK lK fun H5 k2 s5 => ?_
        have s45 := s4.trans (sA.trans s5)
        have eTB5 := s45 _ _ eTB
        have K2 : TkF K C H5 o2 zs.dropLast (leastE (ts.filter (keptB z))) := ⟨_, k2, okK, fun _ _ => rfl, lK⟩
        refine ⟨TB, [V.ref o1], _, rfl, rfl, eTB5, (show (1 : Nat) < sizeLine by decide), ?_⟩
        have K1b := (K1'.same s45).wrote (o := .lst ([V.ref o1] ++ [V.ref o2])) eTB5
        have K2b := K2.wrote (o := .lst ([V.ref o1] ++ [V.ref o2])) eTB5
        have sT6 := same_at (o := .lst ([V.ref o1] ++ [V.ref o2])) (sT0.trans s45) nTB0
        have eTB6 : (upd H5 TB (.lst ([V.ref o1] ++ [V.ref o2]))) TB = some (.lst [V.ref o1, .ref o2]) := upd_same
        generalize upd H5 TB (.lst ([V.ref o1] ++ [V.ref o2])) = H6 at K1b K2b sT6 eTB6 ⊢
        -- turned about
        refine ⟨_, rfl, .inl ⟨rfl, _, lstAt eTB6⟩, _, rfl, _, rfl, c, _, rfl, lstAt (sT6 _ _ hc), fun A2 nA2 => ?_⟩
        rw [show (1 : Int) = ((1 : Nat) : Int) from rfl, cut_from_l, ← List.map_drop]
        have sA2 := same_upd (o := .lst ((zs.drop 1).map vN)) nA2
        refine ⟨_, rfl, _, rfl, c, _, rfl, lstAt (sA2 _ _ (sT6 _ _ hc)), fun B2 nB2 => ?_⟩
        rw [cut_to_l, ← List.map_take]
        have sB2 := same_upd (o := .lst ((zs.take 1).map vN)) nB2
        refine ⟨A2, B2, _, _, rfl, rfl, sB2 _ _ upd_same, upd_same, by rw [List.length_map, List.length_map, List.length_drop, List.length_take]; exact Nat.le_of_lt (small1000 (by omega)), fun G2 nG2 => ?_⟩
        rw [← List.map_append]
        have sG2 := same_upd (o := .lst ((zs.drop 1 ++ zs.take 1).map vN)) nG2
        have s7 := (sA2.trans sB2).trans sG2
        have sT7 := sT6.trans s7
        refine ⟨_, rfl, l, _, rfl, .inl (lstAt (sT7 _ _ hl)), fun L2' nL2 => ?_⟩
        have sL2 := same_upd (o := .lst (es.map V.ref)) nL2
        have okT : EOk (zs.drop 1 ++ zs.take 1) ts := ⟨fun t m => turn_mem.mpr (eok.a t m), fun t m => turn_mem.mpr (eok.b t m), eok.h0⟩
        intro o3 d3 n5 n6 ne3
        refine make_go n5 n6 ne3 (.inl (lstAt (sL2 _ _ upd_same))) (.inl (lstAt upd_same)) (hT.same (sT7.trans sL2)) (ns_turn nok) okT tl fun H8 k3 s8 => ?_
        have s68 := s7.trans (sL2.trans s8)
        have eTB8 := s68 _ _ eTB6
        have K3 : TkF K C H8 o3 (zs.drop 1 ++ zs.take 1) (leastE ts) := ⟨_, k3, okT, fun _ _ => rfl, tl⟩
        refine ⟨TB, [V.ref o1, .ref o2], _, rfl, rfl, eTB8, (show (2 : Nat) < sizeLine by decide), ?_⟩
        have K1c := (K1b.same s68).wrote (o := .lst ([V.ref o1, .ref o2] ++ [V.ref o3])) eTB8
        have K2c := (K2b.same s68).wrote (o := .lst ([V.ref o1, .ref o2] ++ [V.ref o3])) eTB8
        have K3c := K3.wrote (o := .lst ([V.ref o1, .ref o2] ++ [V.ref o3])) eTB8
        refine ⟨_, rfl, q _ TB [o1, o2, o3] (same_at (sT6.trans s68) nTB0) upd_same fun x hx => ?_⟩
        rcases List.mem_cons.mp hx with rfl | hx
        · exact ⟨_, _, K1c, ns_last nok nmst nst, dif1⟩
        rcases List.mem_cons.mp hx with rfl | hx
        · exact ⟨_, _, K2c, ns_ini nok z2, fun e => by have := congrArg List.length e; rw [List.length_dropLast] at this; omega⟩
        · rw [List.mem_singleton.mp hx]
          exact ⟨_, _, K3c, ns_turn nok, turn_ne nok.nd z2⟩
end
end TK

namespace TK
open PySem PySem.Spec PyProof.Rows L2
/-- a table and values of other kinds -/
structure OddT (K : PySem.W.Frag) (C : Addr) : Prop where
  nN : PySem.W.notFirst K C (.type "NoneType") = true
  nS : PySem.W.notFirst K C (.type "str") = true
  nI : PySem.W.notFirst K C (.type "int") = true
  nB : PySem.W.notFirst K C (.type "bool") = true
  nL : PySem.W.notFirst K C (.type "list") = true
  nT : PySem.W.notFirst K C (.type "tuple") = true
  kN : PySem.W.kitOne K (.type "NoneType") (.ref C) = some false
  kS : PySem.W.kitOne K (.type "str") (.ref C) = some false
  kI : PySem.W.kitOne K (.type "int") (.ref C) = some false
  kB : PySem.W.kitOne K (.type "bool") (.ref C) = some false
  kL : PySem.W.kitOne K (.type "list") (.ref C) = some false
  kT : PySem.W.kitOne K (.type "tuple") (.ref C) = some false
def OddV (K : PySem.W.Frag) (C : Addr) (H : Hp) (x : V) : Prop := OddX K C H x ∧ ∃ t, TyX K H x t ∧ PySem.W.kitOne K t (.ref C) = some false
theorem eqX_odd {K : PySem.W.Frag} {C : Addr} {H : Hp} {p : Addr} {y : V} {zs : List Nam} {f : Pr} {Q : VK} {E : XK} (a : TkF K C H p zs f) (nok : NsOk zs) (o : OddV K C H y) (q : Q (.bl false) H) : rOwnX K C (spEqB K C) E (.ref p) y H Q :=
  ⟨a.ins, .inr o.1, p, y, zs, f, rfl, a, nok, .inl (o.2.elim fun t h => ⟨t, h.1, h.2, q⟩)⟩
theorem eqX_any {K : PySem.W.Frag} {C : Addr} {H : Hp} {p p' : Addr} {zs us : List Nam} {f g : Pr} {Q : VK} {E : XK} (a : TkF K C H p zs f) (a' : TkF K C H p' us g) (nok : NsOk zs) (nok' : NsOk us) (q : ∀ b : Bool, (b = true ↔ zs = us ∧ ∀ x y, f x y = g x y) → Q (.bl b) H) : rOwnX K C (spEqB K C) E (.ref p) (.ref p') H Q :=
  ⟨a.ins, .inl a'.ins, p, .ref p', zs, f, rfl, a, nok, .inr ⟨p', us, g, rfl, a', nok', q⟩⟩
theorem eqX_yes {K : PySem.W.Frag} {C : Addr} {H : Hp} {p p' : Addr} {zs : List Nam} {f g : Pr} {Q : VK} {E : XK} (a : TkF K C H p zs f) (a' : TkF K C H p' zs g) (nok : NsOk zs) (e : ∀ x y, f x y = g x y) (q : Q (.bl true) H) : rOwnX K C (spEqB K C) E (.ref p) (.ref p') H Q :=
  eqX_any a a' nok nok fun b hb => by
    have : b = true := hb.mpr ⟨rfl, e⟩
    subst this
    exact q
theorem eqX_no {K : PySem.W.Frag} {C : Addr} {H : Hp} {p p' : Addr} {zs us : List Nam} {f g : Pr} {Q : VK} {E : XK} (a : TkF K C H p zs f) (a' : TkF K C H p' us g) (nok : NsOk zs) (nok' : NsOk us) (e : ¬ (zs = us ∧ ∀ x y, f x y = g x y)) (q : Q (.bl false) H) : rOwnX K C (spEqB K C) E (.ref p) (.ref p') H Q :=
  eqX_any a a' nok nok' fun b hb => by
    have : b = false := by
      cases b with
      | false => rfl
      | true => exact absurd (hb.mp rfl) e
    subst this
    exact q
section
variable {P : Program} {w : World} {K : PySem.W.Frag} {mg : Str → Option Value} {base : Heap}
/-! _law_unequal -/
def spUneq (K : PySem.W.Frag) (C : Addr) : Sp := fun vs H Q _ => ∃ (p c l r : Addr) (n : Int) (zs : List Nam) (es : List Addr) (ts : List Tie), vs = [.ref p, .ref c, .ref l, .ref r, .int n] ∧ TkF K C H p zs (leastE ts) ∧ H c = some (.lst (zs.map vN)) ∧ H l = some (.lst (es.map V.ref)) ∧ TiesAt H es ts ∧ EOk zs ts ∧ NsOk zs ∧ ts.length ≤ 10000 ∧ RowsAt H r zs ts ∧ 0 ≤ n ∧
  ∀ H', Same H H' → Q (.bl true) H'
theorem ok_L_unequal {f C fI gQ : Addr} {fd fdI fdQ : FuncData} (F : Fun K "_law_unequal" "_law_unequal" s_L_unequal f fd) (T : TxtT K C) (OT : OddT K C) (m_list : mg "list" = none) (m_tuple : mg "tuple" = none) (m_range : mg "range" = none)
    (M_Tolls : Mk K C fI) (G_Tolls : FnOk P w K mg base CX0 3 fI fdI ["self", "names", "entries"] (spInitT K C)) (mg_Tolls : mg "Tolls" = some (.ref C)) (b_Tolls : Binds K fdI ["self", "names", "entries"] [])
    (O_eq : Own K C "__eq__" gQ) (G_eq : FnOk P w K mg base CX0 1 gQ fdQ ["self", "other"] (spEqB K C)) (b_eq : Binds K fdQ ["self", "other"] [])
    (d_L_changed : Def P w K mg base "_law_changed" 2 ["_law_words_here", "_law_rows_here", "_law_number"] (spChanged K)) (d_L_foreign : Def P w K mg base "_law_foreign" 5 ["_law_words_here", "_law_loads_here"] (spForeign K C))
    (d_L_refused : Def P w K mg base "_law_refused" 6 ["_law_t", "_law_u", "_law_way"] (spRefused K C)) : FnOk P w K mg base CX0 7 f fd ["_law_t", "_law_words_here", "_law_loads_here", "_law_rows_here", "_law_number"] (spUneq K C) := by
  refine F.ok sc_L_unequal (fun vs H Q E h => ?_) (fun cdv A outer s H vs Q E hr h => ?_)
  · obtain ⟨p, c, l, r, n, zs, es, ts, rfl, _⟩ := h
    rfl
  · obtain ⟨p, c, l, r, n, zs, es, ts, rfl, kt, hc, hl, hT, eok, nok, tl, rows, n0, q⟩ := h
    refine ⟨_, (pss_cons (ps_if (pt_cmpR op_notBl (pe_cmpR (op_ownEqX (K := K) rfl (fun _ _ => rfl) O_eq G_eq (hr.mono (by decide)) b_eq pass0) (pv 0) (pe_make M_Tolls G_Tolls (hr.mono (by decide)) (by rfl) mg_Tolls b_Tolls .nil pass0 (pa_cons (pe_callTy call_list_of (by rfl) m_list (by decide +kernel) (pa_cons (pv 1) pa_nil)) (pa_cons (pe_callD d_L_changed (hr.mono (by decide)) (by rfl) (pa_cons (pv 1) (pa_cons (pv 3) (pa_cons (pv 4) pa_nil)))) pa_nil))) (nomark _)) pe_bl (nomark _)) (pss_one (ps_ret pe_bl)) pss_nil)
  (pss_cons (ps_for PassesOwn.never rfl (pi_list (pe_lst (pa_cons pe_non (pa_cons pe_str (pa_cons pe_int (pa_cons pe_bl (pa_cons (pe_callTy call_list_of (by rfl) m_list (by decide +kernel) (pa_cons (pv 1) pa_nil)) (pa_cons (pe_callTy call_tuple_of (by rfl) m_tuple (by decide +kernel) (pa_cons (pv 1) pa_nil)) (pa_cons (pe_callTy call_list_of (by rfl) m_list (by decide +kernel) (pa_cons (pv 2) pa_nil)) (pa_cons pe_str pa_nil)))))))))) (pg_name (i := 5) sc_L_unequal.nd rfl (.inl rfl))
    (pss_one (ps_if (pt_cmpR op_notBl (pe_cmpR (op_ownEqX (K := K) rfl (fun _ _ => rfl) O_eq G_eq (hr.mono (by decide)) b_eq pass0) (pv 0) (pv 5) (nomark _)) pe_bl (nomark _)) (pss_one (ps_ret pe_bl)) pss_nil)))
  (pss_cons (ps_for PassesOwn.never rfl (pi_list (pe_callD d_L_foreign (hr.mono (by decide)) (by rfl) (pa_cons (pv 1) (pa_cons (pv 2) pa_nil)))) (pg_name (i := 6) sc_L_unequal.nd rfl (.inl rfl))
    (pss_cons (ps_if (PW.pt (pw_or (pt_cmpR op_notBl (pe_cmpR (op_ownEqX (K := K) rfl (fun _ _ => rfl) O_eq G_eq (hr.mono (by decide)) b_eq pass0) (pv 0) (pv 6) (nomark _)) pe_bl (nomark _)) (pw_or1 (pt_cmpR op_notBl (pe_cmpR (op_ownEqX (K := K) rfl (fun _ _ => rfl) O_eq G_eq (hr.mono (by decide)) b_eq pass0) (pv 6) (pv 0) (nomark _)) pe_bl (nomark _))))) (pss_one (ps_ret pe_bl)) pss_nil)
  (pss_one (ps_for PassesOwn.never rfl (pi_range1 (by rfl) m_range (pa_cons pe_int pa_nil)) (pg_name (i := 7) sc_L_unequal.nd rfl (.inl rfl))
    (pss_one (ps_if (PW.pt (pw_or (pt_not (pt_val (pe_callD d_L_refused (hr.mono (by decide)) (by rfl) (pa_cons (pv 0) (pa_cons (pv 6) (pa_cons (pv 7) pa_nil)))))) (pw_or1 (pt_not (pt_val (pe_callD d_L_refused (hr.mono (by decide)) (by rfl) (pa_cons (pv 6) (pa_cons (pv 0) (pa_cons (pv 7) pa_nil))))))))) (pss_one (ps_ret pe_bl)) pss_nil))))))
  (pss_one (ps_ret pe_bl))))), ?_⟩
    -- the changed table
    refine ⟨_, rfl, _, rfl, c, _, rfl, .inl (lstAt hc), fun A nA => ?_⟩
    have sA := same_upd (o := .lst (zs.map vN)) nA
    refine ⟨_, rfl, _, rfl, _, rfl, c, r, n, zs, ts, rfl, lstAt (sA _ _ hc), rows.same sA, nok, eok, n0, fun H1 B es1 us nB ew l40 ⟨x, y, dif⟩ => ?_⟩
    intro o1 d1 n1 n2 ne1
    refine make_go n1 n2 ne1 (.inl (lstAt (ew.s _ _ upd_same))) (.inl (lstAt ew.d)) ew.t nok ew.o (by omega) fun H2 k1 s2 => ?_
    have s02 := (sA.trans ew.s).trans s2
    have K1 : TkF K C H2 o1 zs (leastE us) := ⟨_, k1, ew.o, fun _ _ => rfl, by omega⟩
    refine eqX_no (kt.same s02) K1 nok nok (fun z => dif (z.2 x y).symm) ⟨false, false, rfl, rfl, _, rfl, iteF ?_⟩
    -- other kinds
    refine ⟨_, rfl, c, _, rfl, .inl (lstAt (s02 _ _ hc)), fun A2 nA2 => ?_⟩
    have sA2 := same_upd (o := .lst (zs.map vN)) nA2
    refine ⟨_, rfl, c, _, rfl, .inl ⟨lstAt (sA2 _ _ (s02 _ _ hc)), fun B2 nB2 => ?_⟩⟩
    have sB2 := same_upd (o := .tup (zs.map vN)) nB2
    refine ⟨_, rfl, l, _, rfl, .inl (lstAt (sB2 _ _ (sA2 _ _ (s02 _ _ hl)))), fun C2 nC2 => ⟨(show (8 : Nat) ≤ sizeLine by decide), fun D nD => ?_⟩⟩
    have sC2 := same_upd (o := .lst (es.map V.ref)) nC2
    have sD := same_upd (o := .lst [V.non, .str "", .int 0, .bl false, .ref A2, .ref B2, .ref C2, .str "tolls"]) nD
    have eA := sD _ _ (sC2 _ _ (sB2 _ _ (upd_same (H := H2) (a := A2) (o := .lst (zs.map vN)))))
    have eB := sD _ _ (sC2 _ _ (upd_same (a := B2) (o := .tup (zs.map vN))))
    have eC := sD _ _ (upd_same (a := C2) (o := .lst (es.map V.ref)))
    have eD := upd_same (H := upd (upd (upd H2 A2 (.lst (zs.map vN))) B2 (.tup (zs.map vN))) C2 (.lst (es.map V.ref))) (a := D) (o := .lst [V.non, .str "", .int 0, .bl false, .ref A2, .ref B2, .ref C2, .str "tolls"])
    have s03 := s02.trans (((sA2.trans sB2).trans sC2).trans sD)
    generalize upd (upd (upd (upd H2 A2 (.lst (zs.map vN))) B2 (.tup (zs.map vN))) C2 (.lst (es.map V.ref))) D (.lst [V.non, .str "", .int 0, .bl false, .ref A2, .ref B2, .ref C2, .str "tolls"]) = H3 at eA eB eC eD s03 ⊢
    have odd : ∀ (i : Nat) (x : V), [V.non, .str "", .int 0, .bl false, .ref A2, .ref B2, .ref C2, .str "tolls"][i]? = some x → ∀ H', Same H3 H' → OddV K C H' x := fun i x e H' s' => by
      match i, e with
      | 0, e => cases Option.some.inj e; exact ⟨.non OT.nN, _, .base .non, OT.kN⟩
      | 1, e => cases Option.some.inj e; exact ⟨.str _ OT.nS, _, .base (.str _), OT.kS⟩
      | 2, e => cases Option.some.inj e; exact ⟨.int _ OT.nI, _, .base (.int _), OT.kI⟩
      | 3, e => cases Option.some.inj e; exact ⟨.bl _ OT.nB, _, .base (.bl _), OT.kB⟩
      | 4, e => cases Option.some.inj e; exact ⟨.lst (s' _ _ eA) OT.nL, _, .base (.lst (s' _ _ eA)), OT.kL⟩
      | 5, e => cases Option.some.inj e; exact ⟨.tup (s' _ _ eB) OT.nT, _, .base (.tup (s' _ _ eB)), OT.kT⟩
      | 6, e => cases Option.some.inj e; exact ⟨.lst (s' _ _ eC) OT.nL, _, .base (.lst (s' _ _ eC)), OT.kL⟩
      | 7, e => cases Option.some.inj e; exact ⟨.str _ OT.nS, _, .base (.str _), OT.kS⟩
      | i + 8, e => simp at e
    refine ⟨D, rfl, ⟨_, lstAt eD⟩, for_list (K := K) (a := D) (xs := [V.non, .str "", .int 0, .bl false, .ref A2, .ref B2, .ref C2, .str "tolls"]) (fun i σ H' => ∃ y5 : Option V, σ = [some (.ref p), some (.ref c), some (.ref l), some (.ref r), some (.int n), y5, none, none] ∧ Same H3 H') ⟨none, rfl, Same.refl _⟩ (fun i σ H' _ hq => by obtain ⟨_, _, s⟩ := hq; exact lstAt (s _ _ eD)) ?_ ?_⟩
    · rintro i x σ H4 hx ⟨y5, rfl, s4⟩
      exact ⟨_, rfl, _, rfl, eqX_odd ((kt.same s03).same s4) nok (odd i x hx H4 s4) ⟨false, false, rfl, rfl, _, rfl, iteF ⟨_, rfl, s4⟩⟩⟩
    rintro σ H4 ⟨y5, rfl, s4⟩
    have s04 := s03.trans s4
    -- over other names
    refine ⟨_, rfl, _, rfl, c, l, zs, es, ts, rfl, s04 _ _ hc, s04 _ _ hl, hT.same s04, eok, nok, tl, fun H5 V5 qs s5 eV hq => ?_⟩
    have s05 := s04.trans s5
    refine ⟨V5, rfl, ⟨_, lstAt eV⟩, for_list (K := K) (a := V5) (xs := qs.map V.ref) (fun i σ H' => ∃ y6 y7 : Option V, σ = [some (.ref p), some (.ref c), some (.ref l), some (.ref r), some (.int n), y5, y6, y7] ∧ Same H5 H') ⟨none, none, rfl, Same.refl _⟩ (fun i σ H' _ hq => by obtain ⟨_, _, _, s⟩ := hq; exact lstAt (s _ _ eV)) ?_ ?_⟩
    · rintro i x σ H6 hx ⟨y6, y7, rfl, s6⟩
      rw [List.getElem?_map] at hx
      obtain ⟨v, ev, rfl⟩ : ∃ v, qs[i]? = some v ∧ x = .ref v := by
        cases e : qs[i]? with
        | none => rw [e] at hx; cases hx
        | some v => rw [e] at hx; exact ⟨v, rfl, (Option.some.inj hx).symm⟩
      obtain ⟨us, g, kv, nok', ne⟩ := hq v (List.mem_of_getElem? ev)
      have kt6 := (kt.same s05).same s6
      have kv6 := kv.same s6
      refine ⟨_, rfl, _, rfl, eqX_no kt6 kv6 nok nok' (fun z => ne z.1.symm) ⟨false, false, rfl, rfl, _, rfl, iteF ?_⟩⟩
      refine ⟨_, rfl, _, rfl, eqX_no kv6 kt6 nok' nok (fun z => ne z.1) ⟨false, false, rfl, rfl, _, rfl, iteF ?_⟩⟩
      refine ⟨_, rfl, by decide, by decide, for_range (fun j σ H' => ∃ y7 : Option V, σ = [some (.ref p), some (.ref c), some (.ref l), some (.ref r), some (.int n), y5, some (.ref v), y7] ∧ Same H6 H') ⟨y7, rfl, Same.refl _⟩ ?_ ?_⟩
      · rintro j σ H7 hj ⟨y7, rfl, s7⟩
        refine ⟨_, rfl, _, rfl, _, rfl, p, v, _, zs, us, _, g, rfl, kt6.same s7, kv6.same s7, nok, nok', (fun e => ne e.symm), fun H8 s8 => ⟨_, rfl, iteF ?_⟩⟩
        exact ⟨_, rfl, _, rfl, _, rfl, v, p, _, us, zs, g, _, rfl, kv6.same (s7.trans s8), kt6.same (s7.trans s8), nok', nok, ne, fun H9 s9 => ⟨_, rfl, iteF ⟨_, rfl, (s7.trans s8).trans s9⟩⟩⟩
      · rintro σ H7 ⟨y7, rfl, s7⟩
        exact ⟨_, _, rfl, s6.trans s7⟩
    · rintro σ H6 ⟨y6, y7, rfl, s6⟩
      exact q _ (s05.trans s6)
end
end TK

namespace TK
open PySem PySem.Spec PyProof.Rows L2
/-! rows as data -/
def optD : Option Int → PyData
  | none => .none
  | some v => .int v
def rowD (zs : List Nam) (f : Pr) (x : Nam) : PyData := .list (zs.map fun y => optD (f x y))
theorem opts_dp {K : PySem.W.Frag} {H : Hp} : ∀ cs : List (Option Int), DpAll K H (cs.map capI) (cs.map optD)
  | [] => .nil
  | none :: r => .cons .non (opts_dp r)
  | some v :: r => .cons (.int v) (opts_dp r)
theorem rows_dp {K : PySem.W.Frag} {H : Hp} {zs : List Nam} {f : Pr} : ∀ {rs : List Addr} {us : List Nam}, rs.length = us.length → (∀ (i : Nat) (q : Addr), rs[i]? = some q → ∃ x, us[i]? = some x ∧ H q = some (.lst ((zs.map (f x)).map capI))) → DpAll K H (rs.map V.ref) (us.map (rowD zs f))
  | [], [], _, _ => .nil
  | [], _ :: _, h, _ => by cases h
  | _ :: _, [], h, _ => by cases h
  | r :: rs, u :: us, h, k => by
    obtain ⟨x, e, hq⟩ := k 0 r rfl
    cases Option.some.inj e
    have d := opts_dp (K := K) (H := H) (zs.map (f u))
    rw [show (zs.map (f u)).map optD = zs.map fun y => optD (f u y) by rw [List.map_map]; rfl] at d
    exact .cons (.lst (lstAt hq) d) (rows_dp (Nat.succ.inj h) fun i q e => k (i + 1) q e)
theorem optD_lay (cs : List (Option Int)) : PyData.canLayAll0 (cs.map optD) = true ∧ PyData.depthAll (cs.map optD) ≤ 1 := by
  induction cs with
  | nil => exact ⟨by simp [PyData.canLayAll0], by simp [PyData.depthAll]⟩
  | cons c r ih =>
    obtain ⟨h1, h2⟩ := ih
    refine ⟨?_, ?_⟩
    · simp only [List.map_cons, PyData.canLayAll0, Bool.and_eq_true]
      exact ⟨by cases c <;> simp [optD, PyData.canLay0], h1⟩
    · simp only [List.map_cons, PyData.depthAll]
      have : (optD c).depth ≤ 1 := by cases c <;> simp [optD, PyData.depth]
      omega
theorem rowD_lay (zs : List Nam) (f : Pr) (us : List Nam) : PyData.canLayAll0 (us.map (rowD zs f)) = true ∧ PyData.depthAll (us.map (rowD zs f)) ≤ 2 := by
  induction us with
  | nil => exact ⟨by simp [PyData.canLayAll0], by simp [PyData.depthAll]⟩
  | cons u r ih =>
    obtain ⟨h1, h2⟩ := ih
    obtain ⟨h3, h4⟩ := optD_lay (zs.map (f u))
    rw [show (zs.map (f u)).map optD = zs.map fun y => optD (f u y) by rw [List.map_map]; rfl] at h3 h4
    refine ⟨?_, ?_⟩
    · simp only [List.map_cons, PyData.canLayAll0, Bool.and_eq_true]
      exact ⟨by simp only [rowD, PyData.canLay0]; exact h3, h1⟩
    · simp only [List.map_cons, PyData.depthAll]
      have : (rowD zs f u).depth ≤ 2 := by simp only [rowD, PyData.depth]; omega
      omega
theorem rowD_shape (zs : List Nam) (f : Pr) (us : List Nam) : SeqAt.shaped (.list (us.map (rowD zs f))) = true := by
  obtain ⟨h1, h2⟩ := rowD_lay zs f us
  show ((PyData.list _).canLay0 && decide ((PyData.list _).depth ≤ 64)) = true
  rw [show (PyData.list (us.map (rowD zs f))).canLay0 = true by simp only [PyData.canLay0, h1], show (PyData.list (us.map (rowD zs f))).depth = PyData.depthAll (us.map (rowD zs f)) + 1 by simp only [PyData.depth]]
  exact decide_eq_true (by omega)
theorem eqv_opt (a b : Option Int) : PyData.eqv (optD a) (optD b) = true ↔ a = b := by
  cases a <;> cases b <;> simp [optD, PyData.eqv]
theorem eqv_optAll (f g : Nam → Option Int) : ∀ zs : List Nam, PyData.eqvAll (zs.map fun y => optD (f y)) (zs.map fun y => optD (g y)) = true ↔ ∀ y ∈ zs, f y = g y
  | [] => by simp [PyData.eqvAll]
  | z :: r => by
    simp only [List.map_cons, PyData.eqvAll, Bool.and_eq_true]
    rw [eqv_opt, eqv_optAll f g r]
    constructor
    · rintro ⟨h1, h2⟩ y hy
      rcases List.mem_cons.mp hy with rfl | hy
      · exact h1
      · exact h2 y hy
    · intro h
      exact ⟨h z List.mem_cons_self, fun y hy => h y (List.mem_cons_of_mem _ hy)⟩
theorem eqv_rows (zs : List Nam) (f g : Pr) : ∀ us : List Nam, PyData.eqvAll (us.map (rowD zs f)) (us.map (rowD zs g)) = true ↔ ∀ x ∈ us, ∀ y ∈ zs, f x y = g x y
  | [] => by simp [PyData.eqvAll]
  | u :: r => by
    simp only [List.map_cons, PyData.eqvAll, Bool.and_eq_true]
    rw [eqv_rows zs f g r, show PyData.eqv (rowD zs f u) (rowD zs g u) = PyData.eqvAll (zs.map fun y => optD (f u y)) (zs.map fun y => optD (g u y)) by simp only [rowD, PyData.eqv], eqv_optAll]
    constructor
    · rintro ⟨h1, h2⟩ y hy
      rcases List.mem_cons.mp hy with rfl | hy
      · exact h1
      · exact h2 y hy
    · intro h
      exact ⟨h u List.mem_cons_self, fun y hy => h y (List.mem_cons_of_mem _ hy)⟩
theorem eqv_rowsL {zs : List Nam} {f g : Pr} (ok : FOk zs f) (ok' : FOk zs g) : PyData.eqv (.list (zs.map (rowD zs f))) (.list (zs.map (rowD zs g))) = true ↔ ∀ x y, f x y = g x y := by
  rw [show PyData.eqv (.list (zs.map (rowD zs f))) (.list (zs.map (rowD zs g))) = PyData.eqvAll (zs.map (rowD zs f)) (zs.map (rowD zs g)) by simp only [PyData.eqv], eqv_rows]
  constructor
  · intro h x y
    cases e : f x y with
    | some v =>
      obtain ⟨hx, hy, _⟩ := ok x y v e
      rw [← e]
      exact h x hx y hy
    | none =>
      cases e2 : g x y with
      | none => rfl
      | some v =>
        obtain ⟨hx, hy, _⟩ := ok' x y v e2
        have := h x hx y hy
        rw [e, e2] at this
        cases this
  · intro h x _ y _
    exact h x y
theorem rows_data {K : PySem.W.Frag} {H : Hp} {r : Addr} {zs : List Nam} {f : Pr} (h : RowsF H r zs f) : Dp K H (.ref r) (.list (zs.map (rowD zs f))) := by
  obtain ⟨rs, h1, h2, h3⟩ := h
  exact .lst (lstAt h1) (rows_dp h2 h3)
structure E2L (H0 H : Hp) (D1 D2 : Addr) (zs : List Nam) (es us : List Addr) (ts vs : List Tie) : Prop where
  s : Same H0 H
  n1 : H0 D1 = none
  n2 : H0 D2 = none
  ne : D1 ≠ D2
  d1 : H D1 = some (.lst (es.map V.ref))
  d2 : H D2 = some (.lst (us.map V.ref))
  t1 : TiesAt H es ts
  t2 : TiesAt H us vs
  o1 : EOk zs ts
  o2 : EOk zs vs
theorem E2L.same {H0 H H1 : Hp} {D1 D2 : Addr} {zs : List Nam} {es us : List Addr} {ts vs : List Tie} (h : E2L H0 H D1 D2 zs es us ts vs) (s : Same H H1) : E2L H0 H1 D1 D2 zs es us ts vs :=
  ⟨h.s.trans s, h.n1, h.n2, h.ne, s _ _ h.d1, s _ _ h.d2, h.t1.same s, h.t2.same s, h.o1, h.o2⟩
theorem E2L.swap {H0 H : Hp} {D1 D2 : Addr} {zs : List Nam} {es us : List Addr} {ts vs : List Tie} (h : E2L H0 H D1 D2 zs es us ts vs) : E2L H0 H D2 D1 zs us es vs ts :=
  ⟨h.s, h.n2, h.n1, h.ne.symm, h.d2, h.d1, h.t2, h.t1, h.o2, h.o1⟩
theorem E2L.ext {H0 H H1 : Hp} {D1 D2 q : Addr} {zs : List Nam} {es us fs : List Addr} {ts vs ws : List Tie} (h : E2L H0 H D1 D2 zs es us ts vs) (k : EW H H1 q zs fs ws) : E2L H0 (upd H1 D1 (.lst (es.map V.ref ++ fs.map V.ref))) D1 D2 zs (es ++ fs) us (ts ++ ws) vs :=
  ⟨same_at (h.s.trans k.s) h.n1, h.n1, h.n2, h.ne, by rw [List.map_append]; exact upd_same, by rw [upd_ne h.ne.symm]; exact k.s _ _ h.d2, ((h.t1.same k.s).app k.t).wrote (k.s _ _ h.d1), (h.t2.same k.s).wrote (k.s _ _ h.d1), h.o1.app k.o, h.o2⟩
theorem script_at {ns : List Int} {i : Nat} (h : 3 + i < ns.length) : ∃ c, atI (ns.map V.int) (3 + (i : Int)) = some (.int c) := by
  refine ⟨ns[3 + i], atI_in (by omega) ?_⟩
  rw [show ((3 : Int) + (i : Int)).toNat = 3 + i by omega, List.getElem?_map, List.getElem?_eq_getElem h]
  rfl
section
variable {P : Program} {w : World} {K : PySem.W.Frag} {mg : Str → Option Value} {base : Heap}
def spLaw (K : PySem.W.Frag) : Sp := fun vs H Q _ => ∃ (a : Addr) (ns : List Int), vs = [.ref a] ∧ SqL K H a (ns.map V.int) ∧ ns.length ≤ 63 ∧ ∀ H', Q (.bl true) H'
theorem ok_law {f C CO fI gS gO gQ pS : Addr} {fd fdI fdS fdO fdQ : FuncData} {mc : Value} (F : Fun K "law" "law" s_law f fd) (T : TxtT K C) (m_list : mg "list" = none) (m_tuple : mg "tuple" = none) (m_range : mg "range" = none) (m_len : mg "len" = none)
    (M_Tolls : Mk K C fI) (G_Tolls : FnOk P w K mg base CX0 3 fI fdI ["self", "names", "entries"] (spInitT K C)) (mg_Tolls : mg "Tolls" = some (.ref C)) (b_Tolls : Binds K fdI ["self", "names", "entries"] [])
    (CR : ClX.CRead K C mc) (S_same : SMet K C mc "same" pS gS) (k_same : PySem.W.keepIn K (.ref gS) = true) (G_same : FnOk P w K mg base CX0 5 gS fdS ["names"] (spSameT K C)) (b_same : Binds K fdS ["names"] []) (kb_same : KBn K fdS ["names"] 0 ["names"] (fun us ws => us ++ ws) (fun vs zs => vs ++ zs))
    (sf_ : PySem.W.selfFirst K C = true) (O_or : Own K C "__or__" gO) (G_or : FnOk P w K mg base (L2.CX P w) 5 gO fdO ["self", "other"] (spOrX K C CO)) (b_or : Binds K fdO ["self", "other"] [])
    (O_eq : Own K C "__eq__" gQ) (G_eq : FnOk P w K mg base CX0 1 gQ fdQ ["self", "other"] (spEqB K C)) (b_eq : Binds K fdQ ["self", "other"] [])
    (d_L_cell : Def P w K mg base "_law_cell" 1 ["_law_script", "_law_k"] (spCellA K)) (d_L_pool : Def P w K mg base "_law_pool" 2 ["_law_cell_here", "_law_number"] spPool)
    (d_L_part : Def P w K mg base "_law_part" 1 ["_law_pool_here", "_law_spot", "_law_under", "_law_size"] (spPart K)) (d_L_spots : Def P w K mg base "_law_spots" 4 ["_law_cell_here", "_law_number", "_law_place"] spSpots)
    (d_L_tolls : Def P w K mg base "_law_tolls" 2 ["_law_pool_here", "_law_spot", "_law_words_here", "_law_number"] (spTollsL K)) (d_L_loads : Def P w K mg base "_law_loads" 1 ["_law_cell_here", "_law_words_here"] (spLoads K))
    (d_L_rows : Def P w K mg base "_law_rows" 2 ["_law_words_here", "_law_loads_here"] (spRows K)) (d_L_keeps : Def P w K mg base "_law_keeps" 5 ["_law_table", "_law_words_here", "_law_rows_here"] (spKeeps K C))
    (d_L_same : Def P w K mg base "_law_same" 4 ["_law_got", "_law_wanted"] (spSame 2)) (d_L_lesser : Def P w K mg base "_law_lesser" 3 ["_law_a", "_law_b"] spLesser) (d_L_diagonal : Def P w K mg base "_law_diagonal" 1 ["_law_size"] spDiag)
    (d_L_unequal : Def P w K mg base "_law_unequal" 7 ["_law_t", "_law_words_here", "_law_loads_here", "_law_rows_here", "_law_number"] (spUneq K C)) : FnOk P w K mg base CX0 8 f fd ["_law_script"] (spLaw K) := by
  refine F.ok sc_law (fun vs H Q E h => ?_) (fun cdv A outer s H vs Q E hr h => ?_)
  · obtain ⟨a, ns, rfl, _⟩ := h
    rfl
  · obtain ⟨a, ns, rfl, hS, hlen, q⟩ := h
    refine ⟨_, (pss_cons (ps_set (i := 1) sc_law.nd rfl (.inl rfl) (pe_callD d_L_pool (hr.mono (by decide)) (by rfl) (pa_cons (pe_callD d_L_cell (hr.mono (by decide)) (by rfl) (pa_cons (pv 0) (pa_cons pe_int pa_nil))) (pa_cons pe_int pa_nil))))
  (pss_cons (ps_set (i := 2) sc_law.nd rfl (.inl rfl) (pe_callD d_L_pool (hr.mono (by decide)) (by rfl) (pa_cons (pe_callD d_L_cell (hr.mono (by decide)) (by rfl) (pa_cons (pv 0) (pa_cons pe_int pa_nil))) (pa_cons pe_int pa_nil))))
  (pss_cons (ps_set (i := 3) sc_law.nd rfl (.inl rfl) (pe_op op_add pe_int (pe_callD d_L_part (hr.mono (by decide)) (by rfl) (pa_cons (pv 1) (pa_cons pe_int (pa_cons pe_int (pa_cons pe_int pa_nil)))))))
  (pss_cons (ps_set (i := 4) sc_law.nd rfl (.inl rfl) (pe_callD d_L_spots (hr.mono (by decide)) (by rfl) (pa_cons (pe_callD d_L_cell (hr.mono (by decide)) (by rfl) (pa_cons (pv 0) (pa_cons pe_int pa_nil))) (pa_cons (pv 3) (pa_cons (pe_op op_mod (pe_callD d_L_part (hr.mono (by decide)) (by rfl) (pa_cons (pv 1) (pa_cons pe_int (pa_cons pe_int (pa_cons pe_int pa_nil))))) (pe_op op_mul pe_int (pv 3))) pa_nil)))))
  (pss_cons (ps_set (i := 5) sc_law.nd rfl (.inl rfl) (pe_callD d_L_tolls (hr.mono (by decide)) (by rfl) (pa_cons (pv 1) (pa_cons pe_int (pa_cons (pv 4) (pa_cons (pe_callD d_L_part (hr.mono (by decide)) (by rfl) (pa_cons (pv 1) (pa_cons pe_int (pa_cons pe_int (pa_cons pe_int pa_nil))))) pa_nil))))))
  (pss_cons (ps_set (i := 6) sc_law.nd rfl (.inl rfl) (pe_callD d_L_tolls (hr.mono (by decide)) (by rfl) (pa_cons (pv 2) (pa_cons pe_int (pa_cons (pv 4) (pa_cons (pe_callD d_L_part (hr.mono (by decide)) (by rfl) (pa_cons (pv 2) (pa_cons pe_int (pa_cons pe_int (pa_cons pe_int pa_nil))))) pa_nil))))))
  (pss_cons (ps_cut (ps_for PassesOwn.never rfl (pi_range2 (by rfl) m_range (pa_cons pe_int (pa_cons (pe_callB call_len_seq (by rfl) m_len (by decide +kernel) (pa_cons (pv 0) pa_nil)) pa_nil))) (pg_name (i := 7) sc_law.nd rfl (.inl rfl))
    (pss_one (ps_if (pt_cmpR op_eq (pe_op op_mod (pv 7) pe_int) pe_int (nomark _)) (pss_one (ps_expr (pe_bm PySem.F.plainAttrs_list PySem.F.slot_list_extend PySem.F.type_list_extend mt_extend (pv 5) (pa_cons (pe_callD d_L_loads (hr.mono (by decide)) (by rfl) (pa_cons (pe_ix ix_list (pv 0) (pv 7) (fun _ _ => rfl)) (pa_cons (pv 4) pa_nil))) pa_nil)))) (pss_one (ps_expr (pe_bm PySem.F.plainAttrs_list PySem.F.slot_list_extend PySem.F.type_list_extend mt_extend (pv 6) (pa_cons (pe_callD d_L_loads (hr.mono (by decide)) (by rfl) (pa_cons (pe_ix ix_list (pv 0) (pv 7) (fun _ _ => rfl)) (pa_cons (pv 4) pa_nil))) pa_nil))))))))
  (pss_cons (ps_cut (ps_if (pt_cmpR op_eq (pe_callD d_L_part (hr.mono (by decide)) (by rfl) (pa_cons (pv 2) (pa_cons pe_int (pa_cons pe_int (pa_cons pe_int pa_nil))))) pe_int (nomark _)) (pss_one (ps_set (i := 6) sc_law.nd rfl (.inl rfl) (pe_revL (pv 5)))) pss_nil))
  (pss_cons (ps_set (i := 8) sc_law.nd rfl (.inl rfl) (pe_callD d_L_rows (hr.mono (by decide)) (by rfl) (pa_cons (pv 4) (pa_cons (pv 5) pa_nil))))
  (pss_cons (ps_set (i := 9) sc_law.nd rfl (.inl rfl) (pe_callD d_L_rows (hr.mono (by decide)) (by rfl) (pa_cons (pv 4) (pa_cons (pv 6) pa_nil))))
  (pss_cons (ps_set (i := 10) sc_law.nd rfl (.inl rfl) (pe_make M_Tolls G_Tolls (hr.mono (by decide)) (by rfl) mg_Tolls b_Tolls .nil pass0 (pa_cons (pe_callTy call_list_of (by rfl) m_list (by decide +kernel) (pa_cons (pv 4) pa_nil)) (pa_cons (pe_callTy call_list_of (by rfl) m_list (by decide +kernel) (pa_cons (pv 5) pa_nil)) pa_nil))))
  (pss_cons (ps_set (i := 11) sc_law.nd rfl (.inl rfl) (pe_make M_Tolls G_Tolls (hr.mono (by decide)) (by rfl) mg_Tolls b_Tolls .nil pass0 (pa_cons (pe_callTy call_list_of (by rfl) m_list (by decide +kernel) (pa_cons (pv 4) pa_nil)) (pa_cons (pe_callTy call_list_of (by rfl) m_list (by decide +kernel) (pa_cons (pv 6) pa_nil)) pa_nil))))
  (pss_cons (ps_set (i := 12) sc_law.nd rfl (.inl rfl) (pe_op (op_ownBin O_or sf_ G_or (hr.mono (by decide)) b_or passL) (pv 10) (pv 11)))
  (pss_cons (ps_if (pt_not (pt_val (pe_callD d_L_keeps (hr.mono (by decide)) (by rfl) (pa_cons (pv 12) (pa_cons (pv 4) (pa_cons (pe_callD d_L_lesser (hr.mono (by decide)) (by rfl) (pa_cons (pv 8) (pa_cons (pv 9) pa_nil))) pa_nil)))))) (pss_one (ps_ret pe_bl)) pss_nil)
  (pss_cons (ps_if (PW.pt (pw_or (pt_cmpR op_notBl (pe_cmpR (op_ownEqX (K := K) rfl (fun _ _ => rfl) O_eq G_eq (hr.mono (by decide)) b_eq pass0) (pv 12) (pe_op (op_ownBin O_or sf_ G_or (hr.mono (by decide)) b_or passL) (pv 11) (pv 10)) (nomark _)) pe_bl (nomark _)) (pw_or1 (pt_cmpR op_notBl (pe_cmpR (op_ownEqX (K := K) rfl (fun _ _ => rfl) O_eq G_eq (hr.mono (by decide)) b_eq pass0) (pe_op (op_ownBin O_or sf_ G_or (hr.mono (by decide)) b_or passL) (pv 10) (pv 10)) (pv 10) (nomark _)) pe_bl (nomark _))))) (pss_one (ps_ret pe_bl)) pss_nil)
  (pss_cons (ps_if (PW.pt (pw_or (pt_not (pt_val (pe_callD d_L_same (hr.mono (by decide)) (by rfl) (pa_cons (pe_cmpR (op_ownEqX (K := K) rfl (fun _ _ => rfl) O_eq G_eq (hr.mono (by decide)) b_eq pass0) (pv 10) (pv 11) (nomark _)) (pa_cons (pe_cmpR (op_eqD hr.units) (pv 8) (pv 9) (nomark _)) pa_nil))))) (pw_or1 (pt_not (pt_val (pe_callD d_L_same (hr.mono (by decide)) (by rfl) (pa_cons (pe_cmpR (op_ownEqX (K := K) rfl (fun _ _ => rfl) O_eq G_eq (hr.mono (by decide)) b_eq pass0) (pv 11) (pv 10) (nomark _)) (pa_cons (pe_cmpR (op_eqD hr.units) (pv 8) (pv 9) (nomark _)) pa_nil)))))))) (pss_one (ps_ret pe_bl)) pss_nil)
  (pss_cons (ps_set (i := 13) sc_law.nd rfl (.inl rfl) (pe_smeth (pe_glob (v := .ref C) (u := .ref C) (by rfl) mg_Tolls rfl) CR S_same G_same (hr.mono (by decide)) k_same b_same pass0 (pa_cons (pe_callTy call_list_of (by rfl) m_list (by decide +kernel) (pa_cons (pv 4) pa_nil)) pa_nil)))
  (pss_cons (ps_if (PW.pt (pw_or (pt_not (pt_val (pe_callD d_L_keeps (hr.mono (by decide)) (by rfl) (pa_cons (pv 13) (pa_cons (pv 4) (pa_cons (pe_callD d_L_diagonal (hr.mono (by decide)) (by rfl) (pa_cons (pv 3) pa_nil)) pa_nil)))))) (pw_or1 (pt_cmpR op_notBl (pe_cmpR (op_ownEqX (K := K) rfl (fun _ _ => rfl) O_eq G_eq (hr.mono (by decide)) b_eq pass0) (pe_smethK0 (pe_glob (v := .ref C) (u := .ref C) (by rfl) mg_Tolls rfl) CR S_same G_same (hr.mono (by decide)) k_same kb_same pass0 (pk_cons (pe_callTy call_tuple_of (by rfl) m_tuple (by decide +kernel) (pa_cons (pv 4) pa_nil)) pk_nil)) (pv 13) (nomark _)) pe_bl (nomark _))))) (pss_one (ps_ret pe_bl)) pss_nil)
  (pss_cons (ps_if (pt_not (pt_val (pe_callD d_L_keeps (hr.mono (by decide)) (by rfl) (pa_cons (pe_op (op_ownBin O_or sf_ G_or (hr.mono (by decide)) b_or passL) (pv 13) (pv 10)) (pa_cons (pv 4) (pa_cons (pe_callD d_L_lesser (hr.mono (by decide)) (by rfl) (pa_cons (pv 8) (pa_cons (pe_callD d_L_diagonal (hr.mono (by decide)) (by rfl) (pa_cons (pv 3) pa_nil)) pa_nil))) pa_nil)))))) (pss_one (ps_ret pe_bl)) pss_nil)
  (pss_cons (ps_if (pt_not (pt_val (pe_callD d_L_unequal (hr.mono (by decide)) (by rfl) (pa_cons (pv 10) (pa_cons (pv 4) (pa_cons (pv 5) (pa_cons (pv 8) (pa_cons (pe_callD d_L_part (hr.mono (by decide)) (by rfl) (pa_cons (pv 1) (pa_cons pe_int (pa_cons pe_int (pa_cons pe_int pa_nil))))) pa_nil)))))))) (pss_one (ps_ret pe_bl)) pss_nil)
  (pss_one (ps_ret (pe_and (pe_callD d_L_keeps (hr.mono (by decide)) (by rfl) (pa_cons (pv 10) (pa_cons (pv 4) (pa_cons (pv 8) pa_nil)))) (pe_one (pe_callD d_L_keeps (hr.mono (by decide)) (by rfl) (pa_cons (pv 11) (pa_cons (pv 4) (pa_cons (pv 9) pa_nil)))))))))))))))))))))))))))), ?_⟩
    refine ⟨_, rfl, a, ns, 1, rfl, hS, by decide, by decide, by omega, fun c1 => ⟨c1, 15, rfl, by decide, by decide, fun p1 ns1 np1 l1 o1 => ?_⟩⟩
    have s1 : Same H (upd H p1 (.lst (ns1.map V.int))) := same_upd np1
    refine ⟨_, rfl, a, ns, 2, rfl, s1.seq hS, by decide, by decide, by omega, fun c2 => ⟨c2, 13, rfl, by decide, by decide, fun p2 ns2 np2 l2 o2 => ?_⟩⟩
    have s2' := same_upd (o := .lst (ns2.map V.int)) np2
    have s2 := s1.trans s2'
    have e12 := s2' _ _ (upd_same (H := H) (a := p1) (o := .lst (ns1.map V.int)))
    have e22 : (upd (upd H p1 (.lst (ns1.map V.int))) p2 (.lst (ns2.map V.int))) p2 = some (.lst (ns2.map V.int)) := upd_same
    generalize upd (upd H p1 (.lst (ns1.map V.int))) p2 (.lst (ns2.map V.int)) = H2 at s2 e12 e22 ⊢
    clear s2'
    have u0 := part_lo (ns := ns1) (s := 0) (u := 1) (z := 6) (by decide)
    have u1 := part_hi (ns := ns1) (s := 0) (u := 1) (z := 6) (by decide)
    have v0 := part_lo (ns := ns1) (s := 1) (u := 1) (z := 13) (by decide)
    have v1 := part_hi (ns := ns1) (s := 1) (u := 1) (z := 13) (by decide)
    have w0 := part_lo (ns := ns2) (s := 0) (u := 1) (z := 13) (by decide)
    have w1 := part_hi (ns := ns2) (s := 0) (u := 1) (z := 13) (by decide)
    refine ⟨_, rfl, p1, ns1, 0, 1, 6, rfl, lstAt e12, by decide, by omega, by decide, by decide, by decide, _, _, rfl, rfl, ?_⟩
    -- the spots
    refine ⟨_, rfl, a, ns, 0, rfl, s2.seq hS, by decide, by decide, by omega, fun c3 => ⟨_, rfl, _, rfl, p1, ns1, 0, 6, 12, rfl, lstAt e12, by decide, by omega, by decide, by decide, by decide, _, rfl, _, _, rfl, rfl, .inl ⟨by decide, by decide⟩, _, _, rfl, rfl, (show (0 : Int) < 2 * (1 + partOf ns1 0 1 6) by omega), c3, _, _, rfl, by omega, by omega, Int.emod_nonneg _ (by omega), fun H3 c zs s3 ec' lz nok => ?_⟩⟩
    have e13c := s3 _ _ e12
    have e23c := s3 _ _ e22
    have s13c := s2.trans s3
    have z1 := nok.l1
    have z6 := nok.l6
    clear s1 s2 s3 e12 e22
    -- the entries
    refine ⟨_, rfl, _, rfl, _, rfl, p1, ns1, 1, 1, 13, rfl, lstAt e13c, by decide, by omega, by decide, by decide, by decide, ?_⟩
    refine ⟨p1, c, ns1, 2, _, zs, rfl, lstAt e13c, lstAt ec', by decide, by omega, by omega, by omega, z1, fun H5 D1 es1 ts1 nD1 ew1 t1 => ?_⟩
    refine ⟨_, rfl, _, rfl, _, rfl, p2, ns2, 0, 1, 13, rfl, lstAt (ew1.s _ _ e23c), by decide, by omega, by decide, by decide, by decide, ?_⟩
    refine ⟨p2, c, ns2, 1, _, zs, rfl, lstAt (ew1.s _ _ e23c), lstAt (ew1.s _ _ ec'), by decide, by omega, by omega, by omega, z1, fun H6 D2 es2 ts2 nD2 ew2 t2 => ?_⟩
    have E0 : E2L H3 H6 D1 D2 zs es1 es2 ts1 ts2 := ⟨ew1.s.trans ew2.s, nD1, none_of ew1.s nD2, ne_of_none ew1.d nD2, ew2.s _ _ ew1.d, ew2.d, ew1.t.same ew2.s, ew2.t, ew1.o, ew2.o⟩
    -- more of them
    refine ⟨fun σ H' => ∃ (es us : List Addr) (ts vs : List Tie) (y : Option V), σ = [some (.ref a), some (.ref p1), some (.ref p2), some (.int (1 + partOf ns1 0 1 6)), some (.ref c), some (.ref D1), some (.ref D2), y, none, none, none, none, none, none] ∧ E2L H3 H' D1 D2 zs es us ts vs ∧ ts.length ≤ 10000 ∧ vs.length ≤ 10000, ?_, ?_⟩
    · refine ⟨_, rfl, a, _, rfl, .inl ((s13c.trans E0.s).seq hS), 3, _, rfl, ⟨by decide, by decide, by rw [List.length_map]; omega, by rw [List.length_map]; omega⟩, ?_⟩
      rw [List.length_map]
      refine for_range (fun i σ H' => ∃ (es us : List Addr) (ts vs : List Tie) (y : Option V), σ = [some (.ref a), some (.ref p1), some (.ref p2), some (.int (1 + partOf ns1 0 1 6)), some (.ref c), some (.ref D1), some (.ref D2), y, none, none, none, none, none, none] ∧ E2L H3 H' D1 D2 zs es us ts vs ∧ ts.length ≤ 12 + 40 * i ∧ vs.length ≤ 12 + 40 * i) ⟨es1, es2, ts1, ts2, _, rfl, E0, by omega, by omega⟩ ?_ ?_
      · rintro i σ H' hi ⟨es, us, ts, vs, y, rfl, e2, lt, lv⟩
        have hi2 : 3 + i < ns.length := by omega
        obtain ⟨c5, ac⟩ := script_at (ns := ns) hi2
        refine ⟨_, rfl, _, _, rfl, rfl, (show (0 : Int) < 2 by decide), rfl, _, rfl, ite2 (fun e => ?_) (fun e => ?_)⟩
        · refine ⟨_, rfl, .inl ⟨rfl, _, lstAt e2.d1⟩, _, rfl, _, rfl, _, _, _, _, rfl, rfl, (s13c.trans e2.s).seq hS, ac, _, rfl, c5, c, zs, rfl, lstAt (e2.s _ _ ec'), z1, z6, fun H7 q2 fs ws nq ew tw => ?_⟩
          refine ⟨D1, q2, _, _, rfl, rfl, ew.s _ _ e2.d1, ew.d, ?_, es ++ fs, us, ts ++ ws, vs, _, rfl, e2.ext ew, by rw [List.length_append]; omega, by omega⟩
          rw [List.length_map, List.length_map, e2.t1.1, ew.t.1]
          exact Nat.le_trans (show ts.length + ws.length ≤ 10000 by omega) (by decide)
        · refine ⟨_, rfl, .inl ⟨rfl, _, lstAt e2.d2⟩, _, rfl, _, rfl, _, _, _, _, rfl, rfl, (s13c.trans e2.s).seq hS, ac, _, rfl, c5, c, zs, rfl, lstAt (e2.s _ _ ec'), z1, z6, fun H7 q2 fs ws nq ew tw => ?_⟩
          refine ⟨D2, q2, _, _, rfl, rfl, ew.s _ _ e2.d2, ew.d, ?_, es, us ++ fs, ts, vs ++ ws, _, rfl, (e2.swap.ext ew).swap, by omega, by rw [List.length_append]; omega⟩
          rw [List.length_map, List.length_map, e2.t2.1, ew.t.1]
          exact Nat.le_trans (show vs.length + ws.length ≤ 10000 by omega) (by decide)
      · rintro σ H' ⟨es, us, ts, vs, y, rfl, e2, lt, lv⟩
        exact ⟨es, us, ts, vs, y, rfl, e2, by omega, by omega⟩
    rintro σ H7 ⟨es, us, ts, vs, y, rfl, e2, lt, lv⟩
    refine ⟨fun σ H' => ∃ (D3 : Addr) (us : List Addr) (vs : List Tie), σ = [some (.ref a), some (.ref p1), some (.ref p2), some (.int (1 + partOf ns1 0 1 6)), some (.ref c), some (.ref D1), some (.ref D3), y, none, none, none, none, none, none] ∧ E2L H3 H' D1 D3 zs es us ts vs ∧ vs.length ≤ 10000, ?_, ?_⟩
    · refine ⟨_, rfl, p2, ns2, 0, 13, 3, rfl, lstAt (e2.s _ _ e23c), by decide, by omega, by decide, by decide, by decide, rfl, _, rfl, ite2 (fun e => ?_) (fun e => ?_)⟩
      · refine ⟨_, rfl, D1, _, rfl, lstAt e2.d1, fun D3 nD3 => ?_⟩
        rw [← List.map_reverse]
        have s3 := same_upd (o := .lst (es.reverse.map V.ref)) nD3
        have e3 := e2.same s3
        exact ⟨D3, es.reverse, ts.reverse, rfl, ⟨e3.s, e3.n1, none_of e2.s nD3, ne_of_none e2.d1 nD3, e3.d1, upd_same, e3.t1, e3.t1.rev, e3.o1, e3.o1.rev⟩, by rw [List.length_reverse]; exact lt⟩
      · exact ⟨D2, us, vs, rfl, e2, lv⟩
    clear e2 lv
    rintro σ H8 ⟨D3, us, vs, rfl, e3, lv⟩
    -- the rows and the tables
    have ec8 := e3.s _ _ ec'
    have e18 := e3.s _ _ e13c
    refine ⟨_, rfl, _, rfl, c, D1, zs, es, ts, rfl, lstAt ec8, z6, lstAt e3.d1, e3.t1, lt, fun H9 ra s9 rowsA => ?_⟩
    refine ⟨_, rfl, _, rfl, c, D3, zs, us, vs, rfl, lstAt (s9 _ _ ec8), z6, lstAt (s9 _ _ e3.d2), e3.t2.same s9, lv, fun H10 rb s10 rowsB => ?_⟩
    have e10 := e3.same (s9.trans s10)
    have rowsA10 := rowsA.same s10
    have ec10 := e10.s _ _ ec'
    have e110 := e10.s _ _ e13c
    clear e3 rowsA ec8 s9 s10 e18
    refine ⟨_, rfl, c, _, rfl, .inl (lstAt ec10), fun k1 nk1 => ?_⟩
    have t1' := same_upd (o := .lst (zs.map vN)) nk1
    refine ⟨_, rfl, D1, _, rfl, .inl (lstAt (t1' _ _ e10.d1)), fun k2 nk2 => ?_⟩
    have t2' := same_upd (o := .lst (es.map V.ref)) nk2
    have t12 := t1'.trans t2'
    intro m1 x1 n1 n2 ne1
    refine make_go n1 n2 ne1 (.inl (lstAt (t2' _ _ upd_same))) (.inl (lstAt upd_same)) (e10.t1.same t12) nok e10.o1 lt fun H11 tk1 s11 => ?_
    have t11 := t12.trans s11
    refine ⟨_, rfl, c, _, rfl, .inl (lstAt (t11 _ _ ec10)), fun k3 nk3 => ?_⟩
    have t3' := same_upd (o := .lst (zs.map vN)) nk3
    have e11 := e10.same t11
    refine ⟨_, rfl, D3, _, rfl, .inl (lstAt (t3' _ _ e11.d2)), fun k4 nk4 => ?_⟩
    have t4' := same_upd (o := .lst (us.map V.ref)) nk4
    have t34 := t3'.trans t4'
    intro m2 x2 n3 n4 ne2
    refine make_go n3 n4 ne2 (.inl (lstAt (t4' _ _ upd_same))) (.inl (lstAt upd_same)) (e11.t2.same t34) nok e11.o2 lv fun H12 tk2 s12 => ?_
    have t1112 := t34.trans s12
    have t1012 := t11.trans t1112
    have e12 := e11.same t1112
    have ra12 := rowsA10.same t1012
    have rb12 := rowsB.same t1012
    have kt12 : TkF K C H12 m1 zs (leastE ts) := TkF.same ⟨ts, tk1, e11.o1, fun _ _ => rfl, lt⟩ t1112
    have ku12 : TkF K C H12 m2 zs (leastE vs) := ⟨vs, tk2, e12.o2, fun _ _ => rfl, lv⟩
    have tk1' := tk1.same t1112
    have ec12 := t1012 _ _ ec10
    have e112 := t1012 _ _ e110
    clear ec10 e110 t11 t1112 t1012 t34 t3' t4' t1' t2' t12 n1 n2 n3 n4 ne1 ne2 nk1 nk2 nk3 nk4 tk1 e11 e10 s11 s12 rowsA10 rowsB
    have fok := kt12.ok
    have gok := ku12.ok
    -- joined
    refine ⟨_, rfl, _, rfl, kt12.ins, ku12.ins, m1, m2, zs, zs, leastE ts, leastE vs, rfl, kt12, ku12, nok, nok, .inl ⟨rfl, fun H13 mj hj s13 kj mj13 => ?_⟩⟩
    obtain ⟨tj, tkj, eokj, ecj, lcj⟩ := id kj
    obtain rfl : leastE tj = hj := funext fun x => funext fun y => ecj x y
    refine ⟨_, rfl, _, rfl, _, rfl, _, rfl, ra, rb, zs, leastE ts, leastE vs, rfl, rowsF_of (ra12.same s13), rowsF_of (rb12.same s13), z6, fun H14 rm s14 rowsM => ?_⟩
    have t14 := s13.trans s14
    refine ⟨mj, c, rm, zs, tj, rfl, tkj.same s14, t14 _ _ ec12, rowsM.rows (fun x y => (lesF_min _ _ x y).uniq (mj13 x y)), nok, fun H15 s15 => ⟨_, rfl, iteF ?_⟩⟩
    have t15 := t14.trans s15
    have kj15 := kj.same (s14.trans s15)
    have kt15 := kt12.same t15
    have ku15 := ku12.same t15
    -- the other way about, and with itself
    refine ⟨_, rfl, _, rfl, _, rfl, ku15.ins, kt15.ins, m2, m1, zs, zs, _, _, rfl, ku15, kt15, nok, nok, .inl ⟨rfl, fun H16 r16 h16 s16 k16 m16 => ?_⟩⟩
    refine eqX_yes (kj15.same s16) k16 nok (fun x y => ((mj13 x y).congr fun v => Or.comm).uniq (m16 x y)) ⟨true, true, rfl, rfl, _, rfl, iteF ?_⟩
    have kt16 := kt15.same s16
    refine ⟨_, rfl, _, rfl, kt16.ins, kt16.ins, m1, m1, zs, zs, _, _, rfl, kt16, kt16, nok, nok, .inl ⟨rfl, fun H17 r17 h17 s17 k17 m17 => ?_⟩⟩
    refine ⟨_, rfl, eqX_yes k17 (kt16.same s17) nok (fun x y => ((m17 x y).congr fun v => or_self_iff).uniq (min_self _)) ⟨true, true, rfl, rfl, _, rfl, iteF ?_⟩⟩
    have t17 := t15.trans (s16.trans s17)
    have kt17 := kt12.same t17
    have ku17 := ku12.same t17
    have da := rows_data (K := K) (rowsF_of (ra12.same t17))
    have db := rows_data (K := K) (rowsF_of (rb12.same t17))
    -- whether they are equal
    refine ⟨_, rfl, _, rfl, eqX_any kt17 ku17 nok nok fun b hb => ?_⟩
    have hb' : b = PyData.eqv (.list (zs.map (rowD zs (leastE ts)))) (.list (zs.map (rowD zs (leastE vs)))) := by
      rw [Bool.eq_iff_iff, hb, eqv_rowsL fok gok]
      exact ⟨fun h => h.2, fun h => ⟨rfl, h⟩⟩
    refine ⟨_, rfl, _, rfl, _, _, da, db, rowD_shape .., rowD_shape .., _, _, rfl, .inl ⟨congrArg V.bl hb', rfl⟩, _, rfl, iteF ?_⟩
    refine ⟨_, rfl, _, rfl, eqX_any ku17 kt17 nok nok fun b2 hb2 => ?_⟩
    have hb2' : b2 = PyData.eqv (.list (zs.map (rowD zs (leastE ts)))) (.list (zs.map (rowD zs (leastE vs)))) := by
      rw [Bool.eq_iff_iff, hb2, eqv_rowsL fok gok]
      exact ⟨fun h x y => (h.2 x y).symm, fun h => ⟨rfl, fun x y => (h x y).symm⟩⟩
    refine ⟨_, rfl, _, rfl, _, _, da, db, rowD_shape .., rowD_shape .., _, _, rfl, .inl ⟨congrArg V.bl hb2', rfl⟩, _, rfl, iteF ?_⟩
    -- the plain table
    refine ⟨rfl, _, rfl, c, _, rfl, .inl (lstAt (t17 _ _ ec12)), fun k5 nk5 => ?_⟩
    have s18a := same_upd (o := .lst (zs.map vN)) nk5
    refine ⟨k5, zs, rfl, .inl (lstAt upd_same), nok, fun H18 pl fp s18b kp mp => ?_⟩
    have t18 := t17.trans (s18a.trans s18b)
    obtain ⟨tp, tkp, eokp, ecp, lcp⟩ := id kp
    obtain rfl : leastE tp = fp := funext fun x => funext fun y => ecp x y
    have eye : ∀ x y, eyeF zs x y = leastE tp x y := fun x y => (eyeF_min (leastE ts) x y).uniq (mp x y)
    refine ⟨_, rfl, _, rfl, _, rfl, zs, (congrArg (fun z => [V.int z]) lz.symm), nok.nd, z6, fun H19 r19 s19 rows19 => ?_⟩
    have t19 := t18.trans s19
    refine ⟨pl, c, r19, zs, tp, rfl, tkp.same s19, t19 _ _ ec12, rows19.rows eye, nok, fun H20 s20 => ⟨_, rfl, iteF ?_⟩⟩
    have t20 := t19.trans s20
    refine ⟨rfl, _, rfl, c, _, rfl, .inl ⟨lstAt (t20 _ _ ec12), fun k6 nk6 => ?_⟩⟩
    have s21a := same_upd (o := .tup (zs.map vN)) nk6
    refine ⟨rfl, k6, zs, rfl, .inr (.inl upd_same), nok, fun H21 p21 f21 s21b k21 m21 => ?_⟩
    have s21 := s21a.trans s21b
    have kp21 := kp.same ((s19.trans s20).trans s21)
    refine ⟨_, rfl, eqX_yes k21 kp21 nok (fun x y => (m21 x y).uniq (mp x y)) ⟨true, true, rfl, rfl, _, rfl, iteF ?_⟩⟩
    have t21 := t20.trans s21
    -- joined with the plain table
    have kt21 := kt12.same t21
    refine ⟨_, rfl, _, rfl, kp21.ins, kt21.ins, pl, m1, zs, zs, _, _, rfl, kp21, kt21, nok, nok, .inl ⟨rfl, fun H22 m22 h22 s22 k22 j22 => ?_⟩⟩
    have t22 := t21.trans s22
    obtain ⟨t22', tk22, eok22, ec22, lc22⟩ := id k22
    obtain rfl : leastE t22' = h22 := funext fun x => funext fun y => ec22 x y
    refine ⟨_, rfl, _, rfl, _, rfl, zs, (congrArg (fun z => [V.int z]) lz.symm), nok.nd, z6, fun H23 r23 s23 rows23 => ?_⟩
    have t23 := t22.trans s23
    refine ⟨ra, r23, zs, leastE ts, eyeF zs, rfl, rowsF_of (ra12.same t23), rows23, z6, fun H24 r24 s24 rows24 => ?_⟩
    have t24 := t23.trans s24
    refine ⟨m22, c, r24, zs, t22', rfl, tk22.same (s23.trans s24), t24 _ _ ec12, rows24.rows (fun x y => ?_), nok, fun H25 s25 => ⟨_, rfl, iteF ?_⟩⟩
    · refine ((lesF_min _ _ x y).congr fun v => ?_).uniq (j22 x y)
      rw [eye]
      exact Or.comm
    have t25 := t24.trans s25
    -- what is unequal
    refine ⟨_, rfl, _, rfl, _, rfl, _, rfl, _, rfl, p1, ns1, 14, 1, 5040, rfl, lstAt (t25 _ _ e112), by decide, by omega, by decide, by decide, by decide, ?_⟩
    have e25 := e12.same t25
    refine ⟨m1, c, D1, ra, _, zs, es, ts, rfl, kt12.same t25, t25 _ _ ec12, e25.d1, e25.t1, e25.o1, nok, lt, ra12.same t25, part_lo (by decide), fun H26 s26 => ⟨_, rfl, iteF ?_⟩⟩
    have t26 := t25.trans s26
    -- the two tables stay
    refine ⟨_, rfl, _, rfl, _, rfl, m1, c, ra, zs, ts, rfl, tk1'.same t26, t26 _ _ ec12, ra12.same t26, nok, fun H27 s27 => ⟨_, rfl, iteT ?_⟩⟩
    have t27 := t26.trans s27
    exact ⟨_, rfl, _, rfl, _, rfl, m2, c, rb, zs, vs, rfl, tk2.same t27, t27 _ _ ec12, rb12.same t27, nok, fun H' s' => q _⟩
end
end TK

namespace TK
open PySem PySem.Spec PyProof.Rows L2 NdefX
theorem kit_off {K : PySem.W.Frag} {C : Addr} {T : String} (h1 : PySem.W.isClsIn K C = true) (h2 : PySem.W.typeIn K (.ref C) = some (.type "type")) (h3 : PySem.W.notFirst K C (.type T) = true) : PySem.W.kitOne K (.type T) (.ref C) = some false := by
  unfold PySem.W.notFirst at h3
  have e0 : ((Value.type T) == Value.ref C) = false := rfl
  rw [e0, Bool.false_or] at h3
  have h4 := eq_of_beq h3
  unfold PySem.W.kitOne PySem.W.kitCls
  rw [e0]
  unfold PySem.W.isClsIn at h1
  simp [h1, h2, h4]
/-- how the keywords of a def without defaults bind -/
theorem fun_kb {K : PySem.W.Frag} {x qual : Str} {st : Stmt} {f : Addr} {fd : FuncData} {ps : List Str} (F : Fun K x qual st f fd) (n : Nat) (ks : List Str)
    (h : ∀ (kV doc pm : Value) (an : Option Addr) (cdv ct : Value) (us ws : List Value), us.length = n → ws.length = ks.length → bindArgs (PySem.W.fnOf x qual (defArgs st) (defBody st) (defScope st) .none kV doc pm an cdv ct) ⟨us, ks.zip ws⟩ = pure (ps.zip (us ++ ws))) :
    KBn K fd ps n ks (fun us ws => us ++ ws) (fun vs zs => vs ++ zs) := by
  obtain ⟨oc, od, kV, doc, pm, an, cdv, ct, osl, rfl, lk, hcd⟩ := F.ex
  exact ⟨fun s us ws X l1 l2 => .of_eq (h _ _ _ _ _ _ us ws l1 l2), fun r1 r2 => r1.append r2⟩

theorem all_mk {l : PySem.W.OpenLaw} {w : World} {K : PySem.W.Frag} {h : Heap} {mg : Str → Option Value} {fa f0 f1 f2 f3 f4 f5 f6 f7 f8 f9 f10 f11 f12 f13 f14 f15 f16 f17 f18 f19 f20 f21 f22 f23 f24 f25 f26 f27 f28 f29 f30 f31 f32 f33 : Addr} (X : K.In h) (G : h.Ns mainGlobals mg) (hfa : mg "law" = some (.ref fa))
    {tk : Tok}
    {C TI EI DN pS : Addr} {restS : List Value} {odD odN odEm : Option Addr} {slD slN slEm : Array (Option Value)} {ocD ocN : Value} {nD nN nX : Nat}
    {fI : Addr} {odI anI : Option Addr} {slI : Array (Option Value)} {ocI kVI dcI pmI cdI ctI : Value}
    {fG : Addr} {odG anG : Option Addr} {slG : Array (Option Value)} {ocG kVG dcG pmG cdG ctG : Value}
    {fE : Addr} {odE anE : Option Addr} {slE : Array (Option Value)} {ocE kVE dcE pmE cdE ctE : Value}
    {fQ : Addr} {odQ anQ : Option Addr} {slQ : Array (Option Value)} {ocQ kVQ dcQ pmQ cdQ ctQ : Value}
    {fM : Addr} {odM anM : Option Addr} {slM : Array (Option Value)} {ocM kVM dcM pmM cdM ctM : Value}
    {fO : Addr} {odO anO : Option Addr} {slO : Array (Option Value)} {ocO kVO dcO pmO cdO ctO : Value}
    {fS : Addr} {odS anS : Option Addr} {slS : Array (Option Value)} {ocS kVS dcS pmS cdS ctS : Value}
    {CO : Addr}
    {CN1 : Addr}
    {CN2 : Addr}
    {CN3 : Addr}
    {CN4 : Addr}
    {CN5 : Addr}
    {CN6 : Addr}
    {CNH : Addr}
    {od0 an0 : Option Addr} {sl0 : Array (Option Value)} {oc0 kV0 dc0 pm0 cd0 ct0 : Value}
    (a0 : PySem.W.nsIn K mainGlobals "_wall" = some (some (.ref f0))) (l0 : K.lookup f0 = some ⟨oc0, od0, .func (PySem.W.fnOf "_wall" "_wall" (defArgs s_wall) (defBody s_wall) (defScope s_wall) .none kV0 dc0 pm0 an0 cd0 ct0), sl0⟩) (c0 : PySem.W.codeIn K cd0 "_wall" = true) (k0 : PySem.W.keepIn K (.ref f0) = true)
    {od1 an1 : Option Addr} {sl1 : Array (Option Value)} {oc1 kV1 dc1 pm1 cd1 ct1 : Value}
    (a1 : PySem.W.nsIn K mainGlobals "is_name" = some (some (.ref f1))) (l1 : K.lookup f1 = some ⟨oc1, od1, .func (PySem.W.fnOf "is_name" "is_name" (defArgs s_is_name) (defBody s_is_name) (defScope s_is_name) .none kV1 dc1 pm1 an1 cd1 ct1), sl1⟩) (c1 : PySem.W.codeIn K cd1 "is_name" = true) (k1 : PySem.W.keepIn K (.ref f1) = true)
    {od2 an2 : Option Addr} {sl2 : Array (Option Value)} {oc2 kV2 dc2 pm2 cd2 ct2 : Value}
    (a2 : PySem.W.nsIn K mainGlobals "check_size" = some (some (.ref f2))) (l2 : K.lookup f2 = some ⟨oc2, od2, .func (PySem.W.fnOf "check_size" "check_size" (defArgs s_check_size) (defBody s_check_size) (defScope s_check_size) .none kV2 dc2 pm2 an2 cd2 ct2), sl2⟩) (c2 : PySem.W.codeIn K cd2 "check_size" = true) (k2 : PySem.W.keepIn K (.ref f2) = true)
    {od3 an3 : Option Addr} {sl3 : Array (Option Value)} {oc3 kV3 dc3 pm3 cd3 ct3 : Value}
    (a3 : PySem.W.nsIn K mainGlobals "check_names" = some (some (.ref f3))) (l3 : K.lookup f3 = some ⟨oc3, od3, .func (PySem.W.fnOf "check_names" "check_names" (defArgs s_check_names) (defBody s_check_names) (defScope s_check_names) (.ref DN) kV3 dc3 pm3 an3 cd3 ct3), sl3⟩) (c3 : PySem.W.codeIn K cd3 "check_names" = true) (k3 : PySem.W.keepIn K (.ref f3) = true)
    {od4 an4 : Option Addr} {sl4 : Array (Option Value)} {oc4 kV4 dc4 pm4 cd4 ct4 : Value}
    (a4 : PySem.W.nsIn K mainGlobals "check_known" = some (some (.ref f4))) (l4 : K.lookup f4 = some ⟨oc4, od4, .func (PySem.W.fnOf "check_known" "check_known" (defArgs s_check_known) (defBody s_check_known) (defScope s_check_known) .none kV4 dc4 pm4 an4 cd4 ct4), sl4⟩) (c4 : PySem.W.codeIn K cd4 "check_known" = true) (k4 : PySem.W.keepIn K (.ref f4) = true)
    {od5 an5 : Option Addr} {sl5 : Array (Option Value)} {oc5 kV5 dc5 pm5 cd5 ct5 : Value}
    (a5 : PySem.W.nsIn K mainGlobals "plus" = some (some (.ref f5))) (l5 : K.lookup f5 = some ⟨oc5, od5, .func (PySem.W.fnOf "plus" "plus" (defArgs s_plus) (defBody s_plus) (defScope s_plus) .none kV5 dc5 pm5 an5 cd5 ct5), sl5⟩) (c5 : PySem.W.codeIn K cd5 "plus" = true) (k5 : PySem.W.keepIn K (.ref f5) = true)
    {od6 an6 : Option Addr} {sl6 : Array (Option Value)} {oc6 kV6 dc6 pm6 cd6 ct6 : Value}
    (a6 : PySem.W.nsIn K mainGlobals "least" = some (some (.ref f6))) (l6 : K.lookup f6 = some ⟨oc6, od6, .func (PySem.W.fnOf "least" "least" (defArgs s_least) (defBody s_least) (defScope s_least) .none kV6 dc6 pm6 an6 cd6 ct6), sl6⟩) (c6 : PySem.W.codeIn K cd6 "least" = true) (k6 : PySem.W.keepIn K (.ref f6) = true)
    {od7 an7 : Option Addr} {sl7 : Array (Option Value)} {oc7 kV7 dc7 pm7 cd7 ct7 : Value}
    (a7 : PySem.W.nsIn K mainGlobals "_check_entries" = some (some (.ref f7))) (l7 : K.lookup f7 = some ⟨oc7, od7, .func (PySem.W.fnOf "_check_entries" "_check_entries" (defArgs s_check_entries) (defBody s_check_entries) (defScope s_check_entries) .none kV7 dc7 pm7 an7 cd7 ct7), sl7⟩) (c7 : PySem.W.codeIn K cd7 "_check_entries" = true) (k7 : PySem.W.keepIn K (.ref f7) = true)
    {od8 an8 : Option Addr} {sl8 : Array (Option Value)} {oc8 kV8 dc8 pm8 cd8 ct8 : Value}
    (a8 : PySem.W.nsIn K mainGlobals "_least_tolls" = some (some (.ref f8))) (l8 : K.lookup f8 = some ⟨oc8, od8, .func (PySem.W.fnOf "_least_tolls" "_least_tolls" (defArgs s_least_tolls) (defBody s_least_tolls) (defScope s_least_tolls) .none kV8 dc8 pm8 an8 cd8 ct8), sl8⟩) (c8 : PySem.W.codeIn K cd8 "_least_tolls" = true) (k8 : PySem.W.keepIn K (.ref f8) = true)
    {od9 an9 : Option Addr} {sl9 : Array (Option Value)} {oc9 kV9 dc9 pm9 cd9 ct9 : Value}
    (a9 : PySem.W.nsIn K mainGlobals "_law_cell" = some (some (.ref f9))) (l9 : K.lookup f9 = some ⟨oc9, od9, .func (PySem.W.fnOf "_law_cell" "_law_cell" (defArgs s_L_cell) (defBody s_L_cell) (defScope s_L_cell) .none kV9 dc9 pm9 an9 cd9 ct9), sl9⟩) (c9 : PySem.W.codeIn K cd9 "_law_cell" = true) (k9 : PySem.W.keepIn K (.ref f9) = true)
    {od10 an10 : Option Addr} {sl10 : Array (Option Value)} {oc10 kV10 dc10 pm10 cd10 ct10 : Value}
    (a10 : PySem.W.nsIn K mainGlobals "_law_mixed" = some (some (.ref f10))) (l10 : K.lookup f10 = some ⟨oc10, od10, .func (PySem.W.fnOf "_law_mixed" "_law_mixed" (defArgs s_L_mixed) (defBody s_L_mixed) (defScope s_L_mixed) .none kV10 dc10 pm10 an10 cd10 ct10), sl10⟩) (c10 : PySem.W.codeIn K cd10 "_law_mixed" = true) (k10 : PySem.W.keepIn K (.ref f10) = true)
    {od11 an11 : Option Addr} {sl11 : Array (Option Value)} {oc11 kV11 dc11 pm11 cd11 ct11 : Value}
    (a11 : PySem.W.nsIn K mainGlobals "_law_pool" = some (some (.ref f11))) (l11 : K.lookup f11 = some ⟨oc11, od11, .func (PySem.W.fnOf "_law_pool" "_law_pool" (defArgs s_L_pool) (defBody s_L_pool) (defScope s_L_pool) .none kV11 dc11 pm11 an11 cd11 ct11), sl11⟩) (c11 : PySem.W.codeIn K cd11 "_law_pool" = true) (k11 : PySem.W.keepIn K (.ref f11) = true)
    {od12 an12 : Option Addr} {sl12 : Array (Option Value)} {oc12 kV12 dc12 pm12 cd12 ct12 : Value}
    (a12 : PySem.W.nsIn K mainGlobals "_law_part" = some (some (.ref f12))) (l12 : K.lookup f12 = some ⟨oc12, od12, .func (PySem.W.fnOf "_law_part" "_law_part" (defArgs s_L_part) (defBody s_L_part) (defScope s_L_part) .none kV12 dc12 pm12 an12 cd12 ct12), sl12⟩) (c12 : PySem.W.codeIn K cd12 "_law_part" = true) (k12 : PySem.W.keepIn K (.ref f12) = true)
    {od13 an13 : Option Addr} {sl13 : Array (Option Value)} {oc13 kV13 dc13 pm13 cd13 ct13 : Value}
    (a13 : PySem.W.nsIn K mainGlobals "_law_names" = some (some (.ref f13))) (l13 : K.lookup f13 = some ⟨oc13, od13, .func (PySem.W.fnOf "_law_names" "_law_names" (defArgs s_L_names) (defBody s_L_names) (defScope s_L_names) .none kV13 dc13 pm13 an13 cd13 ct13), sl13⟩) (c13 : PySem.W.codeIn K cd13 "_law_names" = true) (k13 : PySem.W.keepIn K (.ref f13) = true)
    {od14 an14 : Option Addr} {sl14 : Array (Option Value)} {oc14 kV14 dc14 pm14 cd14 ct14 : Value}
    (a14 : PySem.W.nsIn K mainGlobals "_law_strange" = some (some (.ref f14))) (l14 : K.lookup f14 = some ⟨oc14, od14, .func (PySem.W.fnOf "_law_strange" "_law_strange" (defArgs s_L_strange) (defBody s_L_strange) (defScope s_L_strange) .none kV14 dc14 pm14 an14 cd14 ct14), sl14⟩) (c14 : PySem.W.codeIn K cd14 "_law_strange" = true) (k14 : PySem.W.keepIn K (.ref f14) = true)
    {od15 an15 : Option Addr} {sl15 : Array (Option Value)} {oc15 kV15 dc15 pm15 cd15 ct15 : Value}
    (a15 : PySem.W.nsIn K mainGlobals "_law_words" = some (some (.ref f15))) (l15 : K.lookup f15 = some ⟨oc15, od15, .func (PySem.W.fnOf "_law_words" "_law_words" (defArgs s_L_words) (defBody s_L_words) (defScope s_L_words) .none kV15 dc15 pm15 an15 cd15 ct15), sl15⟩) (c15 : PySem.W.codeIn K cd15 "_law_words" = true) (k15 : PySem.W.keepIn K (.ref f15) = true)
    {od16 an16 : Option Addr} {sl16 : Array (Option Value)} {oc16 kV16 dc16 pm16 cd16 ct16 : Value}
    (a16 : PySem.W.nsIn K mainGlobals "_law_spots" = some (some (.ref f16))) (l16 : K.lookup f16 = some ⟨oc16, od16, .func (PySem.W.fnOf "_law_spots" "_law_spots" (defArgs s_L_spots) (defBody s_L_spots) (defScope s_L_spots) .none kV16 dc16 pm16 an16 cd16 ct16), sl16⟩) (c16 : PySem.W.codeIn K cd16 "_law_spots" = true) (k16 : PySem.W.keepIn K (.ref f16) = true)
    {od17 an17 : Option Addr} {sl17 : Array (Option Value)} {oc17 kV17 dc17 pm17 cd17 ct17 : Value}
    (a17 : PySem.W.nsIn K mainGlobals "_law_tolls" = some (some (.ref f17))) (l17 : K.lookup f17 = some ⟨oc17, od17, .func (PySem.W.fnOf "_law_tolls" "_law_tolls" (defArgs s_L_tolls) (defBody s_L_tolls) (defScope s_L_tolls) .none kV17 dc17 pm17 an17 cd17 ct17), sl17⟩) (c17 : PySem.W.codeIn K cd17 "_law_tolls" = true) (k17 : PySem.W.keepIn K (.ref f17) = true)
    {od18 an18 : Option Addr} {sl18 : Array (Option Value)} {oc18 kV18 dc18 pm18 cd18 ct18 : Value}
    (a18 : PySem.W.nsIn K mainGlobals "_law_loads" = some (some (.ref f18))) (l18 : K.lookup f18 = some ⟨oc18, od18, .func (PySem.W.fnOf "_law_loads" "_law_loads" (defArgs s_L_loads) (defBody s_L_loads) (defScope s_L_loads) .none kV18 dc18 pm18 an18 cd18 ct18), sl18⟩) (c18 : PySem.W.codeIn K cd18 "_law_loads" = true) (k18 : PySem.W.keepIn K (.ref f18) = true)
    {od19 an19 : Option Addr} {sl19 : Array (Option Value)} {oc19 kV19 dc19 pm19 cd19 ct19 : Value}
    (a19 : PySem.W.nsIn K mainGlobals "_law_integer" = some (some (.ref f19))) (l19 : K.lookup f19 = some ⟨oc19, od19, .func (PySem.W.fnOf "_law_integer" "_law_integer" (defArgs s_L_integer) (defBody s_L_integer) (defScope s_L_integer) .none kV19 dc19 pm19 an19 cd19 ct19), sl19⟩) (c19 : PySem.W.codeIn K cd19 "_law_integer" = true) (k19 : PySem.W.keepIn K (.ref f19) = true)
    {od20 an20 : Option Addr} {sl20 : Array (Option Value)} {oc20 kV20 dc20 pm20 cd20 ct20 : Value}
    (a20 : PySem.W.nsIn K mainGlobals "_law_same" = some (some (.ref f20))) (l20 : K.lookup f20 = some ⟨oc20, od20, .func (PySem.W.fnOf "_law_same" "_law_same" (defArgs s_L_same) (defBody s_L_same) (defScope s_L_same) .none kV20 dc20 pm20 an20 cd20 ct20), sl20⟩) (c20 : PySem.W.codeIn K cd20 "_law_same" = true) (k20 : PySem.W.keepIn K (.ref f20) = true)
    {od21 an21 : Option Addr} {sl21 : Array (Option Value)} {oc21 kV21 dc21 pm21 cd21 ct21 : Value}
    (a21 : PySem.W.nsIn K mainGlobals "_law_less" = some (some (.ref f21))) (l21 : K.lookup f21 = some ⟨oc21, od21, .func (PySem.W.fnOf "_law_less" "_law_less" (defArgs s_L_less) (defBody s_L_less) (defScope s_L_less) .none kV21 dc21 pm21 an21 cd21 ct21), sl21⟩) (c21 : PySem.W.codeIn K cd21 "_law_less" = true) (k21 : PySem.W.keepIn K (.ref f21) = true)
    {od22 an22 : Option Addr} {sl22 : Array (Option Value)} {oc22 kV22 dc22 pm22 cd22 ct22 : Value}
    (a22 : PySem.W.nsIn K mainGlobals "_law_least" = some (some (.ref f22))) (l22 : K.lookup f22 = some ⟨oc22, od22, .func (PySem.W.fnOf "_law_least" "_law_least" (defArgs s_L_least) (defBody s_L_least) (defScope s_L_least) .none kV22 dc22 pm22 an22 cd22 ct22), sl22⟩) (c22 : PySem.W.codeIn K cd22 "_law_least" = true) (k22 : PySem.W.keepIn K (.ref f22) = true)
    {od23 an23 : Option Addr} {sl23 : Array (Option Value)} {oc23 kV23 dc23 pm23 cd23 ct23 : Value}
    (a23 : PySem.W.nsIn K mainGlobals "_law_least_of" = some (some (.ref f23))) (l23 : K.lookup f23 = some ⟨oc23, od23, .func (PySem.W.fnOf "_law_least_of" "_law_least_of" (defArgs s_L_least_of) (defBody s_L_least_of) (defScope s_L_least_of) .none kV23 dc23 pm23 an23 cd23 ct23), sl23⟩) (c23 : PySem.W.codeIn K cd23 "_law_least_of" = true) (k23 : PySem.W.keepIn K (.ref f23) = true)
    {od24 an24 : Option Addr} {sl24 : Array (Option Value)} {oc24 kV24 dc24 pm24 cd24 ct24 : Value}
    (a24 : PySem.W.nsIn K mainGlobals "_law_rows" = some (some (.ref f24))) (l24 : K.lookup f24 = some ⟨oc24, od24, .func (PySem.W.fnOf "_law_rows" "_law_rows" (defArgs s_L_rows) (defBody s_L_rows) (defScope s_L_rows) .none kV24 dc24 pm24 an24 cd24 ct24), sl24⟩) (c24 : PySem.W.codeIn K cd24 "_law_rows" = true) (k24 : PySem.W.keepIn K (.ref f24) = true)
    {od25 an25 : Option Addr} {sl25 : Array (Option Value)} {oc25 kV25 dc25 pm25 cd25 ct25 : Value}
    (a25 : PySem.W.nsIn K mainGlobals "_law_listed" = some (some (.ref f25))) (l25 : K.lookup f25 = some ⟨oc25, od25, .func (PySem.W.fnOf "_law_listed" "_law_listed" (defArgs s_L_listed) (defBody s_L_listed) (defScope s_L_listed) .none kV25 dc25 pm25 an25 cd25 ct25), sl25⟩) (c25 : PySem.W.codeIn K cd25 "_law_listed" = true) (k25 : PySem.W.keepIn K (.ref f25) = true)
    {od26 an26 : Option Addr} {sl26 : Array (Option Value)} {oc26 kV26 dc26 pm26 cd26 ct26 : Value}
    (a26 : PySem.W.nsIn K mainGlobals "_law_keeps" = some (some (.ref f26))) (l26 : K.lookup f26 = some ⟨oc26, od26, .func (PySem.W.fnOf "_law_keeps" "_law_keeps" (defArgs s_L_keeps) (defBody s_L_keeps) (defScope s_L_keeps) .none kV26 dc26 pm26 an26 cd26 ct26), sl26⟩) (c26 : PySem.W.codeIn K cd26 "_law_keeps" = true) (k26 : PySem.W.keepIn K (.ref f26) = true)
    {od27 an27 : Option Addr} {sl27 : Array (Option Value)} {oc27 kV27 dc27 pm27 cd27 ct27 : Value}
    (a27 : PySem.W.nsIn K mainGlobals "_law_diagonal" = some (some (.ref f27))) (l27 : K.lookup f27 = some ⟨oc27, od27, .func (PySem.W.fnOf "_law_diagonal" "_law_diagonal" (defArgs s_L_diagonal) (defBody s_L_diagonal) (defScope s_L_diagonal) .none kV27 dc27 pm27 an27 cd27 ct27), sl27⟩) (c27 : PySem.W.codeIn K cd27 "_law_diagonal" = true) (k27 : PySem.W.keepIn K (.ref f27) = true)
    {od28 an28 : Option Addr} {sl28 : Array (Option Value)} {oc28 kV28 dc28 pm28 cd28 ct28 : Value}
    (a28 : PySem.W.nsIn K mainGlobals "_law_lesser" = some (some (.ref f28))) (l28 : K.lookup f28 = some ⟨oc28, od28, .func (PySem.W.fnOf "_law_lesser" "_law_lesser" (defArgs s_L_lesser) (defBody s_L_lesser) (defScope s_L_lesser) .none kV28 dc28 pm28 an28 cd28 ct28), sl28⟩) (c28 : PySem.W.codeIn K cd28 "_law_lesser" = true) (k28 : PySem.W.keepIn K (.ref f28) = true)
    {od29 an29 : Option Addr} {sl29 : Array (Option Value)} {oc29 kV29 dc29 pm29 cd29 ct29 : Value}
    (a29 : PySem.W.nsIn K mainGlobals "_law_changed" = some (some (.ref f29))) (l29 : K.lookup f29 = some ⟨oc29, od29, .func (PySem.W.fnOf "_law_changed" "_law_changed" (defArgs s_L_changed) (defBody s_L_changed) (defScope s_L_changed) .none kV29 dc29 pm29 an29 cd29 ct29), sl29⟩) (c29 : PySem.W.codeIn K cd29 "_law_changed" = true) (k29 : PySem.W.keepIn K (.ref f29) = true)
    {od30 an30 : Option Addr} {sl30 : Array (Option Value)} {oc30 kV30 dc30 pm30 cd30 ct30 : Value}
    (a30 : PySem.W.nsIn K mainGlobals "_law_refused" = some (some (.ref f30))) (l30 : K.lookup f30 = some ⟨oc30, od30, .func (PySem.W.fnOf "_law_refused" "_law_refused" (defArgs s_L_refused) (defBody s_L_refused) (defScope s_L_refused) .none kV30 dc30 pm30 an30 cd30 ct30), sl30⟩) (c30 : PySem.W.codeIn K cd30 "_law_refused" = true) (k30 : PySem.W.keepIn K (.ref f30) = true)
    {od31 an31 : Option Addr} {sl31 : Array (Option Value)} {oc31 kV31 dc31 pm31 cd31 ct31 : Value}
    (a31 : PySem.W.nsIn K mainGlobals "_law_foreign" = some (some (.ref f31))) (l31 : K.lookup f31 = some ⟨oc31, od31, .func (PySem.W.fnOf "_law_foreign" "_law_foreign" (defArgs s_L_foreign) (defBody s_L_foreign) (defScope s_L_foreign) .none kV31 dc31 pm31 an31 cd31 ct31), sl31⟩) (c31 : PySem.W.codeIn K cd31 "_law_foreign" = true) (k31 : PySem.W.keepIn K (.ref f31) = true)
    {od32 an32 : Option Addr} {sl32 : Array (Option Value)} {oc32 kV32 dc32 pm32 cd32 ct32 : Value}
    (a32 : PySem.W.nsIn K mainGlobals "_law_unequal" = some (some (.ref f32))) (l32 : K.lookup f32 = some ⟨oc32, od32, .func (PySem.W.fnOf "_law_unequal" "_law_unequal" (defArgs s_L_unequal) (defBody s_L_unequal) (defScope s_L_unequal) .none kV32 dc32 pm32 an32 cd32 ct32), sl32⟩) (c32 : PySem.W.codeIn K cd32 "_law_unequal" = true) (k32 : PySem.W.keepIn K (.ref f32) = true)
    {od33 an33 : Option Addr} {sl33 : Array (Option Value)} {oc33 kV33 dc33 pm33 cd33 ct33 : Value}
    (a33 : PySem.W.nsIn K mainGlobals "law" = some (some (.ref f33))) (l33 : K.lookup f33 = some ⟨oc33, od33, .func (PySem.W.fnOf "law" "law" (defArgs s_law) (defBody s_law) (defScope s_law) .none kV33 dc33 pm33 an33 cd33 ct33), sl33⟩) (c33 : PySem.W.codeIn K cd33 "law" = true) (k33 : PySem.W.keepIn K (.ref f33) = true)
    (aL : PySem.W.nsIn K mainGlobals "LETTERS" = some (some (.str lettersZ tk)))
    (z_len : PySem.W.nsIn K mainGlobals "len" = some none)
    (z_all : PySem.W.nsIn K mainGlobals "all" = some none)
    (z_enumerate : PySem.W.nsIn K mainGlobals "enumerate" = some none)
    (z_tuple : PySem.W.nsIn K mainGlobals "tuple" = some none)
    (z_list : PySem.W.nsIn K mainGlobals "list" = some none)
    (z_range : PySem.W.nsIn K mainGlobals "range" = some none)
    (z_abs : PySem.W.nsIn K mainGlobals "abs" = some none)
    (z_int : PySem.W.nsIn K mainGlobals "int" = some none)
    (z_min : PySem.W.nsIn K mainGlobals "min" = some none)
    (z_isinstance : PySem.W.nsIn K mainGlobals "isinstance" = some none)
    (z_bool : PySem.W.nsIn K mainGlobals "bool" = some none)
    (z_str : PySem.W.nsIn K mainGlobals "str" = some none)
    (z_ValueError : PySem.W.nsIn K mainGlobals "ValueError" = some none)
    (aC : PySem.W.nsIn K mainGlobals "Tolls" = some (some (.ref C)))
    (aI : PySem.W.findIn K (.ref C) "__init__" = some (some (.ref fI))) (iI : PySem.W.isFn K (.ref fI) = true) (lI : K.lookup fI = some ⟨ocI, odI, .func (PySem.W.fnOf "__init__" "Tolls.__init__" (defArgs s_Tolls_init) (defBody s_Tolls_init) (defScope s_Tolls_init) (.ref TI) kVI dcI pmI anI cdI ctI), slI⟩) (cI : PySem.W.codeIn K cdI "Tolls.__init__" = true) (kI : PySem.W.keepIn K (.ref fI) = true)
    (aG : PySem.W.findIn K (.ref C) "__getitem__" = some (some (.ref fG))) (iG : PySem.W.isFn K (.ref fG) = true) (lG : K.lookup fG = some ⟨ocG, odG, .func (PySem.W.fnOf "__getitem__" "Tolls.__getitem__" (defArgs s_Tolls_getitem) (defBody s_Tolls_getitem) (defScope s_Tolls_getitem) .none kVG dcG pmG anG cdG ctG), slG⟩) (cG : PySem.W.codeIn K cdG "Tolls.__getitem__" = true) (kG : PySem.W.keepIn K (.ref fG) = true)
    (aE : PySem.W.findIn K (.ref C) "entries" = some (some (.ref fE))) (iE : PySem.W.isFn K (.ref fE) = true) (lE : K.lookup fE = some ⟨ocE, odE, .func (PySem.W.fnOf "entries" "Tolls.entries" (defArgs s_Tolls_entries) (defBody s_Tolls_entries) (defScope s_Tolls_entries) .none kVE dcE pmE anE cdE ctE), slE⟩) (cE : PySem.W.codeIn K cdE "Tolls.entries" = true) (kE : PySem.W.keepIn K (.ref fE) = true)
    (aQ : PySem.W.findIn K (.ref C) "__eq__" = some (some (.ref fQ))) (iQ : PySem.W.isFn K (.ref fQ) = true) (lQ : K.lookup fQ = some ⟨ocQ, odQ, .func (PySem.W.fnOf "__eq__" "Tolls.__eq__" (defArgs s_Tolls_eq) (defBody s_Tolls_eq) (defScope s_Tolls_eq) .none kVQ dcQ pmQ anQ cdQ ctQ), slQ⟩) (cQ : PySem.W.codeIn K cdQ "Tolls.__eq__" = true) (kQ : PySem.W.keepIn K (.ref fQ) = true)
    (aM : PySem.W.findIn K (.ref C) "__mul__" = some (some (.ref fM))) (iM : PySem.W.isFn K (.ref fM) = true) (lM : K.lookup fM = some ⟨ocM, odM, .func (PySem.W.fnOf "__mul__" "Tolls.__mul__" (defArgs s_Tolls_mul) (defBody s_Tolls_mul) (defScope s_Tolls_mul) .none kVM dcM pmM anM cdM ctM), slM⟩) (cM : PySem.W.codeIn K cdM "Tolls.__mul__" = true) (kM : PySem.W.keepIn K (.ref fM) = true)
    (aO : PySem.W.findIn K (.ref C) "__or__" = some (some (.ref fO))) (iO : PySem.W.isFn K (.ref fO) = true) (lO : K.lookup fO = some ⟨ocO, odO, .func (PySem.W.fnOf "__or__" "Tolls.__or__" (defArgs s_Tolls_or) (defBody s_Tolls_or) (defScope s_Tolls_or) .none kVO dcO pmO anO cdO ctO), slO⟩) (cO : PySem.W.codeIn K cdO "Tolls.__or__" = true) (kO : PySem.W.keepIn K (.ref fO) = true)
    (aS : PySem.W.findCls K (.ref C) (.type "type") "same" = some (.get (.builtin "staticmethod.__get__") (.ref pS) .none (.ref C))) (rS : PySem.W.recIn K pS "staticmethod" = some (.ref fS :: restS)) (iS : PySem.W.isFn K (.ref fS) = true) (lS : K.lookup fS = some ⟨ocS, odS, .func (PySem.W.fnOf "same" "Tolls.same" (defArgs s_Tolls_same) (defBody s_Tolls_same) (defScope s_Tolls_same) .none kVS dcS pmS anS cdS ctS), slS⟩) (cS : PySem.W.codeIn K cdS "Tolls.same" = true) (kS : PySem.W.keepIn K (.ref fS) = true)
    (lTI : K.lookup TI = some ⟨ocD, odD, .seq (List.toArray [Value.ref EI]) nD, slD⟩) (lEI : K.lookup EI = some ⟨.type "tuple", odEm, .seq (List.toArray []) nX, slEm⟩)
    (lDN : K.lookup DN = some ⟨ocN, odN, .seq (List.toArray [Value.bool false]) nN, slN⟩) (cfG : PySem.W.fnIn K fG = true)
    (pg : PySem.W.plainGet K C Str.empty = true) (hd : PySem.W.hasDictIn K C = true) (po : PySem.W.plainOver K C = true) (sa : PySem.W.findIn K (.ref C) "__setattr__" = some (some (.builtin "object.__setattr__"))) (mk : PySem.W.makesIn K C = true) (kc : PySem.W.keepIn K (.ref C) = true)
    (nA : PySem.W.findIn K (.ref C) "names" = some none) (nB : PySem.W.findIn K (.ref C) "_prices" = some none)
    (hcl : PySem.W.findIn K (.ref C) "__class__" = some (some (.builtin "object.__class__"))) (hgt : PySem.W.specialIn K (.builtin "object.__class__") "__get__" = some (some (.builtin "getset_descriptor.__get__")))
    (htk : PySem.W.takesIn K (.builtin "object.__class__") = some true) (hmr : PySem.W.mroIn K C (.type "object") = some true)
    (sf : PySem.W.selfFirst K C = true) (rdC : PySem.W.readsIn K C (.type "type") = true) (gaC : PySem.W.specialIn K (.ref C) "__getattribute__" = some (some (.builtin "type.__getattribute__")))
    (isC : PySem.W.isClsIn K C = true) (tyC : PySem.W.typeIn K (.ref C) = some (.type "type")) (nfN : PySem.W.notFirst K C (.type "NoneType") = true) (nfS : PySem.W.notFirst K C (.type "str") = true) (nfI : PySem.W.notFirst K C (.type "int") = true) (nfB : PySem.W.notFirst K C (.type "bool") = true) (nfL : PySem.W.notFirst K C (.type "list") = true) (nfT : PySem.W.notFirst K C (.type "tuple") = true)
    (aCO : PySem.W.nsIn K mainGlobals "OtherNames" = some (some (.ref CO))) (exCO : PySem.W.excIn K CO [.type "ValueError", .type "Exception", .type "BaseException", .type "object"] "ValueError.__new__" = true) (kcCO : PySem.W.keepIn K (.ref CO) = true) (bxCO : PySem.W.subIn K (.ref CO) (.type "BaseException") = some true) (tyCO : PySem.W.typeIn K (.ref CO) = some (.type "type"))
    (gaCO : PySem.W.findIn K (.ref CO) "__getattribute__" = some (some (.builtin "BaseException.__getattribute__"))) (ggCO : PySem.W.findIn K (.ref CO) "__getattr__" = some none) (hdCO : PySem.W.hasDictIn K CO = true) (ccCO : PySem.W.findIn K (.ref CO) "__class__" = some (some (.builtin "object.__class__")))
    (moCO : PySem.W.mroIn K CO (.type "object") = some true) (isCO : PySem.W.isClsIn K CO = true) (suCO : PySem.W.subIn K (.ref CO) (.ref CO) = some true) (veCO : PySem.W.subIn K (.ref CO) (.type "ValueError") = some true)
    (aN1 : PySem.W.nsIn K mainGlobals "BadCount" = some (some (.ref CN1))) (isN1 : PySem.W.isClsIn K CN1 = true) (tyN1 : PySem.W.typeIn K (.ref CN1) = some (.type "type"))
    (aN2 : PySem.W.nsIn K mainGlobals "BadName" = some (some (.ref CN2))) (isN2 : PySem.W.isClsIn K CN2 = true) (tyN2 : PySem.W.typeIn K (.ref CN2) = some (.type "type"))
    (aN3 : PySem.W.nsIn K mainGlobals "BadNumber" = some (some (.ref CN3))) (isN3 : PySem.W.isClsIn K CN3 = true) (tyN3 : PySem.W.typeIn K (.ref CN3) = some (.type "type"))
    (aN4 : PySem.W.nsIn K mainGlobals "DoubledName" = some (some (.ref CN4))) (isN4 : PySem.W.isClsIn K CN4 = true) (tyN4 : PySem.W.typeIn K (.ref CN4) = some (.type "type"))
    (aN5 : PySem.W.nsIn K mainGlobals "Refused" = some (some (.ref CN5))) (isN5 : PySem.W.isClsIn K CN5 = true) (tyN5 : PySem.W.typeIn K (.ref CN5) = some (.type "type"))
    (aN6 : PySem.W.nsIn K mainGlobals "UnknownName" = some (some (.ref CN6))) (isN6 : PySem.W.isClsIn K CN6 = true) (tyN6 : PySem.W.typeIn K (.ref CN6) = some (.type "type"))
    (aNH : PySem.W.nsIn K mainGlobals "HouseError" = some (some (.ref CNH))) (isNH : PySem.W.isClsIn K CNH = true) (tyNH : PySem.W.typeIn K (.ref CNH) = some (.type "type"))
    (sbO_N1 : PySem.W.subIn K (.ref CO) (.ref CN1) = some false)
    (sbO_N2 : PySem.W.subIn K (.ref CO) (.ref CN2) = some false)
    (sbO_N3 : PySem.W.subIn K (.ref CO) (.ref CN3) = some false)
    (sbO_N4 : PySem.W.subIn K (.ref CO) (.ref CN4) = some false)
    (sbO_N5 : PySem.W.subIn K (.ref CO) (.ref CN5) = some false)
    (sbO_N6 : PySem.W.subIn K (.ref CO) (.ref CN6) = some false)
    (sbO_NH : PySem.W.subIn K (.ref CO) (.ref CNH) = some true) :
    ∃ fd : FuncData, (∀ (s : Shared) (v : Value), BindsTo s fd ⟨[v], []⟩ [("_law_script", v)]) ∧ ∀ base : Heap, K.In base → base.Ns mainGlobals mg → FnOk l.prog w K mg base CX0 8 fa fd ["_law_script"] (spLaw K) := by
  have e := hfa.symm.trans (PySem.W.mg_of X G a33)
  cases e
  have m_len := PySem.W.mg_none_of X G z_len
  have m_all := PySem.W.mg_none_of X G z_all
  have m_enumerate := PySem.W.mg_none_of X G z_enumerate
  have m_tuple := PySem.W.mg_none_of X G z_tuple
  have m_list := PySem.W.mg_none_of X G z_list
  have m_range := PySem.W.mg_none_of X G z_range
  have m_abs := PySem.W.mg_none_of X G z_abs
  have m_int := PySem.W.mg_none_of X G z_int
  have m_min := PySem.W.mg_none_of X G z_min
  have m_isinstance := PySem.W.mg_none_of X G z_isinstance
  have m_bool := PySem.W.mg_none_of X G z_bool
  have m_str := PySem.W.mg_none_of X G z_str
  have m_ValueError := PySem.W.mg_none_of X G z_ValueError
  have F0 := fun_mk (st := s_wall) l0 c0 k0
  have b0 := F0.binds (ps := ["k"]) fun _ _ _ _ _ _ us hl => match us, hl with | [_], _ => rfl
  have g0 := PySem.W.mg_of X G a0
  have F1 := fun_mk (st := s_is_name) l1 c1 k1
  have b1 := F1.binds (ps := ["word"]) fun _ _ _ _ _ _ us hl => match us, hl with | [_], _ => rfl
  have g1 := PySem.W.mg_of X G a1
  have F2 := fun_mk (st := s_check_size) l2 c2 k2
  have b2 := F2.binds (ps := ["size", "low", "high"]) fun _ _ _ _ _ _ us hl => match us, hl with | [_, _, _], _ => rfl
  have g2 := PySem.W.mg_of X G a2
  have F3 : FunD K "check_names" "check_names" (defArgs s_check_names) (defBody s_check_names) (defScope s_check_names) [V.bl false] [] f3 _ := ⟨⟨oc3, od3, .ref DN, kV3, dc3, pm3, an3, cd3, ct3, sl3, rfl, l3, c3, .inr ⟨by simp, DN, _, [Value.bool false], nN, rfl, lDN, rfl, .cons rfl .nil⟩, .inl rfl⟩, k3⟩
  have g3 := PySem.W.mg_of X G a3
  have F4 := fun_mk (st := s_check_known) l4 c4 k4
  have b4 := F4.binds (ps := ["names", "known"]) fun _ _ _ _ _ _ us hl => match us, hl with | [_, _], _ => rfl
  have g4 := PySem.W.mg_of X G a4
  have F5 := fun_mk (st := s_plus) l5 c5 k5
  have b5 := F5.binds (ps := ["price", "other"]) fun _ _ _ _ _ _ us hl => match us, hl with | [_, _], _ => rfl
  have g5 := PySem.W.mg_of X G a5
  have F6 := fun_mk (st := s_least) l6 c6 k6
  have b6 := F6.binds (ps := ["prices"]) fun _ _ _ _ _ _ us hl => match us, hl with | [_], _ => rfl
  have g6 := PySem.W.mg_of X G a6
  have F7 := fun_mk (st := s_check_entries) l7 c7 k7
  have b7 := F7.binds (ps := ["names", "entries"]) fun _ _ _ _ _ _ us hl => match us, hl with | [_, _], _ => rfl
  have g7 := PySem.W.mg_of X G a7
  have F8 := fun_mk (st := s_least_tolls) l8 c8 k8
  have b8 := F8.binds (ps := ["entries"]) fun _ _ _ _ _ _ us hl => match us, hl with | [_], _ => rfl
  have g8 := PySem.W.mg_of X G a8
  have F9 := fun_mk (st := s_L_cell) l9 c9 k9
  have b9 := F9.binds (ps := ["_law_script", "_law_k"]) fun _ _ _ _ _ _ us hl => match us, hl with | [_, _], _ => rfl
  have g9 := PySem.W.mg_of X G a9
  have F10 := fun_mk (st := s_L_mixed) l10 c10 k10
  have b10 := F10.binds (ps := ["_law_cell_here", "_law_k"]) fun _ _ _ _ _ _ us hl => match us, hl with | [_, _], _ => rfl
  have g10 := PySem.W.mg_of X G a10
  have F11 := fun_mk (st := s_L_pool) l11 c11 k11
  have b11 := F11.binds (ps := ["_law_cell_here", "_law_number"]) fun _ _ _ _ _ _ us hl => match us, hl with | [_, _], _ => rfl
  have g11 := PySem.W.mg_of X G a11
  have F12 := fun_mk (st := s_L_part) l12 c12 k12
  have b12 := F12.binds (ps := ["_law_pool_here", "_law_spot", "_law_under", "_law_size"]) fun _ _ _ _ _ _ us hl => match us, hl with | [_, _, _, _], _ => rfl
  have g12 := PySem.W.mg_of X G a12
  have F13 := fun_mk (st := s_L_names) l13 c13 k13
  have b13 := F13.binds (ps := ["_law_pool_here", "_law_spot", "_law_number"]) fun _ _ _ _ _ _ us hl => match us, hl with | [_, _, _], _ => rfl
  have g13 := PySem.W.mg_of X G a13
  have F14 := fun_mk (st := s_L_strange) l14 c14 k14
  have b14 := F14.binds (ps := ["_law_words_here"]) fun _ _ _ _ _ _ us hl => match us, hl with | [_], _ => rfl
  have g14 := PySem.W.mg_of X G a14
  have F15 := fun_mk (st := s_L_words) l15 c15 k15
  have b15 := F15.binds (ps := ["_law_cell_here", "_law_number"]) fun _ _ _ _ _ _ us hl => match us, hl with | [_, _], _ => rfl
  have g15 := PySem.W.mg_of X G a15
  have F16 := fun_mk (st := s_L_spots) l16 c16 k16
  have b16 := F16.binds (ps := ["_law_cell_here", "_law_number", "_law_place"]) fun _ _ _ _ _ _ us hl => match us, hl with | [_, _, _], _ => rfl
  have g16 := PySem.W.mg_of X G a16
  have F17 := fun_mk (st := s_L_tolls) l17 c17 k17
  have b17 := F17.binds (ps := ["_law_pool_here", "_law_spot", "_law_words_here", "_law_number"]) fun _ _ _ _ _ _ us hl => match us, hl with | [_, _, _, _], _ => rfl
  have g17 := PySem.W.mg_of X G a17
  have F18 := fun_mk (st := s_L_loads) l18 c18 k18
  have b18 := F18.binds (ps := ["_law_cell_here", "_law_words_here"]) fun _ _ _ _ _ _ us hl => match us, hl with | [_, _], _ => rfl
  have g18 := PySem.W.mg_of X G a18
  have F19 := fun_mk (st := s_L_integer) l19 c19 k19
  have b19 := F19.binds (ps := ["_law_got"]) fun _ _ _ _ _ _ us hl => match us, hl with | [_], _ => rfl
  have g19 := PySem.W.mg_of X G a19
  have F20 := fun_mk (st := s_L_same) l20 c20 k20
  have b20 := F20.binds (ps := ["_law_got", "_law_wanted"]) fun _ _ _ _ _ _ us hl => match us, hl with | [_, _], _ => rfl
  have g20 := PySem.W.mg_of X G a20
  have F21 := fun_mk (st := s_L_less) l21 c21 k21
  have b21 := F21.binds (ps := ["_law_one", "_law_two"]) fun _ _ _ _ _ _ us hl => match us, hl with | [_, _], _ => rfl
  have g21 := PySem.W.mg_of X G a21
  have F22 := fun_mk (st := s_L_least) l22 c22 k22
  have b22 := F22.binds (ps := ["_law_prices"]) fun _ _ _ _ _ _ us hl => match us, hl with | [_], _ => rfl
  have g22 := PySem.W.mg_of X G a22
  have F23 := fun_mk (st := s_L_least_of) l23 c23 k23
  have b23 := F23.binds (ps := ["_law_loads_here", "_law_one", "_law_two"]) fun _ _ _ _ _ _ us hl => match us, hl with | [_, _, _], _ => rfl
  have g23 := PySem.W.mg_of X G a23
  have F24 := fun_mk (st := s_L_rows) l24 c24 k24
  have b24 := F24.binds (ps := ["_law_words_here", "_law_loads_here"]) fun _ _ _ _ _ _ us hl => match us, hl with | [_, _], _ => rfl
  have g24 := PySem.W.mg_of X G a24
  have F25 := fun_mk (st := s_L_listed) l25 c25 k25
  have b25 := F25.binds (ps := ["_law_words_here", "_law_rows_here"]) fun _ _ _ _ _ _ us hl => match us, hl with | [_, _], _ => rfl
  have g25 := PySem.W.mg_of X G a25
  have F26 := fun_mk (st := s_L_keeps) l26 c26 k26
  have b26 := F26.binds (ps := ["_law_table", "_law_words_here", "_law_rows_here"]) fun _ _ _ _ _ _ us hl => match us, hl with | [_, _, _], _ => rfl
  have g26 := PySem.W.mg_of X G a26
  have F27 := fun_mk (st := s_L_diagonal) l27 c27 k27
  have b27 := F27.binds (ps := ["_law_size"]) fun _ _ _ _ _ _ us hl => match us, hl with | [_], _ => rfl
  have g27 := PySem.W.mg_of X G a27
  have F28 := fun_mk (st := s_L_lesser) l28 c28 k28
  have b28 := F28.binds (ps := ["_law_a", "_law_b"]) fun _ _ _ _ _ _ us hl => match us, hl with | [_, _], _ => rfl
  have g28 := PySem.W.mg_of X G a28
  have F29 := fun_mk (st := s_L_changed) l29 c29 k29
  have b29 := F29.binds (ps := ["_law_words_here", "_law_rows_here", "_law_number"]) fun _ _ _ _ _ _ us hl => match us, hl with | [_, _, _], _ => rfl
  have g29 := PySem.W.mg_of X G a29
  have F30 := fun_mk (st := s_L_refused) l30 c30 k30
  have b30 := F30.binds (ps := ["_law_t", "_law_u", "_law_way"]) fun _ _ _ _ _ _ us hl => match us, hl with | [_, _, _], _ => rfl
  have g30 := PySem.W.mg_of X G a30
  have F31 := fun_mk (st := s_L_foreign) l31 c31 k31
  have b31 := F31.binds (ps := ["_law_words_here", "_law_loads_here"]) fun _ _ _ _ _ _ us hl => match us, hl with | [_, _], _ => rfl
  have g31 := PySem.W.mg_of X G a31
  have F32 := fun_mk (st := s_L_unequal) l32 c32 k32
  have b32 := F32.binds (ps := ["_law_t", "_law_words_here", "_law_loads_here", "_law_rows_here", "_law_number"]) fun _ _ _ _ _ _ us hl => match us, hl with | [_, _, _, _, _], _ => rfl
  have g32 := PySem.W.mg_of X G a32
  have F33 := fun_mk (st := s_law) l33 c33 k33
  have b33 := F33.binds (ps := ["_law_script"]) fun _ _ _ _ _ _ us hl => match us, hl with | [_], _ => rfl
  have g33 := PySem.W.mg_of X G a33
  have gLET := PySem.W.mg_of X G aL
  refine ⟨PySem.W.fnOf "law" "law" (defArgs s_law) (defBody s_law) (defScope s_law) .none kV33 dc33 pm33 an33 cd33 ct33, fun s v => .of_eq rfl, fun base _ _ => ?_⟩
  have TL : TxtT K C := ⟨⟨pg, hd, po, sa⟩, nA, nB⟩
  have FI : FunD K "__init__" "Tolls.__init__" (defArgs s_Tolls_init) (defBody s_Tolls_init) (defScope s_Tolls_init) [V.ref EI] [] fI _ := ⟨⟨ocI, odI, .ref TI, kVI, dcI, pmI, anI, cdI, ctI, slI, rfl, lI, cI, .inr ⟨by simp, TI, _, [Value.ref EI], nD, rfl, lTI, rfl, .cons rfl .nil⟩, .inl rfl⟩, kI⟩
  obtain ⟨dsI, vdI, bI⟩ := FI.binds1 (ps := ["self", "names", "entries"]) 3 1 (by simp) rfl fun _ _ _ _ _ _ _ us its h1 h2 => match us, h1, its, h2 with | [_, _, _], _, [_], _ => ⟨_, rfl, rfl⟩
  cases (show Vals [] dsI from vdI)
  have M : Mk K C fI := ⟨mk, aI, iI, kc⟩
  have CR : ClX.CRead K C (.type "type") := ⟨rdC, gaC⟩
  have SM : SMet K C (.type "type") "same" pS fS := ⟨aS, _, rS⟩
  have FG := fun_mk (st := s_Tolls_getitem) lG cG kG
  have bG := FG.binds (ps := ["self", "at"]) fun _ _ _ _ _ _ us hl => match us, hl with | [_, _], _ => rfl
  have FE := fun_mk (st := s_Tolls_entries) lE cE kE
  have bE := FE.binds (ps := ["self"]) fun _ _ _ _ _ _ us hl => match us, hl with | [_], _ => rfl
  have FQ := fun_mk (st := s_Tolls_eq) lQ cQ kQ
  have bQ := FQ.binds (ps := ["self", "other"]) fun _ _ _ _ _ _ us hl => match us, hl with | [_, _], _ => rfl
  have FM := fun_mk (st := s_Tolls_mul) lM cM kM
  have bM := FM.binds (ps := ["self", "other"]) fun _ _ _ _ _ _ us hl => match us, hl with | [_, _], _ => rfl
  have FO := fun_mk (st := s_Tolls_or) lO cO kO
  have bO := FO.binds (ps := ["self", "other"]) fun _ _ _ _ _ _ us hl => match us, hl with | [_, _], _ => rfl
  have FS := fun_mk (st := s_Tolls_same) lS cS kS
  have bS := FS.binds (ps := ["names"]) fun _ _ _ _ _ _ us hl => match us, hl with | [_], _ => rfl
  have Og : Own K C "__getitem__" fG := ⟨aG, iG⟩
  have Oq : Own K C "__eq__" fQ := ⟨aQ, iQ⟩
  have Om : Own K C "__mul__" fM := ⟨aM, iM⟩
  have Oo : Own K C "__or__" fO := ⟨aO, iO⟩
  have Me : Meth K C "entries" fE := ⟨aE, iE, kE⟩
  have kbS := fun_kb (ps := ["names"]) FS 0 ["names"] fun _ _ _ _ _ _ us ws h1 h2 => match us, h1, ws, h2 with | [], _, [_], _ => rfl
  have OT : OddT K C := ⟨nfN, nfS, nfI, nfB, nfL, nfT, kit_off isC tyC nfN, kit_off isC tyC nfS, kit_off isC tyC nfI, kit_off isC tyC nfB, kit_off isC tyC nfL, kit_off isC tyC nfT⟩
  have KO : ClsK K CO := ⟨isCO, tyCO⟩
  have EO : OthT K mg CO := ⟨exCO, PySem.W.mg_of X G aCO, kcCO, bxCO, tyCO, exm_self KO bxCO suCO⟩
  have EC : ExcC K CO := ⟨gaCO, ggCO, bxCO, hdCO, ccCO, hgt, htk, moCO⟩
  have KN1 : ClsK K CN1 := ⟨isN1, tyN1⟩
  have KN2 : ClsK K CN2 := ⟨isN2, tyN2⟩
  have KN3 : ClsK K CN3 := ⟨isN3, tyN3⟩
  have KN4 : ClsK K CN4 := ⟨isN4, tyN4⟩
  have KN5 : ClsK K CN5 := ⟨isN5, tyN5⟩
  have KN6 : ClsK K CN6 := ⟨isN6, tyN6⟩
  have KNH : ClsK K CNH := ⟨isNH, tyNH⟩
  have ET : ErrT K mg CO CN1 CN2 CN3 CN4 CN5 CN6 CNH := ⟨PySem.W.mg_of X G aN1, PySem.W.mg_of X G aN2, PySem.W.mg_of X G aN3, PySem.W.mg_of X G aN4, PySem.W.mg_of X G aN5, PySem.W.mg_of X G aN6, PySem.W.mg_of X G aNH, (kitAny_c (kit_no KN1 suCO sbO_N1) (kitAny_c (kit_no KN2 suCO sbO_N2) (kitAny_c (kit_no KN3 suCO sbO_N3) (kitAny_c (kit_no KN4 suCO sbO_N4) (kitAny_c (kit_no KN5 suCO sbO_N5) (kitAny_c (kit_no KN6 suCO sbO_N6) rfl)))))), kit_yes KNH sbO_NH, kitT_yes kitMeta_VE veCO⟩

  have d_is_name : Def l.prog w K mg base "is_name" 1 ["word"] spIsNameH := ⟨_, _, ok_is_nameH F1 m_len m_all gLET, g1, k1, b1⟩
  have d_check_size : Def l.prog w K mg base "check_size" 1 ["size", "low", "high"] (spRange) := ⟨_, _, ok_check_size F2 , g2, k2, b2⟩
  obtain ⟨dsN, vdN, bdN⟩ := F3.binds1 (ps := ["names", "most", "hook"]) 3 1 (by simp) rfl fun _ _ _ _ _ _ _ us its h1 h2 => match us, h1, its, h2 with | [_, _, _], _, [_], _ => ⟨_, rfl, rfl⟩
  have d_check_names : DefD l.prog w K mg base "check_names" 2 ["names", "most", "hook"] (spCheckH K) [] := ⟨_, _, dsN, ok_check_namesH F3 m_len m_enumerate d_check_size d_is_name, g3, k3, bdN, vdN⟩
  have d_check_known : Def l.prog w K mg base "check_known" 1 ["names", "known"] (spKnown K) := ⟨_, _, ok_check_known F4 , g4, k4, b4⟩


  have d_check_entries : Def l.prog w K mg base "_check_entries" 2 ["names", "entries"] (spCheckE K) := ⟨_, _, ok_check_entries F7 d_check_known, g7, k7, b7⟩
  have d_least_tolls : Def l.prog w K mg base "_least_tolls" 1 ["entries"] (spLeastT K) := ⟨_, _, ok_least_tolls F8 , g8, k8, b8⟩
  have d_L_cell : Def l.prog w K mg base "_law_cell" 1 ["_law_script", "_law_k"] (spCellA K) := ⟨_, _, ok_L_cell F9 m_len m_range m_abs, g9, k9, b9⟩
  have d_L_mixed : Def l.prog w K mg base "_law_mixed" 1 ["_law_cell_here", "_law_k"] (spMixed) := ⟨_, _, ok_L_mixed F10 m_abs, g10, k10, b10⟩
  have d_L_pool : Def l.prog w K mg base "_law_pool" 2 ["_law_cell_here", "_law_number"] (spPool) := ⟨_, _, ok_L_pool F11 m_range m_abs d_L_mixed, g11, k11, b11⟩
  have d_L_part : Def l.prog w K mg base "_law_part" 1 ["_law_pool_here", "_law_spot", "_law_under", "_law_size"] (spPart K) := ⟨_, _, ok_L_part F12 m_int, g12, k12, b12⟩
  have d_L_names : Def l.prog w K mg base "_law_names" 2 ["_law_pool_here", "_law_spot", "_law_number"] (spNames K) := ⟨_, _, ok_L_names F13 m_range m_int d_L_part, g13, k13, b13⟩
  have d_L_strange : Def l.prog w K mg base "_law_strange" 1 ["_law_words_here"] (spStrange K) := ⟨_, _, ok_L_strange F14 , g14, k14, b14⟩
  have d_L_words : Def l.prog w K mg base "_law_words" 3 ["_law_cell_here", "_law_number"] (spWords) := ⟨_, _, ok_L_words F15 m_range m_abs d_L_names d_L_pool d_L_strange, g15, k15, b15⟩
  have d_L_spots : Def l.prog w K mg base "_law_spots" 4 ["_law_cell_here", "_law_number", "_law_place"] (spSpots) := ⟨_, _, ok_L_spots F16 d_L_words, g16, k16, b16⟩
  have d_L_tolls : Def l.prog w K mg base "_law_tolls" 2 ["_law_pool_here", "_law_spot", "_law_words_here", "_law_number"] (spTollsL K) := ⟨_, _, ok_L_tolls F17 m_len m_range d_L_part, g17, k17, b17⟩
  have d_L_loads : Def l.prog w K mg base "_law_loads" 1 ["_law_cell_here", "_law_words_here"] (spLoads K) := ⟨_, _, ok_L_loads F18 m_len m_range m_abs, g18, k18, b18⟩
  have d_L_integer : Def l.prog w K mg base "_law_integer" 1 ["_law_got"] (spInteger) := ⟨_, _, ok_L_integer F19 m_isinstance m_int m_bool, g19, k19, b19⟩
  have d_L_same : Def l.prog w K mg base "_law_same" 4 ["_law_got", "_law_wanted"] (spSame 2) := ⟨_, _, ok_L_same F20 g20 b20 ⟨m_isinstance, m_int, m_bool, m_str, m_tuple, m_list, m_len, m_range⟩ d_L_integer 2 (by decide), g20, k20, b20⟩
  have d_L_less : Def l.prog w K mg base "_law_less" 1 ["_law_one", "_law_two"] (spLessB) := ⟨_, _, ok_L_less F21 , g21, k21, b21⟩
  have d_L_least : Def l.prog w K mg base "_law_least" 2 ["_law_prices"] (spLeastLL K) := ⟨_, _, ok_L_least F22 d_L_less, g22, k22, b22⟩
  have d_L_least_of : Def l.prog w K mg base "_law_least_of" 1 ["_law_loads_here", "_law_one", "_law_two"] (spLeastOf K) := ⟨_, _, ok_L_least_of F23 m_min, g23, k23, b23⟩
  have d_L_rows : Def l.prog w K mg base "_law_rows" 2 ["_law_words_here", "_law_loads_here"] (spRows K) := ⟨_, _, ok_L_rows F24 d_L_least_of, g24, k24, b24⟩
  have d_L_listed : Def l.prog w K mg base "_law_listed" 1 ["_law_words_here", "_law_rows_here"] (spListed K) := ⟨_, _, ok_L_listed F25 m_len m_range, g25, k25, b25⟩
  have G_getitem := ok_Tolls_getitem (P := l.prog) (w := w) (mg := mg) (base := base) FG TL d_check_known
  have G_entries := ok_Tolls_entries (P := l.prog) (w := w) (mg := mg) (base := base) FE TL
  have G_eq := ok_Tolls_eqB (P := l.prog) (w := w) (mg := mg) (base := base) FQ TL m_isinstance (PySem.W.mg_of X G aC) hcl hgt htk hmr
  have G_Tolls := ok_Tolls (P := l.prog) (w := w) (mg := mg) (base := base) FI TL m_tuple d_check_names d_check_entries d_least_tolls
  have G_same := ok_Tolls_same (P := l.prog) (w := w) (mg := mg) (base := base) FS M G_Tolls (PySem.W.mg_of X G aC) bI
  have G_or := ok_Tolls_orX (P := l.prog) (w := w) (mg := mg) (base := base) FO TL EO M G_Tolls (PySem.W.mg_of X G aC) bI Me G_entries bE
  have G_mul := ok_Tolls_mulN (P := l.prog) (w := w) (mg := mg) (base := base) FM TL EO M G_Tolls (PySem.W.mg_of X G aC) bI Me G_entries bE
  have d_L_keeps : Def l.prog w K mg base "_law_keeps" 5 ["_law_table", "_law_words_here", "_law_rows_here"] (spKeeps K C) := ⟨_, _, ok_L_keeps F26 TL m_tuple m_len m_range d_L_same d_L_listed Og cfG G_getitem bG Me G_entries bE, g26, k26, b26⟩
  have d_L_diagonal : Def l.prog w K mg base "_law_diagonal" 1 ["_law_size"] (spDiag) := ⟨_, _, ok_L_diagonal F27 m_range m_int, g27, k27, b27⟩
  have d_L_lesser : Def l.prog w K mg base "_law_lesser" 3 ["_law_a", "_law_b"] (spLesser) := ⟨_, _, ok_L_lesser F28 m_len m_range d_L_least, g28, k28, b28⟩
  have d_L_changed : Def l.prog w K mg base "_law_changed" 2 ["_law_words_here", "_law_rows_here", "_law_number"] (spChanged K) := ⟨_, _, ok_L_changed F29 m_len m_int d_L_listed, g29, k29, b29⟩
  have d_L_refused : Def l.prog w K mg base "_law_refused" 6 ["_law_t", "_law_u", "_law_way"] (spRefused K C) := ⟨_, _, ok_L_refused F30 EO EC ET m_isinstance m_ValueError sf Oo G_or bO Om G_mul bM d_L_same, g30, k30, b30⟩
  have d_L_foreign : Def l.prog w K mg base "_law_foreign" 5 ["_law_words_here", "_law_loads_here"] (spForeign K C) := ⟨_, _, ok_L_foreign F31 TL m_list m_len m_int M G_Tolls (PySem.W.mg_of X G aC) bI d_L_strange, g31, k31, b31⟩
  have d_L_unequal : Def l.prog w K mg base "_law_unequal" 7 ["_law_t", "_law_words_here", "_law_loads_here", "_law_rows_here", "_law_number"] (spUneq K C) := ⟨_, _, ok_L_unequal F32 TL OT m_list m_tuple m_range M G_Tolls (PySem.W.mg_of X G aC) bI Oq G_eq bQ d_L_changed d_L_foreign d_L_refused, g32, k32, b32⟩
  exact ok_law F33 TL m_list m_tuple m_range m_len M G_Tolls (PySem.W.mg_of X G aC) bI CR SM kS G_same bS kbS sf Oo G_or bO Oq G_eq bQ d_L_cell d_L_pool d_L_part d_L_spots d_L_tolls d_L_loads d_L_rows d_L_keeps d_L_same d_L_lesser d_L_diagonal d_L_unequal
end TK

open PySem PySem.W PyProof.Rows
set_option maxRecDepth 100000 in
set_option maxHeartbeats 0 in
theorem PySem.Challenge.cw_turnsandkeys_k01_tolls_joined_holds : PySem.Challenge.rw_turnsandkeys_k01_tolls_joined.Holds := by
  w_on; o_law; k_head; (case hw => w_witness2)
  k_fill
  refine L2.walk_of (l := PySem.Challenge.rw_turnsandkeys_k01_tolls_joined) (n := 63) (k := 8) (x := "_law_script") (CX := fun _ => L2.CX0) (sp := fun w => TK.spLaw _) rfl (by decide) rfl ⟨rfl, by decide, by decide⟩ (fun w h Y => PySem.W.kIn_of Y) ?F (fun _ _ a ns hl _ hS => ⟨a, ns, rfl, hS, hl, fun _ => rfl⟩) (fun _ _ _ _ _ h => h)
  case F =>
    intro w mg fa h KX G hmg
    refine' TK.all_mk KX G hmg ?a0 ?l0 ?c0 ?k0 ?a1 ?l1 ?c1 ?k1 ?a2 ?l2 ?c2 ?k2 ?a3 ?l3 ?c3 ?k3 ?a4 ?l4 ?c4 ?k4 ?a5 ?l5 ?c5 ?k5 ?a6 ?l6 ?c6 ?k6 ?a7 ?l7 ?c7 ?k7 ?a8 ?l8 ?c8 ?k8 ?a9 ?l9 ?c9 ?k9 ?a10 ?l10 ?c10 ?k10 ?a11 ?l11 ?c11 ?k11 ?a12 ?l12 ?c12 ?k12 ?a13 ?l13 ?c13 ?k13 ?a14 ?l14 ?c14 ?k14 ?a15 ?l15 ?c15 ?k15 ?a16 ?l16 ?c16 ?k16 ?a17 ?l17 ?c17 ?k17 ?a18 ?l18 ?c18 ?k18 ?a19 ?l19 ?c19 ?k19 ?a20 ?l20 ?c20 ?k20 ?a21 ?l21 ?c21 ?k21 ?a22 ?l22 ?c22 ?k22 ?a23 ?l23 ?c23 ?k23 ?a24 ?l24 ?c24 ?k24 ?a25 ?l25 ?c25 ?k25 ?a26 ?l26 ?c26 ?k26 ?a27 ?l27 ?c27 ?k27 ?a28 ?l28 ?c28 ?k28 ?a29 ?l29 ?c29 ?k29 ?a30 ?l30 ?c30 ?k30 ?a31 ?l31 ?c31 ?k31 ?a32 ?l32 ?c32 ?k32 ?a33 ?l33 ?c33 ?k33 ?aL ?z_len ?z_all ?z_enumerate ?z_tuple ?z_list ?z_range ?z_abs ?z_int ?z_min ?z_isinstance ?z_bool ?z_str ?z_ValueError ?aC ?aI ?iI ?lI ?cI ?kI ?aG ?iG ?lG ?cG ?kG ?aE ?iE ?lE ?cE ?kE ?aQ ?iQ ?lQ ?cQ ?kQ ?aM ?iM ?lM ?cM ?kM ?aO ?iO ?lO ?cO ?kO ?aS ?rS ?iS ?lS ?cS ?kS ?isC ?tyC ?nfN ?nfS ?nfI ?nfB ?nfL ?nfT ?lTI ?lEI ?lDN ?cfG ?pg ?hd ?po ?sa ?mk ?kc ?nA ?nB ?hcl ?hgt ?htk ?hmr ?sf ?rdC ?gaC ?aCO ?exCO ?kcCO ?bxCO ?tyCO ?gaCO ?ggCO ?hdCO ?ccCO ?moCO ?isCO ?suCO ?veCO ?aN1 ?isN1 ?tyN1 ?aN2 ?isN2 ?tyN2 ?aN3 ?isN3 ?tyN3 ?aN4 ?isN4 ?tyN4 ?aN5 ?isN5 ?tyN5 ?aN6 ?isN6 ?tyN6 ?aNH ?isNH ?tyNH ?sbO_N1 ?sbO_N2 ?sbO_N3 ?sbO_N4 ?sbO_N5 ?sbO_N6 ?sbO_NH
    (case a0 => k_is); (case l0 => k_is); (case c0 => k_is); (case k0 => k_is); (case a1 => k_is); (case l1 => k_is); (case c1 => k_is); (case k1 => k_is); (case a2 => k_is); (case l2 => k_is); (case c2 => k_is); (case k2 => k_is); (case a3 => k_is); (case l3 => k_is); (case c3 => k_is); (case k3 => k_is); (case a4 => k_is); (case l4 => k_is); (case c4 => k_is); (case k4 => k_is); (case a5 => k_is); (case l5 => k_is); (case c5 => k_is); (case k5 => k_is); (case a6 => k_is); (case l6 => k_is); (case c6 => k_is); (case k6 => k_is); (case a7 => k_is); (case l7 => k_is); (case c7 => k_is); (case k7 => k_is); (case a8 => k_is); (case l8 => k_is); (case c8 => k_is); (case k8 => k_is); (case a9 => k_is); (case l9 => k_is); (case c9 => k_is); (case k9 => k_is); (case a10 => k_is); (case l10 => k_is); (case c10 => k_is); (case k10 => k_is); (case a11 => k_is); (case l11 => k_is); (case c11 => k_is); (case k11 => k_is); (case a12 => k_is); (case l12 => k_is); (case c12 => k_is); (case k12 => k_is); (case a13 => k_is); (case l13 => k_is); (case c13 => k_is); (case k13 => k_is); (case a14 => k_is); (case l14 => k_is); (case c14 => k_is); (case k14 => k_is); (case a15 => k_is); (case l15 => k_is); (case c15 => k_is); (case k15 => k_is); (case a16 => k_is); (case l16 => k_is); (case c16 => k_is); (case k16 => k_is); (case a17 => k_is); (case l17 => k_is); (case c17 => k_is); (case k17 => k_is); (case a18 => k_is); (case l18 => k_is); (case c18 => k_is); (case k18 => k_is); (case a19 => k_is); (case l19 => k_is); (case c19 => k_is); (case k19 => k_is); (case a20 => k_is); (case l20 => k_is); (case c20 => k_is); (case k20 => k_is); (case a21 => k_is); (case l21 => k_is); (case c21 => k_is); (case k21 => k_is); (case a22 => k_is); (case l22 => k_is); (case c22 => k_is); (case k22 => k_is); (case a23 => k_is); (case l23 => k_is); (case c23 => k_is); (case k23 => k_is); (case a24 => k_is); (case l24 => k_is); (case c24 => k_is); (case k24 => k_is); (case a25 => k_is); (case l25 => k_is); (case c25 => k_is); (case k25 => k_is); (case a26 => k_is); (case l26 => k_is); (case c26 => k_is); (case k26 => k_is); (case a27 => k_is); (case l27 => k_is); (case c27 => k_is); (case k27 => k_is); (case a28 => k_is); (case l28 => k_is); (case c28 => k_is); (case k28 => k_is); (case a29 => k_is); (case l29 => k_is); (case c29 => k_is); (case k29 => k_is); (case a30 => k_is); (case l30 => k_is); (case c30 => k_is); (case k30 => k_is); (case a31 => k_is); (case l31 => k_is); (case c31 => k_is); (case k31 => k_is); (case a32 => k_is); (case l32 => k_is); (case c32 => k_is); (case k32 => k_is); (case a33 => k_is); (case l33 => k_is); (case c33 => k_is); (case k33 => k_is); (case aL => k_is); (case z_len => k_is); (case z_all => k_is); (case z_enumerate => k_is); (case z_tuple => k_is); (case z_list => k_is); (case z_range => k_is); (case z_abs => k_is); (case z_int => k_is); (case z_min => k_is); (case z_isinstance => k_is); (case z_bool => k_is); (case z_str => k_is); (case z_ValueError => k_is); (case aC => k_is); (case aI => k_is); (case iI => k_is); (case lI => k_is); (case cI => k_is); (case kI => k_is); (case aG => k_is); (case iG => k_is); (case lG => k_is); (case cG => k_is); (case kG => k_is); (case aE => k_is); (case iE => k_is); (case lE => k_is); (case cE => k_is); (case kE => k_is); (case aQ => k_is); (case iQ => k_is); (case lQ => k_is); (case cQ => k_is); (case kQ => k_is); (case aM => k_is); (case iM => k_is); (case lM => k_is); (case cM => k_is); (case kM => k_is); (case aO => k_is); (case iO => k_is); (case lO => k_is); (case cO => k_is); (case kO => k_is); (case aS => k_is); (case rS => k_is); (case iS => k_is); (case lS => k_is); (case cS => k_is); (case kS => k_is); (case isC => k_is); (case tyC => k_is); (case nfN => k_is); (case nfS => k_is); (case nfI => k_is); (case nfB => k_is); (case nfL => k_is); (case nfT => k_is); (case lTI => k_is); (case lEI => k_is); (case lDN => k_is); (case cfG => k_is); (case pg => k_is); (case hd => k_is); (case po => k_is); (case sa => k_is); (case mk => k_is); (case kc => k_is); (case nA => k_is); (case nB => k_is); (case hcl => k_is); (case hgt => k_is); (case htk => k_is); (case hmr => k_is); (case sf => k_is); (case rdC => k_is); (case gaC => k_is); (case aCO => k_is); (case exCO => k_exc); (case kcCO => k_is); (case bxCO => k_is); (case tyCO => k_is); (case gaCO => k_is); (case ggCO => k_is); (case hdCO => k_is); (case ccCO => k_is); (case moCO => k_is); (case isCO => k_is); (case suCO => k_is); (case veCO => k_is); (case aN1 => k_is); (case isN1 => k_is); (case tyN1 => k_is); (case aN2 => k_is); (case isN2 => k_is); (case tyN2 => k_is); (case aN3 => k_is); (case isN3 => k_is); (case tyN3 => k_is); (case aN4 => k_is); (case isN4 => k_is); (case tyN4 => k_is); (case aN5 => k_is); (case isN5 => k_is); (case tyN5 => k_is); (case aN6 => k_is); (case isN6 => k_is); (case tyN6 => k_is); (case aNH => k_is); (case isNH => k_is); (case tyNH => k_is); (case sbO_N1 => k_is); (case sbO_N2 => k_is); (case sbO_N3 => k_is); (case sbO_N4 => k_is); (case sbO_N5 => k_is); (case sbO_N6 => k_is); (case sbO_NH => k_is)
