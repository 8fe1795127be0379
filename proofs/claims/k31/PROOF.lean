import PyProof.Rows.All
import Wide.All
import OpenK.AllK
import Wide.FinOn
import HandS.ForMost
import HandS.Style
import HandS.IsInst
import HandS.Defaults
import HandS.MakeKwOnly
import HandS.SortKw
import HandS.Walk
import KE.KSortKeySt
import KE.GoesEnum
import KE.DatumOrd
import KE.KRevSl
import HandS.Star
import KE.KTupSum
import KE.GoesMore
import KE.GoesZip
import HandS.DictComp
import HandS.RevRange
import HandS.Strs
import PySem.Challenge.RW_turnsandkeys_k31_whole_rents_least
set_option Elab.async false
set_option linter.all false
set_option maxRecDepth 100000
set_option maxHeartbeats 4000000
namespace TK
open PySem PySem.Spec PyProof.Rows L2
/-! ### a def that keeps its promise, as callers see it -/
structure Def (P : Program) (w : World) (K : PySem.W.Frag) (mg : Str → Option Value) (base : Heap) (x : Str) (k : Nat) (ps : List Str) (sp : Sp) : Prop where
  ex : ∃ (f : Addr) (fd : FuncData), FnOk P w K mg base CX0 k f fd ps sp ∧ mg x = some (.ref f) ∧ PySem.W.keepIn K (.ref f) = true ∧ Binds K fd ps []
section
variable {X : Cx} {x : Str} {k : Nat} {ps : List Str} {sp : Sp} {e : Expr} {es : List Expr} {t : TA} {p pos : Pos}
theorem pe_callD (D : Def X.prog X.w X.K X.mg X.base x k ps sp) (hr : Room k X.A) (hg : Gl X x) (ha : PA X (e :: es) t) (hdb : (x == ("__debug__" : Str)) = false := by decide)
    (he : starEach (e :: es) X.env = (false, eval e X.env) :: starEach es X.env := by rfl) (hpl : (backTo pos (starEach es X.env)).any (·.1) = false := by rfl) :
    PE X (.Call (.Name x p) (e :: es) [] pos) (tCall sp [] E0 t) := by
  obtain ⟨f, fd, F, g, kp, b⟩ := D.ex
  exact pe_call F hr hg g kp b .nil pass0 ha hdb he hpl
end
section
variable {X : Cx}
/-- x is True, x is False: x of any kind -/
def rIsT : R2 := fun x y H Q => ∃ b : Bool, y = .bl b ∧ Q (.bl (decide (x = .bl b))) H
theorem op_isT : OpR X (compareOp .Is) rIsT := by
  intro pins s σ H x y v u Q I rx ry h
  obtain ⟨b, rfl, q⟩ := h
  cases (show u = Value.bool b from ry)
  cases x with
  | bl a =>
    cases (show v = Value.bool a from rx)
    by_cases e : a = b
    · subst e
      exact wpAny_is_self rfl ⟨.bl true, H, I, rfl, by simpa using q⟩
    · exact wpAny_is_other rfl (fun z => e (Value.bool.inj z)) ⟨.bl false, H, I, rfl, by simpa [e] using q⟩
  | non => cases (show v = Value.none from rx); exact wpAny_is_other rfl (fun z => nomatch z) ⟨.bl false, H, I, rfl, by simpa using q⟩
  | int i => obtain ⟨t, rfl⟩ := (show ∃ t, v = Value.int i t from rx); exact wpAny_is_other rfl (fun z => nomatch z) ⟨.bl false, H, I, rfl, by simpa using q⟩
  | str i => obtain ⟨t, rfl⟩ := (show ∃ t, v = Value.str i t from rx); exact wpAny_is_other rfl (fun z => nomatch z) ⟨.bl false, H, I, rfl, by simpa using q⟩
  | byt i => obtain ⟨t, rfl⟩ := (show ∃ t, v = Value.bytes i t from rx); exact wpAny_is_other rfl (fun z => nomatch z) ⟨.bl false, H, I, rfl, by simpa using q⟩
  | flt i => obtain ⟨t, rfl⟩ := (show ∃ t, v = Value.float i t from rx); exact wpAny_is_other rfl (fun z => nomatch z) ⟨.bl false, H, I, rfl, by simpa using q⟩
  | ref a => cases (show v = Value.ref a from rx); exact wpAny_is_other rfl (fun z => nomatch z) ⟨.bl false, H, I, rfl, by simpa using q⟩
  | ty n => cases (show v = Value.type n from rx); exact wpAny_is_other rfl (fun z => nomatch z) ⟨.bl false, H, I, rfl, by simpa using q⟩
end
/-! ### rules within a comprehension: K by name -/
section
variable {X : Cx} {K : PySem.W.Frag}
theorem ix_listK (h : X.K = K) : IxR X (rIxL K) := h ▸ ix_list
theorem ix_tupK (h : X.K = K) : IxR X (rIxT K) := h ▸ ix_tup
theorem pg_tupK (h : X.K = K) {elts : List Expr} {kk : Nat} {pos : Pos} {n : Nat} {t : TGs} (hc : X.calm = true) (hp : PGs X elts t) (hn : (assignEach elts X.env).length = n := by rfl) (hst : (assignEach elts X.env).findIdx? (·.1) = none := by rfl) : PG X (.Tuple elts kk pos) (gTup K n t) := h ▸ pg_tup hc hp hn hst
theorem op_in_seqK (h : X.K = K) : OpR X (compareOp .In) (rIn K false) := h ▸ op_in_seq
theorem op_notIn_seqK (h : X.K = K) : OpR X (compareOp .NotIn) (rIn K true) := h ▸ op_notIn_seq
theorem call_len_seqK (h : X.K = K) : CallR X (.builtin "len") (fun xs H Q => ∃ p ys, xs = [.ref p] ∧ (SqL K H p ys ∨ SqT K H p ys) ∧ Q (.int ys.length) H) := h ▸ call_len_seq
end
/-! ### heaps -/
theorem same_upd {H : Hp} {p : Addr} {o : HO} (h : H p = none) : Same H (upd H p o) := fun b x e => by
  rw [upd_ne (ne_of_none e h)]
  exact e
theorem same_at {H H' : Hp} {p : Addr} {o : HO} (s : Same H H') (h : H p = none) : Same H (upd H' p o) := fun b x e => by
  rw [upd_ne (ne_of_none e h)]
  exact s b x e
theorem same_tup {K : PySem.W.Frag} {H H' : Hp} {a : Addr} {xs : List V} (e : Same H H') (h : SqT K H a xs) : SqT K H' a xs := by
  rcases h with (h | ⟨o, h⟩) | h
  · exact .inl (.inl (e _ _ h))
  · exact .inl (.inr ⟨o, e _ _ h⟩)
  · exact .inr h
theorem lstAt {K : PySem.W.Frag} {H : Hp} {a : Addr} {xs : List V} (h : H a = some (.lst xs)) : SqL K H a xs := .inl (.inl h)
theorem tupAt {K : PySem.W.Frag} {H : Hp} {a : Addr} {xs : List V} (h : H a = some (.tup xs)) : SqT K H a xs := .inl (.inl h)
theorem atI_in {α : Type} {xs : List α} {i : Int} {v : α} (h0 : 0 ≤ i) (h : xs[i.toNat]? = some v) : atI xs i = some v := by
  obtain ⟨n, rfl⟩ : ∃ n : Nat, i = (n : Int) := ⟨i.toNat, by omega⟩
  exact atI_nat h
theorem yesT {σ : L2.St} {H : Hp} {A B : Hp → Prop} (h : A H) : tYes σ H (fun b H3 => if b = true then A H3 else B H3) := by
  show if true = true then A H else B H
  rw [if_pos rfl]
  exact h
end TK

namespace TK
open PySem PySem.Spec PyProof.Rows L2
section
variable {X : Cx} {pins : List (Addr × Obj)} {σ : L2.St} {H : Hp} {s : Shared}
/-- an untracked object of ours comes to be tracked -/
theorem adopt {a : Addr} {o : HO} (I : Inv X pins σ H s) (f : FpOk X pins H a) (new : ObjOk X.prog X.w (upd H a o) s.heap a o) : Inv X pins σ (upd H a o) s := by
  obtain ⟨q0, q1, q2, q3, q4, q5⟩ := f
  have ne : ∀ b u, H b = some u → b ≠ a := fun b u e z => by rw [z, q0] at e; cases e
  refine I.step (h' := s.heap) (g' := s.gens) (t' := s.toks) (d' := s.drawn) (ch := [a]) (fun b hb => ?_) (fun b o _ _ _ e _ => e) (fun b o _ _ _ e _ => ⟨o.slots, e⟩) (fun b o hb _ n => ?_) (fun b o _ e => ⟨o, e⟩) (fun b xs e => ?_) (fun b o u e => ?_) (fun b ps e => ⟨#[], ?_⟩) (fun m hm => hm) (fun b u e => ?_) I.bare
  · have e : b = a := by simpa using hb
    subst e
    exact ⟨q3, q1, q4, q5⟩
  · rw [upd_ne (fun z => hb (by simp [z]))]; exact n
  · rw [upd_ne (ne b _ e)]; exact e
  · rw [upd_ne (ne b _ e)]; exact e
  · rw [upd_ne (ne b _ e), e]; simp
  · by_cases hb : b = a
    · subst hb
      rw [upd_same] at e
      cases e
      exact new
    · rw [upd_ne hb] at e
      exact (I.hok b u e).stay (fun c v _ q => q) (fun c q => by rw [upd_ne (ne c _ q)]; exact q) fun c xs q => by rw [upd_ne (ne c _ q)]; exact q
/-- a def called from within a built-in's method -/
theorem run_fn2 {k : Nat} {f : Addr} {fd : FuncData} {ps : List Str} {sp : Sp} {Q : VK} {us : List Value} {itm : List V} {E' : Value → Shared → Prop} (F : FnOk X.prog X.w X.K X.mg X.base CX0 k f fd ps sp) (hr : Room (k + 2) X.A) (hb : Binds X.K fd ps [])
    (I : Inv X pins σ H s) (r : Vals itm us) (h : sp itm H Q E0) : wpAny (model X.prog X.w) X.A.in1.in1 (call (.ref f) us) (EP X pins σ Q) E' s := by
  have hl : (us ++ []).length = ps.length := by rw [List.append_nil, ← r.length]; exact F.len _ _ _ _ h
  have hbb := hb s us I.kIn hl
  rw [List.append_nil] at hbb
  refine wpAny_call (codeAny_mono (F.run X.A.in1.in1 X.stack s H ⟨us, []⟩ us itm Q E0 hr.in1.in1 I.env0.in1.in1 hbb r h) fun r s' hq => ?_)
  cases r with
  | error e => exact False.elim hq
  | ok fl =>
    cases fl with
    | ret u => exact I.after hq
    | next => exact False.elim hq
    | brk => exact False.elim hq
    | cont => exact False.elim hq
end
section
variable {X : Cx} {pins : List (Addr × Obj)} {σ : L2.St} {H : Hp} {s : Shared} {A : Around} {E : Value → Shared → Prop} {a kS : Addr} {itm : List Value} {kl : List Int} {kar : Array Value} {e ep1 : Nat} {P : PySem.Fin → Shared → Prop}
theorem sb_tail {st : SortSt} (I : Inv X pins σ H s) (gk : s.heap.get? kS = some (seqObj "list" kar e)) (ga : s.heap.get? a = some (seqObj "list" #[] ep1)) (fa : FpOk X pins H a) (fk : FpOk X pins H kS) (hka : kS ≠ a)
    (hki : IntsAre kar.toList kl) (hle : kl.length = itm.length) (hsm : itm.length ≤ sizeLine) (hp : (arrOf st).Perm (kar.zip itm.toArray)) (hs : SortedTo (arrOf st) (arrOf st).size) (hfl : failedOf st = none)
    (hst : Stable intKind (arrOf st) (kar.zip itm.toArray))
    (h : ∀ s' out c, Inv X pins σ H s' → s'.heap.get? a = some (seqObj "list" out c) → KskOutSt false kl itm out.toList → P (.done (.ret .none)) s') :
    wpAny (model X.prog X.w) A (ksk_tail a false ep1 (.ref kS) st) P E s := by
  have hsm2 := hsm
  rw [sizeLine_eq] at hsm2
  have zk : kar.size = itm.length := by
    have h1 := hki.length
    rw [Array.length_toList] at h1
    omega
  have za : (arrOf st).size = itm.length := by rw [hp.size_eq, Array.size_zip, zk, List.size_toArray, Nat.min_self]
  have zo : ((arrOf st).map (·.2)).size = itm.length := by rw [Array.size_map]; exact za
  have s1 := Heap.SameBut.update s.heap kS (Obj.mapSeq fun _ => (#[] : Array Value))
  have ga1 : (s.heap.update kS (Obj.mapSeq fun _ => (#[] : Array Value))).get? a = some (seqObj "list" #[] ep1) := (s1.2 a hka.symm).trans ga
  have s2 := Heap.SameBut.update (s.heap.update kS (Obj.mapSeq fun _ => (#[] : Array Value))) a (Obj.mapSeq fun _ => (arrOf st).map (·.2))
  obtain ⟨cn, gcn⟩ : ∃ cn, ((s.heap.update kS (Obj.mapSeq fun _ => (#[] : Array Value))).update a (Obj.mapSeq fun _ => (arrOf st).map (·.2))).get? a = some (seqObj "list" ((arrOf st).map (·.2)) cn) :=
    ⟨_, get?_update_seq ga1 fun _ => (arrOf st).map (·.2)⟩
  obtain ⟨k0, k1, k2, k3, k4, k5⟩ := fk
  obtain ⟨a0, a1, a2, a3, a4, a5⟩ := fa
  have I1 : Inv X pins σ H { s with heap := s.heap.update kS (Obj.mapSeq fun _ => (#[] : Array Value)) } := I.turned (t' := s.toks) (fun b o hb q => (s1.2 b hb).trans q) k0 k1 k3 k4 k5
  unfold ksk_tail
  try dsimp only
  refine wpAny_bind (listUpdate_at gk rfl ?_ (by rw [zk, sizeLine_eq]; omega) (Nat.zero_le _))
  refine wpAny_bind (wpAny_letGo ?_)
  refine wpAny_bind (seqEpoch_at ga1 rfl ?_)
  refine wpAny_bind (listUpdate_at ga1 rfl ?_ (Nat.zero_le _) (Nat.le_trans (Nat.le_of_eq zo) (by rw [sizeLine_eq]; omega)))
  rw [hfl]
  simp only [bne_self_eq_false, Bool.false_eq_true, if_false]
  refine wpAny_pure (h _ _ cn (I1.turned (t' := s.toks) (fun b o hb q => (s2.2 b hb).trans q) a0 a1 a3 a4 a5) gcn ?_)
  exact ksk_outSt (b := false) hki hp hs (by simpa using hst)
theorem sb_end (I : Inv X pins σ H s) (gk : s.heap.get? kS = some (seqObj "list" kar e)) (ga : s.heap.get? a = some (seqObj "list" #[] ep1)) (fa : FpOk X pins H a) (fk : FpOk X pins H kS) (hka : kS ≠ a)
    (hki : IntsAre kar.toList kl) (hle : kl.length = itm.length) (hsm : itm.length ≤ sizeLine)
    (h : ∀ s' out c, Inv X pins σ H s' → s'.heap.get? a = some (seqObj "list" out c) → KskOutSt false kl itm out.toList → P (.done (.ret .none)) s') :
    wpAny (model X.prog X.w) A (ksk_end a false itm.toArray ep1 (.ref kS) kar) P E s := by
  have hsm2 := hsm
  rw [sizeLine_eq] at hsm2
  have zk : kar.size = itm.length := by
    have h1 := hki.length
    rw [Array.length_toList] at h1
    omega
  have zz : (kar.zip itm.toArray).size = itm.length := by rw [Array.size_zip, zk, List.size_toArray, Nat.min_self]
  unfold ksk_end
  try dsimp only
  simp only [Bool.false_eq_true, if_false]
  by_cases few : itm.toArray.size < 2
  · rw [if_pos few, if_pos few]
    refine wpAny_bind (wpAny_pure ?_)
    rw [StateT.run_pure]
    refine wpAny_bind (wpAny_pure ?_)
    try dsimp only
    refine sb_tail (st := SortSt.mk' general' (kar.zip itm.toArray) #[] 7 none) I gk ga fa fk hka hki hle hsm (Array.Perm.refl _) ?_ rfl (Stable.refl _) h
    intro i j hij jlt
    have hj2 : j < (kar.zip itm.toArray).size := jlt
    rw [zz] at hj2
    rw [List.size_toArray] at few
    have : i = j := by omega
    subst this
    exact Int.le_refl _
  · rw [if_neg few, if_neg few]
    rw [List.size_toArray] at few
    rw [ksk_kind hki (by rw [zk]; omega)]
    refine wpAny_bind (wpAny_pure ?_)
    refine wpAny_bind (wpAny_mono (wpS_sortRunsSt (κ := intKind) (a₀ := kar.zip itm.toArray)
      (st := SortSt.mk' oneType' (kar.zip itm.toArray) #[] 7 none)
      (Q := fun _ sq => (arrOf sq).Perm (kar.zip itm.toArray) ∧ failedOf sq = none ∧ SortedTo (arrOf sq) (arrOf sq).size ∧
        Stable intKind (arrOf sq) (kar.zip itm.toArray))
      intKind_oneLt (ksk_keysOfInt (ksk_intKeys hki)) ⟨Array.Perm.refl _, rfl, rfl⟩ rfl (Stable.refl _) (by rw [zz]; omega)
      fun sq a1 a2 a3 a4 => ⟨a1, a2, by rw [a1.size_eq]; exact sortedTo_of_int a3, a4⟩) ?_ fun _ _ e => e)
    rintro ⟨⟨⟩, sq⟩ s' ⟨rfl, hp, hf, hs, hst⟩
    try dsimp only
    exact sb_tail I gk ga fa fk hka hki hle hsm hp hs hf hst h
theorem sb_rest {f : Value} (I : Inv X pins σ H s) (gk : s.heap.get? kS = some (seqObj "list" #[] 0)) (ga : s.heap.get? a = some (seqObj "list" #[] ep1)) (fa : FpOk X pins H a) (fk : FpOk X pins H kS) (hka : kS ≠ a)
    (hle : kl.length = itm.length) (hsm : itm.length ≤ sizeLine)
    (turn : ∀ (i : Nat) (v : Value) (k : Int) (pins' : List (Addr × Obj)) (s' : Shared), itm[i]? = some v → kl[i]? = some k → Inv X pins' σ H s' →
      wpAny (model X.prog X.w) A (call f [v]) (EP X pins' σ fun x H' => x = .int k ∧ H' = H) (fun _ _ => False) s')
    (h : ∀ s' out c, Inv X pins σ H s' → s'.heap.get? a = some (seqObj "list" out c) → KskOutSt false kl itm out.toList → P (.done (.ret .none)) s') :
    wpAny (model X.prog X.w) A (ksk_rest a f false itm.toArray ep1 (.ref kS)) P E s := by
  have hsm2 := hsm
  rw [sizeLine_eq] at hsm2
  unfold ksk_rest
  refine wpAny_bind (wpAny_rule ?_)
  first
    | rw [List.forIn_toArray]
    | (rw [← Array.forIn_toList]; simp only [List.toList_toArray])
    | rw [← Array.forIn_toList]
  refine wpAny_bind (ksk_fold (fun i s' => ∃ gar e, Inv X pins σ H s' ∧ s'.heap.get? kS = some (seqObj "list" gar e) ∧ s'.heap.get? a = some (seqObj "list" #[] ep1) ∧ IntsAre gar.toList (kl.take i)) itm 0 s
    ⟨#[], 0, I, gk, ga, by simpa using IntsAre.nil⟩ ?step ?done)
  case step =>
    rintro j x s' hx ⟨gar, e, I', nk', na', hki⟩
    simp only [Nat.zero_add] at hki ⊢
    have jlt : j < itm.length := (List.getElem?_eq_some_iff.mp hx).1
    obtain ⟨k, ekj⟩ : ∃ k, kl[j]? = some k := ⟨_, List.getElem?_eq_getElem (by omega)⟩
    have gsm : gar.size ≤ itm.length := by
      have h1 := hki.length
      rw [Array.length_toList, List.length_take] at h1
      omega
    have I2 : Inv X (pins ++ [(kS, seqObj "list" gar e), (a, seqObj "list" #[] ep1)]) σ H s' := I'.pins_of fun p hp => by
      rcases List.mem_append.mp hp with hp | hp
      · exact I'.pin p (List.mem_append_right _ hp)
      · rcases List.mem_cons.mp hp with rfl | hp
        · exact ⟨nk', fk.1, fk.2.1, fk.2.2.1, fun v z => nomatch z⟩
        · rw [List.mem_singleton.mp hp]
          exact ⟨na', fa.1, fa.2.1, fa.2.2.1, fun v z => nomatch z⟩
    refine wpAny_bind (wpAny_attempt (wpAny_mono (turn j x k _ s' hx ekj I2) (fun v s'' he => ?_) fun _ _ hF => hF.elim))
    obtain ⟨y, H', I3, ry, rfl, rfl⟩ := he
    obtain ⟨t2, rfl⟩ : ∃ t, v = Value.int k t := ry
    try dsimp only
    have nk3 := (I3.pin (kS, seqObj "list" gar e) (List.mem_append_right _ (List.mem_append_right _ (.head _)))).1
    have na3 := (I3.pin (a, seqObj "list" #[] ep1) (List.mem_append_right _ (List.mem_append_right _ (.tail _ (.head _))))).1
    have s1 := Heap.SameBut.update s''.heap kS (Obj.mapSeq (·.push (.int k t2)))
    obtain ⟨cn, gcn⟩ : ∃ cn, (s''.heap.update kS (Obj.mapSeq (·.push (.int k t2)))).get? kS = some (seqObj "list" (gar.push (.int k t2)) cn) := ⟨_, get?_update_seq nk3 (·.push (.int k t2))⟩
    have et : kl.take (j + 1) = kl.take j ++ [k] := by rw [List.take_add_one, ekj]; simp
    have epu : (gar.push (Value.int k t2)).toList = gar.toList ++ [Value.int k t2] := by simp
    obtain ⟨k0, k1, _, k3, k4, k5⟩ := fk
    refine wpAny_bind (listUpdate_at nk3 rfl ?_ (by rw [sizeLine_eq]; omega) (Nat.le_trans (Nat.le_of_eq (Array.size_push ..)) (by rw [sizeLine_eq]; omega)))
    refine wpAny_pure ⟨rfl, gar.push (.int k t2), cn, I3.unpinned.turned (t' := s''.toks) (fun b o hb q => (s1.2 b hb).trans q) k0 k1 k3 k4 k5, gcn, (s1.2 a hka.symm).trans na3, by rw [epu, et]; exact ksk_snoc hki⟩
  case done =>
    rintro s' ⟨gar, e, I', nk', na', hki⟩
    have hkf : IntsAre gar.toList kl := by
      have eall : kl.take (0 + itm.length) = kl := List.take_of_length_le (by omega)
      rw [eall] at hki
      exact hki
    try dsimp only
    refine wpAny_bind (listItems_at nk' rfl ?_)
    exact sb_end I' nk' na' fa fk hka hkf hle hsm h
end
end TK

namespace TK
open PySem PySem.Spec PyProof.Rows L2
section
variable {prog : Program} {w : World} {A : Around} {E : Value → Shared → Prop} {s : Shared}
/-- the items of a tuple, drawn together -/
theorem collect_tup {t : Addr} {vs : List Value} {Q : List Value → Shared → Prop} (ht : IsTup s.heap t vs.toArray) (hsm : vs.length ≤ sizeLine)
    (h : Q vs { s with heap := (s.heap.push (seqObj "list" #[] 0)).update s.heap.objs.size (Obj.mapSeq (· ++ vs.toArray)) }) : wpAny (model prog w) A (collect (.ref t)) Q E s := by
  obtain ⟨ob, gob0, hcls, n, hdt⟩ := ht
  unfold collect
  refine wpAny_bind (wpAny_runValue (codeAny_builtin entry_proto_collect' ?_))
  show wpAny _ _ (do again (.builtin "list.__iadd__" ⟨[← newList [], .ref t], []⟩)) _ _ s
  refine wpAny_bind (wpAny_newList (wpAny_pure ⟨Code.quiet_builtin _ (by decide +kernel), codeAny_builtin entry_list_iadd' ?_⟩))
  show wpAny _ _ (Builtin.List.listExtendWith (.ref s.heap.objs.size) (.ref t) (.ref s.heap.objs.size)) _ _ { s with heap := s.heap.push (seqObj "list" #[] 0) }
  have gob : (s.heap.push (seqObj "list" #[] 0)).get? t = some ob := Heap.get?_push_of_some _ gob0
  have gnew : (s.heap.push (seqObj "list" #[] 0)).get? s.heap.objs.size = some (seqObj "list" #[] 0) := Heap.get?_push_size _ rfl
  unfold Builtin.List.listExtendWith
  refine wpAny_bind (wpAny_typeOf (T := "tuple") ⟨ob, gob, hcls⟩ ?_)
  rw [if_pos (by simp only [show (Value.type "tuple" == Value.type "tuple") = true from rfl, Bool.or_true])]
  refine wpAny_bind (listItems_at gob hdt (wpAny_bind (listItems_at gnew rfl ?_)))
  rw [if_neg (by simp)]
  refine wpAny_bind (listUpdate_at gnew rfl (wpAny_pure ?_) (Nat.zero_le _) (by simp only [Array.size_append, List.size_toArray, List.length_nil]; omega))
  show wpAny (model prog w) A (do
      let o ← load s.heap.objs.size
      match o.data with
      | .seq xs _ => pure xs.toList
      | _ => unsupported "internal:collect") Q E _
  refine wpAny_bind (wpAny_load (get?_update_seq gnew _) ?_)
  show wpAny _ _ (pure ((#[] : Array Value) ++ vs.toArray).toList) Q E _
  rw [show ((#[] : Array Value) ++ vs.toArray).toList = vs by simp]
  exact wpAny_pure h
end
section
variable {X : Cx} {pins : List (Addr × Obj)} {σ : L2.St} {H : Hp} {s : Shared} {A : Around} {E : Value → Shared → Prop} {a : Addr} {vs : List Value} {kz : List Int} {P : PySem.Fin → Shared → Prop}
theorem sb_sort {f : Value} {n : Nat} (I : Inv X pins σ H s) (ho : s.heap.get? a = some (seqObj "list" vs.toArray n)) (fa : FpOk X pins H a) (hlen : kz.length = vs.length) (hZ : vs.length ≤ sizeLine)
    (turn : ∀ (i : Nat) (v : Value) (k : Int) (pins' : List (Addr × Obj)) (s' : Shared), vs[i]? = some v → kz[i]? = some k → Inv X pins' σ H s' →
      wpAny (model X.prog X.w) A (call f [v]) (EP X pins' σ fun x H' => x = .int k ∧ H' = H) (fun _ _ => False) s')
    (h : ∀ s' out c, Inv X pins σ H s' → s'.heap.get? a = some (seqObj "list" out c) → KskOutSt false kz vs out.toList → P (.done (.ret .none)) s') :
    wpAny (model X.prog X.w) A (ksk_tree a f false) P E s := by
  have hZ2 := hZ
  rw [sizeLine_eq] at hZ2
  have hal : a < s.heap.objs.size := Heap.lt_size ho
  generalize hh1 : s.heap.update a (Obj.mapSeq fun _ => (#[] : Array Value)) = h1
  have sb : Heap.SameBut a s.heap h1 := by rw [← hh1]; exact Heap.SameBut.update s.heap a _
  obtain ⟨e1, ho1⟩ : ∃ e1, h1.get? a = some (seqObj "list" #[] e1) := by rw [← hh1]; exact ⟨_, get?_update_seq ho fun _ => #[]⟩
  have hz1 : h1.objs.size = s.heap.objs.size := by rw [← hh1, Heap.size_update]
  obtain ⟨a0, a1, a2, a3, a4, a5⟩ := id fa
  have I1 : Inv X pins σ H { s with heap := h1 } := I.turned (t' := s.toks) (fun b o hb q => (sb.2 b hb).trans q) a0 a1 a3 a4 a5
  have I2 : Inv X pins σ H { s with heap := (h1.push (seqObj "tuple" vs.toArray 0)).push (seqObj "list" #[] 0) } := I1.kept (t' := s.toks) fun b o q => Heap.get?_push_of_some _ (Heap.get?_push_of_some _ q)
  have hkz : (h1.push (seqObj "tuple" vs.toArray 0)).objs.size = s.heap.objs.size + 1 := by rw [size_push', hz1]
  unfold ksk_tree
  refine wpAny_bind (listItems_at ho rfl (wpAny_bind (listUpdate_at ho rfl ?_ (by rw [List.size_toArray, sizeLine_eq]; omega) (Nat.zero_le _))))
  rw [hh1]
  refine wpAny_bind (seqEpoch_at ho1 rfl (wpAny_bind (wpAny_newTuple (wpAny_bind (wpAny_newList (wpAny_holding ?_) (Nat.zero_le _))) (by show vs.length ≤ _; rw [sizeLine_eq]; omega))))
  refine sb_rest (s := { s with heap := (h1.push (seqObj "tuple" vs.toArray 0)).push (seqObj "list" #[] 0) }) (kS := (h1.push (seqObj "tuple" vs.toArray 0)).objs.size) I2 (Heap.get?_push_size _ rfl) (Heap.get?_push_of_some _ (Heap.get?_push_of_some _ ho1)) fa ?_ (Nat.ne_of_gt (by rw [hkz]; exact Nat.lt_succ_of_lt hal)) hlen hZ turn h
  exact I1.fpOk (by show h1.objs.size ≤ _; rw [hkz, hz1]; omega) (I1.hok.fresh (by show h1.objs.size ≤ _; rw [hkz, hz1]; omega))
end
/-! ### the stable order by a key -/
def insK {α : Type} (x : Int × α) : List (Int × α) → List (Int × α)
  | [] => [x]
  | y :: r => if x.1 ≤ y.1 then x :: y :: r else y :: insK x r
def sortK {α : Type} : List (Int × α) → List (Int × α)
  | [] => []
  | x :: r => insK x (sortK r)
section
variable {α : Type}
theorem insK_perm (x : Int × α) : ∀ l, (insK x l).Perm (x :: l)
  | [] => .refl _
  | y :: r => by
    unfold insK
    split
    · exact .refl _
    · exact ((insK_perm x r).cons y).trans (.swap x y r)
theorem sortK_perm : ∀ l : List (Int × α), (sortK l).Perm l
  | [] => .refl _
  | x :: r => (insK_perm x (sortK r)).trans ((sortK_perm r).cons x)
theorem insK_up (x : Int × α) : ∀ l : List (Int × α), l.Pairwise (fun p q => p.1 ≤ q.1) → (insK x l).Pairwise (fun p q => p.1 ≤ q.1)
  | [], _ => List.pairwise_singleton ..
  | y :: r, h => by
    unfold insK
    split
    · rename_i hx
      refine List.Pairwise.cons (fun z hsm => ?_) h
      rcases List.mem_cons.mp hsm with rfl | hsm
      · exact hx
      · exact Int.le_trans hx (List.rel_of_pairwise_cons h hsm)
    · rename_i hx
      refine List.Pairwise.cons (fun z hsm => ?_) (insK_up x r (List.Pairwise.of_cons h))
      rcases List.mem_cons.mp ((insK_perm x r).mem_iff.mp hsm) with rfl | hsm
      · omega
      · exact List.rel_of_pairwise_cons h hsm
theorem sortK_up : ∀ l : List (Int × α), (sortK l).Pairwise (fun p q => p.1 ≤ q.1)
  | [] => .nil
  | x :: r => insK_up x _ (sortK_up r)
theorem insK_filter (x : Int × α) (c : Int) : ∀ l : List (Int × α), l.Pairwise (fun p q => p.1 ≤ q.1) → (insK x l).filter (fun p => p.1 == c) = (x :: l).filter (fun p => p.1 == c)
  | [], _ => rfl
  | y :: r, h => by
    unfold insK
    split
    · rfl
    · rename_i hx
      have ih := insK_filter x c r (List.Pairwise.of_cons h)
      rw [List.filter_cons, ih, List.filter_cons, List.filter_cons, List.filter_cons]
      by_cases h1 : (x.1 == c) = true
      · by_cases h2 : (y.1 == c) = true
        · have e1 : x.1 = c := by simpa using h1
          have e2 : y.1 = c := by simpa using h2
          omega
        · simp [h1, h2]
      · simp [h1]
theorem sortK_filter (c : Int) : ∀ l : List (Int × α), (sortK l).filter (fun p => p.1 == c) = l.filter (fun p => p.1 == c)
  | [] => rfl
  | x :: r => by
    show (insK x (sortK r)).filter _ = _
    rw [insK_filter x c _ (sortK_up r), List.filter_cons, sortK_filter c r, List.filter_cons]
theorem stable_one : ∀ {l m : List (Int × α)}, l.Perm m → l.Pairwise (fun p q => p.1 ≤ q.1) → m.Pairwise (fun p q => p.1 ≤ q.1) → (∀ c, l.filter (fun p => p.1 == c) = m.filter (fun p => p.1 == c)) → l = m
  | [], m, hp, _, _, _ => by rw [List.nil_perm.mp hp]
  | x :: l, [], hp, _, _, _ => by cases hp.length_eq
  | x :: l, y :: m, hp, h1, h2, hf => by
    have le1 : x.1 ≤ y.1 := by
      rcases List.mem_cons.mp (hp.mem_iff.mpr (List.mem_cons_self ..) : y ∈ x :: l) with e | e
      · rw [e]; exact Int.le_refl _
      · exact List.rel_of_pairwise_cons h1 e
    have le2 : y.1 ≤ x.1 := by
      rcases List.mem_cons.mp (hp.mem_iff.mp (List.mem_cons_self ..) : x ∈ y :: m) with e | e
      · rw [e]; exact Int.le_refl _
      · exact List.rel_of_pairwise_cons h2 e
    have e : x.1 = y.1 := by omega
    have hx := hf x.1
    rw [List.filter_cons, List.filter_cons, if_pos (by simp), if_pos (by simp [e])] at hx
    obtain ⟨exy, _⟩ := List.cons.inj hx
    subst exy
    rw [stable_one (List.Perm.cons_inv hp) (List.Pairwise.of_cons h1) (List.Pairwise.of_cons h2) fun c => ?_]
    have := hf c
    rw [List.filter_cons, List.filter_cons] at this
    split at this
    · exact (List.cons.inj this).2
    · exact this
theorem insK_map {β : Type} (g : α → β) (x : Int × α) : ∀ l : List (Int × α), (insK x l).map (fun p => (p.1, g p.2)) = insK (x.1, g x.2) (l.map fun p => (p.1, g p.2))
  | [] => rfl
  | y :: r => by
    unfold insK
    by_cases h : x.1 ≤ y.1
    · rw [if_pos h]
      show _ = if x.1 ≤ y.1 then _ else _
      rw [if_pos h]; rfl
    · rw [if_neg h]
      show _ = if x.1 ≤ y.1 then _ else _
      rw [if_neg h, List.map_cons, insK_map g x r]
theorem sortK_map {β : Type} (g : α → β) : ∀ l : List (Int × α), (sortK l).map (fun p => (p.1, g p.2)) = sortK (l.map fun p => (p.1, g p.2))
  | [] => rfl
  | x :: r => by
    show (insK x (sortK r)).map _ = insK _ (sortK (r.map _))
    rw [insK_map, sortK_map g r]
end
/-- sorted pairs of related values are related -/
theorem insK_rel {x : Int × V} {u : Int × Value} (e : x.1 = u.1) (r : RelV x.2 u.2) : ∀ {l : List (Int × V)} {m : List (Int × Value)}, Paired (fun p q => p.1 = q.1 ∧ RelV p.2 q.2) l m → Paired (fun (p : Int × V) (q : Int × Value) => p.1 = q.1 ∧ RelV p.2 q.2) (insK x l) (insK u m)
  | _, _, .nil => .cons ⟨e, r⟩ .nil
  | y :: l, v :: m, .cons h t => by
    unfold insK
    rw [← e, ← h.1]
    split
    · exact .cons ⟨e, r⟩ (.cons h t)
    · exact .cons h (insK_rel e r t)
theorem sortK_rel : ∀ {l : List (Int × V)} {m : List (Int × Value)}, Paired (fun p q => p.1 = q.1 ∧ RelV p.2 q.2) l m → Paired (fun (p : Int × V) (q : Int × Value) => p.1 = q.1 ∧ RelV p.2 q.2) (sortK l) (sortK m)
  | _, _, .nil => .nil
  | _, _, .cons h t => insK_rel h.1 h.2 (sortK_rel t)
theorem zip_rel : ∀ {kz : List Int} {xs : List V} {us : List Value}, Vals xs us → Paired (fun (p : Int × V) (q : Int × Value) => p.1 = q.1 ∧ RelV p.2 q.2) (kz.zip xs) (kz.zip us)
  | [], _, _, _ => .nil
  | _ :: _, _, _, .nil => .nil
  | k :: kz, _, _, .cons r t => .cons ⟨rfl, r⟩ (zip_rel t)
theorem rel_snd : ∀ {l : List (Int × V)} {m : List (Int × Value)}, Paired (fun p q => p.1 = q.1 ∧ RelV p.2 q.2) l m → Vals (l.map Prod.snd) (m.map Prod.snd)
  | _, _, .nil => .nil
  | _, _, .cons h t => .cons h.2 (rel_snd t)
def byKey (ks : List Int) (xs : List V) : List V := (sortK (ks.zip xs)).map Prod.snd
theorem byKey_len {ks : List Int} {xs : List V} (h : ks.length = xs.length) : (byKey ks xs).length = xs.length := by
  unfold byKey
  rw [List.length_map, (sortK_perm _).length_eq, List.length_zip, h, Nat.min_self]
section
variable {X : Cx}
/-- sorted(xs, key=f), f a def whose answer is an int and that leaves the heap -/
def rSortedBy (K : PySem.W.Frag) (f : Addr) (sp : Sp) : List V → List V → Hp → VK → Prop := fun vs zs H Q => ∃ (a : Addr) (xs : List V) (ks : List Int), vs = [V.ref a] ∧ zs = [V.ref f] ∧ (SqL K H a xs ∨ SqT K H a xs) ∧ ks.length = xs.length ∧
  (∀ (i : Nat) (x : V) (k : Int), xs[i]? = some x → ks[i]? = some k → sp [x] H (fun v H' => v = .int k ∧ H' = H) E0) ∧ ∀ p, H p = none → Q (.ref p) (upd H p (.lst (byKey ks xs)))
theorem cr_sortedBy {k : Nat} {f : Addr} {fd : FuncData} {ps : List Str} {sp : Sp} (F : FnOk X.prog X.w X.K X.mg X.base CX0 k f fd ps sp) (hr : Room (k + 2) X.A) (hb : Binds X.K fd ps []) : CallRK X (.builtin "sorted") [Str.ofString "key"] (rSortedBy X.K f sp) := by
  intro pins s σ H xs zs us ws Q I rx rz hq
  obtain ⟨a, ys, ks, rfl, rfl, hS, hkl, hsp, q⟩ := hq
  cases rx with
  | cons r1 r2 =>
    cases r2
    cases r1
    cases rz with
    | cons z1 z2 =>
      cases z2
      cases z1
      obtain ⟨its, rv, hcol, hsm⟩ : ∃ its : List Value, Vals ys its ∧ (∀ (A : Around) (Q : List Value → Shared → Prop) (E : Value → Shared → Prop), Q its { s with heap := (s.heap.push (seqObj "list" #[] 0)).update s.heap.objs.size (Obj.mapSeq (· ++ its.toArray)) } → wpAny (model X.prog X.w) A (collect (.ref a)) Q E s) ∧ its.length ≤ sizeLine := by
        rcases hS with hS | hS
        · obtain ⟨its, rv, hl, hsm⟩ := I.list hS
          have hz' : its.length ≤ sizeLine := by rw [← rv.length]; exact hsm
          exact ⟨its, rv, fun A Q E h => collect_list hl.isList h hz', hz'⟩
        · obtain ⟨its, rv, hl, hsm⟩ := I.tuple hS
          have hz' : its.length ≤ sizeLine := by rw [← rv.length]; exact hsm
          exact ⟨its, rv, fun A Q E h => collect_tup hl hz' h, hz'⟩
      have hlen : ks.length = its.length := by rw [hkl, rv.length]
      show wpAny _ _ (call (.builtin "sorted") [.ref a] [(Str.ofString "key", .ref f)]) _ _ _
      refine call_function_entry_kw kind_sorted plain_sorted entry_sorted (ksk_s1 _ _) ?_
      unfold Builtin.«sorted»
      refine wpAny_bind (m := checkCount "sorted" 1 1 _) (wpAny_pure (wpAny_bind (hcol _ _ _ (wpAny_bind (wpAny_newList ?_ hsm)))))
      generalize hh1 : (s.heap.push (seqObj "list" #[] 0)).update s.heap.objs.size (Obj.mapSeq (· ++ its.toArray)) = h1
      have hz1 : h1.objs.size = s.heap.objs.size + 1 := by rw [← hh1, Heap.size_update, size_push']
      have kp1 : ∀ b o, s.heap.get? b = some o → h1.get? b = some o := fun b o e => by
        rw [← hh1, Heap.get?_update_ne _ _ _ _ (Nat.ne_of_lt (Heap.lt_size e))]
        exact Heap.get?_push_of_some _ e
      have hoL : (h1.push (seqObj "list" its.toArray 0)).get? h1.objs.size = some (seqObj "list" its.toArray 0) := Heap.get?_push_size _ rfl
      have I1 : Inv X pins σ H { s with heap := h1 } := I.kept (t' := s.toks) kp1
      have I2 : Inv X pins σ H { s with heap := h1.push (seqObj "list" its.toArray 0) } := I1.kept (t' := s.toks) fun b o e => Heap.get?_push_of_some _ e
      have fa : FpOk X pins H h1.objs.size := I1.fpOk (Nat.le_refl _) (I1.hok.fresh (Nat.le_refl _))
      refine wpAny_bind (wpAny_holding (wpAny_call_entry_kw slot_list_sort ⟨_, hoL, rfl⟩ entry_list_sort ?_ (ksk_l1 _ _)))
      show wpAny (model X.prog X.w) X.A.in1.in1 (Builtin.«list.sort» ⟨[.ref h1.objs.size], [(Str.ofString "key", .ref f)]⟩) _ _ _
      rw [ksk_t1]
      refine sb_sort (s := { s with heap := h1.push (seqObj "list" its.toArray 0) }) (kz := ks) I2 hoL fa hlen hsm (fun i v k pins' s' hv hk I' => ?_) fun s' out c I' ho' ko => ⟨_, rfl, ?_⟩
      · obtain ⟨x, hx, rxv⟩ : ∃ x, ys[i]? = some x ∧ RelV x v := by
          have hi : i < ys.length := by rw [rv.length]; exact (List.getElem?_eq_some_iff.mp hv).1
          obtain ⟨u, hu, ru⟩ := rv.get (List.getElem?_eq_getElem hi)
          rw [hv] at hu
          cases hu
          exact ⟨_, List.getElem?_eq_getElem hi, ru⟩
        exact run_fn2 F hr hb I' (.cons rxv .nil) (hsp i x k hx hk)
      · obtain ⟨pr, p1, p2, p3, p4⟩ := ko
        have e1 : pr = sortK (ks.zip its) := stable_one (p1.trans (sortK_perm _).symm) (by simpa using p3) (sortK_up _) fun c => (p4 c).trans (sortK_filter c _).symm
        have rel : Vals (byKey ks ys) out.toList := by
          rw [p2, e1]
          exact rel_snd (sortK_rel (zip_rel rv))
        have hbz : (byKey ks ys).length ≤ sizeLine := by rw [byKey_len hkl, rv.length]; exact hsm
        refine wpAny_pure ⟨_, rfl, ?_⟩
        exact ⟨.ref h1.objs.size, upd H h1.objs.size (.lst (byKey ks ys)), adopt I' fa ⟨hbz, out.toList, c, rel, by rw [Array.toArray_toList]; exact ho'⟩, rfl, q _ fa.1⟩
end
end TK

namespace TK
open PySem PySem.Spec PyProof.Rows L2
/-! ### enumerate(tuple) -/
theorem meets_enum1 {v : Value} {o : Obj} {G : Heap → Prop} (B : Begins v o G) :
    Meets (Builtin.«enumerate.__new__» ⟨[.type "enumerate", v], []⟩) (fun _ R s => G s.heap ∧
      R (.ok (.ret (.ref (s.heap.push o).objs.size))) { s with heap := (s.heap.push o).push { cls := .type "enumerate", data := .fields #[.none, .bool false, .ref s.heap.objs.size, rawInt 0, .none, .none] } }) :=
  .of_wp fun prog w A R s hh => by
    obtain ⟨hp, gg, dd, tk, os⟩ := s
    obtain ⟨hG, hR⟩ := hh
    have hsub := sub_enumerate
    have it1 : ∀ {A' : Around} {E' : Value → Shared → Prop} {Q : Value → Shared → Prop}, Q (.ref hp.objs.size) ⟨hp.push o, gg, dd, tk, os⟩ → wpAny (model prog w) A' (pyIter v) Q E' ⟨hp, gg, dd, tk, os⟩ := fun q => B.iter prog w _ _ ⟨hp, gg, dd, tk, os⟩ _ hG q
    wp_walk using it1
    refine wpAny_stack_any fun st => wpAny_pure ?_
    split
    · rename_i c _ _ _ _ _
      cases (c == Value.type "enumerate") <;> (wp_walk using it1; exact ⟨_, rfl, hR⟩)
    · wp_walk using it1
      exact ⟨_, rfl, hR⟩
section
variable {prog : Program} {w : World} {A : Around} {E : Value → Shared → Prop} {s : Shared}
theorem call_enum1 {v : Value} {o : Obj} {G : Heap → Prop} {Q : Value → Shared → Prop} (B : Begins v o G) (hG : G s.heap)
    (h : ∀ h', IsEnum h' (s.heap.objs.size + 1) s.heap.objs.size 0 .none → h'.get? s.heap.objs.size = some o → (∀ b o, s.heap.get? b = some o → h'.get? b = some o) → Q (.ref (s.heap.objs.size + 1)) { s with heap := h' }) :
    wpAny (model prog w) A (call (.type "enumerate") [v]) Q E s := by
  refine callType_new F.called_enumerate (by decide) (F.typeCall_enumerate_1 _) (F.newCall_enumerate_1 _) (fun obj => F.args_object_init_2 obj _) F.entry_enumerate_new (meets_enum1 B) ⟨hG, ?_⟩
  have zp : (s.heap.push o).objs.size = s.heap.objs.size + 1 := Heap.size_push ..
  show _ ∧ _
  rw [zp]
  have gen : IsEnum ((s.heap.push o).push { cls := .type "enumerate", data := .fields #[.none, .bool false, .ref s.heap.objs.size, rawInt 0, .none, .none] }) (s.heap.objs.size + 1) s.heap.objs.size 0 .none := by
    unfold IsEnum
    rw [← zp]
    exact Heap.get?_push_size _ rfl
  exact ⟨⟨_, gen, rfl⟩, h _ gen (Heap.get?_push_of_some _ (Heap.get?_push_size _ B.free)) fun b o q => Heap.get?_push_of_some _ (Heap.get?_push_of_some _ q)⟩
end
def IteT (K : PySem.W.Frag) (a : Addr) (n : Nat) : It :=
  ⟨fun i H => i < n ∧ ∃ xs : List V, SqT K H a xs ∧ xs.length = n, fun i H v H' => ∃ T x, v = .ref T ∧ H T = none ∧ H' = upd H T (.tup [.int (i : Nat), x]) ∧ ∀ xs, SqT K H a xs → xs[i]? = some x, fun i H => n ≤ i ∧ ∃ xs : List V, SqT K H a xs ∧ xs.length = n⟩
theorem turn_enumT {P : Program} {w : World} {K : PySem.W.Frag} {elts : List Expr} {kk : Nat} {tpos : Pos} (a e it : Addr) (n : Nat) (nei : e ≠ it) (nae : a ≠ e) (nai : a ≠ it) :
    Turn P w K (.Tuple elts kk tpos) (IteT K a n) [e, it] e (fun i h => (∃ old, IsEnum h e it ((i : Nat) : Int) old) ∧ h.IsTupleIter it a i ∧ i ≤ n) where
  mem := List.mem_cons_self ..
  obj := fun i h st b hb => by
    obtain ⟨⟨old, gen⟩, ⟨o, ho, _, hd⟩, _⟩ := st
    rcases List.mem_cons.mp hb with z | z
    · rw [z]; exact ⟨_, gen, fun v q => nomatch q⟩
    · rw [List.mem_singleton.mp z]; exact ⟨o, ho, fun v q => by rw [hd] at q; cases q⟩
  keep := fun i h h' st k => by
    obtain ⟨⟨old, gen⟩, hi, hn⟩ := st
    exact ⟨⟨old, k e (by simp) _ gen⟩, hi.at fun o q => k it (by simp) o q, hn⟩
  item := by
    intro X hP hw hK hc i pins s σ H E I hf st hg
    subst hP hw hK
    obtain ⟨⟨old, gen⟩, git, _⟩ := st
    obtain ⟨ltn, xs, hq, hxl⟩ := hg
    obtain ⟨itm, rel, p, zp⟩ := I.tuple hq
    have elt : e < s.heap.objs.size := Heap.lt_size gen
    have ilt : it < s.heap.objs.size := by obtain ⟨_, q, _⟩ := git; exact Heap.lt_size q
    have hsz : itm.toArray.size = n := by rw [List.size_toArray, ← rel.length]; exact hxl
    have D := Draws.tuple (prog := X.prog) (w := X.w) (A := X.A.in1) (I.ok.hd hc) it a nai itm.toArray
    refine wpAny_pyNext_enum_itemD D gen ⟨git, p⟩ (by rw [hsz]; exact ltn) nei (by simp [nei, Ne.symm nae]) fun u h' tk hu ho hst hT _ hk => ?_
    obtain ⟨x, hx, ru⟩ : ∃ x, xs[i]? = some x ∧ RelV x u := by
      obtain ⟨u', hu', ru'⟩ := rel.get (List.getElem?_eq_getElem (show i < xs.length by omega))
      have hu2 : itm[i]? = some u := by simpa using hu
      rw [hu2] at hu'
      cases hu'
      exact ⟨_, List.getElem?_eq_getElem (by omega), ru'⟩
    refine ⟨_, rfl, wpAny_letOwnedTupleGo_enum (s := { s with heap := h', toks := tk + 1 }) ho fun h'' he' sb => ?_⟩
    have atT : h''.get? s.heap.objs.size = some { cls := .type "tuple", data := .seq #[.int i tk, u] } := (sb.2 _ (Nat.ne_of_gt elt)).trans hT
    have new : ObjOk X.prog X.w (upd H s.heap.objs.size (.tup [.int (i : Nat), x])) h'' s.heap.objs.size (.tup [.int (i : Nat), x]) :=
      ⟨by show 2 ≤ sizeLine; decide, [.int i tk, u], .cons ⟨_, rfl⟩ (.cons ru .nil), ⟨_, atT, rfl, _, rfl⟩⟩
    have I1 : Inv X pins σ (upd H s.heap.objs.size (.tup [.int (i : Nat), x])) { s with heap := h'', toks := tk + 1 } :=
      I.turnedNew (ch := [e, it]) (fun b ob hb q => (sb.2 b (fun z => hb (by simp [z]))).trans (hk b ob (fun z => hb (by simp [z])) (fun z => hb (by simp [z])) q)) hf (Nat.le_refl _) new
    refine ⟨.ref s.heap.objs.size, _, I1, rfl, ⟨_, x, rfl, I.hok.fresh (Nat.le_refl _), rfl, fun ys hy => by rw [I.tuple_inj hy hq]; exact hx⟩, ⟨⟨u, ?_⟩, hst.1.at fun o q => (sb.2 it (Ne.symm nei)).trans q, by omega⟩, fun b hb => ?_⟩
    · rw [show ((i + 1 : Nat) : Int) = (i : Int) + 1 by omega]; exact he'
    · have blt : b < s.heap.objs.size := by
        rcases List.mem_cons.mp hb with z | z
        · rw [z]; exact elt
        · rw [List.mem_singleton.mp z]; exact ilt
      rw [upd_ne (Nat.ne_of_lt blt)]
      exact (hf b hb).1
  done := by
    intro X hP hw hK hc i pins s σ H E I hf st hg
    subst hP hw hK
    obtain ⟨⟨old, gen⟩, git, ble⟩ := st
    obtain ⟨hge, xs, hq, hxl⟩ := hg
    obtain ⟨itm, rel, p, zp⟩ := I.tuple hq
    have hin : i = itm.toArray.size := by rw [List.size_toArray, ← rel.length]; omega
    obtain ⟨q0, q1, q2, q3, q4, q5⟩ := hf it (by simp)
    have D := Draws.tuple (prog := X.prog) (w := X.w) (A := X.A.in1) (I.ok.hd hc) it a nai itm.toArray
    refine wpAny_pyNext_enum_endD D gen ⟨by rw [← hin]; exact git, p⟩ fun h' eb => ⟨rfl, I.turned (t' := s.toks) (fun b o hb q => eb b o hb q) q0 q1 q3 q4 q5⟩
  self := fun A i s Q E st h => by
    obtain ⟨⟨_, gen⟩, _⟩ := st
    exact wpAny_pyIter_enum gen h
def iEnumT (K : PySem.W.Frag) (ta : TA) : TI := fun σ H R => ta σ H fun vs H1 => ∃ a xs, vs = [.ref a] ∧ SqT K H1 a xs ∧ R (IteT K a xs.length) H1
theorem pi_enumT {X : Cx} {e : Expr} {ta : TA} {p pos tpos : Pos} {elts : List Expr} {kk : Nat} (hg : Gl X "enumerate") (hm : X.mg "enumerate" = none) (ha : PA X [e] ta) (hs : starEach [e] X.env = [(false, eval e X.env)] := by rfl) :
    PI X (.Tuple elts kk tpos) (.Call (.Name "enumerate" p) [e] [] pos) (iEnumT X.K ta) := by
  refine ⟨fun pins s σ H R I h => Call_ (ld_blt I hg hm boot_enumerate (PyProof.Rows.callWith_type1 (thn (ha.run pos pins s σ H _ I h) fun us s1 ⟨vs, H1, I1, r1, q1⟩ => ?_) hs rfl))⟩
  obtain ⟨a, xs, rfl, hq, q⟩ := q1
  cases r1 with
  | cons r rr =>
    cases rr
    cases r
    obtain ⟨itm, rel, p', zp⟩ := I1.tuple hq
    have hal : a < s1.heap.objs.size := by obtain ⟨_, q, _⟩ := p'; exact Heap.lt_size q
    refine call_enum1 (begins_tuple a itm.toArray) p' fun h' gen git hk => wpAny_pyIter_enum gen ?_
    have J2 : Inv X pins σ H1 { s1 with heap := h' } := I1.kept (t' := s1.toks) hk
    refine ⟨s1.heap.objs.size + 1, [s1.heap.objs.size + 1, s1.heap.objs.size], _, _, H1, rfl, J2, turn_enumT a (s1.heap.objs.size + 1) s1.heap.objs.size xs.length (Nat.succ_ne_self _) (Nat.ne_of_lt (Nat.lt_succ_of_lt hal)) (Nat.ne_of_lt hal), ⟨⟨.none, gen⟩, ⟨_, git, rfl, rfl⟩, Nat.zero_le _⟩, fun b hb => ?_, q⟩
    have ble : s1.heap.objs.size ≤ b := by
      rcases List.mem_cons.mp hb with z | z
      · rw [z]; exact Nat.le_add_right _ _
      · rw [List.mem_singleton.mp z]; exact Nat.le_refl _
    exact I1.fpOk ble (I1.hok.fresh ble)
theorem walk_enumT {K : PySem.W.Frag} {a : Addr} {xs : List V} : Walk (IteT K a xs.length) xs.length (fun H => SqT K H a xs) (YPair (fun i => some (.int (i : Nat))) (fun i => xs[i]?)) where
  goes := fun i H hi hG => ⟨hi, xs, hG, rfl⟩
  stops := fun H hG => ⟨Nat.le_refl _, xs, hG, rfl⟩
  yields := fun i H x H' _ hG hy => by
    obtain ⟨T, v, e1, e2, e3, e4⟩ := hy
    exact ⟨T, _, v, e1, e2, e3, rfl, e4 xs hG⟩
end TK

namespace TK
open PySem PySem.Spec PyProof.Rows L2
/-! ### max(xs, default=d), min(xs, default=d) of ints -/
theorem hold_ints {h : Heap} : ∀ {us : List Value} {ns : List Int}, IntsAre us ns → ∃ as, ReadsAll h us (ns.map PySem.W.Datum.toD) as
  | _, _, .nil => ⟨[], .nil⟩
  | _, _, .cons n t r => by
    obtain ⟨as, ra⟩ := hold_ints (h := h) r
    exact ⟨[] ++ as, .cons (.int n t) ra⟩
theorem hold_int {h : Heap} {v : Value} {m : Int} (H : PySem.W.Holds h v m) : ∃ t, v = Value.int m t := by
  obtain ⟨as, r⟩ := H
  have r : Reads h v (.int m) as := r
  cases r with
  | int i t => exact ⟨t, rfl⟩
theorem maxOf_is : ∀ (ys : List Int) (y : Int), PySem.W.maxOf y ys ∈ y :: ys ∧ ∀ z ∈ y :: ys, z ≤ PySem.W.maxOf y ys
  | [], y => ⟨List.mem_cons_self .., fun z hz => by cases List.mem_singleton.mp hz; exact Int.le_refl _⟩
  | a :: ys, y => by
    have e : PySem.W.maxOf y (a :: ys) = PySem.W.maxOf (if y < a then a else y) ys := by
      show List.foldl _ (if decide (y < a) = true then a else y) ys = _
      by_cases h : y < a
      · rw [if_pos (decide_eq_true h), if_pos h]; rfl
      · rw [if_neg (by simpa using h), if_neg h]; rfl
    obtain ⟨h1, h2⟩ := maxOf_is ys (if y < a then a else y)
    rw [e]
    by_cases h : y < a
    · rw [if_pos h] at h1 h2 ⊢
      refine ⟨?_, fun z hz => ?_⟩
      · exact List.mem_cons_of_mem _ h1
      · rcases List.mem_cons.mp hz with q | q
        · have := h2 a (List.mem_cons_self ..)
          omega
        · exact h2 z q
    · rw [if_neg h] at h1 h2 ⊢
      refine ⟨?_, fun z hz => ?_⟩
      · rcases List.mem_cons.mp h1 with q | q
        · rw [q]; exact List.mem_cons_self ..
        · exact List.mem_cons_of_mem _ (List.mem_cons_of_mem _ q)
      · rcases List.mem_cons.mp hz with q | q
        · rw [q]; exact h2 y (List.mem_cons_self ..)
        · rcases List.mem_cons.mp q with q | q
          · have := h2 y (List.mem_cons_self ..)
            omega
          · exact h2 z (List.mem_cons_of_mem _ q)
theorem minOf_is : ∀ (ys : List Int) (y : Int), PySem.W.minOf y ys ∈ y :: ys ∧ ∀ z ∈ y :: ys, PySem.W.minOf y ys ≤ z
  | [], y => ⟨List.mem_cons_self .., fun z hz => by cases List.mem_singleton.mp hz; exact Int.le_refl _⟩
  | a :: ys, y => by
    have e : PySem.W.minOf y (a :: ys) = PySem.W.minOf (if a < y then a else y) ys := by
      show List.foldl _ (if decide (a < y) = true then a else y) ys = _
      by_cases h : a < y
      · rw [if_pos (decide_eq_true h), if_pos h]; rfl
      · rw [if_neg (by simpa using h), if_neg h]; rfl
    obtain ⟨h1, h2⟩ := minOf_is ys (if a < y then a else y)
    rw [e]
    by_cases h : a < y
    · rw [if_pos h] at h1 h2 ⊢
      refine ⟨?_, fun z hz => ?_⟩
      · exact List.mem_cons_of_mem _ h1
      · rcases List.mem_cons.mp hz with q | q
        · have := h2 a (List.mem_cons_self ..)
          omega
        · exact h2 z q
    · rw [if_neg h] at h1 h2 ⊢
      refine ⟨?_, fun z hz => ?_⟩
      · rcases List.mem_cons.mp h1 with q | q
        · rw [q]; exact List.mem_cons_self ..
        · exact List.mem_cons_of_mem _ (List.mem_cons_of_mem _ q)
      · rcases List.mem_cons.mp hz with q | q
        · rw [q]; exact h2 y (List.mem_cons_self ..)
        · rcases List.mem_cons.mp q with q | q
          · have := h2 y (List.mem_cons_self ..)
            omega
          · exact h2 z (List.mem_cons_of_mem _ q)
def rMaxDef (K : PySem.W.Frag) : List V → List V → Hp → VK → Prop := fun vs zs H Q => ∃ (a : Addr) (ns : List Int) (d : V), vs = [V.ref a] ∧ zs = [d] ∧ SqL K H a (ns.map V.int) ∧ (ns = [] → Q d H) ∧ ∀ m, m ∈ ns → (∀ y, y ∈ ns → y ≤ m) → Q (.int m) H
def rMinDef (K : PySem.W.Frag) : List V → List V → Hp → VK → Prop := fun vs zs H Q => ∃ (a : Addr) (ns : List Int) (d : V), vs = [V.ref a] ∧ zs = [d] ∧ SqL K H a (ns.map V.int) ∧ (ns = [] → Q d H) ∧ ∀ m, m ∈ ns → (∀ y, y ∈ ns → m ≤ y) → Q (.int m) H
section
variable {X : Cx}
theorem cr_maxDef (hc : X.calm = true) (hu : X.A.units + 64 < cLine) : CallRK X (.builtin "max") [Str.ofString "default"] (rMaxDef X.K) := by
  intro pins s σ H xs zs us ws Q I rx rz hq
  obtain ⟨a, ns, d, rfl, rfl, hs, q0, q1⟩ := hq
  rw [Vals.ref1 rx]
  cases rz with
  | cons z1 z2 =>
    cases z2
    obtain ⟨its, rv, hl, _⟩ := I.list hs
    refine PySem.W.max_list_datum_default (α := Int) (xs := ns) (I.ok.hd hc) hl.isList (hold_ints rv.ints) (by show X.A.units + 1 + 0 < cLine; omega) (fun e h' tk hk => ⟨d, H, I.kept hk, z1, q0 e⟩) fun y ys i v h' tk e _ hv hk => ?_
    obtain ⟨t, rfl⟩ := hold_int hv
    obtain ⟨m1, m2⟩ := maxOf_is ys y
    exact ⟨.int _, H, I.kept hk, ⟨_, rfl⟩, q1 _ (by rw [e]; exact m1) fun z hz => m2 z (by rw [e] at hz; exact hz)⟩
theorem cr_minDef (hc : X.calm = true) (hu : X.A.units + 64 < cLine) : CallRK X (.builtin "min") [Str.ofString "default"] (rMinDef X.K) := by
  intro pins s σ H xs zs us ws Q I rx rz hq
  obtain ⟨a, ns, d, rfl, rfl, hs, q0, q1⟩ := hq
  rw [Vals.ref1 rx]
  cases rz with
  | cons z1 z2 =>
    cases z2
    obtain ⟨its, rv, hl, _⟩ := I.list hs
    refine PySem.W.min_list_datum_default (α := Int) (xs := ns) (I.ok.hd hc) hl.isList (hold_ints rv.ints) (by show X.A.units + 1 + 0 < cLine; omega) (fun e h' tk hk => ⟨d, H, I.kept hk, z1, q0 e⟩) fun y ys i v h' tk e _ hv hk => ?_
    obtain ⟨t, rfl⟩ := hold_int hv
    obtain ⟨m1, m2⟩ := minOf_is ys y
    exact ⟨.int _, H, I.kept hk, ⟨_, rfl⟩, q1 _ (by rw [e]; exact m1) fun z hz => m2 z (by rw [e] at hz; exact hz)⟩
end
/-! ### t[::-1] of a tuple -/
section
variable {prog : Program} {w : World} {A : Around} {E : Value → Shared → Prop} {s : Shared}
theorem places_rev (n : Nat) : Builtin.Slice.slicePlaces ((n : Int) - 1) (-1) (-1) = n := by
  unfold Builtin.Slice.slicePlaces
  rw [if_neg (by decide)]
  by_cases h : n = 0
  · subst h; rfl
  · rw [if_pos (by omega), show -(-1 : Int) = 1 from rfl, Int.ediv_one]
    omega
theorem applied_rev {sl : Addr} {vl vu vs : Value} {n : Nat} {Q : Int × Int × Nat → Shared → Prop} (hs : s.heap.IsSliceOf sl vl vu vs) (pl : IsPart vl none) (pu : IsPart vu none) (ps : IsPart vs (some (-1)))
    (h : Q ((n : Int) - 1, -1, n) s) : wpAny (model prog w) A (Builtin.Slice.sliceApplied (.ref sl) (pure (n : Int))) Q E s := by
  obtain ⟨ob, go, _, gd⟩ := id hs
  unfold Builtin.Slice.sliceApplied Builtin.Slice.sliceFields
  refine wpAny_bind (wpAny_bind (wpAny_field go gd (x := vl) rfl (wpAny_bind (wpAny_field go gd (x := vu) rfl (wpAny_bind (wpAny_field go gd (x := vs) rfl (wpAny_pure ?_)))))))
  refine wpAny_bind (HT.slicePart_ ps ?_)
  show wpAny _ _ (if ((-1 : Int) == 0) = true then _ else _) _ _ s
  rw [if_neg (by decide)]
  refine wpAny_bind (HT.slicePart_ pl (wpAny_bind (HT.slicePart_ pu (wpAny_bind (wpAny_pure ?_)))))
  show wpAny _ _ (pure ((n : Int) - 1, (-1 : Int), Builtin.Slice.slicePlaces ((n : Int) - 1) (-1) (-1))) _ _ s
  rw [places_rev]
  exact wpAny_pure h
theorem fm_congr {α β : Type} {f g : α → Option β} : ∀ {l : List α}, (∀ x ∈ l, f x = g x) → l.filterMap f = l.filterMap g
  | [], _ => rfl
  | x :: r, h => by
    rw [List.filterMap_cons, List.filterMap_cons, h x (List.mem_cons_self ..), fm_congr fun y hy => h y (List.mem_cons_of_mem _ hy)]
theorem pick_rev (xs : Array Value) : ((List.range xs.size).filterMap fun (m : Nat) => xs[((xs.size : Int) - 1 + (m : Int) * (-1)).toNat]?).toArray = xs.toList.reverse.toArray := by
  have e : ((List.range xs.size).filterMap fun (m : Nat) => xs[((xs.size : Int) - 1 + (m : Int) * (-1)).toNat]?) = ((List.range xs.size).map fun k => xs.size - 1 - k).filterMap (xs[·]?) := by
    rw [List.filterMap_map]
    refine fm_congr fun m hm => ?_
    have := List.mem_range.mp hm
    show xs[_]? = xs[xs.size - 1 - m]?
    congr 1
    omega
  rw [e, PySem.W.krv_range, List.filterMap_reverse, PySem.W.krv_all]
theorem getItem_tup_rev {t sl : Addr} {items : Array Value} {vl vu vs : Value} {Q : Value → Shared → Prop} (ht : IsTup s.heap t items) (hs : s.heap.IsSliceOf sl vl vu vs) (pl : IsPart vl none) (pu : IsPart vu none) (ps : IsPart vs (some (-1)))
    (h : Q (.ref s.heap.objs.size) { s with heap := s.heap.push { cls := .type "tuple", data := .seq items.toList.reverse.toArray } }) (hsz : items.size ≤ sizeLine) : wpAny (model prog w) A (getItem (.ref t) (.ref sl)) Q E s := by
  have small : sizeOk (.seq items.toList.reverse.toArray) := by
    show items.toList.reverse.toArray.size ≤ sizeLine
    rw [List.size_toArray, List.length_reverse, Array.length_toList]
    exact hsz
  obtain ⟨ob, go, gc, gd⟩ := id hs
  unfold getItem
  try with_reducible refine wpAny_holding ?_
  first | refine wpAny_bind (wpAny_pure ?_) | skip
  refine wpAny_bind (wpAny_sequenceKey ht.typeIs (by decide) (wpAny_bind (wpAny_callSpecial?_slot (name := Str.ofString "__getitem__") ht.typeIs PyProof.Rows.slot_tuple_getitem (wpAny_call_entry PyProof.Rows.slot_tuple_getitem ht.typeIs entry_tuple_getitem ?_ (args_tuple_getitem _ _)))))
  show wpAny _ _ (Builtin.Tuple.tupleItemsOf (.ref t) >>= _) _ _ s
  refine wpAny_bind (tupleItemsOf_ ht (wpAny_bind (wpAny_typeOf ⟨ob, go, gc⟩ ?_)))
  rw [if_pos (by decide)]
  refine wpAny_bind (applied_rev hs pl pu ps ?_)
  show wpAny _ _ (if (((items.size : Int) - 1) == 0 && (-1 : Int) == 1 && items.size == items.size) = true then _ else _) _ _ s
  rw [if_neg (by rw [show ((-1 : Int) == 1) = false from rfl, Bool.and_false, Bool.false_and]; decide), pick_rev]
  first
    | exact wpAny_bind (m := Builtin.Tuple.tupleExact _) (wpAny_newObj_type (wpAny_pure ⟨_, rfl, wpAny_pure h⟩) small)
    | exact wpAny_bind (m := Builtin.Tuple.tupleExact _) (wpAny_newObj_type (wpAny_bind (wpAny_pure (wpAny_pure ⟨_, rfl, wpAny_pure h⟩))) small)
    | exact wpAny_bind (wpAny_bind (m := Builtin.Tuple.tupleExact _) (wpAny_newObj_type (wpAny_pure (wpAny_pure ⟨_, rfl, wpAny_pure h⟩)) small))
    | exact wpAny_bind (wpAny_bind (m := Builtin.Tuple.tupleExact _) (wpAny_newObj_type (wpAny_pure ⟨_, rfl, wpAny_pure h⟩) small))
end
def tRevT (K : PySem.W.Frag) (te : TE) : TE := fun σ H Q => te σ H fun x H1 => ∃ a xs, x = .ref a ∧ SqT K H1 a xs ∧ ∀ p, H1 p = none → Q (.ref p) (upd H1 p (.tup xs.reverse))
theorem pe_revT {X : Cx} {e : Expr} {te : TE} {k : Nat} {p1 p2 p3 pos : Pos} (he : PE X e te) : PE X (.Subscript e (.Slice none none (some (.UnaryOp .USub (.Constant (.int 1) k p1) p2)) p3) pos) (tRevT X.K te) := by
  refine ⟨fun pins s σ H Q I h => Subscript_ (thn (he.run pins s σ H _ I h) fun v s1 ⟨x, H1, I1, r1, a, xs, ex, hx, q⟩ => ?_)⟩
  subst ex
  cases r1
  have one : PO X (some (.UnaryOp .USub (.Constant (.int 1) k p1) p2)) (tPart (tUn (rU fun i => .int (-i)) (tC (.int 1)))) := po_some (pe_un un_neg pe_int)
  refine wpAny_Slice (thn (po_none.run pins s1 σ H1 (fun o G => o = none ∧ G = H1) I1 ⟨rfl, rfl⟩) fun vl s2 ⟨l, H2, I2, pl, el, e2⟩ => ?_)
  subst el e2
  refine thn (po_none.run pins s2 σ H2 (fun o G => o = none ∧ G = H2) I2 ⟨rfl, rfl⟩) fun vu s3 ⟨u, H3, I3, pu, eu, e3⟩ => ?_
  subst eu e3
  refine thn (one.run pins s3 σ H3 (fun o G => o = some (-1) ∧ G = H3) I3 ⟨1, rfl, -1, rfl, rfl, rfl⟩) fun vs s4 ⟨o, H4, I4, ps, eo, e4⟩ => ?_
  subst eo e4
  have J : Inv X pins σ H4 { s4 with heap := s4.heap.push { cls := .type "slice", data := .fields #[vl, vu, vs] } } := I4.kept (t' := s4.toks) fun b ob q => Heap.get?_push_of_some _ q
  obtain ⟨itm, r, ht, hz⟩ := J.tuple hx
  have hlen := r.length
  show wpAny (model X.prog X.w) X.A (subscriptTail e (.Slice none none (some (.UnaryOp .USub (.Constant (.int 1) k p1) p2)) p3) (.ref a) (.ref s4.heap.objs.size)) (EP X pins σ Q) X.xe { s4 with heap := s4.heap.push { cls := .type "slice", data := .fields #[vl, vu, vs] } }
  refine tail_any (ops := [.ref a, .ref s4.heap.objs.size]) ht.typeIs PyProof.Rows.slot_tuple_getitem.lookup ?_ (by with_unfolding_all rfl)
  refine getItem_tup_rev ht (Heap.IsSliceOf.new _ vl vu vs) pl pu ps ?_ (by rw [List.size_toArray]; omega)
  refine ⟨.ref _, _, J.laid (t' := s4.toks) (o := .tup xs.reverse) (fun b ob q => Heap.get?_push_of_some _ q) (Nat.le_refl _) ?_, rfl, q _ (J.hok.fresh (Nat.le_refl _))⟩
  exact ⟨by rw [List.length_reverse]; exact hz, _, r.reverse, IsTup.new _ _⟩
end TK

namespace TK
open PySem PySem.Spec PyProof.Rows L2
section
variable {X : Cx}
/-! ### a word of one's own in the middle; two ways to read the same text -/
theorem ps_cut {st : Stmt} {t : TS} (h : PS X st t) : PS X st (fun D σ H => ∃ R : L2.St → Hp → Prop, t { D with nx := R } σ H ∧ ∀ σ' H', R σ' H' → D.nx σ' H') :=
  ⟨fun pins s σ H D I ⟨R, q, k⟩ => thn (h.run pins s σ H _ I q) fun f s' z => by
    cases f with
    | next => obtain ⟨σ', H', I', r⟩ := z; exact ⟨σ', H', I', k _ _ r⟩
    | brk => exact z
    | cont => exact z
    | ret u => exact z⟩
theorem pe_cut {e : Expr} {t : TE} (h : PE X e t) : PE X e (fun σ H Q => ∃ R : VK, t σ H R ∧ ∀ v H', R v H' → Q v H') :=
  ⟨fun pins s σ H Q I ⟨R, q, k⟩ => thn (h.run pins s σ H _ I q) fun v s' z => by
    obtain ⟨x, H', I', r, q'⟩ := z
    exact ⟨x, H', I', r, k _ _ q'⟩⟩
theorem pt_cut {e : Expr} {t : TT} (h : PT X e t) : PT X e (fun σ H Q => ∃ R : Bool → Hp → Prop, t σ H R ∧ ∀ b H', R b H' → Q b H') :=
  ⟨fun pins s σ H Q I ⟨R, q, k⟩ => thn (h.run pins s σ H _ I q) fun v s' z => by
    obtain ⟨H', I', q'⟩ := z
    exact ⟨H', I', k _ _ q'⟩⟩
theorem pi_or {tg it : Expr} {w1 w2 : TI} (h1 : PI X tg it w1) (h2 : PI X tg it w2) : PI X tg it (fun σ H R => w1 σ H R ∨ w2 σ H R) :=
  ⟨fun pins s σ H R I h => h.elim (h1.run pins s σ H R I) (h2.run pins s σ H R I)⟩
theorem ps_or {st : Stmt} {t1 t2 : TS} (h1 : PS X st t1) (h2 : PS X st t2) : PS X st (fun D σ H => t1 D σ H ∨ t2 D σ H) :=
  ⟨fun pins s σ H D I h => h.elim (h1.run pins s σ H D I) (h2.run pins s σ H D I)⟩
theorem pe_or2 {e : Expr} {t1 t2 : TE} (h1 : PE X e t1) (h2 : PE X e t2) : PE X e (fun σ H Q => t1 σ H Q ∨ t2 σ H Q) :=
  ⟨fun pins s σ H Q I h => h.elim (h1.run pins s σ H Q I) (h2.run pins s σ H Q I)⟩
theorem pt_or2 {e : Expr} {t1 t2 : TT} (h1 : PT X e t1) (h2 : PT X e t2) : PT X e (fun σ H Q => t1 σ H Q ∨ t2 σ H Q) :=
  ⟨fun pins s σ H Q I h => h.elim (h1.run pins s σ H Q I) (h2.run pins s σ H Q I)⟩
end
end TK

namespace TK
open PySem PySem.Spec PyProof.Rows L2
section
variable {X : Cx}
/-! sum(t), a tuple of ints -/
def rSumT (K : PySem.W.Frag) : List V → Hp → VK → Prop := fun vs H Q => ∃ (a : Addr) (ns : List Int), vs = [V.ref a] ∧ SqT K H a (ns.map V.int) ∧ Q (.int ns.sum) H
theorem cr_sumT (hc : X.calm = true) : CallR X (.builtin "sum") (rSumT X.K) := by
  intro pins s σ H vs us Q I r h
  obtain ⟨a, ns, rfl, hs, q⟩ := h
  obtain ⟨itm, rv, p, _⟩ := I.tuple hs
  rw [Vals.ref1 r]
  obtain ⟨xs, e⟩ := rv.ints.allInts.items
  have hn : numsOf itm.toArray.toList = ns := rv.ints.numsOf
  rw [e, nums_intItems] at hn
  refine PySem.W.ktm_sumG (I.ok.hd hc) (e ▸ p) fun h' tk t' hk => ?_
  rw [preSum_eq, List.take_of_length_le (by simp), hn]
  exact ⟨.int _, H, I.kept hk, ⟨_, rfl⟩, q⟩
/-- *e within a comprehension -/
theorem pa_starK {K : PySem.W.Frag} {e : Expr} {es : List Expr} {te : TE} {t : TA} {p : Pos} (h : X.K = K) (he : PE X e te) (hr : PA X es t) (hs : starEach (.Starred e p :: es) X.env = (true, eval e X.env) :: starEach es X.env := by rfl) : PA X (.Starred e p :: es) (StX.tStar K te t) := h ▸ StX.pa_star he hr hs
theorem op_eqDK {K : PySem.W.Frag} (h : X.K = K) (hu : X.A.units + 64 < cLine) : OpR X (compareOp .Eq) (rEqD K) := h ▸ op_eqD hu
theorem op_neDK {K : PySem.W.Frag} (h : X.K = K) (hu : X.A.units + 64 < cLine) : OpR X (compareOp .NotEq) (rNeD K) := h ▸ op_neD hu
/-! ### objects at a row of addresses -/
def At (H : Hp) (us : List Addr) (os : List HO) : Prop := us.length = os.length ∧ ∀ (i : Nat) (u : Addr) (o : HO), us[i]? = some u → os[i]? = some o → H u = some o
theorem At.same {H H' : Hp} {us : List Addr} {os : List HO} (h : At H us os) (s : Same H H') : At H' us os := ⟨h.1, fun i u o a b => s _ _ (h.2 i u o a b)⟩
theorem At.nil {H : Hp} : At H [] [] := ⟨rfl, fun i u o a _ => by simp at a⟩
theorem At.append {H : Hp} {us vs : List Addr} {os ps : List HO} (h : At H us os) (k : At H vs ps) : At H (us ++ vs) (os ++ ps) := by
  refine ⟨by rw [List.length_append, List.length_append, h.1, k.1], fun i u o a b => ?_⟩
  by_cases hi : i < us.length
  · rw [List.getElem?_append_left hi] at a
    rw [List.getElem?_append_left (by rw [← h.1]; exact hi)] at b
    exact h.2 i u o a b
  · rw [List.getElem?_append_right (by omega)] at a
    rw [List.getElem?_append_right (by rw [← h.1]; omega), ← h.1] at b
    exact k.2 _ u o a b
theorem At.one {H : Hp} {u : Addr} {o : HO} (e : H u = some o) : At H [u] [o] := ⟨rfl, fun i u' o' a b => by
  match i, a, b with
  | 0, a, b =>
    cases a
    cases b
    exact e⟩
theorem At.get {H : Hp} {us : List Addr} {os : List HO} {i : Nat} {x : V} (h : At H us os) (e : (us.map V.ref)[i]? = some x) : ∃ (u : Addr) (o : HO), x = .ref u ∧ us[i]? = some u ∧ os[i]? = some o ∧ H u = some o := by
  rw [List.getElem?_map] at e
  cases ht : us[i]? with
  | none => rw [ht] at e; cases e
  | some t =>
    rw [ht] at e
    cases e
    have hi : i < os.length := by rw [← h.1]; exact (List.getElem?_eq_some_iff.mp ht).1
    exact ⟨t, os[i], rfl, rfl, List.getElem?_eq_getElem hi, h.2 i t _ ht (List.getElem?_eq_getElem hi)⟩
/-- a list elsewhere is written anew -/
theorem At.wrote {H : Hp} {us : List Addr} {os : List HO} {D : Addr} {xs : List V} {o : HO} (h : At H us os) (t : ∀ p ∈ os, ∃ ys, p = HO.tup ys) (e : H D = some (.lst xs)) : At (upd H D o) us os := ⟨h.1, fun i u p a b => by
  have := h.2 i u p a b
  rw [upd_ne fun z => ?_]
  · exact this
  · subst z
    obtain ⟨ys, rfl⟩ := t p (List.mem_of_getElem? b)
    rw [e] at this
    cases this⟩
end
end TK

namespace TK
open PySem PySem.Spec PyProof.Rows L2
/-! ### zip(tuple, list) -/
def ItzM (K : PySem.W.Frag) (a b : Addr) : It :=
  ⟨fun i H => ∃ xs ys : List V, SqT K H a xs ∧ SqL K H b ys ∧ i < xs.length ∧ i < ys.length,
    fun i H v H' => ∃ T x y, v = .ref T ∧ H T = none ∧ H' = upd H T (.tup [x, y]) ∧ (∀ xs, SqT K H a xs → xs[i]? = some x) ∧ ∀ ys, SqL K H b ys → ys[i]? = some y,
    fun i H => ∃ xs ys : List V, SqT K H a xs ∧ SqL K H b ys ∧ i ≤ xs.length ∧ i ≤ ys.length ∧ (i = xs.length ∨ i = ys.length)⟩
theorem ne_nat {x y : Nat} (h : x < y ∨ y < x) : x ≠ y := by omega
theorem no_two {x p q : Nat} (h1 : x < p ∨ p < x) (h2 : x < q ∨ q < x) : x ∉ [p, q] := by
  intro h
  rcases List.mem_cons.mp h with z | z
  · exact ne_nat h1 z
  · exact ne_nat h2 (List.mem_singleton.mp z)
theorem sep_zip (I a b : Nat) (la : a < I) (lb : b < I) : ZipSep2 (I + 4) (I + 2) (I + 3) I (I + 1) [I, a] [I + 1, b] :=
  ⟨ne_nat (x := I + 2) (y := I + 4) (by omega), ne_nat (x := I + 3) (y := I + 4) (by omega), ne_nat (x := I + 2) (y := I + 3) (by omega), ne_nat (x := I + 2) (y := I) (by omega), List.mem_cons_self .., no_two (x := I + 4) (by omega) (by omega), no_two (x := I + 3) (by omega) (by omega),
    ne_nat (x := I + 2) (y := I + 1) (by omega), List.mem_cons_self .., no_two (x := I + 4) (by omega) (by omega), no_two (x := I + 3) (by omega) (by omega), no_two (x := I) (by omega) (by omega), no_two (x := I + 1) (by omega) (by omega)⟩
theorem turn_zipM {P : Program} {w : World} {K : PySem.W.Frag} {elts : List Expr} {kk : Nat} {tpos : Pos} {a b z TI TO i1 i2 : Addr} (S : ZipSep2 z TI TO i1 i2 [i1, a] [i2, b]) (na : a ≠ i1) (nb : b ≠ i2) :
    Turn P w K (.Tuple elts kk tpos) (ItzM K a b) [z, TI, TO, i1, i2] z (fun i h => IsZip h z TI TO .none ∧ IsTupOf2 h TI (.ref i1) (.ref i2) ∧ (∃ x y, IsTupOf2 h TO x y) ∧ h.IsTupleIter i1 a i ∧ h.IsListIter i2 b i) where
  mem := by simp
  obj := fun i h st c hc => by
    obtain ⟨hz, hTI, ⟨x, y, hTO⟩, ⟨o1, e1, _, d1⟩, ⟨o2, e2, _, d2⟩⟩ := st
    have e' : c = z ∨ c = TI ∨ c = TO ∨ c = i1 ∨ c = i2 := by simpa using hc
    rcases e' with rfl | rfl | rfl | rfl | rfl
    · exact ⟨_, hz, fun v q => nomatch q⟩
    · exact ⟨_, hTI, fun v q => nomatch q⟩
    · exact ⟨_, hTO, fun v q => nomatch q⟩
    · exact ⟨o1, e1, fun v q => by rw [d1] at q; cases q⟩
    · exact ⟨o2, e2, fun v q => by rw [d2] at q; cases q⟩
  keep := fun i h h' st k => by
    obtain ⟨hz, hTI, ⟨x, y, hTO⟩, h1, h2⟩ := st
    exact ⟨k z (by simp) _ hz, k TI (by simp) _ hTI, ⟨x, y, k TO (by simp) _ hTO⟩, h1.at fun o q => k i1 (by simp) o q, h2.at fun o q => k i2 (by simp) o q⟩
  item := by
    intro X hP hw hK hc i pins s σ H E I hf st hg
    subst hP hw hK
    obtain ⟨hz, hTI, ⟨x0, y0, hTO⟩, h1, h2⟩ := st
    obtain ⟨xs, ys, hqx, hqy, lx, ly⟩ := hg
    obtain ⟨its, rv, p, _⟩ := I.tuple hqx
    obtain ⟨its2, rv2, p2, _⟩ := I.list hqy
    have hzl : z < s.heap.objs.size := Heap.lt_size hz
    have n1 : its.toArray.size = xs.length := by rw [List.size_toArray, ← rv.length]
    have n2 : its2.toArray.size = ys.length := by rw [List.size_toArray, ← rv2.length]
    have D1 := Draws.tuple (prog := X.prog) (w := X.w) (A := X.A.in1) (I.ok.hd hc) i1 a na its.toArray
    have D2 := Draws.list (prog := X.prog) (w := X.w) (A := X.A.in1) (I.ok.hd hc) i2 b nb its2.toArray
    refine wpAny_pyNext_zipD2_item S D1 D2 hz hTI hTO ⟨h1, p⟩ ⟨h2, p2.isList⟩ (by rw [n1]; exact lx) (by rw [n2]; exact ly) fun u u2 h' tk hu hu2 z' TO' d1 d2 hT hsz hk => ?_
    refine ⟨_, rfl, wpAny_letOwnedTupleGo_zip (s := { s with heap := h', toks := tk }) z' fun h'' z'' sb => ?_⟩
    obtain ⟨x, hx, ru⟩ : ∃ x, xs[i]? = some x ∧ RelV x u := by
      obtain ⟨v, hv, r⟩ := rv.get (List.getElem?_eq_getElem lx)
      have : its[i]? = some u := by simpa using hu
      rw [this] at hv
      cases hv
      exact ⟨_, List.getElem?_eq_getElem lx, r⟩
    obtain ⟨y, hy, ru2⟩ : ∃ y, ys[i]? = some y ∧ RelV y u2 := by
      obtain ⟨v, hv, r⟩ := rv2.get (List.getElem?_eq_getElem ly)
      have : its2[i]? = some u2 := by simpa using hu2
      rw [this] at hv
      cases hv
      exact ⟨_, List.getElem?_eq_getElem ly, r⟩
    have hT2 : h''.get? s.heap.objs.size = some { cls := .type "tuple", data := .seq #[u, u2] } := (sb.2 _ (Nat.ne_of_gt hzl)).trans hT
    have new : ObjOk X.prog X.w (upd H s.heap.objs.size (.tup [x, y])) h'' s.heap.objs.size (.tup [x, y]) :=
      ⟨by show 2 ≤ sizeLine; decide, [u, u2], .cons ru (.cons ru2 .nil), ⟨_, hT2, rfl, _, rfl⟩⟩
    have I1 : Inv X pins σ (upd H s.heap.objs.size (.tup [x, y])) { s with heap := h'', toks := tk } :=
      I.turnedNew (ch := [z, TI, TO, i1, i2]) (fun c o hb q => (sb.2 c (fun q' => hb (by simp [q']))).trans (hk c o (fun q' => hb (by simp [q'])) (fun q' => hb (by simp [q'])) (fun q' => hb (by simp [q'])) (fun q' => hb (by simp [q'])) q)) hf (Nat.le_refl _) new
    refine ⟨.ref s.heap.objs.size, _, I1, rfl, ⟨_, x, y, rfl, I.hok.fresh (Nat.le_refl _), rfl, fun l hl => by rw [I.tuple_inj hl hqx]; exact hx, fun l hl => by rw [I.list_inj hl hqy]; exact hy⟩, ⟨z'', ?_, ⟨u, u2, ?_⟩, ?_, ?_⟩, fun c hcm => ?_⟩
    · exact (sb.2 _ S.TIz).trans (hk _ _ S.TIz S.TITO S.TIi1 S.TIi2 hTI)
    · exact (sb.2 _ S.TOz).trans TO'
    · exact d1.1.at fun o q => (sb.2 _ (Ne.symm S.zi1)).trans q
    · exact d2.1.at fun o q => (sb.2 _ (Ne.symm S.zi2)).trans q
    · have hlt : c < s.heap.objs.size := by
        have e' : c = z ∨ c = TI ∨ c = TO ∨ c = i1 ∨ c = i2 := by simpa using hcm
        rcases e' with rfl | rfl | rfl | rfl | rfl
        · exact hzl
        · exact Heap.lt_size hTI
        · exact Heap.lt_size hTO
        · obtain ⟨_, e1, _⟩ := h1; exact Heap.lt_size e1
        · obtain ⟨_, e2, _⟩ := h2; exact Heap.lt_size e2
      rw [upd_ne (Nat.ne_of_lt hlt)]
      exact (hf c hcm).1
  done := by
    intro X hP hw hK hc i pins s σ H E I hf st hg
    subst hP hw hK
    obtain ⟨hz, hTI, ⟨x0, y0, hTO⟩, h1, h2⟩ := st
    obtain ⟨xs, ys, hqx, hqy, le1, le2, hend⟩ := hg
    obtain ⟨its, rv, p, _⟩ := I.tuple hqx
    obtain ⟨its2, rv2, p2, _⟩ := I.list hqy
    have n1 : its.toArray.size = xs.length := by rw [List.size_toArray, ← rv.length]
    have n2 : its2.toArray.size = ys.length := by rw [List.size_toArray, ← rv2.length]
    have D1 := Draws.tuple (prog := X.prog) (w := X.w) (A := X.A.in1) (I.ok.hd hc) i1 a na its.toArray
    have D2 := Draws.list (prog := X.prog) (w := X.w) (A := X.A.in1) (I.ok.hd hc) i2 b nb its2.toArray
    exact wpAny_pyNext_zipD2_end S D1 D2 hz hTI hTO ⟨h1, p⟩ ⟨h2, p2.isList⟩ (by rw [n1]; exact le1) (by rw [n2]; exact le2) (by rw [n1, n2]; exact hend) fun h' tk hk => ⟨rfl, I.turnedL (ch := [z, TI, TO, i1, i2]) (fun c o hb q =>
      hk c o (fun q' => hb (by simp [q'])) (fun q' => hb (by simp [q'])) (fun q' => hb (by simp [q'])) (fun q' => hb (by simp [q'])) q) hf⟩
  self := fun A i s Q E st h => wpAny_pyIter_zip st.1 h
def iZipM (K : PySem.W.Frag) (ta : TA) : TI := fun σ H R => ta σ H fun vs H1 => ∃ a b xs ys, vs = [.ref a, .ref b] ∧ SqT K H1 a xs ∧ SqL K H1 b ys ∧ R (ItzM K a b) H1
theorem pi_zipM {X : Cx} {e e2 : Expr} {ta : TA} {p pos tpos : Pos} {elts : List Expr} {kk : Nat} (hg : Gl X "zip") (hm : X.mg "zip" = none) (ha : PA X [e, e2] ta)
    (hs : starEach [e, e2] X.env = (false, eval e X.env) :: starEach [e2] X.env := by rfl) (hpl : (backTo pos (starEach [e2] X.env)).any (·.1) = false := by rfl) :
    PI X (.Tuple elts kk tpos) (.Call (.Name "zip" p) [e, e2] [] pos) (iZipM X.K ta) := by
  refine ⟨fun pins s σ H R I h => Call_ (ld_blt I hg hm PyProof.Rows.boot_zip (PyProof.Rows.callWith_type1 (thn (ha.run pos pins s σ H _ I h) fun us s1 ⟨vs, H1, I1, r1, q1⟩ => ?_) hs hpl))⟩
  obtain ⟨a, b, xs, ys, rfl, hqx, hqy, q⟩ := q1
  obtain ⟨u1, u2, rfl, r, r'⟩ := r1.two
  cases r
  cases r'
  obtain ⟨its, rv, p1, _⟩ := I1.tuple hqx
  obtain ⟨its2, rv2, p2, _⟩ := I1.list hqy
  have la : a < s1.heap.objs.size := by obtain ⟨_, q, _⟩ := p1; exact Heap.lt_size q
  have lb : b < s1.heap.objs.size := p2.lt
  refine zip_begins2 (begins_tuple a its.toArray) (begins_list b its2.toArray) p1 p2.isList fun h' hz hTI hTO h1 h2 hsz hk => wpAny_pyIter_zip hz ?_
  have I2 : Inv X pins σ H1 { s1 with heap := h' } := I1.kept (t' := s1.toks) hk
  refine ⟨s1.heap.objs.size + 4, [s1.heap.objs.size + 4, s1.heap.objs.size + 2, s1.heap.objs.size + 3, s1.heap.objs.size, s1.heap.objs.size + 1], _, _, H1, rfl, I2, turn_zipM (sep_zip _ _ _ la lb) (Nat.ne_of_lt la) (Nat.ne_of_lt (Nat.lt_succ_of_lt lb)), ⟨hz, hTI, ⟨_, _, hTO⟩, ⟨_, h1, rfl, rfl⟩, ⟨_, h2, rfl, rfl⟩⟩, fun c hcm => ?_, q⟩
  have hle : s1.heap.objs.size ≤ c := by
    have e' : c = s1.heap.objs.size + 4 ∨ c = s1.heap.objs.size + 2 ∨ c = s1.heap.objs.size + 3 ∨ c = s1.heap.objs.size ∨ c = s1.heap.objs.size + 1 := by simpa using hcm
    rcases e' with rfl | rfl | rfl | rfl | rfl
    · exact Nat.le_add_right _ _
    · exact Nat.le_add_right _ _
    · exact Nat.le_add_right _ _
    · exact Nat.le_refl _
    · exact Nat.le_add_right _ _
  exact I1.fpOk hle (I1.hok.fresh hle)
theorem walk_zipM {K : PySem.W.Frag} {a b : Addr} {xs ys : List V} (hl : xs.length = ys.length) : Walk (ItzM K a b) xs.length (fun H => SqT K H a xs ∧ SqL K H b ys) (YPair (fun i => xs[i]?) (fun i => ys[i]?)) where
  goes := fun i H hi q => ⟨xs, ys, q.1, q.2, hi, by omega⟩
  stops := fun H q => ⟨xs, ys, q.1, q.2, Nat.le_refl _, by omega, .inl rfl⟩
  yields := fun i H v H' _ q y => by
    obtain ⟨T, x, z, h1, h2, h3, h4, h5⟩ := y
    exact ⟨T, x, z, h1, h2, h3, h4 xs q.1, h5 ys q.2⟩
end TK

namespace TK
open PySem PySem.Spec PyProof.Rows L2
/-- a dict comprehension over whatever walks -/
theorem dc_it {J : It} {n : Nat} {G : Hp → Prop} {Y : Nat → Hp → V → Hp → Prop} (w : Walk J n G Y) {g : TG} {tt : TT} {tk tv : TE} {vs : List Nat} {σ : L2.St} {H1 : Hp} {D : Addr} {Qd : Hp → Prop} (Pv : Nat → Hp → Prop) (h0 : Pv 0 (upd H1 D (.dK []))) (hG : ∀ i H, i ≤ n → Pv i H → G H)
    (hs : ∀ i x H H', i < n → Pv i H → Y i H x H' → g x (wipe σ vs) H' fun σ2 H2 => wipe σ2 vs = wipe σ vs ∧ tt σ2 H2 fun b H3 =>
      if b = true then tk σ2 H3 fun y H4 => tv σ2 H4 fun z H5 => ∃ kvs k, y = kV k ∧ H5 D = some (.dK kvs) ∧ kvs.length < sizeLine ∧ Pv (i + 1) (upd H5 D (.dK (putK kvs k z))) else Pv (i + 1) H3) (hd : ∀ H, Pv n H → Qd H) :
    ∃ W : Nat → Nat → Hp → Prop, (∃ m, W 0 m (upd H1 D (.dK []))) ∧ ∀ i m H, W i m H →
      (J.stop i H ∧ Qd H) ∨ (J.go i H ∧ ∃ Nx : Hp → Prop, (∀ H', Nx H' → ∃ m', m' < m ∧ W (i + 1) m' H') ∧ ∀ x H', J.yld i H x H' → g x (wipe σ vs) H' fun σ2 H2 => wipe σ2 vs = wipe σ vs ∧ tt σ2 H2 fun b H3 =>
        if b = true then tk σ2 H3 fun y H4 => tv σ2 H4 fun z H5 => ∃ kvs k, y = kV k ∧ H5 D = some (.dK kvs) ∧ kvs.length < sizeLine ∧ Nx (upd H5 D (.dK (putK kvs k z))) else Nx H3) := by
  refine ⟨fun i m H => m = n - i ∧ i ≤ n ∧ Pv i H, ⟨n, by simp, Nat.zero_le _, h0⟩, ?_⟩
  rintro i m H ⟨rfl, hi, p⟩
  have q := hG i H hi p
  by_cases hlt : i < n
  · exact .inr ⟨w.goes i H hlt q, Pv (i + 1), fun H' p' => ⟨n - (i + 1), by omega, rfl, hlt, p'⟩, fun x H' y => hs i x H H' hlt p (w.yields i H x H' hlt q y)⟩
  · have e : i = n := by omega
    subst e
    exact .inl ⟨w.stops H q, hd H p⟩
end TK

namespace TK
open PySem PySem.Spec PyProof.Rows L2
section
variable {X : Cx}
/-- tuple(a list), the new tuple known to the object -/
theorem call_tuple_frz : CallR X (.type "tuple") (fun xs H Q => ∃ p ys, xs = [.ref p] ∧ SqL X.K H p ys ∧ ∀ (l : Addr) (o : Obj), H l = none → o.cls = .type "tuple" → o.dict = none → Q (.ref l) (upd H l (.frz o (.tup ys)))) := by
  intro pins s σ H xs us Q I r h
  obtain ⟨p, ys, rfl, hq, q⟩ := h
  obtain ⟨u, rfl, rx⟩ := vals1 r
  cases rx
  obtain ⟨its, r', pl, hz⟩ := I.list hq
  have hlen := r'.length
  refine call_tuple_list pl.isList (fun h' kp => ?_) (by simp only [List.size_toArray] <;> omega)
  have I1 : Inv X pins σ H { s with heap := h' } := I.kept (t' := s.toks) kp
  have I2 : Inv X pins σ (upd H h'.objs.size (.frz { cls := .type "tuple", data := .seq its.toArray } (.tup ys))) { s with heap := h'.push { cls := .type "tuple", data := .seq its.toArray } } :=
    I1.laid (t' := s.toks) (fun b o e => Heap.get?_push_of_some _ e) (Nat.le_refl _) (show ObjOk X.prog X.w _ _ _ (.frz _ (.tup ys)) from ⟨Heap.get?_push_size _ rfl, hz, its, r', IsTup.new _ _⟩)
  exact ⟨.ref h'.objs.size, _, I2, rfl, q _ _ (I1.hok.fresh (Nat.le_refl _)) rfl rfl⟩
/-- the value is such a tuple -/
def FrzT (x : V) (H : Hp) : Prop := ∃ p o xs, x = .ref p ∧ H p = some (.frz o (.tup xs)) ∧ o.cls = .type "tuple" ∧ o.dict = none
def tBMF (r : V → List V → Hp → VK → Prop) (to : TE) (t : TA) : TE := fun σ H Q => to σ H fun x H1 => FrzT x H1 ∧ t σ H1 fun xs H2 => r x xs H2 Q
variable {o e : Expr} {es : List Expr} {to : TE} {t : TA} {name : Str} {apos cpos : Pos} {id : String} {r : V → List V → Hp → VK → Prop}
theorem pe_bmF (pa : PlainAttrs "tuple") (slot : Slot "tuple" name id) (hty : typeOf (.builtin id) = pure (.type "method_descriptor")) (hm : MtR X id r) (ho : PE X o to) (ha : PA X (e :: es) t)
    (hbase : attributeBase o name X.env (eval o X.env) = eval o X.env := by rfl)
    (hfew : ((backTo cpos (starEach (e :: es) X.env)).all (fun x => !x.1) && (backToKw cpos (keywordEach [] X.env)).all (fun x => x.1.isSome)
      && decide ((e :: es).length + ([] : List Keyword).length + (if ([] : List Keyword).isEmpty then 0 else 1) < 30)) = true := by rfl)
    (hline : (apos.endLine == cpos.line) = true := by rfl) (hs : starEach (e :: es) X.env = (false, eval e X.env) :: starEach es X.env := by rfl) (hplain : (backTo cpos (starEach es X.env)).any (·.1) = false := by rfl) :
    PE X (.Call (.Attribute o name apos) (e :: es) [] cpos) (tBMF r to t) := by
  refine ⟨fun pins s σ H Q I h => ?_⟩
  refine wpAny_Call_method_late hbase hfew hline rfl (thn (ho.run pins s σ H _ I h) fun v s1 ⟨x, H1, I1, r1, ty, q1⟩ => ?_)
  have h12 : s1.TypeIs v "tuple" ∧ ∀ a, v = .ref a → ∃ ob, s1.heap.get? a = some ob ∧ ob.dict = none := by
    obtain ⟨p, ob, xs, rfl, hp, hc, hd⟩ := ty
    cases r1
    obtain ⟨eo, _⟩ := I1.hok p _ hp
    refine ⟨⟨ob, eo, hc⟩, fun a e => ?_⟩
    cases e
    exact ⟨ob, eo, hd⟩
  refine ⟨"tuple", id, pa, slot, hty, h12.1, h12.2, ?_⟩
  have hA := ha.run cpos pins s1 σ H1 _ I1 q1
  rw [hs] at hA ⊢
  refine Calls.callWith_builtin (by show (false || (backTo cpos (starEach es X.env)).any (·.1)) = false; rw [hplain] <;> rfl) (Calls.evalArgs_plain ?_)
  exact thn hA fun us s2 ⟨vs, H2, I2, r2, q2⟩ => hm pins s2 σ H2 x vs v us Q I2 r1 r2 q2
end
theorem tupFrz {K : PySem.W.Frag} {H : Hp} {a : Addr} {o : Obj} {xs : List V} (h : H a = some (.frz o (.tup xs))) : SqT K H a xs := .inl (.inr ⟨o, h⟩)
end TK

namespace TK
open PySem PySem.Spec PyProof.Rows L2
def topS (i : Nat) : Stmt := PySem.Challenge.pw_turnsandkeys_k31_whole_rents_least.main.body.getD i (.Pass ⟨0, 0, 0, 0⟩)
abbrev s_is_name : Stmt := topS 8
theorem sc_is_name : FnScope ["word", "sign"] ["word"] (defScope s_is_name) := ⟨rfl, rfl, rfl, by decide +kernel, rfl, by decide +kernel, by decide +kernel⟩
abbrev s_check_size : Stmt := topS 9
theorem sc_check_size : FnScope ["size", "low", "high"] ["size", "low", "high"] (defScope s_check_size) := ⟨rfl, rfl, rfl, by decide +kernel, rfl, by decide +kernel, by decide +kernel⟩
abbrev s_check_range : Stmt := topS 10
theorem sc_check_range : FnScope ["number", "low", "high"] ["number", "low", "high"] (defScope s_check_range) := ⟨rfl, rfl, rfl, by decide +kernel, rfl, by decide +kernel, by decide +kernel⟩
abbrev s_check_bidders : Stmt := topS 12
theorem sc_check_bidders : FnScope ["bidders", "at", "name", "weight", "bid"] ["bidders"] (defScope s_check_bidders) := ⟨rfl, rfl, rfl, by decide +kernel, rfl, by decide +kernel, by decide +kernel⟩
abbrev s_check : Stmt := topS 13
theorem sc_check : FnScope ["bidders", "hours", "floor"] ["bidders", "hours", "floor"] (defScope s_check) := ⟨rfl, rfl, rfl, by decide +kernel, rfl, by decide +kernel, by decide +kernel⟩
abbrev s_names : Stmt := topS 14
theorem sc_names : FnScope ["bidders", "bidder"] ["bidders"] (defScope s_names) := ⟨rfl, rfl, rfl, by decide +kernel, rfl, by decide +kernel, by decide +kernel⟩
abbrev s_strength : Stmt := topS 15
theorem sc_strength : FnScope ["bidder", "_", "weight", "bid"] ["bidder"] (defScope s_strength) := ⟨rfl, rfl, rfl, by decide +kernel, rfl, by decide +kernel, by decide +kernel⟩
abbrev s_weakness : Stmt := topS 16
theorem sc_weakness : FnScope ["bidder"] ["bidder"] (defScope s_weakness) := ⟨rfl, rfl, rfl, by decide +kernel, rfl, by decide +kernel, by decide +kernel⟩
abbrev s_ranked : Stmt := topS 17
theorem sc_ranked : FnScope ["bidders"] ["bidders"] (defScope s_ranked) := ⟨rfl, rfl, rfl, by decide +kernel, rfl, by decide +kernel, by decide +kernel⟩
abbrev s_ladder : Stmt := topS 18
theorem sc_ladder : FnScope ["bidders", "hours", "floor", "bidder"] ["bidders", "hours", "floor"] (defScope s_ladder) := ⟨rfl, rfl, rfl, by decide +kernel, rfl, by decide +kernel, by decide +kernel⟩
abbrev s_dearest : Stmt := topS 21
theorem sc_dearest : FnScope ["bidders", "rates", "floor", "names", "guests", "takers", "strengths", "total", "bidder", "rate", "taker"] ["bidders", "rates", "floor"] (defScope s_dearest) := ⟨rfl, rfl, rfl, by decide +kernel, rfl, by decide +kernel, by decide +kernel⟩
abbrev s_check_rates : Stmt := topS 22
theorem sc_check_rates : FnScope ["rates", "highest", "rate"] ["rates"] (defScope s_check_rates) := ⟨rfl, rfl, rfl, by decide +kernel, rfl, by decide +kernel, by decide +kernel⟩
abbrev s_rents : Stmt := topS 23
theorem sc_rents : FnScope ["bidders", "rates", "floor", "strengths", "rents", "rent", "next_rate", "hour", "rival", "bidder"] ["bidders", "rates", "floor"] (defScope s_rents) := ⟨rfl, rfl, rfl, by decide +kernel, rfl, by decide +kernel, by decide +kernel⟩
abbrev s_L_cell : Stmt := topS 25
theorem sc_L_cell : FnScope ["_law_script", "_law_k", "_law_far_here", "_law_j"] ["_law_script", "_law_k"] (defScope s_L_cell) := ⟨rfl, rfl, rfl, by decide +kernel, rfl, by decide +kernel, by decide +kernel⟩
abbrev s_L_mixed : Stmt := topS 26
theorem sc_L_mixed : FnScope ["_law_cell_here", "_law_k", "_law_x"] ["_law_cell_here", "_law_k"] (defScope s_L_mixed) := ⟨rfl, rfl, rfl, by decide +kernel, rfl, by decide +kernel, by decide +kernel⟩
abbrev s_L_pool : Stmt := topS 27
theorem sc_L_pool : FnScope ["_law_cell_here", "_law_number", "_law_rest", "_law_deep", "_law_pool_here", "_law_k"] ["_law_cell_here", "_law_number"] (defScope s_L_pool) := ⟨rfl, rfl, rfl, by decide +kernel, rfl, by decide +kernel, by decide +kernel⟩
abbrev s_L_part : Stmt := topS 28
theorem sc_L_part : FnScope ["_law_pool_here", "_law_spot", "_law_under", "_law_size"] ["_law_pool_here", "_law_spot", "_law_under", "_law_size"] (defScope s_L_part) := ⟨rfl, rfl, rfl, by decide +kernel, rfl, by decide +kernel, by decide +kernel⟩
abbrev s_L_names : Stmt := topS 29
theorem sc_L_names : FnScope ["_law_pool_here", "_law_spot", "_law_number", "_law_letters", "_law_stem", "_law_k", "_law_turn", "_law_cut", "_law_first", "_law_short", "_law_tail", "_law_names_here", "_law_mark"] ["_law_pool_here", "_law_spot", "_law_number"] (defScope s_L_names) := ⟨rfl, rfl, rfl, by decide +kernel, rfl, by decide +kernel, by decide +kernel⟩
abbrev s_L_far : Stmt := topS 30
theorem sc_L_far : FnScope ["_law_pool_here", "_law_spot", "_law_number", "_law_far_here", "_law_k"] ["_law_pool_here", "_law_spot", "_law_number"] (defScope s_L_far) := ⟨rfl, rfl, rfl, by decide +kernel, rfl, by decide +kernel, by decide +kernel⟩
abbrev s_L_chosen : Stmt := topS 31
theorem sc_L_chosen : FnScope ["_law_pool_here", "_law_spot", "_law_under", "_law_small", "_law_crest", "_law_whole", "_law_way", "_law_near_here"] ["_law_pool_here", "_law_spot", "_law_under", "_law_small", "_law_crest", "_law_whole"] (defScope s_L_chosen) := ⟨rfl, rfl, rfl, by decide +kernel, rfl, by decide +kernel, by decide +kernel⟩
abbrev s_L_bidders : Stmt := topS 32
theorem sc_L_bidders : FnScope ["_law_pool_here", "_law_spot", "_law_number", "_law_names_here", "_law_crew", "_law_k", "_law_place", "_law_weight", "_law_bid"] ["_law_pool_here", "_law_spot", "_law_number"] (defScope s_L_bidders) := ⟨rfl, rfl, rfl, by decide +kernel, rfl, by decide +kernel, by decide +kernel⟩
abbrev s_L_sill : Stmt := topS 33
theorem sc_L_sill : FnScope ["_law_pool_here", "_law_spot", "_law_crew", "_law_way", "_law_near_here", "_law_name", "_law_weight", "_law_bid"] ["_law_pool_here", "_law_spot", "_law_crew"] (defScope s_L_sill) := ⟨rfl, rfl, rfl, by decide +kernel, rfl, by decide +kernel, by decide +kernel⟩
abbrev s_L_scale : Stmt := topS 34
theorem sc_L_scale : FnScope ["_law_pool_here", "_law_spot", "_law_number", "_law_row", "_law_k", "_law_place"] ["_law_pool_here", "_law_spot", "_law_number"] (defScope s_L_scale) := ⟨rfl, rfl, rfl, by decide +kernel, rfl, by decide +kernel, by decide +kernel⟩
abbrev s_L_ladder : Stmt := topS 35
theorem sc_L_ladder : FnScope ["_law_crew", "_law_slots", "_law_sill_here", "_law_loads", "_law_names_here", "_law_rank", "_law_k", "_law_ahead", "_law_name", "_law_weight", "_law_bid", "_law_j"] ["_law_crew", "_law_slots", "_law_sill_here"] (defScope s_L_ladder) := ⟨rfl, rfl, rfl, by decide +kernel, rfl, by decide +kernel, by decide +kernel⟩
abbrev s_L_behind : Stmt := topS 36
theorem sc_L_behind : FnScope ["_law_crew", "_law_rank", "_law_sill_here", "_law_loads", "_law_k", "_law_ahead", "_law_name", "_law_weight", "_law_bid", "_law_j"] ["_law_crew", "_law_rank", "_law_sill_here"] (defScope s_L_behind) := ⟨rfl, rfl, rfl, by decide +kernel, rfl, by decide +kernel, by decide +kernel⟩
abbrev s_L_least_rents : Stmt := topS 37
theorem sc_L_least_rents : FnScope ["_law_crew", "_law_scale_here", "_law_sill_here", "_law_rents", "_law_j", "_law_whole", "_law_k"] ["_law_crew", "_law_scale_here", "_law_sill_here"] (defScope s_L_least_rents) := ⟨rfl, rfl, rfl, by decide +kernel, rfl, by decide +kernel, by decide +kernel⟩
abbrev s_L_share : Stmt := topS 38
theorem sc_L_share : FnScope ["_law_pool_here", "_law_spot", "_law_span", "_law_way"] ["_law_pool_here", "_law_spot", "_law_span"] (defScope s_L_share) := ⟨rfl, rfl, rfl, by decide +kernel, rfl, by decide +kernel, by decide +kernel⟩
abbrev s_L_others : Stmt := topS 39
theorem sc_L_others : FnScope ["_law_pool_here", "_law_crew", "_law_scale_here", "_law_sill_here", "_law_number", "_law_rents", "_law_k", "_law_j", "_law_fall", "_law_low", "_law_span", "_law_rate"] ["_law_pool_here", "_law_crew", "_law_scale_here", "_law_sill_here"] (defScope s_L_others) := ⟨rfl, rfl, rfl, by decide +kernel, rfl, by decide +kernel, by decide +kernel⟩
abbrev s_L_near : Stmt := topS 40
theorem sc_L_near : FnScope ["_law_rents", "_law_rows", "_law_j", "_law_step", "_law_row"] ["_law_rents"] (defScope s_L_near) := ⟨rfl, rfl, rfl, by decide +kernel, rfl, by decide +kernel, by decide +kernel⟩
abbrev s_L_holds : Stmt := topS 41
theorem sc_L_holds : FnScope ["_law_rents", "_law_crew", "_law_scale_here", "_law_sill_here", "_law_names_here", "_law_name", "_law_weight", "_law_bid", "_law_own", "_law_spot", "_law_k"] ["_law_rents", "_law_crew", "_law_scale_here", "_law_sill_here"] (defScope s_L_holds) := ⟨rfl, rfl, rfl, by decide +kernel, rfl, by decide +kernel, by decide +kernel⟩
abbrev s_L_none_less : Stmt := topS 42
theorem sc_L_none_less : FnScope ["_law_rents", "_law_rows", "_law_crew", "_law_scale_here", "_law_sill_here", "_law_row", "_law_k"] ["_law_rents", "_law_rows", "_law_crew", "_law_scale_here", "_law_sill_here"] (defScope s_L_none_less) := ⟨rfl, rfl, rfl, by decide +kernel, rfl, by decide +kernel, by decide +kernel⟩
abbrev s_L_integer : Stmt := topS 43
theorem sc_L_integer : FnScope ["_law_got"] ["_law_got"] (defScope s_L_integer) := ⟨rfl, rfl, rfl, by decide +kernel, rfl, by decide +kernel, by decide +kernel⟩
abbrev s_L_same : Stmt := topS 44
theorem sc_L_same : FnScope ["_law_got", "_law_wanted", "_law_k"] ["_law_got", "_law_wanted"] (defScope s_L_same) := ⟨rfl, rfl, rfl, by decide +kernel, rfl, by decide +kernel, by decide +kernel⟩
abbrev s_law : Stmt := topS 45
theorem sc_law : FnScope ["_law_script", "_law_rest", "_law_crew", "_law_scale_here", "_law_sill_here", "_law_wanted", "_law_got", "_law_pool_here", "_law_others_here", "_law_free", "_law_rows", "_law_k"] ["_law_script"] (defScope s_law) := ⟨rfl, rfl, rfl, by decide +kernel, rfl, by decide +kernel, by decide +kernel⟩
abbrev s_Allot : Stmt := inClass (topS 20) 0
theorem sc_Allot : FnScope ["self", "takers", "total", "rents"] ["self", "takers", "total", "rents"] (defScope s_Allot) := ⟨rfl, rfl, rfl, by decide +kernel, rfl, by decide +kernel, by decide +kernel⟩
end TK

namespace TK
open PySem PySem.Spec PyProof.Rows L2
section
variable {P : Program} {w : World} {K : PySem.W.Frag} {mg : Str → Option Value} {base : Heap}
/-! check_size, check_range -/
def spRange : Sp := fun vs H Q _ => ∃ a lo hi : Int, vs = [.int a, .int lo, .int hi] ∧ lo ≤ a ∧ a ≤ hi ∧ Q .non H
theorem ok_check_size {f : Addr} {fd : FuncData} (F : Fun K "check_size" "check_size" s_check_size f fd) : FnOk P w K mg base CX0 1 f fd ["size", "low", "high"] spRange := by
  refine F.ok sc_check_size (fun vs H Q E h => ?_) (fun cdv A outer s H vs Q E hr h => ?_)
  · obtain ⟨a, lo, hi, rfl, _⟩ := h
    rfl
  · obtain ⟨a, lo, hi, rfl, h1, h2, q⟩ := h
    refine ⟨_, (pss_one (ps_if (pt_not (pt_chain op_le op_le (pv 1) (pv 0) (pv 2))) (pss_one ps_never) pss_nil)), ?_⟩
    refine ⟨_, rfl, _, rfl, _, _, rfl, rfl, _, rfl, ?_⟩
    rw [decide_eq_true h1]
    refine iteT ⟨_, rfl, _, _, rfl, rfl, _, rfl, ?_⟩
    rw [decide_eq_true h2]
    exact iteF q
theorem ok_check_range {f : Addr} {fd : FuncData} (F : Fun K "check_range" "check_range" s_check_range f fd) : FnOk P w K mg base CX0 1 f fd ["number", "low", "high"] spRange := by
  refine F.ok sc_check_range (fun vs H Q E h => ?_) (fun cdv A outer s H vs Q E hr h => ?_)
  · obtain ⟨a, lo, hi, rfl, _⟩ := h
    rfl
  · obtain ⟨a, lo, hi, rfl, h1, h2, q⟩ := h
    refine ⟨_, (pss_one (ps_if (pt_not (pt_chain op_le op_le (pv 1) (pv 0) (pv 2))) (pss_one ps_never) pss_nil)), ?_⟩
    refine ⟨_, rfl, _, rfl, _, _, rfl, rfl, _, rfl, ?_⟩
    rw [decide_eq_true h1]
    refine iteT ⟨_, rfl, _, _, rfl, rfl, _, rfl, ?_⟩
    rw [decide_eq_true h2]
    exact iteF q
theorem pz {n : Nat} : (0 : Int) < ((n + 1 : Nat) : Int) := by omega
theorem mb {a : Int} {n : Nat} (h : n + 1 ≤ 2 ^ 63) : -(2 ^ 64) < a % ((n + 1 : Nat) : Int) ∧ a % ((n + 1 : Nat) : Int) < 2 ^ 64 := by
  have h1 := Int.emod_nonneg a (b := ((n + 1 : Nat) : Int)) (by omega)
  have h2 := Int.emod_lt_of_pos a (b := ((n + 1 : Nat) : Int)) (by omega)
  omega
/-! _law_part -/
def partOf (ns : List Int) (s u z : Int) : Int := ns.getD s.toNat 0 / u % z
def spPart (K : PySem.W.Frag) : Sp := fun vs H Q _ => ∃ (a : Addr) (ns : List Int) (s u z : Int), vs = [.ref a, .int s, .int u, .int z] ∧ SqL K H a (ns.map V.int) ∧ 0 ≤ s ∧ s < ns.length ∧ 0 < u ∧ u < 1000000 ∧ 0 < z ∧ Q (.int (partOf ns s u z)) H
theorem get_int {ns : List Int} {s : Int} (h0 : 0 ≤ s) (h : s < ns.length) : atI (ns.map V.int) s = some (.int (ns.getD s.toNat 0)) := by
  have h1 : s.toNat < ns.length := by omega
  refine atI_in h0 ?_
  rw [List.getElem?_map, List.getElem?_eq_getElem h1, List.getD_eq_getElem?_getD, List.getElem?_eq_getElem h1]
  rfl
theorem ok_L_part {f : Addr} {fd : FuncData} (F : Fun K "_law_part" "_law_part" s_L_part f fd) (m_int : mg "int" = none) : FnOk P w K mg base CX0 1 f fd ["_law_pool_here", "_law_spot", "_law_under", "_law_size"] (spPart K) := by
  refine F.ok sc_L_part (fun vs H Q E h => ?_) (fun cdv A outer s H vs Q E hr h => ?_)
  · obtain ⟨a, ns, s, u, z, rfl, _⟩ := h
    rfl
  · obtain ⟨a, ns, s, u, z, rfl, hS, h0, h1, h2, h3, h4, q⟩ := h
    refine ⟨_, (pss_one (ps_ret (pe_op op_mod (pe_op op_fdiv (pe_callTy call_int1 (by rfl) m_int (by decide +kernel) (pa_cons (pe_ix ix_list (pv 0) (pv 1) (fun _ _ => rfl)) pa_nil)) (pv 2)) (pv 3)))), ?_⟩
    refine ⟨_, rfl, _, rfl, _, _, _, _, rfl, rfl, hS, get_int h0 h1, .inl ⟨_, rfl, _, rfl, _, _, rfl, rfl, ⟨h2, by omega⟩, _, rfl, _, _, rfl, rfl, h4, ?_⟩⟩
    exact q
theorem part_lo {ns : List Int} {s u z : Int} (h : 0 < z) : 0 ≤ partOf ns s u z := Int.emod_nonneg _ (by omega)
theorem part_hi {ns : List Int} {s u z : Int} (h : 0 < z) : partOf ns s u z < z := Int.emod_lt_of_pos _ h
/-! _law_mixed -/
def spMixed : Sp := fun vs H Q _ => ∃ c k : Int, vs = [.int c, .int k] ∧ 0 ≤ k ∧ k < 1000000 ∧ ∀ r : Int, 0 ≤ r → Q (.int r) H
theorem ok_L_mixed {f : Addr} {fd : FuncData} (F : Fun K "_law_mixed" "_law_mixed" s_L_mixed f fd) (m_abs : mg "abs" = none) : FnOk P w K mg base CX0 1 f fd ["_law_cell_here", "_law_k"] spMixed := by
  refine F.ok sc_L_mixed (fun vs H Q E h => ?_) (fun cdv A outer s H vs Q E hr h => ?_)
  · obtain ⟨c, k, rfl, _⟩ := h
    rfl
  · obtain ⟨c, k, rfl, h0, h1, q⟩ := h
    refine ⟨_, (pss_cons (ps_set (i := 2) sc_L_mixed.nd rfl (.inl rfl) (pe_op op_mod (pe_op op_add (pe_op op_mul (pe_op op_mod (pe_callB call_abs (by rfl) m_abs (by decide +kernel) (pa_cons (pv 0) pa_nil)) pe_int) pe_int) (pe_op op_mul (pe_op op_add (pv 1) pe_int) pe_int)) pe_int))
  (pss_cons (ps_set (i := 2) sc_L_mixed.nd rfl (.inl rfl) (pe_op op_mod (pe_op op_add (pe_op op_mul (pv 2) (pe_op op_add (pe_op op_mod (pv 2) pe_int) pe_int)) (pe_op op_mul (pe_op op_add (pv 1) pe_int) pe_int)) pe_int))
  (pss_cons (ps_set (i := 2) sc_L_mixed.nd rfl (.inl rfl) (pe_op op_mod (pe_op op_mul (pv 2) (pe_op op_add (pe_op op_mod (pv 2) pe_int) pe_int)) pe_int))
  (pss_one (ps_ret (pe_op op_fdiv (pv 2) pe_int)))))), ?_⟩
    refine ⟨_, rfl, _, rfl, _, _, rfl, rfl, pz, _, _, rfl, rfl, .inr (by decide), _, rfl, _, _, rfl, rfl, _, _, rfl, rfl, .inr (by decide), _, _, rfl, rfl, _, _, rfl, rfl, pz, ?_⟩
    refine ⟨_, rfl, _, rfl, _, _, rfl, rfl, pz, _, _, rfl, rfl, _, _, rfl, rfl, .inl (mb (by decide)), _, rfl, _, _, rfl, rfl, _, _, rfl, rfl, .inr (by decide), _, _, rfl, rfl, _, _, rfl, rfl, pz, ?_⟩
    refine ⟨_, rfl, _, rfl, _, _, rfl, rfl, pz, _, _, rfl, rfl, _, _, rfl, rfl, .inl (mb (by decide)), _, _, rfl, rfl, pz, _, rfl, _, _, rfl, rfl, ⟨by decide, by decide⟩, ?_⟩
    exact q _ (Int.ediv_nonneg (Int.emod_nonneg _ (by decide)) (by decide))
/-! _law_cell -/
def spCellA (K : PySem.W.Frag) : Sp := fun vs H Q _ => ∃ (a : Addr) (ns : List Int) (k : Int), vs = [.ref a, .int k] ∧ SqL K H a (ns.map V.int) ∧ 0 ≤ k ∧ k < 1000 ∧ ns.length ≤ 1000 ∧ ∀ r : Int, Q (.int r) H
theorem ok_L_cell {f : Addr} {fd : FuncData} (F : Fun K "_law_cell" "_law_cell" s_L_cell f fd) (m_len : mg "len" = none) (m_range : mg "range" = none) (m_abs : mg "abs" = none) : FnOk P w K mg base CX0 1 f fd ["_law_script", "_law_k"] (spCellA K) := by
  refine F.ok sc_L_cell (fun vs H Q E h => ?_) (fun cdv A outer s H vs Q E hr h => ?_)
  · obtain ⟨a, ns, k, rfl, _⟩ := h
    rfl
  · obtain ⟨a, ns, k, rfl, hS, h0, h1, h2, q⟩ := h
    refine ⟨_, (pss_cons (ps_if (pt_cmpR op_lt (pv 1) (pe_callB call_len_seq (by rfl) m_len (by decide +kernel) (pa_cons (pv 0) pa_nil)) (nomark _)) (pss_one (ps_ret (pe_ix ix_list (pv 0) (pv 1) (fun _ _ => rfl)))) pss_nil)
  (pss_cons (ps_set (i := 2) sc_L_cell.nd rfl (.inl rfl) (pe_op op_mul pe_int (pe_op op_add (pv 1) pe_int)))
  (pss_cons (ps_for PassesOwn.never rfl (pi_range1 (by rfl) m_range (pa_cons (pe_callB call_len_seq (by rfl) m_len (by decide +kernel) (pa_cons (pv 0) pa_nil)) pa_nil)) (pg_name (i := 3) sc_L_cell.nd rfl (.inl rfl))
    (pss_one (ps_set (i := 2) sc_L_cell.nd rfl (.inl rfl) (pe_op op_mod (pe_op op_add (pv 2) (pe_op op_mul (pe_op op_mul (pe_op op_add (pv 3) pe_int) (pe_op op_mod (pe_callB call_abs (by rfl) m_abs (by decide +kernel) (pa_cons (pe_ix ix_list (pv 0) (pv 3) (fun _ _ => rfl)) pa_nil)) pe_int)) pe_int)) pe_int))))
  (pss_one (ps_ret (pv 2)))))), ?_⟩
    refine ⟨_, rfl, _, rfl, _, _, rfl, .inl hS, _, _, rfl, rfl, _, rfl, ite2 (fun e => ?_) (fun e => ?_)⟩
    · have e1 : k < ((ns.map V.int).length : Nat) := of_decide_eq_true e
      rw [List.length_map] at e1
      exact ⟨_, rfl, _, rfl, _, _, _, _, rfl, rfl, hS, get_int h0 e1, q _⟩
    · refine ⟨_, rfl, _, _, rfl, rfl, _, _, rfl, rfl, .inl (by decide), ?_⟩
      refine ⟨_, rfl, _, _, rfl, .inl hS, _, rfl, by omega, by rw [List.length_map]; omega, for_range (fun i σ H' => H' = H ∧ ∃ (r : Int) (y : Option V), σ = [some (.ref a), some (.int k), some (.int r), y]) ⟨rfl, _, _, rfl⟩ ?_ ?_⟩
      · rintro i σ H' hi ⟨rfl, r, y, rfl⟩
        rw [List.length_map] at hi
        have hi' : i < ns.length := by omega
        refine ⟨_, rfl, _, rfl, _, _, rfl, rfl, _, rfl, _, rfl, _, _, _, _, rfl, rfl, hS, get_int (by omega) (by omega), _, rfl, _, _, rfl, rfl, pz, _, _, rfl, rfl, .inr (mb (by decide)), _, _, rfl, rfl, .inr (by decide), _, _, rfl, rfl, _, _, rfl, rfl, pz, rfl, _, _, rfl⟩
      · rintro σ H' ⟨rfl, r, y, rfl⟩
        exact ⟨_, rfl, q _⟩
end
end TK

namespace TK
open PySem PySem.Spec PyProof.Rows L2
theorem upd_twice {H : Hp} {p : Addr} {a b : HO} : upd (upd H p a) p b = upd H p b := by
  funext x
  unfold upd
  by_cases e : x = p
  · rw [if_pos e, if_pos e]
  · rw [if_neg e, if_neg e, if_neg e]
section
variable {P : Program} {w : World} {K : PySem.W.Frag} {mg : Str → Option Value} {base : Heap}
/-! _law_pool -/
def spPool : Sp := fun vs H Q _ => ∃ (c n : Int), vs = [.int c, .int n] ∧ 0 ≤ n ∧ n ≤ 1000 ∧ ∀ (p : Addr) (ns : List Int), H p = none → (ns.length : Int) = n → (∀ x ∈ ns, 0 ≤ x) → Q (.ref p) (upd H p (.lst (ns.map V.int)))
theorem ok_L_pool {f : Addr} {fd : FuncData} (F : Fun K "_law_pool" "_law_pool" s_L_pool f fd) (m_range : mg "range" = none) (m_abs : mg "abs" = none) (d_L_mixed : Def P w K mg base "_law_mixed" 1 ["_law_cell_here", "_law_k"] spMixed) : FnOk P w K mg base CX0 2 f fd ["_law_cell_here", "_law_number"] spPool := by
  refine F.ok sc_L_pool (fun vs H Q E h => ?_) (fun cdv A outer s H vs Q E hr h => ?_)
  · obtain ⟨c, n, rfl, _⟩ := h
    rfl
  · obtain ⟨c, n, rfl, h0, h1, q⟩ := h
    refine ⟨_, (pss_cons (ps_set (i := 2) sc_L_pool.nd rfl (.inl rfl) (pe_callB call_abs (by rfl) m_abs (by decide +kernel) (pa_cons (pv 0) pa_nil)))
  (pss_cons (ps_set (i := 3) sc_L_pool.nd rfl (.inl rfl) (pe_cmpR op_ge (pv 2) (pe_op op_pow pe_int pe_int) (nomark _)))
  (pss_cons (ps_set (i := 4) sc_L_pool.nd rfl (.inl rfl) (pe_lst pa_nil))
  (pss_cons (ps_for PassesOwn.never rfl (pi_range1 (by rfl) m_range (pa_cons (pv 1) pa_nil)) (pg_name (i := 5) sc_L_pool.nd rfl (.inl rfl))
    (pss_one (ps_if (PW.pt (pw_and (pt_val (pv 3)) (pw_and1 (pt_cmpR op_gt (pv 2) pe_int (nomark _))))) (pss_cons (ps_expr (pe_bm PySem.F.plainAttrs_list PySem.F.slot_list_append PySem.F.type_list_append mt_append (pv 4) (pa_cons (pe_op op_mod (pv 2) pe_int) pa_nil)))
  (pss_one (ps_set (i := 2) sc_L_pool.nd rfl (.inl rfl) (pe_op op_fdiv (pv 2) pe_int)))) (pss_one (ps_expr (pe_bm PySem.F.plainAttrs_list PySem.F.slot_list_append PySem.F.type_list_append mt_append (pv 4) (pa_cons (pe_callD d_L_mixed (hr.mono (by decide)) (by rfl) (pa_cons (pv 0) (pa_cons (pv 5) pa_nil))) pa_nil)))))))
  (pss_one (ps_ret (pv 4))))))), ?_⟩
    have ha : 0 ≤ (if c < 0 then -c else c) := by split <;> omega
    refine ⟨_, rfl, _, rfl, _, rfl, _, _, rfl, rfl, ⟨by decide, by decide, by decide⟩, _, _, rfl, rfl, ?_⟩
    refine ⟨Nat.zero_le _, fun p np => ?_⟩
    refine ⟨_, rfl, _, rfl, by omega, by omega, for_range (fun i σ H' => ∃ (r : Int) (b : Bool) (ns : List Int) (y : Option V), σ = [some (.int c), some (.int n), some (.int r), some (.bl b), some (.ref p), y] ∧ 0 ≤ r ∧ ns.length = i ∧ (∀ x ∈ ns, 0 ≤ x) ∧ H' = upd H p (.lst (ns.map V.int))) ⟨_, _, [], _, rfl, ha, rfl, (fun x hx => nomatch hx), rfl⟩ ?_ ?_⟩
    · rintro i σ H' hi ⟨r, b, ns, y, rfl, r0, hl, hx, rfl⟩
      have hz : (ns.map V.int).length < sizeLine := by rw [List.length_map]; exact small1000 (by omega)
      refine ⟨_, rfl, _, rfl, ite2 (fun e => ?_) (fun e => ?_)⟩
      · refine ⟨_, rfl, _, _, rfl, rfl, _, rfl, ite2 (fun e => ?_) (fun e => ?_)⟩
        · refine ⟨_, rfl, .inl ⟨rfl, _, lstAt upd_same⟩, _, rfl, _, _, rfl, rfl, pz, _, _, _, rfl, rfl, upd_same, hz, ?_⟩
          refine ⟨_, rfl, _, _, rfl, rfl, ⟨by decide, by decide⟩, ?_⟩
          refine ⟨_, b, ns ++ [r % 5040], _, rfl, Int.ediv_nonneg r0 (by decide), by rw [List.length_append, hl]; rfl, ?_, ?_⟩
          · intro x h
            rcases List.mem_append.mp h with h | h
            · exact hx x h
            · cases List.mem_singleton.mp h; exact Int.emod_nonneg _ (by decide)
          · rw [upd_twice, List.map_append]; rfl
        · refine ⟨_, rfl, .inl ⟨rfl, _, lstAt upd_same⟩, _, rfl, _, rfl, _, _, rfl, by omega, by omega, fun z z0 => ⟨_, _, _, rfl, rfl, upd_same, hz, r, b, ns ++ [z], _, rfl, r0, by rw [List.length_append, hl]; rfl, ?_, ?_⟩⟩
          · intro x h
            rcases List.mem_append.mp h with h | h
            · exact hx x h
            · cases List.mem_singleton.mp h; exact z0
          · rw [upd_twice, List.map_append]; rfl
      · refine iteF ?_
        refine ⟨_, rfl, .inl ⟨rfl, _, lstAt upd_same⟩, _, rfl, _, rfl, _, _, rfl, by omega, by omega, fun z z0 => ⟨_, _, _, rfl, rfl, upd_same, hz, r, b, ns ++ [z], _, rfl, r0, by rw [List.length_append, hl]; rfl, ?_, ?_⟩⟩
        · intro x h
          rcases List.mem_append.mp h with h | h
          · exact hx x h
          · cases List.mem_singleton.mp h; exact z0
        · rw [upd_twice, List.map_append]; rfl
    · rintro σ H' ⟨r, b, ns, y, rfl, r0, hl, hx, rfl⟩
      exact ⟨_, rfl, q p ns np (by omega) hx⟩
/-! _law_far -/
def spFar (K : PySem.W.Frag) : Sp := fun vs H Q _ => ∃ (a : Addr) (ns : List Int) (s n : Int), vs = [.ref a, .int s, .int n] ∧ SqL K H a (ns.map V.int) ∧ 0 ≤ s ∧ 0 ≤ n ∧ n ≤ 1000 ∧ s + n ≤ ns.length ∧ ∀ r : Int, 0 ≤ r → Q (.int r) H
theorem ok_L_far {f : Addr} {fd : FuncData} (F : Fun K "_law_far" "_law_far" s_L_far f fd) (m_range : mg "range" = none) (m_int : mg "int" = none) : FnOk P w K mg base CX0 1 f fd ["_law_pool_here", "_law_spot", "_law_number"] (spFar K) := by
  refine F.ok sc_L_far (fun vs H Q E h => ?_) (fun cdv A outer s H vs Q E hr h => ?_)
  · obtain ⟨a, ns, s, n, rfl, _⟩ := h
    rfl
  · obtain ⟨a, ns, s, n, rfl, hS, h0, h1, h2, h3, q⟩ := h
    refine ⟨_, (pss_cons (ps_set (i := 3) sc_L_far.nd rfl (.inl rfl) pe_int)
  (pss_cons (ps_for PassesOwn.never rfl (pi_range1 (by rfl) m_range (pa_cons (pv 2) pa_nil)) (pg_name (i := 4) sc_L_far.nd rfl (.inl rfl))
    (pss_one (ps_set (i := 3) sc_L_far.nd rfl (.inl rfl) (pe_op op_add (pe_op op_mul (pv 3) pe_int) (pe_op op_mod (pe_callTy call_int1 (by rfl) m_int (by decide +kernel) (pa_cons (pe_ix ix_list (pv 0) (pe_op op_add (pv 1) (pv 4)) (fun _ _ => rfl)) pa_nil)) pe_int)))))
  (pss_one (ps_ret (pv 3))))), ?_⟩
    refine ⟨_, rfl, _, rfl, by omega, by omega, for_range (fun i σ H' => H' = H ∧ ∃ (r : Int) (y : Option V), σ = [some (.ref a), some (.int s), some (.int n), some (.int r), y] ∧ 0 ≤ r) ⟨rfl, _, _, rfl, by decide⟩ ?_ ?_⟩
    · rintro i σ H' hi ⟨rfl, r, y, rfl, r0⟩
      refine ⟨_, rfl, _, _, rfl, rfl, .inr (by decide), _, rfl, _, rfl, _, rfl, _, _, rfl, rfl, _, _, _, _, rfl, rfl, hS, get_int (by omega) (by omega), .inl ⟨_, rfl, _, _, rfl, rfl, pz, _, _, rfl, rfl, rfl, _, _, rfl, ?_⟩⟩
      exact Int.add_nonneg (Int.mul_nonneg r0 (by decide)) (Int.emod_nonneg _ (by decide))
    · rintro σ H' ⟨rfl, r, y, rfl, r0⟩
      exact ⟨_, rfl, q _ r0⟩
/-! _law_chosen: from 0 to the crest -/
def spChosen (K : PySem.W.Frag) : Sp := fun vs H Q _ => ∃ (a : Addr) (ns : List Int) (s u z c wh : Int), vs = [.ref a, .int s, .int u, .int z, .int c, .int wh] ∧ SqL K H a (ns.map V.int) ∧ 0 ≤ s ∧ s < ns.length ∧ 0 < u ∧ u < 1000 ∧ 0 < z ∧ z ≤ c ∧ ∀ r : Int, 0 ≤ r → r ≤ c → Q (.int r) H
theorem ok_L_chosen {f : Addr} {fd : FuncData} (F : Fun K "_law_chosen" "_law_chosen" s_L_chosen f fd) (m_int : mg "int" = none) (d_L_part : Def P w K mg base "_law_part" 1 ["_law_pool_here", "_law_spot", "_law_under", "_law_size"] (spPart K)) : FnOk P w K mg base CX0 2 f fd ["_law_pool_here", "_law_spot", "_law_under", "_law_small", "_law_crest", "_law_whole"] (spChosen K) := by
  refine F.ok sc_L_chosen (fun vs H Q E h => ?_) (fun cdv A outer s H vs Q E hr h => ?_)
  · obtain ⟨a, ns, s, u, z, c, wh, rfl, _⟩ := h
    rfl
  · obtain ⟨a, ns, s, u, z, c, wh, rfl, hS, h0, h1, h2, h3, h4, h5, q⟩ := h
    refine ⟨_, (pss_cons (ps_set (i := 6) sc_L_chosen.nd rfl (.inl rfl) (pe_callD d_L_part (hr.mono (by decide)) (by rfl) (pa_cons (pv 0) (pa_cons (pv 1) (pa_cons (pv 2) (pa_cons pe_int pa_nil))))))
  (pss_cons (ps_set (i := 7) sc_L_chosen.nd rfl (.inl rfl) (pe_callD d_L_part (hr.mono (by decide)) (by rfl) (pa_cons (pv 0) (pa_cons (pv 1) (pa_cons (pe_op op_mul pe_int (pv 2)) (pa_cons (pv 3) pa_nil))))))
  (pss_cons (ps_if (pt_cmpR op_eq (pv 6) pe_int (nomark _)) (pss_one (ps_ret (pe_op op_sub (pv 4) (pv 7)))) pss_nil)
  (pss_cons (ps_if (pt_cmpR op_eq (pv 6) pe_int (nomark _)) (pss_one (ps_ret (pe_op op_mod (pe_callTy call_int1 (by rfl) m_int (by decide +kernel) (pa_cons (pv 5) pa_nil)) (pe_op op_add (pv 4) pe_int)))) pss_nil)
  (pss_one (ps_ret (pv 7))))))), ?_⟩
    refine ⟨_, rfl, _, rfl, _, rfl, _, _, _, _, _, rfl, hS, h0, h1, h2, by omega, by decide, ?_⟩
    refine ⟨_, rfl, _, rfl, _, rfl, _, _, rfl, rfl, .inl (by decide), _, rfl, _, _, _, _, _, rfl, hS, h0, h1, by omega, by omega, h4, ?_⟩
    have p0 := part_lo (ns := ns) (s := s) (u := 10 * u) h4
    have p1 := part_hi (ns := ns) (s := s) (u := 10 * u) h4
    refine ⟨_, rfl, rfl, _, rfl, ite2 (fun e => ?_) (fun e => ?_)⟩
    · exact ⟨_, rfl, _, rfl, _, _, rfl, rfl, q _ (by omega) (by omega)⟩
    · refine ⟨_, rfl, rfl, _, rfl, ite2 (fun e => ?_) (fun e => ?_)⟩
      · refine ⟨_, rfl, .inl ⟨_, rfl, _, rfl, _, _, rfl, rfl, _, _, rfl, rfl, show (0 : Int) < c + 1 by omega, q _ (Int.emod_nonneg _ (by omega)) ?_⟩⟩
        have := Int.emod_lt_of_pos wh (show (0 : Int) < c + 1 by omega)
        omega
      · exact ⟨_, rfl, q _ p0 (by omega)⟩
end
end TK

namespace TK
open PySem PySem.Spec PyProof.Rows L2
/-! ### texts as lists of codes -/
def sOf (l : List Nat) : Str := ⟨l.toArray⟩
theorem sOf_codes (l : List Nat) : (sOf l).cps.toList = l := rfl
theorem sOf_len (l : List Nat) : (sOf l).length = l.length := by simp [sOf, Str.length]
theorem sOf_app (a b : List Nat) : sOf a ++ sOf b = sOf (a ++ b) := by
  show (⟨a.toArray ++ b.toArray⟩ : Str) = ⟨(a ++ b).toArray⟩
  simp
theorem sOf_inj {a b : List Nat} (h : sOf a = sOf b) : a = b := by
  have := congrArg (fun z : Str => z.cps.toList) h
  exact this
theorem sOf_one (c : Nat) : (⟨#[c]⟩ : Str) = sOf [c] := rfl
theorem cut_to (l : List Nat) {m : Int} (h : 0 ≤ m) : cutS (sOf l) none (some m) = sOf (l.take m.toNat) := by
  obtain ⟨k, rfl⟩ : ∃ k : Nat, m = (k : Int) := ⟨m.toNat, by omega⟩
  unfold cutS
  rw [HT.sIx_none, HT.sIx_nat, sOf_len, sOf_codes, List.drop_zero, Nat.sub_zero, Int.toNat_natCast]
  show sOf _ = sOf _
  congr 1
  by_cases hk : k ≤ l.length
  · rw [Nat.min_eq_left hk]
  · rw [Nat.min_eq_right (by omega), List.take_of_length_le (by omega), List.take_of_length_le (by omega)]
theorem cut_from (l : List Nat) {m : Int} (h : 0 ≤ m) : cutS (sOf l) (some m) none = sOf (l.drop m.toNat) := by
  obtain ⟨k, rfl⟩ : ∃ k : Nat, m = (k : Int) := ⟨m.toNat, by omega⟩
  unfold cutS
  rw [HT.sIx_none, HT.sIx_nat, sOf_len, sOf_codes, Int.toNat_natCast]
  show sOf _ = sOf _
  congr 1
  by_cases hk : k ≤ l.length
  · rw [Nat.min_eq_left hk, List.take_of_length_le (by rw [List.length_drop]; omega)]
  · rw [Nat.min_eq_right (by omega), List.drop_of_length_le (by omega), List.drop_of_length_le (by omega), List.take_nil]
def lettersZ : Str := Str.ofString "abcdefghijklmnopqrstuvwxyz"
theorem letters_codes : lettersZ.cps.toList = (List.range 26).map (97 + ·) := by decide +kernel
theorem letters_len : lettersZ.length = 26 := by decide +kernel
theorem letter_at {i : Int} (h0 : 0 ≤ i) (h1 : i < 26) : atI lettersZ.cps.toList i = some (97 + i.toNat) := by
  refine atI_in h0 ?_
  rw [letters_codes, List.getElem?_map, List.getElem?_range (by omega)]
  rfl
def Let (l : List Nat) : Prop := ∀ c ∈ l, 97 ≤ c ∧ c ≤ 122
theorem Let.app {a b : List Nat} (h : Let a) (k : Let b) : Let (a ++ b) := fun c hc => by
  rcases List.mem_append.mp hc with e | e
  · exact h c e
  · exact k c e
theorem Let.one {n : Nat} (h : n < 26) : Let [97 + n] := fun c hc => by
  cases List.mem_singleton.mp hc
  omega
theorem Let.take {a : List Nat} (h : Let a) (n : Nat) : Let (a.take n) := fun c hc => h c (List.mem_of_mem_take hc)
theorem Let.drop {a : List Nat} (h : Let a) (n : Nat) : Let (a.drop n) := fun c hc => h c (List.mem_of_mem_drop hc)
/-- a name: 1 to 8 letters -/
def Nm (l : List Nat) : Prop := 1 ≤ l.length ∧ l.length ≤ 8 ∧ Let l
def nameF (b : Bool) (stem short tail : List Nat) (cut first turn : Nat) (k : Nat) : List Nat :=
  if b = true then short.take cut ++ [97 + (first + 7 * ((k + turn) % 6)) % 26] ++ short.drop cut ++ tail else stem.take ((k + turn) % 6 + 1)
theorem nameF_nm {b : Bool} {stem short tail : List Nat} {cut first turn k : Nat} (hs : stem.length = 6) (hsh : short.length ≤ 6) (ht : tail.length ≤ 1) (l1 : Let stem) (l2 : Let short) (l3 : Let tail) : Nm (nameF b stem short tail cut first turn k) := by
  unfold nameF
  cases b with
  | true =>
    rw [if_pos rfl]
    have e : (short.take cut).length + (short.drop cut).length = short.length := by rw [← List.length_append, List.take_append_drop]
    refine ⟨?_, ?_, (((l2.take _).app (.one (Nat.mod_lt _ (by decide)))).app (l2.drop _)).app l3⟩
    · simp only [List.length_append, List.length_cons, List.length_nil]; omega
    · simp only [List.length_append, List.length_cons, List.length_nil]; omega
  | false =>
    rw [if_neg (by decide)]
    have := Nat.mod_lt (k + turn) (show 6 > 0 by decide)
    exact ⟨by rw [List.length_take]; omega, by rw [List.length_take]; omega, l1.take _⟩
theorem nameF_inj {b : Bool} {stem short tail : List Nat} {cut first turn k j : Nat} (hs : stem.length = 6) (hk : k < 6) (hj : j < 6) (h : nameF b stem short tail cut first turn k = nameF b stem short tail cut first turn j) : k = j := by
  unfold nameF at h
  cases b with
  | true =>
    rw [if_pos rfl, if_pos rfl] at h
    simp only [List.append_assoc, List.append_cancel_left_eq, List.cons_append, List.nil_append, List.cons.injEq] at h
    have := h.1
    omega
  | false =>
    rw [if_neg (by decide), if_neg (by decide)] at h
    have e := congrArg List.length h
    rw [List.length_take, List.length_take, hs] at e
    omega
theorem nodup_range {f : Nat → List Nat} : ∀ {n : Nat}, (∀ k j, k < n → j < n → f k = f j → k = j) → ((List.range n).map f).Nodup := by
  intro n h
  rw [List.nodup_iff_pairwise_ne, List.pairwise_map]
  refine List.Pairwise.imp_of_mem ?_ (List.nodup_iff_pairwise_ne.mp List.nodup_range)
  intro a b ha hb hne e
  exact hne (h a b (List.mem_range.mp ha) (List.mem_range.mp hb) e)
def vN (l : List Nat) : V := .str (sOf l)
section
variable {P : Program} {w : World} {K : PySem.W.Frag} {mg : Str → Option Value} {base : Heap}
/-! _law_names -/
def spNames (K : PySem.W.Frag) : Sp := fun vs H Q _ => ∃ (a : Addr) (ns : List Int) (s n : Int), vs = [.ref a, .int s, .int n] ∧ SqL K H a (ns.map V.int) ∧ 0 ≤ s ∧ s + 5 ≤ ns.length ∧ 0 ≤ n ∧ n ≤ 6 ∧
  ∀ (p : Addr) (zs : List (List Nat)), H p = none → (zs.length : Int) = n → (∀ z ∈ zs, Nm z) → zs.Nodup → Q (.ref p) (upd H p (.lst (zs.map vN)))
theorem small_len {l : List Nat} (h : l.length ≤ 1000) : (sOf l).length ≤ sizeLine := by rw [sOf_len]; exact Nat.le_of_lt (small1000 h)
theorem ok_L_names {f : Addr} {fd : FuncData} (F : Fun K "_law_names" "_law_names" s_L_names f fd) (m_range : mg "range" = none) (m_int : mg "int" = none) (d_L_part : Def P w K mg base "_law_part" 1 ["_law_pool_here", "_law_spot", "_law_under", "_law_size"] (spPart K)) : FnOk P w K mg base CX0 2 f fd ["_law_pool_here", "_law_spot", "_law_number"] (spNames K) := by
  refine F.ok sc_L_names (fun vs H Q E h => ?_) (fun cdv A outer s H vs Q E hr h => ?_)
  · obtain ⟨a, ns, s, n, rfl, _⟩ := h
    rfl
  · obtain ⟨a, ns, s, n, rfl, hS, h0, h1, h2, h3, q⟩ := h
    refine ⟨_, (pss_cons (ps_set (i := 3) sc_L_names.nd rfl (.inl rfl) pe_str)
  (pss_cons (ps_set (i := 4) sc_L_names.nd rfl (.inl rfl) pe_str)
  (pss_cons (ps_for PassesOwn.never rfl (pi_range1 (by rfl) m_range (pa_cons pe_int pa_nil)) (pg_name (i := 5) sc_L_names.nd rfl (.inl rfl))
    (pss_one (ps_set (i := 4) sc_L_names.nd rfl (.inl rfl) (pe_op op_add_str (pe_op op_add_str (pv 4) (pe_ix ix_str (pv 3) (pe_callD d_L_part (hr.mono (by decide)) (by rfl) (pa_cons (pv 0) (pa_cons (pe_op op_add (pv 1) (pv 5)) (pa_cons pe_int (pa_cons pe_int pa_nil))))) (fun _ _ => rfl))) (pe_ix ix_str (pv 3) (pe_callD d_L_part (hr.mono (by decide)) (by rfl) (pa_cons (pv 0) (pa_cons (pe_op op_add (pv 1) (pv 5)) (pa_cons pe_int (pa_cons pe_int pa_nil))))) (fun _ _ => rfl))))))
  (pss_cons (ps_set (i := 6) sc_L_names.nd rfl (.inl rfl) (pe_callD d_L_part (hr.mono (by decide)) (by rfl) (pa_cons (pv 0) (pa_cons (pe_op op_add (pv 1) pe_int) (pa_cons pe_int (pa_cons pe_int pa_nil))))))
  (pss_cons (ps_set (i := 7) sc_L_names.nd rfl (.inl rfl) (pe_callD d_L_part (hr.mono (by decide)) (by rfl) (pa_cons (pv 0) (pa_cons (pe_op op_add (pv 1) pe_int) (pa_cons pe_int (pa_cons pe_int pa_nil))))))
  (pss_cons (ps_set (i := 8) sc_L_names.nd rfl (.inl rfl) (pe_callD d_L_part (hr.mono (by decide)) (by rfl) (pa_cons (pv 0) (pa_cons (pe_op op_add (pv 1) pe_int) (pa_cons pe_int (pa_cons pe_int pa_nil))))))
  (pss_cons (ps_set (i := 9) sc_L_names.nd rfl (.inl rfl) (pe_slice sl_str (pv 4) po_none (po_some (pe_callD d_L_part (hr.mono (by decide)) (by rfl) (pa_cons (pv 0) (pa_cons (pe_op op_add (pv 1) pe_int) (pa_cons pe_int (pa_cons pe_int pa_nil))))))))
  (pss_cons (ps_set (i := 10) sc_L_names.nd rfl (.inl rfl) (pe_slice sl_str (pv 4) po_none (po_some (pe_callD d_L_part (hr.mono (by decide)) (by rfl) (pa_cons (pv 0) (pa_cons (pe_op op_add (pv 1) pe_int) (pa_cons pe_int (pa_cons pe_int pa_nil))))))))
  (pss_cons (ps_set (i := 11) sc_L_names.nd rfl (.inl rfl) (pe_lst pa_nil))
  (pss_cons (ps_for PassesOwn.never rfl (pi_range1 (by rfl) m_range (pa_cons (pv 2) pa_nil)) (pg_name (i := 5) sc_L_names.nd rfl (.inl rfl))
    (pss_cons (ps_set (i := 12) sc_L_names.nd rfl (.inl rfl) (pe_op op_mod (pe_callTy call_int1 (by rfl) m_int (by decide +kernel) (pa_cons (pe_op op_add (pv 5) (pv 6)) pa_nil)) pe_int))
  (pss_one (ps_if (pt_cmpR op_eq (pe_callD d_L_part (hr.mono (by decide)) (by rfl) (pa_cons (pv 0) (pa_cons (pe_op op_add (pv 1) pe_int) (pa_cons pe_int (pa_cons pe_int pa_nil))))) pe_int (nomark _)) (pss_one (ps_expr (pe_bm PySem.F.plainAttrs_list PySem.F.slot_list_append PySem.F.type_list_append mt_append (pv 11) (pa_cons (pe_op op_add_str (pe_op op_add_str (pe_op op_add_str (pe_slice sl_str (pv 9) po_none (po_some (pv 7))) (pe_ix ix_str (pv 3) (pe_op op_mod (pe_callTy call_int1 (by rfl) m_int (by decide +kernel) (pa_cons (pe_op op_add (pv 8) (pe_op op_mul pe_int (pv 12))) pa_nil)) pe_int) (fun _ _ => rfl))) (pe_slice sl_str (pv 9) (po_some (pv 7)) po_none)) (pv 10)) pa_nil)))) (pss_one (ps_expr (pe_bm PySem.F.plainAttrs_list PySem.F.slot_list_append PySem.F.type_list_append mt_append (pv 11) (pa_cons (pe_slice sl_str (pv 4) po_none (po_some (pe_op op_add (pv 12) pe_int))) pa_nil))))))))
  (pss_one (ps_ret (pv 11))))))))))))), ?_⟩
    refine ⟨_, rfl, by decide, by decide, for_range (fun i σ H' => H' = H ∧ ∃ (st : List Nat) (y : Option V), σ = [some (.ref a), some (.int s), some (.int n), some (.str lettersZ), some (vN st), y, none, none, none, none, none, none, none] ∧ st.length = 2 * i ∧ Let st) ⟨rfl, [], _, rfl, rfl, fun c hc => nomatch hc⟩ ?_ ?_⟩
    · rintro i σ H' hi ⟨rfl, st, y, rfl, hl, le⟩
      have hi3 : i < 3 := hi
      have b1 := part_lo (ns := ns) (s := s + (0 + (i : Int))) (u := 1) (z := 26) (by decide)
      have b2 := part_hi (ns := ns) (s := s + (0 + (i : Int))) (u := 1) (z := 26) (by decide)
      have c1 := part_lo (ns := ns) (s := s + (0 + (i : Int))) (u := 26) (z := 26) (by decide)
      have c2 := part_hi (ns := ns) (s := s + (0 + (i : Int))) (u := 26) (z := 26) (by decide)
      refine ⟨_, rfl, _, rfl, _, rfl, _, rfl, _, rfl, _, _, rfl, rfl, _, _, _, _, _, rfl, hS, by omega, by omega, by decide, by decide, by decide, ?_⟩
      refine ⟨_, _, _, rfl, rfl, by rw [letters_len]; decide, letter_at b1 b2, _, _, rfl, rfl, ?_, ?_⟩
      · rw [sOf_len, sOf_one, sOf_len]; exact Nat.le_of_lt (small1000 (by simp only [List.length_cons, List.length_nil]; omega))
      refine ⟨_, rfl, _, rfl, _, rfl, _, rfl, _, _, rfl, rfl, _, _, _, _, _, rfl, hS, by omega, by omega, by decide, by decide, by decide, ?_⟩
      refine ⟨_, _, _, rfl, rfl, by rw [letters_len]; decide, letter_at c1 c2, _, _, rfl, rfl, ?_, ?_⟩
      · rw [sOf_one, sOf_one, sOf_app, sOf_len, sOf_len]; exact Nat.le_of_lt (small1000 (by simp only [List.length_append, List.length_cons, List.length_nil]; omega))
      refine ⟨rfl, (st ++ [97 + (partOf ns (s + (0 + (i : Int))) 1 26).toNat]) ++ [97 + (partOf ns (s + (0 + (i : Int))) 26 26).toNat], some (.int (0 + (i : Int))), ?_, ?_, ?_⟩
      · rw [sOf_one, sOf_one, sOf_app, sOf_app]; rfl
      · simp only [List.length_append, List.length_cons, List.length_nil]; omega
      · exact (le.app (.one (by omega))).app (.one (by omega))
    · rintro σ H' ⟨rfl, st, y, rfl, hl, le⟩
      have hl : st.length = 6 := hl
      have t1 := part_lo (ns := ns) (s := s + 3) (u := 1) (z := 6) (by decide)
      have t2 := part_hi (ns := ns) (s := s + 3) (u := 1) (z := 6) (by decide)
      have u1 := part_lo (ns := ns) (s := s + 3) (u := 6) (z := 7) (by decide)
      have u2 := part_hi (ns := ns) (s := s + 3) (u := 6) (z := 7) (by decide)
      have v1 := part_lo (ns := ns) (s := s + 3) (u := 42) (z := 26) (by decide)
      have v2 := part_hi (ns := ns) (s := s + 3) (u := 42) (z := 26) (by decide)
      have w1 := part_lo (ns := ns) (s := s + 4) (u := 4) (z := 7) (by decide)
      have w2 := part_hi (ns := ns) (s := s + 4) (u := 4) (z := 7) (by decide)
      have x1 := part_lo (ns := ns) (s := s + 4) (u := 2) (z := 2) (by decide)
      have x2 := part_hi (ns := ns) (s := s + 4) (u := 2) (z := 2) (by decide)
      refine ⟨_, rfl, _, rfl, _, _, rfl, rfl, _, _, _, _, _, rfl, hS, by omega, by omega, by decide, by decide, by decide, ?_⟩
      refine ⟨_, rfl, _, rfl, _, _, rfl, rfl, _, _, _, _, _, rfl, hS, by omega, by omega, by decide, by decide, by decide, ?_⟩
      refine ⟨_, rfl, _, rfl, _, _, rfl, rfl, _, _, _, _, _, rfl, hS, by omega, by omega, by decide, by decide, by decide, ?_⟩
      refine ⟨_, rfl, _, rfl, _, rfl, _, _, rfl, rfl, _, _, _, _, _, rfl, hS, by omega, by omega, by decide, by decide, by decide, _, rfl, _, rfl, small_len (by omega), ?_⟩
      refine ⟨_, rfl, _, rfl, _, rfl, _, _, rfl, rfl, _, _, _, _, _, rfl, hS, by omega, by omega, by decide, by decide, by decide, _, rfl, _, rfl, small_len (by omega), ?_⟩
      rw [cut_to st w1, cut_to st x1]
      refine ⟨Nat.zero_le _, fun p np => ?_⟩
      have hS2 : ∀ o, SqL K (upd H' p o) a (ns.map V.int) := fun o => (same_upd np).seq hS
      let nf := nameF (decide (partOf ns (s + 4) 1 2 = 0)) st (st.take (partOf ns (s + 4) 4 7).toNat) (st.take (partOf ns (s + 4) 2 2).toNat) (partOf ns (s + 3) 6 7).toNat (partOf ns (s + 3) 42 26).toNat (partOf ns (s + 3) 1 6).toNat
      refine ⟨_, rfl, _, rfl, by omega, by omega, for_range (fun i σ H2 => H2 = upd H' p (.lst (((List.range i).map nf).map vN)) ∧ ∃ (y m : Option V), σ = [some (.ref a), some (.int s), some (.int n), some (.str lettersZ), some (vN st), y, some (.int (partOf ns (s + 3) 1 6)), some (.int (partOf ns (s + 3) 6 7)), some (.int (partOf ns (s + 3) 42 26)), some (vN (st.take (partOf ns (s + 4) 4 7).toNat)), some (vN (st.take (partOf ns (s + 4) 2 2).toNat)), some (.ref p), m]) ⟨rfl, _, _, rfl⟩ ?_ ?_⟩
      · rintro i σ H2 hi ⟨rfl, y, m, rfl⟩
        have hz : (((List.range i).map nf).map vN).length < sizeLine := by rw [List.length_map, List.length_map, List.length_range]; exact small1000 (by omega)
        have mk : (0 + (i : Int) + partOf ns (s + 3) 1 6) % 6 = (((i + (partOf ns (s + 3) 1 6).toNat) % 6 : Nat) : Int) := by omega
        have next : ∀ (l : List Nat), l = nf i → ((List.range i).map nf).map vN ++ [vN l] = ((List.range (i + 1)).map nf).map vN := by
          intro l e
          rw [List.range_succ, List.map_append, List.map_append, e]
          rfl
        refine ⟨_, rfl, _, rfl, _, _, rfl, rfl, .inl ⟨_, rfl, _, _, rfl, rfl, pz, ?_⟩⟩
        refine ⟨_, rfl, _, rfl, _, _, rfl, rfl, _, _, _, _, _, rfl, hS2 _, by omega, by omega, by decide, by decide, by decide, rfl, _, rfl, ite2 (fun e => ?_) (fun e => ?_)⟩
        · have e1 : decide (partOf ns (s + 4) 1 2 = 0) = true := by
            have := V.int.inj (of_decide_eq_true e)
            exact decide_eq_true this
          have f1 : 0 ≤ (partOf ns (s + 3) 42 26 + 7 * ((0 + (i : Int) + partOf ns (s + 3) 1 6) % 6)) % 26 := by omega
          have f2 : (partOf ns (s + 3) 42 26 + 7 * ((0 + (i : Int) + partOf ns (s + 3) 1 6) % 6)) % 26 < 26 := by omega
          refine ⟨_, rfl, .inl ⟨rfl, _, lstAt upd_same⟩, ?_⟩
          refine ⟨_, rfl, _, rfl, _, rfl, _, rfl, small_len (by rw [List.length_take]; omega), ?_⟩
          refine ⟨_, rfl, _, rfl, _, rfl, _, _, rfl, rfl, .inl (by decide), _, _, rfl, rfl, .inl ⟨_, rfl, _, _, rfl, rfl, pz, _, _, _, rfl, rfl, by rw [letters_len]; decide, letter_at f1 f2, ?_⟩⟩
          rw [cut_to _ u1]
          refine ⟨_, _, rfl, rfl, ?_, ?_⟩
          · rw [sOf_one, sOf_len, sOf_len]
            exact Nat.le_of_lt (small1000 (by rw [List.length_take, List.length_take]; simp only [List.length_cons, List.length_nil]; omega))
          refine ⟨_, rfl, _, rfl, _, rfl, _, rfl, small_len (by rw [List.length_take]; omega), ?_⟩
          rw [cut_from _ u1, sOf_one, sOf_app]
          refine ⟨_, _, rfl, rfl, ?_, ?_⟩
          · rw [sOf_len, sOf_len]
            exact Nat.le_of_lt (small1000 (by rw [List.length_append, List.length_take, List.length_take, List.length_drop, List.length_take]; simp only [List.length_cons, List.length_nil]; omega))
          refine ⟨_, rfl, _, _, rfl, rfl, ?_, ?_⟩
          · rw [sOf_app, sOf_len, sOf_len]
            exact Nat.le_of_lt (small1000 (by rw [List.length_append, List.length_append, List.length_take, List.length_take, List.length_drop, List.length_take, List.length_take]; simp only [List.length_cons, List.length_nil]; omega))
          rw [sOf_app, sOf_app]
          refine ⟨_, _, _, rfl, rfl, upd_same, hz, ?_, _, _, rfl⟩
          rw [upd_twice]
          congr 2
          refine next _ ?_
          show _ = nameF _ _ _ _ _ _ _ _
          unfold nameF
          rw [if_pos e1]
          congr 5
          omega
        · have e1 : ¬ decide (partOf ns (s + 4) 1 2 = 0) = true := by
            intro z
            have := of_decide_eq_true z
            exact e (decide_eq_true (congrArg V.int this))
          refine ⟨_, rfl, .inl ⟨rfl, _, lstAt upd_same⟩, ?_⟩
          refine ⟨_, rfl, _, rfl, _, _, rfl, rfl, _, rfl, _, rfl, small_len (by omega), ?_⟩
          rw [cut_to _ (show (0 : Int) ≤ (0 + (i : Int) + partOf ns (s + 3) 1 6) % 6 + 1 by omega)]
          refine ⟨_, _, _, rfl, rfl, upd_same, hz, ?_, _, _, rfl⟩
          rw [upd_twice]
          congr 2
          refine next _ ?_
          show _ = nameF _ _ _ _ _ _ _ _
          unfold nameF
          rw [if_neg e1]
          congr 1
          omega
      · rintro σ H2 ⟨rfl, y, m, rfl⟩
        refine ⟨_, rfl, q p ((List.range n.toNat).map nf) np ?_ ?_ ?_⟩
        · rw [List.length_map, List.length_range]; omega
        · intro z hz
          obtain ⟨k, hk, rfl⟩ := List.mem_map.mp hz
          exact nameF_nm hl (by rw [List.length_take]; omega) (by rw [List.length_take]; omega) le (le.take _) (le.take _)
        · refine nodup_range fun k j hk hj e => ?_
          exact nameF_inj hl (by omega) (by omega) e
end
end TK

namespace TK
open PySem PySem.Spec PyProof.Rows L2
/-! ### bidders -/
abbrev Bd := List Nat × Int × Int
def tB3 (c : Bd) : HO := .tup [vN c.1, .int c.2.1, .int c.2.2]
def CrewAt (H : Hp) (ts : List Addr) (cs : List Bd) : Prop := ts.length = cs.length ∧ ∀ (i : Nat) (t : Addr) (c : Bd), ts[i]? = some t → cs[i]? = some c → H t = some (tB3 c)
def BdOk (c : Bd) : Prop := Nm c.1 ∧ 1 ≤ c.2.1 ∧ c.2.1 ≤ 1000 ∧ 0 ≤ c.2.2 ∧ c.2.2 ≤ 1000000000
structure CrewOk (cs : List Bd) : Prop where
  ok : ∀ c ∈ cs, BdOk c
  nd : (cs.map (·.1)).Nodup
  few : cs.length ≤ 6
theorem CrewAt.same {H H' : Hp} {ts : List Addr} {cs : List Bd} (h : CrewAt H ts cs) (s : Same H H') : CrewAt H' ts cs := ⟨h.1, fun i t c a b => s _ _ (h.2 i t c a b)⟩
theorem CrewAt.snoc {H : Hp} {ts : List Addr} {cs : List Bd} {t : Addr} {c : Bd} (h : CrewAt H ts cs) (e : H t = some (tB3 c)) : CrewAt H (ts ++ [t]) (cs ++ [c]) := by
  refine ⟨by rw [List.length_append, List.length_append, h.1]; rfl, fun i t' c' a b => ?_⟩
  by_cases hi : i < ts.length
  · rw [List.getElem?_append_left hi] at a
    rw [List.getElem?_append_left (by rw [← h.1]; exact hi)] at b
    exact h.2 i t' c' a b
  · have hi' : i = ts.length := by
      have := (List.getElem?_eq_some_iff.mp a).1
      rw [List.length_append] at this
      simp only [List.length_cons, List.length_nil] at this
      omega
    subst hi'
    rw [List.getElem?_append_right (Nat.le_refl _), Nat.sub_self] at a
    rw [List.getElem?_append_right (by rw [h.1]; exact Nat.le_refl _), ← h.1, Nat.sub_self] at b
    cases a
    cases b
    exact e
theorem CrewAt.nil {H : Hp} : CrewAt H [] [] := ⟨rfl, fun i t c a _ => by simp at a⟩
theorem get_nm {zs : List (List Nat)} {i : Nat} (h : i < zs.length) : atI (zs.map vN) (0 + (i : Int)) = some (vN zs[i]) := by
  refine atI_in (by omega) ?_
  rw [show (0 + (i : Int)).toNat = i by omega, List.getElem?_map, List.getElem?_eq_getElem h]
  rfl
section
variable {P : Program} {w : World} {K : PySem.W.Frag} {mg : Str → Option Value} {base : Heap}
def spBidders (K : PySem.W.Frag) : Sp := fun vs H Q _ => ∃ (a : Addr) (ns : List Int) (s n : Int), vs = [.ref a, .int s, .int n] ∧ SqL K H a (ns.map V.int) ∧ 0 ≤ s ∧ s + 5 + 5 * n ≤ ns.length ∧ 0 ≤ n ∧ n ≤ 6 ∧
  ∀ (H' : Hp) (p : Addr) (ts : List Addr) (cs : List Bd), Same H H' → H p = none → H' p = some (.lst (ts.map V.ref)) → CrewAt H' ts cs → CrewOk cs → (cs.length : Int) = n → Q (.ref p) H'
theorem ok_L_bidders {f : Addr} {fd : FuncData} (F : Fun K "_law_bidders" "_law_bidders" s_L_bidders f fd) (m_range : mg "range" = none) (m_int : mg "int" = none)
    (d_L_part : Def P w K mg base "_law_part" 1 ["_law_pool_here", "_law_spot", "_law_under", "_law_size"] (spPart K)) (d_L_names : Def P w K mg base "_law_names" 2 ["_law_pool_here", "_law_spot", "_law_number"] (spNames K))
    (d_L_far : Def P w K mg base "_law_far" 1 ["_law_pool_here", "_law_spot", "_law_number"] (spFar K)) (d_L_chosen : Def P w K mg base "_law_chosen" 2 ["_law_pool_here", "_law_spot", "_law_under", "_law_small", "_law_crest", "_law_whole"] (spChosen K)) :
    FnOk P w K mg base CX0 3 f fd ["_law_pool_here", "_law_spot", "_law_number"] (spBidders K) := by
  refine F.ok sc_L_bidders (fun vs H Q E h => ?_) (fun cdv A outer s H vs Q E hr h => ?_)
  · obtain ⟨a, ns, s, n, rfl, _⟩ := h
    rfl
  · obtain ⟨a, ns, s, n, rfl, hS, h0, h1, h2, h3, q⟩ := h
    refine ⟨_, (pss_cons (ps_set (i := 3) sc_L_bidders.nd rfl (.inl rfl) (pe_callD d_L_names (hr.mono (by decide)) (by rfl) (pa_cons (pv 0) (pa_cons (pv 1) (pa_cons (pv 2) pa_nil)))))
  (pss_cons (ps_set (i := 4) sc_L_bidders.nd rfl (.inl rfl) (pe_lst pa_nil))
  (pss_cons (ps_for PassesOwn.never rfl (pi_range1 (by rfl) m_range (pa_cons (pv 2) pa_nil)) (pg_name (i := 5) sc_L_bidders.nd rfl (.inl rfl))
    (pss_cons (ps_set (i := 6) sc_L_bidders.nd rfl (.inl rfl) (pe_op op_add (pe_op op_add (pv 1) pe_int) (pe_op op_mul pe_int (pv 5))))
  (pss_cons (ps_set (i := 7) sc_L_bidders.nd rfl (.inl rfl) (pe_op op_add pe_int (pe_callD d_L_chosen (hr.mono (by decide)) (by rfl) (pa_cons (pv 0) (pa_cons (pv 6) (pa_cons pe_int (pa_cons pe_int (pa_cons pe_int (pa_cons (pe_callD d_L_far (hr.mono (by decide)) (by rfl) (pa_cons (pv 0) (pa_cons (pe_op op_add (pv 6) pe_int) (pa_cons pe_int pa_nil)))) pa_nil)))))))))
  (pss_cons (ps_set (i := 8) sc_L_bidders.nd rfl (.inl rfl) (pe_callD d_L_chosen (hr.mono (by decide)) (by rfl) (pa_cons (pv 0) (pa_cons (pv 6) (pa_cons pe_int (pa_cons pe_int (pa_cons (pe_op op_pow pe_int pe_int) (pa_cons (pe_callD d_L_far (hr.mono (by decide)) (by rfl) (pa_cons (pv 0) (pa_cons (pe_op op_add (pv 6) pe_int) (pa_cons pe_int pa_nil)))) pa_nil))))))))
  (pss_cons (ps_if (pt_cmpR op_eq (pe_callD d_L_part (hr.mono (by decide)) (by rfl) (pa_cons (pv 0) (pa_cons (pe_op op_add (pv 1) pe_int) (pa_cons pe_int (pa_cons pe_int pa_nil))))) pe_int (nomark _)) (pss_cons (ps_set (i := 7) sc_L_bidders.nd rfl (.inl rfl) (pe_op op_add pe_int (pe_op op_mod (pe_callTy call_int1 (by rfl) m_int (by decide +kernel) (pa_cons (pe_op op_sub (pv 7) pe_int) pa_nil)) pe_int)))
  (pss_one (ps_set (i := 8) sc_L_bidders.nd rfl (.inl rfl) (pe_op op_mod (pe_callTy call_int1 (by rfl) m_int (by decide +kernel) (pa_cons (pv 8) pa_nil)) pe_int)))) pss_nil)
  (pss_cons (ps_if (PW.pt (pw_and (pt_cmpR op_le (pv 7) pe_int (nomark _)) (pw_and1 (pt_cmpR op_lt (pe_callD d_L_part (hr.mono (by decide)) (by rfl) (pa_cons (pv 0) (pa_cons (pe_op op_add (pv 6) pe_int) (pa_cons pe_int (pa_cons pe_int pa_nil))))) pe_int (nomark _))))) (pss_one (ps_set (i := 8) sc_L_bidders.nd rfl (.inl rfl) (pe_op op_fdiv pe_int (pv 7)))) pss_nil)
  (pss_one (ps_expr (pe_bm PySem.F.plainAttrs_list PySem.F.slot_list_append PySem.F.type_list_append mt_append (pv 4) (pa_cons (pe_tup (pa_cons (pe_ix ix_list (pv 3) (pv 5) (fun _ _ => rfl)) (pa_cons (pv 7) (pa_cons (pv 8) pa_nil)))) pa_nil))))))))))
  (pss_one (ps_ret (pv 4)))))), ?_⟩
    refine ⟨_, rfl, _, rfl, _, rfl, _, _, _, _, rfl, hS, h0, by omega, h2, h3, fun zn zs nzn lz okz ndz => ?_⟩
    have s1 : Same H (upd H zn (.lst (zs.map vN))) := same_upd nzn
    refine ⟨Nat.zero_le _, fun p np => ?_⟩
    have np0 : H p = none := s1.free np
    have hne : zn ≠ p := fun e => by subst e; rw [upd_same] at np; cases np
    refine ⟨_, rfl, _, rfl, by omega, by omega, for_range (fun i σ H2 => ∃ (y6 y7 y8 y5 : Option V) (ts : List Addr) (cs : List Bd), σ = [some (.ref a), some (.int s), some (.int n), some (.ref zn), some (.ref p), y5, y6, y7, y8] ∧ Same H H2 ∧ H2 zn = some (.lst (zs.map vN)) ∧ H2 p = some (.lst (ts.map V.ref)) ∧ CrewAt H2 ts cs ∧ cs.length = i ∧ cs.map (·.1) = zs.take i ∧ ∀ c ∈ cs, BdOk c)
      ⟨_, _, _, _, [], [], rfl, same_at s1 np0, by rw [upd_ne hne, upd_same], upd_same, .nil, rfl, rfl, fun c hc => nomatch hc⟩ ?_ ?_⟩
    · rintro i σ H2 hi ⟨y6, y7, y8, y5, ts, cs, rfl, sm, ez, ep, ca, hl, hn, hok⟩
      have hS2 : SqL K H2 a (ns.map V.int) := sm.seq hS
      have hiz : i < zs.length := by omega
      have hzz : (ts.map V.ref).length < sizeLine := by rw [List.length_map, ca.1]; exact small1000 (by omega)
      refine ⟨_, rfl, _, _, rfl, rfl, _, rfl, _, _, rfl, rfl, .inl (by decide), _, _, rfl, rfl, ?_⟩
      refine ⟨_, rfl, _, rfl, _, rfl, _, rfl, _, _, rfl, rfl, _, _, _, _, rfl, hS2, by omega, by decide, by decide, by omega, fun z1 _ => ?_⟩
      refine ⟨_, _, _, _, _, _, _, rfl, hS2, by omega, by omega, by decide, by decide, by decide, by decide, fun wt w0 w1 => ?_⟩
      refine ⟨_, _, rfl, rfl, ?_⟩
      refine ⟨_, rfl, _, rfl, _, _, rfl, rfl, ⟨by decide, by decide, by decide⟩, _, rfl, _, rfl, _, _, rfl, rfl, _, _, _, _, rfl, hS2, by omega, by decide, by decide, by omega, fun z2 _ => ?_⟩
      refine ⟨_, _, _, _, _, _, _, rfl, hS2, by omega, by omega, by decide, by decide, by decide, by decide, fun bd b0 b1 => ?_⟩
      have b1' : bd ≤ 1000000000 := b1
      have leaf : ∀ (W B : Int) (t : Addr) (H3 : Hp), 1 ≤ W → W ≤ 1000 → 0 ≤ B → B ≤ 1000000000 → H2 t = none → H3 = upd (upd H2 t (.tup [vN zs[i], .int W, .int B])) p (.lst (ts.map V.ref ++ [V.ref t])) →
          ∃ (ts : List Addr) (cs : List Bd), Same H H3 ∧ H3 zn = some (.lst (zs.map vN)) ∧ H3 p = some (.lst (ts.map V.ref)) ∧ CrewAt H3 ts cs ∧ cs.length = i + 1 ∧ cs.map (·.1) = zs.take (i + 1) ∧ ∀ c ∈ cs, BdOk c := by
        intro W B t H3 q1 q2 q3 q4 nt e
        subst e
        have ntp : t ≠ p := fun e => by subst e; rw [ep] at nt; cases nt
        have s3 : Same H2 (upd H2 t (.tup [vN zs[i], .int W, .int B])) := same_upd nt
        have st : ∀ b o, b ≠ p → H2 b = some o → (upd (upd H2 t (.tup [vN zs[i], .int W, .int B])) p (.lst (ts.map V.ref ++ [V.ref t]))) b = some o := fun b o hb e => by
          rw [upd_ne hb]; exact s3 _ _ e
        refine ⟨ts ++ [t], cs ++ [(zs[i], W, B)], fun b o e => ?_, st _ _ hne ez, by rw [upd_same, List.map_append]; rfl, ?_, by rw [List.length_append, hl]; rfl, ?_, ?_⟩
        · exact st _ _ (ne_of_none e np0) (sm _ _ e)
        · refine CrewAt.snoc ⟨ca.1, fun j t' c' e1 e2 => ?_⟩ ?_
          · have := ca.2 j t' c' e1 e2
            refine st _ _ (fun e => ?_) this
            subst e
            rw [ep] at this
            cases this
          · rw [upd_ne ntp, upd_same]
            rfl
        · rw [List.map_append, hn, List.take_add_one, List.getElem?_eq_getElem hiz]
          rfl
        · intro c hc
          rcases List.mem_append.mp hc with e | e
          · exact hok c e
          · cases List.mem_singleton.mp e
            exact ⟨okz _ (List.getElem_mem hiz), q1, q2, q3, q4⟩
      have fin : ∀ (W B : Int) (t : Addr) (y6 : Option V) (σ' : L2.St) (H3 : Hp), 1 ≤ W → W ≤ 1000 → 0 ≤ B → B ≤ 1000000000 → H2 t = none → σ' = [some (.ref a), some (.int s), some (.int n), some (.ref zn), some (.ref p), some (.int (0 + (i : Int))), y6, some (.int W), some (.int B)] → H3 = upd (upd H2 t (.tup [vN zs[i], .int W, .int B])) p (.lst (ts.map V.ref ++ [V.ref t])) →
          ∃ (y6 y7 y8 y5 : Option V) (ts : List Addr) (cs : List Bd), σ' = [some (.ref a), some (.int s), some (.int n), some (.ref zn), some (.ref p), y5, y6, y7, y8] ∧ Same H H3 ∧ H3 zn = some (.lst (zs.map vN)) ∧ H3 p = some (.lst (ts.map V.ref)) ∧ CrewAt H3 ts cs ∧ cs.length = i + 1 ∧ cs.map (·.1) = zs.take (i + 1) ∧ ∀ c ∈ cs, BdOk c := by
        intro W B t y6 σ' H3 q1 q2 q3 q4 nt e1 e2
        obtain ⟨ts', cs', r⟩ := leaf W B t H3 q1 q2 q3 q4 nt e2
        exact ⟨_, _, _, _, ts', cs', e1, r⟩
      refine ⟨_, rfl, _, rfl, _, _, rfl, rfl, _, _, _, _, _, rfl, hS2, by omega, by omega, by decide, by decide, by decide, rfl, _, rfl, ite2 (fun e => ?_) (fun e => ?_)⟩
      · refine ⟨_, rfl, _, _, rfl, rfl, .inl ⟨_, rfl, _, _, rfl, rfl, pz, _, _, rfl, rfl, ?_⟩⟩
        refine ⟨_, rfl, .inl ⟨_, rfl, _, _, rfl, rfl, pz, ?_⟩⟩
        refine ⟨_, rfl, _, _, rfl, rfl, _, rfl, ite2 (fun e => ?_) (fun e => ?_)⟩
        · have e4 := of_decide_eq_true e
          refine ⟨_, rfl, _, rfl, _, _, rfl, rfl, _, _, _, _, _, rfl, hS2, by omega, by omega, by decide, by decide, by decide, _, _, rfl, rfl, _, rfl, ite2 (fun e => ?_) (fun e => ?_)⟩
          · refine ⟨_, rfl, _, _, rfl, rfl, ⟨by omega, by omega⟩, ?_⟩
            refine ⟨_, rfl, .inl ⟨rfl, _, lstAt ep⟩, _, rfl, _, rfl, _, _, _, _, rfl, rfl, lstAt ez, get_nm hiz, _, rfl, _, rfl, (show 3 ≤ sizeLine by decide), fun t nt => ⟨_, _, _, rfl, rfl, by rw [upd_ne (ne_of_none ep nt)]; exact ep, hzz, fin _ _ t _ _ _ (by omega) (by omega) (Int.ediv_nonneg (by decide) (by omega)) (Int.le_trans (Int.ediv_le_self _ (by decide)) (by decide)) nt rfl rfl⟩⟩
          · refine ⟨_, rfl, .inl ⟨rfl, _, lstAt ep⟩, _, rfl, _, rfl, _, _, _, _, rfl, rfl, lstAt ez, get_nm hiz, _, rfl, _, rfl, (show 3 ≤ sizeLine by decide), fun t nt => ⟨_, _, _, rfl, rfl, by rw [upd_ne (ne_of_none ep nt)]; exact ep, hzz, fin _ _ t _ _ _ (by omega) (by omega) (by omega) (by omega) nt rfl rfl⟩⟩
        · refine iteF ?_
          refine ⟨_, rfl, .inl ⟨rfl, _, lstAt ep⟩, _, rfl, _, rfl, _, _, _, _, rfl, rfl, lstAt ez, get_nm hiz, _, rfl, _, rfl, (show 3 ≤ sizeLine by decide), fun t nt => ⟨_, _, _, rfl, rfl, by rw [upd_ne (ne_of_none ep nt)]; exact ep, hzz, fin _ _ t _ _ _ (by omega) (by omega) (by omega) (by omega) nt rfl rfl⟩⟩
      · refine ⟨_, rfl, _, _, rfl, rfl, _, rfl, ite2 (fun e => ?_) (fun e => ?_)⟩
        · have e4 := of_decide_eq_true e
          refine ⟨_, rfl, _, rfl, _, _, rfl, rfl, _, _, _, _, _, rfl, hS2, by omega, by omega, by decide, by decide, by decide, _, _, rfl, rfl, _, rfl, ite2 (fun e => ?_) (fun e => ?_)⟩
          · refine ⟨_, rfl, _, _, rfl, rfl, ⟨by omega, by omega⟩, ?_⟩
            refine ⟨_, rfl, .inl ⟨rfl, _, lstAt ep⟩, _, rfl, _, rfl, _, _, _, _, rfl, rfl, lstAt ez, get_nm hiz, _, rfl, _, rfl, (show 3 ≤ sizeLine by decide), fun t nt => ⟨_, _, _, rfl, rfl, by rw [upd_ne (ne_of_none ep nt)]; exact ep, hzz, fin _ _ t _ _ _ (by omega) (by omega) (Int.ediv_nonneg (by decide) (by omega)) (Int.le_trans (Int.ediv_le_self _ (by decide)) (by decide)) nt rfl rfl⟩⟩
          · refine ⟨_, rfl, .inl ⟨rfl, _, lstAt ep⟩, _, rfl, _, rfl, _, _, _, _, rfl, rfl, lstAt ez, get_nm hiz, _, rfl, _, rfl, (show 3 ≤ sizeLine by decide), fun t nt => ⟨_, _, _, rfl, rfl, by rw [upd_ne (ne_of_none ep nt)]; exact ep, hzz, fin _ _ t _ _ _ (by omega) (by omega) b0 b1 nt rfl rfl⟩⟩
        · refine iteF ?_
          refine ⟨_, rfl, .inl ⟨rfl, _, lstAt ep⟩, _, rfl, _, rfl, _, _, _, _, rfl, rfl, lstAt ez, get_nm hiz, _, rfl, _, rfl, (show 3 ≤ sizeLine by decide), fun t nt => ⟨_, _, _, rfl, rfl, by rw [upd_ne (ne_of_none ep nt)]; exact ep, hzz, fin _ _ t _ _ _ (by omega) (by omega) b0 b1 nt rfl rfl⟩⟩
    · rintro σ H2 ⟨y6, y7, y8, y5, ts, cs, rfl, sm, ez, ep, ca, hl, hn, hok⟩
      refine ⟨_, rfl, q H2 p ts cs sm np0 ep ca ⟨hok, ?_, by omega⟩ (by omega)⟩
      rw [hn, List.take_of_length_le (by omega)]
      exact ndz
end
end TK

namespace TK
open PySem PySem.Spec PyProof.Rows L2
section
variable {P : Program} {w : World} {K : PySem.W.Frag} {mg : Str → Option Value} {base : Heap}
/-! _law_sill -/
def spSill (K : PySem.W.Frag) : Sp := fun vs H Q _ => ∃ (a p : Addr) (ns : List Int) (s : Int) (ts : List Addr) (cs : List Bd), vs = [.ref a, .int s, .ref p] ∧ SqL K H a (ns.map V.int) ∧ 0 ≤ s ∧ s + 5 ≤ ns.length ∧ H p = some (.lst (ts.map V.ref)) ∧ CrewAt H ts cs ∧ CrewOk cs ∧
  ∀ (H' : Hp) (r : Int), Same H H' → 0 ≤ r → r ≤ 1000000000000 → Q (.int r) H'
theorem nm_ok {l : List Nat} (h : Nm l) : PyData.strOk (sOf l) = true := by
  show (sOf l).cps.all (· < 0x110000) = true
  rw [← Array.all_toList, sOf_codes, List.all_eq_true]
  intro c hc
  have := h.2.2 c hc
  exact decide_eq_true (by omega)
theorem crew_dp {K : PySem.W.Frag} {H : Hp} : ∀ {ts : List Addr} {cs : List Bd}, CrewAt H ts cs → (∀ c ∈ cs, BdOk c) → ∃ ds, DpAll K H (ts.map V.ref) ds ∧ ds.length = ts.length ∧ PyData.canLayAll0 ds = true ∧ PyData.depthAll ds ≤ 1
  | [], _, _, _ => ⟨[], .nil, rfl, by simp [PyData.canLayAll0], by simp [PyData.depthAll]⟩
  | t :: ts, [], h, _ => by cases h.1
  | t :: ts, c :: cs, h, ok => by
    obtain ⟨ds, h1, h2, h3, h4⟩ := crew_dp (K := K) (ts := ts) (cs := cs) ⟨Nat.succ.inj h.1, fun i t' c' a b => h.2 (i + 1) t' c' a b⟩ fun c hc => ok c (List.mem_cons_of_mem _ hc)
    have e : H t = some (tB3 c) := h.2 0 t c rfl rfl
    refine ⟨.tuple [.str (sOf c.1), .int c.2.1, .int c.2.2] :: ds, .cons (.tup (tupAt e) (.cons (.str _) (.cons (.int _) (.cons (.int _) .nil)))) h1, congrArg Nat.succ h2, ?_, ?_⟩
    · simp only [PyData.canLayAll0, PyData.canLay0, Bool.and_true, Bool.and_eq_true]
      exact ⟨nm_ok (ok c (List.mem_cons_self ..)).1, h3⟩
    · simp only [PyData.depthAll, PyData.depth]
      omega
theorem four {i : Int} (h0 : 0 ≤ i) (h1 : i < 4) : ∃ v : Int, atI [V.int 0, V.int 0, V.int 1, V.int (-1)] i = some (.int v) ∧ -1 ≤ v ∧ v ≤ 1 := by
  obtain rfl | rfl | rfl | rfl : i = 0 ∨ i = 1 ∨ i = 2 ∨ i = 3 := by omega
  · exact ⟨0, rfl, by decide, by decide⟩
  · exact ⟨0, rfl, by decide, by decide⟩
  · exact ⟨1, rfl, by decide, by decide⟩
  · exact ⟨-1, rfl, by decide, by decide⟩
theorem ok_L_sill {f : Addr} {fd : FuncData} (F : Fun K "_law_sill" "_law_sill" s_L_sill f fd) (m_int : mg "int" = none) (m_len : mg "len" = none) (m_min : mg "min" = none) (m_max : mg "max" = none)
    (d_L_part : Def P w K mg base "_law_part" 1 ["_law_pool_here", "_law_spot", "_law_under", "_law_size"] (spPart K)) 
    (d_L_far : Def P w K mg base "_law_far" 1 ["_law_pool_here", "_law_spot", "_law_number"] (spFar K)) :
    FnOk P w K mg base CX0 2 f fd ["_law_pool_here", "_law_spot", "_law_crew"] (spSill K) := by
  refine F.ok sc_L_sill (fun vs H Q E h => ?_) (fun cdv A outer s H vs Q E hr h => ?_)
  · obtain ⟨a, p, ns, s, ts, cs, rfl, _⟩ := h
    rfl
  · obtain ⟨a, p, ns, s, ts, cs, rfl, hS, h0, h1, hp, ca, ck, q⟩ := h
    refine ⟨_, (pss_cons (ps_set (i := 3) sc_L_sill.nd rfl (.inl rfl) (pe_callD d_L_part (hr.mono (by decide)) (by rfl) (pa_cons (pv 0) (pa_cons (pv 1) (pa_cons pe_int (pa_cons pe_int pa_nil))))))
  (pss_cons (ps_set (i := 4) sc_L_sill.nd rfl (.inl rfl) (pe_callD d_L_part (hr.mono (by decide)) (by rfl) (pa_cons (pv 0) (pa_cons (pv 1) (pa_cons pe_int (pa_cons pe_int pa_nil))))))
  (pss_cons (ps_if (pt_cmpR op_lt (pv 3) pe_int (nomark _)) (pss_one (ps_ret pe_int)) pss_nil)
  (pss_cons (ps_if (PW.pt (pw_and (pt_cmpR op_lt (pv 3) pe_int (nomark _)) (pw_and1 (pt_cmpR (op_neD hr.units) (pv 2) (pe_lst pa_nil) (nomark _))))) (pss_cons (ps_asg (pe_ix ix_list (pv 2) (pe_op op_mod (pe_callTy call_int1 (by rfl) m_int (by decide +kernel) (pa_cons (pv 4) pa_nil)) (pe_callB call_len_seq (by rfl) m_len (by decide +kernel) (pa_cons (pv 2) pa_nil))) (fun _ _ => rfl)) (pg_tup (by rfl) (pgs_cons (pg_name (i := 5) sc_L_sill.nd rfl (.inl rfl)) (pgs_cons (pg_name (i := 6) sc_L_sill.nd rfl (.inl rfl)) (pgs_cons (pg_name (i := 7) sc_L_sill.nd rfl (.inl rfl)) pgs_nil)))))
  (pss_one (ps_ret (pe_callB (call_min2 rfl) (by rfl) m_min (by decide +kernel) (pa_cons (pe_callB (call_max2 rfl) (by rfl) m_max (by decide +kernel) (pa_cons pe_int (pa_cons (pe_op op_add (pe_op op_mul (pv 6) (pv 7)) (pe_ix ix_list (pe_lst (pa_cons pe_int (pa_cons pe_int (pa_cons pe_int (pa_cons (pe_un un_neg pe_int) pa_nil))))) (pe_op op_sub (pv 3) pe_int) (fun _ _ => rfl))) pa_nil))) (pa_cons (pe_op op_pow pe_int pe_int) pa_nil)))))) pss_nil)
  (pss_cons (ps_if (pt_cmpR op_eq (pv 3) pe_int (nomark _)) (pss_one (ps_ret (pv 4))) pss_nil)
  (pss_one (ps_ret (pe_op op_mod (pe_callTy call_int1 (by rfl) m_int (by decide +kernel) (pa_cons (pe_callD d_L_far (hr.mono (by decide)) (by rfl) (pa_cons (pv 0) (pa_cons (pe_op op_add (pv 1) pe_int) (pa_cons pe_int pa_nil)))) pa_nil)) (pe_op op_add (pe_op op_pow pe_int pe_int) pe_int))))))))), ?_⟩
    have w1 := part_lo (ns := ns) (s := s) (u := 1) (z := 8) (by decide)
    have w2 := part_hi (ns := ns) (s := s) (u := 1) (z := 8) (by decide)
    have n1 := part_lo (ns := ns) (s := s) (u := 8) (z := 60) (by decide)
    have n2 := part_hi (ns := ns) (s := s) (u := 8) (z := 60) (by decide)
    refine ⟨_, rfl, _, rfl, _, _, _, _, _, rfl, hS, by omega, by omega, by decide, by decide, by decide, ?_⟩
    refine ⟨_, rfl, _, rfl, _, _, _, _, _, rfl, hS, by omega, by omega, by decide, by decide, by decide, ?_⟩
    refine ⟨_, rfl, _, _, rfl, rfl, _, rfl, ite2 (fun e => ?_) (fun e => ?_)⟩
    · exact q _ _ (Same.refl _) (by decide) (by decide)
    · have e2 : ¬ partOf ns s 1 8 < 2 := fun z => e (decide_eq_true z)
      refine ⟨_, rfl, _, _, rfl, rfl, _, rfl, ite2 (fun e => ?_) (fun e => ?_)⟩
      · have e6 : partOf ns s 1 8 < 6 := of_decide_eq_true e
        refine ⟨_, rfl, Nat.zero_le _, fun z nz => ?_⟩
        have sm : Same H (upd H z (.lst [])) := same_upd nz
        obtain ⟨ds, d1, d2, d3, d4⟩ := crew_dp (K := K) (ca.same sm) ck.ok
        refine ⟨.list ds, .list [], .lst (lstAt (sm _ _ hp)) d1, .lst (lstAt upd_same) .nil, ?_, rfl, _, rfl, ite2 (fun e => ?_) (fun e => ?_)⟩
        · show ((PyData.list ds).canLay0 && decide ((PyData.list ds).depth ≤ 64)) = true
          rw [show (PyData.list ds).canLay0 = true by simp only [PyData.canLay0, d3], show (PyData.list ds).depth = PyData.depthAll ds + 1 by simp only [PyData.depth]]
          exact decide_eq_true (by omega)
        · have ne : ts ≠ [] := fun z => by
            subst z
            cases ds with
            | nil => exact absurd e (by decide)
            | cons d r => cases d2
          have hl : 0 < ts.length := List.length_pos_iff.mpr ne
          have hm1 := Int.emod_nonneg (partOf ns s 8 60) (show ((ts.map V.ref).length : Int) ≠ 0 by rw [List.length_map]; omega)
          have hm2 := Int.emod_lt_of_pos (partOf ns s 8 60) (show (0 : Int) < ((ts.map V.ref).length : Int) by rw [List.length_map]; omega)
          rw [List.length_map] at hm1 hm2
          have hj : (partOf ns s 8 60 % (ts.length : Int)).toNat < ts.length := by omega
          have hj2 : (partOf ns s 8 60 % (ts.length : Int)).toNat < cs.length := by rw [← ca.1]; exact hj
          have hc := (ca.same sm).2 _ _ _ (List.getElem?_eq_getElem hj) (List.getElem?_eq_getElem hj2)
          obtain ⟨_, c1, c2, c3, c4⟩ := ck.ok _ (List.getElem_mem hj2)
          have hat : atI (ts.map V.ref) (partOf ns s 8 60 % ((ts.map V.ref).length : Int)) = some (.ref ts[(partOf ns s 8 60 % (ts.length : Int)).toNat]) := by
            rw [List.length_map]
            refine atI_in hm1 ?_
            rw [List.getElem?_map, List.getElem?_eq_getElem hj]
            rfl
          refine ⟨_, rfl, _, rfl, .inl ⟨_, rfl, _, rfl, _, _, rfl, .inl (lstAt (sm _ _ hp)), _, _, rfl, rfl, (by show (0 : Int) < ((ts.map V.ref).length : Int); rw [List.length_map]; omega), _, _, _, _, rfl, rfl, lstAt (sm _ _ hp), hat, _, _, rfl, tupAt hc, rfl, _, _, rfl, _, _, rfl, _, _, rfl, rfl, ?_⟩⟩
          obtain ⟨v, ev, v1, v2⟩ := four (i := partOf ns s 1 8 - 2) (by omega) (by omega)
          refine ⟨_, rfl, _, rfl, _, _, rfl, rfl, .inl ⟨by omega, by omega⟩, _, rfl, (show 4 ≤ sizeLine by decide), fun l nl => ⟨_, rfl, _, _, rfl, rfl, _, _, _, _, rfl, rfl, lstAt upd_same, ev, _, _, rfl, rfl, _, _, rfl, _, _, rfl, rfl, ⟨by decide, by decide, by decide⟩, _, _, rfl, ?_⟩⟩
          have e12 : (10 : Int) ^ (12 : Int).toNat = 1000000000000 := by decide
          have g0 : 0 ≤ cs[(partOf ns s 8 60 % (ts.length : Int)).toNat].2.1 * cs[(partOf ns s 8 60 % (ts.length : Int)).toNat].2.2 := Int.mul_nonneg (by omega) c3
          generalize cs[(partOf ns s 8 60 % (ts.length : Int)).toNat].2.1 * cs[(partOf ns s 8 60 % (ts.length : Int)).toNat].2.2 = pr at g0 ⊢
          rw [e12]
          refine q _ _ (sm.trans (same_upd nl)) ?_ ?_
          · split
            · omega
            · split <;> omega
          · split
            · omega
            · omega
        · refine ⟨_, rfl, rfl, _, rfl, ite2 (fun e => ?_) (fun e => ?_)⟩
          · exact ⟨_, rfl, q _ _ sm n1 (by omega)⟩
          · refine ⟨_, rfl, _, rfl, _, _, rfl, rfl, _, _, _, _, rfl, sm.seq hS, by omega, by decide, by decide, by omega, fun r r0 => .inl ⟨_, rfl, _, _, rfl, rfl, ⟨by decide, by decide, by decide⟩, _, _, rfl, rfl, _, _, rfl, rfl, (show (0 : Int) < 1000000000001 by decide), ?_⟩⟩
            have m1 := Int.emod_nonneg r (show (1000000000001 : Int) ≠ 0 by decide)
            have m2 := Int.emod_lt_of_pos r (show (0 : Int) < 1000000000001 by decide)
            exact q _ _ sm m1 (show r % 1000000000001 ≤ 1000000000000 by omega)
      · have sm := Same.refl H
        refine iteF ?_
        refine ⟨_, rfl, rfl, _, rfl, ite2 (fun e => ?_) (fun e => ?_)⟩
        · exact ⟨_, rfl, q _ _ sm n1 (by omega)⟩
        · refine ⟨_, rfl, _, rfl, _, _, rfl, rfl, _, _, _, _, rfl, sm.seq hS, by omega, by decide, by decide, by omega, fun r r0 => .inl ⟨_, rfl, _, _, rfl, rfl, ⟨by decide, by decide, by decide⟩, _, _, rfl, rfl, _, _, rfl, rfl, (show (0 : Int) < 1000000000001 by decide), ?_⟩⟩
          have m1 := Int.emod_nonneg r (show (1000000000001 : Int) ≠ 0 by decide)
          have m2 := Int.emod_lt_of_pos r (show (0 : Int) < 1000000000001 by decide)
          exact q _ _ sm m1 (show r % 1000000000001 ≤ 1000000000000 by omega)
/-! _law_integer: of an int -/
def spInteger : Sp := fun vs H Q _ => ∃ i : Int, vs = [.int i] ∧ Q (.bl true) H
theorem ok_L_integer {f : Addr} {fd : FuncData} (F : Fun K "_law_integer" "_law_integer" s_L_integer f fd) (m_isinstance : mg "isinstance" = none) (m_int : mg "int" = none) (m_bool : mg "bool" = none) :
    FnOk P w K mg base CX0 1 f fd ["_law_got"] spInteger := by
  refine F.ok sc_L_integer (fun vs H Q E h => ?_) (fun cdv A outer s H vs Q E hr h => ?_)
  · obtain ⟨i, rfl, _⟩ := h
    rfl
  · obtain ⟨i, rfl, q⟩ := h
    refine ⟨_, (pss_one (ps_ret (pe_and (pe_callB call_isi (by rfl) m_isinstance (by decide +kernel) (pa_cons (pv 0) (pa_cons (pe_bltn (v := .ty "int") (u := .type "int") (by rfl) m_int (by decide +kernel) rfl) pa_nil))) (pe_one (pe_not (pe_callB call_isi (by rfl) m_isinstance (by decide +kernel) (pa_cons (pv 0) (pa_cons (pe_bltn (v := .ty "bool") (u := .type "bool") (by rfl) m_bool (by decide +kernel) rfl) pa_nil)))))))), ?_⟩
    refine ⟨_, rfl, _, _, _, _, true, rfl, .ty "int", .base (.int i), rfl, _, rfl, iteT ?_⟩
    refine ⟨_, rfl, _, _, _, _, false, rfl, .ty "bool", .base (.int i), rfl, _, rfl, ?_⟩
    exact q
end
end TK

namespace TK
open PySem PySem.Spec PyProof.Rows L2
section
variable {P : Program} {w : World} {K : PySem.W.Frag} {mg : Str → Option Value} {base : Heap}
/-! is_name, of a name -/
def spIsName : Sp := fun vs H Q _ => ∃ l : List Nat, vs = [vN l] ∧ Nm l ∧ ∀ H', Same H H' → Q (.bl true) H'
theorem all_true {n : Nat} : (List.replicate n true).all id = true := by
  induction n with
  | zero => rfl
  | succ n ih => rw [List.replicate_succ, List.all_cons, ih]; rfl
theorem ok_is_name {f : Addr} {fd : FuncData} (F : Fun K "is_name" "is_name" s_is_name f fd) (m_len : mg "len" = none) (m_all : mg "all" = none) {tk : Tok} (g_LETTERS : mg "LETTERS" = some (.str lettersZ tk)) : FnOk P w K mg base CX0 1 f fd ["word"] spIsName := by
  refine F.ok sc_is_name (fun vs H Q E h => ?_) (fun cdv A outer s H vs Q E hr h => ?_)
  · obtain ⟨l, rfl, _⟩ := h
    rfl
  · obtain ⟨l, rfl, ⟨h1, h2, h3⟩, q⟩ := h
    refine ⟨_, (pss_one (ps_ret (pe_and (pe_chain op_le op_le pe_int (pe_callB call_len_str (by rfl) m_len (by decide +kernel) (pa_cons (pv 0) pa_nil)) pe_int) (pe_one (pe_callB (cr_all rfl) (by rfl) m_all (by decide +kernel) (pa_cons (pe_lc (own := [("sign", 1)]) (by rfl) sc_is_name.nd (pi_str (pv 0)) (blkOk_by (N := ["word", "sign"]) (sc := defScope s_is_name) (by decide +kernel)) (fun _ _ _ _ _ => (pg_name (i := 1) sc_is_name.nd rfl (.inl rfl))) (fun _ _ _ _ _ => pts_nil) (fun _ _ _ _ _ => (pe_cmpR op_in_sign (pv 1) (pe_glob (v := .str lettersZ) (by rfl) g_LETTERS ⟨_, rfl⟩) (by rfl)))) pa_nil)))))), ?_⟩
    refine ⟨_, rfl, _, rfl, small_len (by omega), _, _, rfl, rfl, _, rfl, ?_⟩
    rw [decide_eq_true (show (1 : Int) ≤ ((sOf l).length : Nat) by rw [sOf_len]; omega)]
    refine iteT ⟨_, _, rfl, rfl, _, rfl, ?_⟩
    rw [decide_eq_true (show (((sOf l).length : Nat) : Int) ≤ 8 by rw [sOf_len]; omega)]
    refine iteT ⟨_, rfl, _, rfl, fun D nD => ?_⟩
    refine lc_it walk_str (fun i H' => H' = upd H D (.lst ((List.replicate i true).map V.bl))) rfl (fun _ _ _ _ => True.intro) (fun i x H1 H2 hi hp hy => ?_) (fun H' hp => ?_)
    · subst hp
      obtain ⟨rfl, c, hc, rfl⟩ := hy
      have hcl : c ∈ l := by
        have : (sOf l).cps.toList[i]? = some c := by rw [Array.getElem?_toList]; exact hc
        exact List.mem_of_getElem? this
      have hin : c ∈ lettersZ.cps.toList := by
        rw [letters_codes]
        have := h3 c hcl
        exact List.mem_map.mpr ⟨c - 97, List.mem_range.mpr (by omega), by omega⟩
      have hil : i < l.length := by
        have : (sOf l).cps.size = l.length := sOf_len l
        omega
      refine ⟨rfl, yesT ⟨_, rfl, _, _, rfl, rfl, _, upd_same, ?_, ?_⟩⟩
      · rw [List.length_map, List.length_replicate]; exact small1000 (by omega)
      · rw [upd_twice, decide_eq_true hin, List.replicate_succ', List.map_append]
        rfl
    · subst hp
      refine ⟨_, _, rfl, lstAt upd_same, ?_⟩
      rw [all_true]
      exact q _ (same_upd nD)
/-! strength, _weakness -/
def spStrength (K : PySem.W.Frag) : Sp := fun vs H Q _ => ∃ (t : Addr) (c : Bd), vs = [.ref t] ∧ H t = some (tB3 c) ∧ BdOk c ∧ Q (.int (c.2.1 * c.2.2)) H
theorem ok_strength {f : Addr} {fd : FuncData} (F : Fun K "strength" "strength" s_strength f fd) : FnOk P w K mg base CX0 1 f fd ["bidder"] (spStrength K) := by
  refine F.ok sc_strength (fun vs H Q E h => ?_) (fun cdv A outer s H vs Q E hr h => ?_)
  · obtain ⟨t, c, rfl, _⟩ := h
    rfl
  · obtain ⟨t, c, rfl, ht, ⟨_, c1, c2, c3, c4⟩, q⟩ := h
    refine ⟨_, (pss_cons (ps_asg (pv 0) (pg_tup (by rfl) (pgs_cons (pg_name (i := 1) sc_strength.nd rfl (.inl rfl)) (pgs_cons (pg_name (i := 2) sc_strength.nd rfl (.inl rfl)) (pgs_cons (pg_name (i := 3) sc_strength.nd rfl (.inl rfl)) pgs_nil)))))
  (pss_one (ps_ret (pe_op op_mul (pv 2) (pv 3))))), ?_⟩
    refine ⟨_, rfl, _, _, rfl, tupAt ht, rfl, _, _, rfl, _, _, rfl, _, _, rfl, rfl, ?_⟩
    exact ⟨_, rfl, _, rfl, _, _, rfl, rfl, .inl ⟨by omega, by omega⟩, q⟩
def spWeakness (K : PySem.W.Frag) : Sp := fun vs H Q _ => ∃ (t : Addr) (c : Bd), vs = [.ref t] ∧ H t = some (tB3 c) ∧ BdOk c ∧ Q (.int (-(c.2.1 * c.2.2))) H
theorem ok_weakness {f : Addr} {fd : FuncData} (F : Fun K "_weakness" "_weakness" s_weakness f fd) (d_strength : Def P w K mg base "strength" 1 ["bidder"] (spStrength K)) : FnOk P w K mg base CX0 2 f fd ["bidder"] (spWeakness K) := by
  refine F.ok sc_weakness (fun vs H Q E h => ?_) (fun cdv A outer s H vs Q E hr h => ?_)
  · obtain ⟨t, c, rfl, _⟩ := h
    rfl
  · obtain ⟨t, c, rfl, ht, ok, q⟩ := h
    refine ⟨_, (pss_one (ps_ret (pe_un un_neg (pe_callD d_strength (hr.mono (by decide)) (by rfl) (pa_cons (pv 0) pa_nil))))), ?_⟩
    exact ⟨_, rfl, t, c, rfl, ht, ok, _, rfl, q⟩
/-! _names -/
def SqS (K : PySem.W.Frag) (H : Hp) (a : Addr) (xs : List V) : Prop := SqL K H a xs ∨ SqT K H a xs
theorem SqS.same {H H' : Hp} {a : Addr} {xs : List V} (h : SqS K H a xs) (s : Same H H') : SqS K H' a xs := by
  rcases h with h | h
  · exact .inl (s.seq h)
  · exact .inr (same_tup s h)
def spNamesOf (K : PySem.W.Frag) : Sp := fun vs H Q _ => ∃ (a : Addr) (ts : List Addr) (cs : List Bd), vs = [.ref a] ∧ SqS K H a (ts.map V.ref) ∧ CrewAt H ts cs ∧ cs.length ≤ 1000 ∧ ∀ p, H p = none → Q (.ref p) (upd H p (.lst (cs.map fun c => vN c.1)))
theorem crew_at {H : Hp} {ts : List Addr} {cs : List Bd} {i : Nat} {x : V} (h : CrewAt H ts cs) (e : (ts.map V.ref)[i]? = some x) : ∃ (t : Addr) (c : Bd), x = .ref t ∧ ts[i]? = some t ∧ cs[i]? = some c ∧ H t = some (tB3 c) := by
  rw [List.getElem?_map] at e
  cases ht : ts[i]? with
  | none => rw [ht] at e; cases e
  | some t =>
    rw [ht] at e
    cases e
    have hi : i < cs.length := by rw [← h.1]; exact (List.getElem?_eq_some_iff.mp ht).1
    exact ⟨t, cs[i], rfl, rfl, List.getElem?_eq_getElem hi, h.2 i t _ ht (List.getElem?_eq_getElem hi)⟩
theorem ok_names {f : Addr} {fd : FuncData} (F : Fun K "_names" "_names" s_names f fd) : FnOk P w K mg base CX0 1 f fd ["bidders"] (spNamesOf K) := by
  refine F.ok sc_names (fun vs H Q E h => ?_) (fun cdv A outer s H vs Q E hr h => ?_)
  · obtain ⟨t, ts, cs, rfl, _⟩ := h
    rfl
  · obtain ⟨a, ts, cs, rfl, hS, ca, hl, q⟩ := h
    have one : ∀ (D : Addr) (i : Nat) (t : Addr) (c : Bd) (H' : Hp), H D = none → H t = some (tB3 c) → cs[i]? = some c → H' = upd H D (.lst ((cs.take i).map fun c => vN c.1)) → ∃ acc, (H' t = some (tB3 c)) ∧ H' D = some (.lst acc) ∧ acc.length < sizeLine ∧ upd H' D (.lst (acc ++ [vN c.1])) = upd H D (.lst ((cs.take (i + 1)).map fun c => vN c.1)) := by
      intro D i t c H' nD et ec e
      subst e
      refine ⟨_, (same_upd nD) _ _ et, upd_same, ?_, ?_⟩
      · rw [List.length_map, List.length_take]; exact small1000 (by omega)
      · rw [upd_twice, List.take_add_one, ec, List.map_append]; rfl
    rcases hS with hS | hS
    · refine ⟨_, (pss_one (ps_ret (pe_lc (own := [("bidder", 1)]) (by rfl) sc_names.nd (pi_list (pv 0)) (blkOk_by (N := ["bidders", "bidder"]) (sc := defScope s_names) (by decide +kernel)) (fun _ _ _ _ _ => (pg_name (i := 1) sc_names.nd rfl (.inl rfl))) (fun _ _ _ _ _ => pts_nil) (fun _ _ _ _ _ => (pe_ix (ix_tupK (K := K) rfl) (pv 1) pe_int (fun _ _ => rfl)))))), ?_⟩
      refine ⟨_, rfl, a, rfl, ⟨_, hS⟩, fun D nD => ?_⟩
      refine lc_list (K := K) (a := a) (xs := ts.map V.ref) (fun i H' => H' = upd H D (.lst ((cs.take i).map fun c => vN c.1))) rfl (fun i H' _ e => e ▸ (same_upd nD).seq hS) (fun i x H' hx hp => ?_) (fun H' hp => ?_)
      · obtain ⟨t, c, rfl, e1, e2, e3⟩ := crew_at ca hx
        obtain ⟨acc, f1, f2, f3, f4⟩ := one D i t c H' nD e3 e2 hp
        exact ⟨rfl, yesT ⟨_, rfl, _, _, _, _, rfl, rfl, tupAt f1, atI_nat (j := 0) rfl, acc, f2, f3, f4⟩⟩
      · subst hp
        rw [List.length_map, ca.1, List.take_length]
        exact q D nD
    · refine ⟨_, (pss_one (ps_ret (pe_lc (own := [("bidder", 1)]) (by rfl) sc_names.nd (pi_tup (pv 0)) (blkOk_by (N := ["bidders", "bidder"]) (sc := defScope s_names) (by decide +kernel)) (fun _ _ _ _ _ => (pg_name (i := 1) sc_names.nd rfl (.inl rfl))) (fun _ _ _ _ _ => pts_nil) (fun _ _ _ _ _ => (pe_ix (ix_tupK (K := K) rfl) (pv 1) pe_int (fun _ _ => rfl)))))), ?_⟩
      refine ⟨_, rfl, a, rfl, ⟨_, hS⟩, fun D nD => ?_⟩
      refine lc_tup (K := K) (a := a) (xs := ts.map V.ref) (fun i H' => H' = upd H D (.lst ((cs.take i).map fun c => vN c.1))) rfl (fun i H' _ e => e ▸ same_tup (same_upd nD) hS) (fun i x H' hx hp => ?_) (fun H' hp => ?_)
      · obtain ⟨t, c, rfl, e1, e2, e3⟩ := crew_at ca hx
        obtain ⟨acc, f1, f2, f3, f4⟩ := one D i t c H' nD e3 e2 hp
        exact ⟨rfl, yesT ⟨_, rfl, _, _, _, _, rfl, rfl, tupAt f1, atI_nat (j := 0) rfl, acc, f2, f3, f4⟩⟩
      · subst hp
        rw [List.length_map, ca.1, List.take_length]
        exact q D nD
end
end TK

namespace TK
open PySem PySem.Spec PyProof.Rows L2
/-! ### the same data, down to a depth -/
def flat1 : V → Bool
  | .non => true | .bl _ => true | .int _ => true | .str _ => true | _ => false
def Eq2 (H : Hp) : Nat → V → V → Prop
  | 0, x, y => x = y ∧ flat1 x = true
  | n + 1, x, y => (x = y ∧ flat1 x = true) ∨ ∃ (a b : Addr) (xs ys : List V), x = .ref a ∧ y = .ref b ∧ ((H a = some (.lst xs) ∧ H b = some (.lst ys)) ∨ (H a = some (.tup xs) ∧ H b = some (.tup ys))) ∧ xs.length = ys.length ∧ xs.length < 2 ^ 40 ∧
      ∀ (i : Nat) (x y : V), xs[i]? = some x → ys[i]? = some y → Eq2 H n x y
theorem bint {z : V} {H : Hp} {Q : VK} (h : z = .bl true) (q : Q (.bl true) H) : Q z H := h ▸ q
section
variable {P : Program} {w : World} {K : PySem.W.Frag} {mg : Str → Option Value} {base : Heap}
def spSame (n : Nat) : Sp := fun vs H Q _ => ∃ x y, vs = [x, y] ∧ Eq2 H n x y ∧ Q (.bl true) H
theorem same_tail {x y : V} {H : Hp} (ex : x = y) (fx : flat1 x = true) : (x = .non ∧ y = .non) ∨ (∃ b, x = .bl b ∧ y = .bl b) ∨ (∃ i, x = .int i ∧ y = .int i) ∨ ∃ z, x = .str z ∧ y = .str z := by
  subst ex
  cases x with
  | non => exact .inl ⟨rfl, rfl⟩
  | bl b => exact .inr (.inl ⟨b, rfl, rfl⟩)
  | int i => exact .inr (.inr (.inl ⟨i, rfl, rfl⟩))
  | str z => exact .inr (.inr (.inr ⟨z, rfl, rfl⟩))
  | byt _ => cases fx
  | flt _ => cases fx
  | ref _ => cases fx
  | ty _ => cases fx
structure SameTx (K : PySem.W.Frag) (mg : Str → Option Value) : Prop where
  m_isinstance : mg "isinstance" = none
  m_int : mg "int" = none
  m_bool : mg "bool" = none
  m_str : mg "str" = none
  m_tuple : mg "tuple" = none
  m_list : mg "list" = none
  m_len : mg "len" = none
  m_range : mg "range" = none
theorem ok_L_same {f : Addr} {fd : FuncData} (F : Fun K "_law_same" "_law_same" s_L_same f fd) (g : mg "_law_same" = some (.ref f)) (b : Binds K fd ["_law_got", "_law_wanted"] []) (T : SameTx K mg) (d_L_integer : Def P w K mg base "_law_integer" 1 ["_law_got"] spInteger) :
    ∀ n : Nat, n ≤ 10 → FnOk P w K mg base CX0 (n + 2) f fd ["_law_got", "_law_wanted"] (spSame n) := by
  obtain ⟨m_isinstance, m_int, m_bool, m_str, m_tuple, m_list, m_len, m_range⟩ := T
  intro n
  induction n with
  | zero =>
    intro _
    refine F.ok sc_L_same (fun vs H Q E h => ?_) (fun cdv A outer s H vs Q E hr h => ?_)
    · obtain ⟨x, y, rfl, _⟩ := h
      rfl
    · obtain ⟨x, y, rfl, ⟨ex, fx⟩, q⟩ := h
      refine ⟨_, (pss_cons (ps_if (pt_cmpR op_isN (pv 1) pe_non (nomark _)) (pss_one (ps_ret (pe_cmpR op_isN (pv 0) pe_non (nomark _)))) pss_nil)
  (pss_cons (ps_if (pt_cmpR op_isT (pv 1) pe_bl (nomark _)) (pss_one (ps_ret (pe_cmpR op_isT (pv 0) pe_bl (nomark _)))) pss_nil)
  (pss_cons (ps_if (pt_cmpR op_isT (pv 1) pe_bl (nomark _)) (pss_one (ps_ret (pe_cmpR op_isT (pv 0) pe_bl (nomark _)))) pss_nil)
  (pss_cons (ps_if (pt_val (pe_callB call_isi (by rfl) m_isinstance (by decide +kernel) (pa_cons (pv 1) (pa_cons (pe_bltn (v := .ty "int") (u := .type "int") (by rfl) m_int (by decide +kernel) rfl) pa_nil)))) (pss_one (ps_ret (pe_and (pe_callD d_L_integer (hr.mono (by omega)) (by rfl) (pa_cons (pv 0) pa_nil)) (pe_one (pe_cmpR op_eq (pv 0) (pv 1) (nomark _)))))) pss_nil)
  (pss_cons (ps_if (pt_val (pe_callB call_isi (by rfl) m_isinstance (by decide +kernel) (pa_cons (pv 1) (pa_cons (pe_bltn (v := .ty "str") (u := .type "str") (by rfl) m_str (by decide +kernel) rfl) pa_nil)))) (pss_one (ps_ret (pe_and (pe_callB call_isi (by rfl) m_isinstance (by decide +kernel) (pa_cons (pv 0) (pa_cons (pe_bltn (v := .ty "str") (u := .type "str") (by rfl) m_str (by decide +kernel) rfl) pa_nil))) (pe_one (pe_cmpR op_eq (pv 0) (pv 1) (nomark _)))))) pss_nil)
  (pss_cons (ps_if (PW.pt (pw_and (pt_val (pe_callB call_isi (by rfl) m_isinstance (by decide +kernel) (pa_cons (pv 1) (pa_cons (pe_bltn (v := .ty "tuple") (u := .type "tuple") (by rfl) m_tuple (by decide +kernel) rfl) pa_nil)))) (pw_and1 (pt_not (pt_val (pe_callB call_isi (by rfl) m_isinstance (by decide +kernel) (pa_cons (pv 0) (pa_cons (pe_bltn (v := .ty "tuple") (u := .type "tuple") (by rfl) m_tuple (by decide +kernel) rfl) pa_nil)))))))) (pss_one (ps_ret pe_bl)) pss_nil)
  (pss_cons (ps_if (PW.pt (pw_and (pt_val (pe_callB call_isi (by rfl) m_isinstance (by decide +kernel) (pa_cons (pv 1) (pa_cons (pe_bltn (v := .ty "list") (u := .type "list") (by rfl) m_list (by decide +kernel) rfl) pa_nil)))) (pw_and1 (pt_not (pt_val (pe_callB call_isi (by rfl) m_isinstance (by decide +kernel) (pa_cons (pv 0) (pa_cons (pe_bltn (v := .ty "list") (u := .type "list") (by rfl) m_list (by decide +kernel) rfl) pa_nil)))))))) (pss_one (ps_ret pe_bl)) pss_nil)
  (pss_cons (ps_if (pt_cmpR op_ne (pe_callB call_len_seq (by rfl) m_len (by decide +kernel) (pa_cons (pv 0) pa_nil)) (pe_callB call_len_seq (by rfl) m_len (by decide +kernel) (pa_cons (pv 1) pa_nil)) (nomark _)) (pss_one (ps_ret pe_bl)) pss_nil)
  (pss_cons ps_never (pss_one ps_never)))))))))), ?_⟩
      rcases same_tail (H := H) ex fx with ⟨rfl, rfl⟩ | ⟨b, rfl, rfl⟩ | ⟨i, rfl, rfl⟩ | ⟨z, rfl, rfl⟩
      · exact ⟨_, rfl, rfl, _, rfl, iteT ⟨_, rfl, rfl, q⟩⟩
      · refine ⟨_, rfl, rfl, _, rfl, iteF ⟨_, rfl, _, rfl, _, rfl, ?_⟩⟩
        cases b with
        | true => exact iteT ⟨_, rfl, _, rfl, q⟩
        | false => exact iteF ⟨_, rfl, _, rfl, _, rfl, iteT ⟨_, rfl, _, rfl, q⟩⟩
      · refine ⟨_, rfl, rfl, _, rfl, iteF ⟨_, rfl, _, rfl, _, rfl, iteF ⟨_, rfl, _, rfl, _, rfl, iteF ?_⟩⟩⟩
        refine ⟨_, rfl, _, _, _, _, true, rfl, .ty "int", .base (.int i), rfl, _, rfl, iteT ?_⟩
        refine ⟨_, rfl, i, rfl, _, rfl, iteT ⟨_, rfl, _, rfl, rfl, ?_⟩⟩
        exact bint (congrArg V.bl (decide_eq_true rfl)) q
      · refine ⟨_, rfl, rfl, _, rfl, iteF ⟨_, rfl, _, rfl, _, rfl, iteF ⟨_, rfl, _, rfl, _, rfl, iteF ?_⟩⟩⟩
        refine ⟨_, rfl, _, _, _, _, false, rfl, .ty "int", .base (.str z), rfl, _, rfl, iteF ?_⟩
        refine ⟨_, rfl, _, _, _, _, true, rfl, .ty "str", .base (.str z), rfl, _, rfl, iteT ?_⟩
        refine ⟨_, rfl, _, _, _, _, true, rfl, .ty "str", .base (.str z), rfl, _, rfl, iteT ⟨_, rfl, _, rfl, rfl, ?_⟩⟩
        exact bint (congrArg V.bl (decide_eq_true rfl)) q
  | succ n ih =>
    intro hn
    have d_L_same : Def P w K mg base "_law_same" (n + 2) ["_law_got", "_law_wanted"] (spSame n) := ⟨_, _, ih (by omega), g, F.kp, b⟩
    refine F.ok sc_L_same (fun vs H Q E h => ?_) (fun cdv A outer s H vs Q E hr h => ?_)
    · obtain ⟨x, y, rfl, _⟩ := h
      rfl
    · obtain ⟨x, y, rfl, hE, q⟩ := h
      rcases hE with ⟨ex, fx⟩ | ⟨a, c, xs, ys, rfl, rfl, hk, hl, hz, hi⟩
      · refine ⟨_, (pss_cons (ps_if (pt_cmpR op_isN (pv 1) pe_non (nomark _)) (pss_one (ps_ret (pe_cmpR op_isN (pv 0) pe_non (nomark _)))) pss_nil)
  (pss_cons (ps_if (pt_cmpR op_isT (pv 1) pe_bl (nomark _)) (pss_one (ps_ret (pe_cmpR op_isT (pv 0) pe_bl (nomark _)))) pss_nil)
  (pss_cons (ps_if (pt_cmpR op_isT (pv 1) pe_bl (nomark _)) (pss_one (ps_ret (pe_cmpR op_isT (pv 0) pe_bl (nomark _)))) pss_nil)
  (pss_cons (ps_if (pt_val (pe_callB call_isi (by rfl) m_isinstance (by decide +kernel) (pa_cons (pv 1) (pa_cons (pe_bltn (v := .ty "int") (u := .type "int") (by rfl) m_int (by decide +kernel) rfl) pa_nil)))) (pss_one (ps_ret (pe_and (pe_callD d_L_integer (hr.mono (by omega)) (by rfl) (pa_cons (pv 0) pa_nil)) (pe_one (pe_cmpR op_eq (pv 0) (pv 1) (nomark _)))))) pss_nil)
  (pss_cons (ps_if (pt_val (pe_callB call_isi (by rfl) m_isinstance (by decide +kernel) (pa_cons (pv 1) (pa_cons (pe_bltn (v := .ty "str") (u := .type "str") (by rfl) m_str (by decide +kernel) rfl) pa_nil)))) (pss_one (ps_ret (pe_and (pe_callB call_isi (by rfl) m_isinstance (by decide +kernel) (pa_cons (pv 0) (pa_cons (pe_bltn (v := .ty "str") (u := .type "str") (by rfl) m_str (by decide +kernel) rfl) pa_nil))) (pe_one (pe_cmpR op_eq (pv 0) (pv 1) (nomark _)))))) pss_nil)
  (pss_cons (ps_if (PW.pt (pw_and (pt_val (pe_callB call_isi (by rfl) m_isinstance (by decide +kernel) (pa_cons (pv 1) (pa_cons (pe_bltn (v := .ty "tuple") (u := .type "tuple") (by rfl) m_tuple (by decide +kernel) rfl) pa_nil)))) (pw_and1 (pt_not (pt_val (pe_callB call_isi (by rfl) m_isinstance (by decide +kernel) (pa_cons (pv 0) (pa_cons (pe_bltn (v := .ty "tuple") (u := .type "tuple") (by rfl) m_tuple (by decide +kernel) rfl) pa_nil)))))))) (pss_one (ps_ret pe_bl)) pss_nil)
  (pss_cons (ps_if (PW.pt (pw_and (pt_val (pe_callB call_isi (by rfl) m_isinstance (by decide +kernel) (pa_cons (pv 1) (pa_cons (pe_bltn (v := .ty "list") (u := .type "list") (by rfl) m_list (by decide +kernel) rfl) pa_nil)))) (pw_and1 (pt_not (pt_val (pe_callB call_isi (by rfl) m_isinstance (by decide +kernel) (pa_cons (pv 0) (pa_cons (pe_bltn (v := .ty "list") (u := .type "list") (by rfl) m_list (by decide +kernel) rfl) pa_nil)))))))) (pss_one (ps_ret pe_bl)) pss_nil)
  (pss_cons (ps_if (pt_cmpR op_ne (pe_callB call_len_seq (by rfl) m_len (by decide +kernel) (pa_cons (pv 0) pa_nil)) (pe_callB call_len_seq (by rfl) m_len (by decide +kernel) (pa_cons (pv 1) pa_nil)) (nomark _)) (pss_one (ps_ret pe_bl)) pss_nil)
  (pss_cons ps_never (pss_one ps_never)))))))))), ?_⟩
        rcases same_tail (H := H) ex fx with ⟨rfl, rfl⟩ | ⟨b, rfl, rfl⟩ | ⟨i, rfl, rfl⟩ | ⟨z, rfl, rfl⟩
        · exact ⟨_, rfl, rfl, _, rfl, iteT ⟨_, rfl, rfl, q⟩⟩
        · refine ⟨_, rfl, rfl, _, rfl, iteF ⟨_, rfl, _, rfl, _, rfl, ?_⟩⟩
          cases b with
          | true => exact iteT ⟨_, rfl, _, rfl, q⟩
          | false => exact iteF ⟨_, rfl, _, rfl, _, rfl, iteT ⟨_, rfl, _, rfl, q⟩⟩
        · refine ⟨_, rfl, rfl, _, rfl, iteF ⟨_, rfl, _, rfl, _, rfl, iteF ⟨_, rfl, _, rfl, _, rfl, iteF ?_⟩⟩⟩
          refine ⟨_, rfl, _, _, _, _, true, rfl, .ty "int", .base (.int i), rfl, _, rfl, iteT ?_⟩
          refine ⟨_, rfl, i, rfl, _, rfl, iteT ⟨_, rfl, _, rfl, rfl, ?_⟩⟩
          exact bint (congrArg V.bl (decide_eq_true rfl)) q
        · refine ⟨_, rfl, rfl, _, rfl, iteF ⟨_, rfl, _, rfl, _, rfl, iteF ⟨_, rfl, _, rfl, _, rfl, iteF ?_⟩⟩⟩
          refine ⟨_, rfl, _, _, _, _, false, rfl, .ty "int", .base (.str z), rfl, _, rfl, iteF ?_⟩
          refine ⟨_, rfl, _, _, _, _, true, rfl, .ty "str", .base (.str z), rfl, _, rfl, iteT ?_⟩
          refine ⟨_, rfl, _, _, _, _, true, rfl, .ty "str", .base (.str z), rfl, _, rfl, iteT ⟨_, rfl, _, rfl, rfl, ?_⟩⟩
          exact bint (congrArg V.bl (decide_eq_true rfl)) q
      · have step : ∀ (i : Nat) (hi1 : i < ys.length), ∃ x y, atI xs (0 + (i : Int)) = some x ∧ atI ys (0 + (i : Int)) = some y ∧ Eq2 H n x y := by
          intro i h1
          have h2 : i < xs.length := by omega
          refine ⟨xs[i], ys[i], ?_, ?_, hi i _ _ (List.getElem?_eq_getElem h2) (List.getElem?_eq_getElem h1)⟩
          · exact atI_in (by omega) (by rw [show (0 + (i : Int)).toNat = i by omega]; exact List.getElem?_eq_getElem h2)
          · exact atI_in (by omega) (by rw [show (0 + (i : Int)).toNat = i by omega]; exact List.getElem?_eq_getElem h1)
        rcases hk with ⟨ha, hc⟩ | ⟨ha, hc⟩
        · refine ⟨_, (pss_cons (ps_if (pt_cmpR op_isN (pv 1) pe_non (nomark _)) (pss_one (ps_ret (pe_cmpR op_isN (pv 0) pe_non (nomark _)))) pss_nil)
  (pss_cons (ps_if (pt_cmpR op_isT (pv 1) pe_bl (nomark _)) (pss_one (ps_ret (pe_cmpR op_isT (pv 0) pe_bl (nomark _)))) pss_nil)
  (pss_cons (ps_if (pt_cmpR op_isT (pv 1) pe_bl (nomark _)) (pss_one (ps_ret (pe_cmpR op_isT (pv 0) pe_bl (nomark _)))) pss_nil)
  (pss_cons (ps_if (pt_val (pe_callB call_isi (by rfl) m_isinstance (by decide +kernel) (pa_cons (pv 1) (pa_cons (pe_bltn (v := .ty "int") (u := .type "int") (by rfl) m_int (by decide +kernel) rfl) pa_nil)))) (pss_one (ps_ret (pe_and (pe_callD d_L_integer (hr.mono (by omega)) (by rfl) (pa_cons (pv 0) pa_nil)) (pe_one (pe_cmpR op_eq (pv 0) (pv 1) (nomark _)))))) pss_nil)
  (pss_cons (ps_if (pt_val (pe_callB call_isi (by rfl) m_isinstance (by decide +kernel) (pa_cons (pv 1) (pa_cons (pe_bltn (v := .ty "str") (u := .type "str") (by rfl) m_str (by decide +kernel) rfl) pa_nil)))) (pss_one (ps_ret (pe_and (pe_callB call_isi (by rfl) m_isinstance (by decide +kernel) (pa_cons (pv 0) (pa_cons (pe_bltn (v := .ty "str") (u := .type "str") (by rfl) m_str (by decide +kernel) rfl) pa_nil))) (pe_one (pe_cmpR op_eq (pv 0) (pv 1) (nomark _)))))) pss_nil)
  (pss_cons (ps_if (PW.pt (pw_and (pt_val (pe_callB call_isi (by rfl) m_isinstance (by decide +kernel) (pa_cons (pv 1) (pa_cons (pe_bltn (v := .ty "tuple") (u := .type "tuple") (by rfl) m_tuple (by decide +kernel) rfl) pa_nil)))) (pw_and1 (pt_not (pt_val (pe_callB call_isi (by rfl) m_isinstance (by decide +kernel) (pa_cons (pv 0) (pa_cons (pe_bltn (v := .ty "tuple") (u := .type "tuple") (by rfl) m_tuple (by decide +kernel) rfl) pa_nil)))))))) (pss_one (ps_ret pe_bl)) pss_nil)
  (pss_cons (ps_if (PW.pt (pw_and (pt_val (pe_callB call_isi (by rfl) m_isinstance (by decide +kernel) (pa_cons (pv 1) (pa_cons (pe_bltn (v := .ty "list") (u := .type "list") (by rfl) m_list (by decide +kernel) rfl) pa_nil)))) (pw_and1 (pt_not (pt_val (pe_callB call_isi (by rfl) m_isinstance (by decide +kernel) (pa_cons (pv 0) (pa_cons (pe_bltn (v := .ty "list") (u := .type "list") (by rfl) m_list (by decide +kernel) rfl) pa_nil)))))))) (pss_one (ps_ret pe_bl)) pss_nil)
  (pss_cons (ps_if (pt_cmpR op_ne (pe_callB call_len_seq (by rfl) m_len (by decide +kernel) (pa_cons (pv 0) pa_nil)) (pe_callB call_len_seq (by rfl) m_len (by decide +kernel) (pa_cons (pv 1) pa_nil)) (nomark _)) (pss_one (ps_ret pe_bl)) pss_nil)
  (pss_cons (ps_for PassesOwn.never rfl (pi_range1 (by rfl) m_range (pa_cons (pe_callB call_len_seq (by rfl) m_len (by decide +kernel) (pa_cons (pv 1) pa_nil)) pa_nil)) (pg_name (i := 2) sc_L_same.nd rfl (.inl rfl))
    (pss_one (ps_if (pt_not (pt_val (pe_callD d_L_same (hr.mono (by omega)) (by rfl) (pa_cons (pe_ix ix_list (pv 0) (pv 2) (fun _ _ => rfl)) (pa_cons (pe_ix ix_list (pv 1) (pv 2) (fun _ _ => rfl)) pa_nil))))) (pss_one (ps_ret pe_bl)) pss_nil)))
  (pss_one (ps_ret pe_bl))))))))))), ?_⟩
          refine ⟨_, rfl, rfl, _, rfl, iteF ⟨_, rfl, _, rfl, _, rfl, iteF ⟨_, rfl, _, rfl, _, rfl, iteF ?_⟩⟩⟩
          refine ⟨_, rfl, _, _, _, _, false, rfl, .ty "int", .base (.lst hc), rfl, _, rfl, iteF ?_⟩
          refine ⟨_, rfl, _, _, _, _, false, rfl, .ty "str", .base (.lst hc), rfl, _, rfl, iteF ?_⟩
          refine ⟨_, rfl, _, _, _, _, false, rfl, .ty "tuple", .base (.lst hc), rfl, _, rfl, iteF (iteF ?_)⟩
          refine ⟨_, rfl, _, _, _, _, true, rfl, .ty "list", .base (.lst hc), rfl, _, rfl, iteT ⟨_, rfl, _, _, _, _, true, rfl, .ty "list", .base (.lst ha), rfl, _, rfl, iteF ?_⟩⟩
          refine ⟨_, rfl, _, _, rfl, .inl (lstAt ha), _, rfl, _, _, rfl, .inl (lstAt hc), rfl, _, rfl, ?_⟩
          refine iteNS (congrArg (fun k : Nat => V.int (k : Int)) hl) ?_
          refine ⟨_, rfl, _, _, rfl, .inl (lstAt hc), _, rfl, by omega, by omega, for_range (fun i σ H' => H' = H ∧ ∃ y : Option V, σ = [some (.ref a), some (.ref c), y]) ⟨rfl, _, rfl⟩ ?_ ?_⟩
          · rintro i σ H' hlt ⟨rfl, y, rfl⟩
            obtain ⟨x1, y1, e1, e2, e3⟩ := step i (by omega)
            refine ⟨_, rfl, _, rfl, _, _, _, _, rfl, rfl, lstAt ha, e1, _, rfl, _, rfl, _, _, _, _, rfl, rfl, lstAt hc, e2, x1, y1, rfl, e3, _, rfl, iteF ⟨rfl, _, rfl⟩⟩
          · rintro σ H' ⟨rfl, y, rfl⟩
            exact q
        · refine ⟨_, (pss_cons (ps_if (pt_cmpR op_isN (pv 1) pe_non (nomark _)) (pss_one (ps_ret (pe_cmpR op_isN (pv 0) pe_non (nomark _)))) pss_nil)
  (pss_cons (ps_if (pt_cmpR op_isT (pv 1) pe_bl (nomark _)) (pss_one (ps_ret (pe_cmpR op_isT (pv 0) pe_bl (nomark _)))) pss_nil)
  (pss_cons (ps_if (pt_cmpR op_isT (pv 1) pe_bl (nomark _)) (pss_one (ps_ret (pe_cmpR op_isT (pv 0) pe_bl (nomark _)))) pss_nil)
  (pss_cons (ps_if (pt_val (pe_callB call_isi (by rfl) m_isinstance (by decide +kernel) (pa_cons (pv 1) (pa_cons (pe_bltn (v := .ty "int") (u := .type "int") (by rfl) m_int (by decide +kernel) rfl) pa_nil)))) (pss_one (ps_ret (pe_and (pe_callD d_L_integer (hr.mono (by omega)) (by rfl) (pa_cons (pv 0) pa_nil)) (pe_one (pe_cmpR op_eq (pv 0) (pv 1) (nomark _)))))) pss_nil)
  (pss_cons (ps_if (pt_val (pe_callB call_isi (by rfl) m_isinstance (by decide +kernel) (pa_cons (pv 1) (pa_cons (pe_bltn (v := .ty "str") (u := .type "str") (by rfl) m_str (by decide +kernel) rfl) pa_nil)))) (pss_one (ps_ret (pe_and (pe_callB call_isi (by rfl) m_isinstance (by decide +kernel) (pa_cons (pv 0) (pa_cons (pe_bltn (v := .ty "str") (u := .type "str") (by rfl) m_str (by decide +kernel) rfl) pa_nil))) (pe_one (pe_cmpR op_eq (pv 0) (pv 1) (nomark _)))))) pss_nil)
  (pss_cons (ps_if (PW.pt (pw_and (pt_val (pe_callB call_isi (by rfl) m_isinstance (by decide +kernel) (pa_cons (pv 1) (pa_cons (pe_bltn (v := .ty "tuple") (u := .type "tuple") (by rfl) m_tuple (by decide +kernel) rfl) pa_nil)))) (pw_and1 (pt_not (pt_val (pe_callB call_isi (by rfl) m_isinstance (by decide +kernel) (pa_cons (pv 0) (pa_cons (pe_bltn (v := .ty "tuple") (u := .type "tuple") (by rfl) m_tuple (by decide +kernel) rfl) pa_nil)))))))) (pss_one (ps_ret pe_bl)) pss_nil)
  (pss_cons (ps_if (PW.pt (pw_and (pt_val (pe_callB call_isi (by rfl) m_isinstance (by decide +kernel) (pa_cons (pv 1) (pa_cons (pe_bltn (v := .ty "list") (u := .type "list") (by rfl) m_list (by decide +kernel) rfl) pa_nil)))) (pw_and1 (pt_not (pt_val (pe_callB call_isi (by rfl) m_isinstance (by decide +kernel) (pa_cons (pv 0) (pa_cons (pe_bltn (v := .ty "list") (u := .type "list") (by rfl) m_list (by decide +kernel) rfl) pa_nil)))))))) (pss_one (ps_ret pe_bl)) pss_nil)
  (pss_cons (ps_if (pt_cmpR op_ne (pe_callB call_len_seq (by rfl) m_len (by decide +kernel) (pa_cons (pv 0) pa_nil)) (pe_callB call_len_seq (by rfl) m_len (by decide +kernel) (pa_cons (pv 1) pa_nil)) (nomark _)) (pss_one (ps_ret pe_bl)) pss_nil)
  (pss_cons (ps_for PassesOwn.never rfl (pi_range1 (by rfl) m_range (pa_cons (pe_callB call_len_seq (by rfl) m_len (by decide +kernel) (pa_cons (pv 1) pa_nil)) pa_nil)) (pg_name (i := 2) sc_L_same.nd rfl (.inl rfl))
    (pss_one (ps_if (pt_not (pt_val (pe_callD d_L_same (hr.mono (by omega)) (by rfl) (pa_cons (pe_ix ix_tup (pv 0) (pv 2) (fun _ _ => rfl)) (pa_cons (pe_ix ix_tup (pv 1) (pv 2) (fun _ _ => rfl)) pa_nil))))) (pss_one (ps_ret pe_bl)) pss_nil)))
  (pss_one (ps_ret pe_bl))))))))))), ?_⟩
          refine ⟨_, rfl, rfl, _, rfl, iteF ⟨_, rfl, _, rfl, _, rfl, iteF ⟨_, rfl, _, rfl, _, rfl, iteF ?_⟩⟩⟩
          refine ⟨_, rfl, _, _, _, _, false, rfl, .ty "int", .base (.tup hc), rfl, _, rfl, iteF ?_⟩
          refine ⟨_, rfl, _, _, _, _, false, rfl, .ty "str", .base (.tup hc), rfl, _, rfl, iteF ?_⟩
          refine ⟨_, rfl, _, _, _, _, true, rfl, .ty "tuple", .base (.tup hc), rfl, _, rfl, iteT ⟨_, rfl, _, _, _, _, true, rfl, .ty "tuple", .base (.tup ha), rfl, _, rfl, iteF ?_⟩⟩
          refine ⟨_, rfl, _, _, _, _, false, rfl, .ty "list", .base (.tup hc), rfl, _, rfl, iteF (iteF ?_)⟩
          refine ⟨_, rfl, _, _, rfl, .inr (tupAt ha), _, rfl, _, _, rfl, .inr (tupAt hc), rfl, _, rfl, ?_⟩
          refine iteNS (congrArg (fun k : Nat => V.int (k : Int)) hl) ?_
          refine ⟨_, rfl, _, _, rfl, .inr (tupAt hc), _, rfl, by omega, by omega, for_range (fun i σ H' => H' = H ∧ ∃ y : Option V, σ = [some (.ref a), some (.ref c), y]) ⟨rfl, _, rfl⟩ ?_ ?_⟩
          · rintro i σ H' hlt ⟨rfl, y, rfl⟩
            obtain ⟨x1, y1, e1, e2, e3⟩ := step i (by omega)
            refine ⟨_, rfl, _, rfl, _, _, _, _, rfl, rfl, tupAt ha, e1, _, rfl, _, rfl, _, _, _, _, rfl, rfl, tupAt hc, e2, x1, y1, rfl, e3, _, rfl, iteF ⟨rfl, _, rfl⟩⟩
          · rintro σ H' ⟨rfl, y, rfl⟩
            exact q
end
end TK

namespace TK
open PySem PySem.Spec PyProof.Rows L2
structure CrewW (cs : List Bd) : Prop where
  wts : ∀ c ∈ cs, 1 ≤ c.2.1 ∧ c.2.1 ≤ 1000
  few : cs.length ≤ 6
theorem CrewOk.w {cs : List Bd} (h : CrewOk cs) : CrewW cs := ⟨fun c hc => ⟨(h.ok c hc).2.1, (h.ok c hc).2.2.1⟩, h.few⟩
def loadB (c : Bd) : Int := c.2.1 * c.2.2
/-- j stands ahead of k -/
def beats (ls : List Int) (j k : Nat) : Bool := decide (ls.getD k 0 < ls.getD j 0) || (decide (ls.getD j 0 = ls.getD k 0) && decide (j < k))
def aheadOf (ls : List Int) (k : Nat) : List Nat := (List.range ls.length).filter fun j => beats ls j k
def pick (cs : List Bd) (sill : Int) (r k : Nat) : Bool := decide ((aheadOf (cs.map loadB) k).length = r) && decide (sill ≤ (cs.map loadB).getD k 0)
def rowOf1 (cs : List Bd) (sill : Int) (r n : Nat) : List (List Nat) := ((List.range n).filter fun k => pick cs sill r k).map fun k => ((cs.map (·.1)).getD k [])
def wantF (cs : List Bd) (sill : Int) : Nat → List (List Nat)
  | 0 => []
  | r + 1 => wantF cs sill r ++ rowOf1 cs sill r cs.length
theorem row_len (cs : List Bd) (sill : Int) (r n : Nat) : (rowOf1 cs sill r n).length ≤ n := by
  unfold rowOf1
  rw [List.length_map]
  have := List.length_filter_le (fun k => pick cs sill r k) (List.range n)
  rw [List.length_range] at this
  exact this
theorem want_len (cs : List Bd) (sill : Int) : ∀ r, (wantF cs sill r).length ≤ r * cs.length
  | 0 => Nat.le_of_eq (by simp [wantF])
  | r + 1 => by
    unfold wantF
    rw [List.length_append, Nat.succ_mul]
    exact Nat.add_le_add (want_len cs sill r) (row_len cs sill r cs.length)
section
variable {P : Program} {w : World} {K : PySem.W.Frag} {mg : Str → Option Value} {base : Heap}
def spLadderW (K : PySem.W.Frag) : Sp := fun vs H Q _ => ∃ (p : Addr) (ts : List Addr) (cs : List Bd) (n : Nat) (sill : Int), vs = [.ref p, .int (n : Int), .int sill] ∧ H p = some (.lst (ts.map V.ref)) ∧ CrewAt H ts cs ∧ CrewW cs ∧ n ≤ 3 ∧
  ∀ (H' : Hp) (t : Addr) (o : Obj), Same H H' → H' t = some (.frz o (.tup ((wantF cs sill n).map vN))) → o.cls = .type "tuple" → o.dict = none → Q (.ref t) H'
theorem ok_L_ladder {f : Addr} {fd : FuncData} (F : Fun K "_law_ladder" "_law_ladder" s_L_ladder f fd) (m_range : mg "range" = none) (m_len : mg "len" = none) (m_tuple : mg "tuple" = none) :
    FnOk P w K mg base CX0 1 f fd ["_law_crew", "_law_slots", "_law_sill_here"] (spLadderW K) := by
  refine F.ok sc_L_ladder (fun vs H Q E h => ?_) (fun cdv A outer s H vs Q E hr h => ?_)
  · obtain ⟨p, ts, cs, n, sill, rfl, _⟩ := h
    rfl
  · obtain ⟨p, ts, cs, n, sill, rfl, hp, ca, ck, hn, q⟩ := h
    refine ⟨_, (pss_cons (ps_set (i := 3) sc_L_ladder.nd rfl (.inr rfl) (pe_lc (own := [("_law_name", 8), ("_law_weight", 9), ("_law_bid", 10)]) (by rfl) sc_L_ladder.nd (pi_list (pv 0)) (blkOk_by (N := ["_law_crew", "_law_slots", "_law_sill_here", "_law_loads", "_law_names_here", "_law_rank", "_law_k", "_law_ahead", "_law_name", "_law_weight", "_law_bid", "_law_j"]) (sc := defScope s_L_ladder) (by decide +kernel)) (fun _ _ _ _ _ => (pg_tupK (K := K) (n := 3) rfl (by rfl) (pgs_cons (pg_name (i := 8) sc_L_ladder.nd rfl (.inl rfl)) (pgs_cons (pg_name (i := 9) sc_L_ladder.nd rfl (.inl rfl)) (pgs_cons (pg_name (i := 10) sc_L_ladder.nd rfl (.inl rfl)) pgs_nil))))) (fun _ _ _ _ _ => pts_nil) (fun _ _ _ _ _ => (pe_op op_mul (pv 9) (pv 10)))))
  (pss_cons (ps_set (i := 4) sc_L_ladder.nd rfl (.inl rfl) (pe_lst pa_nil))
  (pss_cons (ps_for PassesOwn.never rfl (pi_range1 (by rfl) m_range (pa_cons (pv 1) pa_nil)) (pg_name (i := 5) sc_L_ladder.nd rfl (.inl rfl))
    (pss_one (ps_for PassesOwn.never rfl (pi_range1 (by rfl) m_range (pa_cons (pe_callB call_len_seq (by rfl) m_len (by decide +kernel) (pa_cons (pv 0) pa_nil)) pa_nil)) (pg_name (i := 6) sc_L_ladder.nd rfl (.inr rfl))
    (pss_cons (ps_setLc (i := 7) (own := [("_law_j", 11)]) (by rfl) sc_L_ladder.nd rfl rfl (sw_true rfl rfl rfl (by decide +kernel)) (pi_range1 (by rfl) m_range (pa_cons (pe_callB call_len_seq (by rfl) m_len (by decide +kernel) (pa_cons (pv 0) pa_nil)) pa_nil)) (blkOk_by (N := ["_law_crew", "_law_slots", "_law_sill_here", "_law_loads", "_law_names_here", "_law_rank", "_law_k", "_law_ahead", "_law_name", "_law_weight", "_law_bid", "_law_j"]) (sc := defScope s_L_ladder) (by decide +kernel)) (fun _ _ _ _ _ => (pg_name (i := 11) sc_L_ladder.nd rfl (.inl rfl))) (fun _ _ _ _ _ => (pts_one (PW.pt (pw_or (pt_cmpR op_gt (pe_ix (ix_listK (K := K) rfl) (pv 3) (pv 11) (fun _ _ => rfl)) (pe_ix (ix_listK (K := K) rfl) (pv 3) (pv 6) (fun _ _ => rfl)) (nomark _)) (pw_or1 (PW.pt (pw_and (pt_cmpR op_eq (pe_ix (ix_listK (K := K) rfl) (pv 3) (pv 11) (fun _ _ => rfl)) (pe_ix (ix_listK (K := K) rfl) (pv 3) (pv 6) (fun _ _ => rfl)) (nomark _)) (pw_and1 (pt_cmpR op_lt (pv 11) (pv 6) (nomark _)))))))))) (fun _ _ _ _ _ => (pv 11)))
  (pss_one (ps_if (PW.pt (pw_and (pt_cmpR op_eq (pe_callB call_len_seq (by rfl) m_len (by decide +kernel) (pa_cons (pv 7) pa_nil)) (pv 5) (nomark _)) (pw_and1 (pt_cmpR op_ge (pe_ix ix_list (pv 3) (pv 6) (fun _ _ => rfl)) (pv 2) (nomark _))))) (pss_one (ps_expr (pe_bm PySem.F.plainAttrs_list PySem.F.slot_list_append PySem.F.type_list_append mt_append (pv 4) (pa_cons (pe_ix ix_tup (pe_ix ix_list (pv 0) (pv 6) (fun _ _ => rfl)) pe_int (fun _ _ => rfl)) pa_nil)))) pss_nil))))))
  (pss_one (ps_ret (pe_callTy call_tuple_frz (by rfl) m_tuple (by decide +kernel) (pa_cons (pv 4) pa_nil))))))), ?_⟩
    have hlen : ts.length = cs.length := ca.1
    have h6 := ck.few
    -- the loads
    refine ⟨_, rfl, p, rfl, ⟨_, lstAt hp⟩, fun D nD => ?_⟩
    refine lc_list (K := K) (a := p) (xs := ts.map V.ref) (fun i H' => H' = upd H D (.lst ((cs.take i).map fun c => V.int (loadB c)))) rfl (fun i H' _ e => e ▸ (same_upd nD).seq (lstAt hp)) (fun i x H' hx hq => ?_) (fun H' hq => ?_)
    · subst hq
      obtain ⟨t, c, rfl, e1, e2, e3⟩ := crew_at ca hx
      have hc := ck.wts c (List.mem_of_getElem? e2)
      refine ⟨_, _, rfl, tupAt ((same_upd nD) _ _ e3), rfl, _, _, rfl, _, _, rfl, _, _, rfl, rfl, rfl, yesT ⟨_, rfl, _, rfl, _, _, rfl, rfl, .inl ⟨by have := hc.1; omega, by have := hc.2; omega⟩, _, upd_same, ?_, ?_⟩⟩
      · rw [List.length_map, List.length_take]; exact small1000 (by omega)
      · rw [upd_twice, List.take_add_one, e2, List.map_append]; rfl
    · subst hq
      rw [List.length_map, hlen, List.take_length]
      have s1 : Same H (upd H D (.lst (cs.map fun c => V.int (loadB c)))) := same_upd nD
      have eL : (cs.map fun c => V.int (loadB c)) = (cs.map loadB).map V.int := by rw [List.map_map]; rfl
      rw [eL] at s1 ⊢
      have hlL : (cs.map loadB).length = cs.length := List.length_map ..
      refine ⟨Nat.zero_le _, fun nl nnl => ?_⟩
      have nnl0 : H nl = none := s1.free nnl
      have hDn : D ≠ nl := fun e => by subst e; rw [upd_same] at nnl; cases nnl
      refine ⟨_, rfl, _, rfl, by omega, by omega, for_range (fun r σ H2 => Same H H2 ∧ H2 D = some (.lst ((cs.map loadB).map V.int)) ∧ H2 nl = some (.lst ((wantF cs sill r).map vN)) ∧ ∃ y5 y6 y7 : Option V, σ = [some (.ref p), some (.int (n : Int)), some (.int sill), some (.ref D), some (.ref nl), y5, y6, y7, none, none, none, none])
        ⟨same_at s1 nnl0, by rw [upd_ne hDn, upd_same], upd_same, _, _, _, rfl⟩ ?_ ?_⟩
      · rintro r σ H2 hr2 ⟨sm, eD, eN, y5, y6, y7, rfl⟩
        refine ⟨_, rfl, _, _, rfl, .inl (lstAt (sm _ _ hp)), _, rfl, by omega, by rw [List.length_map]; omega, for_range (fun k σ H2 => Same H H2 ∧ H2 D = some (.lst ((cs.map loadB).map V.int)) ∧ H2 nl = some (.lst ((wantF cs sill r ++ rowOf1 cs sill r k).map vN)) ∧ ∃ y6 y7 : Option V, σ = [some (.ref p), some (.int (n : Int)), some (.int sill), some (.ref D), some (.ref nl), some (.int (0 + (r : Int))), y6, y7, none, none, none, none])
          ⟨sm, eD, by rw [eN]; simp [rowOf1], _, _, rfl⟩ ?_ ?_⟩
        · rintro k σ H3 hk ⟨sm3, eD3, eN3, z6, z7, rfl⟩
          rw [List.length_map] at hk
          have hk2 : k < cs.length := by omega
          have hkt : k < ts.length := by omega
          have gk : atI ((cs.map loadB).map V.int) (0 + (k : Int)) = some (.int ((cs.map loadB).getD k 0)) := by
            have := get_int (ns := cs.map loadB) (s := 0 + (k : Int)) (by omega) (by rw [hlL]; omega)
            rw [show (0 + (k : Int)).toNat = k by omega] at this
            exact this
          -- ahead = [..]
          refine ⟨_, rfl, _, _, rfl, .inl (lstAt (sm3 _ _ hp)), _, rfl, by omega, by rw [List.length_map]; omega, fun D2 nD2 => ?_⟩
          refine lc_range (fun i H' => H' = upd H3 D2 (.lst (((List.range i).filter fun j => beats (cs.map loadB) j k).map fun (j : Nat) => V.int (0 + (j : Int))))) rfl (fun i H' hi hq => ?_) (fun H' hq => ?_)
          · subst hq
            rw [List.length_map] at hi
            have hi2 : i < cs.length := by omega
            have gi : atI ((cs.map loadB).map V.int) (0 + (i : Int)) = some (.int ((cs.map loadB).getD i 0)) := by
              have := get_int (ns := cs.map loadB) (s := 0 + (i : Int)) (by omega) (by rw [hlL]; omega)
              rw [show (0 + (i : Int)).toNat = i by omega] at this
              exact this
            have sD2 := same_upd (o := .lst (((List.range i).filter fun j => beats (cs.map loadB) j k).map fun (j : Nat) => V.int (0 + (j : Int)))) nD2
            have hz : (((List.range i).filter fun j => beats (cs.map loadB) j k).map fun (j : Nat) => V.int (0 + (j : Int))).length < sizeLine := by
              rw [List.length_map]
              have := List.length_filter_le (fun j => beats (cs.map loadB) j k) (List.range i)
              rw [List.length_range] at this
              exact small1000 (by omega)
            have yes : beats (cs.map loadB) i k = true → upd (upd H3 D2 (.lst (((List.range i).filter fun j => beats (cs.map loadB) j k).map fun (j : Nat) => V.int (0 + (j : Int))))) D2 (.lst ((((List.range i).filter fun j => beats (cs.map loadB) j k).map fun (j : Nat) => V.int (0 + (j : Int))) ++ [V.int (0 + (i : Int))])) = upd H3 D2 (.lst (((List.range (i + 1)).filter fun j => beats (cs.map loadB) j k).map fun (j : Nat) => V.int (0 + (j : Int)))) := fun hb => by
              rw [upd_twice, List.range_succ, List.filter_append, List.map_append, List.filter_cons, if_pos hb]
              rfl
            have no : beats (cs.map loadB) i k = false → upd H3 D2 (.lst (((List.range i).filter fun j => beats (cs.map loadB) j k).map fun (j : Nat) => V.int (0 + (j : Int)))) = upd H3 D2 (.lst (((List.range (i + 1)).filter fun j => beats (cs.map loadB) j k).map fun (j : Nat) => V.int (0 + (j : Int)))) := fun hb => by
              rw [List.range_succ, List.filter_append, List.filter_cons, if_neg (by rw [hb]; decide), List.filter_nil, List.append_nil]
            refine ⟨rfl, _, rfl, _, rfl, _, _, _, _, rfl, rfl, lstAt (sD2 _ _ eD3), gi, _, rfl, _, rfl, _, _, _, _, rfl, rfl, lstAt (sD2 _ _ eD3), gk, _, _, rfl, rfl, _, rfl, ite2 (fun e => ?_) (fun e => ?_)⟩
            · refine iteT ⟨_, rfl, _, upd_same, hz, yes ?_⟩
              unfold beats
              rw [e]; rfl
            · refine ⟨_, rfl, _, rfl, _, _, _, _, rfl, rfl, lstAt (sD2 _ _ eD3), gi, _, rfl, _, rfl, _, _, _, _, rfl, rfl, lstAt (sD2 _ _ eD3), gk, rfl, _, rfl, ite2 (fun e2 => ?_) (fun e2 => ?_)⟩
              · have e3 : (cs.map loadB).getD i 0 = (cs.map loadB).getD k 0 := V.int.inj (of_decide_eq_true e2)
                refine ⟨_, rfl, _, rfl, _, _, rfl, rfl, _, rfl, ite2 (fun e4 => ?_) (fun e4 => ?_)⟩
                · refine ⟨_, rfl, _, upd_same, hz, yes ?_⟩
                  have e5 := of_decide_eq_true e4
                  unfold beats
                  rw [decide_eq_true e3, decide_eq_true (show i < k by omega)]
                  simp
                · refine no ?_
                  have e5 : ¬ (0 + (i : Int) < 0 + (k : Int)) := fun z => e4 (decide_eq_true z)
                  unfold beats
                  rw [decide_eq_false (show ¬ i < k by omega), decide_eq_false (show ¬ (cs.map loadB).getD k 0 < (cs.map loadB).getD i 0 by omega)]
                  simp
              · refine iteF (no ?_)
                have e3 : ¬ (cs.map loadB).getD i 0 = (cs.map loadB).getD k 0 := fun z => e2 (decide_eq_true (congrArg V.int z))
                have e5 : ¬ ((cs.map loadB).getD k 0 < (cs.map loadB).getD i 0) := fun z => e (decide_eq_true z)
                unfold beats
                rw [decide_eq_false e5, decide_eq_false e3]
                rfl
          · subst hq
            rw [List.length_map, hlen, show ((List.range ((cs.length : Nat) : Int).toNat).filter fun j => beats (cs.map loadB) j k) = aheadOf (cs.map loadB) k by unfold aheadOf; rw [hlL, Int.toNat_natCast]]
            have sD2 := same_upd (o := .lst ((aheadOf (cs.map loadB) k).map fun (j : Nat) => V.int (0 + (j : Int)))) nD2
            have hD2n : nl ≠ D2 := fun e => by subst e; rw [eN3] at nD2; cases nD2
            have row : rowOf1 cs sill r (k + 1) = rowOf1 cs sill r k ++ (if pick cs sill r k = true then [(cs.map (·.1)).getD k []] else []) := by
              unfold rowOf1
              rw [List.range_succ, List.filter_append, List.map_append, List.filter_cons, List.filter_nil]
              by_cases hb : pick cs sill r k = true
              · rw [if_pos hb, if_pos hb]; rfl
              · rw [if_neg hb, if_neg hb]; rfl
            have stay : pick cs sill r k = false → Same H (upd H3 D2 (.lst ((aheadOf (cs.map loadB) k).map fun (j : Nat) => V.int (0 + (j : Int))))) ∧ (upd H3 D2 (.lst ((aheadOf (cs.map loadB) k).map fun (j : Nat) => V.int (0 + (j : Int))))) D = some (.lst ((cs.map loadB).map V.int)) ∧ (upd H3 D2 (.lst ((aheadOf (cs.map loadB) k).map fun (j : Nat) => V.int (0 + (j : Int))))) nl = some (.lst ((wantF cs sill r ++ rowOf1 cs sill r (k + 1)).map vN)) := fun hb => by
              refine ⟨sm3.trans sD2, sD2 _ _ eD3, ?_⟩
              rw [row, if_neg (by rw [hb]; decide), List.append_nil]
              exact sD2 _ _ eN3
            refine ⟨_, rfl, _, _, rfl, .inl (lstAt upd_same), _, rfl, rfl, _, rfl, ite2 (fun e => ?_) (fun e => ?_)⟩
            · have e1 : ((((aheadOf (cs.map loadB) k).map fun (j : Nat) => V.int (0 + (j : Int))).length : Nat) : Int) = 0 + (r : Int) := V.int.inj (of_decide_eq_true e)
              rw [List.length_map] at e1
              refine ⟨_, rfl, _, rfl, _, _, _, _, rfl, rfl, lstAt (sD2 _ _ eD3), gk, _, rfl, _, _, rfl, rfl, _, rfl, ite2 (fun e2 => ?_) (fun e2 => ?_)⟩
              · have e3 := of_decide_eq_true e2
                have hb : pick cs sill r k = true := by
                  unfold pick
                  rw [decide_eq_true (show (aheadOf (cs.map loadB) k).length = r by omega), decide_eq_true e3]
                  rfl
                obtain ⟨t, c, et, e4, e5, e6⟩ := crew_at (ca.same (sm3.trans sD2)) (i := k) (x := .ref ts[k]) (by rw [List.getElem?_map, List.getElem?_eq_getElem hkt]; rfl)
                have at1 : atI (ts.map V.ref) (0 + (k : Int)) = some (.ref t) := by
                  refine atI_in (by omega) ?_
                  rw [show (0 + (k : Int)).toNat = k by omega, List.getElem?_map, e4]
                  rfl
                have nmk : (cs.map (·.1)).getD k [] = c.1 := by
                  rw [List.getD_eq_getElem?_getD, List.getElem?_map, e5]
                  rfl
                refine ⟨_, rfl, .inl ⟨rfl, _, lstAt (sD2 _ _ eN3)⟩, _, rfl, _, rfl, _, _, _, _, rfl, rfl, lstAt ((sm3.trans sD2) _ _ hp), at1, _, _, _, _, rfl, rfl, tupAt e6, atI_nat (j := 0) rfl, _, _, _, rfl, rfl, sD2 _ _ eN3, ?_, ?_, ?_, ?_, _, _, rfl⟩
                · have l1 := want_len cs sill r
                  have l2 := row_len cs sill r k
                  have l3 : r * cs.length ≤ 3 * 6 := Nat.mul_le_mul (by omega) h6
                  rw [List.length_map, List.length_append]
                  exact small1000 (by omega)
                · exact fun b o eb => by rw [upd_ne (ne_of_none eb nnl0)]; exact (sm3.trans sD2) _ _ eb
                · rw [upd_ne hDn]; exact sD2 _ _ eD3
                · rw [upd_same, row, if_pos hb, nmk, ← List.append_assoc, List.map_append (l₁ := wantF cs sill r ++ rowOf1 cs sill r k)]; rfl
              · obtain ⟨a1, a2, a3⟩ := stay (by
                  unfold pick
                  rw [decide_eq_false (show ¬ sill ≤ (cs.map loadB).getD k 0 from fun z => e2 (decide_eq_true z)), Bool.and_false])
                exact ⟨a1, a2, a3, _, _, rfl⟩
            · refine iteF ?_
              obtain ⟨a1, a2, a3⟩ := stay (by
                unfold pick
                rw [decide_eq_false (show ¬ (aheadOf (cs.map loadB) k).length = r from fun z => e (decide_eq_true (congrArg V.int (by rw [List.length_map]; omega)))), Bool.false_and])
              exact ⟨a1, a2, a3, _, _, rfl⟩
        · rintro σ H3 ⟨sm3, eD3, eN3, z6, z7, rfl⟩
          refine ⟨sm3, eD3, ?_, _, _, _, rfl⟩
          rw [eN3, List.length_map, hlen]
          rfl
      · rintro σ H2 ⟨sm, eD, eN, y5, y6, y7, rfl⟩
        exact ⟨_, rfl, _, _, rfl, lstAt eN, fun t o nt c d => q _ t o (sm.trans (same_upd nt)) upd_same c d⟩
end
end TK

namespace TK
open PySem PySem.Spec PyProof.Rows L2
theorem CrewAt.take {H : Hp} {ts : List Addr} {cs : List Bd} (h : CrewAt H ts cs) (n : Nat) : CrewAt H (ts.take n) (cs.take n) := by
  refine ⟨by rw [List.length_take, List.length_take, h.1], fun i t c a b => ?_⟩
  rw [List.getElem?_take] at a b
  split at a
  · rename_i hi
    rw [if_pos hi] at b
    exact h.2 i t c a b
  · cases a
theorem cut_ref (ts : List Addr) (i : Nat) : cutV (ts.map V.ref) none (some ((i : Nat) : Int)) = (ts.take i).map V.ref := by
  unfold cutV
  rw [HT.sIx_none, HT.sIx_nat, List.drop_zero, Nat.sub_zero, List.map_take]
  by_cases h : i ≤ (ts.map V.ref).length
  · rw [Nat.min_eq_left h]
  · rw [Nat.min_eq_right (by omega), List.take_length, List.take_of_length_le (by omega)]
theorem all_flat (cs : List Bd) : (cs.map fun c => vN c.1).all flatV = true := by
  rw [List.all_eq_true]
  intro x hx
  obtain ⟨c, _, rfl⟩ := List.mem_map.mp hx
  rfl
theorem eqv_nm {a b : List Nat} : eqV (vN a) (vN b) = decide (a = b) := by
  show (sOf a == sOf b) = _
  by_cases h : a = b
  · subst h; simp
  · rw [decide_eq_false h]
    exact beq_eq_false_iff_ne.mpr fun z => h (sOf_inj z)
theorem not_in {cs : List Bd} {i : Nat} {c : Bd} (nd : (cs.map (·.1)).Nodup) (h : cs[i]? = some c) : (if false = true then !inV (vN c.1) ((cs.take i).map fun c => vN c.1) else inV (vN c.1) ((cs.take i).map fun c => vN c.1)) = false := by
  rw [if_neg (by decide)]
  unfold inV
  rw [List.any_eq_false]
  intro x hx
  obtain ⟨d, hd, rfl⟩ := List.mem_map.mp hx
  rw [eqv_nm]
  obtain ⟨j, hj⟩ := List.getElem?_of_mem hd
  rw [List.getElem?_take] at hj
  split at hj
  · rename_i hji
    intro z
    have e : d.1 = c.1 := of_decide_eq_true z
    have a1 : (cs.map (·.1))[j]? = some c.1 := by rw [List.getElem?_map, hj]; exact congrArg some e
    have a2 : (cs.map (·.1))[i]? = some c.1 := by rw [List.getElem?_map, h]; rfl
    have := nd_ix nd a1 a2
    omega
  · cases hj
section
variable {P : Program} {w : World} {K : PySem.W.Frag} {mg : Str → Option Value} {base : Heap}
def spCheckB (K : PySem.W.Frag) : Sp := fun vs H Q _ => ∃ (a : Addr) (ts : List Addr) (cs : List Bd), vs = [.ref a] ∧ SqS K H a (ts.map V.ref) ∧ CrewAt H ts cs ∧ CrewOk cs ∧ ∀ H', Same H H' → Q .non H'
theorem ok_check_bidders {f : Addr} {fd : FuncData} (F : Fun K "check_bidders" "check_bidders" s_check_bidders f fd) (m_len : mg "len" = none) (m_enumerate : mg "enumerate" = none)
    (d_check_size : Def P w K mg base "check_size" 1 ["size", "low", "high"] spRange) (d_check_range : Def P w K mg base "check_range" 1 ["number", "low", "high"] spRange)
    (d_is_name : Def P w K mg base "is_name" 1 ["word"] spIsName) (d_names : Def P w K mg base "_names" 1 ["bidders"] (spNamesOf K)) : FnOk P w K mg base CX0 2 f fd ["bidders"] (spCheckB K) := by
  refine F.ok sc_check_bidders (fun vs H Q E h => ?_) (fun cdv A outer s H vs Q E hr h => ?_)
  · obtain ⟨a, ts, cs, rfl, _⟩ := h
    rfl
  · obtain ⟨a, ts, cs, rfl, hS, ca, ck, q⟩ := h
    have h6 := ck.few
    have hle := ca.1
    rcases hS with hS | hS
    · refine ⟨_, (pss_cons (ps_expr (pe_callD d_check_size (hr.mono (by decide)) (by rfl) (pa_cons (pe_callB call_len_seq (by rfl) m_len (by decide +kernel) (pa_cons (pv 0) pa_nil)) (pa_cons pe_int (pa_cons pe_int pa_nil)))))
  (pss_one (ps_for PassesOwn.never rfl (pi_enum (by rfl) m_enumerate (pa_cons (pv 0) pa_nil)) (pg_tup (by rfl) (pgs_cons (pg_name (i := 1) sc_check_bidders.nd rfl (.inl rfl)) (pgs_cons (pg_tup (by rfl) (pgs_cons (pg_name (i := 2) sc_check_bidders.nd rfl (.inl rfl)) (pgs_cons (pg_name (i := 3) sc_check_bidders.nd rfl (.inl rfl)) (pgs_cons (pg_name (i := 4) sc_check_bidders.nd rfl (.inl rfl)) pgs_nil)))) pgs_nil)))
    (pss_cons (ps_if (pt_not (pt_val (pe_callD d_is_name (hr.mono (by decide)) (by rfl) (pa_cons (pv 2) pa_nil)))) (pss_one ps_never) pss_nil)
  (pss_cons (ps_if (pt_cmpR op_in_seq (pv 2) (pe_callD d_names (hr.mono (by decide)) (by rfl) (pa_cons (pe_slice sl_list (pv 0) po_none (po_some (pv 1))) pa_nil)) (by rfl)) (pss_one ps_never) pss_nil)
  (pss_cons (ps_expr (pe_callD d_check_range (hr.mono (by decide)) (by rfl) (pa_cons (pv 3) (pa_cons pe_int (pa_cons pe_int pa_nil)))))
  (pss_one (ps_expr (pe_callD d_check_range (hr.mono (by decide)) (by rfl) (pa_cons (pv 4) (pa_cons pe_int (pa_cons (pe_op op_pow pe_int pe_int) pa_nil)))))))))))), ?_⟩
      refine ⟨_, rfl, _, _, rfl, .inl hS, _, _, _, rfl, by omega, by rw [List.length_map]; omega, ?_⟩
      refine ⟨_, rfl, _, _, rfl, hS, for_it walk_enum (fun _ σ H2 => Same H H2 ∧ ∃ y1 y2 y3 y4 : Option V, σ = [some (.ref a), y1, y2, y3, y4]) ⟨Same.refl H, _, _, _, _, rfl⟩ (fun i σ H2 _ hp => hp.1.seq hS) ?_ ?_⟩
      · rintro i x σ H2 H3 hi ⟨sm, y1, y2, y3, y4, rfl⟩ ⟨T, z1, z2, rfl, nT, rfl, e1, e2⟩
        rw [List.length_map] at hi
        cases e1
        have sT : Same H2 (upd H2 T (.tup [.int (i : Nat), z2])) := same_upd nT
        have sm3 := sm.trans sT
        obtain ⟨t, c, rfl, f1, f2, f3⟩ := crew_at (ca.same sm3) e2
        obtain ⟨g1, g2, g3, g4, g5⟩ := ck.ok c (List.mem_of_getElem? f2)
        have hil : i < cs.length := (List.getElem?_eq_some_iff.mp f2).1
        refine ⟨_, _, rfl, tupAt upd_same, rfl, _, _, rfl, _, _, rfl, _, _, rfl, tupAt f3, rfl, _, _, rfl, _, _, rfl, _, _, rfl, rfl, rfl, ?_⟩
        refine ⟨_, rfl, c.1, rfl, g1, fun H4 s4 => ⟨_, rfl, iteF ?_⟩⟩
        have sm4 := sm3.trans s4
        refine ⟨_, rfl, _, rfl, _, rfl, _, rfl, _, _, rfl, sm4.seq hS, fun p np => ?_⟩
        have sp : Same H4 (upd H4 p (.lst (cutV (ts.map V.ref) none (some ((i : Nat) : Int))))) := same_upd np
        refine ⟨_, ts.take i, cs.take i, rfl, .inl (lstAt (by rw [upd_same, cut_ref])), (ca.take i).same (sm4.trans sp), by rw [List.length_take]; have := ck.few; omega, fun p2 np2 => ?_⟩
        refine ⟨_, _, rfl, .inl (lstAt upd_same), rfl, all_flat _, _, rfl, ?_⟩
        rw [not_in ck.nd f2]
        have sm5 := (sm4.trans sp).trans (same_upd (o := .lst ((cs.take i).map fun c => vN c.1)) np2)
        refine iteF ⟨_, rfl, _, _, _, rfl, g2, g3, ?_⟩
        exact ⟨_, rfl, _, _, rfl, rfl, ⟨by decide, by decide, by decide⟩, _, _, _, rfl, g4, g5, sm5, _, _, _, _, rfl⟩
      · rintro σ H2 ⟨sm, y1, y2, y3, y4, rfl⟩
        exact q _ sm
    · refine ⟨_, (pss_cons (ps_expr (pe_callD d_check_size (hr.mono (by decide)) (by rfl) (pa_cons (pe_callB call_len_seq (by rfl) m_len (by decide +kernel) (pa_cons (pv 0) pa_nil)) (pa_cons pe_int (pa_cons pe_int pa_nil)))))
  (pss_one (ps_for PassesOwn.never rfl (pi_enumT (by rfl) m_enumerate (pa_cons (pv 0) pa_nil)) (pg_tup (by rfl) (pgs_cons (pg_name (i := 1) sc_check_bidders.nd rfl (.inl rfl)) (pgs_cons (pg_tup (by rfl) (pgs_cons (pg_name (i := 2) sc_check_bidders.nd rfl (.inl rfl)) (pgs_cons (pg_name (i := 3) sc_check_bidders.nd rfl (.inl rfl)) (pgs_cons (pg_name (i := 4) sc_check_bidders.nd rfl (.inl rfl)) pgs_nil)))) pgs_nil)))
    (pss_cons (ps_if (pt_not (pt_val (pe_callD d_is_name (hr.mono (by decide)) (by rfl) (pa_cons (pv 2) pa_nil)))) (pss_one ps_never) pss_nil)
  (pss_cons (ps_if (pt_cmpR op_in_seq (pv 2) (pe_callD d_names (hr.mono (by decide)) (by rfl) (pa_cons (pe_slice sl_tup (pv 0) po_none (po_some (pv 1))) pa_nil)) (by rfl)) (pss_one ps_never) pss_nil)
  (pss_cons (ps_expr (pe_callD d_check_range (hr.mono (by decide)) (by rfl) (pa_cons (pv 3) (pa_cons pe_int (pa_cons pe_int pa_nil)))))
  (pss_one (ps_expr (pe_callD d_check_range (hr.mono (by decide)) (by rfl) (pa_cons (pv 4) (pa_cons pe_int (pa_cons (pe_op op_pow pe_int pe_int) pa_nil)))))))))))), ?_⟩
      refine ⟨_, rfl, _, _, rfl, .inr hS, _, _, _, rfl, by omega, by rw [List.length_map]; omega, ?_⟩
      refine ⟨_, rfl, _, _, rfl, hS, for_it walk_enumT (fun _ σ H2 => Same H H2 ∧ ∃ y1 y2 y3 y4 : Option V, σ = [some (.ref a), y1, y2, y3, y4]) ⟨Same.refl H, _, _, _, _, rfl⟩ (fun i σ H2 _ hp => same_tup hp.1 hS) ?_ ?_⟩
      · rintro i x σ H2 H3 hi ⟨sm, y1, y2, y3, y4, rfl⟩ ⟨T, z1, z2, rfl, nT, rfl, e1, e2⟩
        rw [List.length_map] at hi
        cases e1
        have sT : Same H2 (upd H2 T (.tup [.int (i : Nat), z2])) := same_upd nT
        have sm3 := sm.trans sT
        obtain ⟨t, c, rfl, f1, f2, f3⟩ := crew_at (ca.same sm3) e2
        obtain ⟨g1, g2, g3, g4, g5⟩ := ck.ok c (List.mem_of_getElem? f2)
        have hil : i < cs.length := (List.getElem?_eq_some_iff.mp f2).1
        refine ⟨_, _, rfl, tupAt upd_same, rfl, _, _, rfl, _, _, rfl, _, _, rfl, tupAt f3, rfl, _, _, rfl, _, _, rfl, _, _, rfl, rfl, rfl, ?_⟩
        refine ⟨_, rfl, c.1, rfl, g1, fun H4 s4 => ⟨_, rfl, iteF ?_⟩⟩
        have sm4 := sm3.trans s4
        refine ⟨_, rfl, _, rfl, _, rfl, _, rfl, _, _, rfl, same_tup sm4 hS, (by rw [HT.sIx_none, HT.sIx_nat, List.length_map]; omega), fun p np => ?_⟩
        have sp : Same H4 (upd H4 p (.tup (cutV (ts.map V.ref) none (some ((i : Nat) : Int))))) := same_upd np
        refine ⟨_, ts.take i, cs.take i, rfl, .inr (tupAt (by rw [upd_same, cut_ref])), (ca.take i).same (sm4.trans sp), by rw [List.length_take]; have := ck.few; omega, fun p2 np2 => ?_⟩
        refine ⟨_, _, rfl, .inl (lstAt upd_same), rfl, all_flat _, _, rfl, ?_⟩
        rw [not_in ck.nd f2]
        have sm5 := (sm4.trans sp).trans (same_upd (o := .lst ((cs.take i).map fun c => vN c.1)) np2)
        refine iteF ⟨_, rfl, _, _, _, rfl, g2, g3, ?_⟩
        exact ⟨_, rfl, _, _, rfl, rfl, ⟨by decide, by decide, by decide⟩, _, _, _, rfl, g4, g5, sm5, _, _, _, _, rfl⟩
      · rintro σ H2 ⟨sm, y1, y2, y3, y4, rfl⟩
        exact q _ sm
/-! _check -/
def spCheck (K : PySem.W.Frag) : Sp := fun vs H Q _ => ∃ (a : Addr) (ts : List Addr) (cs : List Bd) (hours floor : Int), vs = [.ref a, .int hours, .int floor] ∧ SqS K H a (ts.map V.ref) ∧ CrewAt H ts cs ∧ CrewOk cs ∧ 1 ≤ hours ∧ hours ≤ 3 ∧ 0 ≤ floor ∧ floor ≤ 1000000000000 ∧ ∀ H', Same H H' → Q .non H'
theorem ok_check {f : Addr} {fd : FuncData} (F : Fun K "_check" "_check" s_check f fd) (d_check_range : Def P w K mg base "check_range" 1 ["number", "low", "high"] spRange) (d_check_bidders : Def P w K mg base "check_bidders" 2 ["bidders"] (spCheckB K)) :
    FnOk P w K mg base CX0 3 f fd ["bidders", "hours", "floor"] (spCheck K) := by
  refine F.ok sc_check (fun vs H Q E h => ?_) (fun cdv A outer s H vs Q E hr h => ?_)
  · obtain ⟨a, ts, cs, hours, floor, rfl, _⟩ := h
    rfl
  · obtain ⟨a, ts, cs, hours, floor, rfl, hS, ca, ck, h1, h2, h3, h4, q⟩ := h
    refine ⟨_, (pss_cons (ps_expr (pe_callD d_check_bidders (hr.mono (by decide)) (by rfl) (pa_cons (pv 0) pa_nil)))
  (pss_cons (ps_expr (pe_callD d_check_range (hr.mono (by decide)) (by rfl) (pa_cons (pv 1) (pa_cons pe_int (pa_cons pe_int pa_nil)))))
  (pss_one (ps_expr (pe_callD d_check_range (hr.mono (by decide)) (by rfl) (pa_cons (pv 2) (pa_cons pe_int (pa_cons (pe_op op_pow pe_int pe_int) pa_nil)))))))), ?_⟩
    refine ⟨_, rfl, a, ts, cs, rfl, hS, ca, ck, fun H' sm => ?_⟩
    refine ⟨_, rfl, _, _, _, rfl, h1, h2, ?_⟩
    exact ⟨_, rfl, _, _, rfl, rfl, ⟨by decide, by decide, by decide⟩, _, _, _, rfl, h3, h4, q _ sm⟩
end
end TK

namespace TK
open PySem PySem.Spec PyProof.Rows L2
section
variable {X : Cx} {CX : CXT} {k n : Nat} {f : Addr} {fd : FuncData} {ps ks : List Str} {sp : Sp} {E : XK} {x : Str} {p pos : Pos} {kws : List Keyword} {tk : TA} {g : List Value → List Value → List Value} {gV : List V → List V → List V}
/-- f(k = v, ..): keywords alone -/
theorem pe_callN0 (F : FnOk X.prog X.w X.K X.mg X.base CX k f fd ps sp) (hr : Room k X.A) (hg : Gl X x) (hm : X.mg x = some (.ref f)) (hk : PySem.W.keepIn X.K (.ref f) = true) (hb : KBn X.K fd ps 0 ks g gV) (hx : Passes CX X E) (hkw : PK X kws tk)
    (hall : (backToKw pos (keywordEach kws X.env)).all (·.1.isSome) = true := by rfl) (hks : (backToKw pos (keywordEach kws X.env)).filterMap (·.1) = ks := by rfl) (hdb : (x == ("__debug__" : Str)) = false := by decide)
    (hpl : ((backTo pos (starEach [] X.env)).any (·.1) || (backToKw pos (keywordEach kws X.env)).any (·.1.isNone)) = false := by rfl) : PE X (.Call (.Name x p) [] kws pos) (tCallN 0 ks.length sp gV E tNil tk) := by
  refine ⟨fun pins s σ H Q I h => wpAny_Call_Name_kw (ld_glob I hg hm (PySem.W.callWith_KW0 (h₀ := X.base) I.ok.mod.kin hk hall ?_ hpl) hdb)⟩
  refine thn (hkw.run pos pins s σ H _ I h) fun ws s2 ⟨zs, H2, I2, rz, l1, l2, q2⟩ => ⟨I2.kIn, ?_⟩
  rw [hks]
  exact run_fnN (us := []) (vs := []) F hr hb hx I2 .nil rz rfl l2 q2
end
/-! ### the bidders in their ranking -/
def keysOf (cs : List Bd) : List Int := cs.map fun c => -(loadB c)
def ranks (ts : List Addr) (cs : List Bd) : List (Addr × Bd) := (sortK ((keysOf cs).zip (ts.zip cs))).map Prod.snd
theorem zip_map_snd {α β : Type} (g : α → β) : ∀ (l : List Int) (m : List α), (l.zip m).map (fun p => (p.1, g p.2)) = l.zip (m.map g)
  | [], _ => rfl
  | _ :: _, [] => rfl
  | a :: l, b :: m => by
    show (a, g b) :: (l.zip m).map _ = (a, g b) :: l.zip (m.map g)
    rw [zip_map_snd g l m]
theorem sorted_map {α β : Type} (g : α → β) (ks : List Int) (m : List α) : ((sortK (ks.zip m)).map Prod.snd).map g = (sortK (ks.zip (m.map g))).map Prod.snd := by
  rw [← zip_map_snd, ← sortK_map, List.map_map, List.map_map]
  rfl
theorem zip_fst {ts : List Addr} {cs : List Bd} (h : ts.length = cs.length) : (ts.zip cs).map Prod.fst = ts := List.map_fst_zip (Nat.le_of_eq h)
theorem zip_snd {ts : List Addr} {cs : List Bd} (h : ts.length = cs.length) : (ts.zip cs).map Prod.snd = cs := List.map_snd_zip (Nat.le_of_eq h.symm)
theorem ranks_refs {ts : List Addr} {cs : List Bd} (h : ts.length = cs.length) : byKey (keysOf cs) (ts.map V.ref) = ((ranks ts cs).map Prod.fst).map V.ref := by
  unfold ranks byKey
  rw [sorted_map Prod.fst, zip_fst h, sorted_map V.ref]
theorem ranks_cs {ts : List Addr} {cs : List Bd} (h : ts.length = cs.length) : (ranks ts cs).map Prod.snd = (sortK ((keysOf cs).zip cs)).map Prod.snd := by
  unfold ranks
  rw [sorted_map Prod.snd, zip_snd h]
theorem ranks_mem {ts : List Addr} {cs : List Bd} {H : Hp} (ca : CrewAt H ts cs) {q : Addr × Bd} (hq : q ∈ ranks ts cs) : H q.1 = some (tB3 q.2) ∧ q.2 ∈ cs := by
  obtain ⟨z, hz, rfl⟩ := List.mem_map.mp hq
  have h1 := (sortK_perm _).mem_iff.mp hz
  have h2 : z.2 ∈ ts.zip cs := (List.of_mem_zip h1).2
  obtain ⟨i, hi⟩ := List.getElem?_of_mem h2
  have := List.getElem?_zip_eq_some.mp hi
  exact ⟨ca.2 i _ _ this.1 this.2, List.mem_of_getElem? this.2⟩
theorem pairs_crew {H : Hp} {qs : List (Addr × Bd)} (h : ∀ q ∈ qs, H q.1 = some (tB3 q.2)) : CrewAt H (qs.map Prod.fst) (qs.map Prod.snd) := by
  refine ⟨by rw [List.length_map, List.length_map], fun i t c a b => ?_⟩
  rw [List.getElem?_map] at a b
  cases e : qs[i]? with
  | none => rw [e] at a; cases a
  | some q =>
    rw [e] at a b
    cases a
    cases b
    exact h q (List.mem_of_getElem? e)
theorem ranks_len {ts : List Addr} {cs : List Bd} (h : ts.length = cs.length) : (ranks ts cs).length = cs.length := by
  unfold ranks keysOf
  rw [List.length_map, (sortK_perm _).length_eq, List.length_zip, List.length_zip, List.length_map, h, Nat.min_self, Nat.min_self]
section
variable {P : Program} {w : World} {K : PySem.W.Frag} {mg : Str → Option Value} {base : Heap}
def spRanked (K : PySem.W.Frag) : Sp := fun vs H Q _ => ∃ (a : Addr) (ts : List Addr) (cs : List Bd), vs = [.ref a] ∧ SqS K H a (ts.map V.ref) ∧ CrewAt H ts cs ∧ (∀ c ∈ cs, BdOk c) ∧ ∀ p, H p = none → Q (.ref p) (upd H p (.lst (((ranks ts cs).map Prod.fst).map V.ref)))
theorem ok_ranked {f fW : Addr} {fd fdW : FuncData} (F : Fun K "ranked" "ranked" s_ranked f fd) (m_sorted : mg "sorted" = none) (gW : mg "_weakness" = some (.ref fW)) (bW : Binds K fdW ["bidder"] []) (GW : FnOk P w K mg base CX0 2 fW fdW ["bidder"] (spWeakness K)) :
    FnOk P w K mg base CX0 5 f fd ["bidders"] (spRanked K) := by
  refine F.ok sc_ranked (fun vs H Q E h => ?_) (fun cdv A outer s H vs Q E hr h => ?_)
  · obtain ⟨a, ts, cs, rfl, _⟩ := h
    rfl
  · obtain ⟨a, ts, cs, rfl, hS, ca, ok, q⟩ := h
    refine ⟨_, pss_one (ps_ret (pe_callBK (cr_sortedBy GW hr bW) (by rfl) m_sorted (by decide +kernel) (pa_cons (pv 0) pa_nil) (pk_cons (pe_glob (v := .ref fW) (by rfl) gW rfl) pk_nil))), ?_⟩
    refine ⟨_, rfl, a, ts.map V.ref, keysOf cs, rfl, rfl, hS, by rw [List.length_map, ca.1]; exact List.length_map .., fun i x k hx hk => ?_, fun p np => ?_⟩
    · obtain ⟨t, c, rfl, e1, e2, e3⟩ := crew_at ca hx
      have ek : k = -(c.2.1 * c.2.2) := by
        unfold keysOf at hk
        rw [List.getElem?_map, e2] at hk
        exact (Option.some.inj hk).symm
      exact ⟨t, c, rfl, e3, ok c (List.mem_of_getElem? e2), by rw [ek], rfl⟩
    · rw [ranks_refs ca.1]
      exact q p np
/-! ladder -/
def gotF (cs : List Bd) (floor : Int) (hours : Nat) : List (List Nat) := ((((sortK ((keysOf cs).zip cs)).map Prod.snd).filter fun c => decide (floor ≤ loadB c)).map (·.1)).take hours
def spLadder (K : PySem.W.Frag) : Sp := fun vs H Q _ => ∃ (a : Addr) (ts : List Addr) (cs : List Bd) (hours : Nat) (floor : Int), vs = [.ref a, .int (hours : Int), .int floor] ∧ SqS K H a (ts.map V.ref) ∧ CrewAt H ts cs ∧ CrewOk cs ∧ 1 ≤ hours ∧ hours ≤ 3 ∧ 0 ≤ floor ∧ floor ≤ 1000000000000 ∧
  ∀ (H' : Hp) (t : Addr), Same H H' → H' t = some (.tup ((gotF cs floor hours).map vN)) → Q (.ref t) H'
theorem filter_snd {qs : List (Addr × Bd)} {floor : Int} : (qs.filter fun q => decide (floor ≤ loadB q.2)).map Prod.snd = (qs.map Prod.snd).filter fun c => decide (floor ≤ loadB c) := by
  rw [List.filter_map]
  rfl
theorem cut_any (xs : List V) (i : Nat) : cutV xs none (some ((i : Nat) : Int)) = xs.take i := by
  unfold cutV
  rw [HT.sIx_none, HT.sIx_nat, List.drop_zero, Nat.sub_zero]
  by_cases h : i ≤ xs.length
  · rw [Nat.min_eq_left h]
  · rw [Nat.min_eq_right (by omega), List.take_length, List.take_of_length_le (by omega)]
theorem ok_ladder {f : Addr} {fd : FuncData} {kws : List (Str × V)} (F : FunD K "ladder" "ladder" (defArgs s_ladder) (defBody s_ladder) (defScope s_ladder) [] kws f fd) (m_tuple : mg "tuple" = none)
    (d_check : Def P w K mg base "_check" 3 ["bidders", "hours", "floor"] (spCheck K)) (d_strength : Def P w K mg base "strength" 1 ["bidder"] (spStrength K)) (d_names : Def P w K mg base "_names" 1 ["bidders"] (spNamesOf K)) (d_ranked : Def P w K mg base "ranked" 5 ["bidders"] (spRanked K)) :
    FnOk P w K mg base CX0 6 f fd ["bidders", "hours", "floor"] (spLadder K) := by
  refine F.ok (CX := CX0) sc_ladder (fun vs H Q E h => ?_) (fun cdv A outer s H vs Q E hr h => ?_)
  · obtain ⟨a, ts, cs, hours, floor, rfl, _⟩ := h
    rfl
  · obtain ⟨a, ts, cs, hours, floor, rfl, hS, ca, ck, h1, h2, h3, h4, q⟩ := h
    have h6 := ck.few
    refine ⟨_, PSs.nox (pss_cons (ps_expr (pe_callD d_check (hr.mono (by decide)) (by rfl) (pa_cons (pv 0) (pa_cons (pv 1) (pa_cons (pv 2) pa_nil)))))
  (pss_one (ps_ret (pe_callTy call_tuple_of (by rfl) m_tuple (by decide +kernel) (pa_cons (pe_slice sl_list (pe_callD d_names (hr.mono (by decide)) (by rfl) (pa_cons (pe_lc (own := [("bidder", 3)]) (by rfl) sc_ladder.nd (pi_list (pe_callD d_ranked (hr.mono (by decide)) (by rfl) (pa_cons (pv 0) pa_nil))) (blkOk_by (N := ["bidders", "hours", "floor", "bidder"]) (sc := defScope s_ladder) (by decide +kernel)) (fun _ _ _ _ _ => (pg_name (i := 3) sc_ladder.nd rfl (.inl rfl))) (fun _ _ _ _ _ => (pts_one (pt_cmpR op_ge (pe_callD d_strength (hr.mono (by decide)) (by rfl) (pa_cons (pv 3) pa_nil)) (pv 2) (nomark _)))) (fun _ _ _ _ _ => (pv 3))) pa_nil)) po_none (po_some (pv 1))) pa_nil))))), ?_⟩
    refine ⟨_, rfl, _, rfl, _, rfl, a, ts, cs, _, _, rfl, hS, ca, ck, by omega, by omega, h3, h4, fun H1 s1 => ?_⟩
    refine ⟨_, rfl, a, ts, cs, rfl, hS.same s1, ca.same s1, ck.ok, fun p np => ?_⟩
    have s2 : Same H1 (upd H1 p (.lst (((ranks ts cs).map Prod.fst).map V.ref))) := same_upd np
    have cr : CrewAt (upd H1 p (.lst (((ranks ts cs).map Prod.fst).map V.ref))) ((ranks ts cs).map Prod.fst) ((ranks ts cs).map Prod.snd) := pairs_crew fun q hq => (ranks_mem (ca.same (s1.trans s2)) hq).1
    have hlr : (ranks ts cs).length ≤ 6 := by rw [ranks_len ca.1]; exact h6
    refine ⟨p, rfl, ⟨_, lstAt upd_same⟩, fun D nD => ?_⟩
    refine lc_list (K := K) (a := p) (xs := ((ranks ts cs).map Prod.fst).map V.ref) (fun i H' => H' = upd (upd H1 p (.lst (((ranks ts cs).map Prod.fst).map V.ref))) D (.lst (((((ranks ts cs).take i).filter fun q => decide (floor ≤ loadB q.2)).map Prod.fst).map V.ref))) rfl (fun i H' _ e => e ▸ (same_upd nD).seq (lstAt upd_same)) (fun i x H' hx hq => ?_) (fun H' hq => ?_)
    · subst hq
      have hil : i < (ranks ts cs).length := by
        have := (List.getElem?_eq_some_iff.mp hx).1
        rw [List.length_map, List.length_map] at this
        exact this
      have ei : (ranks ts cs)[i]? = some (ranks ts cs)[i] := List.getElem?_eq_getElem hil
      have ex : x = .ref ((ranks ts cs)[i]).1 := by
        rw [List.getElem?_map, List.getElem?_map, ei] at hx
        exact (Option.some.inj hx).symm
      subst ex
      have hm := ranks_mem (ca.same (s1.trans s2)) (List.getElem_mem hil)
      have hz : (((((ranks ts cs).take i).filter fun q => decide (floor ≤ loadB q.2)).map Prod.fst).map V.ref).length < sizeLine := by
        rw [List.length_map, List.length_map]
        have := List.length_filter_le (fun q : Addr × Bd => decide (floor ≤ loadB q.2)) ((ranks ts cs).take i)
        rw [List.length_take] at this
        exact small1000 (by omega)
      refine ⟨rfl, _, rfl, _, _, rfl, (same_upd nD) _ _ hm.1, ck.ok _ hm.2, _, rfl, _, _, rfl, rfl, _, rfl, ite2 (fun e => ?_) (fun e => ?_)⟩
      · refine ⟨_, rfl, _, upd_same, hz, ?_⟩
        rw [upd_twice, List.take_add_one, ei, List.filter_append, List.map_append, List.map_append]
        congr 3
        show _ = List.map V.ref (List.map Prod.fst (List.filter _ [(ranks ts cs)[i]]))
        rw [List.filter_cons, if_pos (show decide (floor ≤ loadB ((ranks ts cs)[i]).2) = true from e)]
        rfl
      · show _ = _
        rw [List.take_add_one, ei, List.filter_append]
        show _ = upd _ D (.lst (List.map V.ref (List.map Prod.fst (_ ++ List.filter _ [(ranks ts cs)[i]]))))
        rw [List.filter_cons, if_neg (show ¬ decide (floor ≤ loadB ((ranks ts cs)[i]).2) = true from e), List.filter_nil, List.append_nil]
    · subst hq
      rw [List.length_map, List.length_map, List.take_length]
      have s3 := same_upd (o := .lst ((((ranks ts cs).filter fun q => decide (floor ≤ loadB q.2)).map Prod.fst).map V.ref)) nD
      have cf : CrewAt (upd (upd H1 p (.lst (((ranks ts cs).map Prod.fst).map V.ref))) D (.lst ((((ranks ts cs).filter fun q => decide (floor ≤ loadB q.2)).map Prod.fst).map V.ref))) (((ranks ts cs).filter fun q => decide (floor ≤ loadB q.2)).map Prod.fst) (((ranks ts cs).filter fun q => decide (floor ≤ loadB q.2)).map Prod.snd) :=
        pairs_crew fun q hq => (ranks_mem (ca.same ((s1.trans s2).trans s3)) (List.mem_filter.mp hq).1).1
      refine ⟨D, _, _, rfl, .inl (lstAt upd_same), cf, ?_, fun p2 np2 => ?_⟩
      · rw [List.length_map]
        have := List.length_filter_le (fun q : Addr × Bd => decide (floor ≤ loadB q.2)) (ranks ts cs)
        omega
      · refine ⟨_, rfl, _, rfl, _, _, rfl, lstAt upd_same, fun p3 np3 => ⟨_, _, rfl, .inl ⟨lstAt upd_same, fun t nt => ?_⟩⟩⟩
        refine q _ t ((((s1.trans s2).trans s3).trans (same_upd np2)).trans ((same_upd np3).trans (same_upd nt))) ?_
        rw [upd_same, cut_any]
        unfold gotF
        rw [← List.map_take, filter_snd, ranks_cs ca.1, List.map_take, List.map_take, List.map_map]
        rfl
end
end TK

namespace TK
open PySem PySem.Spec PyProof.Rows L2
/-! ### the ranking by places -/
def lexP (p q : Int × Nat) : Prop := p.1 < q.1 ∨ (p.1 = q.1 ∧ p.2 < q.2)
theorem insK_lex (x : Int × Nat) : ∀ l : List (Int × Nat), l.Pairwise lexP → (∀ y ∈ l, x.2 < y.2) → (insK x l).Pairwise lexP
  | [], _, _ => List.pairwise_singleton ..
  | y :: r, h, hx => by
    unfold insK
    split
    · rename_i hle
      refine List.Pairwise.cons (fun z hz => ?_) h
      have h1 : y.1 ≤ z.1 := by
        rcases List.mem_cons.mp hz with rfl | hz
        · exact Int.le_refl _
        · rcases List.rel_of_pairwise_cons h hz with e | e
          · omega
          · omega
      have h2 := hx z hz
      by_cases e : x.1 < z.1
      · exact .inl e
      · exact .inr ⟨by omega, h2⟩
    · rename_i hle
      refine List.Pairwise.cons (fun z hz => ?_) (insK_lex x r (List.Pairwise.of_cons h) fun z hz => hx z (List.mem_cons_of_mem _ hz))
      rcases List.mem_cons.mp ((insK_perm x r).mem_iff.mp hz) with rfl | hz
      · exact .inl (by omega)
      · exact List.rel_of_pairwise_cons h hz
theorem sortK_lex : ∀ l : List (Int × Nat), l.Pairwise (fun p q => p.2 < q.2) → (sortK l).Pairwise lexP
  | [], _ => .nil
  | x :: r, h => insK_lex x _ (sortK_lex r (List.Pairwise.of_cons h)) fun y hy => List.rel_of_pairwise_cons h ((sortK_perm r).mem_iff.mp hy)
def idxOf (cs : List Bd) : List Nat := (sortK ((keysOf cs).zip (List.range cs.length))).map Prod.snd
theorem zip_key : ∀ {l : List Int} {m : List Nat} {p : Int × Nat}, p ∈ l.zip m → ∃ i : Nat, l[i]? = some p.1 ∧ m[i]? = some p.2 := by
  intro l m p hp
  obtain ⟨i, hi⟩ := List.getElem?_of_mem hp
  exact ⟨i, List.getElem?_zip_eq_some.mp hi⟩
theorem zip_up : ∀ (l : List Int) (m : List Nat), m.Pairwise (· < ·) → (l.zip m).Pairwise (fun p q => p.2 < q.2)
  | [], _, _ => .nil
  | _ :: _, [], _ => .nil
  | a :: l, b :: m, h => List.Pairwise.cons (fun p hp => List.rel_of_pairwise_cons h (List.of_mem_zip hp).2) (zip_up l m (List.Pairwise.of_cons h))
theorem idx_perm (cs : List Bd) : (idxOf cs).Perm (List.range cs.length) := by
  unfold idxOf
  have h := (sortK_perm ((keysOf cs).zip (List.range cs.length))).map Prod.snd
  rw [List.map_snd_zip (by unfold keysOf; rw [List.length_range, List.length_map]; exact Nat.le_refl _)] at h
  exact h
theorem idx_beats (cs : List Bd) : (idxOf cs).Pairwise (fun j k => beats (cs.map loadB) j k = true) := by
  unfold idxOf
  rw [List.pairwise_map]
  refine List.Pairwise.imp_of_mem ?_ (sortK_lex _ (zip_up _ _ List.pairwise_lt_range))
  intro p q hp hq h
  have key : ∀ r : Int × Nat, r ∈ sortK ((keysOf cs).zip (List.range cs.length)) → r.1 = -((cs.map loadB).getD r.2 0) := by
    intro r hr
    obtain ⟨i, e1, e2⟩ := zip_key ((sortK_perm _).mem_iff.mp hr)
    have hi : i < cs.length := by
      have := (List.getElem?_eq_some_iff.mp e2).1
      rw [List.length_range] at this
      exact this
    rw [List.getElem?_range hi] at e2
    have e3 : i = r.2 := Option.some.inj e2
    unfold keysOf at e1
    rw [List.getElem?_map, List.getElem?_eq_getElem hi] at e1
    rw [← e3, List.getD_eq_getElem?_getD, List.getElem?_map, List.getElem?_eq_getElem hi]
    exact (Option.some.inj e1).symm
  have k1 := key p hp
  have k2 := key q hq
  unfold beats
  rcases h with h | ⟨h1, h2⟩
  · rw [decide_eq_true (show (cs.map loadB).getD q.2 0 < (cs.map loadB).getD p.2 0 by omega)]
    rfl
  · rw [decide_eq_true (show (cs.map loadB).getD p.2 0 = (cs.map loadB).getD q.2 0 by omega), decide_eq_true h2]
    simp
theorem beats_anti {ls : List Int} {j k : Nat} (h : beats ls j k = true) : beats ls k j = false := by
  unfold beats at *
  simp only [Bool.or_eq_true, Bool.and_eq_true, decide_eq_true_eq] at h
  have a : ¬ ls.getD j 0 < ls.getD k 0 := by omega
  have b : ¬ (ls.getD k 0 = ls.getD j 0 ∧ k < j) := by omega
  rw [decide_eq_false a, Bool.false_or]
  by_cases c : ls.getD k 0 = ls.getD j 0
  · rw [decide_eq_false (show ¬ k < j from fun z => b ⟨c, z⟩), Bool.and_false]
  · rw [decide_eq_false c, Bool.false_and]
theorem beats_self (ls : List Int) (k : Nat) : beats ls k k = false := by
  unfold beats
  simp
theorem beats_load {ls : List Int} {j k : Nat} (h : beats ls j k = true) : ls.getD k 0 ≤ ls.getD j 0 := by
  unfold beats at h
  simp only [Bool.or_eq_true, Bool.and_eq_true, decide_eq_true_eq] at h
  omega
/-- where all stand in order, so many stand ahead of the r-th -/
theorem ahead_count {ls : List Int} : ∀ (l : List Nat), l.Pairwise (fun j k => beats ls j k = true) → ∀ (r : Nat) (k : Nat), l[r]? = some k → (l.filter fun j => beats ls j k).length = r := by
  intro l h r k hk
  obtain ⟨hr, e⟩ := List.getElem?_eq_some_iff.mp hk
  have split : l = l.take r ++ (k :: l.drop (r + 1)) := by
    rw [← e, ← List.drop_eq_getElem_cons hr, List.take_append_drop]
  rw [split] at h
  obtain ⟨h1, h2, h3⟩ := List.pairwise_append.mp h
  have a1 : (l.take r).filter (fun j => beats ls j k) = l.take r := List.filter_eq_self.mpr fun j hj => h3 j hj k (List.mem_cons_self ..)
  have a2 : (l.drop (r + 1)).filter (fun j => beats ls j k) = [] := List.filter_eq_nil_iff.mpr fun j hj => by
    rw [beats_anti (List.rel_of_pairwise_cons h2 hj)]
    decide
  rw [split, List.filter_append, a1, List.filter_cons, if_neg (by rw [beats_self]; decide), a2, List.append_nil, List.length_take]
  omega
theorem ahead_idx {cs : List Bd} {r k : Nat} (h : (idxOf cs)[r]? = some k) : (aheadOf (cs.map loadB) k).length = r := by
  unfold aheadOf
  rw [List.length_map, ← ((idx_perm cs).filter _).length_eq]
  exact ahead_count _ (idx_beats cs) r k h
theorem idx_len (cs : List Bd) : (idxOf cs).length = cs.length := by rw [(idx_perm cs).length_eq, List.length_range]
theorem row_at {cs : List Bd} {sill : Int} {r k : Nat} (h : (idxOf cs)[r]? = some k) : ((List.range cs.length).filter fun j => pick cs sill r j) = if sill ≤ (cs.map loadB).getD k 0 then [k] else [] := by
  have hp := (idx_perm cs).filter fun j => pick cs sill r j
  obtain ⟨hr, e⟩ := List.getElem?_eq_some_iff.mp h
  have split : idxOf cs = (idxOf cs).take r ++ (k :: (idxOf cs).drop (r + 1)) := by
    rw [← e, ← List.drop_eq_getElem_cons hr, List.take_append_drop]
  have off : ∀ (i j : Nat), (idxOf cs)[i]? = some j → i ≠ r → ¬ pick cs sill r j = true := fun i j hj hne z => by
    unfold pick at z
    rw [ahead_idx hj, decide_eq_false hne] at z
    cases z
  have b1 : ((idxOf cs).take r).filter (fun j => pick cs sill r j) = [] := List.filter_eq_nil_iff.mpr fun j hj => by
    obtain ⟨i, hi⟩ := List.getElem?_of_mem hj
    rw [List.getElem?_take] at hi
    split at hi
    · exact off i j hi (by omega)
    · cases hi
  have b2 : ((idxOf cs).drop (r + 1)).filter (fun j => pick cs sill r j) = [] := List.filter_eq_nil_iff.mpr fun j hj => by
    obtain ⟨i, hi⟩ := List.getElem?_of_mem hj
    rw [List.getElem?_drop] at hi
    exact off _ j hi (by omega)
  have c1 : (idxOf cs).filter (fun j => pick cs sill r j) = if sill ≤ (cs.map loadB).getD k 0 then [k] else [] := by
    rw [split, List.filter_append, b1, List.filter_cons, b2, List.nil_append]
    have hp1 : pick cs sill r k = decide (sill ≤ (cs.map loadB).getD k 0) := by
      unfold pick
      rw [ahead_idx h, decide_eq_true rfl, Bool.true_and]
    rw [hp1]
    by_cases hs : sill ≤ (cs.map loadB).getD k 0
    · rw [if_pos hs, decide_eq_true hs, if_pos rfl]
    · rw [if_neg hs, decide_eq_false hs, if_neg (by decide)]
  rw [c1] at hp
  by_cases hs : sill ≤ (cs.map loadB).getD k 0
  · rw [if_pos hs] at hp ⊢
    exact List.perm_singleton.mp hp.symm
  · rw [if_neg hs] at hp ⊢
    exact List.perm_nil.mp hp.symm
theorem row_out {cs : List Bd} {sill : Int} {r : Nat} (h : cs.length ≤ r) : ((List.range cs.length).filter fun j => pick cs sill r j) = [] := by
  refine List.filter_eq_nil_iff.mpr fun j hj z => ?_
  have hm : j ∈ idxOf cs := (idx_perm cs).mem_iff.mpr hj
  obtain ⟨i, hi⟩ := List.getElem?_of_mem hm
  have hil := (List.getElem?_eq_some_iff.mp hi).1
  rw [idx_len] at hil
  unfold pick at z
  rw [ahead_idx hi, decide_eq_false (by omega)] at z
  cases z
def nmAt (cs : List Bd) (k : Nat) : List Nat := (cs.map (·.1)).getD k []
theorem want_eq (cs : List Bd) (sill : Int) : ∀ h : Nat, wantF cs sill h = (((idxOf cs).take h).filter fun k => decide (sill ≤ (cs.map loadB).getD k 0)).map (nmAt cs)
  | 0 => rfl
  | h + 1 => by
    unfold wantF
    rw [want_eq cs sill h]
    unfold rowOf1
    by_cases hh : h < cs.length
    · have hhi : h < (idxOf cs).length := by rw [idx_len]; exact hh
      have hi : (idxOf cs)[h]? = some (idxOf cs)[h] := List.getElem?_eq_getElem hhi
      rw [row_at hi, List.take_add_one, hi, List.filter_append, List.map_append]
      congr 1
      show _ = List.map (nmAt cs) (List.filter _ [(idxOf cs)[h]])
      rw [List.filter_cons, List.filter_nil]
      by_cases hs : sill ≤ (cs.map loadB).getD (idxOf cs)[h] 0
      · rw [if_pos hs, if_pos (decide_eq_true hs)]
        rfl
      · rw [if_neg hs, if_neg (by rw [decide_eq_false hs]; decide)]
        rfl
    · rw [row_out (by omega), List.take_of_length_le (i := h) (by rw [idx_len]; omega), List.take_of_length_le (i := h + 1) (by rw [idx_len]; omega)]
      exact List.append_nil _
theorem take_filter {α : Type} {p : α → Bool} : ∀ (l : List α) (n : Nat), l.Pairwise (fun a b => p b = true → p a = true) → (l.filter p).take n = (l.take n).filter p
  | [], n, _ => by simp
  | x :: r, 0, _ => by simp
  | x :: r, n + 1, h => by
    have ih := take_filter r n (List.Pairwise.of_cons h)
    by_cases hx : p x = true
    · rw [List.filter_cons, if_pos hx, List.take_succ_cons, ih, List.take_succ_cons, List.filter_cons, if_pos hx]
    · have no : ∀ y ∈ r, ¬ p y = true := fun y hy hp => hx (List.rel_of_pairwise_cons h hy hp)
      rw [List.filter_cons, if_neg hx, List.take_succ_cons, List.filter_cons, if_neg hx, List.filter_eq_nil_iff.mpr no, List.filter_eq_nil_iff.mpr fun y hy => no y (List.mem_of_mem_take hy)]
      simp
theorem sorted_idx (cs : List Bd) : (sortK ((keysOf cs).zip cs)).map Prod.snd = (idxOf cs).map fun k => cs.getD k ([], 0, 0) := by
  unfold idxOf
  rw [sorted_map]
  congr 3
  refine List.ext_getElem? fun i => ?_
  rw [List.getElem?_map]
  by_cases h : i < cs.length
  · rw [List.getElem?_range h, List.getElem?_eq_getElem h]
    show some cs[i] = some (cs.getD i ([], 0, 0))
    rw [List.getD_eq_getElem?_getD, List.getElem?_eq_getElem h]
    rfl
  · rw [List.getElem?_eq_none (by omega), List.getElem?_eq_none (by rw [List.length_range]; omega)]
    rfl
theorem got_want (cs : List Bd) (floor : Int) (h : Nat) : gotF cs floor h = wantF cs floor h := by
  have mem : ∀ k ∈ idxOf cs, k < cs.length := fun k hk => List.mem_range.mp ((idx_perm cs).mem_iff.mp hk)
  have at1 : ∀ k, k < cs.length → loadB (cs.getD k ([], 0, 0)) = (cs.map loadB).getD k 0 ∧ (cs.getD k ([], 0, 0)).1 = nmAt cs k := fun k hk => by
    unfold nmAt
    rw [List.getD_eq_getElem?_getD, List.getD_eq_getElem?_getD, List.getD_eq_getElem?_getD, List.getElem?_map, List.getElem?_map, List.getElem?_eq_getElem hk]
    exact ⟨rfl, rfl⟩
  have e1 : ((idxOf cs).map fun k => cs.getD k ([], 0, 0)).filter (fun c => decide (floor ≤ loadB c)) = ((idxOf cs).filter fun k => decide (floor ≤ (cs.map loadB).getD k 0)).map fun k => cs.getD k ([], 0, 0) := by
    rw [List.filter_map]
    congr 1
    refine List.filter_congr fun k hk => ?_
    show decide (floor ≤ loadB (cs.getD k ([], 0, 0))) = _
    rw [(at1 k (mem k hk)).1]
  rw [want_eq]
  unfold gotF
  rw [sorted_idx, e1, List.map_map, ← List.map_take, take_filter _ _ (List.Pairwise.imp (fun {a b} hb z => ?_) (idx_beats cs))]
  · refine List.map_congr_left fun k hk => ?_
    exact (at1 k (mem k (List.mem_of_mem_take (List.mem_filter.mp hk).1))).2
  · have := of_decide_eq_true z
    have h2 := beats_load hb
    exact decide_eq_true (by omega)
end TK

namespace TK
open PySem PySem.Spec PyProof.Rows L2
/-! ### rents -/
def rentsFrom (v : Nat → Int) : Nat → List Int → List Int
  | _, [] => []
  | j, r :: rt => ((rentsFrom v (j + 1) rt).headD 0 + v j * (r - rt.headD 0)) :: rentsFrom v (j + 1) rt
theorem rents_len (v : Nat → Int) : ∀ (rt : List Int) (j : Nat), (rentsFrom v j rt).length = rt.length
  | [], _ => rfl
  | r :: rt, j => by
    unfold rentsFrom
    rw [List.length_cons, List.length_cons, rents_len v rt]
theorem getD_headD (l : List Int) : l.headD 0 = l.getD 0 0 := by cases l <;> rfl
theorem rents_rec (v : Nat → Int) : ∀ (rt : List Int) (j i : Nat), i < rt.length → (rentsFrom v j rt).getD i 0 = (rentsFrom v j rt).getD (i + 1) 0 + v (j + i) * (rt.getD i 0 - rt.getD (i + 1) 0)
  | [], _, i, h => by simp at h
  | r :: rt, j, 0, _ => by
    unfold rentsFrom
    rw [List.getD_cons_zero, List.getD_cons_zero, List.getD_cons_succ, List.getD_cons_succ, getD_headD, getD_headD]
    rfl
  | r :: rt, j, i + 1, h => by
    unfold rentsFrom
    rw [List.getD_cons_succ, List.getD_cons_succ, List.getD_cons_succ, List.getD_cons_succ, rents_rec v rt (j + 1) i (by simpa using h), show j + 1 + i = j + (i + 1) by omega]
theorem rents_out (v : Nat → Int) (rt : List Int) (j : Nat) : (rentsFrom v j rt).getD rt.length 0 = 0 ∧ rt.getD rt.length 0 = 0 := by
  refine ⟨?_, ?_⟩
  · rw [List.getD_eq_getElem?_getD, List.getElem?_eq_none (by rw [rents_len]; exact Nat.le_refl _)]; rfl
  · rw [List.getD_eq_getElem?_getD, List.getElem?_eq_none (Nat.le_refl _)]; rfl
structure RatesOk (rt : List Int) : Prop where
  ok : ∀ r ∈ rt, 1 ≤ r ∧ r ≤ 1000
  dn : rt.Pairwise (fun a b => b ≤ a)
  few : 1 ≤ rt.length ∧ rt.length ≤ 3
theorem rates_step {rt : List Int} (k : RatesOk rt) (i : Nat) : rt.getD (i + 1) 0 ≤ rt.getD i 0 := by
  rw [List.getD_eq_getElem?_getD, List.getD_eq_getElem?_getD]
  by_cases h : i + 1 < rt.length
  · rw [List.getElem?_eq_getElem h, List.getElem?_eq_getElem (by omega)]
    exact (List.pairwise_iff_getElem.mp k.dn) i (i + 1) (by omega) h (by omega)
  · rw [List.getElem?_eq_none (by omega)]
    cases e : rt[i]? with
    | none => exact Int.le_refl 0
    | some r => have := (k.ok r (List.mem_of_getElem? e)).1; show (0 : Int) ≤ r; omega
theorem rates_nonneg {rt : List Int} (k : RatesOk rt) (i : Nat) : 0 ≤ rt.getD i 0 ∧ rt.getD i 0 ≤ 1000 := by
  rw [List.getD_eq_getElem?_getD]
  cases e : rt[i]? with
  | none => exact ⟨Int.le_refl 0, by show (0 : Int) ≤ 1000; decide⟩
  | some r => have := k.ok r (List.mem_of_getElem? e); exact ⟨by show 0 ≤ r; omega, this.2⟩
/-- the gain at an hour of one of that strength -/
def gain (rt rs : List Int) (x : Int) (i : Nat) : Int := rt.getD i 0 * x - rs.getD i 0
theorem gain_ge {v : Nat → Int} {rt : List Int} (k : RatesOk rt) {x : Int} : ∀ {d i : Nat}, i + d ≤ rt.length → (∀ q, i ≤ q → q < i + d → v q ≤ x) → gain rt (rentsFrom v 0 rt) x (i + d) ≤ gain rt (rentsFrom v 0 rt) x i
  | 0, i, _, _ => Int.le_refl _
  | d + 1, i, h, hv => by
    have ih := gain_ge (x := x) k (d := d) (i := i + 1) (by omega) (fun q h1 h2 => hv q (by omega) (by omega))
    have e := rents_rec v rt 0 i (by omega)
    have st := rates_step k i
    have vi := hv i (Nat.le_refl _) (by omega)
    rw [Nat.zero_add] at e
    rw [show i + (d + 1) = i + 1 + d by omega]
    refine Int.le_trans ih ?_
    unfold gain
    rw [e]
    have m : 0 ≤ (x - v i) * (rt.getD i 0 - rt.getD (i + 1) 0) := Int.mul_nonneg (by omega) (by omega)
    rw [Int.sub_mul, Int.mul_sub, Int.mul_sub] at m
    rw [Int.mul_sub, Int.mul_comm (rt.getD i 0) x, Int.mul_comm (rt.getD (i + 1) 0) x]
    omega
theorem gain_le {v : Nat → Int} {rt : List Int} (k : RatesOk rt) {x : Int} : ∀ {d i : Nat}, i + d ≤ rt.length → (∀ q, i ≤ q → q < i + d → x ≤ v q) → gain rt (rentsFrom v 0 rt) x i ≤ gain rt (rentsFrom v 0 rt) x (i + d)
  | 0, i, _, _ => Int.le_refl _
  | d + 1, i, h, hv => by
    have ih := gain_le (x := x) k (d := d) (i := i + 1) (by omega) (fun q h1 h2 => hv q (by omega) (by omega))
    have e := rents_rec v rt 0 i (by omega)
    have st := rates_step k i
    have vi := hv i (Nat.le_refl _) (by omega)
    rw [Nat.zero_add] at e
    rw [show i + (d + 1) = i + 1 + d by omega]
    refine Int.le_trans ?_ ih
    unfold gain
    rw [e]
    have m : 0 ≤ (v i - x) * (rt.getD i 0 - rt.getD (i + 1) 0) := Int.mul_nonneg (by omega) (by omega)
    rw [Int.sub_mul, Int.mul_sub, Int.mul_sub] at m
    rw [Int.mul_sub, Int.mul_comm (rt.getD i 0) x, Int.mul_comm (rt.getD (i + 1) 0) x]
    omega
theorem gain_end (v : Nat → Int) (rt : List Int) (x : Int) : gain rt (rentsFrom v 0 rt) x rt.length = 0 := by
  obtain ⟨h1, h2⟩ := rents_out v rt 0
  unfold gain
  rw [h1, h2]
  simp
/-! ### the strengths in their ranking -/
def rankS (cs : List Bd) : List Int := (idxOf cs).map fun k => (cs.map loadB).getD k 0
theorem rankS_len (cs : List Bd) : (rankS cs).length = cs.length := by unfold rankS; rw [List.length_map, idx_len]
theorem rankS_dn (cs : List Bd) : (rankS cs).Pairwise (fun a b => b ≤ a) := by
  unfold rankS
  rw [List.pairwise_map]
  exact (idx_beats cs).imp fun {a b} h => beats_load h
/-- what ranks behind, or the floor -/
def rivF (S : List Int) (floor : Int) (j : Nat) : Int := (S.drop (j + 1)).foldl max floor
theorem fold_max_le : ∀ (l : List Int) (m z : Int), l.foldl max m ≤ z ↔ m ≤ z ∧ ∀ y ∈ l, y ≤ z
  | [], m, z => by simp
  | a :: l, m, z => by
    rw [List.foldl_cons, fold_max_le l]
    simp only [List.mem_cons, forall_eq_or_imp]
    constructor
    · rintro ⟨h1, h2⟩
      exact ⟨by omega, by omega, h2⟩
    · rintro ⟨h1, h2, h3⟩
      exact ⟨by omega, h3⟩
theorem fold_max_is {l : List Int} {m z : Int} (h1 : z ∈ m :: l) (h2 : ∀ y ∈ m :: l, y ≤ z) : z = l.foldl max m := by
  have a : l.foldl max m ≤ z := (fold_max_le l m z).mpr ⟨h2 _ (List.mem_cons_self ..), fun y hy => h2 y (List.mem_cons_of_mem _ hy)⟩
  have k := (fold_max_le l m _).mp (Int.le_refl (l.foldl max m))
  have b : z ≤ l.foldl max m := by
    rcases List.mem_cons.mp h1 with q | q
    · rw [q]; exact k.1
    · exact k.2 z q
  omega
theorem riv_ge (S : List Int) (floor : Int) (j : Nat) : floor ≤ rivF S floor j ∧ ∀ i, j < i → i < S.length → S.getD i 0 ≤ rivF S floor j := by
  have k := (fold_max_le (S.drop (j + 1)) floor _).mp (Int.le_refl (rivF S floor j))
  refine ⟨k.1, fun i h1 h2 => k.2 _ ?_⟩
  rw [List.getD_eq_getElem?_getD, List.getElem?_eq_getElem h2]
  refine List.mem_of_getElem? (i := i - (j + 1)) ?_
  rw [List.getElem?_drop, show j + 1 + (i - (j + 1)) = i by omega]
  exact List.getElem?_eq_getElem h2
theorem riv_le {S : List Int} {floor : Int} {j : Nat} {z : Int} (h1 : floor ≤ z) (h2 : ∀ i, j < i → i < S.length → S.getD i 0 ≤ z) : rivF S floor j ≤ z := by
  refine (fold_max_le _ _ _).mpr ⟨h1, fun y hy => ?_⟩
  obtain ⟨i, hi⟩ := List.getElem?_of_mem hy
  rw [List.getElem?_drop] at hi
  have hl := (List.getElem?_eq_some_iff.mp hi).1
  have := h2 (j + 1 + i) (by omega) hl
  rw [List.getD_eq_getElem?_getD, hi] at this
  exact this
theorem dn_get {S : List Int} (dn : S.Pairwise (fun a b => b ≤ a)) {i j : Nat} (h : i ≤ j) (hj : j < S.length) : S.getD j 0 ≤ S.getD i 0 := by
  rw [List.getD_eq_getElem?_getD, List.getD_eq_getElem?_getD, List.getElem?_eq_getElem hj, List.getElem?_eq_getElem (by omega)]
  by_cases e : i = j
  · subst e; exact Int.le_refl _
  · exact (List.pairwise_iff_getElem.mp dn) i j (by omega) hj (by omega)
theorem filter_pre {α : Type} {p : α → Bool} : ∀ {l : List α}, l.Pairwise (fun a b => p b = true → p a = true) → l.filter p = l.take (l.filter p).length
  | [], _ => rfl
  | x :: l, h => by
    by_cases hx : p x = true
    · rw [List.filter_cons, if_pos hx, List.length_cons, List.take_succ_cons, ← filter_pre (List.Pairwise.of_cons h)]
    · have : l.filter p = [] := List.filter_eq_nil_iff.mpr fun y hy hp => hx (List.rel_of_pairwise_cons h hy hp)
      rw [List.filter_cons, if_neg hx, this]
      rfl
/-- the places of the ladder -/
def ladP (cs : List Bd) (sill : Int) (h : Nat) : List Nat := ((idxOf cs).take h).filter fun k => decide (sill ≤ (cs.map loadB).getD k 0)
theorem ladP_want (cs : List Bd) (sill : Int) (h : Nat) : wantF cs sill h = (ladP cs sill h).map (nmAt cs) := want_eq cs sill h
theorem ladP_le (cs : List Bd) (sill : Int) (h : Nat) : (ladP cs sill h).length ≤ h ∧ (ladP cs sill h).length ≤ cs.length := by
  unfold ladP
  have h1 := List.length_filter_le (fun k => decide (sill ≤ (cs.map loadB).getD k 0)) ((idxOf cs).take h)
  rw [List.length_take, idx_len] at h1
  omega
theorem ladP_take (cs : List Bd) (sill : Int) (h : Nat) : ladP cs sill h = (idxOf cs).take (ladP cs sill h).length := by
  have pw : ((idxOf cs).take h).Pairwise (fun a b => decide (sill ≤ (cs.map loadB).getD b 0) = true → decide (sill ≤ (cs.map loadB).getD a 0) = true) :=
    ((idx_beats cs).sublist (List.take_sublist _ _)).imp fun {a b} hb z => decide_eq_true (Int.le_trans (of_decide_eq_true z) (beats_load hb))
  have e := filter_pre pw
  have l1 := (ladP_le cs sill h).1
  unfold ladP at l1 ⊢
  rw [List.take_take, Nat.min_eq_left l1] at e
  exact e
theorem rank_at {cs : List Bd} {i : Nat} (h : i < cs.length) : (rankS cs).getD i 0 = (cs.map loadB).getD ((idxOf cs).getD i 0) 0 := by
  unfold rankS
  rw [List.getD_eq_getElem?_getD, List.getElem?_map, List.getElem?_eq_getElem (by rw [idx_len]; exact h), List.getD_eq_getElem?_getD (l := idxOf cs), List.getElem?_eq_getElem (by rw [idx_len]; exact h)]
  rfl
theorem lad_in {cs : List Bd} {sill : Int} {h i : Nat} (hi : i < (ladP cs sill h).length) : sill ≤ (rankS cs).getD i 0 := by
  have hl := (ladP_le cs sill h).2
  have e : (ladP cs sill h)[i]? = (idxOf cs)[i]? := by
    have := congrArg (fun l => l[i]?) (ladP_take cs sill h)
    rw [List.getElem?_take, if_pos hi] at this
    exact this
  rw [rank_at (by omega)]
  have hm : (ladP cs sill h)[i]? = some (ladP cs sill h)[i] := List.getElem?_eq_getElem hi
  rw [hm] at e
  rw [List.getD_eq_getElem?_getD (l := idxOf cs), ← e]
  exact of_decide_eq_true (List.mem_filter.mp (List.getElem_mem hi)).2
theorem lad_out {cs : List Bd} {sill : Int} {h i : Nat} (h1 : (ladP cs sill h).length ≤ i) (h2 : i < h) (h3 : i < cs.length) : (rankS cs).getD i 0 < sill := by
  refine Int.not_le.mp fun z => ?_
  -- all up to i pass, so more than length
  have dn := rankS_dn cs
  have all : ∀ q, q ≤ i → q < cs.length → sill ≤ (rankS cs).getD q 0 := fun q hq _ => Int.le_trans z (dn_get dn hq (by rw [rankS_len]; exact h3))
  have e : ((idxOf cs).take (i + 1)).filter (fun k => decide (sill ≤ (cs.map loadB).getD k 0)) = (idxOf cs).take (i + 1) := List.filter_eq_self.mpr fun k hk => by
    obtain ⟨q, hq⟩ := List.getElem?_of_mem hk
    rw [List.getElem?_take] at hq
    split at hq
    · rename_i hqi
      have := all q (by omega) (by have := (List.getElem?_eq_some_iff.mp hq).1; rw [idx_len] at this; exact this)
      rw [rank_at (by have := (List.getElem?_eq_some_iff.mp hq).1; rw [idx_len] at this; exact this), List.getD_eq_getElem?_getD (l := idxOf cs), hq] at this
      exact decide_eq_true this
    · cases hq
  have sub : ((idxOf cs).take (i + 1)).Sublist ((idxOf cs).take h) := by
    rw [show (idxOf cs).take (i + 1) = ((idxOf cs).take h).take (i + 1) by rw [List.take_take, Nat.min_eq_left (by omega)]]
    exact List.take_sublist _ _
  have le := (sub.filter fun k => decide (sill ≤ (cs.map loadB).getD k 0)).length_le
  rw [e, List.length_take, idx_len] at le
  unfold ladP at h1
  omega
/-! ### what the rents keep -/
section
variable {cs : List Bd} {rt : List Int} {sill : Int}
theorem rent_taker (k : RatesOk rt) {i j : Nat} (hi : i < (ladP cs sill rt.length).length) (hj : j ≤ rt.length) :
    gain rt (rentsFrom (rivF (rankS cs) sill) 0 rt) ((rankS cs).getD i 0) j ≤ gain rt (rentsFrom (rivF (rankS cs) sill) 0 rt) ((rankS cs).getD i 0) i := by
  have hl := ladP_le cs sill rt.length
  have dn := rankS_dn cs
  have sl := rankS_len cs
  by_cases h : j ≤ i
  · obtain ⟨d, rfl⟩ : ∃ d, i = j + d := ⟨i - j, by omega⟩
    exact gain_le k (by omega) fun q h1 h2 => (riv_ge _ _ q).2 _ h2 (by omega)
  · obtain ⟨d, rfl⟩ : ∃ d, j = i + d := ⟨j - i, by omega⟩
    exact gain_ge k hj fun q h1 h2 => riv_le (lad_in hi) fun p hp hpl => dn_get dn (by omega) hpl
theorem rent_own (k : RatesOk rt) {i : Nat} (hi : i < (ladP cs sill rt.length).length) : 0 ≤ gain rt (rentsFrom (rivF (rankS cs) sill) 0 rt) ((rankS cs).getD i 0) i := by
  have := rent_taker (cs := cs) (sill := sill) k hi (Nat.le_refl rt.length)
  rw [gain_end] at this
  exact this
theorem rent_other (k : RatesOk rt) {i j : Nat} (hi : (ladP cs sill rt.length).length ≤ i) (hc : i < cs.length) (hj : j ≤ rt.length) : gain rt (rentsFrom (rivF (rankS cs) sill) 0 rt) ((rankS cs).getD i 0) j ≤ 0 := by
  obtain ⟨d, hd⟩ : ∃ d, rt.length = j + d := ⟨rt.length - j, by omega⟩
  have := gain_le (v := rivF (rankS cs) sill) (x := (rankS cs).getD i 0) k (i := j) (d := d) (by omega) fun q h1 h2 => by
    by_cases h : q < i
    · exact (riv_ge _ _ q).2 _ h (by rw [rankS_len]; exact hc)
    · have := lad_out hi (by omega) hc
      have := (riv_ge (rankS cs) sill q).1
      omega
  rw [← hd, gain_end] at this
  exact this
theorem rent_floor (k : RatesOk rt) {j : Nat} (hj : j ≤ rt.length) : rt.getD j 0 * sill ≤ (rentsFrom (rivF (rankS cs) sill) 0 rt).getD j 0 := by
  obtain ⟨d, hd⟩ : ∃ d, rt.length = j + d := ⟨rt.length - j, by omega⟩
  have := gain_le (v := rivF (rankS cs) sill) (x := sill) k (i := j) (d := d) (by omega) fun q _ _ => (riv_ge _ _ q).1
  rw [← hd, gain_end] at this
  unfold gain at this
  omega
theorem rent_guest (k : RatesOk rt) {j : Nat} (hi : (ladP cs sill rt.length).length ≤ j) (hj : j ≤ rt.length) : (rentsFrom (rivF (rankS cs) sill) 0 rt).getD j 0 ≤ rt.getD j 0 * sill := by
  obtain ⟨d, hd⟩ : ∃ d, rt.length = j + d := ⟨rt.length - j, by omega⟩
  have dn := rankS_dn cs
  have := gain_ge (v := rivF (rankS cs) sill) (x := sill) k (i := j) (d := d) (by omega) fun q h1 h2 => riv_le (Int.le_refl _) fun p hp hpl => by
    rw [rankS_len] at hpl
    have a := lad_out (cs := cs) (sill := sill) (h := rt.length) (i := q) (by omega) (by omega) (by omega)
    have b := dn_get dn (i := q) (j := p) (by omega) (by rw [rankS_len]; exact hpl)
    omega
  rw [← hd, gain_end] at this
  unfold gain at this
  omega
end
end TK

namespace TK
open PySem PySem.Spec PyProof.Rows L2
theorem cut_from_l (xs : List V) (i : Nat) : cutV xs (some ((i : Nat) : Int)) none = xs.drop i := by
  unfold cutV
  rw [HT.sIx_none, HT.sIx_nat]
  by_cases h : i ≤ xs.length
  · rw [Nat.min_eq_left h, List.take_of_length_le (by rw [List.length_drop]; exact Nat.le_refl _)]
  · rw [Nat.min_eq_right (by omega), List.drop_eq_nil_of_le (Nat.le_refl _), List.drop_eq_nil_of_le (by omega)]
    simp
theorem rank_list {ts : List Addr} {cs : List Bd} (h : ts.length = cs.length) : ((ranks ts cs).map fun q => V.int (loadB q.2)) = (rankS cs).map V.int := by
  have e : (ranks ts cs).map (fun q => V.int (loadB q.2)) = (((ranks ts cs).map Prod.snd).map loadB).map V.int := by rw [List.map_map, List.map_map]; rfl
  rw [e, ranks_cs h, sorted_idx]
  unfold rankS
  refine congrArg (List.map V.int) ?_
  rw [List.map_map]
  refine List.map_congr_left fun k hk => ?_
  have hl := List.mem_range.mp ((idx_perm cs).mem_iff.mp hk)
  show loadB (cs.getD k ([], 0, 0)) = _
  rw [List.getD_eq_getElem?_getD, List.getD_eq_getElem?_getD, List.getElem?_map, List.getElem?_eq_getElem hl]
  rfl
section
variable {P : Program} {w : World} {K : PySem.W.Frag} {mg : Str → Option Value} {base : Heap}
/-! _check_rates -/
def spCheckR (K : PySem.W.Frag) : Sp := fun vs H Q _ => ∃ (b : Addr) (rt : List Int), vs = [.ref b] ∧ SqS K H b (rt.map V.int) ∧ RatesOk rt ∧ Q .non H
theorem ok_check_rates {f : Addr} {fd : FuncData} (F : Fun K "_check_rates" "_check_rates" s_check_rates f fd) (m_len : mg "len" = none)
    (d_check_size : Def P w K mg base "check_size" 1 ["size", "low", "high"] spRange) (d_check_range : Def P w K mg base "check_range" 1 ["number", "low", "high"] spRange) : FnOk P w K mg base CX0 2 f fd ["rates"] (spCheckR K) := by
  refine F.ok sc_check_rates (fun vs H Q E h => ?_) (fun cdv A outer s H vs Q E hr h => ?_)
  · obtain ⟨b, rt, rfl, _⟩ := h
    rfl
  · obtain ⟨b, rt, rfl, hS, k, q⟩ := h
    obtain ⟨f1, f3⟩ := k.few
    refine ⟨_, (pss_cons (ps_expr (pe_callD d_check_size (hr.mono (by decide)) (by rfl) (pa_cons (pe_callB call_len_seq (by rfl) m_len (by decide +kernel) (pa_cons (pv 0) pa_nil)) (pa_cons pe_int (pa_cons pe_int pa_nil)))))
  (pss_cons (ps_set (i := 1) sc_check_rates.nd rfl (.inl rfl) pe_int)
  (pss_one (ps_for PassesOwn.never rfl (pi_or (pi_list (pv 0)) (pi_tup (pv 0))) (pg_name (i := 2) sc_check_rates.nd rfl (.inl rfl))
    (pss_cons (ps_expr (pe_callD d_check_range (hr.mono (by decide)) (by rfl) (pa_cons (pv 2) (pa_cons pe_int (pa_cons (pv 1) pa_nil)))))
  (pss_one (ps_set (i := 1) sc_check_rates.nd rfl (.inl rfl) (pv 2)))))))), ?_⟩
    refine ⟨_, rfl, _, _, rfl, hS, _, _, _, rfl, by rw [List.length_map]; omega, by rw [List.length_map]; omega, ?_⟩
    have step : ∀ (i : Nat) (x : V), (rt.map V.int)[i]? = some x → ∃ r : Int, x = .int r ∧ 1 ≤ r ∧ r ≤ (if i = 0 then 1000 else rt.getD (i - 1) 0) ∧ r = rt.getD i 0 := by
      intro i x hx
      rw [List.getElem?_map] at hx
      cases e : rt[i]? with
      | none => rw [e] at hx; cases hx
      | some r =>
        rw [e] at hx
        cases hx
        have o := k.ok r (List.mem_of_getElem? e)
        refine ⟨r, rfl, o.1, ?_, by rw [List.getD_eq_getElem?_getD, e]; rfl⟩
        split
        · exact o.2
        · rename_i hi
          have := rates_step k (i - 1)
          rw [show i - 1 + 1 = i by omega, List.getD_eq_getElem?_getD, e] at this
          exact this
    rcases hS with hS | hS
    · refine .inl ⟨_, rfl, b, rfl, ⟨_, hS⟩, for_it walk_list (fun i σ H2 => H2 = H ∧ ∃ y2 : Option V, σ = [some (.ref b), some (.int (if i = 0 then 1000 else rt.getD (i - 1) 0)), y2]) ⟨rfl, _, rfl⟩ (fun i σ H2 _ hp => by rw [hp.1]; exact hS) ?_ ?_⟩
      · rintro i x σ H3 H2 hi ⟨rfl, y2, rfl⟩ ⟨rfl, hx⟩
        obtain ⟨r, rfl, r1, r2, r3⟩ := step i x hx
        refine ⟨_, rfl, _, rfl, _, _, _, rfl, r1, r2, _, rfl, rfl, some (.int r), ?_⟩
        rw [if_neg (show ¬ (i + 1 = 0) by omega), show i + 1 - 1 = i by omega, ← r3]
        rfl
      · rintro σ H2 ⟨rfl, y2, rfl⟩
        exact q
    · refine .inr ⟨_, rfl, b, rfl, ⟨_, hS⟩, for_it walk_tup (fun i σ H2 => H2 = H ∧ ∃ y2 : Option V, σ = [some (.ref b), some (.int (if i = 0 then 1000 else rt.getD (i - 1) 0)), y2]) ⟨rfl, _, rfl⟩ (fun i σ H2 _ hp => by rw [hp.1]; exact hS) ?_ ?_⟩
      · rintro i x σ H3 H2 hi ⟨rfl, y2, rfl⟩ ⟨rfl, hx⟩
        obtain ⟨r, rfl, r1, r2, r3⟩ := step i x hx
        refine ⟨_, rfl, _, rfl, _, _, _, rfl, r1, r2, _, rfl, rfl, some (.int r), ?_⟩
        rw [if_neg (show ¬ (i + 1 = 0) by omega), show i + 1 - 1 = i by omega, ← r3]
        rfl
      · rintro σ H2 ⟨rfl, y2, rfl⟩
        exact q
/-! _rents -/
def spRents (K : PySem.W.Frag) : Sp := fun vs H Q _ => ∃ (a b : Addr) (ts : List Addr) (cs : List Bd) (rt : List Int) (floor : Int), vs = [.ref a, .ref b, .int floor] ∧ SqS K H a (ts.map V.ref) ∧ CrewAt H ts cs ∧ CrewOk cs ∧ SqS K H b (rt.map V.int) ∧ RatesOk rt ∧
  ∀ (H' : Hp) (l : Addr), Same H H' → H' l = some (.lst ((rentsFrom (rivF (rankS cs) floor) 0 rt).map V.int)) → Q (.ref l) H'
theorem ok_rents {f : Addr} {fd : FuncData} (F : Fun K "_rents" "_rents" s_rents f fd) (m_len : mg "len" = none) (m_range : mg "range" = none) (m_reversed : mg "reversed" = none) (m_max : mg "max" = none)
    (d_ranked : Def P w K mg base "ranked" 5 ["bidders"] (spRanked K)) (d_strength : Def P w K mg base "strength" 1 ["bidder"] (spStrength K)) : FnOk P w K mg base CX0 6 f fd ["bidders", "rates", "floor"] (spRents K) := by
  refine F.ok sc_rents (fun vs H Q E h => ?_) (fun cdv A outer s H vs Q E hr h => ?_)
  · obtain ⟨a, b, ts, cs, rt, floor, rfl, _⟩ := h
    rfl
  · obtain ⟨a, b, ts, cs, rt, floor, rfl, hS, ca, ck, hB, kr, q⟩ := h
    have h6 := ck.few
    obtain ⟨f1, f3⟩ := kr.few
    refine ⟨_, (pss_cons (ps_setLc (i := 3) (own := [("bidder", 9)]) (by rfl) sc_rents.nd rfl rfl (sw_true rfl rfl rfl (by decide +kernel)) (pi_list (pe_callD d_ranked (hr.mono (by decide)) (by rfl) (pa_cons (pv 0) pa_nil))) (blkOk_by (N := ["bidders", "rates", "floor", "strengths", "rents", "rent", "next_rate", "hour", "rival", "bidder"]) (sc := defScope s_rents) (by decide +kernel)) (fun _ _ _ _ _ => (pg_name (i := 9) sc_rents.nd rfl (.inl rfl))) (fun _ _ _ _ _ => pts_nil) (fun _ _ _ _ _ => (pe_callD d_strength (hr.mono (by decide)) (by rfl) (pa_cons (pv 9) pa_nil))))
  (pss_cons (ps_set (i := 4) sc_rents.nd rfl (.inl rfl) (pe_lst pa_nil))
  (pss_cons (ps_set (i := 5) sc_rents.nd rfl (.inl rfl) pe_int)
  (pss_cons (ps_set (i := 6) sc_rents.nd rfl (.inl rfl) pe_int)
  (pss_cons (ps_for PassesOwn.never rfl (pi_revR (by rfl) m_reversed (prg_1 (by rfl) m_range (pe_callB call_len_seq (by rfl) m_len (by decide +kernel) (pa_cons (pv 1) pa_nil)))) (pg_name (i := 7) sc_rents.nd rfl (.inl rfl))
    (pss_cons (ps_set (i := 8) sc_rents.nd rfl (.inl rfl) (pe_callB (cr_max rfl) (by rfl) m_max (by decide +kernel) (pa_cons (pe_lst (pa_cons (pv 2) (StX.pa_star (pe_slice sl_list (pv 3) (po_some (pe_op op_add (pv 7) pe_int)) po_none) pa_nil))) pa_nil)))
  (pss_cons (ps_set (i := 5) sc_rents.nd rfl (.inl rfl) (pe_op op_add (pv 5) (pe_op op_mul (pv 8) (pe_op op_sub (pe_cut (pe_or2 (pe_ix ix_list (pv 1) (pv 7) (fun _ _ => rfl)) (pe_ix ix_tup (pv 1) (pv 7) (fun _ _ => rfl)))) (pv 6)))))
  (pss_cons (ps_set (i := 6) sc_rents.nd rfl (.inl rfl) (pe_cut (pe_or2 (pe_ix ix_list (pv 1) (pv 7) (fun _ _ => rfl)) (pe_ix ix_tup (pv 1) (pv 7) (fun _ _ => rfl)))))
  (pss_one (ps_set (i := 4) sc_rents.nd rfl (.inl rfl) (pe_lst (pa_cons (pv 5) (StX.pa_star (pv 4) pa_nil)))))))))
  (pss_one (ps_ret (pv 4)))))))), ?_⟩
    refine ⟨_, rfl, a, ts, cs, rfl, hS, ca, ck.ok, fun p np => ?_⟩
    have s1 := same_upd (o := .lst (((ranks ts cs).map Prod.fst).map V.ref)) np
    obtain ⟨H1, eH1⟩ : ∃ H1, H1 = upd H p (.lst (((ranks ts cs).map Prod.fst).map V.ref)) := ⟨_, rfl⟩
    have ep : H1 p = some (.lst (((ranks ts cs).map Prod.fst).map V.ref)) := by rw [eH1]; exact upd_same
    rw [← eH1] at s1 ⊢
    have hlr : (ranks ts cs).length ≤ 6 := by rw [ranks_len ca.1]; exact h6
    refine ⟨p, rfl, ⟨_, lstAt ep⟩, fun D nD => ?_⟩
    refine lc_list (K := K) (a := p) (xs := ((ranks ts cs).map Prod.fst).map V.ref) (fun i H' => H' = upd H1 D (.lst (((ranks ts cs).take i).map fun q => V.int (loadB q.2)))) rfl (fun i H' _ e => e ▸ (same_upd nD).seq (lstAt ep)) (fun i x H' hx hq => ?_) (fun H' hq => ?_)
    · subst hq
      have hil : i < (ranks ts cs).length := by
        have := (List.getElem?_eq_some_iff.mp hx).1
        rw [List.length_map, List.length_map] at this
        exact this
      have ei : (ranks ts cs)[i]? = some (ranks ts cs)[i] := List.getElem?_eq_getElem hil
      have ex : x = .ref ((ranks ts cs)[i]).1 := by
        rw [List.getElem?_map, List.getElem?_map, ei] at hx
        exact (Option.some.inj hx).symm
      subst ex
      have hm := ranks_mem (ca.same s1) (List.getElem_mem hil)
      refine ⟨rfl, yesT ⟨_, rfl, _, _, rfl, (same_upd nD) _ _ hm.1, ck.ok _ hm.2, _, upd_same, ?_, ?_⟩⟩
      · rw [List.length_map, List.length_take]; exact small1000 (by omega)
      · rw [upd_twice, List.take_add_one, ei, List.map_append]; rfl
    subst hq
    rw [List.length_map, List.length_map, List.take_length, rank_list ca.1]
    have s2 := same_upd (o := .lst ((rankS cs).map V.int)) nD
    refine ⟨Nat.zero_le _, fun l0 nl0 => ?_⟩
    have s3 := same_upd (o := .lst []) nl0
    have s13 := (s1.trans s2).trans s3
    have eD : (upd (upd H1 D (.lst ((rankS cs).map V.int))) l0 (.lst [])) D = some (.lst ((rankS cs).map V.int)) := s3 _ _ upd_same
    have el : (rt.map V.int).length = rt.length := List.length_map ..
    obtain ⟨v, ev⟩ : ∃ v, v = rivF (rankS cs) floor := ⟨_, rfl⟩
    rw [← ev] at q
    refine ⟨_, rfl, _, _, rfl, hB.same s13, _, rfl, by omega, by omega, by rw [el]; omega, by rw [el]; omega, for_it walk_rangeC (fun i σ H2 => Same H H2 ∧ H2 D = some (.lst ((rankS cs).map V.int)) ∧ ∃ (lr : Addr) (y7 y8 : Option V), H2 lr = some (.lst ((rentsFrom v (rt.length - i) (rt.drop (rt.length - i))).map V.int)) ∧
        σ = [some (.ref a), some (.ref b), some (.int floor), some (.ref D), some (.ref lr), some (.int ((rentsFrom v (rt.length - i) (rt.drop (rt.length - i))).headD 0)), some (.int ((rt.drop (rt.length - i)).headD 0)), y7, y8, none])
      ?_ (fun _ _ _ _ _ => True.intro) ?_ ?_⟩
    · rw [Nat.sub_zero, List.drop_length]
      exact ⟨s13, eD, l0, _, _, upd_same, rfl⟩
    · rintro i x σ H3 H2 hi ⟨sm, eD2, lr, y7, y8, elr, rfl⟩ ⟨rfl, ex⟩
      rw [el] at hi
      obtain ⟨j, ej⟩ : ∃ j, j = rt.length - 1 - i := ⟨_, rfl⟩
      have hj : j < rt.length := by omega
      have exj : x = .int ((j : Nat) : Int) := by
        have hx2 : (0 : Int) + (((((rt.length : Nat) : Int) - 0).toNat : Nat) : Int) - 1 + (i : Int) * (-1) = ((j : Nat) : Int) := by omega
        rw [ex, el, ← hx2]
      subst exj
      have ed : rt.drop (rt.length - (i + 1)) = rt[j] :: rt.drop (rt.length - i) := by
        rw [show rt.length - (i + 1) = j by omega, show rt.length - i = j + 1 by omega]
        exact List.drop_eq_getElem_cons hj
      have ej1 : rt.length - (i + 1) = j := by omega
      have ej2 : rt.length - i = j + 1 := by omega
      have gj : rt.getD j 0 = rt[j] := by rw [List.getD_eq_getElem?_getD, List.getElem?_eq_getElem hj]; rfl
      obtain ⟨tl, etl⟩ : ∃ tl, tl = rt.drop (rt.length - i) := ⟨_, rfl⟩
      rw [← etl] at elr ed ⊢
      rw [ej2] at elr
      have att : atI (rt.map V.int) ((j : Nat) : Int) = some (.int rt[j]) := atI_nat (by rw [List.getElem?_map, List.getElem?_eq_getElem hj]; rfl)
      have r1 := kr.ok _ (List.getElem_mem hj)
      have r2 : 0 ≤ tl.headD 0 ∧ tl.headD 0 ≤ 1000 := by
        cases ht : tl with
        | nil => exact ⟨Int.le_refl 0, by show (0 : Int) ≤ 1000; decide⟩
        | cons y ys =>
          have : y ∈ rt := List.mem_of_mem_drop (i := rt.length - i) (by rw [← etl, ht]; exact List.mem_cons_self ..)
          have := kr.ok y this
          exact ⟨by show 0 ≤ y; omega, this.2⟩
      -- the rival
      refine ⟨_, rfl, _, rfl, _, rfl, _, _, rfl, rfl, _, rfl, _, _, rfl, lstAt eD2, fun p4 np4 => ?_⟩
      have ec : cutV ((rankS cs).map V.int) (some (((j : Nat) : Int) + 1)) none = ((rankS cs).map V.int).drop (j + 1) := cut_from_l _ (j + 1)
      rw [ec]
      have sl := rankS_len cs
      refine ⟨_, _, rfl, .inr (lstAt upd_same), ?_, fun p5 np5 => ?_⟩
      · rw [List.append_nil, List.length_cons, List.length_drop, List.length_map]
        exact Nat.le_of_lt (small1000 (by omega))
      refine ⟨_, floor :: (rankS cs).drop (j + 1), rfl, lstAt (by rw [upd_same, List.append_nil, List.map_cons, List.map_drop]), Nat.succ_pos _, fun m h1 h2 => ?_⟩
      have em := fold_max_is h1 h2
      have em2 : m = v j := by rw [em, ev]; rfl
      rw [em2]
      have s4 := same_upd (o := .lst (((rankS cs).map V.int).drop (j + 1))) np4
      have s5 := same_upd (o := .lst (V.int floor :: (((rankS cs).map V.int).drop (j + 1) ++ []))) np5
      have s45 := s4.trans s5
      obtain ⟨H5, eH5⟩ : ∃ H5, H5 = upd (upd H2 p4 (.lst (((rankS cs).map V.int).drop (j + 1)))) p5 (.lst (V.int floor :: (((rankS cs).map V.int).drop (j + 1) ++ []))) := ⟨_, rfl⟩
      rw [← eH5] at s45 ⊢
      have sm5 := sm.trans s45
      -- the rent
      refine ⟨_, rfl, _, rfl, fun z H' => z = .int rt[j] ∧ H' = H5, ?_, ?_⟩
      · rcases hB.same sm5 with hL | hL
        · exact .inl ⟨_, rfl, _, rfl, _, _, _, _, rfl, rfl, hL, att, rfl, rfl⟩
        · exact .inr ⟨_, rfl, _, rfl, _, _, _, _, rfl, rfl, hL, att, rfl, rfl⟩
      rintro z H' ⟨rfl, rfl⟩
      refine ⟨_, rfl, _, _, rfl, rfl, _, _, rfl, rfl, .inr ⟨by omega, by omega⟩, _, _, rfl, rfl, ?_⟩
      refine ⟨fun z H'' => z = .int rt[j] ∧ H'' = H', ?_, ?_⟩
      · rcases hB.same sm5 with hL | hL
        · exact .inl ⟨_, rfl, _, rfl, _, _, _, _, rfl, rfl, hL, att, rfl, rfl⟩
        · exact .inr ⟨_, rfl, _, rfl, _, _, _, _, rfl, rfl, hL, att, rfl, rfl⟩
      rintro z H'' ⟨rfl, rfl⟩
      have hrl := rents_len v tl (j + 1)
      have htl : tl.length ≤ 3 := by rw [etl, List.length_drop]; omega
      refine ⟨_, rfl, _, rfl, _, _, rfl, .inr (lstAt (s45 _ _ elr)), ?_, fun p6 np6 => ?_⟩
      · rw [List.append_nil, List.length_cons, List.length_map]
        exact Nat.le_of_lt (small1000 (by omega))
      have s6 : ∀ o, Same H'' (upd H'' p6 o) := fun o => same_upd np6
      have edj : rt.drop j = rt[j] :: tl := (congrArg (fun k => List.drop k rt) ej1).symm.trans ed
      refine ⟨sm5.trans (s6 _), s6 _ _ _ (s45 _ _ eD2), p6, some (.int ((j : Nat) : Int)), some (.int (v j)), ?_, ?_⟩
      · rw [upd_same, List.append_nil, ej1, edj, ej2]
        rfl
      · rw [ej1, edj, ej2]
        rfl
    · rintro σ H2 ⟨sm, eD2, lr, y7, y8, elr, rfl⟩
      rw [show (((rt.map V.int).length : Nat) : Int) - 0 = ((rt.length : Nat) : Int) by rw [el]; omega, Int.toNat_natCast, Nat.sub_self, List.drop_zero] at elr
      exact ⟨_, rfl, q _ _ sm elr⟩
end
end TK

namespace TK
open PySem PySem.Spec PyProof.Rows L2
/-! the dict name -> load -/
def kvO (c : Bd) : Key × V := (Sum.inr (sOf c.1), V.int (loadB c))
def lookF (cs : List Bd) (floor : Int) (t : List Nat) : Int := ((cs.find? fun c => decide (c.1 = t)).map loadB).getD floor
theorem val_look (cs : List Bd) (t : List Nat) : valV (cs.map kvO) (Sum.inr (sOf t) : Key) = (cs.find? fun c => decide (c.1 = t)).map fun c => V.int (loadB c) := by
  have e : (fun c : Bd => decide ((kvO c).1 = (Sum.inr (sOf t) : Key))) = fun c => decide (c.1 = t) := by
    funext c
    refine decide_eq_decide.mpr ⟨fun h => sOf_inj (Sum.inr.inj h), fun h => ?_⟩
    show (Sum.inr (sOf c.1) : Key) = _
    rw [h]
  unfold valV
  rw [List.find?_map]
  show Option.map _ (Option.map kvO (List.find? (fun c : Bd => decide ((kvO c).1 = (Sum.inr (sOf t) : Key))) cs)) = _
  rw [e]
  cases List.find? (fun c : Bd => decide (c.1 = t)) cs <;> rfl
theorem val_get (cs : List Bd) (floor : Int) (t : List Nat) : (valV (cs.map kvO) (Sum.inr (sOf t) : Key)).getD (V.int floor) = V.int (lookF cs floor t) := by
  rw [val_look]
  unfold lookF
  cases List.find? (fun c : Bd => decide (c.1 = t)) cs <;> rfl
theorem val_new {cs : List Bd} {i : Nat} {c : Bd} (nd : (cs.map (·.1)).Nodup) (h : cs[i]? = some c) : valV ((cs.take i).map kvO) (Sum.inr (sOf c.1) : Key) = none := by
  rw [val_look, List.find?_eq_none.mpr ?_]
  · rfl
  intro x hx e
  have e : x.1 = c.1 := of_decide_eq_true e
  obtain ⟨j, hj⟩ := List.mem_iff_getElem?.mp hx
  rw [List.getElem?_take] at hj
  by_cases hji : j < i
  · rw [if_pos hji] at hj
    have h1 : (cs.map (·.1))[j]? = some x.1 := by rw [List.getElem?_map, hj]; rfl
    have h2 : (cs.map (·.1))[i]? = some x.1 := by rw [List.getElem?_map, h, e]; rfl
    have l1 := (List.getElem?_eq_some_iff.mp h1).1
    have := (List.getElem?_inj l1 nd).mp (h1.trans h2.symm)
    omega
  · rw [if_neg hji] at hj
    cases hj
theorem put_new {cs : List Bd} {i : Nat} {c : Bd} (nd : (cs.map (·.1)).Nodup) (h : cs[i]? = some c) : putK ((cs.take i).map kvO) (Sum.inr (sOf c.1) : Key) (V.int (loadB c)) = (cs.take (i + 1)).map kvO := by
  rw [putK_new _ (val_new nd h), List.take_add_one, h, List.map_append]
  rfl
def takersF (cs : List Bd) (floor : Int) (h : Nat) : List (List Nat) := wantF cs floor h ++ List.replicate (h - (wantF cs floor h).length) []
theorem takers_len (cs : List Bd) (floor : Int) (h : Nat) : (takersF cs floor h).length = h := by
  have := (ladP_le cs floor h).1
  have e : (wantF cs floor h).length = (ladP cs floor h).length := by rw [ladP_want, List.length_map]
  unfold takersF
  rw [List.length_append, List.length_replicate]
  omega
def worthF (cs : List Bd) (floor : Int) (rt : List Int) : List Int := (rt.zip (takersF cs floor rt.length)).map fun p => p.1 * lookF cs floor p.2
/-! the object -/
theorem putF_len (f : Str) (v : V) : ∀ fs : List (Str × V), (putF f v fs).length ≤ fs.length + 1
  | [] => Nat.le_refl _
  | (g, x) :: r => by
    show (if g = f then _ else _ : List (Str × V)).length ≤ _
    split
    · exact Nat.le_succ _
    · exact Nat.succ_le_succ (putF_len f v r)
def fldsA (a : Addr) (z : Int) (b : Addr) : List (Str × V) := putF "rents" (.ref b) (putF "total" (.int z) (putF "takers" (.ref a) []))
theorem fldsA_takers (a : Addr) (z : Int) (b : Addr) : (fldsA a z b).lookup ("takers" : Str) = some (.ref a) := by
  unfold fldsA
  rw [lookup_putF, if_neg (by decide +kernel), lookup_putF, if_neg (by decide +kernel), lookup_putF, if_pos rfl]
theorem fldsA_total (a : Addr) (z : Int) (b : Addr) : (fldsA a z b).lookup ("total" : Str) = some (.int z) := by
  unfold fldsA
  rw [lookup_putF, if_neg (by decide +kernel), lookup_putF, if_pos rfl]
theorem fldsA_rents (a : Addr) (z : Int) (b : Addr) : (fldsA a z b).lookup ("rents" : Str) = some (.ref b) := by
  unfold fldsA
  rw [lookup_putF, if_pos rfl]
structure TxtA (K : PySem.W.Frag) (C : Addr) : Prop where
  cl : Cls K C
  nT : NoAttr K C "takers"
  nN : NoAttr K C "total"
  nR : NoAttr K C "rents"
def AlAt (C : Addr) (H : Hp) (p : Addr) (tk : List V) (z : Int) (rs : List V) : Prop := ∃ dx a b, H p = some (.ins C dx (fldsA a z b)) ∧ H a = some (.tup tk) ∧ H b = some (.tup rs)
theorem AlAt.same {C : Addr} {H H' : Hp} {p : Addr} {tk rs : List V} {z : Int} (h : AlAt C H p tk z rs) (s : Same H H') : AlAt C H' p tk z rs := by
  obtain ⟨dx, a, b, h1, h2, h3⟩ := h
  exact ⟨dx, a, b, s _ _ h1, s _ _ h2, s _ _ h3⟩
section
variable {P : Program} {w : World} {K : PySem.W.Frag} {mg : Str → Option Value} {base : Heap}
def spInitA (C : Addr) : Sp := fun vs H Q _ => ∃ (p l r dx : Addr) (tk rs : List V) (z : Int), vs = [.ref p, .ref l, .int z, .ref r] ∧ H p = some (.ins C dx []) ∧ H l = some (.lst tk) ∧ H r = some (.lst rs) ∧
  ∀ H', AlAt C H' p tk z rs → (∀ b o, H b = some o → b ≠ p → H' b = some o) → Q .non H'
theorem ok_Allot {f C : Addr} {fd : FuncData} (F : Fun K "__init__" "Allotment.__init__" s_Allot f fd) (T : TxtA K C) (m_tuple : mg "tuple" = none) : FnOk P w K mg base CX0 1 f fd ["self", "takers", "total", "rents"] (spInitA C) := by
  refine F.ok sc_Allot (fun vs H Q E h => ?_) (fun cdv A outer s H vs Q E hr h => ?_)
  · obtain ⟨p, l, r, dx, tk, rs, z, rfl, _⟩ := h
    rfl
  · obtain ⟨p, l, r, dx, tk, rs, z, rfl, hp, hl, hrr, k⟩ := h
    refine ⟨_, pss_cons (ps_fld (pv 0) (pe_callTy call_tuple_of (by rfl) m_tuple (by decide +kernel) (pa_cons (pv 1) pa_nil)) rfl) (pss_cons (ps_fld (pv 0) (pv 2) rfl) (pss_one (ps_fld (pv 0) (pe_callTy call_tuple_of (by rfl) m_tuple (by decide +kernel) (pa_cons (pv 3) pa_nil)) rfl))), ?_⟩
    refine ⟨_, rfl, l, tk, rfl, .inl ⟨lstAt hl, fun a na => ?_⟩⟩
    have pa : p ≠ a := ne_of_none hp na
    have la : l ≠ a := ne_of_none hl na
    have ra : r ≠ a := ne_of_none hrr na
    have rp : r ≠ p := ne_of hrr hp (by intro z; cases z)
    refine ⟨_, rfl, p, C, dx, [], rfl, by rw [upd_ne pa]; exact hp, T.cl, T.nT, by decide, ?_⟩
    refine ⟨_, rfl, _, rfl, p, C, dx, _, rfl, upd_same, T.cl, T.nN, Nat.lt_of_le_of_lt (putF_len _ _ _) (by decide), ?_⟩
    refine ⟨_, rfl, r, rs, rfl, .inl ⟨lstAt (by rw [upd_ne rp, upd_ne rp, upd_ne ra]; exact hrr), fun b nb => ?_⟩⟩
    have pb : p ≠ b := ne_of_none upd_same nb
    refine ⟨_, rfl, p, C, dx, _, rfl, by rw [upd_ne pb]; exact upd_same, T.cl, T.nR, Nat.lt_of_le_of_lt (putF_len _ _ _) (Nat.lt_of_le_of_lt (Nat.succ_le_succ (putF_len _ _ _)) (by decide)), ?_⟩
    have eA : (upd (upd (upd H a (.tup tk)) p (.ins C dx (putF "takers" (.ref a) []))) p (.ins C dx (putF "total" (.int z) (putF "takers" (.ref a) [])))) a = some (.tup tk) := by rw [upd_ne pa.symm, upd_ne pa.symm]; exact upd_same
    have ab : a ≠ b := ne_of_none eA nb
    refine k _ ⟨dx, a, b, upd_same, by rw [upd_ne pa.symm, upd_ne ab]; exact eA, by rw [upd_ne pb.symm]; exact upd_same⟩ fun c o e hc => ?_
    have ca : c ≠ a := ne_of_none e na
    have e3 : (upd (upd (upd H a (.tup tk)) p (.ins C dx (putF "takers" (.ref a) []))) p (.ins C dx (putF "total" (.int z) (putF "takers" (.ref a) [])))) c = some o := by rw [upd_ne hc, upd_ne hc, upd_ne ca]; exact e
    rw [upd_ne hc, upd_ne (ne_of_none e3 nb)]
    exact e3
end
end TK

namespace TK
open PySem PySem.Spec PyProof.Rows L2
theorem rep_flat (k : Nat) (x : V) : (List.replicate k [x]).flatten = List.replicate k x := by
  induction k with
  | zero => rfl
  | succ k ih => rw [List.replicate_succ, List.flatten_cons, ih]; rfl
theorem takers_vN (cs : List Bd) (floor : Int) (h : Nat) : (wantF cs floor h).map vN ++ (List.replicate (h - (wantF cs floor h).length) (vN []) ++ []) = (takersF cs floor h).map vN := by
  unfold takersF
  rw [List.append_nil, List.map_append, List.map_replicate]
theorem val_go (cs : List Bd) (floor : Int) (t : List Nat) {H : Hp} {a : Addr} {Q : VK} (e : H a = some (.dK (cs.map kvO))) (q : Q (.int (lookF cs floor t)) H) : ∃ o, DGet H a (vN t) o ∧ Q (o.getD (.int floor)) H :=
  ⟨_, DGet.k (k := Sum.inr (sOf t)) e, by rw [val_get]; exact q⟩
section
variable {P : Program} {w : World} {K : PySem.W.Frag} {mg : Str → Option Value} {base : Heap}
/-! dearest -/
def spDear (K : PySem.W.Frag) (C : Addr) : Sp := fun vs H Q _ => ∃ (a b : Addr) (ts : List Addr) (cs : List Bd) (rt : List Int) (floor : Int), vs = [.ref a, .ref b, .int floor] ∧ SqS K H a (ts.map V.ref) ∧ CrewAt H ts cs ∧ CrewOk cs ∧ SqS K H b (rt.map V.int) ∧ RatesOk rt ∧ 0 ≤ floor ∧ floor ≤ 1000000000000 ∧
  ∀ (H' : Hp) (p : Addr), Same H H' → AlAt C H' p ((takersF cs floor rt.length).map vN) (worthF cs floor rt).sum ((rentsFrom (rivF (rankS cs) floor) 0 rt).map V.int) → Q (.ref p) H'
theorem ok_dearest {f fA fl C : Addr} {fd fdA fdl : FuncData} {kws : List (Str × V)} (F : FunD K "dearest" "dearest" (defArgs s_dearest) (defBody s_dearest) (defScope s_dearest) [] kws f fd) (m_len : mg "len" = none) (m_sum : mg "sum" = none) (m_zip : mg "zip" = none)
    (d_check_bidders : Def P w K mg base "check_bidders" 2 ["bidders"] (spCheckB K)) (d_check_rates : Def P w K mg base "_check_rates" 2 ["rates"] (spCheckR K))
    (G_ladder : FnOk P w K mg base CX0 6 fl fdl ["bidders", "hours", "floor"] (spLadder K)) (g_ladder : mg "ladder" = some (.ref fl)) (k_ladder : PySem.W.keepIn K (.ref fl) = true)
    {g1 : List Value → List Value → List Value} (kb_ladder_hours_floor : KBn K fdl ["bidders", "hours", "floor"] 1 ["hours", "floor"] g1 (fun vs zs => vs ++ zs))
    (d_strength : Def P w K mg base "strength" 1 ["bidder"] (spStrength K)) (d_rents : Def P w K mg base "_rents" 6 ["bidders", "rates", "floor"] (spRents K))
    (M_Allotment : Mk K C fA) (G_Allotment : FnOk P w K mg base CX0 1 fA fdA ["self", "takers", "total", "rents"] (spInitA C)) (mg_Allotment : mg "Allotment" = some (.ref C)) (b_Allotment : Binds K fdA ["self", "takers", "total", "rents"] []) :
    FnOk P w K mg base CX0 7 f fd ["bidders", "rates", "floor"] (spDear K C) := by
  refine F.ok (CX := CX0) sc_dearest (fun vs H Q E h => ?_) (fun cdv A outer s H vs Q E hr h => ?_)
  · obtain ⟨a, b, ts, cs, rt, floor, rfl, _⟩ := h
    rfl
  · obtain ⟨a, b, ts, cs, rt, floor, rfl, hS, ca, ck, hB, kr, g0, g1, q⟩ := h
    have h6 := ck.few
    obtain ⟨f1, f3⟩ := kr.few
    have el : (rt.map V.int).length = rt.length := List.length_map ..
    refine ⟨_, PSs.nox (pss_cons (ps_expr (pe_callD d_check_bidders (hr.mono (by decide)) (by rfl) (pa_cons (pv 0) pa_nil)))
  (pss_cons (ps_expr (pe_callD d_check_rates (hr.mono (by decide)) (by rfl) (pa_cons (pv 1) pa_nil)))
  (pss_cons (ps_set (i := 3) sc_dearest.nd rfl (.inl rfl) (pe_callN G_ladder (hr.mono (by decide)) (by rfl) g_ladder k_ladder kb_ladder_hours_floor pass0 (pa_cons (pv 0) pa_nil) (pk_cons (pe_callB call_len_seq (by rfl) m_len (by decide +kernel) (pa_cons (pv 1) pa_nil)) (pk_cons (pv 2) pk_nil))))
  (pss_cons (ps_set (i := 4) sc_dearest.nd rfl (.inl rfl) (pe_op op_rep (pe_lst (pa_cons pe_str pa_nil)) (pe_op op_sub (pe_callB call_len_seq (by rfl) m_len (by decide +kernel) (pa_cons (pv 1) pa_nil)) (pe_callB call_len_seq (by rfl) m_len (by decide +kernel) (pa_cons (pv 3) pa_nil)))))
  (pss_cons (ps_cut (ps_set (i := 5) sc_dearest.nd rfl (.inl rfl) (pe_lst (StX.pa_star (pv 3) (StX.pa_star (pv 4) pa_nil)))))
  (pss_cons (ps_cut (ps_set (i := 6) sc_dearest.nd rfl (.inr rfl) (pe_dc (own := [("bidder", 8)]) (by rfl) sc_dearest.nd (pi_or (pi_list (pv 0)) (pi_tup (pv 0))) (blkOk_by (N := ["bidders", "rates", "floor", "names", "guests", "takers", "strengths", "total", "bidder", "rate", "taker"]) (sc := defScope s_dearest) (by decide +kernel)) (fun _ _ _ _ _ => (pg_name (i := 8) sc_dearest.nd rfl (.inl rfl))) (fun _ _ _ _ _ => pts_nil) (fun _ _ _ _ _ => (pe_ix (ix_tupK (K := K) rfl) (pv 8) pe_int (fun _ _ => rfl))) (fun _ _ _ _ _ => (pe_callD d_strength (hr.mono (by decide)) (by rfl) (pa_cons (pv 8) pa_nil))))))
  (pss_cons (ps_cut (ps_set (i := 7) sc_dearest.nd rfl (.inl rfl) (pe_callB (cr_sum rfl) (by rfl) m_sum (by decide +kernel) (pa_cons (pe_lc (own := [("rate", 9), ("taker", 10)]) (by rfl) sc_dearest.nd (pi_or (pi_zip (by rfl) m_zip (pa_cons (pv 1) (pa_cons (pv 5) pa_nil))) (pi_zipM (by rfl) m_zip (pa_cons (pv 1) (pa_cons (pv 5) pa_nil)))) (blkOk_by (N := ["bidders", "rates", "floor", "names", "guests", "takers", "strengths", "total", "bidder", "rate", "taker"]) (sc := defScope s_dearest) (by decide +kernel)) (fun _ _ _ _ _ => (pg_tupK (K := K) (n := 2) rfl (by rfl) (pgs_cons (pg_name (i := 9) sc_dearest.nd rfl (.inl rfl)) (pgs_cons (pg_name (i := 10) sc_dearest.nd rfl (.inl rfl)) pgs_nil)))) (fun _ _ _ _ _ => pts_nil) (fun _ _ _ _ _ => (pe_op op_mul (pv 9) (pe_dget2 (hu_of hr) (pv 6) (pv 10) (pv 2) ⟨rfl, by rfl, by rfl, rfl⟩)))) pa_nil))))
  (pss_one (ps_ret (pe_make M_Allotment G_Allotment (hr.mono (by decide)) (by rfl) mg_Allotment b_Allotment .nil pass0 (pa_cons (pv 5) (pa_cons (pv 7) (pa_cons (pe_callD d_rents (hr.mono (by decide)) (by rfl) (pa_cons (pv 0) (pa_cons (pv 1) (pa_cons (pv 2) pa_nil)))) pa_nil))))))))))))), ?_⟩
    refine ⟨_, rfl, a, ts, cs, rfl, hS, ca, ck, fun H1 s1 => ?_⟩
    refine ⟨_, rfl, b, rt, rfl, hB.same s1, kr, ?_⟩
    refine ⟨_, rfl, _, rfl, _, _, rfl, hB.same s1, _, rfl, rfl, rfl, a, ts, cs, (rt.map V.int).length, floor, rfl, hS.same s1, ca.same s1, ck, by omega, by omega, g0, g1, fun H2 t s2 et => ?_⟩
    rw [el, got_want] at et
    have s12 := s1.trans s2
    have hw := (ladP_le cs floor rt.length).1
    have ew : (wantF cs floor rt.length).length = (ladP cs floor rt.length).length := by rw [ladP_want, List.length_map]
    have el2 : ((wantF cs floor rt.length).map vN).length = (wantF cs floor rt.length).length := List.length_map ..
    have ek : ((((rt.map V.int).length : Nat) : Int) - ((((wantF cs floor rt.length).map vN).length : Nat) : Int)).toNat = rt.length - (wantF cs floor rt.length).length := by rw [el, el2]; omega
    refine ⟨by decide, fun pL nL => ?_⟩
    have sL := same_upd (o := .lst [vN []]) nL
    have s12L := s12.trans sL
    refine ⟨_, rfl, _, _, rfl, hB.same s12L, _, rfl, _, _, rfl, .inr (tupAt (sL _ _ et)), _, _, rfl, rfl, ?_⟩
    refine ⟨pL, _, [vN []], rfl, rfl, upd_same, by rw [el, el2]; omega, by rw [el, el2]; omega, ?_, fun p2 np2 => ?_⟩
    · rw [ek]
      exact Nat.le_of_lt (small1000 (by show 1 * _ ≤ 1000; omega))
    rw [ek, rep_flat]
    have s3 := same_upd (o := .lst (List.replicate (rt.length - (wantF cs floor rt.length).length) (vN []))) np2
    have s123 := s12L.trans s3
    have et3 := s3 _ _ (sL _ _ et)
    -- takers
    refine ⟨fun σ H' => ∃ p3, Same H H' ∧ H' p3 = some (.lst ((takersF cs floor rt.length).map vN)) ∧ σ = [some (.ref a), some (.ref b), some (.int floor), some (.ref t), some (.ref p2), some (.ref p3), none, none, none, none, none], ?_, ?_⟩
    · refine ⟨_, rfl, t, _, rfl, .inl (tupAt et3), _, rfl, p2, _, rfl, .inr (lstAt upd_same), ?_⟩
      have ez : ((wantF cs floor rt.length).map vN ++ (List.replicate (rt.length - (wantF cs floor rt.length).length) (vN []) ++ [])).length ≤ sizeLine := by
        rw [takers_vN, List.length_map, takers_len]
        exact Nat.le_of_lt (small1000 (by omega))
      exact ⟨ez, fun p3 np3 => ⟨p3, s123.trans (same_upd np3), Eq.trans upd_same (congrArg (fun l => some (HO.lst l)) (takers_vN cs floor rt.length)), rfl⟩⟩
    rintro σ H4 ⟨p3, s4, e4, rfl⟩
    -- strengths
    refine ⟨fun σ H' => ∃ D, Same H4 H' ∧ H' D = some (.dK (cs.map kvO)) ∧ σ = [some (.ref a), some (.ref b), some (.int floor), some (.ref t), some (.ref p2), some (.ref p3), some (.ref D), none, none, none, none], ?_, ?_⟩
    · have ca4 := ca.same s4
      have step : ∀ (D : Addr) (i : Nat) (x : V), H4 D = none → (ts.map V.ref)[i]? = some x → ∃ (u : Addr) (c : Bd), x = .ref u ∧ cs[i]? = some c ∧ (upd H4 D (.dK ((cs.take i).map kvO))) u = some (tB3 c) ∧ BdOk c ∧ ((cs.take i).map kvO).length < sizeLine ∧
          upd (upd H4 D (.dK ((cs.take i).map kvO))) D (.dK (putK ((cs.take i).map kvO) (Sum.inr (sOf c.1)) (.int (loadB c)))) = upd H4 D (.dK ((cs.take (i + 1)).map kvO)) := by
        intro D i x nD hx
        obtain ⟨u, c, rfl, _, ec, eu⟩ := crew_at ca4 hx
        have hic := (List.getElem?_eq_some_iff.mp ec).1
        refine ⟨u, c, rfl, ec, (same_upd nD) _ _ eu, ck.ok c (List.mem_of_getElem? ec), ?_, by rw [upd_twice, put_new ck.nd ec]⟩
        rw [List.length_map, List.length_take]
        exact small1000 (by omega)
      rcases hS.same s4 with hL | hL
      · refine .inl ⟨_, rfl, a, rfl, ⟨_, hL⟩, fun D nD => dc_it walk_list (fun i H' => H' = upd H4 D (.dK ((cs.take i).map kvO))) rfl (fun i H' _ e => e ▸ (same_upd nD).seq hL) ?_ ?_⟩
        · rintro i x H3 H' hi rfl ⟨rfl, hx⟩
          obtain ⟨u, c, rfl, ec, eu, ob, hz, ep⟩ := step D i x nD hx
          exact ⟨rfl, yesT ⟨_, rfl, _, _, _, _, rfl, rfl, tupAt eu, rfl, _, rfl, u, c, rfl, eu, ob, _, (Sum.inr (sOf c.1) : Key), rfl, upd_same, hz, ep⟩⟩
        · rintro H' rfl
          rw [List.length_map, ca.1, List.take_length]
          exact ⟨D, same_upd nD, upd_same, rfl⟩
      · refine .inr ⟨_, rfl, a, rfl, ⟨_, hL⟩, fun D nD => dc_it walk_tup (fun i H' => H' = upd H4 D (.dK ((cs.take i).map kvO))) rfl (fun i H' _ e => e ▸ same_tup (same_upd nD) hL) ?_ ?_⟩
        · rintro i x H3 H' hi rfl ⟨rfl, hx⟩
          obtain ⟨u, c, rfl, ec, eu, ob, hz, ep⟩ := step D i x nD hx
          exact ⟨rfl, yesT ⟨_, rfl, _, _, _, _, rfl, rfl, tupAt eu, rfl, _, rfl, u, c, rfl, eu, ob, _, (Sum.inr (sOf c.1) : Key), rfl, upd_same, hz, ep⟩⟩
        · rintro H' rfl
          rw [List.length_map, ca.1, List.take_length]
          exact ⟨D, same_upd nD, upd_same, rfl⟩
    rintro σ H5 ⟨D, s5, eD, rfl⟩
    have s45 := s4.trans s5
    have e5 := s5 _ _ e4
    -- total
    refine ⟨fun σ H' => Same H5 H' ∧ σ = [some (.ref a), some (.ref b), some (.int floor), some (.ref t), some (.ref p2), some (.ref p3), some (.ref D), some (.int (worthF cs floor rt).sum), none, none, none], ?_, ?_⟩
    · have htl := takers_len cs floor rt.length
      have el3 : ((takersF cs floor rt.length).map vN).length = rt.length := by rw [List.length_map, htl]
      have step : ∀ (i : Nat) (x y : V), (rt.map V.int)[i]? = some x → ((takersF cs floor rt.length).map vN)[i]? = some y → ∃ (r : Int) (n : List Nat), x = .int r ∧ y = vN n ∧ (1 ≤ r ∧ r ≤ 1000) ∧ ((worthF cs floor rt).take (i + 1)).map V.int = ((worthF cs floor rt).take i).map V.int ++ [.int (r * lookF cs floor n)] := by
        intro i x y hx hy
        rw [List.getElem?_map] at hx hy
        cases er : rt[i]? with
        | none => rw [er] at hx; cases hx
        | some r =>
          cases en : (takersF cs floor rt.length)[i]? with
          | none => rw [en] at hy; cases hy
          | some n =>
            rw [er] at hx
            rw [en] at hy
            cases hx
            cases hy
            refine ⟨r, n, rfl, rfl, kr.ok r (List.mem_of_getElem? er), ?_⟩
            have ez : (worthF cs floor rt)[i]? = some (r * lookF cs floor n) := by
              unfold worthF
              rw [List.getElem?_map, (List.getElem?_zip_eq_some (l₁ := rt) (l₂ := takersF cs floor rt.length) (z := (r, n)) (i := i)).mpr ⟨er, en⟩]
              rfl
            rw [List.take_add_one, ez, List.map_append]
            rfl
      have hwl : (worthF cs floor rt).length = rt.length := by
        unfold worthF
        rw [List.length_map, List.length_zip, htl, Nat.min_self]
      have hz : ∀ i, (((worthF cs floor rt).take i).map V.int).length < sizeLine := fun i => by
        rw [List.length_map, List.length_take]
        exact small1000 (by omega)
      rcases hB.same s45 with hL | hL
      · refine .inl ⟨_, rfl, _, rfl, b, p3, _, _, rfl, hL, lstAt e5, fun E nE => lc_it (walk_zip (by rw [el, el3, Nat.min_self])) (fun i H' => Same H5 H' ∧ H' E = some (.lst (((worthF cs floor rt).take i).map V.int))) ⟨same_upd nE, upd_same⟩ (fun i H' _ hp => ⟨hp.1.seq hL, lstAt (hp.1 _ _ e5)⟩) ?_ ?_⟩
        · rintro i x H' H'' hi ⟨s6, eE⟩ ⟨T, x1, y1, rfl, nT, rfl, hx, hy⟩
          obtain ⟨r, n, rfl, rfl, rb, ew2⟩ := step i x1 y1 hx hy
          have sT := same_upd (o := .tup [V.int r, vN n]) nT
          refine ⟨_, _, rfl, tupAt upd_same, rfl, _, _, rfl, _, _, rfl, rfl, rfl, yesT ⟨_, rfl, _, rfl, D, rfl, .inl ⟨_, .inl (sT _ _ (s6 _ _ eD))⟩, _, rfl, _, rfl, ?_⟩⟩
          refine ⟨_, DGet.k (k := Sum.inr (sOf n)) (sT _ _ (s6 _ _ eD)), _, _, rfl, val_get cs floor n, .inl ⟨by omega, by omega⟩, _, sT _ _ eE, hz i, ?_⟩
          exact ⟨same_at (s6.trans sT) nE, by rw [ew2]; exact upd_same⟩
        · rintro H' ⟨s6, eE⟩
          rw [← hwl, List.take_length] at eE
          exact ⟨E, worthF cs floor rt, rfl, lstAt eE, s6, rfl⟩
      · refine .inr ⟨_, rfl, _, rfl, b, p3, _, _, rfl, hL, lstAt e5, fun E nE => lc_it (walk_zipM (by rw [el, el3])) (fun i H' => Same H5 H' ∧ H' E = some (.lst (((worthF cs floor rt).take i).map V.int))) ⟨same_upd nE, upd_same⟩ (fun i H' _ hp => ⟨same_tup hp.1 hL, lstAt (hp.1 _ _ e5)⟩) ?_ ?_⟩
        · rintro i x H' H'' hi ⟨s6, eE⟩ ⟨T, x1, y1, rfl, nT, rfl, hx, hy⟩
          obtain ⟨r, n, rfl, rfl, rb, ew2⟩ := step i x1 y1 hx hy
          have sT := same_upd (o := .tup [V.int r, vN n]) nT
          refine ⟨_, _, rfl, tupAt upd_same, rfl, _, _, rfl, _, _, rfl, rfl, rfl, yesT ⟨_, rfl, _, rfl, D, rfl, .inl ⟨_, .inl (sT _ _ (s6 _ _ eD))⟩, _, rfl, _, rfl, ?_⟩⟩
          refine ⟨_, DGet.k (k := Sum.inr (sOf n)) (sT _ _ (s6 _ _ eD)), _, _, rfl, val_get cs floor n, .inl ⟨by omega, by omega⟩, _, sT _ _ eE, hz i, ?_⟩
          exact ⟨same_at (s6.trans sT) nE, by rw [ew2]; exact upd_same⟩
        · rintro H' ⟨s6, eE⟩
          rw [el, ← hwl, List.take_length] at eE
          exact ⟨E, worthF cs floor rt, rfl, lstAt eE, s6, rfl⟩
    rintro σ H6 ⟨s6, rfl⟩
    have s456 := s45.trans s6
    refine ⟨_, rfl, _, rfl, _, rfl, _, rfl, _, rfl, a, b, ts, cs, rt, floor, rfl, hS.same s456, ca.same s456, ck, hB.same s456, kr, fun H7 l s7 el7 => ?_⟩
    intro x dx nx ndx nex
    have e7 := s7 _ _ (s6 _ _ e5)
    have s0 : Same H7 (upd (upd H7 dx (.own x)) x (.ins C dx [])) := fun b o e => by
      rw [upd_ne (ne_of_none e nx), upd_ne (ne_of_none e ndx)]
      exact e
    refine ⟨x, p3, l, dx, _, _, _, rfl, upd_same, s0 _ _ e7, s0 _ _ el7, fun H' al kp => ⟨rfl, q _ _ (fun b o e => ?_) al⟩⟩
    have e8 := s7 _ _ (s456 _ _ e)
    exact kp _ _ (s0 _ _ e8) (ne_of_none e8 nx)
end
end TK

namespace TK
open PySem PySem.Spec PyProof.Rows L2
theorem sorted_rates {rs rt : List Int} (h : rt.Perm rs) (o : OrdB true rt) (b : ∀ r ∈ rs, 1 ≤ r ∧ r ≤ 1000) (l : 1 ≤ rs.length ∧ rs.length ≤ 3) : RatesOk rt :=
  ⟨fun r hr => b r (h.mem_iff.mp hr), o, by rw [h.length_eq]; exact l⟩
section
variable {P : Program} {w : World} {K : PySem.W.Frag} {mg : Str → Option Value} {base : Heap}
/-! _law_scale -/
def spScale (K : PySem.W.Frag) : Sp := fun vs H Q _ => ∃ (a : Addr) (ns : List Int) (s : Int) (n : Nat), vs = [.ref a, .int s, .int (n : Int)] ∧ SqL K H a (ns.map V.int) ∧ 0 ≤ s ∧ s + 2 * n ≤ ns.length ∧ 1 ≤ n ∧ n ≤ 3 ∧
  ∀ (H' : Hp) (p : Addr) (rt : List Int), Same H H' → H p = none → H' p = some (.lst (rt.map V.int)) → RatesOk rt → rt.length = n → Q (.ref p) H'
theorem ok_L_scale {f : Addr} {fd : FuncData} (F : Fun K "_law_scale" "_law_scale" s_L_scale f fd) (m_range : mg "range" = none) (m_sorted : mg "sorted" = none)
    (d_L_far : Def P w K mg base "_law_far" 1 ["_law_pool_here", "_law_spot", "_law_number"] (spFar K)) (d_L_chosen : Def P w K mg base "_law_chosen" 2 ["_law_pool_here", "_law_spot", "_law_under", "_law_small", "_law_crest", "_law_whole"] (spChosen K)) :
    FnOk P w K mg base CX0 3 f fd ["_law_pool_here", "_law_spot", "_law_number"] (spScale K) := by
  refine F.ok sc_L_scale (fun vs H Q E h => ?_) (fun cdv A outer s H vs Q E hr h => ?_)
  · obtain ⟨a, ns, s, n, rfl, _⟩ := h
    rfl
  · obtain ⟨a, ns, s, n, rfl, hS, h0, h1, n1, n3, q⟩ := h
    refine ⟨_, (pss_cons (ps_set (i := 3) sc_L_scale.nd rfl (.inl rfl) (pe_lst pa_nil))
  (pss_cons (ps_for PassesOwn.never rfl (pi_range1 (by rfl) m_range (pa_cons (pv 2) pa_nil)) (pg_name (i := 4) sc_L_scale.nd rfl (.inl rfl))
    (pss_cons (ps_set (i := 5) sc_L_scale.nd rfl (.inl rfl) (pe_op op_add (pv 1) (pe_op op_mul pe_int (pv 4))))
  (pss_one (ps_expr (pe_bm PySem.F.plainAttrs_list PySem.F.slot_list_append PySem.F.type_list_append mt_append (pv 3) (pa_cons (pe_op op_add pe_int (pe_callD d_L_chosen (hr.mono (by decide)) (by rfl) (pa_cons (pv 0) (pa_cons (pv 5) (pa_cons pe_int (pa_cons pe_int (pa_cons pe_int (pa_cons (pe_callD d_L_far (hr.mono (by decide)) (by rfl) (pa_cons (pv 0) (pa_cons (pe_op op_add (pv 5) pe_int) (pa_cons pe_int pa_nil)))) pa_nil)))))))) pa_nil))))))
  (pss_one (ps_ret (pe_callBK (cr_sortedRev (b := true)) (by rfl) m_sorted (by decide +kernel) (pa_cons (pv 3) pa_nil) (pk_cons pe_bl pk_nil)))))), ?_⟩
    refine ⟨Nat.zero_le _, fun p np => ?_⟩
    refine ⟨_, rfl, _, rfl, by omega, by omega, for_range (fun i σ H2 => ∃ (y4 y5 : Option V) (rs : List Int), σ = [some (.ref a), some (.int s), some (.int (n : Int)), some (.ref p), y4, y5] ∧ Same H H2 ∧ H2 p = some (.lst (rs.map V.int)) ∧ rs.length = i ∧ ∀ r ∈ rs, 1 ≤ r ∧ r ≤ 1000)
      ⟨_, _, [], rfl, same_upd np, upd_same, rfl, fun r hr => nomatch hr⟩ ?_ ?_⟩
    · rintro i σ H2 hi ⟨y4, y5, rs, rfl, sm, ep, hl, hb⟩
      have hS2 : SqL K H2 a (ns.map V.int) := sm.seq hS
      have hzz : (rs.map V.int).length < sizeLine := by rw [List.length_map]; exact small1000 (by omega)
      refine ⟨_, rfl, _, rfl, _, _, rfl, rfl, .inl (by decide), _, _, rfl, rfl, ?_⟩
      refine ⟨_, rfl, .inl ⟨rfl, _, lstAt ep⟩, _, rfl, _, rfl, _, rfl, _, rfl, _, _, rfl, rfl, _, _, _, _, rfl, hS2, by omega, by decide, by decide, by omega, fun z1 _ => ?_⟩
      refine ⟨_, _, _, _, _, _, _, rfl, hS2, by omega, by omega, by decide, by decide, by decide, by decide, fun r r0 r1 => ?_⟩
      refine ⟨_, _, rfl, rfl, p, _, _, rfl, rfl, ep, hzz, _, _, rs ++ [1 + r], rfl, same_at sm np, by rw [upd_same, List.map_append]; rfl, by rw [List.length_append, hl]; rfl, fun z hz => ?_⟩
      rcases List.mem_append.mp hz with hz | hz
      · exact hb z hz
      · rw [List.mem_singleton.mp hz]
        omega
    · rintro σ H2 ⟨y4, y5, rs, rfl, sm, ep, hl, hb⟩
      refine ⟨_, rfl, p, rs, rfl, rfl, lstAt ep, fun rt p2 pm od np2 => ?_⟩
      exact q _ _ rt (sm.trans (same_upd np2)) (sm.free np2) upd_same (sorted_rates pm od hb (by omega)) (by rw [pm.length_eq]; omega)
end
end TK

namespace TK
open PySem PySem.Spec PyProof.Rows L2
def behF (cs : List Bd) (sill : Int) (j : Nat) : Int := if j < cs.length then max sill ((rankS cs).getD j 0) else sill
theorem beh_riv (cs : List Bd) (sill : Int) (j : Nat) : behF cs sill (j + 1) = rivF (rankS cs) sill j := by
  unfold rivF
  have sl := rankS_len cs
  have dn := rankS_dn cs
  refine fold_max_is ?_ fun y hy => ?_
  · unfold behF
    split
    · rename_i h
      have hg : (rankS cs).getD (j + 1) 0 ∈ (rankS cs).drop (j + 1) := by
        rw [List.getD_eq_getElem?_getD, List.getElem?_eq_getElem (by omega)]
        refine List.mem_of_getElem? (i := 0) ?_
        rw [List.getElem?_drop, List.getElem?_eq_getElem (by omega)]
        rfl
      by_cases e : sill ≤ (rankS cs).getD (j + 1) 0
      · rw [Int.max_eq_right e]
        exact List.mem_cons_of_mem _ hg
      · rw [Int.max_eq_left (by omega)]
        exact List.mem_cons_self ..
    · exact List.mem_cons_self ..
  · unfold behF
    rcases List.mem_cons.mp hy with rfl | hy
    · split
      · exact Int.le_max_left ..
      · exact Int.le_refl _
    · obtain ⟨i, hi⟩ := List.getElem?_of_mem hy
      rw [List.getElem?_drop] at hi
      have hl := (List.getElem?_eq_some_iff.mp hi).1
      have ey : y = (rankS cs).getD (j + 1 + i) 0 := by rw [List.getD_eq_getElem?_getD, hi]; rfl
      have := dn_get dn (i := j + 1) (j := j + 1 + i) (by omega) hl
      rw [if_pos (by omega)]
      refine Int.le_trans ?_ (Int.le_max_right ..)
      rw [ey]
      exact this
theorem beh_dn (cs : List Bd) (sill : Int) (j : Nat) : behF cs sill (j + 1) ≤ behF cs sill j := by
  unfold behF
  have dn := rankS_dn cs
  have sl := rankS_len cs
  split
  · rename_i h
    rw [if_pos (by omega)]
    have := dn_get dn (i := j) (j := j + 1) (by omega) (by omega)
    omega
  · split
    · exact Int.le_max_left ..
    · exact Int.le_refl _
theorem rank_of {cs : List Bd} {k : Nat} (hk : k < cs.length) : (idxOf cs)[(aheadOf (cs.map loadB) k).length]? = some k := by
  obtain ⟨j, hj⟩ := List.getElem?_of_mem ((idx_perm cs).mem_iff.mpr (List.mem_range.mpr hk))
  rw [ahead_idx hj]
  exact hj
theorem rank_load {cs : List Bd} {k : Nat} (hk : k < cs.length) : (aheadOf (cs.map loadB) k).length < cs.length ∧ (rankS cs).getD (aheadOf (cs.map loadB) k).length 0 = (cs.map loadB).getD k 0 := by
  have e := rank_of hk
  have hl := (List.getElem?_eq_some_iff.mp e).1
  rw [idx_len] at hl
  refine ⟨hl, ?_⟩
  rw [rank_at hl, List.getD_eq_getElem?_getD (l := idxOf cs), e]
  rfl
section
variable {P : Program} {w : World} {K : PySem.W.Frag} {mg : Str → Option Value} {base : Heap}
/-! _law_behind -/
def spBehind (K : PySem.W.Frag) : Sp := fun vs H Q _ => ∃ (p : Addr) (ts : List Addr) (cs : List Bd) (j : Nat) (sill : Int), vs = [.ref p, .int (j : Int), .int sill] ∧ H p = some (.lst (ts.map V.ref)) ∧ CrewAt H ts cs ∧ CrewW cs ∧
  ∀ H', Same H H' → Q (.int (behF cs sill j)) H'
theorem ok_L_behind {f : Addr} {fd : FuncData} (F : Fun K "_law_behind" "_law_behind" s_L_behind f fd) (m_range : mg "range" = none) (m_len : mg "len" = none) (m_max : mg "max" = none) :
    FnOk P w K mg base CX0 1 f fd ["_law_crew", "_law_rank", "_law_sill_here"] (spBehind K) := by
  refine F.ok sc_L_behind (fun vs H Q E h => ?_) (fun cdv A outer s H vs Q E hr h => ?_)
  · obtain ⟨p, ts, cs, j, sill, rfl, _⟩ := h
    rfl
  · obtain ⟨p, ts, cs, rk, sill, rfl, hp, ca, ck, q⟩ := h
    refine ⟨_, (pss_cons (ps_set (i := 3) sc_L_behind.nd rfl (.inr rfl) (pe_lc (own := [("_law_name", 6), ("_law_weight", 7), ("_law_bid", 8)]) (by rfl) sc_L_behind.nd (pi_list (pv 0)) (blkOk_by (N := ["_law_crew", "_law_rank", "_law_sill_here", "_law_loads", "_law_k", "_law_ahead", "_law_name", "_law_weight", "_law_bid", "_law_j"]) (sc := defScope s_L_behind) (by decide +kernel)) (fun _ _ _ _ _ => (pg_tupK (K := K) (n := 3) rfl (by rfl) (pgs_cons (pg_name (i := 6) sc_L_behind.nd rfl (.inl rfl)) (pgs_cons (pg_name (i := 7) sc_L_behind.nd rfl (.inl rfl)) (pgs_cons (pg_name (i := 8) sc_L_behind.nd rfl (.inl rfl)) pgs_nil))))) (fun _ _ _ _ _ => pts_nil) (fun _ _ _ _ _ => (pe_op op_mul (pv 7) (pv 8)))))
  (pss_cons (ps_for PassesOwn.never rfl (pi_range1 (by rfl) m_range (pa_cons (pe_callB call_len_seq (by rfl) m_len (by decide +kernel) (pa_cons (pv 0) pa_nil)) pa_nil)) (pg_name (i := 4) sc_L_behind.nd rfl (.inr rfl))
    (pss_cons (ps_setLc (i := 5) (own := [("_law_j", 9)]) (by rfl) sc_L_behind.nd rfl rfl (sw_true rfl rfl rfl (by decide +kernel)) (pi_range1 (by rfl) m_range (pa_cons (pe_callB call_len_seq (by rfl) m_len (by decide +kernel) (pa_cons (pv 0) pa_nil)) pa_nil)) (blkOk_by (N := ["_law_crew", "_law_rank", "_law_sill_here", "_law_loads", "_law_k", "_law_ahead", "_law_name", "_law_weight", "_law_bid", "_law_j"]) (sc := defScope s_L_behind) (by decide +kernel)) (fun _ _ _ _ _ => (pg_name (i := 9) sc_L_behind.nd rfl (.inl rfl))) (fun _ _ _ _ _ => (pts_one (PW.pt (pw_or (pt_cmpR op_gt (pe_ix (ix_listK (K := K) rfl) (pv 3) (pv 9) (fun _ _ => rfl)) (pe_ix (ix_listK (K := K) rfl) (pv 3) (pv 4) (fun _ _ => rfl)) (nomark _)) (pw_or1 (PW.pt (pw_and (pt_cmpR op_eq (pe_ix (ix_listK (K := K) rfl) (pv 3) (pv 9) (fun _ _ => rfl)) (pe_ix (ix_listK (K := K) rfl) (pv 3) (pv 4) (fun _ _ => rfl)) (nomark _)) (pw_and1 (pt_cmpR op_lt (pv 9) (pv 4) (nomark _)))))))))) (fun _ _ _ _ _ => (pv 9)))
  (pss_one (ps_if (pt_cmpR op_eq (pe_callB call_len_seq (by rfl) m_len (by decide +kernel) (pa_cons (pv 5) pa_nil)) (pv 1) (nomark _)) (pss_one (ps_ret (pe_callB (call_max2 rfl) (by rfl) m_max (by decide +kernel) (pa_cons (pv 2) (pa_cons (pe_ix ix_list (pv 3) (pv 4) (fun _ _ => rfl)) pa_nil))))) pss_nil))))
  (pss_one (ps_ret (pv 2))))), ?_⟩
    have hlen : ts.length = cs.length := ca.1
    have h6 := ck.few
    refine ⟨_, rfl, p, rfl, ⟨_, lstAt hp⟩, fun D nD => ?_⟩
    refine lc_list (K := K) (a := p) (xs := ts.map V.ref) (fun i H' => H' = upd H D (.lst ((cs.take i).map fun c => V.int (loadB c)))) rfl (fun i H' _ e => e ▸ (same_upd nD).seq (lstAt hp)) (fun i x H' hx hq => ?_) (fun H' hq => ?_)
    · subst hq
      obtain ⟨t, c, rfl, e1, e2, e3⟩ := crew_at ca hx
      have hc := ck.wts c (List.mem_of_getElem? e2)
      refine ⟨_, _, rfl, tupAt ((same_upd nD) _ _ e3), rfl, _, _, rfl, _, _, rfl, _, _, rfl, rfl, rfl, yesT ⟨_, rfl, _, rfl, _, _, rfl, rfl, .inl ⟨by have := hc.1; omega, by have := hc.2; omega⟩, _, upd_same, ?_, ?_⟩⟩
      · rw [List.length_map, List.length_take]; exact small1000 (by omega)
      · rw [upd_twice, List.take_add_one, e2, List.map_append]; rfl
    · subst hq
      rw [List.length_map, hlen, List.take_length]
      have s1 : Same H (upd H D (.lst (cs.map fun c => V.int (loadB c)))) := same_upd nD
      have eL : (cs.map fun c => V.int (loadB c)) = (cs.map loadB).map V.int := by rw [List.map_map]; rfl
      rw [eL] at s1 ⊢
      have hlL : (cs.map loadB).length = cs.length := List.length_map ..
      refine ⟨_, rfl, _, _, rfl, .inl (lstAt (s1 _ _ hp)), _, rfl, by omega, by rw [List.length_map]; omega, for_range (fun k σ H2 => Same H H2 ∧ H2 D = some (.lst ((cs.map loadB).map V.int)) ∧ (∀ i, i < k → (aheadOf (cs.map loadB) i).length ≠ rk) ∧ ∃ y4 y5 : Option V, σ = [some (.ref p), some (.int (rk : Int)), some (.int sill), some (.ref D), y4, y5, none, none, none, none])
        ⟨s1, upd_same, fun i hi => absurd hi (Nat.not_lt_zero i), _, _, rfl⟩ ?_ ?_⟩
      · rintro k σ H3 hk ⟨sm3, eD3, hno, z6, z7, rfl⟩
        rw [List.length_map] at hk
        have hk2 : k < cs.length := by omega
        have hkt : k < ts.length := by omega
        have gk : atI ((cs.map loadB).map V.int) (0 + (k : Int)) = some (.int ((cs.map loadB).getD k 0)) := by
          have := get_int (ns := cs.map loadB) (s := 0 + (k : Int)) (by omega) (by rw [hlL]; omega)
          rw [show (0 + (k : Int)).toNat = k by omega] at this
          exact this
        -- ahead = [..]
        refine ⟨_, rfl, _, _, rfl, .inl (lstAt (sm3 _ _ hp)), _, rfl, by omega, by rw [List.length_map]; omega, fun D2 nD2 => ?_⟩
        refine lc_range (fun i H' => H' = upd H3 D2 (.lst (((List.range i).filter fun j => beats (cs.map loadB) j k).map fun (j : Nat) => V.int (0 + (j : Int))))) rfl (fun i H' hi hq => ?_) (fun H' hq => ?_)
        · subst hq
          rw [List.length_map] at hi
          have hi2 : i < cs.length := by omega
          have gi : atI ((cs.map loadB).map V.int) (0 + (i : Int)) = some (.int ((cs.map loadB).getD i 0)) := by
            have := get_int (ns := cs.map loadB) (s := 0 + (i : Int)) (by omega) (by rw [hlL]; omega)
            rw [show (0 + (i : Int)).toNat = i by omega] at this
            exact this
          have sD2 := same_upd (o := .lst (((List.range i).filter fun j => beats (cs.map loadB) j k).map fun (j : Nat) => V.int (0 + (j : Int)))) nD2
          have hz : (((List.range i).filter fun j => beats (cs.map loadB) j k).map fun (j : Nat) => V.int (0 + (j : Int))).length < sizeLine := by
            rw [List.length_map]
            have := List.length_filter_le (fun j => beats (cs.map loadB) j k) (List.range i)
            rw [List.length_range] at this
            exact small1000 (by omega)
          have yes : beats (cs.map loadB) i k = true → upd (upd H3 D2 (.lst (((List.range i).filter fun j => beats (cs.map loadB) j k).map fun (j : Nat) => V.int (0 + (j : Int))))) D2 (.lst ((((List.range i).filter fun j => beats (cs.map loadB) j k).map fun (j : Nat) => V.int (0 + (j : Int))) ++ [V.int (0 + (i : Int))])) = upd H3 D2 (.lst (((List.range (i + 1)).filter fun j => beats (cs.map loadB) j k).map fun (j : Nat) => V.int (0 + (j : Int)))) := fun hb => by
            rw [upd_twice, List.range_succ, List.filter_append, List.map_append, List.filter_cons, if_pos hb]
            rfl
          have no : beats (cs.map loadB) i k = false → upd H3 D2 (.lst (((List.range i).filter fun j => beats (cs.map loadB) j k).map fun (j : Nat) => V.int (0 + (j : Int)))) = upd H3 D2 (.lst (((List.range (i + 1)).filter fun j => beats (cs.map loadB) j k).map fun (j : Nat) => V.int (0 + (j : Int)))) := fun hb => by
            rw [List.range_succ, List.filter_append, List.filter_cons, if_neg (by rw [hb]; decide), List.filter_nil, List.append_nil]
          refine ⟨rfl, _, rfl, _, rfl, _, _, _, _, rfl, rfl, lstAt (sD2 _ _ eD3), gi, _, rfl, _, rfl, _, _, _, _, rfl, rfl, lstAt (sD2 _ _ eD3), gk, _, _, rfl, rfl, _, rfl, ite2 (fun e => ?_) (fun e => ?_)⟩
          · refine iteT ⟨_, rfl, _, upd_same, hz, yes ?_⟩
            unfold beats
            rw [e]; rfl
          · refine ⟨_, rfl, _, rfl, _, _, _, _, rfl, rfl, lstAt (sD2 _ _ eD3), gi, _, rfl, _, rfl, _, _, _, _, rfl, rfl, lstAt (sD2 _ _ eD3), gk, rfl, _, rfl, ite2 (fun e2 => ?_) (fun e2 => ?_)⟩
            · have e3 : (cs.map loadB).getD i 0 = (cs.map loadB).getD k 0 := V.int.inj (of_decide_eq_true e2)
              refine ⟨_, rfl, _, rfl, _, _, rfl, rfl, _, rfl, ite2 (fun e4 => ?_) (fun e4 => ?_)⟩
              · refine ⟨_, rfl, _, upd_same, hz, yes ?_⟩
                have e5 := of_decide_eq_true e4
                unfold beats
                rw [decide_eq_true e3, decide_eq_true (show i < k by omega)]
                simp
              · refine no ?_
                have e5 : ¬ (0 + (i : Int) < 0 + (k : Int)) := fun z => e4 (decide_eq_true z)
                unfold beats
                rw [decide_eq_false (show ¬ i < k by omega), decide_eq_false (show ¬ (cs.map loadB).getD k 0 < (cs.map loadB).getD i 0 by omega)]
                simp
            · refine iteF (no ?_)
              have e3 : ¬ (cs.map loadB).getD i 0 = (cs.map loadB).getD k 0 := fun z => e2 (decide_eq_true (congrArg V.int z))
              have e5 : ¬ ((cs.map loadB).getD k 0 < (cs.map loadB).getD i 0) := fun z => e (decide_eq_true z)
              unfold beats
              rw [decide_eq_false e5, decide_eq_false e3]
              rfl
        · subst hq
          rw [List.length_map, hlen, show ((List.range ((cs.length : Nat) : Int).toNat).filter fun j => beats (cs.map loadB) j k) = aheadOf (cs.map loadB) k by unfold aheadOf; rw [hlL, Int.toNat_natCast]]
          have sD2 := same_upd (o := .lst ((aheadOf (cs.map loadB) k).map fun (j : Nat) => V.int (0 + (j : Int)))) nD2
          refine ⟨_, rfl, _, _, rfl, .inl (lstAt upd_same), _, rfl, rfl, _, rfl, ite2 (fun e => ?_) (fun e => ?_)⟩
          · have e1 : V.int ((((aheadOf (cs.map loadB) k).map fun (j : Nat) => V.int (0 + (j : Int))).length : Nat) : Int) = V.int (rk : Int) := of_decide_eq_true e
            rw [List.length_map] at e1
            have e2 : (aheadOf (cs.map loadB) k).length = rk := by have := V.int.inj e1; omega
            obtain ⟨r1, r2⟩ := rank_load hk2
            rw [e2] at r1 r2
            refine ⟨_, rfl, _, rfl, _, rfl, _, _, _, _, rfl, rfl, lstAt (sD2 _ _ eD3), gk, ?_⟩
            have eb : behF cs sill rk = if (cs.map loadB).getD k 0 > sill then (cs.map loadB).getD k 0 else sill := by
              unfold behF
              rw [if_pos r1, r2, Int.max_def]
              split <;> split <;> omega
            rw [eb] at q
            exact ⟨_, _, rfl, q _ (sm3.trans sD2)⟩
          · have e2 : (aheadOf (cs.map loadB) k).length ≠ rk := fun z => e (decide_eq_true (congrArg V.int (by rw [List.length_map]; omega)))
            refine ⟨sm3.trans sD2, sD2 _ _ eD3, fun i hi => ?_, _, _, rfl⟩
            by_cases hik : i = k
            · rw [hik]; exact e2
            · exact hno i (by omega)
      · rintro σ H3 ⟨sm3, eD3, hno, z6, z7, rfl⟩
        rw [List.length_map] at hno
        have eb : behF cs sill rk = sill := by
          unfold behF
          rw [if_neg fun h => ?_]
          have hl : rk < (idxOf cs).length := by rw [idx_len]; exact h
          have e := List.getElem?_eq_getElem hl
          have kn : (idxOf cs)[rk] < cs.length := List.mem_range.mp ((idx_perm cs).mem_iff.mp (List.getElem_mem hl))
          exact hno _ (by omega) (ahead_idx e)
        rw [eb] at q
        exact ⟨_, rfl, q _ sm3⟩
end
end TK

namespace TK
open PySem PySem.Spec PyProof.Rows L2
theorem at_rates {rt : List Int} {k : Nat} {z : Int} (h : k < rt.length) (ez : z = (k : Int)) : atI (rt.map V.int) z = some (.int (rt.getD k 0)) := by
  refine atI_in (by omega) ?_
  rw [show z.toNat = k by omega, List.getElem?_map, List.getD_eq_getElem?_getD, List.getElem?_eq_getElem h]
  rfl
theorem at_next {rt : List Int} {k : Nat} {z : Int} (h : k ≤ rt.length) (ez : z = (k : Int)) : atI (rt.map V.int ++ [V.int 0]) z = some (.int (rt.getD k 0)) := by
  refine atI_in (by omega) ?_
  rw [show z.toNat = k by omega, List.getElem?_append, List.length_map]
  split
  · rename_i hk
    rw [List.getElem?_map, List.getD_eq_getElem?_getD, List.getElem?_eq_getElem hk]
    rfl
  · rename_i hk
    have e : k = rt.length := by omega
    subst e
    rw [Nat.sub_self, List.getD_eq_getElem?_getD, List.getElem?_eq_none (Nat.le_refl _)]
    rfl
def rsF (cs : List Bd) (sill : Int) (rt : List Int) (j : Nat) : Int := (rentsFrom (rivF (rankS cs) sill) 0 rt).getD j 0
theorem rs_rec (cs : List Bd) (sill : Int) {rt : List Int} {i : Nat} (h : i < rt.length) : rsF cs sill rt i = rsF cs sill rt (i + 1) + behF cs sill (i + 1) * (rt.getD i 0 - rt.getD (i + 1) 0) := by
  have := rents_rec (rivF (rankS cs) sill) rt 0 i h
  rw [Nat.zero_add] at this
  rw [beh_riv]
  exact this
theorem rs_end (cs : List Bd) (sill : Int) (rt : List Int) : rsF cs sill rt rt.length = 0 := (rents_out (rivF (rankS cs) sill) rt 0).1
section
variable {P : Program} {w : World} {K : PySem.W.Frag} {mg : Str → Option Value} {base : Heap}
/-! _law_least_rents -/
def spLeast (K : PySem.W.Frag) : Sp := fun vs H Q _ => ∃ (p c : Addr) (ts : List Addr) (cs : List Bd) (rt : List Int) (sill : Int), vs = [.ref p, .ref c, .int sill] ∧ H p = some (.lst (ts.map V.ref)) ∧ CrewAt H ts cs ∧ CrewW cs ∧ H c = some (.lst (rt.map V.int)) ∧ RatesOk rt ∧
  ∀ (H' : Hp) (l : Addr), Same H H' → H' l = some (.lst ((rentsFrom (rivF (rankS cs) sill) 0 rt).map V.int)) → Q (.ref l) H'
theorem ok_L_least_rents {f : Addr} {fd : FuncData} (F : Fun K "_law_least_rents" "_law_least_rents" s_L_least_rents f fd) (m_range : mg "range" = none) (m_len : mg "len" = none)
    (d_L_behind : Def P w K mg base "_law_behind" 1 ["_law_crew", "_law_rank", "_law_sill_here"] (spBehind K)) : FnOk P w K mg base CX0 2 f fd ["_law_crew", "_law_scale_here", "_law_sill_here"] (spLeast K) := by
  refine F.ok sc_L_least_rents (fun vs H Q E h => ?_) (fun cdv A outer s H vs Q E hr h => ?_)
  · obtain ⟨p, c, ts, cs, rt, sill, rfl, _⟩ := h
    rfl
  · obtain ⟨p, c, ts, cs, rt, sill, rfl, hp, ca, ck, hc, kr, q⟩ := h
    obtain ⟨f1, f3⟩ := kr.few
    have el : (rt.map V.int).length = rt.length := List.length_map ..
    have rl := rents_len (rivF (rankS cs) sill) rt 0
    refine ⟨_, (pss_cons (ps_set (i := 3) sc_L_least_rents.nd rfl (.inl rfl) (pe_lst pa_nil))
  (pss_cons (ps_for PassesOwn.never rfl (pi_range1 (by rfl) m_range (pa_cons (pe_callB call_len_seq (by rfl) m_len (by decide +kernel) (pa_cons (pv 1) pa_nil)) pa_nil)) (pg_name (i := 4) sc_L_least_rents.nd rfl (.inl rfl))
    (pss_cons (ps_set (i := 5) sc_L_least_rents.nd rfl (.inl rfl) pe_int)
  (pss_cons (ps_for PassesOwn.never rfl (pi_range2 (by rfl) m_range (pa_cons (pv 4) (pa_cons (pe_callB call_len_seq (by rfl) m_len (by decide +kernel) (pa_cons (pv 1) pa_nil)) pa_nil))) (pg_name (i := 6) sc_L_least_rents.nd rfl (.inl rfl))
    (pss_one (ps_set (i := 5) sc_L_least_rents.nd rfl (.inl rfl) (pe_op op_add (pv 5) (pe_op op_mul (pe_callD d_L_behind (hr.mono (by decide)) (by rfl) (pa_cons (pv 0) (pa_cons (pe_op op_add (pv 6) pe_int) (pa_cons (pv 2) pa_nil)))) (pe_op op_sub (pe_ix ix_list (pv 1) (pv 6) (fun _ _ => rfl)) (pe_ix ix_list (pe_op op_cat (pv 1) (pe_lst (pa_cons pe_int pa_nil))) (pe_op op_add (pv 6) pe_int) (fun _ _ => rfl))))))))
  (pss_one (ps_expr (pe_bm PySem.F.plainAttrs_list PySem.F.slot_list_append PySem.F.type_list_append mt_append (pv 3) (pa_cons (pv 5) pa_nil)))))))
  (pss_one (ps_ret (pv 3))))), ?_⟩
    refine ⟨Nat.zero_le _, fun l nl => ?_⟩
    have s1 := same_upd (o := .lst []) nl
    refine ⟨_, rfl, _, _, rfl, .inl (lstAt (s1 _ _ hc)), _, rfl, by omega, by rw [el]; omega, for_range (fun j σ H2 => Same H H2 ∧ H2 l = some (.lst (((rentsFrom (rivF (rankS cs) sill) 0 rt).take j).map V.int)) ∧ ∃ y4 y5 y6 : Option V, σ = [some (.ref p), some (.ref c), some (.int sill), some (.ref l), y4, y5, y6])
      ⟨s1, upd_same, _, _, _, rfl⟩ ?_ ?_⟩
    · rintro j σ H2 hj ⟨sm, el2, y4, y5, y6, rfl⟩
      rw [el] at hj
      have hj2 : j < rt.length := by omega
      refine ⟨_, rfl, _, rfl, _, _, rfl, .inl (lstAt (sm _ _ hc)), _, _, rfl, ⟨by omega, by omega, by rw [el]; omega, by rw [el]; omega⟩, for_range (fun d σ H3 => Same H2 H3 ∧ ∃ y6 : Option V, σ = [some (.ref p), some (.ref c), some (.int sill), some (.ref l), some (.int (0 + (j : Int))), some (.int (rsF cs sill rt j - rsF cs sill rt (j + d))), y6])
        ⟨Same.refl H2, y6, ?_⟩ ?_ ?_⟩
      · rw [Nat.add_zero, Int.sub_self]
        rfl
      · rintro d σ H3 hd ⟨sm3, y6, rfl⟩
        rw [el] at hd
        have hd2 : j + d < rt.length := by omega
        have sm03 := sm.trans sm3
        have rb := rates_nonneg kr (j + d)
        have rb2 := rates_nonneg kr (j + d + 1)
        refine ⟨_, rfl, _, rfl, _, rfl, _, _, rfl, rfl, _, rfl, p, ts, cs, j + d + 1, sill, ?_, sm03 _ _ hp, ca.same sm03, ck, fun H4 s4 => ?_⟩
        · show [V.ref p, V.int (0 + (j : Int) + (d : Int) + 1), V.int sill] = _
          rw [show (0 + (j : Int) + (d : Int) + 1) = (((j + d + 1 : Nat)) : Int) by omega]
        have sm04 := sm03.trans s4
        refine ⟨_, rfl, _, rfl, _, _, _, _, rfl, rfl, lstAt (sm04 _ _ hc), at_rates hd2 (by omega), ?_⟩
        refine ⟨_, rfl, (by show 1 ≤ sizeLine; decide), fun p5 np5 => ?_⟩
        have s5 := same_upd (o := .lst [V.int 0]) np5
        refine ⟨c, p5, _, _, rfl, rfl, s5 _ _ (sm04 _ _ hc), upd_same, Nat.le_of_lt (small1000 (by show (rt.map V.int).length + 1 ≤ 1000; omega)), fun p6 np6 => ?_⟩
        have s6 := same_upd (o := .lst (rt.map V.int ++ [V.int 0])) np6
        refine ⟨_, rfl, _, _, rfl, rfl, _, _, _, _, rfl, rfl, lstAt upd_same, at_next (k := j + d + 1) (by omega) (by omega), ?_⟩
        refine ⟨_, _, rfl, rfl, _, _, rfl, rfl, .inr ⟨by omega, by omega⟩, _, _, rfl, rfl, ((sm3.trans s4).trans s5).trans s6, some (.int (0 + (j : Int) + (d : Int))), ?_⟩
        have e := rs_rec cs sill (rt := rt) (i := j + d) hd2
        rw [show j + (d + 1) = j + d + 1 by omega, show rsF cs sill rt j - rsF cs sill rt (j + d + 1) = rsF cs sill rt j - rsF cs sill rt (j + d) + behF cs sill (j + d + 1) * (rt.getD (j + d) 0 - rt.getD (j + d + 1) 0) by omega]
        rfl
      · rintro σ H3 ⟨sm3, y6, rfl⟩
        rw [el, show ((((rt.length : Nat) : Int) - (0 + (j : Int))).toNat) = rt.length - j by omega, show j + (rt.length - j) = rt.length by omega, rs_end, Int.sub_zero]
        have hrl : j < (rentsFrom (rivF (rankS cs) sill) 0 rt).length := by omega
        refine ⟨_, rfl, .inl ⟨rfl, _, lstAt (sm3 _ _ el2)⟩, _, rfl, l, _, _, rfl, rfl, sm3 _ _ el2, ?_, same_at (sm.trans sm3) nl, ?_, _, _, _, rfl⟩
        · rw [List.length_map, List.length_take]
          exact small1000 (by omega)
        · rw [upd_same, List.take_add_one, List.map_append, List.getElem?_eq_getElem hrl]
          unfold rsF
          rw [List.getD_eq_getElem?_getD, List.getElem?_eq_getElem hrl]
          rfl
    · rintro σ H2 ⟨sm, el2, y4, y5, y6, rfl⟩
      rw [show (((rt.map V.int).length : Nat) : Int).toNat = (rentsFrom (rivF (rankS cs) sill) 0 rt).length by rw [el, rl]; omega, List.take_length] at el2
      exact ⟨_, rfl, q _ _ sm el2⟩
end
end TK

namespace TK
open PySem PySem.Spec PyProof.Rows L2
theorem ixN_at {n k : Nat} {z : Int} (h : k < n) (ez : z = (k : Int)) : ixN n z = some k := by
  rw [ez]
  unfold ixN
  rw [if_pos (by omega), if_pos (by omega)]
  simp
theorem set_ints (xs : List Int) (k : Nat) (v : Int) : (xs.map V.int).set k (.int v) = (xs.set k v).map V.int := by rw [List.map_set]
def RowI (H : Hp) (n : Nat) (u : Addr) : Prop := ∃ ys : List Int, ys.length = n ∧ H u = some (.lst (ys.map V.int))
theorem RowI.same {H H' : Hp} {n : Nat} {u : Addr} (h : RowI H n u) (s : Same H H') : RowI H' n u := by
  obtain ⟨ys, e, h⟩ := h
  exact ⟨ys, e, s _ _ h⟩
section
variable {P : Program} {w : World} {K : PySem.W.Frag} {mg : Str → Option Value} {base : Heap}
/-! _law_share -/
def spShare (K : PySem.W.Frag) : Sp := fun vs H Q _ => ∃ (a : Addr) (ns : List Int) (s span : Int), vs = [.ref a, .int s, .int span] ∧ SqL K H a (ns.map V.int) ∧ 0 ≤ s ∧ s + 6 ≤ ns.length ∧ 0 ≤ span ∧ ∀ r : Int, Q (.int r) H
theorem ok_L_share {f : Addr} {fd : FuncData} (F : Fun K "_law_share" "_law_share" s_L_share f fd) (m_int : mg "int" = none) (m_min : mg "min" = none)
    (d_L_part : Def P w K mg base "_law_part" 1 ["_law_pool_here", "_law_spot", "_law_under", "_law_size"] (spPart K)) (d_L_far : Def P w K mg base "_law_far" 1 ["_law_pool_here", "_law_spot", "_law_number"] (spFar K)) :
    FnOk P w K mg base CX0 2 f fd ["_law_pool_here", "_law_spot", "_law_span"] (spShare K) := by
  refine F.ok sc_L_share (fun vs H Q E h => ?_) (fun cdv A outer s H vs Q E hr h => ?_)
  · obtain ⟨a, ns, s, span, rfl, _⟩ := h
    rfl
  · obtain ⟨a, ns, s, span, rfl, hS, h0, h1, h2, q⟩ := h
    refine ⟨_, (pss_cons (ps_set (i := 3) sc_L_share.nd rfl (.inl rfl) (pe_callD d_L_part (hr.mono (by decide)) (by rfl) (pa_cons (pv 0) (pa_cons (pv 1) (pa_cons pe_int (pa_cons pe_int pa_nil))))))
  (pss_cons (ps_if (pt_cmpR op_eq (pv 3) pe_int (nomark _)) (pss_one (ps_ret pe_int)) pss_nil)
  (pss_cons (ps_if (pt_cmpR op_eq (pv 3) pe_int (nomark _)) (pss_one (ps_ret (pv 2))) pss_nil)
  (pss_cons (ps_if (pt_cmpR op_eq (pv 3) pe_int (nomark _)) (pss_one (ps_ret (pe_callB (call_min2 rfl) (by rfl) m_min (by decide +kernel) (pa_cons (pv 2) (pa_cons (pe_callD d_L_part (hr.mono (by decide)) (by rfl) (pa_cons (pv 0) (pa_cons (pv 1) (pa_cons pe_int (pa_cons pe_int pa_nil))))) pa_nil))))) pss_nil)
  (pss_one (ps_ret (pe_op op_modN (pe_callTy call_int1 (by rfl) m_int (by decide +kernel) (pa_cons (pe_callD d_L_far (hr.mono (by decide)) (by rfl) (pa_cons (pv 0) (pa_cons (pe_op op_add (pv 1) pe_int) (pa_cons pe_int pa_nil)))) pa_nil)) (pe_op op_add (pv 2) pe_int)))))))), ?_⟩
    refine ⟨_, rfl, _, rfl, a, ns, s, 1, 4, rfl, hS, h0, by omega, by decide, by decide, by decide, ?_⟩
    refine ⟨_, rfl, rfl, _, rfl, ite2 (fun _ => q 0) (fun _ => ?_)⟩
    refine ⟨_, rfl, rfl, _, rfl, ite2 (fun _ => ⟨_, rfl, q span⟩) (fun _ => ?_)⟩
    refine ⟨_, rfl, rfl, _, rfl, ite2 (fun _ => ?_) (fun _ => ?_)⟩
    · exact ⟨_, rfl, _, rfl, _, rfl, a, ns, s, 4, 10, rfl, hS, h0, by omega, by decide, by decide, by decide, _, _, rfl, q _⟩
    · exact ⟨_, rfl, _, rfl, _, _, rfl, rfl, a, ns, s + 1, 5, rfl, hS, by omega, by decide, by decide, by omega, fun r r0 => .inl ⟨_, rfl, _, rfl, _, _, rfl, rfl, _, _, rfl, rfl, (show span + 1 ≠ 0 by omega), q _⟩⟩
/-! _law_others -/
def spOthers (K : PySem.W.Frag) : Sp := fun vs H Q _ => ∃ (a p c : Addr) (ns : List Int) (ts : List Addr) (cs : List Bd) (rt : List Int) (sill : Int), vs = [.ref a, .ref p, .ref c, .int sill] ∧ SqL K H a (ns.map V.int) ∧ 18 ≤ ns.length ∧ H p = some (.lst (ts.map V.ref)) ∧ CrewAt H ts cs ∧ CrewW cs ∧ H c = some (.lst (rt.map V.int)) ∧ RatesOk rt ∧
  ∀ (H' : Hp) (l : Addr), Same H H' → RowI H' rt.length l → Q (.ref l) H'
theorem ok_L_others {f : Addr} {fd : FuncData} (F : Fun K "_law_others" "_law_others" s_L_others f fd) (m_len : mg "len" = none) (m_range : mg "range" = none)
    (d_L_ladder : Def P w K mg base "_law_ladder" 1 ["_law_crew", "_law_slots", "_law_sill_here"] (spLadderW K)) (d_L_behind : Def P w K mg base "_law_behind" 1 ["_law_crew", "_law_rank", "_law_sill_here"] (spBehind K))
    (d_L_share : Def P w K mg base "_law_share" 2 ["_law_pool_here", "_law_spot", "_law_span"] (spShare K)) : FnOk P w K mg base CX0 3 f fd ["_law_pool_here", "_law_crew", "_law_scale_here", "_law_sill_here"] (spOthers K) := by
  refine F.ok sc_L_others (fun vs H Q E h => ?_) (fun cdv A outer s H vs Q E hr h => ?_)
  · obtain ⟨a, p, c, ns, ts, cs, rt, sill, rfl, _⟩ := h
    rfl
  · obtain ⟨a, p, c, ns, ts, cs, rt, sill, rfl, hS, hn, hp, ca, ck, hc, kr, q⟩ := h
    obtain ⟨f1, f3⟩ := kr.few
    have el : (rt.map V.int).length = rt.length := List.length_map ..
    refine ⟨_, (pss_cons (ps_set (i := 4) sc_L_others.nd rfl (.inl rfl) (pe_callB call_len_seq (by rfl) m_len (by decide +kernel) (pa_cons (pe_callD d_L_ladder (hr.mono (by decide)) (by rfl) (pa_cons (pv 1) (pa_cons (pe_callB call_len_seq (by rfl) m_len (by decide +kernel) (pa_cons (pv 2) pa_nil)) (pa_cons (pv 3) pa_nil)))) pa_nil)))
  (pss_cons (ps_set (i := 5) sc_L_others.nd rfl (.inl rfl) (pe_op op_cat (pe_lc (own := [("_law_rate", 11)]) (by rfl) sc_L_others.nd (pi_list (pv 2)) (blkOk_by (N := ["_law_pool_here", "_law_crew", "_law_scale_here", "_law_sill_here", "_law_number", "_law_rents", "_law_k", "_law_j", "_law_fall", "_law_low", "_law_span", "_law_rate"]) (sc := defScope s_L_others) (by decide +kernel)) (fun _ _ _ _ _ => (pg_name (i := 11) sc_L_others.nd rfl (.inl rfl))) (fun _ _ _ _ _ => pts_nil) (fun _ _ _ _ _ => pe_int)) (pe_lst (pa_cons pe_int pa_nil))))
  (pss_cons (ps_for PassesOwn.never rfl (pi_range1 (by rfl) m_range (pa_cons (pe_callB call_len_seq (by rfl) m_len (by decide +kernel) (pa_cons (pv 2) pa_nil)) pa_nil)) (pg_name (i := 6) sc_L_others.nd rfl (.inl rfl))
    (pss_cons (ps_cut (ps_set (i := 7) sc_L_others.nd rfl (.inl rfl) (pe_op op_sub (pe_op op_sub (pe_callB call_len_seq (by rfl) m_len (by decide +kernel) (pa_cons (pv 2) pa_nil)) pe_int) (pv 6))))
  (pss_cons (ps_set (i := 8) sc_L_others.nd rfl (.inl rfl) (pe_op op_sub (pe_ix ix_list (pv 2) (pv 7) (fun _ _ => rfl)) (pe_ix ix_list (pe_op op_cat (pv 2) (pe_lst (pa_cons pe_int pa_nil))) (pe_op op_add (pv 7) pe_int) (fun _ _ => rfl))))
  (pss_cons (ps_set (i := 9) sc_L_others.nd rfl (.inl rfl) (pe_op op_mul (pe_callD d_L_behind (hr.mono (by decide)) (by rfl) (pa_cons (pv 1) (pa_cons (pe_op op_add (pv 7) pe_int) (pa_cons (pv 3) pa_nil)))) (pv 8)))
  (pss_cons (ps_set (i := 10) sc_L_others.nd rfl (.inl rfl) pe_int)
  (pss_cons (ps_cut (ps_if (pt_cmpR op_lt (pv 7) (pv 4) (nomark _)) (pss_one (ps_set (i := 10) sc_L_others.nd rfl (.inl rfl) (pe_op op_sub (pe_op op_mul (pe_callD d_L_behind (hr.mono (by decide)) (by rfl) (pa_cons (pv 1) (pa_cons (pv 7) (pa_cons (pv 3) pa_nil)))) (pv 8)) (pv 9)))) pss_nil))
  (pss_one (ps_asg (pe_op op_add (pe_op op_add (pe_ix ix_list (pv 5) (pe_op op_add (pv 7) pe_int) (fun _ _ => rfl)) (pv 9)) (pe_callD d_L_share (hr.mono (by decide)) (by rfl) (pa_cons (pv 0) (pa_cons (pe_op op_mul pe_int (pv 7)) (pa_cons (pv 10) pa_nil))))) (pg_sub (pv 5) (pv 7) set_list)))))))))
  (pss_one (ps_ret (pe_slice sl_list (pv 5) po_none (po_some (pe_callB call_len_seq (by rfl) m_len (by decide +kernel) (pa_cons (pv 2) pa_nil))))))))), ?_⟩
    refine ⟨_, rfl, _, rfl, _, _, rfl, .inl (lstAt hc), _, rfl, p, ts, cs, (rt.map V.int).length, sill, rfl, hp, ca, ck, by omega, fun H1 t o s1 et _ _ => ?_⟩
    refine ⟨_, _, rfl, .inr (tupFrz et), ?_⟩
    obtain ⟨num, en⟩ : ∃ num : Nat, num = ((wantF cs sill (rt.map V.int).length).map vN).length := ⟨_, rfl⟩
    rw [← en]
    have hc1 := s1 _ _ hc
    refine ⟨_, rfl, c, rfl, ⟨_, lstAt hc1⟩, fun D nD => ?_⟩
    refine lc_list (K := K) (a := c) (xs := rt.map V.int) (fun i H' => H' = upd H1 D (.lst (List.replicate i (V.int 0)))) rfl (fun i H' _ e => e ▸ (same_upd nD).seq (lstAt hc1)) (fun i x H' hx hq => ?_) (fun H' hq => ?_)
    · subst hq
      have hil := (List.getElem?_eq_some_iff.mp hx).1
      rw [el] at hil
      refine ⟨rfl, yesT ⟨_, upd_same, ?_, ?_⟩⟩
      · rw [List.length_replicate]; exact small1000 (by omega)
      · rw [upd_twice, List.replicate_succ']
    subst hq
    rw [el]
    have s2 := same_upd (o := .lst (List.replicate rt.length (V.int 0))) nD
    refine ⟨(by show 1 ≤ sizeLine; decide), fun p3 np3 => ?_⟩
    have s3 := same_upd (o := .lst [V.int 0]) np3
    refine ⟨D, p3, _, _, rfl, rfl, s3 _ _ upd_same, upd_same, Nat.le_of_lt (small1000 (by rw [List.length_replicate]; show rt.length + 1 ≤ 1000; omega)), fun l nl => ?_⟩
    have s4 := same_upd (o := .lst (List.replicate rt.length (V.int 0) ++ [V.int 0])) nl
    have nl0 : H1 l = none := (s2.trans s3).free nl
    have s14 := ((s1.trans s2).trans s3).trans s4
    have nlH : H l = none := s1.free nl0
    have e0 : (upd (upd (upd H1 D (.lst (List.replicate rt.length (V.int 0)))) p3 (.lst [V.int 0])) l (.lst (List.replicate rt.length (V.int 0) ++ [V.int 0]))) l = some (.lst ((List.replicate (rt.length + 1) (0 : Int)).map V.int)) := by
      rw [upd_same, List.map_replicate, List.replicate_succ']
    refine ⟨_, rfl, _, _, rfl, .inl (lstAt (s14 _ _ hc)), _, rfl, by omega, by rw [el]; omega, for_range (fun k σ H2 => Same H H2 ∧ ∃ (xs : List Int) (y6 y7 y8 y9 y10 : Option V), H2 l = some (.lst (xs.map V.int)) ∧ xs.length = rt.length + 1 ∧ σ = [some (.ref a), some (.ref p), some (.ref c), some (.int sill), some (.int (num : Int)), some (.ref l), y6, y7, y8, y9, y10, none])
      ⟨s14, _, _, _, _, _, _, e0, List.length_replicate .., rfl⟩ ?_ ?_⟩
    · rintro k σ H2 hk ⟨sm, xs, y6, y7, y8, y9, y10, el2, hxl, rfl⟩
      rw [el] at hk
      obtain ⟨j, ej⟩ : ∃ j, j = rt.length - 1 - k := ⟨_, rfl⟩
      have hj : j < rt.length := by omega
      have rb := rates_nonneg kr j
      have rb2 := rates_nonneg kr (j + 1)
      have rst := rates_step kr j
      refine ⟨fun σ H' => H' = H2 ∧ σ = [some (.ref a), some (.ref p), some (.ref c), some (.int sill), some (.int (num : Int)), some (.ref l), some (.int (0 + (k : Int))), some (.int ((j : Nat) : Int)), y8, y9, y10, none], ?_, ?_⟩
      · refine ⟨_, rfl, _, _, rfl, .inl (lstAt (sm _ _ hc)), _, _, rfl, rfl, _, rfl, _, _, rfl, rfl, rfl, ?_⟩
        rw [show ((j : Nat) : Int) = (((rt.map V.int).length : Nat) : Int) - 1 - (0 + (k : Int)) by omega]
        rfl
      rintro σ H3 ⟨rfl, rfl⟩
      -- the fall
      refine ⟨_, rfl, _, rfl, _, _, _, _, rfl, rfl, lstAt (sm _ _ hc), at_rates hj rfl, ?_⟩
      refine ⟨_, rfl, (by show 1 ≤ sizeLine; decide), fun p5 np5 => ?_⟩
      have s5 := same_upd (o := .lst [V.int 0]) np5
      refine ⟨c, p5, _, _, rfl, rfl, s5 _ _ (sm _ _ hc), upd_same, Nat.le_of_lt (small1000 (by show (rt.map V.int).length + 1 ≤ 1000; omega)), fun p6 np6 => ?_⟩
      have s6 := same_upd (o := .lst (rt.map V.int ++ [V.int 0])) np6
      have s56 := s5.trans s6
      have sm6 := sm.trans s56
      refine ⟨_, rfl, _, _, rfl, rfl, _, _, _, _, rfl, rfl, lstAt upd_same, at_next (k := j + 1) (by omega) (by omega), _, _, rfl, rfl, ?_⟩
      -- the low
      refine ⟨_, rfl, _, rfl, _, _, rfl, rfl, _, rfl, p, ts, cs, j + 1, sill, rfl, sm6 _ _ hp, ca.same sm6, ck, fun H7 s7 => ?_⟩
      have sm7 := sm6.trans s7
      refine ⟨_, rfl, _, _, rfl, rfl, .inr ⟨by omega, by omega⟩, ?_⟩
      have fall0 : 0 ≤ rt.getD j 0 - rt.getD (j + 1) 0 := by omega
      refine ⟨fun σ H' => ∃ span : Int, 0 ≤ span ∧ Same H7 H' ∧ σ = [some (.ref a), some (.ref p), some (.ref c), some (.int sill), some (.int (num : Int)), some (.ref l), some (.int (0 + (k : Int))), some (.int ((j : Nat) : Int)), some (.int (rt.getD j 0 - rt.getD (j + 1) 0)), some (.int (behF cs sill (j + 1) * (rt.getD j 0 - rt.getD (j + 1) 0))), some (.int span), none], ?_, ?_⟩
      · refine ⟨_, rfl, _, rfl, _, _, rfl, rfl, _, rfl, ite2 (fun _ => ?_) (fun _ => ⟨0, Int.le_refl _, Same.refl H7, rfl⟩)⟩
        refine ⟨_, rfl, _, rfl, _, rfl, p, ts, cs, j, sill, rfl, sm7 _ _ hp, ca.same sm7, ck, fun H8 s8 => ?_⟩
        refine ⟨_, rfl, _, _, rfl, rfl, .inr ⟨by omega, by omega⟩, _, rfl, _, _, rfl, rfl, behF cs sill j * (rt.getD j 0 - rt.getD (j + 1) 0) - behF cs sill (j + 1) * (rt.getD j 0 - rt.getD (j + 1) 0), ?_, s8, rfl⟩
        have := Int.mul_le_mul_of_nonneg_right (beh_dn cs sill j) fall0
        omega
      rintro σ H8 ⟨span, sp0, s8, rfl⟩
      have s38 := (s56.trans s7).trans s8
      have sm8 := sm.trans s38
      have el8 := s38 _ _ el2
      refine ⟨_, rfl, _, rfl, _, _, rfl, rfl, _, _, _, _, rfl, rfl, lstAt el8, at_rates (k := j + 1) (by omega) (by omega), _, rfl, _, _, rfl, rfl, ?_⟩
      refine ⟨_, rfl, _, rfl, _, _, rfl, rfl, .inl ⟨by decide, by decide⟩, _, rfl, a, ns, 6 * (j : Int), span, rfl, sm8.seq hS, by omega, by omega, sp0, fun r => ?_⟩
      refine ⟨_, _, rfl, rfl, _, rfl, _, rfl, l, _, _, j, rfl, rfl, el8, ixN_at (by rw [List.length_map]; omega) rfl, ?_⟩
      rw [set_ints]
      refine ⟨same_at sm8 nlH, _, _, _, _, _, _, upd_same, by rw [List.length_set]; exact hxl, rfl⟩
    · rintro σ H2 ⟨sm, xs, y6, y7, y8, y9, y10, el2, hxl, rfl⟩
      refine ⟨_, rfl, _, rfl, _, _, rfl, .inl (lstAt (sm _ _ hc)), _, rfl, l, _, rfl, lstAt el2, fun p9 np9 => ?_⟩
      rw [el, cut_any]
      refine q _ _ (sm.trans (same_upd np9)) ⟨xs.take rt.length, by rw [List.length_take]; omega, by rw [upd_same, List.map_take]⟩
end
end TK

namespace TK
open PySem PySem.Spec PyProof.Rows L2
def ownG (cs : List Bd) (rt : List Int) (sill : Int) (xs : List Int) (j : Nat) : Int := if j < (ladP cs sill rt.length).length then gain rt xs ((rankS cs).getD j 0) j else 0
def HoldsP (cs : List Bd) (rt : List Int) (sill : Int) (xs : List Int) : Prop := (∀ j, j < cs.length → ∀ m, m < rt.length → gain rt xs ((rankS cs).getD j 0) m ≤ ownG cs rt sill xs j) ∧ ∀ m, m < rt.length → rt.getD m 0 * sill ≤ xs.getD m 0
theorem least {cs : List Bd} {rt : List Int} {sill : Int} {xs : List Int} (kr : RatesOk rt) (hl : xs.length = rt.length) (hp : HoldsP cs rt sill xs) : ∀ d k, k + d = rt.length → rsF cs sill rt k ≤ xs.getD k 0
  | 0, k, h => by
    have e : k = rt.length := by omega
    rw [e, rs_end, List.getD_eq_getElem?_getD, List.getElem?_eq_none (by omega)]
    exact Int.le_refl 0
  | d + 1, k, h => by
    have hk : k < rt.length := by omega
    have ih := least kr hl hp d (k + 1) (by omega)
    have sl := rankS_len cs
    have dn := rankS_dn cs
    have f2 := hp.2 k hk
    by_cases hA : k + 1 < cs.length ∧ sill < (rankS cs).getD (k + 1) 0
    · obtain ⟨a1, a2⟩ := hA
      have hr := rs_rec cs sill (rt := rt) (i := k) hk
      have eb : behF cs sill (k + 1) = (rankS cs).getD (k + 1) 0 := by
        unfold behF
        rw [if_pos a1, Int.max_eq_right (by omega)]
      rw [eb] at hr
      have f1 := hp.1 (k + 1) a1 k hk
      unfold ownG at f1
      rw [hr, Int.mul_sub]
      have hL0 : k + 1 < rt.length → k + 1 < (ladP cs sill rt.length).length := fun hh => Nat.lt_of_not_le fun z => by
        have := lad_out z hh a1
        omega
      generalize (rankS cs).getD (k + 1) 0 = S at *
      by_cases hh : k + 1 < rt.length
      · have hL := hL0 hh
        rw [if_pos hL] at f1
        unfold gain at f1
        have e1 := Int.mul_comm (rt.getD k 0) S
        have e2 := Int.mul_comm (rt.getD (k + 1) 0) S
        omega
      · have hL : ¬ k + 1 < (ladP cs sill rt.length).length := by
          have := (ladP_le cs sill rt.length).1
          omega
        rw [if_neg hL] at f1
        unfold gain at f1
        have e0 : k + 1 = rt.length := by omega
        have z1 : rsF cs sill rt (k + 1) = 0 := by rw [e0, rs_end]
        have z2 : rt.getD (k + 1) 0 = 0 := by rw [List.getD_eq_getElem?_getD, List.getElem?_eq_none (by omega)]; rfl
        rw [z1, z2, Int.mul_zero]
        have e1 := Int.mul_comm (rt.getD k 0) S
        omega
    · have := gain_ge (v := rivF (rankS cs) sill) (x := sill) kr (i := k) (d := d + 1) (by omega) fun q h1 h2 => riv_le (Int.le_refl _) fun p hp2 hpl => by
        have g := dn_get dn (i := k + 1) (j := p) (by omega) hpl
        by_cases hn : k + 1 < cs.length
        · have : ¬ sill < (rankS cs).getD (k + 1) 0 := fun z => hA ⟨hn, z⟩
          omega
        · omega
      rw [h, gain_end] at this
      unfold gain at this
      unfold rsF
      omega
/-- the rows so far -/
def RowsI (H0 : Hp) (n : Nat) (l : Addr) (m : Nat) (H : Hp) : Prop := Same H0 H ∧ ∃ us : List Addr, H l = some (.lst (us.map V.ref)) ∧ us.length ≤ m ∧ ∀ u ∈ us, u ≠ l ∧ RowI H n u
section
variable {P : Program} {w : World} {K : PySem.W.Frag} {mg : Str → Option Value} {base : Heap}
/-! _law_near -/
def spNear (K : PySem.W.Frag) : Sp := fun vs H Q _ => ∃ (a : Addr) (xs : List Int), vs = [.ref a] ∧ SqS K H a (xs.map V.int) ∧ xs.length ≤ 3 ∧ ∀ (H' : Hp) (l : Addr) (us : List Addr), Same H H' → H' l = some (.lst (us.map V.ref)) → us.length ≤ 6 → (∀ u ∈ us, RowI H' xs.length u) → Q (.ref l) H'
theorem ok_L_near {f : Addr} {fd : FuncData} (F : Fun K "_law_near" "_law_near" s_L_near f fd) (m_len : mg "len" = none) (m_range : mg "range" = none) (m_list : mg "list" = none) : FnOk P w K mg base CX0 1 f fd ["_law_rents"] (spNear K) := by
  refine F.ok sc_L_near (fun vs H Q E h => ?_) (fun cdv A outer s H vs Q E hr h => ?_)
  · obtain ⟨a, xs, rfl, _⟩ := h
    rfl
  · obtain ⟨a, xs, rfl, hS, h3, q⟩ := h
    have el : (xs.map V.int).length = xs.length := List.length_map ..
    refine ⟨_, (pss_cons (ps_set (i := 1) sc_L_near.nd rfl (.inl rfl) (pe_lst pa_nil))
  (pss_cons (ps_for PassesOwn.never rfl (pi_range1 (by rfl) m_range (pa_cons (pe_callB call_len_seq (by rfl) m_len (by decide +kernel) (pa_cons (pv 0) pa_nil)) pa_nil)) (pg_name (i := 2) sc_L_near.nd rfl (.inl rfl))
    (pss_one (ps_for PassesOwn.never rfl (pi_list (pe_lst (pa_cons (pe_un un_neg pe_int) (pa_cons pe_int pa_nil)))) (pg_name (i := 3) sc_L_near.nd rfl (.inl rfl))
    (pss_cons (ps_set (i := 4) sc_L_near.nd rfl (.inl rfl) (pe_callTy call_list_of (by rfl) m_list (by decide +kernel) (pa_cons (pv 0) pa_nil)))
  (pss_cons (ps_asg (pe_op op_add (pe_ix ix_list (pv 4) (pv 2) (fun _ _ => rfl)) (pv 3)) (pg_sub (pv 4) (pv 2) set_list))
  (pss_one (ps_expr (pe_bm PySem.F.plainAttrs_list PySem.F.slot_list_append PySem.F.type_list_append mt_append (pv 1) (pa_cons (pv 4) pa_nil)))))))))
  (pss_one (ps_ret (pv 1))))), ?_⟩
    refine ⟨Nat.zero_le _, fun l nl => ?_⟩
    have s1 := same_upd (o := .lst []) nl
    refine ⟨_, rfl, _, _, rfl, hS.same s1, _, rfl, by omega, by rw [el]; omega, for_range (fun j σ H2 => RowsI H xs.length l (2 * j) H2 ∧ ∃ y2 y3 y4 : Option V, σ = [some (.ref a), some (.ref l), y2, y3, y4])
      ⟨⟨s1, [], upd_same, Nat.le_refl _, fun u hu => nomatch hu⟩, _, _, _, rfl⟩ ?_ ?_⟩
    · rintro j σ H2 hj ⟨hR, y2, y3, y4, rfl⟩
      rw [el] at hj
      have hj2 : j < xs.length := by omega
      refine ⟨_, rfl, (by show 2 ≤ sizeLine; decide), fun q5 nq5 => ?_⟩
      have s5 := same_upd (o := .lst [V.int (-1), V.int 1]) nq5
      have q5l : q5 ≠ l := by
        obtain ⟨_, us, e, _⟩ := hR
        exact (ne_of_none e nq5).symm
      have hR5 : RowsI H xs.length l (2 * j + 0) (upd H2 q5 (.lst [V.int (-1), V.int 1])) := by
        obtain ⟨s0, us, e, hl, hu⟩ := hR
        exact ⟨s0.trans s5, us, s5 _ _ e, hl, fun u hx => ⟨(hu u hx).1, (hu u hx).2.same s5⟩⟩
      refine ⟨q5, rfl, ⟨_, lstAt upd_same⟩, for_list (K := K) (a := q5) (xs := [V.int (-1), V.int 1]) (fun i σ H3 => RowsI H xs.length l (2 * j + i) H3 ∧ H3 q5 = some (.lst [V.int (-1), V.int 1]) ∧ ∃ y3 y4 : Option V, σ = [some (.ref a), some (.ref l), some (.int (0 + (j : Int))), y3, y4])
        ⟨hR5, upd_same, _, _, rfl⟩ (fun i σ H3 _ hp => lstAt hp.2.1) ?_ ?_⟩
      · rintro i x σ H3 hx ⟨⟨s0, us, e, hl, hu⟩, eq5, y3, y4, rfl⟩
        obtain ⟨z, rfl⟩ : ∃ z, x = V.int z := by
          match i, hx with
          | 0, hx => cases hx; exact ⟨_, rfl⟩
          | 1, hx => cases hx; exact ⟨_, rfl⟩
        have hi2 : i < 2 := (List.getElem?_eq_some_iff.mp hx).1
        refine ⟨_, rfl, _, _, rfl, hS.same s0, fun p np => ?_⟩
        have sp : ∀ o, Same H3 (upd H3 p o) := fun o => same_upd np
        refine ⟨_, rfl, _, rfl, _, _, _, _, rfl, rfl, lstAt upd_same, at_rates hj2 (by omega), _, rfl, _, _, rfl, rfl, _, rfl, _, rfl, p, _, _, j, rfl, rfl, upd_same, ixN_at (by rw [el]; exact hj2) (by omega), ?_⟩
        rw [set_ints, upd_twice]
        have pl : p ≠ l := (ne_of_none e np).symm
        refine ⟨_, rfl, .inl ⟨rfl, _, lstAt (sp _ _ _ e)⟩, _, rfl, l, _, _, rfl, rfl, sp _ _ _ e, by rw [List.length_map]; exact small1000 (by omega), ⟨same_at (s0.trans (sp _)) nl, us ++ [p], by rw [upd_same, List.map_append]; rfl, by rw [List.length_append]; exact Nat.succ_le_succ hl, fun u hx => ?_⟩, by rw [upd_ne q5l]; exact sp _ _ _ eq5, _, _, rfl⟩
        rcases List.mem_append.mp hx with hz | hz
        · obtain ⟨u1, ys, e1, e2⟩ := hu u hz
          exact ⟨u1, ys, e1, by rw [upd_ne u1]; exact sp _ _ _ e2⟩
        · rw [List.mem_singleton.mp hz]
          exact ⟨pl, xs.set j (xs.getD j 0 + z), by rw [List.length_set], by rw [upd_ne pl]; exact upd_same⟩
      · rintro σ H3 ⟨hR6, eq5, y3, y4, rfl⟩
        exact ⟨hR6, _, _, _, rfl⟩
    · rintro σ H2 ⟨⟨s0, us, e, hl, hu⟩, y2, y3, y4, rfl⟩
      rw [el] at hl
      exact ⟨_, rfl, q _ l us s0 e (by omega) fun u hx => (hu u hx).2⟩
end
end TK

namespace TK
open PySem PySem.Spec PyProof.Rows L2
theorem inV_nm (x : List Nat) (xs : List (List Nat)) : inV (vN x) (xs.map vN) = decide (x ∈ xs) := by
  unfold inV
  by_cases h : x ∈ xs
  · rw [decide_eq_true h, List.any_eq_true]
    exact ⟨vN x, List.mem_map.mpr ⟨x, h, rfl⟩, by rw [eqv_nm]; exact decide_eq_true rfl⟩
  · rw [decide_eq_false h, List.any_eq_false]
    intro y hy z
    obtain ⟨c, hc, rfl⟩ := List.mem_map.mp hy
    rw [eqv_nm] at z
    have := of_decide_eq_true z
    subst this
    exact h hc
theorem names_flat (xs : List (List Nat)) : (xs.map vN).all flatV = true := by
  rw [List.all_eq_true]
  intro x hx
  obtain ⟨c, _, rfl⟩ := List.mem_map.mp hx
  rfl
theorem nm_get {cs : List Bd} {k : Nat} (h : k < cs.length) : (cs.map (·.1))[k]? = some (nmAt cs k) := by
  unfold nmAt
  rw [List.getD_eq_getElem?_getD, List.getElem?_eq_getElem (by rw [List.length_map]; exact h)]
  rfl
/-- the rank of the i-th bidder -/
theorem place {cs : List Bd} (nd : (cs.map (·.1)).Nodup) {i : Nat} {c : Bd} (h : cs[i]? = some c) (sill : Int) (n : Nat) :
    ∃ j, j < cs.length ∧ (rankS cs).getD j 0 = loadB c ∧ (idxOf cs)[j]? = some i ∧ (∀ m, (wantF cs sill n)[m]? = some c.1 → m = j) ∧ (j < (ladP cs sill n).length → (wantF cs sill n)[j]? = some c.1) ∧ (c.1 ∈ wantF cs sill n ↔ j < (ladP cs sill n).length) := by
  have hi := (List.getElem?_eq_some_iff.mp h).1
  have hc : (cs.map (·.1))[i]? = some c.1 := by rw [List.getElem?_map, h]; rfl
  obtain ⟨j, hj⟩ := List.getElem?_of_mem ((idx_perm cs).mem_iff.mpr (List.mem_range.mpr hi))
  have jl : j < cs.length := by have := (List.getElem?_eq_some_iff.mp hj).1; rw [idx_len] at this; exact this
  have ndi : (idxOf cs).Nodup := (idx_perm cs).nodup_iff.mpr List.nodup_range
  have el := ladP_take cs sill n
  have A : ∀ m, (wantF cs sill n)[m]? = some c.1 → m = j ∧ m < (ladP cs sill n).length := by
    intro m hm
    rw [ladP_want, List.getElem?_map] at hm
    cases e : (ladP cs sill n)[m]? with
    | none => rw [e] at hm; cases hm
    | some k =>
      rw [e] at hm
      have ek : nmAt cs k = c.1 := Option.some.inj hm
      have ml := (List.getElem?_eq_some_iff.mp e).1
      rw [el, List.getElem?_take, if_pos ml] at e
      have kl : k < cs.length := List.mem_range.mp ((idx_perm cs).mem_iff.mp (List.mem_of_getElem? e))
      have e1 := nm_get kl
      rw [ek] at e1
      have := nd_ix nd e1 hc
      subst this
      exact ⟨nd_ix ndi e hj, ml⟩
  have B : j < (ladP cs sill n).length → (wantF cs sill n)[j]? = some c.1 := by
    intro hl
    rw [ladP_want, List.getElem?_map, el, List.getElem?_take, if_pos hl, hj]
    show some (nmAt cs i) = _
    rw [← nm_get hi, hc]
  refine ⟨j, jl, ?_, hj, fun m hm => (A m hm).1, B, fun hm => ?_, fun hl => List.mem_of_getElem? (B hl)⟩
  · rw [rank_at jl, List.getD_eq_getElem?_getD (l := idxOf cs), hj]
    show (cs.map loadB).getD i 0 = _
    rw [List.getD_eq_getElem?_getD, List.getElem?_map, h]
    rfl
  · obtain ⟨m, hm⟩ := List.getElem?_of_mem hm
    obtain ⟨rfl, hl⟩ := A m hm
    exact hl
section
variable {P : Program} {w : World} {K : PySem.W.Frag} {mg : Str → Option Value} {base : Heap}
/-! _law_holds -/
def spHoldsG (K : PySem.W.Frag) : Sp := fun vs H Q _ => ∃ (a b c : Addr) (ts : List Addr) (cs : List Bd) (rt : List Int) (sill : Int) (xs : List Int), vs = [.ref a, .ref b, .ref c, .int sill] ∧ H a = some (.lst (xs.map V.int)) ∧ xs.length = rt.length ∧ H b = some (.lst (ts.map V.ref)) ∧ CrewAt H ts cs ∧ CrewOk cs ∧
  H c = some (.lst (rt.map V.int)) ∧ RatesOk rt ∧ ∀ (v : Bool) (H' : Hp), Same H H' → (v = true → HoldsP cs rt sill xs) → Q (.bl v) H'
theorem ok_L_holds {f : Addr} {fd : FuncData} (F : Fun K "_law_holds" "_law_holds" s_L_holds f fd) (m_len : mg "len" = none) (m_range : mg "range" = none)
    (d_L_ladder : Def P w K mg base "_law_ladder" 1 ["_law_crew", "_law_slots", "_law_sill_here"] (spLadderW K)) :
    FnOk P w K mg base CX0 2 f fd ["_law_rents", "_law_crew", "_law_scale_here", "_law_sill_here"] (spHoldsG K) := by
  refine F.ok sc_L_holds (fun vs H Q E h => ?_) (fun cdv A outer s H vs Q E hr h => ?_)
  · obtain ⟨a, b, c, ts, cs, rt, sill, xs, rfl, _⟩ := h
    rfl
  · obtain ⟨a, b, c, ts, cs, rt, sill, xs, rfl, ea, hxl, eb, ca, ck, ec, kr, q⟩ := h
    obtain ⟨f1, f3⟩ := kr.few
    have h6 := ck.few
    have el : (rt.map V.int).length = rt.length := List.length_map ..
    have ew : (wantF cs sill rt.length).length = (ladP cs sill rt.length).length := by rw [ladP_want, List.length_map]
    refine ⟨_, (pss_cons (ps_set (i := 4) sc_L_holds.nd rfl (.inl rfl) (pe_callD d_L_ladder (hr.mono (by decide)) (by rfl) (pa_cons (pv 1) (pa_cons (pe_callB call_len_seq (by rfl) m_len (by decide +kernel) (pa_cons (pv 2) pa_nil)) (pa_cons (pv 3) pa_nil)))))
  (pss_cons (ps_for PassesOwn.never rfl (pi_list (pv 1)) (pg_tup (by rfl) (pgs_cons (pg_name (i := 5) sc_L_holds.nd rfl (.inl rfl)) (pgs_cons (pg_name (i := 6) sc_L_holds.nd rfl (.inl rfl)) (pgs_cons (pg_name (i := 7) sc_L_holds.nd rfl (.inl rfl)) pgs_nil))))
    (pss_cons (ps_set (i := 8) sc_L_holds.nd rfl (.inl rfl) pe_int)
  (pss_cons (ps_cut (ps_if (pt_cmpR op_in_seq (pv 5) (pv 4) (by rfl)) (pss_cons (ps_set (i := 9) sc_L_holds.nd rfl (.inl rfl) (pe_bmF PySem.F.plainAttrs_tuple PySem.F.slot_tuple_index PySem.F.type_tuple_index L2.mt_tup_index (pv 4) (pa_cons (pv 5) pa_nil)))
  (pss_one (ps_set (i := 8) sc_L_holds.nd rfl (.inl rfl) (pe_op op_sub (pe_op op_mul (pe_op op_mul (pe_ix ix_list (pv 2) (pv 9) (fun _ _ => rfl)) (pv 6)) (pv 7)) (pe_ix ix_list (pv 0) (pv 9) (fun _ _ => rfl)))))) pss_nil))
  (pss_cons (ps_if (pt_cmpR op_lt (pv 8) pe_int (nomark _)) (pss_one (ps_ret pe_bl)) pss_nil)
  (pss_one (ps_for PassesOwn.never rfl (pi_range1 (by rfl) m_range (pa_cons (pe_callB call_len_seq (by rfl) m_len (by decide +kernel) (pa_cons (pv 2) pa_nil)) pa_nil)) (pg_name (i := 10) sc_L_holds.nd rfl (.inl rfl))
    (pss_one (ps_if (pt_cmpR op_gt (pe_op op_sub (pe_op op_mul (pe_op op_mul (pe_ix ix_list (pv 2) (pv 10) (fun _ _ => rfl)) (pv 6)) (pv 7)) (pe_ix ix_list (pv 0) (pv 10) (fun _ _ => rfl))) (pv 8) (nomark _)) (pss_one (ps_ret pe_bl)) pss_nil))))))))
  (pss_cons (ps_for PassesOwn.never rfl (pi_range1 (by rfl) m_range (pa_cons (pe_callB call_len_seq (by rfl) m_len (by decide +kernel) (pa_cons (pv 2) pa_nil)) pa_nil)) (pg_name (i := 10) sc_L_holds.nd rfl (.inl rfl))
    (pss_one (ps_if (PW.pt (pw_or (pt_cmpR op_lt (pe_ix ix_list (pv 0) (pv 10) (fun _ _ => rfl)) (pe_op op_mul (pe_ix ix_list (pv 2) (pv 10) (fun _ _ => rfl)) (pv 3)) (nomark _)) (pw_or1 (PW.pt (pw_and (pt_cmpR op_ge (pv 10) (pe_callB call_len_seq (by rfl) m_len (by decide +kernel) (pa_cons (pv 4) pa_nil)) (nomark _)) (pw_and1 (pt_cmpR op_gt (pe_ix ix_list (pv 0) (pv 10) (fun _ _ => rfl)) (pe_op op_mul (pe_ix ix_list (pv 2) (pv 10) (fun _ _ => rfl)) (pv 3)) (nomark _)))))))) (pss_one (ps_ret pe_bl)) pss_nil)))
  (pss_one (ps_ret pe_bl))))), ?_⟩
    refine ⟨_, rfl, _, rfl, _, _, rfl, .inl (lstAt ec), _, rfl, b, ts, cs, (rt.map V.int).length, sill, rfl, eb, ca, ck.w, by omega, fun H1 t o s1 et oc od => ?_⟩
    rw [el] at et
    have ea1 := s1 _ _ ea
    have eb1 := s1 _ _ eb
    have ec1 := s1 _ _ ec
    have ca1 := ca.same s1
    have etT : SqT K H1 t ((wantF cs sill rt.length).map vN) := tupFrz et
    have no : Q (.bl false) H1 := q false H1 s1 fun z => nomatch z
    refine ⟨_, rfl, b, rfl, ⟨_, lstAt eb1⟩, for_list (K := K) (a := b) (xs := ts.map V.ref) (fun i σ H2 => H2 = H1 ∧ (∀ i', i' < i → ∀ j, (idxOf cs)[j]? = some i' → ∀ m, m < rt.length → gain rt xs ((rankS cs).getD j 0) m ≤ ownG cs rt sill xs j) ∧ ∃ y5 y6 y7 y8 y9 y10 : Option V, σ = [some (.ref a), some (.ref b), some (.ref c), some (.int sill), some (.ref t), y5, y6, y7, y8, y9, y10])
      ⟨rfl, fun i' hi' => absurd hi' (Nat.not_lt_zero i'), _, _, _, _, _, _, rfl⟩ (fun i σ H2 _ hp => by rw [hp.1]; exact lstAt eb1) ?_ ?_⟩
    · rintro i x σ H2 hx ⟨rfl, hF, y5, y6, y7, y8, y9, y10, rfl⟩
      obtain ⟨u, d, rfl, _, ed, eu⟩ := crew_at ca1 hx
      have ob := ck.ok d (List.mem_of_getElem? ed)
      obtain ⟨_, w1, w2, b1, b2⟩ := ob
      obtain ⟨j, jl, jr, jx, jm, jn, ji⟩ := place ck.nd ed sill rt.length
      have ndi : (idxOf cs).Nodup := (idx_perm cs).nodup_iff.mpr List.nodup_range
      have eg : ∀ m, rt.getD m 0 * d.2.1 * d.2.2 - xs.getD m 0 = gain rt xs ((rankS cs).getD j 0) m := fun m => by
        rw [jr]
        unfold gain loadB
        rw [Int.mul_assoc]
      have hle := (ladP_le cs sill rt.length).1
      refine ⟨u, _, rfl, tupAt eu, rfl, _, _, rfl, _, _, rfl, _, _, rfl, rfl, ?_⟩
      refine ⟨fun σ H' => H' = H2 ∧ ∃ y9 : Option V, σ = [some (.ref a), some (.ref b), some (.ref c), some (.int sill), some (.ref t), some (vN d.1), some (.int d.2.1), some (.int d.2.2), some (.int (ownG cs rt sill xs j)), y9, y10], ?_, ?_⟩
      · refine ⟨_, rfl, _, rfl, t, (wantF cs sill rt.length).map vN, rfl, .inr etT, rfl, names_flat _, _, rfl, ?_⟩
        rw [if_neg (by decide), inV_nm]
        refine ite2 (fun e => ?_) (fun e => ?_)
        · have jL := ji.mp (of_decide_eq_true e)
          have jr2 : j < rt.length := by omega
          have r0 := rates_nonneg kr j
          refine ⟨_, rfl, ⟨t, o, _, rfl, et, oc, od⟩, _, rfl, t, (wantF cs sill rt.length).map sOf, sOf d.1, j, rfl, rfl, by rw [List.map_map]; exact etT, by rw [List.getElem?_map, jn jL]; rfl, fun m hm hz => ?_, ?_⟩
          · rw [List.getElem?_map] at hz
            cases e2 : (wantF cs sill rt.length)[m]? with
            | none => rw [e2] at hz; cases hz
            | some z =>
              rw [e2] at hz
              have : z = d.1 := sOf_inj (Option.some.inj hz)
              subst this
              have := jm m e2
              omega
          refine ⟨_, rfl, _, rfl, _, _, _, _, rfl, rfl, lstAt ec1, at_rates jr2 rfl, ?_⟩
          refine ⟨_, rfl, _, _, rfl, rfl, .inl ⟨by omega, by omega⟩, ?_⟩
          refine ⟨_, rfl, _, _, rfl, rfl, .inr ⟨by omega, by omega⟩, ?_⟩
          refine ⟨_, rfl, _, rfl, _, _, _, _, rfl, rfl, lstAt ea1, at_rates (by omega) rfl, ?_⟩
          refine ⟨_, _, rfl, rfl, rfl, some (.int ((j : Nat) : Int)), ?_⟩
          have eo : ownG cs rt sill xs j = rt.getD j 0 * d.2.1 * d.2.2 - xs.getD j 0 := by
            unfold ownG
            rw [if_pos jL, eg j]
          rw [eo]
          rfl
        · have jL : ¬ j < (ladP cs sill rt.length).length := fun z => e (decide_eq_true (ji.mpr z))
          refine ⟨rfl, y9, ?_⟩
          unfold ownG
          rw [if_neg jL]
          rfl
      rintro σ H3 ⟨rfl, y9, rfl⟩
      refine ⟨_, rfl, _, _, rfl, rfl, _, rfl, ite2 (fun _ => no) (fun _ => ?_)⟩
      refine ⟨_, rfl, _, _, rfl, .inl (lstAt ec1), _, rfl, by omega, by rw [el]; omega, for_range (fun k σ H4 => H4 = H3 ∧ (∀ m, m < k → gain rt xs ((rankS cs).getD j 0) m ≤ ownG cs rt sill xs j) ∧ ∃ y10 : Option V, σ = [some (.ref a), some (.ref b), some (.ref c), some (.int sill), some (.ref t), some (vN d.1), some (.int d.2.1), some (.int d.2.2), some (.int (ownG cs rt sill xs j)), y9, y10])
        ⟨rfl, fun m hm => absurd hm (Nat.not_lt_zero m), _, rfl⟩ ?_ ?_⟩
      · rintro k σ H4 hk ⟨rfl, hG, y10, rfl⟩
        rw [el] at hk
        have hk2 : k < rt.length := by omega
        have r0 := rates_nonneg kr k
        refine ⟨_, rfl, _, rfl, _, _, _, _, rfl, rfl, lstAt ec1, at_rates hk2 (by omega), ?_⟩
        refine ⟨_, rfl, _, _, rfl, rfl, .inl ⟨by omega, by omega⟩, ?_⟩
        refine ⟨_, rfl, _, _, rfl, rfl, .inr ⟨by omega, by omega⟩, ?_⟩
        refine ⟨_, rfl, _, rfl, _, _, _, _, rfl, rfl, lstAt ea1, at_rates (k := k) (by omega) (by omega), ?_⟩
        refine ⟨_, _, rfl, rfl, ?_⟩
        refine ⟨_, rfl, _, _, rfl, rfl, _, rfl, ite2 (fun _ => no) (fun e => ⟨rfl, fun m hm => ?_, _, rfl⟩)⟩
        have e1 : ¬ (ownG cs rt sill xs j < rt.getD k 0 * d.2.1 * d.2.2 - xs.getD k 0) := fun z => e (decide_eq_true z)
        rw [eg k] at e1
        by_cases hmk : m = k
        · rw [hmk]; omega
        · exact hG m (by omega)
      · rintro σ H4 ⟨rfl, hG, y10, rfl⟩
        rw [el, Int.toNat_natCast] at hG
        refine ⟨rfl, fun i' hi' j' hj' m hm => ?_, _, _, _, _, _, _, rfl⟩
        by_cases hii : i' = i
        · subst hii
          have := nd_ix ndi hj' jx
          subst this
          exact hG m hm
        · exact hF i' (by omega) j' hj' m hm
    · rintro σ H2 ⟨rfl, hF, y5, y6, y7, y8, y9, y10, rfl⟩
      rw [List.length_map, ca.1] at hF
      refine ⟨_, rfl, _, _, rfl, .inl (lstAt ec1), _, rfl, by omega, by rw [el]; omega, for_range (fun k σ H4 => H4 = H2 ∧ (∀ m, m < k → rt.getD m 0 * sill ≤ xs.getD m 0) ∧ ∃ y10 : Option V, σ = [some (.ref a), some (.ref b), some (.ref c), some (.int sill), some (.ref t), y5, y6, y7, y8, y9, y10])
        ⟨rfl, fun m hm => absurd hm (Nat.not_lt_zero m), _, rfl⟩ ?_ ?_⟩
      · rintro k σ H4 hk ⟨rfl, hG, y10, rfl⟩
        rw [el] at hk
        have hk2 : k < rt.length := by omega
        have r0 := rates_nonneg kr k
        refine ⟨_, rfl, _, rfl, _, _, _, _, rfl, rfl, lstAt ea1, at_rates (k := k) (by omega) (by omega), ?_⟩
        refine ⟨_, rfl, _, rfl, _, _, _, _, rfl, rfl, lstAt ec1, at_rates hk2 (by omega), ?_⟩
        refine ⟨_, rfl, _, _, rfl, rfl, .inl ⟨by omega, by omega⟩, ?_⟩
        refine ⟨_, _, rfl, rfl, _, rfl, ite2 (fun _ => no) (fun e => ?_)⟩
        have e1 : ¬ (xs.getD k 0 < rt.getD k 0 * sill) := fun z => e (decide_eq_true z)
        have hG2 : ∀ m, m < k + 1 → rt.getD m 0 * sill ≤ xs.getD m 0 := fun m hm => by
          by_cases hmk : m = k
          · rw [hmk]; omega
          · exact hG m (by omega)
        refine ⟨_, rfl, _, rfl, _, _, rfl, .inr etT, _, _, rfl, rfl, _, rfl, ite2 (fun _ => ?_) (fun _ => iteF ⟨rfl, hG2, _, rfl⟩)⟩
        refine ⟨_, rfl, _, rfl, _, _, _, _, rfl, rfl, lstAt ea1, at_rates (k := k) (by omega) (by omega), ?_⟩
        refine ⟨_, rfl, _, rfl, _, _, _, _, rfl, rfl, lstAt ec1, at_rates hk2 (by omega), ?_⟩
        refine ⟨_, rfl, _, _, rfl, rfl, .inl ⟨by omega, by omega⟩, ?_⟩
        exact ⟨_, _, rfl, rfl, _, rfl, ite2 (fun _ => no) (fun _ => ⟨rfl, hG2, _, rfl⟩)⟩
      · rintro σ H4 ⟨rfl, hG, y10, rfl⟩
        rw [el, Int.toNat_natCast] at hG
        refine q true _ s1 fun _ => ⟨fun j hj m hm => ?_, hG⟩
        have hl : j < (idxOf cs).length := by rw [idx_len]; exact hj
        have e := List.getElem?_eq_getElem hl
        exact hF _ (List.mem_range.mp ((idx_perm cs).mem_iff.mp (List.getElem_mem hl))) j e m hm
/-! _law_none_less -/
def spNone (K : PySem.W.Frag) : Sp := fun vs H Q _ => ∃ (a b p c : Addr) (us ts : List Addr) (cs : List Bd) (rt : List Int) (sill : Int), vs = [.ref a, .ref b, .ref p, .ref c, .int sill] ∧ H a = some (.tup ((rentsFrom (rivF (rankS cs) sill) 0 rt).map V.int)) ∧ H b = some (.lst (us.map V.ref)) ∧ (∀ u ∈ us, RowI H rt.length u) ∧ H p = some (.lst (ts.map V.ref)) ∧ CrewAt H ts cs ∧ CrewOk cs ∧
  H c = some (.lst (rt.map V.int)) ∧ RatesOk rt ∧ ∀ H', Same H H' → Q (.bl true) H'
theorem ok_L_none_less {f : Addr} {fd : FuncData} (F : Fun K "_law_none_less" "_law_none_less" s_L_none_less f fd) (m_len : mg "len" = none) (m_range : mg "range" = none)
    (d_L_holds : Def P w K mg base "_law_holds" 2 ["_law_rents", "_law_crew", "_law_scale_here", "_law_sill_here"] (spHoldsG K)) :
    FnOk P w K mg base CX0 3 f fd ["_law_rents", "_law_rows", "_law_crew", "_law_scale_here", "_law_sill_here"] (spNone K) := by
  refine F.ok sc_L_none_less (fun vs H Q E h => ?_) (fun cdv A outer s H vs Q E hr h => ?_)
  · obtain ⟨a, b, p, c, us, ts, cs, rt, sill, rfl, _⟩ := h
    rfl
  · obtain ⟨a, b, p, c, us, ts, cs, rt, sill, rfl, ea, eb, hu, ep, ca, ck, ec, kr, q⟩ := h
    obtain ⟨f1, f3⟩ := kr.few
    have rl := rents_len (rivF (rankS cs) sill) rt 0
    have el : (rt.map V.int).length = rt.length := List.length_map ..
    refine ⟨_, (pss_cons (ps_for PassesOwn.never rfl (pi_list (pv 1)) (pg_name (i := 5) sc_L_none_less.nd rfl (.inr rfl))
    (pss_one (ps_if (pt_val (pe_callD d_L_holds (hr.mono (by decide)) (by rfl) (pa_cons (pv 5) (pa_cons (pv 2) (pa_cons (pv 3) (pa_cons (pv 4) pa_nil)))))) (pss_one (ps_if (pt_cmpR (op_neD hr.units) (pe_lc (own := [("_law_k", 6)]) (by rfl) sc_L_none_less.nd (pi_range1 (by rfl) m_range (pa_cons (pe_callB call_len_seq (by rfl) m_len (by decide +kernel) (pa_cons (pv 3) pa_nil)) pa_nil)) (blkOk_by (N := ["_law_rents", "_law_rows", "_law_crew", "_law_scale_here", "_law_sill_here", "_law_row", "_law_k"]) (sc := defScope s_L_none_less) (by decide +kernel)) (fun _ _ _ _ _ => (pg_name (i := 6) sc_L_none_less.nd rfl (.inl rfl))) (fun _ _ _ _ _ => (pts_one (pt_cmpR op_lt (pe_ix (ix_listK (K := K) rfl) (pv 5) (pv 6) (fun _ _ => rfl)) (pe_ix (ix_tupK (K := K) rfl) (pv 0) (pv 6) (fun _ _ => rfl)) (nomark _)))) (fun _ _ _ _ _ => (pv 6))) (pe_lst pa_nil) (nomark _)) (pss_one (ps_ret pe_bl)) pss_nil)) pss_nil)))
  (pss_one (ps_ret pe_bl))), ?_⟩
    refine ⟨_, rfl, b, rfl, ⟨_, lstAt eb⟩, for_list (K := K) (a := b) (xs := us.map V.ref) (fun i σ H2 => Same H H2 ∧ ∃ y5 : Option V, σ = [some (.ref a), some (.ref b), some (.ref p), some (.ref c), some (.int sill), y5, none])
      ⟨Same.refl H, _, rfl⟩ (fun i σ H2 _ hp => lstAt (hp.1 _ _ eb)) ?_ ?_⟩
    · rintro i x σ H2 hx ⟨sm, y5, rfl⟩
      have hil : i < us.length := by have := (List.getElem?_eq_some_iff.mp hx).1; rw [List.length_map] at this; exact this
      have exu : x = .ref us[i] := by
        rw [List.getElem?_map, List.getElem?_eq_getElem hil] at hx
        exact (Option.some.inj hx).symm
      subst exu
      obtain ⟨xs, hxl, exs⟩ := hu us[i] (List.getElem_mem hil)
      refine ⟨_, rfl, _, rfl, _, rfl, _, rfl, us[i], p, c, ts, cs, rt, sill, xs, rfl, sm _ _ exs, hxl, sm _ _ ep, ca.same sm, ck, sm _ _ ec, kr, fun v H3 s3 hv => ?_⟩
      have s03 := sm.trans s3
      cases v with
      | false => exact ⟨_, rfl, iteF ⟨s03, _, rfl⟩⟩
      | true =>
        have hle := fun k (hk : k < rt.length) => least kr hxl (hv rfl) (rt.length - k) k (by omega)
        refine ⟨_, rfl, iteT ?_⟩
        refine ⟨_, rfl, _, _, rfl, .inl (lstAt (s03 _ _ ec)), _, rfl, by omega, by rw [el]; omega, fun D nD => ?_⟩
        refine lc_range (fun i H' => H' = upd H3 D (.lst [])) rfl (fun k H' hk hq => ?_) (fun H' hq => ?_)
        · subst hq
          rw [el] at hk
          have hk2 : k < rt.length := by omega
          have sD := same_upd (o := .lst []) nD
          refine ⟨rfl, _, rfl, _, rfl, _, _, _, _, rfl, rfl, lstAt (sD _ _ (s03 _ _ exs)), at_rates (k := k) (by omega) (by omega), _, rfl, _, rfl, _, _, _, _, rfl, rfl, tupAt (sD _ _ (s03 _ _ ea)), at_rates (k := k) (by omega) (by omega), _, _, rfl, rfl, _, rfl, ?_⟩
          have := hle k hk2
          unfold rsF at this
          rw [decide_eq_false (by omega)]
          exact iteF rfl
        subst hq
        have sD := same_upd (o := .lst []) nD
        refine ⟨Nat.zero_le _, fun p2 np2 => ?_⟩
        have s2 := same_upd (o := .lst []) np2
        exact ⟨.list [], .list [], .lst (lstAt (s2 _ _ upd_same)) .nil, .lst (lstAt upd_same) .nil, rfl, rfl, _, rfl, iteF ⟨(s03.trans sD).trans s2, _, rfl⟩⟩
    · rintro σ H2 ⟨sm, y5, rfl⟩
      exact q _ sm
end
end TK

namespace TK
open PySem PySem.Spec PyProof.Rows L2
theorem eq_ints {H : Hp} {t u : Addr} {xs : List Int} (h1 : H t = some (.tup (xs.map V.int))) (h2 : H u = some (.tup (xs.map V.int))) (hl : xs.length ≤ 1000) : Eq2 H 2 (.ref t) (.ref u) := by
  refine .inr ⟨t, u, _, _, rfl, rfl, .inr ⟨h1, h2⟩, rfl, by rw [List.length_map]; omega, fun i x y hx hy => .inl ⟨?_, ?_⟩⟩
  · rw [hx] at hy
    exact Option.some.inj hy
  · rw [List.getElem?_map] at hx
    cases e : xs[i]? with
    | none => rw [e] at hx; cases hx
    | some z => rw [e] at hx; cases hx; rfl
section
variable {P : Program} {w : World} {K : PySem.W.Frag} {mg : Str → Option Value} {base : Heap}
def spLaw (K : PySem.W.Frag) : Sp := fun vs H Q _ => ∃ (a : Addr) (ns : List Int), vs = [.ref a] ∧ SqL K H a (ns.map V.int) ∧ ns.length ≤ 63 ∧ ∀ H', Q (.bl true) H'
theorem ok_law {C f fR : Addr} {fd fdR : FuncData} (F : Fun K "law" "law" s_law f fd) (T : TxtA K C) (m_list : mg "list" = none) (m_tuple : mg "tuple" = none) (m_len : mg "len" = none) (m_range : mg "range" = none)
    (G_dearest : FnOk P w K mg base CX0 7 fR fdR ["bidders", "rates", "floor"] (spDear K C)) (g_dearest : mg "dearest" = some (.ref fR)) (k_dearest : PySem.W.keepIn K (.ref fR) = true)
    {g1 g2 : List Value → List Value → List Value}
    (kb_dearest_floor : KBn K fdR ["bidders", "rates", "floor"] 2 ["floor"] g1 (fun vs zs => vs ++ zs)) (kb_dearest_none : KBn K fdR ["bidders", "rates", "floor"] 2 [] g2 (fun vs _ => vs ++ [.int 0]))
    (d_L_cell : Def P w K mg base "_law_cell" 1 ["_law_script", "_law_k"] (spCellA K)) (d_L_pool : Def P w K mg base "_law_pool" 2 ["_law_cell_here", "_law_number"] spPool)
    (d_L_part : Def P w K mg base "_law_part" 1 ["_law_pool_here", "_law_spot", "_law_under", "_law_size"] (spPart K)) (d_L_bidders : Def P w K mg base "_law_bidders" 3 ["_law_pool_here", "_law_spot", "_law_number"] (spBidders K))
    (d_L_scale : Def P w K mg base "_law_scale" 3 ["_law_pool_here", "_law_spot", "_law_number"] (spScale K))
    (d_L_sill : Def P w K mg base "_law_sill" 2 ["_law_pool_here", "_law_spot", "_law_crew"] (spSill K))
    (d_L_least_rents : Def P w K mg base "_law_least_rents" 2 ["_law_crew", "_law_scale_here", "_law_sill_here"] (spLeast K))
    (d_L_others : Def P w K mg base "_law_others" 3 ["_law_pool_here", "_law_crew", "_law_scale_here", "_law_sill_here"] (spOthers K))
    (d_L_near : Def P w K mg base "_law_near" 1 ["_law_rents"] (spNear K))
    (d_L_none_less : Def P w K mg base "_law_none_less" 3 ["_law_rents", "_law_rows", "_law_crew", "_law_scale_here", "_law_sill_here"] (spNone K))
    (d_L_same : Def P w K mg base "_law_same" 4 ["_law_got", "_law_wanted"] (spSame 2)) : FnOk P w K mg base CX0 8 f fd ["_law_script"] (spLaw K) := by
  refine F.ok sc_law (fun vs H Q E h => ?_) (fun cdv A outer s H vs Q E hr h => ?_)
  · obtain ⟨a, ns, rfl, _⟩ := h
    rfl
  · obtain ⟨a, ns, rfl, hS, hlen, q⟩ := h
    refine ⟨_, (pss_cons (ps_set (i := 1) sc_law.nd rfl (.inl rfl) (pe_callD d_L_pool (hr.mono (by decide)) (by rfl) (pa_cons (pe_callD d_L_cell (hr.mono (by decide)) (by rfl) (pa_cons (pv 0) (pa_cons pe_int pa_nil))) (pa_cons pe_int pa_nil))))
  (pss_cons (ps_set (i := 2) sc_law.nd rfl (.inl rfl) (pe_callD d_L_bidders (hr.mono (by decide)) (by rfl) (pa_cons (pe_callD d_L_pool (hr.mono (by decide)) (by rfl) (pa_cons (pe_callD d_L_cell (hr.mono (by decide)) (by rfl) (pa_cons (pv 0) (pa_cons pe_int pa_nil))) (pa_cons pe_int pa_nil))) (pa_cons pe_int (pa_cons (pe_callD d_L_part (hr.mono (by decide)) (by rfl) (pa_cons (pv 1) (pa_cons pe_int (pa_cons pe_int (pa_cons pe_int pa_nil))))) pa_nil)))))
  (pss_cons (ps_set (i := 3) sc_law.nd rfl (.inl rfl) (pe_callD d_L_scale (hr.mono (by decide)) (by rfl) (pa_cons (pv 1) (pa_cons pe_int (pa_cons (pe_op op_add pe_int (pe_callD d_L_part (hr.mono (by decide)) (by rfl) (pa_cons (pv 1) (pa_cons pe_int (pa_cons pe_int (pa_cons pe_int pa_nil)))))) pa_nil)))))
  (pss_cons (ps_set (i := 4) sc_law.nd rfl (.inl rfl) (pe_callD d_L_sill (hr.mono (by decide)) (by rfl) (pa_cons (pv 1) (pa_cons pe_int (pa_cons (pv 2) pa_nil)))))
  (pss_cons (ps_set (i := 5) sc_law.nd rfl (.inr rfl) (pe_callD d_L_least_rents (hr.mono (by decide)) (by rfl) (pa_cons (pv 2) (pa_cons (pv 3) (pa_cons (pv 4) pa_nil)))))
  (pss_cons (ps_cut (ps_set (i := 6) sc_law.nd rfl (.inl rfl) (pe_callN G_dearest (hr.mono (by decide)) (by rfl) g_dearest k_dearest kb_dearest_floor pass0 (pa_cons (pe_callTy call_list_of (by rfl) m_list (by decide +kernel) (pa_cons (pv 2) pa_nil)) (pa_cons (pe_callTy call_list_of (by rfl) m_list (by decide +kernel) (pa_cons (pv 3) pa_nil)) pa_nil)) (pk_cons (pv 4) pk_nil))))
  (pss_cons (ps_if (pt_not (pt_val (pe_callD d_L_same (hr.mono (by decide)) (by rfl) (pa_cons (pe_fld (pv 6) rfl) (pa_cons (pe_callTy call_tuple_of (by rfl) m_tuple (by decide +kernel) (pa_cons (pv 5) pa_nil)) pa_nil))))) (pss_one (ps_ret pe_bl)) pss_nil)
  (pss_cons (ps_set (i := 7) sc_law.nd rfl (.inr rfl) (pe_callD d_L_pool (hr.mono (by decide)) (by rfl) (pa_cons (pe_callD d_L_cell (hr.mono (by decide)) (by rfl) (pa_cons (pv 0) (pa_cons pe_int pa_nil))) (pa_cons pe_int pa_nil))))
  (pss_cons (ps_set (i := 8) sc_law.nd rfl (.inl rfl) (pe_callD d_L_others (hr.mono (by decide)) (by rfl) (pa_cons (pv 7) (pa_cons (pv 2) (pa_cons (pv 3) (pa_cons (pv 4) pa_nil))))))
  (pss_cons (ps_setLc (i := 9) (own := [("_law_k", 11)]) (by rfl) sc_law.nd rfl rfl (sw_true rfl rfl rfl (by decide +kernel)) (pi_range1 (by rfl) m_range (pa_cons (pe_callB call_len_seq (by rfl) m_len (by decide +kernel) (pa_cons (pv 3) pa_nil)) pa_nil)) (blkOk_by (N := ["_law_script", "_law_rest", "_law_crew", "_law_scale_here", "_law_sill_here", "_law_wanted", "_law_got", "_law_pool_here", "_law_others_here", "_law_free", "_law_rows", "_law_k"]) (sc := defScope s_law) (by decide +kernel)) (fun _ _ _ _ _ => (pg_name (i := 11) sc_law.nd rfl (.inl rfl))) (fun _ _ _ _ _ => pts_nil) (fun _ _ _ _ _ => (pe_op op_sub (pe_op op_add (pe_ix (ix_listK (K := K) rfl) (pv 5) (pv 11) (fun _ _ => rfl)) (pe_callD d_L_part (hr.mono (by decide)) (by rfl) (pa_cons (pv 7) (pa_cons (pe_op op_add pe_int (pv 11)) (pa_cons pe_int (pa_cons pe_int pa_nil)))))) pe_int)))
  (pss_cons (ps_cut (ps_set (i := 10) sc_law.nd rfl (.inl rfl) (pe_op op_cat (pe_op op_cat (pe_lst (pa_cons (pv 8) (pa_cons (pv 9) pa_nil))) (pe_callD d_L_near (hr.mono (by decide)) (by rfl) (pa_cons (pv 8) pa_nil))) (pe_callD d_L_near (hr.mono (by decide)) (by rfl) (pa_cons (pe_fld (pv 6) rfl) pa_nil)))))
  (pss_cons (ps_if (pt_not (pt_val (pe_callD d_L_none_less (hr.mono (by decide)) (by rfl) (pa_cons (pe_fld (pv 6) rfl) (pa_cons (pv 10) (pa_cons (pv 2) (pa_cons (pv 3) (pa_cons (pv 4) pa_nil)))))))) (pss_one (ps_ret pe_bl)) pss_nil)
  (pss_cons (ps_if (pt_not (pt_val (pe_callD d_L_same (hr.mono (by decide)) (by rfl) (pa_cons (pe_fld (pe_callN G_dearest (hr.mono (by decide)) (by rfl) g_dearest k_dearest kb_dearest_none pass0 (pa_cons (pe_callTy call_tuple_of (by rfl) m_tuple (by decide +kernel) (pa_cons (pv 2) pa_nil)) (pa_cons (pe_callTy call_tuple_of (by rfl) m_tuple (by decide +kernel) (pa_cons (pv 3) pa_nil)) pa_nil)) pk_nil) rfl) (pa_cons (pe_callTy call_tuple_of (by rfl) m_tuple (by decide +kernel) (pa_cons (pe_callD d_L_least_rents (hr.mono (by decide)) (by rfl) (pa_cons (pv 2) (pa_cons (pv 3) (pa_cons pe_int pa_nil)))) pa_nil)) pa_nil))))) (pss_one (ps_ret pe_bl)) pss_nil)
  (pss_one (ps_ret (pe_callD d_L_same (hr.mono (by decide)) (by rfl) (pa_cons (pe_fld (pe_callN G_dearest (hr.mono (by decide)) (by rfl) g_dearest k_dearest kb_dearest_floor pass0 (pa_cons (pe_callTy call_list_of (by rfl) m_list (by decide +kernel) (pa_cons (pv 2) pa_nil)) (pa_cons (pe_callTy call_list_of (by rfl) m_list (by decide +kernel) (pa_cons (pv 3) pa_nil)) pa_nil)) (pk_cons (pv 4) pk_nil)) rfl) (pa_cons (pe_callTy call_tuple_of (by rfl) m_tuple (by decide +kernel) (pa_cons (pv 5) pa_nil)) pa_nil)))))))))))))))))), ?_⟩
    -- the draws
    refine ⟨_, rfl, a, ns, 1, rfl, hS, by decide, by decide, by omega, fun c1 => ⟨c1, 12, rfl, by decide, by decide, fun p1 ns1 np1 l1 o1 => ?_⟩⟩
    have s1 : Same H (upd H p1 (.lst (ns1.map V.int))) := same_upd np1
    obtain ⟨H1, eH1⟩ : ∃ H1, H1 = upd H p1 (.lst (ns1.map V.int)) := ⟨_, rfl⟩
    have e11 : H1 p1 = some (.lst (ns1.map V.int)) := by rw [eH1]; exact upd_same
    rw [← eH1] at s1 ⊢
    have u0 := part_lo (ns := ns1) (s := 0) (u := 1) (z := 7) (by decide)
    have u7 := part_hi (ns := ns1) (s := 0) (u := 1) (z := 7) (by decide)
    have v0 := part_lo (ns := ns1) (s := 0) (u := 7) (z := 3) (by decide)
    have v3 := part_hi (ns := ns1) (s := 0) (u := 7) (z := 3) (by decide)
    obtain ⟨N, hN⟩ : ∃ N : Nat, 1 + partOf ns1 0 7 3 = (N : Int) := ⟨(1 + partOf ns1 0 7 3).toNat, by omega⟩
    refine ⟨_, rfl, a, ns, 0, rfl, s1.seq hS, by decide, by decide, by omega, fun c0 => ⟨c0, 35, rfl, by decide, by decide, fun p2 ns2 np2 l2 o2 => ?_⟩⟩
    have s2 := same_upd (o := .lst (ns2.map V.int)) np2
    refine ⟨_, rfl, p1, ns1, 0, 1, 7, rfl, lstAt (s2 _ _ e11), by decide, by omega, by decide, by decide, by decide, ?_⟩
    refine ⟨p2, ns2, 0, _, rfl, lstAt upd_same, by decide, by omega, u0, by omega, fun H3 p3 ts cs s3 np3 ep3 ca3 ck lc => ?_⟩
    have h6 := ck.few
    have e13 : H3 p1 = some (.lst (ns1.map V.int)) := s3 _ _ (s2 _ _ e11)
    refine ⟨_, rfl, _, rfl, p1, ns1, 0, 7, 3, rfl, lstAt e13, by decide, by omega, by decide, by decide, by decide, _, _, rfl, rfl, ?_⟩
    refine ⟨p1, ns1, 6, N, by rw [← hN]; rfl, lstAt e13, by decide, by omega, by omega, by omega, fun H4 c rt s4 npc epc kr lrt => ?_⟩
    refine ⟨_, rfl, _, rfl, p1, p3, ns1, 1, ts, cs, rfl, lstAt (s4 _ _ e13), by decide, by omega, s4 _ _ ep3, ca3.same s4, ck, fun H5 r s5 r0 r1 => ?_⟩
    have s45 := s4.trans s5
    have ep5 := s45 _ _ ep3
    have ec5 := s5 _ _ epc
    have ca5 := ca3.same s45
    obtain ⟨f1, f3⟩ := kr.few
    have el : (rt.map V.int).length = rt.length := List.length_map ..
    have rl := rents_len (rivF (rankS cs) r) rt 0
    have rl0 := rents_len (rivF (rankS cs) 0) rt 0
    -- wanted
    refine ⟨_, rfl, _, rfl, _, rfl, p3, c, ts, cs, rt, r, rfl, ep5, ca5, ck.w, ec5, kr, fun H6 wl s6 ewl => ?_⟩
    obtain ⟨rs, ers⟩ : ∃ rs, rs = rentsFrom (rivF (rankS cs) r) 0 rt := ⟨_, rfl⟩
    rw [← ers] at rl ewl
    -- got
    refine ⟨fun σ H' => ∃ b7, σ = [some (.ref a), some (.ref p1), some (.ref p3), some (.ref c), some (.int r), some (.ref wl), some (.ref b7), none, none, none, none, none] ∧ Same H6 H' ∧ ∃ tk z, AlAt C H' b7 tk z (rs.map V.int), ?_, ?_⟩
    · refine ⟨_, rfl, _, _, rfl, .inl (lstAt (s6 _ _ ep5)), fun l nl => ?_⟩
      have sl := same_upd (o := .lst (ts.map V.ref)) nl
      refine ⟨_, rfl, _, _, rfl, .inl (lstAt (sl _ _ (s6 _ _ ec5))), fun m nm => ?_⟩
      have sm := same_upd (o := .lst (rt.map V.int)) nm
      have slm := sl.trans sm
      refine ⟨_, rfl, rfl, rfl, l, m, ts, cs, rt, r, rfl, .inl (lstAt (sm _ _ upd_same)), ca5.same (s6.trans slm), ck, .inl (lstAt upd_same), kr, r0, r1, fun H7 b7 s7 al7 => ?_⟩
      rw [← ers] at al7
      exact ⟨b7, rfl, slm.trans s7, _, _, al7⟩
    rintro σ H7 ⟨b7, rfl, s67, tk, z, dx, ta, rb, h1, h2, h3⟩
    have lr := fldsA_rents ta z rb
    have s57 := s6.trans s67
    refine ⟨_, rfl, b7, C, dx, _, _, rfl, h1, T.cl, T.nR, lr, _, rfl, wl, _, rfl, .inl ⟨lstAt (s67 _ _ ewl), fun t1 nt1 => ?_⟩⟩
    have st1 := same_upd (o := .tup (rs.map V.int)) nt1
    refine ⟨_, _, rfl, eq_ints (st1 _ _ h3) upd_same (by omega), _, rfl, iteF ?_⟩
    have h31 := st1 _ _ h3
    have h11 := st1 _ _ h1
    have s58 := s57.trans st1
    have s08 : Same H (upd H7 t1 (.tup (rs.map V.int))) := (((s1.trans s2).trans s3).trans s45).trans s58
    -- other rents
    refine ⟨_, rfl, a, ns, 2, rfl, s08.seq hS, by decide, by decide, by omega, fun c2 => ⟨c2, 24, rfl, by decide, by decide, fun p8 ns8 np8 l8 o8 => ?_⟩⟩
    have s8 := same_upd (o := .lst (ns8.map V.int)) np8
    have s59 := s58.trans s8
    refine ⟨_, rfl, _, rfl, _, rfl, _, rfl, p8, p3, c, ns8, ts, cs, rt, r, rfl, lstAt upd_same, by omega, s59 _ _ ep5, ca5.same s59, ck.w, s59 _ _ ec5, kr, fun H9 l9 s9 ro9 => ?_⟩
    have s510 := s59.trans s9
    have e89 := s9 _ _ (upd_same (H := upd H7 t1 (.tup (rs.map V.int))) (a := p8) (o := .lst (ns8.map V.int)))
    have ewl9 := s9 _ _ (s8 _ _ (st1 _ _ (s67 _ _ ewl)))
    have h39 := s9 _ _ (s8 _ _ h31)
    have h19 := s9 _ _ (s8 _ _ h11)
    -- free
    refine ⟨_, rfl, _, _, rfl, .inl (lstAt (s510 _ _ ec5)), _, rfl, by omega, by rw [el]; omega, fun D nD => ?_⟩
    refine lc_range (fun i H' => ∃ ys : List Int, ys.length = i ∧ H' = upd H9 D (.lst (ys.map V.int))) ⟨[], rfl, rfl⟩ (fun i H' hi hq => ?_) (fun H' hq => ?_)
    · obtain ⟨ys, hyl, rfl⟩ := hq
      rw [el] at hi
      have hi2 : i < rt.length := by omega
      have sD := same_upd (o := .lst (ys.map V.int)) nD
      refine ⟨rfl, yesT ⟨_, rfl, _, rfl, _, _, _, _, rfl, rfl, lstAt (sD _ _ ewl9), at_rates (k := i) (by omega) (by omega), _, rfl, _, rfl, _, _, rfl, rfl, p8, ns8, 18 + (0 + (i : Int)), 1, 20, rfl, lstAt (sD _ _ e89), by omega, by omega, by decide, by decide, by decide, _, _, rfl, rfl, _, _, rfl, rfl, _, upd_same, ?_, ?_⟩⟩
      · rw [List.length_map]; exact small1000 (by omega)
      · exact ⟨ys ++ [rs.getD i 0 + partOf ns8 (18 + (0 + (i : Int))) 1 20 - 9], by rw [List.length_append, hyl]; rfl, by rw [upd_twice, List.map_append]; rfl⟩
    obtain ⟨ys, hyl, rfl⟩ := hq
    rw [el, Int.toNat_natCast] at hyl
    have sD := same_upd (o := .lst (ys.map V.int)) nD
    have s511 := s510.trans sD
    -- rows
    refine ⟨fun σ H' => ∃ (q3 : Addr) (us : List Addr), σ = [some (.ref a), some (.ref p1), some (.ref p3), some (.ref c), some (.int r), some (.ref wl), some (.ref b7), some (.ref p8), some (.ref l9), some (.ref D), some (.ref q3), none] ∧ Same (upd H9 D (.lst (ys.map V.int))) H' ∧ H' q3 = some (.lst (us.map V.ref)) ∧ ∀ u ∈ us, RowI H' rt.length u, ?_, ?_⟩
    · obtain ⟨xs9, hx9, ex9⟩ := ro9
      refine ⟨_, rfl, _, rfl, (by show 2 ≤ sizeLine; decide), fun q1 nq1 => ?_⟩
      have sq1 := same_upd (o := .lst [V.ref l9, V.ref D]) nq1
      refine ⟨_, rfl, l9, xs9, rfl, .inl (lstAt (sq1 _ _ (sD _ _ ex9))), by omega, fun H11 n1 us1 s11 en1 hl1 hu1 => ?_⟩
      refine ⟨q1, n1, _, _, rfl, rfl, s11 _ _ upd_same, en1, Nat.le_of_lt (small1000 (by rw [List.length_map]; show 2 + us1.length ≤ 1000; omega)), fun q2 nq2 => ?_⟩
      have sq2 := same_upd (o := .lst ([V.ref l9, V.ref D] ++ us1.map V.ref)) nq2
      have s12a := (sq1.trans s11).trans sq2
      refine ⟨_, rfl, b7, C, dx, _, _, rfl, s12a _ _ (sD _ _ h19), T.cl, T.nR, lr, rb, rs, rfl, .inr (tupAt (s12a _ _ (sD _ _ h39))), by omega, fun H12 n2 us2 s12 en2 hl2 hu2 => ?_⟩
      refine ⟨q2, n2, _, _, rfl, rfl, s12 _ _ upd_same, en2, Nat.le_of_lt (small1000 (by rw [List.length_append, List.length_map, List.length_map]; show 2 + us1.length + us2.length ≤ 1000; omega)), fun q3 nq3 => ?_⟩
      have sq3 := same_upd (o := .lst (([V.ref l9, V.ref D] ++ us1.map V.ref) ++ us2.map V.ref)) nq3
      refine ⟨q3, [l9, D] ++ us1 ++ us2, rfl, (s12a.trans s12).trans sq3, by rw [upd_same, List.map_append, List.map_append]; rfl, fun u hu => ?_⟩
      have s1e := (s12a.trans s12).trans sq3
      rcases List.mem_append.mp hu with hu | hu
      · rcases List.mem_append.mp hu with hu | hu
        · rcases List.mem_cons.mp hu with rfl | hu
          · exact ⟨xs9, hx9, s1e _ _ (sD _ _ ex9)⟩
          · rw [List.mem_singleton.mp hu]
            exact ⟨ys, hyl, s1e _ _ upd_same⟩
        · have := ((hu1 u hu).same sq2).same (s12.trans sq3)
          rw [hx9] at this
          exact this
      · have := (hu2 u hu).same sq3
        rw [rl] at this
        exact this
    rintro σ H13 ⟨q3, us, rfl, s13, eq3, hus⟩
    have s513 := s511.trans s13
    have h313 := s13 _ _ (sD _ _ h39)
    refine ⟨_, rfl, b7, C, dx, _, _, rfl, s13 _ _ (sD _ _ h19), T.cl, T.nR, lr, _, rfl, _, rfl, _, rfl, _, rfl, rb, q3, p3, c, us, ts, cs, rt, r, rfl, by rw [← ers]; exact h313, eq3, hus, s513 _ _ ep5, ca5.same s513, ck, s513 _ _ ec5, kr, fun H14 s14 => ⟨_, rfl, iteF ?_⟩⟩
    have s514 := s513.trans s14
    have ewl14 := s14 _ _ (s13 _ _ (sD _ _ ewl9))
    -- tuples, no floor
    refine ⟨_, rfl, p3, _, rfl, .inl ⟨lstAt (s514 _ _ ep5), fun t2 nt2 => ?_⟩⟩
    have st2 := same_upd (o := .tup (ts.map V.ref)) nt2
    refine ⟨_, rfl, c, _, rfl, .inl ⟨lstAt (st2 _ _ (s514 _ _ ec5)), fun t3 nt3 => ?_⟩⟩
    have st3 := same_upd (o := .tup (rt.map V.int)) nt3
    have st23 := st2.trans st3
    refine ⟨rfl, rfl, t2, t3, ts, cs, rt, 0, rfl, .inr (tupAt (st3 _ _ upd_same)), (ca5.same s514).same st23, ck, .inr (tupAt upd_same), kr, Int.le_refl _, by decide, fun H15 b15 s15 al15 => ?_⟩
    obtain ⟨dx2, ta2, rb2, j1, j2, j3⟩ := al15
    have s1415 := st23.trans s15
    have s515 := s514.trans s1415
    refine ⟨b15, C, dx2, _, _, rfl, j1, T.cl, T.nR, fldsA_rents _ _ _, _, rfl, _, rfl, p3, c, ts, cs, rt, 0, rfl, s515 _ _ ep5, ca5.same s515, ck.w, s515 _ _ ec5, kr, fun H16 w2 s16 ew2 => ?_⟩
    refine ⟨w2, _, rfl, .inl ⟨lstAt ew2, fun t4 nt4 => ?_⟩⟩
    have st4 := same_upd (o := .tup ((rentsFrom (rivF (rankS cs) 0) 0 rt).map V.int)) nt4
    refine ⟨_, _, rfl, eq_ints (st4 _ _ (s16 _ _ j3)) upd_same (by omega), _, rfl, iteF ?_⟩
    have s1417 := (s1415.trans s16).trans st4
    have s517 := s514.trans s1417
    -- once more
    refine ⟨_, rfl, _, _, rfl, .inl (lstAt (s517 _ _ ep5)), fun l2 nl2 => ?_⟩
    have sl2 := same_upd (o := .lst (ts.map V.ref)) nl2
    refine ⟨_, rfl, _, _, rfl, .inl (lstAt (sl2 _ _ (s517 _ _ ec5))), fun m2 nm2 => ?_⟩
    have sm2 := same_upd (o := .lst (rt.map V.int)) nm2
    have s518 := (s517.trans sl2).trans sm2
    refine ⟨_, rfl, rfl, rfl, l2, m2, ts, cs, rt, r, rfl, .inl (lstAt (sm2 _ _ upd_same)), ca5.same s518, ck, .inl (lstAt upd_same), kr, r0, r1, fun H19 b19 s19 al19 => ?_⟩
    rw [← ers] at al19
    obtain ⟨dx3, ta3, rb3, k1, k2, k3⟩ := al19
    have ewl19 := s19 _ _ (sm2 _ _ (sl2 _ _ (s1417 _ _ ewl14)))
    refine ⟨b19, C, dx3, _, _, rfl, k1, T.cl, T.nR, fldsA_rents _ _ _, _, rfl, wl, _, rfl, .inl ⟨lstAt ewl19, fun t5 nt5 => ?_⟩⟩
    have st5 := same_upd (o := .tup (rs.map V.int)) nt5
    exact ⟨_, _, rfl, eq_ints (st5 _ _ k3) upd_same (by omega), q _⟩
end
end TK

namespace TK
open PySem PySem.Spec PyProof.Rows L2
/-- how ladder's keywords bind -/
theorem ladder_kb {K : PySem.W.Frag} {f : Addr} {fd : FuncData} (F : FunD K "ladder" "ladder" (defArgs s_ladder) (defBody s_ladder) (defScope s_ladder) [] [("hours", V.int 1), ("floor", V.int 0)] f fd) :
    (∃ g, KBn K fd ["bidders", "hours", "floor"] 1 ["hours", "floor"] g (fun vs zs => vs ++ zs)) ∧ (∃ g, KBn K fd ["bidders", "hours", "floor"] 1 ["hours"] g (fun vs zs => vs ++ (zs ++ [.int 0]))) ∧
    (∃ g, KBn K fd ["bidders", "hours", "floor"] 1 ["floor"] g (fun vs zs => vs ++ (.int 1 :: zs))) ∧ ∃ g, KBn K fd ["bidders", "hours", "floor"] 0 ["bidders"] g (fun _ zs => zs ++ [.int 1, .int 0]) := by
  refine ⟨?_, ?_, ?_, ?_⟩
  · obtain ⟨mv, h⟩ := F.kbinds0 (ps := ["bidders", "hours", "floor"]) 1 ["hours", "floor"] [] (fun us _ ws => us ++ ws) (by decide) (fun q hq => nomatch hq) (fun a _ b => a.append b) fun D doc pm an cdv ct us mv ws h1 h2 h3 => match us, h1, mv, h2, ws, h3 with | [_], _, [], _, [_, _], _ => rfl
    exact ⟨_, h⟩
  · obtain ⟨mv, h⟩ := F.kbinds0 (ps := ["bidders", "hours", "floor"]) 1 ["hours"] [("floor", V.int 0)] (fun us mv ws => us ++ (ws ++ mv)) (by decide) (fun q hq => by cases List.mem_singleton.mp hq; simp) (fun a m b => a.append (b.append m)) fun D doc pm an cdv ct us mv ws h1 h2 h3 => match us, h1, mv, h2, ws, h3 with | [_], _, [_], _, [_], _ => ⟨_, _, _, _, _, _, rfl, rfl, rfl⟩
    exact ⟨_, h⟩
  · obtain ⟨mv, h⟩ := F.kbinds0 (ps := ["bidders", "hours", "floor"]) 1 ["floor"] [("hours", V.int 1)] (fun us mv ws => us ++ (mv ++ ws)) (by decide) (fun q hq => by cases List.mem_singleton.mp hq; simp) (fun a m b => a.append (m.append b)) fun D doc pm an cdv ct us mv ws h1 h2 h3 => match us, h1, mv, h2, ws, h3 with | [_], _, [_], _, [_], _ => ⟨_, _, _, _, _, _, rfl, rfl, rfl⟩
    exact ⟨_, h⟩
  · obtain ⟨mv, h⟩ := F.kbinds0 (ps := ["bidders", "hours", "floor"]) 0 ["bidders"] [("hours", V.int 1), ("floor", V.int 0)] (fun _ mv ws => ws ++ mv) (by decide) (fun q hq => hq) (fun _ m b => b.append m) fun D doc pm an cdv ct us mv ws h1 h2 h3 => match us, h1, mv, h2, ws, h3 with | [], _, [_, _], _, [_], _ => ⟨_, _, _, _, _, _, rfl, rfl, ⟨_, _, _, _, _, _, rfl, rfl, rfl⟩⟩
    exact ⟨_, h⟩

/-- how dearest's keywords bind -/
theorem dearest_kb {K : PySem.W.Frag} {f : Addr} {fd : FuncData} (F : FunD K "dearest" "dearest" (defArgs s_dearest) (defBody s_dearest) (defScope s_dearest) [] [("floor", V.int 0)] f fd) :
    (∃ g, KBn K fd ["bidders", "rates", "floor"] 2 ["floor"] g (fun vs zs => vs ++ zs)) ∧ ∃ g, KBn K fd ["bidders", "rates", "floor"] 2 [] g (fun vs _ => vs ++ [.int 0]) := by
  refine ⟨?_, ?_⟩
  · obtain ⟨mv, h⟩ := F.kbinds0 (ps := ["bidders", "rates", "floor"]) 2 ["floor"] [] (fun us _ ws => us ++ ws) (by decide) (fun q hq => nomatch hq) (fun a _ b => a.append b) fun D doc pm an cdv ct us mv ws h1 h2 h3 => match us, h1, mv, h2, ws, h3 with | [_, _], _, [], _, [_], _ => rfl
    exact ⟨_, h⟩
  · obtain ⟨mv, h⟩ := F.kbinds0 (ps := ["bidders", "rates", "floor"]) 2 [] [("floor", V.int 0)] (fun us mv _ => us ++ mv) (by decide) (fun q hq => by cases List.mem_singleton.mp hq; simp) (fun a m _ => a.append m) fun D doc pm an cdv ct us mv ws h1 h2 h3 => match us, h1, mv, h2, ws, h3 with | [_, _], _, [_], _, [], _ => ⟨_, _, _, _, _, _, rfl, rfl, rfl⟩
    exact ⟨_, h⟩

theorem all_mk {l : PySem.W.OpenLaw} {w : World} {K : PySem.W.Frag} {h : Heap} {mg : Str → Option Value} {fa f0 f1 f2 f3 f4 f5 f6 f7 f8 f9 f10 f11 f12 f13 f14 f15 f16 f17 f18 f19 f20 f21 f22 f23 f24 f25 f26 f27 f28 f29 f30 f31 f32 f33 : Addr} (X : K.In h) (G : h.Ns mainGlobals mg) (hfa : mg "law" = some (.ref fa))
    {DL_ladder : Addr} {t_ladder_hours : Tok} {t_ladder_floor : Tok}
    {DL_dearest : Addr} {t_dearest_floor : Tok}
    {tk : Tok}
    {C fI : Addr} {odI anI : Option Addr} {slI : Array (Option Value)} {ocI kVI dcI pmI cdI ctI : Value}
    {od0 an0 : Option Addr} {sl0 : Array (Option Value)} {oc0 kV0 dc0 pm0 cd0 ct0 : Value}
    (a0 : PySem.W.nsIn K mainGlobals "is_name" = some (some (.ref f0))) (l0 : K.lookup f0 = some ⟨oc0, od0, .func (PySem.W.fnOf "is_name" "is_name" (defArgs s_is_name) (defBody s_is_name) (defScope s_is_name) .none kV0 dc0 pm0 an0 cd0 ct0), sl0⟩) (c0 : PySem.W.codeIn K cd0 "is_name" = true) (k0 : PySem.W.keepIn K (.ref f0) = true)
    {od1 an1 : Option Addr} {sl1 : Array (Option Value)} {oc1 kV1 dc1 pm1 cd1 ct1 : Value}
    (a1 : PySem.W.nsIn K mainGlobals "check_size" = some (some (.ref f1))) (l1 : K.lookup f1 = some ⟨oc1, od1, .func (PySem.W.fnOf "check_size" "check_size" (defArgs s_check_size) (defBody s_check_size) (defScope s_check_size) .none kV1 dc1 pm1 an1 cd1 ct1), sl1⟩) (c1 : PySem.W.codeIn K cd1 "check_size" = true) (k1 : PySem.W.keepIn K (.ref f1) = true)
    {od2 an2 : Option Addr} {sl2 : Array (Option Value)} {oc2 kV2 dc2 pm2 cd2 ct2 : Value}
    (a2 : PySem.W.nsIn K mainGlobals "check_range" = some (some (.ref f2))) (l2 : K.lookup f2 = some ⟨oc2, od2, .func (PySem.W.fnOf "check_range" "check_range" (defArgs s_check_range) (defBody s_check_range) (defScope s_check_range) .none kV2 dc2 pm2 an2 cd2 ct2), sl2⟩) (c2 : PySem.W.codeIn K cd2 "check_range" = true) (k2 : PySem.W.keepIn K (.ref f2) = true)
    {od3 an3 : Option Addr} {sl3 : Array (Option Value)} {oc3 kV3 dc3 pm3 cd3 ct3 : Value}
    (a3 : PySem.W.nsIn K mainGlobals "check_bidders" = some (some (.ref f3))) (l3 : K.lookup f3 = some ⟨oc3, od3, .func (PySem.W.fnOf "check_bidders" "check_bidders" (defArgs s_check_bidders) (defBody s_check_bidders) (defScope s_check_bidders) .none kV3 dc3 pm3 an3 cd3 ct3), sl3⟩) (c3 : PySem.W.codeIn K cd3 "check_bidders" = true) (k3 : PySem.W.keepIn K (.ref f3) = true)
    {od4 an4 : Option Addr} {sl4 : Array (Option Value)} {oc4 kV4 dc4 pm4 cd4 ct4 : Value}
    (a4 : PySem.W.nsIn K mainGlobals "_check" = some (some (.ref f4))) (l4 : K.lookup f4 = some ⟨oc4, od4, .func (PySem.W.fnOf "_check" "_check" (defArgs s_check) (defBody s_check) (defScope s_check) .none kV4 dc4 pm4 an4 cd4 ct4), sl4⟩) (c4 : PySem.W.codeIn K cd4 "_check" = true) (k4 : PySem.W.keepIn K (.ref f4) = true)
    {od5 an5 : Option Addr} {sl5 : Array (Option Value)} {oc5 kV5 dc5 pm5 cd5 ct5 : Value}
    (a5 : PySem.W.nsIn K mainGlobals "_names" = some (some (.ref f5))) (l5 : K.lookup f5 = some ⟨oc5, od5, .func (PySem.W.fnOf "_names" "_names" (defArgs s_names) (defBody s_names) (defScope s_names) .none kV5 dc5 pm5 an5 cd5 ct5), sl5⟩) (c5 : PySem.W.codeIn K cd5 "_names" = true) (k5 : PySem.W.keepIn K (.ref f5) = true)
    {od6 an6 : Option Addr} {sl6 : Array (Option Value)} {oc6 kV6 dc6 pm6 cd6 ct6 : Value}
    (a6 : PySem.W.nsIn K mainGlobals "strength" = some (some (.ref f6))) (l6 : K.lookup f6 = some ⟨oc6, od6, .func (PySem.W.fnOf "strength" "strength" (defArgs s_strength) (defBody s_strength) (defScope s_strength) .none kV6 dc6 pm6 an6 cd6 ct6), sl6⟩) (c6 : PySem.W.codeIn K cd6 "strength" = true) (k6 : PySem.W.keepIn K (.ref f6) = true)
    {od7 an7 : Option Addr} {sl7 : Array (Option Value)} {oc7 kV7 dc7 pm7 cd7 ct7 : Value}
    (a7 : PySem.W.nsIn K mainGlobals "_weakness" = some (some (.ref f7))) (l7 : K.lookup f7 = some ⟨oc7, od7, .func (PySem.W.fnOf "_weakness" "_weakness" (defArgs s_weakness) (defBody s_weakness) (defScope s_weakness) .none kV7 dc7 pm7 an7 cd7 ct7), sl7⟩) (c7 : PySem.W.codeIn K cd7 "_weakness" = true) (k7 : PySem.W.keepIn K (.ref f7) = true)
    {od8 an8 : Option Addr} {sl8 : Array (Option Value)} {oc8 kV8 dc8 pm8 cd8 ct8 : Value}
    (a8 : PySem.W.nsIn K mainGlobals "ranked" = some (some (.ref f8))) (l8 : K.lookup f8 = some ⟨oc8, od8, .func (PySem.W.fnOf "ranked" "ranked" (defArgs s_ranked) (defBody s_ranked) (defScope s_ranked) .none kV8 dc8 pm8 an8 cd8 ct8), sl8⟩) (c8 : PySem.W.codeIn K cd8 "ranked" = true) (k8 : PySem.W.keepIn K (.ref f8) = true)
    {od9 an9 : Option Addr} {sl9 : Array (Option Value)} {oc9  dc9 pm9 cd9 ct9 : Value}
    (a9 : PySem.W.nsIn K mainGlobals "ladder" = some (some (.ref f9))) (l9 : K.lookup f9 = some ⟨oc9, od9, .func (PySem.W.fnOf "ladder" "ladder" (defArgs s_ladder) (defBody s_ladder) (defScope s_ladder) .none (.ref DL_ladder) dc9 pm9 an9 cd9 ct9), sl9⟩) (c9 : PySem.W.codeIn K cd9 "ladder" = true) (k9 : PySem.W.keepIn K (.ref f9) = true)
    {od10 an10 : Option Addr} {sl10 : Array (Option Value)} {oc10  dc10 pm10 cd10 ct10 : Value}
    (a10 : PySem.W.nsIn K mainGlobals "dearest" = some (some (.ref f10))) (l10 : K.lookup f10 = some ⟨oc10, od10, .func (PySem.W.fnOf "dearest" "dearest" (defArgs s_dearest) (defBody s_dearest) (defScope s_dearest) .none (.ref DL_dearest) dc10 pm10 an10 cd10 ct10), sl10⟩) (c10 : PySem.W.codeIn K cd10 "dearest" = true) (k10 : PySem.W.keepIn K (.ref f10) = true)
    {od11 an11 : Option Addr} {sl11 : Array (Option Value)} {oc11 kV11 dc11 pm11 cd11 ct11 : Value}
    (a11 : PySem.W.nsIn K mainGlobals "_check_rates" = some (some (.ref f11))) (l11 : K.lookup f11 = some ⟨oc11, od11, .func (PySem.W.fnOf "_check_rates" "_check_rates" (defArgs s_check_rates) (defBody s_check_rates) (defScope s_check_rates) .none kV11 dc11 pm11 an11 cd11 ct11), sl11⟩) (c11 : PySem.W.codeIn K cd11 "_check_rates" = true) (k11 : PySem.W.keepIn K (.ref f11) = true)
    {od12 an12 : Option Addr} {sl12 : Array (Option Value)} {oc12 kV12 dc12 pm12 cd12 ct12 : Value}
    (a12 : PySem.W.nsIn K mainGlobals "_rents" = some (some (.ref f12))) (l12 : K.lookup f12 = some ⟨oc12, od12, .func (PySem.W.fnOf "_rents" "_rents" (defArgs s_rents) (defBody s_rents) (defScope s_rents) .none kV12 dc12 pm12 an12 cd12 ct12), sl12⟩) (c12 : PySem.W.codeIn K cd12 "_rents" = true) (k12 : PySem.W.keepIn K (.ref f12) = true)
    {od13 an13 : Option Addr} {sl13 : Array (Option Value)} {oc13 kV13 dc13 pm13 cd13 ct13 : Value}
    (a13 : PySem.W.nsIn K mainGlobals "_law_cell" = some (some (.ref f13))) (l13 : K.lookup f13 = some ⟨oc13, od13, .func (PySem.W.fnOf "_law_cell" "_law_cell" (defArgs s_L_cell) (defBody s_L_cell) (defScope s_L_cell) .none kV13 dc13 pm13 an13 cd13 ct13), sl13⟩) (c13 : PySem.W.codeIn K cd13 "_law_cell" = true) (k13 : PySem.W.keepIn K (.ref f13) = true)
    {od14 an14 : Option Addr} {sl14 : Array (Option Value)} {oc14 kV14 dc14 pm14 cd14 ct14 : Value}
    (a14 : PySem.W.nsIn K mainGlobals "_law_mixed" = some (some (.ref f14))) (l14 : K.lookup f14 = some ⟨oc14, od14, .func (PySem.W.fnOf "_law_mixed" "_law_mixed" (defArgs s_L_mixed) (defBody s_L_mixed) (defScope s_L_mixed) .none kV14 dc14 pm14 an14 cd14 ct14), sl14⟩) (c14 : PySem.W.codeIn K cd14 "_law_mixed" = true) (k14 : PySem.W.keepIn K (.ref f14) = true)
    {od15 an15 : Option Addr} {sl15 : Array (Option Value)} {oc15 kV15 dc15 pm15 cd15 ct15 : Value}
    (a15 : PySem.W.nsIn K mainGlobals "_law_pool" = some (some (.ref f15))) (l15 : K.lookup f15 = some ⟨oc15, od15, .func (PySem.W.fnOf "_law_pool" "_law_pool" (defArgs s_L_pool) (defBody s_L_pool) (defScope s_L_pool) .none kV15 dc15 pm15 an15 cd15 ct15), sl15⟩) (c15 : PySem.W.codeIn K cd15 "_law_pool" = true) (k15 : PySem.W.keepIn K (.ref f15) = true)
    {od16 an16 : Option Addr} {sl16 : Array (Option Value)} {oc16 kV16 dc16 pm16 cd16 ct16 : Value}
    (a16 : PySem.W.nsIn K mainGlobals "_law_part" = some (some (.ref f16))) (l16 : K.lookup f16 = some ⟨oc16, od16, .func (PySem.W.fnOf "_law_part" "_law_part" (defArgs s_L_part) (defBody s_L_part) (defScope s_L_part) .none kV16 dc16 pm16 an16 cd16 ct16), sl16⟩) (c16 : PySem.W.codeIn K cd16 "_law_part" = true) (k16 : PySem.W.keepIn K (.ref f16) = true)
    {od17 an17 : Option Addr} {sl17 : Array (Option Value)} {oc17 kV17 dc17 pm17 cd17 ct17 : Value}
    (a17 : PySem.W.nsIn K mainGlobals "_law_names" = some (some (.ref f17))) (l17 : K.lookup f17 = some ⟨oc17, od17, .func (PySem.W.fnOf "_law_names" "_law_names" (defArgs s_L_names) (defBody s_L_names) (defScope s_L_names) .none kV17 dc17 pm17 an17 cd17 ct17), sl17⟩) (c17 : PySem.W.codeIn K cd17 "_law_names" = true) (k17 : PySem.W.keepIn K (.ref f17) = true)
    {od18 an18 : Option Addr} {sl18 : Array (Option Value)} {oc18 kV18 dc18 pm18 cd18 ct18 : Value}
    (a18 : PySem.W.nsIn K mainGlobals "_law_far" = some (some (.ref f18))) (l18 : K.lookup f18 = some ⟨oc18, od18, .func (PySem.W.fnOf "_law_far" "_law_far" (defArgs s_L_far) (defBody s_L_far) (defScope s_L_far) .none kV18 dc18 pm18 an18 cd18 ct18), sl18⟩) (c18 : PySem.W.codeIn K cd18 "_law_far" = true) (k18 : PySem.W.keepIn K (.ref f18) = true)
    {od19 an19 : Option Addr} {sl19 : Array (Option Value)} {oc19 kV19 dc19 pm19 cd19 ct19 : Value}
    (a19 : PySem.W.nsIn K mainGlobals "_law_chosen" = some (some (.ref f19))) (l19 : K.lookup f19 = some ⟨oc19, od19, .func (PySem.W.fnOf "_law_chosen" "_law_chosen" (defArgs s_L_chosen) (defBody s_L_chosen) (defScope s_L_chosen) .none kV19 dc19 pm19 an19 cd19 ct19), sl19⟩) (c19 : PySem.W.codeIn K cd19 "_law_chosen" = true) (k19 : PySem.W.keepIn K (.ref f19) = true)
    {od20 an20 : Option Addr} {sl20 : Array (Option Value)} {oc20 kV20 dc20 pm20 cd20 ct20 : Value}
    (a20 : PySem.W.nsIn K mainGlobals "_law_bidders" = some (some (.ref f20))) (l20 : K.lookup f20 = some ⟨oc20, od20, .func (PySem.W.fnOf "_law_bidders" "_law_bidders" (defArgs s_L_bidders) (defBody s_L_bidders) (defScope s_L_bidders) .none kV20 dc20 pm20 an20 cd20 ct20), sl20⟩) (c20 : PySem.W.codeIn K cd20 "_law_bidders" = true) (k20 : PySem.W.keepIn K (.ref f20) = true)
    {od21 an21 : Option Addr} {sl21 : Array (Option Value)} {oc21 kV21 dc21 pm21 cd21 ct21 : Value}
    (a21 : PySem.W.nsIn K mainGlobals "_law_sill" = some (some (.ref f21))) (l21 : K.lookup f21 = some ⟨oc21, od21, .func (PySem.W.fnOf "_law_sill" "_law_sill" (defArgs s_L_sill) (defBody s_L_sill) (defScope s_L_sill) .none kV21 dc21 pm21 an21 cd21 ct21), sl21⟩) (c21 : PySem.W.codeIn K cd21 "_law_sill" = true) (k21 : PySem.W.keepIn K (.ref f21) = true)
    {od22 an22 : Option Addr} {sl22 : Array (Option Value)} {oc22 kV22 dc22 pm22 cd22 ct22 : Value}
    (a22 : PySem.W.nsIn K mainGlobals "_law_scale" = some (some (.ref f22))) (l22 : K.lookup f22 = some ⟨oc22, od22, .func (PySem.W.fnOf "_law_scale" "_law_scale" (defArgs s_L_scale) (defBody s_L_scale) (defScope s_L_scale) .none kV22 dc22 pm22 an22 cd22 ct22), sl22⟩) (c22 : PySem.W.codeIn K cd22 "_law_scale" = true) (k22 : PySem.W.keepIn K (.ref f22) = true)
    {od23 an23 : Option Addr} {sl23 : Array (Option Value)} {oc23 kV23 dc23 pm23 cd23 ct23 : Value}
    (a23 : PySem.W.nsIn K mainGlobals "_law_ladder" = some (some (.ref f23))) (l23 : K.lookup f23 = some ⟨oc23, od23, .func (PySem.W.fnOf "_law_ladder" "_law_ladder" (defArgs s_L_ladder) (defBody s_L_ladder) (defScope s_L_ladder) .none kV23 dc23 pm23 an23 cd23 ct23), sl23⟩) (c23 : PySem.W.codeIn K cd23 "_law_ladder" = true) (k23 : PySem.W.keepIn K (.ref f23) = true)
    {od24 an24 : Option Addr} {sl24 : Array (Option Value)} {oc24 kV24 dc24 pm24 cd24 ct24 : Value}
    (a24 : PySem.W.nsIn K mainGlobals "_law_behind" = some (some (.ref f24))) (l24 : K.lookup f24 = some ⟨oc24, od24, .func (PySem.W.fnOf "_law_behind" "_law_behind" (defArgs s_L_behind) (defBody s_L_behind) (defScope s_L_behind) .none kV24 dc24 pm24 an24 cd24 ct24), sl24⟩) (c24 : PySem.W.codeIn K cd24 "_law_behind" = true) (k24 : PySem.W.keepIn K (.ref f24) = true)
    {od25 an25 : Option Addr} {sl25 : Array (Option Value)} {oc25 kV25 dc25 pm25 cd25 ct25 : Value}
    (a25 : PySem.W.nsIn K mainGlobals "_law_least_rents" = some (some (.ref f25))) (l25 : K.lookup f25 = some ⟨oc25, od25, .func (PySem.W.fnOf "_law_least_rents" "_law_least_rents" (defArgs s_L_least_rents) (defBody s_L_least_rents) (defScope s_L_least_rents) .none kV25 dc25 pm25 an25 cd25 ct25), sl25⟩) (c25 : PySem.W.codeIn K cd25 "_law_least_rents" = true) (k25 : PySem.W.keepIn K (.ref f25) = true)
    {od26 an26 : Option Addr} {sl26 : Array (Option Value)} {oc26 kV26 dc26 pm26 cd26 ct26 : Value}
    (a26 : PySem.W.nsIn K mainGlobals "_law_share" = some (some (.ref f26))) (l26 : K.lookup f26 = some ⟨oc26, od26, .func (PySem.W.fnOf "_law_share" "_law_share" (defArgs s_L_share) (defBody s_L_share) (defScope s_L_share) .none kV26 dc26 pm26 an26 cd26 ct26), sl26⟩) (c26 : PySem.W.codeIn K cd26 "_law_share" = true) (k26 : PySem.W.keepIn K (.ref f26) = true)
    {od27 an27 : Option Addr} {sl27 : Array (Option Value)} {oc27 kV27 dc27 pm27 cd27 ct27 : Value}
    (a27 : PySem.W.nsIn K mainGlobals "_law_others" = some (some (.ref f27))) (l27 : K.lookup f27 = some ⟨oc27, od27, .func (PySem.W.fnOf "_law_others" "_law_others" (defArgs s_L_others) (defBody s_L_others) (defScope s_L_others) .none kV27 dc27 pm27 an27 cd27 ct27), sl27⟩) (c27 : PySem.W.codeIn K cd27 "_law_others" = true) (k27 : PySem.W.keepIn K (.ref f27) = true)
    {od28 an28 : Option Addr} {sl28 : Array (Option Value)} {oc28 kV28 dc28 pm28 cd28 ct28 : Value}
    (a28 : PySem.W.nsIn K mainGlobals "_law_near" = some (some (.ref f28))) (l28 : K.lookup f28 = some ⟨oc28, od28, .func (PySem.W.fnOf "_law_near" "_law_near" (defArgs s_L_near) (defBody s_L_near) (defScope s_L_near) .none kV28 dc28 pm28 an28 cd28 ct28), sl28⟩) (c28 : PySem.W.codeIn K cd28 "_law_near" = true) (k28 : PySem.W.keepIn K (.ref f28) = true)
    {od29 an29 : Option Addr} {sl29 : Array (Option Value)} {oc29 kV29 dc29 pm29 cd29 ct29 : Value}
    (a29 : PySem.W.nsIn K mainGlobals "_law_holds" = some (some (.ref f29))) (l29 : K.lookup f29 = some ⟨oc29, od29, .func (PySem.W.fnOf "_law_holds" "_law_holds" (defArgs s_L_holds) (defBody s_L_holds) (defScope s_L_holds) .none kV29 dc29 pm29 an29 cd29 ct29), sl29⟩) (c29 : PySem.W.codeIn K cd29 "_law_holds" = true) (k29 : PySem.W.keepIn K (.ref f29) = true)
    {od30 an30 : Option Addr} {sl30 : Array (Option Value)} {oc30 kV30 dc30 pm30 cd30 ct30 : Value}
    (a30 : PySem.W.nsIn K mainGlobals "_law_none_less" = some (some (.ref f30))) (l30 : K.lookup f30 = some ⟨oc30, od30, .func (PySem.W.fnOf "_law_none_less" "_law_none_less" (defArgs s_L_none_less) (defBody s_L_none_less) (defScope s_L_none_less) .none kV30 dc30 pm30 an30 cd30 ct30), sl30⟩) (c30 : PySem.W.codeIn K cd30 "_law_none_less" = true) (k30 : PySem.W.keepIn K (.ref f30) = true)
    {od31 an31 : Option Addr} {sl31 : Array (Option Value)} {oc31 kV31 dc31 pm31 cd31 ct31 : Value}
    (a31 : PySem.W.nsIn K mainGlobals "_law_integer" = some (some (.ref f31))) (l31 : K.lookup f31 = some ⟨oc31, od31, .func (PySem.W.fnOf "_law_integer" "_law_integer" (defArgs s_L_integer) (defBody s_L_integer) (defScope s_L_integer) .none kV31 dc31 pm31 an31 cd31 ct31), sl31⟩) (c31 : PySem.W.codeIn K cd31 "_law_integer" = true) (k31 : PySem.W.keepIn K (.ref f31) = true)
    {od32 an32 : Option Addr} {sl32 : Array (Option Value)} {oc32 kV32 dc32 pm32 cd32 ct32 : Value}
    (a32 : PySem.W.nsIn K mainGlobals "_law_same" = some (some (.ref f32))) (l32 : K.lookup f32 = some ⟨oc32, od32, .func (PySem.W.fnOf "_law_same" "_law_same" (defArgs s_L_same) (defBody s_L_same) (defScope s_L_same) .none kV32 dc32 pm32 an32 cd32 ct32), sl32⟩) (c32 : PySem.W.codeIn K cd32 "_law_same" = true) (k32 : PySem.W.keepIn K (.ref f32) = true)
    {od33 an33 : Option Addr} {sl33 : Array (Option Value)} {oc33 kV33 dc33 pm33 cd33 ct33 : Value}
    (a33 : PySem.W.nsIn K mainGlobals "law" = some (some (.ref f33))) (l33 : K.lookup f33 = some ⟨oc33, od33, .func (PySem.W.fnOf "law" "law" (defArgs s_law) (defBody s_law) (defScope s_law) .none kV33 dc33 pm33 an33 cd33 ct33), sl33⟩) (c33 : PySem.W.codeIn K cd33 "law" = true) (k33 : PySem.W.keepIn K (.ref f33) = true)
    (n_ladder_hours : PySem.W.nsIn K DL_ladder "hours" = some (some (.int 1 t_ladder_hours)))
    (n_ladder_floor : PySem.W.nsIn K DL_ladder "floor" = some (some (.int 0 t_ladder_floor)))
    (n_dearest_floor : PySem.W.nsIn K DL_dearest "floor" = some (some (.int 0 t_dearest_floor)))
    (aL : PySem.W.nsIn K mainGlobals "LETTERS" = some (some (.str lettersZ tk)))
    (z_len : PySem.W.nsIn K mainGlobals "len" = some none)
    (z_all : PySem.W.nsIn K mainGlobals "all" = some none)
    (z_enumerate : PySem.W.nsIn K mainGlobals "enumerate" = some none)
    (z_tuple : PySem.W.nsIn K mainGlobals "tuple" = some none)
    (z_list : PySem.W.nsIn K mainGlobals "list" = some none)
    (z_range : PySem.W.nsIn K mainGlobals "range" = some none)
    (z_abs : PySem.W.nsIn K mainGlobals "abs" = some none)
    (z_int : PySem.W.nsIn K mainGlobals "int" = some none)
    (z_min : PySem.W.nsIn K mainGlobals "min" = some none)
    (z_max : PySem.W.nsIn K mainGlobals "max" = some none)
    (z_reversed : PySem.W.nsIn K mainGlobals "reversed" = some none)
    (z_isinstance : PySem.W.nsIn K mainGlobals "isinstance" = some none)
    (z_bool : PySem.W.nsIn K mainGlobals "bool" = some none)
    (z_str : PySem.W.nsIn K mainGlobals "str" = some none)
    (z_sum : PySem.W.nsIn K mainGlobals "sum" = some none)
    (z_sorted : PySem.W.nsIn K mainGlobals "sorted" = some none)
    (z_zip : PySem.W.nsIn K mainGlobals "zip" = some none)
    (aC : PySem.W.nsIn K mainGlobals "Allotment" = some (some (.ref C)))
    (aI : PySem.W.findIn K (.ref C) "__init__" = some (some (.ref fI))) (iI : PySem.W.isFn K (.ref fI) = true) (lI : K.lookup fI = some ⟨ocI, odI, .func (PySem.W.fnOf "__init__" "Allotment.__init__" (defArgs s_Allot) (defBody s_Allot) (defScope s_Allot) .none kVI dcI pmI anI cdI ctI), slI⟩) (cI : PySem.W.codeIn K cdI "Allotment.__init__" = true) (kI : PySem.W.keepIn K (.ref fI) = true)
    (pg : PySem.W.plainGet K C Str.empty = true) (hd : PySem.W.hasDictIn K C = true) (po : PySem.W.plainOver K C = true) (sa : PySem.W.findIn K (.ref C) "__setattr__" = some (some (.builtin "object.__setattr__"))) (mk : PySem.W.makesIn K C = true) (kc : PySem.W.keepIn K (.ref C) = true)
    (nT : PySem.W.findIn K (.ref C) "takers" = some none) (nN : PySem.W.findIn K (.ref C) "total" = some none) (nR : PySem.W.findIn K (.ref C) "rents" = some none) :
    ∃ fd : FuncData, (∀ (s : Shared) (v : Value), BindsTo s fd ⟨[v], []⟩ [("_law_script", v)]) ∧ ∀ base : Heap, K.In base → base.Ns mainGlobals mg → FnOk l.prog w K mg base CX0 8 fa fd ["_law_script"] (spLaw K) := by
  have e := hfa.symm.trans (PySem.W.mg_of X G a33)
  cases e
  have m_len := PySem.W.mg_none_of X G z_len
  have m_all := PySem.W.mg_none_of X G z_all
  have m_enumerate := PySem.W.mg_none_of X G z_enumerate
  have m_tuple := PySem.W.mg_none_of X G z_tuple
  have m_list := PySem.W.mg_none_of X G z_list
  have m_range := PySem.W.mg_none_of X G z_range
  have m_abs := PySem.W.mg_none_of X G z_abs
  have m_int := PySem.W.mg_none_of X G z_int
  have m_min := PySem.W.mg_none_of X G z_min
  have m_max := PySem.W.mg_none_of X G z_max
  have m_reversed := PySem.W.mg_none_of X G z_reversed
  have m_isinstance := PySem.W.mg_none_of X G z_isinstance
  have m_bool := PySem.W.mg_none_of X G z_bool
  have m_str := PySem.W.mg_none_of X G z_str
  have m_sum := PySem.W.mg_none_of X G z_sum
  have m_sorted := PySem.W.mg_none_of X G z_sorted
  have m_zip := PySem.W.mg_none_of X G z_zip
  have F0 := fun_mk (st := s_is_name) l0 c0 k0
  have b0 := F0.binds (ps := ["word"]) fun _ _ _ _ _ _ us hl => match us, hl with | [_], _ => rfl
  have g0 := PySem.W.mg_of X G a0
  have F1 := fun_mk (st := s_check_size) l1 c1 k1
  have b1 := F1.binds (ps := ["size", "low", "high"]) fun _ _ _ _ _ _ us hl => match us, hl with | [_, _, _], _ => rfl
  have g1 := PySem.W.mg_of X G a1
  have F2 := fun_mk (st := s_check_range) l2 c2 k2
  have b2 := F2.binds (ps := ["number", "low", "high"]) fun _ _ _ _ _ _ us hl => match us, hl with | [_, _, _], _ => rfl
  have g2 := PySem.W.mg_of X G a2
  have F3 := fun_mk (st := s_check_bidders) l3 c3 k3
  have b3 := F3.binds (ps := ["bidders"]) fun _ _ _ _ _ _ us hl => match us, hl with | [_], _ => rfl
  have g3 := PySem.W.mg_of X G a3
  have F4 := fun_mk (st := s_check) l4 c4 k4
  have b4 := F4.binds (ps := ["bidders", "hours", "floor"]) fun _ _ _ _ _ _ us hl => match us, hl with | [_, _, _], _ => rfl
  have g4 := PySem.W.mg_of X G a4
  have F5 := fun_mk (st := s_names) l5 c5 k5
  have b5 := F5.binds (ps := ["bidders"]) fun _ _ _ _ _ _ us hl => match us, hl with | [_], _ => rfl
  have g5 := PySem.W.mg_of X G a5
  have F6 := fun_mk (st := s_strength) l6 c6 k6
  have b6 := F6.binds (ps := ["bidder"]) fun _ _ _ _ _ _ us hl => match us, hl with | [_], _ => rfl
  have g6 := PySem.W.mg_of X G a6
  have F7 := fun_mk (st := s_weakness) l7 c7 k7
  have b7 := F7.binds (ps := ["bidder"]) fun _ _ _ _ _ _ us hl => match us, hl with | [_], _ => rfl
  have g7 := PySem.W.mg_of X G a7
  have F8 := fun_mk (st := s_ranked) l8 c8 k8
  have b8 := F8.binds (ps := ["bidders"]) fun _ _ _ _ _ _ us hl => match us, hl with | [_], _ => rfl
  have g8 := PySem.W.mg_of X G a8
  have F9 : FunD K "ladder" "ladder" (defArgs s_ladder) (defBody s_ladder) (defScope s_ladder) [] [("hours", V.int 1), ("floor", V.int 0)] f9 _ := ⟨⟨oc9, od9, .none, .ref DL_ladder, dc9, pm9, an9, cd9, ct9, sl9, rfl, l9, c9, .inl ⟨rfl, rfl⟩, .inr ⟨DL_ladder, rfl, fun q hq => by
    rcases List.mem_cons.mp hq with rfl | hq
    · exact ⟨_, n_ladder_hours, ⟨_, rfl⟩⟩
    rw [List.mem_singleton.mp hq]
    exact ⟨_, n_ladder_floor, ⟨_, rfl⟩⟩⟩⟩, k9⟩
  have g9 := PySem.W.mg_of X G a9
  have F10 : FunD K "dearest" "dearest" (defArgs s_dearest) (defBody s_dearest) (defScope s_dearest) [] [("floor", V.int 0)] f10 _ := ⟨⟨oc10, od10, .none, .ref DL_dearest, dc10, pm10, an10, cd10, ct10, sl10, rfl, l10, c10, .inl ⟨rfl, rfl⟩, .inr ⟨DL_dearest, rfl, fun q hq => by
    rw [List.mem_singleton.mp hq]
    exact ⟨_, n_dearest_floor, ⟨_, rfl⟩⟩⟩⟩, k10⟩
  have g10 := PySem.W.mg_of X G a10
  have F11 := fun_mk (st := s_check_rates) l11 c11 k11
  have b11 := F11.binds (ps := ["rates"]) fun _ _ _ _ _ _ us hl => match us, hl with | [_], _ => rfl
  have g11 := PySem.W.mg_of X G a11
  have F12 := fun_mk (st := s_rents) l12 c12 k12
  have b12 := F12.binds (ps := ["bidders", "rates", "floor"]) fun _ _ _ _ _ _ us hl => match us, hl with | [_, _, _], _ => rfl
  have g12 := PySem.W.mg_of X G a12
  have F13 := fun_mk (st := s_L_cell) l13 c13 k13
  have b13 := F13.binds (ps := ["_law_script", "_law_k"]) fun _ _ _ _ _ _ us hl => match us, hl with | [_, _], _ => rfl
  have g13 := PySem.W.mg_of X G a13
  have F14 := fun_mk (st := s_L_mixed) l14 c14 k14
  have b14 := F14.binds (ps := ["_law_cell_here", "_law_k"]) fun _ _ _ _ _ _ us hl => match us, hl with | [_, _], _ => rfl
  have g14 := PySem.W.mg_of X G a14
  have F15 := fun_mk (st := s_L_pool) l15 c15 k15
  have b15 := F15.binds (ps := ["_law_cell_here", "_law_number"]) fun _ _ _ _ _ _ us hl => match us, hl with | [_, _], _ => rfl
  have g15 := PySem.W.mg_of X G a15
  have F16 := fun_mk (st := s_L_part) l16 c16 k16
  have b16 := F16.binds (ps := ["_law_pool_here", "_law_spot", "_law_under", "_law_size"]) fun _ _ _ _ _ _ us hl => match us, hl with | [_, _, _, _], _ => rfl
  have g16 := PySem.W.mg_of X G a16
  have F17 := fun_mk (st := s_L_names) l17 c17 k17
  have b17 := F17.binds (ps := ["_law_pool_here", "_law_spot", "_law_number"]) fun _ _ _ _ _ _ us hl => match us, hl with | [_, _, _], _ => rfl
  have g17 := PySem.W.mg_of X G a17
  have F18 := fun_mk (st := s_L_far) l18 c18 k18
  have b18 := F18.binds (ps := ["_law_pool_here", "_law_spot", "_law_number"]) fun _ _ _ _ _ _ us hl => match us, hl with | [_, _, _], _ => rfl
  have g18 := PySem.W.mg_of X G a18
  have F19 := fun_mk (st := s_L_chosen) l19 c19 k19
  have b19 := F19.binds (ps := ["_law_pool_here", "_law_spot", "_law_under", "_law_small", "_law_crest", "_law_whole"]) fun _ _ _ _ _ _ us hl => match us, hl with | [_, _, _, _, _, _], _ => rfl
  have g19 := PySem.W.mg_of X G a19
  have F20 := fun_mk (st := s_L_bidders) l20 c20 k20
  have b20 := F20.binds (ps := ["_law_pool_here", "_law_spot", "_law_number"]) fun _ _ _ _ _ _ us hl => match us, hl with | [_, _, _], _ => rfl
  have g20 := PySem.W.mg_of X G a20
  have F21 := fun_mk (st := s_L_sill) l21 c21 k21
  have b21 := F21.binds (ps := ["_law_pool_here", "_law_spot", "_law_crew"]) fun _ _ _ _ _ _ us hl => match us, hl with | [_, _, _], _ => rfl
  have g21 := PySem.W.mg_of X G a21
  have F22 := fun_mk (st := s_L_scale) l22 c22 k22
  have b22 := F22.binds (ps := ["_law_pool_here", "_law_spot", "_law_number"]) fun _ _ _ _ _ _ us hl => match us, hl with | [_, _, _], _ => rfl
  have g22 := PySem.W.mg_of X G a22
  have F23 := fun_mk (st := s_L_ladder) l23 c23 k23
  have b23 := F23.binds (ps := ["_law_crew", "_law_slots", "_law_sill_here"]) fun _ _ _ _ _ _ us hl => match us, hl with | [_, _, _], _ => rfl
  have g23 := PySem.W.mg_of X G a23
  have F24 := fun_mk (st := s_L_behind) l24 c24 k24
  have b24 := F24.binds (ps := ["_law_crew", "_law_rank", "_law_sill_here"]) fun _ _ _ _ _ _ us hl => match us, hl with | [_, _, _], _ => rfl
  have g24 := PySem.W.mg_of X G a24
  have F25 := fun_mk (st := s_L_least_rents) l25 c25 k25
  have b25 := F25.binds (ps := ["_law_crew", "_law_scale_here", "_law_sill_here"]) fun _ _ _ _ _ _ us hl => match us, hl with | [_, _, _], _ => rfl
  have g25 := PySem.W.mg_of X G a25
  have F26 := fun_mk (st := s_L_share) l26 c26 k26
  have b26 := F26.binds (ps := ["_law_pool_here", "_law_spot", "_law_span"]) fun _ _ _ _ _ _ us hl => match us, hl with | [_, _, _], _ => rfl
  have g26 := PySem.W.mg_of X G a26
  have F27 := fun_mk (st := s_L_others) l27 c27 k27
  have b27 := F27.binds (ps := ["_law_pool_here", "_law_crew", "_law_scale_here", "_law_sill_here"]) fun _ _ _ _ _ _ us hl => match us, hl with | [_, _, _, _], _ => rfl
  have g27 := PySem.W.mg_of X G a27
  have F28 := fun_mk (st := s_L_near) l28 c28 k28
  have b28 := F28.binds (ps := ["_law_rents"]) fun _ _ _ _ _ _ us hl => match us, hl with | [_], _ => rfl
  have g28 := PySem.W.mg_of X G a28
  have F29 := fun_mk (st := s_L_holds) l29 c29 k29
  have b29 := F29.binds (ps := ["_law_rents", "_law_crew", "_law_scale_here", "_law_sill_here"]) fun _ _ _ _ _ _ us hl => match us, hl with | [_, _, _, _], _ => rfl
  have g29 := PySem.W.mg_of X G a29
  have F30 := fun_mk (st := s_L_none_less) l30 c30 k30
  have b30 := F30.binds (ps := ["_law_rents", "_law_rows", "_law_crew", "_law_scale_here", "_law_sill_here"]) fun _ _ _ _ _ _ us hl => match us, hl with | [_, _, _, _, _], _ => rfl
  have g30 := PySem.W.mg_of X G a30
  have F31 := fun_mk (st := s_L_integer) l31 c31 k31
  have b31 := F31.binds (ps := ["_law_got"]) fun _ _ _ _ _ _ us hl => match us, hl with | [_], _ => rfl
  have g31 := PySem.W.mg_of X G a31
  have F32 := fun_mk (st := s_L_same) l32 c32 k32
  have b32 := F32.binds (ps := ["_law_got", "_law_wanted"]) fun _ _ _ _ _ _ us hl => match us, hl with | [_, _], _ => rfl
  have g32 := PySem.W.mg_of X G a32
  have F33 := fun_mk (st := s_law) l33 c33 k33
  have b33 := F33.binds (ps := ["_law_script"]) fun _ _ _ _ _ _ us hl => match us, hl with | [_], _ => rfl
  have g33 := PySem.W.mg_of X G a33
  have gLET := PySem.W.mg_of X G aL
  refine ⟨PySem.W.fnOf "law" "law" (defArgs s_law) (defBody s_law) (defScope s_law) .none kV33 dc33 pm33 an33 cd33 ct33, fun s v => .of_eq rfl, fun base _ _ => ?_⟩
  have T : TxtA K C := ⟨⟨pg, hd, po, sa⟩, nT, nN, nR⟩
  have FI := fun_mk (st := s_Allot) lI cI kI
  have bI := FI.binds (ps := ["self", "takers", "total", "rents"]) fun _ _ _ _ _ _ us hl => match us, hl with | [_, _, _, _], _ => rfl
  have M : Mk K C fI := ⟨mk, aI, iI, kc⟩
  have d_is_name : Def l.prog w K mg base "is_name" 1 ["word"] (spIsName) := ⟨_, _, ok_is_name F0 m_len m_all gLET, g0, k0, b0⟩
  have d_check_size : Def l.prog w K mg base "check_size" 1 ["size", "low", "high"] (spRange) := ⟨_, _, ok_check_size F1 , g1, k1, b1⟩
  have d_check_range : Def l.prog w K mg base "check_range" 1 ["number", "low", "high"] (spRange) := ⟨_, _, ok_check_range F2 , g2, k2, b2⟩
  have d_names : Def l.prog w K mg base "_names" 1 ["bidders"] (spNamesOf K) := ⟨_, _, ok_names F5 , g5, k5, b5⟩
  have d_check_bidders : Def l.prog w K mg base "check_bidders" 2 ["bidders"] (spCheckB K) := ⟨_, _, ok_check_bidders F3 m_len m_enumerate d_check_size d_check_range d_is_name d_names, g3, k3, b3⟩
  have d_check : Def l.prog w K mg base "_check" 3 ["bidders", "hours", "floor"] (spCheck K) := ⟨_, _, ok_check F4 d_check_range d_check_bidders, g4, k4, b4⟩
  have d_strength : Def l.prog w K mg base "strength" 1 ["bidder"] (spStrength K) := ⟨_, _, ok_strength F6 , g6, k6, b6⟩

  have d_ranked : Def l.prog w K mg base "ranked" 5 ["bidders"] (spRanked K) := ⟨_, _, ok_ranked F8 m_sorted g7 b7 (ok_weakness F7 d_strength), g8, k8, b8⟩
  have G_ladder := ok_ladder (P := l.prog) (w := w) (mg := mg) (base := base) F9 m_tuple d_check d_strength d_names d_ranked
  have g_ladder := g9
  have k_ladder := k9
  obtain ⟨⟨_, kb_ladder_hours_floor⟩, _⟩ := ladder_kb F9
  have d_check_rates : Def l.prog w K mg base "_check_rates" 2 ["rates"] (spCheckR K) := ⟨_, _, ok_check_rates F11 m_len d_check_size d_check_range, g11, k11, b11⟩
  have d_rents : Def l.prog w K mg base "_rents" 6 ["bidders", "rates", "floor"] (spRents K) := ⟨_, _, ok_rents F12 m_len m_range m_reversed m_max d_ranked d_strength, g12, k12, b12⟩
  have G_Allot := ok_Allot (P := l.prog) (w := w) (mg := mg) (base := base) FI T m_tuple
  have G_dearest := ok_dearest (P := l.prog) (w := w) (mg := mg) (base := base) F10 m_len m_sum m_zip d_check_bidders d_check_rates G_ladder g_ladder k_ladder kb_ladder_hours_floor d_strength d_rents M G_Allot (PySem.W.mg_of X G aC) bI
  have g_dearest := g10
  have k_dearest := k10
  obtain ⟨⟨_, kb1⟩, ⟨_, kb2⟩⟩ := dearest_kb F10
  have d_L_cell : Def l.prog w K mg base "_law_cell" 1 ["_law_script", "_law_k"] (spCellA K) := ⟨_, _, ok_L_cell F13 m_len m_range m_abs, g13, k13, b13⟩
  have d_L_mixed : Def l.prog w K mg base "_law_mixed" 1 ["_law_cell_here", "_law_k"] (spMixed) := ⟨_, _, ok_L_mixed F14 m_abs, g14, k14, b14⟩
  have d_L_pool : Def l.prog w K mg base "_law_pool" 2 ["_law_cell_here", "_law_number"] (spPool) := ⟨_, _, ok_L_pool F15 m_range m_abs d_L_mixed, g15, k15, b15⟩
  have d_L_part : Def l.prog w K mg base "_law_part" 1 ["_law_pool_here", "_law_spot", "_law_under", "_law_size"] (spPart K) := ⟨_, _, ok_L_part F16 m_int, g16, k16, b16⟩
  have d_L_names : Def l.prog w K mg base "_law_names" 2 ["_law_pool_here", "_law_spot", "_law_number"] (spNames K) := ⟨_, _, ok_L_names F17 m_range m_int d_L_part, g17, k17, b17⟩
  have d_L_far : Def l.prog w K mg base "_law_far" 1 ["_law_pool_here", "_law_spot", "_law_number"] (spFar K) := ⟨_, _, ok_L_far F18 m_range m_int, g18, k18, b18⟩
  have d_L_chosen : Def l.prog w K mg base "_law_chosen" 2 ["_law_pool_here", "_law_spot", "_law_under", "_law_small", "_law_crest", "_law_whole"] (spChosen K) := ⟨_, _, ok_L_chosen F19 m_int d_L_part, g19, k19, b19⟩
  have d_L_bidders : Def l.prog w K mg base "_law_bidders" 3 ["_law_pool_here", "_law_spot", "_law_number"] (spBidders K) := ⟨_, _, ok_L_bidders F20 m_range m_int d_L_part d_L_names d_L_far d_L_chosen, g20, k20, b20⟩
  have d_L_sill : Def l.prog w K mg base "_law_sill" 2 ["_law_pool_here", "_law_spot", "_law_crew"] (spSill K) := ⟨_, _, ok_L_sill F21 m_int m_len m_min m_max d_L_part d_L_far, g21, k21, b21⟩
  have d_L_scale : Def l.prog w K mg base "_law_scale" 3 ["_law_pool_here", "_law_spot", "_law_number"] (spScale K) := ⟨_, _, ok_L_scale F22 m_range m_sorted d_L_far d_L_chosen, g22, k22, b22⟩
  have d_L_ladder : Def l.prog w K mg base "_law_ladder" 1 ["_law_crew", "_law_slots", "_law_sill_here"] (spLadderW K) := ⟨_, _, ok_L_ladder F23 m_range m_len m_tuple, g23, k23, b23⟩
  have d_L_behind : Def l.prog w K mg base "_law_behind" 1 ["_law_crew", "_law_rank", "_law_sill_here"] (spBehind K) := ⟨_, _, ok_L_behind F24 m_range m_len m_max, g24, k24, b24⟩
  have d_L_least_rents : Def l.prog w K mg base "_law_least_rents" 2 ["_law_crew", "_law_scale_here", "_law_sill_here"] (spLeast K) := ⟨_, _, ok_L_least_rents F25 m_range m_len d_L_behind, g25, k25, b25⟩
  have d_L_share : Def l.prog w K mg base "_law_share" 2 ["_law_pool_here", "_law_spot", "_law_span"] (spShare K) := ⟨_, _, ok_L_share F26 m_int m_min d_L_part d_L_far, g26, k26, b26⟩
  have d_L_others : Def l.prog w K mg base "_law_others" 3 ["_law_pool_here", "_law_crew", "_law_scale_here", "_law_sill_here"] (spOthers K) := ⟨_, _, ok_L_others F27 m_len m_range d_L_ladder d_L_behind d_L_share, g27, k27, b27⟩
  have d_L_near : Def l.prog w K mg base "_law_near" 1 ["_law_rents"] (spNear K) := ⟨_, _, ok_L_near F28 m_len m_range m_list, g28, k28, b28⟩
  have d_L_holds : Def l.prog w K mg base "_law_holds" 2 ["_law_rents", "_law_crew", "_law_scale_here", "_law_sill_here"] (spHoldsG K) := ⟨_, _, ok_L_holds F29 m_len m_range d_L_ladder, g29, k29, b29⟩
  have d_L_none_less : Def l.prog w K mg base "_law_none_less" 3 ["_law_rents", "_law_rows", "_law_crew", "_law_scale_here", "_law_sill_here"] (spNone K) := ⟨_, _, ok_L_none_less F30 m_len m_range d_L_holds, g30, k30, b30⟩
  have d_L_integer : Def l.prog w K mg base "_law_integer" 1 ["_law_got"] (spInteger) := ⟨_, _, ok_L_integer F31 m_isinstance m_int m_bool, g31, k31, b31⟩
  have d_L_same : Def l.prog w K mg base "_law_same" 4 ["_law_got", "_law_wanted"] (spSame 2) := ⟨_, _, ok_L_same F32 g32 b32 ⟨m_isinstance, m_int, m_bool, m_str, m_tuple, m_list, m_len, m_range⟩ d_L_integer 2 (by decide), g32, k32, b32⟩
  exact ok_law F33 T m_list m_tuple m_len m_range G_dearest g_dearest k_dearest kb1 kb2 d_L_cell d_L_pool d_L_part d_L_bidders d_L_scale d_L_sill d_L_least_rents d_L_others d_L_near d_L_none_less d_L_same
end TK

open PySem PySem.W PyProof.Rows
set_option maxRecDepth 100000 in
set_option maxHeartbeats 0 in
theorem PySem.Challenge.cw_turnsandkeys_k31_whole_rents_least_holds : PySem.Challenge.rw_turnsandkeys_k31_whole_rents_least.Holds := by
  w_on; o_law; k_head; (case hw => w_witness2)
  k_fill
  refine L2.walk_of (l := PySem.Challenge.rw_turnsandkeys_k31_whole_rents_least) (n := 63) (k := 8) (x := "_law_script") (CX := fun _ => L2.CX0) (sp := fun w => TK.spLaw _) rfl (by decide) rfl ⟨rfl, by decide, by decide⟩ (fun w h Y => PySem.W.kIn_of Y) ?F (fun _ _ a ns hl _ hS => ⟨a, ns, rfl, hS, hl, fun _ => rfl⟩) (fun _ _ _ _ _ h => h)
  case F =>
    intro w mg fa h KX G hmg
    refine' TK.all_mk KX G hmg ?a0 ?l0 ?c0 ?k0 ?a1 ?l1 ?c1 ?k1 ?a2 ?l2 ?c2 ?k2 ?a3 ?l3 ?c3 ?k3 ?a4 ?l4 ?c4 ?k4 ?a5 ?l5 ?c5 ?k5 ?a6 ?l6 ?c6 ?k6 ?a7 ?l7 ?c7 ?k7 ?a8 ?l8 ?c8 ?k8 ?a9 ?l9 ?c9 ?k9 ?a10 ?l10 ?c10 ?k10 ?a11 ?l11 ?c11 ?k11 ?a12 ?l12 ?c12 ?k12 ?a13 ?l13 ?c13 ?k13 ?a14 ?l14 ?c14 ?k14 ?a15 ?l15 ?c15 ?k15 ?a16 ?l16 ?c16 ?k16 ?a17 ?l17 ?c17 ?k17 ?a18 ?l18 ?c18 ?k18 ?a19 ?l19 ?c19 ?k19 ?a20 ?l20 ?c20 ?k20 ?a21 ?l21 ?c21 ?k21 ?a22 ?l22 ?c22 ?k22 ?a23 ?l23 ?c23 ?k23 ?a24 ?l24 ?c24 ?k24 ?a25 ?l25 ?c25 ?k25 ?a26 ?l26 ?c26 ?k26 ?a27 ?l27 ?c27 ?k27 ?a28 ?l28 ?c28 ?k28 ?a29 ?l29 ?c29 ?k29 ?a30 ?l30 ?c30 ?k30 ?a31 ?l31 ?c31 ?k31 ?a32 ?l32 ?c32 ?k32 ?a33 ?l33 ?c33 ?k33 ?n_ladder_hours ?n_ladder_floor ?n_dearest_floor ?aL ?z_len ?z_all ?z_enumerate ?z_tuple ?z_list ?z_range ?z_abs ?z_int ?z_min ?z_max ?z_reversed ?z_isinstance ?z_bool ?z_str ?z_sum ?z_sorted ?z_zip ?aC ?aI ?iI ?lI ?cI ?kI ?pg ?hd ?po ?sa ?mk ?kc ?nT ?nN ?nR
    (case a0 => k_is); (case l0 => k_is); (case c0 => k_is); (case k0 => k_is); (case a1 => k_is); (case l1 => k_is); (case c1 => k_is); (case k1 => k_is); (case a2 => k_is); (case l2 => k_is); (case c2 => k_is); (case k2 => k_is); (case a3 => k_is); (case l3 => k_is); (case c3 => k_is); (case k3 => k_is); (case a4 => k_is); (case l4 => k_is); (case c4 => k_is); (case k4 => k_is); (case a5 => k_is); (case l5 => k_is); (case c5 => k_is); (case k5 => k_is); (case a6 => k_is); (case l6 => k_is); (case c6 => k_is); (case k6 => k_is); (case a7 => k_is); (case l7 => k_is); (case c7 => k_is); (case k7 => k_is); (case a8 => k_is); (case l8 => k_is); (case c8 => k_is); (case k8 => k_is); (case a9 => k_is); (case l9 => k_is); (case c9 => k_is); (case k9 => k_is); (case a10 => k_is); (case l10 => k_is); (case c10 => k_is); (case k10 => k_is); (case a11 => k_is); (case l11 => k_is); (case c11 => k_is); (case k11 => k_is); (case a12 => k_is); (case l12 => k_is); (case c12 => k_is); (case k12 => k_is); (case a13 => k_is); (case l13 => k_is); (case c13 => k_is); (case k13 => k_is); (case a14 => k_is); (case l14 => k_is); (case c14 => k_is); (case k14 => k_is); (case a15 => k_is); (case l15 => k_is); (case c15 => k_is); (case k15 => k_is); (case a16 => k_is); (case l16 => k_is); (case c16 => k_is); (case k16 => k_is); (case a17 => k_is); (case l17 => k_is); (case c17 => k_is); (case k17 => k_is); (case a18 => k_is); (case l18 => k_is); (case c18 => k_is); (case k18 => k_is); (case a19 => k_is); (case l19 => k_is); (case c19 => k_is); (case k19 => k_is); (case a20 => k_is); (case l20 => k_is); (case c20 => k_is); (case k20 => k_is); (case a21 => k_is); (case l21 => k_is); (case c21 => k_is); (case k21 => k_is); (case a22 => k_is); (case l22 => k_is); (case c22 => k_is); (case k22 => k_is); (case a23 => k_is); (case l23 => k_is); (case c23 => k_is); (case k23 => k_is); (case a24 => k_is); (case l24 => k_is); (case c24 => k_is); (case k24 => k_is); (case a25 => k_is); (case l25 => k_is); (case c25 => k_is); (case k25 => k_is); (case a26 => k_is); (case l26 => k_is); (case c26 => k_is); (case k26 => k_is); (case a27 => k_is); (case l27 => k_is); (case c27 => k_is); (case k27 => k_is); (case a28 => k_is); (case l28 => k_is); (case c28 => k_is); (case k28 => k_is); (case a29 => k_is); (case l29 => k_is); (case c29 => k_is); (case k29 => k_is); (case a30 => k_is); (case l30 => k_is); (case c30 => k_is); (case k30 => k_is); (case a31 => k_is); (case l31 => k_is); (case c31 => k_is); (case k31 => k_is); (case a32 => k_is); (case l32 => k_is); (case c32 => k_is); (case k32 => k_is); (case a33 => k_is); (case l33 => k_is); (case c33 => k_is); (case k33 => k_is); (case n_ladder_hours => k_is); (case n_ladder_floor => k_is); (case n_dearest_floor => k_is); (case aL => k_is); (case z_len => k_is); (case z_all => k_is); (case z_enumerate => k_is); (case z_tuple => k_is); (case z_list => k_is); (case z_range => k_is); (case z_abs => k_is); (case z_int => k_is); (case z_min => k_is); (case z_max => k_is); (case z_reversed => k_is); (case z_isinstance => k_is); (case z_bool => k_is); (case z_str => k_is); (case z_sum => k_is); (case z_sorted => k_is); (case z_zip => k_is); (case aC => k_is); (case aI => k_is); (case iI => k_is); (case lI => k_is); (case cI => k_is); (case kI => k_is); (case pg => k_is); (case hd => k_is); (case po => k_is); (case sa => k_is); (case mk => k_is); (case kc => k_is); (case nT => k_is); (case nN => k_is); (case nR => k_is)
