import PyProof.Rows.All
import Wide.All
import OpenK.AllK
import Wide.FinOn
import HandS.ForMost
import HandS.Style
import HandS.IsInst
import HandS.Defaults
import HandS.MakeKwOnly
import HandS.SortKw
import HandS.Walk
import KE.KSortKeySt
import KE.GoesEnum
import KE.DatumOrd
import KE.KRevSl
import HandS.Star
import KE.KTupSum
import KE.GoesMore
import KE.GoesZip
import HandS.DictComp
import HandS.RevRange
import HandS.Strs
import HandS.OwnEq
import HandS.SlotsOwn
import HandS.IterVal
import KE.KOwnIter
import KE.KOpsOwn
import KE.KEqDict
import HandS.Gcd
import HandS.Conv
import PySem.Challenge.RW_turnsandkeys_k32_guests_mean
set_option Elab.async false
set_option linter.all false
set_option maxRecDepth 100000
set_option maxHeartbeats 4000000
namespace TK
open PySem PySem.Spec PyProof.Rows L2
/-! ### a def that keeps its promise, as callers see it -/
structure Def (P : Program) (w : World) (K : PySem.W.Frag) (mg : Str → Option Value) (base : Heap) (x : Str) (k : Nat) (ps : List Str) (sp : Sp) : Prop where
  ex : ∃ (f : Addr) (fd : FuncData), FnOk P w K mg base CX0 k f fd ps sp ∧ mg x = some (.ref f) ∧ PySem.W.keepIn K (.ref f) = true ∧ Binds K fd ps []
section
variable {X : Cx} {x : Str} {k : Nat} {ps : List Str} {sp : Sp} {e : Expr} {es : List Expr} {t : TA} {p pos : Pos}
theorem pe_callD (D : Def X.prog X.w X.K X.mg X.base x k ps sp) (hr : Room k X.A) (hg : Gl X x) (ha : PA X (e :: es) t) (hdb : (x == ("__debug__" : Str)) = false := by decide)
    (he : starEach (e :: es) X.env = (false, eval e X.env) :: starEach es X.env := by rfl) (hpl : (backTo pos (starEach es X.env)).any (·.1) = false := by rfl) :
    PE X (.Call (.Name x p) (e :: es) [] pos) (tCall sp [] E0 t) := by
  obtain ⟨f, fd, F, g, kp, b⟩ := D.ex
  exact pe_call F hr hg g kp b .nil pass0 ha hdb he hpl
end
section
variable {X : Cx}
/-- x is True, x is False: x of any kind -/
def rIsT : R2 := fun x y H Q => ∃ b : Bool, y = .bl b ∧ Q (.bl (decide (x = .bl b))) H
theorem op_isT : OpR X (compareOp .Is) rIsT := by
  intro pins s σ H x y v u Q I rx ry h
  obtain ⟨b, rfl, q⟩ := h
  cases (show u = Value.bool b from ry)
  cases x with
  | bl a =>
    cases (show v = Value.bool a from rx)
    by_cases e : a = b
    · subst e
      exact wpAny_is_self rfl ⟨.bl true, H, I, rfl, by simpa using q⟩
    · exact wpAny_is_other rfl (fun z => e (Value.bool.inj z)) ⟨.bl false, H, I, rfl, by simpa [e] using q⟩
  | non => cases (show v = Value.none from rx); exact wpAny_is_other rfl (fun z => nomatch z) ⟨.bl false, H, I, rfl, by simpa using q⟩
  | int i => obtain ⟨t, rfl⟩ := (show ∃ t, v = Value.int i t from rx); exact wpAny_is_other rfl (fun z => nomatch z) ⟨.bl false, H, I, rfl, by simpa using q⟩
  | str i => obtain ⟨t, rfl⟩ := (show ∃ t, v = Value.str i t from rx); exact wpAny_is_other rfl (fun z => nomatch z) ⟨.bl false, H, I, rfl, by simpa using q⟩
  | byt i => obtain ⟨t, rfl⟩ := (show ∃ t, v = Value.bytes i t from rx); exact wpAny_is_other rfl (fun z => nomatch z) ⟨.bl false, H, I, rfl, by simpa using q⟩
  | flt i => obtain ⟨t, rfl⟩ := (show ∃ t, v = Value.float i t from rx); exact wpAny_is_other rfl (fun z => nomatch z) ⟨.bl false, H, I, rfl, by simpa using q⟩
  | ref a => cases (show v = Value.ref a from rx); exact wpAny_is_other rfl (fun z => nomatch z) ⟨.bl false, H, I, rfl, by simpa using q⟩
  | ty n => cases (show v = Value.type n from rx); exact wpAny_is_other rfl (fun z => nomatch z) ⟨.bl false, H, I, rfl, by simpa using q⟩
end
/-! ### rules within a comprehension: K by name -/
section
variable {X : Cx} {K : PySem.W.Frag}
theorem ix_listK (h : X.K = K) : IxR X (rIxL K) := h ▸ ix_list
theorem ix_tupK (h : X.K = K) : IxR X (rIxT K) := h ▸ ix_tup
theorem pg_tupK (h : X.K = K) {elts : List Expr} {kk : Nat} {pos : Pos} {n : Nat} {t : TGs} (hc : X.calm = true) (hp : PGs X elts t) (hn : (assignEach elts X.env).length = n := by rfl) (hst : (assignEach elts X.env).findIdx? (·.1) = none := by rfl) : PG X (.Tuple elts kk pos) (gTup K n t) := h ▸ pg_tup hc hp hn hst
theorem op_in_seqK (h : X.K = K) : OpR X (compareOp .In) (rIn K false) := h ▸ op_in_seq
theorem op_notIn_seqK (h : X.K = K) : OpR X (compareOp .NotIn) (rIn K true) := h ▸ op_notIn_seq
theorem call_len_seqK (h : X.K = K) : CallR X (.builtin "len") (fun xs H Q => ∃ p ys, xs = [.ref p] ∧ (SqL K H p ys ∨ SqT K H p ys) ∧ Q (.int ys.length) H) := h ▸ call_len_seq
end
/-! ### heaps -/
theorem same_upd {H : Hp} {p : Addr} {o : HO} (h : H p = none) : Same H (upd H p o) := fun b x e => by
  rw [upd_ne (ne_of_none e h)]
  exact e
theorem same_at {H H' : Hp} {p : Addr} {o : HO} (s : Same H H') (h : H p = none) : Same H (upd H' p o) := fun b x e => by
  rw [upd_ne (ne_of_none e h)]
  exact s b x e
theorem same_tup {K : PySem.W.Frag} {H H' : Hp} {a : Addr} {xs : List V} (e : Same H H') (h : SqT K H a xs) : SqT K H' a xs := by
  rcases h with (h | ⟨o, h⟩) | h
  · exact .inl (.inl (e _ _ h))
  · exact .inl (.inr ⟨o, e _ _ h⟩)
  · exact .inr h
theorem lstAt {K : PySem.W.Frag} {H : Hp} {a : Addr} {xs : List V} (h : H a = some (.lst xs)) : SqL K H a xs := .inl (.inl h)
theorem tupAt {K : PySem.W.Frag} {H : Hp} {a : Addr} {xs : List V} (h : H a = some (.tup xs)) : SqT K H a xs := .inl (.inl h)
theorem atI_in {α : Type} {xs : List α} {i : Int} {v : α} (h0 : 0 ≤ i) (h : xs[i.toNat]? = some v) : atI xs i = some v := by
  obtain ⟨n, rfl⟩ : ∃ n : Nat, i = (n : Int) := ⟨i.toNat, by omega⟩
  exact atI_nat h
theorem yesT {σ : L2.St} {H : Hp} {A B : Hp → Prop} (h : A H) : tYes σ H (fun b H3 => if b = true then A H3 else B H3) := by
  show if true = true then A H else B H
  rw [if_pos rfl]
  exact h
end TK

namespace TK
open PySem PySem.Spec PyProof.Rows L2
section
variable {X : Cx} {pins : List (Addr × Obj)} {σ : L2.St} {H : Hp} {s : Shared}
/-- an untracked object of ours comes to be tracked -/
theorem adopt {a : Addr} {o : HO} (I : Inv X pins σ H s) (f : FpOk X pins H a) (new : ObjOk X.prog X.w (upd H a o) s.heap a o) : Inv X pins σ (upd H a o) s := by
  obtain ⟨q0, q1, q2, q3, q4, q5⟩ := f
  have ne : ∀ b u, H b = some u → b ≠ a := fun b u e z => by rw [z, q0] at e; cases e
  refine I.step (h' := s.heap) (g' := s.gens) (t' := s.toks) (d' := s.drawn) (ch := [a]) (fun b hb => ?_) (fun b o _ _ _ e _ => e) (fun b o _ _ _ e _ => ⟨o.slots, e⟩) (fun b o hb _ n => ?_) (fun b o _ e => ⟨o, e⟩) (fun b xs e => ?_) (fun b o u e => ?_) (fun b ps e => ⟨#[], ?_⟩) (fun m hm => hm) (fun b u e => ?_) I.bare
  · have e : b = a := by simpa using hb
    subst e
    exact ⟨q3, q1, q4, q5⟩
  · rw [upd_ne (fun z => hb (by simp [z]))]; exact n
  · rw [upd_ne (ne b _ e)]; exact e
  · rw [upd_ne (ne b _ e)]; exact e
  · rw [upd_ne (ne b _ e), e]; simp
  · by_cases hb : b = a
    · subst hb
      rw [upd_same] at e
      cases e
      exact new
    · rw [upd_ne hb] at e
      exact (I.hok b u e).stay (fun c v _ q => q) (fun c q => by rw [upd_ne (ne c _ q)]; exact q) fun c xs q => by rw [upd_ne (ne c _ q)]; exact q
/-- a def called from within a built-in's method -/
theorem run_fn2 {k : Nat} {f : Addr} {fd : FuncData} {ps : List Str} {sp : Sp} {Q : VK} {us : List Value} {itm : List V} {E' : Value → Shared → Prop} (F : FnOk X.prog X.w X.K X.mg X.base CX0 k f fd ps sp) (hr : Room (k + 2) X.A) (hb : Binds X.K fd ps [])
    (I : Inv X pins σ H s) (r : Vals itm us) (h : sp itm H Q E0) : wpAny (model X.prog X.w) X.A.in1.in1 (call (.ref f) us) (EP X pins σ Q) E' s := by
  have hl : (us ++ []).length = ps.length := by rw [List.append_nil, ← r.length]; exact F.len _ _ _ _ h
  have hbb := hb s us I.kIn hl
  rw [List.append_nil] at hbb
  refine wpAny_call (codeAny_mono (F.run X.A.in1.in1 X.stack s H ⟨us, []⟩ us itm Q E0 hr.in1.in1 I.env0.in1.in1 hbb r h) fun r s' hq => ?_)
  cases r with
  | error e => exact False.elim hq
  | ok fl =>
    cases fl with
    | ret u => exact I.after hq
    | next => exact False.elim hq
    | brk => exact False.elim hq
    | cont => exact False.elim hq
end
section
variable {X : Cx} {pins : List (Addr × Obj)} {σ : L2.St} {H : Hp} {s : Shared} {A : Around} {E : Value → Shared → Prop} {a kS : Addr} {itm : List Value} {kl : List Int} {kar : Array Value} {e ep1 : Nat} {P : PySem.Fin → Shared → Prop}
theorem sb_tail {st : SortSt} (I : Inv X pins σ H s) (gk : s.heap.get? kS = some (seqObj "list" kar e)) (ga : s.heap.get? a = some (seqObj "list" #[] ep1)) (fa : FpOk X pins H a) (fk : FpOk X pins H kS) (hka : kS ≠ a)
    (hki : IntsAre kar.toList kl) (hle : kl.length = itm.length) (hsm : itm.length ≤ sizeLine) (hp : (arrOf st).Perm (kar.zip itm.toArray)) (hs : SortedTo (arrOf st) (arrOf st).size) (hfl : failedOf st = none)
    (hst : Stable intKind (arrOf st) (kar.zip itm.toArray))
    (h : ∀ s' out c, Inv X pins σ H s' → s'.heap.get? a = some (seqObj "list" out c) → KskOutSt false kl itm out.toList → P (.done (.ret .none)) s') :
    wpAny (model X.prog X.w) A (ksk_tail a false ep1 (.ref kS) st) P E s := by
  have hsm2 := hsm
  rw [sizeLine_eq] at hsm2
  have zk : kar.size = itm.length := by
    have h1 := hki.length
    rw [Array.length_toList] at h1
    omega
  have za : (arrOf st).size = itm.length := by rw [hp.size_eq, Array.size_zip, zk, List.size_toArray, Nat.min_self]
  have zo : ((arrOf st).map (·.2)).size = itm.length := by rw [Array.size_map]; exact za
  have s1 := Heap.SameBut.update s.heap kS (Obj.mapSeq fun _ => (#[] : Array Value))
  have ga1 : (s.heap.update kS (Obj.mapSeq fun _ => (#[] : Array Value))).get? a = some (seqObj "list" #[] ep1) := (s1.2 a hka.symm).trans ga
  have s2 := Heap.SameBut.update (s.heap.update kS (Obj.mapSeq fun _ => (#[] : Array Value))) a (Obj.mapSeq fun _ => (arrOf st).map (·.2))
  obtain ⟨cn, gcn⟩ : ∃ cn, ((s.heap.update kS (Obj.mapSeq fun _ => (#[] : Array Value))).update a (Obj.mapSeq fun _ => (arrOf st).map (·.2))).get? a = some (seqObj "list" ((arrOf st).map (·.2)) cn) :=
    ⟨_, get?_update_seq ga1 fun _ => (arrOf st).map (·.2)⟩
  obtain ⟨k0, k1, k2, k3, k4, k5⟩ := fk
  obtain ⟨a0, a1, a2, a3, a4, a5⟩ := fa
  have I1 : Inv X pins σ H { s with heap := s.heap.update kS (Obj.mapSeq fun _ => (#[] : Array Value)) } := I.turned (t' := s.toks) (fun b o hb q => (s1.2 b hb).trans q) k0 k1 k3 k4 k5
  unfold ksk_tail
  try dsimp only
  refine wpAny_bind (listUpdate_at gk rfl ?_ (by rw [zk, sizeLine_eq]; omega) (Nat.zero_le _))
  refine wpAny_bind (wpAny_letGo ?_)
  refine wpAny_bind (seqEpoch_at ga1 rfl ?_)
  refine wpAny_bind (listUpdate_at ga1 rfl ?_ (Nat.zero_le _) (Nat.le_trans (Nat.le_of_eq zo) (by rw [sizeLine_eq]; omega)))
  rw [hfl]
  simp only [bne_self_eq_false, Bool.false_eq_true, if_false]
  refine wpAny_pure (h _ _ cn (I1.turned (t' := s.toks) (fun b o hb q => (s2.2 b hb).trans q) a0 a1 a3 a4 a5) gcn ?_)
  exact ksk_outSt (b := false) hki hp hs (by simpa using hst)
theorem sb_end (I : Inv X pins σ H s) (gk : s.heap.get? kS = some (seqObj "list" kar e)) (ga : s.heap.get? a = some (seqObj "list" #[] ep1)) (fa : FpOk X pins H a) (fk : FpOk X pins H kS) (hka : kS ≠ a)
    (hki : IntsAre kar.toList kl) (hle : kl.length = itm.length) (hsm : itm.length ≤ sizeLine)
    (h : ∀ s' out c, Inv X pins σ H s' → s'.heap.get? a = some (seqObj "list" out c) → KskOutSt false kl itm out.toList → P (.done (.ret .none)) s') :
    wpAny (model X.prog X.w) A (ksk_end a false itm.toArray ep1 (.ref kS) kar) P E s := by
  have hsm2 := hsm
  rw [sizeLine_eq] at hsm2
  have zk : kar.size = itm.length := by
    have h1 := hki.length
    rw [Array.length_toList] at h1
    omega
  have zz : (kar.zip itm.toArray).size = itm.length := by rw [Array.size_zip, zk, List.size_toArray, Nat.min_self]
  unfold ksk_end
  try dsimp only
  simp only [Bool.false_eq_true, if_false]
  by_cases few : itm.toArray.size < 2
  · rw [if_pos few, if_pos few]
    refine wpAny_bind (wpAny_pure ?_)
    rw [StateT.run_pure]
    refine wpAny_bind (wpAny_pure ?_)
    try dsimp only
    refine sb_tail (st := SortSt.mk' general' (kar.zip itm.toArray) #[] 7 none) I gk ga fa fk hka hki hle hsm (Array.Perm.refl _) ?_ rfl (Stable.refl _) h
    intro i j hij jlt
    have hj2 : j < (kar.zip itm.toArray).size := jlt
    rw [zz] at hj2
    rw [List.size_toArray] at few
    have : i = j := by omega
    subst this
    exact Int.le_refl _
  · rw [if_neg few, if_neg few]
    rw [List.size_toArray] at few
    rw [ksk_kind hki (by rw [zk]; omega)]
    refine wpAny_bind (wpAny_pure ?_)
    refine wpAny_bind (wpAny_mono (wpS_sortRunsSt (κ := intKind) (a₀ := kar.zip itm.toArray)
      (st := SortSt.mk' oneType' (kar.zip itm.toArray) #[] 7 none)
      (Q := fun _ sq => (arrOf sq).Perm (kar.zip itm.toArray) ∧ failedOf sq = none ∧ SortedTo (arrOf sq) (arrOf sq).size ∧
        Stable intKind (arrOf sq) (kar.zip itm.toArray))
      intKind_oneLt (ksk_keysOfInt (ksk_intKeys hki)) ⟨Array.Perm.refl _, rfl, rfl⟩ rfl (Stable.refl _) (by rw [zz]; omega)
      fun sq a1 a2 a3 a4 => ⟨a1, a2, by rw [a1.size_eq]; exact sortedTo_of_int a3, a4⟩) ?_ fun _ _ e => e)
    rintro ⟨⟨⟩, sq⟩ s' ⟨rfl, hp, hf, hs, hst⟩
    try dsimp only
    exact sb_tail I gk ga fa fk hka hki hle hsm hp hs hf hst h
theorem sb_rest {f : Value} (I : Inv X pins σ H s) (gk : s.heap.get? kS = some (seqObj "list" #[] 0)) (ga : s.heap.get? a = some (seqObj "list" #[] ep1)) (fa : FpOk X pins H a) (fk : FpOk X pins H kS) (hka : kS ≠ a)
    (hle : kl.length = itm.length) (hsm : itm.length ≤ sizeLine)
    (turn : ∀ (i : Nat) (v : Value) (k : Int) (pins' : List (Addr × Obj)) (s' : Shared), itm[i]? = some v → kl[i]? = some k → Inv X pins' σ H s' →
      wpAny (model X.prog X.w) A (call f [v]) (EP X pins' σ fun x H' => x = .int k ∧ H' = H) (fun _ _ => False) s')
    (h : ∀ s' out c, Inv X pins σ H s' → s'.heap.get? a = some (seqObj "list" out c) → KskOutSt false kl itm out.toList → P (.done (.ret .none)) s') :
    wpAny (model X.prog X.w) A (ksk_rest a f false itm.toArray ep1 (.ref kS)) P E s := by
  have hsm2 := hsm
  rw [sizeLine_eq] at hsm2
  unfold ksk_rest
  refine wpAny_bind (wpAny_rule ?_)
  first
    | rw [List.forIn_toArray]
    | (rw [← Array.forIn_toList]; simp only [List.toList_toArray])
    | rw [← Array.forIn_toList]
  refine wpAny_bind (ksk_fold (fun i s' => ∃ gar e, Inv X pins σ H s' ∧ s'.heap.get? kS = some (seqObj "list" gar e) ∧ s'.heap.get? a = some (seqObj "list" #[] ep1) ∧ IntsAre gar.toList (kl.take i)) itm 0 s
    ⟨#[], 0, I, gk, ga, by simpa using IntsAre.nil⟩ ?step ?done)
  case step =>
    rintro j x s' hx ⟨gar, e, I', nk', na', hki⟩
    simp only [Nat.zero_add] at hki ⊢
    have jlt : j < itm.length := (List.getElem?_eq_some_iff.mp hx).1
    obtain ⟨k, ekj⟩ : ∃ k, kl[j]? = some k := ⟨_, List.getElem?_eq_getElem (by omega)⟩
    have gsm : gar.size ≤ itm.length := by
      have h1 := hki.length
      rw [Array.length_toList, List.length_take] at h1
      omega
    have I2 : Inv X (pins ++ [(kS, seqObj "list" gar e), (a, seqObj "list" #[] ep1)]) σ H s' := I'.pins_of fun p hp => by
      rcases List.mem_append.mp hp with hp | hp
      · exact I'.pin p (List.mem_append_right _ hp)
      · rcases List.mem_cons.mp hp with rfl | hp
        · exact ⟨nk', fk.1, fk.2.1, fk.2.2.1, fun v z => nomatch z⟩
        · rw [List.mem_singleton.mp hp]
          exact ⟨na', fa.1, fa.2.1, fa.2.2.1, fun v z => nomatch z⟩
    refine wpAny_bind (wpAny_attempt (wpAny_mono (turn j x k _ s' hx ekj I2) (fun v s'' he => ?_) fun _ _ hF => hF.elim))
    obtain ⟨y, H', I3, ry, rfl, rfl⟩ := he
    obtain ⟨t2, rfl⟩ : ∃ t, v = Value.int k t := ry
    try dsimp only
    have nk3 := (I3.pin (kS, seqObj "list" gar e) (List.mem_append_right _ (List.mem_append_right _ (.head _)))).1
    have na3 := (I3.pin (a, seqObj "list" #[] ep1) (List.mem_append_right _ (List.mem_append_right _ (.tail _ (.head _))))).1
    have s1 := Heap.SameBut.update s''.heap kS (Obj.mapSeq (·.push (.int k t2)))
    obtain ⟨cn, gcn⟩ : ∃ cn, (s''.heap.update kS (Obj.mapSeq (·.push (.int k t2)))).get? kS = some (seqObj "list" (gar.push (.int k t2)) cn) := ⟨_, get?_update_seq nk3 (·.push (.int k t2))⟩
    have et : kl.take (j + 1) = kl.take j ++ [k] := by rw [List.take_add_one, ekj]; simp
    have epu : (gar.push (Value.int k t2)).toList = gar.toList ++ [Value.int k t2] := by simp
    obtain ⟨k0, k1, _, k3, k4, k5⟩ := fk
    refine wpAny_bind (listUpdate_at nk3 rfl ?_ (by rw [sizeLine_eq]; omega) (Nat.le_trans (Nat.le_of_eq (Array.size_push ..)) (by rw [sizeLine_eq]; omega)))
    refine wpAny_pure ⟨rfl, gar.push (.int k t2), cn, I3.unpinned.turned (t' := s''.toks) (fun b o hb q => (s1.2 b hb).trans q) k0 k1 k3 k4 k5, gcn, (s1.2 a hka.symm).trans na3, by rw [epu, et]; exact ksk_snoc hki⟩
  case done =>
    rintro s' ⟨gar, e, I', nk', na', hki⟩
    have hkf : IntsAre gar.toList kl := by
      have eall : kl.take (0 + itm.length) = kl := List.take_of_length_le (by omega)
      rw [eall] at hki
      exact hki
    try dsimp only
    refine wpAny_bind (listItems_at nk' rfl ?_)
    exact sb_end I' nk' na' fa fk hka hkf hle hsm h
end
end TK

namespace TK
open PySem PySem.Spec PyProof.Rows L2
section
variable {prog : Program} {w : World} {A : Around} {E : Value → Shared → Prop} {s : Shared}
/-- the items of a tuple, drawn together -/
theorem collect_tup {t : Addr} {vs : List Value} {Q : List Value → Shared → Prop} (ht : IsTup s.heap t vs.toArray) (hsm : vs.length ≤ sizeLine)
    (h : Q vs { s with heap := (s.heap.push (seqObj "list" #[] 0)).update s.heap.objs.size (Obj.mapSeq (· ++ vs.toArray)) }) : wpAny (model prog w) A (collect (.ref t)) Q E s := by
  obtain ⟨ob, gob0, hcls, n, hdt⟩ := ht
  unfold collect
  refine wpAny_bind (wpAny_runValue (codeAny_builtin entry_proto_collect' ?_))
  show wpAny _ _ (do again (.builtin "list.__iadd__" ⟨[← newList [], .ref t], []⟩)) _ _ s
  refine wpAny_bind (wpAny_newList (wpAny_pure ⟨Code.quiet_builtin _ (by decide +kernel), codeAny_builtin entry_list_iadd' ?_⟩))
  show wpAny _ _ (Builtin.List.listExtendWith (.ref s.heap.objs.size) (.ref t) (.ref s.heap.objs.size)) _ _ { s with heap := s.heap.push (seqObj "list" #[] 0) }
  have gob : (s.heap.push (seqObj "list" #[] 0)).get? t = some ob := Heap.get?_push_of_some _ gob0
  have gnew : (s.heap.push (seqObj "list" #[] 0)).get? s.heap.objs.size = some (seqObj "list" #[] 0) := Heap.get?_push_size _ rfl
  unfold Builtin.List.listExtendWith
  refine wpAny_bind (wpAny_typeOf (T := "tuple") ⟨ob, gob, hcls⟩ ?_)
  rw [if_pos (by simp only [show (Value.type "tuple" == Value.type "tuple") = true from rfl, Bool.or_true])]
  refine wpAny_bind (listItems_at gob hdt (wpAny_bind (listItems_at gnew rfl ?_)))
  rw [if_neg (by simp)]
  refine wpAny_bind (listUpdate_at gnew rfl (wpAny_pure ?_) (Nat.zero_le _) (by simp only [Array.size_append, List.size_toArray, List.length_nil]; omega))
  show wpAny (model prog w) A (do
      let o ← load s.heap.objs.size
      match o.data with
      | .seq xs _ => pure xs.toList
      | _ => unsupported "internal:collect") Q E _
  refine wpAny_bind (wpAny_load (get?_update_seq gnew _) ?_)
  show wpAny _ _ (pure ((#[] : Array Value) ++ vs.toArray).toList) Q E _
  rw [show ((#[] : Array Value) ++ vs.toArray).toList = vs by simp]
  exact wpAny_pure h
end
section
variable {X : Cx} {pins : List (Addr × Obj)} {σ : L2.St} {H : Hp} {s : Shared} {A : Around} {E : Value → Shared → Prop} {a : Addr} {vs : List Value} {kz : List Int} {P : PySem.Fin → Shared → Prop}
theorem sb_sort {f : Value} {n : Nat} (I : Inv X pins σ H s) (ho : s.heap.get? a = some (seqObj "list" vs.toArray n)) (fa : FpOk X pins H a) (hlen : kz.length = vs.length) (hZ : vs.length ≤ sizeLine)
    (turn : ∀ (i : Nat) (v : Value) (k : Int) (pins' : List (Addr × Obj)) (s' : Shared), vs[i]? = some v → kz[i]? = some k → Inv X pins' σ H s' →
      wpAny (model X.prog X.w) A (call f [v]) (EP X pins' σ fun x H' => x = .int k ∧ H' = H) (fun _ _ => False) s')
    (h : ∀ s' out c, Inv X pins σ H s' → s'.heap.get? a = some (seqObj "list" out c) → KskOutSt false kz vs out.toList → P (.done (.ret .none)) s') :
    wpAny (model X.prog X.w) A (ksk_tree a f false) P E s := by
  have hZ2 := hZ
  rw [sizeLine_eq] at hZ2
  have hal : a < s.heap.objs.size := Heap.lt_size ho
  generalize hh1 : s.heap.update a (Obj.mapSeq fun _ => (#[] : Array Value)) = h1
  have sb : Heap.SameBut a s.heap h1 := by rw [← hh1]; exact Heap.SameBut.update s.heap a _
  obtain ⟨e1, ho1⟩ : ∃ e1, h1.get? a = some (seqObj "list" #[] e1) := by rw [← hh1]; exact ⟨_, get?_update_seq ho fun _ => #[]⟩
  have hz1 : h1.objs.size = s.heap.objs.size := by rw [← hh1, Heap.size_update]
  obtain ⟨a0, a1, a2, a3, a4, a5⟩ := id fa
  have I1 : Inv X pins σ H { s with heap := h1 } := I.turned (t' := s.toks) (fun b o hb q => (sb.2 b hb).trans q) a0 a1 a3 a4 a5
  have I2 : Inv X pins σ H { s with heap := (h1.push (seqObj "tuple" vs.toArray 0)).push (seqObj "list" #[] 0) } := I1.kept (t' := s.toks) fun b o q => Heap.get?_push_of_some _ (Heap.get?_push_of_some _ q)
  have hkz : (h1.push (seqObj "tuple" vs.toArray 0)).objs.size = s.heap.objs.size + 1 := by rw [size_push', hz1]
  unfold ksk_tree
  refine wpAny_bind (listItems_at ho rfl (wpAny_bind (listUpdate_at ho rfl ?_ (by rw [List.size_toArray, sizeLine_eq]; omega) (Nat.zero_le _))))
  rw [hh1]
  refine wpAny_bind (seqEpoch_at ho1 rfl (wpAny_bind (wpAny_newTuple (wpAny_bind (wpAny_newList (wpAny_holding ?_) (Nat.zero_le _))) (by show vs.length ≤ _; rw [sizeLine_eq]; omega))))
  refine sb_rest (s := { s with heap := (h1.push (seqObj "tuple" vs.toArray 0)).push (seqObj "list" #[] 0) }) (kS := (h1.push (seqObj "tuple" vs.toArray 0)).objs.size) I2 (Heap.get?_push_size _ rfl) (Heap.get?_push_of_some _ (Heap.get?_push_of_some _ ho1)) fa ?_ (Nat.ne_of_gt (by rw [hkz]; exact Nat.lt_succ_of_lt hal)) hlen hZ turn h
  exact I1.fpOk (by show h1.objs.size ≤ _; rw [hkz, hz1]; omega) (I1.hok.fresh (by show h1.objs.size ≤ _; rw [hkz, hz1]; omega))
end
/-! ### the stable order by a key -/
def insK {α : Type} (x : Int × α) : List (Int × α) → List (Int × α)
  | [] => [x]
  | y :: r => if x.1 ≤ y.1 then x :: y :: r else y :: insK x r
def sortK {α : Type} : List (Int × α) → List (Int × α)
  | [] => []
  | x :: r => insK x (sortK r)
section
variable {α : Type}
theorem insK_perm (x : Int × α) : ∀ l, (insK x l).Perm (x :: l)
  | [] => .refl _
  | y :: r => by
    unfold insK
    split
    · exact .refl _
    · exact ((insK_perm x r).cons y).trans (.swap x y r)
theorem sortK_perm : ∀ l : List (Int × α), (sortK l).Perm l
  | [] => .refl _
  | x :: r => (insK_perm x (sortK r)).trans ((sortK_perm r).cons x)
theorem insK_up (x : Int × α) : ∀ l : List (Int × α), l.Pairwise (fun p q => p.1 ≤ q.1) → (insK x l).Pairwise (fun p q => p.1 ≤ q.1)
  | [], _ => List.pairwise_singleton ..
  | y :: r, h => by
    unfold insK
    split
    · rename_i hx
      refine List.Pairwise.cons (fun z hsm => ?_) h
      rcases List.mem_cons.mp hsm with rfl | hsm
      · exact hx
      · exact Int.le_trans hx (List.rel_of_pairwise_cons h hsm)
    · rename_i hx
      refine List.Pairwise.cons (fun z hsm => ?_) (insK_up x r (List.Pairwise.of_cons h))
      rcases List.mem_cons.mp ((insK_perm x r).mem_iff.mp hsm) with rfl | hsm
      · omega
      · exact List.rel_of_pairwise_cons h hsm
theorem sortK_up : ∀ l : List (Int × α), (sortK l).Pairwise (fun p q => p.1 ≤ q.1)
  | [] => .nil
  | x :: r => insK_up x _ (sortK_up r)
theorem insK_filter (x : Int × α) (c : Int) : ∀ l : List (Int × α), l.Pairwise (fun p q => p.1 ≤ q.1) → (insK x l).filter (fun p => p.1 == c) = (x :: l).filter (fun p => p.1 == c)
  | [], _ => rfl
  | y :: r, h => by
    unfold insK
    split
    · rfl
    · rename_i hx
      have ih := insK_filter x c r (List.Pairwise.of_cons h)
      rw [List.filter_cons, ih, List.filter_cons, List.filter_cons, List.filter_cons]
      by_cases h1 : (x.1 == c) = true
      · by_cases h2 : (y.1 == c) = true
        · have e1 : x.1 = c := by simpa using h1
          have e2 : y.1 = c := by simpa using h2
          omega
        · simp [h1, h2]
      · simp [h1]
theorem sortK_filter (c : Int) : ∀ l : List (Int × α), (sortK l).filter (fun p => p.1 == c) = l.filter (fun p => p.1 == c)
  | [] => rfl
  | x :: r => by
    show (insK x (sortK r)).filter _ = _
    rw [insK_filter x c _ (sortK_up r), List.filter_cons, sortK_filter c r, List.filter_cons]
theorem stable_one : ∀ {l m : List (Int × α)}, l.Perm m → l.Pairwise (fun p q => p.1 ≤ q.1) → m.Pairwise (fun p q => p.1 ≤ q.1) → (∀ c, l.filter (fun p => p.1 == c) = m.filter (fun p => p.1 == c)) → l = m
  | [], m, hp, _, _, _ => by rw [List.nil_perm.mp hp]
  | x :: l, [], hp, _, _, _ => by cases hp.length_eq
  | x :: l, y :: m, hp, h1, h2, hf => by
    have le1 : x.1 ≤ y.1 := by
      rcases List.mem_cons.mp (hp.mem_iff.mpr (List.mem_cons_self ..) : y ∈ x :: l) with e | e
      · rw [e]; exact Int.le_refl _
      · exact List.rel_of_pairwise_cons h1 e
    have le2 : y.1 ≤ x.1 := by
      rcases List.mem_cons.mp (hp.mem_iff.mp (List.mem_cons_self ..) : x ∈ y :: m) with e | e
      · rw [e]; exact Int.le_refl _
      · exact List.rel_of_pairwise_cons h2 e
    have e : x.1 = y.1 := by omega
    have hx := hf x.1
    rw [List.filter_cons, List.filter_cons, if_pos (by simp), if_pos (by simp [e])] at hx
    obtain ⟨exy, _⟩ := List.cons.inj hx
    subst exy
    rw [stable_one (List.Perm.cons_inv hp) (List.Pairwise.of_cons h1) (List.Pairwise.of_cons h2) fun c => ?_]
    have := hf c
    rw [List.filter_cons, List.filter_cons] at this
    split at this
    · exact (List.cons.inj this).2
    · exact this
theorem insK_map {β : Type} (g : α → β) (x : Int × α) : ∀ l : List (Int × α), (insK x l).map (fun p => (p.1, g p.2)) = insK (x.1, g x.2) (l.map fun p => (p.1, g p.2))
  | [] => rfl
  | y :: r => by
    unfold insK
    by_cases h : x.1 ≤ y.1
    · rw [if_pos h]
      show _ = if x.1 ≤ y.1 then _ else _
      rw [if_pos h]; rfl
    · rw [if_neg h]
      show _ = if x.1 ≤ y.1 then _ else _
      rw [if_neg h, List.map_cons, insK_map g x r]
theorem sortK_map {β : Type} (g : α → β) : ∀ l : List (Int × α), (sortK l).map (fun p => (p.1, g p.2)) = sortK (l.map fun p => (p.1, g p.2))
  | [] => rfl
  | x :: r => by
    show (insK x (sortK r)).map _ = insK _ (sortK (r.map _))
    rw [insK_map, sortK_map g r]
end
/-- sorted pairs of related values are related -/
theorem insK_rel {x : Int × V} {u : Int × Value} (e : x.1 = u.1) (r : RelV x.2 u.2) : ∀ {l : List (Int × V)} {m : List (Int × Value)}, Paired (fun p q => p.1 = q.1 ∧ RelV p.2 q.2) l m → Paired (fun (p : Int × V) (q : Int × Value) => p.1 = q.1 ∧ RelV p.2 q.2) (insK x l) (insK u m)
  | _, _, .nil => .cons ⟨e, r⟩ .nil
  | y :: l, v :: m, .cons h t => by
    unfold insK
    rw [← e, ← h.1]
    split
    · exact .cons ⟨e, r⟩ (.cons h t)
    · exact .cons h (insK_rel e r t)
theorem sortK_rel : ∀ {l : List (Int × V)} {m : List (Int × Value)}, Paired (fun p q => p.1 = q.1 ∧ RelV p.2 q.2) l m → Paired (fun (p : Int × V) (q : Int × Value) => p.1 = q.1 ∧ RelV p.2 q.2) (sortK l) (sortK m)
  | _, _, .nil => .nil
  | _, _, .cons h t => insK_rel h.1 h.2 (sortK_rel t)
theorem zip_rel : ∀ {kz : List Int} {xs : List V} {us : List Value}, Vals xs us → Paired (fun (p : Int × V) (q : Int × Value) => p.1 = q.1 ∧ RelV p.2 q.2) (kz.zip xs) (kz.zip us)
  | [], _, _, _ => .nil
  | _ :: _, _, _, .nil => .nil
  | k :: kz, _, _, .cons r t => .cons ⟨rfl, r⟩ (zip_rel t)
theorem rel_snd : ∀ {l : List (Int × V)} {m : List (Int × Value)}, Paired (fun p q => p.1 = q.1 ∧ RelV p.2 q.2) l m → Vals (l.map Prod.snd) (m.map Prod.snd)
  | _, _, .nil => .nil
  | _, _, .cons h t => .cons h.2 (rel_snd t)
def byKey (ks : List Int) (xs : List V) : List V := (sortK (ks.zip xs)).map Prod.snd
theorem byKey_len {ks : List Int} {xs : List V} (h : ks.length = xs.length) : (byKey ks xs).length = xs.length := by
  unfold byKey
  rw [List.length_map, (sortK_perm _).length_eq, List.length_zip, h, Nat.min_self]
section
variable {X : Cx}
/-- sorted(xs, key=f), f a def whose answer is an int and that leaves the heap -/
def rSortedBy (K : PySem.W.Frag) (f : Addr) (sp : Sp) : List V → List V → Hp → VK → Prop := fun vs zs H Q => ∃ (a : Addr) (xs : List V) (ks : List Int), vs = [V.ref a] ∧ zs = [V.ref f] ∧ (SqL K H a xs ∨ SqT K H a xs) ∧ ks.length = xs.length ∧
  (∀ (i : Nat) (x : V) (k : Int), xs[i]? = some x → ks[i]? = some k → sp [x] H (fun v H' => v = .int k ∧ H' = H) E0) ∧ ∀ p, H p = none → Q (.ref p) (upd H p (.lst (byKey ks xs)))
theorem cr_sortedBy {k : Nat} {f : Addr} {fd : FuncData} {ps : List Str} {sp : Sp} (F : FnOk X.prog X.w X.K X.mg X.base CX0 k f fd ps sp) (hr : Room (k + 2) X.A) (hb : Binds X.K fd ps []) : CallRK X (.builtin "sorted") [Str.ofString "key"] (rSortedBy X.K f sp) := by
  intro pins s σ H xs zs us ws Q I rx rz hq
  obtain ⟨a, ys, ks, rfl, rfl, hS, hkl, hsp, q⟩ := hq
  cases rx with
  | cons r1 r2 =>
    cases r2
    cases r1
    cases rz with
    | cons z1 z2 =>
      cases z2
      cases z1
      obtain ⟨its, rv, hcol, hsm⟩ : ∃ its : List Value, Vals ys its ∧ (∀ (A : Around) (Q : List Value → Shared → Prop) (E : Value → Shared → Prop), Q its { s with heap := (s.heap.push (seqObj "list" #[] 0)).update s.heap.objs.size (Obj.mapSeq (· ++ its.toArray)) } → wpAny (model X.prog X.w) A (collect (.ref a)) Q E s) ∧ its.length ≤ sizeLine := by
        rcases hS with hS | hS
        · obtain ⟨its, rv, hl, hsm⟩ := I.list hS
          have hz' : its.length ≤ sizeLine := by rw [← rv.length]; exact hsm
          exact ⟨its, rv, fun A Q E h => collect_list hl.isList h hz', hz'⟩
        · obtain ⟨its, rv, hl, hsm⟩ := I.tuple hS
          have hz' : its.length ≤ sizeLine := by rw [← rv.length]; exact hsm
          exact ⟨its, rv, fun A Q E h => collect_tup hl hz' h, hz'⟩
      have hlen : ks.length = its.length := by rw [hkl, rv.length]
      show wpAny _ _ (call (.builtin "sorted") [.ref a] [(Str.ofString "key", .ref f)]) _ _ _
      refine call_function_entry_kw kind_sorted plain_sorted entry_sorted (ksk_s1 _ _) ?_
      unfold Builtin.«sorted»
      refine wpAny_bind (m := checkCount "sorted" 1 1 _) (wpAny_pure (wpAny_bind (hcol _ _ _ (wpAny_bind (wpAny_newList ?_ hsm)))))
      generalize hh1 : (s.heap.push (seqObj "list" #[] 0)).update s.heap.objs.size (Obj.mapSeq (· ++ its.toArray)) = h1
      have hz1 : h1.objs.size = s.heap.objs.size + 1 := by rw [← hh1, Heap.size_update, size_push']
      have kp1 : ∀ b o, s.heap.get? b = some o → h1.get? b = some o := fun b o e => by
        rw [← hh1, Heap.get?_update_ne _ _ _ _ (Nat.ne_of_lt (Heap.lt_size e))]
        exact Heap.get?_push_of_some _ e
      have hoL : (h1.push (seqObj "list" its.toArray 0)).get? h1.objs.size = some (seqObj "list" its.toArray 0) := Heap.get?_push_size _ rfl
      have I1 : Inv X pins σ H { s with heap := h1 } := I.kept (t' := s.toks) kp1
      have I2 : Inv X pins σ H { s with heap := h1.push (seqObj "list" its.toArray 0) } := I1.kept (t' := s.toks) fun b o e => Heap.get?_push_of_some _ e
      have fa : FpOk X pins H h1.objs.size := I1.fpOk (Nat.le_refl _) (I1.hok.fresh (Nat.le_refl _))
      refine wpAny_bind (wpAny_holding (wpAny_call_entry_kw slot_list_sort ⟨_, hoL, rfl⟩ entry_list_sort ?_ (ksk_l1 _ _)))
      show wpAny (model X.prog X.w) X.A.in1.in1 (Builtin.«list.sort» ⟨[.ref h1.objs.size], [(Str.ofString "key", .ref f)]⟩) _ _ _
      rw [ksk_t1]
      refine sb_sort (s := { s with heap := h1.push (seqObj "list" its.toArray 0) }) (kz := ks) I2 hoL fa hlen hsm (fun i v k pins' s' hv hk I' => ?_) fun s' out c I' ho' ko => ⟨_, rfl, ?_⟩
      · obtain ⟨x, hx, rxv⟩ : ∃ x, ys[i]? = some x ∧ RelV x v := by
          have hi : i < ys.length := by rw [rv.length]; exact (List.getElem?_eq_some_iff.mp hv).1
          obtain ⟨u, hu, ru⟩ := rv.get (List.getElem?_eq_getElem hi)
          rw [hv] at hu
          cases hu
          exact ⟨_, List.getElem?_eq_getElem hi, ru⟩
        exact run_fn2 F hr hb I' (.cons rxv .nil) (hsp i x k hx hk)
      · obtain ⟨pr, p1, p2, p3, p4⟩ := ko
        have e1 : pr = sortK (ks.zip its) := stable_one (p1.trans (sortK_perm _).symm) (by simpa using p3) (sortK_up _) fun c => (p4 c).trans (sortK_filter c _).symm
        have rel : Vals (byKey ks ys) out.toList := by
          rw [p2, e1]
          exact rel_snd (sortK_rel (zip_rel rv))
        have hbz : (byKey ks ys).length ≤ sizeLine := by rw [byKey_len hkl, rv.length]; exact hsm
        refine wpAny_pure ⟨_, rfl, ?_⟩
        exact ⟨.ref h1.objs.size, upd H h1.objs.size (.lst (byKey ks ys)), adopt I' fa ⟨hbz, out.toList, c, rel, by rw [Array.toArray_toList]; exact ho'⟩, rfl, q _ fa.1⟩
end
end TK

namespace TK
open PySem PySem.Spec PyProof.Rows L2
/-! ### enumerate(tuple) -/
theorem meets_enum1 {v : Value} {o : Obj} {G : Heap → Prop} (B : Begins v o G) :
    Meets (Builtin.«enumerate.__new__» ⟨[.type "enumerate", v], []⟩) (fun _ R s => G s.heap ∧
      R (.ok (.ret (.ref (s.heap.push o).objs.size))) { s with heap := (s.heap.push o).push { cls := .type "enumerate", data := .fields #[.none, .bool false, .ref s.heap.objs.size, rawInt 0, .none, .none] } }) :=
  .of_wp fun prog w A R s hh => by
    obtain ⟨hp, gg, dd, tk, os⟩ := s
    obtain ⟨hG, hR⟩ := hh
    have hsub := sub_enumerate
    have it1 : ∀ {A' : Around} {E' : Value → Shared → Prop} {Q : Value → Shared → Prop}, Q (.ref hp.objs.size) ⟨hp.push o, gg, dd, tk, os⟩ → wpAny (model prog w) A' (pyIter v) Q E' ⟨hp, gg, dd, tk, os⟩ := fun q => B.iter prog w _ _ ⟨hp, gg, dd, tk, os⟩ _ hG q
    wp_walk using it1
    refine wpAny_stack_any fun st => wpAny_pure ?_
    split
    · rename_i c _ _ _ _ _
      cases (c == Value.type "enumerate") <;> (wp_walk using it1; exact ⟨_, rfl, hR⟩)
    · wp_walk using it1
      exact ⟨_, rfl, hR⟩
section
variable {prog : Program} {w : World} {A : Around} {E : Value → Shared → Prop} {s : Shared}
theorem call_enum1 {v : Value} {o : Obj} {G : Heap → Prop} {Q : Value → Shared → Prop} (B : Begins v o G) (hG : G s.heap)
    (h : ∀ h', IsEnum h' (s.heap.objs.size + 1) s.heap.objs.size 0 .none → h'.get? s.heap.objs.size = some o → (∀ b o, s.heap.get? b = some o → h'.get? b = some o) → Q (.ref (s.heap.objs.size + 1)) { s with heap := h' }) :
    wpAny (model prog w) A (call (.type "enumerate") [v]) Q E s := by
  refine callType_new F.called_enumerate (by decide) (F.typeCall_enumerate_1 _) (F.newCall_enumerate_1 _) (fun obj => F.args_object_init_2 obj _) F.entry_enumerate_new (meets_enum1 B) ⟨hG, ?_⟩
  have zp : (s.heap.push o).objs.size = s.heap.objs.size + 1 := Heap.size_push ..
  show _ ∧ _
  rw [zp]
  have gen : IsEnum ((s.heap.push o).push { cls := .type "enumerate", data := .fields #[.none, .bool false, .ref s.heap.objs.size, rawInt 0, .none, .none] }) (s.heap.objs.size + 1) s.heap.objs.size 0 .none := by
    unfold IsEnum
    rw [← zp]
    exact Heap.get?_push_size _ rfl
  exact ⟨⟨_, gen, rfl⟩, h _ gen (Heap.get?_push_of_some _ (Heap.get?_push_size _ B.free)) fun b o q => Heap.get?_push_of_some _ (Heap.get?_push_of_some _ q)⟩
end
def IteT (K : PySem.W.Frag) (a : Addr) (n : Nat) : It :=
  ⟨fun i H => i < n ∧ ∃ xs : List V, SqT K H a xs ∧ xs.length = n, fun i H v H' => ∃ T x, v = .ref T ∧ H T = none ∧ H' = upd H T (.tup [.int (i : Nat), x]) ∧ ∀ xs, SqT K H a xs → xs[i]? = some x, fun i H => n ≤ i ∧ ∃ xs : List V, SqT K H a xs ∧ xs.length = n⟩
theorem turn_enumT {P : Program} {w : World} {K : PySem.W.Frag} {elts : List Expr} {kk : Nat} {tpos : Pos} (a e it : Addr) (n : Nat) (nei : e ≠ it) (nae : a ≠ e) (nai : a ≠ it) :
    Turn P w K (.Tuple elts kk tpos) (IteT K a n) [e, it] e (fun i h => (∃ old, IsEnum h e it ((i : Nat) : Int) old) ∧ h.IsTupleIter it a i ∧ i ≤ n) where
  mem := List.mem_cons_self ..
  obj := fun i h st b hb => by
    obtain ⟨⟨old, gen⟩, ⟨o, ho, _, hd⟩, _⟩ := st
    rcases List.mem_cons.mp hb with z | z
    · rw [z]; exact ⟨_, gen, fun v q => nomatch q⟩
    · rw [List.mem_singleton.mp z]; exact ⟨o, ho, fun v q => by rw [hd] at q; cases q⟩
  keep := fun i h h' st k => by
    obtain ⟨⟨old, gen⟩, hi, hn⟩ := st
    exact ⟨⟨old, k e (by simp) _ gen⟩, hi.at fun o q => k it (by simp) o q, hn⟩
  item := by
    intro X hP hw hK hc i pins s σ H E I hf st hg
    subst hP hw hK
    obtain ⟨⟨old, gen⟩, git, _⟩ := st
    obtain ⟨ltn, xs, hq, hxl⟩ := hg
    obtain ⟨itm, rel, p, zp⟩ := I.tuple hq
    have elt : e < s.heap.objs.size := Heap.lt_size gen
    have ilt : it < s.heap.objs.size := by obtain ⟨_, q, _⟩ := git; exact Heap.lt_size q
    have hsz : itm.toArray.size = n := by rw [List.size_toArray, ← rel.length]; exact hxl
    have D := Draws.tuple (prog := X.prog) (w := X.w) (A := X.A.in1) (I.ok.hd hc) it a nai itm.toArray
    refine wpAny_pyNext_enum_itemD D gen ⟨git, p⟩ (by rw [hsz]; exact ltn) nei (by simp [nei, Ne.symm nae]) fun u h' tk hu ho hst hT _ hk => ?_
    obtain ⟨x, hx, ru⟩ : ∃ x, xs[i]? = some x ∧ RelV x u := by
      obtain ⟨u', hu', ru'⟩ := rel.get (List.getElem?_eq_getElem (show i < xs.length by omega))
      have hu2 : itm[i]? = some u := by simpa using hu
      rw [hu2] at hu'
      cases hu'
      exact ⟨_, List.getElem?_eq_getElem (by omega), ru'⟩
    refine ⟨_, rfl, wpAny_letOwnedTupleGo_enum (s := { s with heap := h', toks := tk + 1 }) ho fun h'' he' sb => ?_⟩
    have atT : h''.get? s.heap.objs.size = some { cls := .type "tuple", data := .seq #[.int i tk, u] } := (sb.2 _ (Nat.ne_of_gt elt)).trans hT
    have new : ObjOk X.prog X.w (upd H s.heap.objs.size (.tup [.int (i : Nat), x])) h'' s.heap.objs.size (.tup [.int (i : Nat), x]) :=
      ⟨by show 2 ≤ sizeLine; decide, [.int i tk, u], .cons ⟨_, rfl⟩ (.cons ru .nil), ⟨_, atT, rfl, _, rfl⟩⟩
    have I1 : Inv X pins σ (upd H s.heap.objs.size (.tup [.int (i : Nat), x])) { s with heap := h'', toks := tk + 1 } :=
      I.turnedNew (ch := [e, it]) (fun b ob hb q => (sb.2 b (fun z => hb (by simp [z]))).trans (hk b ob (fun z => hb (by simp [z])) (fun z => hb (by simp [z])) q)) hf (Nat.le_refl _) new
    refine ⟨.ref s.heap.objs.size, _, I1, rfl, ⟨_, x, rfl, I.hok.fresh (Nat.le_refl _), rfl, fun ys hy => by rw [I.tuple_inj hy hq]; exact hx⟩, ⟨⟨u, ?_⟩, hst.1.at fun o q => (sb.2 it (Ne.symm nei)).trans q, by omega⟩, fun b hb => ?_⟩
    · rw [show ((i + 1 : Nat) : Int) = (i : Int) + 1 by omega]; exact he'
    · have blt : b < s.heap.objs.size := by
        rcases List.mem_cons.mp hb with z | z
        · rw [z]; exact elt
        · rw [List.mem_singleton.mp z]; exact ilt
      rw [upd_ne (Nat.ne_of_lt blt)]
      exact (hf b hb).1
  done := by
    intro X hP hw hK hc i pins s σ H E I hf st hg
    subst hP hw hK
    obtain ⟨⟨old, gen⟩, git, ble⟩ := st
    obtain ⟨hge, xs, hq, hxl⟩ := hg
    obtain ⟨itm, rel, p, zp⟩ := I.tuple hq
    have hin : i = itm.toArray.size := by rw [List.size_toArray, ← rel.length]; omega
    obtain ⟨q0, q1, q2, q3, q4, q5⟩ := hf it (by simp)
    have D := Draws.tuple (prog := X.prog) (w := X.w) (A := X.A.in1) (I.ok.hd hc) it a nai itm.toArray
    refine wpAny_pyNext_enum_endD D gen ⟨by rw [← hin]; exact git, p⟩ fun h' eb => ⟨rfl, I.turned (t' := s.toks) (fun b o hb q => eb b o hb q) q0 q1 q3 q4 q5⟩
  self := fun A i s Q E st h => by
    obtain ⟨⟨_, gen⟩, _⟩ := st
    exact wpAny_pyIter_enum gen h
def iEnumT (K : PySem.W.Frag) (ta : TA) : TI := fun σ H R => ta σ H fun vs H1 => ∃ a xs, vs = [.ref a] ∧ SqT K H1 a xs ∧ R (IteT K a xs.length) H1
theorem pi_enumT {X : Cx} {e : Expr} {ta : TA} {p pos tpos : Pos} {elts : List Expr} {kk : Nat} (hg : Gl X "enumerate") (hm : X.mg "enumerate" = none) (ha : PA X [e] ta) (hs : starEach [e] X.env = [(false, eval e X.env)] := by rfl) :
    PI X (.Tuple elts kk tpos) (.Call (.Name "enumerate" p) [e] [] pos) (iEnumT X.K ta) := by
  refine ⟨fun pins s σ H R I h => Call_ (ld_blt I hg hm boot_enumerate (PyProof.Rows.callWith_type1 (thn (ha.run pos pins s σ H _ I h) fun us s1 ⟨vs, H1, I1, r1, q1⟩ => ?_) hs rfl))⟩
  obtain ⟨a, xs, rfl, hq, q⟩ := q1
  cases r1 with
  | cons r rr =>
    cases rr
    cases r
    obtain ⟨itm, rel, p', zp⟩ := I1.tuple hq
    have hal : a < s1.heap.objs.size := by obtain ⟨_, q, _⟩ := p'; exact Heap.lt_size q
    refine call_enum1 (begins_tuple a itm.toArray) p' fun h' gen git hk => wpAny_pyIter_enum gen ?_
    have J2 : Inv X pins σ H1 { s1 with heap := h' } := I1.kept (t' := s1.toks) hk
    refine ⟨s1.heap.objs.size + 1, [s1.heap.objs.size + 1, s1.heap.objs.size], _, _, H1, rfl, J2, turn_enumT a (s1.heap.objs.size + 1) s1.heap.objs.size xs.length (Nat.succ_ne_self _) (Nat.ne_of_lt (Nat.lt_succ_of_lt hal)) (Nat.ne_of_lt hal), ⟨⟨.none, gen⟩, ⟨_, git, rfl, rfl⟩, Nat.zero_le _⟩, fun b hb => ?_, q⟩
    have ble : s1.heap.objs.size ≤ b := by
      rcases List.mem_cons.mp hb with z | z
      · rw [z]; exact Nat.le_add_right _ _
      · rw [List.mem_singleton.mp z]; exact Nat.le_refl _
    exact I1.fpOk ble (I1.hok.fresh ble)
theorem walk_enumT {K : PySem.W.Frag} {a : Addr} {xs : List V} : Walk (IteT K a xs.length) xs.length (fun H => SqT K H a xs) (YPair (fun i => some (.int (i : Nat))) (fun i => xs[i]?)) where
  goes := fun i H hi hG => ⟨hi, xs, hG, rfl⟩
  stops := fun H hG => ⟨Nat.le_refl _, xs, hG, rfl⟩
  yields := fun i H x H' _ hG hy => by
    obtain ⟨T, v, e1, e2, e3, e4⟩ := hy
    exact ⟨T, _, v, e1, e2, e3, rfl, e4 xs hG⟩
end TK

namespace TK
open PySem PySem.Spec PyProof.Rows L2
/-! ### max(xs, default=d), min(xs, default=d) of ints -/
theorem hold_ints {h : Heap} : ∀ {us : List Value} {ns : List Int}, IntsAre us ns → ∃ as, ReadsAll h us (ns.map PySem.W.Datum.toD) as
  | _, _, .nil => ⟨[], .nil⟩
  | _, _, .cons n t r => by
    obtain ⟨as, ra⟩ := hold_ints (h := h) r
    exact ⟨[] ++ as, .cons (.int n t) ra⟩
theorem hold_int {h : Heap} {v : Value} {m : Int} (H : PySem.W.Holds h v m) : ∃ t, v = Value.int m t := by
  obtain ⟨as, r⟩ := H
  have r : Reads h v (.int m) as := r
  cases r with
  | int i t => exact ⟨t, rfl⟩
theorem maxOf_is : ∀ (ys : List Int) (y : Int), PySem.W.maxOf y ys ∈ y :: ys ∧ ∀ z ∈ y :: ys, z ≤ PySem.W.maxOf y ys
  | [], y => ⟨List.mem_cons_self .., fun z hz => by cases List.mem_singleton.mp hz; exact Int.le_refl _⟩
  | a :: ys, y => by
    have e : PySem.W.maxOf y (a :: ys) = PySem.W.maxOf (if y < a then a else y) ys := by
      show List.foldl _ (if decide (y < a) = true then a else y) ys = _
      by_cases h : y < a
      · rw [if_pos (decide_eq_true h), if_pos h]; rfl
      · rw [if_neg (by simpa using h), if_neg h]; rfl
    obtain ⟨h1, h2⟩ := maxOf_is ys (if y < a then a else y)
    rw [e]
    by_cases h : y < a
    · rw [if_pos h] at h1 h2 ⊢
      refine ⟨?_, fun z hz => ?_⟩
      · exact List.mem_cons_of_mem _ h1
      · rcases List.mem_cons.mp hz with q | q
        · have := h2 a (List.mem_cons_self ..)
          omega
        · exact h2 z q
    · rw [if_neg h] at h1 h2 ⊢
      refine ⟨?_, fun z hz => ?_⟩
      · rcases List.mem_cons.mp h1 with q | q
        · rw [q]; exact List.mem_cons_self ..
        · exact List.mem_cons_of_mem _ (List.mem_cons_of_mem _ q)
      · rcases List.mem_cons.mp hz with q | q
        · rw [q]; exact h2 y (List.mem_cons_self ..)
        · rcases List.mem_cons.mp q with q | q
          · have := h2 y (List.mem_cons_self ..)
            omega
          · exact h2 z (List.mem_cons_of_mem _ q)
theorem minOf_is : ∀ (ys : List Int) (y : Int), PySem.W.minOf y ys ∈ y :: ys ∧ ∀ z ∈ y :: ys, PySem.W.minOf y ys ≤ z
  | [], y => ⟨List.mem_cons_self .., fun z hz => by cases List.mem_singleton.mp hz; exact Int.le_refl _⟩
  | a :: ys, y => by
    have e : PySem.W.minOf y (a :: ys) = PySem.W.minOf (if a < y then a else y) ys := by
      show List.foldl _ (if decide (a < y) = true then a else y) ys = _
      by_cases h : a < y
      · rw [if_pos (decide_eq_true h), if_pos h]; rfl
      · rw [if_neg (by simpa using h), if_neg h]; rfl
    obtain ⟨h1, h2⟩ := minOf_is ys (if a < y then a else y)
    rw [e]
    by_cases h : a < y
    · rw [if_pos h] at h1 h2 ⊢
      refine ⟨?_, fun z hz => ?_⟩
      · exact List.mem_cons_of_mem _ h1
      · rcases List.mem_cons.mp hz with q | q
        · have := h2 a (List.mem_cons_self ..)
          omega
        · exact h2 z q
    · rw [if_neg h] at h1 h2 ⊢
      refine ⟨?_, fun z hz => ?_⟩
      · rcases List.mem_cons.mp h1 with q | q
        · rw [q]; exact List.mem_cons_self ..
        · exact List.mem_cons_of_mem _ (List.mem_cons_of_mem _ q)
      · rcases List.mem_cons.mp hz with q | q
        · rw [q]; exact h2 y (List.mem_cons_self ..)
        · rcases List.mem_cons.mp q with q | q
          · have := h2 y (List.mem_cons_self ..)
            omega
          · exact h2 z (List.mem_cons_of_mem _ q)
def rMaxDef (K : PySem.W.Frag) : List V → List V → Hp → VK → Prop := fun vs zs H Q => ∃ (a : Addr) (ns : List Int) (d : V), vs = [V.ref a] ∧ zs = [d] ∧ SqL K H a (ns.map V.int) ∧ (ns = [] → Q d H) ∧ ∀ m, m ∈ ns → (∀ y, y ∈ ns → y ≤ m) → Q (.int m) H
def rMinDef (K : PySem.W.Frag) : List V → List V → Hp → VK → Prop := fun vs zs H Q => ∃ (a : Addr) (ns : List Int) (d : V), vs = [V.ref a] ∧ zs = [d] ∧ SqL K H a (ns.map V.int) ∧ (ns = [] → Q d H) ∧ ∀ m, m ∈ ns → (∀ y, y ∈ ns → m ≤ y) → Q (.int m) H
section
variable {X : Cx}
theorem cr_maxDef (hc : X.calm = true) (hu : X.A.units + 64 < cLine) : CallRK X (.builtin "max") [Str.ofString "default"] (rMaxDef X.K) := by
  intro pins s σ H xs zs us ws Q I rx rz hq
  obtain ⟨a, ns, d, rfl, rfl, hs, q0, q1⟩ := hq
  rw [Vals.ref1 rx]
  cases rz with
  | cons z1 z2 =>
    cases z2
    obtain ⟨its, rv, hl, _⟩ := I.list hs
    refine PySem.W.max_list_datum_default (α := Int) (xs := ns) (I.ok.hd hc) hl.isList (hold_ints rv.ints) (by show X.A.units + 1 + 0 < cLine; omega) (fun e h' tk hk => ⟨d, H, I.kept hk, z1, q0 e⟩) fun y ys i v h' tk e _ hv hk => ?_
    obtain ⟨t, rfl⟩ := hold_int hv
    obtain ⟨m1, m2⟩ := maxOf_is ys y
    exact ⟨.int _, H, I.kept hk, ⟨_, rfl⟩, q1 _ (by rw [e]; exact m1) fun z hz => m2 z (by rw [e] at hz; exact hz)⟩
theorem cr_minDef (hc : X.calm = true) (hu : X.A.units + 64 < cLine) : CallRK X (.builtin "min") [Str.ofString "default"] (rMinDef X.K) := by
  intro pins s σ H xs zs us ws Q I rx rz hq
  obtain ⟨a, ns, d, rfl, rfl, hs, q0, q1⟩ := hq
  rw [Vals.ref1 rx]
  cases rz with
  | cons z1 z2 =>
    cases z2
    obtain ⟨its, rv, hl, _⟩ := I.list hs
    refine PySem.W.min_list_datum_default (α := Int) (xs := ns) (I.ok.hd hc) hl.isList (hold_ints rv.ints) (by show X.A.units + 1 + 0 < cLine; omega) (fun e h' tk hk => ⟨d, H, I.kept hk, z1, q0 e⟩) fun y ys i v h' tk e _ hv hk => ?_
    obtain ⟨t, rfl⟩ := hold_int hv
    obtain ⟨m1, m2⟩ := minOf_is ys y
    exact ⟨.int _, H, I.kept hk, ⟨_, rfl⟩, q1 _ (by rw [e]; exact m1) fun z hz => m2 z (by rw [e] at hz; exact hz)⟩
end
/-! ### t[::-1] of a tuple -/
section
variable {prog : Program} {w : World} {A : Around} {E : Value → Shared → Prop} {s : Shared}
theorem places_rev (n : Nat) : Builtin.Slice.slicePlaces ((n : Int) - 1) (-1) (-1) = n := by
  unfold Builtin.Slice.slicePlaces
  rw [if_neg (by decide)]
  by_cases h : n = 0
  · subst h; rfl
  · rw [if_pos (by omega), show -(-1 : Int) = 1 from rfl, Int.ediv_one]
    omega
theorem applied_rev {sl : Addr} {vl vu vs : Value} {n : Nat} {Q : Int × Int × Nat → Shared → Prop} (hs : s.heap.IsSliceOf sl vl vu vs) (pl : IsPart vl none) (pu : IsPart vu none) (ps : IsPart vs (some (-1)))
    (h : Q ((n : Int) - 1, -1, n) s) : wpAny (model prog w) A (Builtin.Slice.sliceApplied (.ref sl) (pure (n : Int))) Q E s := by
  obtain ⟨ob, go, _, gd⟩ := id hs
  unfold Builtin.Slice.sliceApplied Builtin.Slice.sliceFields
  refine wpAny_bind (wpAny_bind (wpAny_field go gd (x := vl) rfl (wpAny_bind (wpAny_field go gd (x := vu) rfl (wpAny_bind (wpAny_field go gd (x := vs) rfl (wpAny_pure ?_)))))))
  refine wpAny_bind (HT.slicePart_ ps ?_)
  show wpAny _ _ (if ((-1 : Int) == 0) = true then _ else _) _ _ s
  rw [if_neg (by decide)]
  refine wpAny_bind (HT.slicePart_ pl (wpAny_bind (HT.slicePart_ pu (wpAny_bind (wpAny_pure ?_)))))
  show wpAny _ _ (pure ((n : Int) - 1, (-1 : Int), Builtin.Slice.slicePlaces ((n : Int) - 1) (-1) (-1))) _ _ s
  rw [places_rev]
  exact wpAny_pure h
theorem fm_congr {α β : Type} {f g : α → Option β} : ∀ {l : List α}, (∀ x ∈ l, f x = g x) → l.filterMap f = l.filterMap g
  | [], _ => rfl
  | x :: r, h => by
    rw [List.filterMap_cons, List.filterMap_cons, h x (List.mem_cons_self ..), fm_congr fun y hy => h y (List.mem_cons_of_mem _ hy)]
theorem pick_rev (xs : Array Value) : ((List.range xs.size).filterMap fun (m : Nat) => xs[((xs.size : Int) - 1 + (m : Int) * (-1)).toNat]?).toArray = xs.toList.reverse.toArray := by
  have e : ((List.range xs.size).filterMap fun (m : Nat) => xs[((xs.size : Int) - 1 + (m : Int) * (-1)).toNat]?) = ((List.range xs.size).map fun k => xs.size - 1 - k).filterMap (xs[·]?) := by
    rw [List.filterMap_map]
    refine fm_congr fun m hm => ?_
    have := List.mem_range.mp hm
    show xs[_]? = xs[xs.size - 1 - m]?
    congr 1
    omega
  rw [e, PySem.W.krv_range, List.filterMap_reverse, PySem.W.krv_all]
theorem getItem_tup_rev {t sl : Addr} {items : Array Value} {vl vu vs : Value} {Q : Value → Shared → Prop} (ht : IsTup s.heap t items) (hs : s.heap.IsSliceOf sl vl vu vs) (pl : IsPart vl none) (pu : IsPart vu none) (ps : IsPart vs (some (-1)))
    (h : Q (.ref s.heap.objs.size) { s with heap := s.heap.push { cls := .type "tuple", data := .seq items.toList.reverse.toArray } }) (hsz : items.size ≤ sizeLine) : wpAny (model prog w) A (getItem (.ref t) (.ref sl)) Q E s := by
  have small : sizeOk (.seq items.toList.reverse.toArray) := by
    show items.toList.reverse.toArray.size ≤ sizeLine
    rw [List.size_toArray, List.length_reverse, Array.length_toList]
    exact hsz
  obtain ⟨ob, go, gc, gd⟩ := id hs
  unfold getItem
  try with_reducible refine wpAny_holding ?_
  first | refine wpAny_bind (wpAny_pure ?_) | skip
  refine wpAny_bind (wpAny_sequenceKey ht.typeIs (by decide) (wpAny_bind (wpAny_callSpecial?_slot (name := Str.ofString "__getitem__") ht.typeIs PyProof.Rows.slot_tuple_getitem (wpAny_call_entry PyProof.Rows.slot_tuple_getitem ht.typeIs entry_tuple_getitem ?_ (args_tuple_getitem _ _)))))
  show wpAny _ _ (Builtin.Tuple.tupleItemsOf (.ref t) >>= _) _ _ s
  refine wpAny_bind (tupleItemsOf_ ht (wpAny_bind (wpAny_typeOf ⟨ob, go, gc⟩ ?_)))
  rw [if_pos (by decide)]
  refine wpAny_bind (applied_rev hs pl pu ps ?_)
  show wpAny _ _ (if (((items.size : Int) - 1) == 0 && (-1 : Int) == 1 && items.size == items.size) = true then _ else _) _ _ s
  rw [if_neg (by rw [show ((-1 : Int) == 1) = false from rfl, Bool.and_false, Bool.false_and]; decide), pick_rev]
  first
    | exact wpAny_bind (m := Builtin.Tuple.tupleExact _) (wpAny_newObj_type (wpAny_pure ⟨_, rfl, wpAny_pure h⟩) small)
    | exact wpAny_bind (m := Builtin.Tuple.tupleExact _) (wpAny_newObj_type (wpAny_bind (wpAny_pure (wpAny_pure ⟨_, rfl, wpAny_pure h⟩))) small)
    | exact wpAny_bind (wpAny_bind (m := Builtin.Tuple.tupleExact _) (wpAny_newObj_type (wpAny_pure (wpAny_pure ⟨_, rfl, wpAny_pure h⟩)) small))
    | exact wpAny_bind (wpAny_bind (m := Builtin.Tuple.tupleExact _) (wpAny_newObj_type (wpAny_pure ⟨_, rfl, wpAny_pure h⟩) small))
end
def tRevT (K : PySem.W.Frag) (te : TE) : TE := fun σ H Q => te σ H fun x H1 => ∃ a xs, x = .ref a ∧ SqT K H1 a xs ∧ ∀ p, H1 p = none → Q (.ref p) (upd H1 p (.tup xs.reverse))
theorem pe_revT {X : Cx} {e : Expr} {te : TE} {k : Nat} {p1 p2 p3 pos : Pos} (he : PE X e te) : PE X (.Subscript e (.Slice none none (some (.UnaryOp .USub (.Constant (.int 1) k p1) p2)) p3) pos) (tRevT X.K te) := by
  refine ⟨fun pins s σ H Q I h => Subscript_ (thn (he.run pins s σ H _ I h) fun v s1 ⟨x, H1, I1, r1, a, xs, ex, hx, q⟩ => ?_)⟩
  subst ex
  cases r1
  have one : PO X (some (.UnaryOp .USub (.Constant (.int 1) k p1) p2)) (tPart (tUn (rU fun i => .int (-i)) (tC (.int 1)))) := po_some (pe_un un_neg pe_int)
  refine wpAny_Slice (thn (po_none.run pins s1 σ H1 (fun o G => o = none ∧ G = H1) I1 ⟨rfl, rfl⟩) fun vl s2 ⟨l, H2, I2, pl, el, e2⟩ => ?_)
  subst el e2
  refine thn (po_none.run pins s2 σ H2 (fun o G => o = none ∧ G = H2) I2 ⟨rfl, rfl⟩) fun vu s3 ⟨u, H3, I3, pu, eu, e3⟩ => ?_
  subst eu e3
  refine thn (one.run pins s3 σ H3 (fun o G => o = some (-1) ∧ G = H3) I3 ⟨1, rfl, -1, rfl, rfl, rfl⟩) fun vs s4 ⟨o, H4, I4, ps, eo, e4⟩ => ?_
  subst eo e4
  have J : Inv X pins σ H4 { s4 with heap := s4.heap.push { cls := .type "slice", data := .fields #[vl, vu, vs] } } := I4.kept (t' := s4.toks) fun b ob q => Heap.get?_push_of_some _ q
  obtain ⟨itm, r, ht, hz⟩ := J.tuple hx
  have hlen := r.length
  show wpAny (model X.prog X.w) X.A (subscriptTail e (.Slice none none (some (.UnaryOp .USub (.Constant (.int 1) k p1) p2)) p3) (.ref a) (.ref s4.heap.objs.size)) (EP X pins σ Q) X.xe { s4 with heap := s4.heap.push { cls := .type "slice", data := .fields #[vl, vu, vs] } }
  refine tail_any (ops := [.ref a, .ref s4.heap.objs.size]) ht.typeIs PyProof.Rows.slot_tuple_getitem.lookup ?_ (by with_unfolding_all rfl)
  refine getItem_tup_rev ht (Heap.IsSliceOf.new _ vl vu vs) pl pu ps ?_ (by rw [List.size_toArray]; omega)
  refine ⟨.ref _, _, J.laid (t' := s4.toks) (o := .tup xs.reverse) (fun b ob q => Heap.get?_push_of_some _ q) (Nat.le_refl _) ?_, rfl, q _ (J.hok.fresh (Nat.le_refl _))⟩
  exact ⟨by rw [List.length_reverse]; exact hz, _, r.reverse, IsTup.new _ _⟩
end TK

namespace TK
open PySem PySem.Spec PyProof.Rows L2
section
variable {X : Cx}
/-! ### a word of one's own in the middle; two ways to read the same text -/
theorem ps_cut {st : Stmt} {t : TS} (h : PS X st t) : PS X st (fun D σ H => ∃ R : L2.St → Hp → Prop, t { D with nx := R } σ H ∧ ∀ σ' H', R σ' H' → D.nx σ' H') :=
  ⟨fun pins s σ H D I ⟨R, q, k⟩ => thn (h.run pins s σ H _ I q) fun f s' z => by
    cases f with
    | next => obtain ⟨σ', H', I', r⟩ := z; exact ⟨σ', H', I', k _ _ r⟩
    | brk => exact z
    | cont => exact z
    | ret u => exact z⟩
theorem pe_cut {e : Expr} {t : TE} (h : PE X e t) : PE X e (fun σ H Q => ∃ R : VK, t σ H R ∧ ∀ v H', R v H' → Q v H') :=
  ⟨fun pins s σ H Q I ⟨R, q, k⟩ => thn (h.run pins s σ H _ I q) fun v s' z => by
    obtain ⟨x, H', I', r, q'⟩ := z
    exact ⟨x, H', I', r, k _ _ q'⟩⟩
theorem pt_cut {e : Expr} {t : TT} (h : PT X e t) : PT X e (fun σ H Q => ∃ R : Bool → Hp → Prop, t σ H R ∧ ∀ b H', R b H' → Q b H') :=
  ⟨fun pins s σ H Q I ⟨R, q, k⟩ => thn (h.run pins s σ H _ I q) fun v s' z => by
    obtain ⟨H', I', q'⟩ := z
    exact ⟨H', I', k _ _ q'⟩⟩
theorem pi_or {tg it : Expr} {w1 w2 : TI} (h1 : PI X tg it w1) (h2 : PI X tg it w2) : PI X tg it (fun σ H R => w1 σ H R ∨ w2 σ H R) :=
  ⟨fun pins s σ H R I h => h.elim (h1.run pins s σ H R I) (h2.run pins s σ H R I)⟩
theorem ps_or {st : Stmt} {t1 t2 : TS} (h1 : PS X st t1) (h2 : PS X st t2) : PS X st (fun D σ H => t1 D σ H ∨ t2 D σ H) :=
  ⟨fun pins s σ H D I h => h.elim (h1.run pins s σ H D I) (h2.run pins s σ H D I)⟩
theorem pe_or2 {e : Expr} {t1 t2 : TE} (h1 : PE X e t1) (h2 : PE X e t2) : PE X e (fun σ H Q => t1 σ H Q ∨ t2 σ H Q) :=
  ⟨fun pins s σ H Q I h => h.elim (h1.run pins s σ H Q I) (h2.run pins s σ H Q I)⟩
theorem pt_or2 {e : Expr} {t1 t2 : TT} (h1 : PT X e t1) (h2 : PT X e t2) : PT X e (fun σ H Q => t1 σ H Q ∨ t2 σ H Q) :=
  ⟨fun pins s σ H Q I h => h.elim (h1.run pins s σ H Q I) (h2.run pins s σ H Q I)⟩
end
end TK

namespace TK
open PySem PySem.Spec PyProof.Rows L2
section
variable {X : Cx}
/-! sum(t), a tuple of ints -/
def rSumT (K : PySem.W.Frag) : List V → Hp → VK → Prop := fun vs H Q => ∃ (a : Addr) (ns : List Int), vs = [V.ref a] ∧ SqT K H a (ns.map V.int) ∧ Q (.int ns.sum) H
theorem cr_sumT (hc : X.calm = true) : CallR X (.builtin "sum") (rSumT X.K) := by
  intro pins s σ H vs us Q I r h
  obtain ⟨a, ns, rfl, hs, q⟩ := h
  obtain ⟨itm, rv, p, _⟩ := I.tuple hs
  rw [Vals.ref1 r]
  obtain ⟨xs, e⟩ := rv.ints.allInts.items
  have hn : numsOf itm.toArray.toList = ns := rv.ints.numsOf
  rw [e, nums_intItems] at hn
  refine PySem.W.ktm_sumG (I.ok.hd hc) (e ▸ p) fun h' tk t' hk => ?_
  rw [preSum_eq, List.take_of_length_le (by simp), hn]
  exact ⟨.int _, H, I.kept hk, ⟨_, rfl⟩, q⟩
/-- *e within a comprehension -/
theorem pa_starK {K : PySem.W.Frag} {e : Expr} {es : List Expr} {te : TE} {t : TA} {p : Pos} (h : X.K = K) (he : PE X e te) (hr : PA X es t) (hs : starEach (.Starred e p :: es) X.env = (true, eval e X.env) :: starEach es X.env := by rfl) : PA X (.Starred e p :: es) (StX.tStar K te t) := h ▸ StX.pa_star he hr hs
theorem op_eqDK {K : PySem.W.Frag} (h : X.K = K) (hu : X.A.units + 64 < cLine) : OpR X (compareOp .Eq) (rEqD K) := h ▸ op_eqD hu
theorem op_neDK {K : PySem.W.Frag} (h : X.K = K) (hu : X.A.units + 64 < cLine) : OpR X (compareOp .NotEq) (rNeD K) := h ▸ op_neD hu
/-! ### objects at a row of addresses -/
def At (H : Hp) (us : List Addr) (os : List HO) : Prop := us.length = os.length ∧ ∀ (i : Nat) (u : Addr) (o : HO), us[i]? = some u → os[i]? = some o → H u = some o
theorem At.same {H H' : Hp} {us : List Addr} {os : List HO} (h : At H us os) (s : Same H H') : At H' us os := ⟨h.1, fun i u o a b => s _ _ (h.2 i u o a b)⟩
theorem At.nil {H : Hp} : At H [] [] := ⟨rfl, fun i u o a _ => by simp at a⟩
theorem At.append {H : Hp} {us vs : List Addr} {os ps : List HO} (h : At H us os) (k : At H vs ps) : At H (us ++ vs) (os ++ ps) := by
  refine ⟨by rw [List.length_append, List.length_append, h.1, k.1], fun i u o a b => ?_⟩
  by_cases hi : i < us.length
  · rw [List.getElem?_append_left hi] at a
    rw [List.getElem?_append_left (by rw [← h.1]; exact hi)] at b
    exact h.2 i u o a b
  · rw [List.getElem?_append_right (by omega)] at a
    rw [List.getElem?_append_right (by rw [← h.1]; omega), ← h.1] at b
    exact k.2 _ u o a b
theorem At.one {H : Hp} {u : Addr} {o : HO} (e : H u = some o) : At H [u] [o] := ⟨rfl, fun i u' o' a b => by
  match i, a, b with
  | 0, a, b =>
    cases a
    cases b
    exact e⟩
theorem At.get {H : Hp} {us : List Addr} {os : List HO} {i : Nat} {x : V} (h : At H us os) (e : (us.map V.ref)[i]? = some x) : ∃ (u : Addr) (o : HO), x = .ref u ∧ us[i]? = some u ∧ os[i]? = some o ∧ H u = some o := by
  rw [List.getElem?_map] at e
  cases ht : us[i]? with
  | none => rw [ht] at e; cases e
  | some t =>
    rw [ht] at e
    cases e
    have hi : i < os.length := by rw [← h.1]; exact (List.getElem?_eq_some_iff.mp ht).1
    exact ⟨t, os[i], rfl, rfl, List.getElem?_eq_getElem hi, h.2 i t _ ht (List.getElem?_eq_getElem hi)⟩
/-- a list elsewhere is written anew -/
theorem At.wrote {H : Hp} {us : List Addr} {os : List HO} {D : Addr} {xs : List V} {o : HO} (h : At H us os) (t : ∀ p ∈ os, ∃ ys, p = HO.tup ys) (e : H D = some (.lst xs)) : At (upd H D o) us os := ⟨h.1, fun i u p a b => by
  have := h.2 i u p a b
  rw [upd_ne fun z => ?_]
  · exact this
  · subst z
    obtain ⟨ys, rfl⟩ := t p (List.mem_of_getElem? b)
    rw [e] at this
    cases this⟩
end
end TK

namespace TK
open PySem PySem.Spec PyProof.Rows L2
/-! ### zip(tuple, list) -/
def ItzM (K : PySem.W.Frag) (a b : Addr) : It :=
  ⟨fun i H => ∃ xs ys : List V, SqT K H a xs ∧ SqL K H b ys ∧ i < xs.length ∧ i < ys.length,
    fun i H v H' => ∃ T x y, v = .ref T ∧ H T = none ∧ H' = upd H T (.tup [x, y]) ∧ (∀ xs, SqT K H a xs → xs[i]? = some x) ∧ ∀ ys, SqL K H b ys → ys[i]? = some y,
    fun i H => ∃ xs ys : List V, SqT K H a xs ∧ SqL K H b ys ∧ i ≤ xs.length ∧ i ≤ ys.length ∧ (i = xs.length ∨ i = ys.length)⟩
theorem ne_nat {x y : Nat} (h : x < y ∨ y < x) : x ≠ y := by omega
theorem no_two {x p q : Nat} (h1 : x < p ∨ p < x) (h2 : x < q ∨ q < x) : x ∉ [p, q] := by
  intro h
  rcases List.mem_cons.mp h with z | z
  · exact ne_nat h1 z
  · exact ne_nat h2 (List.mem_singleton.mp z)
theorem sep_zip (I a b : Nat) (la : a < I) (lb : b < I) : ZipSep2 (I + 4) (I + 2) (I + 3) I (I + 1) [I, a] [I + 1, b] :=
  ⟨ne_nat (x := I + 2) (y := I + 4) (by omega), ne_nat (x := I + 3) (y := I + 4) (by omega), ne_nat (x := I + 2) (y := I + 3) (by omega), ne_nat (x := I + 2) (y := I) (by omega), List.mem_cons_self .., no_two (x := I + 4) (by omega) (by omega), no_two (x := I + 3) (by omega) (by omega),
    ne_nat (x := I + 2) (y := I + 1) (by omega), List.mem_cons_self .., no_two (x := I + 4) (by omega) (by omega), no_two (x := I + 3) (by omega) (by omega), no_two (x := I) (by omega) (by omega), no_two (x := I + 1) (by omega) (by omega)⟩
theorem turn_zipM {P : Program} {w : World} {K : PySem.W.Frag} {elts : List Expr} {kk : Nat} {tpos : Pos} {a b z TI TO i1 i2 : Addr} (S : ZipSep2 z TI TO i1 i2 [i1, a] [i2, b]) (na : a ≠ i1) (nb : b ≠ i2) :
    Turn P w K (.Tuple elts kk tpos) (ItzM K a b) [z, TI, TO, i1, i2] z (fun i h => IsZip h z TI TO .none ∧ IsTupOf2 h TI (.ref i1) (.ref i2) ∧ (∃ x y, IsTupOf2 h TO x y) ∧ h.IsTupleIter i1 a i ∧ h.IsListIter i2 b i) where
  mem := by simp
  obj := fun i h st c hc => by
    obtain ⟨hz, hTI, ⟨x, y, hTO⟩, ⟨o1, e1, _, d1⟩, ⟨o2, e2, _, d2⟩⟩ := st
    have e' : c = z ∨ c = TI ∨ c = TO ∨ c = i1 ∨ c = i2 := by simpa using hc
    rcases e' with rfl | rfl | rfl | rfl | rfl
    · exact ⟨_, hz, fun v q => nomatch q⟩
    · exact ⟨_, hTI, fun v q => nomatch q⟩
    · exact ⟨_, hTO, fun v q => nomatch q⟩
    · exact ⟨o1, e1, fun v q => by rw [d1] at q; cases q⟩
    · exact ⟨o2, e2, fun v q => by rw [d2] at q; cases q⟩
  keep := fun i h h' st k => by
    obtain ⟨hz, hTI, ⟨x, y, hTO⟩, h1, h2⟩ := st
    exact ⟨k z (by simp) _ hz, k TI (by simp) _ hTI, ⟨x, y, k TO (by simp) _ hTO⟩, h1.at fun o q => k i1 (by simp) o q, h2.at fun o q => k i2 (by simp) o q⟩
  item := by
    intro X hP hw hK hc i pins s σ H E I hf st hg
    subst hP hw hK
    obtain ⟨hz, hTI, ⟨x0, y0, hTO⟩, h1, h2⟩ := st
    obtain ⟨xs, ys, hqx, hqy, lx, ly⟩ := hg
    obtain ⟨its, rv, p, _⟩ := I.tuple hqx
    obtain ⟨its2, rv2, p2, _⟩ := I.list hqy
    have hzl : z < s.heap.objs.size := Heap.lt_size hz
    have n1 : its.toArray.size = xs.length := by rw [List.size_toArray, ← rv.length]
    have n2 : its2.toArray.size = ys.length := by rw [List.size_toArray, ← rv2.length]
    have D1 := Draws.tuple (prog := X.prog) (w := X.w) (A := X.A.in1) (I.ok.hd hc) i1 a na its.toArray
    have D2 := Draws.list (prog := X.prog) (w := X.w) (A := X.A.in1) (I.ok.hd hc) i2 b nb its2.toArray
    refine wpAny_pyNext_zipD2_item S D1 D2 hz hTI hTO ⟨h1, p⟩ ⟨h2, p2.isList⟩ (by rw [n1]; exact lx) (by rw [n2]; exact ly) fun u u2 h' tk hu hu2 z' TO' d1 d2 hT hsz hk => ?_
    refine ⟨_, rfl, wpAny_letOwnedTupleGo_zip (s := { s with heap := h', toks := tk }) z' fun h'' z'' sb => ?_⟩
    obtain ⟨x, hx, ru⟩ : ∃ x, xs[i]? = some x ∧ RelV x u := by
      obtain ⟨v, hv, r⟩ := rv.get (List.getElem?_eq_getElem lx)
      have : its[i]? = some u := by simpa using hu
      rw [this] at hv
      cases hv
      exact ⟨_, List.getElem?_eq_getElem lx, r⟩
    obtain ⟨y, hy, ru2⟩ : ∃ y, ys[i]? = some y ∧ RelV y u2 := by
      obtain ⟨v, hv, r⟩ := rv2.get (List.getElem?_eq_getElem ly)
      have : its2[i]? = some u2 := by simpa using hu2
      rw [this] at hv
      cases hv
      exact ⟨_, List.getElem?_eq_getElem ly, r⟩
    have hT2 : h''.get? s.heap.objs.size = some { cls := .type "tuple", data := .seq #[u, u2] } := (sb.2 _ (Nat.ne_of_gt hzl)).trans hT
    have new : ObjOk X.prog X.w (upd H s.heap.objs.size (.tup [x, y])) h'' s.heap.objs.size (.tup [x, y]) :=
      ⟨by show 2 ≤ sizeLine; decide, [u, u2], .cons ru (.cons ru2 .nil), ⟨_, hT2, rfl, _, rfl⟩⟩
    have I1 : Inv X pins σ (upd H s.heap.objs.size (.tup [x, y])) { s with heap := h'', toks := tk } :=
      I.turnedNew (ch := [z, TI, TO, i1, i2]) (fun c o hb q => (sb.2 c (fun q' => hb (by simp [q']))).trans (hk c o (fun q' => hb (by simp [q'])) (fun q' => hb (by simp [q'])) (fun q' => hb (by simp [q'])) (fun q' => hb (by simp [q'])) q)) hf (Nat.le_refl _) new
    refine ⟨.ref s.heap.objs.size, _, I1, rfl, ⟨_, x, y, rfl, I.hok.fresh (Nat.le_refl _), rfl, fun l hl => by rw [I.tuple_inj hl hqx]; exact hx, fun l hl => by rw [I.list_inj hl hqy]; exact hy⟩, ⟨z'', ?_, ⟨u, u2, ?_⟩, ?_, ?_⟩, fun c hcm => ?_⟩
    · exact (sb.2 _ S.TIz).trans (hk _ _ S.TIz S.TITO S.TIi1 S.TIi2 hTI)
    · exact (sb.2 _ S.TOz).trans TO'
    · exact d1.1.at fun o q => (sb.2 _ (Ne.symm S.zi1)).trans q
    · exact d2.1.at fun o q => (sb.2 _ (Ne.symm S.zi2)).trans q
    · have hlt : c < s.heap.objs.size := by
        have e' : c = z ∨ c = TI ∨ c = TO ∨ c = i1 ∨ c = i2 := by simpa using hcm
        rcases e' with rfl | rfl | rfl | rfl | rfl
        · exact hzl
        · exact Heap.lt_size hTI
        · exact Heap.lt_size hTO
        · obtain ⟨_, e1, _⟩ := h1; exact Heap.lt_size e1
        · obtain ⟨_, e2, _⟩ := h2; exact Heap.lt_size e2
      rw [upd_ne (Nat.ne_of_lt hlt)]
      exact (hf c hcm).1
  done := by
    intro X hP hw hK hc i pins s σ H E I hf st hg
    subst hP hw hK
    obtain ⟨hz, hTI, ⟨x0, y0, hTO⟩, h1, h2⟩ := st
    obtain ⟨xs, ys, hqx, hqy, le1, le2, hend⟩ := hg
    obtain ⟨its, rv, p, _⟩ := I.tuple hqx
    obtain ⟨its2, rv2, p2, _⟩ := I.list hqy
    have n1 : its.toArray.size = xs.length := by rw [List.size_toArray, ← rv.length]
    have n2 : its2.toArray.size = ys.length := by rw [List.size_toArray, ← rv2.length]
    have D1 := Draws.tuple (prog := X.prog) (w := X.w) (A := X.A.in1) (I.ok.hd hc) i1 a na its.toArray
    have D2 := Draws.list (prog := X.prog) (w := X.w) (A := X.A.in1) (I.ok.hd hc) i2 b nb its2.toArray
    exact wpAny_pyNext_zipD2_end S D1 D2 hz hTI hTO ⟨h1, p⟩ ⟨h2, p2.isList⟩ (by rw [n1]; exact le1) (by rw [n2]; exact le2) (by rw [n1, n2]; exact hend) fun h' tk hk => ⟨rfl, I.turnedL (ch := [z, TI, TO, i1, i2]) (fun c o hb q =>
      hk c o (fun q' => hb (by simp [q'])) (fun q' => hb (by simp [q'])) (fun q' => hb (by simp [q'])) (fun q' => hb (by simp [q'])) q) hf⟩
  self := fun A i s Q E st h => wpAny_pyIter_zip st.1 h
def iZipM (K : PySem.W.Frag) (ta : TA) : TI := fun σ H R => ta σ H fun vs H1 => ∃ a b xs ys, vs = [.ref a, .ref b] ∧ SqT K H1 a xs ∧ SqL K H1 b ys ∧ R (ItzM K a b) H1
theorem pi_zipM {X : Cx} {e e2 : Expr} {ta : TA} {p pos tpos : Pos} {elts : List Expr} {kk : Nat} (hg : Gl X "zip") (hm : X.mg "zip" = none) (ha : PA X [e, e2] ta)
    (hs : starEach [e, e2] X.env = (false, eval e X.env) :: starEach [e2] X.env := by rfl) (hpl : (backTo pos (starEach [e2] X.env)).any (·.1) = false := by rfl) :
    PI X (.Tuple elts kk tpos) (.Call (.Name "zip" p) [e, e2] [] pos) (iZipM X.K ta) := by
  refine ⟨fun pins s σ H R I h => Call_ (ld_blt I hg hm PyProof.Rows.boot_zip (PyProof.Rows.callWith_type1 (thn (ha.run pos pins s σ H _ I h) fun us s1 ⟨vs, H1, I1, r1, q1⟩ => ?_) hs hpl))⟩
  obtain ⟨a, b, xs, ys, rfl, hqx, hqy, q⟩ := q1
  obtain ⟨u1, u2, rfl, r, r'⟩ := r1.two
  cases r
  cases r'
  obtain ⟨its, rv, p1, _⟩ := I1.tuple hqx
  obtain ⟨its2, rv2, p2, _⟩ := I1.list hqy
  have la : a < s1.heap.objs.size := by obtain ⟨_, q, _⟩ := p1; exact Heap.lt_size q
  have lb : b < s1.heap.objs.size := p2.lt
  refine zip_begins2 (begins_tuple a its.toArray) (begins_list b its2.toArray) p1 p2.isList fun h' hz hTI hTO h1 h2 hsz hk => wpAny_pyIter_zip hz ?_
  have I2 : Inv X pins σ H1 { s1 with heap := h' } := I1.kept (t' := s1.toks) hk
  refine ⟨s1.heap.objs.size + 4, [s1.heap.objs.size + 4, s1.heap.objs.size + 2, s1.heap.objs.size + 3, s1.heap.objs.size, s1.heap.objs.size + 1], _, _, H1, rfl, I2, turn_zipM (sep_zip _ _ _ la lb) (Nat.ne_of_lt la) (Nat.ne_of_lt (Nat.lt_succ_of_lt lb)), ⟨hz, hTI, ⟨_, _, hTO⟩, ⟨_, h1, rfl, rfl⟩, ⟨_, h2, rfl, rfl⟩⟩, fun c hcm => ?_, q⟩
  have hle : s1.heap.objs.size ≤ c := by
    have e' : c = s1.heap.objs.size + 4 ∨ c = s1.heap.objs.size + 2 ∨ c = s1.heap.objs.size + 3 ∨ c = s1.heap.objs.size ∨ c = s1.heap.objs.size + 1 := by simpa using hcm
    rcases e' with rfl | rfl | rfl | rfl | rfl
    · exact Nat.le_add_right _ _
    · exact Nat.le_add_right _ _
    · exact Nat.le_add_right _ _
    · exact Nat.le_refl _
    · exact Nat.le_add_right _ _
  exact I1.fpOk hle (I1.hok.fresh hle)
theorem walk_zipM {K : PySem.W.Frag} {a b : Addr} {xs ys : List V} (hl : xs.length = ys.length) : Walk (ItzM K a b) xs.length (fun H => SqT K H a xs ∧ SqL K H b ys) (YPair (fun i => xs[i]?) (fun i => ys[i]?)) where
  goes := fun i H hi q => ⟨xs, ys, q.1, q.2, hi, by omega⟩
  stops := fun H q => ⟨xs, ys, q.1, q.2, Nat.le_refl _, by omega, .inl rfl⟩
  yields := fun i H v H' _ q y => by
    obtain ⟨T, x, z, h1, h2, h3, h4, h5⟩ := y
    exact ⟨T, x, z, h1, h2, h3, h4 xs q.1, h5 ys q.2⟩
end TK

namespace TK
open PySem PySem.Spec PyProof.Rows L2
/-- a dict comprehension over whatever walks -/
theorem dc_it {J : It} {n : Nat} {G : Hp → Prop} {Y : Nat → Hp → V → Hp → Prop} (w : Walk J n G Y) {g : TG} {tt : TT} {tk tv : TE} {vs : List Nat} {σ : L2.St} {H1 : Hp} {D : Addr} {Qd : Hp → Prop} (Pv : Nat → Hp → Prop) (h0 : Pv 0 (upd H1 D (.dK []))) (hG : ∀ i H, i ≤ n → Pv i H → G H)
    (hs : ∀ i x H H', i < n → Pv i H → Y i H x H' → g x (wipe σ vs) H' fun σ2 H2 => wipe σ2 vs = wipe σ vs ∧ tt σ2 H2 fun b H3 =>
      if b = true then tk σ2 H3 fun y H4 => tv σ2 H4 fun z H5 => ∃ kvs k, y = kV k ∧ H5 D = some (.dK kvs) ∧ kvs.length < sizeLine ∧ Pv (i + 1) (upd H5 D (.dK (putK kvs k z))) else Pv (i + 1) H3) (hd : ∀ H, Pv n H → Qd H) :
    ∃ W : Nat → Nat → Hp → Prop, (∃ m, W 0 m (upd H1 D (.dK []))) ∧ ∀ i m H, W i m H →
      (J.stop i H ∧ Qd H) ∨ (J.go i H ∧ ∃ Nx : Hp → Prop, (∀ H', Nx H' → ∃ m', m' < m ∧ W (i + 1) m' H') ∧ ∀ x H', J.yld i H x H' → g x (wipe σ vs) H' fun σ2 H2 => wipe σ2 vs = wipe σ vs ∧ tt σ2 H2 fun b H3 =>
        if b = true then tk σ2 H3 fun y H4 => tv σ2 H4 fun z H5 => ∃ kvs k, y = kV k ∧ H5 D = some (.dK kvs) ∧ kvs.length < sizeLine ∧ Nx (upd H5 D (.dK (putK kvs k z))) else Nx H3) := by
  refine ⟨fun i m H => m = n - i ∧ i ≤ n ∧ Pv i H, ⟨n, by simp, Nat.zero_le _, h0⟩, ?_⟩
  rintro i m H ⟨rfl, hi, p⟩
  have q := hG i H hi p
  by_cases hlt : i < n
  · exact .inr ⟨w.goes i H hlt q, Pv (i + 1), fun H' p' => ⟨n - (i + 1), by omega, rfl, hlt, p'⟩, fun x H' y => hs i x H H' hlt p (w.yields i H x H' hlt q y)⟩
  · have e : i = n := by omega
    subst e
    exact .inl ⟨w.stops H q, hd H p⟩
end TK

namespace TK
open PySem PySem.Spec PyProof.Rows L2
section
variable {X : Cx}
/-- tuple(a list), the new tuple known to the object -/
theorem call_tuple_frz : CallR X (.type "tuple") (fun xs H Q => ∃ p ys, xs = [.ref p] ∧ SqL X.K H p ys ∧ ∀ (l : Addr) (o : Obj), H l = none → o.cls = .type "tuple" → o.dict = none → Q (.ref l) (upd H l (.frz o (.tup ys)))) := by
  intro pins s σ H xs us Q I r h
  obtain ⟨p, ys, rfl, hq, q⟩ := h
  obtain ⟨u, rfl, rx⟩ := vals1 r
  cases rx
  obtain ⟨its, r', pl, hz⟩ := I.list hq
  have hlen := r'.length
  refine call_tuple_list pl.isList (fun h' kp => ?_) (by simp only [List.size_toArray] <;> omega)
  have I1 : Inv X pins σ H { s with heap := h' } := I.kept (t' := s.toks) kp
  have I2 : Inv X pins σ (upd H h'.objs.size (.frz { cls := .type "tuple", data := .seq its.toArray } (.tup ys))) { s with heap := h'.push { cls := .type "tuple", data := .seq its.toArray } } :=
    I1.laid (t' := s.toks) (fun b o e => Heap.get?_push_of_some _ e) (Nat.le_refl _) (show ObjOk X.prog X.w _ _ _ (.frz _ (.tup ys)) from ⟨Heap.get?_push_size _ rfl, hz, its, r', IsTup.new _ _⟩)
  exact ⟨.ref h'.objs.size, _, I2, rfl, q _ _ (I1.hok.fresh (Nat.le_refl _)) rfl rfl⟩
/-- the value is such a tuple -/
def FrzT (x : V) (H : Hp) : Prop := ∃ p o xs, x = .ref p ∧ H p = some (.frz o (.tup xs)) ∧ o.cls = .type "tuple" ∧ o.dict = none
def tBMF (r : V → List V → Hp → VK → Prop) (to : TE) (t : TA) : TE := fun σ H Q => to σ H fun x H1 => FrzT x H1 ∧ t σ H1 fun xs H2 => r x xs H2 Q
variable {o e : Expr} {es : List Expr} {to : TE} {t : TA} {name : Str} {apos cpos : Pos} {id : String} {r : V → List V → Hp → VK → Prop}
theorem pe_bmF (pa : PlainAttrs "tuple") (slot : Slot "tuple" name id) (hty : typeOf (.builtin id) = pure (.type "method_descriptor")) (hm : MtR X id r) (ho : PE X o to) (ha : PA X (e :: es) t)
    (hbase : attributeBase o name X.env (eval o X.env) = eval o X.env := by rfl)
    (hfew : ((backTo cpos (starEach (e :: es) X.env)).all (fun x => !x.1) && (backToKw cpos (keywordEach [] X.env)).all (fun x => x.1.isSome)
      && decide ((e :: es).length + ([] : List Keyword).length + (if ([] : List Keyword).isEmpty then 0 else 1) < 30)) = true := by rfl)
    (hline : (apos.endLine == cpos.line) = true := by rfl) (hs : starEach (e :: es) X.env = (false, eval e X.env) :: starEach es X.env := by rfl) (hplain : (backTo cpos (starEach es X.env)).any (·.1) = false := by rfl) :
    PE X (.Call (.Attribute o name apos) (e :: es) [] cpos) (tBMF r to t) := by
  refine ⟨fun pins s σ H Q I h => ?_⟩
  refine wpAny_Call_method_late hbase hfew hline rfl (thn (ho.run pins s σ H _ I h) fun v s1 ⟨x, H1, I1, r1, ty, q1⟩ => ?_)
  have h12 : s1.TypeIs v "tuple" ∧ ∀ a, v = .ref a → ∃ ob, s1.heap.get? a = some ob ∧ ob.dict = none := by
    obtain ⟨p, ob, xs, rfl, hp, hc, hd⟩ := ty
    cases r1
    obtain ⟨eo, _⟩ := I1.hok p _ hp
    refine ⟨⟨ob, eo, hc⟩, fun a e => ?_⟩
    cases e
    exact ⟨ob, eo, hd⟩
  refine ⟨"tuple", id, pa, slot, hty, h12.1, h12.2, ?_⟩
  have hA := ha.run cpos pins s1 σ H1 _ I1 q1
  rw [hs] at hA ⊢
  refine Calls.callWith_builtin (by show (false || (backTo cpos (starEach es X.env)).any (·.1)) = false; rw [hplain] <;> rfl) (Calls.evalArgs_plain ?_)
  exact thn hA fun us s2 ⟨vs, H2, I2, r2, q2⟩ => hm pins s2 σ H2 x vs v us Q I2 r1 r2 q2
end
theorem tupFrz {K : PySem.W.Frag} {H : Hp} {a : Addr} {o : Obj} {xs : List V} (h : H a = some (.frz o (.tup xs))) : SqT K H a xs := .inl (.inr ⟨o, h⟩)
end TK

namespace TK
open PySem PySem.Spec PyProof.Rows L2
/-! ### the special methods of an own class -/
structure Own (K : PySem.W.Frag) (C : Addr) (name : Str) (g : Addr) : Prop where
  at_ : PySem.W.findIn K (.ref C) name = some (some (.ref g))
  fn : PySem.W.isFn K (.ref g) = true
def IsIn (H : Hp) (x : V) (C : Addr) : Prop := ∃ a dx fs, x = .ref a ∧ H a = some (.ins C dx fs)
section
variable {X : Cx} {CX : CXT} {C g : Addr} {n : Nat} {fd : FuncData} {ps : List Str} {sp : Sp} {E : XK} {pins : List (Addr × Obj)} {σ : L2.St} {H : Hp} {s : Shared}
theorem run_own {A : Around} {Q : VK} {us : List Value} {vs : List V} (F : FnOk X.prog X.w X.K X.mg X.base CX n g fd ps sp) (hr : Room n A) (e0 : Env0 X.prog X.w X.K X.mg X.base A X.stack s H) (hb : Binds X.K fd ps []) (hx : Passes CX X E)
    (I : Inv X pins σ H s) (r : Vals vs us) (h : sp vs H Q E) : wpAny (model X.prog X.w) A (call (.ref g) us) (EP X pins σ Q) X.xe s := by
  have hl : (us ++ []).length = ps.length := by rw [List.append_nil, ← r.length]; exact F.len _ _ _ _ h
  have hbb := hb s us I.kIn hl
  rw [List.append_nil] at hbb
  refine wpAny_call (codeAny_mono (F.run A X.stack s H ⟨us, []⟩ us vs Q E hr e0 hbb r h) fun r s' hq => ?_)
  cases r with
  | error e => exact hx pins σ H s e s' I hq
  | ok fl =>
    cases fl with
    | ret u => exact I.after hq
    | next => exact False.elim hq
    | brk => exact False.elim hq
    | cont => exact False.elim hq
theorem own_at {a dx : Addr} {fs : List (Str × V)} (I : Inv X pins σ H s) (h : H a = some (.ins C dx fs)) : ∃ ox od, PySem.W.InstAt s.heap a ox C od := by
  obtain ⟨mA, J, _⟩ := ins_get I.hok h
  obtain ⟨od, J, _⟩ := J.look
  exact ⟨_, _, J⟩
/-! o[k] -/
def rOwn (C : Addr) (sp : Sp) (E : XK) : R2 := fun x y H Q => IsIn H x C ∧ sp [x, y] H Q E
def PlainIxO (b : Expr) : Prop := ∀ (x : Addr) (i : Value), subscripted b true (.ref x) i = runValue (.builtin "lifetime.subscript" ⟨[.ref x, i], []⟩)
theorem pe_ixOwn {a b : Expr} {ta tb : TE} {pos : Pos} (c : Own X.K C "__getitem__" g) (cf : PySem.W.fnIn X.K g = true) (F : FnOk X.prog X.w X.K X.mg X.base CX n g fd ps sp) (hr : Room (n + 1) X.A) (hb : Binds X.K fd ps []) (hx : Passes CX X E)
    (ha : PE X a ta) (hb' : PE X b tb) (hs : PlainIxO b) : PE X (.Subscript a b pos) (tOp (rOwn C sp E) ta tb) := by
  refine ⟨fun pins s σ H Q I h => ?_⟩
  refine Subscript_ (binT ha hb' I h fun v u s2 x y H2 I2 rx ry q => ?_)
  obtain ⟨⟨p, dx, fs, rfl, hp⟩, q⟩ := q
  cases rx
  obtain ⟨ox, od, J⟩ := own_at I2 hp
  obtain ⟨m, hF⟩ := I2.fr
  exact PySem.W.sub_K hF I2.ok.mod.kin J c.at_ cf c.fn (run_own F hr.in1 I2.env0.in1 hb hx I2 (vs := [.ref p, y]) (.cons rfl (.cons ry .nil)) q) (hs _ _)
/-! o + p, o * p, o | p: two of one class -/
def rOwn2 (C : Addr) (sp : Sp) (E : XK) : R2 := fun x y H Q => IsIn H x C ∧ IsIn H y C ∧ sp [x, y] H Q E
theorem op_ownBin {op : Operator} (c : Own X.K C (PySem.dunder op.info.2) g) (sf : PySem.W.selfFirst X.K C = true) (F : FnOk X.prog X.w X.K X.mg X.base CX n g fd ps sp) (hr : Room n X.A) (hb : Binds X.K fd ps []) (hx : Passes CX X E) :
    OpR X (binaryOp op) (rOwn2 C sp E) := by
  intro pins s σ H x y v u Q I rx ry h
  obtain ⟨⟨a, dx, fs, rfl, ha⟩, ⟨b, dy, gs, rfl, hb'⟩, q⟩ := h
  cases rx
  cases ry
  obtain ⟨ox, od, J⟩ := own_at I ha
  obtain ⟨ox', od', J'⟩ := own_at I hb'
  obtain ⟨m, hF⟩ := I.fr
  refine PySem.W.binop_K hF I.ok.mod.kin J J'.type sf c.at_ c.fn (wpAny_mono (run_own F hr I.env0 hb hx I (vs := [.ref a, .ref b]) (.cons rfl (.cons rfl .nil)) q) (fun w s' z => ?_) fun _ _ x => x)
  obtain ⟨z', H', I', rz, qz⟩ := z
  exact SlX.cmpback rz ⟨z', H', I', rz, qz⟩
/-! o == p: two of one class -/
theorem op_ownEq {op : CmpOp} (hop : ∀ a b, compareOp op a b = richCompare op a b) (c : Own X.K C (cmpInfo op).2.1 g) (F : FnOk X.prog X.w X.K X.mg X.base CX n g fd ps sp) (hr : Room n X.A) (hb : Binds X.K fd ps []) (hx : Passes CX X E) :
    OpR X (compareOp op) (rOwn2 C sp E) := by
  intro pins s σ H x y v u Q I rx ry h
  obtain ⟨⟨a, dx, fs, rfl, ha⟩, ⟨b, dy, gs, rfl, hb'⟩, q⟩ := h
  cases rx
  cases ry
  obtain ⟨ox, od, J⟩ := own_at I ha
  obtain ⟨ox', od', J'⟩ := own_at I hb'
  obtain ⟨m, hF⟩ := I.fr
  rw [hop]
  refine PySem.W.cmp_K (op := op) (tb := .ref C) hr.units0 hF I.ok.mod.kin J J'.type (by simp [PySem.W.notFirst]) c.at_ c.fn (wpAny_mono (run_own F hr I.env0 hb hx I (vs := [.ref a, .ref b]) (.cons rfl (.cons rfl .nil)) q) (fun w s' z => ?_) fun _ _ x => x)
  obtain ⟨z', H', I', rz, qz⟩ := z
  exact SlX.cmpback rz ⟨z', H', I', rz, qz⟩
/-! x in o, x not in o -/
def rOwnIn (neg : Bool) (C : Addr) (sp : Sp) (E : XK) : R2 := fun x y H Q => IsIn H y C ∧ sp [y, x] H (fun z H' => ∃ b, z = .bl b ∧ Q (.bl (if neg then !b else b)) H') E
theorem op_ownIn (c : Own X.K C "__contains__" g) (F : FnOk X.prog X.w X.K X.mg X.base CX n g fd ps sp) (hr : Room n X.A) (hb : Binds X.K fd ps []) (hx : Passes CX X E) : OpR X (compareOp .In) (rOwnIn false C sp E) := by
  intro pins s σ H x y v u Q I rx ry h
  obtain ⟨⟨a, dx, fs, rfl, ha⟩, q⟩ := h
  cases ry
  obtain ⟨ox, od, J⟩ := own_at I ha
  obtain ⟨m, hF⟩ := I.fr
  refine PySem.W.in_K hF I.ok.mod.kin J c.at_ c.fn (wpAny_mono (run_own F hr I.env0 hb hx I (vs := [.ref a, x]) (.cons rfl (.cons rx .nil)) q) (fun w s' z => ?_) fun _ _ x => x)
  obtain ⟨z', H', I', rz, b, rfl, qz⟩ := z
  cases (show w = Value.bool b from rz)
  exact wpAny_truthy_bool ⟨.bl b, H', I', rfl, by simpa using qz⟩
theorem op_ownNotIn (c : Own X.K C "__contains__" g) (F : FnOk X.prog X.w X.K X.mg X.base CX n g fd ps sp) (hr : Room n X.A) (hb : Binds X.K fd ps []) (hx : Passes CX X E) : OpR X (compareOp .NotIn) (rOwnIn true C sp E) := by
  intro pins s σ H x y v u Q I rx ry h
  obtain ⟨⟨a, dx, fs, rfl, ha⟩, q⟩ := h
  cases ry
  obtain ⟨ox, od, J⟩ := own_at I ha
  obtain ⟨m, hF⟩ := I.fr
  refine PySem.W.notIn_K hF I.ok.mod.kin J c.at_ c.fn (wpAny_mono (run_own F hr I.env0 hb hx I (vs := [.ref a, x]) (.cons rfl (.cons rx .nil)) q) (fun w s' z => ?_) fun _ _ x => x)
  obtain ⟨z', H', I', rz, b, rfl, qz⟩ := z
  cases (show w = Value.bool b from rz)
  exact wpAny_truthy_bool ⟨.bl (!b), H', I', rfl, by simpa using qz⟩
/-! len(o) -/
def rOwnLen (C : Addr) (sp : Sp) (E : XK) : List V → Hp → VK → Prop := fun xs H Q => ∃ x, xs = [x] ∧ IsIn H x C ∧ sp [x] H (fun z H' => ∃ k : Nat, z = .int k ∧ k < 2 ^ 63 ∧ Q z H') E
theorem call_ownLen (c : Own X.K C "__len__" g) (F : FnOk X.prog X.w X.K X.mg X.base CX n g fd ps sp) (hr : Room (n + 1) X.A) (hb : Binds X.K fd ps []) (hx : Passes CX X E) : CallR X (.builtin "len") (rOwnLen C sp E) := by
  intro pins s σ H xs us Q I r h
  obtain ⟨x, rfl, ⟨a, dx, fs, rfl, ha⟩, q⟩ := h
  obtain ⟨u, rfl, ru⟩ := vals1 r
  cases ru
  obtain ⟨ox, od, J⟩ := own_at I ha
  obtain ⟨m, hF⟩ := I.fr
  refine PySem.W.len_K hF I.ok.mod.kin J c.at_ c.fn (wpAny_mono (run_own F hr.in1 I.env0.in1 hb hx I (vs := [.ref a]) (.cons rfl .nil) q) (fun w s' z => ?_) fun _ _ x => x)
  obtain ⟨z', H', I', rz, k, rfl, hk, qz⟩ := z
  obtain ⟨t, rfl⟩ := (show ∃ t, w = Value.int k t from rz)
  exact ⟨⟨by omega, by omega⟩, .int k, H', I'.tok _, ⟨_, rfl⟩, qz⟩
/-! iter(t), t a tuple; for x in o -/
abbrev itTObj (t : Addr) (i : Nat) : Obj := { cls := .type "tuple_iterator", data := .fields #[.ref t, .int i 0] }
def ItT (t it : Addr) : HO := .ext fun h => h.get? it = some (itTObj t 0)
theorem itT_ok {P : Program} {w : World} {H : Hp} {h : Heap} {t it : Addr} (e : h.get? it = some (itTObj t 0)) : ObjOk P w H h it (ItT t it) := ⟨e, ⟨_, e⟩, fun h1 h2 q k => k _ q⟩
theorem call_iterT : CallR X (.builtin "iter") (fun xs H Q => ∃ (l : Addr) (zs : List V), xs = [.ref l] ∧ SqT X.K H l zs ∧ ∀ it, H it = Option.none → X.s_0.heap.objs.size ≤ it → Q (.ref it) (upd H it (ItT l it))) := by
  intro pins s σ H xs us Q I r h
  obtain ⟨l, zs, rfl, hq, q⟩ := h
  obtain ⟨u, rfl, ru⟩ := vals1 r
  cases ru
  obtain ⟨its, rv, p, hz⟩ := I.tuple hq
  refine Calls.call_function_entry (by decide +kernel) (by decide +kernel) PySem.W.kdk_entry_iter (PySem.W.kdk_args_iter _) ?_
  unfold Builtin.«iter»
  refine wpAny_bind (m := someArgs "iter" 1 2 _) (wpAny_of_eq (a := [Value.ref l]) (by first | rfl | kernel_rfl!) ?_)
  show wpAny _ _ (pyIter (.ref l) >>= _) _ _ _
  refine wpAny_bind (wpAny_pyIter_tuple (show s.heap.IsTuple l its.toArray from p) ?_)
  exact wpAny_pure ⟨_, rfl, .ref s.heap.objs.size, _, I.laid (t' := s.toks) (fun b u e => Heap.get?_push_of_some _ e) (Nat.le_refl _) (itT_ok (Heap.get?_push_size _ rfl)), rfl, q _ (I.hok.fresh (Nat.le_refl _)) I.sz⟩
/-- what an __iter__ over a tuple does -/
def QIt (H : Hp) (n : Nat) (t : Addr) : VK := fun v H' => ∃ it, v = .ref it ∧ H it = Option.none ∧ n ≤ it ∧ H' = upd H it (ItT t it)
end
def FnIt (P : Program) (w : World) (K : PySem.W.Frag) (mg : Str → Option Value) (base : Heap) (k : Nat) (f : Addr) (R : Addr → Addr → Hp → Prop) : Prop :=
  ∀ (A : Around) (outer : List Env) (s : Shared) (H : Hp) (a t : Addr), Room k A → Env0 P w K mg base A outer s H → R a t H → codeAny (model P w) A (.call (.ref f) ⟨[.ref a], []⟩) (CR CX0 outer P w H s (QIt H s.heap.objs.size t) E0) s
theorem fnIt_of {P : Program} {w : World} {K : PySem.W.Frag} {mg : Str → Option Value} {base : Heap} {k : Nat} {f : Addr} {x qual : Str} {st : Stmt} {fd : FuncData} {N : List Str} {R : Addr → Addr → Hp → Prop} (F : Fun K x qual st f fd) (S : FnScope N ["self"] (defScope st)) (b : Binds K fd ["self"] [])
    (hbody : ∀ (cdv : Value) (A : Around) (outer : List Env) (s : Shared) (H : Hp) (a t : Addr), Room k (A.deeper (envOfC qual (defScope st) s.heap.objs.size f cdv)) → R a t H →
      ∃ tt, PSs (cxOf CX0 P w K mg base N qual (defScope st) f cdv A outer s H E0).nox (defBody st) tt ∧ tt { nx := fun _ H' => QIt H s.heap.objs.size t .non H', rt := QIt H s.heap.objs.size t } (start N [.ref a]) H) : FnIt P w K mg base (k + 1) f R := by
  intro A outer s H a t hr e0 hR
  obtain ⟨oc, od, kV, doc, pm, an, cdv, ct, osl, rfl, lk, hcd⟩ := F.ex
  have KX : K.In s.heap := e0.mod.kin.keeps fun b o e => (e0.bs b o e).1
  have lim : s.heap.NoLimit := e0.mod.nolimit.keeps fun b o e => (e0.bs b o e).1
  have hkind : ∀ y ∈ ([Str.ofString "self"] : List Str).zip [Value.ref a], (defScope st).names.lookup y.1 = some .local ∨ ((defScope st).names.lookup y.1 = some .cell ∧ ((cellsFrom (s.heap.objs.size + 1) (defScope st).names []).lookup y.1).isSome = true) := fun ⟨n, v⟩ hy => by
    rcases S.par n (List.of_mem_zip hy).1 with q | q
    · exact .inl q
    · exact .inr ⟨q, PySem.W.cellsFrom_some _ _ _ (.inl q)⟩
  have hbb := b s [.ref a] KX (by simp)
  rw [List.append_nil] at hbb
  refine codeAny_call_function hr.depth (KX _ _ lk) rfl S.co S.gen rfl (PySem.W.codeRec_of KX hcd) (hbb _ _ _ _ ?_)
  refine wpAny_newFunctionEnv_cells S.kind hkind fun env he s1 x => ?_
  subst he
  refine ⟨lim.keeps x.toInCall.keep, codeAny_func ?_⟩
  obtain ⟨t', ht, hq⟩ := hbody cdv A outer s H a t (hr.deeper _) hR
  have I : Inv (cxOf CX0 P w K mg base N qual (defScope st) f cdv A outer s H E0) [] (start N [V.ref a]) H s1 := inv_start S hr.hd e0 rfl (.cons rfl .nil) x
  refine wpAny_mono (ht.nox.run [] s1 (start N [V.ref a]) H _ I hq) (fun fl s' hs => ?_) fun e s' hs => hs
  have fin : ∀ {σ' : L2.St} {H' : Hp} {v : V} {u : Value}, Inv (cxOf CX0 P w K mg base N qual (defScope st) f cdv A outer s H E0) [] σ' H' s' → RelV v u → QIt H s.heap.objs.size t v H' → CE outer P w H s (QIt H s.heap.objs.size t) u s' :=
    fun {σ' H' v u} J rv q => ⟨v, H', J.os, J.bare, J.base, J.hok, rv, q⟩
  cases fl with
  | ret u =>
    obtain ⟨v, σ', H', J, rv, q⟩ := hs
    exact fin J rv q
  | next =>
    obtain ⟨σ', H', J, q⟩ := hs
    exact fin (v := V.non) (u := Value.none) J rfl q
  | brk =>
    obtain ⟨_, _, _, q⟩ := hs
    exact False.elim q
  | cont =>
    obtain ⟨_, _, _, q⟩ := hs
    exact False.elim q
section
variable {X : Cx} {CX : CXT} {C g : Addr} {n : Nat} {fd : FuncData} {ps : List Str} {sp : Sp} {E : XK} {pins : List (Addr × Obj)} {σ : L2.St} {H : Hp} {s : Shared}
def iOwn (K : PySem.W.Frag) (C : Addr) (R : Addr → Addr → Hp → Prop) (te : TE) : TI := fun σ H Z => te σ H fun x H1 => ∃ a dx fs t, x = .ref a ∧ H1 a = some (.ins C dx fs) ∧ R a t H1 ∧ (∃ xs, SqT K H1 t xs) ∧ Z (Itt K t) H1
theorem pi_own {R : Addr → Addr → Hp → Prop} {e tg : Expr} {te : TE} (c : Own X.K C "__iter__" g) (F : FnIt X.prog X.w X.K X.mg X.base n g R) (hr : Room n X.A) (he : PE X e te) : PI X tg e (iOwn X.K C R te) := by
  refine ⟨fun pins s σ H Z I h => ?_⟩
  refine thn (he.run pins s σ H _ I h) fun v s1 ⟨x, H1, I1, r1, q1⟩ => ?_
  obtain ⟨a, dx, fs, t, rfl, ha, hR, ⟨xs, hxs⟩, q⟩ := q1
  cases r1
  obtain ⟨ox, od, J⟩ := own_at I1 ha
  obtain ⟨m, hF⟩ := I1.fr
  refine PySem.W.owit_iter hF I1.ok.mod.kin J c.at_ c.fn ?_
  refine wpAny_call (codeAny_mono (F X.A X.stack s1 H1 a t hr I1.env0 hR) fun r s' hq => ?_)
  cases r with
  | error e => exact False.elim hq
  | ok fl =>
    cases fl with
    | ret u =>
      obtain ⟨z, H2, os, bare, un, hok, rz, it, rfl, hn, hge, rfl⟩ := id hq
      have I2 : Inv X pins σ (upd H1 it (ItT t it)) s' := I1.call' os un hok bare (fun b z => absurd z (by simp))
      cases rz
      have hget : s'.heap.get? it = some (itTObj t 0) := (I2.hok it _ upd_same).1
      have hT : s'.TypeIs (.ref it) "tuple_iterator" := ⟨_, hget, rfl⟩
      have hi : (upd H1 it (ItT t it)) it = some (.ext fun h => h.get? it = some (itTObj t 0)) := upd_same
      have I3 := ItX.inv_drop I2 hi
      have e3 : ItX.dropH (upd H1 it (ItT t it)) it = H1 := ItX.dropH_upd hn
      have fp := ItX.inv_fp I2 hi (Nat.le_trans I1.sz hge)
      rw [e3] at I3 fp
      unfold PySem.W.OwitIt
      refine wpAny_specialOf (name := Str.ofString "__next__") hT PySem.F.slot_tuple_iterator_next.lookup ?_
      refine ⟨it, [it], _, _, H1, rfl, I3, turn_tuple t it, ⟨_, hget, rfl, rfl⟩, fun b hb => ?_, q⟩
      cases List.mem_singleton.mp hb
      exact fp
    | next => exact False.elim hq
    | brk => exact False.elim hq
    | cont => exact False.elim hq
end
end TK

namespace TK
open PySem PySem.Calls PySem.Spec PyProof.Rows PyProof.V L2
/-! ### two dicts with tuples as keys, equal whatever the order -/
section
variable {prog : Program} {w : World} {K : Type} [DecidableEq K] {knd : HeapKind prog w K} {A : Around} {E : Value → Shared → Prop} {s : Shared}
theorem samePairsH {nm : String} {a b : Addr} {ka kb : List (K × Addr × Value)} {Q : Bool → Shared → Prop} (hu : knd.room A) (ha : (a == sysModules) = false) (hb : (b == sysModules) = false)
    (da : s.heap.DictOfH knd a ka) (db : s.heap.DictOfH knd b kb) (hl : ka.length = kb.length) (hits : ∀ x ∈ ka, ∃ p, atKey kb x.1 = some p ∧ SeqAt.EqAt A s x.2.2 p.2 true) (h : Q true s) :
    wpAny (model prog w) A (Builtin.Dict.samePairs nm a b) Q E s := by
  obtain ⟨oa, es, ep, hoa, _, hda, hea, hia, _⟩ := da
  obtain ⟨ob, es', ep', hob, _, hdb, heb, hib, hnb⟩ := db
  have hla : ka.length = es.size := (size_of_entries hea).symm
  have hlb : kb.length = es'.size := (size_of_entries heb).symm
  have hsz : es.size = es'.size := by omega
  unfold Builtin.Dict.samePairs Builtin.Dict.showsAll
  rw [if_neg (show ¬ (a == sysModules) = true by rw [ha]; exact Bool.false_ne_true), if_neg (show ¬ (b == sysModules) = true by rw [hb]; exact Bool.false_ne_true)]
  refine wpAny_bind (wpAny_pure (wpAny_bind (wpAny_pure ?_)))
  refine wpAny_bind (wpAny_dictEntries hoa hda ?_)
  dsimp only
  refine wpAny_bind (wpAny_dictEntries hob hdb ?_)
  rw [if_neg (by rw [hsz]; simp)]
  refine wpAny_bind (wpAny_dictEpoch hoa hda ?_)
  refine wpAny_bind ?_
  rw [Std.Legacy.Range.forIn_eq_forIn_range']
  simp only [Std.Legacy.Range.size, Nat.sub_zero, Nat.add_sub_cancel, Nat.div_one]
  refine wpAny_forIn_list _
    (fun rest q s' => s' = s ∧ q = (none, ()) ∧ ∃ i, rest = List.range' i (es.size - i) ∧ i ≤ es.size)
    _ ?_ ?_ _ _ ⟨rfl, rfl, 0, by simp, Nat.zero_le _⟩
  · rintro x rest q s' ⟨rfl, rfl, i, hr, hi⟩
    have hlt : i < es.size := by
      rcases Nat.lt_or_ge i es.size with h | h
      · exact h
      · rw [Nat.sub_eq_zero_of_le h] at hr; simp at hr
    obtain ⟨rfl, hrest⟩ : x = i ∧ rest = List.range' (i + 1) (es.size - (i + 1)) := by
      have e : es.size - i = (es.size - (i + 1)) + 1 := by omega
      rw [e, List.range'_succ] at hr
      injection hr with h1 h2
      exact ⟨h1, h2⟩
    refine wpAny_bind (wpAny_dictEntries hoa hda ?_)
    have hlt' : x < ka.length := by rw [hla]; exact hlt
    have hent : es[x]? = some (entryOfKey knd ka[x]) := by rw [entry_at hea x, List.getElem?_eq_getElem hlt']; rfl
    rw [hent]
    obtain ⟨p, hp, heq⟩ := hits ka[x] (List.getElem_mem hlt')
    have hkey := hia ka[x] (List.getElem_mem hlt')
    show wpAny _ _ (holding [(entryOfKey knd ka[x]).key, (entryOfKey knd ka[x]).val] _ >>= _) _ _ _
    refine wpAny_bind (wpAny_holding (wpAny_bind (wpAny_dictFind_heap hu hkey hob hdb heb hib hnb ?_ ?_)))
    · intro hno
      rw [atKey_none_of_get hno] at hp
      exact nomatch hp
    · intro j p' hj
      have ep' : p' = p := Option.some.inj ((atKey_of_get hnb hj).symm.trans hp)
      subst ep'
      refine wpAny_bind (wpAny_dictEntries hob hdb ?_)
      rw [entry_at heb j, hj]
      refine wpAny_holding (heq prog w _ _ ?_)
      show wpAny _ _ (if (!true) = true then _ else _) _ _ _
      rw [if_neg (by decide)]
      refine wpAny_bind (wpAny_dictEpoch hoa hda ?_)
      rw [if_neg (by simp)]
      exact wpAny_pure ⟨rfl, rfl, x + 1, hrest, hlt⟩
  · rintro q s' ⟨rfl, rfl, i, hr, hi⟩
    refine wpAny_pure ?_
    exact h
theorem eqDictH {a b : Addr} {ka kb : List (K × Addr × Value)} {Q : Value → Shared → Prop} (hr : knd.room A.in1) (ha : (a == sysModules) = false) (hb : (b == sysModules) = false)
    (da : s.heap.DictOfH knd a ka) (db : s.heap.DictOfH knd b kb) (hu : A.units < cLine) (hl : ka.length = kb.length) (hits : ∀ x ∈ ka, ∃ p, atKey kb x.1 = some p ∧ SeqAt.EqAt A.in1 s x.2.2 p.2 true) (h : Q (.bool true) s) :
    wpAny (model prog w) A (compareOp .Eq (.ref a) (.ref b)) Q E s := by
  refine wpAny_richCompare_same_room (op := .Eq) da.typeIs db.typeIs PySem.F.slot_dict_eq (wpAny_call_entry PySem.F.slot_dict_eq da.typeIs PySem.F.entry_dict_eq ?_ (PySem.F.args_dict_eq_2 _ _)) hu
  show wpAny _ _ (Builtin.Dict.dictSlotArgs "__eq__" ⟨[.ref a, .ref b], []⟩ >>= _) _ _ s
  refine wpAny_bind ?_
  unfold Builtin.Dict.dictSlotArgs
  refine wpAny_bind (wpAny_notOrdered_dict da.typeIs ?_)
  show wpAny _ _ (pure (Value.ref a, Value.ref b)) _ _ s
  refine wpAny_pure ?_
  refine wpAny_bind (wpAny_isInstance (T := "dict") db.typeIs PySem.F.sub_dict_dict ?_)
  simp only [Bool.not_true, Bool.false_eq_true, if_false]
  refine wpAny_bind (wpAny_pure (wpAny_bind (wpAny_pure ?_)))
  refine wpAny_bind (samePairsH hr ha hb da db hl hits ?_)
  refine wpAny_pure ⟨_, rfl, ?_, ?_⟩
  · exact fun x => nomatch x
  · simpa using h
end
section
variable {X : Cx}
def rEqDT : R2 := fun x y H Q => ∃ a b ks ls, x = .ref a ∧ y = .ref b ∧ H a = some (.dT ks) ∧ H b = some (.dT ls) ∧ ks.length = ls.length ∧ (∀ p ∈ ks, valV ls p.1 = some p.2 ∧ flatB p.2 = true) ∧ Q (.bl true) H
theorem hitsT {H : Hp} {A : Around} {s : Shared} {ls : List (List Key × V)} {xb : List (List Key × Addr × Value)} (rb : KT H ls xb) {ks : List (List Key × V)} {xa : List (List Key × Addr × Value)} (ra : KT H ks xa) :
    (∀ p ∈ ks, valV ls p.1 = some p.2 ∧ flatB p.2 = true) → ∀ x ∈ xa, ∃ p, atKey xb x.1 = some p ∧ SeqAt.EqAt A s x.2.2 p.2 true := by
  unfold KT at ra
  induction ra with
  | nil => intro _ x h; exact absurd h List.not_mem_nil
  | @cons p q ps qs h t ih =>
    intro hp x hx
    rcases List.mem_cons.mp hx with rfl | hx
    · obtain ⟨h1, _, h2⟩ := h
      obtain ⟨e, f⟩ := hp p List.mem_cons_self
      have rr : RelO (some p.2) ((atKey xb p.1).map (·.2)) := by rw [← e]; exact rb.val p.1
      obtain ⟨y, hy, ry⟩ := rr.some_of
      obtain ⟨z, hz, rfl⟩ := Option.map_eq_some_iff.mp hy
      exact ⟨z, by rw [← h1]; exact hz, eqAt_same h2 ry f⟩
    · exact ih (fun p' hm => hp p' (List.mem_cons_of_mem _ hm)) x hx
theorem op_eq_dictT (hu : X.A.units + 1 < cLine) : OpR X (compareOp .Eq) rEqDT := by
  intro pins s σ H x y v u Q I rx ry h
  obtain ⟨a, b, ks, ls, rfl, rfl, ea, eb, hlen, hp, q⟩ := h
  obtain rfl : v = Value.ref a := rx
  obtain rfl : u = Value.ref b := ry
  obtain ⟨_, ya, va, ra, da⟩ := dt_rd I.hok (.inl ea)
  obtain ⟨_, yb, vb, rb, db⟩ := dt_rd I.hok (.inl eb)
  have hl : va.length = vb.length := by rw [← Paired.length ra, ← Paired.length rb]; exact hlen
  exact eqDictH (tupleKind_room_in1 hu) ya yb da db (Nat.lt_of_succ_lt hu) hl (hitsT rb ra hp) (fin_bl I q rfl)
end
end TK

namespace TK
open PySem PySem.Spec PyProof.Rows L2
/-- any loop of a comprehension over whatever walks (for two generators: one time each) -/
theorem walk_go {J : It} {n : Nat} {G : Hp → Prop} {Y : Nat → Hp → V → Hp → Prop} (w : Walk J n G Y) {H0 : Hp} {Qd : Hp → Prop} {body : (Hp → Prop) → V → Hp → Prop} (Pv : Nat → Hp → Prop) (h0 : Pv 0 H0) (hG : ∀ i H, i ≤ n → Pv i H → G H)
    (hs : ∀ i x H H', i < n → Pv i H → Y i H x H' → body (Pv (i + 1)) x H') (hd : ∀ H, Pv n H → Qd H) :
    ∃ W : Nat → Nat → Hp → Prop, (∃ m, W 0 m H0) ∧ ∀ i m H, W i m H →
      (J.stop i H ∧ Qd H) ∨ (J.go i H ∧ ∃ Nx : Hp → Prop, (∀ H', Nx H' → ∃ m', m' < m ∧ W (i + 1) m' H') ∧ ∀ x H', J.yld i H x H' → body Nx x H') := by
  refine ⟨fun i m H => m = n - i ∧ i ≤ n ∧ Pv i H, ⟨n, by simp, Nat.zero_le _, h0⟩, ?_⟩
  rintro i m H ⟨rfl, hi, p⟩
  have q := hG i H hi p
  by_cases hlt : i < n
  · exact .inr ⟨w.goes i H hlt q, Pv (i + 1), fun H' p' => ⟨n - (i + 1), by omega, rfl, hlt, p'⟩, fun x H' y => hs i x H H' hlt p (w.yields i H x H' hlt q y)⟩
  · have e : i = n := by omega
    subst e
    exact .inl ⟨w.stops H q, hd H p⟩
theorem pe_fldK {X : Cx} {K : PySem.W.Frag} {e : Expr} {f : Str} {pos : Pos} {ta : TE} (h : X.K = K) (he : PE X e ta) (hb : attributeBase e f X.env (eval e X.env) = eval e X.env) : PE X (.Attribute e f pos) (tFld K ta f) := h ▸ pe_fld he hb
theorem pi_tupK {X : Cx} {K : PySem.W.Frag} {tg e : Expr} {te : TE} (h : X.K = K) (he : PE X e te) : PI X tg e (iTup K te) := h ▸ pi_tup he
end TK

namespace TK
open PySem PySem.Spec PyProof.Rows L2
def topS (i : Nat) : Stmt := PySem.Challenge.pw_turnsandkeys_k32_guests_mean.main.body.getD i (.Pass ⟨0, 0, 0, 0⟩)
abbrev s_wall : Stmt := topS 1
theorem sc_wall : FnScope ["k"] ["k"] (defScope s_wall) := ⟨rfl, rfl, rfl, by decide +kernel, rfl, by decide +kernel, by decide +kernel⟩
abbrev s_check_size : Stmt := topS 8
theorem sc_check_size : FnScope ["size", "low", "high"] ["size", "low", "high"] (defScope s_check_size) := ⟨rfl, rfl, rfl, by decide +kernel, rfl, by decide +kernel, by decide +kernel⟩
abbrev s_check_range : Stmt := topS 9
theorem sc_check_range : FnScope ["number", "low", "high"] ["number", "low", "high"] (defScope s_check_range) := ⟨rfl, rfl, rfl, by decide +kernel, rfl, by decide +kernel, by decide +kernel⟩
abbrev s_check_offers : Stmt := topS 11
theorem sc_check_offers : FnScope ["offers", "charge", "weight"] ["offers"] (defScope s_check_offers) := ⟨rfl, rfl, rfl, by decide +kernel, rfl, by decide +kernel, by decide +kernel⟩
abbrev s_L_cell : Stmt := topS 14
theorem sc_L_cell : FnScope ["_law_script", "_law_k", "_law_far_here", "_law_j"] ["_law_script", "_law_k"] (defScope s_L_cell) := ⟨rfl, rfl, rfl, by decide +kernel, rfl, by decide +kernel, by decide +kernel⟩
abbrev s_L_mixed : Stmt := topS 15
theorem sc_L_mixed : FnScope ["_law_cell_here", "_law_k", "_law_x"] ["_law_cell_here", "_law_k"] (defScope s_L_mixed) := ⟨rfl, rfl, rfl, by decide +kernel, rfl, by decide +kernel, by decide +kernel⟩
abbrev s_L_pool : Stmt := topS 16
theorem sc_L_pool : FnScope ["_law_cell_here", "_law_number", "_law_rest", "_law_deep", "_law_pool_here", "_law_k"] ["_law_cell_here", "_law_number"] (defScope s_L_pool) := ⟨rfl, rfl, rfl, by decide +kernel, rfl, by decide +kernel, by decide +kernel⟩
abbrev s_L_part : Stmt := topS 17
theorem sc_L_part : FnScope ["_law_pool_here", "_law_spot", "_law_under", "_law_size"] ["_law_pool_here", "_law_spot", "_law_under", "_law_size"] (defScope s_L_part) := ⟨rfl, rfl, rfl, by decide +kernel, rfl, by decide +kernel, by decide +kernel⟩
abbrev s_L_far : Stmt := topS 18
theorem sc_L_far : FnScope ["_law_pool_here", "_law_spot", "_law_number", "_law_far_here", "_law_k"] ["_law_pool_here", "_law_spot", "_law_number"] (defScope s_L_far) := ⟨rfl, rfl, rfl, by decide +kernel, rfl, by decide +kernel, by decide +kernel⟩
abbrev s_L_chosen : Stmt := topS 19
theorem sc_L_chosen : FnScope ["_law_pool_here", "_law_spot", "_law_under", "_law_small", "_law_crest", "_law_whole", "_law_way", "_law_near"] ["_law_pool_here", "_law_spot", "_law_under", "_law_small", "_law_crest", "_law_whole"] (defScope s_L_chosen) := ⟨rfl, rfl, rfl, by decide +kernel, rfl, by decide +kernel, by decide +kernel⟩
abbrev s_L_goods : Stmt := topS 20
theorem sc_L_goods : FnScope ["_law_pool_here", "_law_spot", "_law_number", "_law_calm", "_law_goods_here", "_law_k", "_law_place", "_law_charge", "_law_weight"] ["_law_pool_here", "_law_spot", "_law_number", "_law_calm"] (defScope s_L_goods) := ⟨rfl, rfl, rfl, by decide +kernel, rfl, by decide +kernel, by decide +kernel⟩
abbrev s_L_beside : Stmt := topS 21
theorem sc_L_beside : FnScope ["_law_pool_here", "_law_spot"] ["_law_pool_here", "_law_spot"] (defScope s_L_beside) := ⟨rfl, rfl, rfl, by decide +kernel, rfl, by decide +kernel, by decide +kernel⟩
abbrev s_L_lowest : Stmt := topS 22
theorem sc_L_lowest : FnScope ["_law_above", "_law_below", "_law_one", "_law_two", "_law_turn"] ["_law_above", "_law_below"] (defScope s_L_lowest) := ⟨rfl, rfl, rfl, by decide +kernel, rfl, by decide +kernel, by decide +kernel⟩
abbrev s_L_mean : Stmt := topS 23
theorem sc_L_mean : FnScope ["_law_goods_here", "_law_beside_here", "_law_picked", "_law_above", "_law_below", "_law_k"] ["_law_goods_here", "_law_beside_here", "_law_picked"] (defScope s_L_mean) := ⟨rfl, rfl, rfl, by decide +kernel, rfl, by decide +kernel, by decide +kernel⟩
abbrev s_L_integer : Stmt := topS 24
theorem sc_L_integer : FnScope ["_law_got"] ["_law_got"] (defScope s_L_integer) := ⟨rfl, rfl, rfl, by decide +kernel, rfl, by decide +kernel, by decide +kernel⟩
abbrev s_L_same : Stmt := topS 25
theorem sc_L_same : FnScope ["_law_got", "_law_wanted", "_law_k"] ["_law_got", "_law_wanted"] (defScope s_L_same) := ⟨rfl, rfl, rfl, by decide +kernel, rfl, by decide +kernel, by decide +kernel⟩
abbrev s_law : Stmt := topS 26
theorem sc_law : FnScope ["_law_script", "_law_rest", "_law_number", "_law_goods_here", "_law_beside_here", "_law_picked", "_law_wanted", "_law_given", "_law_crowd", "_law_turned", "_law_some", "_law_others", "_law_k", "_law_other"] ["_law_script"] (defScope s_law) := ⟨rfl, rfl, rfl, by decide +kernel, rfl, by decide +kernel, by decide +kernel⟩
end TK

namespace TK
open PySem PySem.Spec PyProof.Rows L2
section
variable {P : Program} {w : World} {K : PySem.W.Frag} {mg : Str → Option Value} {base : Heap}
/-! check_size, check_range -/
def spRange : Sp := fun vs H Q _ => ∃ a lo hi : Int, vs = [.int a, .int lo, .int hi] ∧ lo ≤ a ∧ a ≤ hi ∧ Q .non H
theorem ok_check_size {f : Addr} {fd : FuncData} (F : Fun K "check_size" "check_size" s_check_size f fd) : FnOk P w K mg base CX0 1 f fd ["size", "low", "high"] spRange := by
  refine F.ok sc_check_size (fun vs H Q E h => ?_) (fun cdv A outer s H vs Q E hr h => ?_)
  · obtain ⟨a, lo, hi, rfl, _⟩ := h
    rfl
  · obtain ⟨a, lo, hi, rfl, h1, h2, q⟩ := h
    refine ⟨_, (pss_one (ps_if (pt_not (pt_chain op_le op_le (pv 1) (pv 0) (pv 2))) (pss_one ps_never) pss_nil)), ?_⟩
    refine ⟨_, rfl, _, rfl, _, _, rfl, rfl, _, rfl, ?_⟩
    rw [decide_eq_true h1]
    refine iteT ⟨_, rfl, _, _, rfl, rfl, _, rfl, ?_⟩
    rw [decide_eq_true h2]
    exact iteF q
theorem ok_check_range {f : Addr} {fd : FuncData} (F : Fun K "check_range" "check_range" s_check_range f fd) : FnOk P w K mg base CX0 1 f fd ["number", "low", "high"] spRange := by
  refine F.ok sc_check_range (fun vs H Q E h => ?_) (fun cdv A outer s H vs Q E hr h => ?_)
  · obtain ⟨a, lo, hi, rfl, _⟩ := h
    rfl
  · obtain ⟨a, lo, hi, rfl, h1, h2, q⟩ := h
    refine ⟨_, (pss_one (ps_if (pt_not (pt_chain op_le op_le (pv 1) (pv 0) (pv 2))) (pss_one ps_never) pss_nil)), ?_⟩
    refine ⟨_, rfl, _, rfl, _, _, rfl, rfl, _, rfl, ?_⟩
    rw [decide_eq_true h1]
    refine iteT ⟨_, rfl, _, _, rfl, rfl, _, rfl, ?_⟩
    rw [decide_eq_true h2]
    exact iteF q
theorem pz {n : Nat} : (0 : Int) < ((n + 1 : Nat) : Int) := by omega
theorem mb {a : Int} {n : Nat} (h : n + 1 ≤ 2 ^ 63) : -(2 ^ 64) < a % ((n + 1 : Nat) : Int) ∧ a % ((n + 1 : Nat) : Int) < 2 ^ 64 := by
  have h1 := Int.emod_nonneg a (b := ((n + 1 : Nat) : Int)) (by omega)
  have h2 := Int.emod_lt_of_pos a (b := ((n + 1 : Nat) : Int)) (by omega)
  omega
/-! _law_part -/
def partOf (ns : List Int) (s u z : Int) : Int := ns.getD s.toNat 0 / u % z
def spPart (K : PySem.W.Frag) : Sp := fun vs H Q _ => ∃ (a : Addr) (ns : List Int) (s u z : Int), vs = [.ref a, .int s, .int u, .int z] ∧ SqL K H a (ns.map V.int) ∧ 0 ≤ s ∧ s < ns.length ∧ 0 < u ∧ u < 1000000 ∧ 0 < z ∧ Q (.int (partOf ns s u z)) H
theorem get_int {ns : List Int} {s : Int} (h0 : 0 ≤ s) (h : s < ns.length) : atI (ns.map V.int) s = some (.int (ns.getD s.toNat 0)) := by
  have h1 : s.toNat < ns.length := by omega
  refine atI_in h0 ?_
  rw [List.getElem?_map, List.getElem?_eq_getElem h1, List.getD_eq_getElem?_getD, List.getElem?_eq_getElem h1]
  rfl
theorem ok_L_part {f : Addr} {fd : FuncData} (F : Fun K "_law_part" "_law_part" s_L_part f fd) (m_int : mg "int" = none) : FnOk P w K mg base CX0 1 f fd ["_law_pool_here", "_law_spot", "_law_under", "_law_size"] (spPart K) := by
  refine F.ok sc_L_part (fun vs H Q E h => ?_) (fun cdv A outer s H vs Q E hr h => ?_)
  · obtain ⟨a, ns, s, u, z, rfl, _⟩ := h
    rfl
  · obtain ⟨a, ns, s, u, z, rfl, hS, h0, h1, h2, h3, h4, q⟩ := h
    refine ⟨_, (pss_one (ps_ret (pe_op op_mod (pe_op op_fdiv (pe_callTy call_int1 (by rfl) m_int (by decide +kernel) (pa_cons (pe_ix ix_list (pv 0) (pv 1) (fun _ _ => rfl)) pa_nil)) (pv 2)) (pv 3)))), ?_⟩
    refine ⟨_, rfl, _, rfl, _, _, _, _, rfl, rfl, hS, get_int h0 h1, .inl ⟨_, rfl, _, rfl, _, _, rfl, rfl, ⟨h2, by omega⟩, _, rfl, _, _, rfl, rfl, h4, ?_⟩⟩
    exact q
theorem part_lo {ns : List Int} {s u z : Int} (h : 0 < z) : 0 ≤ partOf ns s u z := Int.emod_nonneg _ (by omega)
theorem part_hi {ns : List Int} {s u z : Int} (h : 0 < z) : partOf ns s u z < z := Int.emod_lt_of_pos _ h
/-! _law_mixed -/
def spMixed : Sp := fun vs H Q _ => ∃ c k : Int, vs = [.int c, .int k] ∧ 0 ≤ k ∧ k < 1000000 ∧ ∀ r : Int, 0 ≤ r → Q (.int r) H
theorem ok_L_mixed {f : Addr} {fd : FuncData} (F : Fun K "_law_mixed" "_law_mixed" s_L_mixed f fd) (m_abs : mg "abs" = none) : FnOk P w K mg base CX0 1 f fd ["_law_cell_here", "_law_k"] spMixed := by
  refine F.ok sc_L_mixed (fun vs H Q E h => ?_) (fun cdv A outer s H vs Q E hr h => ?_)
  · obtain ⟨c, k, rfl, _⟩ := h
    rfl
  · obtain ⟨c, k, rfl, h0, h1, q⟩ := h
    refine ⟨_, (pss_cons (ps_set (i := 2) sc_L_mixed.nd rfl (.inl rfl) (pe_op op_mod (pe_op op_add (pe_op op_mul (pe_op op_mod (pe_callB call_abs (by rfl) m_abs (by decide +kernel) (pa_cons (pv 0) pa_nil)) pe_int) pe_int) (pe_op op_mul (pe_op op_add (pv 1) pe_int) pe_int)) pe_int))
  (pss_cons (ps_set (i := 2) sc_L_mixed.nd rfl (.inl rfl) (pe_op op_mod (pe_op op_add (pe_op op_mul (pv 2) (pe_op op_add (pe_op op_mod (pv 2) pe_int) pe_int)) (pe_op op_mul (pe_op op_add (pv 1) pe_int) pe_int)) pe_int))
  (pss_cons (ps_set (i := 2) sc_L_mixed.nd rfl (.inl rfl) (pe_op op_mod (pe_op op_mul (pv 2) (pe_op op_add (pe_op op_mod (pv 2) pe_int) pe_int)) pe_int))
  (pss_one (ps_ret (pe_op op_fdiv (pv 2) pe_int)))))), ?_⟩
    refine ⟨_, rfl, _, rfl, _, _, rfl, rfl, pz, _, _, rfl, rfl, .inr (by decide), _, rfl, _, _, rfl, rfl, _, _, rfl, rfl, .inr (by decide), _, _, rfl, rfl, _, _, rfl, rfl, pz, ?_⟩
    refine ⟨_, rfl, _, rfl, _, _, rfl, rfl, pz, _, _, rfl, rfl, _, _, rfl, rfl, .inl (mb (by decide)), _, rfl, _, _, rfl, rfl, _, _, rfl, rfl, .inr (by decide), _, _, rfl, rfl, _, _, rfl, rfl, pz, ?_⟩
    refine ⟨_, rfl, _, rfl, _, _, rfl, rfl, pz, _, _, rfl, rfl, _, _, rfl, rfl, .inl (mb (by decide)), _, _, rfl, rfl, pz, _, rfl, _, _, rfl, rfl, ⟨by decide, by decide⟩, ?_⟩
    exact q _ (Int.ediv_nonneg (Int.emod_nonneg _ (by decide)) (by decide))
/-! _law_cell -/
def spCellA (K : PySem.W.Frag) : Sp := fun vs H Q _ => ∃ (a : Addr) (ns : List Int) (k : Int), vs = [.ref a, .int k] ∧ SqL K H a (ns.map V.int) ∧ 0 ≤ k ∧ k < 1000 ∧ ns.length ≤ 1000 ∧ ∀ r : Int, Q (.int r) H
theorem ok_L_cell {f : Addr} {fd : FuncData} (F : Fun K "_law_cell" "_law_cell" s_L_cell f fd) (m_len : mg "len" = none) (m_range : mg "range" = none) (m_abs : mg "abs" = none) : FnOk P w K mg base CX0 1 f fd ["_law_script", "_law_k"] (spCellA K) := by
  refine F.ok sc_L_cell (fun vs H Q E h => ?_) (fun cdv A outer s H vs Q E hr h => ?_)
  · obtain ⟨a, ns, k, rfl, _⟩ := h
    rfl
  · obtain ⟨a, ns, k, rfl, hS, h0, h1, h2, q⟩ := h
    refine ⟨_, (pss_cons (ps_if (pt_cmpR op_lt (pv 1) (pe_callB call_len_seq (by rfl) m_len (by decide +kernel) (pa_cons (pv 0) pa_nil)) (nomark _)) (pss_one (ps_ret (pe_ix ix_list (pv 0) (pv 1) (fun _ _ => rfl)))) pss_nil)
  (pss_cons (ps_set (i := 2) sc_L_cell.nd rfl (.inl rfl) (pe_op op_mul pe_int (pe_op op_add (pv 1) pe_int)))
  (pss_cons (ps_for PassesOwn.never rfl (pi_range1 (by rfl) m_range (pa_cons (pe_callB call_len_seq (by rfl) m_len (by decide +kernel) (pa_cons (pv 0) pa_nil)) pa_nil)) (pg_name (i := 3) sc_L_cell.nd rfl (.inl rfl))
    (pss_one (ps_set (i := 2) sc_L_cell.nd rfl (.inl rfl) (pe_op op_mod (pe_op op_add (pv 2) (pe_op op_mul (pe_op op_mul (pe_op op_add (pv 3) pe_int) (pe_op op_mod (pe_callB call_abs (by rfl) m_abs (by decide +kernel) (pa_cons (pe_ix ix_list (pv 0) (pv 3) (fun _ _ => rfl)) pa_nil)) pe_int)) pe_int)) pe_int))))
  (pss_one (ps_ret (pv 2)))))), ?_⟩
    refine ⟨_, rfl, _, rfl, _, _, rfl, .inl hS, _, _, rfl, rfl, _, rfl, ite2 (fun e => ?_) (fun e => ?_)⟩
    · have e1 : k < ((ns.map V.int).length : Nat) := of_decide_eq_true e
      rw [List.length_map] at e1
      exact ⟨_, rfl, _, rfl, _, _, _, _, rfl, rfl, hS, get_int h0 e1, q _⟩
    · refine ⟨_, rfl, _, _, rfl, rfl, _, _, rfl, rfl, .inl (by decide), ?_⟩
      refine ⟨_, rfl, _, _, rfl, .inl hS, _, rfl, by omega, by rw [List.length_map]; omega, for_range (fun i σ H' => H' = H ∧ ∃ (r : Int) (y : Option V), σ = [some (.ref a), some (.int k), some (.int r), y]) ⟨rfl, _, _, rfl⟩ ?_ ?_⟩
      · rintro i σ H' hi ⟨rfl, r, y, rfl⟩
        rw [List.length_map] at hi
        have hi' : i < ns.length := by omega
        refine ⟨_, rfl, _, rfl, _, _, rfl, rfl, _, rfl, _, rfl, _, _, _, _, rfl, rfl, hS, get_int (by omega) (by omega), _, rfl, _, _, rfl, rfl, pz, _, _, rfl, rfl, .inr (mb (by decide)), _, _, rfl, rfl, .inr (by decide), _, _, rfl, rfl, _, _, rfl, rfl, pz, rfl, _, _, rfl⟩
      · rintro σ H' ⟨rfl, r, y, rfl⟩
        exact ⟨_, rfl, q _⟩
end
end TK

namespace TK
open PySem PySem.Spec PyProof.Rows L2
theorem upd_twice {H : Hp} {p : Addr} {a b : HO} : upd (upd H p a) p b = upd H p b := by
  funext x
  unfold upd
  by_cases e : x = p
  · rw [if_pos e, if_pos e]
  · rw [if_neg e, if_neg e, if_neg e]
section
variable {P : Program} {w : World} {K : PySem.W.Frag} {mg : Str → Option Value} {base : Heap}
/-! _law_pool -/
def spPool : Sp := fun vs H Q _ => ∃ (c n : Int), vs = [.int c, .int n] ∧ 0 ≤ n ∧ n ≤ 1000 ∧ ∀ (p : Addr) (ns : List Int), H p = none → (ns.length : Int) = n → (∀ x ∈ ns, 0 ≤ x) → Q (.ref p) (upd H p (.lst (ns.map V.int)))
theorem ok_L_pool {f : Addr} {fd : FuncData} (F : Fun K "_law_pool" "_law_pool" s_L_pool f fd) (m_range : mg "range" = none) (m_abs : mg "abs" = none) (d_L_mixed : Def P w K mg base "_law_mixed" 1 ["_law_cell_here", "_law_k"] spMixed) : FnOk P w K mg base CX0 2 f fd ["_law_cell_here", "_law_number"] spPool := by
  refine F.ok sc_L_pool (fun vs H Q E h => ?_) (fun cdv A outer s H vs Q E hr h => ?_)
  · obtain ⟨c, n, rfl, _⟩ := h
    rfl
  · obtain ⟨c, n, rfl, h0, h1, q⟩ := h
    refine ⟨_, (pss_cons (ps_set (i := 2) sc_L_pool.nd rfl (.inl rfl) (pe_callB call_abs (by rfl) m_abs (by decide +kernel) (pa_cons (pv 0) pa_nil)))
  (pss_cons (ps_set (i := 3) sc_L_pool.nd rfl (.inl rfl) (pe_cmpR op_ge (pv 2) (pe_op op_pow pe_int pe_int) (nomark _)))
  (pss_cons (ps_set (i := 4) sc_L_pool.nd rfl (.inl rfl) (pe_lst pa_nil))
  (pss_cons (ps_for PassesOwn.never rfl (pi_range1 (by rfl) m_range (pa_cons (pv 1) pa_nil)) (pg_name (i := 5) sc_L_pool.nd rfl (.inl rfl))
    (pss_one (ps_if (PW.pt (pw_and (pt_val (pv 3)) (pw_and1 (pt_cmpR op_gt (pv 2) pe_int (nomark _))))) (pss_cons (ps_expr (pe_bm PySem.F.plainAttrs_list PySem.F.slot_list_append PySem.F.type_list_append mt_append (pv 4) (pa_cons (pe_op op_mod (pv 2) pe_int) pa_nil)))
  (pss_one (ps_set (i := 2) sc_L_pool.nd rfl (.inl rfl) (pe_op op_fdiv (pv 2) pe_int)))) (pss_one (ps_expr (pe_bm PySem.F.plainAttrs_list PySem.F.slot_list_append PySem.F.type_list_append mt_append (pv 4) (pa_cons (pe_callD d_L_mixed (hr.mono (by decide)) (by rfl) (pa_cons (pv 0) (pa_cons (pv 5) pa_nil))) pa_nil)))))))
  (pss_one (ps_ret (pv 4))))))), ?_⟩
    have ha : 0 ≤ (if c < 0 then -c else c) := by split <;> omega
    refine ⟨_, rfl, _, rfl, _, rfl, _, _, rfl, rfl, ⟨by decide, by decide, by decide⟩, _, _, rfl, rfl, ?_⟩
    refine ⟨Nat.zero_le _, fun p np => ?_⟩
    refine ⟨_, rfl, _, rfl, by omega, by omega, for_range (fun i σ H' => ∃ (r : Int) (b : Bool) (ns : List Int) (y : Option V), σ = [some (.int c), some (.int n), some (.int r), some (.bl b), some (.ref p), y] ∧ 0 ≤ r ∧ ns.length = i ∧ (∀ x ∈ ns, 0 ≤ x) ∧ H' = upd H p (.lst (ns.map V.int))) ⟨_, _, [], _, rfl, ha, rfl, (fun x hx => nomatch hx), rfl⟩ ?_ ?_⟩
    · rintro i σ H' hi ⟨r, b, ns, y, rfl, r0, hl, hx, rfl⟩
      have hz : (ns.map V.int).length < sizeLine := by rw [List.length_map]; exact small1000 (by omega)
      refine ⟨_, rfl, _, rfl, ite2 (fun e => ?_) (fun e => ?_)⟩
      · refine ⟨_, rfl, _, _, rfl, rfl, _, rfl, ite2 (fun e => ?_) (fun e => ?_)⟩
        · refine ⟨_, rfl, .inl ⟨rfl, _, lstAt upd_same⟩, _, rfl, _, _, rfl, rfl, pz, _, _, _, rfl, rfl, upd_same, hz, ?_⟩
          refine ⟨_, rfl, _, _, rfl, rfl, ⟨by decide, by decide⟩, ?_⟩
          refine ⟨_, b, ns ++ [r % 5040], _, rfl, Int.ediv_nonneg r0 (by decide), by rw [List.length_append, hl]; rfl, ?_, ?_⟩
          · intro x h
            rcases List.mem_append.mp h with h | h
            · exact hx x h
            · cases List.mem_singleton.mp h; exact Int.emod_nonneg _ (by decide)
          · rw [upd_twice, List.map_append]; rfl
        · refine ⟨_, rfl, .inl ⟨rfl, _, lstAt upd_same⟩, _, rfl, _, rfl, _, _, rfl, by omega, by omega, fun z z0 => ⟨_, _, _, rfl, rfl, upd_same, hz, r, b, ns ++ [z], _, rfl, r0, by rw [List.length_append, hl]; rfl, ?_, ?_⟩⟩
          · intro x h
            rcases List.mem_append.mp h with h | h
            · exact hx x h
            · cases List.mem_singleton.mp h; exact z0
          · rw [upd_twice, List.map_append]; rfl
      · refine iteF ?_
        refine ⟨_, rfl, .inl ⟨rfl, _, lstAt upd_same⟩, _, rfl, _, rfl, _, _, rfl, by omega, by omega, fun z z0 => ⟨_, _, _, rfl, rfl, upd_same, hz, r, b, ns ++ [z], _, rfl, r0, by rw [List.length_append, hl]; rfl, ?_, ?_⟩⟩
        · intro x h
          rcases List.mem_append.mp h with h | h
          · exact hx x h
          · cases List.mem_singleton.mp h; exact z0
        · rw [upd_twice, List.map_append]; rfl
    · rintro σ H' ⟨r, b, ns, y, rfl, r0, hl, hx, rfl⟩
      exact ⟨_, rfl, q p ns np (by omega) hx⟩
/-! _law_far -/
def spFar (K : PySem.W.Frag) : Sp := fun vs H Q _ => ∃ (a : Addr) (ns : List Int) (s n : Int), vs = [.ref a, .int s, .int n] ∧ SqL K H a (ns.map V.int) ∧ 0 ≤ s ∧ 0 ≤ n ∧ n ≤ 1000 ∧ s + n ≤ ns.length ∧ ∀ r : Int, 0 ≤ r → Q (.int r) H
theorem ok_L_far {f : Addr} {fd : FuncData} (F : Fun K "_law_far" "_law_far" s_L_far f fd) (m_range : mg "range" = none) (m_int : mg "int" = none) : FnOk P w K mg base CX0 1 f fd ["_law_pool_here", "_law_spot", "_law_number"] (spFar K) := by
  refine F.ok sc_L_far (fun vs H Q E h => ?_) (fun cdv A outer s H vs Q E hr h => ?_)
  · obtain ⟨a, ns, s, n, rfl, _⟩ := h
    rfl
  · obtain ⟨a, ns, s, n, rfl, hS, h0, h1, h2, h3, q⟩ := h
    refine ⟨_, (pss_cons (ps_set (i := 3) sc_L_far.nd rfl (.inl rfl) pe_int)
  (pss_cons (ps_for PassesOwn.never rfl (pi_range1 (by rfl) m_range (pa_cons (pv 2) pa_nil)) (pg_name (i := 4) sc_L_far.nd rfl (.inl rfl))
    (pss_one (ps_set (i := 3) sc_L_far.nd rfl (.inl rfl) (pe_op op_add (pe_op op_mul (pv 3) pe_int) (pe_op op_mod (pe_callTy call_int1 (by rfl) m_int (by decide +kernel) (pa_cons (pe_ix ix_list (pv 0) (pe_op op_add (pv 1) (pv 4)) (fun _ _ => rfl)) pa_nil)) pe_int)))))
  (pss_one (ps_ret (pv 3))))), ?_⟩
    refine ⟨_, rfl, _, rfl, by omega, by omega, for_range (fun i σ H' => H' = H ∧ ∃ (r : Int) (y : Option V), σ = [some (.ref a), some (.int s), some (.int n), some (.int r), y] ∧ 0 ≤ r) ⟨rfl, _, _, rfl, by decide⟩ ?_ ?_⟩
    · rintro i σ H' hi ⟨rfl, r, y, rfl, r0⟩
      refine ⟨_, rfl, _, _, rfl, rfl, .inr (by decide), _, rfl, _, rfl, _, rfl, _, _, rfl, rfl, _, _, _, _, rfl, rfl, hS, get_int (by omega) (by omega), .inl ⟨_, rfl, _, _, rfl, rfl, pz, _, _, rfl, rfl, rfl, _, _, rfl, ?_⟩⟩
      exact Int.add_nonneg (Int.mul_nonneg r0 (by decide)) (Int.emod_nonneg _ (by decide))
    · rintro σ H' ⟨rfl, r, y, rfl, r0⟩
      exact ⟨_, rfl, q _ r0⟩
/-! _law_chosen: from 0 to the crest -/
def spChosen (K : PySem.W.Frag) : Sp := fun vs H Q _ => ∃ (a : Addr) (ns : List Int) (s u z c wh : Int), vs = [.ref a, .int s, .int u, .int z, .int c, .int wh] ∧ SqL K H a (ns.map V.int) ∧ 0 ≤ s ∧ s < ns.length ∧ 0 < u ∧ u < 1000 ∧ 0 < z ∧ z ≤ c ∧ ∀ r : Int, 0 ≤ r → r ≤ c → Q (.int r) H
theorem ok_L_chosen {f : Addr} {fd : FuncData} (F : Fun K "_law_chosen" "_law_chosen" s_L_chosen f fd) (m_int : mg "int" = none) (d_L_part : Def P w K mg base "_law_part" 1 ["_law_pool_here", "_law_spot", "_law_under", "_law_size"] (spPart K)) : FnOk P w K mg base CX0 2 f fd ["_law_pool_here", "_law_spot", "_law_under", "_law_small", "_law_crest", "_law_whole"] (spChosen K) := by
  refine F.ok sc_L_chosen (fun vs H Q E h => ?_) (fun cdv A outer s H vs Q E hr h => ?_)
  · obtain ⟨a, ns, s, u, z, c, wh, rfl, _⟩ := h
    rfl
  · obtain ⟨a, ns, s, u, z, c, wh, rfl, hS, h0, h1, h2, h3, h4, h5, q⟩ := h
    refine ⟨_, (pss_cons (ps_set (i := 6) sc_L_chosen.nd rfl (.inl rfl) (pe_callD d_L_part (hr.mono (by decide)) (by rfl) (pa_cons (pv 0) (pa_cons (pv 1) (pa_cons (pv 2) (pa_cons pe_int pa_nil))))))
  (pss_cons (ps_set (i := 7) sc_L_chosen.nd rfl (.inl rfl) (pe_callD d_L_part (hr.mono (by decide)) (by rfl) (pa_cons (pv 0) (pa_cons (pv 1) (pa_cons (pe_op op_mul pe_int (pv 2)) (pa_cons (pv 3) pa_nil))))))
  (pss_cons (ps_if (pt_cmpR op_eq (pv 6) pe_int (nomark _)) (pss_one (ps_ret (pe_op op_sub (pv 4) (pv 7)))) pss_nil)
  (pss_cons (ps_if (pt_cmpR op_eq (pv 6) pe_int (nomark _)) (pss_one (ps_ret (pe_op op_mod (pe_callTy call_int1 (by rfl) m_int (by decide +kernel) (pa_cons (pv 5) pa_nil)) (pe_op op_add (pv 4) pe_int)))) pss_nil)
  (pss_one (ps_ret (pv 7))))))), ?_⟩
    refine ⟨_, rfl, _, rfl, _, rfl, _, _, _, _, _, rfl, hS, h0, h1, h2, by omega, by decide, ?_⟩
    refine ⟨_, rfl, _, rfl, _, rfl, _, _, rfl, rfl, .inl (by decide), _, rfl, _, _, _, _, _, rfl, hS, h0, h1, by omega, by omega, h4, ?_⟩
    have p0 := part_lo (ns := ns) (s := s) (u := 10 * u) h4
    have p1 := part_hi (ns := ns) (s := s) (u := 10 * u) h4
    refine ⟨_, rfl, rfl, _, rfl, ite2 (fun e => ?_) (fun e => ?_)⟩
    · exact ⟨_, rfl, _, rfl, _, _, rfl, rfl, q _ (by omega) (by omega)⟩
    · refine ⟨_, rfl, rfl, _, rfl, ite2 (fun e => ?_) (fun e => ?_)⟩
      · refine ⟨_, rfl, .inl ⟨_, rfl, _, rfl, _, _, rfl, rfl, _, _, rfl, rfl, show (0 : Int) < c + 1 by omega, q _ (Int.emod_nonneg _ (by omega)) ?_⟩⟩
        have := Int.emod_lt_of_pos wh (show (0 : Int) < c + 1 by omega)
        omega
      · exact ⟨_, rfl, q _ p0 (by omega)⟩
end
end TK

namespace TK
open PySem PySem.Spec PyProof.Rows L2
section
variable {P : Program} {w : World} {K : PySem.W.Frag} {mg : Str → Option Value} {base : Heap}
/-! _law_integer: of an int -/
def spInteger : Sp := fun vs H Q _ => ∃ i : Int, vs = [.int i] ∧ Q (.bl true) H
theorem ok_L_integer {f : Addr} {fd : FuncData} (F : Fun K "_law_integer" "_law_integer" s_L_integer f fd) (m_isinstance : mg "isinstance" = none) (m_int : mg "int" = none) (m_bool : mg "bool" = none) :
    FnOk P w K mg base CX0 1 f fd ["_law_got"] spInteger := by
  refine F.ok sc_L_integer (fun vs H Q E h => ?_) (fun cdv A outer s H vs Q E hr h => ?_)
  · obtain ⟨i, rfl, _⟩ := h
    rfl
  · obtain ⟨i, rfl, q⟩ := h
    refine ⟨_, (pss_one (ps_ret (pe_and (pe_callB call_isi (by rfl) m_isinstance (by decide +kernel) (pa_cons (pv 0) (pa_cons (pe_bltn (v := .ty "int") (u := .type "int") (by rfl) m_int (by decide +kernel) rfl) pa_nil))) (pe_one (pe_not (pe_callB call_isi (by rfl) m_isinstance (by decide +kernel) (pa_cons (pv 0) (pa_cons (pe_bltn (v := .ty "bool") (u := .type "bool") (by rfl) m_bool (by decide +kernel) rfl) pa_nil)))))))), ?_⟩
    refine ⟨_, rfl, _, _, _, _, true, rfl, .ty "int", .base (.int i), rfl, _, rfl, iteT ?_⟩
    refine ⟨_, rfl, _, _, _, _, false, rfl, .ty "bool", .base (.int i), rfl, _, rfl, ?_⟩
    exact q
end
end TK

namespace TK
open PySem PySem.Spec PyProof.Rows L2
/-! ### the same data, down to a depth -/
def flat1 : V → Bool
  | .non => true | .bl _ => true | .int _ => true | .str _ => true | _ => false
/-- a tuple, known to the object or not -/
def TL (H : Hp) (a : Addr) (xs : List V) : Prop := H a = some (.tup xs) ∨ ∃ o, H a = some (.frz o (.tup xs))
theorem TL.ty {K : PySem.W.Frag} {H : Hp} {a : Addr} {xs : List V} (h : TL H a xs) : TyX K H (.ref a) (.type "tuple") := by
  rcases h with h | ⟨o, h⟩
  · exact .base (.tup h)
  · exact .fTuple h
theorem TL.sq {K : PySem.W.Frag} {H : Hp} {a : Addr} {xs : List V} (h : TL H a xs) : SqT K H a xs := .inl (h.elim .inl .inr)
def Eq2 (H : Hp) : Nat → V → V → Prop
  | 0, x, y => x = y ∧ flat1 x = true
  | n + 1, x, y => (x = y ∧ flat1 x = true) ∨ ∃ (a b : Addr) (xs ys : List V), x = .ref a ∧ y = .ref b ∧ ((H a = some (.lst xs) ∧ H b = some (.lst ys)) ∨ (TL H a xs ∧ TL H b ys)) ∧ xs.length = ys.length ∧ xs.length < 2 ^ 40 ∧
      ∀ (i : Nat) (x y : V), xs[i]? = some x → ys[i]? = some y → Eq2 H n x y
theorem bint {z : V} {H : Hp} {Q : VK} (h : z = .bl true) (q : Q (.bl true) H) : Q z H := h ▸ q
section
variable {P : Program} {w : World} {K : PySem.W.Frag} {mg : Str → Option Value} {base : Heap}
def spSame (n : Nat) : Sp := fun vs H Q _ => ∃ x y, vs = [x, y] ∧ Eq2 H n x y ∧ Q (.bl true) H
theorem same_tail {x y : V} {H : Hp} (ex : x = y) (fx : flat1 x = true) : (x = .non ∧ y = .non) ∨ (∃ b, x = .bl b ∧ y = .bl b) ∨ (∃ i, x = .int i ∧ y = .int i) ∨ ∃ z, x = .str z ∧ y = .str z := by
  subst ex
  cases x with
  | non => exact .inl ⟨rfl, rfl⟩
  | bl b => exact .inr (.inl ⟨b, rfl, rfl⟩)
  | int i => exact .inr (.inr (.inl ⟨i, rfl, rfl⟩))
  | str z => exact .inr (.inr (.inr ⟨z, rfl, rfl⟩))
  | byt _ => cases fx
  | flt _ => cases fx
  | ref _ => cases fx
  | ty _ => cases fx
structure SameTx (K : PySem.W.Frag) (mg : Str → Option Value) : Prop where
  m_isinstance : mg "isinstance" = none
  m_int : mg "int" = none
  m_bool : mg "bool" = none
  m_str : mg "str" = none
  m_tuple : mg "tuple" = none
  m_list : mg "list" = none
  m_len : mg "len" = none
  m_range : mg "range" = none
theorem ok_L_same {f : Addr} {fd : FuncData} (F : Fun K "_law_same" "_law_same" s_L_same f fd) (g : mg "_law_same" = some (.ref f)) (b : Binds K fd ["_law_got", "_law_wanted"] []) (T : SameTx K mg) (d_L_integer : Def P w K mg base "_law_integer" 1 ["_law_got"] spInteger) :
    ∀ n : Nat, n ≤ 10 → FnOk P w K mg base CX0 (n + 2) f fd ["_law_got", "_law_wanted"] (spSame n) := by
  obtain ⟨m_isinstance, m_int, m_bool, m_str, m_tuple, m_list, m_len, m_range⟩ := T
  intro n
  induction n with
  | zero =>
    intro _
    refine F.ok sc_L_same (fun vs H Q E h => ?_) (fun cdv A outer s H vs Q E hr h => ?_)
    · obtain ⟨x, y, rfl, _⟩ := h
      rfl
    · obtain ⟨x, y, rfl, ⟨ex, fx⟩, q⟩ := h
      refine ⟨_, (pss_cons (ps_if (pt_cmpR op_isN (pv 1) pe_non (nomark _)) (pss_one (ps_ret (pe_cmpR op_isN (pv 0) pe_non (nomark _)))) pss_nil)
  (pss_cons (ps_if (pt_cmpR op_isT (pv 1) pe_bl (nomark _)) (pss_one (ps_ret (pe_cmpR op_isT (pv 0) pe_bl (nomark _)))) pss_nil)
  (pss_cons (ps_if (pt_cmpR op_isT (pv 1) pe_bl (nomark _)) (pss_one (ps_ret (pe_cmpR op_isT (pv 0) pe_bl (nomark _)))) pss_nil)
  (pss_cons (ps_if (pt_val (pe_callB call_isi (by rfl) m_isinstance (by decide +kernel) (pa_cons (pv 1) (pa_cons (pe_bltn (v := .ty "int") (u := .type "int") (by rfl) m_int (by decide +kernel) rfl) pa_nil)))) (pss_one (ps_ret (pe_and (pe_callD d_L_integer (hr.mono (by omega)) (by rfl) (pa_cons (pv 0) pa_nil)) (pe_one (pe_cmpR op_eq (pv 0) (pv 1) (nomark _)))))) pss_nil)
  (pss_cons (ps_if (pt_val (pe_callB call_isi (by rfl) m_isinstance (by decide +kernel) (pa_cons (pv 1) (pa_cons (pe_bltn (v := .ty "str") (u := .type "str") (by rfl) m_str (by decide +kernel) rfl) pa_nil)))) (pss_one (ps_ret (pe_and (pe_callB call_isi (by rfl) m_isinstance (by decide +kernel) (pa_cons (pv 0) (pa_cons (pe_bltn (v := .ty "str") (u := .type "str") (by rfl) m_str (by decide +kernel) rfl) pa_nil))) (pe_one (pe_cmpR op_eq (pv 0) (pv 1) (nomark _)))))) pss_nil)
  (pss_cons (ps_if (PW.pt (pw_and (pt_val (pe_callB call_isi (by rfl) m_isinstance (by decide +kernel) (pa_cons (pv 1) (pa_cons (pe_bltn (v := .ty "tuple") (u := .type "tuple") (by rfl) m_tuple (by decide +kernel) rfl) pa_nil)))) (pw_and1 (pt_not (pt_val (pe_callB call_isi (by rfl) m_isinstance (by decide +kernel) (pa_cons (pv 0) (pa_cons (pe_bltn (v := .ty "tuple") (u := .type "tuple") (by rfl) m_tuple (by decide +kernel) rfl) pa_nil)))))))) (pss_one (ps_ret pe_bl)) pss_nil)
  (pss_cons (ps_if (PW.pt (pw_and (pt_val (pe_callB call_isi (by rfl) m_isinstance (by decide +kernel) (pa_cons (pv 1) (pa_cons (pe_bltn (v := .ty "list") (u := .type "list") (by rfl) m_list (by decide +kernel) rfl) pa_nil)))) (pw_and1 (pt_not (pt_val (pe_callB call_isi (by rfl) m_isinstance (by decide +kernel) (pa_cons (pv 0) (pa_cons (pe_bltn (v := .ty "list") (u := .type "list") (by rfl) m_list (by decide +kernel) rfl) pa_nil)))))))) (pss_one (ps_ret pe_bl)) pss_nil)
  (pss_cons (ps_if (pt_cmpR op_ne (pe_callB call_len_seq (by rfl) m_len (by decide +kernel) (pa_cons (pv 0) pa_nil)) (pe_callB call_len_seq (by rfl) m_len (by decide +kernel) (pa_cons (pv 1) pa_nil)) (nomark _)) (pss_one (ps_ret pe_bl)) pss_nil)
  (pss_cons ps_never (pss_one ps_never)))))))))), ?_⟩
      rcases same_tail (H := H) ex fx with ⟨rfl, rfl⟩ | ⟨b, rfl, rfl⟩ | ⟨i, rfl, rfl⟩ | ⟨z, rfl, rfl⟩
      · exact ⟨_, rfl, rfl, _, rfl, iteT ⟨_, rfl, rfl, q⟩⟩
      · refine ⟨_, rfl, rfl, _, rfl, iteF ⟨_, rfl, _, rfl, _, rfl, ?_⟩⟩
        cases b with
        | true => exact iteT ⟨_, rfl, _, rfl, q⟩
        | false => exact iteF ⟨_, rfl, _, rfl, _, rfl, iteT ⟨_, rfl, _, rfl, q⟩⟩
      · refine ⟨_, rfl, rfl, _, rfl, iteF ⟨_, rfl, _, rfl, _, rfl, iteF ⟨_, rfl, _, rfl, _, rfl, iteF ?_⟩⟩⟩
        refine ⟨_, rfl, _, _, _, _, true, rfl, .ty "int", .base (.int i), rfl, _, rfl, iteT ?_⟩
        refine ⟨_, rfl, i, rfl, _, rfl, iteT ⟨_, rfl, _, rfl, rfl, ?_⟩⟩
        exact bint (congrArg V.bl (decide_eq_true rfl)) q
      · refine ⟨_, rfl, rfl, _, rfl, iteF ⟨_, rfl, _, rfl, _, rfl, iteF ⟨_, rfl, _, rfl, _, rfl, iteF ?_⟩⟩⟩
        refine ⟨_, rfl, _, _, _, _, false, rfl, .ty "int", .base (.str z), rfl, _, rfl, iteF ?_⟩
        refine ⟨_, rfl, _, _, _, _, true, rfl, .ty "str", .base (.str z), rfl, _, rfl, iteT ?_⟩
        refine ⟨_, rfl, _, _, _, _, true, rfl, .ty "str", .base (.str z), rfl, _, rfl, iteT ⟨_, rfl, _, rfl, rfl, ?_⟩⟩
        exact bint (congrArg V.bl (decide_eq_true rfl)) q
  | succ n ih =>
    intro hn
    have d_L_same : Def P w K mg base "_law_same" (n + 2) ["_law_got", "_law_wanted"] (spSame n) := ⟨_, _, ih (by omega), g, F.kp, b⟩
    refine F.ok sc_L_same (fun vs H Q E h => ?_) (fun cdv A outer s H vs Q E hr h => ?_)
    · obtain ⟨x, y, rfl, _⟩ := h
      rfl
    · obtain ⟨x, y, rfl, hE, q⟩ := h
      rcases hE with ⟨ex, fx⟩ | ⟨a, c, xs, ys, rfl, rfl, hk, hl, hz, hi⟩
      · refine ⟨_, (pss_cons (ps_if (pt_cmpR op_isN (pv 1) pe_non (nomark _)) (pss_one (ps_ret (pe_cmpR op_isN (pv 0) pe_non (nomark _)))) pss_nil)
  (pss_cons (ps_if (pt_cmpR op_isT (pv 1) pe_bl (nomark _)) (pss_one (ps_ret (pe_cmpR op_isT (pv 0) pe_bl (nomark _)))) pss_nil)
  (pss_cons (ps_if (pt_cmpR op_isT (pv 1) pe_bl (nomark _)) (pss_one (ps_ret (pe_cmpR op_isT (pv 0) pe_bl (nomark _)))) pss_nil)
  (pss_cons (ps_if (pt_val (pe_callB call_isi (by rfl) m_isinstance (by decide +kernel) (pa_cons (pv 1) (pa_cons (pe_bltn (v := .ty "int") (u := .type "int") (by rfl) m_int (by decide +kernel) rfl) pa_nil)))) (pss_one (ps_ret (pe_and (pe_callD d_L_integer (hr.mono (by omega)) (by rfl) (pa_cons (pv 0) pa_nil)) (pe_one (pe_cmpR op_eq (pv 0) (pv 1) (nomark _)))))) pss_nil)
  (pss_cons (ps_if (pt_val (pe_callB call_isi (by rfl) m_isinstance (by decide +kernel) (pa_cons (pv 1) (pa_cons (pe_bltn (v := .ty "str") (u := .type "str") (by rfl) m_str (by decide +kernel) rfl) pa_nil)))) (pss_one (ps_ret (pe_and (pe_callB call_isi (by rfl) m_isinstance (by decide +kernel) (pa_cons (pv 0) (pa_cons (pe_bltn (v := .ty "str") (u := .type "str") (by rfl) m_str (by decide +kernel) rfl) pa_nil))) (pe_one (pe_cmpR op_eq (pv 0) (pv 1) (nomark _)))))) pss_nil)
  (pss_cons (ps_if (PW.pt (pw_and (pt_val (pe_callB call_isi (by rfl) m_isinstance (by decide +kernel) (pa_cons (pv 1) (pa_cons (pe_bltn (v := .ty "tuple") (u := .type "tuple") (by rfl) m_tuple (by decide +kernel) rfl) pa_nil)))) (pw_and1 (pt_not (pt_val (pe_callB call_isi (by rfl) m_isinstance (by decide +kernel) (pa_cons (pv 0) (pa_cons (pe_bltn (v := .ty "tuple") (u := .type "tuple") (by rfl) m_tuple (by decide +kernel) rfl) pa_nil)))))))) (pss_one (ps_ret pe_bl)) pss_nil)
  (pss_cons (ps_if (PW.pt (pw_and (pt_val (pe_callB call_isi (by rfl) m_isinstance (by decide +kernel) (pa_cons (pv 1) (pa_cons (pe_bltn (v := .ty "list") (u := .type "list") (by rfl) m_list (by decide +kernel) rfl) pa_nil)))) (pw_and1 (pt_not (pt_val (pe_callB call_isi (by rfl) m_isinstance (by decide +kernel) (pa_cons (pv 0) (pa_cons (pe_bltn (v := .ty "list") (u := .type "list") (by rfl) m_list (by decide +kernel) rfl) pa_nil)))))))) (pss_one (ps_ret pe_bl)) pss_nil)
  (pss_cons (ps_if (pt_cmpR op_ne (pe_callB call_len_seq (by rfl) m_len (by decide +kernel) (pa_cons (pv 0) pa_nil)) (pe_callB call_len_seq (by rfl) m_len (by decide +kernel) (pa_cons (pv 1) pa_nil)) (nomark _)) (pss_one (ps_ret pe_bl)) pss_nil)
  (pss_cons ps_never (pss_one ps_never)))))))))), ?_⟩
        rcases same_tail (H := H) ex fx with ⟨rfl, rfl⟩ | ⟨b, rfl, rfl⟩ | ⟨i, rfl, rfl⟩ | ⟨z, rfl, rfl⟩
        · exact ⟨_, rfl, rfl, _, rfl, iteT ⟨_, rfl, rfl, q⟩⟩
        · refine ⟨_, rfl, rfl, _, rfl, iteF ⟨_, rfl, _, rfl, _, rfl, ?_⟩⟩
          cases b with
          | true => exact iteT ⟨_, rfl, _, rfl, q⟩
          | false => exact iteF ⟨_, rfl, _, rfl, _, rfl, iteT ⟨_, rfl, _, rfl, q⟩⟩
        · refine ⟨_, rfl, rfl, _, rfl, iteF ⟨_, rfl, _, rfl, _, rfl, iteF ⟨_, rfl, _, rfl, _, rfl, iteF ?_⟩⟩⟩
          refine ⟨_, rfl, _, _, _, _, true, rfl, .ty "int", .base (.int i), rfl, _, rfl, iteT ?_⟩
          refine ⟨_, rfl, i, rfl, _, rfl, iteT ⟨_, rfl, _, rfl, rfl, ?_⟩⟩
          exact bint (congrArg V.bl (decide_eq_true rfl)) q
        · refine ⟨_, rfl, rfl, _, rfl, iteF ⟨_, rfl, _, rfl, _, rfl, iteF ⟨_, rfl, _, rfl, _, rfl, iteF ?_⟩⟩⟩
          refine ⟨_, rfl, _, _, _, _, false, rfl, .ty "int", .base (.str z), rfl, _, rfl, iteF ?_⟩
          refine ⟨_, rfl, _, _, _, _, true, rfl, .ty "str", .base (.str z), rfl, _, rfl, iteT ?_⟩
          refine ⟨_, rfl, _, _, _, _, true, rfl, .ty "str", .base (.str z), rfl, _, rfl, iteT ⟨_, rfl, _, rfl, rfl, ?_⟩⟩
          exact bint (congrArg V.bl (decide_eq_true rfl)) q
      · have step : ∀ (i : Nat) (hi1 : i < ys.length), ∃ x y, atI xs (0 + (i : Int)) = some x ∧ atI ys (0 + (i : Int)) = some y ∧ Eq2 H n x y := by
          intro i h1
          have h2 : i < xs.length := by omega
          refine ⟨xs[i], ys[i], ?_, ?_, hi i _ _ (List.getElem?_eq_getElem h2) (List.getElem?_eq_getElem h1)⟩
          · exact atI_in (by omega) (by rw [show (0 + (i : Int)).toNat = i by omega]; exact List.getElem?_eq_getElem h2)
          · exact atI_in (by omega) (by rw [show (0 + (i : Int)).toNat = i by omega]; exact List.getElem?_eq_getElem h1)
        rcases hk with ⟨ha, hc⟩ | ⟨ha, hc⟩
        · refine ⟨_, (pss_cons (ps_if (pt_cmpR op_isN (pv 1) pe_non (nomark _)) (pss_one (ps_ret (pe_cmpR op_isN (pv 0) pe_non (nomark _)))) pss_nil)
  (pss_cons (ps_if (pt_cmpR op_isT (pv 1) pe_bl (nomark _)) (pss_one (ps_ret (pe_cmpR op_isT (pv 0) pe_bl (nomark _)))) pss_nil)
  (pss_cons (ps_if (pt_cmpR op_isT (pv 1) pe_bl (nomark _)) (pss_one (ps_ret (pe_cmpR op_isT (pv 0) pe_bl (nomark _)))) pss_nil)
  (pss_cons (ps_if (pt_val (pe_callB call_isi (by rfl) m_isinstance (by decide +kernel) (pa_cons (pv 1) (pa_cons (pe_bltn (v := .ty "int") (u := .type "int") (by rfl) m_int (by decide +kernel) rfl) pa_nil)))) (pss_one (ps_ret (pe_and (pe_callD d_L_integer (hr.mono (by omega)) (by rfl) (pa_cons (pv 0) pa_nil)) (pe_one (pe_cmpR op_eq (pv 0) (pv 1) (nomark _)))))) pss_nil)
  (pss_cons (ps_if (pt_val (pe_callB call_isi (by rfl) m_isinstance (by decide +kernel) (pa_cons (pv 1) (pa_cons (pe_bltn (v := .ty "str") (u := .type "str") (by rfl) m_str (by decide +kernel) rfl) pa_nil)))) (pss_one (ps_ret (pe_and (pe_callB call_isi (by rfl) m_isinstance (by decide +kernel) (pa_cons (pv 0) (pa_cons (pe_bltn (v := .ty "str") (u := .type "str") (by rfl) m_str (by decide +kernel) rfl) pa_nil))) (pe_one (pe_cmpR op_eq (pv 0) (pv 1) (nomark _)))))) pss_nil)
  (pss_cons (ps_if (PW.pt (pw_and (pt_val (pe_callB call_isi (by rfl) m_isinstance (by decide +kernel) (pa_cons (pv 1) (pa_cons (pe_bltn (v := .ty "tuple") (u := .type "tuple") (by rfl) m_tuple (by decide +kernel) rfl) pa_nil)))) (pw_and1 (pt_not (pt_val (pe_callB call_isi (by rfl) m_isinstance (by decide +kernel) (pa_cons (pv 0) (pa_cons (pe_bltn (v := .ty "tuple") (u := .type "tuple") (by rfl) m_tuple (by decide +kernel) rfl) pa_nil)))))))) (pss_one (ps_ret pe_bl)) pss_nil)
  (pss_cons (ps_if (PW.pt (pw_and (pt_val (pe_callB call_isi (by rfl) m_isinstance (by decide +kernel) (pa_cons (pv 1) (pa_cons (pe_bltn (v := .ty "list") (u := .type "list") (by rfl) m_list (by decide +kernel) rfl) pa_nil)))) (pw_and1 (pt_not (pt_val (pe_callB call_isi (by rfl) m_isinstance (by decide +kernel) (pa_cons (pv 0) (pa_cons (pe_bltn (v := .ty "list") (u := .type "list") (by rfl) m_list (by decide +kernel) rfl) pa_nil)))))))) (pss_one (ps_ret pe_bl)) pss_nil)
  (pss_cons (ps_if (pt_cmpR op_ne (pe_callB call_len_seq (by rfl) m_len (by decide +kernel) (pa_cons (pv 0) pa_nil)) (pe_callB call_len_seq (by rfl) m_len (by decide +kernel) (pa_cons (pv 1) pa_nil)) (nomark _)) (pss_one (ps_ret pe_bl)) pss_nil)
  (pss_cons (ps_for PassesOwn.never rfl (pi_range1 (by rfl) m_range (pa_cons (pe_callB call_len_seq (by rfl) m_len (by decide +kernel) (pa_cons (pv 1) pa_nil)) pa_nil)) (pg_name (i := 2) sc_L_same.nd rfl (.inl rfl))
    (pss_one (ps_if (pt_not (pt_val (pe_callD d_L_same (hr.mono (by omega)) (by rfl) (pa_cons (pe_ix ix_list (pv 0) (pv 2) (fun _ _ => rfl)) (pa_cons (pe_ix ix_list (pv 1) (pv 2) (fun _ _ => rfl)) pa_nil))))) (pss_one (ps_ret pe_bl)) pss_nil)))
  (pss_one (ps_ret pe_bl))))))))))), ?_⟩
          refine ⟨_, rfl, rfl, _, rfl, iteF ⟨_, rfl, _, rfl, _, rfl, iteF ⟨_, rfl, _, rfl, _, rfl, iteF ?_⟩⟩⟩
          refine ⟨_, rfl, _, _, _, _, false, rfl, .ty "int", .base (.lst hc), rfl, _, rfl, iteF ?_⟩
          refine ⟨_, rfl, _, _, _, _, false, rfl, .ty "str", .base (.lst hc), rfl, _, rfl, iteF ?_⟩
          refine ⟨_, rfl, _, _, _, _, false, rfl, .ty "tuple", .base (.lst hc), rfl, _, rfl, iteF (iteF ?_)⟩
          refine ⟨_, rfl, _, _, _, _, true, rfl, .ty "list", .base (.lst hc), rfl, _, rfl, iteT ⟨_, rfl, _, _, _, _, true, rfl, .ty "list", .base (.lst ha), rfl, _, rfl, iteF ?_⟩⟩
          refine ⟨_, rfl, _, _, rfl, .inl (lstAt ha), _, rfl, _, _, rfl, .inl (lstAt hc), rfl, _, rfl, ?_⟩
          refine iteNS (congrArg (fun k : Nat => V.int (k : Int)) hl) ?_
          refine ⟨_, rfl, _, _, rfl, .inl (lstAt hc), _, rfl, by omega, by omega, for_range (fun i σ H' => H' = H ∧ ∃ y : Option V, σ = [some (.ref a), some (.ref c), y]) ⟨rfl, _, rfl⟩ ?_ ?_⟩
          · rintro i σ H' hlt ⟨rfl, y, rfl⟩
            obtain ⟨x1, y1, e1, e2, e3⟩ := step i (by omega)
            refine ⟨_, rfl, _, rfl, _, _, _, _, rfl, rfl, lstAt ha, e1, _, rfl, _, rfl, _, _, _, _, rfl, rfl, lstAt hc, e2, x1, y1, rfl, e3, _, rfl, iteF ⟨rfl, _, rfl⟩⟩
          · rintro σ H' ⟨rfl, y, rfl⟩
            exact q
        · refine ⟨_, (pss_cons (ps_if (pt_cmpR op_isN (pv 1) pe_non (nomark _)) (pss_one (ps_ret (pe_cmpR op_isN (pv 0) pe_non (nomark _)))) pss_nil)
  (pss_cons (ps_if (pt_cmpR op_isT (pv 1) pe_bl (nomark _)) (pss_one (ps_ret (pe_cmpR op_isT (pv 0) pe_bl (nomark _)))) pss_nil)
  (pss_cons (ps_if (pt_cmpR op_isT (pv 1) pe_bl (nomark _)) (pss_one (ps_ret (pe_cmpR op_isT (pv 0) pe_bl (nomark _)))) pss_nil)
  (pss_cons (ps_if (pt_val (pe_callB call_isi (by rfl) m_isinstance (by decide +kernel) (pa_cons (pv 1) (pa_cons (pe_bltn (v := .ty "int") (u := .type "int") (by rfl) m_int (by decide +kernel) rfl) pa_nil)))) (pss_one (ps_ret (pe_and (pe_callD d_L_integer (hr.mono (by omega)) (by rfl) (pa_cons (pv 0) pa_nil)) (pe_one (pe_cmpR op_eq (pv 0) (pv 1) (nomark _)))))) pss_nil)
  (pss_cons (ps_if (pt_val (pe_callB call_isi (by rfl) m_isinstance (by decide +kernel) (pa_cons (pv 1) (pa_cons (pe_bltn (v := .ty "str") (u := .type "str") (by rfl) m_str (by decide +kernel) rfl) pa_nil)))) (pss_one (ps_ret (pe_and (pe_callB call_isi (by rfl) m_isinstance (by decide +kernel) (pa_cons (pv 0) (pa_cons (pe_bltn (v := .ty "str") (u := .type "str") (by rfl) m_str (by decide +kernel) rfl) pa_nil))) (pe_one (pe_cmpR op_eq (pv 0) (pv 1) (nomark _)))))) pss_nil)
  (pss_cons (ps_if (PW.pt (pw_and (pt_val (pe_callB call_isi (by rfl) m_isinstance (by decide +kernel) (pa_cons (pv 1) (pa_cons (pe_bltn (v := .ty "tuple") (u := .type "tuple") (by rfl) m_tuple (by decide +kernel) rfl) pa_nil)))) (pw_and1 (pt_not (pt_val (pe_callB call_isi (by rfl) m_isinstance (by decide +kernel) (pa_cons (pv 0) (pa_cons (pe_bltn (v := .ty "tuple") (u := .type "tuple") (by rfl) m_tuple (by decide +kernel) rfl) pa_nil)))))))) (pss_one (ps_ret pe_bl)) pss_nil)
  (pss_cons (ps_if (PW.pt (pw_and (pt_val (pe_callB call_isi (by rfl) m_isinstance (by decide +kernel) (pa_cons (pv 1) (pa_cons (pe_bltn (v := .ty "list") (u := .type "list") (by rfl) m_list (by decide +kernel) rfl) pa_nil)))) (pw_and1 (pt_not (pt_val (pe_callB call_isi (by rfl) m_isinstance (by decide +kernel) (pa_cons (pv 0) (pa_cons (pe_bltn (v := .ty "list") (u := .type "list") (by rfl) m_list (by decide +kernel) rfl) pa_nil)))))))) (pss_one (ps_ret pe_bl)) pss_nil)
  (pss_cons (ps_if (pt_cmpR op_ne (pe_callB call_len_seq (by rfl) m_len (by decide +kernel) (pa_cons (pv 0) pa_nil)) (pe_callB call_len_seq (by rfl) m_len (by decide +kernel) (pa_cons (pv 1) pa_nil)) (nomark _)) (pss_one (ps_ret pe_bl)) pss_nil)
  (pss_cons (ps_for PassesOwn.never rfl (pi_range1 (by rfl) m_range (pa_cons (pe_callB call_len_seq (by rfl) m_len (by decide +kernel) (pa_cons (pv 1) pa_nil)) pa_nil)) (pg_name (i := 2) sc_L_same.nd rfl (.inl rfl))
    (pss_one (ps_if (pt_not (pt_val (pe_callD d_L_same (hr.mono (by omega)) (by rfl) (pa_cons (pe_ix ix_tup (pv 0) (pv 2) (fun _ _ => rfl)) (pa_cons (pe_ix ix_tup (pv 1) (pv 2) (fun _ _ => rfl)) pa_nil))))) (pss_one (ps_ret pe_bl)) pss_nil)))
  (pss_one (ps_ret pe_bl))))))))))), ?_⟩
          refine ⟨_, rfl, rfl, _, rfl, iteF ⟨_, rfl, _, rfl, _, rfl, iteF ⟨_, rfl, _, rfl, _, rfl, iteF ?_⟩⟩⟩
          refine ⟨_, rfl, _, _, _, _, false, rfl, .ty "int", hc.ty, rfl, _, rfl, iteF ?_⟩
          refine ⟨_, rfl, _, _, _, _, false, rfl, .ty "str", hc.ty, rfl, _, rfl, iteF ?_⟩
          refine ⟨_, rfl, _, _, _, _, true, rfl, .ty "tuple", hc.ty, rfl, _, rfl, iteT ⟨_, rfl, _, _, _, _, true, rfl, .ty "tuple", ha.ty, rfl, _, rfl, iteF ?_⟩⟩
          refine ⟨_, rfl, _, _, _, _, false, rfl, .ty "list", hc.ty, rfl, _, rfl, iteF (iteF ?_)⟩
          refine ⟨_, rfl, _, _, rfl, .inr (ha.sq), _, rfl, _, _, rfl, .inr (hc.sq), rfl, _, rfl, ?_⟩
          refine iteNS (congrArg (fun k : Nat => V.int (k : Int)) hl) ?_
          refine ⟨_, rfl, _, _, rfl, .inr (hc.sq), _, rfl, by omega, by omega, for_range (fun i σ H' => H' = H ∧ ∃ y : Option V, σ = [some (.ref a), some (.ref c), y]) ⟨rfl, _, rfl⟩ ?_ ?_⟩
          · rintro i σ H' hlt ⟨rfl, y, rfl⟩
            obtain ⟨x1, y1, e1, e2, e3⟩ := step i (by omega)
            refine ⟨_, rfl, _, rfl, _, _, _, _, rfl, rfl, ha.sq, e1, _, rfl, _, rfl, _, _, _, _, rfl, rfl, hc.sq, e2, x1, y1, rfl, e3, _, rfl, iteF ⟨rfl, _, rfl⟩⟩
          · rintro σ H' ⟨rfl, y, rfl⟩
            exact q
end
end TK

namespace TK
open PySem PySem.Spec PyProof.Rows L2
/-- o.m(k = v, ..) of an instance of the class at C -/
def tMethK (C : Addr) (m : Str) (n : Nat) (sp : Sp) (gV : List V → List V → List V) (E : XK) (ta : TE) (tk : TA) : TE := fun σ H Q => ta σ H fun x H1 => ∃ a dx fs, x = .ref a ∧ H1 a = some (.ins C dx fs) ∧ fs.lookup m = none ∧
  tk σ H1 fun zs H2 => zs.length = n ∧ sp (gV [x] zs) H2 Q E
section
variable {X : Cx} {CX : CXT} {k : Nat} {f C : Addr} {fd : FuncData} {ps ks : List Str} {sp : Sp} {E : XK} {m : Str} {pos apos : Pos} {o : Expr} {kws : List Keyword} {ta : TE} {tk : TA} {g : List Value → List Value → List Value} {gV : List V → List V → List V}
theorem run_kb {pins : List (Addr × Obj)} {σ : L2.St} {H : Hp} {s : Shared} {Q : VK} {n : Nat} {us ws : List Value} {vs zs : List V} (F : FnOk X.prog X.w X.K X.mg X.base CX k f fd ps sp) (hr : Room k X.A) (hb : KBn X.K fd ps n ks g gV) (hx : Passes CX X E)
    (I : Inv X pins σ H s) (r : Vals vs us) (rz : Vals zs ws) (l1 : us.length = n) (l2 : ws.length = ks.length) (h : sp (gV vs zs) H Q E) : wpAny (model X.prog X.w) X.A (call (.ref f) us (ks.zip ws)) (EP X pins σ Q) X.xe s := by
  refine wpAny_call (codeAny_mono (F.run X.A X.stack s H ⟨us, ks.zip ws⟩ (g us ws) (gV vs zs) Q E hr I.env0 (hb.to s us ws I.kIn l1 l2) (hb.rel r rz) h) fun r s' hq => ?_)
  cases r with
  | error e => exact hx pins σ H s e s' I hq
  | ok fl =>
    cases fl with
    | ret u => exact I.after hq
    | next => exact False.elim hq
    | brk => exact False.elim hq
    | cont => exact False.elim hq
theorem pe_methK0 {pl : Sem Bool} (he : PE X o ta) (c : Cls X.K C) (hm : Meth X.K C m f) (F : FnOk X.prog X.w X.K X.mg X.base CX k f fd ps sp) (hr : Room k X.A) (hb : KBn X.K fd ps 1 ks g gV) (hx : Passes CX X E) (hkw : PK X kws tk)
    (hall : (backToKw pos (keywordEach kws X.env)).all (·.1.isSome) = true := by rfl) (hks : (backToKw pos (keywordEach kws X.env)).filterMap (·.1) = ks := by rfl)
    (hpl : ((backTo pos (starEach [] X.env)).any (·.1) || (backToKw pos (keywordEach kws X.env)).any (·.1.isNone)) = false := by rfl)
    (ht : eval (.Call (.Attribute o m apos) [] kws pos) X.env = (do
      let ov ← eval o X.env
      standAt apos.atName
      let (f, first) ← holding [ov] (getMethod ov m pl)
      callWith pos f first (backTo pos (starEach [] X.env)) (backToKw pos (keywordEach kws X.env))) := by rfl) :
    PE X (.Call (.Attribute o m apos) [] kws pos) (tMethK C m ks.length sp gV E ta tk) := by
  refine ⟨fun pins s σ H Q I h => ?_⟩
  refine PySem.W.methodCall_KW (pl := pl) (thn (he.run pins s σ H _ I h) fun u s1 ⟨x, H1, I1, rx, a, dx, fs, ex, ea, l, q⟩ => ?_) ht
  subst ex
  obtain rfl : u = Value.ref a := rx
  refine getmeth_ok I1 ea c hm l ?_
  refine PySem.W.callWith_KW0 (first := [.ref a]) (h₀ := X.base) I.ok.mod.kin hm.kp hall ?_ hpl
  refine thn (hkw.run pos pins s1 σ H1 _ I1 q) fun ws s2 ⟨zs, H2, I2, rz, l1, q2⟩ => ⟨I2.kIn, ?_⟩
  rw [hks]
  exact run_kb (us := [.ref a]) (vs := [.ref a]) F hr hb hx I2 (.cons rfl .nil) rz rfl (rz.length.symm.trans l1) q2
end
section
variable {X : Cx} {K : PySem.W.Frag}
theorem call_tuple_ofK (h : X.K = K) : CallR X (.type "tuple") (fun xs H Q => ∃ p ys, xs = [.ref p] ∧ ((SqL K H p ys ∧ ∀ l, H l = none → Q (.ref l) (upd H l (.tup ys))) ∨ (SqT K H p ys ∧ Q (.ref p) H))) := h ▸ call_tuple_of
theorem call_list_ofK (h : X.K = K) : CallR X (.type "list") (fun xs H Q => ∃ p ys, xs = [.ref p] ∧ (SqL K H p ys ∨ SqT K H p ys) ∧ ∀ l, H l = none → Q (.ref l) (upd H l (.lst ys))) := h ▸ call_list_of
end
/-- what is no instance of the class, nor of one below it -/
inductive Odd (K : PySem.W.Frag) (C : Addr) (H : Hp) : V → Prop where
  | non (h : PySem.W.notFirst K C (.type "NoneType") = true) : Odd K C H .non
  | str (z : Str) (h : PySem.W.notFirst K C (.type "str") = true) : Odd K C H (.str z)
  | tup {a : Addr} {xs : List V} (e : H a = some (.tup xs)) (h : PySem.W.notFirst K C (.type "tuple") = true) : Odd K C H (.ref a)
section
variable {X : Cx} {K : PySem.W.Frag} {CX : CXT} {C g : Addr} {n : Nat} {fd : FuncData} {ps : List Str} {sp : Sp} {E : XK} {pins : List (Addr × Obj)} {σ : L2.St} {H : Hp} {s : Shared}
/-- o == y: y of one's own class, or of another kind -/
def rOwnA (K : PySem.W.Frag) (C : Addr) (sp : Sp) (E : XK) : R2 := fun x y H Q => IsIn H x C ∧ (IsIn H y C ∨ Odd K C H y) ∧ sp [x, y] H Q E
theorem odd_looks {x : V} {u : Value} (I : Inv X pins σ H s) (rx : RelV x u) (o : Odd X.K C H x) : ∃ tb, PySem.W.Looks (model X.prog X.w) s.heap (typeOf u) tb ∧ PySem.W.notFirst X.K C tb = true := by
  cases o with
  | non h => cases (show u = Value.none from rx); exact ⟨_, .now, h⟩
  | str z h => obtain ⟨t, q⟩ := (show ∃ t, u = Value.str z t from rx); cases q; exact ⟨_, .now, h⟩
  | @tup a xs ea h =>
    cases (show u = Value.ref a from rx)
    obtain ⟨_, _, _, o, h1, h2, _⟩ := (show ObjOk X.prog X.w H s.heap a (.tup xs) from I.hok a _ ea)
    exact ⟨_, h2 ▸ (PySem.W.Looks.ld h1).andThen .now, h⟩
theorem op_ownEqA {op : CmpOp} (hK : X.K = K) (hop : ∀ a b, compareOp op a b = richCompare op a b) (c : Own X.K C (cmpInfo op).2.1 g) (F : FnOk X.prog X.w X.K X.mg X.base CX n g fd ps sp) (hr : Room n X.A) (hb : Binds X.K fd ps []) (hx : Passes CX X E) :
    OpR X (compareOp op) (rOwnA K C sp E) := by
  subst hK
  intro pins s σ H x y v u Q I rx ry h
  obtain ⟨⟨a, dx, fs, rfl, ha⟩, hy, q⟩ := h
  cases rx
  obtain ⟨ox, od, J⟩ := own_at I ha
  obtain ⟨m, hF⟩ := I.fr
  rw [hop]
  have key : ∃ tb, PySem.W.Looks (model X.prog X.w) s.heap (typeOf u) tb ∧ PySem.W.notFirst X.K C tb = true := by
    rcases hy with ⟨b, dy, gs, rfl, hb'⟩ | o
    · cases ry
      obtain ⟨ox', od', J'⟩ := own_at I hb'
      exact ⟨_, J'.type, by simp [PySem.W.notFirst]⟩
    · exact odd_looks I ry o
  obtain ⟨tb, L, nf⟩ := key
  refine PySem.W.cmp_K (op := op) (tb := tb) hr.units0 hF I.ok.mod.kin J L nf c.at_ c.fn (wpAny_mono (run_own F hr I.env0 hb hx I (vs := [.ref a, y]) (.cons rfl (.cons ry .nil)) q) (fun w s' z => ?_) fun _ _ x => x)
  obtain ⟨z', H', I', rz, qz⟩ := z
  exact SlX.cmpback rz ⟨z', H', I', rz, qz⟩
end
end TK

namespace TK
open PySem PySem.Spec PyProof.Rows L2
abbrev s_Guests_init : Stmt := inClass (topS 12) 0
theorem sc_Guests_init : FnScope ["self", "offers", "aside", "offer"] ["self", "offers", "aside"] (defScope s_Guests_init) := ⟨rfl, rfl, rfl, by decide +kernel, rfl, by decide +kernel, by decide +kernel⟩
abbrev s_Guests_eq : Stmt := inClass (topS 12) 1
theorem sc_Guests_eq : FnScope ["self", "other"] ["self", "other"] (defScope s_Guests_eq) := ⟨rfl, rfl, rfl, by decide +kernel, rfl, by decide +kernel, by decide +kernel⟩
abbrev s_Guests_mean : Stmt := inClass (topS 12) 2
theorem sc_Guests_mean : FnScope ["self", "lot", "shown", "top", "bottom", "shared", "number", "charge", "weight", "_"] ["self", "lot"] (defScope s_Guests_mean) := ⟨rfl, rfl, rfl, by decide +kernel, rfl, by decide +kernel, by decide +kernel⟩
theorem putF_len (f : Str) (v : V) : ∀ fs : List (Str × V), (putF f v fs).length ≤ fs.length + 1
  | [] => Nat.le_refl _
  | (g, x) :: r => by
    show (if g = f then _ else _ : List (Str × V)).length ≤ _
    split
    · exact Nat.le_succ _
    · exact Nat.succ_le_succ (putF_len f v r)
def SqS (K : PySem.W.Frag) (H : Hp) (a : Addr) (xs : List V) : Prop := SqL K H a xs ∨ SqT K H a xs
theorem SqS.same {K : PySem.W.Frag} {H H' : Hp} {a : Addr} {xs : List V} (h : SqS K H a xs) (s : Same H H') : SqS K H' a xs := h.elim (fun h => .inl (s.seq h)) (fun h => .inr (same_tup s h))
/-- an offer: a charge and a weight -/
abbrev Off := Int × Int
def tO (o : Off) : HO := .tup [.int o.1, .int o.2]
def OffsAt (H : Hp) (ts : List Addr) (os : List Off) : Prop := ts.length = os.length ∧ ∀ (i : Nat) (t : Addr), ts[i]? = some t → ∃ o, os[i]? = some o ∧ H t = some (tO o)
structure OOk (o : Off) : Prop where
  c0 : 0 ≤ o.1
  c1 : o.1 ≤ 1000000
  w0 : 1 ≤ o.2
  w1 : o.2 ≤ 1000
def OffsOk (os : List Off) : Prop := ∀ o ∈ os, OOk o
theorem OffsAt.same {H H' : Hp} {ts : List Addr} {os : List Off} (h : OffsAt H ts os) (s : Same H H') : OffsAt H' ts os := ⟨h.1, fun i t e => by
  obtain ⟨o, h1, h2⟩ := h.2 i t e
  exact ⟨o, h1, s _ _ h2⟩⟩
theorem OffsAt.snoc {H : Hp} {ts : List Addr} {os : List Off} {t : Addr} {o : Off} (h : OffsAt H ts os) (e : H t = some (tO o)) : OffsAt H (ts ++ [t]) (os ++ [o]) := by
  refine ⟨by rw [List.length_append, List.length_append, h.1]; rfl, fun i t' he => ?_⟩
  by_cases hi : i < ts.length
  · rw [List.getElem?_append_left hi] at he
    obtain ⟨p, h1, h2⟩ := h.2 i t' he
    exact ⟨p, by rw [List.getElem?_append_left (by rw [← h.1]; exact hi)]; exact h1, h2⟩
  · have e0 : i = ts.length := by
      have := (List.getElem?_eq_some_iff.mp he).1
      rw [List.length_append, List.length_singleton] at this
      omega
    subst e0
    rw [List.getElem?_append_right (Nat.le_refl _), Nat.sub_self] at he
    cases Option.some.inj he
    exact ⟨o, by rw [h.1, List.getElem?_append_right (Nat.le_refl _), Nat.sub_self]; rfl, e⟩
theorem OffsAt.rev {H : Hp} {ts : List Addr} {os : List Off} (h : OffsAt H ts os) : OffsAt H ts.reverse os.reverse := by
  refine ⟨by rw [List.length_reverse, List.length_reverse, h.1], fun i e he => ?_⟩
  have hi := (List.getElem?_eq_some_iff.mp he).1
  rw [List.length_reverse] at hi
  rw [List.getElem?_reverse hi] at he
  obtain ⟨t, h1, h2⟩ := h.2 _ e he
  exact ⟨t, by rw [List.getElem?_reverse (by rw [← h.1]; exact hi), ← h.1]; exact h1, h2⟩
theorem OffsAt.get {H : Hp} {ts : List Addr} {os : List Off} (h : OffsAt H ts os) {i : Nat} {x : V} (e : (ts.map V.ref)[i]? = some x) : ∃ t o, x = .ref t ∧ ts[i]? = some t ∧ os[i]? = some o ∧ H t = some (tO o) := by
  rw [List.getElem?_map] at e
  cases e1 : ts[i]? with
  | none => rw [e1] at e; cases e
  | some t =>
    rw [e1] at e
    obtain ⟨o, h1, h2⟩ := h.2 i t e1
    exact ⟨t, o, (Option.some.inj e).symm, rfl, h1, h2⟩
def fldsG (a : Addr) (b : Int) : List (Str × V) := putF "aside" (.int b) (putF "offers" (.ref a) [])
theorem fldsG_offers (a : Addr) (b : Int) : (fldsG a b).lookup ("offers" : Str) = some (.ref a) := by
  unfold fldsG
  rw [lookup_putF, if_neg (by decide +kernel), lookup_putF, if_pos rfl]
theorem fldsG_aside (a : Addr) (b : Int) : (fldsG a b).lookup ("aside" : Str) = some (.int b) := by
  unfold fldsG
  rw [lookup_putF, if_pos rfl]
theorem fldsG_mean (a : Addr) (b : Int) : (fldsG a b).lookup ("mean" : Str) = none := by
  unfold fldsG
  rw [lookup_putF, if_neg (by decide +kernel), lookup_putF, if_neg (by decide +kernel)]
  rfl
structure TxtG (K : PySem.W.Frag) (C : Addr) : Prop where
  cl : Cls K C
  nO : NoAttr K C "offers"
  nA : NoAttr K C "aside"
def GuAt (C : Addr) (H : Hp) (p : Addr) (os : List Off) (b : Int) : Prop := ∃ dx a ts, H p = some (.ins C dx (fldsG a b)) ∧ H a = some (.tup (ts.map V.ref)) ∧ OffsAt H ts os
theorem GuAt.same {C : Addr} {H H' : Hp} {p : Addr} {os : List Off} {b : Int} (h : GuAt C H p os b) (s : Same H H') : GuAt C H' p os b := by
  obtain ⟨dx, a, ts, h1, h2, h3⟩ := h
  exact ⟨dx, a, ts, s _ _ h1, s _ _ h2, h3.same s⟩
/-- a heap where only the list at D was written -/
theorem OffsAt.wrote {H : Hp} {D : Addr} {ts : List Addr} {os : List Off} {xs : List V} {o : HO} (h : OffsAt H ts os) (e : H D = some (.lst xs)) : OffsAt (upd H D o) ts os := ⟨h.1, fun i a ha => by
  obtain ⟨t, h1, h2⟩ := h.2 i a ha
  exact ⟨t, h1, by show _ = _; rw [upd_ne (ne_of h2 e (by intro z; cases z))]; exact h2⟩⟩
theorem GuAt.wrote {C : Addr} {H : Hp} {p D : Addr} {os : List Off} {b : Int} {xs : List V} {o : HO} (h : GuAt C H p os b) (e : H D = some (.lst xs)) : GuAt C (upd H D o) p os b := by
  obtain ⟨dx, a, ts, h1, h2, h3⟩ := h
  refine ⟨dx, a, ts, ?_, ?_, h3.wrote e⟩
  · rw [upd_ne (ne_of h1 e (by intro z; cases z))]; exact h1
  · rw [upd_ne (ne_of h2 e (by intro z; cases z))]; exact h2
section
variable {P : Program} {w : World} {K : PySem.W.Frag} {mg : Str → Option Value} {base : Heap}
/-! _check_offers -/
def spOffers (K : PySem.W.Frag) : Sp := fun vs H Q _ => ∃ (a : Addr) (ts : List Addr) (os : List Off), vs = [.ref a] ∧ SqS K H a (ts.map V.ref) ∧ OffsAt H ts os ∧ OffsOk os ∧ os.length ≤ 8 ∧ Q .non H
theorem ok_check_offersL {f : Addr} {fd : FuncData} (F : Fun K "_check_offers" "_check_offers" s_check_offers f fd) (m_len : mg "len" = none) (d_check_size : Def P w K mg base "check_size" 1 ["size", "low", "high"] spRange) (d_check_range : Def P w K mg base "check_range" 1 ["number", "low", "high"] spRange) : FnOk P w K mg base CX0 2 f fd ["offers"] (spOffers K) := by
  refine F.ok sc_check_offers (fun vs H Q E h => ?_) (fun cdv A outer s H vs Q E hr h => ?_)
  · obtain ⟨a, ts, os, rfl, _⟩ := h
    rfl
  · obtain ⟨a, ts, os, rfl, hS, hT, ok, l8, q⟩ := h
    have tl : (ts.map V.ref).length = os.length := by rw [List.length_map, hT.1]
    have stp : ∀ (i : Nat) (x : V) (H' : Hp), (ts.map V.ref)[i]? = some x → H' = H → ∃ t o, x = .ref t ∧ OOk o ∧ H' t = some (tO o) := by
      rintro i x H' hx rfl
      obtain ⟨t, o, rfl, _, e2, e3⟩ := hT.get hx
      exact ⟨t, o, rfl, ok o (List.mem_of_getElem? e2), e3⟩
    rcases hS with hS | hS
    · refine ⟨_, (pss_cons (ps_expr (pe_callD d_check_size (hr.mono (by decide)) (by rfl) (pa_cons (pe_callB call_len_seq (by rfl) m_len (by decide +kernel) (pa_cons (pv 0) pa_nil)) (pa_cons pe_int (pa_cons pe_int pa_nil)))))
  (pss_one (ps_for PassesOwn.never rfl (pi_list (pv 0)) (pg_tup (by rfl) (pgs_cons (pg_name (i := 1) sc_check_offers.nd rfl (.inl rfl)) (pgs_cons (pg_name (i := 2) sc_check_offers.nd rfl (.inl rfl)) pgs_nil)))
    (pss_cons (ps_expr (pe_callD d_check_range (hr.mono (by decide)) (by rfl) (pa_cons (pv 1) (pa_cons pe_int (pa_cons (pe_op op_pow pe_int pe_int) pa_nil)))))
  (pss_one (ps_expr (pe_callD d_check_range (hr.mono (by decide)) (by rfl) (pa_cons (pv 2) (pa_cons pe_int (pa_cons pe_int pa_nil)))))))))), ?_⟩
      refine ⟨_, rfl, _, _, rfl, .inl hS, _, 0, 8, rfl, Int.natCast_nonneg _, by rw [tl]; omega, ?_⟩
      refine ⟨_, rfl, a, rfl, ⟨_, hS⟩, for_list (K := K) (a := a) (xs := ts.map V.ref) (fun i σ H' => H' = H ∧ ∃ y1 y2, σ = [some (.ref a), y1, y2]) ⟨rfl, _, _, rfl⟩ (fun i σ H' _ hp => by rw [hp.1]; exact hS) ?_ ?_⟩
      · rintro i x σ H' hx ⟨rfl, y1, y2, rfl⟩
        obtain ⟨t, o, rfl, oo, e3⟩ := stp i x _ hx rfl
        refine ⟨_, _, rfl, tupAt e3, rfl, _, _, rfl, _, _, rfl, rfl, ?_⟩
        exact ⟨_, rfl, _, _, rfl, rfl, ⟨by decide, by decide, by decide⟩, _, _, _, rfl, oo.c0, oo.c1, _, rfl, _, _, _, rfl, oo.w0, oo.w1, rfl, _, _, rfl⟩
      · rintro σ H' ⟨rfl, y1, y2, rfl⟩
        exact q
    · refine ⟨_, (pss_cons (ps_expr (pe_callD d_check_size (hr.mono (by decide)) (by rfl) (pa_cons (pe_callB call_len_seq (by rfl) m_len (by decide +kernel) (pa_cons (pv 0) pa_nil)) (pa_cons pe_int (pa_cons pe_int pa_nil)))))
  (pss_one (ps_for PassesOwn.never rfl (pi_tup (pv 0)) (pg_tup (by rfl) (pgs_cons (pg_name (i := 1) sc_check_offers.nd rfl (.inl rfl)) (pgs_cons (pg_name (i := 2) sc_check_offers.nd rfl (.inl rfl)) pgs_nil)))
    (pss_cons (ps_expr (pe_callD d_check_range (hr.mono (by decide)) (by rfl) (pa_cons (pv 1) (pa_cons pe_int (pa_cons (pe_op op_pow pe_int pe_int) pa_nil)))))
  (pss_one (ps_expr (pe_callD d_check_range (hr.mono (by decide)) (by rfl) (pa_cons (pv 2) (pa_cons pe_int (pa_cons pe_int pa_nil)))))))))), ?_⟩
      refine ⟨_, rfl, _, _, rfl, .inr hS, _, 0, 8, rfl, Int.natCast_nonneg _, by rw [tl]; omega, ?_⟩
      refine ⟨_, rfl, a, rfl, ⟨_, hS⟩, for_tup (K := K) (a := a) (xs := ts.map V.ref) (fun i σ H' => H' = H ∧ ∃ y1 y2, σ = [some (.ref a), y1, y2]) ⟨rfl, _, _, rfl⟩ (fun i σ H' _ hp => by rw [hp.1]; exact hS) ?_ ?_⟩
      · rintro i x σ H' hx ⟨rfl, y1, y2, rfl⟩
        obtain ⟨t, o, rfl, oo, e3⟩ := stp i x _ hx rfl
        refine ⟨_, _, rfl, tupAt e3, rfl, _, _, rfl, _, _, rfl, rfl, ?_⟩
        exact ⟨_, rfl, _, _, rfl, rfl, ⟨by decide, by decide, by decide⟩, _, _, _, rfl, oo.c0, oo.c1, _, rfl, _, _, _, rfl, oo.w0, oo.w1, rfl, _, _, rfl⟩
      · rintro σ H' ⟨rfl, y1, y2, rfl⟩
        exact q
end
end TK

namespace TK
open PySem PySem.Spec PyProof.Rows L2
section
variable {P : Program} {w : World} {K : PySem.W.Frag} {mg : Str → Option Value} {base : Heap}
/-! Guests.__init__ -/
def spInitG (K : PySem.W.Frag) (C : Addr) : Sp := fun vs H Q _ => ∃ (p a dx : Addr) (ts : List Addr) (os : List Off) (b : Int), vs = [.ref p, .ref a, .int b] ∧ H p = some (.ins C dx []) ∧ SqS K H a (ts.map V.ref) ∧ OffsAt H ts os ∧ OffsOk os ∧ os.length ≤ 8 ∧ 1 ≤ b ∧ b ≤ 1000 ∧
  ∀ H', GuAt C H' p os b → (∀ c o, H c = some o → c ≠ p → H' c = some o) → Q .non H'
theorem ok_Guests {f C : Addr} {fd : FuncData} (F : Fun K "__init__" "Guests.__init__" s_Guests_init f fd) (T : TxtG K C) (m_tuple : mg "tuple" = none)
    (d_check_offers : Def P w K mg base "_check_offers" 2 ["offers"] (spOffers K)) (d_check_range : Def P w K mg base "check_range" 1 ["number", "low", "high"] spRange) :
    FnOk P w K mg base CX0 3 f fd ["self", "offers", "aside"] (spInitG K C) := by
  refine F.ok sc_Guests_init (fun vs H Q E h => ?_) (fun cdv A outer s H vs Q E hr h => ?_)
  · obtain ⟨p, a, dx, ts, os, b, rfl, _⟩ := h
    rfl
  · obtain ⟨p, a, dx, ts, os, b, rfl, hp, hS, hT, ok, l8, b0, b1, q⟩ := h
    have tl : ts.length ≤ 8 := by rw [hT.1]; exact l8
    have key : ∀ (D l : Addr), H D = none → (upd H D (.lst (ts.map V.ref))) l = none →
        (upd (upd H D (.lst (ts.map V.ref))) l (.tup (ts.map V.ref))) p = some (.ins C dx []) ∧ (upd (upd (upd H D (.lst (ts.map V.ref))) l (.tup (ts.map V.ref))) p (.ins C dx (putF "offers" (.ref l) []))) p = some (.ins C dx (putF "offers" (.ref l) [])) ∧
        Q .non (upd (upd (upd (upd H D (.lst (ts.map V.ref))) l (.tup (ts.map V.ref))) p (.ins C dx (putF "offers" (.ref l) []))) p (.ins C dx (putF "aside" (.int b) (putF "offers" (.ref l) [])))) := by
      intro D l nD nl
      have s1 : Same H (upd H D (.lst (ts.map V.ref))) := same_upd nD
      have s2 := s1.trans (same_upd (o := .tup (ts.map V.ref)) nl)
      have hp2 := s2 _ _ hp
      have lp : l ≠ p := (ne_of_none (s1 _ _ hp) nl).symm
      refine ⟨hp2, upd_same, ?_⟩
      rw [upd_twice]
      have fr : ∀ c x, (upd (upd H D (.lst (ts.map V.ref))) l (.tup (ts.map V.ref))) c = some x → c ≠ p → (upd (upd (upd H D (.lst (ts.map V.ref))) l (.tup (ts.map V.ref))) p (.ins C dx (putF "aside" (.int b) (putF "offers" (.ref l) [])))) c = some x := fun c x e n => by rw [upd_ne n]; exact e
      refine q _ ⟨dx, l, ts, upd_same, fr _ _ upd_same lp, hT.1, fun i t he => ?_⟩ fun c o e n => fr _ _ (s2 _ _ e) n
      obtain ⟨o, h1, h2⟩ := hT.2 i t he
      exact ⟨o, h1, fr _ _ (s2 _ _ h2) (ne_of (s2 _ _ h2) hp2 (by intro z; cases z))⟩
    rcases hS with hL | hU
    · refine ⟨_, (pss_cons (ps_expr (pe_callD d_check_offers (hr.mono (by decide)) (by rfl) (pa_cons (pv 1) pa_nil)))
  (pss_cons (ps_expr (pe_callD d_check_range (hr.mono (by decide)) (by rfl) (pa_cons (pv 2) (pa_cons pe_int (pa_cons pe_int pa_nil)))))
  (pss_cons (ps_fld (pv 0) (pe_callTy call_tuple_of (by rfl) m_tuple (by decide +kernel) (pa_cons (pe_lc (own := [("offer", 3)]) (by rfl) sc_Guests_init.nd (pi_list (pv 1)) (blkOk_by (N := ["self", "offers", "aside", "offer"]) (sc := defScope s_Guests_init) (by decide +kernel)) (fun _ _ _ _ _ => (pg_name (i := 3) sc_Guests_init.nd rfl (.inl rfl))) (fun _ _ _ _ _ => pts_nil) (fun _ _ _ _ _ => (pe_callTy (call_tuple_ofK (K := K) rfl) (by rfl) m_tuple (by decide +kernel) (pa_cons (pv 3) pa_nil)))) pa_nil)) rfl)
  (pss_one (ps_fld (pv 0) (pv 2) rfl))))), ?_⟩
      refine ⟨_, rfl, a, ts, os, rfl, .inl hL, hT, ok, l8, ?_⟩
      refine ⟨_, rfl, b, 1, 1000, rfl, b0, b1, ?_⟩
      refine ⟨_, rfl, a, rfl, ⟨_, hL⟩, fun D nD => ?_⟩
      refine lc_list (K := K) (a := a) (xs := ts.map V.ref) (fun i H' => H' = upd H D (.lst ((ts.map V.ref).take i))) rfl (fun i H' _ hq => by subst hq; exact (same_upd nD).seq hL) (fun i x H' hx hq => ?_) (fun H' hq => ?_)
      · subst hq
        obtain ⟨t, o, rfl, e1, e2, e3⟩ := hT.get hx
        have hi : i < ts.length := (List.getElem?_eq_some_iff.mp e1).1
        refine ⟨rfl, yesT ⟨_, rfl, t, _, rfl, .inr ⟨tupAt ((same_upd nD) _ _ e3), _, upd_same, by rw [List.length_take]; exact small1000 (by omega), ?_⟩⟩⟩
        rw [upd_twice, List.take_add_one, hx]
        rfl
      · subst hq
        rw [List.take_length]
        refine ⟨D, _, rfl, .inl ⟨lstAt upd_same, fun l nl => ?_⟩⟩
        obtain ⟨k1, k2, k3⟩ := key D l nD nl
        exact ⟨_, rfl, p, C, dx, [], rfl, k1, T.cl, T.nO, by decide, _, rfl, _, rfl, p, C, dx, _, rfl, k2, T.cl, T.nA, Nat.lt_of_le_of_lt (putF_len _ _ _) (by decide), k3⟩
    · refine ⟨_, (pss_cons (ps_expr (pe_callD d_check_offers (hr.mono (by decide)) (by rfl) (pa_cons (pv 1) pa_nil)))
  (pss_cons (ps_expr (pe_callD d_check_range (hr.mono (by decide)) (by rfl) (pa_cons (pv 2) (pa_cons pe_int (pa_cons pe_int pa_nil)))))
  (pss_cons (ps_fld (pv 0) (pe_callTy call_tuple_of (by rfl) m_tuple (by decide +kernel) (pa_cons (pe_lc (own := [("offer", 3)]) (by rfl) sc_Guests_init.nd (pi_tup (pv 1)) (blkOk_by (N := ["self", "offers", "aside", "offer"]) (sc := defScope s_Guests_init) (by decide +kernel)) (fun _ _ _ _ _ => (pg_name (i := 3) sc_Guests_init.nd rfl (.inl rfl))) (fun _ _ _ _ _ => pts_nil) (fun _ _ _ _ _ => (pe_callTy (call_tuple_ofK (K := K) rfl) (by rfl) m_tuple (by decide +kernel) (pa_cons (pv 3) pa_nil)))) pa_nil)) rfl)
  (pss_one (ps_fld (pv 0) (pv 2) rfl))))), ?_⟩
      refine ⟨_, rfl, a, ts, os, rfl, .inr hU, hT, ok, l8, ?_⟩
      refine ⟨_, rfl, b, 1, 1000, rfl, b0, b1, ?_⟩
      refine ⟨_, rfl, a, rfl, ⟨_, hU⟩, fun D nD => ?_⟩
      refine lc_tup (K := K) (a := a) (xs := ts.map V.ref) (fun i H' => H' = upd H D (.lst ((ts.map V.ref).take i))) rfl (fun i H' _ hq => by subst hq; exact same_tup (same_upd nD) hU) (fun i x H' hx hq => ?_) (fun H' hq => ?_)
      · subst hq
        obtain ⟨t, o, rfl, e1, e2, e3⟩ := hT.get hx
        have hi : i < ts.length := (List.getElem?_eq_some_iff.mp e1).1
        refine ⟨rfl, yesT ⟨_, rfl, t, _, rfl, .inr ⟨tupAt ((same_upd nD) _ _ e3), _, upd_same, by rw [List.length_take]; exact small1000 (by omega), ?_⟩⟩⟩
        rw [upd_twice, List.take_add_one, hx]
        rfl
      · subst hq
        rw [List.take_length]
        refine ⟨D, _, rfl, .inl ⟨lstAt upd_same, fun l nl => ?_⟩⟩
        obtain ⟨k1, k2, k3⟩ := key D l nD nl
        exact ⟨_, rfl, p, C, dx, [], rfl, k1, T.cl, T.nO, by decide, _, rfl, _, rfl, p, C, dx, _, rfl, k2, T.cl, T.nA, Nat.lt_of_le_of_lt (putF_len _ _ _) (by decide), k3⟩
end
end TK

namespace TK
open PySem PySem.Spec PyProof.Rows L2
theorem kit_self {K : PySem.W.Frag} {C : Addr} : PySem.W.kitOne K (.ref C) (.ref C) = some true := by
  unfold PySem.W.kitOne
  rw [if_pos (beq_self_eq_true _)]
/-! offers as data -/
def dO (o : Off) : PyData := .tuple [.int o.1, .int o.2]
theorem offs_dp {K : PySem.W.Frag} {H : Hp} : ∀ {ts : List Addr} {os : List Off}, OffsAt H ts os → DpAll K H (ts.map V.ref) (os.map dO)
  | [], [], _ => .nil
  | [], o :: os, h => by cases h.1
  | t :: ts, [], h => by cases h.1
  | t :: ts, o :: os, h => by
    obtain ⟨o', h1, h2⟩ := h.2 0 t rfl
    cases Option.some.inj h1
    exact .cons (.tup (tupAt h2) (.cons (.int _) (.cons (.int _) .nil))) (offs_dp ⟨Nat.succ.inj h.1, fun i t' a => h.2 (i + 1) t' a⟩)
theorem offs_lay : ∀ os : List Off, PyData.canLayAll0 (os.map dO) = true ∧ PyData.depthAll (os.map dO) ≤ 2
  | [] => ⟨by simp [PyData.canLayAll0], by simp [PyData.depthAll]⟩
  | o :: os => by
    obtain ⟨h1, h2⟩ := offs_lay os
    refine ⟨?_, ?_⟩
    · simp only [List.map_cons, PyData.canLayAll0, Bool.and_eq_true]
      exact ⟨by simp [dO, PyData.canLay0, PyData.canLayAll0], h1⟩
    · simp only [List.map_cons, PyData.depthAll]
      have : (dO o).depth ≤ 2 := by simp [dO, PyData.depth, PyData.depthAll]
      omega
theorem shape_T {os : List Off} : SeqAt.shaped (.tuple (os.map dO)) = true := by
  obtain ⟨h1, h2⟩ := offs_lay os
  show ((PyData.tuple _).canLay0 && decide ((PyData.tuple _).depth ≤ 64)) = true
  rw [show (PyData.tuple (os.map dO)).canLay0 = true by simp only [PyData.canLay0, h1], show (PyData.tuple (os.map dO)).depth = PyData.depthAll (os.map dO) + 1 by simp only [PyData.depth]]
  exact decide_eq_true (by omega)
theorem shape_L {os : List Off} : SeqAt.shaped (.list (os.map dO)) = true := by
  obtain ⟨h1, h2⟩ := offs_lay os
  show ((PyData.list _).canLay0 && decide ((PyData.list _).depth ≤ 64)) = true
  rw [show (PyData.list (os.map dO)).canLay0 = true by simp only [PyData.canLay0, h1], show (PyData.list (os.map dO)).depth = PyData.depthAll (os.map dO) + 1 by simp only [PyData.depth]]
  exact decide_eq_true (by omega)
theorem eqv_dO (o q : Off) : PyData.eqv (dO o) (dO q) = decide (o = q) := by
  obtain ⟨a, b⟩ := o
  obtain ⟨c, d⟩ := q
  simp only [dO, PyData.eqv, PyData.eqvAll, Bool.and_true]
  by_cases h1 : a = c <;> by_cases h2 : b = d <;> simp [h1, h2]
theorem eqv_offs : ∀ os qs : List Off, PyData.eqvAll (os.map dO) (qs.map dO) = decide (os = qs)
  | [], [] => by simp [PyData.eqvAll]
  | [], q :: qs => by simp [PyData.eqvAll]
  | o :: os, [] => by simp [PyData.eqvAll]
  | o :: os, q :: qs => by
    simp only [List.map_cons, PyData.eqvAll]
    rw [eqv_dO, eqv_offs os qs]
    by_cases h1 : o = q <;> by_cases h2 : os = qs <;> simp [h1, h2]
theorem eqv_T (os qs : List Off) : PyData.eqv (.tuple (os.map dO)) (.tuple (qs.map dO)) = decide (os = qs) := by
  simp only [PyData.eqv]
  exact eqv_offs os qs
theorem eqv_L (os qs : List Off) : PyData.eqv (.list (os.map dO)) (.list (qs.map dO)) = decide (os = qs) := by
  simp only [PyData.eqv]
  exact eqv_offs os qs
section
variable {P : Program} {w : World} {K : PySem.W.Frag} {mg : Str → Option Value} {base : Heap}
/-! Guests.__eq__ -/
def spEqG (K : PySem.W.Frag) (C : Addr) : Sp := fun vs H Q _ => ∃ (p : Addr) (y : V) (os : List Off) (b : Int), vs = [.ref p, y] ∧ GuAt C H p os b ∧
  ((∃ (p' : Addr) (qs : List Off) (c : Int), y = .ref p' ∧ GuAt C H p' qs c ∧ Q (.bl (decide (os = qs) && decide (b = c))) H) ∨ (∃ t, TyX K H y t ∧ PySem.W.kitOne K t (.ref C) = some false ∧ Q (.bl false) H))
theorem ok_Guests_eq {f C : Addr} {fd : FuncData} (F : Fun K "__eq__" "Guests.__eq__" s_Guests_eq f fd) (T : TxtG K C) (m_isinstance : mg "isinstance" = none) (mg_Guests : mg "Guests" = some (.ref C))
    (ha : PySem.W.findIn K (.ref C) "__class__" = some (some (.builtin "object.__class__"))) (hn : PySem.W.specialIn K (.builtin "object.__class__") "__get__" = some (some (.builtin "getset_descriptor.__get__")))
    (htk : PySem.W.takesIn K (.builtin "object.__class__") = some true) (hm : PySem.W.mroIn K C (.type "object") = some true) : FnOk P w K mg base CX0 1 f fd ["self", "other"] (spEqG K C) := by
  refine F.ok sc_Guests_eq (fun vs H Q E h => ?_) (fun cdv A outer s H vs Q E hr h => ?_)
  · obtain ⟨p, y, os, b, rfl, _⟩ := h
    rfl
  · obtain ⟨p, y, os, b, rfl, ⟨dx, a, ts, hp, hA, hT⟩, h⟩ := h
    refine ⟨_, (pss_one (ps_ret (pe_and (pe_callB call_isi (by rfl) m_isinstance (by decide +kernel) (pa_cons (pv 1) (pa_cons (pe_glob (v := .ref C) (u := .ref C) (by rfl) mg_Guests rfl) pa_nil))) (pe_and (pe_cmpR (op_eqD hr.units) (pe_fld (pv 0) rfl) (pe_fld (pv 1) rfl) (nomark _)) (pe_one (pe_cmpR op_eq (pe_fld (pv 0) rfl) (pe_fld (pv 1) rfl) (nomark _))))))), ?_⟩
    rcases h with ⟨p', qs, c, rfl, ⟨dx', a', ts', hp', hA', hT'⟩, q⟩ | ⟨t, ty, kt, q⟩
    · refine ⟨_, rfl, _, _, _, _, true, rfl, .own C, .base (.ins hp' T.cl ha hn htk hm), kit_self, _, rfl, iteT ?_⟩
      refine ⟨_, rfl, p, C, dx, _, _, rfl, hp, T.cl, T.nO, fldsG_offers _ _, _, rfl, p', C, dx', _, _, rfl, hp', T.cl, T.nO, fldsG_offers _ _, .tuple _, .tuple _, .tup (tupAt hA) (offs_dp hT), .tup (tupAt hA') (offs_dp hT'), shape_T, shape_T, _, rfl, ?_⟩
      rw [eqv_T]
      by_cases e : os = qs
      · rw [decide_eq_true e] at q ⊢
        refine iteT ?_
        refine ⟨_, rfl, p, C, dx, _, _, rfl, hp, T.cl, T.nA, fldsG_aside _ _, _, rfl, p', C, dx', _, _, rfl, hp', T.cl, T.nA, fldsG_aside _ _, ?_⟩
        rw [Bool.true_and] at q
        refine ⟨rfl, ?_⟩
        rw [show decide (V.int b = V.int c) = decide (b = c) by by_cases e : b = c <;> simp [e]]
        exact q
      · rw [decide_eq_false e] at q ⊢
        refine iteF ?_
        rw [Bool.false_and] at q
        exact q
    · refine ⟨_, rfl, _, _, _, _, false, rfl, .own C, ty, kt, _, rfl, iteF ?_⟩
      exact q
end
end TK

namespace TK
open PySem PySem.Spec PyProof.Rows L2
/-! the mean of a lot -/
def kI (k : Nat) : V := .int (k : Int)
def topF (os : List Off) (ks : List Nat) : Int := (ks.map fun k => (os.getD k (0, 1)).1 * (os.getD k (0, 1)).2).sum
def wgtF (os : List Off) (ks : List Nat) : Int := (ks.map fun k => (os.getD k (0, 1)).2).sum
def gcdI (a b : Int) : Int := ((Nat.gcd a.natAbs b.natAbs : Nat) : Int)
def KsOk (n : Nat) (ks : List Nat) : Prop := (List.range n).filter (fun k => decide (k ∈ ks)) = ks
theorem KsOk.lt {n : Nat} {ks : List Nat} (h : KsOk n ks) : ∀ k ∈ ks, k < n := fun k hk => by
  rw [← h] at hk
  exact List.mem_range.mp (List.mem_filter.mp hk).1
theorem KsOk.len {n : Nat} {ks : List Nat} (h : KsOk n ks) : ks.length ≤ n := by
  rw [← h]
  have := List.length_filter_le (fun k => decide (k ∈ ks)) (List.range n)
  rw [List.length_range] at this
  exact this
theorem sum_bd {c d : Int} (f : Nat → Int) : ∀ ks : List Nat, (∀ k ∈ ks, c ≤ f k ∧ f k ≤ d) → (ks.length : Int) * c ≤ (ks.map f).sum ∧ (ks.map f).sum ≤ (ks.length : Int) * d
  | [], _ => by simp
  | k :: ks, h => by
    obtain ⟨h1, h2⟩ := sum_bd f ks fun j hj => h j (List.mem_cons_of_mem _ hj)
    obtain ⟨h3, h4⟩ := h k List.mem_cons_self
    simp only [List.map_cons, List.sum_cons, List.length_cons]
    have e1 : ((ks.length + 1 : Nat) : Int) * c = (ks.length : Int) * c + c := by rw [Int.natCast_add, Int.add_mul]; simp
    have e2 : ((ks.length + 1 : Nat) : Int) * d = (ks.length : Int) * d + d := by rw [Int.natCast_add, Int.add_mul]; simp
    rw [e1, e2]
    omega
theorem getD_ok {os : List Off} (ok : OffsOk os) {k : Nat} (h : k < os.length) : OOk (os.getD k (0, 1)) := by
  rw [List.getD_eq_getElem?_getD, List.getElem?_eq_getElem h]
  exact ok _ (List.getElem_mem h)
theorem wgt_bd {os : List Off} (ok : OffsOk os) (l8 : os.length ≤ 8) {ks : List Nat} (h : KsOk os.length ks) : 0 ≤ wgtF os ks ∧ wgtF os ks ≤ 8000 := by
  obtain ⟨h1, h2⟩ := sum_bd (c := 0) (d := 1000) (fun k => (os.getD k (0, 1)).2) ks fun k hk => by
    have := getD_ok ok (h.lt k hk)
    exact ⟨by have := this.w0; omega, this.w1⟩
  have := h.len
  unfold wgtF
  omega
theorem mul_bd {a b : Int} (h0 : 0 ≤ a) (h1 : a ≤ 1000000) (h2 : 1 ≤ b) (h3 : b ≤ 1000) : 0 ≤ a * b ∧ a * b ≤ 1000000000 := by
  refine ⟨Int.mul_nonneg h0 (by omega), ?_⟩
  have := Int.mul_le_mul h1 h3 (by omega) (by decide : (0 : Int) ≤ 1000000)
  omega
theorem top_bd {os : List Off} (ok : OffsOk os) (l8 : os.length ≤ 8) {ks : List Nat} (h : KsOk os.length ks) : 0 ≤ topF os ks ∧ topF os ks ≤ 8000000000 := by
  obtain ⟨h1, h2⟩ := sum_bd (c := 0) (d := 1000000000) (fun k => (os.getD k (0, 1)).1 * (os.getD k (0, 1)).2) ks fun k hk => by
    have := getD_ok ok (h.lt k hk)
    exact mul_bd this.c0 this.c1 this.w0 this.w1
  have := h.len
  unfold topF
  omega
theorem gcd_bd {a b : Int} (hb : 1 ≤ b) : 0 < gcdI a b ∧ gcdI a b ≤ b := by
  unfold gcdI
  have h1 : 0 < Nat.gcd a.natAbs b.natAbs := Nat.gcd_pos_of_pos_right _ (by omega)
  have h2 : Nat.gcd a.natAbs b.natAbs ≤ b.natAbs := Nat.gcd_le_right _ (by omega)
  omega
def meanT (os : List Off) (b : Int) (ks : List Nat) : HO := .tup [.int (topF os ks / gcdI (topF os ks) (b + wgtF os ks)), .int ((b + wgtF os ks) / gcdI (topF os ks) (b + wgtF os ks))]
theorem kI_at {ks : List Nat} {i : Nat} {x : V} (h : (ks.map kI)[i]? = some x) : ∃ k, ks[i]? = some k ∧ x = kI k := by
  rw [List.getElem?_map] at h
  cases e : ks[i]? with
  | none => rw [e] at h; cases h
  | some z => rw [e] at h; exact ⟨z, rfl, (Option.some.inj h).symm⟩
theorem inV_k {i : Nat} {ks : List Nat} : inV (.int (0 + (i : Int))) (ks.map kI) = decide (i ∈ ks) := by
  unfold inV
  rw [List.any_map]
  by_cases h : i ∈ ks
  · rw [decide_eq_true h]
    exact List.any_eq_true.mpr ⟨i, h, by show ((i : Int) == 0 + (i : Int)) = true; rw [Int.zero_add]; exact beq_self_eq_true _⟩
  · rw [decide_eq_false h]
    refine List.any_eq_false.mpr fun k hk => ?_
    show ¬ ((k : Int) == 0 + (i : Int)) = true
    intro e
    have := eq_of_beq e
    exact h (by rw [show i = k by omega]; exact hk)
theorem ks_flat (ks : List Nat) : (ks.map kI).all flatV = true := by
  rw [List.all_eq_true]
  intro x hx
  obtain ⟨c, _, rfl⟩ := List.mem_map.mp hx
  rfl
def dK (ks : List Nat) : List PyData := ks.map fun (k : Nat) => PyData.int (k : Int)
theorem ks_dp {K : PySem.W.Frag} {H : Hp} : ∀ ks : List Nat, DpAll K H (ks.map kI) (dK ks)
  | [] => .nil
  | k :: ks => .cons (.int _) (ks_dp ks)
theorem ks_lay : ∀ ks : List Nat, PyData.canLayAll0 (dK ks) = true ∧ PyData.depthAll (dK ks) ≤ 1
  | [] => ⟨by simp [dK, PyData.canLayAll0], by simp [dK, PyData.depthAll]⟩
  | k :: ks => by
    obtain ⟨h1, h2⟩ := ks_lay ks
    refine ⟨?_, ?_⟩
    · simp only [dK, List.map_cons, PyData.canLayAll0, Bool.and_eq_true]
      exact ⟨by simp [PyData.canLay0], h1⟩
    · simp only [dK, List.map_cons, PyData.depthAll]
      have : (PyData.int (k : Int)).depth ≤ 1 := by simp [PyData.depth]
      unfold dK at h2
      omega
theorem ks_lay0 (ks : List Nat) : (PyData.list (dK ks)).canLay0 = true := by simp only [PyData.canLay0, (ks_lay ks).1]
theorem ks_shape (ks : List Nat) : SeqAt.shaped (.list (dK ks)) = true := by
  obtain ⟨h1, h2⟩ := ks_lay ks
  show ((PyData.list _).canLay0 && decide ((PyData.list _).depth ≤ 64)) = true
  rw [ks_lay0, show (PyData.list (dK ks)).depth = PyData.depthAll (dK ks) + 1 by simp only [PyData.depth]]
  exact decide_eq_true (by omega)
theorem offs_at {H : Hp} {ts : List Addr} {os : List Off} (h : OffsAt H ts os) {k : Nat} (hk : k < os.length) : ∃ t, ts[k]? = some t ∧ atI (ts.map V.ref) (k : Int) = some (.ref t) ∧ H t = some (tO (os.getD k (0, 1))) := by
  have hk2 : k < ts.length := by rw [h.1]; exact hk
  obtain ⟨o, h1, h2⟩ := h.2 k _ (List.getElem?_eq_getElem hk2)
  refine ⟨ts[k], List.getElem?_eq_getElem hk2, ?_, ?_⟩
  · exact atI_nat (by rw [List.getElem?_map, List.getElem?_eq_getElem hk2]; rfl)
  · rw [List.getD_eq_getElem?_getD, h1]
    exact h2
section
variable {P : Program} {w : World} {K : PySem.W.Frag} {mg : Str → Option Value} {base : Heap}
def spMeanG (K : PySem.W.Frag) (C : Addr) : Sp := fun vs H Q _ => ∃ (p l : Addr) (os : List Off) (b : Int) (ks : List Nat), vs = [.ref p, .ref l] ∧ GuAt C H p os b ∧ OffsOk os ∧ os.length ≤ 8 ∧ 1 ≤ b ∧ b ≤ 1000 ∧ SqT K H l (ks.map kI) ∧ KsOk os.length ks ∧
  ∀ H' t, Same H H' → H' t = some (meanT os b ks) → Q (.ref t) H'
theorem ok_Guests_mean {f C : Addr} {fd : FuncData} (F : Fun K "mean" "Guests.mean" s_Guests_mean f fd) (T : TxtG K C) (m_list : mg "list" = none) (m_len : mg "len" = none) (m_range : mg "range" = none) (m_sum : mg "sum" = none) (g_gcd : mg "gcd" = some (.builtin "math.gcd")) :
    FnOk P w K mg base CX0 1 f fd ["self", "lot"] (spMeanG K C) := by
  refine F.ok sc_Guests_mean (fun vs H Q E h => ?_) (fun cdv A outer s H vs Q E hr h => ?_)
  · obtain ⟨p, l, os, b, ks, rfl, _⟩ := h
    rfl
  · obtain ⟨p, l, os, b, ks, rfl, ⟨dx, a, ts, hp, hA, hT⟩, ok, l8, b0, b1, hl, kok, q⟩ := h
    have tl : (ts.map V.ref).length = os.length := by rw [List.length_map, hT.1]
    have kl := kok.len
    have w8 := wgt_bd ok l8 kok
    have t8 := top_bd ok l8 kok
    refine ⟨_, (pss_cons (ps_if (pt_cmpR (op_neD hr.units) (pe_callTy call_list_of (by rfl) m_list (by decide +kernel) (pa_cons (pv 1) pa_nil)) (pe_lc (own := [("number", 6)]) (by rfl) sc_Guests_mean.nd (pi_range1 (by rfl) m_range (pa_cons (pe_callB call_len_seq (by rfl) m_len (by decide +kernel) (pa_cons (pe_fld (pv 0) rfl) pa_nil)) pa_nil)) (blkOk_by (N := ["self", "lot", "shown", "top", "bottom", "shared", "number", "charge", "weight", "_"]) (sc := defScope s_Guests_mean) (by decide +kernel)) (fun _ _ _ _ _ => (pg_name (i := 6) sc_Guests_mean.nd rfl (.inl rfl))) (fun _ _ _ _ _ => (pts_one (pt_cmpR (op_in_seqK (K := K) rfl) (pv 6) (pv 1) (by rfl)))) (fun _ _ _ _ _ => (pv 6))) (nomark _)) (pss_one ps_never) pss_nil)
  (pss_cons (ps_setLc (i := 2) (own := [("number", 6)]) (by rfl) sc_Guests_mean.nd rfl rfl (sw_true rfl rfl rfl (by decide +kernel)) (pi_tup (pv 1)) (blkOk_by (N := ["self", "lot", "shown", "top", "bottom", "shared", "number", "charge", "weight", "_"]) (sc := defScope s_Guests_mean) (by decide +kernel)) (fun _ _ _ _ _ => (pg_name (i := 6) sc_Guests_mean.nd rfl (.inl rfl))) (fun _ _ _ _ _ => pts_nil) (fun _ _ _ _ _ => (pe_ix (ix_tupK (K := K) rfl) (pe_fldK (K := K) rfl (pv 0) rfl) (pv 6) (fun _ _ => rfl))))
  (pss_cons (ps_set (i := 3) sc_Guests_mean.nd rfl (.inl rfl) (pe_callB (cr_sum rfl) (by rfl) m_sum (by decide +kernel) (pa_cons (pe_lc (own := [("charge", 7), ("weight", 8)]) (by rfl) sc_Guests_mean.nd (pi_list (pv 2)) (blkOk_by (N := ["self", "lot", "shown", "top", "bottom", "shared", "number", "charge", "weight", "_"]) (sc := defScope s_Guests_mean) (by decide +kernel)) (fun _ _ _ _ _ => (pg_tupK (K := K) (n := 2) rfl (by rfl) (pgs_cons (pg_name (i := 7) sc_Guests_mean.nd rfl (.inl rfl)) (pgs_cons (pg_name (i := 8) sc_Guests_mean.nd rfl (.inl rfl)) pgs_nil)))) (fun _ _ _ _ _ => pts_nil) (fun _ _ _ _ _ => (pe_op op_mul (pv 7) (pv 8)))) pa_nil)))
  (pss_cons (ps_set (i := 4) sc_Guests_mean.nd rfl (.inl rfl) (pe_op op_add (pe_fld (pv 0) rfl) (pe_callB (cr_sum rfl) (by rfl) m_sum (by decide +kernel) (pa_cons (pe_lc (own := [("_", 9), ("weight", 8)]) (by rfl) sc_Guests_mean.nd (pi_list (pv 2)) (blkOk_by (N := ["self", "lot", "shown", "top", "bottom", "shared", "number", "charge", "weight", "_"]) (sc := defScope s_Guests_mean) (by decide +kernel)) (fun _ _ _ _ _ => (pg_tupK (K := K) (n := 2) rfl (by rfl) (pgs_cons (pg_name (i := 9) sc_Guests_mean.nd rfl (.inl rfl)) (pgs_cons (pg_name (i := 8) sc_Guests_mean.nd rfl (.inl rfl)) pgs_nil)))) (fun _ _ _ _ _ => pts_nil) (fun _ _ _ _ _ => (pv 8))) pa_nil))))
  (pss_cons (ps_set (i := 5) sc_Guests_mean.nd rfl (.inl rfl) (pe_callBfun cr_gcd (by rfl) g_gcd (pa_cons (pv 3) (pa_cons (pv 4) pa_nil))))
  (pss_one (ps_ret (pe_tup (pa_cons (pe_op op_fdiv (pv 3) (pv 5)) (pa_cons (pe_op op_fdiv (pv 4) (pv 5)) pa_nil)))))))))), ?_⟩
    -- the lot is one
    refine ⟨_, rfl, l, _, rfl, .inr hl, fun l1 nl1 => ?_⟩
    have s1 := same_upd (o := .lst (ks.map kI)) nl1
    have sT : ∀ {H'}, Same H H' → SqT K H' l (ks.map kI) := fun s => same_tup s hl
    refine ⟨_, rfl, p, C, dx, _, _, rfl, s1 _ _ hp, T.cl, T.nO, fldsG_offers _ _, _, _, rfl, .inr (tupAt (s1 _ _ hA)), _, rfl, by rw [tl]; omega, by rw [tl]; omega, fun D nD => ?_⟩
    refine lc_range (fun i H' => H' = upd (upd H l1 (.lst (ks.map kI))) D (.lst (((List.range i).filter fun k => decide (k ∈ ks)).map kI))) rfl (fun i H' hi hq => ?_) (fun H' hq => ?_)
    · subst hq
      have hz : (((List.range i).filter fun k => decide (k ∈ ks)).map kI).length < sizeLine := by
        rw [List.length_map]
        have := List.length_filter_le (fun k => decide (k ∈ ks)) (List.range i)
        rw [List.length_range] at this
        rw [tl] at hi
        exact small1000 (by omega)
      refine ⟨rfl, _, rfl, _, rfl, l, _, rfl, .inr (sT (s1.trans (same_upd nD))), rfl, ks_flat ks, _, rfl, ?_⟩
      rw [if_neg (by decide), inV_k]
      by_cases hm : i ∈ ks
      · rw [decide_eq_true hm]
        refine iteT ⟨_, rfl, _, upd_same, hz, ?_⟩
        rw [upd_twice, List.range_succ, List.filter_append, List.map_append, List.filter_cons, if_pos (decide_eq_true hm), Int.zero_add]
        rfl
      · rw [decide_eq_false hm]
        refine iteF ?_
        rw [List.range_succ, List.filter_append, List.filter_cons, if_neg (by rw [decide_eq_false hm]; decide), List.filter_nil, List.append_nil]
    subst hq
    rw [tl, Int.toNat_natCast, kok]
    have s2 := s1.trans (same_upd (o := .lst (ks.map kI)) nD)
    generalize eH2 : (upd (upd H l1 (.lst (ks.map kI))) D (.lst (ks.map kI)) : Hp) = H2 at s2 ⊢
    have e1 : H2 l1 = some (.lst (ks.map kI)) := by rw [← eH2, upd_ne (ne_of_none upd_same nD)]; exact upd_same
    have e2 : H2 D = some (.lst (ks.map kI)) := by rw [← eH2]; exact upd_same
    refine ⟨.list (dK ks), .list (dK ks), .lst (lstAt e1) (ks_dp ks), .lst (lstAt e2) (ks_dp ks), ks_shape ks, ks_shape ks, _, rfl, ?_⟩
    rw [SeqAt.eqv_refl _ (ks_lay0 ks)]
    refine iteF ?_
    -- shown
    refine ⟨_, rfl, l, rfl, ⟨_, sT s2⟩, fun D2 nD2 => ?_⟩
    refine lc_tup (K := K) (a := l) (xs := ks.map kI) (fun i H' => ∃ us : List Addr, H' = upd H2 D2 (.lst (us.map V.ref)) ∧ us.length = i ∧ OffsAt H' us ((ks.take i).map fun k => os.getD k (0, 1))) ⟨[], rfl, rfl, rfl, fun _ _ h => nomatch h⟩ (fun i H' _ hq => by obtain ⟨us, rfl, _⟩ := hq; exact sT (s2.trans (same_upd nD2))) (fun i x H' hx hq => ?_) (fun H' hq => ?_)
    · obtain ⟨us, rfl, ul, hU⟩ := hq
      obtain ⟨k, ek, rfl⟩ := kI_at hx
      have hi8 : i < 8 := by have := (List.getElem?_eq_some_iff.mp ek).1; omega
      have s3 := s2.trans (same_upd (o := .lst (us.map V.ref)) nD2)
      obtain ⟨t, t1, t2, t3⟩ := offs_at (hT.same s3) (kok.lt k (List.mem_of_getElem? ek))
      refine ⟨rfl, yesT ⟨_, rfl, p, C, dx, _, _, rfl, s3 _ _ hp, T.cl, T.nO, fldsG_offers _ _, _, rfl, _, _, _, _, rfl, rfl, tupAt (s3 _ _ hA), t2, _, upd_same, by rw [List.length_map, ul]; exact small1000 (by omega), us ++ [t], by rw [upd_twice, List.map_append]; rfl, by rw [List.length_append, ul]; rfl, ?_⟩⟩
      rw [List.take_add_one, ek, List.map_append]
      exact OffsAt.snoc (hU.wrote upd_same) (by rw [upd_ne (ne_of t3 upd_same (by intro z; cases z))]; exact t3)
    obtain ⟨us, rfl, ul, hU⟩ := hq
    rw [List.length_map] at ul
    rw [List.length_map, List.take_length] at hU
    have s3 := s2.trans (same_upd (o := .lst (us.map V.ref)) nD2)
    have e3 : (upd H2 D2 (.lst (us.map V.ref))) D2 = some (.lst (us.map V.ref)) := upd_same
    generalize upd H2 D2 (.lst (us.map V.ref)) = H3 at s3 e3 hU ⊢
    -- the top
    have hval : ∀ (i : Nat) (x : V), (us.map V.ref)[i]? = some x → ∃ (k : Nat) (t : Addr), ks[i]? = some k ∧ x = .ref t ∧ H3 t = some (tO (os.getD k (0, 1))) ∧ OOk (os.getD k (0, 1)) ∧ i < 8 := by
      intro i x hx
      obtain ⟨t, o, rfl, e4, e5, e6⟩ := hU.get hx
      have hi := (List.getElem?_eq_some_iff.mp e4).1
      rw [List.getElem?_map, List.getElem?_eq_getElem (show i < ks.length by omega)] at e5
      cases Option.some.inj e5
      exact ⟨_, t, List.getElem?_eq_getElem (by omega), rfl, e6, getD_ok ok (kok.lt _ (List.getElem_mem _)), by omega⟩
    refine ⟨_, rfl, D2, rfl, ⟨_, lstAt e3⟩, fun D3 nD3 => ?_⟩
    refine lc_list (K := K) (a := D2) (xs := us.map V.ref) (fun i H' => H' = upd H3 D3 (.lst (((ks.map fun k => (os.getD k (0, 1)).1 * (os.getD k (0, 1)).2).map V.int).take i))) rfl (fun i H' _ hq => by subst hq; exact lstAt ((same_upd nD3) _ _ e3)) (fun i x H' hx hq => ?_) (fun H' hq => ?_)
    · subst hq
      obtain ⟨k, t, ek, rfl, et, oo, i8⟩ := hval i x hx
      have m1 := oo.c0
      have m2 := oo.c1
      refine ⟨_, _, rfl, tupAt ((same_upd nD3) _ _ et), rfl, _, _, rfl, _, _, rfl, rfl, rfl, yesT ⟨_, rfl, _, rfl, _, _, rfl, rfl, .inl ⟨by omega, by omega⟩, _, upd_same, by rw [List.length_take]; exact small1000 (by omega), ?_⟩⟩
      rw [upd_twice, List.take_add_one, List.getElem?_map, List.getElem?_map, ek]
      rfl
    subst hq
    rw [List.take_of_length_le (by rw [List.length_map, List.length_map, List.length_map]; omega)]
    have s4' := same_upd (o := .lst ((ks.map fun k => (os.getD k (0, 1)).1 * (os.getD k (0, 1)).2).map V.int)) nD3
    have s4 := s3.trans s4'
    refine ⟨D3, _, rfl, lstAt upd_same, ?_⟩
    generalize upd H3 D3 (.lst ((ks.map fun k => (os.getD k (0, 1)).1 * (os.getD k (0, 1)).2).map V.int)) = H4 at s4' s4 ⊢
    -- the bottom
    refine ⟨_, rfl, p, C, dx, _, _, rfl, s4 _ _ hp, T.cl, T.nA, fldsG_aside _ _, _, rfl, D2, rfl, ⟨_, lstAt (s4' _ _ e3)⟩, fun D4 nD4 => ?_⟩
    refine lc_list (K := K) (a := D2) (xs := us.map V.ref) (fun i H' => H' = upd H4 D4 (.lst (((ks.map fun k => (os.getD k (0, 1)).2).map V.int).take i))) rfl (fun i H' _ hq => by subst hq; exact lstAt ((same_upd nD4) _ _ (s4' _ _ e3))) (fun i x H' hx hq => ?_) (fun H' hq => ?_)
    · subst hq
      obtain ⟨k, t, ek, rfl, et, oo, i8⟩ := hval i x hx
      refine ⟨_, _, rfl, tupAt ((same_upd nD4) _ _ (s4' _ _ et)), rfl, _, _, rfl, _, _, rfl, rfl, rfl, yesT ⟨_, rfl, _, upd_same, by rw [List.length_take]; exact small1000 (by omega), ?_⟩⟩
      rw [upd_twice, List.take_add_one, List.getElem?_map, List.getElem?_map, ek]
      rfl
    subst hq
    rw [List.take_of_length_le (by rw [List.length_map, List.length_map, List.length_map]; omega)]
    have s5 := s4.trans (same_upd (o := .lst ((ks.map fun k => (os.getD k (0, 1)).2).map V.int)) nD4)
    refine ⟨D4, _, rfl, lstAt upd_same, _, _, rfl, rfl, ?_⟩
    generalize upd H4 D4 (.lst ((ks.map fun k => (os.getD k (0, 1)).2).map V.int)) = H5 at s5 ⊢
    have g1 := gcd_bd (a := topF os ks) (b := b + wgtF os ks) (by omega)
    have g2 : gcdI (topF os ks) (b + wgtF os ks) < 1073741824 := by omega
    refine ⟨_, rfl, _, rfl, topF os ks, b + wgtF os ks, rfl, ?_⟩
    exact ⟨_, rfl, _, rfl, _, _, rfl, rfl, ⟨g1.1, g2⟩, _, rfl, _, rfl, _, _, rfl, rfl, ⟨g1.1, g2⟩, (show (2 : Nat) ≤ sizeLine by decide), fun t nt => q _ t (s5.trans (same_upd nt)) upd_same⟩
end
end TK

namespace TK
open PySem PySem.Spec PyProof.Rows L2
theorem ixN_at {n k : Nat} (h : k < n) : ixN n (k : Int) = some k := by
  unfold ixN
  rw [if_pos (Int.natCast_nonneg k), if_pos (by omega)]
  rfl
theorem OffsAt.set {H : Hp} {ts : List Addr} {os : List Off} {k : Nat} {t : Addr} {o : Off} (h : OffsAt H ts os) (e : H t = some (tO o)) : OffsAt H (ts.set k t) (os.set k o) := by
  refine ⟨by rw [List.length_set, List.length_set]; exact h.1, fun i t' he => ?_⟩
  rw [List.getElem?_set] at he ⊢
  by_cases hk : k = i
  · subst hk
    rw [if_pos rfl] at he ⊢
    by_cases hl : k < ts.length
    · rw [if_pos hl] at he
      cases Option.some.inj he
      exact ⟨o, by rw [if_pos (by rw [← h.1]; exact hl)], e⟩
    · rw [if_neg hl] at he; cases he
  · rw [if_neg hk] at he ⊢
    exact h.2 i t' he
section
variable {P : Program} {w : World} {K : PySem.W.Frag} {mg : Str → Option Value} {base : Heap}
/-! _law_beside -/
def spBeside (K : PySem.W.Frag) : Sp := fun vs H Q _ => ∃ (a : Addr) (ns : List Int) (s : Int), vs = [.ref a, .int s] ∧ SqL K H a (ns.map V.int) ∧ 0 ≤ s ∧ s + 2 ≤ ns.length ∧ ∀ r : Int, 1 ≤ r → r ≤ 1000 → Q (.int r) H
theorem ok_L_beside {f : Addr} {fd : FuncData} (F : Fun K "_law_beside" "_law_beside" s_L_beside f fd) (d_L_far : Def P w K mg base "_law_far" 1 ["_law_pool_here", "_law_spot", "_law_number"] (spFar K))
    (d_L_chosen : Def P w K mg base "_law_chosen" 2 ["_law_pool_here", "_law_spot", "_law_under", "_law_small", "_law_crest", "_law_whole"] (spChosen K)) : FnOk P w K mg base CX0 3 f fd ["_law_pool_here", "_law_spot"] (spBeside K) := by
  refine F.ok sc_L_beside (fun vs H Q E h => ?_) (fun cdv A outer s H vs Q E hr h => ?_)
  · obtain ⟨a, ns, s, rfl, _⟩ := h
    rfl
  · obtain ⟨a, ns, s, rfl, hS, h0, h1, q⟩ := h
    refine ⟨_, (pss_one (ps_ret (pe_op op_add pe_int (pe_callD d_L_chosen (hr.mono (by decide)) (by rfl) (pa_cons (pv 0) (pa_cons (pv 1) (pa_cons pe_int (pa_cons pe_int (pa_cons pe_int (pa_cons (pe_callD d_L_far (hr.mono (by decide)) (by rfl) (pa_cons (pv 0) (pa_cons (pe_op op_add (pv 1) pe_int) (pa_cons pe_int pa_nil)))) pa_nil)))))))))), ?_⟩
    refine ⟨_, rfl, _, rfl, _, rfl, _, rfl, _, _, rfl, rfl, _, _, _, _, rfl, hS, by omega, by decide, by decide, by omega, fun z z0 => ?_⟩
    refine ⟨_, _, _, _, _, _, _, rfl, hS, by omega, by omega, by decide, by decide, by decide, by decide, fun r r0 r1 => ?_⟩
    exact ⟨_, _, rfl, rfl, q _ (by omega) (by omega)⟩
/-! _law_goods -/
def spGoods (K : PySem.W.Frag) : Sp := fun vs H Q _ => ∃ (a : Addr) (ns : List Int) (s n : Int) (cb : Bool), vs = [.ref a, .int s, .int n, .bl cb] ∧ SqL K H a (ns.map V.int) ∧ 0 ≤ s ∧ s + 4 * n ≤ ns.length ∧ 0 ≤ n ∧ n ≤ 8 ∧
  ∀ (H' : Hp) (p : Addr) (ts : List Addr) (os : List Off), H p = none → Same H H' → H' p = some (.lst (ts.map V.ref)) → OffsAt H' ts os → OffsOk os → (os.length : Int) = n → Q (.ref p) H'
theorem ok_L_goods {f : Addr} {fd : FuncData} (F : Fun K "_law_goods" "_law_goods" s_L_goods f fd) (m_range : mg "range" = none) (m_int : mg "int" = none)
    (d_L_part : Def P w K mg base "_law_part" 1 ["_law_pool_here", "_law_spot", "_law_under", "_law_size"] (spPart K)) (d_L_far : Def P w K mg base "_law_far" 1 ["_law_pool_here", "_law_spot", "_law_number"] (spFar K))
    (d_L_chosen : Def P w K mg base "_law_chosen" 2 ["_law_pool_here", "_law_spot", "_law_under", "_law_small", "_law_crest", "_law_whole"] (spChosen K)) : FnOk P w K mg base CX0 3 f fd ["_law_pool_here", "_law_spot", "_law_number", "_law_calm"] (spGoods K) := by
  refine F.ok sc_L_goods (fun vs H Q E h => ?_) (fun cdv A outer s H vs Q E hr h => ?_)
  · obtain ⟨a, ns, s, n, cb, rfl, _⟩ := h
    rfl
  · obtain ⟨a, ns, s, n, cb, rfl, hS, h0, h1, n0, n8, q⟩ := h
    refine ⟨_, (pss_cons (ps_set (i := 4) sc_L_goods.nd rfl (.inl rfl) (pe_lst pa_nil))
  (pss_cons (ps_for PassesOwn.never rfl (pi_range1 (by rfl) m_range (pa_cons (pv 2) pa_nil)) (pg_name (i := 5) sc_L_goods.nd rfl (.inl rfl))
    (pss_cons (ps_set (i := 6) sc_L_goods.nd rfl (.inl rfl) (pe_op op_add (pv 1) (pe_op op_mul pe_int (pv 5))))
  (pss_cons (ps_set (i := 7) sc_L_goods.nd rfl (.inl rfl) (pe_callD d_L_chosen (hr.mono (by decide)) (by rfl) (pa_cons (pv 0) (pa_cons (pv 6) (pa_cons pe_int (pa_cons pe_int (pa_cons (pe_op op_pow pe_int pe_int) (pa_cons (pe_callD d_L_far (hr.mono (by decide)) (by rfl) (pa_cons (pv 0) (pa_cons (pe_op op_add (pv 6) pe_int) (pa_cons pe_int pa_nil)))) pa_nil))))))))
  (pss_cons (ps_set (i := 8) sc_L_goods.nd rfl (.inl rfl) (pe_op op_add pe_int (pe_callD d_L_chosen (hr.mono (by decide)) (by rfl) (pa_cons (pv 0) (pa_cons (pv 6) (pa_cons pe_int (pa_cons pe_int (pa_cons pe_int (pa_cons (pe_callD d_L_far (hr.mono (by decide)) (by rfl) (pa_cons (pv 0) (pa_cons (pe_op op_add (pv 6) pe_int) (pa_cons pe_int pa_nil)))) pa_nil)))))))))
  (pss_cons (ps_cut (ps_if (pt_val (pv 3)) (pss_cons (ps_set (i := 7) sc_L_goods.nd rfl (.inl rfl) (pe_op op_mod (pe_callTy call_int1 (by rfl) m_int (by decide +kernel) (pa_cons (pv 7) pa_nil)) pe_int))
  (pss_one (ps_set (i := 8) sc_L_goods.nd rfl (.inl rfl) (pe_op op_add pe_int (pe_op op_mod (pe_callTy call_int1 (by rfl) m_int (by decide +kernel) (pa_cons (pe_op op_sub (pv 8) pe_int) pa_nil)) pe_int))))) pss_nil))
  (pss_cons (ps_expr (pe_bm PySem.F.plainAttrs_list PySem.F.slot_list_append PySem.F.type_list_append mt_append (pv 4) (pa_cons (pe_tup (pa_cons (pv 7) (pa_cons (pv 8) pa_nil))) pa_nil)))
  (pss_one (ps_if (PW.pt (pw_and (pt_cmpR op_gt (pv 5) pe_int (nomark _)) (pw_and1 (pt_cmpR op_eq (pe_callD d_L_part (hr.mono (by decide)) (by rfl) (pa_cons (pv 0) (pa_cons (pe_op op_add (pv 6) pe_int) (pa_cons pe_int (pa_cons pe_int pa_nil))))) pe_int (nomark _))))) (pss_one (ps_asg (pe_ix ix_list (pv 4) (pe_op op_sub (pv 5) pe_int) (fun _ _ => rfl)) (pg_sub (pv 4) (pv 5) set_list))) pss_nil))))))))
  (pss_one (ps_ret (pv 4))))), ?_⟩
    refine ⟨Nat.zero_le _, fun p np => ?_⟩
    refine ⟨_, rfl, _, rfl, by omega, by omega, for_range (fun i σ H' => ∃ (ts : List Addr) (os : List Off) (y1 y2 y3 y4 : Option V), σ = [some (.ref a), some (.int s), some (.int n), some (.bl cb), some (.ref p), y1, y2, y3, y4] ∧ Same H H' ∧ H' p = some (.lst (ts.map V.ref)) ∧ OffsAt H' ts os ∧ OffsOk os ∧ os.length = i) ⟨[], [], _, _, _, _, rfl, same_upd np, upd_same, ⟨rfl, fun _ _ h => nomatch h⟩, (fun _ h => nomatch h), rfl⟩ ?_ ?_⟩
    · rintro i σ H' hi ⟨ts, os, y1, y2, y3, y4, rfl, sm, ep, hT, ok, ol⟩
      have hS2 := sm.seq hS
      have tl : ts.length = i := by rw [hT.1, ol]
      refine ⟨_, rfl, _, rfl, _, _, rfl, rfl, .inl ⟨by decide, by decide⟩, _, _, rfl, rfl, ?_⟩
      refine ⟨_, rfl, _, rfl, _, _, rfl, rfl, ⟨by decide, by decide, by decide⟩, _, rfl, _, rfl, _, _, rfl, rfl, _, _, _, _, rfl, hS2, by omega, by decide, by decide, by omega, fun z z0 => ?_⟩
      refine ⟨_, _, _, _, _, _, _, rfl, hS2, by omega, by omega, by decide, by decide, by decide, by decide, fun c c0 c1 => ?_⟩
      refine ⟨_, rfl, _, rfl, _, rfl, _, rfl, _, _, rfl, rfl, _, _, _, _, rfl, hS2, by omega, by decide, by decide, by omega, fun z2 z20 => ?_⟩
      refine ⟨_, _, _, _, _, _, _, rfl, hS2, by omega, by omega, by decide, by decide, by decide, by decide, fun v v0 v1 => ?_⟩
      have c1' : c ≤ 1000000 := c1
      refine ⟨_, _, rfl, rfl, ?_⟩
      refine ⟨fun σ H2 => H2 = H' ∧ ∃ o : Off, OOk o ∧ σ = [some (.ref a), some (.int s), some (.int n), some (.bl cb), some (.ref p), some (.int (0 + (i : Int))), some (.int (s + 4 * (0 + (i : Int)))), some (.int o.1), some (.int o.2)], ?_, ?_⟩
      · refine ⟨_, rfl, _, rfl, ite2 (fun e => ?_) (fun e => ?_)⟩
        · refine ⟨_, rfl, .inl ⟨_, rfl, _, _, rfl, rfl, pz, ?_⟩⟩
          refine ⟨_, rfl, _, _, rfl, rfl, .inl ⟨_, rfl, _, _, rfl, rfl, pz, _, _, rfl, rfl, ?_⟩⟩
          have a1 := Int.emod_nonneg c (show (12 : Int) ≠ 0 by decide)
          have a2 := Int.emod_lt_of_pos c (show (0 : Int) < 12 by decide)
          have b1 := Int.emod_nonneg (1 + v - 1) (show (4 : Int) ≠ 0 by decide)
          have b2 := Int.emod_lt_of_pos (1 + v - 1) (show (0 : Int) < 4 by decide)
          exact ⟨rfl, (c % 12, 1 + (1 + v - 1) % 4), ⟨a1, by show c % 12 ≤ _; omega, by show 1 ≤ 1 + (1 + v - 1) % 4; omega, by show 1 + (1 + v - 1) % 4 ≤ _; omega⟩, rfl⟩
        · exact ⟨rfl, (c, 1 + v), ⟨c0, c1', by show 1 ≤ 1 + v; omega, by show 1 + v ≤ 1000; omega⟩, rfl⟩
      · rintro σ H2 ⟨rfl, o, oo, rfl⟩
        refine ⟨_, rfl, .inl ⟨rfl, _, lstAt ep⟩, _, rfl, _, rfl, (show 2 ≤ sizeLine by decide), fun t nt => ?_⟩
        have tp : t ≠ p := (ne_of_none ep nt).symm
        refine ⟨_, _, _, rfl, rfl, by rw [upd_ne tp.symm]; exact ep, by rw [List.length_map]; exact small1000 (by omega), ?_⟩
        have st := sm.trans (same_upd (o := .tup [.int o.1, .int o.2]) nt)
        have hT3 : OffsAt (upd (upd H2 t (.tup [.int o.1, .int o.2])) p (.lst (ts.map V.ref ++ [.ref t]))) (ts ++ [t]) (os ++ [o]) := by
          refine OffsAt.snoc ((hT.same (same_upd nt)).wrote (xs := ts.map V.ref) (by rw [upd_ne tp.symm]; exact ep)) ?_
          rw [upd_ne tp]; exact upd_same
        have s3 : Same H (upd (upd H2 t (.tup [.int o.1, .int o.2])) p (.lst (ts.map V.ref ++ [.ref t]))) := same_at st np
        have e3 : (upd (upd H2 t (.tup [.int o.1, .int o.2])) p (.lst (ts.map V.ref ++ [.ref t]))) p = some (.lst ((ts ++ [t]).map V.ref)) := by rw [List.map_append]; exact upd_same
        have ok3 : OffsOk (os ++ [o]) := fun x hx => by
          rcases List.mem_append.mp hx with hx | hx
          · exact ok x hx
          · rw [List.mem_singleton.mp hx]; exact oo
        generalize upd (upd H2 t (.tup [.int o.1, .int o.2])) p (.lst (ts.map V.ref ++ [.ref t])) = H3 at hT3 s3 e3 ⊢
        have hS3 := s3.seq hS
        refine ⟨_, rfl, _, _, rfl, rfl, _, rfl, ite2 (fun e => ?_) (fun e => ?_)⟩
        · have e1 : (0 : Int) < 0 + (i : Int) := of_decide_eq_true e
          refine ⟨_, rfl, _, rfl, _, _, rfl, rfl, _, _, _, _, _, rfl, hS3, by omega, by omega, by decide, by decide, by decide, rfl, _, rfl, ite2 (fun e => ?_) (fun e => ?_)⟩
          · have hk : i - 1 < (ts ++ [t]).length := by rw [List.length_append]; omega
            have hk2 : i - 1 < (os ++ [o]).length := by rw [← hT3.1]; exact hk
            obtain ⟨o4, o5, o6⟩ := hT3.2 (i - 1) _ (List.getElem?_eq_getElem hk)
            refine ⟨_, rfl, _, rfl, _, _, rfl, rfl, p, _, _, _, rfl, rfl, lstAt e3, (atI_in (i := 0 + (i : Int) - 1) (by omega) (by rw [show (0 + (i : Int) - 1).toNat = i - 1 by omega, List.getElem?_map, List.getElem?_eq_getElem hk]; rfl)), _, rfl, _, rfl, p, _, _, i, rfl, rfl, e3, (by rw [Int.zero_add]; exact ixN_at (by rw [List.length_map, List.length_append, tl]; exact Nat.lt_succ_self _)), ?_⟩
            refine ⟨(ts ++ [t]).set i (ts ++ [t])[i - 1], (os ++ [o]).set i o4, _, _, _, _, rfl, same_at s3 np, ?_, (hT3.set o6).wrote e3, ?_, ?_⟩
            · rw [upd_same, List.map_set]
            · intro x hx
              rcases List.mem_or_eq_of_mem_set hx with hx | hx
              · exact ok3 x hx
              · rw [hx]; exact ok3 _ (List.mem_of_getElem? o5)
            · rw [List.length_set, List.length_append, ol]; rfl
          · exact ⟨_, _, _, _, _, _, rfl, s3, e3, hT3, ok3, by rw [List.length_append, ol]; rfl⟩
        · refine iteF ?_
          exact ⟨_, _, _, _, _, _, rfl, s3, e3, hT3, ok3, by rw [List.length_append, ol]; rfl⟩
    · rintro σ H' ⟨ts, os, y1, y2, y3, y4, rfl, sm, ep, hT, ok, ol⟩
      exact ⟨_, rfl, q _ p ts os np sm ep hT ok (by omega)⟩
end
end TK

namespace TK
open PySem PySem.Spec PyProof.Rows L2
/-! Euclid, in at most so many turns -/
def capM : Nat := 8000000000 * 9000
def Turn (g i x y : Nat) : Prop := Nat.gcd x y = g ∧ y ≤ 9000 ∧ ((i = 0 ∧ x * y ≤ capM) ∨ (y < x ∧ x * y * 2 ^ i ≤ 2 * capM))
theorem Turn.step {g i x y : Nat} (h : Turn g i x y) (hy : y ≠ 0) : Turn g (i + 1) y (x % y) := by
  obtain ⟨h1, h2, h3⟩ := h
  have yp : 0 < y := Nat.pos_of_ne_zero hy
  have m1 := Nat.mod_lt x yp
  refine ⟨?_, by omega, .inr ⟨m1, ?_⟩⟩
  · rw [← h1, Nat.gcd_comm x y, Nat.gcd_rec y x, Nat.gcd_comm]
  · rcases h3 with ⟨rfl, h3⟩ | ⟨h3, h4⟩
    · have : y * (x % y) ≤ x * y := by rw [Nat.mul_comm x y]; exact Nat.mul_le_mul_left _ (Nat.mod_le _ _)
      rw [show (2 : Nat) ^ (0 + 1) = 2 from rfl]
      omega
    · have d := Nat.div_add_mod x y
      have q1 : 1 ≤ x / y := (Nat.le_div_iff_mul_le yp).mpr (by omega)
      have q2 : y * 1 ≤ y * (x / y) := Nat.mul_le_mul_left _ q1
      have q3 : 2 * (x % y) ≤ x := by omega
      have q4 : y * (2 * (x % y)) ≤ y * x := Nat.mul_le_mul_left _ q3
      have q5 : y * (x % y) * 2 ≤ x * y := by rw [Nat.mul_assoc, Nat.mul_comm (x % y) 2, Nat.mul_comm x y]; exact q4
      calc y * (x % y) * 2 ^ (i + 1) = y * (x % y) * 2 * 2 ^ i := by rw [Nat.pow_succ', Nat.mul_assoc]; simp [Nat.mul_assoc]
        _ ≤ x * y * 2 ^ i := Nat.mul_le_mul_right _ q5
        _ ≤ 2 * capM := h4
theorem Turn.zero {g x : Nat} {i : Nat} (h : Turn g i x 0) : x = g := by
  rw [← h.1, Nat.gcd_zero_right]
theorem Turn.done {g x y : Nat} (h : Turn g 400 x y) : x = g := by
  obtain ⟨h1, h2, h3⟩ := id h
  rcases h3 with ⟨e, _⟩ | ⟨h3, h4⟩
  · exact absurd e (by decide)
  · by_cases hy : y = 0
    · subst hy; exact h.zero
    · exfalso
      have p : 1 ≤ x * y := Nat.mul_pos (by omega) (by omega)
      have : 1 * 2 ^ 400 ≤ x * y * 2 ^ 400 := Nat.mul_le_mul_right _ p
      have k : ¬ 1 * 2 ^ 400 ≤ 2 * capM := by decide +kernel
      exact k (Nat.le_trans this h4)
section
variable {P : Program} {w : World} {K : PySem.W.Frag} {mg : Str → Option Value} {base : Heap}
/-! _law_lowest -/
def spLowest : Sp := fun vs H Q _ => ∃ (a b : Int), vs = [.int a, .int b] ∧ 0 ≤ a ∧ a ≤ 8000000000 ∧ 1 ≤ b ∧ b ≤ 9000 ∧ ∀ H' t, Same H H' → H' t = some (.tup [.int (a / gcdI a b), .int (b / gcdI a b)]) → Q (.ref t) H'
theorem ok_L_lowest {f : Addr} {fd : FuncData} (F : Fun K "_law_lowest" "_law_lowest" s_L_lowest f fd) (m_range : mg "range" = none) (m_abs : mg "abs" = none) : FnOk P w K mg base CX0 1 f fd ["_law_above", "_law_below"] spLowest := by
  refine F.ok sc_L_lowest (fun vs H Q E h => ?_) (fun cdv A outer s H vs Q E hr h => ?_)
  · obtain ⟨a, b, rfl, _⟩ := h
    rfl
  · obtain ⟨a, b, rfl, a0, a1, b1, b9, q⟩ := h
    have g1 := gcd_bd (a := a) (b := b) b1
    have g2 : gcdI a b < 1073741824 := by omega
    have ea : (if a < 0 then -a else a) = ((a.natAbs : Nat) : Int) := by rw [if_neg (by omega)]; omega
    have eb : b = ((b.natAbs : Nat) : Int) := by omega
    refine ⟨_, (pss_cons (ps_par (i := 2) (j := 3) rfl sc_L_lowest.nd rfl rfl (by decide) rfl rfl (pa_cons (pe_callB call_abs (by rfl) m_abs (by decide +kernel) (pa_cons (pv 0) pa_nil)) (pa_cons (pv 1) pa_nil)) rfl)
  (pss_cons (ps_for PassesOwn.never rfl (pi_range1 (by rfl) m_range (pa_cons pe_int pa_nil)) (pg_name (i := 4) sc_L_lowest.nd rfl (.inl rfl))
    (pss_cons (ps_if (pt_cmpR op_eq (pv 3) pe_int (nomark _)) (pss_one ps_break) pss_nil)
  (pss_one (ps_par (i := 2) (j := 3) rfl sc_L_lowest.nd rfl rfl (by decide) rfl rfl (pa_cons (pv 3) (pa_cons (pe_op op_sub (pv 2) (pe_op op_mul (pv 3) (pe_op op_fdiv (pv 2) (pv 3)))) pa_nil)) rfl))))
  (pss_one (ps_ret (pe_tup (pa_cons (pe_op op_fdiv (pv 0) (pv 2)) (pa_cons (pe_op op_fdiv (pv 1) (pv 2)) pa_nil))))))), ?_⟩
    refine ⟨_, rfl, _, rfl, _, rfl, _, _, rfl, ?_⟩
    have fin : ∀ (H1 : Hp) (x : Int) (y5 y6 : Option V), Same H H1 → x = gcdI a b →
        ∀ t1, H1 t1 = none → Q (.ref t1) (upd H1 t1 (.tup [.int (a / x), .int (b / x)])) := fun H1 x _ _ s1 e t1 n1 => by
      subst e
      exact q _ t1 (s1.trans (same_upd n1)) upd_same
    refine ⟨_, rfl, by decide, by decide, for_range (fun i σ H' => Same H H' ∧ ∃ (x y : Nat) (y4 : Option V), σ = [some (.int a), some (.int b), some (.int (x : Int)), some (.int (y : Int)), y4] ∧ Turn (Nat.gcd a.natAbs b.natAbs) i x y) ⟨Same.refl _, a.natAbs, b.natAbs, none, ?_, rfl, by omega, .inl ⟨rfl, ?_⟩⟩ ?_ ?_⟩
    · rw [← ea, ← eb]; rfl
    · exact Nat.mul_le_mul (by omega) (by omega)
    · rintro i σ H' hi ⟨s1, x, y, y4, rfl, T⟩
      refine ⟨_, rfl, rfl, _, rfl, ite2 (fun e => ?_) (fun e => ?_)⟩
      · have e1 : (y : Int) = 0 := V.int.inj (of_decide_eq_true e)
        have e2 : y = 0 := by omega
        subst e2
        have e3 : (x : Int) = gcdI a b := by rw [T.zero]; rfl
        exact ⟨_, rfl, _, rfl, _, _, rfl, rfl, ⟨by omega, by omega⟩, _, rfl, _, rfl, _, _, rfl, rfl, ⟨by omega, by omega⟩, (show 2 ≤ sizeLine by decide), fun t1 n1 => fin _ _ none none s1 e3 t1 n1⟩
      · have hy : y ≠ 0 := fun z => e (decide_eq_true (by rw [z]; rfl))
        have y9 := T.2.1
        have st := T.step hy
        refine ⟨_, rfl, _, rfl, _, rfl, _, rfl, _, rfl, _, _, rfl, rfl, ⟨by omega, by omega⟩, _, _, rfl, rfl, .inl ⟨by omega, by omega⟩, _, _, rfl, rfl, _, _, rfl, ?_⟩
        refine ⟨s1, y, x % y, some (.int (0 + (i : Int))), ?_, st⟩
        show [some (V.int a), some (V.int b), some (V.int (y : Int)), some (V.int ((x : Int) - (y : Int) * ((x : Int) / (y : Int)))), some (V.int (0 + (i : Int)))] = _
        rw [show (x : Int) - (y : Int) * ((x : Int) / (y : Int)) = ((x % y : Nat) : Int) by rw [Int.natCast_emod, Int.emod_def]]
    · rintro σ H' ⟨s1, x, y, y4, rfl, T⟩
      have e3 : (x : Int) = gcdI a b := by rw [T.done]; rfl
      exact ⟨_, rfl, _, rfl, _, _, rfl, rfl, ⟨by omega, by omega⟩, _, rfl, _, rfl, _, _, rfl, rfl, ⟨by omega, by omega⟩, (show 2 ≤ sizeLine by decide), fun t1 n1 => fin _ _ none none s1 e3 t1 n1⟩
/-! _law_mean -/
def spMeanL (K : PySem.W.Frag) : Sp := fun vs H Q _ => ∃ (g l : Addr) (ts : List Addr) (os : List Off) (b : Int) (ks : List Nat), vs = [.ref g, .int b, .ref l] ∧ SqL K H g (ts.map V.ref) ∧ OffsAt H ts os ∧ OffsOk os ∧ os.length ≤ 8 ∧ 1 ≤ b ∧ b ≤ 1000 ∧ SqT K H l (ks.map kI) ∧ KsOk os.length ks ∧
  ∀ H' t, Same H H' → H' t = some (meanT os b ks) → Q (.ref t) H'
theorem ok_L_mean {f : Addr} {fd : FuncData} (F : Fun K "_law_mean" "_law_mean" s_L_mean f fd) (m_sum : mg "sum" = none) (d_L_lowest : Def P w K mg base "_law_lowest" 1 ["_law_above", "_law_below"] spLowest) :
    FnOk P w K mg base CX0 2 f fd ["_law_goods_here", "_law_beside_here", "_law_picked"] (spMeanL K) := by
  refine F.ok sc_L_mean (fun vs H Q E h => ?_) (fun cdv A outer s H vs Q E hr h => ?_)
  · obtain ⟨g, l, ts, os, b, ks, rfl, _⟩ := h
    rfl
  · obtain ⟨g, l, ts, os, b, ks, rfl, hg, hT, ok, l8, b0, b1, hl, kok, q⟩ := h
    have kl := kok.len
    have w8 := wgt_bd ok l8 kok
    have t8 := top_bd ok l8 kok
    have sT : ∀ {H'}, Same H H' → SqT K H' l (ks.map kI) := fun s => same_tup s hl
    refine ⟨_, (pss_cons (ps_set (i := 3) sc_L_mean.nd rfl (.inl rfl) (pe_callB (cr_sum rfl) (by rfl) m_sum (by decide +kernel) (pa_cons (pe_lc (own := [("_law_k", 5)]) (by rfl) sc_L_mean.nd (pi_tup (pv 2)) (blkOk_by (N := ["_law_goods_here", "_law_beside_here", "_law_picked", "_law_above", "_law_below", "_law_k"]) (sc := defScope s_L_mean) (by decide +kernel)) (fun _ _ _ _ _ => (pg_name (i := 5) sc_L_mean.nd rfl (.inl rfl))) (fun _ _ _ _ _ => pts_nil) (fun _ _ _ _ _ => (pe_op op_mul (pe_ix (ix_tupK (K := K) rfl) (pe_ix (ix_listK (K := K) rfl) (pv 0) (pv 5) (fun _ _ => rfl)) pe_int (fun _ _ => rfl)) (pe_ix (ix_tupK (K := K) rfl) (pe_ix (ix_listK (K := K) rfl) (pv 0) (pv 5) (fun _ _ => rfl)) pe_int (fun _ _ => rfl))))) pa_nil)))
  (pss_cons (ps_set (i := 4) sc_L_mean.nd rfl (.inl rfl) (pe_op op_add (pv 1) (pe_callB (cr_sum rfl) (by rfl) m_sum (by decide +kernel) (pa_cons (pe_lc (own := [("_law_k", 5)]) (by rfl) sc_L_mean.nd (pi_tup (pv 2)) (blkOk_by (N := ["_law_goods_here", "_law_beside_here", "_law_picked", "_law_above", "_law_below", "_law_k"]) (sc := defScope s_L_mean) (by decide +kernel)) (fun _ _ _ _ _ => (pg_name (i := 5) sc_L_mean.nd rfl (.inl rfl))) (fun _ _ _ _ _ => pts_nil) (fun _ _ _ _ _ => (pe_ix (ix_tupK (K := K) rfl) (pe_ix (ix_listK (K := K) rfl) (pv 0) (pv 5) (fun _ _ => rfl)) pe_int (fun _ _ => rfl)))) pa_nil))))
  (pss_one (ps_ret (pe_callD d_L_lowest (hr.mono (by decide)) (by rfl) (pa_cons (pv 3) (pa_cons (pv 4) pa_nil))))))), ?_⟩
    refine ⟨_, rfl, l, rfl, ⟨_, hl⟩, fun D nD => ?_⟩
    refine lc_tup (K := K) (a := l) (xs := ks.map kI) (fun i H' => H' = upd H D (.lst (((ks.map fun k => (os.getD k (0, 1)).1 * (os.getD k (0, 1)).2).map V.int).take i))) rfl (fun i H' _ hq => by subst hq; exact sT (same_upd nD)) (fun i x H' hx hq => ?_) (fun H' hq => ?_)
    · subst hq
      obtain ⟨k, ek, rfl⟩ := kI_at hx
      have hi8 : i < 8 := by have := (List.getElem?_eq_some_iff.mp ek).1; omega
      have s1 := same_upd (o := .lst (((ks.map fun k => (os.getD k (0, 1)).1 * (os.getD k (0, 1)).2).map V.int).take i)) nD
      obtain ⟨t, t1, t2, t3⟩ := offs_at (hT.same s1) (kok.lt k (List.mem_of_getElem? ek))
      have oo := getD_ok ok (kok.lt k (List.mem_of_getElem? ek))
      have m1 := oo.c0
      have m2 := oo.c1
      refine ⟨rfl, yesT ⟨_, rfl, _, rfl, _, _, _, _, rfl, rfl, s1.seq hg, t2, _, _, _, _, rfl, rfl, tupAt t3, rfl, _, rfl, _, rfl, _, _, _, _, rfl, rfl, s1.seq hg, t2, _, _, _, _, rfl, rfl, tupAt t3, rfl, _, _, rfl, rfl, .inl ⟨by omega, by omega⟩, _, upd_same, by rw [List.length_take]; exact small1000 (by omega), ?_⟩⟩
      rw [upd_twice, List.take_add_one, List.getElem?_map, List.getElem?_map, ek]
      rfl
    subst hq
    rw [List.take_of_length_le (by rw [List.length_map, List.length_map, List.length_map]; omega)]
    have s1 := same_upd (o := .lst ((ks.map fun k => (os.getD k (0, 1)).1 * (os.getD k (0, 1)).2).map V.int)) nD
    refine ⟨D, _, rfl, lstAt upd_same, ?_⟩
    generalize upd H D (.lst ((ks.map fun k => (os.getD k (0, 1)).1 * (os.getD k (0, 1)).2).map V.int)) = H1 at s1 ⊢
    refine ⟨_, rfl, _, rfl, l, rfl, ⟨_, sT s1⟩, fun D2 nD2 => ?_⟩
    refine lc_tup (K := K) (a := l) (xs := ks.map kI) (fun i H' => H' = upd H1 D2 (.lst (((ks.map fun k => (os.getD k (0, 1)).2).map V.int).take i))) rfl (fun i H' _ hq => by subst hq; exact sT (s1.trans (same_upd nD2))) (fun i x H' hx hq => ?_) (fun H' hq => ?_)
    · subst hq
      obtain ⟨k, ek, rfl⟩ := kI_at hx
      have hi8 : i < 8 := by have := (List.getElem?_eq_some_iff.mp ek).1; omega
      have s2 := s1.trans (same_upd (o := .lst (((ks.map fun k => (os.getD k (0, 1)).2).map V.int).take i)) nD2)
      obtain ⟨t, t1, t2, t3⟩ := offs_at (hT.same s2) (kok.lt k (List.mem_of_getElem? ek))
      refine ⟨rfl, yesT ⟨_, rfl, _, rfl, _, _, _, _, rfl, rfl, s2.seq hg, t2, _, _, _, _, rfl, rfl, tupAt t3, rfl, _, upd_same, by rw [List.length_take]; exact small1000 (by omega), ?_⟩⟩
      rw [upd_twice, List.take_add_one, List.getElem?_map, List.getElem?_map, ek]
      rfl
    subst hq
    rw [List.take_of_length_le (by rw [List.length_map, List.length_map, List.length_map]; omega)]
    have s2 := s1.trans (same_upd (o := .lst ((ks.map fun k => (os.getD k (0, 1)).2).map V.int)) nD2)
    refine ⟨D2, _, rfl, lstAt upd_same, _, _, rfl, rfl, ?_⟩
    exact ⟨_, rfl, _, rfl, topF os ks, b + wgtF os ks, rfl, t8.1, t8.2, by omega, by omega, fun H' t s3 e => q H' t (s2.trans s3) e⟩
end
end TK

namespace TK
open PySem PySem.Spec PyProof.Rows L2
theorem KsOk.of_filter {n : Nat} (p : Nat → Bool) : KsOk n ((List.range n).filter p) := by
  unfold KsOk
  refine List.filter_congr fun k hk => ?_
  by_cases h : p k = true
  · rw [h]
    exact decide_eq_true (List.mem_filter.mpr ⟨hk, h⟩)
  · rw [Bool.eq_false_iff.mpr h]
    exact decide_eq_false fun z => h (List.mem_filter.mp z).2
theorem KsOk.nil {n : Nat} : KsOk n [] := by
  have := KsOk.of_filter (n := n) fun _ => false
  rwa [List.filter_eq_nil_iff.mpr (by simp)] at this
theorem KsOk.all {n : Nat} : KsOk n (List.range n) := by
  have := KsOk.of_filter (n := n) fun _ => true
  rwa [List.filter_eq_self.mpr (by simp)] at this
theorem range_one {n k : Nat} (h : k < n) : (List.range n).filter (fun j => decide (j = k)) = [k] := by
  induction n with
  | zero => omega
  | succ n ih =>
    rw [List.range_succ, List.filter_append]
    by_cases e : k = n
    · subst e
      rw [List.filter_eq_nil_iff.mpr fun j hj => by
        have := List.mem_range.mp hj
        simp; omega]
      simp
    · rw [ih (by omega)]
      have : ¬ n = k := fun z => e z.symm
      simp [this]
theorem KsOk.one {n k : Nat} (h : k < n) : KsOk n [k] := by
  have := KsOk.of_filter (n := n) fun j => decide (j = k)
  rwa [range_one h] at this
theorem rgV_k (n : Nat) : rgV 0 (n : Int) = (List.range n).map kI := by
  unfold rgV
  rw [show ((n : Int) - 0).toNat = n by omega]
  refine List.map_congr_left fun k _ => ?_
  rw [Int.zero_add]
  rfl
/-! the same data -/
theorem eq_flat {H : Hp} {t u : Addr} {xs : List V} (h1 : TL H t xs) (h2 : TL H u xs) (hl : xs.length ≤ 1000) (fl : ∀ x ∈ xs, flat1 x = true) (n : Nat) : Eq2 H (n + 1) (.ref t) (.ref u) := by
  refine .inr ⟨t, u, _, _, rfl, rfl, .inr ⟨h1, h2⟩, rfl, by omega, fun i x y hx hy => ?_⟩
  rw [hx] at hy
  have e := Option.some.inj hy
  have f := fl x (List.mem_of_getElem? hx)
  cases n with
  | zero => exact ⟨e, f⟩
  | succ n => exact .inl ⟨e, f⟩
theorem eq_two {H : Hp} {t u : Addr} {x y : V} (h1 : H t = some (.tup [x, y])) (h2 : H u = some (.tup [x, y])) (fx : flat1 x = true) (fy : flat1 y = true) (n : Nat) : Eq2 H (n + 1) (.ref t) (.ref u) := by
  refine eq_flat (.inl h1) (.inl h2) (show (2 : Nat) ≤ 1000 by decide) (fun z hz => ?_) n
  rcases List.mem_cons.mp hz with rfl | hz
  · exact fx
  rcases List.mem_cons.mp hz with rfl | hz
  · exact fy
  · cases hz
theorem eq_item {H : Hp} {ts ts' : List Addr} {os : List Off} (a : OffsAt H ts os) (b : OffsAt H ts' os) {i : Nat} {x y : V} (hx : (ts.map V.ref)[i]? = some x) (hy : (ts'.map V.ref)[i]? = some y) (n : Nat) : Eq2 H (n + 1) x y := by
  obtain ⟨t, o, rfl, _, e1, e2⟩ := a.get hx
  obtain ⟨t', o', rfl, _, e3, e4⟩ := b.get hy
  have : o = o' := Option.some.inj (e1.symm.trans e3)
  subst this
  exact eq_two e2 e4 rfl rfl n
theorem eq_offsL {H : Hp} {p q : Addr} {ts ts' : List Addr} {os : List Off} (h1 : H p = some (.lst (ts.map V.ref))) (h2 : H q = some (.lst (ts'.map V.ref))) (a : OffsAt H ts os) (b : OffsAt H ts' os) (l8 : os.length ≤ 8) (n : Nat) : Eq2 H (n + 2) (.ref p) (.ref q) :=
  .inr ⟨p, q, _, _, rfl, rfl, .inl ⟨h1, h2⟩, by rw [List.length_map, List.length_map, a.1, b.1], by rw [List.length_map, a.1]; omega, fun _ _ _ hx hy => eq_item a b hx hy n⟩
theorem eq_offsT {H : Hp} {p q : Addr} {ts ts' : List Addr} {os : List Off} (h1 : H p = some (.tup (ts.map V.ref))) (h2 : H q = some (.tup (ts'.map V.ref))) (a : OffsAt H ts os) (b : OffsAt H ts' os) (l8 : os.length ≤ 8) (n : Nat) : Eq2 H (n + 2) (.ref p) (.ref q) :=
  .inr ⟨p, q, _, _, rfl, rfl, .inr ⟨.inl h1, .inl h2⟩, by rw [List.length_map, List.length_map, a.1, b.1], by rw [List.length_map, a.1]; omega, fun _ _ _ hx hy => eq_item a b hx hy n⟩
theorem eq_parts {H : Hp} {t u p q : Addr} {ts ts' : List Addr} {os : List Off} {b : Int} (e1 : H t = some (.tup [.ref p, .int b])) (e2 : H u = some (.tup [.ref q, .int b])) (h1 : H p = some (.tup (ts.map V.ref))) (h2 : H q = some (.tup (ts'.map V.ref))) (a : OffsAt H ts os) (c : OffsAt H ts' os) (l8 : os.length ≤ 8) : Eq2 H 3 (.ref t) (.ref u) := by
  refine .inr ⟨t, u, _, _, rfl, rfl, .inr ⟨.inl e1, .inl e2⟩, rfl, (show (2 : Nat) < 2 ^ 40 by decide), fun i x y hx hy => ?_⟩
  match i, hx, hy with
  | 0, hx, hy =>
    cases Option.some.inj hx; cases Option.some.inj hy
    exact eq_offsT h1 h2 a c l8 0
  | 1, hx, hy =>
    cases Option.some.inj hx; cases Option.some.inj hy
    exact .inl ⟨rfl, rfl⟩
  | i + 2, hx, _ => simp at hx
theorem eq_mean {H : Hp} {t u : Addr} {os : List Off} {b : Int} {ks : List Nat} (h1 : H t = some (meanT os b ks)) (h2 : H u = some (meanT os b ks)) : Eq2 H 3 (.ref t) (.ref u) := eq_two h1 h2 rfl rfl 2
/-- guests are made -/
theorem make_goG {K : PySem.W.Frag} {C : Addr} {H : Hp} {x dx a : Addr} {ts : List Addr} {os : List Off} {b : Int} {R : Hp → Prop} {E : XK} (n1 : H x = none) (n2 : H dx = none) (ne : dx ≠ x) (hS : SqS K H a (ts.map V.ref)) (hT : OffsAt H ts os) (ok : OffsOk os) (l8 : os.length ≤ 8) (b0 : 1 ≤ b) (b1 : b ≤ 1000)
    (k : ∀ H', GuAt C H' x os b → Same H H' → R H') : spInitG K C [.ref x, .ref a, .int b] (upd (upd H dx (.own x)) x (.ins C dx [])) (fun v H2 => v = .non ∧ R H2) E := by
  have sdx := same_upd (o := .own x) n2
  have nmm : (upd H dx (.own x)) x = none := by rw [upd_ne ne.symm]; exact n1
  have sm := sdx.trans (same_upd (o := .ins C dx []) nmm)
  exact ⟨x, a, dx, ts, os, b, rfl, upd_same, hS.same sm, hT.same sm, ok, l8, b0, b1, fun H' tk fr => ⟨rfl, k H' tk fun c o e => fr c o (sm _ _ e) (ne_of_none e n1)⟩⟩
/-- what holds of values that are no guests -/
structure OddT (K : PySem.W.Frag) (C : Addr) : Prop where
  nN : PySem.W.notFirst K C (.type "NoneType") = true
  nS : PySem.W.notFirst K C (.type "str") = true
  nT : PySem.W.notFirst K C (.type "tuple") = true
  kN : PySem.W.kitOne K (.type "NoneType") (.ref C) = some false
  kS : PySem.W.kitOne K (.type "str") (.ref C) = some false
  kT : PySem.W.kitOne K (.type "tuple") (.ref C) = some false
/-- what guests are not equal to -/
inductive Oth (C : Addr) (H : Hp) (os : List Off) (b : Int) : V → Prop where
  | gu {p : Addr} {qs : List Off} {c : Int} (g : GuAt C H p qs c) (n : ¬ (os = qs ∧ b = c)) : Oth C H os b (.ref p)
  | non : Oth C H os b .non
  | str (z : Str) : Oth C H os b (.str z)
  | tup {a : Addr} {xs : List V} (e : H a = some (.tup xs)) : Oth C H os b (.ref a)
theorem GuAt.frame {C : Addr} {H H' : Hp} {p : Addr} {os : List Off} {b : Int} (h : GuAt C H p os b) (s : ∀ c o, H c = some o → (∀ ys, o ≠ .lst ys) → H' c = some o) : GuAt C H' p os b := by
  obtain ⟨dx, a, ts, h1, h2, h3⟩ := h
  exact ⟨dx, a, ts, s _ _ h1 (by intro _ z; cases z), s _ _ h2 (by intro _ z; cases z), h3.1, fun i t e => by
    obtain ⟨o, g1, g2⟩ := h3.2 i t e
    exact ⟨o, g1, s _ _ g2 (by intro _ z; cases z)⟩⟩
theorem Oth.frame {C : Addr} {H H' : Hp} {os : List Off} {b : Int} {x : V} (h : Oth C H os b x) (s : ∀ c o, H c = some o → (∀ ys, o ≠ .lst ys) → H' c = some o) : Oth C H' os b x := by
  cases h with
  | gu g n => exact .gu (g.frame s) n
  | non => exact .non
  | str z => exact .str z
  | tup e => exact .tup (s _ _ e (by intro _ z; cases z))
theorem Oth.same {C : Addr} {H H' : Hp} {os : List Off} {b : Int} {x : V} (h : Oth C H os b x) (s : Same H H') : Oth C H' os b x := h.frame fun c o e _ => s c o e
theorem Oth.wrote {C : Addr} {H : Hp} {os : List Off} {b : Int} {x : V} {D : Addr} {xs : List V} {o : HO} (h : Oth C H os b x) (e : H D = some (.lst xs)) : Oth C (upd H D o) os b x := h.frame fun c z ez n => by
  rw [upd_ne (fun q => by subst q; rw [e] at ez; exact n xs (Option.some.inj ez).symm)]
  exact ez
theorem Oth.isIn {K : PySem.W.Frag} {C : Addr} {H : Hp} {os : List Off} {b : Int} {x : V} (T : OddT K C) (h : Oth C H os b x) : IsIn H x C ∨ Odd K C H x := by
  cases h with
  | gu g n => obtain ⟨dx, a, ts, h1, _⟩ := g; exact .inl ⟨_, dx, _, rfl, h1⟩
  | non => exact .inr (.non T.nN)
  | str z => exact .inr (.str z T.nS)
  | tup e => exact .inr (.tup e T.nT)
theorem Oth.eq {K : PySem.W.Frag} {C : Addr} {H : Hp} {os : List Off} {b : Int} {x : V} {p : Addr} {Q : VK} {E : XK} (T : OddT K C) (h : Oth C H os b x) (g : GuAt C H p os b) (q : Q (.bl false) H) : spEqG K C [.ref p, x] H Q E := by
  refine ⟨p, x, os, b, rfl, g, ?_⟩
  cases h with
  | @gu p' qs c g n =>
    refine .inl ⟨p', qs, c, rfl, g, ?_⟩
    rw [show (decide (os = qs) && decide (b = c)) = false by
      by_cases e1 : os = qs <;> by_cases e2 : b = c <;> simp [e1, e2]
      exact n ⟨e1, e2⟩]
    exact q
  | non => exact .inr ⟨_, .base .non, T.kN, q⟩
  | str z => exact .inr ⟨_, .base (.str z), T.kS, q⟩
  | tup e => exact .inr ⟨_, .base (.tup e), T.kT, q⟩
theorem cut_from_l (xs : List V) (i : Nat) : cutV xs (some ((i : Nat) : Int)) none = xs.drop i := by
  unfold cutV
  rw [HT.sIx_nat]
  have e : HT.sIx xs.length xs.length none = xs.length := rfl
  rw [e]
  by_cases h : i ≤ xs.length
  · rw [Nat.min_eq_left h, List.take_of_length_le (by rw [List.length_drop]; exact Nat.le_refl _)]
  · rw [Nat.min_eq_right (by omega), List.drop_length, List.drop_of_length_le (by omega), List.take_nil]
theorem OffsAt.drop1 {H : Hp} {ts : List Addr} {os : List Off} (h : OffsAt H ts os) : OffsAt H (ts.drop 1) (os.drop 1) := by
  refine ⟨by rw [List.length_drop, List.length_drop, h.1], fun i t e => ?_⟩
  rw [List.getElem?_drop] at e ⊢
  exact h.2 _ t e
def otherB (b : Int) : Int := b - 1 + 2 * (if decide (V.int b = V.int 1) = true then 1 else 0)
theorem otherB_ok {b : Int} (h0 : 1 ≤ b) (h1 : b ≤ 1000) : 1 ≤ otherB b ∧ otherB b ≤ 1000 ∧ b ≠ otherB b := by
  unfold otherB
  by_cases e : b = 1
  · subst e
    rw [if_pos (by decide)]
    omega
  · rw [if_neg (by simp [e])]
    omega
end TK

namespace TK
open PySem PySem.Spec PyProof.Rows L2
section
variable {P : Program} {w : World} {K : PySem.W.Frag} {mg : Str → Option Value} {base : Heap}
def spLaw (K : PySem.W.Frag) : Sp := fun vs H Q _ => ∃ (a : Addr) (ns : List Int), vs = [.ref a] ∧ SqL K H a (ns.map V.int) ∧ ns.length ≤ 63 ∧ ∀ H', Q (.bl true) H'
theorem ok_law {f C fI gM gQ : Addr} {fd fdI fdM fdQ : FuncData} (F : Fun K "law" "law" s_law f fd) (T : TxtG K C) (TO : OddT K C) (m_list : mg "list" = none) (m_tuple : mg "tuple" = none) (m_range : mg "range" = none) (m_int : mg "int" = none)
    (M_Guests : Mk K C fI) (G_Guests : FnOk P w K mg base CX0 3 fI fdI ["self", "offers", "aside"] (spInitG K C)) (mg_Guests : mg "Guests" = some (.ref C)) (b_Guests : Binds K fdI ["self", "offers", "aside"] [])
    {g1 : List Value → List Value → List Value} (kb_Guests : KBn K fdI ["self", "offers", "aside"] 1 ["offers", "aside"] g1 (fun vs zs => vs ++ zs))
    (Me_mean : Meth K C "mean" gM) (G_mean : FnOk P w K mg base CX0 1 gM fdM ["self", "lot"] (spMeanG K C)) (b_mean : Binds K fdM ["self", "lot"] []) {g2 : List Value → List Value → List Value} (kb_mean : KBn K fdM ["self", "lot"] 1 ["lot"] g2 (fun vs zs => vs ++ zs))
    (O_eq : Own K C "__eq__" gQ) (G_eq : FnOk P w K mg base CX0 1 gQ fdQ ["self", "other"] (spEqG K C)) (b_eq : Binds K fdQ ["self", "other"] [])
    (d_L_cell : Def P w K mg base "_law_cell" 1 ["_law_script", "_law_k"] (spCellA K)) (d_L_pool : Def P w K mg base "_law_pool" 2 ["_law_cell_here", "_law_number"] spPool)
    (d_L_part : Def P w K mg base "_law_part" 1 ["_law_pool_here", "_law_spot", "_law_under", "_law_size"] (spPart K)) (d_L_goods : Def P w K mg base "_law_goods" 3 ["_law_pool_here", "_law_spot", "_law_number", "_law_calm"] (spGoods K))
    (d_L_beside : Def P w K mg base "_law_beside" 3 ["_law_pool_here", "_law_spot"] (spBeside K)) (d_L_mean : Def P w K mg base "_law_mean" 2 ["_law_goods_here", "_law_beside_here", "_law_picked"] (spMeanL K))
    (d_L_same : Def P w K mg base "_law_same" 5 ["_law_got", "_law_wanted"] (spSame 3)) : FnOk P w K mg base CX0 6 f fd ["_law_script"] (spLaw K) := by
  refine F.ok sc_law (fun vs H Q E h => ?_) (fun cdv A outer s H vs Q E hr h => ?_)
  · obtain ⟨a, ns, rfl, _⟩ := h
    rfl
  · obtain ⟨a, ns, rfl, hS, hlen, q⟩ := h
    refine ⟨_, (pss_cons (ps_set (i := 1) sc_law.nd rfl (.inr rfl) (pe_callD d_L_pool (hr.mono (by decide)) (by rfl) (pa_cons (pe_callD d_L_cell (hr.mono (by decide)) (by rfl) (pa_cons (pv 0) (pa_cons pe_int pa_nil))) (pa_cons pe_int pa_nil))))
  (pss_cons (ps_set (i := 2) sc_law.nd rfl (.inl rfl) (pe_callD d_L_part (hr.mono (by decide)) (by rfl) (pa_cons (pv 1) (pa_cons pe_int (pa_cons pe_int (pa_cons pe_int pa_nil))))))
  (pss_cons (ps_set (i := 3) sc_law.nd rfl (.inl rfl) (pe_callD d_L_goods (hr.mono (by decide)) (by rfl) (pa_cons (pe_callD d_L_pool (hr.mono (by decide)) (by rfl) (pa_cons (pe_callD d_L_cell (hr.mono (by decide)) (by rfl) (pa_cons (pv 0) (pa_cons pe_int pa_nil))) (pa_cons pe_int pa_nil))) (pa_cons pe_int (pa_cons (pv 2) (pa_cons (pe_cmpR op_eq (pe_callD d_L_part (hr.mono (by decide)) (by rfl) (pa_cons (pv 1) (pa_cons pe_int (pa_cons pe_int (pa_cons pe_int pa_nil))))) pe_int (nomark _)) pa_nil))))))
  (pss_cons (ps_set (i := 4) sc_law.nd rfl (.inl rfl) (pe_callD d_L_beside (hr.mono (by decide)) (by rfl) (pa_cons (pv 1) (pa_cons pe_int pa_nil))))
  (pss_cons (ps_set (i := 5) sc_law.nd rfl (.inl rfl) (pe_callTy call_tuple_of (by rfl) m_tuple (by decide +kernel) (pa_cons (pe_lc (own := [("_law_k", 12)]) (by rfl) sc_law.nd (pi_range1 (by rfl) m_range (pa_cons (pv 2) pa_nil)) (blkOk_by (N := ["_law_script", "_law_rest", "_law_number", "_law_goods_here", "_law_beside_here", "_law_picked", "_law_wanted", "_law_given", "_law_crowd", "_law_turned", "_law_some", "_law_others", "_law_k", "_law_other"]) (sc := defScope s_law) (by decide +kernel)) (fun _ _ _ _ _ => (pg_name (i := 12) sc_law.nd rfl (.inl rfl))) (fun _ _ _ _ _ => (pts_one (pt_cmpR op_eq (pe_callD d_L_part (hr.mono (by decide)) (by rfl) (pa_cons (pv 1) (pa_cons (pe_op op_add pe_int (pv 12)) (pa_cons pe_int (pa_cons pe_int pa_nil))))) pe_int (nomark _)))) (fun _ _ _ _ _ => (pv 12))) pa_nil)))
  (pss_cons (ps_set (i := 6) sc_law.nd rfl (.inl rfl) (pe_callD d_L_mean (hr.mono (by decide)) (by rfl) (pa_cons (pv 3) (pa_cons (pv 4) (pa_cons (pv 5) pa_nil)))))
  (pss_cons (ps_set (i := 7) sc_law.nd rfl (.inl rfl) (pe_callTy call_list_of (by rfl) m_list (by decide +kernel) (pa_cons (pv 3) pa_nil)))
  (pss_cons (ps_set (i := 8) sc_law.nd rfl (.inr rfl) (pe_make M_Guests G_Guests (hr.mono (by decide)) (by rfl) mg_Guests b_Guests .nil pass0 (pa_cons (pv 7) (pa_cons (pv 4) pa_nil))))
  (pss_cons (ps_if (PW.pt (pw_or (pt_not (pt_val (pe_callD d_L_same (hr.mono (by decide)) (by rfl) (pa_cons (pe_meth (pv 8) T.cl Me_mean G_mean (hr.mono (by decide)) b_mean .nil pass0 (pa_cons (pv 5) pa_nil)) (pa_cons (pv 6) pa_nil))))) (pw_or1 (pt_not (pt_val (pe_callD d_L_same (hr.mono (by decide)) (by rfl) (pa_cons (pv 7) (pa_cons (pv 3) pa_nil)))))))) (pss_one (ps_ret pe_bl)) pss_nil)
  (pss_cons (ps_expr (pe_bm PySem.F.plainAttrs_list PySem.F.slot_list_insert PySem.F.type_list_insert mt_insert (pv 7) (pa_cons pe_int (pa_cons (pe_tup (pa_cons pe_int (pa_cons pe_int pa_nil))) pa_nil))))
  (pss_cons (ps_expr (pe_bm0 PySem.F.plainAttrs_list PySem.F.slot_list_pop PySem.F.type_list_pop mt_pop (pv 7)))
  (pss_cons (ps_set (i := 9) sc_law.nd rfl (.inl rfl) (pe_makeK0 M_Guests G_Guests (hr.mono (by decide)) (by rfl) mg_Guests kb_Guests pass0 (pk_cons (pe_callTy call_tuple_of (by rfl) m_tuple (by decide +kernel) (pa_cons (pe_revL (pv 3)) pa_nil)) (pk_cons (pv 4) pk_nil))))
  (pss_cons (ps_cut (ps_for PassesOwn.never rfl (pi_list (pe_op op_cat (pe_lst (pa_cons (pe_tup pa_nil) (pa_cons (pe_tupRg (by rfl) (by rfl) m_tuple (prg_1 (by rfl) m_range (pv 2))) pa_nil))) (pe_lc (own := [("_law_k", 12)]) (by rfl) sc_law.nd (pi_range1 (by rfl) m_range (pa_cons (pv 2) pa_nil)) (blkOk_by (N := ["_law_script", "_law_rest", "_law_number", "_law_goods_here", "_law_beside_here", "_law_picked", "_law_wanted", "_law_given", "_law_crowd", "_law_turned", "_law_some", "_law_others", "_law_k", "_law_other"]) (sc := defScope s_law) (by decide +kernel)) (fun _ _ _ _ _ => (pg_name (i := 12) sc_law.nd rfl (.inl rfl))) (fun _ _ _ _ _ => pts_nil) (fun _ _ _ _ _ => (pe_tup (pa_cons (pv 12) pa_nil)))))) (pg_name (i := 10) sc_law.nd rfl (.inl rfl))
    (pss_cons (ps_if (pt_not (pt_val (pe_callD d_L_same (hr.mono (by decide)) (by rfl) (pa_cons (pe_meth (pv 8) T.cl Me_mean G_mean (hr.mono (by decide)) b_mean .nil pass0 (pa_cons (pv 10) pa_nil)) (pa_cons (pe_callD d_L_mean (hr.mono (by decide)) (by rfl) (pa_cons (pv 3) (pa_cons (pv 4) (pa_cons (pv 10) pa_nil)))) pa_nil))))) (pss_one (ps_ret pe_bl)) pss_nil)
  (pss_one (ps_if (pt_not (pt_val (pe_callD d_L_same (hr.mono (by decide)) (by rfl) (pa_cons (pe_methK0 (pv 9) T.cl Me_mean G_mean (hr.mono (by decide)) kb_mean pass0 (pk_cons (pv 10) pk_nil)) (pa_cons (pe_callD d_L_mean (hr.mono (by decide)) (by rfl) (pa_cons (pe_revL (pv 3)) (pa_cons (pv 4) (pa_cons (pv 10) pa_nil)))) pa_nil))))) (pss_one (ps_ret pe_bl)) pss_nil)))))
  (pss_cons (ps_if (pt_not (pt_val (pe_callD d_L_same (hr.mono (by decide)) (by rfl) (pa_cons (pe_tup (pa_cons (pe_fld (pv 8) rfl) (pa_cons (pe_fld (pv 8) rfl) pa_nil))) (pa_cons (pe_tup (pa_cons (pe_callTy call_tuple_of (by rfl) m_tuple (by decide +kernel) (pa_cons (pv 3) pa_nil)) (pa_cons (pv 4) pa_nil))) pa_nil))))) (pss_one (ps_ret pe_bl)) pss_nil)
  (pss_cons (ps_if (pt_not (pt_val (pe_callD d_L_same (hr.mono (by decide)) (by rfl) (pa_cons (pe_tup (pa_cons (pe_cmpR (op_ownEqA rfl (fun _ _ => rfl) O_eq G_eq (hr.mono (by decide)) b_eq pass0) (pv 8) (pe_make M_Guests G_Guests (hr.mono (by decide)) (by rfl) mg_Guests b_Guests .nil pass0 (pa_cons (pe_callTy call_list_of (by rfl) m_list (by decide +kernel) (pa_cons (pv 3) pa_nil)) (pa_cons (pv 4) pa_nil))) (nomark _)) (pa_cons (pe_cmpR (op_ownEqA rfl (fun _ _ => rfl) O_eq G_eq (hr.mono (by decide)) b_eq pass0) (pv 8) (pv 9) (nomark _)) pa_nil))) (pa_cons (pe_tup (pa_cons pe_bl (pa_cons (pe_cmpR (op_eqD hr.units) (pv 3) (pe_revL (pv 3)) (nomark _)) pa_nil))) pa_nil))))) (pss_one (ps_ret pe_bl)) pss_nil)
  (pss_cons (ps_set (i := 11) sc_law.nd rfl (.inl rfl) (pe_lst (pa_cons (pe_make M_Guests G_Guests (hr.mono (by decide)) (by rfl) mg_Guests b_Guests .nil pass0 (pa_cons (pe_callTy call_list_of (by rfl) m_list (by decide +kernel) (pa_cons (pv 3) pa_nil)) (pa_cons (pe_op op_add (pe_op op_sub (pv 4) pe_int) (pe_op op_mul pe_int (pe_callTy call_int1 (by rfl) m_int (by decide +kernel) (pa_cons (pe_cmpR op_eq (pv 4) pe_int (nomark _)) pa_nil)))) pa_nil))) (pa_cons pe_non (pa_cons (pe_tup (pa_cons (pe_callTy call_tuple_of (by rfl) m_tuple (by decide +kernel) (pa_cons (pv 3) pa_nil)) (pa_cons (pv 4) pa_nil))) (pa_cons pe_str pa_nil))))))
  (pss_cons (ps_cut (ps_if (pt_cmpR op_gt (pv 2) pe_int (nomark _)) (pss_one (ps_expr (pe_bm PySem.F.plainAttrs_list PySem.F.slot_list_append PySem.F.type_list_append mt_append (pv 11) (pa_cons (pe_make M_Guests G_Guests (hr.mono (by decide)) (by rfl) mg_Guests b_Guests .nil pass0 (pa_cons (pe_slice sl_list (pv 3) (po_some pe_int) po_none) (pa_cons (pv 4) pa_nil))) pa_nil)))) pss_nil))
  (pss_cons (ps_cut (ps_if (pt_cmpR op_lt (pv 2) pe_int (nomark _)) (pss_one (ps_expr (pe_bm PySem.F.plainAttrs_list PySem.F.slot_list_append PySem.F.type_list_append mt_append (pv 11) (pa_cons (pe_make M_Guests G_Guests (hr.mono (by decide)) (by rfl) mg_Guests b_Guests .nil pass0 (pa_cons (pe_op op_cat (pv 3) (pe_lst (pa_cons (pe_tup (pa_cons pe_int (pa_cons pe_int pa_nil))) pa_nil))) (pa_cons (pv 4) pa_nil))) pa_nil)))) pss_nil))
  (pss_cons (ps_if (pt_cmpR (op_neD hr.units) (pe_lc (own := [("_law_other", 13)]) (by rfl) sc_law.nd (pi_list (pv 11)) (blkOk_by (N := ["_law_script", "_law_rest", "_law_number", "_law_goods_here", "_law_beside_here", "_law_picked", "_law_wanted", "_law_given", "_law_crowd", "_law_turned", "_law_some", "_law_others", "_law_k", "_law_other"]) (sc := defScope s_law) (by decide +kernel)) (fun _ _ _ _ _ => (pg_name (i := 13) sc_law.nd rfl (.inl rfl))) (fun _ _ _ _ _ => (pts_one (pt_not (pt_val (pe_callD d_L_same (hr.mono (by decide)) (by rfl) (pa_cons (pe_cmpR (op_ownEqA rfl (fun _ _ => rfl) O_eq G_eq (hr.mono (by decide)) b_eq pass0) (pv 8) (pv 13) (nomark _)) (pa_cons pe_bl pa_nil))))))) (fun _ _ _ _ _ => (pv 13))) (pe_lst pa_nil) (nomark _)) (pss_one (ps_ret pe_bl)) pss_nil)
  (pss_one (ps_ret (pe_callD d_L_same (hr.mono (by decide)) (by rfl) (pa_cons (pe_meth (pv 8) T.cl Me_mean G_mean (hr.mono (by decide)) b_mean .nil pass0 (pa_cons (pv 5) pa_nil)) (pa_cons (pv 6) pa_nil)))))))))))))))))))))))), ?_⟩
    refine ⟨_, rfl, a, ns, 1, rfl, hS, by decide, by decide, by omega, fun c1 => ⟨c1, 11, rfl, by decide, by decide, fun p1 ns1 np1 l1 o1 => ?_⟩⟩
    have s1 : Same H (upd H p1 (.lst (ns1.map V.int))) := same_upd np1
    have u0 := part_lo (ns := ns1) (s := 0) (u := 1) (z := 9) (by decide)
    have u1 := part_hi (ns := ns1) (s := 0) (u := 1) (z := 9) (by decide)
    refine ⟨_, rfl, p1, ns1, 0, 1, 9, rfl, lstAt upd_same, by decide, by omega, by decide, by decide, by decide, ?_⟩
    generalize partOf ns1 0 1 9 = nn at u0 u1 ⊢
    -- the goods
    refine ⟨_, rfl, a, ns, 0, rfl, s1.seq hS, by decide, by decide, by omega, fun c2 => ⟨c2, 32, rfl, by decide, by decide, fun p2 ns2 np2 l2 o2 => ?_⟩⟩
    have s2 := s1.trans (same_upd (o := .lst (ns2.map V.int)) np2)
    have e12 := (same_upd (o := .lst (ns2.map V.int)) np2) _ _ (upd_same (H := H) (a := p1) (o := .lst (ns1.map V.int)))
    refine ⟨_, rfl, _, rfl, p1, ns1, 0, 9, 2, rfl, lstAt e12, by decide, by omega, by decide, by decide, by decide, rfl, p2, ns2, 0, nn, _, rfl, lstAt upd_same, by decide, by omega, by omega, by omega, fun H3 g ts os ng s3 eg hT ok ol => ?_⟩
    have e13 := s3 _ _ e12
    have t3 := s2.trans s3
    generalize (upd (upd H p1 (.lst (ns1.map V.int))) p2 (.lst (ns2.map V.int)) : Hp) = H2 at *
    have l8 : os.length ≤ 8 := by omega
    obtain rfl : nn = ((os.length : Nat) : Int) := ol.symm
    have tl : (ts.map V.ref).length = os.length := by rw [List.length_map, hT.1]
    -- beside
    refine ⟨_, rfl, p1, ns1, 1, rfl, lstAt e13, by decide, by omega, fun b b0 b1 => ?_⟩
    -- the lot
    refine ⟨_, rfl, _, rfl, by omega, by omega, fun D nD => ?_⟩
    refine lc_range (fun i H' => H' = upd H3 D (.lst (((List.range i).filter fun (k : Nat) => decide (V.int (partOf ns1 (3 + (0 + (k : Int))) 1 2) = V.int 1)).map kI))) rfl (fun i H' hi hq => ?_) (fun H' hq => ?_)
    · subst hq
      rw [Int.toNat_natCast] at hi
      have hz : (((List.range i).filter fun (k : Nat) => decide (V.int (partOf ns1 (3 + (0 + (k : Int))) 1 2) = V.int 1)).map kI).length < sizeLine := by
        rw [List.length_map]
        have := List.length_filter_le (fun (k : Nat) => decide (V.int (partOf ns1 (3 + (0 + (k : Int))) 1 2) = V.int 1)) (List.range i)
        rw [List.length_range] at this
        exact small1000 (by omega)
      refine ⟨rfl, _, rfl, _, rfl, _, _, rfl, rfl, p1, ns1, 3 + (0 + (i : Int)), 1, 2, rfl, lstAt ((same_upd nD) _ _ e13), by omega, by omega, by decide, by decide, by decide, rfl, _, rfl, ite2 (fun e => ?_) (fun e => ?_)⟩
      · refine ⟨_, rfl, _, upd_same, hz, ?_⟩
        rw [upd_twice, List.range_succ, List.filter_append, List.map_append, List.filter_cons, if_pos e, Int.zero_add]
        rfl
      · show upd _ _ _ = upd _ _ _
        rw [List.range_succ, List.filter_append, List.filter_cons, if_neg e, List.filter_nil, List.append_nil]
    subst hq
    rw [Int.toNat_natCast]
    have kok := KsOk.of_filter (n := os.length) fun (k : Nat) => decide (V.int (partOf ns1 (3 + (0 + (k : Int))) 1 2) = V.int 1)
    generalize (List.range os.length).filter (fun (k : Nat) => decide (V.int (partOf ns1 (3 + (0 + (k : Int))) 1 2) = V.int 1)) = ks at kok ⊢
    have s4' := same_upd (o := .lst (ks.map kI)) nD
    refine ⟨D, _, rfl, .inl ⟨lstAt upd_same, fun l nl => ?_⟩⟩
    have s4 := s4'.trans (same_upd (o := .tup (ks.map kI)) nl)
    have el4 : (upd (upd H3 D (.lst (ks.map kI))) l (.tup (ks.map kI))) l = some (.tup (ks.map kI)) := upd_same
    generalize (upd (upd H3 D (.lst (ks.map kI))) l (.tup (ks.map kI)) : Hp) = H4 at s4 el4 ⊢
    have eg4 := s4 _ _ eg
    have hT4 := hT.same s4
    -- wanted
    refine ⟨_, rfl, _, rfl, _, rfl, g, l, ts, os, b, ks, rfl, lstAt eg4, hT4, ok, l8, b0, b1, tupAt el4, kok, fun H5 w5 s5 ew => ?_⟩
    have eg5 := s5 _ _ eg4
    have hT5 := hT4.same s5
    have el5 := s5 _ _ el4
    -- given, and the guests
    refine ⟨_, rfl, g, _, rfl, .inl (lstAt eg5), fun G nG => ?_⟩
    have sG := same_upd (o := .lst (ts.map V.ref)) nG
    refine ⟨_, rfl, _, rfl, ?_⟩
    intro c d n1 n2 ne
    refine make_goG n1 n2 ne (.inl (lstAt upd_same)) (hT5.same sG) ok l8 b0 b1 fun H7 k7 s7 => ?_
    have eG7 := s7 _ _ (upd_same (H := H5) (a := G) (o := .lst (ts.map V.ref)))
    have t57 := sG.trans s7
    obtain ⟨dx, aa, us, hc, hcA, hcT⟩ := id k7
    refine ⟨_, rfl, c, dx, _, rfl, hc, fldsG_mean _ _, _, rfl, c, l, os, b, ks, rfl, k7, ok, l8, b0, b1, tupAt (t57 _ _ el5), kok, fun H8 w8 s8 ew8 => ?_⟩
    have t58 := t57.trans s8
    refine ⟨_, rfl, _, _, rfl, eq_mean ew8 (t58 _ _ ew), _, rfl, iteF ?_⟩
    have eG8 := s8 _ _ eG7
    refine ⟨_, rfl, _, rfl, _, _, rfl, eq_offsL eG8 (t58 _ _ eg5) (hT5.same t58) (hT5.same t58) l8 1, _, rfl, iteF ?_⟩
    -- what was passed changes
    refine ⟨_, rfl, .inl ⟨rfl, _, lstAt eG8⟩, (show (2 : Nat) ≤ sizeLine by decide), fun t nt => ?_⟩
    have tG : t ≠ G := (ne_of_none eG8 nt).symm
    have st := same_upd (o := .tup [V.int 7, .int 3]) nt
    have eG9 := st _ _ eG8
    refine ⟨G, _, 0, .ref t, rfl, rfl, eG9, (by rw [tl]; exact small1000 (by omega)), by decide, by decide, ?_⟩
    refine ⟨_, rfl, .inl ⟨rfl, _, lstAt upd_same⟩, G, _, _, rfl, rfl, upd_same, (List.getElem?_eq_getElem (show _ - 1 < _ by simp)), ?_⟩
    have k9 := ((k7.same s8).same st).wrote (o := .lst (List.take (Int.toNat 0) (ts.map V.ref) ++ [V.ref t] ++ List.drop (Int.toNat 0) (ts.map V.ref))) eG9
    have k10 := k9.wrote (o := .lst (List.take (Int.toNat 0) (ts.map V.ref) ++ [V.ref t] ++ List.drop (Int.toNat 0) (ts.map V.ref)).dropLast) upd_same
    have s510 : Same H5 (upd (upd (upd H8 t (.tup [V.int 7, .int 3])) G (.lst (List.take (Int.toNat 0) (ts.map V.ref) ++ [V.ref t] ++ List.drop (Int.toNat 0) (ts.map V.ref)))) G (.lst (List.take (Int.toNat 0) (ts.map V.ref) ++ [V.ref t] ++ List.drop (Int.toNat 0) (ts.map V.ref)).dropLast)) := same_at (same_at (t58.trans st) nG) nG
    generalize upd (upd (upd H8 t (.tup [V.int 7, .int 3])) G (.lst (List.take (Int.toNat 0) (ts.map V.ref) ++ [V.ref t] ++ List.drop (Int.toNat 0) (ts.map V.ref)))) G (.lst (List.take (Int.toNat 0) (ts.map V.ref) ++ [V.ref t] ++ List.drop (Int.toNat 0) (ts.map V.ref)).dropLast) = H10 at k10 s510 ⊢
    clear k9
    -- the other way about
    refine ⟨_, rfl, g, _, rfl, lstAt (s510 _ _ eg5), fun r nr => ?_⟩
    rw [← List.map_reverse]
    have sr := same_upd (o := .lst (ts.reverse.map V.ref)) nr
    refine ⟨r, _, rfl, .inl ⟨lstAt upd_same, fun r2 nr2 => ⟨_, rfl, rfl, rfl, ?_⟩⟩⟩
    have sr2 := sr.trans (same_upd (o := .tup (ts.reverse.map V.ref)) nr2)
    intro u d2 n3 n4 ne2
    refine make_goG n3 n4 ne2 (.inr (tupAt upd_same)) (((hT5.same s510).same sr2).rev) (fun x hx => ok x (List.mem_reverse.mp hx)) (by rw [List.length_reverse]; exact l8) b0 b1 fun H11 k11 s11 => ?_
    have kc11 := k10.same (sr2.trans s11)
    have s511 := s510.trans (sr2.trans s11)
    have eg11 := s511 _ _ eg5
    have hT11 := hT5.same s511
    have el11 := s511 _ _ el5
    have ew11 := s511 _ _ ew
    clear kc11
    have kc11 := k10.same (sr2.trans s11)
    generalize eσ : (none : Option V) = yN
    -- the lots
    refine ⟨fun σ H' => Same H11 H' ∧ ∃ y, σ = [some (.ref a), some (.ref p1), some (.int ((os.length : Nat) : Int)), some (.ref g), some (.int b), some (.ref l), some (.ref w5), some (.ref G), some (.ref c), some (.ref u), y, none, none, none], ?_, ?_⟩
    · subst eσ
      refine ⟨Nat.zero_le _, fun q1 nq1 => ?_⟩
      refine ⟨_, rfl, _, rfl, RgOk.of_le (by decide) (by omega) (by decide) (by omega), fun q2 nq2 => ?_⟩
      refine ⟨(show (2 : Nat) ≤ sizeLine by decide), fun L nL => ?_⟩
      rw [rgV_k] at nL ⊢
      have sq1 := same_upd (o := .tup []) nq1
      have sq2 := sq1.trans (same_upd (o := .tup ((List.range os.length).map kI)) nq2)
      have sL' := same_upd (o := .lst [V.ref q1, .ref q2]) nL
      have sL := sq2.trans sL'
      have eq1 := sL' _ _ ((same_upd (o := .tup ((List.range os.length).map kI)) nq2) _ _ (upd_same (H := H11) (a := q1) (o := .tup [])))
      have eq2 := sL' _ _ (upd_same (H := upd H11 q1 (.tup [])) (a := q2) (o := .tup ((List.range os.length).map kI)))
      have eL : (upd (upd (upd H11 q1 (.tup [])) q2 (.tup ((List.range os.length).map kI))) L (.lst [V.ref q1, .ref q2])) L = some (.lst [V.ref q1, .ref q2]) := upd_same
      generalize upd (upd (upd H11 q1 (.tup [])) q2 (.tup ((List.range os.length).map kI))) L (.lst [V.ref q1, .ref q2]) = H12 at sL eq1 eq2 eL ⊢
      refine ⟨_, rfl, _, rfl, by omega, by omega, fun D2 nD2 => ?_⟩
      refine lc_range (fun i H' => ∃ es : List Addr, Same H12 H' ∧ H' D2 = some (.lst (es.map V.ref)) ∧ es.length = i ∧ ∀ e ∈ es, ∃ k, k < os.length ∧ H' e = some (.tup [kI k])) ⟨[], same_upd nD2, upd_same, rfl, fun _ h => nomatch h⟩ (fun i H' hi hq => ?_) (fun H' hq => ?_)
      · obtain ⟨es, se, eD, le, he⟩ := hq
        rw [Int.toNat_natCast] at hi
        refine ⟨rfl, yesT ⟨_, rfl, (show (1 : Nat) ≤ sizeLine by decide), fun e ne => ?_⟩⟩
        have eD' : D2 ≠ e := ne_of_none eD ne
        refine ⟨_, by rw [upd_ne eD']; exact eD, by rw [List.length_map, le]; exact small1000 (by omega), es ++ [e], same_at (se.trans (same_upd ne)) nD2, by rw [List.map_append]; exact upd_same, by rw [List.length_append, le]; rfl, fun z hz => ?_⟩
        rcases List.mem_append.mp hz with hz | hz
        · obtain ⟨k, hk, ek⟩ := he z hz
          refine ⟨k, hk, ?_⟩
          rw [upd_ne (ne_of ek eD (by intro z; cases z)), upd_ne (ne_of_none ek ne)]
          exact ek
        · rw [List.mem_singleton.mp hz]
          refine ⟨i, hi, ?_⟩
          rw [upd_ne eD'.symm, upd_same, Int.zero_add]
          rfl
      obtain ⟨es, se, eD, le, he⟩ := hq
      rw [Int.toNat_natCast] at le
      refine ⟨L, D2, _, _, rfl, rfl, se _ _ eL, eD, by rw [List.length_map]; exact Nat.le_of_lt (small1000 (show 2 + es.length ≤ 1000 by omega)), fun M nM => ?_⟩
      have sM' := same_upd (o := .lst ([V.ref q1, .ref q2] ++ es.map V.ref)) nM
      have sM := (sL.trans se).trans sM'
      have eM : (upd H' M (.lst ([V.ref q1, .ref q2] ++ es.map V.ref))) M = some (.lst ([V.ref q1, .ref q2] ++ es.map V.ref)) := upd_same
      have lots : ∀ x ∈ ([V.ref q1, .ref q2] ++ es.map V.ref), ∃ e ks, x = .ref e ∧ (upd H' M (.lst ([V.ref q1, .ref q2] ++ es.map V.ref))) e = some (.tup (ks.map kI)) ∧ KsOk os.length ks := by
        intro x hx
        rcases List.mem_append.mp hx with hx | hx
        · rcases List.mem_cons.mp hx with rfl | hx
          · exact ⟨q1, [], rfl, sM' _ _ (se _ _ eq1), .nil⟩
          · rw [List.mem_singleton.mp hx]
            exact ⟨q2, List.range os.length, rfl, sM' _ _ (se _ _ eq2), .all⟩
        · obtain ⟨e, hm, rfl⟩ := List.mem_map.mp hx
          obtain ⟨k, hk, ek⟩ := he e hm
          exact ⟨e, [k], rfl, sM' _ _ ek, .one hk⟩
      generalize upd H' M (.lst ([V.ref q1, .ref q2] ++ es.map V.ref)) = H13 at sM eM lots ⊢
      refine ⟨M, rfl, ⟨_, lstAt eM⟩, for_list (K := K) (a := M) (xs := [V.ref q1, .ref q2] ++ es.map V.ref) (fun i σ H' => Same H13 H' ∧ ∃ y, σ = [some (.ref a), some (.ref p1), some (.int ((os.length : Nat) : Int)), some (.ref g), some (.int b), some (.ref l), some (.ref w5), some (.ref G), some (.ref c), some (.ref u), y, none, none, none]) ⟨Same.refl _, _, rfl⟩ (fun i σ H' _ hp => lstAt (hp.1 _ _ eM)) ?_ ?_⟩
      · rintro i x σ H14 hx ⟨s14, y, rfl⟩
        obtain ⟨e, ks', rfl, ee, kk⟩ := lots x (List.mem_of_getElem? hx)
        have t14 := sM.trans s14
        obtain ⟨dx1, aa1, us1, hc1, _⟩ := kc11.same t14
        refine ⟨_, rfl, c, dx1, _, rfl, hc1, fldsG_mean _ _, _, rfl, c, e, os, b, ks', rfl, kc11.same t14, ok, l8, b0, b1, tupAt (s14 _ _ ee), kk, fun H15 w15 s15 ew15 => ?_⟩
        have t15 := t14.trans s15
        refine ⟨_, rfl, _, rfl, _, rfl, g, e, ts, os, b, ks', rfl, lstAt (t15 _ _ eg11), hT11.same t15, ok, l8, b0, b1, tupAt (s15 _ _ (s14 _ _ ee)), kk, fun H16 w16 s16 ew16 => ?_⟩
        refine ⟨_, _, rfl, eq_mean (s16 _ _ ew15) ew16, _, rfl, iteF ?_⟩
        have t16 := t15.trans s16
        have kr := k11.same t16
        obtain ⟨dx2, aa2, us2, hc2, _⟩ := id kr
        have okr : OffsOk os.reverse := fun x hx => ok x (List.mem_reverse.mp hx)
        have l8r : os.reverse.length ≤ 8 := by rw [List.length_reverse]; exact l8
        have kkr : KsOk os.reverse.length ks' := by rw [List.length_reverse]; exact kk
        have ee16 := s16 _ _ (s15 _ _ (s14 _ _ ee))
        refine ⟨_, rfl, u, dx2, _, rfl, hc2, fldsG_mean _ _, _, rfl, rfl, u, e, os.reverse, b, ks', rfl, kr, okr, l8r, b0, b1, tupAt ee16, kkr, fun H17 w17 s17 ew17 => ?_⟩
        have t17 := t16.trans s17
        refine ⟨_, rfl, g, _, rfl, lstAt (t17 _ _ eg11), fun v nv => ?_⟩
        rw [← List.map_reverse]
        have sv := same_upd (o := .lst (ts.reverse.map V.ref)) nv
        refine ⟨_, rfl, _, rfl, v, e, ts.reverse, os.reverse, b, ks', rfl, lstAt upd_same, ((hT11.same t17).same sv).rev, okr, l8r, b0, b1, tupAt (sv _ _ (s17 _ _ ee16)), kkr, fun H18 w18 s18 ew18 => ?_⟩
        refine ⟨_, _, rfl, eq_mean (s18 _ _ (sv _ _ ew17)) ew18, _, rfl, iteF ?_⟩
        exact ⟨((((s14.trans s15).trans s16).trans s17).trans sv).trans s18, _, rfl⟩
      · rintro σ H14 ⟨s14, y, rfl⟩
        exact ⟨sM.trans s14, _, rfl⟩
    subst eσ
    rintro σ H14 ⟨s14, y10, rfl⟩
    have t14 := s511.trans s14
    have eg14 := t14 _ _ eg5
    have hT14 := hT5.same t14
    have el14 := t14 _ _ el5
    have ew14 := t14 _ _ ew
    have k14 := kc11.same s14
    have ku14 := k11.same s14
    obtain ⟨dx1, aa1, us1, hc1, hcA1, hcT1⟩ := id k14
    -- the parts
    refine ⟨_, rfl, c, C, dx1, _, _, rfl, hc1, T.cl, T.nO, fldsG_offers _ _, _, rfl, c, C, dx1, _, _, rfl, hc1, T.cl, T.nA, fldsG_aside _ _, (show (2 : Nat) ≤ sizeLine by decide), fun v1 nv1 => ?_⟩
    have sv1 := same_upd (o := .tup [V.ref aa1, .int b]) nv1
    refine ⟨_, rfl, g, _, rfl, .inl ⟨lstAt (sv1 _ _ eg14), fun v2 nv2 => ?_⟩⟩
    have sv2' := same_upd (o := .tup (ts.map V.ref)) nv2
    refine ⟨_, rfl, (show (2 : Nat) ≤ sizeLine by decide), fun v3 nv3 => ?_⟩
    have sv3' := same_upd (o := .tup [V.ref v2, .int b]) nv3
    have sv3 := (sv1.trans sv2').trans sv3'
    refine ⟨_, _, rfl, eq_parts (sv3' _ _ (sv2' _ _ upd_same)) upd_same (sv3 _ _ hcA1) (sv3' _ _ upd_same) (hcT1.same sv3) (hT14.same sv3) l8, _, rfl, iteF ?_⟩
    have k15 := k14.same sv3
    have ku15 := ku14.same sv3
    have eg15 := sv3 _ _ eg14
    have hT15 := hT14.same sv3
    have el15 := sv3 _ _ el14
    have ew15 := sv3 _ _ ew14
    generalize upd (upd (upd H14 v1 (.tup [V.ref aa1, .int b])) v2 (.tup (ts.map V.ref))) v3 (.tup [V.ref v2, .int b]) = H15 at k15 ku15 eg15 hT15 el15 ew15 ⊢
    have isC : ∀ {H' : Hp} {p : Addr} {qs : List Off} {e : Int}, GuAt C H' p qs e → IsIn H' (.ref p) C := by
      rintro H' p qs e ⟨dx, a, ts, h1, _⟩
      exact ⟨p, dx, _, rfl, h1⟩
    -- equal, and turned about
    refine ⟨_, rfl, _, rfl, g, _, rfl, .inl (lstAt eg15), fun g3 ng3 => ?_⟩
    have sg3 := same_upd (o := .lst (ts.map V.ref)) ng3
    refine ⟨_, rfl, ?_⟩
    intro c3 d3 n5 n6 ne3
    refine make_goG n5 n6 ne3 (.inl (lstAt upd_same)) (hT15.same sg3) ok l8 b0 b1 fun H16 k16 s16 => ?_
    have t16 := sg3.trans s16
    refine ⟨isC (k15.same t16), .inl (isC k16), c, _, os, b, rfl, k15.same t16, .inl ⟨c3, os, b, rfl, k16, ?_⟩⟩
    refine ⟨_, rfl, _, rfl, isC (k15.same t16), .inl (isC (ku15.same t16)), c, _, os, b, rfl, k15.same t16, .inl ⟨u, os.reverse, b, rfl, ku15.same t16, ?_⟩⟩
    refine ⟨(show (2 : Nat) ≤ sizeLine by decide), fun v4 nv4 => ?_⟩
    have sv4 := same_upd (o := .tup [V.bl (decide (os = os) && decide (b = b)), .bl (decide (os = os.reverse) && decide (b = b))]) nv4
    have t17 := t16.trans sv4
    refine ⟨_, rfl, _, rfl, g, _, rfl, lstAt (t17 _ _ eg15), fun r3 nr3 => ?_⟩
    rw [← List.map_reverse]
    have sr3 := same_upd (o := .lst (ts.reverse.map V.ref)) nr3
    have t18 := t17.trans sr3
    refine ⟨.list _, .list _, .lst (lstAt (t18 _ _ eg15)) (offs_dp (hT15.same t18)), .lst (lstAt upd_same) (offs_dp (hT15.same t18).rev), shape_L, shape_L, ?_⟩
    rw [eqv_L]
    refine ⟨(show (2 : Nat) ≤ sizeLine by decide), fun v5 nv5 => ?_⟩
    have sv5 := same_upd (o := .tup [V.bl true, .bl (decide (os = os.reverse))]) nv5
    have t19 := t18.trans sv5
    have e4 : (upd (upd (upd H16 v4 (.tup [V.bl (decide (os = os) && decide (b = b)), .bl (decide (os = os.reverse) && decide (b = b))])) r3 (.lst (ts.reverse.map V.ref))) v5 (.tup [V.bl true, .bl (decide (os = os.reverse))])) v4 = some (.tup [V.bl true, .bl (decide (os = os.reverse))]) := by
      refine sv5 _ _ (sr3 _ _ ?_)
      rw [upd_same]
      simp
    refine ⟨_, _, rfl, eq_two e4 upd_same rfl rfl 2, _, rfl, iteF ?_⟩
    have k19 := k15.same t19
    have eg19 := t19 _ _ eg15
    have hT19 := hT15.same t19
    have el19 := t19 _ _ el15
    have ew19 := t19 _ _ ew15
    clear e4 sv5 t19
    generalize (upd (upd (upd H16 v4 (.tup [V.bl (decide (os = os) && decide (b = b)), .bl (decide (os = os.reverse) && decide (b = b))])) r3 (.lst (ts.reverse.map V.ref))) v5 (.tup [V.bl true, .bl (decide (os = os.reverse))])) = H19 at k19 eg19 hT19 el19 ew19 ⊢
    -- the others
    obtain ⟨ob0, ob1, ob2⟩ := otherB_ok b0 b1
    refine ⟨_, rfl, g, _, rfl, .inl (lstAt eg19), fun g4 ng4 => ?_⟩
    have sg4 := same_upd (o := .lst (ts.map V.ref)) ng4
    refine ⟨_, rfl, _, _, rfl, rfl, _, rfl, rfl, .inr ⟨_, rfl, _, _, rfl, rfl, .inl ⟨by decide, by decide⟩, _, _, rfl, rfl, ?_⟩⟩
    intro c4 d4 n7 n8 ne4
    refine make_goG (b := otherB b) n7 n8 ne4 (.inl (lstAt upd_same)) (hT19.same sg4) ok l8 ob0 ob1 fun H20 k20 s20 => ?_
    have t20 := sg4.trans s20
    refine ⟨_, rfl, g, _, rfl, .inl ⟨lstAt (t20 _ _ eg19), fun v6 nv6 => ?_⟩⟩
    have sv6 := same_upd (o := .tup (ts.map V.ref)) nv6
    refine ⟨_, rfl, (show (2 : Nat) ≤ sizeLine by decide), fun v7 nv7 => ?_⟩
    have sv7' := same_upd (o := .tup [V.ref v6, .int b]) nv7
    refine ⟨(show (4 : Nat) ≤ sizeLine by decide), fun O nO => ?_⟩
    have sO' := same_upd (o := .lst [V.ref c4, .non, .ref v7, .str (Str.ofString "guests")]) nO
    have tO := (sv6.trans sv7').trans sO'
    have oth0 : ∀ x ∈ [V.ref c4, .non, .ref v7, .str (Str.ofString "guests")], Oth C (upd (upd (upd H20 v6 (.tup (ts.map V.ref))) v7 (.tup [V.ref v6, .int b])) O (.lst [V.ref c4, .non, .ref v7, .str (Str.ofString "guests")])) os b x := by
      intro x hx
      rcases List.mem_cons.mp hx with rfl | hx
      · exact .gu (k20.same tO) fun z => ob2 z.2
      rcases List.mem_cons.mp hx with rfl | hx
      · exact .non
      rcases List.mem_cons.mp hx with rfl | hx
      · exact .tup (sO' _ _ upd_same)
      · rw [List.mem_singleton.mp hx]; exact .str _
    have eO := upd_same (H := upd (upd H20 v6 (.tup (ts.map V.ref))) v7 (.tup [V.ref v6, .int b])) (a := O) (o := .lst [V.ref c4, .non, .ref v7, .str (Str.ofString "guests")])
    have t21 := t20.trans tO
    have nO19 : H19 O = none := by
      cases z : H19 O with
      | none => rfl
      | some o => rw [(t20.trans (sv6.trans sv7')) _ _ z] at nO; cases nO
    generalize upd (upd (upd H20 v6 (.tup (ts.map V.ref))) v7 (.tup [V.ref v6, .int b])) O (.lst [V.ref c4, .non, .ref v7, .str (Str.ofString "guests")]) = H21 at tO oth0 eO t21 ⊢
    have fin : ∀ (H' : Hp) (xs : List V), Same H19 H' → H' O = some (.lst xs) → xs.length ≤ 5 → (∀ x ∈ xs, Oth C H' os b x) → ∀ (H2 : Hp) (p : Addr) (qs : List Off), Same H' H2 → GuAt C H2 p qs b → os ≠ qs →
        Same H19 (upd H2 O (.lst (xs ++ [.ref p]))) ∧ (∀ x ∈ xs ++ [V.ref p], Oth C (upd H2 O (.lst (xs ++ [.ref p]))) os b x) := by
      intro H' xs sx ex xl ox H2 p qs s2 gp nq
      refine ⟨same_at (sx.trans s2) nO19, fun x hx => ?_⟩
      rcases List.mem_append.mp hx with hx | hx
      · exact ((ox x hx).same s2).wrote (s2 _ _ ex)
      · rw [List.mem_singleton.mp hx]
        exact (Oth.gu gp fun z => nq z.1).wrote (s2 _ _ ex)
    refine ⟨fun σ H' => ∃ xs : List V, Same H19 H' ∧ H' O = some (.lst xs) ∧ xs.length ≤ 5 ∧ (∀ x ∈ xs, Oth C H' os b x) ∧ σ = [some (.ref a), some (.ref p1), some (.int ((os.length : Nat) : Int)), some (.ref g), some (.int b), some (.ref l), some (.ref w5), some (.ref G), some (.ref c), some (.ref u), y10, some (.ref O), none, none], ?_, ?_⟩
    · refine ⟨_, rfl, _, _, rfl, rfl, _, rfl, ite2 (fun e => ?_) (fun e => ?_)⟩
      · have e1 : (0 : Int) < ((os.length : Nat) : Int) := of_decide_eq_true e
        refine ⟨_, rfl, .inl ⟨rfl, _, lstAt eO⟩, _, rfl, _, rfl, g, _, rfl, lstAt (t21 _ _ eg19), fun g5 ng5 => ?_⟩
        have ecut : cutV (ts.map V.ref) (some 1) none = (ts.drop 1).map V.ref := by rw [List.map_drop]; exact cut_from_l _ 1
        rw [ecut]
        have sg5 := same_upd (o := .lst ((ts.drop 1).map V.ref)) ng5
        refine ⟨_, rfl, ?_⟩
        intro c5 d5 n9 n10 ne5
        refine make_goG n9 n10 ne5 (.inl (lstAt upd_same)) (((hT19.same t21).same sg5).drop1) (fun x hx => ok x (List.mem_of_mem_drop hx)) (by rw [List.length_drop]; omega) b0 b1 fun H22 k22 s22 => ?_
        have t22 := sg5.trans s22
        obtain ⟨f1, f2⟩ := fin H21 _ t21 eO (show (4 : Nat) ≤ 5 by decide) oth0 H22 c5 (os.drop 1) t22 k22 (fun z => by have := congrArg List.length z; rw [List.length_drop] at this; omega)
        exact ⟨_, _, _, rfl, rfl, t22 _ _ eO, (show (4 : Nat) < sizeLine by decide), _, f1, upd_same, (show (5 : Nat) ≤ 5 by decide), f2, rfl⟩
      · exact ⟨_, t21, eO, (show (4 : Nat) ≤ 5 by decide), oth0, rfl⟩
    rintro σ H23 ⟨xs, t23, e23, x5, o23, rfl⟩
    refine ⟨fun σ H' => ∃ xs : List V, Same H19 H' ∧ H' O = some (.lst xs) ∧ xs.length ≤ 6 ∧ (∀ x ∈ xs, Oth C H' os b x) ∧ σ = [some (.ref a), some (.ref p1), some (.int ((os.length : Nat) : Int)), some (.ref g), some (.int b), some (.ref l), some (.ref w5), some (.ref G), some (.ref c), some (.ref u), y10, some (.ref O), none, none], ?_, ?_⟩
    · refine ⟨_, rfl, _, _, rfl, rfl, _, rfl, ite2 (fun e => ?_) (fun e => ?_)⟩
      · have e1 : ((os.length : Nat) : Int) < 8 := of_decide_eq_true e
        refine ⟨_, rfl, .inl ⟨rfl, _, lstAt e23⟩, _, rfl, (show (2 : Nat) ≤ sizeLine by decide), fun v8 nv8 => ?_⟩
        have sv8 := same_upd (o := .tup [V.int 0, .int 1]) nv8
        refine ⟨(show (1 : Nat) ≤ sizeLine by decide), fun L8 nL8 => ?_⟩
        have sL8' := same_upd (o := .lst [V.ref v8]) nL8
        have sL8 := sv8.trans sL8'
        refine ⟨g, L8, _, _, rfl, rfl, sL8 _ _ (t23 _ _ eg19), upd_same, (by rw [tl]; exact Nat.le_of_lt (small1000 (show os.length + 1 ≤ 1000 by omega))), fun M8 nM8 => ?_⟩
        have sM8 := sL8.trans (same_upd (o := .lst (ts.map V.ref ++ [V.ref v8])) nM8)
        refine ⟨_, rfl, ?_⟩
        intro c6 d6 n11 n12 ne6
        have hT24 : OffsAt (upd (upd (upd H23 v8 (.tup [V.int 0, .int 1])) L8 (.lst [V.ref v8])) M8 (.lst (ts.map V.ref ++ [V.ref v8]))) (ts ++ [v8]) (os ++ [(0, 1)]) := OffsAt.snoc ((hT19.same t23).same sM8) ((same_upd nM8) _ _ (sL8' _ _ upd_same))
        refine make_goG (ts := ts ++ [v8]) n11 n12 ne6 (.inl (lstAt (by rw [List.map_append]; exact upd_same))) hT24 (fun x hx => ?_) (by rw [List.length_append]; show os.length + 1 ≤ 8; omega) b0 b1 fun H25 k25 s25 => ?_
        · rcases List.mem_append.mp hx with hx | hx
          · exact ok x hx
          · rw [List.mem_singleton.mp hx]; exact ⟨by decide, by decide, by decide, by decide⟩
        have t25 := sM8.trans s25
        obtain ⟨f1, f2⟩ := fin H23 _ t23 e23 x5 o23 H25 c6 (os ++ [(0, 1)]) t25 k25 (fun z => by have := congrArg List.length z; rw [List.length_append, List.length_singleton] at this; omega)
        exact ⟨_, _, _, rfl, rfl, t25 _ _ e23, small1000 (by omega), _, f1, upd_same, by rw [List.length_append, List.length_singleton]; omega, f2, rfl⟩
      · exact ⟨_, t23, e23, by omega, o23, rfl⟩
    rintro σ H26 ⟨xs, t26, e26, x6, o26, rfl⟩
    refine ⟨_, rfl, O, rfl, ⟨_, lstAt e26⟩, fun D9 nD9 => ?_⟩
    refine lc_list (K := K) (a := O) (xs := xs) (fun i H' => Same H26 H' ∧ H' D9 = some (.lst [])) ⟨same_upd nD9, upd_same⟩ (fun i H' _ hq => lstAt (hq.1 _ _ e26)) (fun i x H' hx hq => ?_) (fun H' hq => ?_)
    · obtain ⟨s27, eD9⟩ := hq
      have ox := (o26 x (List.mem_of_getElem? hx)).same s27
      have kc := (k19.same t26).same s27
      refine ⟨rfl, _, rfl, _, rfl, isC kc, ox.isIn TO, ox.eq TO kc ?_⟩
      exact ⟨_, _, rfl, .inl ⟨rfl, rfl⟩, _, rfl, iteF ⟨s27, eD9⟩⟩
    obtain ⟨s27, eD9⟩ := hq
    refine ⟨Nat.zero_le _, fun z nz => ?_⟩
    have sz := same_upd (o := .lst []) nz
    refine ⟨.list [], .list [], .lst (lstAt (sz _ _ eD9)) .nil, .lst (lstAt upd_same) .nil, rfl, rfl, _, rfl, ?_⟩
    rw [show PyData.eqv (.list []) (.list []) = true by simp [PyData.eqv, PyData.eqvAll]]
    refine iteF ?_
    have t28 := (t26.trans s27).trans sz
    have k28 := k19.same t28
    obtain ⟨dx8, aa8, us8, hc8, _⟩ := id k28
    refine ⟨_, rfl, c, dx8, _, rfl, hc8, fldsG_mean _ _, _, rfl, c, l, os, b, ks, rfl, k28, ok, l8, b0, b1, tupAt (t28 _ _ el19), kok, fun H29 w29 s29 ew29 => ?_⟩
    exact ⟨_, rfl, _, _, rfl, eq_mean ew29 (s29 _ _ (t28 _ _ ew19)), q _⟩
end
end TK

namespace TK
open PySem PySem.Spec PyProof.Rows L2
/-- a built-in type is not below an own class -/
theorem kit_off {K : PySem.W.Frag} {C : Addr} {T : String} (h1 : PySem.W.isClsIn K C = true) (h2 : PySem.W.typeIn K (.ref C) = some (.type "type")) (h3 : PySem.W.notFirst K C (.type T) = true) : PySem.W.kitOne K (.type T) (.ref C) = some false := by
  unfold PySem.W.notFirst at h3
  have e0 : ((Value.type T) == Value.ref C) = false := rfl
  rw [e0, Bool.false_or] at h3
  have h4 := eq_of_beq h3
  unfold PySem.W.kitOne PySem.W.kitCls
  rw [e0]
  unfold PySem.W.isClsIn at h1
  simp [h1, h2, h4]
/-- how the keywords of a def without defaults bind -/
theorem fun_kb {K : PySem.W.Frag} {x qual : Str} {st : Stmt} {f : Addr} {fd : FuncData} {ps : List Str} (F : Fun K x qual st f fd) (n : Nat) (ks : List Str)
    (h : ∀ (kV doc pm : Value) (an : Option Addr) (cdv ct : Value) (us ws : List Value), us.length = n → ws.length = ks.length → bindArgs (PySem.W.fnOf x qual (defArgs st) (defBody st) (defScope st) .none kV doc pm an cdv ct) ⟨us, ks.zip ws⟩ = pure (ps.zip (us ++ ws))) :
    KBn K fd ps n ks (fun us ws => us ++ ws) (fun vs zs => vs ++ zs) := by
  obtain ⟨oc, od, kV, doc, pm, an, cdv, ct, osl, rfl, lk, hcd⟩ := F.ex
  exact ⟨fun s us ws X l1 l2 => .of_eq (h _ _ _ _ _ _ us ws l1 l2), fun r1 r2 => r1.append r2⟩

theorem all_mk {l : PySem.W.OpenLaw} {w : World} {K : PySem.W.Frag} {h : Heap} {mg : Str → Option Value} {fa f0 f1 f2 f3 f4 f5 f6 f7 f8 f9 f10 f11 f12 f13 f14 f15 f16 : Addr} (X : K.In h) (G : h.Ns mainGlobals mg) (hfa : mg "law" = some (.ref fa))
    {C : Addr}
    {fI : Addr} {odI anI : Option Addr} {slI : Array (Option Value)} {ocI kVI dcI pmI cdI ctI : Value}
    {fM : Addr} {odM anM : Option Addr} {slM : Array (Option Value)} {ocM kVM dcM pmM cdM ctM : Value}
    {fQ : Addr} {odQ anQ : Option Addr} {slQ : Array (Option Value)} {ocQ kVQ dcQ pmQ cdQ ctQ : Value}
    {od0 an0 : Option Addr} {sl0 : Array (Option Value)} {oc0 kV0 dc0 pm0 cd0 ct0 : Value}
    (a0 : PySem.W.nsIn K mainGlobals "_wall" = some (some (.ref f0))) (l0 : K.lookup f0 = some ⟨oc0, od0, .func (PySem.W.fnOf "_wall" "_wall" (defArgs s_wall) (defBody s_wall) (defScope s_wall) .none kV0 dc0 pm0 an0 cd0 ct0), sl0⟩) (c0 : PySem.W.codeIn K cd0 "_wall" = true) (k0 : PySem.W.keepIn K (.ref f0) = true)
    {od1 an1 : Option Addr} {sl1 : Array (Option Value)} {oc1 kV1 dc1 pm1 cd1 ct1 : Value}
    (a1 : PySem.W.nsIn K mainGlobals "check_size" = some (some (.ref f1))) (l1 : K.lookup f1 = some ⟨oc1, od1, .func (PySem.W.fnOf "check_size" "check_size" (defArgs s_check_size) (defBody s_check_size) (defScope s_check_size) .none kV1 dc1 pm1 an1 cd1 ct1), sl1⟩) (c1 : PySem.W.codeIn K cd1 "check_size" = true) (k1 : PySem.W.keepIn K (.ref f1) = true)
    {od2 an2 : Option Addr} {sl2 : Array (Option Value)} {oc2 kV2 dc2 pm2 cd2 ct2 : Value}
    (a2 : PySem.W.nsIn K mainGlobals "check_range" = some (some (.ref f2))) (l2 : K.lookup f2 = some ⟨oc2, od2, .func (PySem.W.fnOf "check_range" "check_range" (defArgs s_check_range) (defBody s_check_range) (defScope s_check_range) .none kV2 dc2 pm2 an2 cd2 ct2), sl2⟩) (c2 : PySem.W.codeIn K cd2 "check_range" = true) (k2 : PySem.W.keepIn K (.ref f2) = true)
    {od3 an3 : Option Addr} {sl3 : Array (Option Value)} {oc3 kV3 dc3 pm3 cd3 ct3 : Value}
    (a3 : PySem.W.nsIn K mainGlobals "_check_offers" = some (some (.ref f3))) (l3 : K.lookup f3 = some ⟨oc3, od3, .func (PySem.W.fnOf "_check_offers" "_check_offers" (defArgs s_check_offers) (defBody s_check_offers) (defScope s_check_offers) .none kV3 dc3 pm3 an3 cd3 ct3), sl3⟩) (c3 : PySem.W.codeIn K cd3 "_check_offers" = true) (k3 : PySem.W.keepIn K (.ref f3) = true)
    {od4 an4 : Option Addr} {sl4 : Array (Option Value)} {oc4 kV4 dc4 pm4 cd4 ct4 : Value}
    (a4 : PySem.W.nsIn K mainGlobals "_law_cell" = some (some (.ref f4))) (l4 : K.lookup f4 = some ⟨oc4, od4, .func (PySem.W.fnOf "_law_cell" "_law_cell" (defArgs s_L_cell) (defBody s_L_cell) (defScope s_L_cell) .none kV4 dc4 pm4 an4 cd4 ct4), sl4⟩) (c4 : PySem.W.codeIn K cd4 "_law_cell" = true) (k4 : PySem.W.keepIn K (.ref f4) = true)
    {od5 an5 : Option Addr} {sl5 : Array (Option Value)} {oc5 kV5 dc5 pm5 cd5 ct5 : Value}
    (a5 : PySem.W.nsIn K mainGlobals "_law_mixed" = some (some (.ref f5))) (l5 : K.lookup f5 = some ⟨oc5, od5, .func (PySem.W.fnOf "_law_mixed" "_law_mixed" (defArgs s_L_mixed) (defBody s_L_mixed) (defScope s_L_mixed) .none kV5 dc5 pm5 an5 cd5 ct5), sl5⟩) (c5 : PySem.W.codeIn K cd5 "_law_mixed" = true) (k5 : PySem.W.keepIn K (.ref f5) = true)
    {od6 an6 : Option Addr} {sl6 : Array (Option Value)} {oc6 kV6 dc6 pm6 cd6 ct6 : Value}
    (a6 : PySem.W.nsIn K mainGlobals "_law_pool" = some (some (.ref f6))) (l6 : K.lookup f6 = some ⟨oc6, od6, .func (PySem.W.fnOf "_law_pool" "_law_pool" (defArgs s_L_pool) (defBody s_L_pool) (defScope s_L_pool) .none kV6 dc6 pm6 an6 cd6 ct6), sl6⟩) (c6 : PySem.W.codeIn K cd6 "_law_pool" = true) (k6 : PySem.W.keepIn K (.ref f6) = true)
    {od7 an7 : Option Addr} {sl7 : Array (Option Value)} {oc7 kV7 dc7 pm7 cd7 ct7 : Value}
    (a7 : PySem.W.nsIn K mainGlobals "_law_part" = some (some (.ref f7))) (l7 : K.lookup f7 = some ⟨oc7, od7, .func (PySem.W.fnOf "_law_part" "_law_part" (defArgs s_L_part) (defBody s_L_part) (defScope s_L_part) .none kV7 dc7 pm7 an7 cd7 ct7), sl7⟩) (c7 : PySem.W.codeIn K cd7 "_law_part" = true) (k7 : PySem.W.keepIn K (.ref f7) = true)
    {od8 an8 : Option Addr} {sl8 : Array (Option Value)} {oc8 kV8 dc8 pm8 cd8 ct8 : Value}
    (a8 : PySem.W.nsIn K mainGlobals "_law_far" = some (some (.ref f8))) (l8 : K.lookup f8 = some ⟨oc8, od8, .func (PySem.W.fnOf "_law_far" "_law_far" (defArgs s_L_far) (defBody s_L_far) (defScope s_L_far) .none kV8 dc8 pm8 an8 cd8 ct8), sl8⟩) (c8 : PySem.W.codeIn K cd8 "_law_far" = true) (k8 : PySem.W.keepIn K (.ref f8) = true)
    {od9 an9 : Option Addr} {sl9 : Array (Option Value)} {oc9 kV9 dc9 pm9 cd9 ct9 : Value}
    (a9 : PySem.W.nsIn K mainGlobals "_law_chosen" = some (some (.ref f9))) (l9 : K.lookup f9 = some ⟨oc9, od9, .func (PySem.W.fnOf "_law_chosen" "_law_chosen" (defArgs s_L_chosen) (defBody s_L_chosen) (defScope s_L_chosen) .none kV9 dc9 pm9 an9 cd9 ct9), sl9⟩) (c9 : PySem.W.codeIn K cd9 "_law_chosen" = true) (k9 : PySem.W.keepIn K (.ref f9) = true)
    {od10 an10 : Option Addr} {sl10 : Array (Option Value)} {oc10 kV10 dc10 pm10 cd10 ct10 : Value}
    (a10 : PySem.W.nsIn K mainGlobals "_law_goods" = some (some (.ref f10))) (l10 : K.lookup f10 = some ⟨oc10, od10, .func (PySem.W.fnOf "_law_goods" "_law_goods" (defArgs s_L_goods) (defBody s_L_goods) (defScope s_L_goods) .none kV10 dc10 pm10 an10 cd10 ct10), sl10⟩) (c10 : PySem.W.codeIn K cd10 "_law_goods" = true) (k10 : PySem.W.keepIn K (.ref f10) = true)
    {od11 an11 : Option Addr} {sl11 : Array (Option Value)} {oc11 kV11 dc11 pm11 cd11 ct11 : Value}
    (a11 : PySem.W.nsIn K mainGlobals "_law_beside" = some (some (.ref f11))) (l11 : K.lookup f11 = some ⟨oc11, od11, .func (PySem.W.fnOf "_law_beside" "_law_beside" (defArgs s_L_beside) (defBody s_L_beside) (defScope s_L_beside) .none kV11 dc11 pm11 an11 cd11 ct11), sl11⟩) (c11 : PySem.W.codeIn K cd11 "_law_beside" = true) (k11 : PySem.W.keepIn K (.ref f11) = true)
    {od12 an12 : Option Addr} {sl12 : Array (Option Value)} {oc12 kV12 dc12 pm12 cd12 ct12 : Value}
    (a12 : PySem.W.nsIn K mainGlobals "_law_lowest" = some (some (.ref f12))) (l12 : K.lookup f12 = some ⟨oc12, od12, .func (PySem.W.fnOf "_law_lowest" "_law_lowest" (defArgs s_L_lowest) (defBody s_L_lowest) (defScope s_L_lowest) .none kV12 dc12 pm12 an12 cd12 ct12), sl12⟩) (c12 : PySem.W.codeIn K cd12 "_law_lowest" = true) (k12 : PySem.W.keepIn K (.ref f12) = true)
    {od13 an13 : Option Addr} {sl13 : Array (Option Value)} {oc13 kV13 dc13 pm13 cd13 ct13 : Value}
    (a13 : PySem.W.nsIn K mainGlobals "_law_mean" = some (some (.ref f13))) (l13 : K.lookup f13 = some ⟨oc13, od13, .func (PySem.W.fnOf "_law_mean" "_law_mean" (defArgs s_L_mean) (defBody s_L_mean) (defScope s_L_mean) .none kV13 dc13 pm13 an13 cd13 ct13), sl13⟩) (c13 : PySem.W.codeIn K cd13 "_law_mean" = true) (k13 : PySem.W.keepIn K (.ref f13) = true)
    {od14 an14 : Option Addr} {sl14 : Array (Option Value)} {oc14 kV14 dc14 pm14 cd14 ct14 : Value}
    (a14 : PySem.W.nsIn K mainGlobals "_law_integer" = some (some (.ref f14))) (l14 : K.lookup f14 = some ⟨oc14, od14, .func (PySem.W.fnOf "_law_integer" "_law_integer" (defArgs s_L_integer) (defBody s_L_integer) (defScope s_L_integer) .none kV14 dc14 pm14 an14 cd14 ct14), sl14⟩) (c14 : PySem.W.codeIn K cd14 "_law_integer" = true) (k14 : PySem.W.keepIn K (.ref f14) = true)
    {od15 an15 : Option Addr} {sl15 : Array (Option Value)} {oc15 kV15 dc15 pm15 cd15 ct15 : Value}
    (a15 : PySem.W.nsIn K mainGlobals "_law_same" = some (some (.ref f15))) (l15 : K.lookup f15 = some ⟨oc15, od15, .func (PySem.W.fnOf "_law_same" "_law_same" (defArgs s_L_same) (defBody s_L_same) (defScope s_L_same) .none kV15 dc15 pm15 an15 cd15 ct15), sl15⟩) (c15 : PySem.W.codeIn K cd15 "_law_same" = true) (k15 : PySem.W.keepIn K (.ref f15) = true)
    {od16 an16 : Option Addr} {sl16 : Array (Option Value)} {oc16 kV16 dc16 pm16 cd16 ct16 : Value}
    (a16 : PySem.W.nsIn K mainGlobals "law" = some (some (.ref f16))) (l16 : K.lookup f16 = some ⟨oc16, od16, .func (PySem.W.fnOf "law" "law" (defArgs s_law) (defBody s_law) (defScope s_law) .none kV16 dc16 pm16 an16 cd16 ct16), sl16⟩) (c16 : PySem.W.codeIn K cd16 "law" = true) (k16 : PySem.W.keepIn K (.ref f16) = true)
    (z_len : PySem.W.nsIn K mainGlobals "len" = some none)
    (z_tuple : PySem.W.nsIn K mainGlobals "tuple" = some none)
    (z_list : PySem.W.nsIn K mainGlobals "list" = some none)
    (z_range : PySem.W.nsIn K mainGlobals "range" = some none)
    (z_abs : PySem.W.nsIn K mainGlobals "abs" = some none)
    (z_int : PySem.W.nsIn K mainGlobals "int" = some none)
    (z_isinstance : PySem.W.nsIn K mainGlobals "isinstance" = some none)
    (z_bool : PySem.W.nsIn K mainGlobals "bool" = some none)
    (z_str : PySem.W.nsIn K mainGlobals "str" = some none)
    (z_sum : PySem.W.nsIn K mainGlobals "sum" = some none)
    (aC : PySem.W.nsIn K mainGlobals "Guests" = some (some (.ref C))) (aG : PySem.W.nsIn K mainGlobals "gcd" = some (some (.builtin "math.gcd")))
    (aI : PySem.W.findIn K (.ref C) "__init__" = some (some (.ref fI))) (iI : PySem.W.isFn K (.ref fI) = true) (lI : K.lookup fI = some ⟨ocI, odI, .func (PySem.W.fnOf "__init__" "Guests.__init__" (defArgs s_Guests_init) (defBody s_Guests_init) (defScope s_Guests_init) .none kVI dcI pmI anI cdI ctI), slI⟩) (cI : PySem.W.codeIn K cdI "Guests.__init__" = true) (kI : PySem.W.keepIn K (.ref fI) = true)
    (aM : PySem.W.findIn K (.ref C) "mean" = some (some (.ref fM))) (iM : PySem.W.isFn K (.ref fM) = true) (lM : K.lookup fM = some ⟨ocM, odM, .func (PySem.W.fnOf "mean" "Guests.mean" (defArgs s_Guests_mean) (defBody s_Guests_mean) (defScope s_Guests_mean) .none kVM dcM pmM anM cdM ctM), slM⟩) (cM : PySem.W.codeIn K cdM "Guests.mean" = true) (kM : PySem.W.keepIn K (.ref fM) = true)
    (aQ : PySem.W.findIn K (.ref C) "__eq__" = some (some (.ref fQ))) (iQ : PySem.W.isFn K (.ref fQ) = true) (lQ : K.lookup fQ = some ⟨ocQ, odQ, .func (PySem.W.fnOf "__eq__" "Guests.__eq__" (defArgs s_Guests_eq) (defBody s_Guests_eq) (defScope s_Guests_eq) .none kVQ dcQ pmQ anQ cdQ ctQ), slQ⟩) (cQ : PySem.W.codeIn K cdQ "Guests.__eq__" = true) (kQ : PySem.W.keepIn K (.ref fQ) = true)
    (pg : PySem.W.plainGet K C Str.empty = true) (hd : PySem.W.hasDictIn K C = true) (po : PySem.W.plainOver K C = true) (sa : PySem.W.findIn K (.ref C) "__setattr__" = some (some (.builtin "object.__setattr__"))) (mk : PySem.W.makesIn K C = true) (kc : PySem.W.keepIn K (.ref C) = true)
    (nA : PySem.W.findIn K (.ref C) "offers" = some none) (nB : PySem.W.findIn K (.ref C) "aside" = some none)
    (hcl : PySem.W.findIn K (.ref C) "__class__" = some (some (.builtin "object.__class__"))) (hgt : PySem.W.specialIn K (.builtin "object.__class__") "__get__" = some (some (.builtin "getset_descriptor.__get__")))
    (htk : PySem.W.takesIn K (.builtin "object.__class__") = some true) (hmr : PySem.W.mroIn K C (.type "object") = some true)
    (nfN : PySem.W.notFirst K C (.type "NoneType") = true) (nfS : PySem.W.notFirst K C (.type "str") = true) (nfT : PySem.W.notFirst K C (.type "tuple") = true) (isC : PySem.W.isClsIn K C = true) (tyC : PySem.W.typeIn K (.ref C) = some (.type "type")) :
    ∃ fd : FuncData, (∀ (s : Shared) (v : Value), BindsTo s fd ⟨[v], []⟩ [("_law_script", v)]) ∧ ∀ base : Heap, K.In base → base.Ns mainGlobals mg → FnOk l.prog w K mg base CX0 6 fa fd ["_law_script"] (spLaw K) := by
  have e := hfa.symm.trans (PySem.W.mg_of X G a16)
  cases e
  have m_len := PySem.W.mg_none_of X G z_len
  have m_tuple := PySem.W.mg_none_of X G z_tuple
  have m_list := PySem.W.mg_none_of X G z_list
  have m_range := PySem.W.mg_none_of X G z_range
  have m_abs := PySem.W.mg_none_of X G z_abs
  have m_int := PySem.W.mg_none_of X G z_int
  have m_isinstance := PySem.W.mg_none_of X G z_isinstance
  have m_bool := PySem.W.mg_none_of X G z_bool
  have m_str := PySem.W.mg_none_of X G z_str
  have m_sum := PySem.W.mg_none_of X G z_sum
  have F0 := fun_mk (st := s_wall) l0 c0 k0
  have b0 := F0.binds (ps := ["k"]) fun _ _ _ _ _ _ us hl => match us, hl with | [_], _ => rfl
  have g0 := PySem.W.mg_of X G a0
  have F1 := fun_mk (st := s_check_size) l1 c1 k1
  have b1 := F1.binds (ps := ["size", "low", "high"]) fun _ _ _ _ _ _ us hl => match us, hl with | [_, _, _], _ => rfl
  have g1 := PySem.W.mg_of X G a1
  have F2 := fun_mk (st := s_check_range) l2 c2 k2
  have b2 := F2.binds (ps := ["number", "low", "high"]) fun _ _ _ _ _ _ us hl => match us, hl with | [_, _, _], _ => rfl
  have g2 := PySem.W.mg_of X G a2
  have F3 := fun_mk (st := s_check_offers) l3 c3 k3
  have b3 := F3.binds (ps := ["offers"]) fun _ _ _ _ _ _ us hl => match us, hl with | [_], _ => rfl
  have g3 := PySem.W.mg_of X G a3
  have F4 := fun_mk (st := s_L_cell) l4 c4 k4
  have b4 := F4.binds (ps := ["_law_script", "_law_k"]) fun _ _ _ _ _ _ us hl => match us, hl with | [_, _], _ => rfl
  have g4 := PySem.W.mg_of X G a4
  have F5 := fun_mk (st := s_L_mixed) l5 c5 k5
  have b5 := F5.binds (ps := ["_law_cell_here", "_law_k"]) fun _ _ _ _ _ _ us hl => match us, hl with | [_, _], _ => rfl
  have g5 := PySem.W.mg_of X G a5
  have F6 := fun_mk (st := s_L_pool) l6 c6 k6
  have b6 := F6.binds (ps := ["_law_cell_here", "_law_number"]) fun _ _ _ _ _ _ us hl => match us, hl with | [_, _], _ => rfl
  have g6 := PySem.W.mg_of X G a6
  have F7 := fun_mk (st := s_L_part) l7 c7 k7
  have b7 := F7.binds (ps := ["_law_pool_here", "_law_spot", "_law_under", "_law_size"]) fun _ _ _ _ _ _ us hl => match us, hl with | [_, _, _, _], _ => rfl
  have g7 := PySem.W.mg_of X G a7
  have F8 := fun_mk (st := s_L_far) l8 c8 k8
  have b8 := F8.binds (ps := ["_law_pool_here", "_law_spot", "_law_number"]) fun _ _ _ _ _ _ us hl => match us, hl with | [_, _, _], _ => rfl
  have g8 := PySem.W.mg_of X G a8
  have F9 := fun_mk (st := s_L_chosen) l9 c9 k9
  have b9 := F9.binds (ps := ["_law_pool_here", "_law_spot", "_law_under", "_law_small", "_law_crest", "_law_whole"]) fun _ _ _ _ _ _ us hl => match us, hl with | [_, _, _, _, _, _], _ => rfl
  have g9 := PySem.W.mg_of X G a9
  have F10 := fun_mk (st := s_L_goods) l10 c10 k10
  have b10 := F10.binds (ps := ["_law_pool_here", "_law_spot", "_law_number", "_law_calm"]) fun _ _ _ _ _ _ us hl => match us, hl with | [_, _, _, _], _ => rfl
  have g10 := PySem.W.mg_of X G a10
  have F11 := fun_mk (st := s_L_beside) l11 c11 k11
  have b11 := F11.binds (ps := ["_law_pool_here", "_law_spot"]) fun _ _ _ _ _ _ us hl => match us, hl with | [_, _], _ => rfl
  have g11 := PySem.W.mg_of X G a11
  have F12 := fun_mk (st := s_L_lowest) l12 c12 k12
  have b12 := F12.binds (ps := ["_law_above", "_law_below"]) fun _ _ _ _ _ _ us hl => match us, hl with | [_, _], _ => rfl
  have g12 := PySem.W.mg_of X G a12
  have F13 := fun_mk (st := s_L_mean) l13 c13 k13
  have b13 := F13.binds (ps := ["_law_goods_here", "_law_beside_here", "_law_picked"]) fun _ _ _ _ _ _ us hl => match us, hl with | [_, _, _], _ => rfl
  have g13 := PySem.W.mg_of X G a13
  have F14 := fun_mk (st := s_L_integer) l14 c14 k14
  have b14 := F14.binds (ps := ["_law_got"]) fun _ _ _ _ _ _ us hl => match us, hl with | [_], _ => rfl
  have g14 := PySem.W.mg_of X G a14
  have F15 := fun_mk (st := s_L_same) l15 c15 k15
  have b15 := F15.binds (ps := ["_law_got", "_law_wanted"]) fun _ _ _ _ _ _ us hl => match us, hl with | [_, _], _ => rfl
  have g15 := PySem.W.mg_of X G a15
  have F16 := fun_mk (st := s_law) l16 c16 k16
  have b16 := F16.binds (ps := ["_law_script"]) fun _ _ _ _ _ _ us hl => match us, hl with | [_], _ => rfl
  have g16 := PySem.W.mg_of X G a16
  refine ⟨PySem.W.fnOf "law" "law" (defArgs s_law) (defBody s_law) (defScope s_law) .none kV16 dc16 pm16 an16 cd16 ct16, fun s v => .of_eq rfl, fun base _ _ => ?_⟩
  have TL : TxtG K C := ⟨⟨pg, hd, po, sa⟩, nA, nB⟩
  have FI := fun_mk (st := s_Guests_init) lI cI kI
  have bI := FI.binds (ps := ["self", "offers", "aside"]) fun _ _ _ _ _ _ us hl => match us, hl with | [_, _, _], _ => rfl
  have kbI := fun_kb (ps := ["self", "offers", "aside"]) FI 1 ["offers", "aside"] fun _ _ _ _ _ _ us ws h1 h2 => match us, h1, ws, h2 with | [_], _, [_, _], _ => rfl
  have M : Mk K C fI := ⟨mk, aI, iI, kc⟩
  have FM := fun_mk (st := s_Guests_mean) lM cM kM
  have bM := FM.binds (ps := ["self", "lot"]) fun _ _ _ _ _ _ us hl => match us, hl with | [_, _], _ => rfl
  have kbM := fun_kb (ps := ["self", "lot"]) FM 1 ["lot"] fun _ _ _ _ _ _ us ws h1 h2 => match us, h1, ws, h2 with | [_], _, [_], _ => rfl
  have FQ := fun_mk (st := s_Guests_eq) lQ cQ kQ
  have bQ := FQ.binds (ps := ["self", "other"]) fun _ _ _ _ _ _ us hl => match us, hl with | [_, _], _ => rfl
  have Oq : Own K C "__eq__" fQ := ⟨aQ, iQ⟩
  have Me : Meth K C "mean" fM := ⟨aM, iM, kM⟩

  have d_check_size : Def l.prog w K mg base "check_size" 1 ["size", "low", "high"] (spRange) := ⟨_, _, ok_check_size F1 , g1, k1, b1⟩
  have d_check_range : Def l.prog w K mg base "check_range" 1 ["number", "low", "high"] (spRange) := ⟨_, _, ok_check_range F2 , g2, k2, b2⟩
  have d_check_offers : Def l.prog w K mg base "_check_offers" 2 ["offers"] (spOffers K) := ⟨_, _, ok_check_offersL F3 m_len d_check_size d_check_range, g3, k3, b3⟩
  have G_Guests := ok_Guests (P := l.prog) (w := w) (mg := mg) (base := base) FI TL m_tuple d_check_offers d_check_range
  have G_mean := ok_Guests_mean (P := l.prog) (w := w) (mg := mg) (base := base) FM TL m_list m_len m_range m_sum (PySem.W.mg_of X G aG)
  have G_eq := ok_Guests_eq (P := l.prog) (w := w) (mg := mg) (base := base) FQ TL m_isinstance (PySem.W.mg_of X G aC) hcl hgt htk hmr
  have d_L_cell : Def l.prog w K mg base "_law_cell" 1 ["_law_script", "_law_k"] (spCellA K) := ⟨_, _, ok_L_cell F4 m_len m_range m_abs, g4, k4, b4⟩
  have d_L_mixed : Def l.prog w K mg base "_law_mixed" 1 ["_law_cell_here", "_law_k"] (spMixed) := ⟨_, _, ok_L_mixed F5 m_abs, g5, k5, b5⟩
  have d_L_pool : Def l.prog w K mg base "_law_pool" 2 ["_law_cell_here", "_law_number"] (spPool) := ⟨_, _, ok_L_pool F6 m_range m_abs d_L_mixed, g6, k6, b6⟩
  have d_L_part : Def l.prog w K mg base "_law_part" 1 ["_law_pool_here", "_law_spot", "_law_under", "_law_size"] (spPart K) := ⟨_, _, ok_L_part F7 m_int, g7, k7, b7⟩
  have d_L_far : Def l.prog w K mg base "_law_far" 1 ["_law_pool_here", "_law_spot", "_law_number"] (spFar K) := ⟨_, _, ok_L_far F8 m_range m_int, g8, k8, b8⟩
  have d_L_chosen : Def l.prog w K mg base "_law_chosen" 2 ["_law_pool_here", "_law_spot", "_law_under", "_law_small", "_law_crest", "_law_whole"] (spChosen K) := ⟨_, _, ok_L_chosen F9 m_int d_L_part, g9, k9, b9⟩
  have d_L_goods : Def l.prog w K mg base "_law_goods" 3 ["_law_pool_here", "_law_spot", "_law_number", "_law_calm"] (spGoods K) := ⟨_, _, ok_L_goods F10 m_range m_int d_L_part d_L_far d_L_chosen, g10, k10, b10⟩
  have d_L_beside : Def l.prog w K mg base "_law_beside" 3 ["_law_pool_here", "_law_spot"] (spBeside K) := ⟨_, _, ok_L_beside F11 d_L_far d_L_chosen, g11, k11, b11⟩
  have d_L_lowest : Def l.prog w K mg base "_law_lowest" 1 ["_law_above", "_law_below"] (spLowest) := ⟨_, _, ok_L_lowest F12 m_range m_abs, g12, k12, b12⟩
  have d_L_mean : Def l.prog w K mg base "_law_mean" 2 ["_law_goods_here", "_law_beside_here", "_law_picked"] (spMeanL K) := ⟨_, _, ok_L_mean F13 m_sum d_L_lowest, g13, k13, b13⟩
  have d_L_integer : Def l.prog w K mg base "_law_integer" 1 ["_law_got"] (spInteger) := ⟨_, _, ok_L_integer F14 m_isinstance m_int m_bool, g14, k14, b14⟩
  have d_L_same : Def l.prog w K mg base "_law_same" 5 ["_law_got", "_law_wanted"] (spSame 3) := ⟨_, _, ok_L_same F15 g15 b15 ⟨m_isinstance, m_int, m_bool, m_str, m_tuple, m_list, m_len, m_range⟩ d_L_integer 3 (by decide), g15, k15, b15⟩
  exact ok_law F16 TL ⟨nfN, nfS, nfT, kit_off isC tyC nfN, kit_off isC tyC nfS, kit_off isC tyC nfT⟩ m_list m_tuple m_range m_int M G_Guests (PySem.W.mg_of X G aC) bI kbI Me G_mean bM kbM Oq G_eq bQ d_L_cell d_L_pool d_L_part d_L_goods d_L_beside d_L_mean d_L_same
end TK

open PySem PySem.W PyProof.Rows
set_option maxRecDepth 100000 in
set_option maxHeartbeats 0 in
theorem PySem.Challenge.cw_turnsandkeys_k32_guests_mean_holds : PySem.Challenge.rw_turnsandkeys_k32_guests_mean.Holds := by
  w_on; o_law; k_head; (case hw => w_witness2)
  k_fill
  refine L2.walk_of (l := PySem.Challenge.rw_turnsandkeys_k32_guests_mean) (n := 63) (k := 6) (x := "_law_script") (CX := fun _ => L2.CX0) (sp := fun w => TK.spLaw _) rfl (by decide) rfl ⟨rfl, by decide, by decide⟩ (fun w h Y => PySem.W.kIn_of Y) ?F (fun _ _ a ns hl _ hS => ⟨a, ns, rfl, hS, hl, fun _ => rfl⟩) (fun _ _ _ _ _ h => h)
  case F =>
    intro w mg fa h KX G hmg
    refine' TK.all_mk KX G hmg ?a0 ?l0 ?c0 ?k0 ?a1 ?l1 ?c1 ?k1 ?a2 ?l2 ?c2 ?k2 ?a3 ?l3 ?c3 ?k3 ?a4 ?l4 ?c4 ?k4 ?a5 ?l5 ?c5 ?k5 ?a6 ?l6 ?c6 ?k6 ?a7 ?l7 ?c7 ?k7 ?a8 ?l8 ?c8 ?k8 ?a9 ?l9 ?c9 ?k9 ?a10 ?l10 ?c10 ?k10 ?a11 ?l11 ?c11 ?k11 ?a12 ?l12 ?c12 ?k12 ?a13 ?l13 ?c13 ?k13 ?a14 ?l14 ?c14 ?k14 ?a15 ?l15 ?c15 ?k15 ?a16 ?l16 ?c16 ?k16 ?z_len ?z_tuple ?z_list ?z_range ?z_abs ?z_int ?z_isinstance ?z_bool ?z_str ?z_sum ?aC ?aG ?aI ?iI ?lI ?cI ?kI ?aM ?iM ?lM ?cM ?kM ?aQ ?iQ ?lQ ?cQ ?kQ ?pg ?hd ?po ?sa ?mk ?kc ?nA ?nB ?hcl ?hgt ?htk ?hmr ?nfN ?nfS ?nfT ?isC ?tyC
    (case a0 => k_is); (case l0 => k_is); (case c0 => k_is); (case k0 => k_is); (case a1 => k_is); (case l1 => k_is); (case c1 => k_is); (case k1 => k_is); (case a2 => k_is); (case l2 => k_is); (case c2 => k_is); (case k2 => k_is); (case a3 => k_is); (case l3 => k_is); (case c3 => k_is); (case k3 => k_is); (case a4 => k_is); (case l4 => k_is); (case c4 => k_is); (case k4 => k_is); (case a5 => k_is); (case l5 => k_is); (case c5 => k_is); (case k5 => k_is); (case a6 => k_is); (case l6 => k_is); (case c6 => k_is); (case k6 => k_is); (case a7 => k_is); (case l7 => k_is); (case c7 => k_is); (case k7 => k_is); (case a8 => k_is); (case l8 => k_is); (case c8 => k_is); (case k8 => k_is); (case a9 => k_is); (case l9 => k_is); (case c9 => k_is); (case k9 => k_is); (case a10 => k_is); (case l10 => k_is); (case c10 => k_is); (case k10 => k_is); (case a11 => k_is); (case l11 => k_is); (case c11 => k_is); (case k11 => k_is); (case a12 => k_is); (case l12 => k_is); (case c12 => k_is); (case k12 => k_is); (case a13 => k_is); (case l13 => k_is); (case c13 => k_is); (case k13 => k_is); (case a14 => k_is); (case l14 => k_is); (case c14 => k_is); (case k14 => k_is); (case a15 => k_is); (case l15 => k_is); (case c15 => k_is); (case k15 => k_is); (case a16 => k_is); (case l16 => k_is); (case c16 => k_is); (case k16 => k_is); (case z_len => k_is); (case z_tuple => k_is); (case z_list => k_is); (case z_range => k_is); (case z_abs => k_is); (case z_int => k_is); (case z_isinstance => k_is); (case z_bool => k_is); (case z_str => k_is); (case z_sum => k_is); (case aC => k_is); (case aG => k_is); (case aI => k_is); (case iI => k_is); (case lI => k_is); (case cI => k_is); (case kI => k_is); (case aM => k_is); (case iM => k_is); (case lM => k_is); (case cM => k_is); (case kM => k_is); (case aQ => k_is); (case iQ => k_is); (case lQ => k_is); (case cQ => k_is); (case kQ => k_is); (case pg => k_is); (case hd => k_is); (case po => k_is); (case sa => k_is); (case mk => k_is); (case kc => k_is); (case nA => k_is); (case nB => k_is); (case hcl => k_is); (case hgt => k_is); (case htk => k_is); (case hmr => k_is); (case nfN => k_is); (case nfS => k_is); (case nfT => k_is); (case isC => k_is); (case tyC => k_is)
