import PyProof.Rows.All
import Wide.All
import OpenK.AllK
import Wide.FinOn
import HandS.ForMost
import HandS.Style
import HandS.IsInst
import HandS.Defaults
import HandS.MakeKwOnly
import HandS.SortKw
import HandS.Walk
import KE.KSortKeySt
import KE.GoesEnum
import KE.DatumOrd
import KE.KRevSl
import HandS.Star
import KE.KTupSum
import KE.GoesMore
import KE.GoesZip
import HandS.DictComp
import HandS.RevRange
import HandS.Strs
import HandS.Zip
import PySem.Challenge.RW_turnsandkeys_k40_passes_counted
set_option Elab.async false
set_option linter.all false
set_option maxRecDepth 100000
set_option maxHeartbeats 4000000
namespace TK
open PySem PySem.Spec PyProof.Rows L2
/-! ### a def that keeps its promise, as callers see it -/
structure Def (P : Program) (w : World) (K : PySem.W.Frag) (mg : Str → Option Value) (base : Heap) (x : Str) (k : Nat) (ps : List Str) (sp : Sp) : Prop where
  ex : ∃ (f : Addr) (fd : FuncData), FnOk P w K mg base CX0 k f fd ps sp ∧ mg x = some (.ref f) ∧ PySem.W.keepIn K (.ref f) = true ∧ Binds K fd ps []
section
variable {X : Cx} {x : Str} {k : Nat} {ps : List Str} {sp : Sp} {e : Expr} {es : List Expr} {t : TA} {p pos : Pos}
theorem pe_callD (D : Def X.prog X.w X.K X.mg X.base x k ps sp) (hr : Room k X.A) (hg : Gl X x) (ha : PA X (e :: es) t) (hdb : (x == ("__debug__" : Str)) = false := by decide)
    (he : starEach (e :: es) X.env = (false, eval e X.env) :: starEach es X.env := by rfl) (hpl : (backTo pos (starEach es X.env)).any (·.1) = false := by rfl) :
    PE X (.Call (.Name x p) (e :: es) [] pos) (tCall sp [] E0 t) := by
  obtain ⟨f, fd, F, g, kp, b⟩ := D.ex
  exact pe_call F hr hg g kp b .nil pass0 ha hdb he hpl
end
section
variable {X : Cx}
/-- x is True, x is False: x of any kind -/
def rIsT : R2 := fun x y H Q => ∃ b : Bool, y = .bl b ∧ Q (.bl (decide (x = .bl b))) H
theorem op_isT : OpR X (compareOp .Is) rIsT := by
  intro pins s σ H x y v u Q I rx ry h
  obtain ⟨b, rfl, q⟩ := h
  cases (show u = Value.bool b from ry)
  cases x with
  | bl a =>
    cases (show v = Value.bool a from rx)
    by_cases e : a = b
    · subst e
      exact wpAny_is_self rfl ⟨.bl true, H, I, rfl, by simpa using q⟩
    · exact wpAny_is_other rfl (fun z => e (Value.bool.inj z)) ⟨.bl false, H, I, rfl, by simpa [e] using q⟩
  | non => cases (show v = Value.none from rx); exact wpAny_is_other rfl (fun z => nomatch z) ⟨.bl false, H, I, rfl, by simpa using q⟩
  | int i => obtain ⟨t, rfl⟩ := (show ∃ t, v = Value.int i t from rx); exact wpAny_is_other rfl (fun z => nomatch z) ⟨.bl false, H, I, rfl, by simpa using q⟩
  | str i => obtain ⟨t, rfl⟩ := (show ∃ t, v = Value.str i t from rx); exact wpAny_is_other rfl (fun z => nomatch z) ⟨.bl false, H, I, rfl, by simpa using q⟩
  | byt i => obtain ⟨t, rfl⟩ := (show ∃ t, v = Value.bytes i t from rx); exact wpAny_is_other rfl (fun z => nomatch z) ⟨.bl false, H, I, rfl, by simpa using q⟩
  | flt i => obtain ⟨t, rfl⟩ := (show ∃ t, v = Value.float i t from rx); exact wpAny_is_other rfl (fun z => nomatch z) ⟨.bl false, H, I, rfl, by simpa using q⟩
  | ref a => cases (show v = Value.ref a from rx); exact wpAny_is_other rfl (fun z => nomatch z) ⟨.bl false, H, I, rfl, by simpa using q⟩
  | ty n => cases (show v = Value.type n from rx); exact wpAny_is_other rfl (fun z => nomatch z) ⟨.bl false, H, I, rfl, by simpa using q⟩
end
/-! ### rules within a comprehension: K by name -/
section
variable {X : Cx} {K : PySem.W.Frag}
theorem ix_listK (h : X.K = K) : IxR X (rIxL K) := h ▸ ix_list
theorem ix_tupK (h : X.K = K) : IxR X (rIxT K) := h ▸ ix_tup
theorem pg_tupK (h : X.K = K) {elts : List Expr} {kk : Nat} {pos : Pos} {n : Nat} {t : TGs} (hc : X.calm = true) (hp : PGs X elts t) (hn : (assignEach elts X.env).length = n := by rfl) (hst : (assignEach elts X.env).findIdx? (·.1) = none := by rfl) : PG X (.Tuple elts kk pos) (gTup K n t) := h ▸ pg_tup hc hp hn hst
theorem op_in_seqK (h : X.K = K) : OpR X (compareOp .In) (rIn K false) := h ▸ op_in_seq
theorem op_notIn_seqK (h : X.K = K) : OpR X (compareOp .NotIn) (rIn K true) := h ▸ op_notIn_seq
theorem call_len_seqK (h : X.K = K) : CallR X (.builtin "len") (fun xs H Q => ∃ p ys, xs = [.ref p] ∧ (SqL K H p ys ∨ SqT K H p ys) ∧ Q (.int ys.length) H) := h ▸ call_len_seq
end
/-! ### heaps -/
theorem same_upd {H : Hp} {p : Addr} {o : HO} (h : H p = none) : Same H (upd H p o) := fun b x e => by
  rw [upd_ne (ne_of_none e h)]
  exact e
theorem same_at {H H' : Hp} {p : Addr} {o : HO} (s : Same H H') (h : H p = none) : Same H (upd H' p o) := fun b x e => by
  rw [upd_ne (ne_of_none e h)]
  exact s b x e
theorem same_tup {K : PySem.W.Frag} {H H' : Hp} {a : Addr} {xs : List V} (e : Same H H') (h : SqT K H a xs) : SqT K H' a xs := by
  rcases h with (h | ⟨o, h⟩) | h
  · exact .inl (.inl (e _ _ h))
  · exact .inl (.inr ⟨o, e _ _ h⟩)
  · exact .inr h
theorem lstAt {K : PySem.W.Frag} {H : Hp} {a : Addr} {xs : List V} (h : H a = some (.lst xs)) : SqL K H a xs := .inl (.inl h)
theorem tupAt {K : PySem.W.Frag} {H : Hp} {a : Addr} {xs : List V} (h : H a = some (.tup xs)) : SqT K H a xs := .inl (.inl h)
theorem atI_in {α : Type} {xs : List α} {i : Int} {v : α} (h0 : 0 ≤ i) (h : xs[i.toNat]? = some v) : atI xs i = some v := by
  obtain ⟨n, rfl⟩ : ∃ n : Nat, i = (n : Int) := ⟨i.toNat, by omega⟩
  exact atI_nat h
theorem yesT {σ : L2.St} {H : Hp} {A B : Hp → Prop} (h : A H) : tYes σ H (fun b H3 => if b = true then A H3 else B H3) := by
  show if true = true then A H else B H
  rw [if_pos rfl]
  exact h
end TK

namespace TK
open PySem PySem.Spec PyProof.Rows L2
section
variable {X : Cx} {pins : List (Addr × Obj)} {σ : L2.St} {H : Hp} {s : Shared}
/-- an untracked object of ours comes to be tracked -/
theorem adopt {a : Addr} {o : HO} (I : Inv X pins σ H s) (f : FpOk X pins H a) (new : ObjOk X.prog X.w (upd H a o) s.heap a o) : Inv X pins σ (upd H a o) s := by
  obtain ⟨q0, q1, q2, q3, q4, q5⟩ := f
  have ne : ∀ b u, H b = some u → b ≠ a := fun b u e z => by rw [z, q0] at e; cases e
  refine I.step (h' := s.heap) (g' := s.gens) (t' := s.toks) (d' := s.drawn) (ch := [a]) (fun b hb => ?_) (fun b o _ _ _ e _ => e) (fun b o _ _ _ e _ => ⟨o.slots, e⟩) (fun b o hb _ n => ?_) (fun b o _ e => ⟨o, e⟩) (fun b xs e => ?_) (fun b o u e => ?_) (fun b ps e => ⟨#[], ?_⟩) (fun m hm => hm) (fun b u e => ?_) I.bare
  · have e : b = a := by simpa using hb
    subst e
    exact ⟨q3, q1, q4, q5⟩
  · rw [upd_ne (fun z => hb (by simp [z]))]; exact n
  · rw [upd_ne (ne b _ e)]; exact e
  · rw [upd_ne (ne b _ e)]; exact e
  · rw [upd_ne (ne b _ e), e]; simp
  · by_cases hb : b = a
    · subst hb
      rw [upd_same] at e
      cases e
      exact new
    · rw [upd_ne hb] at e
      exact (I.hok b u e).stay (fun c v _ q => q) (fun c q => by rw [upd_ne (ne c _ q)]; exact q) fun c xs q => by rw [upd_ne (ne c _ q)]; exact q
/-- a def called from within a built-in's method -/
theorem run_fn2 {k : Nat} {f : Addr} {fd : FuncData} {ps : List Str} {sp : Sp} {Q : VK} {us : List Value} {itm : List V} {E' : Value → Shared → Prop} (F : FnOk X.prog X.w X.K X.mg X.base CX0 k f fd ps sp) (hr : Room (k + 2) X.A) (hb : Binds X.K fd ps [])
    (I : Inv X pins σ H s) (r : Vals itm us) (h : sp itm H Q E0) : wpAny (model X.prog X.w) X.A.in1.in1 (call (.ref f) us) (EP X pins σ Q) E' s := by
  have hl : (us ++ []).length = ps.length := by rw [List.append_nil, ← r.length]; exact F.len _ _ _ _ h
  have hbb := hb s us I.kIn hl
  rw [List.append_nil] at hbb
  refine wpAny_call (codeAny_mono (F.run X.A.in1.in1 X.stack s H ⟨us, []⟩ us itm Q E0 hr.in1.in1 I.env0.in1.in1 hbb r h) fun r s' hq => ?_)
  cases r with
  | error e => exact False.elim hq
  | ok fl =>
    cases fl with
    | ret u => exact I.after hq
    | next => exact False.elim hq
    | brk => exact False.elim hq
    | cont => exact False.elim hq
end
section
variable {X : Cx} {pins : List (Addr × Obj)} {σ : L2.St} {H : Hp} {s : Shared} {A : Around} {E : Value → Shared → Prop} {a kS : Addr} {itm : List Value} {kl : List Int} {kar : Array Value} {e ep1 : Nat} {P : PySem.Fin → Shared → Prop}
theorem sb_tail {st : SortSt} (I : Inv X pins σ H s) (gk : s.heap.get? kS = some (seqObj "list" kar e)) (ga : s.heap.get? a = some (seqObj "list" #[] ep1)) (fa : FpOk X pins H a) (fk : FpOk X pins H kS) (hka : kS ≠ a)
    (hki : IntsAre kar.toList kl) (hle : kl.length = itm.length) (hsm : itm.length ≤ sizeLine) (hp : (arrOf st).Perm (kar.zip itm.toArray)) (hs : SortedTo (arrOf st) (arrOf st).size) (hfl : failedOf st = none)
    (hst : Stable intKind (arrOf st) (kar.zip itm.toArray))
    (h : ∀ s' out c, Inv X pins σ H s' → s'.heap.get? a = some (seqObj "list" out c) → KskOutSt false kl itm out.toList → P (.done (.ret .none)) s') :
    wpAny (model X.prog X.w) A (ksk_tail a false ep1 (.ref kS) st) P E s := by
  have hsm2 := hsm
  rw [sizeLine_eq] at hsm2
  have zk : kar.size = itm.length := by
    have h1 := hki.length
    rw [Array.length_toList] at h1
    omega
  have za : (arrOf st).size = itm.length := by rw [hp.size_eq, Array.size_zip, zk, List.size_toArray, Nat.min_self]
  have zo : ((arrOf st).map (·.2)).size = itm.length := by rw [Array.size_map]; exact za
  have s1 := Heap.SameBut.update s.heap kS (Obj.mapSeq fun _ => (#[] : Array Value))
  have ga1 : (s.heap.update kS (Obj.mapSeq fun _ => (#[] : Array Value))).get? a = some (seqObj "list" #[] ep1) := (s1.2 a hka.symm).trans ga
  have s2 := Heap.SameBut.update (s.heap.update kS (Obj.mapSeq fun _ => (#[] : Array Value))) a (Obj.mapSeq fun _ => (arrOf st).map (·.2))
  obtain ⟨cn, gcn⟩ : ∃ cn, ((s.heap.update kS (Obj.mapSeq fun _ => (#[] : Array Value))).update a (Obj.mapSeq fun _ => (arrOf st).map (·.2))).get? a = some (seqObj "list" ((arrOf st).map (·.2)) cn) :=
    ⟨_, get?_update_seq ga1 fun _ => (arrOf st).map (·.2)⟩
  obtain ⟨k0, k1, k2, k3, k4, k5⟩ := fk
  obtain ⟨a0, a1, a2, a3, a4, a5⟩ := fa
  have I1 : Inv X pins σ H { s with heap := s.heap.update kS (Obj.mapSeq fun _ => (#[] : Array Value)) } := I.turned (t' := s.toks) (fun b o hb q => (s1.2 b hb).trans q) k0 k1 k3 k4 k5
  unfold ksk_tail
  try dsimp only
  refine wpAny_bind (listUpdate_at gk rfl ?_ (by rw [zk, sizeLine_eq]; omega) (Nat.zero_le _))
  refine wpAny_bind (wpAny_letGo ?_)
  refine wpAny_bind (seqEpoch_at ga1 rfl ?_)
  refine wpAny_bind (listUpdate_at ga1 rfl ?_ (Nat.zero_le _) (Nat.le_trans (Nat.le_of_eq zo) (by rw [sizeLine_eq]; omega)))
  rw [hfl]
  simp only [bne_self_eq_false, Bool.false_eq_true, if_false]
  refine wpAny_pure (h _ _ cn (I1.turned (t' := s.toks) (fun b o hb q => (s2.2 b hb).trans q) a0 a1 a3 a4 a5) gcn ?_)
  exact ksk_outSt (b := false) hki hp hs (by simpa using hst)
theorem sb_end (I : Inv X pins σ H s) (gk : s.heap.get? kS = some (seqObj "list" kar e)) (ga : s.heap.get? a = some (seqObj "list" #[] ep1)) (fa : FpOk X pins H a) (fk : FpOk X pins H kS) (hka : kS ≠ a)
    (hki : IntsAre kar.toList kl) (hle : kl.length = itm.length) (hsm : itm.length ≤ sizeLine)
    (h : ∀ s' out c, Inv X pins σ H s' → s'.heap.get? a = some (seqObj "list" out c) → KskOutSt false kl itm out.toList → P (.done (.ret .none)) s') :
    wpAny (model X.prog X.w) A (ksk_end a false itm.toArray ep1 (.ref kS) kar) P E s := by
  have hsm2 := hsm
  rw [sizeLine_eq] at hsm2
  have zk : kar.size = itm.length := by
    have h1 := hki.length
    rw [Array.length_toList] at h1
    omega
  have zz : (kar.zip itm.toArray).size = itm.length := by rw [Array.size_zip, zk, List.size_toArray, Nat.min_self]
  unfold ksk_end
  try dsimp only
  simp only [Bool.false_eq_true, if_false]
  by_cases few : itm.toArray.size < 2
  · rw [if_pos few, if_pos few]
    refine wpAny_bind (wpAny_pure ?_)
    rw [StateT.run_pure]
    refine wpAny_bind (wpAny_pure ?_)
    try dsimp only
    refine sb_tail (st := SortSt.mk' general' (kar.zip itm.toArray) #[] 7 none) I gk ga fa fk hka hki hle hsm (Array.Perm.refl _) ?_ rfl (Stable.refl _) h
    intro i j hij jlt
    have hj2 : j < (kar.zip itm.toArray).size := jlt
    rw [zz] at hj2
    rw [List.size_toArray] at few
    have : i = j := by omega
    subst this
    exact Int.le_refl _
  · rw [if_neg few, if_neg few]
    rw [List.size_toArray] at few
    rw [ksk_kind hki (by rw [zk]; omega)]
    refine wpAny_bind (wpAny_pure ?_)
    refine wpAny_bind (wpAny_mono (wpS_sortRunsSt (κ := intKind) (a₀ := kar.zip itm.toArray)
      (st := SortSt.mk' oneType' (kar.zip itm.toArray) #[] 7 none)
      (Q := fun _ sq => (arrOf sq).Perm (kar.zip itm.toArray) ∧ failedOf sq = none ∧ SortedTo (arrOf sq) (arrOf sq).size ∧
        Stable intKind (arrOf sq) (kar.zip itm.toArray))
      intKind_oneLt (ksk_keysOfInt (ksk_intKeys hki)) ⟨Array.Perm.refl _, rfl, rfl⟩ rfl (Stable.refl _) (by rw [zz]; omega)
      fun sq a1 a2 a3 a4 => ⟨a1, a2, by rw [a1.size_eq]; exact sortedTo_of_int a3, a4⟩) ?_ fun _ _ e => e)
    rintro ⟨⟨⟩, sq⟩ s' ⟨rfl, hp, hf, hs, hst⟩
    try dsimp only
    exact sb_tail I gk ga fa fk hka hki hle hsm hp hs hf hst h
theorem sb_rest {f : Value} (I : Inv X pins σ H s) (gk : s.heap.get? kS = some (seqObj "list" #[] 0)) (ga : s.heap.get? a = some (seqObj "list" #[] ep1)) (fa : FpOk X pins H a) (fk : FpOk X pins H kS) (hka : kS ≠ a)
    (hle : kl.length = itm.length) (hsm : itm.length ≤ sizeLine)
    (turn : ∀ (i : Nat) (v : Value) (k : Int) (pins' : List (Addr × Obj)) (s' : Shared), itm[i]? = some v → kl[i]? = some k → Inv X pins' σ H s' →
      wpAny (model X.prog X.w) A (call f [v]) (EP X pins' σ fun x H' => x = .int k ∧ H' = H) (fun _ _ => False) s')
    (h : ∀ s' out c, Inv X pins σ H s' → s'.heap.get? a = some (seqObj "list" out c) → KskOutSt false kl itm out.toList → P (.done (.ret .none)) s') :
    wpAny (model X.prog X.w) A (ksk_rest a f false itm.toArray ep1 (.ref kS)) P E s := by
  have hsm2 := hsm
  rw [sizeLine_eq] at hsm2
  unfold ksk_rest
  refine wpAny_bind (wpAny_rule ?_)
  first
    | rw [List.forIn_toArray]
    | (rw [← Array.forIn_toList]; simp only [List.toList_toArray])
    | rw [← Array.forIn_toList]
  refine wpAny_bind (ksk_fold (fun i s' => ∃ gar e, Inv X pins σ H s' ∧ s'.heap.get? kS = some (seqObj "list" gar e) ∧ s'.heap.get? a = some (seqObj "list" #[] ep1) ∧ IntsAre gar.toList (kl.take i)) itm 0 s
    ⟨#[], 0, I, gk, ga, by simpa using IntsAre.nil⟩ ?step ?done)
  case step =>
    rintro j x s' hx ⟨gar, e, I', nk', na', hki⟩
    simp only [Nat.zero_add] at hki ⊢
    have jlt : j < itm.length := (List.getElem?_eq_some_iff.mp hx).1
    obtain ⟨k, ekj⟩ : ∃ k, kl[j]? = some k := ⟨_, List.getElem?_eq_getElem (by omega)⟩
    have gsm : gar.size ≤ itm.length := by
      have h1 := hki.length
      rw [Array.length_toList, List.length_take] at h1
      omega
    have I2 : Inv X (pins ++ [(kS, seqObj "list" gar e), (a, seqObj "list" #[] ep1)]) σ H s' := I'.pins_of fun p hp => by
      rcases List.mem_append.mp hp with hp | hp
      · exact I'.pin p (List.mem_append_right _ hp)
      · rcases List.mem_cons.mp hp with rfl | hp
        · exact ⟨nk', fk.1, fk.2.1, fk.2.2.1, fun v z => nomatch z⟩
        · rw [List.mem_singleton.mp hp]
          exact ⟨na', fa.1, fa.2.1, fa.2.2.1, fun v z => nomatch z⟩
    refine wpAny_bind (wpAny_attempt (wpAny_mono (turn j x k _ s' hx ekj I2) (fun v s'' he => ?_) fun _ _ hF => hF.elim))
    obtain ⟨y, H', I3, ry, rfl, rfl⟩ := he
    obtain ⟨t2, rfl⟩ : ∃ t, v = Value.int k t := ry
    try dsimp only
    have nk3 := (I3.pin (kS, seqObj "list" gar e) (List.mem_append_right _ (List.mem_append_right _ (.head _)))).1
    have na3 := (I3.pin (a, seqObj "list" #[] ep1) (List.mem_append_right _ (List.mem_append_right _ (.tail _ (.head _))))).1
    have s1 := Heap.SameBut.update s''.heap kS (Obj.mapSeq (·.push (.int k t2)))
    obtain ⟨cn, gcn⟩ : ∃ cn, (s''.heap.update kS (Obj.mapSeq (·.push (.int k t2)))).get? kS = some (seqObj "list" (gar.push (.int k t2)) cn) := ⟨_, get?_update_seq nk3 (·.push (.int k t2))⟩
    have et : kl.take (j + 1) = kl.take j ++ [k] := by rw [List.take_add_one, ekj]; simp
    have epu : (gar.push (Value.int k t2)).toList = gar.toList ++ [Value.int k t2] := by simp
    obtain ⟨k0, k1, _, k3, k4, k5⟩ := fk
    refine wpAny_bind (listUpdate_at nk3 rfl ?_ (by rw [sizeLine_eq]; omega) (Nat.le_trans (Nat.le_of_eq (Array.size_push ..)) (by rw [sizeLine_eq]; omega)))
    refine wpAny_pure ⟨rfl, gar.push (.int k t2), cn, I3.unpinned.turned (t' := s''.toks) (fun b o hb q => (s1.2 b hb).trans q) k0 k1 k3 k4 k5, gcn, (s1.2 a hka.symm).trans na3, by rw [epu, et]; exact ksk_snoc hki⟩
  case done =>
    rintro s' ⟨gar, e, I', nk', na', hki⟩
    have hkf : IntsAre gar.toList kl := by
      have eall : kl.take (0 + itm.length) = kl := List.take_of_length_le (by omega)
      rw [eall] at hki
      exact hki
    try dsimp only
    refine wpAny_bind (listItems_at nk' rfl ?_)
    exact sb_end I' nk' na' fa fk hka hkf hle hsm h
end
end TK

namespace TK
open PySem PySem.Spec PyProof.Rows L2
section
variable {prog : Program} {w : World} {A : Around} {E : Value → Shared → Prop} {s : Shared}
/-- the items of a tuple, drawn together -/
theorem collect_tup {t : Addr} {vs : List Value} {Q : List Value → Shared → Prop} (ht : IsTup s.heap t vs.toArray) (hsm : vs.length ≤ sizeLine)
    (h : Q vs { s with heap := (s.heap.push (seqObj "list" #[] 0)).update s.heap.objs.size (Obj.mapSeq (· ++ vs.toArray)) }) : wpAny (model prog w) A (collect (.ref t)) Q E s := by
  obtain ⟨ob, gob0, hcls, n, hdt⟩ := ht
  unfold collect
  refine wpAny_bind (wpAny_runValue (codeAny_builtin entry_proto_collect' ?_))
  show wpAny _ _ (do again (.builtin "list.__iadd__" ⟨[← newList [], .ref t], []⟩)) _ _ s
  refine wpAny_bind (wpAny_newList (wpAny_pure ⟨Code.quiet_builtin _ (by decide +kernel), codeAny_builtin entry_list_iadd' ?_⟩))
  show wpAny _ _ (Builtin.List.listExtendWith (.ref s.heap.objs.size) (.ref t) (.ref s.heap.objs.size)) _ _ { s with heap := s.heap.push (seqObj "list" #[] 0) }
  have gob : (s.heap.push (seqObj "list" #[] 0)).get? t = some ob := Heap.get?_push_of_some _ gob0
  have gnew : (s.heap.push (seqObj "list" #[] 0)).get? s.heap.objs.size = some (seqObj "list" #[] 0) := Heap.get?_push_size _ rfl
  unfold Builtin.List.listExtendWith
  refine wpAny_bind (wpAny_typeOf (T := "tuple") ⟨ob, gob, hcls⟩ ?_)
  rw [if_pos (by simp only [show (Value.type "tuple" == Value.type "tuple") = true from rfl, Bool.or_true])]
  refine wpAny_bind (listItems_at gob hdt (wpAny_bind (listItems_at gnew rfl ?_)))
  rw [if_neg (by simp)]
  refine wpAny_bind (listUpdate_at gnew rfl (wpAny_pure ?_) (Nat.zero_le _) (by simp only [Array.size_append, List.size_toArray, List.length_nil]; omega))
  show wpAny (model prog w) A (do
      let o ← load s.heap.objs.size
      match o.data with
      | .seq xs _ => pure xs.toList
      | _ => unsupported "internal:collect") Q E _
  refine wpAny_bind (wpAny_load (get?_update_seq gnew _) ?_)
  show wpAny _ _ (pure ((#[] : Array Value) ++ vs.toArray).toList) Q E _
  rw [show ((#[] : Array Value) ++ vs.toArray).toList = vs by simp]
  exact wpAny_pure h
end
section
variable {X : Cx} {pins : List (Addr × Obj)} {σ : L2.St} {H : Hp} {s : Shared} {A : Around} {E : Value → Shared → Prop} {a : Addr} {vs : List Value} {kz : List Int} {P : PySem.Fin → Shared → Prop}
theorem sb_sort {f : Value} {n : Nat} (I : Inv X pins σ H s) (ho : s.heap.get? a = some (seqObj "list" vs.toArray n)) (fa : FpOk X pins H a) (hlen : kz.length = vs.length) (hZ : vs.length ≤ sizeLine)
    (turn : ∀ (i : Nat) (v : Value) (k : Int) (pins' : List (Addr × Obj)) (s' : Shared), vs[i]? = some v → kz[i]? = some k → Inv X pins' σ H s' →
      wpAny (model X.prog X.w) A (call f [v]) (EP X pins' σ fun x H' => x = .int k ∧ H' = H) (fun _ _ => False) s')
    (h : ∀ s' out c, Inv X pins σ H s' → s'.heap.get? a = some (seqObj "list" out c) → KskOutSt false kz vs out.toList → P (.done (.ret .none)) s') :
    wpAny (model X.prog X.w) A (ksk_tree a f false) P E s := by
  have hZ2 := hZ
  rw [sizeLine_eq] at hZ2
  have hal : a < s.heap.objs.size := Heap.lt_size ho
  generalize hh1 : s.heap.update a (Obj.mapSeq fun _ => (#[] : Array Value)) = h1
  have sb : Heap.SameBut a s.heap h1 := by rw [← hh1]; exact Heap.SameBut.update s.heap a _
  obtain ⟨e1, ho1⟩ : ∃ e1, h1.get? a = some (seqObj "list" #[] e1) := by rw [← hh1]; exact ⟨_, get?_update_seq ho fun _ => #[]⟩
  have hz1 : h1.objs.size = s.heap.objs.size := by rw [← hh1, Heap.size_update]
  obtain ⟨a0, a1, a2, a3, a4, a5⟩ := id fa
  have I1 : Inv X pins σ H { s with heap := h1 } := I.turned (t' := s.toks) (fun b o hb q => (sb.2 b hb).trans q) a0 a1 a3 a4 a5
  have I2 : Inv X pins σ H { s with heap := (h1.push (seqObj "tuple" vs.toArray 0)).push (seqObj "list" #[] 0) } := I1.kept (t' := s.toks) fun b o q => Heap.get?_push_of_some _ (Heap.get?_push_of_some _ q)
  have hkz : (h1.push (seqObj "tuple" vs.toArray 0)).objs.size = s.heap.objs.size + 1 := by rw [size_push', hz1]
  unfold ksk_tree
  refine wpAny_bind (listItems_at ho rfl (wpAny_bind (listUpdate_at ho rfl ?_ (by rw [List.size_toArray, sizeLine_eq]; omega) (Nat.zero_le _))))
  rw [hh1]
  refine wpAny_bind (seqEpoch_at ho1 rfl (wpAny_bind (wpAny_newTuple (wpAny_bind (wpAny_newList (wpAny_holding ?_) (Nat.zero_le _))) (by show vs.length ≤ _; rw [sizeLine_eq]; omega))))
  refine sb_rest (s := { s with heap := (h1.push (seqObj "tuple" vs.toArray 0)).push (seqObj "list" #[] 0) }) (kS := (h1.push (seqObj "tuple" vs.toArray 0)).objs.size) I2 (Heap.get?_push_size _ rfl) (Heap.get?_push_of_some _ (Heap.get?_push_of_some _ ho1)) fa ?_ (Nat.ne_of_gt (by rw [hkz]; exact Nat.lt_succ_of_lt hal)) hlen hZ turn h
  exact I1.fpOk (by show h1.objs.size ≤ _; rw [hkz, hz1]; omega) (I1.hok.fresh (by show h1.objs.size ≤ _; rw [hkz, hz1]; omega))
end
/-! ### the stable order by a key -/
def insK {α : Type} (x : Int × α) : List (Int × α) → List (Int × α)
  | [] => [x]
  | y :: r => if x.1 ≤ y.1 then x :: y :: r else y :: insK x r
def sortK {α : Type} : List (Int × α) → List (Int × α)
  | [] => []
  | x :: r => insK x (sortK r)
section
variable {α : Type}
theorem insK_perm (x : Int × α) : ∀ l, (insK x l).Perm (x :: l)
  | [] => .refl _
  | y :: r => by
    unfold insK
    split
    · exact .refl _
    · exact ((insK_perm x r).cons y).trans (.swap x y r)
theorem sortK_perm : ∀ l : List (Int × α), (sortK l).Perm l
  | [] => .refl _
  | x :: r => (insK_perm x (sortK r)).trans ((sortK_perm r).cons x)
theorem insK_up (x : Int × α) : ∀ l : List (Int × α), l.Pairwise (fun p q => p.1 ≤ q.1) → (insK x l).Pairwise (fun p q => p.1 ≤ q.1)
  | [], _ => List.pairwise_singleton ..
  | y :: r, h => by
    unfold insK
    split
    · rename_i hx
      refine List.Pairwise.cons (fun z hsm => ?_) h
      rcases List.mem_cons.mp hsm with rfl | hsm
      · exact hx
      · exact Int.le_trans hx (List.rel_of_pairwise_cons h hsm)
    · rename_i hx
      refine List.Pairwise.cons (fun z hsm => ?_) (insK_up x r (List.Pairwise.of_cons h))
      rcases List.mem_cons.mp ((insK_perm x r).mem_iff.mp hsm) with rfl | hsm
      · omega
      · exact List.rel_of_pairwise_cons h hsm
theorem sortK_up : ∀ l : List (Int × α), (sortK l).Pairwise (fun p q => p.1 ≤ q.1)
  | [] => .nil
  | x :: r => insK_up x _ (sortK_up r)
theorem insK_filter (x : Int × α) (c : Int) : ∀ l : List (Int × α), l.Pairwise (fun p q => p.1 ≤ q.1) → (insK x l).filter (fun p => p.1 == c) = (x :: l).filter (fun p => p.1 == c)
  | [], _ => rfl
  | y :: r, h => by
    unfold insK
    split
    · rfl
    · rename_i hx
      have ih := insK_filter x c r (List.Pairwise.of_cons h)
      rw [List.filter_cons, ih, List.filter_cons, List.filter_cons, List.filter_cons]
      by_cases h1 : (x.1 == c) = true
      · by_cases h2 : (y.1 == c) = true
        · have e1 : x.1 = c := by simpa using h1
          have e2 : y.1 = c := by simpa using h2
          omega
        · simp [h1, h2]
      · simp [h1]
theorem sortK_filter (c : Int) : ∀ l : List (Int × α), (sortK l).filter (fun p => p.1 == c) = l.filter (fun p => p.1 == c)
  | [] => rfl
  | x :: r => by
    show (insK x (sortK r)).filter _ = _
    rw [insK_filter x c _ (sortK_up r), List.filter_cons, sortK_filter c r, List.filter_cons]
theorem stable_one : ∀ {l m : List (Int × α)}, l.Perm m → l.Pairwise (fun p q => p.1 ≤ q.1) → m.Pairwise (fun p q => p.1 ≤ q.1) → (∀ c, l.filter (fun p => p.1 == c) = m.filter (fun p => p.1 == c)) → l = m
  | [], m, hp, _, _, _ => by rw [List.nil_perm.mp hp]
  | x :: l, [], hp, _, _, _ => by cases hp.length_eq
  | x :: l, y :: m, hp, h1, h2, hf => by
    have le1 : x.1 ≤ y.1 := by
      rcases List.mem_cons.mp (hp.mem_iff.mpr (List.mem_cons_self ..) : y ∈ x :: l) with e | e
      · rw [e]; exact Int.le_refl _
      · exact List.rel_of_pairwise_cons h1 e
    have le2 : y.1 ≤ x.1 := by
      rcases List.mem_cons.mp (hp.mem_iff.mp (List.mem_cons_self ..) : x ∈ y :: m) with e | e
      · rw [e]; exact Int.le_refl _
      · exact List.rel_of_pairwise_cons h2 e
    have e : x.1 = y.1 := by omega
    have hx := hf x.1
    rw [List.filter_cons, List.filter_cons, if_pos (by simp), if_pos (by simp [e])] at hx
    obtain ⟨exy, _⟩ := List.cons.inj hx
    subst exy
    rw [stable_one (List.Perm.cons_inv hp) (List.Pairwise.of_cons h1) (List.Pairwise.of_cons h2) fun c => ?_]
    have := hf c
    rw [List.filter_cons, List.filter_cons] at this
    split at this
    · exact (List.cons.inj this).2
    · exact this
theorem insK_map {β : Type} (g : α → β) (x : Int × α) : ∀ l : List (Int × α), (insK x l).map (fun p => (p.1, g p.2)) = insK (x.1, g x.2) (l.map fun p => (p.1, g p.2))
  | [] => rfl
  | y :: r => by
    unfold insK
    by_cases h : x.1 ≤ y.1
    · rw [if_pos h]
      show _ = if x.1 ≤ y.1 then _ else _
      rw [if_pos h]; rfl
    · rw [if_neg h]
      show _ = if x.1 ≤ y.1 then _ else _
      rw [if_neg h, List.map_cons, insK_map g x r]
theorem sortK_map {β : Type} (g : α → β) : ∀ l : List (Int × α), (sortK l).map (fun p => (p.1, g p.2)) = sortK (l.map fun p => (p.1, g p.2))
  | [] => rfl
  | x :: r => by
    show (insK x (sortK r)).map _ = insK _ (sortK (r.map _))
    rw [insK_map, sortK_map g r]
end
/-- sorted pairs of related values are related -/
theorem insK_rel {x : Int × V} {u : Int × Value} (e : x.1 = u.1) (r : RelV x.2 u.2) : ∀ {l : List (Int × V)} {m : List (Int × Value)}, Paired (fun p q => p.1 = q.1 ∧ RelV p.2 q.2) l m → Paired (fun (p : Int × V) (q : Int × Value) => p.1 = q.1 ∧ RelV p.2 q.2) (insK x l) (insK u m)
  | _, _, .nil => .cons ⟨e, r⟩ .nil
  | y :: l, v :: m, .cons h t => by
    unfold insK
    rw [← e, ← h.1]
    split
    · exact .cons ⟨e, r⟩ (.cons h t)
    · exact .cons h (insK_rel e r t)
theorem sortK_rel : ∀ {l : List (Int × V)} {m : List (Int × Value)}, Paired (fun p q => p.1 = q.1 ∧ RelV p.2 q.2) l m → Paired (fun (p : Int × V) (q : Int × Value) => p.1 = q.1 ∧ RelV p.2 q.2) (sortK l) (sortK m)
  | _, _, .nil => .nil
  | _, _, .cons h t => insK_rel h.1 h.2 (sortK_rel t)
theorem zip_rel : ∀ {kz : List Int} {xs : List V} {us : List Value}, Vals xs us → Paired (fun (p : Int × V) (q : Int × Value) => p.1 = q.1 ∧ RelV p.2 q.2) (kz.zip xs) (kz.zip us)
  | [], _, _, _ => .nil
  | _ :: _, _, _, .nil => .nil
  | k :: kz, _, _, .cons r t => .cons ⟨rfl, r⟩ (zip_rel t)
theorem rel_snd : ∀ {l : List (Int × V)} {m : List (Int × Value)}, Paired (fun p q => p.1 = q.1 ∧ RelV p.2 q.2) l m → Vals (l.map Prod.snd) (m.map Prod.snd)
  | _, _, .nil => .nil
  | _, _, .cons h t => .cons h.2 (rel_snd t)
def byKey (ks : List Int) (xs : List V) : List V := (sortK (ks.zip xs)).map Prod.snd
theorem byKey_len {ks : List Int} {xs : List V} (h : ks.length = xs.length) : (byKey ks xs).length = xs.length := by
  unfold byKey
  rw [List.length_map, (sortK_perm _).length_eq, List.length_zip, h, Nat.min_self]
section
variable {X : Cx}
/-- sorted(xs, key=f), f a def whose answer is an int and that leaves the heap -/
def rSortedBy (K : PySem.W.Frag) (f : Addr) (sp : Sp) : List V → List V → Hp → VK → Prop := fun vs zs H Q => ∃ (a : Addr) (xs : List V) (ks : List Int), vs = [V.ref a] ∧ zs = [V.ref f] ∧ (SqL K H a xs ∨ SqT K H a xs) ∧ ks.length = xs.length ∧
  (∀ (i : Nat) (x : V) (k : Int), xs[i]? = some x → ks[i]? = some k → sp [x] H (fun v H' => v = .int k ∧ H' = H) E0) ∧ ∀ p, H p = none → Q (.ref p) (upd H p (.lst (byKey ks xs)))
theorem cr_sortedBy {k : Nat} {f : Addr} {fd : FuncData} {ps : List Str} {sp : Sp} (F : FnOk X.prog X.w X.K X.mg X.base CX0 k f fd ps sp) (hr : Room (k + 2) X.A) (hb : Binds X.K fd ps []) : CallRK X (.builtin "sorted") [Str.ofString "key"] (rSortedBy X.K f sp) := by
  intro pins s σ H xs zs us ws Q I rx rz hq
  obtain ⟨a, ys, ks, rfl, rfl, hS, hkl, hsp, q⟩ := hq
  cases rx with
  | cons r1 r2 =>
    cases r2
    cases r1
    cases rz with
    | cons z1 z2 =>
      cases z2
      cases z1
      obtain ⟨its, rv, hcol, hsm⟩ : ∃ its : List Value, Vals ys its ∧ (∀ (A : Around) (Q : List Value → Shared → Prop) (E : Value → Shared → Prop), Q its { s with heap := (s.heap.push (seqObj "list" #[] 0)).update s.heap.objs.size (Obj.mapSeq (· ++ its.toArray)) } → wpAny (model X.prog X.w) A (collect (.ref a)) Q E s) ∧ its.length ≤ sizeLine := by
        rcases hS with hS | hS
        · obtain ⟨its, rv, hl, hsm⟩ := I.list hS
          have hz' : its.length ≤ sizeLine := by rw [← rv.length]; exact hsm
          exact ⟨its, rv, fun A Q E h => collect_list hl.isList h hz', hz'⟩
        · obtain ⟨its, rv, hl, hsm⟩ := I.tuple hS
          have hz' : its.length ≤ sizeLine := by rw [← rv.length]; exact hsm
          exact ⟨its, rv, fun A Q E h => collect_tup hl hz' h, hz'⟩
      have hlen : ks.length = its.length := by rw [hkl, rv.length]
      show wpAny _ _ (call (.builtin "sorted") [.ref a] [(Str.ofString "key", .ref f)]) _ _ _
      refine call_function_entry_kw kind_sorted plain_sorted entry_sorted (ksk_s1 _ _) ?_
      unfold Builtin.«sorted»
      refine wpAny_bind (m := checkCount "sorted" 1 1 _) (wpAny_pure (wpAny_bind (hcol _ _ _ (wpAny_bind (wpAny_newList ?_ hsm)))))
      generalize hh1 : (s.heap.push (seqObj "list" #[] 0)).update s.heap.objs.size (Obj.mapSeq (· ++ its.toArray)) = h1
      have hz1 : h1.objs.size = s.heap.objs.size + 1 := by rw [← hh1, Heap.size_update, size_push']
      have kp1 : ∀ b o, s.heap.get? b = some o → h1.get? b = some o := fun b o e => by
        rw [← hh1, Heap.get?_update_ne _ _ _ _ (Nat.ne_of_lt (Heap.lt_size e))]
        exact Heap.get?_push_of_some _ e
      have hoL : (h1.push (seqObj "list" its.toArray 0)).get? h1.objs.size = some (seqObj "list" its.toArray 0) := Heap.get?_push_size _ rfl
      have I1 : Inv X pins σ H { s with heap := h1 } := I.kept (t' := s.toks) kp1
      have I2 : Inv X pins σ H { s with heap := h1.push (seqObj "list" its.toArray 0) } := I1.kept (t' := s.toks) fun b o e => Heap.get?_push_of_some _ e
      have fa : FpOk X pins H h1.objs.size := I1.fpOk (Nat.le_refl _) (I1.hok.fresh (Nat.le_refl _))
      refine wpAny_bind (wpAny_holding (wpAny_call_entry_kw slot_list_sort ⟨_, hoL, rfl⟩ entry_list_sort ?_ (ksk_l1 _ _)))
      show wpAny (model X.prog X.w) X.A.in1.in1 (Builtin.«list.sort» ⟨[.ref h1.objs.size], [(Str.ofString "key", .ref f)]⟩) _ _ _
      rw [ksk_t1]
      refine sb_sort (s := { s with heap := h1.push (seqObj "list" its.toArray 0) }) (kz := ks) I2 hoL fa hlen hsm (fun i v k pins' s' hv hk I' => ?_) fun s' out c I' ho' ko => ⟨_, rfl, ?_⟩
      · obtain ⟨x, hx, rxv⟩ : ∃ x, ys[i]? = some x ∧ RelV x v := by
          have hi : i < ys.length := by rw [rv.length]; exact (List.getElem?_eq_some_iff.mp hv).1
          obtain ⟨u, hu, ru⟩ := rv.get (List.getElem?_eq_getElem hi)
          rw [hv] at hu
          cases hu
          exact ⟨_, List.getElem?_eq_getElem hi, ru⟩
        exact run_fn2 F hr hb I' (.cons rxv .nil) (hsp i x k hx hk)
      · obtain ⟨pr, p1, p2, p3, p4⟩ := ko
        have e1 : pr = sortK (ks.zip its) := stable_one (p1.trans (sortK_perm _).symm) (by simpa using p3) (sortK_up _) fun c => (p4 c).trans (sortK_filter c _).symm
        have rel : Vals (byKey ks ys) out.toList := by
          rw [p2, e1]
          exact rel_snd (sortK_rel (zip_rel rv))
        have hbz : (byKey ks ys).length ≤ sizeLine := by rw [byKey_len hkl, rv.length]; exact hsm
        refine wpAny_pure ⟨_, rfl, ?_⟩
        exact ⟨.ref h1.objs.size, upd H h1.objs.size (.lst (byKey ks ys)), adopt I' fa ⟨hbz, out.toList, c, rel, by rw [Array.toArray_toList]; exact ho'⟩, rfl, q _ fa.1⟩
end
end TK

namespace TK
open PySem PySem.Spec PyProof.Rows L2
/-! ### enumerate(tuple) -/
theorem meets_enum1 {v : Value} {o : Obj} {G : Heap → Prop} (B : Begins v o G) :
    Meets (Builtin.«enumerate.__new__» ⟨[.type "enumerate", v], []⟩) (fun _ R s => G s.heap ∧
      R (.ok (.ret (.ref (s.heap.push o).objs.size))) { s with heap := (s.heap.push o).push { cls := .type "enumerate", data := .fields #[.none, .bool false, .ref s.heap.objs.size, rawInt 0, .none, .none] } }) :=
  .of_wp fun prog w A R s hh => by
    obtain ⟨hp, gg, dd, tk, os⟩ := s
    obtain ⟨hG, hR⟩ := hh
    have hsub := sub_enumerate
    have it1 : ∀ {A' : Around} {E' : Value → Shared → Prop} {Q : Value → Shared → Prop}, Q (.ref hp.objs.size) ⟨hp.push o, gg, dd, tk, os⟩ → wpAny (model prog w) A' (pyIter v) Q E' ⟨hp, gg, dd, tk, os⟩ := fun q => B.iter prog w _ _ ⟨hp, gg, dd, tk, os⟩ _ hG q
    wp_walk using it1
    refine wpAny_stack_any fun st => wpAny_pure ?_
    split
    · rename_i c _ _ _ _ _
      cases (c == Value.type "enumerate") <;> (wp_walk using it1; exact ⟨_, rfl, hR⟩)
    · wp_walk using it1
      exact ⟨_, rfl, hR⟩
section
variable {prog : Program} {w : World} {A : Around} {E : Value → Shared → Prop} {s : Shared}
theorem call_enum1 {v : Value} {o : Obj} {G : Heap → Prop} {Q : Value → Shared → Prop} (B : Begins v o G) (hG : G s.heap)
    (h : ∀ h', IsEnum h' (s.heap.objs.size + 1) s.heap.objs.size 0 .none → h'.get? s.heap.objs.size = some o → (∀ b o, s.heap.get? b = some o → h'.get? b = some o) → Q (.ref (s.heap.objs.size + 1)) { s with heap := h' }) :
    wpAny (model prog w) A (call (.type "enumerate") [v]) Q E s := by
  refine callType_new F.called_enumerate (by decide) (F.typeCall_enumerate_1 _) (F.newCall_enumerate_1 _) (fun obj => F.args_object_init_2 obj _) F.entry_enumerate_new (meets_enum1 B) ⟨hG, ?_⟩
  have zp : (s.heap.push o).objs.size = s.heap.objs.size + 1 := Heap.size_push ..
  show _ ∧ _
  rw [zp]
  have gen : IsEnum ((s.heap.push o).push { cls := .type "enumerate", data := .fields #[.none, .bool false, .ref s.heap.objs.size, rawInt 0, .none, .none] }) (s.heap.objs.size + 1) s.heap.objs.size 0 .none := by
    unfold IsEnum
    rw [← zp]
    exact Heap.get?_push_size _ rfl
  exact ⟨⟨_, gen, rfl⟩, h _ gen (Heap.get?_push_of_some _ (Heap.get?_push_size _ B.free)) fun b o q => Heap.get?_push_of_some _ (Heap.get?_push_of_some _ q)⟩
end
def IteT (K : PySem.W.Frag) (a : Addr) (n : Nat) : It :=
  ⟨fun i H => i < n ∧ ∃ xs : List V, SqT K H a xs ∧ xs.length = n, fun i H v H' => ∃ T x, v = .ref T ∧ H T = none ∧ H' = upd H T (.tup [.int (i : Nat), x]) ∧ ∀ xs, SqT K H a xs → xs[i]? = some x, fun i H => n ≤ i ∧ ∃ xs : List V, SqT K H a xs ∧ xs.length = n⟩
theorem turn_enumT {P : Program} {w : World} {K : PySem.W.Frag} {elts : List Expr} {kk : Nat} {tpos : Pos} (a e it : Addr) (n : Nat) (nei : e ≠ it) (nae : a ≠ e) (nai : a ≠ it) :
    Turn P w K (.Tuple elts kk tpos) (IteT K a n) [e, it] e (fun i h => (∃ old, IsEnum h e it ((i : Nat) : Int) old) ∧ h.IsTupleIter it a i ∧ i ≤ n) where
  mem := List.mem_cons_self ..
  obj := fun i h st b hb => by
    obtain ⟨⟨old, gen⟩, ⟨o, ho, _, hd⟩, _⟩ := st
    rcases List.mem_cons.mp hb with z | z
    · rw [z]; exact ⟨_, gen, fun v q => nomatch q⟩
    · rw [List.mem_singleton.mp z]; exact ⟨o, ho, fun v q => by rw [hd] at q; cases q⟩
  keep := fun i h h' st k => by
    obtain ⟨⟨old, gen⟩, hi, hn⟩ := st
    exact ⟨⟨old, k e (by simp) _ gen⟩, hi.at fun o q => k it (by simp) o q, hn⟩
  item := by
    intro X hP hw hK hc i pins s σ H E I hf st hg
    subst hP hw hK
    obtain ⟨⟨old, gen⟩, git, _⟩ := st
    obtain ⟨ltn, xs, hq, hxl⟩ := hg
    obtain ⟨itm, rel, p, zp⟩ := I.tuple hq
    have elt : e < s.heap.objs.size := Heap.lt_size gen
    have ilt : it < s.heap.objs.size := by obtain ⟨_, q, _⟩ := git; exact Heap.lt_size q
    have hsz : itm.toArray.size = n := by rw [List.size_toArray, ← rel.length]; exact hxl
    have D := Draws.tuple (prog := X.prog) (w := X.w) (A := X.A.in1) (I.ok.hd hc) it a nai itm.toArray
    refine wpAny_pyNext_enum_itemD D gen ⟨git, p⟩ (by rw [hsz]; exact ltn) nei (by simp [nei, Ne.symm nae]) fun u h' tk hu ho hst hT _ hk => ?_
    obtain ⟨x, hx, ru⟩ : ∃ x, xs[i]? = some x ∧ RelV x u := by
      obtain ⟨u', hu', ru'⟩ := rel.get (List.getElem?_eq_getElem (show i < xs.length by omega))
      have hu2 : itm[i]? = some u := by simpa using hu
      rw [hu2] at hu'
      cases hu'
      exact ⟨_, List.getElem?_eq_getElem (by omega), ru'⟩
    refine ⟨_, rfl, wpAny_letOwnedTupleGo_enum (s := { s with heap := h', toks := tk + 1 }) ho fun h'' he' sb => ?_⟩
    have atT : h''.get? s.heap.objs.size = some { cls := .type "tuple", data := .seq #[.int i tk, u] } := (sb.2 _ (Nat.ne_of_gt elt)).trans hT
    have new : ObjOk X.prog X.w (upd H s.heap.objs.size (.tup [.int (i : Nat), x])) h'' s.heap.objs.size (.tup [.int (i : Nat), x]) :=
      ⟨by show 2 ≤ sizeLine; decide, [.int i tk, u], .cons ⟨_, rfl⟩ (.cons ru .nil), ⟨_, atT, rfl, _, rfl⟩⟩
    have I1 : Inv X pins σ (upd H s.heap.objs.size (.tup [.int (i : Nat), x])) { s with heap := h'', toks := tk + 1 } :=
      I.turnedNew (ch := [e, it]) (fun b ob hb q => (sb.2 b (fun z => hb (by simp [z]))).trans (hk b ob (fun z => hb (by simp [z])) (fun z => hb (by simp [z])) q)) hf (Nat.le_refl _) new
    refine ⟨.ref s.heap.objs.size, _, I1, rfl, ⟨_, x, rfl, I.hok.fresh (Nat.le_refl _), rfl, fun ys hy => by rw [I.tuple_inj hy hq]; exact hx⟩, ⟨⟨u, ?_⟩, hst.1.at fun o q => (sb.2 it (Ne.symm nei)).trans q, by omega⟩, fun b hb => ?_⟩
    · rw [show ((i + 1 : Nat) : Int) = (i : Int) + 1 by omega]; exact he'
    · have blt : b < s.heap.objs.size := by
        rcases List.mem_cons.mp hb with z | z
        · rw [z]; exact elt
        · rw [List.mem_singleton.mp z]; exact ilt
      rw [upd_ne (Nat.ne_of_lt blt)]
      exact (hf b hb).1
  done := by
    intro X hP hw hK hc i pins s σ H E I hf st hg
    subst hP hw hK
    obtain ⟨⟨old, gen⟩, git, ble⟩ := st
    obtain ⟨hge, xs, hq, hxl⟩ := hg
    obtain ⟨itm, rel, p, zp⟩ := I.tuple hq
    have hin : i = itm.toArray.size := by rw [List.size_toArray, ← rel.length]; omega
    obtain ⟨q0, q1, q2, q3, q4, q5⟩ := hf it (by simp)
    have D := Draws.tuple (prog := X.prog) (w := X.w) (A := X.A.in1) (I.ok.hd hc) it a nai itm.toArray
    refine wpAny_pyNext_enum_endD D gen ⟨by rw [← hin]; exact git, p⟩ fun h' eb => ⟨rfl, I.turned (t' := s.toks) (fun b o hb q => eb b o hb q) q0 q1 q3 q4 q5⟩
  self := fun A i s Q E st h => by
    obtain ⟨⟨_, gen⟩, _⟩ := st
    exact wpAny_pyIter_enum gen h
def iEnumT (K : PySem.W.Frag) (ta : TA) : TI := fun σ H R => ta σ H fun vs H1 => ∃ a xs, vs = [.ref a] ∧ SqT K H1 a xs ∧ R (IteT K a xs.length) H1
theorem pi_enumT {X : Cx} {e : Expr} {ta : TA} {p pos tpos : Pos} {elts : List Expr} {kk : Nat} (hg : Gl X "enumerate") (hm : X.mg "enumerate" = none) (ha : PA X [e] ta) (hs : starEach [e] X.env = [(false, eval e X.env)] := by rfl) :
    PI X (.Tuple elts kk tpos) (.Call (.Name "enumerate" p) [e] [] pos) (iEnumT X.K ta) := by
  refine ⟨fun pins s σ H R I h => Call_ (ld_blt I hg hm boot_enumerate (PyProof.Rows.callWith_type1 (thn (ha.run pos pins s σ H _ I h) fun us s1 ⟨vs, H1, I1, r1, q1⟩ => ?_) hs rfl))⟩
  obtain ⟨a, xs, rfl, hq, q⟩ := q1
  cases r1 with
  | cons r rr =>
    cases rr
    cases r
    obtain ⟨itm, rel, p', zp⟩ := I1.tuple hq
    have hal : a < s1.heap.objs.size := by obtain ⟨_, q, _⟩ := p'; exact Heap.lt_size q
    refine call_enum1 (begins_tuple a itm.toArray) p' fun h' gen git hk => wpAny_pyIter_enum gen ?_
    have J2 : Inv X pins σ H1 { s1 with heap := h' } := I1.kept (t' := s1.toks) hk
    refine ⟨s1.heap.objs.size + 1, [s1.heap.objs.size + 1, s1.heap.objs.size], _, _, H1, rfl, J2, turn_enumT a (s1.heap.objs.size + 1) s1.heap.objs.size xs.length (Nat.succ_ne_self _) (Nat.ne_of_lt (Nat.lt_succ_of_lt hal)) (Nat.ne_of_lt hal), ⟨⟨.none, gen⟩, ⟨_, git, rfl, rfl⟩, Nat.zero_le _⟩, fun b hb => ?_, q⟩
    have ble : s1.heap.objs.size ≤ b := by
      rcases List.mem_cons.mp hb with z | z
      · rw [z]; exact Nat.le_add_right _ _
      · rw [List.mem_singleton.mp z]; exact Nat.le_refl _
    exact I1.fpOk ble (I1.hok.fresh ble)
theorem walk_enumT {K : PySem.W.Frag} {a : Addr} {xs : List V} : Walk (IteT K a xs.length) xs.length (fun H => SqT K H a xs) (YPair (fun i => some (.int (i : Nat))) (fun i => xs[i]?)) where
  goes := fun i H hi hG => ⟨hi, xs, hG, rfl⟩
  stops := fun H hG => ⟨Nat.le_refl _, xs, hG, rfl⟩
  yields := fun i H x H' _ hG hy => by
    obtain ⟨T, v, e1, e2, e3, e4⟩ := hy
    exact ⟨T, _, v, e1, e2, e3, rfl, e4 xs hG⟩
end TK

namespace TK
open PySem PySem.Spec PyProof.Rows L2
/-! ### max(xs, default=d), min(xs, default=d) of ints -/
theorem hold_ints {h : Heap} : ∀ {us : List Value} {ns : List Int}, IntsAre us ns → ∃ as, ReadsAll h us (ns.map PySem.W.Datum.toD) as
  | _, _, .nil => ⟨[], .nil⟩
  | _, _, .cons n t r => by
    obtain ⟨as, ra⟩ := hold_ints (h := h) r
    exact ⟨[] ++ as, .cons (.int n t) ra⟩
theorem hold_int {h : Heap} {v : Value} {m : Int} (H : PySem.W.Holds h v m) : ∃ t, v = Value.int m t := by
  obtain ⟨as, r⟩ := H
  have r : Reads h v (.int m) as := r
  cases r with
  | int i t => exact ⟨t, rfl⟩
theorem maxOf_is : ∀ (ys : List Int) (y : Int), PySem.W.maxOf y ys ∈ y :: ys ∧ ∀ z ∈ y :: ys, z ≤ PySem.W.maxOf y ys
  | [], y => ⟨List.mem_cons_self .., fun z hz => by cases List.mem_singleton.mp hz; exact Int.le_refl _⟩
  | a :: ys, y => by
    have e : PySem.W.maxOf y (a :: ys) = PySem.W.maxOf (if y < a then a else y) ys := by
      show List.foldl _ (if decide (y < a) = true then a else y) ys = _
      by_cases h : y < a
      · rw [if_pos (decide_eq_true h), if_pos h]; rfl
      · rw [if_neg (by simpa using h), if_neg h]; rfl
    obtain ⟨h1, h2⟩ := maxOf_is ys (if y < a then a else y)
    rw [e]
    by_cases h : y < a
    · rw [if_pos h] at h1 h2 ⊢
      refine ⟨?_, fun z hz => ?_⟩
      · exact List.mem_cons_of_mem _ h1
      · rcases List.mem_cons.mp hz with q | q
        · have := h2 a (List.mem_cons_self ..)
          omega
        · exact h2 z q
    · rw [if_neg h] at h1 h2 ⊢
      refine ⟨?_, fun z hz => ?_⟩
      · rcases List.mem_cons.mp h1 with q | q
        · rw [q]; exact List.mem_cons_self ..
        · exact List.mem_cons_of_mem _ (List.mem_cons_of_mem _ q)
      · rcases List.mem_cons.mp hz with q | q
        · rw [q]; exact h2 y (List.mem_cons_self ..)
        · rcases List.mem_cons.mp q with q | q
          · have := h2 y (List.mem_cons_self ..)
            omega
          · exact h2 z (List.mem_cons_of_mem _ q)
theorem minOf_is : ∀ (ys : List Int) (y : Int), PySem.W.minOf y ys ∈ y :: ys ∧ ∀ z ∈ y :: ys, PySem.W.minOf y ys ≤ z
  | [], y => ⟨List.mem_cons_self .., fun z hz => by cases List.mem_singleton.mp hz; exact Int.le_refl _⟩
  | a :: ys, y => by
    have e : PySem.W.minOf y (a :: ys) = PySem.W.minOf (if a < y then a else y) ys := by
      show List.foldl _ (if decide (a < y) = true then a else y) ys = _
      by_cases h : a < y
      · rw [if_pos (decide_eq_true h), if_pos h]; rfl
      · rw [if_neg (by simpa using h), if_neg h]; rfl
    obtain ⟨h1, h2⟩ := minOf_is ys (if a < y then a else y)
    rw [e]
    by_cases h : a < y
    · rw [if_pos h] at h1 h2 ⊢
      refine ⟨?_, fun z hz => ?_⟩
      · exact List.mem_cons_of_mem _ h1
      · rcases List.mem_cons.mp hz with q | q
        · have := h2 a (List.mem_cons_self ..)
          omega
        · exact h2 z q
    · rw [if_neg h] at h1 h2 ⊢
      refine ⟨?_, fun z hz => ?_⟩
      · rcases List.mem_cons.mp h1 with q | q
        · rw [q]; exact List.mem_cons_self ..
        · exact List.mem_cons_of_mem _ (List.mem_cons_of_mem _ q)
      · rcases List.mem_cons.mp hz with q | q
        · rw [q]; exact h2 y (List.mem_cons_self ..)
        · rcases List.mem_cons.mp q with q | q
          · have := h2 y (List.mem_cons_self ..)
            omega
          · exact h2 z (List.mem_cons_of_mem _ q)
def rMaxDef (K : PySem.W.Frag) : List V → List V → Hp → VK → Prop := fun vs zs H Q => ∃ (a : Addr) (ns : List Int) (d : V), vs = [V.ref a] ∧ zs = [d] ∧ SqL K H a (ns.map V.int) ∧ (ns = [] → Q d H) ∧ ∀ m, m ∈ ns → (∀ y, y ∈ ns → y ≤ m) → Q (.int m) H
def rMinDef (K : PySem.W.Frag) : List V → List V → Hp → VK → Prop := fun vs zs H Q => ∃ (a : Addr) (ns : List Int) (d : V), vs = [V.ref a] ∧ zs = [d] ∧ SqL K H a (ns.map V.int) ∧ (ns = [] → Q d H) ∧ ∀ m, m ∈ ns → (∀ y, y ∈ ns → m ≤ y) → Q (.int m) H
section
variable {X : Cx}
theorem cr_maxDef (hc : X.calm = true) (hu : X.A.units + 64 < cLine) : CallRK X (.builtin "max") [Str.ofString "default"] (rMaxDef X.K) := by
  intro pins s σ H xs zs us ws Q I rx rz hq
  obtain ⟨a, ns, d, rfl, rfl, hs, q0, q1⟩ := hq
  rw [Vals.ref1 rx]
  cases rz with
  | cons z1 z2 =>
    cases z2
    obtain ⟨its, rv, hl, _⟩ := I.list hs
    refine PySem.W.max_list_datum_default (α := Int) (xs := ns) (I.ok.hd hc) hl.isList (hold_ints rv.ints) (by show X.A.units + 1 + 0 < cLine; omega) (fun e h' tk hk => ⟨d, H, I.kept hk, z1, q0 e⟩) fun y ys i v h' tk e _ hv hk => ?_
    obtain ⟨t, rfl⟩ := hold_int hv
    obtain ⟨m1, m2⟩ := maxOf_is ys y
    exact ⟨.int _, H, I.kept hk, ⟨_, rfl⟩, q1 _ (by rw [e]; exact m1) fun z hz => m2 z (by rw [e] at hz; exact hz)⟩
theorem cr_minDef (hc : X.calm = true) (hu : X.A.units + 64 < cLine) : CallRK X (.builtin "min") [Str.ofString "default"] (rMinDef X.K) := by
  intro pins s σ H xs zs us ws Q I rx rz hq
  obtain ⟨a, ns, d, rfl, rfl, hs, q0, q1⟩ := hq
  rw [Vals.ref1 rx]
  cases rz with
  | cons z1 z2 =>
    cases z2
    obtain ⟨its, rv, hl, _⟩ := I.list hs
    refine PySem.W.min_list_datum_default (α := Int) (xs := ns) (I.ok.hd hc) hl.isList (hold_ints rv.ints) (by show X.A.units + 1 + 0 < cLine; omega) (fun e h' tk hk => ⟨d, H, I.kept hk, z1, q0 e⟩) fun y ys i v h' tk e _ hv hk => ?_
    obtain ⟨t, rfl⟩ := hold_int hv
    obtain ⟨m1, m2⟩ := minOf_is ys y
    exact ⟨.int _, H, I.kept hk, ⟨_, rfl⟩, q1 _ (by rw [e]; exact m1) fun z hz => m2 z (by rw [e] at hz; exact hz)⟩
end
/-! ### t[::-1] of a tuple -/
section
variable {prog : Program} {w : World} {A : Around} {E : Value → Shared → Prop} {s : Shared}
theorem places_rev (n : Nat) : Builtin.Slice.slicePlaces ((n : Int) - 1) (-1) (-1) = n := by
  unfold Builtin.Slice.slicePlaces
  rw [if_neg (by decide)]
  by_cases h : n = 0
  · subst h; rfl
  · rw [if_pos (by omega), show -(-1 : Int) = 1 from rfl, Int.ediv_one]
    omega
theorem applied_rev {sl : Addr} {vl vu vs : Value} {n : Nat} {Q : Int × Int × Nat → Shared → Prop} (hs : s.heap.IsSliceOf sl vl vu vs) (pl : IsPart vl none) (pu : IsPart vu none) (ps : IsPart vs (some (-1)))
    (h : Q ((n : Int) - 1, -1, n) s) : wpAny (model prog w) A (Builtin.Slice.sliceApplied (.ref sl) (pure (n : Int))) Q E s := by
  obtain ⟨ob, go, _, gd⟩ := id hs
  unfold Builtin.Slice.sliceApplied Builtin.Slice.sliceFields
  refine wpAny_bind (wpAny_bind (wpAny_field go gd (x := vl) rfl (wpAny_bind (wpAny_field go gd (x := vu) rfl (wpAny_bind (wpAny_field go gd (x := vs) rfl (wpAny_pure ?_)))))))
  refine wpAny_bind (HT.slicePart_ ps ?_)
  show wpAny _ _ (if ((-1 : Int) == 0) = true then _ else _) _ _ s
  rw [if_neg (by decide)]
  refine wpAny_bind (HT.slicePart_ pl (wpAny_bind (HT.slicePart_ pu (wpAny_bind (wpAny_pure ?_)))))
  show wpAny _ _ (pure ((n : Int) - 1, (-1 : Int), Builtin.Slice.slicePlaces ((n : Int) - 1) (-1) (-1))) _ _ s
  rw [places_rev]
  exact wpAny_pure h
theorem fm_congr {α β : Type} {f g : α → Option β} : ∀ {l : List α}, (∀ x ∈ l, f x = g x) → l.filterMap f = l.filterMap g
  | [], _ => rfl
  | x :: r, h => by
    rw [List.filterMap_cons, List.filterMap_cons, h x (List.mem_cons_self ..), fm_congr fun y hy => h y (List.mem_cons_of_mem _ hy)]
theorem pick_rev (xs : Array Value) : ((List.range xs.size).filterMap fun (m : Nat) => xs[((xs.size : Int) - 1 + (m : Int) * (-1)).toNat]?).toArray = xs.toList.reverse.toArray := by
  have e : ((List.range xs.size).filterMap fun (m : Nat) => xs[((xs.size : Int) - 1 + (m : Int) * (-1)).toNat]?) = ((List.range xs.size).map fun k => xs.size - 1 - k).filterMap (xs[·]?) := by
    rw [List.filterMap_map]
    refine fm_congr fun m hm => ?_
    have := List.mem_range.mp hm
    show xs[_]? = xs[xs.size - 1 - m]?
    congr 1
    omega
  rw [e, PySem.W.krv_range, List.filterMap_reverse, PySem.W.krv_all]
theorem getItem_tup_rev {t sl : Addr} {items : Array Value} {vl vu vs : Value} {Q : Value → Shared → Prop} (ht : IsTup s.heap t items) (hs : s.heap.IsSliceOf sl vl vu vs) (pl : IsPart vl none) (pu : IsPart vu none) (ps : IsPart vs (some (-1)))
    (h : Q (.ref s.heap.objs.size) { s with heap := s.heap.push { cls := .type "tuple", data := .seq items.toList.reverse.toArray } }) (hsz : items.size ≤ sizeLine) : wpAny (model prog w) A (getItem (.ref t) (.ref sl)) Q E s := by
  have small : sizeOk (.seq items.toList.reverse.toArray) := by
    show items.toList.reverse.toArray.size ≤ sizeLine
    rw [List.size_toArray, List.length_reverse, Array.length_toList]
    exact hsz
  obtain ⟨ob, go, gc, gd⟩ := id hs
  unfold getItem
  try with_reducible refine wpAny_holding ?_
  first | refine wpAny_bind (wpAny_pure ?_) | skip
  refine wpAny_bind (wpAny_sequenceKey ht.typeIs (by decide) (wpAny_bind (wpAny_callSpecial?_slot (name := Str.ofString "__getitem__") ht.typeIs PyProof.Rows.slot_tuple_getitem (wpAny_call_entry PyProof.Rows.slot_tuple_getitem ht.typeIs entry_tuple_getitem ?_ (args_tuple_getitem _ _)))))
  show wpAny _ _ (Builtin.Tuple.tupleItemsOf (.ref t) >>= _) _ _ s
  refine wpAny_bind (tupleItemsOf_ ht (wpAny_bind (wpAny_typeOf ⟨ob, go, gc⟩ ?_)))
  rw [if_pos (by decide)]
  refine wpAny_bind (applied_rev hs pl pu ps ?_)
  show wpAny _ _ (if (((items.size : Int) - 1) == 0 && (-1 : Int) == 1 && items.size == items.size) = true then _ else _) _ _ s
  rw [if_neg (by rw [show ((-1 : Int) == 1) = false from rfl, Bool.and_false, Bool.false_and]; decide), pick_rev]
  first
    | exact wpAny_bind (m := Builtin.Tuple.tupleExact _) (wpAny_newObj_type (wpAny_pure ⟨_, rfl, wpAny_pure h⟩) small)
    | exact wpAny_bind (m := Builtin.Tuple.tupleExact _) (wpAny_newObj_type (wpAny_bind (wpAny_pure (wpAny_pure ⟨_, rfl, wpAny_pure h⟩))) small)
    | exact wpAny_bind (wpAny_bind (m := Builtin.Tuple.tupleExact _) (wpAny_newObj_type (wpAny_pure (wpAny_pure ⟨_, rfl, wpAny_pure h⟩)) small))
    | exact wpAny_bind (wpAny_bind (m := Builtin.Tuple.tupleExact _) (wpAny_newObj_type (wpAny_pure ⟨_, rfl, wpAny_pure h⟩) small))
end
def tRevT (K : PySem.W.Frag) (te : TE) : TE := fun σ H Q => te σ H fun x H1 => ∃ a xs, x = .ref a ∧ SqT K H1 a xs ∧ ∀ p, H1 p = none → Q (.ref p) (upd H1 p (.tup xs.reverse))
theorem pe_revT {X : Cx} {e : Expr} {te : TE} {k : Nat} {p1 p2 p3 pos : Pos} (he : PE X e te) : PE X (.Subscript e (.Slice none none (some (.UnaryOp .USub (.Constant (.int 1) k p1) p2)) p3) pos) (tRevT X.K te) := by
  refine ⟨fun pins s σ H Q I h => Subscript_ (thn (he.run pins s σ H _ I h) fun v s1 ⟨x, H1, I1, r1, a, xs, ex, hx, q⟩ => ?_)⟩
  subst ex
  cases r1
  have one : PO X (some (.UnaryOp .USub (.Constant (.int 1) k p1) p2)) (tPart (tUn (rU fun i => .int (-i)) (tC (.int 1)))) := po_some (pe_un un_neg pe_int)
  refine wpAny_Slice (thn (po_none.run pins s1 σ H1 (fun o G => o = none ∧ G = H1) I1 ⟨rfl, rfl⟩) fun vl s2 ⟨l, H2, I2, pl, el, e2⟩ => ?_)
  subst el e2
  refine thn (po_none.run pins s2 σ H2 (fun o G => o = none ∧ G = H2) I2 ⟨rfl, rfl⟩) fun vu s3 ⟨u, H3, I3, pu, eu, e3⟩ => ?_
  subst eu e3
  refine thn (one.run pins s3 σ H3 (fun o G => o = some (-1) ∧ G = H3) I3 ⟨1, rfl, -1, rfl, rfl, rfl⟩) fun vs s4 ⟨o, H4, I4, ps, eo, e4⟩ => ?_
  subst eo e4
  have J : Inv X pins σ H4 { s4 with heap := s4.heap.push { cls := .type "slice", data := .fields #[vl, vu, vs] } } := I4.kept (t' := s4.toks) fun b ob q => Heap.get?_push_of_some _ q
  obtain ⟨itm, r, ht, hz⟩ := J.tuple hx
  have hlen := r.length
  show wpAny (model X.prog X.w) X.A (subscriptTail e (.Slice none none (some (.UnaryOp .USub (.Constant (.int 1) k p1) p2)) p3) (.ref a) (.ref s4.heap.objs.size)) (EP X pins σ Q) X.xe { s4 with heap := s4.heap.push { cls := .type "slice", data := .fields #[vl, vu, vs] } }
  refine tail_any (ops := [.ref a, .ref s4.heap.objs.size]) ht.typeIs PyProof.Rows.slot_tuple_getitem.lookup ?_ (by with_unfolding_all rfl)
  refine getItem_tup_rev ht (Heap.IsSliceOf.new _ vl vu vs) pl pu ps ?_ (by rw [List.size_toArray]; omega)
  refine ⟨.ref _, _, J.laid (t' := s4.toks) (o := .tup xs.reverse) (fun b ob q => Heap.get?_push_of_some _ q) (Nat.le_refl _) ?_, rfl, q _ (J.hok.fresh (Nat.le_refl _))⟩
  exact ⟨by rw [List.length_reverse]; exact hz, _, r.reverse, IsTup.new _ _⟩
end TK

namespace TK
open PySem PySem.Spec PyProof.Rows L2
section
variable {X : Cx}
/-! ### a word of one's own in the middle; two ways to read the same text -/
theorem ps_cut {st : Stmt} {t : TS} (h : PS X st t) : PS X st (fun D σ H => ∃ R : L2.St → Hp → Prop, t { D with nx := R } σ H ∧ ∀ σ' H', R σ' H' → D.nx σ' H') :=
  ⟨fun pins s σ H D I ⟨R, q, k⟩ => thn (h.run pins s σ H _ I q) fun f s' z => by
    cases f with
    | next => obtain ⟨σ', H', I', r⟩ := z; exact ⟨σ', H', I', k _ _ r⟩
    | brk => exact z
    | cont => exact z
    | ret u => exact z⟩
theorem pe_cut {e : Expr} {t : TE} (h : PE X e t) : PE X e (fun σ H Q => ∃ R : VK, t σ H R ∧ ∀ v H', R v H' → Q v H') :=
  ⟨fun pins s σ H Q I ⟨R, q, k⟩ => thn (h.run pins s σ H _ I q) fun v s' z => by
    obtain ⟨x, H', I', r, q'⟩ := z
    exact ⟨x, H', I', r, k _ _ q'⟩⟩
theorem pt_cut {e : Expr} {t : TT} (h : PT X e t) : PT X e (fun σ H Q => ∃ R : Bool → Hp → Prop, t σ H R ∧ ∀ b H', R b H' → Q b H') :=
  ⟨fun pins s σ H Q I ⟨R, q, k⟩ => thn (h.run pins s σ H _ I q) fun v s' z => by
    obtain ⟨H', I', q'⟩ := z
    exact ⟨H', I', k _ _ q'⟩⟩
theorem pi_or {tg it : Expr} {w1 w2 : TI} (h1 : PI X tg it w1) (h2 : PI X tg it w2) : PI X tg it (fun σ H R => w1 σ H R ∨ w2 σ H R) :=
  ⟨fun pins s σ H R I h => h.elim (h1.run pins s σ H R I) (h2.run pins s σ H R I)⟩
theorem ps_or {st : Stmt} {t1 t2 : TS} (h1 : PS X st t1) (h2 : PS X st t2) : PS X st (fun D σ H => t1 D σ H ∨ t2 D σ H) :=
  ⟨fun pins s σ H D I h => h.elim (h1.run pins s σ H D I) (h2.run pins s σ H D I)⟩
theorem pe_or2 {e : Expr} {t1 t2 : TE} (h1 : PE X e t1) (h2 : PE X e t2) : PE X e (fun σ H Q => t1 σ H Q ∨ t2 σ H Q) :=
  ⟨fun pins s σ H Q I h => h.elim (h1.run pins s σ H Q I) (h2.run pins s σ H Q I)⟩
theorem pt_or2 {e : Expr} {t1 t2 : TT} (h1 : PT X e t1) (h2 : PT X e t2) : PT X e (fun σ H Q => t1 σ H Q ∨ t2 σ H Q) :=
  ⟨fun pins s σ H Q I h => h.elim (h1.run pins s σ H Q I) (h2.run pins s σ H Q I)⟩
end
end TK

namespace TK
open PySem PySem.Spec PyProof.Rows L2
section
variable {X : Cx}
/-! sum(t), a tuple of ints -/
def rSumT (K : PySem.W.Frag) : List V → Hp → VK → Prop := fun vs H Q => ∃ (a : Addr) (ns : List Int), vs = [V.ref a] ∧ SqT K H a (ns.map V.int) ∧ Q (.int ns.sum) H
theorem cr_sumT (hc : X.calm = true) : CallR X (.builtin "sum") (rSumT X.K) := by
  intro pins s σ H vs us Q I r h
  obtain ⟨a, ns, rfl, hs, q⟩ := h
  obtain ⟨itm, rv, p, _⟩ := I.tuple hs
  rw [Vals.ref1 r]
  obtain ⟨xs, e⟩ := rv.ints.allInts.items
  have hn : numsOf itm.toArray.toList = ns := rv.ints.numsOf
  rw [e, nums_intItems] at hn
  refine PySem.W.ktm_sumG (I.ok.hd hc) (e ▸ p) fun h' tk t' hk => ?_
  rw [preSum_eq, List.take_of_length_le (by simp), hn]
  exact ⟨.int _, H, I.kept hk, ⟨_, rfl⟩, q⟩
/-- *e within a comprehension -/
theorem pa_starK {K : PySem.W.Frag} {e : Expr} {es : List Expr} {te : TE} {t : TA} {p : Pos} (h : X.K = K) (he : PE X e te) (hr : PA X es t) (hs : starEach (.Starred e p :: es) X.env = (true, eval e X.env) :: starEach es X.env := by rfl) : PA X (.Starred e p :: es) (StX.tStar K te t) := h ▸ StX.pa_star he hr hs
theorem op_eqDK {K : PySem.W.Frag} (h : X.K = K) (hu : X.A.units + 64 < cLine) : OpR X (compareOp .Eq) (rEqD K) := h ▸ op_eqD hu
theorem op_neDK {K : PySem.W.Frag} (h : X.K = K) (hu : X.A.units + 64 < cLine) : OpR X (compareOp .NotEq) (rNeD K) := h ▸ op_neD hu
/-! ### objects at a row of addresses -/
def At (H : Hp) (us : List Addr) (os : List HO) : Prop := us.length = os.length ∧ ∀ (i : Nat) (u : Addr) (o : HO), us[i]? = some u → os[i]? = some o → H u = some o
theorem At.same {H H' : Hp} {us : List Addr} {os : List HO} (h : At H us os) (s : Same H H') : At H' us os := ⟨h.1, fun i u o a b => s _ _ (h.2 i u o a b)⟩
theorem At.nil {H : Hp} : At H [] [] := ⟨rfl, fun i u o a _ => by simp at a⟩
theorem At.append {H : Hp} {us vs : List Addr} {os ps : List HO} (h : At H us os) (k : At H vs ps) : At H (us ++ vs) (os ++ ps) := by
  refine ⟨by rw [List.length_append, List.length_append, h.1, k.1], fun i u o a b => ?_⟩
  by_cases hi : i < us.length
  · rw [List.getElem?_append_left hi] at a
    rw [List.getElem?_append_left (by rw [← h.1]; exact hi)] at b
    exact h.2 i u o a b
  · rw [List.getElem?_append_right (by omega)] at a
    rw [List.getElem?_append_right (by rw [← h.1]; omega), ← h.1] at b
    exact k.2 _ u o a b
theorem At.one {H : Hp} {u : Addr} {o : HO} (e : H u = some o) : At H [u] [o] := ⟨rfl, fun i u' o' a b => by
  match i, a, b with
  | 0, a, b =>
    cases a
    cases b
    exact e⟩
theorem At.get {H : Hp} {us : List Addr} {os : List HO} {i : Nat} {x : V} (h : At H us os) (e : (us.map V.ref)[i]? = some x) : ∃ (u : Addr) (o : HO), x = .ref u ∧ us[i]? = some u ∧ os[i]? = some o ∧ H u = some o := by
  rw [List.getElem?_map] at e
  cases ht : us[i]? with
  | none => rw [ht] at e; cases e
  | some t =>
    rw [ht] at e
    cases e
    have hi : i < os.length := by rw [← h.1]; exact (List.getElem?_eq_some_iff.mp ht).1
    exact ⟨t, os[i], rfl, rfl, List.getElem?_eq_getElem hi, h.2 i t _ ht (List.getElem?_eq_getElem hi)⟩
/-- a list elsewhere is written anew -/
theorem At.wrote {H : Hp} {us : List Addr} {os : List HO} {D : Addr} {xs : List V} {o : HO} (h : At H us os) (t : ∀ p ∈ os, ∃ ys, p = HO.tup ys) (e : H D = some (.lst xs)) : At (upd H D o) us os := ⟨h.1, fun i u p a b => by
  have := h.2 i u p a b
  rw [upd_ne fun z => ?_]
  · exact this
  · subst z
    obtain ⟨ys, rfl⟩ := t p (List.mem_of_getElem? b)
    rw [e] at this
    cases this⟩
end
end TK

namespace TK
open PySem PySem.Spec PyProof.Rows L2
/-! ### zip(tuple, list) -/
def ItzM (K : PySem.W.Frag) (a b : Addr) : It :=
  ⟨fun i H => ∃ xs ys : List V, SqT K H a xs ∧ SqL K H b ys ∧ i < xs.length ∧ i < ys.length,
    fun i H v H' => ∃ T x y, v = .ref T ∧ H T = none ∧ H' = upd H T (.tup [x, y]) ∧ (∀ xs, SqT K H a xs → xs[i]? = some x) ∧ ∀ ys, SqL K H b ys → ys[i]? = some y,
    fun i H => ∃ xs ys : List V, SqT K H a xs ∧ SqL K H b ys ∧ i ≤ xs.length ∧ i ≤ ys.length ∧ (i = xs.length ∨ i = ys.length)⟩
theorem ne_nat {x y : Nat} (h : x < y ∨ y < x) : x ≠ y := by omega
theorem no_two {x p q : Nat} (h1 : x < p ∨ p < x) (h2 : x < q ∨ q < x) : x ∉ [p, q] := by
  intro h
  rcases List.mem_cons.mp h with z | z
  · exact ne_nat h1 z
  · exact ne_nat h2 (List.mem_singleton.mp z)
theorem sep_zip (I a b : Nat) (la : a < I) (lb : b < I) : ZipSep2 (I + 4) (I + 2) (I + 3) I (I + 1) [I, a] [I + 1, b] :=
  ⟨ne_nat (x := I + 2) (y := I + 4) (by omega), ne_nat (x := I + 3) (y := I + 4) (by omega), ne_nat (x := I + 2) (y := I + 3) (by omega), ne_nat (x := I + 2) (y := I) (by omega), List.mem_cons_self .., no_two (x := I + 4) (by omega) (by omega), no_two (x := I + 3) (by omega) (by omega),
    ne_nat (x := I + 2) (y := I + 1) (by omega), List.mem_cons_self .., no_two (x := I + 4) (by omega) (by omega), no_two (x := I + 3) (by omega) (by omega), no_two (x := I) (by omega) (by omega), no_two (x := I + 1) (by omega) (by omega)⟩
theorem turn_zipM {P : Program} {w : World} {K : PySem.W.Frag} {elts : List Expr} {kk : Nat} {tpos : Pos} {a b z TI TO i1 i2 : Addr} (S : ZipSep2 z TI TO i1 i2 [i1, a] [i2, b]) (na : a ≠ i1) (nb : b ≠ i2) :
    Turn P w K (.Tuple elts kk tpos) (ItzM K a b) [z, TI, TO, i1, i2] z (fun i h => IsZip h z TI TO .none ∧ IsTupOf2 h TI (.ref i1) (.ref i2) ∧ (∃ x y, IsTupOf2 h TO x y) ∧ h.IsTupleIter i1 a i ∧ h.IsListIter i2 b i) where
  mem := by simp
  obj := fun i h st c hc => by
    obtain ⟨hz, hTI, ⟨x, y, hTO⟩, ⟨o1, e1, _, d1⟩, ⟨o2, e2, _, d2⟩⟩ := st
    have e' : c = z ∨ c = TI ∨ c = TO ∨ c = i1 ∨ c = i2 := by simpa using hc
    rcases e' with rfl | rfl | rfl | rfl | rfl
    · exact ⟨_, hz, fun v q => nomatch q⟩
    · exact ⟨_, hTI, fun v q => nomatch q⟩
    · exact ⟨_, hTO, fun v q => nomatch q⟩
    · exact ⟨o1, e1, fun v q => by rw [d1] at q; cases q⟩
    · exact ⟨o2, e2, fun v q => by rw [d2] at q; cases q⟩
  keep := fun i h h' st k => by
    obtain ⟨hz, hTI, ⟨x, y, hTO⟩, h1, h2⟩ := st
    exact ⟨k z (by simp) _ hz, k TI (by simp) _ hTI, ⟨x, y, k TO (by simp) _ hTO⟩, h1.at fun o q => k i1 (by simp) o q, h2.at fun o q => k i2 (by simp) o q⟩
  item := by
    intro X hP hw hK hc i pins s σ H E I hf st hg
    subst hP hw hK
    obtain ⟨hz, hTI, ⟨x0, y0, hTO⟩, h1, h2⟩ := st
    obtain ⟨xs, ys, hqx, hqy, lx, ly⟩ := hg
    obtain ⟨its, rv, p, _⟩ := I.tuple hqx
    obtain ⟨its2, rv2, p2, _⟩ := I.list hqy
    have hzl : z < s.heap.objs.size := Heap.lt_size hz
    have n1 : its.toArray.size = xs.length := by rw [List.size_toArray, ← rv.length]
    have n2 : its2.toArray.size = ys.length := by rw [List.size_toArray, ← rv2.length]
    have D1 := Draws.tuple (prog := X.prog) (w := X.w) (A := X.A.in1) (I.ok.hd hc) i1 a na its.toArray
    have D2 := Draws.list (prog := X.prog) (w := X.w) (A := X.A.in1) (I.ok.hd hc) i2 b nb its2.toArray
    refine wpAny_pyNext_zipD2_item S D1 D2 hz hTI hTO ⟨h1, p⟩ ⟨h2, p2.isList⟩ (by rw [n1]; exact lx) (by rw [n2]; exact ly) fun u u2 h' tk hu hu2 z' TO' d1 d2 hT hsz hk => ?_
    refine ⟨_, rfl, wpAny_letOwnedTupleGo_zip (s := { s with heap := h', toks := tk }) z' fun h'' z'' sb => ?_⟩
    obtain ⟨x, hx, ru⟩ : ∃ x, xs[i]? = some x ∧ RelV x u := by
      obtain ⟨v, hv, r⟩ := rv.get (List.getElem?_eq_getElem lx)
      have : its[i]? = some u := by simpa using hu
      rw [this] at hv
      cases hv
      exact ⟨_, List.getElem?_eq_getElem lx, r⟩
    obtain ⟨y, hy, ru2⟩ : ∃ y, ys[i]? = some y ∧ RelV y u2 := by
      obtain ⟨v, hv, r⟩ := rv2.get (List.getElem?_eq_getElem ly)
      have : its2[i]? = some u2 := by simpa using hu2
      rw [this] at hv
      cases hv
      exact ⟨_, List.getElem?_eq_getElem ly, r⟩
    have hT2 : h''.get? s.heap.objs.size = some { cls := .type "tuple", data := .seq #[u, u2] } := (sb.2 _ (Nat.ne_of_gt hzl)).trans hT
    have new : ObjOk X.prog X.w (upd H s.heap.objs.size (.tup [x, y])) h'' s.heap.objs.size (.tup [x, y]) :=
      ⟨by show 2 ≤ sizeLine; decide, [u, u2], .cons ru (.cons ru2 .nil), ⟨_, hT2, rfl, _, rfl⟩⟩
    have I1 : Inv X pins σ (upd H s.heap.objs.size (.tup [x, y])) { s with heap := h'', toks := tk } :=
      I.turnedNew (ch := [z, TI, TO, i1, i2]) (fun c o hb q => (sb.2 c (fun q' => hb (by simp [q']))).trans (hk c o (fun q' => hb (by simp [q'])) (fun q' => hb (by simp [q'])) (fun q' => hb (by simp [q'])) (fun q' => hb (by simp [q'])) q)) hf (Nat.le_refl _) new
    refine ⟨.ref s.heap.objs.size, _, I1, rfl, ⟨_, x, y, rfl, I.hok.fresh (Nat.le_refl _), rfl, fun l hl => by rw [I.tuple_inj hl hqx]; exact hx, fun l hl => by rw [I.list_inj hl hqy]; exact hy⟩, ⟨z'', ?_, ⟨u, u2, ?_⟩, ?_, ?_⟩, fun c hcm => ?_⟩
    · exact (sb.2 _ S.TIz).trans (hk _ _ S.TIz S.TITO S.TIi1 S.TIi2 hTI)
    · exact (sb.2 _ S.TOz).trans TO'
    · exact d1.1.at fun o q => (sb.2 _ (Ne.symm S.zi1)).trans q
    · exact d2.1.at fun o q => (sb.2 _ (Ne.symm S.zi2)).trans q
    · have hlt : c < s.heap.objs.size := by
        have e' : c = z ∨ c = TI ∨ c = TO ∨ c = i1 ∨ c = i2 := by simpa using hcm
        rcases e' with rfl | rfl | rfl | rfl | rfl
        · exact hzl
        · exact Heap.lt_size hTI
        · exact Heap.lt_size hTO
        · obtain ⟨_, e1, _⟩ := h1; exact Heap.lt_size e1
        · obtain ⟨_, e2, _⟩ := h2; exact Heap.lt_size e2
      rw [upd_ne (Nat.ne_of_lt hlt)]
      exact (hf c hcm).1
  done := by
    intro X hP hw hK hc i pins s σ H E I hf st hg
    subst hP hw hK
    obtain ⟨hz, hTI, ⟨x0, y0, hTO⟩, h1, h2⟩ := st
    obtain ⟨xs, ys, hqx, hqy, le1, le2, hend⟩ := hg
    obtain ⟨its, rv, p, _⟩ := I.tuple hqx
    obtain ⟨its2, rv2, p2, _⟩ := I.list hqy
    have n1 : its.toArray.size = xs.length := by rw [List.size_toArray, ← rv.length]
    have n2 : its2.toArray.size = ys.length := by rw [List.size_toArray, ← rv2.length]
    have D1 := Draws.tuple (prog := X.prog) (w := X.w) (A := X.A.in1) (I.ok.hd hc) i1 a na its.toArray
    have D2 := Draws.list (prog := X.prog) (w := X.w) (A := X.A.in1) (I.ok.hd hc) i2 b nb its2.toArray
    exact wpAny_pyNext_zipD2_end S D1 D2 hz hTI hTO ⟨h1, p⟩ ⟨h2, p2.isList⟩ (by rw [n1]; exact le1) (by rw [n2]; exact le2) (by rw [n1, n2]; exact hend) fun h' tk hk => ⟨rfl, I.turnedL (ch := [z, TI, TO, i1, i2]) (fun c o hb q =>
      hk c o (fun q' => hb (by simp [q'])) (fun q' => hb (by simp [q'])) (fun q' => hb (by simp [q'])) (fun q' => hb (by simp [q'])) q) hf⟩
  self := fun A i s Q E st h => wpAny_pyIter_zip st.1 h
def iZipM (K : PySem.W.Frag) (ta : TA) : TI := fun σ H R => ta σ H fun vs H1 => ∃ a b xs ys, vs = [.ref a, .ref b] ∧ SqT K H1 a xs ∧ SqL K H1 b ys ∧ R (ItzM K a b) H1
theorem pi_zipM {X : Cx} {e e2 : Expr} {ta : TA} {p pos tpos : Pos} {elts : List Expr} {kk : Nat} (hg : Gl X "zip") (hm : X.mg "zip" = none) (ha : PA X [e, e2] ta)
    (hs : starEach [e, e2] X.env = (false, eval e X.env) :: starEach [e2] X.env := by rfl) (hpl : (backTo pos (starEach [e2] X.env)).any (·.1) = false := by rfl) :
    PI X (.Tuple elts kk tpos) (.Call (.Name "zip" p) [e, e2] [] pos) (iZipM X.K ta) := by
  refine ⟨fun pins s σ H R I h => Call_ (ld_blt I hg hm PyProof.Rows.boot_zip (PyProof.Rows.callWith_type1 (thn (ha.run pos pins s σ H _ I h) fun us s1 ⟨vs, H1, I1, r1, q1⟩ => ?_) hs hpl))⟩
  obtain ⟨a, b, xs, ys, rfl, hqx, hqy, q⟩ := q1
  obtain ⟨u1, u2, rfl, r, r'⟩ := r1.two
  cases r
  cases r'
  obtain ⟨its, rv, p1, _⟩ := I1.tuple hqx
  obtain ⟨its2, rv2, p2, _⟩ := I1.list hqy
  have la : a < s1.heap.objs.size := by obtain ⟨_, q, _⟩ := p1; exact Heap.lt_size q
  have lb : b < s1.heap.objs.size := p2.lt
  refine zip_begins2 (begins_tuple a its.toArray) (begins_list b its2.toArray) p1 p2.isList fun h' hz hTI hTO h1 h2 hsz hk => wpAny_pyIter_zip hz ?_
  have I2 : Inv X pins σ H1 { s1 with heap := h' } := I1.kept (t' := s1.toks) hk
  refine ⟨s1.heap.objs.size + 4, [s1.heap.objs.size + 4, s1.heap.objs.size + 2, s1.heap.objs.size + 3, s1.heap.objs.size, s1.heap.objs.size + 1], _, _, H1, rfl, I2, turn_zipM (sep_zip _ _ _ la lb) (Nat.ne_of_lt la) (Nat.ne_of_lt (Nat.lt_succ_of_lt lb)), ⟨hz, hTI, ⟨_, _, hTO⟩, ⟨_, h1, rfl, rfl⟩, ⟨_, h2, rfl, rfl⟩⟩, fun c hcm => ?_, q⟩
  have hle : s1.heap.objs.size ≤ c := by
    have e' : c = s1.heap.objs.size + 4 ∨ c = s1.heap.objs.size + 2 ∨ c = s1.heap.objs.size + 3 ∨ c = s1.heap.objs.size ∨ c = s1.heap.objs.size + 1 := by simpa using hcm
    rcases e' with rfl | rfl | rfl | rfl | rfl
    · exact Nat.le_add_right _ _
    · exact Nat.le_add_right _ _
    · exact Nat.le_add_right _ _
    · exact Nat.le_refl _
    · exact Nat.le_add_right _ _
  exact I1.fpOk hle (I1.hok.fresh hle)
theorem walk_zipM {K : PySem.W.Frag} {a b : Addr} {xs ys : List V} (hl : xs.length = ys.length) : Walk (ItzM K a b) xs.length (fun H => SqT K H a xs ∧ SqL K H b ys) (YPair (fun i => xs[i]?) (fun i => ys[i]?)) where
  goes := fun i H hi q => ⟨xs, ys, q.1, q.2, hi, by omega⟩
  stops := fun H q => ⟨xs, ys, q.1, q.2, Nat.le_refl _, by omega, .inl rfl⟩
  yields := fun i H v H' _ q y => by
    obtain ⟨T, x, z, h1, h2, h3, h4, h5⟩ := y
    exact ⟨T, x, z, h1, h2, h3, h4 xs q.1, h5 ys q.2⟩
end TK

namespace TK
open PySem PySem.Spec PyProof.Rows L2
/-- a dict comprehension over whatever walks -/
theorem dc_it {J : It} {n : Nat} {G : Hp → Prop} {Y : Nat → Hp → V → Hp → Prop} (w : Walk J n G Y) {g : TG} {tt : TT} {tk tv : TE} {vs : List Nat} {σ : L2.St} {H1 : Hp} {D : Addr} {Qd : Hp → Prop} (Pv : Nat → Hp → Prop) (h0 : Pv 0 (upd H1 D (.dK []))) (hG : ∀ i H, i ≤ n → Pv i H → G H)
    (hs : ∀ i x H H', i < n → Pv i H → Y i H x H' → g x (wipe σ vs) H' fun σ2 H2 => wipe σ2 vs = wipe σ vs ∧ tt σ2 H2 fun b H3 =>
      if b = true then tk σ2 H3 fun y H4 => tv σ2 H4 fun z H5 => ∃ kvs k, y = kV k ∧ H5 D = some (.dK kvs) ∧ kvs.length < sizeLine ∧ Pv (i + 1) (upd H5 D (.dK (putK kvs k z))) else Pv (i + 1) H3) (hd : ∀ H, Pv n H → Qd H) :
    ∃ W : Nat → Nat → Hp → Prop, (∃ m, W 0 m (upd H1 D (.dK []))) ∧ ∀ i m H, W i m H →
      (J.stop i H ∧ Qd H) ∨ (J.go i H ∧ ∃ Nx : Hp → Prop, (∀ H', Nx H' → ∃ m', m' < m ∧ W (i + 1) m' H') ∧ ∀ x H', J.yld i H x H' → g x (wipe σ vs) H' fun σ2 H2 => wipe σ2 vs = wipe σ vs ∧ tt σ2 H2 fun b H3 =>
        if b = true then tk σ2 H3 fun y H4 => tv σ2 H4 fun z H5 => ∃ kvs k, y = kV k ∧ H5 D = some (.dK kvs) ∧ kvs.length < sizeLine ∧ Nx (upd H5 D (.dK (putK kvs k z))) else Nx H3) := by
  refine ⟨fun i m H => m = n - i ∧ i ≤ n ∧ Pv i H, ⟨n, by simp, Nat.zero_le _, h0⟩, ?_⟩
  rintro i m H ⟨rfl, hi, p⟩
  have q := hG i H hi p
  by_cases hlt : i < n
  · exact .inr ⟨w.goes i H hlt q, Pv (i + 1), fun H' p' => ⟨n - (i + 1), by omega, rfl, hlt, p'⟩, fun x H' y => hs i x H H' hlt p (w.yields i H x H' hlt q y)⟩
  · have e : i = n := by omega
    subst e
    exact .inl ⟨w.stops H q, hd H p⟩
end TK

namespace TK
open PySem PySem.Spec PyProof.Rows L2
section
variable {X : Cx}
/-- tuple(a list), the new tuple known to the object -/
theorem call_tuple_frz : CallR X (.type "tuple") (fun xs H Q => ∃ p ys, xs = [.ref p] ∧ SqL X.K H p ys ∧ ∀ (l : Addr) (o : Obj), H l = none → o.cls = .type "tuple" → o.dict = none → Q (.ref l) (upd H l (.frz o (.tup ys)))) := by
  intro pins s σ H xs us Q I r h
  obtain ⟨p, ys, rfl, hq, q⟩ := h
  obtain ⟨u, rfl, rx⟩ := vals1 r
  cases rx
  obtain ⟨its, r', pl, hz⟩ := I.list hq
  have hlen := r'.length
  refine call_tuple_list pl.isList (fun h' kp => ?_) (by simp only [List.size_toArray] <;> omega)
  have I1 : Inv X pins σ H { s with heap := h' } := I.kept (t' := s.toks) kp
  have I2 : Inv X pins σ (upd H h'.objs.size (.frz { cls := .type "tuple", data := .seq its.toArray } (.tup ys))) { s with heap := h'.push { cls := .type "tuple", data := .seq its.toArray } } :=
    I1.laid (t' := s.toks) (fun b o e => Heap.get?_push_of_some _ e) (Nat.le_refl _) (show ObjOk X.prog X.w _ _ _ (.frz _ (.tup ys)) from ⟨Heap.get?_push_size _ rfl, hz, its, r', IsTup.new _ _⟩)
  exact ⟨.ref h'.objs.size, _, I2, rfl, q _ _ (I1.hok.fresh (Nat.le_refl _)) rfl rfl⟩
/-- the value is such a tuple -/
def FrzT (x : V) (H : Hp) : Prop := ∃ p o xs, x = .ref p ∧ H p = some (.frz o (.tup xs)) ∧ o.cls = .type "tuple" ∧ o.dict = none
def tBMF (r : V → List V → Hp → VK → Prop) (to : TE) (t : TA) : TE := fun σ H Q => to σ H fun x H1 => FrzT x H1 ∧ t σ H1 fun xs H2 => r x xs H2 Q
variable {o e : Expr} {es : List Expr} {to : TE} {t : TA} {name : Str} {apos cpos : Pos} {id : String} {r : V → List V → Hp → VK → Prop}
theorem pe_bmF (pa : PlainAttrs "tuple") (slot : Slot "tuple" name id) (hty : typeOf (.builtin id) = pure (.type "method_descriptor")) (hm : MtR X id r) (ho : PE X o to) (ha : PA X (e :: es) t)
    (hbase : attributeBase o name X.env (eval o X.env) = eval o X.env := by rfl)
    (hfew : ((backTo cpos (starEach (e :: es) X.env)).all (fun x => !x.1) && (backToKw cpos (keywordEach [] X.env)).all (fun x => x.1.isSome)
      && decide ((e :: es).length + ([] : List Keyword).length + (if ([] : List Keyword).isEmpty then 0 else 1) < 30)) = true := by rfl)
    (hline : (apos.endLine == cpos.line) = true := by rfl) (hs : starEach (e :: es) X.env = (false, eval e X.env) :: starEach es X.env := by rfl) (hplain : (backTo cpos (starEach es X.env)).any (·.1) = false := by rfl) :
    PE X (.Call (.Attribute o name apos) (e :: es) [] cpos) (tBMF r to t) := by
  refine ⟨fun pins s σ H Q I h => ?_⟩
  refine wpAny_Call_method_late hbase hfew hline rfl (thn (ho.run pins s σ H _ I h) fun v s1 ⟨x, H1, I1, r1, ty, q1⟩ => ?_)
  have h12 : s1.TypeIs v "tuple" ∧ ∀ a, v = .ref a → ∃ ob, s1.heap.get? a = some ob ∧ ob.dict = none := by
    obtain ⟨p, ob, xs, rfl, hp, hc, hd⟩ := ty
    cases r1
    obtain ⟨eo, _⟩ := I1.hok p _ hp
    refine ⟨⟨ob, eo, hc⟩, fun a e => ?_⟩
    cases e
    exact ⟨ob, eo, hd⟩
  refine ⟨"tuple", id, pa, slot, hty, h12.1, h12.2, ?_⟩
  have hA := ha.run cpos pins s1 σ H1 _ I1 q1
  rw [hs] at hA ⊢
  refine Calls.callWith_builtin (by show (false || (backTo cpos (starEach es X.env)).any (·.1)) = false; rw [hplain] <;> rfl) (Calls.evalArgs_plain ?_)
  exact thn hA fun us s2 ⟨vs, H2, I2, r2, q2⟩ => hm pins s2 σ H2 x vs v us Q I2 r1 r2 q2
end
theorem tupFrz {K : PySem.W.Frag} {H : Hp} {a : Addr} {o : Obj} {xs : List V} (h : H a = some (.frz o (.tup xs))) : SqT K H a xs := .inl (.inr ⟨o, h⟩)
end TK

namespace TK
open PySem PySem.Spec PyProof.Rows L2
def topS (i : Nat) : Stmt := PySem.Challenge.pw_turnsandkeys_k40_passes_counted.main.body.getD i (.Pass ⟨0, 0, 0, 0⟩)
abbrev s_passed_over : Stmt := topS 1
theorem sc_passed_over : FnScope ["candidates", "takers", "keeper", "member"] ["candidates", "takers", "keeper"] (defScope s_passed_over) := ⟨rfl, rfl, rfl, by decide +kernel, rfl, by decide +kernel, by decide +kernel⟩
abbrev s_next_passes : Stmt := topS 2
theorem sc_next_passes : FnScope ["members", "passes", "candidates", "takers", "keeper", "most", "passed", "after", "member", "number"] ["members", "passes", "candidates", "takers", "keeper", "most"] (defScope s_next_passes) := ⟨rfl, rfl, rfl, by decide +kernel, rfl, by decide +kernel, by decide +kernel⟩
abbrev s_first_over : Stmt := topS 3
theorem sc_first_over : FnScope ["members", "passes", "passed", "limit", "member"] ["members", "passes", "passed", "limit"] (defScope s_first_over) := ⟨rfl, rfl, rfl, by decide +kernel, rfl, by decide +kernel, by decide +kernel⟩
abbrev s_longest : Stmt := topS 4
theorem sc_longest : FnScope ["members", "passes", "candidates", "numbers", "member"] ["members", "passes", "candidates"] (defScope s_longest) := ⟨rfl, rfl, rfl, by decide +kernel, rfl, by decide +kernel, by decide +kernel⟩
abbrev s_L_cell : Stmt := topS 6
theorem sc_L_cell : FnScope ["_law_script", "_law_k", "_law_far", "_law_j"] ["_law_script", "_law_k"] (defScope s_L_cell) := ⟨rfl, rfl, rfl, by decide +kernel, rfl, by decide +kernel, by decide +kernel⟩
abbrev s_L_mixed : Stmt := topS 7
theorem sc_L_mixed : FnScope ["_law_cell_here", "_law_k", "_law_x"] ["_law_cell_here", "_law_k"] (defScope s_L_mixed) := ⟨rfl, rfl, rfl, by decide +kernel, rfl, by decide +kernel, by decide +kernel⟩
abbrev s_L_pool : Stmt := topS 8
theorem sc_L_pool : FnScope ["_law_cell_here", "_law_number", "_law_rest", "_law_deep", "_law_pool_here", "_law_k"] ["_law_cell_here", "_law_number"] (defScope s_L_pool) := ⟨rfl, rfl, rfl, by decide +kernel, rfl, by decide +kernel, by decide +kernel⟩
abbrev s_L_part : Stmt := topS 9
theorem sc_L_part : FnScope ["_law_pool_here", "_law_spot", "_law_under", "_law_size"] ["_law_pool_here", "_law_spot", "_law_under", "_law_size"] (defScope s_L_part) := ⟨rfl, rfl, rfl, by decide +kernel, rfl, by decide +kernel, by decide +kernel⟩
abbrev s_L_names : Stmt := topS 10
theorem sc_L_names : FnScope ["_law_pool_here", "_law_spot", "_law_number", "_law_letters", "_law_stem", "_law_k", "_law_turn", "_law_cut", "_law_first", "_law_short", "_law_tail", "_law_names_here", "_law_mark"] ["_law_pool_here", "_law_spot", "_law_number"] (defScope s_L_names) := ⟨rfl, rfl, rfl, by decide +kernel, rfl, by decide +kernel, by decide +kernel⟩
abbrev s_L_some : Stmt := topS 11
theorem sc_L_some : FnScope ["_law_pool_here", "_law_spot", "_law_names_here", "_law_some_here", "_law_k"] ["_law_pool_here", "_law_spot", "_law_names_here"] (defScope s_L_some) := ⟨rfl, rfl, rfl, by decide +kernel, rfl, by decide +kernel, by decide +kernel⟩
abbrev s_L_integer : Stmt := topS 12
theorem sc_L_integer : FnScope ["_law_got"] ["_law_got"] (defScope s_L_integer) := ⟨rfl, rfl, rfl, by decide +kernel, rfl, by decide +kernel, by decide +kernel⟩
abbrev s_L_same : Stmt := topS 13
theorem sc_L_same : FnScope ["_law_got", "_law_wanted", "_law_k"] ["_law_got", "_law_wanted"] (defScope s_L_same) := ⟨rfl, rfl, rfl, by decide +kernel, rfl, by decide +kernel, by decide +kernel⟩
abbrev s_L_shuffled : Stmt := topS 14
theorem sc_L_shuffled : FnScope ["_law_pool_here", "_law_spot", "_law_row", "_law_left", "_law_taken", "_law_k"] ["_law_pool_here", "_law_spot", "_law_row"] (defScope s_L_shuffled) := ⟨rfl, rfl, rfl, by decide +kernel, rfl, by decide +kernel, by decide +kernel⟩
abbrev s_L_case : Stmt := topS 15
theorem sc_L_case : FnScope ["_law_pool_here", "_law_crew", "_law_base", "_law_crest", "_law_loads", "_law_k", "_law_wishes", "_law_having", "_law_way", "_law_late", "_law_listed", "_law_cap"] ["_law_pool_here", "_law_crew"] (defScope s_L_case) := ⟨rfl, rfl, rfl, by decide +kernel, rfl, by decide +kernel, by decide +kernel⟩
abbrev s_L_after : Stmt := topS 16
theorem sc_L_after : FnScope ["_law_crew", "_law_case_here", "_law_loads", "_law_wishes", "_law_turned", "_law_having", "_law_late", "_law_crest", "_law_listed", "_law_cap", "_law_after_here", "_law_k", "_law_held", "_law_wished", "_law_name"] ["_law_crew", "_law_case_here"] (defScope s_L_after) := ⟨rfl, rfl, rfl, by decide +kernel, rfl, by decide +kernel, by decide +kernel⟩
abbrev s_L_over : Stmt := topS 17
theorem sc_L_over : FnScope ["_law_crew", "_law_loads", "_law_listed", "_law_cap", "_law_over_here", "_law_name"] ["_law_crew", "_law_loads", "_law_listed", "_law_cap"] (defScope s_L_over) := ⟨rfl, rfl, rfl, by decide +kernel, rfl, by decide +kernel, by decide +kernel⟩
abbrev s_L_longest : Stmt := topS 18
theorem sc_L_longest : FnScope ["_law_crew", "_law_loads", "_law_wishes", "_law_best", "_law_name"] ["_law_crew", "_law_loads", "_law_wishes"] (defScope s_L_longest) := ⟨rfl, rfl, rfl, by decide +kernel, rfl, by decide +kernel, by decide +kernel⟩
abbrev s_L_by_place : Stmt := topS 19
theorem sc_L_by_place : FnScope ["_law_crew", "_law_case_here", "_law_loads", "_law_wishes", "_law_turned", "_law_having", "_law_late", "_law_crest", "_law_listed", "_law_cap", "_law_told"] ["_law_crew", "_law_case_here"] (defScope s_L_by_place) := ⟨rfl, rfl, rfl, by decide +kernel, rfl, by decide +kernel, by decide +kernel⟩
abbrev s_L_by_name : Stmt := topS 20
theorem sc_L_by_name : FnScope ["_law_crew", "_law_case_here", "_law_loads", "_law_wishes", "_law_turned", "_law_having", "_law_late", "_law_crest", "_law_listed", "_law_cap", "_law_told"] ["_law_crew", "_law_case_here"] (defScope s_L_by_name) := ⟨rfl, rfl, rfl, by decide +kernel, rfl, by decide +kernel, by decide +kernel⟩
abbrev s_L_due : Stmt := topS 21
theorem sc_L_due : FnScope ["_law_crew", "_law_case_here", "_law_loads", "_law_wishes", "_law_turned", "_law_having", "_law_late", "_law_crest", "_law_listed", "_law_cap", "_law_due_here", "_law_row", "_law_after_here", "_law_name"] ["_law_crew", "_law_case_here"] (defScope s_L_due) := ⟨rfl, rfl, rfl, by decide +kernel, rfl, by decide +kernel, by decide +kernel⟩
abbrev s_law : Stmt := topS 22
theorem sc_law : FnScope ["_law_script", "_law_head", "_law_crew", "_law_cases", "_law_case_here", "_law_k"] ["_law_script"] (defScope s_law) := ⟨rfl, rfl, rfl, by decide +kernel, rfl, by decide +kernel, by decide +kernel⟩
end TK

namespace TK
open PySem PySem.Spec PyProof.Rows L2
section
variable {P : Program} {w : World} {K : PySem.W.Frag} {mg : Str → Option Value} {base : Heap}
/-! check_size, check_range -/
theorem pz {n : Nat} : (0 : Int) < ((n + 1 : Nat) : Int) := by omega
theorem mb {a : Int} {n : Nat} (h : n + 1 ≤ 2 ^ 63) : -(2 ^ 64) < a % ((n + 1 : Nat) : Int) ∧ a % ((n + 1 : Nat) : Int) < 2 ^ 64 := by
  have h1 := Int.emod_nonneg a (b := ((n + 1 : Nat) : Int)) (by omega)
  have h2 := Int.emod_lt_of_pos a (b := ((n + 1 : Nat) : Int)) (by omega)
  omega
/-! _law_part -/
def partOf (ns : List Int) (s u z : Int) : Int := ns.getD s.toNat 0 / u % z
def spPart (K : PySem.W.Frag) : Sp := fun vs H Q _ => ∃ (a : Addr) (ns : List Int) (s u z : Int), vs = [.ref a, .int s, .int u, .int z] ∧ SqL K H a (ns.map V.int) ∧ 0 ≤ s ∧ s < ns.length ∧ 0 < u ∧ u < 1000000 ∧ 0 < z ∧ Q (.int (partOf ns s u z)) H
theorem get_int {ns : List Int} {s : Int} (h0 : 0 ≤ s) (h : s < ns.length) : atI (ns.map V.int) s = some (.int (ns.getD s.toNat 0)) := by
  have h1 : s.toNat < ns.length := by omega
  refine atI_in h0 ?_
  rw [List.getElem?_map, List.getElem?_eq_getElem h1, List.getD_eq_getElem?_getD, List.getElem?_eq_getElem h1]
  rfl
theorem ok_L_part {f : Addr} {fd : FuncData} (F : Fun K "_law_part" "_law_part" s_L_part f fd) (m_int : mg "int" = none) : FnOk P w K mg base CX0 1 f fd ["_law_pool_here", "_law_spot", "_law_under", "_law_size"] (spPart K) := by
  refine F.ok sc_L_part (fun vs H Q E h => ?_) (fun cdv A outer s H vs Q E hr h => ?_)
  · obtain ⟨a, ns, s, u, z, rfl, _⟩ := h
    rfl
  · obtain ⟨a, ns, s, u, z, rfl, hS, h0, h1, h2, h3, h4, q⟩ := h
    refine ⟨_, (pss_one (ps_ret (pe_op op_mod (pe_op op_fdiv (pe_callTy call_int1 (by rfl) m_int (by decide +kernel) (pa_cons (pe_ix ix_list (pv 0) (pv 1) (fun _ _ => rfl)) pa_nil)) (pv 2)) (pv 3)))), ?_⟩
    refine ⟨_, rfl, _, rfl, _, _, _, _, rfl, rfl, hS, get_int h0 h1, .inl ⟨_, rfl, _, rfl, _, _, rfl, rfl, ⟨h2, by omega⟩, _, rfl, _, _, rfl, rfl, h4, ?_⟩⟩
    exact q
theorem part_lo {ns : List Int} {s u z : Int} (h : 0 < z) : 0 ≤ partOf ns s u z := Int.emod_nonneg _ (by omega)
theorem part_hi {ns : List Int} {s u z : Int} (h : 0 < z) : partOf ns s u z < z := Int.emod_lt_of_pos _ h
/-! _law_mixed -/
def spMixed : Sp := fun vs H Q _ => ∃ c k : Int, vs = [.int c, .int k] ∧ 0 ≤ k ∧ k < 1000000 ∧ ∀ r : Int, 0 ≤ r → Q (.int r) H
theorem ok_L_mixed {f : Addr} {fd : FuncData} (F : Fun K "_law_mixed" "_law_mixed" s_L_mixed f fd) (m_abs : mg "abs" = none) : FnOk P w K mg base CX0 1 f fd ["_law_cell_here", "_law_k"] spMixed := by
  refine F.ok sc_L_mixed (fun vs H Q E h => ?_) (fun cdv A outer s H vs Q E hr h => ?_)
  · obtain ⟨c, k, rfl, _⟩ := h
    rfl
  · obtain ⟨c, k, rfl, h0, h1, q⟩ := h
    refine ⟨_, (pss_cons (ps_set (i := 2) sc_L_mixed.nd rfl (.inl rfl) (pe_op op_mod (pe_op op_add (pe_op op_mul (pe_op op_mod (pe_callB call_abs (by rfl) m_abs (by decide +kernel) (pa_cons (pv 0) pa_nil)) pe_int) pe_int) (pe_op op_mul (pe_op op_add (pv 1) pe_int) pe_int)) pe_int))
  (pss_cons (ps_set (i := 2) sc_L_mixed.nd rfl (.inl rfl) (pe_op op_mod (pe_op op_add (pe_op op_mul (pv 2) (pe_op op_add (pe_op op_mod (pv 2) pe_int) pe_int)) (pe_op op_mul (pe_op op_add (pv 1) pe_int) pe_int)) pe_int))
  (pss_cons (ps_set (i := 2) sc_L_mixed.nd rfl (.inl rfl) (pe_op op_mod (pe_op op_mul (pv 2) (pe_op op_add (pe_op op_mod (pv 2) pe_int) pe_int)) pe_int))
  (pss_one (ps_ret (pe_op op_fdiv (pv 2) pe_int)))))), ?_⟩
    refine ⟨_, rfl, _, rfl, _, _, rfl, rfl, pz, _, _, rfl, rfl, .inr (by decide), _, rfl, _, _, rfl, rfl, _, _, rfl, rfl, .inr (by decide), _, _, rfl, rfl, _, _, rfl, rfl, pz, ?_⟩
    refine ⟨_, rfl, _, rfl, _, _, rfl, rfl, pz, _, _, rfl, rfl, _, _, rfl, rfl, .inl (mb (by decide)), _, rfl, _, _, rfl, rfl, _, _, rfl, rfl, .inr (by decide), _, _, rfl, rfl, _, _, rfl, rfl, pz, ?_⟩
    refine ⟨_, rfl, _, rfl, _, _, rfl, rfl, pz, _, _, rfl, rfl, _, _, rfl, rfl, .inl (mb (by decide)), _, _, rfl, rfl, pz, _, rfl, _, _, rfl, rfl, ⟨by decide, by decide⟩, ?_⟩
    exact q _ (Int.ediv_nonneg (Int.emod_nonneg _ (by decide)) (by decide))
/-! _law_cell -/
def spCellA (K : PySem.W.Frag) : Sp := fun vs H Q _ => ∃ (a : Addr) (ns : List Int) (k : Int), vs = [.ref a, .int k] ∧ SqL K H a (ns.map V.int) ∧ 0 ≤ k ∧ k < 1000 ∧ ns.length ≤ 1000 ∧ ∀ r : Int, Q (.int r) H
theorem ok_L_cell {f : Addr} {fd : FuncData} (F : Fun K "_law_cell" "_law_cell" s_L_cell f fd) (m_len : mg "len" = none) (m_range : mg "range" = none) (m_abs : mg "abs" = none) : FnOk P w K mg base CX0 1 f fd ["_law_script", "_law_k"] (spCellA K) := by
  refine F.ok sc_L_cell (fun vs H Q E h => ?_) (fun cdv A outer s H vs Q E hr h => ?_)
  · obtain ⟨a, ns, k, rfl, _⟩ := h
    rfl
  · obtain ⟨a, ns, k, rfl, hS, h0, h1, h2, q⟩ := h
    refine ⟨_, (pss_cons (ps_if (pt_cmpR op_lt (pv 1) (pe_callB call_len_seq (by rfl) m_len (by decide +kernel) (pa_cons (pv 0) pa_nil)) (nomark _)) (pss_one (ps_ret (pe_ix ix_list (pv 0) (pv 1) (fun _ _ => rfl)))) pss_nil)
  (pss_cons (ps_set (i := 2) sc_L_cell.nd rfl (.inl rfl) (pe_op op_mul pe_int (pe_op op_add (pv 1) pe_int)))
  (pss_cons (ps_for PassesOwn.never rfl (pi_range1 (by rfl) m_range (pa_cons (pe_callB call_len_seq (by rfl) m_len (by decide +kernel) (pa_cons (pv 0) pa_nil)) pa_nil)) (pg_name (i := 3) sc_L_cell.nd rfl (.inl rfl))
    (pss_one (ps_set (i := 2) sc_L_cell.nd rfl (.inl rfl) (pe_op op_mod (pe_op op_add (pv 2) (pe_op op_mul (pe_op op_mul (pe_op op_add (pv 3) pe_int) (pe_op op_mod (pe_callB call_abs (by rfl) m_abs (by decide +kernel) (pa_cons (pe_ix ix_list (pv 0) (pv 3) (fun _ _ => rfl)) pa_nil)) pe_int)) pe_int)) pe_int))))
  (pss_one (ps_ret (pv 2)))))), ?_⟩
    refine ⟨_, rfl, _, rfl, _, _, rfl, .inl hS, _, _, rfl, rfl, _, rfl, ite2 (fun e => ?_) (fun e => ?_)⟩
    · have e1 : k < ((ns.map V.int).length : Nat) := of_decide_eq_true e
      rw [List.length_map] at e1
      exact ⟨_, rfl, _, rfl, _, _, _, _, rfl, rfl, hS, get_int h0 e1, q _⟩
    · refine ⟨_, rfl, _, _, rfl, rfl, _, _, rfl, rfl, .inl (by decide), ?_⟩
      refine ⟨_, rfl, _, _, rfl, .inl hS, _, rfl, by omega, by rw [List.length_map]; omega, for_range (fun i σ H' => H' = H ∧ ∃ (r : Int) (y : Option V), σ = [some (.ref a), some (.int k), some (.int r), y]) ⟨rfl, _, _, rfl⟩ ?_ ?_⟩
      · rintro i σ H' hi ⟨rfl, r, y, rfl⟩
        rw [List.length_map] at hi
        have hi' : i < ns.length := by omega
        refine ⟨_, rfl, _, rfl, _, _, rfl, rfl, _, rfl, _, rfl, _, _, _, _, rfl, rfl, hS, get_int (by omega) (by omega), _, rfl, _, _, rfl, rfl, pz, _, _, rfl, rfl, .inr (mb (by decide)), _, _, rfl, rfl, .inr (by decide), _, _, rfl, rfl, _, _, rfl, rfl, pz, rfl, _, _, rfl⟩
      · rintro σ H' ⟨rfl, r, y, rfl⟩
        exact ⟨_, rfl, q _⟩
end
end TK

namespace TK
open PySem PySem.Spec PyProof.Rows L2
theorem upd_twice {H : Hp} {p : Addr} {a b : HO} : upd (upd H p a) p b = upd H p b := by
  funext x
  unfold upd
  by_cases e : x = p
  · rw [if_pos e, if_pos e]
  · rw [if_neg e, if_neg e, if_neg e]
section
variable {P : Program} {w : World} {K : PySem.W.Frag} {mg : Str → Option Value} {base : Heap}
/-! _law_pool -/
def spPool : Sp := fun vs H Q _ => ∃ (c n : Int), vs = [.int c, .int n] ∧ 0 ≤ n ∧ n ≤ 1000 ∧ ∀ (p : Addr) (ns : List Int), H p = none → (ns.length : Int) = n → (∀ x ∈ ns, 0 ≤ x) → Q (.ref p) (upd H p (.lst (ns.map V.int)))
theorem ok_L_pool {f : Addr} {fd : FuncData} (F : Fun K "_law_pool" "_law_pool" s_L_pool f fd) (m_range : mg "range" = none) (m_abs : mg "abs" = none) (d_L_mixed : Def P w K mg base "_law_mixed" 1 ["_law_cell_here", "_law_k"] spMixed) : FnOk P w K mg base CX0 2 f fd ["_law_cell_here", "_law_number"] spPool := by
  refine F.ok sc_L_pool (fun vs H Q E h => ?_) (fun cdv A outer s H vs Q E hr h => ?_)
  · obtain ⟨c, n, rfl, _⟩ := h
    rfl
  · obtain ⟨c, n, rfl, h0, h1, q⟩ := h
    refine ⟨_, (pss_cons (ps_set (i := 2) sc_L_pool.nd rfl (.inl rfl) (pe_callB call_abs (by rfl) m_abs (by decide +kernel) (pa_cons (pv 0) pa_nil)))
  (pss_cons (ps_set (i := 3) sc_L_pool.nd rfl (.inl rfl) (pe_cmpR op_ge (pv 2) (pe_op op_pow pe_int pe_int) (nomark _)))
  (pss_cons (ps_set (i := 4) sc_L_pool.nd rfl (.inl rfl) (pe_lst pa_nil))
  (pss_cons (ps_for PassesOwn.never rfl (pi_range1 (by rfl) m_range (pa_cons (pv 1) pa_nil)) (pg_name (i := 5) sc_L_pool.nd rfl (.inl rfl))
    (pss_one (ps_if (PW.pt (pw_and (pt_val (pv 3)) (pw_and1 (pt_cmpR op_gt (pv 2) pe_int (nomark _))))) (pss_cons (ps_expr (pe_bm PySem.F.plainAttrs_list PySem.F.slot_list_append PySem.F.type_list_append mt_append (pv 4) (pa_cons (pe_op op_mod (pv 2) pe_int) pa_nil)))
  (pss_one (ps_set (i := 2) sc_L_pool.nd rfl (.inl rfl) (pe_op op_fdiv (pv 2) pe_int)))) (pss_one (ps_expr (pe_bm PySem.F.plainAttrs_list PySem.F.slot_list_append PySem.F.type_list_append mt_append (pv 4) (pa_cons (pe_callD d_L_mixed (hr.mono (by decide)) (by rfl) (pa_cons (pv 0) (pa_cons (pv 5) pa_nil))) pa_nil)))))))
  (pss_one (ps_ret (pv 4))))))), ?_⟩
    have ha : 0 ≤ (if c < 0 then -c else c) := by split <;> omega
    refine ⟨_, rfl, _, rfl, _, rfl, _, _, rfl, rfl, ⟨by decide, by decide, by decide⟩, _, _, rfl, rfl, ?_⟩
    refine ⟨Nat.zero_le _, fun p np => ?_⟩
    refine ⟨_, rfl, _, rfl, by omega, by omega, for_range (fun i σ H' => ∃ (r : Int) (b : Bool) (ns : List Int) (y : Option V), σ = [some (.int c), some (.int n), some (.int r), some (.bl b), some (.ref p), y] ∧ 0 ≤ r ∧ ns.length = i ∧ (∀ x ∈ ns, 0 ≤ x) ∧ H' = upd H p (.lst (ns.map V.int))) ⟨_, _, [], _, rfl, ha, rfl, (fun x hx => nomatch hx), rfl⟩ ?_ ?_⟩
    · rintro i σ H' hi ⟨r, b, ns, y, rfl, r0, hl, hx, rfl⟩
      have hz : (ns.map V.int).length < sizeLine := by rw [List.length_map]; exact small1000 (by omega)
      refine ⟨_, rfl, _, rfl, ite2 (fun e => ?_) (fun e => ?_)⟩
      · refine ⟨_, rfl, _, _, rfl, rfl, _, rfl, ite2 (fun e => ?_) (fun e => ?_)⟩
        · refine ⟨_, rfl, .inl ⟨rfl, _, lstAt upd_same⟩, _, rfl, _, _, rfl, rfl, pz, _, _, _, rfl, rfl, upd_same, hz, ?_⟩
          refine ⟨_, rfl, _, _, rfl, rfl, ⟨by decide, by decide⟩, ?_⟩
          refine ⟨_, b, ns ++ [r % 5040], _, rfl, Int.ediv_nonneg r0 (by decide), by rw [List.length_append, hl]; rfl, ?_, ?_⟩
          · intro x h
            rcases List.mem_append.mp h with h | h
            · exact hx x h
            · cases List.mem_singleton.mp h; exact Int.emod_nonneg _ (by decide)
          · rw [upd_twice, List.map_append]; rfl
        · refine ⟨_, rfl, .inl ⟨rfl, _, lstAt upd_same⟩, _, rfl, _, rfl, _, _, rfl, by omega, by omega, fun z z0 => ⟨_, _, _, rfl, rfl, upd_same, hz, r, b, ns ++ [z], _, rfl, r0, by rw [List.length_append, hl]; rfl, ?_, ?_⟩⟩
          · intro x h
            rcases List.mem_append.mp h with h | h
            · exact hx x h
            · cases List.mem_singleton.mp h; exact z0
          · rw [upd_twice, List.map_append]; rfl
      · refine iteF ?_
        refine ⟨_, rfl, .inl ⟨rfl, _, lstAt upd_same⟩, _, rfl, _, rfl, _, _, rfl, by omega, by omega, fun z z0 => ⟨_, _, _, rfl, rfl, upd_same, hz, r, b, ns ++ [z], _, rfl, r0, by rw [List.length_append, hl]; rfl, ?_, ?_⟩⟩
        · intro x h
          rcases List.mem_append.mp h with h | h
          · exact hx x h
          · cases List.mem_singleton.mp h; exact z0
        · rw [upd_twice, List.map_append]; rfl
    · rintro σ H' ⟨r, b, ns, y, rfl, r0, hl, hx, rfl⟩
      exact ⟨_, rfl, q p ns np (by omega) hx⟩
/-! _law_far -/
/-! _law_chosen: from 0 to the crest -/
end
end TK

namespace TK
open PySem PySem.Spec PyProof.Rows L2
/-! ### texts as lists of codes -/
def sOf (l : List Nat) : Str := ⟨l.toArray⟩
theorem sOf_codes (l : List Nat) : (sOf l).cps.toList = l := rfl
theorem sOf_len (l : List Nat) : (sOf l).length = l.length := by simp [sOf, Str.length]
theorem sOf_app (a b : List Nat) : sOf a ++ sOf b = sOf (a ++ b) := by
  show (⟨a.toArray ++ b.toArray⟩ : Str) = ⟨(a ++ b).toArray⟩
  simp
theorem sOf_inj {a b : List Nat} (h : sOf a = sOf b) : a = b := by
  have := congrArg (fun z : Str => z.cps.toList) h
  exact this
theorem sOf_one (c : Nat) : (⟨#[c]⟩ : Str) = sOf [c] := rfl
theorem cut_to (l : List Nat) {m : Int} (h : 0 ≤ m) : cutS (sOf l) none (some m) = sOf (l.take m.toNat) := by
  obtain ⟨k, rfl⟩ : ∃ k : Nat, m = (k : Int) := ⟨m.toNat, by omega⟩
  unfold cutS
  rw [HT.sIx_none, HT.sIx_nat, sOf_len, sOf_codes, List.drop_zero, Nat.sub_zero, Int.toNat_natCast]
  show sOf _ = sOf _
  congr 1
  by_cases hk : k ≤ l.length
  · rw [Nat.min_eq_left hk]
  · rw [Nat.min_eq_right (by omega), List.take_of_length_le (by omega), List.take_of_length_le (by omega)]
theorem cut_from (l : List Nat) {m : Int} (h : 0 ≤ m) : cutS (sOf l) (some m) none = sOf (l.drop m.toNat) := by
  obtain ⟨k, rfl⟩ : ∃ k : Nat, m = (k : Int) := ⟨m.toNat, by omega⟩
  unfold cutS
  rw [HT.sIx_none, HT.sIx_nat, sOf_len, sOf_codes, Int.toNat_natCast]
  show sOf _ = sOf _
  congr 1
  by_cases hk : k ≤ l.length
  · rw [Nat.min_eq_left hk, List.take_of_length_le (by rw [List.length_drop]; omega)]
  · rw [Nat.min_eq_right (by omega), List.drop_of_length_le (by omega), List.drop_of_length_le (by omega), List.take_nil]
def lettersZ : Str := Str.ofString "abcdefghijklmnopqrstuvwxyz"
theorem letters_codes : lettersZ.cps.toList = (List.range 26).map (97 + ·) := by decide +kernel
theorem letters_len : lettersZ.length = 26 := by decide +kernel
theorem letter_at {i : Int} (h0 : 0 ≤ i) (h1 : i < 26) : atI lettersZ.cps.toList i = some (97 + i.toNat) := by
  refine atI_in h0 ?_
  rw [letters_codes, List.getElem?_map, List.getElem?_range (by omega)]
  rfl
def Let (l : List Nat) : Prop := ∀ c ∈ l, 97 ≤ c ∧ c ≤ 122
theorem Let.app {a b : List Nat} (h : Let a) (k : Let b) : Let (a ++ b) := fun c hc => by
  rcases List.mem_append.mp hc with e | e
  · exact h c e
  · exact k c e
theorem Let.one {n : Nat} (h : n < 26) : Let [97 + n] := fun c hc => by
  cases List.mem_singleton.mp hc
  omega
theorem Let.take {a : List Nat} (h : Let a) (n : Nat) : Let (a.take n) := fun c hc => h c (List.mem_of_mem_take hc)
theorem Let.drop {a : List Nat} (h : Let a) (n : Nat) : Let (a.drop n) := fun c hc => h c (List.mem_of_mem_drop hc)
/-- a name: 1 to 8 letters -/
def Nm (l : List Nat) : Prop := 1 ≤ l.length ∧ l.length ≤ 8 ∧ Let l
def nameF (b : Bool) (stem short tail : List Nat) (cut first turn : Nat) (k : Nat) : List Nat :=
  if b = true then short.take cut ++ [97 + (first + 7 * ((k + turn) % 6)) % 26] ++ short.drop cut ++ tail else stem.take ((k + turn) % 6 + 1)
theorem nameF_nm {b : Bool} {stem short tail : List Nat} {cut first turn k : Nat} (hs : stem.length = 6) (hsh : short.length ≤ 6) (ht : tail.length ≤ 1) (l1 : Let stem) (l2 : Let short) (l3 : Let tail) : Nm (nameF b stem short tail cut first turn k) := by
  unfold nameF
  cases b with
  | true =>
    rw [if_pos rfl]
    have e : (short.take cut).length + (short.drop cut).length = short.length := by rw [← List.length_append, List.take_append_drop]
    refine ⟨?_, ?_, (((l2.take _).app (.one (Nat.mod_lt _ (by decide)))).app (l2.drop _)).app l3⟩
    · simp only [List.length_append, List.length_cons, List.length_nil]; omega
    · simp only [List.length_append, List.length_cons, List.length_nil]; omega
  | false =>
    rw [if_neg (by decide)]
    have := Nat.mod_lt (k + turn) (show 6 > 0 by decide)
    exact ⟨by rw [List.length_take]; omega, by rw [List.length_take]; omega, l1.take _⟩
theorem nameF_inj {b : Bool} {stem short tail : List Nat} {cut first turn k j : Nat} (hs : stem.length = 6) (hk : k < 6) (hj : j < 6) (h : nameF b stem short tail cut first turn k = nameF b stem short tail cut first turn j) : k = j := by
  unfold nameF at h
  cases b with
  | true =>
    rw [if_pos rfl, if_pos rfl] at h
    simp only [List.append_assoc, List.append_cancel_left_eq, List.cons_append, List.nil_append, List.cons.injEq] at h
    have := h.1
    omega
  | false =>
    rw [if_neg (by decide), if_neg (by decide)] at h
    have e := congrArg List.length h
    rw [List.length_take, List.length_take, hs] at e
    omega
theorem nodup_range {f : Nat → List Nat} : ∀ {n : Nat}, (∀ k j, k < n → j < n → f k = f j → k = j) → ((List.range n).map f).Nodup := by
  intro n h
  rw [List.nodup_iff_pairwise_ne, List.pairwise_map]
  refine List.Pairwise.imp_of_mem ?_ (List.nodup_iff_pairwise_ne.mp List.nodup_range)
  intro a b ha hb hne e
  exact hne (h a b (List.mem_range.mp ha) (List.mem_range.mp hb) e)
def vN (l : List Nat) : V := .str (sOf l)
section
variable {P : Program} {w : World} {K : PySem.W.Frag} {mg : Str → Option Value} {base : Heap}
/-! _law_names -/
def spNames (K : PySem.W.Frag) : Sp := fun vs H Q _ => ∃ (a : Addr) (ns : List Int) (s n : Int), vs = [.ref a, .int s, .int n] ∧ SqL K H a (ns.map V.int) ∧ 0 ≤ s ∧ s + 5 ≤ ns.length ∧ 0 ≤ n ∧ n ≤ 6 ∧
  ∀ (p : Addr) (zs : List (List Nat)), H p = none → (zs.length : Int) = n → (∀ z ∈ zs, Nm z) → zs.Nodup → Q (.ref p) (upd H p (.lst (zs.map vN)))
theorem small_len {l : List Nat} (h : l.length ≤ 1000) : (sOf l).length ≤ sizeLine := by rw [sOf_len]; exact Nat.le_of_lt (small1000 h)
theorem ok_L_names {f : Addr} {fd : FuncData} (F : Fun K "_law_names" "_law_names" s_L_names f fd) (m_range : mg "range" = none) (m_int : mg "int" = none) (d_L_part : Def P w K mg base "_law_part" 1 ["_law_pool_here", "_law_spot", "_law_under", "_law_size"] (spPart K)) : FnOk P w K mg base CX0 2 f fd ["_law_pool_here", "_law_spot", "_law_number"] (spNames K) := by
  refine F.ok sc_L_names (fun vs H Q E h => ?_) (fun cdv A outer s H vs Q E hr h => ?_)
  · obtain ⟨a, ns, s, n, rfl, _⟩ := h
    rfl
  · obtain ⟨a, ns, s, n, rfl, hS, h0, h1, h2, h3, q⟩ := h
    refine ⟨_, (pss_cons (ps_set (i := 3) sc_L_names.nd rfl (.inl rfl) pe_str)
  (pss_cons (ps_set (i := 4) sc_L_names.nd rfl (.inl rfl) pe_str)
  (pss_cons (ps_for PassesOwn.never rfl (pi_range1 (by rfl) m_range (pa_cons pe_int pa_nil)) (pg_name (i := 5) sc_L_names.nd rfl (.inl rfl))
    (pss_one (ps_set (i := 4) sc_L_names.nd rfl (.inl rfl) (pe_op op_add_str (pe_op op_add_str (pv 4) (pe_ix ix_str (pv 3) (pe_callD d_L_part (hr.mono (by decide)) (by rfl) (pa_cons (pv 0) (pa_cons (pe_op op_add (pv 1) (pv 5)) (pa_cons pe_int (pa_cons pe_int pa_nil))))) (fun _ _ => rfl))) (pe_ix ix_str (pv 3) (pe_callD d_L_part (hr.mono (by decide)) (by rfl) (pa_cons (pv 0) (pa_cons (pe_op op_add (pv 1) (pv 5)) (pa_cons pe_int (pa_cons pe_int pa_nil))))) (fun _ _ => rfl))))))
  (pss_cons (ps_set (i := 6) sc_L_names.nd rfl (.inl rfl) (pe_callD d_L_part (hr.mono (by decide)) (by rfl) (pa_cons (pv 0) (pa_cons (pe_op op_add (pv 1) pe_int) (pa_cons pe_int (pa_cons pe_int pa_nil))))))
  (pss_cons (ps_set (i := 7) sc_L_names.nd rfl (.inl rfl) (pe_callD d_L_part (hr.mono (by decide)) (by rfl) (pa_cons (pv 0) (pa_cons (pe_op op_add (pv 1) pe_int) (pa_cons pe_int (pa_cons pe_int pa_nil))))))
  (pss_cons (ps_set (i := 8) sc_L_names.nd rfl (.inl rfl) (pe_callD d_L_part (hr.mono (by decide)) (by rfl) (pa_cons (pv 0) (pa_cons (pe_op op_add (pv 1) pe_int) (pa_cons pe_int (pa_cons pe_int pa_nil))))))
  (pss_cons (ps_set (i := 9) sc_L_names.nd rfl (.inl rfl) (pe_slice sl_str (pv 4) po_none (po_some (pe_callD d_L_part (hr.mono (by decide)) (by rfl) (pa_cons (pv 0) (pa_cons (pe_op op_add (pv 1) pe_int) (pa_cons pe_int (pa_cons pe_int pa_nil))))))))
  (pss_cons (ps_set (i := 10) sc_L_names.nd rfl (.inl rfl) (pe_slice sl_str (pv 4) po_none (po_some (pe_callD d_L_part (hr.mono (by decide)) (by rfl) (pa_cons (pv 0) (pa_cons (pe_op op_add (pv 1) pe_int) (pa_cons pe_int (pa_cons pe_int pa_nil))))))))
  (pss_cons (ps_set (i := 11) sc_L_names.nd rfl (.inl rfl) (pe_lst pa_nil))
  (pss_cons (ps_for PassesOwn.never rfl (pi_range1 (by rfl) m_range (pa_cons (pv 2) pa_nil)) (pg_name (i := 5) sc_L_names.nd rfl (.inl rfl))
    (pss_cons (ps_set (i := 12) sc_L_names.nd rfl (.inl rfl) (pe_op op_mod (pe_callTy call_int1 (by rfl) m_int (by decide +kernel) (pa_cons (pe_op op_add (pv 5) (pv 6)) pa_nil)) pe_int))
  (pss_one (ps_if (pt_cmpR op_eq (pe_callD d_L_part (hr.mono (by decide)) (by rfl) (pa_cons (pv 0) (pa_cons (pe_op op_add (pv 1) pe_int) (pa_cons pe_int (pa_cons pe_int pa_nil))))) pe_int (nomark _)) (pss_one (ps_expr (pe_bm PySem.F.plainAttrs_list PySem.F.slot_list_append PySem.F.type_list_append mt_append (pv 11) (pa_cons (pe_op op_add_str (pe_op op_add_str (pe_op op_add_str (pe_slice sl_str (pv 9) po_none (po_some (pv 7))) (pe_ix ix_str (pv 3) (pe_op op_mod (pe_callTy call_int1 (by rfl) m_int (by decide +kernel) (pa_cons (pe_op op_add (pv 8) (pe_op op_mul pe_int (pv 12))) pa_nil)) pe_int) (fun _ _ => rfl))) (pe_slice sl_str (pv 9) (po_some (pv 7)) po_none)) (pv 10)) pa_nil)))) (pss_one (ps_expr (pe_bm PySem.F.plainAttrs_list PySem.F.slot_list_append PySem.F.type_list_append mt_append (pv 11) (pa_cons (pe_slice sl_str (pv 4) po_none (po_some (pe_op op_add (pv 12) pe_int))) pa_nil))))))))
  (pss_one (ps_ret (pv 11))))))))))))), ?_⟩
    refine ⟨_, rfl, by decide, by decide, for_range (fun i σ H' => H' = H ∧ ∃ (st : List Nat) (y : Option V), σ = [some (.ref a), some (.int s), some (.int n), some (.str lettersZ), some (vN st), y, none, none, none, none, none, none, none] ∧ st.length = 2 * i ∧ Let st) ⟨rfl, [], _, rfl, rfl, fun c hc => nomatch hc⟩ ?_ ?_⟩
    · rintro i σ H' hi ⟨rfl, st, y, rfl, hl, le⟩
      have hi3 : i < 3 := hi
      have b1 := part_lo (ns := ns) (s := s + (0 + (i : Int))) (u := 1) (z := 26) (by decide)
      have b2 := part_hi (ns := ns) (s := s + (0 + (i : Int))) (u := 1) (z := 26) (by decide)
      have c1 := part_lo (ns := ns) (s := s + (0 + (i : Int))) (u := 26) (z := 26) (by decide)
      have c2 := part_hi (ns := ns) (s := s + (0 + (i : Int))) (u := 26) (z := 26) (by decide)
      refine ⟨_, rfl, _, rfl, _, rfl, _, rfl, _, rfl, _, _, rfl, rfl, _, _, _, _, _, rfl, hS, by omega, by omega, by decide, by decide, by decide, ?_⟩
      refine ⟨_, _, _, rfl, rfl, by rw [letters_len]; decide, letter_at b1 b2, _, _, rfl, rfl, ?_, ?_⟩
      · rw [sOf_len, sOf_one, sOf_len]; exact Nat.le_of_lt (small1000 (by simp only [List.length_cons, List.length_nil]; omega))
      refine ⟨_, rfl, _, rfl, _, rfl, _, rfl, _, _, rfl, rfl, _, _, _, _, _, rfl, hS, by omega, by omega, by decide, by decide, by decide, ?_⟩
      refine ⟨_, _, _, rfl, rfl, by rw [letters_len]; decide, letter_at c1 c2, _, _, rfl, rfl, ?_, ?_⟩
      · rw [sOf_one, sOf_one, sOf_app, sOf_len, sOf_len]; exact Nat.le_of_lt (small1000 (by simp only [List.length_append, List.length_cons, List.length_nil]; omega))
      refine ⟨rfl, (st ++ [97 + (partOf ns (s + (0 + (i : Int))) 1 26).toNat]) ++ [97 + (partOf ns (s + (0 + (i : Int))) 26 26).toNat], some (.int (0 + (i : Int))), ?_, ?_, ?_⟩
      · rw [sOf_one, sOf_one, sOf_app, sOf_app]; rfl
      · simp only [List.length_append, List.length_cons, List.length_nil]; omega
      · exact (le.app (.one (by omega))).app (.one (by omega))
    · rintro σ H' ⟨rfl, st, y, rfl, hl, le⟩
      have hl : st.length = 6 := hl
      have t1 := part_lo (ns := ns) (s := s + 3) (u := 1) (z := 6) (by decide)
      have t2 := part_hi (ns := ns) (s := s + 3) (u := 1) (z := 6) (by decide)
      have u1 := part_lo (ns := ns) (s := s + 3) (u := 6) (z := 7) (by decide)
      have u2 := part_hi (ns := ns) (s := s + 3) (u := 6) (z := 7) (by decide)
      have v1 := part_lo (ns := ns) (s := s + 3) (u := 42) (z := 26) (by decide)
      have v2 := part_hi (ns := ns) (s := s + 3) (u := 42) (z := 26) (by decide)
      have w1 := part_lo (ns := ns) (s := s + 4) (u := 4) (z := 7) (by decide)
      have w2 := part_hi (ns := ns) (s := s + 4) (u := 4) (z := 7) (by decide)
      have x1 := part_lo (ns := ns) (s := s + 4) (u := 2) (z := 2) (by decide)
      have x2 := part_hi (ns := ns) (s := s + 4) (u := 2) (z := 2) (by decide)
      refine ⟨_, rfl, _, rfl, _, _, rfl, rfl, _, _, _, _, _, rfl, hS, by omega, by omega, by decide, by decide, by decide, ?_⟩
      refine ⟨_, rfl, _, rfl, _, _, rfl, rfl, _, _, _, _, _, rfl, hS, by omega, by omega, by decide, by decide, by decide, ?_⟩
      refine ⟨_, rfl, _, rfl, _, _, rfl, rfl, _, _, _, _, _, rfl, hS, by omega, by omega, by decide, by decide, by decide, ?_⟩
      refine ⟨_, rfl, _, rfl, _, rfl, _, _, rfl, rfl, _, _, _, _, _, rfl, hS, by omega, by omega, by decide, by decide, by decide, _, rfl, _, rfl, small_len (by omega), ?_⟩
      refine ⟨_, rfl, _, rfl, _, rfl, _, _, rfl, rfl, _, _, _, _, _, rfl, hS, by omega, by omega, by decide, by decide, by decide, _, rfl, _, rfl, small_len (by omega), ?_⟩
      rw [cut_to st w1, cut_to st x1]
      refine ⟨Nat.zero_le _, fun p np => ?_⟩
      have hS2 : ∀ o, SqL K (upd H' p o) a (ns.map V.int) := fun o => (same_upd np).seq hS
      let nf := nameF (decide (partOf ns (s + 4) 1 2 = 0)) st (st.take (partOf ns (s + 4) 4 7).toNat) (st.take (partOf ns (s + 4) 2 2).toNat) (partOf ns (s + 3) 6 7).toNat (partOf ns (s + 3) 42 26).toNat (partOf ns (s + 3) 1 6).toNat
      refine ⟨_, rfl, _, rfl, by omega, by omega, for_range (fun i σ H2 => H2 = upd H' p (.lst (((List.range i).map nf).map vN)) ∧ ∃ (y m : Option V), σ = [some (.ref a), some (.int s), some (.int n), some (.str lettersZ), some (vN st), y, some (.int (partOf ns (s + 3) 1 6)), some (.int (partOf ns (s + 3) 6 7)), some (.int (partOf ns (s + 3) 42 26)), some (vN (st.take (partOf ns (s + 4) 4 7).toNat)), some (vN (st.take (partOf ns (s + 4) 2 2).toNat)), some (.ref p), m]) ⟨rfl, _, _, rfl⟩ ?_ ?_⟩
      · rintro i σ H2 hi ⟨rfl, y, m, rfl⟩
        have hz : (((List.range i).map nf).map vN).length < sizeLine := by rw [List.length_map, List.length_map, List.length_range]; exact small1000 (by omega)
        have mk : (0 + (i : Int) + partOf ns (s + 3) 1 6) % 6 = (((i + (partOf ns (s + 3) 1 6).toNat) % 6 : Nat) : Int) := by omega
        have next : ∀ (l : List Nat), l = nf i → ((List.range i).map nf).map vN ++ [vN l] = ((List.range (i + 1)).map nf).map vN := by
          intro l e
          rw [List.range_succ, List.map_append, List.map_append, e]
          rfl
        refine ⟨_, rfl, _, rfl, _, _, rfl, rfl, .inl ⟨_, rfl, _, _, rfl, rfl, pz, ?_⟩⟩
        refine ⟨_, rfl, _, rfl, _, _, rfl, rfl, _, _, _, _, _, rfl, hS2 _, by omega, by omega, by decide, by decide, by decide, rfl, _, rfl, ite2 (fun e => ?_) (fun e => ?_)⟩
        · have e1 : decide (partOf ns (s + 4) 1 2 = 0) = true := by
            have := V.int.inj (of_decide_eq_true e)
            exact decide_eq_true this
          have f1 : 0 ≤ (partOf ns (s + 3) 42 26 + 7 * ((0 + (i : Int) + partOf ns (s + 3) 1 6) % 6)) % 26 := by omega
          have f2 : (partOf ns (s + 3) 42 26 + 7 * ((0 + (i : Int) + partOf ns (s + 3) 1 6) % 6)) % 26 < 26 := by omega
          refine ⟨_, rfl, .inl ⟨rfl, _, lstAt upd_same⟩, ?_⟩
          refine ⟨_, rfl, _, rfl, _, rfl, _, rfl, small_len (by rw [List.length_take]; omega), ?_⟩
          refine ⟨_, rfl, _, rfl, _, rfl, _, _, rfl, rfl, .inl (by decide), _, _, rfl, rfl, .inl ⟨_, rfl, _, _, rfl, rfl, pz, _, _, _, rfl, rfl, by rw [letters_len]; decide, letter_at f1 f2, ?_⟩⟩
          rw [cut_to _ u1]
          refine ⟨_, _, rfl, rfl, ?_, ?_⟩
          · rw [sOf_one, sOf_len, sOf_len]
            exact Nat.le_of_lt (small1000 (by rw [List.length_take, List.length_take]; simp only [List.length_cons, List.length_nil]; omega))
          refine ⟨_, rfl, _, rfl, _, rfl, _, rfl, small_len (by rw [List.length_take]; omega), ?_⟩
          rw [cut_from _ u1, sOf_one, sOf_app]
          refine ⟨_, _, rfl, rfl, ?_, ?_⟩
          · rw [sOf_len, sOf_len]
            exact Nat.le_of_lt (small1000 (by rw [List.length_append, List.length_take, List.length_take, List.length_drop, List.length_take]; simp only [List.length_cons, List.length_nil]; omega))
          refine ⟨_, rfl, _, _, rfl, rfl, ?_, ?_⟩
          · rw [sOf_app, sOf_len, sOf_len]
            exact Nat.le_of_lt (small1000 (by rw [List.length_append, List.length_append, List.length_take, List.length_take, List.length_drop, List.length_take, List.length_take]; simp only [List.length_cons, List.length_nil]; omega))
          rw [sOf_app, sOf_app]
          refine ⟨_, _, _, rfl, rfl, upd_same, hz, ?_, _, _, rfl⟩
          rw [upd_twice]
          congr 2
          refine next _ ?_
          show _ = nameF _ _ _ _ _ _ _ _
          unfold nameF
          rw [if_pos e1]
          congr 5
          omega
        · have e1 : ¬ decide (partOf ns (s + 4) 1 2 = 0) = true := by
            intro z
            have := of_decide_eq_true z
            exact e (decide_eq_true (congrArg V.int this))
          refine ⟨_, rfl, .inl ⟨rfl, _, lstAt upd_same⟩, ?_⟩
          refine ⟨_, rfl, _, rfl, _, _, rfl, rfl, _, rfl, _, rfl, small_len (by omega), ?_⟩
          rw [cut_to _ (show (0 : Int) ≤ (0 + (i : Int) + partOf ns (s + 3) 1 6) % 6 + 1 by omega)]
          refine ⟨_, _, _, rfl, rfl, upd_same, hz, ?_, _, _, rfl⟩
          rw [upd_twice]
          congr 2
          refine next _ ?_
          show _ = nameF _ _ _ _ _ _ _ _
          unfold nameF
          rw [if_neg e1]
          congr 1
          omega
      · rintro σ H2 ⟨rfl, y, m, rfl⟩
        refine ⟨_, rfl, q p ((List.range n.toNat).map nf) np ?_ ?_ ?_⟩
        · rw [List.length_map, List.length_range]; omega
        · intro z hz
          obtain ⟨k, hk, rfl⟩ := List.mem_map.mp hz
          exact nameF_nm hl (by rw [List.length_take]; omega) (by rw [List.length_take]; omega) le (le.take _) (le.take _)
        · refine nodup_range fun k j hk hj e => ?_
          exact nameF_inj hl (by omega) (by omega) e
end
end TK

namespace TK
open PySem PySem.Spec PyProof.Rows L2
section
variable {P : Program} {w : World} {K : PySem.W.Frag} {mg : Str → Option Value} {base : Heap}
/-! _law_integer: of an int -/
def spInteger : Sp := fun vs H Q _ => ∃ i : Int, vs = [.int i] ∧ Q (.bl true) H
theorem ok_L_integer {f : Addr} {fd : FuncData} (F : Fun K "_law_integer" "_law_integer" s_L_integer f fd) (m_isinstance : mg "isinstance" = none) (m_int : mg "int" = none) (m_bool : mg "bool" = none) :
    FnOk P w K mg base CX0 1 f fd ["_law_got"] spInteger := by
  refine F.ok sc_L_integer (fun vs H Q E h => ?_) (fun cdv A outer s H vs Q E hr h => ?_)
  · obtain ⟨i, rfl, _⟩ := h
    rfl
  · obtain ⟨i, rfl, q⟩ := h
    refine ⟨_, (pss_one (ps_ret (pe_and (pe_callB call_isi (by rfl) m_isinstance (by decide +kernel) (pa_cons (pv 0) (pa_cons (pe_bltn (v := .ty "int") (u := .type "int") (by rfl) m_int (by decide +kernel) rfl) pa_nil))) (pe_one (pe_not (pe_callB call_isi (by rfl) m_isinstance (by decide +kernel) (pa_cons (pv 0) (pa_cons (pe_bltn (v := .ty "bool") (u := .type "bool") (by rfl) m_bool (by decide +kernel) rfl) pa_nil)))))))), ?_⟩
    refine ⟨_, rfl, _, _, _, _, true, rfl, .ty "int", .base (.int i), rfl, _, rfl, iteT ?_⟩
    refine ⟨_, rfl, _, _, _, _, false, rfl, .ty "bool", .base (.int i), rfl, _, rfl, ?_⟩
    exact q
end
end TK

namespace TK
open PySem PySem.Spec PyProof.Rows L2
/-! ### the same data, down to a depth -/
def flat1 : V → Bool
  | .non => true | .bl _ => true | .int _ => true | .str _ => true | _ => false
def Eq2 (H : Hp) : Nat → V → V → Prop
  | 0, x, y => x = y ∧ flat1 x = true
  | n + 1, x, y => (x = y ∧ flat1 x = true) ∨ ∃ (a b : Addr) (xs ys : List V), x = .ref a ∧ y = .ref b ∧ ((H a = some (.lst xs) ∧ H b = some (.lst ys)) ∨ (H a = some (.tup xs) ∧ H b = some (.tup ys))) ∧ xs.length = ys.length ∧ xs.length < 2 ^ 40 ∧
      ∀ (i : Nat) (x y : V), xs[i]? = some x → ys[i]? = some y → Eq2 H n x y
theorem bint {z : V} {H : Hp} {Q : VK} (h : z = .bl true) (q : Q (.bl true) H) : Q z H := h ▸ q
section
variable {P : Program} {w : World} {K : PySem.W.Frag} {mg : Str → Option Value} {base : Heap}
def spSame (n : Nat) : Sp := fun vs H Q _ => ∃ x y, vs = [x, y] ∧ Eq2 H n x y ∧ Q (.bl true) H
theorem same_tail {x y : V} {H : Hp} (ex : x = y) (fx : flat1 x = true) : (x = .non ∧ y = .non) ∨ (∃ b, x = .bl b ∧ y = .bl b) ∨ (∃ i, x = .int i ∧ y = .int i) ∨ ∃ z, x = .str z ∧ y = .str z := by
  subst ex
  cases x with
  | non => exact .inl ⟨rfl, rfl⟩
  | bl b => exact .inr (.inl ⟨b, rfl, rfl⟩)
  | int i => exact .inr (.inr (.inl ⟨i, rfl, rfl⟩))
  | str z => exact .inr (.inr (.inr ⟨z, rfl, rfl⟩))
  | byt _ => cases fx
  | flt _ => cases fx
  | ref _ => cases fx
  | ty _ => cases fx
structure SameTx (K : PySem.W.Frag) (mg : Str → Option Value) : Prop where
  m_isinstance : mg "isinstance" = none
  m_int : mg "int" = none
  m_bool : mg "bool" = none
  m_str : mg "str" = none
  m_tuple : mg "tuple" = none
  m_list : mg "list" = none
  m_len : mg "len" = none
  m_range : mg "range" = none
theorem ok_L_same {f : Addr} {fd : FuncData} (F : Fun K "_law_same" "_law_same" s_L_same f fd) (g : mg "_law_same" = some (.ref f)) (b : Binds K fd ["_law_got", "_law_wanted"] []) (T : SameTx K mg) (d_L_integer : Def P w K mg base "_law_integer" 1 ["_law_got"] spInteger) :
    ∀ n : Nat, n ≤ 10 → FnOk P w K mg base CX0 (n + 2) f fd ["_law_got", "_law_wanted"] (spSame n) := by
  obtain ⟨m_isinstance, m_int, m_bool, m_str, m_tuple, m_list, m_len, m_range⟩ := T
  intro n
  induction n with
  | zero =>
    intro _
    refine F.ok sc_L_same (fun vs H Q E h => ?_) (fun cdv A outer s H vs Q E hr h => ?_)
    · obtain ⟨x, y, rfl, _⟩ := h
      rfl
    · obtain ⟨x, y, rfl, ⟨ex, fx⟩, q⟩ := h
      refine ⟨_, (pss_cons (ps_if (pt_cmpR op_isN (pv 1) pe_non (nomark _)) (pss_one (ps_ret (pe_cmpR op_isN (pv 0) pe_non (nomark _)))) pss_nil)
  (pss_cons (ps_if (pt_cmpR op_isT (pv 1) pe_bl (nomark _)) (pss_one (ps_ret (pe_cmpR op_isT (pv 0) pe_bl (nomark _)))) pss_nil)
  (pss_cons (ps_if (pt_cmpR op_isT (pv 1) pe_bl (nomark _)) (pss_one (ps_ret (pe_cmpR op_isT (pv 0) pe_bl (nomark _)))) pss_nil)
  (pss_cons (ps_if (pt_val (pe_callB call_isi (by rfl) m_isinstance (by decide +kernel) (pa_cons (pv 1) (pa_cons (pe_bltn (v := .ty "int") (u := .type "int") (by rfl) m_int (by decide +kernel) rfl) pa_nil)))) (pss_one (ps_ret (pe_and (pe_callD d_L_integer (hr.mono (by omega)) (by rfl) (pa_cons (pv 0) pa_nil)) (pe_one (pe_cmpR op_eq (pv 0) (pv 1) (nomark _)))))) pss_nil)
  (pss_cons (ps_if (pt_val (pe_callB call_isi (by rfl) m_isinstance (by decide +kernel) (pa_cons (pv 1) (pa_cons (pe_bltn (v := .ty "str") (u := .type "str") (by rfl) m_str (by decide +kernel) rfl) pa_nil)))) (pss_one (ps_ret (pe_and (pe_callB call_isi (by rfl) m_isinstance (by decide +kernel) (pa_cons (pv 0) (pa_cons (pe_bltn (v := .ty "str") (u := .type "str") (by rfl) m_str (by decide +kernel) rfl) pa_nil))) (pe_one (pe_cmpR op_eq (pv 0) (pv 1) (nomark _)))))) pss_nil)
  (pss_cons (ps_if (PW.pt (pw_and (pt_val (pe_callB call_isi (by rfl) m_isinstance (by decide +kernel) (pa_cons (pv 1) (pa_cons (pe_bltn (v := .ty "tuple") (u := .type "tuple") (by rfl) m_tuple (by decide +kernel) rfl) pa_nil)))) (pw_and1 (pt_not (pt_val (pe_callB call_isi (by rfl) m_isinstance (by decide +kernel) (pa_cons (pv 0) (pa_cons (pe_bltn (v := .ty "tuple") (u := .type "tuple") (by rfl) m_tuple (by decide +kernel) rfl) pa_nil)))))))) (pss_one (ps_ret pe_bl)) pss_nil)
  (pss_cons (ps_if (PW.pt (pw_and (pt_val (pe_callB call_isi (by rfl) m_isinstance (by decide +kernel) (pa_cons (pv 1) (pa_cons (pe_bltn (v := .ty "list") (u := .type "list") (by rfl) m_list (by decide +kernel) rfl) pa_nil)))) (pw_and1 (pt_not (pt_val (pe_callB call_isi (by rfl) m_isinstance (by decide +kernel) (pa_cons (pv 0) (pa_cons (pe_bltn (v := .ty "list") (u := .type "list") (by rfl) m_list (by decide +kernel) rfl) pa_nil)))))))) (pss_one (ps_ret pe_bl)) pss_nil)
  (pss_cons (ps_if (pt_cmpR op_ne (pe_callB call_len_seq (by rfl) m_len (by decide +kernel) (pa_cons (pv 0) pa_nil)) (pe_callB call_len_seq (by rfl) m_len (by decide +kernel) (pa_cons (pv 1) pa_nil)) (nomark _)) (pss_one (ps_ret pe_bl)) pss_nil)
  (pss_cons ps_never (pss_one ps_never)))))))))), ?_⟩
      rcases same_tail (H := H) ex fx with ⟨rfl, rfl⟩ | ⟨b, rfl, rfl⟩ | ⟨i, rfl, rfl⟩ | ⟨z, rfl, rfl⟩
      · exact ⟨_, rfl, rfl, _, rfl, iteT ⟨_, rfl, rfl, q⟩⟩
      · refine ⟨_, rfl, rfl, _, rfl, iteF ⟨_, rfl, _, rfl, _, rfl, ?_⟩⟩
        cases b with
        | true => exact iteT ⟨_, rfl, _, rfl, q⟩
        | false => exact iteF ⟨_, rfl, _, rfl, _, rfl, iteT ⟨_, rfl, _, rfl, q⟩⟩
      · refine ⟨_, rfl, rfl, _, rfl, iteF ⟨_, rfl, _, rfl, _, rfl, iteF ⟨_, rfl, _, rfl, _, rfl, iteF ?_⟩⟩⟩
        refine ⟨_, rfl, _, _, _, _, true, rfl, .ty "int", .base (.int i), rfl, _, rfl, iteT ?_⟩
        refine ⟨_, rfl, i, rfl, _, rfl, iteT ⟨_, rfl, _, rfl, rfl, ?_⟩⟩
        exact bint (congrArg V.bl (decide_eq_true rfl)) q
      · refine ⟨_, rfl, rfl, _, rfl, iteF ⟨_, rfl, _, rfl, _, rfl, iteF ⟨_, rfl, _, rfl, _, rfl, iteF ?_⟩⟩⟩
        refine ⟨_, rfl, _, _, _, _, false, rfl, .ty "int", .base (.str z), rfl, _, rfl, iteF ?_⟩
        refine ⟨_, rfl, _, _, _, _, true, rfl, .ty "str", .base (.str z), rfl, _, rfl, iteT ?_⟩
        refine ⟨_, rfl, _, _, _, _, true, rfl, .ty "str", .base (.str z), rfl, _, rfl, iteT ⟨_, rfl, _, rfl, rfl, ?_⟩⟩
        exact bint (congrArg V.bl (decide_eq_true rfl)) q
  | succ n ih =>
    intro hn
    have d_L_same : Def P w K mg base "_law_same" (n + 2) ["_law_got", "_law_wanted"] (spSame n) := ⟨_, _, ih (by omega), g, F.kp, b⟩
    refine F.ok sc_L_same (fun vs H Q E h => ?_) (fun cdv A outer s H vs Q E hr h => ?_)
    · obtain ⟨x, y, rfl, _⟩ := h
      rfl
    · obtain ⟨x, y, rfl, hE, q⟩ := h
      rcases hE with ⟨ex, fx⟩ | ⟨a, c, xs, ys, rfl, rfl, hk, hl, hz, hi⟩
      · refine ⟨_, (pss_cons (ps_if (pt_cmpR op_isN (pv 1) pe_non (nomark _)) (pss_one (ps_ret (pe_cmpR op_isN (pv 0) pe_non (nomark _)))) pss_nil)
  (pss_cons (ps_if (pt_cmpR op_isT (pv 1) pe_bl (nomark _)) (pss_one (ps_ret (pe_cmpR op_isT (pv 0) pe_bl (nomark _)))) pss_nil)
  (pss_cons (ps_if (pt_cmpR op_isT (pv 1) pe_bl (nomark _)) (pss_one (ps_ret (pe_cmpR op_isT (pv 0) pe_bl (nomark _)))) pss_nil)
  (pss_cons (ps_if (pt_val (pe_callB call_isi (by rfl) m_isinstance (by decide +kernel) (pa_cons (pv 1) (pa_cons (pe_bltn (v := .ty "int") (u := .type "int") (by rfl) m_int (by decide +kernel) rfl) pa_nil)))) (pss_one (ps_ret (pe_and (pe_callD d_L_integer (hr.mono (by omega)) (by rfl) (pa_cons (pv 0) pa_nil)) (pe_one (pe_cmpR op_eq (pv 0) (pv 1) (nomark _)))))) pss_nil)
  (pss_cons (ps_if (pt_val (pe_callB call_isi (by rfl) m_isinstance (by decide +kernel) (pa_cons (pv 1) (pa_cons (pe_bltn (v := .ty "str") (u := .type "str") (by rfl) m_str (by decide +kernel) rfl) pa_nil)))) (pss_one (ps_ret (pe_and (pe_callB call_isi (by rfl) m_isinstance (by decide +kernel) (pa_cons (pv 0) (pa_cons (pe_bltn (v := .ty "str") (u := .type "str") (by rfl) m_str (by decide +kernel) rfl) pa_nil))) (pe_one (pe_cmpR op_eq (pv 0) (pv 1) (nomark _)))))) pss_nil)
  (pss_cons (ps_if (PW.pt (pw_and (pt_val (pe_callB call_isi (by rfl) m_isinstance (by decide +kernel) (pa_cons (pv 1) (pa_cons (pe_bltn (v := .ty "tuple") (u := .type "tuple") (by rfl) m_tuple (by decide +kernel) rfl) pa_nil)))) (pw_and1 (pt_not (pt_val (pe_callB call_isi (by rfl) m_isinstance (by decide +kernel) (pa_cons (pv 0) (pa_cons (pe_bltn (v := .ty "tuple") (u := .type "tuple") (by rfl) m_tuple (by decide +kernel) rfl) pa_nil)))))))) (pss_one (ps_ret pe_bl)) pss_nil)
  (pss_cons (ps_if (PW.pt (pw_and (pt_val (pe_callB call_isi (by rfl) m_isinstance (by decide +kernel) (pa_cons (pv 1) (pa_cons (pe_bltn (v := .ty "list") (u := .type "list") (by rfl) m_list (by decide +kernel) rfl) pa_nil)))) (pw_and1 (pt_not (pt_val (pe_callB call_isi (by rfl) m_isinstance (by decide +kernel) (pa_cons (pv 0) (pa_cons (pe_bltn (v := .ty "list") (u := .type "list") (by rfl) m_list (by decide +kernel) rfl) pa_nil)))))))) (pss_one (ps_ret pe_bl)) pss_nil)
  (pss_cons (ps_if (pt_cmpR op_ne (pe_callB call_len_seq (by rfl) m_len (by decide +kernel) (pa_cons (pv 0) pa_nil)) (pe_callB call_len_seq (by rfl) m_len (by decide +kernel) (pa_cons (pv 1) pa_nil)) (nomark _)) (pss_one (ps_ret pe_bl)) pss_nil)
  (pss_cons ps_never (pss_one ps_never)))))))))), ?_⟩
        rcases same_tail (H := H) ex fx with ⟨rfl, rfl⟩ | ⟨b, rfl, rfl⟩ | ⟨i, rfl, rfl⟩ | ⟨z, rfl, rfl⟩
        · exact ⟨_, rfl, rfl, _, rfl, iteT ⟨_, rfl, rfl, q⟩⟩
        · refine ⟨_, rfl, rfl, _, rfl, iteF ⟨_, rfl, _, rfl, _, rfl, ?_⟩⟩
          cases b with
          | true => exact iteT ⟨_, rfl, _, rfl, q⟩
          | false => exact iteF ⟨_, rfl, _, rfl, _, rfl, iteT ⟨_, rfl, _, rfl, q⟩⟩
        · refine ⟨_, rfl, rfl, _, rfl, iteF ⟨_, rfl, _, rfl, _, rfl, iteF ⟨_, rfl, _, rfl, _, rfl, iteF ?_⟩⟩⟩
          refine ⟨_, rfl, _, _, _, _, true, rfl, .ty "int", .base (.int i), rfl, _, rfl, iteT ?_⟩
          refine ⟨_, rfl, i, rfl, _, rfl, iteT ⟨_, rfl, _, rfl, rfl, ?_⟩⟩
          exact bint (congrArg V.bl (decide_eq_true rfl)) q
        · refine ⟨_, rfl, rfl, _, rfl, iteF ⟨_, rfl, _, rfl, _, rfl, iteF ⟨_, rfl, _, rfl, _, rfl, iteF ?_⟩⟩⟩
          refine ⟨_, rfl, _, _, _, _, false, rfl, .ty "int", .base (.str z), rfl, _, rfl, iteF ?_⟩
          refine ⟨_, rfl, _, _, _, _, true, rfl, .ty "str", .base (.str z), rfl, _, rfl, iteT ?_⟩
          refine ⟨_, rfl, _, _, _, _, true, rfl, .ty "str", .base (.str z), rfl, _, rfl, iteT ⟨_, rfl, _, rfl, rfl, ?_⟩⟩
          exact bint (congrArg V.bl (decide_eq_true rfl)) q
      · have step : ∀ (i : Nat) (hi1 : i < ys.length), ∃ x y, atI xs (0 + (i : Int)) = some x ∧ atI ys (0 + (i : Int)) = some y ∧ Eq2 H n x y := by
          intro i h1
          have h2 : i < xs.length := by omega
          refine ⟨xs[i], ys[i], ?_, ?_, hi i _ _ (List.getElem?_eq_getElem h2) (List.getElem?_eq_getElem h1)⟩
          · exact atI_in (by omega) (by rw [show (0 + (i : Int)).toNat = i by omega]; exact List.getElem?_eq_getElem h2)
          · exact atI_in (by omega) (by rw [show (0 + (i : Int)).toNat = i by omega]; exact List.getElem?_eq_getElem h1)
        rcases hk with ⟨ha, hc⟩ | ⟨ha, hc⟩
        · refine ⟨_, (pss_cons (ps_if (pt_cmpR op_isN (pv 1) pe_non (nomark _)) (pss_one (ps_ret (pe_cmpR op_isN (pv 0) pe_non (nomark _)))) pss_nil)
  (pss_cons (ps_if (pt_cmpR op_isT (pv 1) pe_bl (nomark _)) (pss_one (ps_ret (pe_cmpR op_isT (pv 0) pe_bl (nomark _)))) pss_nil)
  (pss_cons (ps_if (pt_cmpR op_isT (pv 1) pe_bl (nomark _)) (pss_one (ps_ret (pe_cmpR op_isT (pv 0) pe_bl (nomark _)))) pss_nil)
  (pss_cons (ps_if (pt_val (pe_callB call_isi (by rfl) m_isinstance (by decide +kernel) (pa_cons (pv 1) (pa_cons (pe_bltn (v := .ty "int") (u := .type "int") (by rfl) m_int (by decide +kernel) rfl) pa_nil)))) (pss_one (ps_ret (pe_and (pe_callD d_L_integer (hr.mono (by omega)) (by rfl) (pa_cons (pv 0) pa_nil)) (pe_one (pe_cmpR op_eq (pv 0) (pv 1) (nomark _)))))) pss_nil)
  (pss_cons (ps_if (pt_val (pe_callB call_isi (by rfl) m_isinstance (by decide +kernel) (pa_cons (pv 1) (pa_cons (pe_bltn (v := .ty "str") (u := .type "str") (by rfl) m_str (by decide +kernel) rfl) pa_nil)))) (pss_one (ps_ret (pe_and (pe_callB call_isi (by rfl) m_isinstance (by decide +kernel) (pa_cons (pv 0) (pa_cons (pe_bltn (v := .ty "str") (u := .type "str") (by rfl) m_str (by decide +kernel) rfl) pa_nil))) (pe_one (pe_cmpR op_eq (pv 0) (pv 1) (nomark _)))))) pss_nil)
  (pss_cons (ps_if (PW.pt (pw_and (pt_val (pe_callB call_isi (by rfl) m_isinstance (by decide +kernel) (pa_cons (pv 1) (pa_cons (pe_bltn (v := .ty "tuple") (u := .type "tuple") (by rfl) m_tuple (by decide +kernel) rfl) pa_nil)))) (pw_and1 (pt_not (pt_val (pe_callB call_isi (by rfl) m_isinstance (by decide +kernel) (pa_cons (pv 0) (pa_cons (pe_bltn (v := .ty "tuple") (u := .type "tuple") (by rfl) m_tuple (by decide +kernel) rfl) pa_nil)))))))) (pss_one (ps_ret pe_bl)) pss_nil)
  (pss_cons (ps_if (PW.pt (pw_and (pt_val (pe_callB call_isi (by rfl) m_isinstance (by decide +kernel) (pa_cons (pv 1) (pa_cons (pe_bltn (v := .ty "list") (u := .type "list") (by rfl) m_list (by decide +kernel) rfl) pa_nil)))) (pw_and1 (pt_not (pt_val (pe_callB call_isi (by rfl) m_isinstance (by decide +kernel) (pa_cons (pv 0) (pa_cons (pe_bltn (v := .ty "list") (u := .type "list") (by rfl) m_list (by decide +kernel) rfl) pa_nil)))))))) (pss_one (ps_ret pe_bl)) pss_nil)
  (pss_cons (ps_if (pt_cmpR op_ne (pe_callB call_len_seq (by rfl) m_len (by decide +kernel) (pa_cons (pv 0) pa_nil)) (pe_callB call_len_seq (by rfl) m_len (by decide +kernel) (pa_cons (pv 1) pa_nil)) (nomark _)) (pss_one (ps_ret pe_bl)) pss_nil)
  (pss_cons (ps_for PassesOwn.never rfl (pi_range1 (by rfl) m_range (pa_cons (pe_callB call_len_seq (by rfl) m_len (by decide +kernel) (pa_cons (pv 1) pa_nil)) pa_nil)) (pg_name (i := 2) sc_L_same.nd rfl (.inl rfl))
    (pss_one (ps_if (pt_not (pt_val (pe_callD d_L_same (hr.mono (by omega)) (by rfl) (pa_cons (pe_ix ix_list (pv 0) (pv 2) (fun _ _ => rfl)) (pa_cons (pe_ix ix_list (pv 1) (pv 2) (fun _ _ => rfl)) pa_nil))))) (pss_one (ps_ret pe_bl)) pss_nil)))
  (pss_one (ps_ret pe_bl))))))))))), ?_⟩
          refine ⟨_, rfl, rfl, _, rfl, iteF ⟨_, rfl, _, rfl, _, rfl, iteF ⟨_, rfl, _, rfl, _, rfl, iteF ?_⟩⟩⟩
          refine ⟨_, rfl, _, _, _, _, false, rfl, .ty "int", .base (.lst hc), rfl, _, rfl, iteF ?_⟩
          refine ⟨_, rfl, _, _, _, _, false, rfl, .ty "str", .base (.lst hc), rfl, _, rfl, iteF ?_⟩
          refine ⟨_, rfl, _, _, _, _, false, rfl, .ty "tuple", .base (.lst hc), rfl, _, rfl, iteF (iteF ?_)⟩
          refine ⟨_, rfl, _, _, _, _, true, rfl, .ty "list", .base (.lst hc), rfl, _, rfl, iteT ⟨_, rfl, _, _, _, _, true, rfl, .ty "list", .base (.lst ha), rfl, _, rfl, iteF ?_⟩⟩
          refine ⟨_, rfl, _, _, rfl, .inl (lstAt ha), _, rfl, _, _, rfl, .inl (lstAt hc), rfl, _, rfl, ?_⟩
          refine iteNS (congrArg (fun k : Nat => V.int (k : Int)) hl) ?_
          refine ⟨_, rfl, _, _, rfl, .inl (lstAt hc), _, rfl, by omega, by omega, for_range (fun i σ H' => H' = H ∧ ∃ y : Option V, σ = [some (.ref a), some (.ref c), y]) ⟨rfl, _, rfl⟩ ?_ ?_⟩
          · rintro i σ H' hlt ⟨rfl, y, rfl⟩
            obtain ⟨x1, y1, e1, e2, e3⟩ := step i (by omega)
            refine ⟨_, rfl, _, rfl, _, _, _, _, rfl, rfl, lstAt ha, e1, _, rfl, _, rfl, _, _, _, _, rfl, rfl, lstAt hc, e2, x1, y1, rfl, e3, _, rfl, iteF ⟨rfl, _, rfl⟩⟩
          · rintro σ H' ⟨rfl, y, rfl⟩
            exact q
        · refine ⟨_, (pss_cons (ps_if (pt_cmpR op_isN (pv 1) pe_non (nomark _)) (pss_one (ps_ret (pe_cmpR op_isN (pv 0) pe_non (nomark _)))) pss_nil)
  (pss_cons (ps_if (pt_cmpR op_isT (pv 1) pe_bl (nomark _)) (pss_one (ps_ret (pe_cmpR op_isT (pv 0) pe_bl (nomark _)))) pss_nil)
  (pss_cons (ps_if (pt_cmpR op_isT (pv 1) pe_bl (nomark _)) (pss_one (ps_ret (pe_cmpR op_isT (pv 0) pe_bl (nomark _)))) pss_nil)
  (pss_cons (ps_if (pt_val (pe_callB call_isi (by rfl) m_isinstance (by decide +kernel) (pa_cons (pv 1) (pa_cons (pe_bltn (v := .ty "int") (u := .type "int") (by rfl) m_int (by decide +kernel) rfl) pa_nil)))) (pss_one (ps_ret (pe_and (pe_callD d_L_integer (hr.mono (by omega)) (by rfl) (pa_cons (pv 0) pa_nil)) (pe_one (pe_cmpR op_eq (pv 0) (pv 1) (nomark _)))))) pss_nil)
  (pss_cons (ps_if (pt_val (pe_callB call_isi (by rfl) m_isinstance (by decide +kernel) (pa_cons (pv 1) (pa_cons (pe_bltn (v := .ty "str") (u := .type "str") (by rfl) m_str (by decide +kernel) rfl) pa_nil)))) (pss_one (ps_ret (pe_and (pe_callB call_isi (by rfl) m_isinstance (by decide +kernel) (pa_cons (pv 0) (pa_cons (pe_bltn (v := .ty "str") (u := .type "str") (by rfl) m_str (by decide +kernel) rfl) pa_nil))) (pe_one (pe_cmpR op_eq (pv 0) (pv 1) (nomark _)))))) pss_nil)
  (pss_cons (ps_if (PW.pt (pw_and (pt_val (pe_callB call_isi (by rfl) m_isinstance (by decide +kernel) (pa_cons (pv 1) (pa_cons (pe_bltn (v := .ty "tuple") (u := .type "tuple") (by rfl) m_tuple (by decide +kernel) rfl) pa_nil)))) (pw_and1 (pt_not (pt_val (pe_callB call_isi (by rfl) m_isinstance (by decide +kernel) (pa_cons (pv 0) (pa_cons (pe_bltn (v := .ty "tuple") (u := .type "tuple") (by rfl) m_tuple (by decide +kernel) rfl) pa_nil)))))))) (pss_one (ps_ret pe_bl)) pss_nil)
  (pss_cons (ps_if (PW.pt (pw_and (pt_val (pe_callB call_isi (by rfl) m_isinstance (by decide +kernel) (pa_cons (pv 1) (pa_cons (pe_bltn (v := .ty "list") (u := .type "list") (by rfl) m_list (by decide +kernel) rfl) pa_nil)))) (pw_and1 (pt_not (pt_val (pe_callB call_isi (by rfl) m_isinstance (by decide +kernel) (pa_cons (pv 0) (pa_cons (pe_bltn (v := .ty "list") (u := .type "list") (by rfl) m_list (by decide +kernel) rfl) pa_nil)))))))) (pss_one (ps_ret pe_bl)) pss_nil)
  (pss_cons (ps_if (pt_cmpR op_ne (pe_callB call_len_seq (by rfl) m_len (by decide +kernel) (pa_cons (pv 0) pa_nil)) (pe_callB call_len_seq (by rfl) m_len (by decide +kernel) (pa_cons (pv 1) pa_nil)) (nomark _)) (pss_one (ps_ret pe_bl)) pss_nil)
  (pss_cons (ps_for PassesOwn.never rfl (pi_range1 (by rfl) m_range (pa_cons (pe_callB call_len_seq (by rfl) m_len (by decide +kernel) (pa_cons (pv 1) pa_nil)) pa_nil)) (pg_name (i := 2) sc_L_same.nd rfl (.inl rfl))
    (pss_one (ps_if (pt_not (pt_val (pe_callD d_L_same (hr.mono (by omega)) (by rfl) (pa_cons (pe_ix ix_tup (pv 0) (pv 2) (fun _ _ => rfl)) (pa_cons (pe_ix ix_tup (pv 1) (pv 2) (fun _ _ => rfl)) pa_nil))))) (pss_one (ps_ret pe_bl)) pss_nil)))
  (pss_one (ps_ret pe_bl))))))))))), ?_⟩
          refine ⟨_, rfl, rfl, _, rfl, iteF ⟨_, rfl, _, rfl, _, rfl, iteF ⟨_, rfl, _, rfl, _, rfl, iteF ?_⟩⟩⟩
          refine ⟨_, rfl, _, _, _, _, false, rfl, .ty "int", .base (.tup hc), rfl, _, rfl, iteF ?_⟩
          refine ⟨_, rfl, _, _, _, _, false, rfl, .ty "str", .base (.tup hc), rfl, _, rfl, iteF ?_⟩
          refine ⟨_, rfl, _, _, _, _, true, rfl, .ty "tuple", .base (.tup hc), rfl, _, rfl, iteT ⟨_, rfl, _, _, _, _, true, rfl, .ty "tuple", .base (.tup ha), rfl, _, rfl, iteF ?_⟩⟩
          refine ⟨_, rfl, _, _, _, _, false, rfl, .ty "list", .base (.tup hc), rfl, _, rfl, iteF (iteF ?_)⟩
          refine ⟨_, rfl, _, _, rfl, .inr (tupAt ha), _, rfl, _, _, rfl, .inr (tupAt hc), rfl, _, rfl, ?_⟩
          refine iteNS (congrArg (fun k : Nat => V.int (k : Int)) hl) ?_
          refine ⟨_, rfl, _, _, rfl, .inr (tupAt hc), _, rfl, by omega, by omega, for_range (fun i σ H' => H' = H ∧ ∃ y : Option V, σ = [some (.ref a), some (.ref c), y]) ⟨rfl, _, rfl⟩ ?_ ?_⟩
          · rintro i σ H' hlt ⟨rfl, y, rfl⟩
            obtain ⟨x1, y1, e1, e2, e3⟩ := step i (by omega)
            refine ⟨_, rfl, _, rfl, _, _, _, _, rfl, rfl, tupAt ha, e1, _, rfl, _, rfl, _, _, _, _, rfl, rfl, tupAt hc, e2, x1, y1, rfl, e3, _, rfl, iteF ⟨rfl, _, rfl⟩⟩
          · rintro σ H' ⟨rfl, y, rfl⟩
            exact q
end
end TK

namespace TK
open PySem PySem.Spec PyProof.Rows L2
theorem eqv_nm {a b : List Nat} : eqV (vN a) (vN b) = decide (a = b) := by
  show (sOf a == sOf b) = _
  by_cases h : a = b
  · subst h; simp
  · rw [decide_eq_false h]
    exact beq_eq_false_iff_ne.mpr fun z => h (sOf_inj z)
theorem nms_flat (zs : List (List Nat)) : (zs.map vN).all flatV = true := by
  rw [List.all_eq_true]
  intro x hx
  obtain ⟨c, _, rfl⟩ := List.mem_map.mp hx
  rfl
theorem inV_nm {z : List Nat} {zs : List (List Nat)} : inV (vN z) (zs.map vN) = decide (z ∈ zs) := by
  unfold inV
  rw [List.any_map]
  by_cases h : z ∈ zs
  · rw [decide_eq_true h]
    exact List.any_eq_true.mpr ⟨z, h, by show eqV (vN z) (vN z) = true; rw [eqv_nm]; exact decide_eq_true rfl⟩
  · rw [decide_eq_false h]
    exact List.any_eq_false.mpr fun x hx => by
      show ¬ eqV (vN x) (vN z) = true
      rw [eqv_nm]
      intro e
      have := of_decide_eq_true e
      subst this
      exact h hx
theorem in_nm {z : List Nat} {zs : List (List Nat)} : (if false = true then !inV (vN z) (zs.map vN) else inV (vN z) (zs.map vN)) = decide (z ∈ zs) := by
  rw [if_neg (by decide), inV_nm]
theorem notin_nm {z : List Nat} {zs : List (List Nat)} : (if true = true then !inV (vN z) (zs.map vN) else inV (vN z) (zs.map vN)) = !decide (z ∈ zs) := by
  rw [if_pos rfl, inV_nm]
theorem eq_nm {a b : List Nat} : decide (vN a = vN b) = decide (a = b) := by
  by_cases h : a = b
  · subst h; simp
  · rw [decide_eq_false h]
    exact decide_eq_false fun z => h (sOf_inj (V.str.inj z))
theorem vN_at {zs : List (List Nat)} {i : Nat} {x : V} (h : (zs.map vN)[i]? = some x) : ∃ z, zs[i]? = some z ∧ x = vN z := by
  rw [List.getElem?_map] at h
  cases e : zs[i]? with
  | none => rw [e] at h; cases h
  | some z => rw [e] at h; exact ⟨z, rfl, (Option.some.inj h).symm⟩
theorem int_at {zs : List Int} {i : Nat} {x : V} (h : (zs.map V.int)[i]? = some x) : ∃ z, zs[i]? = some z ∧ x = .int z := by
  rw [List.getElem?_map] at h
  cases e : zs[i]? with
  | none => rw [e] at h; cases h
  | some z => rw [e] at h; exact ⟨z, rfl, (Option.some.inj h).symm⟩
section
variable {X : Cx} {K : PySem.W.Frag}
theorem mt_tup_indexK (h : X.K = K) : MtR X "tuple.index" (fun x xs H Q => ∃ p, ∃ ys : List Str, ∃ z j, x = .ref p ∧ xs = [.str z] ∧ SqT K H p (ys.map V.str) ∧ ys[j]? = some z ∧ (∀ m, m < j → ys[m]? ≠ some z) ∧ Q (.int (j : Nat)) H) := h ▸ L2.mt_tup_index
end
theorem vN_strs (zs : List (List Nat)) : zs.map vN = (zs.map sOf).map V.str := by rw [List.map_map]; rfl
theorem idx_first {zs : List (List Nat)} {z : List Nat} (h : z ∈ zs) (nd : zs.Nodup) : ∃ j : Nat, zs[j]? = some z ∧ (∀ m, m < j → zs[m]? ≠ some z) := by
  obtain ⟨j, hj⟩ := List.getElem?_of_mem h
  refine ⟨j, hj, fun m hm e => ?_⟩
  have hjl := (List.getElem?_eq_some_iff.mp hj).1
  have := (List.getElem?_inj hjl nd).mp (hj.trans e.symm)
  omega
theorem str_first {zs : List (List Nat)} {z : List Nat} {j : Nat} (h : zs[j]? = some z) (f : ∀ m, m < j → zs[m]? ≠ some z) : (zs.map sOf)[j]? = some (sOf z) ∧ ∀ m, m < j → (zs.map sOf)[m]? ≠ some (sOf z) := by
  refine ⟨by rw [List.getElem?_map, h]; rfl, fun m hm e => f m hm ?_⟩
  rw [List.getElem?_map] at e
  cases e1 : zs[m]? with
  | none => rw [e1] at e; cases e
  | some y => rw [e1] at e; exact congrArg some (sOf_inj (Option.some.inj e))
theorem take_map_succ {α β : Type} (f : α → β) {xs : List α} {i : Nat} {x : α} (h : xs[i]? = some x) : (xs.map f).take (i + 1) = (xs.map f).take i ++ [f x] := by
  rw [List.take_add_one, List.getElem?_map, h]; rfl
theorem take_all {α : Type} {xs : List α} {n : Nat} (h : xs.length = n) : xs.take n = xs := by rw [← h, List.take_length]
end TK

namespace TK
open PySem PySem.Spec PyProof.Rows L2
def passF (ws hs : List (List Nat)) (kp : List Nat) : List (List Nat) := ws.filter fun m => !decide (m ∈ hs) && !decide (m = kp)
def nxt (ws hs : List (List Nat)) (kp : List Nat) (most : Int) (z : List Nat) (l : Int) : Int := if z ∈ hs ∨ z = kp then 0 else if z ∈ ws then (if most < l + 1 then most else l + 1) else l
def nextF (zs : List (List Nat)) (ls : List Int) (ws hs : List (List Nat)) (kp : List Nat) (most : Int) : List Int := List.zipWith (nxt ws hs kp most) zs ls
section
variable {P : Program} {w : World} {K : PySem.W.Frag} {mg : Str → Option Value} {base : Heap}
def spPassed (K : PySem.W.Frag) : Sp := fun vs H Q _ => ∃ (c t : Addr) (ws hs : List (List Nat)) (kp : List Nat), vs = [.ref c, .ref t, vN kp] ∧ SqT K H c (ws.map vN) ∧ SqT K H t (hs.map vN) ∧ ws.length ≤ 100 ∧
  ∀ (p : Addr) (H' : Hp), Same H H' → H p = none → H' p = some (.tup ((passF ws hs kp).map vN)) → Q (.ref p) H'
theorem ok_passed_over {f : Addr} {fd : FuncData} (F : Fun K "passed_over" "passed_over" s_passed_over f fd) (m_tuple : mg "tuple" = none) : FnOk P w K mg base CX0 1 f fd ["candidates", "takers", "keeper"] (spPassed K) := by
  refine F.ok sc_passed_over (fun vs H Q E h => ?_) (fun cdv A outer s H vs Q E hr h => ?_)
  · obtain ⟨c, t, ws, hs, kp, rfl, _⟩ := h
    rfl
  · obtain ⟨c, t, ws, hs, kp, rfl, hc, ht, hl, q⟩ := h
    refine ⟨_, (pss_one (ps_ret (pe_callTy call_tuple_of (by rfl) m_tuple (by decide +kernel) (pa_cons (pe_lc (own := [("member", 3)]) (by rfl) sc_passed_over.nd (pi_tup (pv 0)) (blkOk_by (N := ["candidates", "takers", "keeper", "member"]) (sc := defScope s_passed_over) (by decide +kernel)) (fun _ _ _ _ _ => (pg_name (i := 3) sc_passed_over.nd rfl (.inl rfl))) (fun _ _ _ _ _ => (pts_one (PW.pt (pw_and (pt_cmpR (op_notIn_seqK (K := K) rfl) (pv 3) (pv 1) (by rfl)) (pw_and1 (pt_cmpR op_ne (pv 3) (pv 2) (nomark _))))))) (fun _ _ _ _ _ => (pv 3))) pa_nil)))), ?_⟩
    refine ⟨_, rfl, c, rfl, ⟨_, hc⟩, fun D nD => ?_⟩
    refine lc_tup (K := K) (a := c) (xs := ws.map vN) (fun i H' => H' = upd H D (.lst ((passF (ws.take i) hs kp).map vN))) rfl (fun i H' _ e => e ▸ same_tup (same_upd nD) hc) (fun i x H' hx hq => ?_) (fun H' hq => ?_)
    · subst hq
      obtain ⟨z, ez, rfl⟩ := vN_at hx
      have hz : ((passF (ws.take i) hs kp).map vN).length < sizeLine := by
        rw [List.length_map]
        have := List.length_filter_le (fun m => !decide (m ∈ hs) && !decide (m = kp)) (ws.take i)
        rw [List.length_take] at this
        exact small1000 (by unfold passF; omega)
      have tk : passF (ws.take (i + 1)) hs kp = passF (ws.take i) hs kp ++ (if (!decide (z ∈ hs) && !decide (z = kp)) = true then [z] else []) := by
        unfold passF
        rw [List.take_add_one, ez, List.filter_append]
        congr 1
        show List.filter _ [z] = _
        rw [List.filter_cons, List.filter_nil]
      refine ⟨rfl, _, rfl, _, rfl, _, _, rfl, .inr (same_tup (same_upd nD) ht), rfl, nms_flat _, _, rfl, ?_⟩
      rw [notin_nm]
      by_cases h1 : z ∈ hs
      · rw [decide_eq_true h1]
        refine iteF ?_
        refine iteF ?_
        rw [tk, decide_eq_true h1, if_neg (by simp), List.append_nil]
      · rw [decide_eq_false h1]
        refine iteT ⟨_, rfl, _, rfl, rfl, _, rfl, ?_⟩
        rw [eq_nm]
        by_cases h2 : z = kp
        · rw [decide_eq_true h2]
          refine iteF ?_
          rw [tk, decide_eq_true h2, if_neg (by simp), List.append_nil]
        · rw [decide_eq_false h2]
          refine iteT ⟨_, rfl, _, upd_same, hz, ?_⟩
          rw [upd_twice, tk, decide_eq_false h1, decide_eq_false h2, if_pos (by decide), List.map_append]; rfl
    · subst hq
      rw [List.length_map, List.take_length]
      refine ⟨_, _, rfl, .inl ⟨lstAt upd_same, fun p np => ?_⟩⟩
      have s1 := same_upd (o := .lst ((passF ws hs kp).map vN)) nD
      have np0 : H p = none := s1.free np
      exact q p _ (same_at s1 np0) np0 upd_same
/-! next_passes -/
def spNextP (K : PySem.W.Frag) : Sp := fun vs H Q _ => ∃ (m b c t : Addr) (zs ws hs : List (List Nat)) (ls : List Int) (kp : List Nat) (most : Int), vs = [.ref m, .ref b, .ref c, .ref t, vN kp, .int most] ∧ SqT K H m (zs.map vN) ∧ SqT K H b (ls.map V.int) ∧ SqT K H c (ws.map vN) ∧ SqT K H t (hs.map vN) ∧ ws.length ≤ 100 ∧ zs.length ≤ 100 ∧ zs.length = ls.length ∧
  ∀ (p : Addr) (H' : Hp), Same H H' → H p = none → H' p = some (.tup ((nextF zs ls ws hs kp most).map V.int)) → Q (.ref p) H'
theorem ok_next_passes {f : Addr} {fd : FuncData} (F : Fun K "next_passes" "next_passes" s_next_passes f fd) (m_tuple : mg "tuple" = none) (m_zip : mg "zip" = none) (m_min : mg "min" = none) (d_passed_over : Def P w K mg base "passed_over" 1 ["candidates", "takers", "keeper"] (spPassed K)) :
    FnOk P w K mg base CX0 2 f fd ["members", "passes", "candidates", "takers", "keeper", "most"] (spNextP K) := by
  refine F.ok sc_next_passes (fun vs H Q E h => ?_) (fun cdv A outer s H vs Q E hr h => ?_)
  · obtain ⟨m, b, c, t, zs, ws, hs, ls, kp, most, rfl, _⟩ := h
    rfl
  · obtain ⟨m, b, c, t, zs, ws, hs, ls, kp, most, rfl, hm, hb, hc, ht, hw, hz, hl, q⟩ := h
    refine ⟨_, (pss_cons (ps_set (i := 6) sc_next_passes.nd rfl (.inl rfl) (pe_callD d_passed_over (hr.mono (by decide)) (by rfl) (pa_cons (pv 2) (pa_cons (pv 3) (pa_cons (pv 4) pa_nil)))))
  (pss_cons (ps_set (i := 7) sc_next_passes.nd rfl (.inl rfl) (pe_lst pa_nil))
  (pss_cons (ps_for PassesOwn.never rfl (RZ.pi_zipA (by rfl) m_zip (pa_cons (pv 0) (pa_cons (pv 1) pa_nil))) (pg_tup (by rfl) (pgs_cons (pg_name (i := 8) sc_next_passes.nd rfl (.inl rfl)) (pgs_cons (pg_name (i := 9) sc_next_passes.nd rfl (.inl rfl)) pgs_nil)))
    (pss_one (ps_if (PW.pt (pw_or (pt_cmpR op_in_seq (pv 8) (pv 3) (by rfl)) (pw_or1 (pt_cmpR op_eq (pv 8) (pv 4) (nomark _))))) (pss_one (ps_expr (pe_bm PySem.F.plainAttrs_list PySem.F.slot_list_append PySem.F.type_list_append mt_append (pv 7) (pa_cons pe_int pa_nil)))) (pss_one (ps_if (pt_cmpR op_in_seq (pv 8) (pv 6) (by rfl)) (pss_one (ps_expr (pe_bm PySem.F.plainAttrs_list PySem.F.slot_list_append PySem.F.type_list_append mt_append (pv 7) (pa_cons (pe_callB (call_min2 rfl) (by rfl) m_min (by decide +kernel) (pa_cons (pe_op op_add (pv 9) pe_int) (pa_cons (pv 5) pa_nil))) pa_nil)))) (pss_one (ps_expr (pe_bm PySem.F.plainAttrs_list PySem.F.slot_list_append PySem.F.type_list_append mt_append (pv 7) (pa_cons (pv 9) pa_nil)))))))))
  (pss_one (ps_ret (pe_callTy call_tuple_of (by rfl) m_tuple (by decide +kernel) (pa_cons (pv 7) pa_nil))))))), ?_⟩
    refine ⟨_, rfl, _, rfl, _, rfl, c, t, ws, hs, kp, rfl, hc, ht, hw, fun pp H1 s1 npp epp => ?_⟩
    refine ⟨Nat.zero_le _, fun l nl => ?_⟩
    have s2 : Same H1 (upd H1 l (.lst [])) := same_upd nl
    have nl0 : H l = none := s1.free nl
    have npl : pp ≠ l := fun e => by subst e; rw [epp] at nl; cases nl
    have hfl : (nextF zs ls ws hs kp most).length = zs.length := by unfold nextF; rw [List.length_zipWith, ← hl, Nat.min_self]
    refine ⟨_, rfl, _, rfl, m, b, zs.map vN, ls.map V.int, rfl, .inr ⟨same_tup (s1.trans s2) hm, same_tup (s1.trans s2) hb, ?_⟩⟩
    refine RZ.for_zipT (by rw [List.length_map, List.length_map]; exact hl) (fun i σ H2 => Same H H2 ∧ H2 pp = some (.tup ((passF ws hs kp).map vN)) ∧ H2 l = some (.lst (((nextF zs ls ws hs kp most).take i).map V.int)) ∧ ∃ y1 y2 : Option V, σ = [some (.ref m), some (.ref b), some (.ref c), some (.ref t), some (vN kp), some (.int most), some (.ref pp), some (.ref l), y1, y2])
      ⟨s1.trans s2, by rw [upd_ne npl]; exact epp, upd_same, _, _, rfl⟩ (fun i σ H2 hp => ⟨same_tup hp.1 hm, same_tup hp.1 hb⟩) ?_ ?_
    · rintro i x y T σ H2 hx hy ⟨sm, ep, el, y1, y2, rfl⟩ nT
      obtain ⟨z, ez, rfl⟩ := vN_at hx
      obtain ⟨v, ev, rfl⟩ := int_at hy
      have sT := same_upd (o := .tup [vN z, .int v]) nT
      have sm3 := sm.trans sT
      have el3 := sT _ _ el
      have ep3 := sT _ _ ep
      have hi : i < zs.length := (List.getElem?_eq_some_iff.mp ez).1
      have hz3 : (((nextF zs ls ws hs kp most).take i).map V.int).length < sizeLine := by
        rw [List.length_map, List.length_take]; exact small1000 (by omega)
      have tk : (nextF zs ls ws hs kp most).take (i + 1) = (nextF zs ls ws hs kp most).take i ++ [nxt ws hs kp most z v] := by
        unfold nextF
        rw [List.take_add_one, List.getElem?_zipWith, ez, ev]; rfl
      have fin : ∀ u : Int, u = nxt ws hs kp most z v → ∃ (y1 y2 : Option V), Same H (upd (upd H2 T (.tup [vN z, .int v])) l (.lst (((nextF zs ls ws hs kp most).take i).map V.int ++ [V.int u]))) ∧ (upd (upd H2 T (.tup [vN z, .int v])) l (.lst (((nextF zs ls ws hs kp most).take i).map V.int ++ [V.int u]))) pp = some (.tup ((passF ws hs kp).map vN)) ∧
          (upd (upd H2 T (.tup [vN z, .int v])) l (.lst (((nextF zs ls ws hs kp most).take i).map V.int ++ [V.int u]))) l = some (.lst (((nextF zs ls ws hs kp most).take (i + 1)).map V.int)) := by
        intro u eu
        refine ⟨none, none, same_at sm3 nl0, by rw [upd_ne npl]; exact ep3, ?_⟩
        rw [upd_same, tk, eu, List.map_append]; rfl
      refine ⟨_, _, rfl, tupAt upd_same, rfl, _, _, rfl, _, _, rfl, rfl, ?_⟩
      refine ⟨_, rfl, _, rfl, t, _, rfl, .inr (same_tup sm3 ht), rfl, nms_flat _, _, rfl, ?_⟩
      rw [in_nm]
      by_cases h1 : z ∈ hs
      · rw [decide_eq_true h1]
        refine iteT ?_
        refine ⟨_, rfl, .inl ⟨rfl, _, lstAt el3⟩, _, _, _, rfl, rfl, el3, hz3, ?_⟩
        obtain ⟨_, _, g1, g2, g3⟩ := fin 0 (by unfold nxt; rw [if_pos (.inl h1)])
        exact ⟨g1, g2, g3, _, _, rfl⟩
      · rw [decide_eq_false h1]
        refine iteF ⟨_, rfl, _, rfl, rfl, _, rfl, ?_⟩
        rw [eq_nm]
        by_cases h2 : z = kp
        · rw [decide_eq_true h2]
          refine iteT ?_
          refine ⟨_, rfl, .inl ⟨rfl, _, lstAt el3⟩, _, _, _, rfl, rfl, el3, hz3, ?_⟩
          obtain ⟨_, _, g1, g2, g3⟩ := fin 0 (by unfold nxt; rw [if_pos (.inr h2)])
          exact ⟨g1, g2, g3, _, _, rfl⟩
        · rw [decide_eq_false h2]
          refine iteF ?_
          refine ⟨_, rfl, _, rfl, pp, _, rfl, .inr (tupAt ep3), rfl, nms_flat _, _, rfl, ?_⟩
          rw [in_nm]
          have hno : ¬ (z ∈ hs ∨ z = kp) := fun h => h.elim h1 h2
          have hpp : z ∈ passF ws hs kp ↔ z ∈ ws := by
            unfold passF
            rw [List.mem_filter]
            exact ⟨fun h => h.1, fun h => ⟨h, by rw [decide_eq_false h1, decide_eq_false h2]; rfl⟩⟩
          by_cases h3 : z ∈ ws
          · rw [decide_eq_true (hpp.mpr h3)]
            refine iteT ?_
            refine ⟨_, rfl, .inl ⟨rfl, _, lstAt el3⟩, _, rfl, _, _, rfl, rfl, _, rfl, _, _, rfl, ?_⟩
            refine ⟨_, _, _, rfl, rfl, el3, hz3, ?_⟩
            obtain ⟨_, _, g1, g2, g3⟩ := fin (if most < v + 1 then most else v + 1) (by unfold nxt; rw [if_neg hno, if_pos h3])
            exact ⟨g1, g2, g3, _, _, rfl⟩
          · rw [decide_eq_false (fun h => h3 (hpp.mp h))]
            refine iteF ?_
            refine ⟨_, rfl, .inl ⟨rfl, _, lstAt el3⟩, _, rfl, _, _, _, rfl, rfl, el3, hz3, ?_⟩
            obtain ⟨_, _, g1, g2, g3⟩ := fin v (by unfold nxt; rw [if_neg hno, if_neg h3])
            exact ⟨g1, g2, g3, _, _, rfl⟩
    · rintro σ H2 ⟨sm, ep, el, y1, y2, rfl⟩
      rw [List.length_map, take_all hfl] at el
      refine ⟨_, rfl, _, _, rfl, .inl ⟨lstAt el, fun p np => ?_⟩⟩
      have np0 : H p = none := sm.free np
      exact q p _ (same_at sm np0) np0 upd_same
/-! longest -/
def loadOf (zs : List (List Nat)) (ls : List Int) (z : List Nat) : Int := ls.getD (zs.idxOf z) 0
def spLongest (K : PySem.W.Frag) : Sp := fun vs H Q _ => ∃ (m b c : Addr) (zs ws : List (List Nat)) (ls : List Int), vs = [.ref m, .ref b, .ref c] ∧ (∃ o, H m = some (.frz o (.tup (zs.map vN))) ∧ o.cls = .type "tuple" ∧ o.dict = none) ∧ SqT K H b (ls.map V.int) ∧ SqT K H c (ws.map vN) ∧ ws.length ≤ 100 ∧ zs.length = ls.length ∧ zs.Nodup ∧ (∀ z ∈ ws, z ∈ zs) ∧
  ∀ (z : List Nat) (H' : Hp), Same H H' → (ws = [] → z = []) → (ws ≠ [] → z ∈ ws ∧ (∀ m, m < ws.idxOf z → ∀ y, ws[m]? = some y → loadOf zs ls y < loadOf zs ls z) ∧ ∀ y ∈ ws, loadOf zs ls y ≤ loadOf zs ls z) → Q (vN z) H'
theorem idxOf_at {zs : List (List Nat)} {z : List Nat} {j : Nat} (h : zs[j]? = some z) (f : ∀ m, m < j → zs[m]? ≠ some z) : zs.idxOf z = j := by
  have hm : z ∈ zs := List.mem_of_getElem? h
  have hlt : zs.idxOf z < zs.length := List.idxOf_lt_length_iff.mpr hm
  have e1 : zs[zs.idxOf z]? = some z := by rw [List.getElem?_eq_getElem hlt, List.getElem_idxOf hlt]
  have a1 : ¬ zs.idxOf z < j := fun q => f _ q e1
  have a2 : ¬ j < zs.idxOf z := fun q => by
    have := List.not_of_lt_findIdx (xs := zs) (p := fun x => x == z) (i := j) q
    have hj := (List.getElem?_eq_some_iff.mp h)
    obtain ⟨h1, h2⟩ := hj
    simp [h2] at this
  omega
theorem load_at {zs : List (List Nat)} {ls : List Int} {z : List Nat} {j : Nat} (hl : zs.length = ls.length) (h : zs[j]? = some z) (f : ∀ m, m < j → zs[m]? ≠ some z) : atI (ls.map V.int) ((j : Nat) : Int) = some (.int (loadOf zs ls z)) := by
  have hj := (List.getElem?_eq_some_iff.mp h).1
  have := get_int (ns := ls) (s := ((j : Nat) : Int)) (by omega) (by omega)
  rw [this]
  unfold loadOf
  rw [idxOf_at h f, Int.toNat_natCast]
theorem eqv_int {a b : Int} : eqV (.int a) (.int b) = decide (a = b) := by
  show (a == b) = _
  by_cases h : a = b
  · subst h; simp
  · rw [decide_eq_false h]; exact beq_eq_false_iff_ne.mpr h
theorem ints_flat (ns : List Int) : (ns.map V.int).all flatV = true := by
  rw [List.all_eq_true]
  intro x hx
  obtain ⟨c, _, rfl⟩ := List.mem_map.mp hx
  rfl
theorem first_int {ns : List Int} {m : Int} (h : m ∈ ns) : ∃ j : Nat, ns[j]? = some m ∧ ∀ i, i < j → ∀ y, ns[i]? = some y → y ≠ m := by
  induction ns with
  | nil => cases h
  | cons a ns ih =>
    by_cases e : a = m
    · exact ⟨0, by rw [e]; rfl, fun i hi => absurd hi (by omega)⟩
    · have h' : m ∈ ns := by
        rcases List.mem_cons.mp h with r | r
        · exact absurd r.symm e
        · exact r
      obtain ⟨j, h1, h2⟩ := ih h'
      refine ⟨j + 1, h1, fun i hi y hy => ?_⟩
      cases i with
      | zero =>
        have : a = y := by simpa using hy
        rw [← this]; exact e
      | succ i => exact h2 i (by omega) y hy
theorem ok_longest {f : Addr} {fd : FuncData} (F : Fun K "longest" "longest" s_longest f fd) (m_len : mg "len" = none) (m_max : mg "max" = none) : FnOk P w K mg base CX0 1 f fd ["members", "passes", "candidates"] (spLongest K) := by
  refine F.ok sc_longest (fun vs H Q E h => ?_) (fun cdv A outer s H vs Q E hr h => ?_)
  · obtain ⟨m, b, c, zs, ws, ls, rfl, _⟩ := h
    rfl
  · obtain ⟨m, b, c, zs, ws, ls, rfl, ⟨o, hm, o1, o2⟩, hb, hc, hw, hl, nd, sub, q⟩ := h
    refine ⟨_, (pss_cons (ps_if (pt_cmpR op_eq (pe_callB call_len_seq (by rfl) m_len (by decide +kernel) (pa_cons (pv 2) pa_nil)) pe_int (nomark _)) (pss_one (ps_ret pe_str)) pss_nil)
  (pss_cons (ps_setLc (i := 3) (own := [("member", 4)]) (by rfl) sc_longest.nd rfl rfl (sw_true rfl rfl rfl (by decide +kernel)) (pi_tup (pv 2)) (blkOk_by (N := ["members", "passes", "candidates", "numbers", "member"]) (sc := defScope s_longest) (by decide +kernel)) (fun _ _ _ _ _ => (pg_name (i := 4) sc_longest.nd rfl (.inl rfl))) (fun _ _ _ _ _ => pts_nil) (fun _ _ _ _ _ => (pe_ix (ix_tupK (K := K) rfl) (pv 1) (pe_bmF PySem.F.plainAttrs_tuple PySem.F.slot_tuple_index PySem.F.type_tuple_index (mt_tup_indexK (K := K) rfl) (pv 0) (pa_cons (pv 4) pa_nil)) (fun _ _ => rfl))))
  (pss_one (ps_ret (pe_ix ix_tup (pv 2) (pe_bm PySem.F.plainAttrs_list PySem.F.slot_list_index PySem.F.type_list_index mt_index (pv 3) (pa_cons (pe_callB (cr_max rfl) (by rfl) m_max (by decide +kernel) (pa_cons (pv 3) pa_nil)) pa_nil)) (fun _ _ => rfl)))))), ?_⟩
    refine ⟨_, rfl, _, _, rfl, .inr hc, rfl, _, rfl, ite2 (fun e => ?_) (fun e => ?_)⟩
    · have e1 : ws = [] := by
        have := V.int.inj (of_decide_eq_true e)
        rw [List.length_map] at this
        exact List.length_eq_zero_iff.mp (by omega)
      exact q [] H (Same.refl H) (fun _ => rfl) (fun h => absurd e1 h)
    · have e1 : ws ≠ [] := fun z => e (decide_eq_true (by rw [z]; rfl))
      refine ⟨_, rfl, c, rfl, ⟨_, hc⟩, fun D nD => ?_⟩
      refine lc_tup (K := K) (a := c) (xs := ws.map vN) (fun i H' => H' = upd H D (.lst (((ws.map (loadOf zs ls)).take i).map V.int))) rfl (fun i H' _ e => e ▸ same_tup (same_upd nD) hc) (fun i x H' hx hq => ?_) (fun H' hq => ?_)
      · subst hq
        obtain ⟨z, ez, rfl⟩ := vN_at hx
        have sD := same_upd (o := .lst (((ws.map (loadOf zs ls)).take i).map V.int)) nD
        have hz : (((ws.map (loadOf zs ls)).take i).map V.int).length < sizeLine := by
          rw [List.length_map, List.length_take, List.length_map]; exact small1000 (by omega)
        obtain ⟨j, j1, j2⟩ := idx_first (sub z (List.mem_of_getElem? ez)) nd
        obtain ⟨k1, k2⟩ := str_first j1 j2
        refine ⟨rfl, yesT ⟨_, rfl, _, rfl, ⟨m, o, _, rfl, sD _ _ hm, o1, o2⟩, _, rfl, m, zs.map sOf, sOf z, j, rfl, rfl, ?_, k1, k2, ?_⟩⟩
        · rw [← vN_strs]; exact tupFrz (sD _ _ hm)
        refine ⟨_, _, _, _, rfl, rfl, same_tup sD hb, load_at hl j1 j2, _, upd_same, hz, ?_⟩
        rw [upd_twice, take_map_succ _ ez, List.map_append]; rfl
      · subst hq
        rw [List.length_map, take_all (by rw [List.length_map])]
        have sD := same_upd (o := .lst ((ws.map (loadOf zs ls)).map V.int)) nD
        refine ⟨_, rfl, _, rfl, .inl ⟨rfl, _, lstAt upd_same⟩, ?_⟩
        refine ⟨_, rfl, D, ws.map (loadOf zs ls), rfl, lstAt upd_same, ?_, fun mx hmx hge => ?_⟩
        · rw [List.length_map]; exact List.length_pos_iff.mpr e1
        obtain ⟨j, j1, j2⟩ := first_int hmx
        refine ⟨D, _, .int mx, j, .int mx, rfl, rfl, lstAt upd_same, rfl, ints_flat _, ?_, ?_, ?_, ?_⟩
        · rw [List.getElem?_map, j1]; rfl
        · rw [eqv_int]; exact decide_eq_true rfl
        · intro i z' hi hz'
          obtain ⟨y, ey, rfl⟩ := int_at hz'
          rw [eqv_int]
          exact decide_eq_false (j2 i hi y ey)
        · have hjl := (List.getElem?_eq_some_iff.mp j1).1
          rw [List.length_map] at hjl
          have ew : ws[j]? = some ws[j] := List.getElem?_eq_getElem hjl
          have emx : mx = loadOf zs ls ws[j] := by
            rw [List.getElem?_map, ew] at j1
            exact (Option.some.inj j1).symm
          have eix : ws.idxOf ws[j] = j := idxOf_at ew fun i hi hh => j2 i hi mx (by rw [List.getElem?_map, hh, emx]; rfl) rfl
          refine ⟨_, _, _, _, rfl, rfl, same_tup sD hc, atI_nat (by rw [List.getElem?_map, ew]; rfl), ?_⟩
          refine q ws[j] _ sD (fun h => absurd h e1) (fun _ => ⟨List.getElem_mem hjl, fun i hi y hy => ?_, fun y hy => ?_⟩)
          · rw [eix] at hi
            have a1 := j2 i hi (loadOf zs ls y) (by rw [List.getElem?_map, hy]; rfl)
            have a2 := hge (loadOf zs ls y) (List.mem_map.mpr ⟨y, List.mem_of_getElem? hy, rfl⟩)
            rw [← emx]; omega
          · rw [← emx]; exact hge _ (List.mem_map.mpr ⟨y, hy, rfl⟩)
end
end TK

namespace TK
open PySem PySem.Spec PyProof.Rows L2
theorem pow4 {i : Int} (h0 : 0 ≤ i) (h1 : i < 4) : ∃ v : Int, atI [V.int 1, V.int 2, V.int 4, V.int 8] i = some (.int v) ∧ 0 < v ∧ v < 1000000 := by
  obtain rfl | rfl | rfl | rfl : i = 0 ∨ i = 1 ∨ i = 2 ∨ i = 3 := by omega
  · exact ⟨1, rfl, by decide, by decide⟩
  · exact ⟨2, rfl, by decide, by decide⟩
  · exact ⟨4, rfl, by decide, by decide⟩
  · exact ⟨8, rfl, by decide, by decide⟩
theorem nm_at {zs : List (List Nat)} {i : Int} (h0 : 0 ≤ i) (h : i < zs.length) : ∃ z, zs[i.toNat]? = some z ∧ atI (zs.map vN) i = some (vN z) := by
  have h1 : i.toNat < zs.length := by omega
  refine ⟨zs[i.toNat], List.getElem?_eq_getElem h1, atI_in h0 ?_⟩
  rw [List.getElem?_map, List.getElem?_eq_getElem h1]; rfl
theorem sub_snoc {α : Type} {ws zs : List α} {i : Nat} {z : α} (h : ws.Sublist (zs.take i)) (e : zs[i]? = some z) : (ws ++ [z]).Sublist (zs.take (i + 1)) := by
  rw [List.take_add_one, e]
  exact h.append (List.Sublist.refl _)
theorem sub_keep {α : Type} {ws zs : List α} {i : Nat} (h : ws.Sublist (zs.take i)) : ws.Sublist (zs.take (i + 1)) := by
  rw [List.take_add_one]
  exact h.trans (List.sublist_append_left _ _)
section
variable {P : Program} {w : World} {K : PySem.W.Frag} {mg : Str → Option Value} {base : Heap}
def spSome (K : PySem.W.Frag) : Sp := fun vs H Q _ => ∃ (a p : Addr) (ns : List Int) (s : Int) (zs : List (List Nat)), vs = [.ref a, .int s, .ref p] ∧ SqL K H a (ns.map V.int) ∧ 0 ≤ s ∧ s < ns.length ∧ H p = some (.lst (zs.map vN)) ∧ zs.length ≤ 4 ∧
  ∀ (d : Addr) (ws : List (List Nat)) (H' : Hp), Same H H' → H d = none → H' d = some (.lst (ws.map vN)) → ws.Sublist zs → Q (.ref d) H'
theorem ok_L_some {f : Addr} {fd : FuncData} (F : Fun K "_law_some" "_law_some" s_L_some f fd) (m_len : mg "len" = none) (m_range : mg "range" = none) (d_L_part : Def P w K mg base "_law_part" 1 ["_law_pool_here", "_law_spot", "_law_under", "_law_size"] (spPart K)) :
    FnOk P w K mg base CX0 2 f fd ["_law_pool_here", "_law_spot", "_law_names_here"] (spSome K) := by
  refine F.ok sc_L_some (fun vs H Q E h => ?_) (fun cdv A outer s H vs Q E hr h => ?_)
  · obtain ⟨a, p, ns, s, zs, rfl, _⟩ := h
    rfl
  · obtain ⟨a, p, ns, s, zs, rfl, hS, h0, h1, hp, hl, q⟩ := h
    refine ⟨_, (pss_cons (ps_set (i := 3) sc_L_some.nd rfl (.inl rfl) (pe_lst pa_nil))
  (pss_cons (ps_for PassesOwn.never rfl (pi_range1 (by rfl) m_range (pa_cons (pe_callB call_len_seq (by rfl) m_len (by decide +kernel) (pa_cons (pv 2) pa_nil)) pa_nil)) (pg_name (i := 4) sc_L_some.nd rfl (.inl rfl))
    (pss_one (ps_if (pt_cmpR op_eq (pe_callD d_L_part (hr.mono (by decide)) (by rfl) (pa_cons (pv 0) (pa_cons (pv 1) (pa_cons (pe_ix ix_list (pe_lst (pa_cons pe_int (pa_cons pe_int (pa_cons pe_int (pa_cons pe_int pa_nil))))) (pv 4) (fun _ _ => rfl)) (pa_cons pe_int pa_nil))))) pe_int (nomark _)) (pss_one (ps_expr (pe_bm PySem.F.plainAttrs_list PySem.F.slot_list_append PySem.F.type_list_append mt_append (pv 3) (pa_cons (pe_ix ix_list (pv 2) (pv 4) (fun _ _ => rfl)) pa_nil)))) pss_nil)))
  (pss_one (ps_ret (pv 3))))), ?_⟩
    refine ⟨Nat.zero_le _, fun d nd => ?_⟩
    have s1 : Same H (upd H d (.lst [])) := same_upd nd
    refine ⟨_, rfl, _, _, rfl, .inl (lstAt (s1 _ _ hp)), _, rfl, by omega, by rw [List.length_map]; omega, for_range (fun i σ H2 => Same H H2 ∧ ∃ (ws : List (List Nat)) (y : Option V), σ = [some (.ref a), some (.int s), some (.ref p), some (.ref d), y] ∧ ws.Sublist (zs.take i) ∧ H2 d = some (.lst (ws.map vN))) ⟨s1, [], _, rfl, List.Sublist.refl _, upd_same⟩ ?_ ?_⟩
    · rintro i σ H2 hi ⟨sm, ws, y, rfl, sub, ed⟩
      rw [List.length_map] at hi
      obtain ⟨u, eu, u0, u1⟩ := pow4 (i := 0 + (i : Int)) (by omega) (by omega)
      refine ⟨_, rfl, _, rfl, (show 4 ≤ sizeLine by decide), fun l nl => ⟨_, rfl, _, _, _, _, rfl, rfl, lstAt upd_same, eu, ?_⟩⟩
      have sl := same_upd (o := .lst [V.int 1, V.int 2, V.int 4, V.int 8]) nl
      have sm2 := sm.trans sl
      refine ⟨a, ns, s, u, 2, rfl, sm2.seq hS, h0, h1, u0, u1, by decide, ?_⟩
      refine ⟨rfl, _, rfl, ite2 (fun e => ?_) (fun e => ?_)⟩
      · obtain ⟨z, ez, az⟩ := nm_at (zs := zs) (i := 0 + (i : Int)) (by omega) (by omega)
        rw [show (0 + (i : Int)).toNat = i by omega] at ez
        refine ⟨_, rfl, .inl ⟨rfl, _, lstAt (sl _ _ ed)⟩, _, rfl, _, rfl, _, _, _, _, rfl, rfl, lstAt (sm2 _ _ hp), az, ?_⟩
        have hw := sub.length_le
        rw [List.length_take] at hw
        refine ⟨_, _, _, rfl, rfl, sl _ _ ed, by rw [List.length_map]; exact small1000 (by omega), same_at sm2 nd, ws ++ [z], _, rfl, sub_snoc sub ez, ?_⟩
        rw [upd_same, List.map_append]; rfl
      · exact ⟨sm2, ws, _, rfl, sub_keep sub, sl _ _ ed⟩
    · rintro σ H2 ⟨sm, ws, y, rfl, sub, ed⟩
      rw [List.length_map, Int.toNat_natCast, List.take_length] at sub
      exact ⟨_, rfl, q d ws H2 sm nd ed sub⟩
end
end TK

namespace TK
open PySem PySem.Spec PyProof.Rows L2
def capV : Option Int → V
  | none => .non
  | some x => .int x
def optV : Option (List Nat) → V
  | none => .non
  | some z => vN z
def overF (zs : List (List Nat)) (ls : List Int) (ws : List (List Nat)) (c : Option Int) : Option (List Nat) := ws.find? fun z => match c with | none => false | some x => decide (x ≤ loadOf zs ls z)
theorem over_none (zs : List (List Nat)) (ls : List Int) (ws : List (List Nat)) : overF zs ls ws none = none := List.find?_eq_none.mpr fun _ _ h => by cases h
theorem over_cons {zs : List (List Nat)} {ls : List Int} {z : List Nat} {ws : List (List Nat)} {x : Int} : overF zs ls (z :: ws) (some x) = if x ≤ loadOf zs ls z then some z else overF zs ls ws (some x) := by
  unfold overF
  rw [List.find?_cons]
  by_cases h : x ≤ loadOf zs ls z
  · rw [if_pos h]; simp [h]
  · rw [if_neg h]; simp [h]
theorem drop_at {α : Type} {xs : List α} {i : Nat} {x : α} (h : xs[i]? = some x) : xs.drop i = x :: xs.drop (i + 1) := by
  obtain ⟨hi, e⟩ := List.getElem?_eq_some_iff.mp h
  rw [List.drop_eq_getElem_cons hi, e]
theorem rev_step {α : Type} {xs : List α} {i : Nat} {x : α} (h : xs[i]? = some x) : (xs.take (i + 1)).reverse = x :: (xs.take i).reverse := by
  rw [List.take_add_one, h]
  simp
/-- the first of the most, by the law's own way -/
def longR (zs : List (List Nat)) (ls : List Int) : List (List Nat) → List Nat
  | [] => []
  | z :: ws => if longR zs ls ws = [] ∨ loadOf zs ls (longR zs ls ws) ≤ loadOf zs ls z then z else longR zs ls ws
theorem long_in {zs : List (List Nat)} {ls : List Int} : ∀ {ws : List (List Nat)}, ws ≠ [] → longR zs ls ws ∈ ws
  | [], h => absurd rfl h
  | z :: ws, _ => by
    unfold longR
    split
    · exact List.mem_cons_self ..
    · rename_i h
      by_cases e : ws = []
      · subst e; exact absurd (.inl rfl) h
      · exact List.mem_cons_of_mem _ (long_in e)
theorem long_top {zs : List (List Nat)} {ls : List Int} : ∀ {ws : List (List Nat)}, (∀ z ∈ ws, z ≠ []) → ∀ y ∈ ws, loadOf zs ls y ≤ loadOf zs ls (longR zs ls ws)
  | [], _, y, h => nomatch h
  | z :: ws, ne, y, h => by
    have ih := long_top (zs := zs) (ls := ls) (ws := ws) fun z hz => ne z (List.mem_cons_of_mem _ hz)
    unfold longR
    split
    · rename_i c
      rcases List.mem_cons.mp h with rfl | h
      · exact Int.le_refl _
      · rcases c with c | c
        · exact absurd c (fun e => by
            have : ws ≠ [] := fun q => by rw [q] at h; cases h
            exact ne _ (List.mem_cons_of_mem _ (long_in (zs := zs) (ls := ls) this)) e)
        · exact Int.le_trans (ih y h) c
    · rename_i c
      rcases List.mem_cons.mp h with rfl | h
      · have : ¬ loadOf zs ls (longR zs ls ws) ≤ loadOf zs ls y := fun q => c (.inr q)
        omega
      · exact ih y h
theorem long_first {zs : List (List Nat)} {ls : List Int} : ∀ {ws : List (List Nat)}, (∀ z ∈ ws, z ≠ []) → ws.Nodup → ∀ m, m < ws.idxOf (longR zs ls ws) → ∀ y, ws[m]? = some y → loadOf zs ls y < loadOf zs ls (longR zs ls ws)
  | [], _, _, m, h, y, e => by simp at e
  | z :: ws, ne, nd, m, h, y, e => by
    have ih := long_first (zs := zs) (ls := ls) (ws := ws) (fun z hz => ne z (List.mem_cons_of_mem _ hz)) (List.nodup_cons.mp nd).2
    unfold longR at h ⊢
    split at h
    · rw [List.idxOf_cons_self] at h; omega
    · rename_i c
      rw [if_neg c]
      have hne : ws ≠ [] := fun q => c (.inl (by rw [q]; rfl))
      have hin := long_in (zs := zs) (ls := ls) hne
      have hz : z ≠ longR zs ls ws := fun q => (List.nodup_cons.mp nd).1 (q ▸ hin)
      rw [List.idxOf_cons, show (z == longR zs ls ws) = false from beq_eq_false_iff_ne.mpr hz, cond_false] at h
      cases m with
      | zero =>
        have : z = y := by simpa using e
        subst this
        have : ¬ loadOf zs ls (longR zs ls ws) ≤ loadOf zs ls z := fun q => c (.inr q)
        omega
      | succ m => exact ih m (by omega) y (by simpa using e)
theorem long_eq {zs : List (List Nat)} {ls : List Int} {ws : List (List Nat)} {z : List Nat} (ne : ∀ z ∈ ws, z ≠ []) (nd : ws.Nodup) (h0 : ws = [] → z = []) (h : ws ≠ [] → z ∈ ws ∧ (∀ m, m < ws.idxOf z → ∀ y, ws[m]? = some y → loadOf zs ls y < loadOf zs ls z) ∧ ∀ y ∈ ws, loadOf zs ls y ≤ loadOf zs ls z) : z = longR zs ls ws := by
  by_cases e : ws = []
  · rw [h0 e, e]; rfl
  · obtain ⟨a1, a2, a3⟩ := h e
    have b1 := long_in (zs := zs) (ls := ls) e
    have b2 := long_top (zs := zs) (ls := ls) ne
    have b3 := long_first (zs := zs) (ls := ls) ne nd
    have at_ : ∀ y, y ∈ ws → ws[ws.idxOf y]? = some y := fun y hy => by
      have hl := List.idxOf_lt_length_iff.mpr hy
      rw [List.getElem?_eq_getElem hl, List.getElem_idxOf hl]
    rcases Nat.lt_trichotomy (ws.idxOf z) (ws.idxOf (longR zs ls ws)) with q | q | q
    · have := b3 _ q z (at_ z a1)
      have := a3 _ b1
      omega
    · have e1 := at_ z a1
      rw [q, at_ _ b1] at e1
      exact (Option.some.inj e1).symm
    · have := a2 _ q _ (at_ _ b1)
      have := b2 z a1
      omega
section
variable {P : Program} {w : World} {K : PySem.W.Frag} {mg : Str → Option Value} {base : Heap}
def spFirst (K : PySem.W.Frag) : Sp := fun vs H Q _ => ∃ (m b c : Addr) (zs ws : List (List Nat)) (ls : List Int) (cap : Option Int), vs = [.ref m, .ref b, .ref c, capV cap] ∧ (∃ o, H m = some (.frz o (.tup (zs.map vN))) ∧ o.cls = .type "tuple" ∧ o.dict = none) ∧ SqT K H b (ls.map V.int) ∧ SqT K H c (ws.map vN) ∧ zs.length = ls.length ∧ zs.Nodup ∧ (∀ z ∈ ws, z ∈ zs) ∧
  Q (optV (overF zs ls ws cap)) H
theorem ok_first_over {f : Addr} {fd : FuncData} (F : Fun K "first_over" "first_over" s_first_over f fd) : FnOk P w K mg base CX0 1 f fd ["members", "passes", "passed", "limit"] (spFirst K) := by
  refine F.ok sc_first_over (fun vs H Q E h => ?_) (fun cdv A outer s H vs Q E hr h => ?_)
  · obtain ⟨m, b, c, zs, ws, ls, cap, rfl, _⟩ := h
    rfl
  · obtain ⟨m, b, c, zs, ws, ls, cap, rfl, ⟨o, hm, o1, o2⟩, hb, hc, hl, nd, sub, q⟩ := h
    refine ⟨_, (pss_cons (ps_if (pt_cmpR op_isN (pv 3) pe_non (nomark _)) (pss_one (ps_ret pe_non)) pss_nil)
  (pss_cons (ps_for PassesOwn.never rfl (pi_tup (pv 2)) (pg_name (i := 4) sc_first_over.nd rfl (.inl rfl))
    (pss_one (ps_if (pt_cmpR op_ge (pe_ix ix_tup (pv 1) (pe_bmF PySem.F.plainAttrs_tuple PySem.F.slot_tuple_index PySem.F.type_tuple_index L2.mt_tup_index (pv 0) (pa_cons (pv 4) pa_nil)) (fun _ _ => rfl)) (pv 3) (nomark _)) (pss_one (ps_ret (pv 4))) pss_nil)))
  (pss_one (ps_ret pe_non)))), ?_⟩
    cases cap with
    | none =>
      rw [over_none] at q
      exact ⟨_, rfl, rfl, _, rfl, iteT q⟩
    | some x =>
      refine ⟨_, rfl, rfl, _, rfl, iteF ?_⟩
      refine ⟨_, rfl, c, rfl, ⟨_, hc⟩, for_tup (K := K) (a := c) (xs := ws.map vN) (fun i σ H2 => H2 = H ∧ overF zs ls ws (some x) = overF zs ls (ws.drop i) (some x) ∧ ∃ y : Option V, σ = [some (.ref m), some (.ref b), some (.ref c), some (.int x), y]) ⟨rfl, rfl, _, rfl⟩ (fun i σ H2 _ hp => hp.1 ▸ hc) ?_ ?_⟩
      · rintro i v σ H2 hx ⟨rfl, ho, y, rfl⟩
        obtain ⟨z, ez, rfl⟩ := vN_at hx
        rw [drop_at ez, over_cons] at ho
        obtain ⟨j, j1, j2⟩ := idx_first (sub z (List.mem_of_getElem? ez)) nd
        obtain ⟨k1, k2⟩ := str_first j1 j2
        refine ⟨_, rfl, _, rfl, ⟨m, o, _, rfl, hm, o1, o2⟩, _, rfl, m, zs.map sOf, sOf z, j, rfl, rfl, ?_, k1, k2, ?_⟩
        · rw [← vN_strs]; exact tupFrz hm
        refine ⟨_, _, _, _, rfl, rfl, hb, load_at hl j1 j2, _, rfl, _, _, rfl, rfl, _, rfl, ite2 (fun e => ?_) (fun e => ?_)⟩
        · rw [if_pos (of_decide_eq_true e)] at ho
          rw [ho] at q
          exact ⟨_, rfl, q⟩
        · rw [if_neg (fun h => e (decide_eq_true h))] at ho
          exact ⟨rfl, ho, _, rfl⟩
      · rintro σ H2 ⟨rfl, ho, y, rfl⟩
        rw [List.length_map, List.drop_length] at ho
        rw [ho] at q
        exact q
theorem ix_name {zs : List (List Nat)} {y : List Nat} (nd : zs.Nodup) (hy : y ∈ zs) : ∃ j : Nat, zs[j]? = some y ∧ (∀ m, m < j → zs[m]? ≠ some y) ∧ (zs.map vN)[j]? = some (vN y) ∧ eqV (vN y) (vN y) = true ∧ ∀ (m : Nat) (z' : V), m < j → (zs.map vN)[m]? = some z' → eqV z' (vN y) = false := by
  obtain ⟨j, j1, j2⟩ := idx_first hy nd
  refine ⟨j, j1, j2, by rw [List.getElem?_map, j1]; rfl, by rw [eqv_nm]; exact decide_eq_true rfl, fun m z' hm hz' => ?_⟩
  obtain ⟨x, ex, rfl⟩ := vN_at hz'
  rw [eqv_nm]
  exact decide_eq_false fun e => j2 m hm (e ▸ ex)
/-! _law_over -/
def spOverL (K : PySem.W.Frag) : Sp := fun vs H Q _ => ∃ (c l d : Addr) (zs ws : List (List Nat)) (ls : List Int) (cap : Option Int), vs = [.ref c, .ref l, .ref d, capV cap] ∧ H c = some (.lst (zs.map vN)) ∧ H l = some (.lst (ls.map V.int)) ∧ H d = some (.lst (ws.map vN)) ∧ zs.length = ls.length ∧ zs.Nodup ∧ (∀ z ∈ ws, z ∈ zs) ∧
  ∀ H', Same H H' → Q (optV (overF zs ls ws cap)) H'
theorem rev_map {ws : List (List Nat)} : (ws.map vN).reverse = ws.reverse.map vN := by rw [List.map_reverse]
theorem ok_L_over {f : Addr} {fd : FuncData} (F : Fun K "_law_over" "_law_over" s_L_over f fd) : FnOk P w K mg base CX0 1 f fd ["_law_crew", "_law_loads", "_law_listed", "_law_cap"] (spOverL K) := by
  refine F.ok sc_L_over (fun vs H Q E h => ?_) (fun cdv A outer s H vs Q E hr h => ?_)
  · obtain ⟨c, l, d, zs, ws, ls, cap, rfl, _⟩ := h
    rfl
  · obtain ⟨c, l, d, zs, ws, ls, cap, rfl, hc, hl, hd, el, nd, sub, q⟩ := h
    refine ⟨_, (pss_cons (ps_set (i := 4) sc_L_over.nd rfl (.inl rfl) pe_non)
  (pss_cons (ps_for PassesOwn.never rfl (pi_list (pe_revL (pv 2))) (pg_name (i := 5) sc_L_over.nd rfl (.inl rfl))
    (pss_one (ps_if (PW.pt (pw_and (pt_cmpR op_notN (pv 3) pe_non (nomark _)) (pw_and1 (pt_cmpR op_ge (pe_ix ix_list (pv 1) (pe_bm PySem.F.plainAttrs_list PySem.F.slot_list_index PySem.F.type_list_index mt_index (pv 0) (pa_cons (pv 5) pa_nil)) (fun _ _ => rfl)) (pv 3) (nomark _))))) (pss_one (ps_set (i := 4) sc_L_over.nd rfl (.inl rfl) (pv 5))) pss_nil)))
  (pss_one (ps_ret (pv 4))))), ?_⟩
    refine ⟨_, rfl, d, _, rfl, lstAt hd, fun p np => ?_⟩
    have s1 : Same H (upd H p (.lst (ws.map vN).reverse)) := same_upd np
    refine ⟨p, rfl, ⟨_, lstAt upd_same⟩, for_list (K := K) (a := p) (xs := (ws.map vN).reverse) (fun i σ H2 => H2 = upd H p (.lst (ws.map vN).reverse) ∧ ∃ y : Option V, σ = [some (.ref c), some (.ref l), some (.ref d), some (capV cap), some (optV (overF zs ls ((ws.reverse.take i).reverse) cap)), y]) ⟨rfl, _, rfl⟩ (fun i σ H2 _ hp => by rw [hp.1]; exact lstAt upd_same) ?_ ?_⟩
    · rintro i v σ H2 hx ⟨rfl, y, rfl⟩
      rw [rev_map] at hx
      obtain ⟨z, ez, rfl⟩ := vN_at hx
      have hz : z ∈ ws := List.mem_reverse.mp (List.mem_of_getElem? ez)
      obtain ⟨j, j1, j2, j3, j4, j5⟩ := ix_name nd (sub z hz)
      cases cap with
      | none =>
        refine ⟨_, rfl, rfl, _, rfl, iteF ⟨rfl, some (vN z), ?_⟩⟩
        rw [over_none, over_none]; rfl
      | some x =>
        refine ⟨_, rfl, rfl, _, rfl, iteT ?_⟩
        refine ⟨_, rfl, _, rfl, .inl ⟨rfl, _, lstAt (s1 _ _ hc)⟩, _, rfl, c, _, vN z, j, vN z, rfl, rfl, lstAt (s1 _ _ hc), rfl, nms_flat _, j3, j4, j5, ?_⟩
        refine ⟨_, _, _, _, rfl, rfl, lstAt (s1 _ _ hl), load_at el j1 j2, _, rfl, _, _, rfl, rfl, _, rfl, ite2 (fun e => ?_) (fun e => ?_)⟩
        · refine ⟨_, rfl, rfl, some (vN z), ?_⟩
          rw [rev_step ez, over_cons, if_pos (of_decide_eq_true e)]; rfl
        · refine ⟨rfl, some (vN z), ?_⟩
          rw [rev_step ez, over_cons, if_neg (fun h => e (decide_eq_true h))]; rfl
    · rintro σ H2 ⟨rfl, y, rfl⟩
      rw [List.length_reverse, List.length_map, take_all (by rw [List.length_reverse]), List.reverse_reverse]
      exact ⟨_, rfl, q _ s1⟩
/-! _law_longest -/
def spLongL (K : PySem.W.Frag) : Sp := fun vs H Q _ => ∃ (c l d : Addr) (zs ws : List (List Nat)) (ls : List Int), vs = [.ref c, .ref l, .ref d] ∧ H c = some (.lst (zs.map vN)) ∧ H l = some (.lst (ls.map V.int)) ∧ H d = some (.lst (ws.map vN)) ∧ zs.length = ls.length ∧ zs.Nodup ∧ (∀ z ∈ ws, z ∈ zs) ∧
  ∀ H', Same H H' → Q (vN (longR zs ls ws)) H'
theorem long_cons {zs : List (List Nat)} {ls : List Int} {z : List Nat} {ws : List (List Nat)} : longR zs ls (z :: ws) = if longR zs ls ws = [] ∨ loadOf zs ls (longR zs ls ws) ≤ loadOf zs ls z then z else longR zs ls ws := rfl
theorem long_sub {zs : List (List Nat)} {ls : List Int} {ws : List (List Nat)} (sub : ∀ z ∈ ws, z ∈ zs) (h : longR zs ls ws ≠ []) : longR zs ls ws ∈ zs := by
  refine sub _ (long_in fun e => h ?_)
  rw [e]; rfl
theorem ok_L_longest {f : Addr} {fd : FuncData} (F : Fun K "_law_longest" "_law_longest" s_L_longest f fd) : FnOk P w K mg base CX0 1 f fd ["_law_crew", "_law_loads", "_law_wishes"] (spLongL K) := by
  refine F.ok sc_L_longest (fun vs H Q E h => ?_) (fun cdv A outer s H vs Q E hr h => ?_)
  · obtain ⟨c, l, d, zs, ws, ls, rfl, _⟩ := h
    rfl
  · obtain ⟨c, l, d, zs, ws, ls, rfl, hc, hl, hd, el, nd, sub, q⟩ := h
    refine ⟨_, (pss_cons (ps_set (i := 3) sc_L_longest.nd rfl (.inl rfl) pe_str)
  (pss_cons (ps_for PassesOwn.never rfl (pi_list (pe_revL (pv 2))) (pg_name (i := 4) sc_L_longest.nd rfl (.inl rfl))
    (pss_one (ps_if (PW.pt (pw_or (pt_cmpR op_eq (pv 3) pe_str (nomark _)) (pw_or1 (pt_cmpR op_ge (pe_ix ix_list (pv 1) (pe_bm PySem.F.plainAttrs_list PySem.F.slot_list_index PySem.F.type_list_index mt_index (pv 0) (pa_cons (pv 4) pa_nil)) (fun _ _ => rfl)) (pe_ix ix_list (pv 1) (pe_bm PySem.F.plainAttrs_list PySem.F.slot_list_index PySem.F.type_list_index mt_index (pv 0) (pa_cons (pv 3) pa_nil)) (fun _ _ => rfl)) (nomark _))))) (pss_one (ps_set (i := 3) sc_L_longest.nd rfl (.inl rfl) (pv 4))) pss_nil)))
  (pss_one (ps_ret (pv 3))))), ?_⟩
    refine ⟨_, rfl, d, _, rfl, lstAt hd, fun p np => ?_⟩
    have s1 : Same H (upd H p (.lst (ws.map vN).reverse)) := same_upd np
    refine ⟨p, rfl, ⟨_, lstAt upd_same⟩, for_list (K := K) (a := p) (xs := (ws.map vN).reverse) (fun i σ H2 => H2 = upd H p (.lst (ws.map vN).reverse) ∧ ∃ y : Option V, σ = [some (.ref c), some (.ref l), some (.ref d), some (vN (longR zs ls ((ws.reverse.take i).reverse))), y]) ⟨rfl, _, rfl⟩ (fun i σ H2 _ hp => by rw [hp.1]; exact lstAt upd_same) ?_ ?_⟩
    · rintro i v σ H2 hx ⟨rfl, y, rfl⟩
      rw [rev_map] at hx
      obtain ⟨z, ez, rfl⟩ := vN_at hx
      have hz : z ∈ ws := List.mem_reverse.mp (List.mem_of_getElem? ez)
      obtain ⟨b, eb⟩ : ∃ b, b = longR zs ls ((ws.reverse.take i).reverse) := ⟨_, rfl⟩
      have hb : b ≠ [] → b ∈ zs := fun h => by
        rw [eb] at h ⊢
        exact long_sub (fun z hz => sub z (List.mem_reverse.mp (List.mem_of_mem_take (List.mem_reverse.mp hz)))) h
      rw [← eb]
      refine ⟨_, rfl, rfl, _, rfl, ite2 (fun e => ?_) (fun e => ?_)⟩
      · have e1 : b = [] := sOf_inj (V.str.inj (of_decide_eq_true e))
        refine ⟨_, rfl, rfl, some (vN z), ?_⟩
        rw [rev_step ez, long_cons, ← eb, if_pos (.inl e1)]; rfl
      · have e1 : b ≠ [] := fun h => e (by rw [h]; exact decide_eq_true rfl)
        obtain ⟨j, j1, j2, j3, j4, j5⟩ := ix_name nd (sub z hz)
        obtain ⟨j', j1', j2', j3', j4', j5'⟩ := ix_name nd (hb e1)
        refine ⟨_, rfl, _, rfl, .inl ⟨rfl, _, lstAt (s1 _ _ hc)⟩, _, rfl, c, _, vN z, j, vN z, rfl, rfl, lstAt (s1 _ _ hc), rfl, nms_flat _, j3, j4, j5, ?_⟩
        refine ⟨_, _, _, _, rfl, rfl, lstAt (s1 _ _ hl), load_at el j1 j2, ?_⟩
        refine ⟨_, rfl, _, rfl, .inl ⟨rfl, _, lstAt (s1 _ _ hc)⟩, _, rfl, c, _, vN b, j', vN b, rfl, rfl, lstAt (s1 _ _ hc), rfl, nms_flat _, j3', j4', j5', ?_⟩
        refine ⟨_, _, _, _, rfl, rfl, lstAt (s1 _ _ hl), load_at el j1' j2', _, _, rfl, rfl, _, rfl, ite2 (fun e => ?_) (fun e => ?_)⟩
        · refine ⟨_, rfl, rfl, some (vN z), ?_⟩
          rw [rev_step ez, long_cons, ← eb, if_pos (.inr (of_decide_eq_true e))]; rfl
        · refine ⟨rfl, some (vN z), ?_⟩
          rw [rev_step ez, long_cons, ← eb, if_neg (fun h => h.elim e1 fun h => e (decide_eq_true h))]; rfl
    · rintro σ H2 ⟨rfl, y, rfl⟩
      rw [List.length_reverse, List.length_map, take_all (by rw [List.length_reverse]), List.reverse_reverse]
      exact ⟨_, rfl, q _ s1⟩
end
end TK

namespace TK
open PySem PySem.Spec PyProof.Rows L2
theorem erase_perm {α : Type} : ∀ {rs : List α} {k : Nat} {x : α}, rs[k]? = some x → (x :: rs.eraseIdx k).Perm rs
  | [], k, x, h => by simp at h
  | r :: rs, 0, x, h => by
    have : r = x := by simpa using h
    subst this; exact List.Perm.refl _
  | r :: rs, k + 1, x, h => by
    have ih := erase_perm (rs := rs) (k := k) (x := x) (by simpa using h)
    exact (List.Perm.swap r x _).trans (ih.cons r)
theorem erase_map {α β : Type} (f : α → β) : ∀ {rs : List α} {k : Nat}, (rs.map f).eraseIdx k = (rs.eraseIdx k).map f
  | [], k => rfl
  | r :: rs, 0 => rfl
  | r :: rs, k + 1 => by
    show f r :: (rs.map f).eraseIdx k = _
    rw [erase_map f]; rfl
theorem erase_len {α : Type} {rs : List α} {k : Nat} (h : k < rs.length) : (rs.eraseIdx k).length + 1 = rs.length := by
  rw [List.length_eraseIdx, if_pos h]; omega
theorem sh1 {i : Int} (h0 : 0 ≤ i) (h1 : i < 4) : ∃ v : Int, atI [V.int 1, V.int 4, V.int 12, V.int 24] i = some (.int v) ∧ 0 < v ∧ v < 1000000 := by
  obtain rfl | rfl | rfl | rfl : i = 0 ∨ i = 1 ∨ i = 2 ∨ i = 3 := by omega
  · exact ⟨1, rfl, by decide, by decide⟩
  · exact ⟨4, rfl, by decide, by decide⟩
  · exact ⟨12, rfl, by decide, by decide⟩
  · exact ⟨24, rfl, by decide, by decide⟩
theorem sh2 {i : Int} (h0 : 0 ≤ i) (h1 : i < 4) : ∃ v : Int, atI [V.int 4, V.int 3, V.int 2, V.int 1] i = some (.int v) ∧ 0 < v ∧ v < 1000000 := by
  obtain rfl | rfl | rfl | rfl : i = 0 ∨ i = 1 ∨ i = 2 ∨ i = 3 := by omega
  · exact ⟨4, rfl, by decide, by decide⟩
  · exact ⟨3, rfl, by decide, by decide⟩
  · exact ⟨2, rfl, by decide, by decide⟩
  · exact ⟨1, rfl, by decide, by decide⟩
theorem ne_new {H : Hp} {a b : Addr} {o : HO} (h : H a = some o) (n : H b = none) : a ≠ b := fun e => by rw [e, n] at h; cases h
section
variable {P : Program} {w : World} {K : PySem.W.Frag} {mg : Str → Option Value} {base : Heap}
def spShuf (K : PySem.W.Frag) : Sp := fun vs H Q _ => ∃ (a p : Addr) (ns : List Int) (s : Int) (zs : List (List Nat)), vs = [.ref a, .int s, .ref p] ∧ SqL K H a (ns.map V.int) ∧ 0 ≤ s ∧ s < ns.length ∧ H p = some (.lst (zs.map vN)) ∧ zs.length ≤ 4 ∧
  ∀ (d : Addr) (ts : List (List Nat)) (H' : Hp), Same H H' → H d = none → H' d = some (.lst (ts.map vN)) → ts.Perm zs → Q (.ref d) H'
theorem ok_L_shuffled {f : Addr} {fd : FuncData} (F : Fun K "_law_shuffled" "_law_shuffled" s_L_shuffled f fd) (m_len : mg "len" = none) (m_range : mg "range" = none) (m_list : mg "list" = none) (d_L_part : Def P w K mg base "_law_part" 1 ["_law_pool_here", "_law_spot", "_law_under", "_law_size"] (spPart K)) :
    FnOk P w K mg base CX0 2 f fd ["_law_pool_here", "_law_spot", "_law_row"] (spShuf K) := by
  refine F.ok sc_L_shuffled (fun vs H Q E h => ?_) (fun cdv A outer s H vs Q E hr h => ?_)
  · obtain ⟨a, p, ns, s, zs, rfl, _⟩ := h
    rfl
  · obtain ⟨a, p, ns, s, zs, rfl, hS, h0, h1, hp, hl, q⟩ := h
    refine ⟨_, (pss_cons (ps_set (i := 3) sc_L_shuffled.nd rfl (.inl rfl) (pe_callTy call_list_of (by rfl) m_list (by decide +kernel) (pa_cons (pv 2) pa_nil)))
  (pss_cons (ps_set (i := 4) sc_L_shuffled.nd rfl (.inl rfl) (pe_lst pa_nil))
  (pss_cons (ps_for PassesOwn.never rfl (pi_range1 (by rfl) m_range (pa_cons (pe_callB call_len_seq (by rfl) m_len (by decide +kernel) (pa_cons (pv 2) pa_nil)) pa_nil)) (pg_name (i := 5) sc_L_shuffled.nd rfl (.inl rfl))
    (pss_one (ps_expr (pe_bm PySem.F.plainAttrs_list PySem.F.slot_list_append PySem.F.type_list_append mt_append (pv 4) (pa_cons (pe_bm PySem.F.plainAttrs_list PySem.F.slot_list_pop PySem.F.type_list_pop mt_popAt (pv 3) (pa_cons (pe_op op_modN (pe_callD d_L_part (hr.mono (by decide)) (by rfl) (pa_cons (pv 0) (pa_cons (pv 1) (pa_cons (pe_ix ix_list (pe_lst (pa_cons pe_int (pa_cons pe_int (pa_cons pe_int (pa_cons pe_int pa_nil))))) (pv 5) (fun _ _ => rfl)) (pa_cons (pe_ix ix_list (pe_lst (pa_cons pe_int (pa_cons pe_int (pa_cons pe_int (pa_cons pe_int pa_nil))))) (pv 5) (fun _ _ => rfl)) pa_nil))))) (pe_callB call_len_seq (by rfl) m_len (by decide +kernel) (pa_cons (pv 3) pa_nil))) pa_nil)) pa_nil)))))
  (pss_one (ps_ret (pv 4)))))), ?_⟩
    refine ⟨_, rfl, p, _, rfl, .inl (lstAt hp), fun lf nlf => ?_⟩
    have s1 : Same H (upd H lf (.lst (zs.map vN))) := same_upd nlf
    refine ⟨Nat.zero_le _, fun tk ntk => ?_⟩
    have s2 := s1.trans (same_upd (o := .lst []) ntk)
    have ntk0 : H tk = none := s1.free ntk
    have hne : lf ≠ tk := ne_new upd_same ntk
    refine ⟨_, rfl, _, _, rfl, .inl (lstAt (s2 _ _ hp)), _, rfl, by omega, by rw [List.length_map]; omega, for_range (fun i σ H2 => Same H H2 ∧ ∃ (rs ts : List (List Nat)) (y : Option V), σ = [some (.ref a), some (.int s), some (.ref p), some (.ref lf), some (.ref tk), y] ∧ H2 lf = some (.lst (rs.map vN)) ∧ H2 tk = some (.lst (ts.map vN)) ∧ rs.length + i = zs.length ∧ ts.length = i ∧ (ts ++ rs).Perm zs)
      ⟨s2, zs, [], _, rfl, by rw [upd_ne hne]; exact upd_same, upd_same, rfl, rfl, List.Perm.refl _⟩ ?_ ?_⟩
    · rintro i σ H2 hi ⟨sm, rs, ts, y, rfl, el, et, ll, lt, pm⟩
      rw [List.length_map] at hi
      obtain ⟨u, eu, u0, u1⟩ := sh1 (i := 0 + (i : Int)) (by omega) (by omega)
      obtain ⟨v, ev, v0, v1⟩ := sh2 (i := 0 + (i : Int)) (by omega) (by omega)
      have rl : 0 < rs.length := by omega
      have m0 := Int.emod_nonneg (partOf ns s u v) (show (rs.length : Int) ≠ 0 by omega)
      have m1 := Int.emod_lt_of_pos (partOf ns s u v) (show (0 : Int) < (rs.length : Int) by omega)
      obtain ⟨k, hk⟩ : ∃ k : Nat, partOf ns s u v % (rs.length : Int) = (k : Int) := ⟨(partOf ns s u v % (rs.length : Int)).toNat, by omega⟩
      have hkl : k < rs.length := by omega
      have ek : rs[k]? = some rs[k] := List.getElem?_eq_getElem hkl
      refine ⟨_, rfl, .inl ⟨rfl, _, lstAt et⟩, _, rfl, .inl ⟨rfl, _, lstAt el⟩, ?_⟩
      refine ⟨_, rfl, _, rfl, (show 4 ≤ sizeLine by decide), fun l1 n1 => ⟨_, rfl, _, _, _, _, rfl, rfl, lstAt upd_same, eu, (show 4 ≤ sizeLine by decide), fun l2 n2 => ⟨_, rfl, _, _, _, _, rfl, rfl, lstAt upd_same, ev, ?_⟩⟩⟩
      have t1 := same_upd (o := .lst [V.int 1, V.int 4, V.int 12, V.int 24]) n1
      have t2 := t1.trans (same_upd (o := .lst [V.int 4, V.int 3, V.int 2, V.int 1]) n2)
      have sm2 := sm.trans t2
      have el2 := t2 _ _ el
      have et2 := t2 _ _ et
      obtain ⟨H4, eH4⟩ : ∃ H4, H4 = upd (upd H2 l1 (.lst [V.int 1, V.int 4, V.int 12, V.int 24])) l2 (.lst [V.int 4, V.int 3, V.int 2, V.int 1]) := ⟨_, rfl⟩
      rw [← eH4] at t2 sm2 el2 et2 ⊢
      refine ⟨a, ns, s, u, v, rfl, sm2.seq hS, h0, h1, u0, u1, v0, ?_⟩
      refine ⟨_, rfl, _, _, rfl, .inl (lstAt el2), _, _, rfl, rfl, (by show ((rs.map vN).length : Int) ≠ 0; rw [List.length_map]; omega), ?_⟩
      have fm : (partOf ns s u v).fmod ((rs.map vN).length : Int) = (k : Int) := by rw [List.length_map, Int.fmod_eq_emod_of_nonneg _ (by omega), hk]
      refine ⟨lf, rs.map vN, (k : Int), k, vN rs[k], rfl, congrArg (fun z => [V.int z]) fm, el2, by omega, by omega, ?_, by rw [List.getElem?_map, ek]; rfl, ?_⟩
      · rw [List.length_map]
        have : seqIndex? ((k : Nat) : Int) rs.length = some k := by
          unfold seqIndex?
          simp
          omega
        exact this
      rw [erase_map]
      have et5 : (upd H4 lf (.lst ((rs.eraseIdx k).map vN))) tk = some (.lst (ts.map vN)) := by rw [upd_ne hne.symm]; exact et2
      refine ⟨_, _, _, rfl, rfl, et5, by rw [List.length_map]; exact small1000 (by omega), ?_⟩
      refine ⟨same_at (same_at sm2 nlf) ntk0, rs.eraseIdx k, ts ++ [rs[k]], _, rfl, by rw [upd_ne hne]; exact upd_same, by rw [upd_same, List.map_append]; rfl, by have := erase_len hkl; omega, by rw [List.length_append, lt]; rfl, ?_⟩
      refine List.Perm.trans ?_ pm
      rw [List.append_assoc]
      exact (erase_perm ek).append_left ts
    · rintro σ H2 ⟨sm, rs, ts, y, rfl, el, et, ll, lt, pm⟩
      rw [List.length_map, Int.toNat_natCast] at ll
      have : rs = [] := List.length_eq_zero_iff.mp (by omega)
      subst this
      rw [List.append_nil] at pm
      exact ⟨_, rfl, q tk ts H2 sm ntk0 et pm⟩
/-! _law_case -/
structure CaseD where
  lA : Addr
  wA : Addr
  tA : Addr
  hA : Addr
  dA : Addr
  ls : List Int
  ws : List (List Nat)
  ts : List (List Nat)
  hs : List (List Nat)
  lt : List Nat
  cr : Int
  ds : List (List Nat)
  cap : Option Int
structure CaseAt (H : Hp) (t : Addr) (c : CaseD) : Prop where
  tup : H t = some (.tup [.ref c.lA, .ref c.wA, .ref c.tA, .ref c.hA, vN c.lt, .int c.cr, .ref c.dA, capV c.cap])
  l : H c.lA = some (.lst (c.ls.map V.int))
  w : H c.wA = some (.lst (c.ws.map vN))
  t : H c.tA = some (.lst (c.ts.map vN))
  h : H c.hA = some (.lst (c.hs.map vN))
  d : H c.dA = some (.lst (c.ds.map vN))
theorem CaseAt.same {H H' : Hp} {t : Addr} {c : CaseD} (h : CaseAt H t c) (s : Same H H') : CaseAt H' t c := ⟨s _ _ h.tup, s _ _ h.l, s _ _ h.w, s _ _ h.t, s _ _ h.h, s _ _ h.d⟩
structure CaseOk (zs : List (List Nat)) (c : CaseD) : Prop where
  len : zs.length = c.ls.length
  top : ∀ l ∈ c.ls, l ≤ c.cr
  sub : c.ws.Sublist zs
  prm : c.ts.Perm c.ws
  hl : c.hs.length ≤ 4
  dl : c.ds.length ≤ 4
  din : ∀ z ∈ c.ds, z ∈ zs
structure CaseNew (H : Hp) (c : CaseD) : Prop where
  l : H c.lA = none
  w : H c.wA = none
  t : H c.tA = none
  h : H c.hA = none
  d : H c.dA = none
theorem base5 {i : Int} (h0 : 0 ≤ i) (h1 : i < 5) : ∃ v : Int, atI [V.int 0, V.int 0, V.int 0, V.int (10 ^ 9), V.int (10 ^ 59)] i = some (.int v) ∧ 0 ≤ v := by
  obtain rfl | rfl | rfl | rfl | rfl : i = 0 ∨ i = 1 ∨ i = 2 ∨ i = 3 ∨ i = 4 := by omega
  · exact ⟨0, rfl, by decide⟩
  · exact ⟨0, rfl, by decide⟩
  · exact ⟨0, rfl, by decide⟩
  · exact ⟨10 ^ 9, rfl, by decide⟩
  · exact ⟨10 ^ 59, rfl, by decide⟩
theorem pw4 {i : Int} (h0 : 0 ≤ i) (h1 : i < 4) : ∃ v : Int, atI [V.int 1, V.int 6, V.int 36, V.int 216] i = some (.int v) ∧ 0 < v ∧ v < 1000000 := by
  obtain rfl | rfl | rfl | rfl : i = 0 ∨ i = 1 ∨ i = 2 ∨ i = 3 := by omega
  · exact ⟨1, rfl, by decide, by decide⟩
  · exact ⟨6, rfl, by decide, by decide⟩
  · exact ⟨36, rfl, by decide, by decide⟩
  · exact ⟨216, rfl, by decide, by decide⟩
theorem cut_names (ws : List (List Nat)) (i : Nat) : cutV (ws.map vN) none (some ((i : Nat) : Int)) = (ws.take i).map vN := by
  unfold cutV
  rw [HT.sIx_none, HT.sIx_nat, List.drop_zero, Nat.sub_zero, List.map_take]
  by_cases h : i ≤ (ws.map vN).length
  · rw [Nat.min_eq_left h]
  · rw [Nat.min_eq_right (by omega), List.take_length, List.take_of_length_le (by omega)]
def spCase (K : PySem.W.Frag) : Sp := fun vs H Q _ => ∃ (a c : Addr) (ns : List Int) (zs : List (List Nat)), vs = [.ref a, .ref c] ∧ SqL K H a (ns.map V.int) ∧ ns.length = 7 ∧ H c = some (.lst (zs.map vN)) ∧ 1 ≤ zs.length ∧ zs.length ≤ 4 ∧
  ∀ (t : Addr) (cs : CaseD) (H' : Hp), Same H H' → CaseAt H' t cs → CaseOk zs cs → CaseNew H cs → Q (.ref t) H'
theorem ok_L_case {f : Addr} {fd : FuncData} (F : Fun K "_law_case" "_law_case" s_L_case f fd) (m_len : mg "len" = none) (m_range : mg "range" = none) (m_max : mg "max" = none) (d_L_part : Def P w K mg base "_law_part" 1 ["_law_pool_here", "_law_spot", "_law_under", "_law_size"] (spPart K))
    (d_L_some : Def P w K mg base "_law_some" 2 ["_law_pool_here", "_law_spot", "_law_names_here"] (spSome K)) (d_L_shuffled : Def P w K mg base "_law_shuffled" 2 ["_law_pool_here", "_law_spot", "_law_row"] (spShuf K)) :
    FnOk P w K mg base CX0 3 f fd ["_law_pool_here", "_law_crew"] (spCase K) := by
  refine F.ok sc_L_case (fun vs H Q E h => ?_) (fun cdv A outer s H vs Q E hr h => ?_)
  · obtain ⟨a, c, ns, zs, rfl, _⟩ := h
    rfl
  · obtain ⟨a, c, ns, zs, rfl, hS, h7, hc, z1, z4, q⟩ := h
    refine ⟨_, (pss_cons (ps_set (i := 2) sc_L_case.nd rfl (.inl rfl) (pe_ix ix_list (pe_lst (pa_cons pe_int (pa_cons pe_int (pa_cons pe_int (pa_cons (pe_op op_pow pe_int pe_int) (pa_cons (pe_op op_pow pe_int pe_int) pa_nil)))))) (pe_callD d_L_part (hr.mono (by decide)) (by rfl) (pa_cons (pv 0) (pa_cons pe_int (pa_cons pe_int (pa_cons pe_int pa_nil))))) (fun _ _ => rfl)))
  (pss_cons (ps_set (i := 3) sc_L_case.nd rfl (.inl rfl) (pe_op op_add (pv 2) (pe_callD d_L_part (hr.mono (by decide)) (by rfl) (pa_cons (pv 0) (pa_cons pe_int (pa_cons pe_int (pa_cons pe_int pa_nil)))))))
  (pss_cons (ps_set (i := 4) sc_L_case.nd rfl (.inl rfl) (pe_lst pa_nil))
  (pss_cons (ps_cut (ps_for PassesOwn.never rfl (pi_range1 (by rfl) m_range (pa_cons (pe_callB call_len_seq (by rfl) m_len (by decide +kernel) (pa_cons (pv 1) pa_nil)) pa_nil)) (pg_name (i := 5) sc_L_case.nd rfl (.inl rfl))
    (pss_one (ps_expr (pe_bm PySem.F.plainAttrs_list PySem.F.slot_list_append PySem.F.type_list_append mt_append (pv 4) (pa_cons (pe_callB (call_max2 rfl) (by rfl) m_max (by decide +kernel) (pa_cons pe_int (pa_cons (pe_op op_sub (pv 3) (pe_callD d_L_part (hr.mono (by decide)) (by rfl) (pa_cons (pv 0) (pa_cons pe_int (pa_cons (pe_ix ix_list (pe_lst (pa_cons pe_int (pa_cons pe_int (pa_cons pe_int (pa_cons pe_int pa_nil))))) (pv 5) (fun _ _ => rfl)) (pa_cons pe_int pa_nil)))))) pa_nil))) pa_nil))))))
  (pss_cons (ps_set (i := 6) sc_L_case.nd rfl (.inl rfl) (pe_callD d_L_some (hr.mono (by decide)) (by rfl) (pa_cons (pv 0) (pa_cons pe_int (pa_cons (pv 1) pa_nil)))))
  (pss_cons (ps_set (i := 7) sc_L_case.nd rfl (.inl rfl) (pe_lst pa_nil))
  (pss_cons (ps_set (i := 8) sc_L_case.nd rfl (.inl rfl) (pe_callD d_L_part (hr.mono (by decide)) (by rfl) (pa_cons (pv 0) (pa_cons pe_int (pa_cons pe_int (pa_cons pe_int pa_nil))))))
  (pss_cons (ps_cut (ps_if (pt_cmpR op_eq (pv 8) pe_int (nomark _)) (pss_one (ps_set (i := 7) sc_L_case.nd rfl (.inl rfl) (pe_slice sl_list (pe_callD d_L_shuffled (hr.mono (by decide)) (by rfl) (pa_cons (pv 0) (pa_cons pe_int (pa_cons (pv 6) pa_nil)))) po_none (po_some pe_int)))) pss_nil))
  (pss_cons (ps_cut (ps_if (pt_cmpR op_eq (pv 8) pe_int (nomark _)) (pss_one (ps_set (i := 7) sc_L_case.nd rfl (.inl rfl) (pe_slice sl_list (pe_callD d_L_shuffled (hr.mono (by decide)) (by rfl) (pa_cons (pv 0) (pa_cons pe_int (pa_cons (pv 6) pa_nil)))) po_none (po_some pe_int)))) pss_nil))
  (pss_cons (ps_cut (ps_if (pt_cmpR op_eq (pv 8) pe_int (nomark _)) (pss_one (ps_set (i := 7) sc_L_case.nd rfl (.inl rfl) (pe_slice sl_list (pe_callD d_L_shuffled (hr.mono (by decide)) (by rfl) (pa_cons (pv 0) (pa_cons pe_int (pa_cons (pv 1) pa_nil)))) po_none (po_some (pe_callD d_L_part (hr.mono (by decide)) (by rfl) (pa_cons (pv 0) (pa_cons pe_int (pa_cons pe_int (pa_cons pe_int pa_nil))))))))) pss_nil))
  (pss_cons (ps_set (i := 9) sc_L_case.nd rfl (.inl rfl) (pe_ix ix_list (pe_op op_cat (pv 1) (pe_lst (pa_cons pe_str (pa_cons pe_str (pa_cons pe_str (pa_cons pe_str pa_nil)))))) (pe_op op_modN (pe_callD d_L_part (hr.mono (by decide)) (by rfl) (pa_cons (pv 0) (pa_cons pe_int (pa_cons pe_int (pa_cons pe_int pa_nil))))) (pe_op op_add (pe_callB call_len_seq (by rfl) m_len (by decide +kernel) (pa_cons (pv 1) pa_nil)) pe_int)) (fun _ _ => rfl)))
  (pss_cons (ps_set (i := 10) sc_L_case.nd rfl (.inl rfl) (pe_slice sl_list (pe_callD d_L_shuffled (hr.mono (by decide)) (by rfl) (pa_cons (pv 0) (pa_cons pe_int (pa_cons (pv 1) pa_nil)))) po_none (po_some (pe_callD d_L_part (hr.mono (by decide)) (by rfl) (pa_cons (pv 0) (pa_cons pe_int (pa_cons pe_int (pa_cons pe_int pa_nil))))))))
  (pss_cons (ps_set (i := 11) sc_L_case.nd rfl (.inl rfl) (pe_callB (call_max2 rfl) (by rfl) m_max (by decide +kernel) (pa_cons pe_int (pa_cons (pe_op op_add (pe_op op_sub (pv 3) (pe_callD d_L_part (hr.mono (by decide)) (by rfl) (pa_cons (pv 0) (pa_cons pe_int (pa_cons pe_int (pa_cons pe_int pa_nil)))))) (pe_callD d_L_part (hr.mono (by decide)) (by rfl) (pa_cons (pv 0) (pa_cons pe_int (pa_cons pe_int (pa_cons pe_int pa_nil)))))) pa_nil))))
  (pss_cons (ps_cut (ps_if (pt_cmpR op_eq (pe_callD d_L_part (hr.mono (by decide)) (by rfl) (pa_cons (pv 0) (pa_cons pe_int (pa_cons pe_int (pa_cons pe_int pa_nil))))) pe_int (nomark _)) (pss_one (ps_set (i := 11) sc_L_case.nd rfl (.inl rfl) pe_non)) pss_nil))
  (pss_cons (ps_cut (ps_if (pt_cmpR op_eq (pe_callD d_L_part (hr.mono (by decide)) (by rfl) (pa_cons (pv 0) (pa_cons pe_int (pa_cons pe_int (pa_cons pe_int pa_nil))))) pe_int (nomark _)) (pss_one (ps_set (i := 11) sc_L_case.nd rfl (.inl rfl) pe_int)) pss_nil))
  (pss_one (ps_ret (pe_tup (pa_cons (pv 4) (pa_cons (pv 6) (pa_cons (pe_callD d_L_shuffled (hr.mono (by decide)) (by rfl) (pa_cons (pv 0) (pa_cons pe_int (pa_cons (pv 6) pa_nil)))) (pa_cons (pv 7) (pa_cons (pv 9) (pa_cons (pv 3) (pa_cons (pv 10) (pa_cons (pv 11) pa_nil)))))))))))))))))))))))))), ?_⟩
    have P0 := fun (s u z : Int) (h : 0 < z) => part_lo (ns := ns) (s := s) (u := u) h
    have P1 := fun (s u z : Int) (h : 0 < z) => part_hi (ns := ns) (s := s) (u := u) h
    obtain ⟨bv, ebv, bv0⟩ := base5 (P0 0 1 5 (by decide)) (P1 0 1 5 (by decide))
    refine ⟨_, _, rfl, rfl, ⟨by decide, by decide, by decide⟩, _, _, rfl, rfl, ⟨by decide, by decide, by decide⟩, (show 5 ≤ sizeLine by decide), fun l1 n1 => ?_⟩
    have s1 := same_upd (o := .lst [V.int 0, V.int 0, V.int 0, V.int (10 ^ 9), V.int (10 ^ 59)]) n1
    refine ⟨_, rfl, a, ns, 0, 1, 5, rfl, s1.seq hS, by decide, by omega, by decide, by decide, by decide, _, _, _, _, rfl, rfl, lstAt upd_same, ebv, ?_⟩
    refine ⟨_, rfl, _, rfl, a, ns, 0, 5, 6, rfl, s1.seq hS, by decide, by omega, by decide, by decide, by decide, _, _, rfl, rfl, ?_⟩
    have g1 := P0 0 5 6 (by decide)
    obtain ⟨cr, ecr⟩ : ∃ cr, cr = bv + partOf ns 0 5 6 := ⟨_, rfl⟩
    have cr0 : 0 ≤ cr := by omega
    refine ⟨Nat.zero_le _, fun lA nA => ?_⟩
    have s2 := s1.trans (same_upd (o := .lst []) nA)
    have nA0 : H lA = none := s1.free nA
    refine ⟨fun σ' H' => Same H H' ∧ ∃ (ls : List Int) (y : Option V), σ' = [some (.ref a), some (.ref c), some (.int bv), some (.int cr), some (.ref lA), y, none, none, none, none, none, none] ∧ H' lA = some (.lst (ls.map V.int)) ∧ zs.length = ls.length ∧ ∀ l ∈ ls, l ≤ cr, ?_, ?_⟩
    · refine ⟨_, rfl, _, _, rfl, .inl (lstAt (s2 _ _ hc)), _, rfl, by omega, by rw [List.length_map]; omega, for_range (fun i σ H2 => Same H H2 ∧ ∃ (ls : List Int) (y : Option V), σ = [some (.ref a), some (.ref c), some (.int bv), some (.int cr), some (.ref lA), y, none, none, none, none, none, none] ∧ H2 lA = some (.lst (ls.map V.int)) ∧ ls.length = i ∧ ∀ l ∈ ls, l ≤ cr) ⟨s2, [], _, by rw [ecr]; rfl, upd_same, rfl, fun l h => nomatch h⟩ ?_ ?_⟩
      · rintro i σ H2 hi ⟨sm, ls, y, rfl, el, ll, tp⟩
        rw [List.length_map] at hi
        obtain ⟨u, eu, u0, u1⟩ := pw4 (i := 0 + (i : Int)) (by omega) (by omega)
        have p0 := P0 1 u 6 (by decide)
        refine ⟨_, rfl, .inl ⟨rfl, _, lstAt el⟩, _, rfl, _, rfl, (show 4 ≤ sizeLine by decide), fun l n => ⟨_, rfl, _, _, _, _, rfl, rfl, lstAt upd_same, eu, ?_⟩⟩
        have t1 := same_upd (o := .lst [V.int 1, V.int 6, V.int 36, V.int 216]) n
        have sm2 := sm.trans t1
        refine ⟨a, ns, 1, u, 6, rfl, sm2.seq hS, by decide, by omega, u0, u1, by decide, _, _, rfl, rfl, _, _, rfl, ?_⟩
        refine ⟨_, _, _, rfl, rfl, t1 _ _ el, by rw [List.length_map]; exact small1000 (by omega), ?_⟩
        refine ⟨same_at sm2 nA0, ls ++ [if cr - partOf ns 1 u 6 > 0 then cr - partOf ns 1 u 6 else 0], _, rfl, by rw [upd_same, List.map_append]; rfl, by rw [List.length_append, ll]; rfl, fun l hl => ?_⟩
        rcases List.mem_append.mp hl with hl | hl
        · exact tp l hl
        · rw [List.mem_singleton.mp hl]; split <;> omega
      · rintro σ H2 ⟨sm, ls, y, rfl, el, ll, tp⟩
        rw [List.length_map, Int.toNat_natCast] at ll
        exact ⟨sm, ls, y, rfl, el, ll.symm, tp⟩
    rintro σ H1 ⟨sm1, ls, y5, rfl, el, ll, tp⟩
    refine ⟨_, rfl, _, rfl, a, c, ns, 2, zs, rfl, sm1.seq hS, by decide, by omega, sm1 _ _ hc, z4, fun wA ws H2 s3 nwA ew sub => ?_⟩
    have sm2 := sm1.trans s3
    have el2 := s3 _ _ el
    have wl : ws.length ≤ 4 := Nat.le_trans sub.length_le z4
    refine ⟨Nat.zero_le _, fun h0 nh0 => ?_⟩
    have s4 := same_upd (o := .lst []) nh0
    have sm3 := sm2.trans s4
    refine ⟨_, rfl, a, ns, 2, 16, 4, rfl, sm3.seq hS, by decide, by omega, by decide, by decide, by decide, ?_⟩
    obtain ⟨H3, eH3⟩ : ∃ H3, H3 = upd H2 h0 (.lst []) := ⟨_, rfl⟩
    have eh0 : H3 h0 = some (.lst (([] : List (List Nat)).map vN)) := by rw [eH3]; exact upd_same
    rw [← eH3] at s4 sm3 ⊢
    have el3 := s4 _ _ el2
    have ew3 := s4 _ _ ew
    obtain ⟨wy, ewy⟩ : ∃ wy, wy = partOf ns 2 16 4 := ⟨_, rfl⟩
    rw [← ewy]
    -- having, three times
    let R : L2.St → Hp → Prop := fun σ' H' => Same H3 H' ∧ ∃ (hA : Addr) (hs : List (List Nat)), σ' = [some (.ref a), some (.ref c), some (.int bv), some (.int cr), some (.ref lA), y5, some (.ref wA), some (.ref hA), some (.int wy), none, none, none] ∧ H' hA = some (.lst (hs.map vN)) ∧ hs.length ≤ 4 ∧ H hA = none
    refine ⟨R, ?_, ?_⟩
    · refine ⟨_, rfl, rfl, _, rfl, ite2 (fun e => ?_) (fun e => ?_)⟩
      · refine ⟨_, rfl, _, rfl, a, wA, ns, 3, ws, rfl, sm3.seq hS, by decide, by omega, ew3, wl, fun d ts H4 s5 _ ed pm => ?_⟩
        refine ⟨_, rfl, _, _, rfl, lstAt ed, fun p np => ?_⟩
        refine ⟨s5.trans (same_upd np), p, ts.take 1, rfl, by rw [upd_same]; exact congrArg (fun z => some (HO.lst z)) (cut_names ts 1), by rw [List.length_take]; omega, (sm3.trans s5).free np⟩
      · exact ⟨Same.refl _, h0, [], rfl, eh0, by decide, sm2.free nh0⟩
    rintro σ H4 ⟨s5, hA1, hs1, rfl, eh1, hl1, nh1⟩
    refine ⟨R, ?_, ?_⟩
    · refine ⟨_, rfl, rfl, _, rfl, ite2 (fun e => ?_) (fun e => ?_)⟩
      · refine ⟨_, rfl, _, rfl, a, wA, ns, 3, ws, rfl, (sm3.trans s5).seq hS, by decide, by omega, s5 _ _ ew3, wl, fun d ts H5 s6 _ ed pm => ?_⟩
        refine ⟨_, rfl, _, _, rfl, lstAt ed, fun p np => ?_⟩
        refine ⟨(s5.trans s6).trans (same_upd np), p, ts.take 3, rfl, by rw [upd_same]; exact congrArg (fun z => some (HO.lst z)) (cut_names ts 3), by rw [List.length_take]; omega, ((sm3.trans s5).trans s6).free np⟩
      · exact ⟨s5, hA1, hs1, rfl, eh1, hl1, nh1⟩
    rintro σ H5 ⟨s6, hA2, hs2, rfl, eh2, hl2, nh2⟩
    refine ⟨R, ?_, ?_⟩
    · refine ⟨_, rfl, rfl, _, rfl, ite2 (fun e => ?_) (fun e => ?_)⟩
      · have g2 := P0 3 24 5 (by decide)
        obtain ⟨k, hk⟩ : ∃ k : Nat, partOf ns 3 24 5 = (k : Int) := ⟨(partOf ns 3 24 5).toNat, by omega⟩
        refine ⟨_, rfl, _, rfl, a, c, ns, 3, zs, rfl, (sm3.trans s6).seq hS, by decide, by omega, (sm3.trans s6) _ _ hc, z4, fun d ts H6 s7 _ ed pm => ?_⟩
        have tl : ts.length ≤ 4 := by rw [pm.length_eq]; exact z4
        refine ⟨_, rfl, a, ns, 3, 24, 5, rfl, ((sm3.trans s6).trans s7).seq hS, by decide, by omega, by decide, by decide, by decide, _, rfl, _, _, rfl, lstAt ed, fun p np => ?_⟩
        rw [hk, cut_names]
        exact ⟨(s6.trans s7).trans (same_upd np), p, ts.take k, rfl, upd_same, by rw [List.length_take]; omega, ((sm3.trans s6).trans s7).free np⟩
      · exact ⟨s6, hA2, hs2, rfl, eh2, hl2, nh2⟩
    rintro σ H6 ⟨s7, hA, hs, rfl, eh, hl, nh⟩
    have sm6 := sm3.trans s7
    -- late
    refine ⟨_, rfl, (show 4 ≤ sizeLine by decide), fun l8 n8 => ?_⟩
    have s8 := same_upd (o := .lst [V.str ⟨#[]⟩, V.str ⟨#[]⟩, V.str ⟨#[]⟩, V.str ⟨#[]⟩]) n8
    refine ⟨_, _, _, _, rfl, rfl, s8 _ _ (sm6 _ _ hc), upd_same, by rw [List.length_map]; exact Nat.le_of_lt (small1000 (by simp only [List.length_cons, List.length_nil]; omega)), fun l9 n9 => ?_⟩
    have s9 := s8.trans (same_upd (o := .lst (zs.map vN ++ [V.str ⟨#[]⟩, V.str ⟨#[]⟩, V.str ⟨#[]⟩, V.str ⟨#[]⟩])) n9)
    have sm9 := sm6.trans s9
    refine ⟨_, rfl, a, ns, 4, 1, 8, rfl, sm9.seq hS, by decide, by omega, by decide, by decide, by decide, ?_⟩
    refine ⟨_, rfl, _, _, rfl, .inl (lstAt (sm9 _ _ hc)), _, _, rfl, rfl, _, _, rfl, rfl, (by show ((zs.map vN).length : Int) + 4 ≠ 0; omega), ?_⟩
    have fm : (partOf ns 4 1 8).fmod (((zs.map vN).length : Int) + 4) = partOf ns 4 1 8 % ((zs.length : Int) + 4) := by rw [List.length_map, Int.fmod_eq_emod_of_nonneg _ (by omega)]
    have e0 := Int.emod_nonneg (partOf ns 4 1 8) (show (zs.length : Int) + 4 ≠ 0 by omega)
    have e1 := Int.emod_lt_of_pos (partOf ns 4 1 8) (show (0 : Int) < (zs.length : Int) + 4 by omega)
    obtain ⟨lt, elt, alt⟩ := nm_at (zs := zs ++ [[], [], [], []]) e0 (by rw [List.length_append]; simp only [List.length_cons, List.length_nil]; omega)
    rw [List.map_append] at alt
    refine ⟨_, _, _, _, rfl, rfl, lstAt upd_same, by rw [fm]; exact alt, ?_⟩
    -- listed
    have g5 := P0 5 24 5 (by decide)
    obtain ⟨k, hk⟩ : ∃ k : Nat, partOf ns 5 24 5 = (k : Int) := ⟨(partOf ns 5 24 5).toNat, by omega⟩
    refine ⟨_, rfl, _, rfl, a, c, ns, 5, zs, rfl, sm9.seq hS, by decide, by omega, sm9 _ _ hc, z4, fun d ds H10 s10 _ ed pm => ?_⟩
    have tl : ds.length ≤ 4 := by rw [pm.length_eq]; exact z4
    have sm10 := sm9.trans s10
    refine ⟨_, rfl, a, ns, 5, 24, 5, rfl, sm10.seq hS, by decide, by omega, by decide, by decide, by decide, _, rfl, _, _, rfl, lstAt ed, fun dA np => ?_⟩
    rw [hk, cut_names]
    have s11 := same_upd (o := .lst ((ds.take k).map vN)) np
    have sm11 := sm10.trans s11
    obtain ⟨H11, eH11⟩ : ∃ H11, H11 = upd H10 dA (.lst ((ds.take k).map vN)) := ⟨_, rfl⟩
    have ed11 : H11 dA = some (.lst ((ds.take k).map vN)) := by rw [eH11]; exact upd_same
    rw [← eH11] at s11 sm11 ⊢
    have s611 : Same H6 H11 := (s9.trans s10).trans s11
    -- cap
    refine ⟨_, rfl, _, rfl, a, ns, 4, 8, 7, rfl, sm11.seq hS, by decide, by omega, by decide, by decide, by decide, _, _, rfl, rfl, _, rfl, a, ns, 4, 56, 2, rfl, sm11.seq hS, by decide, by omega, by decide, by decide, by decide, _, _, rfl, rfl, _, _, rfl, ?_⟩
    let R2 : L2.St → Hp → Prop := fun σ' H' => H' = H11 ∧ ∃ cap : Option Int, σ' = [some (.ref a), some (.ref c), some (.int bv), some (.int cr), some (.ref lA), y5, some (.ref wA), some (.ref hA), some (.int wy), some (vN lt), some (.ref dA), some (capV cap)]
    refine ⟨R2, ?_, ?_⟩
    · refine ⟨_, rfl, a, ns, 4, 112, 6, rfl, sm11.seq hS, by decide, by omega, by decide, by decide, by decide, rfl, _, rfl, ite2 (fun e => ?_) (fun e => ?_)⟩
      · exact ⟨rfl, none, rfl⟩
      · exact ⟨rfl, some _, rfl⟩
    rintro σ _ ⟨rfl, cap1, rfl⟩
    refine ⟨R2, ?_, ?_⟩
    · refine ⟨_, rfl, a, ns, 4, 112, 6, rfl, sm11.seq hS, by decide, by omega, by decide, by decide, by decide, rfl, _, rfl, ite2 (fun e => ?_) (fun e => ?_)⟩
      · exact ⟨rfl, some 0, rfl⟩
      · exact ⟨rfl, cap1, rfl⟩
    rintro σ _ ⟨rfl, cap, rfl⟩
    have ew11 := s611 _ _ (s7 _ _ ew3)
    refine ⟨_, rfl, _, rfl, _, rfl, _, rfl, a, wA, ns, 6, ws, rfl, sm11.seq hS, by decide, by omega, ew11, wl, fun tA ts H12 s12 ntA et pmt => ?_⟩
    refine ⟨_, rfl, _, rfl, _, rfl, _, rfl, _, rfl, (show 8 ≤ sizeLine by decide), fun t nt => ?_⟩
    have s13 := same_upd (o := .tup [V.ref lA, .ref wA, .ref tA, .ref hA, vN lt, .int cr, .ref dA, capV cap]) nt
    have z := s12.trans s13
    refine q t ⟨lA, wA, tA, hA, dA, ls, ws, ts, hs, lt, cr, ds.take k, cap⟩ _ (sm11.trans z) ⟨upd_same, z _ _ (s611 _ _ (s7 _ _ el3)), z _ _ ew11, s13 _ _ et, z _ _ (s611 _ _ eh), z _ _ ed11⟩ ⟨ll, tp, sub, pmt, hl, ?_, fun y hy => ?_⟩ ⟨nA0, sm1.free nwA, sm11.free ntA, nh, sm10.free np⟩
    · show (ds.take k).length ≤ 4
      rw [List.length_take]; omega
    · exact pm.subset (List.mem_of_mem_take hy)
end
end TK

namespace TK
open PySem PySem.Spec PyProof.Rows L2
def cntOf (z : List Nat) (xs : List (List Nat)) : Nat := xs.countP fun n => decide (n = z)
theorem cnt_pos {z : List Nat} {xs : List (List Nat)} : (0 : Int) < (cntOf z xs : Int) ↔ z ∈ xs := by
  unfold cntOf
  rw [show ((0 : Int) < ((xs.countP fun n => decide (n = z) : Nat) : Int) ↔ 0 < xs.countP fun n => decide (n = z)) by omega, List.countP_pos_iff]
  exact ⟨fun ⟨a, h, e⟩ => of_decide_eq_true e ▸ h, fun h => ⟨z, h, decide_eq_true rfl⟩⟩
theorem cnt_step {z x : List Nat} {xs : List (List Nat)} {i : Nat} (h : xs[i]? = some x) : cntOf z (xs.take (i + 1)) = cntOf z (xs.take i) + if x = z then 1 else 0 := by
  unfold cntOf
  rw [List.take_add_one, h, List.countP_append]
  show _ + List.countP _ [x] = _
  rw [List.countP_cons, List.countP_nil]
  by_cases e : x = z
  · rw [if_pos (decide_eq_true e), if_pos e]
  · rw [if_neg (fun q => e (of_decide_eq_true q)), if_neg e]
theorem cnt_le {z : List Nat} {xs : List (List Nat)} : cntOf z xs ≤ xs.length := List.countP_le_length
section
variable {P : Program} {w : World} {K : PySem.W.Frag} {mg : Str → Option Value} {base : Heap}
def spAfter40 (K : PySem.W.Frag) : Sp := fun vs H Q _ => ∃ (c t : Addr) (zs : List (List Nat)) (cs : CaseD), vs = [.ref c, .ref t] ∧ H c = some (.lst (zs.map vN)) ∧ CaseAt H t cs ∧ CaseOk zs cs ∧ zs.length ≤ 4 ∧
  ∀ (p : Addr) (H' : Hp), Same H H' → H p = none → H' p = some (.tup ((nextF zs cs.ls cs.ws cs.hs cs.lt cs.cr).map V.int)) → Q (.ref p) H'
theorem ok_L_after {f : Addr} {fd : FuncData} (F : Fun K "_law_after" "_law_after" s_L_after f fd) (m_len : mg "len" = none) (m_range : mg "range" = none) (m_tuple : mg "tuple" = none) : FnOk P w K mg base CX0 1 f fd ["_law_crew", "_law_case_here"] (spAfter40 K) := by
  refine F.ok sc_L_after (fun vs H Q E h => ?_) (fun cdv A outer s H vs Q E hr h => ?_)
  · obtain ⟨c, t, zs, cs, rfl, _⟩ := h
    rfl
  · obtain ⟨c, t, zs, cs, rfl, hc, ca, ck, h4, q⟩ := h
    refine ⟨_, (pss_cons (ps_asg (pv 1) (pg_tup (by rfl) (pgs_cons (pg_name (i := 2) sc_L_after.nd rfl (.inl rfl)) (pgs_cons (pg_name (i := 3) sc_L_after.nd rfl (.inl rfl)) (pgs_cons (pg_name (i := 4) sc_L_after.nd rfl (.inl rfl)) (pgs_cons (pg_name (i := 5) sc_L_after.nd rfl (.inl rfl)) (pgs_cons (pg_name (i := 6) sc_L_after.nd rfl (.inl rfl)) (pgs_cons (pg_name (i := 7) sc_L_after.nd rfl (.inl rfl)) (pgs_cons (pg_name (i := 8) sc_L_after.nd rfl (.inl rfl)) (pgs_cons (pg_name (i := 9) sc_L_after.nd rfl (.inl rfl)) pgs_nil))))))))))
  (pss_cons (ps_set (i := 10) sc_L_after.nd rfl (.inl rfl) (pe_lst pa_nil))
  (pss_cons (ps_for PassesOwn.never rfl (pi_range1 (by rfl) m_range (pa_cons (pe_callB call_len_seq (by rfl) m_len (by decide +kernel) (pa_cons (pv 0) pa_nil)) pa_nil)) (pg_name (i := 11) sc_L_after.nd rfl (.inr rfl))
    (pss_cons (ps_set (i := 12) sc_L_after.nd rfl (.inl rfl) (pe_callB call_len_seq (by rfl) m_len (by decide +kernel) (pa_cons (pe_lc (own := [("_law_name", 14)]) (by rfl) sc_L_after.nd (pi_list (pe_op op_cat (pv 5) (pe_lst (pa_cons (pv 6) pa_nil)))) (blkOk_by (N := ["_law_crew", "_law_case_here", "_law_loads", "_law_wishes", "_law_turned", "_law_having", "_law_late", "_law_crest", "_law_listed", "_law_cap", "_law_after_here", "_law_k", "_law_held", "_law_wished", "_law_name"]) (sc := defScope s_L_after) (by decide +kernel)) (fun _ _ _ _ _ => (pg_name (i := 14) sc_L_after.nd rfl (.inl rfl))) (fun _ _ _ _ _ => (pts_one (pt_cmpR op_eq (pv 14) (pe_ix (ix_listK (K := K) rfl) (pv 0) (pv 11) (fun _ _ => rfl)) (nomark _)))) (fun _ _ _ _ _ => pe_int)) pa_nil)))
  (pss_cons (ps_set (i := 13) sc_L_after.nd rfl (.inl rfl) (pe_callB call_len_seq (by rfl) m_len (by decide +kernel) (pa_cons (pe_lc (own := [("_law_name", 14)]) (by rfl) sc_L_after.nd (pi_list (pv 3)) (blkOk_by (N := ["_law_crew", "_law_case_here", "_law_loads", "_law_wishes", "_law_turned", "_law_having", "_law_late", "_law_crest", "_law_listed", "_law_cap", "_law_after_here", "_law_k", "_law_held", "_law_wished", "_law_name"]) (sc := defScope s_L_after) (by decide +kernel)) (fun _ _ _ _ _ => (pg_name (i := 14) sc_L_after.nd rfl (.inl rfl))) (fun _ _ _ _ _ => (pts_one (pt_cmpR op_eq (pv 14) (pe_ix (ix_listK (K := K) rfl) (pv 0) (pv 11) (fun _ _ => rfl)) (nomark _)))) (fun _ _ _ _ _ => pe_int)) pa_nil)))
  (pss_one (ps_if (pt_cmpR op_gt (pv 12) pe_int (nomark _)) (pss_one (ps_expr (pe_bm PySem.F.plainAttrs_list PySem.F.slot_list_append PySem.F.type_list_append mt_append (pv 10) (pa_cons pe_int pa_nil)))) (pss_one (ps_if (PW.pt (pw_and (pt_cmpR op_gt (pv 13) pe_int (nomark _)) (pw_and1 (pt_cmpR op_lt (pe_ix ix_list (pv 2) (pv 11) (fun _ _ => rfl)) (pv 7) (nomark _))))) (pss_one (ps_expr (pe_bm PySem.F.plainAttrs_list PySem.F.slot_list_append PySem.F.type_list_append mt_append (pv 10) (pa_cons (pe_op op_add (pe_ix ix_list (pv 2) (pv 11) (fun _ _ => rfl)) pe_int) pa_nil)))) (pss_one (ps_expr (pe_bm PySem.F.plainAttrs_list PySem.F.slot_list_append PySem.F.type_list_append mt_append (pv 10) (pa_cons (pe_ix ix_list (pv 2) (pv 11) (fun _ _ => rfl)) pa_nil)))))))))))
  (pss_one (ps_ret (pe_callTy call_tuple_of (by rfl) m_tuple (by decide +kernel) (pa_cons (pv 10) pa_nil))))))), ?_⟩
    refine ⟨_, rfl, _, _, rfl, tupAt ca.tup, rfl, _, _, rfl, _, _, rfl, _, _, rfl, _, _, rfl, _, _, rfl, _, _, rfl, _, _, rfl, _, _, rfl, rfl, ?_⟩
    refine ⟨Nat.zero_le _, fun d nd => ?_⟩
    have s1 : Same H (upd H d (.lst [])) := same_upd nd
    have wl : cs.ws.length ≤ 4 := Nat.le_trans ck.sub.length_le h4
    have fl : (nextF zs cs.ls cs.ws cs.hs cs.lt cs.cr).length = zs.length := by unfold nextF; rw [List.length_zipWith, ← ck.len, Nat.min_self]
    refine ⟨_, rfl, _, _, rfl, .inl (lstAt (s1 _ _ hc)), _, rfl, by omega, by rw [List.length_map]; omega, for_range (fun i σ H2 => Same H H2 ∧ ∃ (y1 y2 y3 : Option V), σ = [some (.ref c), some (.ref t), some (.ref cs.lA), some (.ref cs.wA), some (.ref cs.tA), some (.ref cs.hA), some (vN cs.lt), some (.int cs.cr), some (.ref cs.dA), some (capV cs.cap), some (.ref d), y1, y2, y3, none] ∧ H2 d = some (.lst (((nextF zs cs.ls cs.ws cs.hs cs.lt cs.cr).take i).map V.int))) ⟨s1, _, _, _, rfl, upd_same⟩ ?_ ?_⟩
    · rintro i σ H2 hi ⟨sm, y1, y2, y3, rfl, ed⟩
      rw [List.length_map] at hi
      obtain ⟨z, ez, az⟩ := nm_at (zs := zs) (i := 0 + (i : Int)) (by omega) (by omega)
      rw [show (0 + (i : Int)).toNat = i by omega] at ez
      have hil : i < cs.ls.length := by have := ck.len; omega
      have ev : cs.ls[i]? = some cs.ls[i] := List.getElem?_eq_getElem hil
      have av : atI (cs.ls.map V.int) (0 + (i : Int)) = some (.int cs.ls[i]) := by
        refine atI_in (by omega) ?_
        rw [show (0 + (i : Int)).toNat = i by omega, List.getElem?_map, ev]; rfl
      have tp := ck.top _ (List.getElem_mem hil)
      have hz3 : (((nextF zs cs.ls cs.ws cs.hs cs.lt cs.cr).take i).map V.int).length < sizeLine := by rw [List.length_map, List.length_take]; exact small1000 (by omega)
      have tk : (nextF zs cs.ls cs.ws cs.hs cs.lt cs.cr).take (i + 1) = (nextF zs cs.ls cs.ws cs.hs cs.lt cs.cr).take i ++ [nxt cs.ws cs.hs cs.lt cs.cr z cs.ls[i]] := by
        unfold nextF
        rw [List.take_add_one, List.getElem?_zipWith, ez, ev]; rfl
      -- held
      refine ⟨_, rfl, _, rfl, (show 1 ≤ sizeLine by decide), fun u nu => ?_⟩
      have t1 := same_upd (o := .lst [vN cs.lt]) nu
      refine ⟨_, _, _, _, rfl, rfl, t1 _ _ (sm _ _ ca.h), upd_same, by rw [List.length_map]; exact Nat.le_of_lt (small1000 (by have := ck.hl; simp only [List.length_cons, List.length_nil]; omega)), fun p np => ?_⟩
      have ecat : cs.hs.map vN ++ [vN cs.lt] = (cs.hs ++ [cs.lt]).map vN := by rw [List.map_append]; rfl
      rw [ecat]
      have t2 := t1.trans (same_upd (o := .lst ((cs.hs ++ [cs.lt]).map vN)) np)
      obtain ⟨H3, eH3⟩ : ∃ H3, H3 = upd (upd H2 u (.lst [vN cs.lt])) p (.lst ((cs.hs ++ [cs.lt]).map vN)) := ⟨_, rfl⟩
      have ep : H3 p = some (.lst ((cs.hs ++ [cs.lt]).map vN)) := by rw [eH3]; exact upd_same
      rw [← eH3] at t2 ⊢
      have sm3 := sm.trans t2
      refine ⟨p, rfl, ⟨_, lstAt ep⟩, fun D nD => ?_⟩
      refine lc_list (K := K) (a := p) (xs := (cs.hs ++ [cs.lt]).map vN) (fun n H' => H' = upd H3 D (.lst (List.replicate (cntOf z ((cs.hs ++ [cs.lt]).take n)) (V.int 1)))) rfl (fun n H' _ e => e ▸ (same_upd nD).seq (lstAt ep)) (fun n x H' hx hq => ?_) (fun H' hq => ?_)
      · subst hq
        obtain ⟨y, ey, rfl⟩ := vN_at hx
        have sD := same_upd (o := .lst (List.replicate (cntOf z ((cs.hs ++ [cs.lt]).take n)) (V.int 1))) nD
        refine ⟨rfl, _, rfl, _, rfl, _, rfl, _, _, _, _, rfl, rfl, lstAt (sD _ _ (sm3 _ _ hc)), az, rfl, _, rfl, ?_⟩
        rw [eq_nm]
        have cl : cntOf z ((cs.hs ++ [cs.lt]).take n) ≤ 5 := Nat.le_trans cnt_le (by rw [List.length_take, List.length_append]; have := ck.hl; simp only [List.length_cons, List.length_nil]; omega)
        by_cases e : y = z
        · rw [decide_eq_true e]
          refine iteT ⟨_, upd_same, by rw [List.length_replicate]; exact small1000 (by omega), ?_⟩
          rw [upd_twice, cnt_step ey, if_pos e, List.replicate_succ']
        · rw [decide_eq_false e]
          refine iteF ?_
          show _ = _
          rw [cnt_step ey, if_neg e, Nat.add_zero]
      subst hq
      rw [List.length_map, List.take_length]
      have sD := same_upd (o := .lst (List.replicate (cntOf z (cs.hs ++ [cs.lt])) (V.int 1))) nD
      obtain ⟨H4, eH4⟩ : ∃ H4, H4 = upd H3 D (.lst (List.replicate (cntOf z (cs.hs ++ [cs.lt])) (V.int 1))) := ⟨_, rfl⟩
      have eD : H4 D = some (.lst (List.replicate (cntOf z (cs.hs ++ [cs.lt])) (V.int 1))) := by rw [eH4]; exact upd_same
      rw [← eH4] at sD ⊢
      have t4 := t2.trans sD
      have sm4 := sm.trans t4
      refine ⟨_, _, rfl, .inl (lstAt eD), ?_⟩
      rw [List.length_replicate]
      -- wished
      refine ⟨_, rfl, cs.wA, rfl, ⟨_, lstAt (sm4 _ _ ca.w)⟩, fun D2 nD2 => ?_⟩
      refine lc_list (K := K) (a := cs.wA) (xs := cs.ws.map vN) (fun n H' => H' = upd H4 D2 (.lst (List.replicate (cntOf z (cs.ws.take n)) (V.int 1)))) rfl (fun n H' _ e => e ▸ (same_upd nD2).seq (lstAt (sm4 _ _ ca.w))) (fun n x H' hx hq => ?_) (fun H' hq => ?_)
      · subst hq
        obtain ⟨y, ey, rfl⟩ := vN_at hx
        have sD2 := same_upd (o := .lst (List.replicate (cntOf z (cs.ws.take n)) (V.int 1))) nD2
        refine ⟨rfl, _, rfl, _, rfl, _, rfl, _, _, _, _, rfl, rfl, lstAt (sD2 _ _ (sm4 _ _ hc)), az, rfl, _, rfl, ?_⟩
        rw [eq_nm]
        have cl : cntOf z (cs.ws.take n) ≤ 4 := Nat.le_trans cnt_le (by rw [List.length_take]; omega)
        by_cases e : y = z
        · rw [decide_eq_true e]
          refine iteT ⟨_, upd_same, by rw [List.length_replicate]; exact small1000 (by omega), ?_⟩
          rw [upd_twice, cnt_step ey, if_pos e, List.replicate_succ']
        · rw [decide_eq_false e]
          refine iteF ?_
          show _ = _
          rw [cnt_step ey, if_neg e, Nat.add_zero]
      subst hq
      rw [List.length_map, List.take_length]
      have sD2 := same_upd (o := .lst (List.replicate (cntOf z cs.ws) (V.int 1))) nD2
      obtain ⟨H5, eH5⟩ : ∃ H5, H5 = upd H4 D2 (.lst (List.replicate (cntOf z cs.ws) (V.int 1))) := ⟨_, rfl⟩
      have eD2 : H5 D2 = some (.lst (List.replicate (cntOf z cs.ws) (V.int 1))) := by rw [eH5]; exact upd_same
      rw [← eH5] at sD2 ⊢
      have t5 := t4.trans sD2
      have sm5 := sm.trans t5
      have ed5 := t5 _ _ ed
      refine ⟨_, _, rfl, .inl (lstAt eD2), ?_⟩
      rw [List.length_replicate]
      have fin : ∀ (u : Int) (a b : Option V), u = nxt cs.ws cs.hs cs.lt cs.cr z cs.ls[i] → Same H (upd H5 d (.lst (((nextF zs cs.ls cs.ws cs.hs cs.lt cs.cr).take i).map V.int ++ [V.int u]))) ∧ ∃ (y1 y2 y3 : Option V), [some (V.ref c), some (.ref t), some (.ref cs.lA), some (.ref cs.wA), some (.ref cs.tA), some (.ref cs.hA), some (vN cs.lt), some (.int cs.cr), some (.ref cs.dA), some (capV cs.cap), some (.ref d), some (.int (0 + (i : Int))), a, b, none] = [some (V.ref c), some (.ref t), some (.ref cs.lA), some (.ref cs.wA), some (.ref cs.tA), some (.ref cs.hA), some (vN cs.lt), some (.int cs.cr), some (.ref cs.dA), some (capV cs.cap), some (.ref d), y1, y2, y3, none] ∧ (upd H5 d (.lst (((nextF zs cs.ls cs.ws cs.hs cs.lt cs.cr).take i).map V.int ++ [V.int u]))) d = some (.lst (((nextF zs cs.ls cs.ws cs.hs cs.lt cs.cr).take (i + 1)).map V.int)) := by
        intro u a b eu
        refine ⟨same_at sm5 nd, _, _, _, rfl, ?_⟩
        rw [upd_same, tk, eu, List.map_append]; rfl
      refine ⟨_, rfl, _, _, rfl, rfl, _, rfl, ite2 (fun e => ?_) (fun e => ?_)⟩
      · have e1 : z ∈ cs.hs ++ [cs.lt] := cnt_pos.mp (of_decide_eq_true e)
        refine ⟨_, rfl, .inl ⟨rfl, _, lstAt ed5⟩, _, _, _, rfl, rfl, ed5, hz3, ?_⟩
        refine fin 0 _ _ ?_
        unfold nxt
        rw [if_pos (by rcases List.mem_append.mp e1 with h | h; exact .inl h; exact .inr (List.mem_singleton.mp h))]
      · have e1 : ¬ (z ∈ cs.hs ∨ z = cs.lt) := fun h => e (decide_eq_true (cnt_pos.mpr (by
          rcases h with h | h
          · exact List.mem_append_left _ h
          · exact List.mem_append_right _ (List.mem_singleton.mpr h))))
        refine ⟨_, rfl, _, _, rfl, rfl, _, rfl, ite2 (fun e2 => ?_) (fun e2 => ?_)⟩
        · have e3 : z ∈ cs.ws := cnt_pos.mp (of_decide_eq_true e2)
          refine ⟨_, rfl, _, rfl, _, _, _, _, rfl, rfl, lstAt (sm5 _ _ ca.l), av, _, rfl, _, _, rfl, rfl, _, rfl, ite2 (fun e4 => ?_) (fun e4 => ?_)⟩
          · have e5 : cs.ls[i] < cs.cr := of_decide_eq_true e4
            refine ⟨_, rfl, .inl ⟨rfl, _, lstAt ed5⟩, _, rfl, _, rfl, _, _, _, _, rfl, rfl, lstAt (sm5 _ _ ca.l), av, _, _, rfl, rfl, _, _, _, rfl, rfl, ed5, hz3, ?_⟩
            refine fin (cs.ls[i] + 1) _ _ ?_
            unfold nxt
            rw [if_neg e1, if_pos e3, if_neg (by omega)]
          · have e5 : ¬ cs.ls[i] < cs.cr := fun h => e4 (decide_eq_true h)
            refine ⟨_, rfl, .inl ⟨rfl, _, lstAt ed5⟩, _, rfl, _, rfl, _, _, _, _, rfl, rfl, lstAt (sm5 _ _ ca.l), av, _, _, _, rfl, rfl, ed5, hz3, ?_⟩
            refine fin cs.ls[i] _ _ ?_
            unfold nxt
            rw [if_neg e1, if_pos e3, if_pos (by omega)]; omega
        · have e3 : ¬ z ∈ cs.ws := fun h => e2 (decide_eq_true (cnt_pos.mpr h))
          refine iteF ?_
          refine ⟨_, rfl, .inl ⟨rfl, _, lstAt ed5⟩, _, rfl, _, rfl, _, _, _, _, rfl, rfl, lstAt (sm5 _ _ ca.l), av, _, _, _, rfl, rfl, ed5, hz3, ?_⟩
          refine fin cs.ls[i] _ _ ?_
          unfold nxt
          rw [if_neg e1, if_neg e3]
    · rintro σ H2 ⟨sm, y1, y2, y3, rfl, ed⟩
      rw [List.length_map, Int.toNat_natCast, take_all fl] at ed
      refine ⟨_, rfl, _, _, rfl, .inl ⟨lstAt ed, fun p np => ?_⟩⟩
      have np0 : H p = none := sm.free np
      exact q p _ (same_at sm np0) np0 upd_same
end
end TK

namespace TK
open PySem PySem.Spec PyProof.Rows L2
/-! calls with keywords in any order -/
def pickV (is : List Nat) (xs : List V) : List V := is.map fun i => xs.getD i .non
def pickU (is : List Nat) (us : List Value) : List Value := is.map fun i => us.getD i .none
theorem pick_rel {xs : List V} {us : List Value} (r : Vals xs us) : ∀ is : List Nat, Vals (pickV is xs) (pickU is us)
  | [] => .nil
  | i :: is => by
    refine .cons ?_ (pick_rel r is)
    show L2.RelV (xs.getD i .non) (us.getD i .none)
    rw [List.getD_eq_getElem?_getD, List.getD_eq_getElem?_getD]
    cases e : xs[i]? with
    | none =>
      have hl := r.length
      rw [List.getElem?_eq_none_iff] at e
      rw [show us[i]? = none from List.getElem?_eq_none_iff.mpr (by omega)]
      rfl
    | some x =>
      obtain ⟨u, hu, ru⟩ := r.get e
      rw [hu]
      exact ru
theorem fun_kbn {K : PySem.W.Frag} {x qual : Str} {st : Stmt} {f : Addr} {fd : FuncData} {ps : List Str} (F : Fun K x qual st f fd) (n : Nat) (ks : List Str) (is : List Nat)
    (h : ∀ (kV doc pm : Value) (an : Option Addr) (cdv ct : Value) (us ws : List Value), us.length = n → ws.length = ks.length → bindArgs (PySem.W.fnOf x qual (defArgs st) (defBody st) (defScope st) .none kV doc pm an cdv ct) ⟨us, ks.zip ws⟩ = pure (ps.zip (pickU is (us ++ ws)))) :
    KBn K fd ps n ks (fun us ws => pickU is (us ++ ws)) (fun vs zs => pickV is (vs ++ zs)) := by
  obtain ⟨oc, od, kV, doc, pm, an, cdv, ct, osl, rfl, lk, hcd⟩ := F.ex
  exact ⟨fun s us ws _ h1 h2 => .of_eq (h kV doc pm an cdv ct us ws h1 h2), fun r1 r2 => pick_rel (r1.append r2) is⟩
/-! the seven answers -/
structure Told (H : Hp) (D : Addr) (zs : List (List Nat)) (cs : CaseD) (p1 p2 p3 p4 : Addr) : Prop where
  l : H D = some (.lst [.ref p1, .ref p2, .ref p3, .ref p4, optV (overF zs cs.ls cs.ds cs.cap), vN (longR zs cs.ls cs.ws), vN (longR zs cs.ls cs.ts)])
  a1 : H p1 = some (.tup ((passF cs.ws cs.hs cs.lt).map vN))
  a2 : H p2 = some (.tup ((passF cs.ts cs.hs cs.lt).map vN))
  a3 : H p3 = some (.tup ((nextF zs cs.ls cs.ws cs.hs cs.lt cs.cr).map V.int))
  a4 : H p4 = some (.tup ((nextF zs cs.ls cs.ws cs.hs cs.lt cs.cr).map V.int))
theorem nextF_perm {zs : List (List Nat)} {ls : List Int} {ws ts hs : List (List Nat)} {kp : List Nat} {cr : Int} (h : ts.Perm ws) : nextF zs ls ts hs kp cr = nextF zs ls ws hs kp cr := by
  unfold nextF
  congr 1
  funext z l
  unfold nxt
  by_cases h1 : z ∈ hs ∨ z = kp
  · rw [if_pos h1, if_pos h1]
  · rw [if_neg h1, if_neg h1]
    by_cases h2 : z ∈ ws
    · rw [if_pos h2, if_pos (h.mem_iff.mpr h2)]
    · rw [if_neg h2, if_neg (fun q => h2 (h.mem_iff.mp q))]
/-- the list of answers under way -/
structure Part (H0 H : Hp) (D : Addr) (xs : List V) (os : List (Addr × List V)) : Prop where
  s : Same H0 H
  d : H D = some (.lst xs)
  o : ∀ e ∈ os, H e.1 = some (.tup e.2)
theorem Part.same {H0 H H' : Hp} {D : Addr} {xs : List V} {os : List (Addr × List V)} (h : Part H0 H D xs os) (s : Same H H') : Part H0 H' D xs os := ⟨h.s.trans s, s _ _ h.d, fun e m => s _ _ (h.o e m)⟩
theorem Part.add {H0 H : Hp} {D p : Addr} {xs ys : List V} {os : List (Addr × List V)} (h : Part H0 H D xs os) (e : H p = some (.tup ys)) : Part H0 H D xs ((p, ys) :: os) := ⟨h.s, h.d, fun x m => by
  rcases List.mem_cons.mp m with rfl | m
  · exact e
  · exact h.o x m⟩
theorem Part.app {H0 H : Hp} {D : Addr} {xs : List V} {os : List (Addr × List V)} (h : Part H0 H D xs os) (n : H0 D = none) (ys : List V) : Part H0 (upd H D (.lst ys)) D ys os := ⟨same_at h.s n, upd_same, fun e m => by
  rw [upd_ne (fun z => by have := h.o e m; rw [z, h.d] at this; cases this)]
  exact h.o e m⟩
structure Good (zs : List (List Nat)) : Prop where
  nd : zs.Nodup
  ne : ∀ z ∈ zs, z ≠ []
  few : zs.length ≤ 4
section
variable {P : Program} {w : World} {K : PySem.W.Frag} {mg : Str → Option Value} {base : Heap}
def spTold (K : PySem.W.Frag) : Sp := fun vs H Q _ => ∃ (c t : Addr) (zs : List (List Nat)) (cs : CaseD), vs = [.ref c, .ref t] ∧ H c = some (.lst (zs.map vN)) ∧ CaseAt H t cs ∧ CaseOk zs cs ∧ Good zs ∧
  ∀ (D p1 p2 p3 p4 : Addr) (H' : Hp), Same H H' → Told H' D zs cs p1 p2 p3 p4 → Q (.ref D) H'
theorem long_is {zs : List (List Nat)} {ls : List Int} {ws : List (List Nat)} {z : List Nat} (g : Good zs) (sub : ∀ y ∈ ws, y ∈ zs) (nd : ws.Nodup) (h0 : ws = [] → z = []) (h : ws ≠ [] → z ∈ ws ∧ (∀ m, m < ws.idxOf z → ∀ y, ws[m]? = some y → loadOf zs ls y < loadOf zs ls z) ∧ ∀ y ∈ ws, loadOf zs ls y ≤ loadOf zs ls z) : z = longR zs ls ws :=
  long_eq (fun y hy => g.ne y (sub y hy)) nd h0 h
theorem ok_L_by_place {f : Addr} {fd : FuncData} (F : Fun K "_law_by_place" "_law_by_place" s_L_by_place f fd) (m_tuple : mg "tuple" = none)
    (d_passed_over : Def P w K mg base "passed_over" 1 ["candidates", "takers", "keeper"] (spPassed K)) (d_next_passes : Def P w K mg base "next_passes" 2 ["members", "passes", "candidates", "takers", "keeper", "most"] (spNextP K))
    (d_first_over : Def P w K mg base "first_over" 1 ["members", "passes", "passed", "limit"] (spFirst K)) (d_longest : Def P w K mg base "longest" 1 ["members", "passes", "candidates"] (spLongest K)) :
    FnOk P w K mg base CX0 3 f fd ["_law_crew", "_law_case_here"] (spTold K) := by
  refine F.ok sc_L_by_place (fun vs H Q E h => ?_) (fun cdv A outer s H vs Q E hr h => ?_)
  · obtain ⟨c, t, zs, cs, rfl, _⟩ := h
    rfl
  · obtain ⟨c, t, zs, cs, rfl, hc, ca, ck, g, q⟩ := h
    have wl : cs.ws.length ≤ 4 := Nat.le_trans ck.sub.length_le g.few
    have tl : cs.ts.length ≤ 4 := by rw [ck.prm.length_eq]; exact wl
    have wnd : cs.ws.Nodup := ck.sub.nodup g.nd
    have tnd : cs.ts.Nodup := ck.prm.nodup_iff.mpr wnd
    have subw : ∀ z ∈ cs.ws, z ∈ zs := fun z h => ck.sub.subset h
    have subt : ∀ z ∈ cs.ts, z ∈ zs := fun z h => subw z (ck.prm.subset h)
    refine ⟨_, (pss_cons (ps_asg (pv 1) (pg_tup (by rfl) (pgs_cons (pg_name (i := 2) sc_L_by_place.nd rfl (.inl rfl)) (pgs_cons (pg_name (i := 3) sc_L_by_place.nd rfl (.inl rfl)) (pgs_cons (pg_name (i := 4) sc_L_by_place.nd rfl (.inl rfl)) (pgs_cons (pg_name (i := 5) sc_L_by_place.nd rfl (.inl rfl)) (pgs_cons (pg_name (i := 6) sc_L_by_place.nd rfl (.inl rfl)) (pgs_cons (pg_name (i := 7) sc_L_by_place.nd rfl (.inl rfl)) (pgs_cons (pg_name (i := 8) sc_L_by_place.nd rfl (.inl rfl)) (pgs_cons (pg_name (i := 9) sc_L_by_place.nd rfl (.inl rfl)) pgs_nil))))))))))
  (pss_cons (ps_set (i := 10) sc_L_by_place.nd rfl (.inl rfl) (pe_lst (pa_cons (pe_callD d_passed_over (hr.mono (by decide)) (by rfl) (pa_cons (pe_callTy call_tuple_of (by rfl) m_tuple (by decide +kernel) (pa_cons (pv 3) pa_nil)) (pa_cons (pe_callTy call_tuple_of (by rfl) m_tuple (by decide +kernel) (pa_cons (pv 5) pa_nil)) (pa_cons (pv 6) pa_nil)))) (pa_cons (pe_callD d_passed_over (hr.mono (by decide)) (by rfl) (pa_cons (pe_callTy call_tuple_of (by rfl) m_tuple (by decide +kernel) (pa_cons (pv 4) pa_nil)) (pa_cons (pe_callTy call_tuple_of (by rfl) m_tuple (by decide +kernel) (pa_cons (pv 5) pa_nil)) (pa_cons (pv 6) pa_nil)))) pa_nil))))
  (pss_cons (ps_expr (pe_bm PySem.F.plainAttrs_list PySem.F.slot_list_append PySem.F.type_list_append mt_append (pv 10) (pa_cons (pe_callD d_next_passes (hr.mono (by decide)) (by rfl) (pa_cons (pe_callTy call_tuple_frz (by rfl) m_tuple (by decide +kernel) (pa_cons (pv 0) pa_nil)) (pa_cons (pe_callTy call_tuple_of (by rfl) m_tuple (by decide +kernel) (pa_cons (pv 2) pa_nil)) (pa_cons (pe_callTy call_tuple_of (by rfl) m_tuple (by decide +kernel) (pa_cons (pv 3) pa_nil)) (pa_cons (pe_callTy call_tuple_of (by rfl) m_tuple (by decide +kernel) (pa_cons (pv 5) pa_nil)) (pa_cons (pv 6) (pa_cons (pv 7) pa_nil))))))) pa_nil)))
  (pss_cons (ps_expr (pe_bm PySem.F.plainAttrs_list PySem.F.slot_list_append PySem.F.type_list_append mt_append (pv 10) (pa_cons (pe_callD d_next_passes (hr.mono (by decide)) (by rfl) (pa_cons (pe_callTy call_tuple_frz (by rfl) m_tuple (by decide +kernel) (pa_cons (pv 0) pa_nil)) (pa_cons (pe_callTy call_tuple_of (by rfl) m_tuple (by decide +kernel) (pa_cons (pv 2) pa_nil)) (pa_cons (pe_callTy call_tuple_of (by rfl) m_tuple (by decide +kernel) (pa_cons (pv 4) pa_nil)) (pa_cons (pe_callTy call_tuple_of (by rfl) m_tuple (by decide +kernel) (pa_cons (pv 5) pa_nil)) (pa_cons (pv 6) (pa_cons (pv 7) pa_nil))))))) pa_nil)))
  (pss_cons (ps_expr (pe_bm PySem.F.plainAttrs_list PySem.F.slot_list_append PySem.F.type_list_append mt_append (pv 10) (pa_cons (pe_callD d_first_over (hr.mono (by decide)) (by rfl) (pa_cons (pe_callTy call_tuple_frz (by rfl) m_tuple (by decide +kernel) (pa_cons (pv 0) pa_nil)) (pa_cons (pe_callTy call_tuple_of (by rfl) m_tuple (by decide +kernel) (pa_cons (pv 2) pa_nil)) (pa_cons (pe_callTy call_tuple_of (by rfl) m_tuple (by decide +kernel) (pa_cons (pv 8) pa_nil)) (pa_cons (pv 9) pa_nil))))) pa_nil)))
  (pss_cons (ps_expr (pe_bm PySem.F.plainAttrs_list PySem.F.slot_list_append PySem.F.type_list_append mt_append (pv 10) (pa_cons (pe_callD d_longest (hr.mono (by decide)) (by rfl) (pa_cons (pe_callTy call_tuple_frz (by rfl) m_tuple (by decide +kernel) (pa_cons (pv 0) pa_nil)) (pa_cons (pe_callTy call_tuple_of (by rfl) m_tuple (by decide +kernel) (pa_cons (pv 2) pa_nil)) (pa_cons (pe_callTy call_tuple_of (by rfl) m_tuple (by decide +kernel) (pa_cons (pv 3) pa_nil)) pa_nil)))) pa_nil)))
  (pss_cons (ps_expr (pe_bm PySem.F.plainAttrs_list PySem.F.slot_list_append PySem.F.type_list_append mt_append (pv 10) (pa_cons (pe_callD d_longest (hr.mono (by decide)) (by rfl) (pa_cons (pe_callTy call_tuple_frz (by rfl) m_tuple (by decide +kernel) (pa_cons (pv 0) pa_nil)) (pa_cons (pe_callTy call_tuple_of (by rfl) m_tuple (by decide +kernel) (pa_cons (pv 2) pa_nil)) (pa_cons (pe_callTy call_tuple_of (by rfl) m_tuple (by decide +kernel) (pa_cons (pv 4) pa_nil)) pa_nil)))) pa_nil)))
  (pss_one (ps_ret (pv 10)))))))))), ?_⟩
    refine ⟨_, rfl, _, _, rfl, tupAt ca.tup, rfl, _, _, rfl, _, _, rfl, _, _, rfl, _, _, rfl, _, _, rfl, _, _, rfl, _, _, rfl, _, _, rfl, rfl, ?_⟩
    -- passed_over, twice
    refine ⟨_, rfl, _, _, rfl, .inl ⟨lstAt ca.w, fun a1 n1 => ?_⟩⟩
    have s1 := same_upd (o := .tup (cs.ws.map vN)) n1
    refine ⟨_, rfl, _, _, rfl, .inl ⟨lstAt (s1 _ _ ca.h), fun a2 n2 => ?_⟩⟩
    have s2 := same_upd (o := .tup (cs.hs.map vN)) n2
    refine ⟨_, rfl, a1, a2, cs.ws, cs.hs, cs.lt, rfl, tupAt (s2 _ _ upd_same), tupAt upd_same, by omega, fun p1 H1 t1 np1 ep1 => ?_⟩
    have sm1 := (s1.trans s2).trans t1
    refine ⟨_, rfl, _, _, rfl, .inl ⟨lstAt (sm1 _ _ ca.t), fun a3 n3 => ?_⟩⟩
    have s3 := same_upd (o := .tup (cs.ts.map vN)) n3
    refine ⟨_, rfl, _, _, rfl, .inl ⟨lstAt (s3 _ _ (sm1 _ _ ca.h)), fun a4 n4 => ?_⟩⟩
    have s4 := same_upd (o := .tup (cs.hs.map vN)) n4
    refine ⟨_, rfl, a3, a4, cs.ts, cs.hs, cs.lt, rfl, tupAt (s4 _ _ upd_same), tupAt upd_same, by omega, fun p2 H2 t2 np2 ep2 => ?_⟩
    have sm12 := (s3.trans s4).trans t2
    have sm2 := sm1.trans sm12
    have ep12 := sm12 _ _ ep1
    refine ⟨(show 2 ≤ sizeLine by decide), fun D nD => ?_⟩
    have nD0 : H D = none := sm2.free nD
    have s5 := same_upd (o := .lst [V.ref p1, .ref p2]) nD
    have P2 : Part H (upd H2 D (.lst [V.ref p1, .ref p2])) D [V.ref p1, .ref p2] [(p2, (passF cs.ts cs.hs cs.lt).map vN), (p1, (passF cs.ws cs.hs cs.lt).map vN)] := ⟨sm2.trans s5, upd_same, fun e m => by
      rcases List.mem_cons.mp m with rfl | m
      · exact s5 _ _ ep2
      · cases List.mem_singleton.mp m; exact s5 _ _ ep12⟩
    -- next_passes
    refine ⟨_, rfl, .inl ⟨rfl, _, lstAt P2.d⟩, ?_⟩
    refine ⟨_, rfl, _, _, rfl, lstAt (P2.s _ _ hc), fun m3 o3 nm oc3 od3 => ?_⟩
    have u1 := same_upd (o := .frz o3 (.tup (zs.map vN))) nm
    refine ⟨_, rfl, _, _, rfl, .inl ⟨lstAt (u1 _ _ (P2.s _ _ ca.l)), fun b nb => ?_⟩⟩
    have u2 := same_upd (o := .tup (cs.ls.map V.int)) nb
    refine ⟨_, rfl, _, _, rfl, .inl ⟨lstAt (u2 _ _ (u1 _ _ (P2.s _ _ ca.w))), fun c1 nc => ?_⟩⟩
    have u3 := same_upd (o := .tup (cs.ws.map vN)) nc
    refine ⟨_, rfl, _, _, rfl, .inl ⟨lstAt (u3 _ _ (u2 _ _ (u1 _ _ (P2.s _ _ ca.h)))), fun d1 nd => ?_⟩⟩
    have u4 := same_upd (o := .tup (cs.hs.map vN)) nd
    refine ⟨_, rfl, _, rfl, m3, b, c1, d1, zs, cs.ws, cs.hs, cs.ls, cs.lt, cs.cr, rfl, tupFrz (u4 _ _ (u3 _ _ (u2 _ _ upd_same))), tupAt (u4 _ _ (u3 _ _ upd_same)), tupAt (u4 _ _ upd_same), tupAt upd_same, by omega, by have := g.few; omega, ck.len, fun p3 H3 t3 np3 ep3 => ?_⟩
    have P3 := (P2.same ((((u1.trans u2).trans u3).trans u4).trans t3)).add ep3
    refine ⟨_, _, _, rfl, rfl, P3.d, small1000 (by simp), ?_⟩
    replace P3 := P3.app nD0 ([V.ref p1, .ref p2] ++ [.ref p3])
    clear u1 u2 u3 u4 t3 P2
    -- next_passes
    refine ⟨_, rfl, .inl ⟨rfl, _, lstAt P3.d⟩, ?_⟩
    refine ⟨_, rfl, _, _, rfl, lstAt (P3.s _ _ hc), fun m4 o4 nm oc4 od4 => ?_⟩
    have u1 := same_upd (o := .frz o4 (.tup (zs.map vN))) nm
    refine ⟨_, rfl, _, _, rfl, .inl ⟨lstAt (u1 _ _ (P3.s _ _ ca.l)), fun b nb => ?_⟩⟩
    have u2 := same_upd (o := .tup (cs.ls.map V.int)) nb
    refine ⟨_, rfl, _, _, rfl, .inl ⟨lstAt (u2 _ _ (u1 _ _ (P3.s _ _ ca.t))), fun c1 nc => ?_⟩⟩
    have u3 := same_upd (o := .tup (cs.ts.map vN)) nc
    refine ⟨_, rfl, _, _, rfl, .inl ⟨lstAt (u3 _ _ (u2 _ _ (u1 _ _ (P3.s _ _ ca.h)))), fun d1 nd => ?_⟩⟩
    have u4 := same_upd (o := .tup (cs.hs.map vN)) nd
    refine ⟨_, rfl, _, rfl, m4, b, c1, d1, zs, cs.ts, cs.hs, cs.ls, cs.lt, cs.cr, rfl, tupFrz (u4 _ _ (u3 _ _ (u2 _ _ upd_same))), tupAt (u4 _ _ (u3 _ _ upd_same)), tupAt (u4 _ _ upd_same), tupAt upd_same, by omega, by have := g.few; omega, ck.len, fun p4 H4 t4 np4 ep4 => ?_⟩
    have P4 := (P3.same ((((u1.trans u2).trans u3).trans u4).trans t4)).add ep4
    refine ⟨_, _, _, rfl, rfl, P4.d, small1000 (by simp), ?_⟩
    replace P4 := P4.app nD0 ([V.ref p1, .ref p2] ++ [.ref p3] ++ [.ref p4])
    clear u1 u2 u3 u4 t4 P3
    -- first_over
    refine ⟨_, rfl, .inl ⟨rfl, _, lstAt P4.d⟩, ?_⟩
    refine ⟨_, rfl, _, _, rfl, lstAt (P4.s _ _ hc), fun m5 o5 nm oc5 od5 => ?_⟩
    have u1 := same_upd (o := .frz o5 (.tup (zs.map vN))) nm
    refine ⟨_, rfl, _, _, rfl, .inl ⟨lstAt (u1 _ _ (P4.s _ _ ca.l)), fun b nb => ?_⟩⟩
    have u2 := same_upd (o := .tup (cs.ls.map V.int)) nb
    refine ⟨_, rfl, _, _, rfl, .inl ⟨lstAt (u2 _ _ (u1 _ _ (P4.s _ _ ca.d))), fun c1 nc => ?_⟩⟩
    have u3 := same_upd (o := .tup (cs.ds.map vN)) nc
    refine ⟨_, rfl, m5, b, c1, zs, cs.ds, cs.ls, cs.cap, rfl, ⟨o5, u3 _ _ (u2 _ _ upd_same), oc5, od5⟩, tupAt (u3 _ _ upd_same), tupAt upd_same, ck.len, g.nd, ck.din, ?_⟩
    have P5 := P4.same ((u1.trans u2).trans u3)
    refine ⟨_, _, _, rfl, rfl, P5.d, small1000 (by simp), ?_⟩
    replace P5 := P5.app nD0 (([V.ref p1, .ref p2] ++ [.ref p3] ++ [.ref p4]) ++ [optV (overF zs cs.ls cs.ds cs.cap)])
    clear u1 u2 u3 P4
    -- longest
    refine ⟨_, rfl, .inl ⟨rfl, _, lstAt P5.d⟩, ?_⟩
    refine ⟨_, rfl, _, _, rfl, lstAt (P5.s _ _ hc), fun m6 o6 nm oc6 od6 => ?_⟩
    have u1 := same_upd (o := .frz o6 (.tup (zs.map vN))) nm
    refine ⟨_, rfl, _, _, rfl, .inl ⟨lstAt (u1 _ _ (P5.s _ _ ca.l)), fun b nb => ?_⟩⟩
    have u2 := same_upd (o := .tup (cs.ls.map V.int)) nb
    refine ⟨_, rfl, _, _, rfl, .inl ⟨lstAt (u2 _ _ (u1 _ _ (P5.s _ _ ca.w))), fun c1 nc => ?_⟩⟩
    have u3 := same_upd (o := .tup (cs.ws.map vN)) nc
    refine ⟨m6, b, c1, zs, cs.ws, cs.ls, rfl, ⟨o6, u3 _ _ (u2 _ _ upd_same), oc6, od6⟩, tupAt (u3 _ _ upd_same), tupAt upd_same, by omega, ck.len, g.nd, subw, fun z6 H6 t6 x0 x1 => ?_⟩
    have ez6 := long_is g subw wnd x0 x1
    subst ez6
    have P6 := P5.same (((u1.trans u2).trans u3).trans t6)
    refine ⟨_, _, _, rfl, rfl, P6.d, small1000 (by simp), ?_⟩
    replace P6 := P6.app nD0 ((([V.ref p1, .ref p2] ++ [.ref p3] ++ [.ref p4]) ++ [optV (overF zs cs.ls cs.ds cs.cap)]) ++ [vN (longR zs cs.ls cs.ws)])
    clear u1 u2 u3 t6 P5
    -- longest
    refine ⟨_, rfl, .inl ⟨rfl, _, lstAt P6.d⟩, ?_⟩
    refine ⟨_, rfl, _, _, rfl, lstAt (P6.s _ _ hc), fun m7 o7 nm oc7 od7 => ?_⟩
    have u1 := same_upd (o := .frz o7 (.tup (zs.map vN))) nm
    refine ⟨_, rfl, _, _, rfl, .inl ⟨lstAt (u1 _ _ (P6.s _ _ ca.l)), fun b nb => ?_⟩⟩
    have u2 := same_upd (o := .tup (cs.ls.map V.int)) nb
    refine ⟨_, rfl, _, _, rfl, .inl ⟨lstAt (u2 _ _ (u1 _ _ (P6.s _ _ ca.t))), fun c1 nc => ?_⟩⟩
    have u3 := same_upd (o := .tup (cs.ts.map vN)) nc
    refine ⟨m7, b, c1, zs, cs.ts, cs.ls, rfl, ⟨o7, u3 _ _ (u2 _ _ upd_same), oc7, od7⟩, tupAt (u3 _ _ upd_same), tupAt upd_same, by omega, ck.len, g.nd, subt, fun z7 H7 t7 x0 x1 => ?_⟩
    have ez7 := long_is g subt tnd x0 x1
    subst ez7
    have P7 := P6.same (((u1.trans u2).trans u3).trans t7)
    refine ⟨_, _, _, rfl, rfl, P7.d, small1000 (by simp), ?_⟩
    replace P7 := P7.app nD0 ((([V.ref p1, .ref p2] ++ [.ref p3] ++ [.ref p4]) ++ [optV (overF zs cs.ls cs.ds cs.cap)] ++ [vN (longR zs cs.ls cs.ws)]) ++ [vN (longR zs cs.ls cs.ts)])
    clear u1 u2 u3 t7 P6
    refine ⟨_, rfl, q D p1 p2 p3 p4 _ P7.s ⟨P7.d, P7.o (p1, _) (by simp), P7.o (p2, _) (by simp), P7.o (p3, _) (by simp), ?_⟩⟩
    rw [← nextF_perm ck.prm]
    exact P7.o (p4, _) (by simp)
end
end TK

namespace TK
open PySem PySem.Spec PyProof.Rows L2
section
variable {X : Cx} {CX : CXT} {k n : Nat} {f : Addr} {fd : FuncData} {ps ks : List Str} {sp : Sp} {E : XK} {x : Str} {p pos : Pos} {kws : List Keyword} {tk : TA} {g : List Value → List Value → List Value} {gV : List V → List V → List V}
/-- f(k = v, ..): keywords alone -/
theorem pe_callN0 (F : FnOk X.prog X.w X.K X.mg X.base CX k f fd ps sp) (hr : Room k X.A) (hg : Gl X x) (hm : X.mg x = some (.ref f)) (hk : PySem.W.keepIn X.K (.ref f) = true) (hb : KBn X.K fd ps 0 ks g gV) (hx : Passes CX X E) (hkw : PK X kws tk)
    (hall : (backToKw pos (keywordEach kws X.env)).all (·.1.isSome) = true := by rfl) (hks : (backToKw pos (keywordEach kws X.env)).filterMap (·.1) = ks := by rfl) (hdb : (x == ("__debug__" : Str)) = false := by decide)
    (hpl : ((backTo pos (starEach [] X.env)).any (·.1) || (backToKw pos (keywordEach kws X.env)).any (·.1.isNone)) = false := by rfl) : PE X (.Call (.Name x p) [] kws pos) (tCallN 0 ks.length sp gV E tNil tk) := by
  refine ⟨fun pins s σ H Q I h => wpAny_Call_Name_kw (ld_glob I hg hm (PySem.W.callWith_KW0 (h₀ := X.base) I.ok.mod.kin hk hall ?_ hpl) hdb)⟩
  refine thn (hkw.run pos pins s σ H _ I h) fun ws s2 ⟨zs, H2, I2, rz, l1, l2, q2⟩ => ⟨I2.kIn, ?_⟩
  rw [hks]
  exact run_fnN (us := []) (vs := []) F hr hb hx I2 .nil rz rfl l2 q2
end
abbrev KB (K : PySem.W.Frag) (fd : FuncData) (ps : List Str) (n : Nat) (ks : List Str) (is : List Nat) : Prop := KBn K fd ps n ks (fun us ws => pickU is (us ++ ws)) (fun vs zs => pickV is (vs ++ zs))
section
variable {P : Program} {w : World} {K : PySem.W.Frag} {mg : Str → Option Value} {base : Heap}
theorem ok_L_by_name {f : Addr} {fd : FuncData} (F : Fun K "_law_by_name" "_law_by_name" s_L_by_name f fd) (m_tuple : mg "tuple" = none)
    {fPo : Addr} {fdPo : FuncData} (G_passed_over : FnOk P w K mg base CX0 1 fPo fdPo ["candidates", "takers", "keeper"] (spPassed K)) (g_passed_over : mg "passed_over" = some (.ref fPo)) (k_passed_over : PySem.W.keepIn K (.ref fPo) = true)
    {fNp : Addr} {fdNp : FuncData} (G_next_passes : FnOk P w K mg base CX0 2 fNp fdNp ["members", "passes", "candidates", "takers", "keeper", "most"] (spNextP K)) (g_next_passes : mg "next_passes" = some (.ref fNp)) (k_next_passes : PySem.W.keepIn K (.ref fNp) = true)
    {fFo : Addr} {fdFo : FuncData} (G_first_over : FnOk P w K mg base CX0 1 fFo fdFo ["members", "passes", "passed", "limit"] (spFirst K)) (g_first_over : mg "first_over" = some (.ref fFo)) (k_first_over : PySem.W.keepIn K (.ref fFo) = true)
    {fLo : Addr} {fdLo : FuncData} (G_longest : FnOk P w K mg base CX0 1 fLo fdLo ["members", "passes", "candidates"] (spLongest K)) (g_longest : mg "longest" = some (.ref fLo)) (k_longest : PySem.W.keepIn K (.ref fLo) = true)
    (kb_passed_over_keeper_takers_candidates : KB K fdPo ["candidates", "takers", "keeper"] 0 ["keeper", "takers", "candidates"] [2, 1, 0])
    (kb_passed_over_keeper_takers : KB K fdPo ["candidates", "takers", "keeper"] 1 ["keeper", "takers"] [0, 2, 1])
    (kb_next_passes_most_keeper_takers_candidates_passes_members : KB K fdNp ["members", "passes", "candidates", "takers", "keeper", "most"] 0 ["most", "keeper", "takers", "candidates", "passes", "members"] [5, 4, 3, 2, 1, 0])
    (kb_next_passes_takers_candidates_most_keeper : KB K fdNp ["members", "passes", "candidates", "takers", "keeper", "most"] 2 ["takers", "candidates", "most", "keeper"] [0, 1, 3, 2, 5, 4])
    (kb_first_over_limit_passed_passes_members : KB K fdFo ["members", "passes", "passed", "limit"] 0 ["limit", "passed", "passes", "members"] [3, 2, 1, 0])
    (kb_longest_candidates_passes_members : KB K fdLo ["members", "passes", "candidates"] 0 ["candidates", "passes", "members"] [2, 1, 0])
    (kb_longest_candidates_passes : KB K fdLo ["members", "passes", "candidates"] 1 ["candidates", "passes"] [0, 2, 1]) :
    FnOk P w K mg base CX0 3 f fd ["_law_crew", "_law_case_here"] (spTold K) := by
  refine F.ok sc_L_by_name (fun vs H Q E h => ?_) (fun cdv A outer s H vs Q E hr h => ?_)
  · obtain ⟨c, t, zs, cs, rfl, _⟩ := h
    rfl
  · obtain ⟨c, t, zs, cs, rfl, hc, ca, ck, g, q⟩ := h
    have wl : cs.ws.length ≤ 4 := Nat.le_trans ck.sub.length_le g.few
    have tl : cs.ts.length ≤ 4 := by rw [ck.prm.length_eq]; exact wl
    have wnd : cs.ws.Nodup := ck.sub.nodup g.nd
    have tnd : cs.ts.Nodup := ck.prm.nodup_iff.mpr wnd
    have subw : ∀ z ∈ cs.ws, z ∈ zs := fun z h => ck.sub.subset h
    have subt : ∀ z ∈ cs.ts, z ∈ zs := fun z h => subw z (ck.prm.subset h)
    refine ⟨_, (pss_cons (ps_asg (pv 1) (pg_tup (by rfl) (pgs_cons (pg_name (i := 2) sc_L_by_name.nd rfl (.inl rfl)) (pgs_cons (pg_name (i := 3) sc_L_by_name.nd rfl (.inl rfl)) (pgs_cons (pg_name (i := 4) sc_L_by_name.nd rfl (.inl rfl)) (pgs_cons (pg_name (i := 5) sc_L_by_name.nd rfl (.inl rfl)) (pgs_cons (pg_name (i := 6) sc_L_by_name.nd rfl (.inl rfl)) (pgs_cons (pg_name (i := 7) sc_L_by_name.nd rfl (.inl rfl)) (pgs_cons (pg_name (i := 8) sc_L_by_name.nd rfl (.inl rfl)) (pgs_cons (pg_name (i := 9) sc_L_by_name.nd rfl (.inl rfl)) pgs_nil))))))))))
  (pss_cons (ps_set (i := 10) sc_L_by_name.nd rfl (.inl rfl) (pe_lst (pa_cons (pe_callN0 G_passed_over (hr.mono (by decide)) (by rfl) g_passed_over k_passed_over kb_passed_over_keeper_takers_candidates pass0 (pk_cons (pv 6) (pk_cons (pe_callTy call_tuple_of (by rfl) m_tuple (by decide +kernel) (pa_cons (pv 5) pa_nil)) (pk_cons (pe_callTy call_tuple_of (by rfl) m_tuple (by decide +kernel) (pa_cons (pv 3) pa_nil)) pk_nil)))) pa_nil)))
  (pss_cons (ps_expr (pe_bm PySem.F.plainAttrs_list PySem.F.slot_list_append PySem.F.type_list_append mt_append (pv 10) (pa_cons (pe_callN G_passed_over (hr.mono (by decide)) (by rfl) g_passed_over k_passed_over kb_passed_over_keeper_takers pass0 (pa_cons (pe_callTy call_tuple_of (by rfl) m_tuple (by decide +kernel) (pa_cons (pv 4) pa_nil)) pa_nil) (pk_cons (pv 6) (pk_cons (pe_callTy call_tuple_of (by rfl) m_tuple (by decide +kernel) (pa_cons (pv 5) pa_nil)) pk_nil))) pa_nil)))
  (pss_cons (ps_expr (pe_bm PySem.F.plainAttrs_list PySem.F.slot_list_append PySem.F.type_list_append mt_append (pv 10) (pa_cons (pe_callN0 G_next_passes (hr.mono (by decide)) (by rfl) g_next_passes k_next_passes kb_next_passes_most_keeper_takers_candidates_passes_members pass0 (pk_cons (pv 7) (pk_cons (pv 6) (pk_cons (pe_callTy call_tuple_of (by rfl) m_tuple (by decide +kernel) (pa_cons (pv 5) pa_nil)) (pk_cons (pe_callTy call_tuple_of (by rfl) m_tuple (by decide +kernel) (pa_cons (pv 3) pa_nil)) (pk_cons (pe_callTy call_tuple_of (by rfl) m_tuple (by decide +kernel) (pa_cons (pv 2) pa_nil)) (pk_cons (pe_callTy call_tuple_frz (by rfl) m_tuple (by decide +kernel) (pa_cons (pv 0) pa_nil)) pk_nil))))))) pa_nil)))
  (pss_cons (ps_expr (pe_bm PySem.F.plainAttrs_list PySem.F.slot_list_append PySem.F.type_list_append mt_append (pv 10) (pa_cons (pe_callN G_next_passes (hr.mono (by decide)) (by rfl) g_next_passes k_next_passes kb_next_passes_takers_candidates_most_keeper pass0 (pa_cons (pe_callTy call_tuple_frz (by rfl) m_tuple (by decide +kernel) (pa_cons (pv 0) pa_nil)) (pa_cons (pe_callTy call_tuple_of (by rfl) m_tuple (by decide +kernel) (pa_cons (pv 2) pa_nil)) pa_nil)) (pk_cons (pe_callTy call_tuple_of (by rfl) m_tuple (by decide +kernel) (pa_cons (pv 5) pa_nil)) (pk_cons (pe_callTy call_tuple_of (by rfl) m_tuple (by decide +kernel) (pa_cons (pv 4) pa_nil)) (pk_cons (pv 7) (pk_cons (pv 6) pk_nil))))) pa_nil)))
  (pss_cons (ps_expr (pe_bm PySem.F.plainAttrs_list PySem.F.slot_list_append PySem.F.type_list_append mt_append (pv 10) (pa_cons (pe_callN0 G_first_over (hr.mono (by decide)) (by rfl) g_first_over k_first_over kb_first_over_limit_passed_passes_members pass0 (pk_cons (pv 9) (pk_cons (pe_callTy call_tuple_of (by rfl) m_tuple (by decide +kernel) (pa_cons (pv 8) pa_nil)) (pk_cons (pe_callTy call_tuple_of (by rfl) m_tuple (by decide +kernel) (pa_cons (pv 2) pa_nil)) (pk_cons (pe_callTy call_tuple_frz (by rfl) m_tuple (by decide +kernel) (pa_cons (pv 0) pa_nil)) pk_nil))))) pa_nil)))
  (pss_cons (ps_expr (pe_bm PySem.F.plainAttrs_list PySem.F.slot_list_append PySem.F.type_list_append mt_append (pv 10) (pa_cons (pe_callN0 G_longest (hr.mono (by decide)) (by rfl) g_longest k_longest kb_longest_candidates_passes_members pass0 (pk_cons (pe_callTy call_tuple_of (by rfl) m_tuple (by decide +kernel) (pa_cons (pv 3) pa_nil)) (pk_cons (pe_callTy call_tuple_of (by rfl) m_tuple (by decide +kernel) (pa_cons (pv 2) pa_nil)) (pk_cons (pe_callTy call_tuple_frz (by rfl) m_tuple (by decide +kernel) (pa_cons (pv 0) pa_nil)) pk_nil)))) pa_nil)))
  (pss_cons (ps_expr (pe_bm PySem.F.plainAttrs_list PySem.F.slot_list_append PySem.F.type_list_append mt_append (pv 10) (pa_cons (pe_callN G_longest (hr.mono (by decide)) (by rfl) g_longest k_longest kb_longest_candidates_passes pass0 (pa_cons (pe_callTy call_tuple_frz (by rfl) m_tuple (by decide +kernel) (pa_cons (pv 0) pa_nil)) pa_nil) (pk_cons (pe_callTy call_tuple_of (by rfl) m_tuple (by decide +kernel) (pa_cons (pv 4) pa_nil)) (pk_cons (pe_callTy call_tuple_of (by rfl) m_tuple (by decide +kernel) (pa_cons (pv 2) pa_nil)) pk_nil))) pa_nil)))
  (pss_one (ps_ret (pv 10))))))))))), ?_⟩
    refine ⟨_, rfl, _, _, rfl, tupAt ca.tup, rfl, _, _, rfl, _, _, rfl, _, _, rfl, _, _, rfl, _, _, rfl, _, _, rfl, _, _, rfl, _, _, rfl, rfl, ?_⟩
    -- passed_over by keywords
    refine ⟨_, rfl, _, rfl, _, _, rfl, .inl ⟨lstAt ca.h, fun a2 n2 => ?_⟩⟩
    have s1 := same_upd (o := .tup (cs.hs.map vN)) n2
    refine ⟨_, rfl, _, _, rfl, .inl ⟨lstAt (s1 _ _ ca.w), fun a1 n1 => ?_⟩⟩
    have s2 := same_upd (o := .tup (cs.ws.map vN)) n1
    refine ⟨rfl, rfl, a1, a2, cs.ws, cs.hs, cs.lt, rfl, tupAt upd_same, tupAt (s2 _ _ upd_same), by omega, fun p1 H1 t1 np1 ep1 => ?_⟩
    have sm1 := (s1.trans s2).trans t1
    refine ⟨(show 1 ≤ sizeLine by decide), fun D nD => ?_⟩
    have nD0 : H D = none := sm1.free nD
    have s5 := same_upd (o := .lst [V.ref p1]) nD
    have P1 : Part H (upd H1 D (.lst [V.ref p1])) D [V.ref p1] [(p1, (passF cs.ws cs.hs cs.lt).map vN)] := ⟨sm1.trans s5, upd_same, fun e m => by cases List.mem_singleton.mp m; exact s5 _ _ ep1⟩
    refine ⟨_, rfl, .inl ⟨rfl, _, lstAt P1.d⟩, ?_⟩
    refine ⟨_, rfl, _, _, rfl, .inl ⟨lstAt (P1.s _ _ ca.t), fun a3 n3 => ?_⟩⟩
    have s3 := same_upd (o := .tup (cs.ts.map vN)) n3
    refine ⟨_, rfl, _, rfl, _, _, rfl, .inl ⟨lstAt (s3 _ _ (P1.s _ _ ca.h)), fun a4 n4 => ?_⟩⟩
    have s4 := same_upd (o := .tup (cs.hs.map vN)) n4
    refine ⟨rfl, rfl, a3, a4, cs.ts, cs.hs, cs.lt, rfl, tupAt (s4 _ _ upd_same), tupAt upd_same, by omega, fun p2 H2 t2 np2 ep2 => ?_⟩
    have P2 := (P1.same ((s3.trans s4).trans t2)).add ep2
    refine ⟨_, _, _, rfl, rfl, P2.d, small1000 (by simp), ?_⟩
    replace P2 := P2.app nD0 ([V.ref p1] ++ [.ref p2])
    clear s1 s2 s3 s4 s5 t1 t2 P1
    -- next_passes by keywords
    refine ⟨_, rfl, .inl ⟨rfl, _, lstAt P2.d⟩, ?_⟩
    refine ⟨_, rfl, _, rfl, _, rfl, _, _, rfl, .inl ⟨lstAt (P2.s _ _ ca.h), fun d1 nd => ?_⟩⟩
    have u1 := same_upd (o := .tup (cs.hs.map vN)) nd
    refine ⟨_, rfl, _, _, rfl, .inl ⟨lstAt (u1 _ _ (P2.s _ _ ca.w)), fun c1 nc => ?_⟩⟩
    have u2 := same_upd (o := .tup (cs.ws.map vN)) nc
    refine ⟨_, rfl, _, _, rfl, .inl ⟨lstAt (u2 _ _ (u1 _ _ (P2.s _ _ ca.l))), fun b nb => ?_⟩⟩
    have u3 := same_upd (o := .tup (cs.ls.map V.int)) nb
    refine ⟨_, rfl, _, _, rfl, lstAt (u3 _ _ (u2 _ _ (u1 _ _ (P2.s _ _ hc)))), fun m3 o3 nm oc3 od3 => ?_⟩
    have u4 := same_upd (o := .frz o3 (.tup (zs.map vN))) nm
    refine ⟨rfl, rfl, m3, b, c1, d1, zs, cs.ws, cs.hs, cs.ls, cs.lt, cs.cr, rfl, tupFrz upd_same, tupAt (u4 _ _ upd_same), tupAt (u4 _ _ (u3 _ _ upd_same)), tupAt (u4 _ _ (u3 _ _ (u2 _ _ upd_same))), by omega, by have := g.few; omega, ck.len, fun p3 H3 t3 np3 ep3 => ?_⟩
    have P3 := (P2.same ((((u1.trans u2).trans u3).trans u4).trans t3)).add ep3
    refine ⟨_, _, _, rfl, rfl, P3.d, small1000 (by simp), ?_⟩
    replace P3 := P3.app nD0 (([V.ref p1] ++ [.ref p2]) ++ [.ref p3])
    clear u1 u2 u3 u4 t3 P2
    -- next_passes, two by place
    refine ⟨_, rfl, .inl ⟨rfl, _, lstAt P3.d⟩, ?_⟩
    refine ⟨_, rfl, _, _, rfl, lstAt (P3.s _ _ hc), fun m4 o4 nm oc4 od4 => ?_⟩
    have u1 := same_upd (o := .frz o4 (.tup (zs.map vN))) nm
    refine ⟨_, rfl, _, _, rfl, .inl ⟨lstAt (u1 _ _ (P3.s _ _ ca.l)), fun b nb => ?_⟩⟩
    have u2 := same_upd (o := .tup (cs.ls.map V.int)) nb
    refine ⟨_, rfl, _, _, rfl, .inl ⟨lstAt (u2 _ _ (u1 _ _ (P3.s _ _ ca.h))), fun d1 nd => ?_⟩⟩
    have u3 := same_upd (o := .tup (cs.hs.map vN)) nd
    refine ⟨_, rfl, _, _, rfl, .inl ⟨lstAt (u3 _ _ (u2 _ _ (u1 _ _ (P3.s _ _ ca.t)))), fun c1 nc => ?_⟩⟩
    have u4 := same_upd (o := .tup (cs.ts.map vN)) nc
    refine ⟨_, rfl, _, rfl, rfl, rfl, m4, b, c1, d1, zs, cs.ts, cs.hs, cs.ls, cs.lt, cs.cr, rfl, tupFrz (u4 _ _ (u3 _ _ (u2 _ _ upd_same))), tupAt (u4 _ _ (u3 _ _ upd_same)), tupAt upd_same, tupAt (u4 _ _ upd_same), by omega, by have := g.few; omega, ck.len, fun p4 H4 t4 np4 ep4 => ?_⟩
    have P4 := (P3.same ((((u1.trans u2).trans u3).trans u4).trans t4)).add ep4
    refine ⟨_, _, _, rfl, rfl, P4.d, small1000 (by simp), ?_⟩
    replace P4 := P4.app nD0 ((([V.ref p1] ++ [.ref p2]) ++ [.ref p3]) ++ [.ref p4])
    clear u1 u2 u3 u4 t4 P3
    -- first_over by keywords
    refine ⟨_, rfl, .inl ⟨rfl, _, lstAt P4.d⟩, ?_⟩
    refine ⟨_, rfl, _, rfl, _, _, rfl, .inl ⟨lstAt (P4.s _ _ ca.d), fun c1 nc => ?_⟩⟩
    have u1 := same_upd (o := .tup (cs.ds.map vN)) nc
    refine ⟨_, rfl, _, _, rfl, .inl ⟨lstAt (u1 _ _ (P4.s _ _ ca.l)), fun b nb => ?_⟩⟩
    have u2 := same_upd (o := .tup (cs.ls.map V.int)) nb
    refine ⟨_, rfl, _, _, rfl, lstAt (u2 _ _ (u1 _ _ (P4.s _ _ hc))), fun m5 o5 nm oc5 od5 => ?_⟩
    have u3 := same_upd (o := .frz o5 (.tup (zs.map vN))) nm
    refine ⟨rfl, rfl, m5, b, c1, zs, cs.ds, cs.ls, cs.cap, rfl, ⟨o5, upd_same, oc5, od5⟩, tupAt (u3 _ _ upd_same), tupAt (u3 _ _ (u2 _ _ upd_same)), ck.len, g.nd, ck.din, ?_⟩
    have P5 := P4.same ((u1.trans u2).trans u3)
    refine ⟨_, _, _, rfl, rfl, P5.d, small1000 (by simp), ?_⟩
    replace P5 := P5.app nD0 (((([V.ref p1] ++ [.ref p2]) ++ [.ref p3]) ++ [.ref p4]) ++ [optV (overF zs cs.ls cs.ds cs.cap)])
    clear u1 u2 u3 P4
    -- longest by keywords
    refine ⟨_, rfl, .inl ⟨rfl, _, lstAt P5.d⟩, ?_⟩
    refine ⟨_, rfl, _, _, rfl, .inl ⟨lstAt (P5.s _ _ ca.w), fun c1 nc => ?_⟩⟩
    have u1 := same_upd (o := .tup (cs.ws.map vN)) nc
    refine ⟨_, rfl, _, _, rfl, .inl ⟨lstAt (u1 _ _ (P5.s _ _ ca.l)), fun b nb => ?_⟩⟩
    have u2 := same_upd (o := .tup (cs.ls.map V.int)) nb
    refine ⟨_, rfl, _, _, rfl, lstAt (u2 _ _ (u1 _ _ (P5.s _ _ hc))), fun m6 o6 nm oc6 od6 => ?_⟩
    have u3 := same_upd (o := .frz o6 (.tup (zs.map vN))) nm
    refine ⟨rfl, rfl, m6, b, c1, zs, cs.ws, cs.ls, rfl, ⟨o6, upd_same, oc6, od6⟩, tupAt (u3 _ _ upd_same), tupAt (u3 _ _ (u2 _ _ upd_same)), by omega, ck.len, g.nd, subw, fun z6 H6 t6 x0 x1 => ?_⟩
    have ez6 := long_is g subw wnd x0 x1
    subst ez6
    have P6 := P5.same (((u1.trans u2).trans u3).trans t6)
    refine ⟨_, _, _, rfl, rfl, P6.d, small1000 (by simp), ?_⟩
    replace P6 := P6.app nD0 ((((([V.ref p1] ++ [.ref p2]) ++ [.ref p3]) ++ [.ref p4]) ++ [optV (overF zs cs.ls cs.ds cs.cap)]) ++ [vN (longR zs cs.ls cs.ws)])
    clear u1 u2 u3 t6 P5
    -- longest, one by place
    refine ⟨_, rfl, .inl ⟨rfl, _, lstAt P6.d⟩, ?_⟩
    refine ⟨_, rfl, _, _, rfl, lstAt (P6.s _ _ hc), fun m7 o7 nm oc7 od7 => ?_⟩
    have u1 := same_upd (o := .frz o7 (.tup (zs.map vN))) nm
    refine ⟨_, rfl, _, _, rfl, .inl ⟨lstAt (u1 _ _ (P6.s _ _ ca.t)), fun c1 nc => ?_⟩⟩
    have u2 := same_upd (o := .tup (cs.ts.map vN)) nc
    refine ⟨_, rfl, _, _, rfl, .inl ⟨lstAt (u2 _ _ (u1 _ _ (P6.s _ _ ca.l))), fun b nb => ?_⟩⟩
    have u3 := same_upd (o := .tup (cs.ls.map V.int)) nb
    refine ⟨rfl, rfl, m7, b, c1, zs, cs.ts, cs.ls, rfl, ⟨o7, u3 _ _ (u2 _ _ upd_same), oc7, od7⟩, tupAt upd_same, tupAt (u3 _ _ upd_same), by omega, ck.len, g.nd, subt, fun z7 H7 t7 x0 x1 => ?_⟩
    have ez7 := long_is g subt tnd x0 x1
    subst ez7
    have P7 := P6.same (((u1.trans u2).trans u3).trans t7)
    refine ⟨_, _, _, rfl, rfl, P7.d, small1000 (by simp), ?_⟩
    replace P7 := P7.app nD0 (((((([V.ref p1] ++ [.ref p2]) ++ [.ref p3]) ++ [.ref p4]) ++ [optV (overF zs cs.ls cs.ds cs.cap)]) ++ [vN (longR zs cs.ls cs.ws)]) ++ [vN (longR zs cs.ls cs.ts)])
    clear u1 u2 u3 t7 P6
    refine ⟨_, rfl, q D p1 p2 p3 p4 _ P7.s ⟨P7.d, P7.o (p1, _) (by simp), P7.o (p2, _) (by simp), P7.o (p3, _) (by simp), ?_⟩⟩
    rw [← nextF_perm ck.prm]
    exact P7.o (p4, _) (by simp)
end
end TK

namespace TK
open PySem PySem.Spec PyProof.Rows L2
theorem pass_step {xs hs : List (List Nat)} {kp z : List Nat} {i : Nat} (h : xs[i]? = some z) : passF (xs.take (i + 1)) hs kp = passF (xs.take i) hs kp ++ (if (!decide (z ∈ hs) && !decide (z = kp)) = true then [z] else []) := by
  unfold passF
  rw [List.take_add_one, h, List.filter_append]
  congr 1
  show List.filter _ [z] = _
  rw [List.filter_cons, List.filter_nil]
theorem pass_len {xs hs : List (List Nat)} {kp : List Nat} {i : Nat} : (passF (xs.take i) hs kp).length ≤ xs.length := by
  have := List.length_filter_le (fun m => !decide (m ∈ hs) && !decide (m = kp)) (xs.take i)
  rw [List.length_take] at this
  unfold passF; omega
section
variable {P : Program} {w : World} {K : PySem.W.Frag} {mg : Str → Option Value} {base : Heap}
theorem ok_L_due {f : Addr} {fd : FuncData} (F : Fun K "_law_due" "_law_due" s_L_due f fd) (m_tuple : mg "tuple" = none)
    (d_L_after : Def P w K mg base "_law_after" 1 ["_law_crew", "_law_case_here"] (spAfter40 K)) (d_L_over : Def P w K mg base "_law_over" 1 ["_law_crew", "_law_loads", "_law_listed", "_law_cap"] (spOverL K))
    (d_L_longest : Def P w K mg base "_law_longest" 1 ["_law_crew", "_law_loads", "_law_wishes"] (spLongL K)) : FnOk P w K mg base CX0 3 f fd ["_law_crew", "_law_case_here"] (spTold K) := by
  refine F.ok sc_L_due (fun vs H Q E h => ?_) (fun cdv A outer s H vs Q E hr h => ?_)
  · obtain ⟨c, t, zs, cs, rfl, _⟩ := h
    rfl
  · obtain ⟨c, t, zs, cs, rfl, hc, ca, ck, g, q⟩ := h
    have wl : cs.ws.length ≤ 4 := Nat.le_trans ck.sub.length_le g.few
    have tl : cs.ts.length ≤ 4 := by rw [ck.prm.length_eq]; exact wl
    have subw : ∀ z ∈ cs.ws, z ∈ zs := fun z h => ck.sub.subset h
    have subt : ∀ z ∈ cs.ts, z ∈ zs := fun z h => subw z (ck.prm.subset h)
    refine ⟨_, (pss_cons (ps_asg (pv 1) (pg_tup (by rfl) (pgs_cons (pg_name (i := 2) sc_L_due.nd rfl (.inl rfl)) (pgs_cons (pg_name (i := 3) sc_L_due.nd rfl (.inl rfl)) (pgs_cons (pg_name (i := 4) sc_L_due.nd rfl (.inl rfl)) (pgs_cons (pg_name (i := 5) sc_L_due.nd rfl (.inr rfl)) (pgs_cons (pg_name (i := 6) sc_L_due.nd rfl (.inr rfl)) (pgs_cons (pg_name (i := 7) sc_L_due.nd rfl (.inl rfl)) (pgs_cons (pg_name (i := 8) sc_L_due.nd rfl (.inl rfl)) (pgs_cons (pg_name (i := 9) sc_L_due.nd rfl (.inl rfl)) pgs_nil))))))))))
  (pss_cons (ps_set (i := 10) sc_L_due.nd rfl (.inl rfl) (pe_lst pa_nil))
  (pss_cons (ps_for PassesOwn.never rfl (pi_list (pe_lst (pa_cons (pv 3) (pa_cons (pv 4) pa_nil)))) (pg_name (i := 11) sc_L_due.nd rfl (.inl rfl))
    (pss_one (ps_expr (pe_bm PySem.F.plainAttrs_list PySem.F.slot_list_append PySem.F.type_list_append mt_append (pv 10) (pa_cons (pe_callTy call_tuple_of (by rfl) m_tuple (by decide +kernel) (pa_cons (pe_lc (own := [("_law_name", 13)]) (by rfl) sc_L_due.nd (pi_list (pv 11)) (blkOk_by (N := ["_law_crew", "_law_case_here", "_law_loads", "_law_wishes", "_law_turned", "_law_having", "_law_late", "_law_crest", "_law_listed", "_law_cap", "_law_due_here", "_law_row", "_law_after_here", "_law_name"]) (sc := defScope s_L_due) (by decide +kernel)) (fun _ _ _ _ _ => (pg_name (i := 13) sc_L_due.nd rfl (.inl rfl))) (fun _ _ _ _ _ => (pts_one (PW.pt (pw_and (pt_cmpR op_ne (pv 13) (pv 6) (nomark _)) (pw_and1 (pt_cmpR (op_notIn_seqK (K := K) rfl) (pv 13) (pv 5) (by rfl))))))) (fun _ _ _ _ _ => (pv 13))) pa_nil)) pa_nil)))))
  (pss_cons (ps_set (i := 12) sc_L_due.nd rfl (.inl rfl) (pe_callD d_L_after (hr.mono (by decide)) (by rfl) (pa_cons (pv 0) (pa_cons (pv 1) pa_nil))))
  (pss_cons (ps_set (i := 10) sc_L_due.nd rfl (.inl rfl) (pe_op op_cat (pv 10) (pe_lst (pa_cons (pv 12) (pa_cons (pv 12) (pa_cons (pe_callD d_L_over (hr.mono (by decide)) (by rfl) (pa_cons (pv 0) (pa_cons (pv 2) (pa_cons (pv 8) (pa_cons (pv 9) pa_nil))))) pa_nil))))))
  (pss_one (ps_ret (pe_op op_cat (pv 10) (pe_lst (pa_cons (pe_callD d_L_longest (hr.mono (by decide)) (by rfl) (pa_cons (pv 0) (pa_cons (pv 2) (pa_cons (pv 3) pa_nil)))) (pa_cons (pe_callD d_L_longest (hr.mono (by decide)) (by rfl) (pa_cons (pv 0) (pa_cons (pv 2) (pa_cons (pv 4) pa_nil)))) pa_nil))))))))))), ?_⟩
    refine ⟨_, rfl, _, _, rfl, tupAt ca.tup, rfl, _, _, rfl, _, _, rfl, _, _, rfl, _, _, rfl, _, _, rfl, _, _, rfl, _, _, rfl, _, _, rfl, rfl, ?_⟩
    refine ⟨Nat.zero_le _, fun D nD => ?_⟩
    have s1 : Same H (upd H D (.lst [])) := same_upd nD
    refine ⟨_, rfl, _, rfl, (show 2 ≤ sizeLine by decide), fun u nu => ?_⟩
    have s2 := same_upd (o := .lst [V.ref cs.wA, .ref cs.tA]) nu
    have hDu : D ≠ u := ne_new upd_same nu
    refine ⟨u, rfl, ⟨_, lstAt upd_same⟩, for_list (K := K) (a := u) (xs := [V.ref cs.wA, .ref cs.tA]) (fun i σ H2 => H2 u = some (.lst [V.ref cs.wA, .ref cs.tA]) ∧ ∃ (ps : List (Addr × List V)) (y : Option V), Part H H2 D (ps.map fun e => V.ref e.1) ps ∧ ps.map (·.2) = ([cs.ws, cs.ts].take i).map (fun r => (passF r cs.hs cs.lt).map vN) ∧
      σ = [some (.ref c), some (.ref t), some (.ref cs.lA), some (.ref cs.wA), some (.ref cs.tA), some (.ref cs.hA), some (vN cs.lt), some (.int cs.cr), some (.ref cs.dA), some (capV cs.cap), some (.ref D), y, none, none])
      ⟨upd_same, [], _, ⟨s1.trans s2, by rw [upd_ne hDu]; exact upd_same, fun e m => nomatch m⟩, rfl, rfl⟩ (fun i σ H2 _ hp => lstAt hp.1) ?_ ?_⟩
    · rintro i x σ H2 hx ⟨eu, ps, y, pt, pe, rfl⟩
      obtain ⟨rA, row, hrow, rl, rfl, er⟩ : ∃ rA row, [cs.ws, cs.ts][i]? = some row ∧ row.length ≤ 4 ∧ x = V.ref rA ∧ H rA = some (.lst (row.map vN)) := by
        match i, hx with
        | 0, hx => exact ⟨cs.wA, cs.ws, rfl, wl, (Option.some.inj hx).symm, ca.w⟩
        | 1, hx => exact ⟨cs.tA, cs.ts, rfl, tl, (Option.some.inj hx).symm, ca.t⟩
        | i + 2, hx => simp at hx
      have er2 := pt.s _ _ er
      have hil : i < 2 := (List.getElem?_eq_some_iff.mp hrow).1
      refine ⟨_, rfl, .inl ⟨rfl, _, lstAt pt.d⟩, _, rfl, rA, rfl, ⟨_, lstAt er2⟩, fun Z nZ => ?_⟩
      refine lc_list (K := K) (a := rA) (xs := row.map vN) (fun n H' => H' = upd H2 Z (.lst ((passF (row.take n) cs.hs cs.lt).map vN))) rfl (fun n H' _ e => e ▸ (same_upd nZ).seq (lstAt er2)) (fun n x H' hx hq => ?_) (fun H' hq => ?_)
      · subst hq
        obtain ⟨z, ez, rfl⟩ := vN_at hx
        have sZ := same_upd (o := .lst ((passF (row.take n) cs.hs cs.lt).map vN)) nZ
        have hz : ((passF (row.take n) cs.hs cs.lt).map vN).length < sizeLine := by rw [List.length_map]; exact small1000 (by have := pass_len (xs := row) (hs := cs.hs) (kp := cs.lt) (i := n); omega)
        refine ⟨rfl, _, rfl, _, rfl, rfl, _, rfl, ?_⟩
        rw [eq_nm]
        by_cases h2 : z = cs.lt
        · rw [decide_eq_true h2]
          refine iteF (iteF ?_)
          rw [pass_step ez, decide_eq_true h2, if_neg (by simp), List.append_nil]
        · rw [decide_eq_false h2]
          refine iteT ⟨_, rfl, _, rfl, _, _, rfl, .inl (lstAt (sZ _ _ (pt.s _ _ ca.h))), rfl, nms_flat _, _, rfl, ?_⟩
          rw [notin_nm]
          by_cases h1 : z ∈ cs.hs
          · rw [decide_eq_true h1]
            refine iteF ?_
            rw [pass_step ez, decide_eq_true h1, if_neg (by simp), List.append_nil]
          · rw [decide_eq_false h1]
            refine iteT ⟨_, rfl, _, upd_same, hz, ?_⟩
            rw [upd_twice, pass_step ez, decide_eq_false h1, decide_eq_false h2, if_pos (by decide), List.map_append]; rfl
      subst hq
      rw [List.length_map, List.take_length]
      have sZ := same_upd (o := .lst ((passF row cs.hs cs.lt).map vN)) nZ
      refine ⟨_, _, rfl, .inl ⟨lstAt upd_same, fun p np => ?_⟩⟩
      have sp := same_upd (o := .tup ((passF row cs.hs cs.lt).map vN)) np
      have pt2 := (pt.same (sZ.trans sp))
      have psl : ps.length ≤ 2 := by have := congrArg List.length pe; rw [List.length_map, List.length_map, List.length_take] at this; simp only [List.length_cons, List.length_nil] at this; omega
      refine ⟨_, _, _, rfl, rfl, pt2.d, by rw [List.length_map]; exact small1000 (by omega), ?_⟩
      have ud : u ≠ D := fun e => hDu e.symm
      refine ⟨by rw [upd_ne ud]; exact sp _ _ (sZ _ _ eu), ps ++ [(p, (passF row cs.hs cs.lt).map vN)], _, ?_, ?_, rfl⟩
      · have pt3 := pt2.app nD ((ps ++ [(p, (passF row cs.hs cs.lt).map vN)]).map fun e => V.ref e.1)
        have e0 : (ps.map fun e => V.ref e.1) ++ [V.ref p] = (ps ++ [(p, (passF row cs.hs cs.lt).map vN)]).map fun e => V.ref e.1 := by rw [List.map_append]; rfl
        rw [e0]
        refine ⟨pt3.s, pt3.d, fun e m => ?_⟩
        rcases List.mem_append.mp m with m | m
        · exact pt3.o e m
        · rw [List.mem_singleton.mp m]
          rw [upd_ne (fun z => by have := pt2.d; rw [← z] at this; rw [show (p, (passF row cs.hs cs.lt).map vN).1 = p from rfl, upd_same] at this; cases this)]
          exact upd_same
      · rw [List.map_append, pe, List.take_add_one, hrow, List.map_append]; rfl
    · rintro σ H2 ⟨eu, ps, y, pt, pe, rfl⟩
      obtain ⟨p1, p2, rfl⟩ : ∃ p1 p2, ps = [(p1, (passF cs.ws cs.hs cs.lt).map vN), (p2, (passF cs.ts cs.hs cs.lt).map vN)] := by
        match ps, pe with
        | [a, b], pe =>
          have e1 : a.2 = (passF cs.ws cs.hs cs.lt).map vN := (List.cons.inj pe).1
          have e2 : b.2 = (passF cs.ts cs.hs cs.lt).map vN := (List.cons.inj (List.cons.inj pe).2).1
          exact ⟨a.1, b.1, by rw [← e1, ← e2]⟩
        | [], pe => simp at pe
        | [a], pe => simp at pe
        | a :: b :: d :: r, pe => simp at pe
      -- after
      refine ⟨_, rfl, _, rfl, c, t, zs, cs, rfl, pt.s _ _ hc, ca.same pt.s, ck, g.few, fun pa H3 t3 npa epa => ?_⟩
      have P1 := (pt.same t3).add epa
      refine ⟨_, rfl, _, rfl, _, rfl, _, rfl, _, rfl, _, rfl, _, rfl, c, cs.lA, cs.dA, zs, cs.ds, cs.ls, cs.cap, rfl, P1.s _ _ hc, P1.s _ _ ca.l, P1.s _ _ ca.d, ck.len, g.nd, ck.din, fun H4 t4 => ?_⟩
      refine ⟨(show 3 ≤ sizeLine by decide), fun v nv => ?_⟩
      have sv := same_upd (o := .lst [V.ref pa, .ref pa, optV (overF zs cs.ls cs.ds cs.cap)]) nv
      have P2 := P1.same (t4.trans sv)
      refine ⟨_, _, _, _, rfl, rfl, P2.d, upd_same, (show 5 ≤ sizeLine by decide), fun D2 nD2 => ?_⟩
      have s5 := same_upd (o := .lst ([V.ref p1, .ref p2] ++ [V.ref pa, .ref pa, optV (overF zs cs.ls cs.ds cs.cap)])) nD2
      have P3 := P2.same s5
      -- longest
      refine ⟨_, rfl, _, rfl, _, rfl, _, rfl, c, cs.lA, cs.wA, zs, cs.ws, cs.ls, rfl, P3.s _ _ hc, P3.s _ _ ca.l, P3.s _ _ ca.w, ck.len, g.nd, subw, fun H5 t5 => ?_⟩
      have P4 := P3.same t5
      refine ⟨_, rfl, _, rfl, _, rfl, c, cs.lA, cs.tA, zs, cs.ts, cs.ls, rfl, P4.s _ _ hc, P4.s _ _ ca.l, P4.s _ _ ca.t, ck.len, g.nd, subt, fun H6 t6 => ?_⟩
      have P5 := P4.same t6
      have eD2 := t6 _ _ (t5 _ _ (show (upd _ D2 (.lst ([V.ref p1, .ref p2] ++ [V.ref pa, .ref pa, optV (overF zs cs.ls cs.ds cs.cap)]))) D2 = _ from upd_same))
      refine ⟨(show 2 ≤ sizeLine by decide), fun x nx => ?_⟩
      have sx := same_upd (o := .lst [vN (longR zs cs.ls cs.ws), vN (longR zs cs.ls cs.ts)]) nx
      have P6 := P5.same sx
      refine ⟨_, _, _, _, rfl, rfl, sx _ _ eD2, upd_same, (show 7 ≤ sizeLine by decide), fun D3 nD3 => ?_⟩
      have s7 := same_upd (o := .lst (([V.ref p1, .ref p2] ++ [V.ref pa, .ref pa, optV (overF zs cs.ls cs.ds cs.cap)]) ++ [vN (longR zs cs.ls cs.ws), vN (longR zs cs.ls cs.ts)])) nD3
      have P7 := P6.same s7
      exact q D3 p1 p2 pa pa _ P7.s ⟨upd_same, P7.o (p1, _) (by simp), P7.o (p2, _) (by simp), P7.o (pa, _) (by simp), P7.o (pa, _) (by simp)⟩
end
end TK

namespace TK
open PySem PySem.Spec PyProof.Rows L2
theorem eq_tup {H : Hp} {t u : Addr} {xs : List V} (h1 : H t = some (.tup xs)) (h2 : H u = some (.tup xs)) (hl : xs.length ≤ 1000) (fl : ∀ x ∈ xs, flat1 x = true) : Eq2 H 1 (.ref t) (.ref u) := by
  refine .inr ⟨t, u, _, _, rfl, rfl, .inr ⟨h1, h2⟩, rfl, by omega, fun i x y hx hy => ⟨?_, fl x (List.mem_of_getElem? hx)⟩⟩
  rw [hx] at hy
  exact Option.some.inj hy
theorem fl_nm {zs : List (List Nat)} : ∀ x ∈ zs.map vN, flat1 x = true := fun x hx => by
  obtain ⟨z, _, rfl⟩ := List.mem_map.mp hx
  rfl
theorem fl_int {zs : List Int} : ∀ x ∈ zs.map V.int, flat1 x = true := fun x hx => by
  obtain ⟨z, _, rfl⟩ := List.mem_map.mp hx
  rfl
theorem fl_opt (o : Option (List Nat)) : flat1 (optV o) = true := by cases o <;> rfl
theorem eq_told {H : Hp} {D D' p1 p2 p3 p4 q1 q2 q3 q4 : Addr} {zs : List (List Nat)} {cs : CaseD} (a : Told H D zs cs p1 p2 p3 p4) (b : Told H D' zs cs q1 q2 q3 q4) (l1 : cs.ws.length ≤ 4) (l2 : cs.ts.length ≤ 4) (l3 : zs.length ≤ 4) : Eq2 H 2 (.ref D) (.ref D') := by
  have n3 : ((nextF zs cs.ls cs.ws cs.hs cs.lt cs.cr).map V.int).length ≤ 1000 := by
    rw [List.length_map]
    unfold nextF
    rw [List.length_zipWith]
    omega
  have n1 : ∀ xs : List (List Nat), xs.length ≤ 4 → ((passF xs cs.hs cs.lt).map vN).length ≤ 1000 := fun xs h => by
    rw [List.length_map]
    have := List.length_filter_le (fun m => !decide (m ∈ cs.hs) && !decide (m = cs.lt)) xs
    unfold passF; omega
  refine .inr ⟨D, D', _, _, rfl, rfl, .inl ⟨a.l, b.l⟩, rfl, by simp only [List.length_cons, List.length_nil]; omega, fun i x y hx hy => ?_⟩
  match i, hx, hy with
  | 0, hx, hy =>
    cases (Option.some.inj hx); cases (Option.some.inj hy)
    exact eq_tup a.a1 b.a1 (n1 _ l1) fl_nm
  | 1, hx, hy =>
    cases (Option.some.inj hx); cases (Option.some.inj hy)
    exact eq_tup a.a2 b.a2 (n1 _ l2) fl_nm
  | 2, hx, hy =>
    cases (Option.some.inj hx); cases (Option.some.inj hy)
    exact eq_tup a.a3 b.a3 n3 fl_int
  | 3, hx, hy =>
    cases (Option.some.inj hx); cases (Option.some.inj hy)
    exact eq_tup a.a4 b.a4 n3 fl_int
  | 4, hx, hy =>
    have e1 := Option.some.inj hx; have e2 := Option.some.inj hy
    exact .inl ⟨e1.symm.trans e2, e1 ▸ fl_opt _⟩
  | 5, hx, hy =>
    have e1 := Option.some.inj hx; have e2 := Option.some.inj hy
    exact .inl ⟨e1.symm.trans e2, e1 ▸ rfl⟩
  | 6, hx, hy =>
    have e1 := Option.some.inj hx; have e2 := Option.some.inj hy
    exact .inl ⟨e1.symm.trans e2, e1 ▸ rfl⟩
  | i + 7, hx, _ => simp at hx
theorem CaseAt.wrote {H : Hp} {t D : Addr} {c : CaseD} {o : HO} {xs : List V} (h : CaseAt H t c) (e : H D = some (.lst xs)) (n : c.lA ≠ D ∧ c.wA ≠ D ∧ c.tA ≠ D ∧ c.hA ≠ D ∧ c.dA ≠ D) : CaseAt (upd H D o) t c := by
  refine ⟨?_, ?_, ?_, ?_, ?_, ?_⟩
  · rw [upd_ne (fun z => by have := h.tup; rw [z, e] at this; cases this)]; exact h.tup
  · rw [upd_ne n.1]; exact h.l
  · rw [upd_ne n.2.1]; exact h.w
  · rw [upd_ne n.2.2.1]; exact h.t
  · rw [upd_ne n.2.2.2.1]; exact h.h
  · rw [upd_ne n.2.2.2.2]; exact h.d
section
variable {P : Program} {w : World} {K : PySem.W.Frag} {mg : Str → Option Value} {base : Heap}
def spLaw (K : PySem.W.Frag) : Sp := fun vs H Q _ => ∃ (a : Addr) (ns : List Int), vs = [.ref a] ∧ SqL K H a (ns.map V.int) ∧ ns.length ≤ 63 ∧ ∀ H', Q (.bl true) H'
theorem ok_law {f : Addr} {fd : FuncData} (F : Fun K "law" "law" s_law f fd) (m_range : mg "range" = none)
    (d_L_cell : Def P w K mg base "_law_cell" 1 ["_law_script", "_law_k"] (spCellA K)) (d_L_pool : Def P w K mg base "_law_pool" 2 ["_law_cell_here", "_law_number"] spPool)
    (d_L_part : Def P w K mg base "_law_part" 1 ["_law_pool_here", "_law_spot", "_law_under", "_law_size"] (spPart K)) (d_L_names : Def P w K mg base "_law_names" 2 ["_law_pool_here", "_law_spot", "_law_number"] (spNames K))
    (d_L_case : Def P w K mg base "_law_case" 3 ["_law_pool_here", "_law_crew"] (spCase K)) (d_L_by_place : Def P w K mg base "_law_by_place" 3 ["_law_crew", "_law_case_here"] (spTold K))
    (d_L_by_name : Def P w K mg base "_law_by_name" 3 ["_law_crew", "_law_case_here"] (spTold K)) (d_L_due : Def P w K mg base "_law_due" 3 ["_law_crew", "_law_case_here"] (spTold K))
    (d_L_same : Def P w K mg base "_law_same" 4 ["_law_got", "_law_wanted"] (spSame 2)) : FnOk P w K mg base CX0 8 f fd ["_law_script"] (spLaw K) := by
  refine F.ok sc_law (fun vs H Q E h => ?_) (fun cdv A outer s H vs Q E hr h => ?_)
  · obtain ⟨a, ns, rfl, _⟩ := h
    rfl
  · obtain ⟨a, ns, rfl, hS, hlen, q⟩ := h
    refine ⟨_, (pss_cons (ps_set (i := 1) sc_law.nd rfl (.inl rfl) (pe_callD d_L_pool (hr.mono (by decide)) (by rfl) (pa_cons (pe_callD d_L_cell (hr.mono (by decide)) (by rfl) (pa_cons (pv 0) (pa_cons pe_int pa_nil))) (pa_cons pe_int pa_nil))))
  (pss_cons (ps_set (i := 2) sc_law.nd rfl (.inr rfl) (pe_callD d_L_names (hr.mono (by decide)) (by rfl) (pa_cons (pv 1) (pa_cons pe_int (pa_cons (pe_op op_add pe_int (pe_callD d_L_part (hr.mono (by decide)) (by rfl) (pa_cons (pv 1) (pa_cons pe_int (pa_cons pe_int (pa_cons pe_int pa_nil)))))) pa_nil)))))
  (pss_cons (ps_setLc (i := 3) (own := [("_law_k", 5)]) (by rfl) sc_law.nd rfl rfl (sw_true rfl rfl rfl (by decide +kernel)) (pi_range1 (by rfl) m_range (pa_cons pe_int pa_nil)) (blkOk_by (N := ["_law_script", "_law_head", "_law_crew", "_law_cases", "_law_case_here", "_law_k"]) (sc := defScope s_law) (by decide +kernel)) (fun _ _ _ _ _ => (pg_name (i := 5) sc_law.nd rfl (.inl rfl))) (fun _ _ _ _ _ => pts_nil) (fun _ _ _ _ _ => (pe_callD d_L_case (hr.mono (by decide)) (by rfl) (pa_cons (pe_callD d_L_pool (hr.mono (by decide)) (by rfl) (pa_cons (pe_callD d_L_cell (hr.mono (by decide)) (by rfl) (pa_cons (pv 0) (pa_cons (pe_op op_add pe_int (pv 5)) pa_nil))) (pa_cons pe_int pa_nil))) (pa_cons (pv 2) pa_nil)))))
  (pss_cons (ps_for PassesOwn.never rfl (pi_list (pv 3)) (pg_name (i := 4) sc_law.nd rfl (.inl rfl))
    (pss_one (ps_if (pt_not (pt_val (pe_callD d_L_same (hr.mono (by decide)) (by rfl) (pa_cons (pe_callD d_L_by_place (hr.mono (by decide)) (by rfl) (pa_cons (pv 2) (pa_cons (pv 4) pa_nil))) (pa_cons (pe_callD d_L_due (hr.mono (by decide)) (by rfl) (pa_cons (pv 2) (pa_cons (pv 4) pa_nil))) pa_nil))))) (pss_one (ps_ret pe_bl)) pss_nil)))
  (pss_cons (ps_for PassesOwn.never rfl (pi_list (pv 3)) (pg_name (i := 4) sc_law.nd rfl (.inl rfl))
    (pss_one (ps_if (pt_not (pt_val (pe_callD d_L_same (hr.mono (by decide)) (by rfl) (pa_cons (pe_callD d_L_by_name (hr.mono (by decide)) (by rfl) (pa_cons (pv 2) (pa_cons (pv 4) pa_nil))) (pa_cons (pe_callD d_L_due (hr.mono (by decide)) (by rfl) (pa_cons (pv 2) (pa_cons (pv 4) pa_nil))) pa_nil))))) (pss_one (ps_ret pe_bl)) pss_nil)))
  (pss_one (ps_ret pe_bl))))))), ?_⟩
    refine ⟨_, rfl, a, ns, 0, rfl, hS, by decide, by decide, by omega, fun c1 => ⟨c1, 6, rfl, by decide, by decide, fun p1 ns1 np1 l1 o1 => ?_⟩⟩
    have s1 : Same H (upd H p1 (.lst (ns1.map V.int))) := same_upd np1
    have u0 := part_lo (ns := ns1) (s := 5) (u := 1) (z := 4) (by decide)
    have u4 := part_hi (ns := ns1) (s := 5) (u := 1) (z := 4) (by decide)
    refine ⟨_, rfl, _, rfl, p1, ns1, 5, 1, 4, rfl, lstAt upd_same, by decide, by omega, by decide, by decide, by decide, _, _, rfl, rfl, ?_⟩
    refine ⟨p1, ns1, 0, _, rfl, lstAt upd_same, by decide, by omega, by omega, by omega, fun c zs nc lz nm nd => ?_⟩
    have s2 := s1.trans (same_upd (o := .lst (zs.map vN)) nc)
    obtain ⟨H2, eH2⟩ : ∃ H2, H2 = upd (upd H p1 (.lst (ns1.map V.int))) c (.lst (zs.map vN)) := ⟨_, rfl⟩
    have ec : H2 c = some (.lst (zs.map vN)) := by rw [eH2]; exact upd_same
    rw [← eH2] at s2 ⊢
    have z1 : 1 ≤ zs.length := by omega
    have z4 : zs.length ≤ 4 := by omega
    have g : Good zs := ⟨nd, fun z hz e => (by have := (nm z hz).1; rw [e] at this; cases this), z4⟩
    -- the cases
    refine ⟨_, rfl, by decide, by decide, fun D nD => ?_⟩
    refine lc_range (fun i H' => Same H2 H' ∧ ∃ es : List (Addr × CaseD), es.length = i ∧ H' D = some (.lst (es.map fun e => V.ref e.1)) ∧ ∀ e ∈ es, CaseAt H' e.1 e.2 ∧ CaseOk zs e.2 ∧ (e.2.lA ≠ D ∧ e.2.wA ≠ D ∧ e.2.tA ≠ D ∧ e.2.hA ≠ D ∧ e.2.dA ≠ D)) ⟨same_upd nD, [], rfl, upd_same, fun e m => nomatch m⟩ (fun i H' hi hq => ?_) (fun H' hq => ?_)
    · obtain ⟨sm, es, le, eD, all⟩ := hq
      have hi3 : i < 3 := hi
      refine ⟨rfl, yesT ?_⟩
      refine ⟨_, rfl, _, rfl, _, _, rfl, rfl, a, ns, _, rfl, (s2.trans sm).seq hS, by omega, by omega, by omega, fun c2 => ⟨c2, 7, rfl, by decide, by decide, fun p2 ns2 np2 l2 o2 => ?_⟩⟩
      have s3 := same_upd (o := .lst (ns2.map V.int)) np2
      refine ⟨_, rfl, p2, c, ns2, zs, rfl, lstAt upd_same, by omega, s3 _ _ (sm _ _ ec), z1, z4, fun t cs H4 s4 ca ck cn => ?_⟩
      have s34 := s3.trans s4
      have eD3 := s3 _ _ eD
      have eD4 := s34 _ _ eD
      have nn : cs.lA ≠ D ∧ cs.wA ≠ D ∧ cs.tA ≠ D ∧ cs.hA ≠ D ∧ cs.dA ≠ D := ⟨(ne_new eD3 cn.l).symm, (ne_new eD3 cn.w).symm, (ne_new eD3 cn.t).symm, (ne_new eD3 cn.h).symm, (ne_new eD3 cn.d).symm⟩
      refine ⟨_, eD4, by rw [List.length_map]; exact small1000 (by omega), same_at (sm.trans s34) nD, es ++ [(t, cs)], by rw [List.length_append, le]; rfl, by rw [upd_same, List.map_append]; rfl, fun e m => ?_⟩
      rcases List.mem_append.mp m with m | m
      · obtain ⟨b1, b2, b3⟩ := all e m
        exact ⟨(b1.same s34).wrote eD4 b3, b2, b3⟩
      · cases List.mem_singleton.mp m
        exact ⟨ca.wrote eD4 nn, ck, nn⟩
    obtain ⟨sm, es, le, eD, all⟩ := hq
    have ec3 := sm _ _ ec
    have turn : ∀ (i : Nat) (x : V), (es.map fun e => V.ref e.1)[i]? = some x → ∃ e, e ∈ es ∧ x = V.ref e.1 := fun i x hx => by
      rw [List.getElem?_map] at hx
      cases e1 : es[i]? with
      | none => rw [e1] at hx; cases hx
      | some e => rw [e1] at hx; exact ⟨e, List.mem_of_getElem? e1, (Option.some.inj hx).symm⟩
    refine ⟨_, rfl, D, rfl, ⟨_, lstAt eD⟩, for_list (K := K) (a := D) (xs := es.map fun e => V.ref e.1) (fun i σ H2 => Same H' H2 ∧ ∃ y : Option V, σ = [some (.ref a), some (.ref p1), some (.ref c), some (.ref D), y, none]) ⟨Same.refl _, _, rfl⟩ (fun i σ H2 _ hp => lstAt (hp.1 _ _ eD)) ?_ ?_⟩
    · rintro i x σ H4 hx ⟨s4, y, rfl⟩
      obtain ⟨⟨t, cs⟩, hm, rfl⟩ := turn i x hx
      obtain ⟨ca, ck, _⟩ := all _ hm
      have wl : cs.ws.length ≤ 4 := Nat.le_trans ck.sub.length_le z4
      refine ⟨_, rfl, _, rfl, c, t, zs, cs, rfl, s4 _ _ ec3, ca.same s4, ck, g, fun D1 a1 a2 a3 a4 H5 s5 tA => ?_⟩
      refine ⟨_, rfl, _, rfl, c, t, zs, cs, rfl, s5 _ _ (s4 _ _ ec3), (ca.same s4).same s5, ck, g, fun D2 b1 b2 b3 b4 H6 s6 tB => ?_⟩
      refine ⟨_, _, rfl, eq_told ⟨s6 _ _ tA.l, s6 _ _ tA.a1, s6 _ _ tA.a2, s6 _ _ tA.a3, s6 _ _ tA.a4⟩ tB wl (by rw [ck.prm.length_eq]; exact wl) z4, _, rfl, iteF ?_⟩
      exact ⟨(s4.trans s5).trans s6, _, rfl⟩
    rintro σ H4 ⟨s4, y, rfl⟩
    have eD4 := s4 _ _ eD
    refine ⟨_, rfl, D, rfl, ⟨_, lstAt eD4⟩, for_list (K := K) (a := D) (xs := es.map fun e => V.ref e.1) (fun i σ H2 => Same H' H2 ∧ ∃ y : Option V, σ = [some (.ref a), some (.ref p1), some (.ref c), some (.ref D), y, none]) ⟨s4, _, rfl⟩ (fun i σ H2 _ hp => lstAt (hp.1 _ _ eD)) ?_ ?_⟩
    · rintro i x σ H4 hx ⟨s4, y, rfl⟩
      obtain ⟨⟨t, cs⟩, hm, rfl⟩ := turn i x hx
      obtain ⟨ca, ck, _⟩ := all _ hm
      have wl : cs.ws.length ≤ 4 := Nat.le_trans ck.sub.length_le z4
      refine ⟨_, rfl, _, rfl, c, t, zs, cs, rfl, s4 _ _ ec3, ca.same s4, ck, g, fun D1 a1 a2 a3 a4 H5 s5 tA => ?_⟩
      refine ⟨_, rfl, _, rfl, c, t, zs, cs, rfl, s5 _ _ (s4 _ _ ec3), (ca.same s4).same s5, ck, g, fun D2 b1 b2 b3 b4 H6 s6 tB => ?_⟩
      refine ⟨_, _, rfl, eq_told ⟨s6 _ _ tA.l, s6 _ _ tA.a1, s6 _ _ tA.a2, s6 _ _ tA.a3, s6 _ _ tA.a4⟩ tB wl (by rw [ck.prm.length_eq]; exact wl) z4, _, rfl, iteF ?_⟩
      exact ⟨(s4.trans s5).trans s6, _, rfl⟩
    rintro σ H5 ⟨s5, y, rfl⟩
    exact q _
end
end TK

namespace TK
open PySem PySem.Spec PyProof.Rows L2

theorem all_mk {l : PySem.W.OpenLaw} {w : World} {K : PySem.W.Frag} {h : Heap} {mg : Str → Option Value} {fa f0 f1 f2 f3 f4 f5 f6 f7 f8 f9 f10 f11 f12 f13 f14 f15 f16 f17 f18 f19 f20 : Addr} (X : K.In h) (G : h.Ns mainGlobals mg) (hfa : mg "law" = some (.ref fa))
    {od0 an0 : Option Addr} {sl0 : Array (Option Value)} {oc0 kV0 dc0 pm0 cd0 ct0 : Value}
    (a0 : PySem.W.nsIn K mainGlobals "passed_over" = some (some (.ref f0))) (l0 : K.lookup f0 = some ⟨oc0, od0, .func (PySem.W.fnOf "passed_over" "passed_over" (defArgs s_passed_over) (defBody s_passed_over) (defScope s_passed_over) .none kV0 dc0 pm0 an0 cd0 ct0), sl0⟩) (c0 : PySem.W.codeIn K cd0 "passed_over" = true) (k0 : PySem.W.keepIn K (.ref f0) = true)
    {od1 an1 : Option Addr} {sl1 : Array (Option Value)} {oc1 kV1 dc1 pm1 cd1 ct1 : Value}
    (a1 : PySem.W.nsIn K mainGlobals "next_passes" = some (some (.ref f1))) (l1 : K.lookup f1 = some ⟨oc1, od1, .func (PySem.W.fnOf "next_passes" "next_passes" (defArgs s_next_passes) (defBody s_next_passes) (defScope s_next_passes) .none kV1 dc1 pm1 an1 cd1 ct1), sl1⟩) (c1 : PySem.W.codeIn K cd1 "next_passes" = true) (k1 : PySem.W.keepIn K (.ref f1) = true)
    {od2 an2 : Option Addr} {sl2 : Array (Option Value)} {oc2 kV2 dc2 pm2 cd2 ct2 : Value}
    (a2 : PySem.W.nsIn K mainGlobals "first_over" = some (some (.ref f2))) (l2 : K.lookup f2 = some ⟨oc2, od2, .func (PySem.W.fnOf "first_over" "first_over" (defArgs s_first_over) (defBody s_first_over) (defScope s_first_over) .none kV2 dc2 pm2 an2 cd2 ct2), sl2⟩) (c2 : PySem.W.codeIn K cd2 "first_over" = true) (k2 : PySem.W.keepIn K (.ref f2) = true)
    {od3 an3 : Option Addr} {sl3 : Array (Option Value)} {oc3 kV3 dc3 pm3 cd3 ct3 : Value}
    (a3 : PySem.W.nsIn K mainGlobals "longest" = some (some (.ref f3))) (l3 : K.lookup f3 = some ⟨oc3, od3, .func (PySem.W.fnOf "longest" "longest" (defArgs s_longest) (defBody s_longest) (defScope s_longest) .none kV3 dc3 pm3 an3 cd3 ct3), sl3⟩) (c3 : PySem.W.codeIn K cd3 "longest" = true) (k3 : PySem.W.keepIn K (.ref f3) = true)
    {od4 an4 : Option Addr} {sl4 : Array (Option Value)} {oc4 kV4 dc4 pm4 cd4 ct4 : Value}
    (a4 : PySem.W.nsIn K mainGlobals "_law_cell" = some (some (.ref f4))) (l4 : K.lookup f4 = some ⟨oc4, od4, .func (PySem.W.fnOf "_law_cell" "_law_cell" (defArgs s_L_cell) (defBody s_L_cell) (defScope s_L_cell) .none kV4 dc4 pm4 an4 cd4 ct4), sl4⟩) (c4 : PySem.W.codeIn K cd4 "_law_cell" = true) (k4 : PySem.W.keepIn K (.ref f4) = true)
    {od5 an5 : Option Addr} {sl5 : Array (Option Value)} {oc5 kV5 dc5 pm5 cd5 ct5 : Value}
    (a5 : PySem.W.nsIn K mainGlobals "_law_mixed" = some (some (.ref f5))) (l5 : K.lookup f5 = some ⟨oc5, od5, .func (PySem.W.fnOf "_law_mixed" "_law_mixed" (defArgs s_L_mixed) (defBody s_L_mixed) (defScope s_L_mixed) .none kV5 dc5 pm5 an5 cd5 ct5), sl5⟩) (c5 : PySem.W.codeIn K cd5 "_law_mixed" = true) (k5 : PySem.W.keepIn K (.ref f5) = true)
    {od6 an6 : Option Addr} {sl6 : Array (Option Value)} {oc6 kV6 dc6 pm6 cd6 ct6 : Value}
    (a6 : PySem.W.nsIn K mainGlobals "_law_pool" = some (some (.ref f6))) (l6 : K.lookup f6 = some ⟨oc6, od6, .func (PySem.W.fnOf "_law_pool" "_law_pool" (defArgs s_L_pool) (defBody s_L_pool) (defScope s_L_pool) .none kV6 dc6 pm6 an6 cd6 ct6), sl6⟩) (c6 : PySem.W.codeIn K cd6 "_law_pool" = true) (k6 : PySem.W.keepIn K (.ref f6) = true)
    {od7 an7 : Option Addr} {sl7 : Array (Option Value)} {oc7 kV7 dc7 pm7 cd7 ct7 : Value}
    (a7 : PySem.W.nsIn K mainGlobals "_law_part" = some (some (.ref f7))) (l7 : K.lookup f7 = some ⟨oc7, od7, .func (PySem.W.fnOf "_law_part" "_law_part" (defArgs s_L_part) (defBody s_L_part) (defScope s_L_part) .none kV7 dc7 pm7 an7 cd7 ct7), sl7⟩) (c7 : PySem.W.codeIn K cd7 "_law_part" = true) (k7 : PySem.W.keepIn K (.ref f7) = true)
    {od8 an8 : Option Addr} {sl8 : Array (Option Value)} {oc8 kV8 dc8 pm8 cd8 ct8 : Value}
    (a8 : PySem.W.nsIn K mainGlobals "_law_names" = some (some (.ref f8))) (l8 : K.lookup f8 = some ⟨oc8, od8, .func (PySem.W.fnOf "_law_names" "_law_names" (defArgs s_L_names) (defBody s_L_names) (defScope s_L_names) .none kV8 dc8 pm8 an8 cd8 ct8), sl8⟩) (c8 : PySem.W.codeIn K cd8 "_law_names" = true) (k8 : PySem.W.keepIn K (.ref f8) = true)
    {od9 an9 : Option Addr} {sl9 : Array (Option Value)} {oc9 kV9 dc9 pm9 cd9 ct9 : Value}
    (a9 : PySem.W.nsIn K mainGlobals "_law_some" = some (some (.ref f9))) (l9 : K.lookup f9 = some ⟨oc9, od9, .func (PySem.W.fnOf "_law_some" "_law_some" (defArgs s_L_some) (defBody s_L_some) (defScope s_L_some) .none kV9 dc9 pm9 an9 cd9 ct9), sl9⟩) (c9 : PySem.W.codeIn K cd9 "_law_some" = true) (k9 : PySem.W.keepIn K (.ref f9) = true)
    {od10 an10 : Option Addr} {sl10 : Array (Option Value)} {oc10 kV10 dc10 pm10 cd10 ct10 : Value}
    (a10 : PySem.W.nsIn K mainGlobals "_law_integer" = some (some (.ref f10))) (l10 : K.lookup f10 = some ⟨oc10, od10, .func (PySem.W.fnOf "_law_integer" "_law_integer" (defArgs s_L_integer) (defBody s_L_integer) (defScope s_L_integer) .none kV10 dc10 pm10 an10 cd10 ct10), sl10⟩) (c10 : PySem.W.codeIn K cd10 "_law_integer" = true) (k10 : PySem.W.keepIn K (.ref f10) = true)
    {od11 an11 : Option Addr} {sl11 : Array (Option Value)} {oc11 kV11 dc11 pm11 cd11 ct11 : Value}
    (a11 : PySem.W.nsIn K mainGlobals "_law_same" = some (some (.ref f11))) (l11 : K.lookup f11 = some ⟨oc11, od11, .func (PySem.W.fnOf "_law_same" "_law_same" (defArgs s_L_same) (defBody s_L_same) (defScope s_L_same) .none kV11 dc11 pm11 an11 cd11 ct11), sl11⟩) (c11 : PySem.W.codeIn K cd11 "_law_same" = true) (k11 : PySem.W.keepIn K (.ref f11) = true)
    {od12 an12 : Option Addr} {sl12 : Array (Option Value)} {oc12 kV12 dc12 pm12 cd12 ct12 : Value}
    (a12 : PySem.W.nsIn K mainGlobals "_law_shuffled" = some (some (.ref f12))) (l12 : K.lookup f12 = some ⟨oc12, od12, .func (PySem.W.fnOf "_law_shuffled" "_law_shuffled" (defArgs s_L_shuffled) (defBody s_L_shuffled) (defScope s_L_shuffled) .none kV12 dc12 pm12 an12 cd12 ct12), sl12⟩) (c12 : PySem.W.codeIn K cd12 "_law_shuffled" = true) (k12 : PySem.W.keepIn K (.ref f12) = true)
    {od13 an13 : Option Addr} {sl13 : Array (Option Value)} {oc13 kV13 dc13 pm13 cd13 ct13 : Value}
    (a13 : PySem.W.nsIn K mainGlobals "_law_case" = some (some (.ref f13))) (l13 : K.lookup f13 = some ⟨oc13, od13, .func (PySem.W.fnOf "_law_case" "_law_case" (defArgs s_L_case) (defBody s_L_case) (defScope s_L_case) .none kV13 dc13 pm13 an13 cd13 ct13), sl13⟩) (c13 : PySem.W.codeIn K cd13 "_law_case" = true) (k13 : PySem.W.keepIn K (.ref f13) = true)
    {od14 an14 : Option Addr} {sl14 : Array (Option Value)} {oc14 kV14 dc14 pm14 cd14 ct14 : Value}
    (a14 : PySem.W.nsIn K mainGlobals "_law_after" = some (some (.ref f14))) (l14 : K.lookup f14 = some ⟨oc14, od14, .func (PySem.W.fnOf "_law_after" "_law_after" (defArgs s_L_after) (defBody s_L_after) (defScope s_L_after) .none kV14 dc14 pm14 an14 cd14 ct14), sl14⟩) (c14 : PySem.W.codeIn K cd14 "_law_after" = true) (k14 : PySem.W.keepIn K (.ref f14) = true)
    {od15 an15 : Option Addr} {sl15 : Array (Option Value)} {oc15 kV15 dc15 pm15 cd15 ct15 : Value}
    (a15 : PySem.W.nsIn K mainGlobals "_law_over" = some (some (.ref f15))) (l15 : K.lookup f15 = some ⟨oc15, od15, .func (PySem.W.fnOf "_law_over" "_law_over" (defArgs s_L_over) (defBody s_L_over) (defScope s_L_over) .none kV15 dc15 pm15 an15 cd15 ct15), sl15⟩) (c15 : PySem.W.codeIn K cd15 "_law_over" = true) (k15 : PySem.W.keepIn K (.ref f15) = true)
    {od16 an16 : Option Addr} {sl16 : Array (Option Value)} {oc16 kV16 dc16 pm16 cd16 ct16 : Value}
    (a16 : PySem.W.nsIn K mainGlobals "_law_longest" = some (some (.ref f16))) (l16 : K.lookup f16 = some ⟨oc16, od16, .func (PySem.W.fnOf "_law_longest" "_law_longest" (defArgs s_L_longest) (defBody s_L_longest) (defScope s_L_longest) .none kV16 dc16 pm16 an16 cd16 ct16), sl16⟩) (c16 : PySem.W.codeIn K cd16 "_law_longest" = true) (k16 : PySem.W.keepIn K (.ref f16) = true)
    {od17 an17 : Option Addr} {sl17 : Array (Option Value)} {oc17 kV17 dc17 pm17 cd17 ct17 : Value}
    (a17 : PySem.W.nsIn K mainGlobals "_law_by_place" = some (some (.ref f17))) (l17 : K.lookup f17 = some ⟨oc17, od17, .func (PySem.W.fnOf "_law_by_place" "_law_by_place" (defArgs s_L_by_place) (defBody s_L_by_place) (defScope s_L_by_place) .none kV17 dc17 pm17 an17 cd17 ct17), sl17⟩) (c17 : PySem.W.codeIn K cd17 "_law_by_place" = true) (k17 : PySem.W.keepIn K (.ref f17) = true)
    {od18 an18 : Option Addr} {sl18 : Array (Option Value)} {oc18 kV18 dc18 pm18 cd18 ct18 : Value}
    (a18 : PySem.W.nsIn K mainGlobals "_law_by_name" = some (some (.ref f18))) (l18 : K.lookup f18 = some ⟨oc18, od18, .func (PySem.W.fnOf "_law_by_name" "_law_by_name" (defArgs s_L_by_name) (defBody s_L_by_name) (defScope s_L_by_name) .none kV18 dc18 pm18 an18 cd18 ct18), sl18⟩) (c18 : PySem.W.codeIn K cd18 "_law_by_name" = true) (k18 : PySem.W.keepIn K (.ref f18) = true)
    {od19 an19 : Option Addr} {sl19 : Array (Option Value)} {oc19 kV19 dc19 pm19 cd19 ct19 : Value}
    (a19 : PySem.W.nsIn K mainGlobals "_law_due" = some (some (.ref f19))) (l19 : K.lookup f19 = some ⟨oc19, od19, .func (PySem.W.fnOf "_law_due" "_law_due" (defArgs s_L_due) (defBody s_L_due) (defScope s_L_due) .none kV19 dc19 pm19 an19 cd19 ct19), sl19⟩) (c19 : PySem.W.codeIn K cd19 "_law_due" = true) (k19 : PySem.W.keepIn K (.ref f19) = true)
    {od20 an20 : Option Addr} {sl20 : Array (Option Value)} {oc20 kV20 dc20 pm20 cd20 ct20 : Value}
    (a20 : PySem.W.nsIn K mainGlobals "law" = some (some (.ref f20))) (l20 : K.lookup f20 = some ⟨oc20, od20, .func (PySem.W.fnOf "law" "law" (defArgs s_law) (defBody s_law) (defScope s_law) .none kV20 dc20 pm20 an20 cd20 ct20), sl20⟩) (c20 : PySem.W.codeIn K cd20 "law" = true) (k20 : PySem.W.keepIn K (.ref f20) = true)
    (z_len : PySem.W.nsIn K mainGlobals "len" = some none)
    (z_tuple : PySem.W.nsIn K mainGlobals "tuple" = some none)
    (z_list : PySem.W.nsIn K mainGlobals "list" = some none)
    (z_range : PySem.W.nsIn K mainGlobals "range" = some none)
    (z_abs : PySem.W.nsIn K mainGlobals "abs" = some none)
    (z_int : PySem.W.nsIn K mainGlobals "int" = some none)
    (z_min : PySem.W.nsIn K mainGlobals "min" = some none)
    (z_max : PySem.W.nsIn K mainGlobals "max" = some none)
    (z_zip : PySem.W.nsIn K mainGlobals "zip" = some none)
    (z_isinstance : PySem.W.nsIn K mainGlobals "isinstance" = some none)
    (z_bool : PySem.W.nsIn K mainGlobals "bool" = some none)
    (z_str : PySem.W.nsIn K mainGlobals "str" = some none) :
    ∃ fd : FuncData, (∀ (s : Shared) (v : Value), BindsTo s fd ⟨[v], []⟩ [("_law_script", v)]) ∧ ∀ base : Heap, K.In base → base.Ns mainGlobals mg → FnOk l.prog w K mg base CX0 8 fa fd ["_law_script"] (spLaw K) := by
  have e := hfa.symm.trans (PySem.W.mg_of X G a20)
  cases e
  have m_len := PySem.W.mg_none_of X G z_len
  have m_tuple := PySem.W.mg_none_of X G z_tuple
  have m_list := PySem.W.mg_none_of X G z_list
  have m_range := PySem.W.mg_none_of X G z_range
  have m_abs := PySem.W.mg_none_of X G z_abs
  have m_int := PySem.W.mg_none_of X G z_int
  have m_min := PySem.W.mg_none_of X G z_min
  have m_max := PySem.W.mg_none_of X G z_max
  have m_zip := PySem.W.mg_none_of X G z_zip
  have m_isinstance := PySem.W.mg_none_of X G z_isinstance
  have m_bool := PySem.W.mg_none_of X G z_bool
  have m_str := PySem.W.mg_none_of X G z_str
  have F0 := fun_mk (st := s_passed_over) l0 c0 k0
  have b0 := F0.binds (ps := ["candidates", "takers", "keeper"]) fun _ _ _ _ _ _ us hl => match us, hl with | [_, _, _], _ => rfl
  have g0 := PySem.W.mg_of X G a0
  have F1 := fun_mk (st := s_next_passes) l1 c1 k1
  have b1 := F1.binds (ps := ["members", "passes", "candidates", "takers", "keeper", "most"]) fun _ _ _ _ _ _ us hl => match us, hl with | [_, _, _, _, _, _], _ => rfl
  have g1 := PySem.W.mg_of X G a1
  have F2 := fun_mk (st := s_first_over) l2 c2 k2
  have b2 := F2.binds (ps := ["members", "passes", "passed", "limit"]) fun _ _ _ _ _ _ us hl => match us, hl with | [_, _, _, _], _ => rfl
  have g2 := PySem.W.mg_of X G a2
  have F3 := fun_mk (st := s_longest) l3 c3 k3
  have b3 := F3.binds (ps := ["members", "passes", "candidates"]) fun _ _ _ _ _ _ us hl => match us, hl with | [_, _, _], _ => rfl
  have g3 := PySem.W.mg_of X G a3
  have F4 := fun_mk (st := s_L_cell) l4 c4 k4
  have b4 := F4.binds (ps := ["_law_script", "_law_k"]) fun _ _ _ _ _ _ us hl => match us, hl with | [_, _], _ => rfl
  have g4 := PySem.W.mg_of X G a4
  have F5 := fun_mk (st := s_L_mixed) l5 c5 k5
  have b5 := F5.binds (ps := ["_law_cell_here", "_law_k"]) fun _ _ _ _ _ _ us hl => match us, hl with | [_, _], _ => rfl
  have g5 := PySem.W.mg_of X G a5
  have F6 := fun_mk (st := s_L_pool) l6 c6 k6
  have b6 := F6.binds (ps := ["_law_cell_here", "_law_number"]) fun _ _ _ _ _ _ us hl => match us, hl with | [_, _], _ => rfl
  have g6 := PySem.W.mg_of X G a6
  have F7 := fun_mk (st := s_L_part) l7 c7 k7
  have b7 := F7.binds (ps := ["_law_pool_here", "_law_spot", "_law_under", "_law_size"]) fun _ _ _ _ _ _ us hl => match us, hl with | [_, _, _, _], _ => rfl
  have g7 := PySem.W.mg_of X G a7
  have F8 := fun_mk (st := s_L_names) l8 c8 k8
  have b8 := F8.binds (ps := ["_law_pool_here", "_law_spot", "_law_number"]) fun _ _ _ _ _ _ us hl => match us, hl with | [_, _, _], _ => rfl
  have g8 := PySem.W.mg_of X G a8
  have F9 := fun_mk (st := s_L_some) l9 c9 k9
  have b9 := F9.binds (ps := ["_law_pool_here", "_law_spot", "_law_names_here"]) fun _ _ _ _ _ _ us hl => match us, hl with | [_, _, _], _ => rfl
  have g9 := PySem.W.mg_of X G a9
  have F10 := fun_mk (st := s_L_integer) l10 c10 k10
  have b10 := F10.binds (ps := ["_law_got"]) fun _ _ _ _ _ _ us hl => match us, hl with | [_], _ => rfl
  have g10 := PySem.W.mg_of X G a10
  have F11 := fun_mk (st := s_L_same) l11 c11 k11
  have b11 := F11.binds (ps := ["_law_got", "_law_wanted"]) fun _ _ _ _ _ _ us hl => match us, hl with | [_, _], _ => rfl
  have g11 := PySem.W.mg_of X G a11
  have F12 := fun_mk (st := s_L_shuffled) l12 c12 k12
  have b12 := F12.binds (ps := ["_law_pool_here", "_law_spot", "_law_row"]) fun _ _ _ _ _ _ us hl => match us, hl with | [_, _, _], _ => rfl
  have g12 := PySem.W.mg_of X G a12
  have F13 := fun_mk (st := s_L_case) l13 c13 k13
  have b13 := F13.binds (ps := ["_law_pool_here", "_law_crew"]) fun _ _ _ _ _ _ us hl => match us, hl with | [_, _], _ => rfl
  have g13 := PySem.W.mg_of X G a13
  have F14 := fun_mk (st := s_L_after) l14 c14 k14
  have b14 := F14.binds (ps := ["_law_crew", "_law_case_here"]) fun _ _ _ _ _ _ us hl => match us, hl with | [_, _], _ => rfl
  have g14 := PySem.W.mg_of X G a14
  have F15 := fun_mk (st := s_L_over) l15 c15 k15
  have b15 := F15.binds (ps := ["_law_crew", "_law_loads", "_law_listed", "_law_cap"]) fun _ _ _ _ _ _ us hl => match us, hl with | [_, _, _, _], _ => rfl
  have g15 := PySem.W.mg_of X G a15
  have F16 := fun_mk (st := s_L_longest) l16 c16 k16
  have b16 := F16.binds (ps := ["_law_crew", "_law_loads", "_law_wishes"]) fun _ _ _ _ _ _ us hl => match us, hl with | [_, _, _], _ => rfl
  have g16 := PySem.W.mg_of X G a16
  have F17 := fun_mk (st := s_L_by_place) l17 c17 k17
  have b17 := F17.binds (ps := ["_law_crew", "_law_case_here"]) fun _ _ _ _ _ _ us hl => match us, hl with | [_, _], _ => rfl
  have g17 := PySem.W.mg_of X G a17
  have F18 := fun_mk (st := s_L_by_name) l18 c18 k18
  have b18 := F18.binds (ps := ["_law_crew", "_law_case_here"]) fun _ _ _ _ _ _ us hl => match us, hl with | [_, _], _ => rfl
  have g18 := PySem.W.mg_of X G a18
  have F19 := fun_mk (st := s_L_due) l19 c19 k19
  have b19 := F19.binds (ps := ["_law_crew", "_law_case_here"]) fun _ _ _ _ _ _ us hl => match us, hl with | [_, _], _ => rfl
  have g19 := PySem.W.mg_of X G a19
  have F20 := fun_mk (st := s_law) l20 c20 k20
  have b20 := F20.binds (ps := ["_law_script"]) fun _ _ _ _ _ _ us hl => match us, hl with | [_], _ => rfl
  have g20 := PySem.W.mg_of X G a20
  refine ⟨PySem.W.fnOf "law" "law" (defArgs s_law) (defBody s_law) (defScope s_law) .none kV20 dc20 pm20 an20 cd20 ct20, fun s v => .of_eq rfl, fun base _ _ => ?_⟩
  have d_passed_over : Def l.prog w K mg base "passed_over" 1 ["candidates", "takers", "keeper"] (spPassed K) := ⟨_, _, ok_passed_over F0 m_tuple, g0, k0, b0⟩
  have d_next_passes : Def l.prog w K mg base "next_passes" 2 ["members", "passes", "candidates", "takers", "keeper", "most"] (spNextP K) := ⟨_, _, ok_next_passes F1 m_tuple m_zip m_min d_passed_over, g1, k1, b1⟩
  have d_first_over : Def l.prog w K mg base "first_over" 1 ["members", "passes", "passed", "limit"] (spFirst K) := ⟨_, _, ok_first_over F2 , g2, k2, b2⟩
  have d_longest : Def l.prog w K mg base "longest" 1 ["members", "passes", "candidates"] (spLongest K) := ⟨_, _, ok_longest F3 m_len m_max, g3, k3, b3⟩
  have d_L_cell : Def l.prog w K mg base "_law_cell" 1 ["_law_script", "_law_k"] (spCellA K) := ⟨_, _, ok_L_cell F4 m_len m_range m_abs, g4, k4, b4⟩
  have d_L_mixed : Def l.prog w K mg base "_law_mixed" 1 ["_law_cell_here", "_law_k"] (spMixed) := ⟨_, _, ok_L_mixed F5 m_abs, g5, k5, b5⟩
  have d_L_pool : Def l.prog w K mg base "_law_pool" 2 ["_law_cell_here", "_law_number"] (spPool) := ⟨_, _, ok_L_pool F6 m_range m_abs d_L_mixed, g6, k6, b6⟩
  have d_L_part : Def l.prog w K mg base "_law_part" 1 ["_law_pool_here", "_law_spot", "_law_under", "_law_size"] (spPart K) := ⟨_, _, ok_L_part F7 m_int, g7, k7, b7⟩
  have d_L_names : Def l.prog w K mg base "_law_names" 2 ["_law_pool_here", "_law_spot", "_law_number"] (spNames K) := ⟨_, _, ok_L_names F8 m_range m_int d_L_part, g8, k8, b8⟩
  have d_L_some : Def l.prog w K mg base "_law_some" 2 ["_law_pool_here", "_law_spot", "_law_names_here"] (spSome K) := ⟨_, _, ok_L_some F9 m_len m_range d_L_part, g9, k9, b9⟩
  have d_L_integer : Def l.prog w K mg base "_law_integer" 1 ["_law_got"] (spInteger) := ⟨_, _, ok_L_integer F10 m_isinstance m_int m_bool, g10, k10, b10⟩
  have d_L_same : Def l.prog w K mg base "_law_same" 4 ["_law_got", "_law_wanted"] (spSame 2) := ⟨_, _, ok_L_same F11 g11 b11 ⟨m_isinstance, m_int, m_bool, m_str, m_tuple, m_list, m_len, m_range⟩ d_L_integer 2 (by decide), g11, k11, b11⟩
  have d_L_shuffled : Def l.prog w K mg base "_law_shuffled" 2 ["_law_pool_here", "_law_spot", "_law_row"] (spShuf K) := ⟨_, _, ok_L_shuffled F12 m_len m_range m_list d_L_part, g12, k12, b12⟩
  have d_L_case : Def l.prog w K mg base "_law_case" 3 ["_law_pool_here", "_law_crew"] (spCase K) := ⟨_, _, ok_L_case F13 m_len m_range m_max d_L_part d_L_some d_L_shuffled, g13, k13, b13⟩
  have d_L_after : Def l.prog w K mg base "_law_after" 1 ["_law_crew", "_law_case_here"] (spAfter40 K) := ⟨_, _, ok_L_after F14 m_len m_range m_tuple, g14, k14, b14⟩
  have d_L_over : Def l.prog w K mg base "_law_over" 1 ["_law_crew", "_law_loads", "_law_listed", "_law_cap"] (spOverL K) := ⟨_, _, ok_L_over F15 , g15, k15, b15⟩
  have d_L_longest : Def l.prog w K mg base "_law_longest" 1 ["_law_crew", "_law_loads", "_law_wishes"] (spLongL K) := ⟨_, _, ok_L_longest F16 , g16, k16, b16⟩
  have d_L_by_place : Def l.prog w K mg base "_law_by_place" 3 ["_law_crew", "_law_case_here"] (spTold K) := ⟨_, _, ok_L_by_place F17 m_tuple d_passed_over d_next_passes d_first_over d_longest, g17, k17, b17⟩
  have G_passed_over := ok_passed_over (P := l.prog) (w := w) (mg := mg) (base := base) F0 m_tuple
  have kb_passed_over_keeper_takers_candidates : KB K _ ["candidates", "takers", "keeper"] 0 ["keeper", "takers", "candidates"] [2, 1, 0] := fun_kbn F0 0 ["keeper", "takers", "candidates"] [2, 1, 0] fun _ _ _ _ _ _ us ws h1 h2 => match us, h1, ws, h2 with | [], _, [_, _, _], _ => rfl
  have kb_passed_over_keeper_takers : KB K _ ["candidates", "takers", "keeper"] 1 ["keeper", "takers"] [0, 2, 1] := fun_kbn F0 1 ["keeper", "takers"] [0, 2, 1] fun _ _ _ _ _ _ us ws h1 h2 => match us, h1, ws, h2 with | [_], _, [_, _], _ => rfl
  have G_next_passes := ok_next_passes (P := l.prog) (w := w) (mg := mg) (base := base) F1 m_tuple m_zip m_min d_passed_over
  have kb_next_passes_most_keeper_takers_candidates_passes_members : KB K _ ["members", "passes", "candidates", "takers", "keeper", "most"] 0 ["most", "keeper", "takers", "candidates", "passes", "members"] [5, 4, 3, 2, 1, 0] := fun_kbn F1 0 ["most", "keeper", "takers", "candidates", "passes", "members"] [5, 4, 3, 2, 1, 0] fun _ _ _ _ _ _ us ws h1 h2 => match us, h1, ws, h2 with | [], _, [_, _, _, _, _, _], _ => rfl
  have kb_next_passes_takers_candidates_most_keeper : KB K _ ["members", "passes", "candidates", "takers", "keeper", "most"] 2 ["takers", "candidates", "most", "keeper"] [0, 1, 3, 2, 5, 4] := fun_kbn F1 2 ["takers", "candidates", "most", "keeper"] [0, 1, 3, 2, 5, 4] fun _ _ _ _ _ _ us ws h1 h2 => match us, h1, ws, h2 with | [_, _], _, [_, _, _, _], _ => rfl
  have G_first_over := ok_first_over (P := l.prog) (w := w) (mg := mg) (base := base) F2 
  have kb_first_over_limit_passed_passes_members : KB K _ ["members", "passes", "passed", "limit"] 0 ["limit", "passed", "passes", "members"] [3, 2, 1, 0] := fun_kbn F2 0 ["limit", "passed", "passes", "members"] [3, 2, 1, 0] fun _ _ _ _ _ _ us ws h1 h2 => match us, h1, ws, h2 with | [], _, [_, _, _, _], _ => rfl
  have G_longest := ok_longest (P := l.prog) (w := w) (mg := mg) (base := base) F3 m_len m_max
  have kb_longest_candidates_passes_members : KB K _ ["members", "passes", "candidates"] 0 ["candidates", "passes", "members"] [2, 1, 0] := fun_kbn F3 0 ["candidates", "passes", "members"] [2, 1, 0] fun _ _ _ _ _ _ us ws h1 h2 => match us, h1, ws, h2 with | [], _, [_, _, _], _ => rfl
  have kb_longest_candidates_passes : KB K _ ["members", "passes", "candidates"] 1 ["candidates", "passes"] [0, 2, 1] := fun_kbn F3 1 ["candidates", "passes"] [0, 2, 1] fun _ _ _ _ _ _ us ws h1 h2 => match us, h1, ws, h2 with | [_], _, [_, _], _ => rfl
  have d_L_by_name : Def l.prog w K mg base "_law_by_name" 3 ["_law_crew", "_law_case_here"] (spTold K) := ⟨_, _, ok_L_by_name F18 m_tuple G_passed_over g0 k0 G_next_passes g1 k1 G_first_over g2 k2 G_longest g3 k3 kb_passed_over_keeper_takers_candidates kb_passed_over_keeper_takers kb_next_passes_most_keeper_takers_candidates_passes_members kb_next_passes_takers_candidates_most_keeper kb_first_over_limit_passed_passes_members kb_longest_candidates_passes_members kb_longest_candidates_passes, g18, k18, b18⟩
  have d_L_due : Def l.prog w K mg base "_law_due" 3 ["_law_crew", "_law_case_here"] (spTold K) := ⟨_, _, ok_L_due F19 m_tuple d_L_after d_L_over d_L_longest, g19, k19, b19⟩
  exact ok_law F20 m_range d_L_cell d_L_pool d_L_part d_L_names d_L_case d_L_by_place d_L_by_name d_L_due d_L_same
end TK

open PySem PySem.W PyProof.Rows
set_option maxRecDepth 100000 in
set_option maxHeartbeats 0 in
theorem PySem.Challenge.cw_turnsandkeys_k40_passes_counted_holds : PySem.Challenge.rw_turnsandkeys_k40_passes_counted.Holds := by
  w_on; o_law; k_head; (case hw => w_witness2)
  k_fill
  refine L2.walk_of (l := PySem.Challenge.rw_turnsandkeys_k40_passes_counted) (n := 63) (k := 8) (x := "_law_script") (CX := fun _ => L2.CX0) (sp := fun w => TK.spLaw _) rfl (by decide) rfl ⟨rfl, by decide, by decide⟩ (fun w h Y => PySem.W.kIn_of Y) ?F (fun _ _ a ns hl _ hS => ⟨a, ns, rfl, hS, hl, fun _ => rfl⟩) (fun _ _ _ _ _ h => h)
  case F =>
    intro w mg fa h KX G hmg
    refine' TK.all_mk KX G hmg ?a0 ?l0 ?c0 ?k0 ?a1 ?l1 ?c1 ?k1 ?a2 ?l2 ?c2 ?k2 ?a3 ?l3 ?c3 ?k3 ?a4 ?l4 ?c4 ?k4 ?a5 ?l5 ?c5 ?k5 ?a6 ?l6 ?c6 ?k6 ?a7 ?l7 ?c7 ?k7 ?a8 ?l8 ?c8 ?k8 ?a9 ?l9 ?c9 ?k9 ?a10 ?l10 ?c10 ?k10 ?a11 ?l11 ?c11 ?k11 ?a12 ?l12 ?c12 ?k12 ?a13 ?l13 ?c13 ?k13 ?a14 ?l14 ?c14 ?k14 ?a15 ?l15 ?c15 ?k15 ?a16 ?l16 ?c16 ?k16 ?a17 ?l17 ?c17 ?k17 ?a18 ?l18 ?c18 ?k18 ?a19 ?l19 ?c19 ?k19 ?a20 ?l20 ?c20 ?k20 ?z_len ?z_tuple ?z_list ?z_range ?z_abs ?z_int ?z_min ?z_max ?z_zip ?z_isinstance ?z_bool ?z_str
    (case a0 => k_is); (case l0 => k_is); (case c0 => k_is); (case k0 => k_is); (case a1 => k_is); (case l1 => k_is); (case c1 => k_is); (case k1 => k_is); (case a2 => k_is); (case l2 => k_is); (case c2 => k_is); (case k2 => k_is); (case a3 => k_is); (case l3 => k_is); (case c3 => k_is); (case k3 => k_is); (case a4 => k_is); (case l4 => k_is); (case c4 => k_is); (case k4 => k_is); (case a5 => k_is); (case l5 => k_is); (case c5 => k_is); (case k5 => k_is); (case a6 => k_is); (case l6 => k_is); (case c6 => k_is); (case k6 => k_is); (case a7 => k_is); (case l7 => k_is); (case c7 => k_is); (case k7 => k_is); (case a8 => k_is); (case l8 => k_is); (case c8 => k_is); (case k8 => k_is); (case a9 => k_is); (case l9 => k_is); (case c9 => k_is); (case k9 => k_is); (case a10 => k_is); (case l10 => k_is); (case c10 => k_is); (case k10 => k_is); (case a11 => k_is); (case l11 => k_is); (case c11 => k_is); (case k11 => k_is); (case a12 => k_is); (case l12 => k_is); (case c12 => k_is); (case k12 => k_is); (case a13 => k_is); (case l13 => k_is); (case c13 => k_is); (case k13 => k_is); (case a14 => k_is); (case l14 => k_is); (case c14 => k_is); (case k14 => k_is); (case a15 => k_is); (case l15 => k_is); (case c15 => k_is); (case k15 => k_is); (case a16 => k_is); (case l16 => k_is); (case c16 => k_is); (case k16 => k_is); (case a17 => k_is); (case l17 => k_is); (case c17 => k_is); (case k17 => k_is); (case a18 => k_is); (case l18 => k_is); (case c18 => k_is); (case k18 => k_is); (case a19 => k_is); (case l19 => k_is); (case c19 => k_is); (case k19 => k_is); (case a20 => k_is); (case l20 => k_is); (case c20 => k_is); (case k20 => k_is); (case z_len => k_is); (case z_tuple => k_is); (case z_list => k_is); (case z_range => k_is); (case z_abs => k_is); (case z_int => k_is); (case z_min => k_is); (case z_max => k_is); (case z_zip => k_is); (case z_isinstance => k_is); (case z_bool => k_is); (case z_str => k_is)
