import PyProof.Rows.All
import Wide.All
import OpenK.AllK
import Wide.FinOn
import HandS.ForMost
import HandS.Style
import HandS.IsInst
import HandS.Defaults
import HandS.MakeKwOnly
import HandS.SortKw
import HandS.Walk
import KE.KSortKeySt
import KE.GoesEnum
import KE.DatumOrd
import KE.KRevSl
import HandS.Star
import KE.KTupSum
import PySem.Challenge.RW_turnsandkeys_k27_ladder_prices_all
set_option Elab.async false
set_option linter.all false
set_option maxRecDepth 100000
set_option maxHeartbeats 4000000
namespace TK
open PySem PySem.Spec PyProof.Rows L2
/-! ### a def that keeps its promise, as callers see it -/
structure Def (P : Program) (w : World) (K : PySem.W.Frag) (mg : Str → Option Value) (base : Heap) (x : Str) (k : Nat) (ps : List Str) (sp : Sp) : Prop where
  ex : ∃ (f : Addr) (fd : FuncData), FnOk P w K mg base CX0 k f fd ps sp ∧ mg x = some (.ref f) ∧ PySem.W.keepIn K (.ref f) = true ∧ Binds K fd ps []
section
variable {X : Cx} {x : Str} {k : Nat} {ps : List Str} {sp : Sp} {e : Expr} {es : List Expr} {t : TA} {p pos : Pos}
theorem pe_callD (D : Def X.prog X.w X.K X.mg X.base x k ps sp) (hr : Room k X.A) (hg : Gl X x) (ha : PA X (e :: es) t) (hdb : (x == ("__debug__" : Str)) = false := by decide)
    (he : starEach (e :: es) X.env = (false, eval e X.env) :: starEach es X.env := by rfl) (hpl : (backTo pos (starEach es X.env)).any (·.1) = false := by rfl) :
    PE X (.Call (.Name x p) (e :: es) [] pos) (tCall sp [] E0 t) := by
  obtain ⟨f, fd, F, g, kp, b⟩ := D.ex
  exact pe_call F hr hg g kp b .nil pass0 ha hdb he hpl
end
section
variable {X : Cx}
/-- x is True, x is False: x of any kind -/
def rIsT : R2 := fun x y H Q => ∃ b : Bool, y = .bl b ∧ Q (.bl (decide (x = .bl b))) H
theorem op_isT : OpR X (compareOp .Is) rIsT := by
  intro pins s σ H x y v u Q I rx ry h
  obtain ⟨b, rfl, q⟩ := h
  cases (show u = Value.bool b from ry)
  cases x with
  | bl a =>
    cases (show v = Value.bool a from rx)
    by_cases e : a = b
    · subst e
      exact wpAny_is_self rfl ⟨.bl true, H, I, rfl, by simpa using q⟩
    · exact wpAny_is_other rfl (fun z => e (Value.bool.inj z)) ⟨.bl false, H, I, rfl, by simpa [e] using q⟩
  | non => cases (show v = Value.none from rx); exact wpAny_is_other rfl (fun z => nomatch z) ⟨.bl false, H, I, rfl, by simpa using q⟩
  | int i => obtain ⟨t, rfl⟩ := (show ∃ t, v = Value.int i t from rx); exact wpAny_is_other rfl (fun z => nomatch z) ⟨.bl false, H, I, rfl, by simpa using q⟩
  | str i => obtain ⟨t, rfl⟩ := (show ∃ t, v = Value.str i t from rx); exact wpAny_is_other rfl (fun z => nomatch z) ⟨.bl false, H, I, rfl, by simpa using q⟩
  | byt i => obtain ⟨t, rfl⟩ := (show ∃ t, v = Value.bytes i t from rx); exact wpAny_is_other rfl (fun z => nomatch z) ⟨.bl false, H, I, rfl, by simpa using q⟩
  | flt i => obtain ⟨t, rfl⟩ := (show ∃ t, v = Value.float i t from rx); exact wpAny_is_other rfl (fun z => nomatch z) ⟨.bl false, H, I, rfl, by simpa using q⟩
  | ref a => cases (show v = Value.ref a from rx); exact wpAny_is_other rfl (fun z => nomatch z) ⟨.bl false, H, I, rfl, by simpa using q⟩
  | ty n => cases (show v = Value.type n from rx); exact wpAny_is_other rfl (fun z => nomatch z) ⟨.bl false, H, I, rfl, by simpa using q⟩
end
/-! ### rules within a comprehension: K by name -/
section
variable {X : Cx} {K : PySem.W.Frag}
theorem ix_listK (h : X.K = K) : IxR X (rIxL K) := h ▸ ix_list
theorem ix_tupK (h : X.K = K) : IxR X (rIxT K) := h ▸ ix_tup
theorem pg_tupK (h : X.K = K) {elts : List Expr} {kk : Nat} {pos : Pos} {n : Nat} {t : TGs} (hc : X.calm = true) (hp : PGs X elts t) (hn : (assignEach elts X.env).length = n := by rfl) (hst : (assignEach elts X.env).findIdx? (·.1) = none := by rfl) : PG X (.Tuple elts kk pos) (gTup K n t) := h ▸ pg_tup hc hp hn hst
theorem op_in_seqK (h : X.K = K) : OpR X (compareOp .In) (rIn K false) := h ▸ op_in_seq
theorem op_notIn_seqK (h : X.K = K) : OpR X (compareOp .NotIn) (rIn K true) := h ▸ op_notIn_seq
theorem call_len_seqK (h : X.K = K) : CallR X (.builtin "len") (fun xs H Q => ∃ p ys, xs = [.ref p] ∧ (SqL K H p ys ∨ SqT K H p ys) ∧ Q (.int ys.length) H) := h ▸ call_len_seq
end
/-! ### heaps -/
theorem same_upd {H : Hp} {p : Addr} {o : HO} (h : H p = none) : Same H (upd H p o) := fun b x e => by
  rw [upd_ne (ne_of_none e h)]
  exact e
theorem same_at {H H' : Hp} {p : Addr} {o : HO} (s : Same H H') (h : H p = none) : Same H (upd H' p o) := fun b x e => by
  rw [upd_ne (ne_of_none e h)]
  exact s b x e
theorem same_tup {K : PySem.W.Frag} {H H' : Hp} {a : Addr} {xs : List V} (e : Same H H') (h : SqT K H a xs) : SqT K H' a xs := by
  rcases h with (h | ⟨o, h⟩) | h
  · exact .inl (.inl (e _ _ h))
  · exact .inl (.inr ⟨o, e _ _ h⟩)
  · exact .inr h
theorem lstAt {K : PySem.W.Frag} {H : Hp} {a : Addr} {xs : List V} (h : H a = some (.lst xs)) : SqL K H a xs := .inl (.inl h)
theorem tupAt {K : PySem.W.Frag} {H : Hp} {a : Addr} {xs : List V} (h : H a = some (.tup xs)) : SqT K H a xs := .inl (.inl h)
theorem atI_in {α : Type} {xs : List α} {i : Int} {v : α} (h0 : 0 ≤ i) (h : xs[i.toNat]? = some v) : atI xs i = some v := by
  obtain ⟨n, rfl⟩ : ∃ n : Nat, i = (n : Int) := ⟨i.toNat, by omega⟩
  exact atI_nat h
theorem yesT {σ : L2.St} {H : Hp} {A B : Hp → Prop} (h : A H) : tYes σ H (fun b H3 => if b = true then A H3 else B H3) := by
  show if true = true then A H else B H
  rw [if_pos rfl]
  exact h
end TK

namespace TK
open PySem PySem.Spec PyProof.Rows L2
section
variable {X : Cx} {pins : List (Addr × Obj)} {σ : L2.St} {H : Hp} {s : Shared}
/-- an untracked object of ours comes to be tracked -/
theorem adopt {a : Addr} {o : HO} (I : Inv X pins σ H s) (f : FpOk X pins H a) (new : ObjOk X.prog X.w (upd H a o) s.heap a o) : Inv X pins σ (upd H a o) s := by
  obtain ⟨q0, q1, q2, q3, q4, q5⟩ := f
  have ne : ∀ b u, H b = some u → b ≠ a := fun b u e z => by rw [z, q0] at e; cases e
  refine I.step (h' := s.heap) (g' := s.gens) (t' := s.toks) (d' := s.drawn) (ch := [a]) (fun b hb => ?_) (fun b o _ _ _ e _ => e) (fun b o _ _ _ e _ => ⟨o.slots, e⟩) (fun b o hb _ n => ?_) (fun b o _ e => ⟨o, e⟩) (fun b xs e => ?_) (fun b o u e => ?_) (fun b ps e => ⟨#[], ?_⟩) (fun m hm => hm) (fun b u e => ?_) I.bare
  · have e : b = a := by simpa using hb
    subst e
    exact ⟨q3, q1, q4, q5⟩
  · rw [upd_ne (fun z => hb (by simp [z]))]; exact n
  · rw [upd_ne (ne b _ e)]; exact e
  · rw [upd_ne (ne b _ e)]; exact e
  · rw [upd_ne (ne b _ e), e]; simp
  · by_cases hb : b = a
    · subst hb
      rw [upd_same] at e
      cases e
      exact new
    · rw [upd_ne hb] at e
      exact (I.hok b u e).stay (fun c v _ q => q) (fun c q => by rw [upd_ne (ne c _ q)]; exact q) fun c xs q => by rw [upd_ne (ne c _ q)]; exact q
/-- a def called from within a built-in's method -/
theorem run_fn2 {k : Nat} {f : Addr} {fd : FuncData} {ps : List Str} {sp : Sp} {Q : VK} {us : List Value} {itm : List V} {E' : Value → Shared → Prop} (F : FnOk X.prog X.w X.K X.mg X.base CX0 k f fd ps sp) (hr : Room (k + 2) X.A) (hb : Binds X.K fd ps [])
    (I : Inv X pins σ H s) (r : Vals itm us) (h : sp itm H Q E0) : wpAny (model X.prog X.w) X.A.in1.in1 (call (.ref f) us) (EP X pins σ Q) E' s := by
  have hl : (us ++ []).length = ps.length := by rw [List.append_nil, ← r.length]; exact F.len _ _ _ _ h
  have hbb := hb s us I.kIn hl
  rw [List.append_nil] at hbb
  refine wpAny_call (codeAny_mono (F.run X.A.in1.in1 X.stack s H ⟨us, []⟩ us itm Q E0 hr.in1.in1 I.env0.in1.in1 hbb r h) fun r s' hq => ?_)
  cases r with
  | error e => exact False.elim hq
  | ok fl =>
    cases fl with
    | ret u => exact I.after hq
    | next => exact False.elim hq
    | brk => exact False.elim hq
    | cont => exact False.elim hq
end
section
variable {X : Cx} {pins : List (Addr × Obj)} {σ : L2.St} {H : Hp} {s : Shared} {A : Around} {E : Value → Shared → Prop} {a kS : Addr} {itm : List Value} {kl : List Int} {kar : Array Value} {e ep1 : Nat} {P : PySem.Fin → Shared → Prop}
theorem sb_tail {st : SortSt} (I : Inv X pins σ H s) (gk : s.heap.get? kS = some (seqObj "list" kar e)) (ga : s.heap.get? a = some (seqObj "list" #[] ep1)) (fa : FpOk X pins H a) (fk : FpOk X pins H kS) (hka : kS ≠ a)
    (hki : IntsAre kar.toList kl) (hle : kl.length = itm.length) (hsm : itm.length ≤ sizeLine) (hp : (arrOf st).Perm (kar.zip itm.toArray)) (hs : SortedTo (arrOf st) (arrOf st).size) (hfl : failedOf st = none)
    (hst : Stable intKind (arrOf st) (kar.zip itm.toArray))
    (h : ∀ s' out c, Inv X pins σ H s' → s'.heap.get? a = some (seqObj "list" out c) → KskOutSt false kl itm out.toList → P (.done (.ret .none)) s') :
    wpAny (model X.prog X.w) A (ksk_tail a false ep1 (.ref kS) st) P E s := by
  have hsm2 := hsm
  rw [sizeLine_eq] at hsm2
  have zk : kar.size = itm.length := by
    have h1 := hki.length
    rw [Array.length_toList] at h1
    omega
  have za : (arrOf st).size = itm.length := by rw [hp.size_eq, Array.size_zip, zk, List.size_toArray, Nat.min_self]
  have zo : ((arrOf st).map (·.2)).size = itm.length := by rw [Array.size_map]; exact za
  have s1 := Heap.SameBut.update s.heap kS (Obj.mapSeq fun _ => (#[] : Array Value))
  have ga1 : (s.heap.update kS (Obj.mapSeq fun _ => (#[] : Array Value))).get? a = some (seqObj "list" #[] ep1) := (s1.2 a hka.symm).trans ga
  have s2 := Heap.SameBut.update (s.heap.update kS (Obj.mapSeq fun _ => (#[] : Array Value))) a (Obj.mapSeq fun _ => (arrOf st).map (·.2))
  obtain ⟨cn, gcn⟩ : ∃ cn, ((s.heap.update kS (Obj.mapSeq fun _ => (#[] : Array Value))).update a (Obj.mapSeq fun _ => (arrOf st).map (·.2))).get? a = some (seqObj "list" ((arrOf st).map (·.2)) cn) :=
    ⟨_, get?_update_seq ga1 fun _ => (arrOf st).map (·.2)⟩
  obtain ⟨k0, k1, k2, k3, k4, k5⟩ := fk
  obtain ⟨a0, a1, a2, a3, a4, a5⟩ := fa
  have I1 : Inv X pins σ H { s with heap := s.heap.update kS (Obj.mapSeq fun _ => (#[] : Array Value)) } := I.turned (t' := s.toks) (fun b o hb q => (s1.2 b hb).trans q) k0 k1 k3 k4 k5
  unfold ksk_tail
  try dsimp only
  refine wpAny_bind (listUpdate_at gk rfl ?_ (by rw [zk, sizeLine_eq]; omega) (Nat.zero_le _))
  refine wpAny_bind (wpAny_letGo ?_)
  refine wpAny_bind (seqEpoch_at ga1 rfl ?_)
  refine wpAny_bind (listUpdate_at ga1 rfl ?_ (Nat.zero_le _) (Nat.le_trans (Nat.le_of_eq zo) (by rw [sizeLine_eq]; omega)))
  rw [hfl]
  simp only [bne_self_eq_false, Bool.false_eq_true, if_false]
  refine wpAny_pure (h _ _ cn (I1.turned (t' := s.toks) (fun b o hb q => (s2.2 b hb).trans q) a0 a1 a3 a4 a5) gcn ?_)
  exact ksk_outSt (b := false) hki hp hs (by simpa using hst)
theorem sb_end (I : Inv X pins σ H s) (gk : s.heap.get? kS = some (seqObj "list" kar e)) (ga : s.heap.get? a = some (seqObj "list" #[] ep1)) (fa : FpOk X pins H a) (fk : FpOk X pins H kS) (hka : kS ≠ a)
    (hki : IntsAre kar.toList kl) (hle : kl.length = itm.length) (hsm : itm.length ≤ sizeLine)
    (h : ∀ s' out c, Inv X pins σ H s' → s'.heap.get? a = some (seqObj "list" out c) → KskOutSt false kl itm out.toList → P (.done (.ret .none)) s') :
    wpAny (model X.prog X.w) A (ksk_end a false itm.toArray ep1 (.ref kS) kar) P E s := by
  have hsm2 := hsm
  rw [sizeLine_eq] at hsm2
  have zk : kar.size = itm.length := by
    have h1 := hki.length
    rw [Array.length_toList] at h1
    omega
  have zz : (kar.zip itm.toArray).size = itm.length := by rw [Array.size_zip, zk, List.size_toArray, Nat.min_self]
  unfold ksk_end
  try dsimp only
  simp only [Bool.false_eq_true, if_false]
  by_cases few : itm.toArray.size < 2
  · rw [if_pos few, if_pos few]
    refine wpAny_bind (wpAny_pure ?_)
    rw [StateT.run_pure]
    refine wpAny_bind (wpAny_pure ?_)
    try dsimp only
    refine sb_tail (st := SortSt.mk' general' (kar.zip itm.toArray) #[] 7 none) I gk ga fa fk hka hki hle hsm (Array.Perm.refl _) ?_ rfl (Stable.refl _) h
    intro i j hij jlt
    have hj2 : j < (kar.zip itm.toArray).size := jlt
    rw [zz] at hj2
    rw [List.size_toArray] at few
    have : i = j := by omega
    subst this
    exact Int.le_refl _
  · rw [if_neg few, if_neg few]
    rw [List.size_toArray] at few
    rw [ksk_kind hki (by rw [zk]; omega)]
    refine wpAny_bind (wpAny_pure ?_)
    refine wpAny_bind (wpAny_mono (wpS_sortRunsSt (κ := intKind) (a₀ := kar.zip itm.toArray)
      (st := SortSt.mk' oneType' (kar.zip itm.toArray) #[] 7 none)
      (Q := fun _ sq => (arrOf sq).Perm (kar.zip itm.toArray) ∧ failedOf sq = none ∧ SortedTo (arrOf sq) (arrOf sq).size ∧
        Stable intKind (arrOf sq) (kar.zip itm.toArray))
      intKind_oneLt (ksk_keysOfInt (ksk_intKeys hki)) ⟨Array.Perm.refl _, rfl, rfl⟩ rfl (Stable.refl _) (by rw [zz]; omega)
      fun sq a1 a2 a3 a4 => ⟨a1, a2, by rw [a1.size_eq]; exact sortedTo_of_int a3, a4⟩) ?_ fun _ _ e => e)
    rintro ⟨⟨⟩, sq⟩ s' ⟨rfl, hp, hf, hs, hst⟩
    try dsimp only
    exact sb_tail I gk ga fa fk hka hki hle hsm hp hs hf hst h
theorem sb_rest {f : Value} (I : Inv X pins σ H s) (gk : s.heap.get? kS = some (seqObj "list" #[] 0)) (ga : s.heap.get? a = some (seqObj "list" #[] ep1)) (fa : FpOk X pins H a) (fk : FpOk X pins H kS) (hka : kS ≠ a)
    (hle : kl.length = itm.length) (hsm : itm.length ≤ sizeLine)
    (turn : ∀ (i : Nat) (v : Value) (k : Int) (pins' : List (Addr × Obj)) (s' : Shared), itm[i]? = some v → kl[i]? = some k → Inv X pins' σ H s' →
      wpAny (model X.prog X.w) A (call f [v]) (EP X pins' σ fun x H' => x = .int k ∧ H' = H) (fun _ _ => False) s')
    (h : ∀ s' out c, Inv X pins σ H s' → s'.heap.get? a = some (seqObj "list" out c) → KskOutSt false kl itm out.toList → P (.done (.ret .none)) s') :
    wpAny (model X.prog X.w) A (ksk_rest a f false itm.toArray ep1 (.ref kS)) P E s := by
  have hsm2 := hsm
  rw [sizeLine_eq] at hsm2
  unfold ksk_rest
  refine wpAny_bind (wpAny_rule ?_)
  first
    | rw [List.forIn_toArray]
    | (rw [← Array.forIn_toList]; simp only [List.toList_toArray])
    | rw [← Array.forIn_toList]
  refine wpAny_bind (ksk_fold (fun i s' => ∃ gar e, Inv X pins σ H s' ∧ s'.heap.get? kS = some (seqObj "list" gar e) ∧ s'.heap.get? a = some (seqObj "list" #[] ep1) ∧ IntsAre gar.toList (kl.take i)) itm 0 s
    ⟨#[], 0, I, gk, ga, by simpa using IntsAre.nil⟩ ?step ?done)
  case step =>
    rintro j x s' hx ⟨gar, e, I', nk', na', hki⟩
    simp only [Nat.zero_add] at hki ⊢
    have jlt : j < itm.length := (List.getElem?_eq_some_iff.mp hx).1
    obtain ⟨k, ekj⟩ : ∃ k, kl[j]? = some k := ⟨_, List.getElem?_eq_getElem (by omega)⟩
    have gsm : gar.size ≤ itm.length := by
      have h1 := hki.length
      rw [Array.length_toList, List.length_take] at h1
      omega
    have I2 : Inv X (pins ++ [(kS, seqObj "list" gar e), (a, seqObj "list" #[] ep1)]) σ H s' := I'.pins_of fun p hp => by
      rcases List.mem_append.mp hp with hp | hp
      · exact I'.pin p (List.mem_append_right _ hp)
      · rcases List.mem_cons.mp hp with rfl | hp
        · exact ⟨nk', fk.1, fk.2.1, fk.2.2.1, fun v z => nomatch z⟩
        · rw [List.mem_singleton.mp hp]
          exact ⟨na', fa.1, fa.2.1, fa.2.2.1, fun v z => nomatch z⟩
    refine wpAny_bind (wpAny_attempt (wpAny_mono (turn j x k _ s' hx ekj I2) (fun v s'' he => ?_) fun _ _ hF => hF.elim))
    obtain ⟨y, H', I3, ry, rfl, rfl⟩ := he
    obtain ⟨t2, rfl⟩ : ∃ t, v = Value.int k t := ry
    try dsimp only
    have nk3 := (I3.pin (kS, seqObj "list" gar e) (List.mem_append_right _ (List.mem_append_right _ (.head _)))).1
    have na3 := (I3.pin (a, seqObj "list" #[] ep1) (List.mem_append_right _ (List.mem_append_right _ (.tail _ (.head _))))).1
    have s1 := Heap.SameBut.update s''.heap kS (Obj.mapSeq (·.push (.int k t2)))
    obtain ⟨cn, gcn⟩ : ∃ cn, (s''.heap.update kS (Obj.mapSeq (·.push (.int k t2)))).get? kS = some (seqObj "list" (gar.push (.int k t2)) cn) := ⟨_, get?_update_seq nk3 (·.push (.int k t2))⟩
    have et : kl.take (j + 1) = kl.take j ++ [k] := by rw [List.take_add_one, ekj]; simp
    have epu : (gar.push (Value.int k t2)).toList = gar.toList ++ [Value.int k t2] := by simp
    obtain ⟨k0, k1, _, k3, k4, k5⟩ := fk
    refine wpAny_bind (listUpdate_at nk3 rfl ?_ (by rw [sizeLine_eq]; omega) (Nat.le_trans (Nat.le_of_eq (Array.size_push ..)) (by rw [sizeLine_eq]; omega)))
    refine wpAny_pure ⟨rfl, gar.push (.int k t2), cn, I3.unpinned.turned (t' := s''.toks) (fun b o hb q => (s1.2 b hb).trans q) k0 k1 k3 k4 k5, gcn, (s1.2 a hka.symm).trans na3, by rw [epu, et]; exact ksk_snoc hki⟩
  case done =>
    rintro s' ⟨gar, e, I', nk', na', hki⟩
    have hkf : IntsAre gar.toList kl := by
      have eall : kl.take (0 + itm.length) = kl := List.take_of_length_le (by omega)
      rw [eall] at hki
      exact hki
    try dsimp only
    refine wpAny_bind (listItems_at nk' rfl ?_)
    exact sb_end I' nk' na' fa fk hka hkf hle hsm h
end
end TK

namespace TK
open PySem PySem.Spec PyProof.Rows L2
section
variable {prog : Program} {w : World} {A : Around} {E : Value → Shared → Prop} {s : Shared}
/-- the items of a tuple, drawn together -/
theorem collect_tup {t : Addr} {vs : List Value} {Q : List Value → Shared → Prop} (ht : IsTup s.heap t vs.toArray) (hsm : vs.length ≤ sizeLine)
    (h : Q vs { s with heap := (s.heap.push (seqObj "list" #[] 0)).update s.heap.objs.size (Obj.mapSeq (· ++ vs.toArray)) }) : wpAny (model prog w) A (collect (.ref t)) Q E s := by
  obtain ⟨ob, gob0, hcls, n, hdt⟩ := ht
  unfold collect
  refine wpAny_bind (wpAny_runValue (codeAny_builtin entry_proto_collect' ?_))
  show wpAny _ _ (do again (.builtin "list.__iadd__" ⟨[← newList [], .ref t], []⟩)) _ _ s
  refine wpAny_bind (wpAny_newList (wpAny_pure ⟨Code.quiet_builtin _ (by decide +kernel), codeAny_builtin entry_list_iadd' ?_⟩))
  show wpAny _ _ (Builtin.List.listExtendWith (.ref s.heap.objs.size) (.ref t) (.ref s.heap.objs.size)) _ _ { s with heap := s.heap.push (seqObj "list" #[] 0) }
  have gob : (s.heap.push (seqObj "list" #[] 0)).get? t = some ob := Heap.get?_push_of_some _ gob0
  have gnew : (s.heap.push (seqObj "list" #[] 0)).get? s.heap.objs.size = some (seqObj "list" #[] 0) := Heap.get?_push_size _ rfl
  unfold Builtin.List.listExtendWith
  refine wpAny_bind (wpAny_typeOf (T := "tuple") ⟨ob, gob, hcls⟩ ?_)
  rw [if_pos (by simp only [show (Value.type "tuple" == Value.type "tuple") = true from rfl, Bool.or_true])]
  refine wpAny_bind (listItems_at gob hdt (wpAny_bind (listItems_at gnew rfl ?_)))
  rw [if_neg (by simp)]
  refine wpAny_bind (listUpdate_at gnew rfl (wpAny_pure ?_) (Nat.zero_le _) (by simp only [Array.size_append, List.size_toArray, List.length_nil]; omega))
  show wpAny (model prog w) A (do
      let o ← load s.heap.objs.size
      match o.data with
      | .seq xs _ => pure xs.toList
      | _ => unsupported "internal:collect") Q E _
  refine wpAny_bind (wpAny_load (get?_update_seq gnew _) ?_)
  show wpAny _ _ (pure ((#[] : Array Value) ++ vs.toArray).toList) Q E _
  rw [show ((#[] : Array Value) ++ vs.toArray).toList = vs by simp]
  exact wpAny_pure h
end
section
variable {X : Cx} {pins : List (Addr × Obj)} {σ : L2.St} {H : Hp} {s : Shared} {A : Around} {E : Value → Shared → Prop} {a : Addr} {vs : List Value} {kz : List Int} {P : PySem.Fin → Shared → Prop}
theorem sb_sort {f : Value} {n : Nat} (I : Inv X pins σ H s) (ho : s.heap.get? a = some (seqObj "list" vs.toArray n)) (fa : FpOk X pins H a) (hlen : kz.length = vs.length) (hZ : vs.length ≤ sizeLine)
    (turn : ∀ (i : Nat) (v : Value) (k : Int) (pins' : List (Addr × Obj)) (s' : Shared), vs[i]? = some v → kz[i]? = some k → Inv X pins' σ H s' →
      wpAny (model X.prog X.w) A (call f [v]) (EP X pins' σ fun x H' => x = .int k ∧ H' = H) (fun _ _ => False) s')
    (h : ∀ s' out c, Inv X pins σ H s' → s'.heap.get? a = some (seqObj "list" out c) → KskOutSt false kz vs out.toList → P (.done (.ret .none)) s') :
    wpAny (model X.prog X.w) A (ksk_tree a f false) P E s := by
  have hZ2 := hZ
  rw [sizeLine_eq] at hZ2
  have hal : a < s.heap.objs.size := Heap.lt_size ho
  generalize hh1 : s.heap.update a (Obj.mapSeq fun _ => (#[] : Array Value)) = h1
  have sb : Heap.SameBut a s.heap h1 := by rw [← hh1]; exact Heap.SameBut.update s.heap a _
  obtain ⟨e1, ho1⟩ : ∃ e1, h1.get? a = some (seqObj "list" #[] e1) := by rw [← hh1]; exact ⟨_, get?_update_seq ho fun _ => #[]⟩
  have hz1 : h1.objs.size = s.heap.objs.size := by rw [← hh1, Heap.size_update]
  obtain ⟨a0, a1, a2, a3, a4, a5⟩ := id fa
  have I1 : Inv X pins σ H { s with heap := h1 } := I.turned (t' := s.toks) (fun b o hb q => (sb.2 b hb).trans q) a0 a1 a3 a4 a5
  have I2 : Inv X pins σ H { s with heap := (h1.push (seqObj "tuple" vs.toArray 0)).push (seqObj "list" #[] 0) } := I1.kept (t' := s.toks) fun b o q => Heap.get?_push_of_some _ (Heap.get?_push_of_some _ q)
  have hkz : (h1.push (seqObj "tuple" vs.toArray 0)).objs.size = s.heap.objs.size + 1 := by rw [size_push', hz1]
  unfold ksk_tree
  refine wpAny_bind (listItems_at ho rfl (wpAny_bind (listUpdate_at ho rfl ?_ (by rw [List.size_toArray, sizeLine_eq]; omega) (Nat.zero_le _))))
  rw [hh1]
  refine wpAny_bind (seqEpoch_at ho1 rfl (wpAny_bind (wpAny_newTuple (wpAny_bind (wpAny_newList (wpAny_holding ?_) (Nat.zero_le _))) (by show vs.length ≤ _; rw [sizeLine_eq]; omega))))
  refine sb_rest (s := { s with heap := (h1.push (seqObj "tuple" vs.toArray 0)).push (seqObj "list" #[] 0) }) (kS := (h1.push (seqObj "tuple" vs.toArray 0)).objs.size) I2 (Heap.get?_push_size _ rfl) (Heap.get?_push_of_some _ (Heap.get?_push_of_some _ ho1)) fa ?_ (Nat.ne_of_gt (by rw [hkz]; exact Nat.lt_succ_of_lt hal)) hlen hZ turn h
  exact I1.fpOk (by show h1.objs.size ≤ _; rw [hkz, hz1]; omega) (I1.hok.fresh (by show h1.objs.size ≤ _; rw [hkz, hz1]; omega))
end
/-! ### the stable order by a key -/
def insK {α : Type} (x : Int × α) : List (Int × α) → List (Int × α)
  | [] => [x]
  | y :: r => if x.1 ≤ y.1 then x :: y :: r else y :: insK x r
def sortK {α : Type} : List (Int × α) → List (Int × α)
  | [] => []
  | x :: r => insK x (sortK r)
section
variable {α : Type}
theorem insK_perm (x : Int × α) : ∀ l, (insK x l).Perm (x :: l)
  | [] => .refl _
  | y :: r => by
    unfold insK
    split
    · exact .refl _
    · exact ((insK_perm x r).cons y).trans (.swap x y r)
theorem sortK_perm : ∀ l : List (Int × α), (sortK l).Perm l
  | [] => .refl _
  | x :: r => (insK_perm x (sortK r)).trans ((sortK_perm r).cons x)
theorem insK_up (x : Int × α) : ∀ l : List (Int × α), l.Pairwise (fun p q => p.1 ≤ q.1) → (insK x l).Pairwise (fun p q => p.1 ≤ q.1)
  | [], _ => List.pairwise_singleton ..
  | y :: r, h => by
    unfold insK
    split
    · rename_i hx
      refine List.Pairwise.cons (fun z hsm => ?_) h
      rcases List.mem_cons.mp hsm with rfl | hsm
      · exact hx
      · exact Int.le_trans hx (List.rel_of_pairwise_cons h hsm)
    · rename_i hx
      refine List.Pairwise.cons (fun z hsm => ?_) (insK_up x r (List.Pairwise.of_cons h))
      rcases List.mem_cons.mp ((insK_perm x r).mem_iff.mp hsm) with rfl | hsm
      · omega
      · exact List.rel_of_pairwise_cons h hsm
theorem sortK_up : ∀ l : List (Int × α), (sortK l).Pairwise (fun p q => p.1 ≤ q.1)
  | [] => .nil
  | x :: r => insK_up x _ (sortK_up r)
theorem insK_filter (x : Int × α) (c : Int) : ∀ l : List (Int × α), l.Pairwise (fun p q => p.1 ≤ q.1) → (insK x l).filter (fun p => p.1 == c) = (x :: l).filter (fun p => p.1 == c)
  | [], _ => rfl
  | y :: r, h => by
    unfold insK
    split
    · rfl
    · rename_i hx
      have ih := insK_filter x c r (List.Pairwise.of_cons h)
      rw [List.filter_cons, ih, List.filter_cons, List.filter_cons, List.filter_cons]
      by_cases h1 : (x.1 == c) = true
      · by_cases h2 : (y.1 == c) = true
        · have e1 : x.1 = c := by simpa using h1
          have e2 : y.1 = c := by simpa using h2
          omega
        · simp [h1, h2]
      · simp [h1]
theorem sortK_filter (c : Int) : ∀ l : List (Int × α), (sortK l).filter (fun p => p.1 == c) = l.filter (fun p => p.1 == c)
  | [] => rfl
  | x :: r => by
    show (insK x (sortK r)).filter _ = _
    rw [insK_filter x c _ (sortK_up r), List.filter_cons, sortK_filter c r, List.filter_cons]
theorem stable_one : ∀ {l m : List (Int × α)}, l.Perm m → l.Pairwise (fun p q => p.1 ≤ q.1) → m.Pairwise (fun p q => p.1 ≤ q.1) → (∀ c, l.filter (fun p => p.1 == c) = m.filter (fun p => p.1 == c)) → l = m
  | [], m, hp, _, _, _ => by rw [List.nil_perm.mp hp]
  | x :: l, [], hp, _, _, _ => by cases hp.length_eq
  | x :: l, y :: m, hp, h1, h2, hf => by
    have le1 : x.1 ≤ y.1 := by
      rcases List.mem_cons.mp (hp.mem_iff.mpr (List.mem_cons_self ..) : y ∈ x :: l) with e | e
      · rw [e]; exact Int.le_refl _
      · exact List.rel_of_pairwise_cons h1 e
    have le2 : y.1 ≤ x.1 := by
      rcases List.mem_cons.mp (hp.mem_iff.mp (List.mem_cons_self ..) : x ∈ y :: m) with e | e
      · rw [e]; exact Int.le_refl _
      · exact List.rel_of_pairwise_cons h2 e
    have e : x.1 = y.1 := by omega
    have hx := hf x.1
    rw [List.filter_cons, List.filter_cons, if_pos (by simp), if_pos (by simp [e])] at hx
    obtain ⟨exy, _⟩ := List.cons.inj hx
    subst exy
    rw [stable_one (List.Perm.cons_inv hp) (List.Pairwise.of_cons h1) (List.Pairwise.of_cons h2) fun c => ?_]
    have := hf c
    rw [List.filter_cons, List.filter_cons] at this
    split at this
    · exact (List.cons.inj this).2
    · exact this
theorem insK_map {β : Type} (g : α → β) (x : Int × α) : ∀ l : List (Int × α), (insK x l).map (fun p => (p.1, g p.2)) = insK (x.1, g x.2) (l.map fun p => (p.1, g p.2))
  | [] => rfl
  | y :: r => by
    unfold insK
    by_cases h : x.1 ≤ y.1
    · rw [if_pos h]
      show _ = if x.1 ≤ y.1 then _ else _
      rw [if_pos h]; rfl
    · rw [if_neg h]
      show _ = if x.1 ≤ y.1 then _ else _
      rw [if_neg h, List.map_cons, insK_map g x r]
theorem sortK_map {β : Type} (g : α → β) : ∀ l : List (Int × α), (sortK l).map (fun p => (p.1, g p.2)) = sortK (l.map fun p => (p.1, g p.2))
  | [] => rfl
  | x :: r => by
    show (insK x (sortK r)).map _ = insK _ (sortK (r.map _))
    rw [insK_map, sortK_map g r]
end
/-- sorted pairs of related values are related -/
theorem insK_rel {x : Int × V} {u : Int × Value} (e : x.1 = u.1) (r : RelV x.2 u.2) : ∀ {l : List (Int × V)} {m : List (Int × Value)}, Paired (fun p q => p.1 = q.1 ∧ RelV p.2 q.2) l m → Paired (fun (p : Int × V) (q : Int × Value) => p.1 = q.1 ∧ RelV p.2 q.2) (insK x l) (insK u m)
  | _, _, .nil => .cons ⟨e, r⟩ .nil
  | y :: l, v :: m, .cons h t => by
    unfold insK
    rw [← e, ← h.1]
    split
    · exact .cons ⟨e, r⟩ (.cons h t)
    · exact .cons h (insK_rel e r t)
theorem sortK_rel : ∀ {l : List (Int × V)} {m : List (Int × Value)}, Paired (fun p q => p.1 = q.1 ∧ RelV p.2 q.2) l m → Paired (fun (p : Int × V) (q : Int × Value) => p.1 = q.1 ∧ RelV p.2 q.2) (sortK l) (sortK m)
  | _, _, .nil => .nil
  | _, _, .cons h t => insK_rel h.1 h.2 (sortK_rel t)
theorem zip_rel : ∀ {kz : List Int} {xs : List V} {us : List Value}, Vals xs us → Paired (fun (p : Int × V) (q : Int × Value) => p.1 = q.1 ∧ RelV p.2 q.2) (kz.zip xs) (kz.zip us)
  | [], _, _, _ => .nil
  | _ :: _, _, _, .nil => .nil
  | k :: kz, _, _, .cons r t => .cons ⟨rfl, r⟩ (zip_rel t)
theorem rel_snd : ∀ {l : List (Int × V)} {m : List (Int × Value)}, Paired (fun p q => p.1 = q.1 ∧ RelV p.2 q.2) l m → Vals (l.map Prod.snd) (m.map Prod.snd)
  | _, _, .nil => .nil
  | _, _, .cons h t => .cons h.2 (rel_snd t)
def byKey (ks : List Int) (xs : List V) : List V := (sortK (ks.zip xs)).map Prod.snd
theorem byKey_len {ks : List Int} {xs : List V} (h : ks.length = xs.length) : (byKey ks xs).length = xs.length := by
  unfold byKey
  rw [List.length_map, (sortK_perm _).length_eq, List.length_zip, h, Nat.min_self]
section
variable {X : Cx}
/-- sorted(xs, key=f), f a def whose answer is an int and that leaves the heap -/
def rSortedBy (K : PySem.W.Frag) (f : Addr) (sp : Sp) : List V → List V → Hp → VK → Prop := fun vs zs H Q => ∃ (a : Addr) (xs : List V) (ks : List Int), vs = [V.ref a] ∧ zs = [V.ref f] ∧ (SqL K H a xs ∨ SqT K H a xs) ∧ ks.length = xs.length ∧
  (∀ (i : Nat) (x : V) (k : Int), xs[i]? = some x → ks[i]? = some k → sp [x] H (fun v H' => v = .int k ∧ H' = H) E0) ∧ ∀ p, H p = none → Q (.ref p) (upd H p (.lst (byKey ks xs)))
theorem cr_sortedBy {k : Nat} {f : Addr} {fd : FuncData} {ps : List Str} {sp : Sp} (F : FnOk X.prog X.w X.K X.mg X.base CX0 k f fd ps sp) (hr : Room (k + 2) X.A) (hb : Binds X.K fd ps []) : CallRK X (.builtin "sorted") [Str.ofString "key"] (rSortedBy X.K f sp) := by
  intro pins s σ H xs zs us ws Q I rx rz hq
  obtain ⟨a, ys, ks, rfl, rfl, hS, hkl, hsp, q⟩ := hq
  cases rx with
  | cons r1 r2 =>
    cases r2
    cases r1
    cases rz with
    | cons z1 z2 =>
      cases z2
      cases z1
      obtain ⟨its, rv, hcol, hsm⟩ : ∃ its : List Value, Vals ys its ∧ (∀ (A : Around) (Q : List Value → Shared → Prop) (E : Value → Shared → Prop), Q its { s with heap := (s.heap.push (seqObj "list" #[] 0)).update s.heap.objs.size (Obj.mapSeq (· ++ its.toArray)) } → wpAny (model X.prog X.w) A (collect (.ref a)) Q E s) ∧ its.length ≤ sizeLine := by
        rcases hS with hS | hS
        · obtain ⟨its, rv, hl, hsm⟩ := I.list hS
          have hz' : its.length ≤ sizeLine := by rw [← rv.length]; exact hsm
          exact ⟨its, rv, fun A Q E h => collect_list hl.isList h hz', hz'⟩
        · obtain ⟨its, rv, hl, hsm⟩ := I.tuple hS
          have hz' : its.length ≤ sizeLine := by rw [← rv.length]; exact hsm
          exact ⟨its, rv, fun A Q E h => collect_tup hl hz' h, hz'⟩
      have hlen : ks.length = its.length := by rw [hkl, rv.length]
      show wpAny _ _ (call (.builtin "sorted") [.ref a] [(Str.ofString "key", .ref f)]) _ _ _
      refine call_function_entry_kw kind_sorted plain_sorted entry_sorted (ksk_s1 _ _) ?_
      unfold Builtin.«sorted»
      refine wpAny_bind (m := checkCount "sorted" 1 1 _) (wpAny_pure (wpAny_bind (hcol _ _ _ (wpAny_bind (wpAny_newList ?_ hsm)))))
      generalize hh1 : (s.heap.push (seqObj "list" #[] 0)).update s.heap.objs.size (Obj.mapSeq (· ++ its.toArray)) = h1
      have hz1 : h1.objs.size = s.heap.objs.size + 1 := by rw [← hh1, Heap.size_update, size_push']
      have kp1 : ∀ b o, s.heap.get? b = some o → h1.get? b = some o := fun b o e => by
        rw [← hh1, Heap.get?_update_ne _ _ _ _ (Nat.ne_of_lt (Heap.lt_size e))]
        exact Heap.get?_push_of_some _ e
      have hoL : (h1.push (seqObj "list" its.toArray 0)).get? h1.objs.size = some (seqObj "list" its.toArray 0) := Heap.get?_push_size _ rfl
      have I1 : Inv X pins σ H { s with heap := h1 } := I.kept (t' := s.toks) kp1
      have I2 : Inv X pins σ H { s with heap := h1.push (seqObj "list" its.toArray 0) } := I1.kept (t' := s.toks) fun b o e => Heap.get?_push_of_some _ e
      have fa : FpOk X pins H h1.objs.size := I1.fpOk (Nat.le_refl _) (I1.hok.fresh (Nat.le_refl _))
      refine wpAny_bind (wpAny_holding (wpAny_call_entry_kw slot_list_sort ⟨_, hoL, rfl⟩ entry_list_sort ?_ (ksk_l1 _ _)))
      show wpAny (model X.prog X.w) X.A.in1.in1 (Builtin.«list.sort» ⟨[.ref h1.objs.size], [(Str.ofString "key", .ref f)]⟩) _ _ _
      rw [ksk_t1]
      refine sb_sort (s := { s with heap := h1.push (seqObj "list" its.toArray 0) }) (kz := ks) I2 hoL fa hlen hsm (fun i v k pins' s' hv hk I' => ?_) fun s' out c I' ho' ko => ⟨_, rfl, ?_⟩
      · obtain ⟨x, hx, rxv⟩ : ∃ x, ys[i]? = some x ∧ RelV x v := by
          have hi : i < ys.length := by rw [rv.length]; exact (List.getElem?_eq_some_iff.mp hv).1
          obtain ⟨u, hu, ru⟩ := rv.get (List.getElem?_eq_getElem hi)
          rw [hv] at hu
          cases hu
          exact ⟨_, List.getElem?_eq_getElem hi, ru⟩
        exact run_fn2 F hr hb I' (.cons rxv .nil) (hsp i x k hx hk)
      · obtain ⟨pr, p1, p2, p3, p4⟩ := ko
        have e1 : pr = sortK (ks.zip its) := stable_one (p1.trans (sortK_perm _).symm) (by simpa using p3) (sortK_up _) fun c => (p4 c).trans (sortK_filter c _).symm
        have rel : Vals (byKey ks ys) out.toList := by
          rw [p2, e1]
          exact rel_snd (sortK_rel (zip_rel rv))
        have hbz : (byKey ks ys).length ≤ sizeLine := by rw [byKey_len hkl, rv.length]; exact hsm
        refine wpAny_pure ⟨_, rfl, ?_⟩
        exact ⟨.ref h1.objs.size, upd H h1.objs.size (.lst (byKey ks ys)), adopt I' fa ⟨hbz, out.toList, c, rel, by rw [Array.toArray_toList]; exact ho'⟩, rfl, q _ fa.1⟩
end
end TK

namespace TK
open PySem PySem.Spec PyProof.Rows L2
/-! ### enumerate(tuple) -/
theorem meets_enum1 {v : Value} {o : Obj} {G : Heap → Prop} (B : Begins v o G) :
    Meets (Builtin.«enumerate.__new__» ⟨[.type "enumerate", v], []⟩) (fun _ R s => G s.heap ∧
      R (.ok (.ret (.ref (s.heap.push o).objs.size))) { s with heap := (s.heap.push o).push { cls := .type "enumerate", data := .fields #[.none, .bool false, .ref s.heap.objs.size, rawInt 0, .none, .none] } }) :=
  .of_wp fun prog w A R s hh => by
    obtain ⟨hp, gg, dd, tk, os⟩ := s
    obtain ⟨hG, hR⟩ := hh
    have hsub := sub_enumerate
    have it1 : ∀ {A' : Around} {E' : Value → Shared → Prop} {Q : Value → Shared → Prop}, Q (.ref hp.objs.size) ⟨hp.push o, gg, dd, tk, os⟩ → wpAny (model prog w) A' (pyIter v) Q E' ⟨hp, gg, dd, tk, os⟩ := fun q => B.iter prog w _ _ ⟨hp, gg, dd, tk, os⟩ _ hG q
    wp_walk using it1
    refine wpAny_stack_any fun st => wpAny_pure ?_
    split
    · rename_i c _ _ _ _ _
      cases (c == Value.type "enumerate") <;> (wp_walk using it1; exact ⟨_, rfl, hR⟩)
    · wp_walk using it1
      exact ⟨_, rfl, hR⟩
section
variable {prog : Program} {w : World} {A : Around} {E : Value → Shared → Prop} {s : Shared}
theorem call_enum1 {v : Value} {o : Obj} {G : Heap → Prop} {Q : Value → Shared → Prop} (B : Begins v o G) (hG : G s.heap)
    (h : ∀ h', IsEnum h' (s.heap.objs.size + 1) s.heap.objs.size 0 .none → h'.get? s.heap.objs.size = some o → (∀ b o, s.heap.get? b = some o → h'.get? b = some o) → Q (.ref (s.heap.objs.size + 1)) { s with heap := h' }) :
    wpAny (model prog w) A (call (.type "enumerate") [v]) Q E s := by
  refine callType_new F.called_enumerate (by decide) (F.typeCall_enumerate_1 _) (F.newCall_enumerate_1 _) (fun obj => F.args_object_init_2 obj _) F.entry_enumerate_new (meets_enum1 B) ⟨hG, ?_⟩
  have zp : (s.heap.push o).objs.size = s.heap.objs.size + 1 := Heap.size_push ..
  show _ ∧ _
  rw [zp]
  have gen : IsEnum ((s.heap.push o).push { cls := .type "enumerate", data := .fields #[.none, .bool false, .ref s.heap.objs.size, rawInt 0, .none, .none] }) (s.heap.objs.size + 1) s.heap.objs.size 0 .none := by
    unfold IsEnum
    rw [← zp]
    exact Heap.get?_push_size _ rfl
  exact ⟨⟨_, gen, rfl⟩, h _ gen (Heap.get?_push_of_some _ (Heap.get?_push_size _ B.free)) fun b o q => Heap.get?_push_of_some _ (Heap.get?_push_of_some _ q)⟩
end
def IteT (K : PySem.W.Frag) (a : Addr) (n : Nat) : It :=
  ⟨fun i H => i < n ∧ ∃ xs : List V, SqT K H a xs ∧ xs.length = n, fun i H v H' => ∃ T x, v = .ref T ∧ H T = none ∧ H' = upd H T (.tup [.int (i : Nat), x]) ∧ ∀ xs, SqT K H a xs → xs[i]? = some x, fun i H => n ≤ i ∧ ∃ xs : List V, SqT K H a xs ∧ xs.length = n⟩
theorem turn_enumT {P : Program} {w : World} {K : PySem.W.Frag} {elts : List Expr} {kk : Nat} {tpos : Pos} (a e it : Addr) (n : Nat) (nei : e ≠ it) (nae : a ≠ e) (nai : a ≠ it) :
    Turn P w K (.Tuple elts kk tpos) (IteT K a n) [e, it] e (fun i h => (∃ old, IsEnum h e it ((i : Nat) : Int) old) ∧ h.IsTupleIter it a i ∧ i ≤ n) where
  mem := List.mem_cons_self ..
  obj := fun i h st b hb => by
    obtain ⟨⟨old, gen⟩, ⟨o, ho, _, hd⟩, _⟩ := st
    rcases List.mem_cons.mp hb with z | z
    · rw [z]; exact ⟨_, gen, fun v q => nomatch q⟩
    · rw [List.mem_singleton.mp z]; exact ⟨o, ho, fun v q => by rw [hd] at q; cases q⟩
  keep := fun i h h' st k => by
    obtain ⟨⟨old, gen⟩, hi, hn⟩ := st
    exact ⟨⟨old, k e (by simp) _ gen⟩, hi.at fun o q => k it (by simp) o q, hn⟩
  item := by
    intro X hP hw hK hc i pins s σ H E I hf st hg
    subst hP hw hK
    obtain ⟨⟨old, gen⟩, git, _⟩ := st
    obtain ⟨ltn, xs, hq, hxl⟩ := hg
    obtain ⟨itm, rel, p, zp⟩ := I.tuple hq
    have elt : e < s.heap.objs.size := Heap.lt_size gen
    have ilt : it < s.heap.objs.size := by obtain ⟨_, q, _⟩ := git; exact Heap.lt_size q
    have hsz : itm.toArray.size = n := by rw [List.size_toArray, ← rel.length]; exact hxl
    have D := Draws.tuple (prog := X.prog) (w := X.w) (A := X.A.in1) (I.ok.hd hc) it a nai itm.toArray
    refine wpAny_pyNext_enum_itemD D gen ⟨git, p⟩ (by rw [hsz]; exact ltn) nei (by simp [nei, Ne.symm nae]) fun u h' tk hu ho hst hT _ hk => ?_
    obtain ⟨x, hx, ru⟩ : ∃ x, xs[i]? = some x ∧ RelV x u := by
      obtain ⟨u', hu', ru'⟩ := rel.get (List.getElem?_eq_getElem (show i < xs.length by omega))
      have hu2 : itm[i]? = some u := by simpa using hu
      rw [hu2] at hu'
      cases hu'
      exact ⟨_, List.getElem?_eq_getElem (by omega), ru'⟩
    refine ⟨_, rfl, wpAny_letOwnedTupleGo_enum (s := { s with heap := h', toks := tk + 1 }) ho fun h'' he' sb => ?_⟩
    have atT : h''.get? s.heap.objs.size = some { cls := .type "tuple", data := .seq #[.int i tk, u] } := (sb.2 _ (Nat.ne_of_gt elt)).trans hT
    have new : ObjOk X.prog X.w (upd H s.heap.objs.size (.tup [.int (i : Nat), x])) h'' s.heap.objs.size (.tup [.int (i : Nat), x]) :=
      ⟨by show 2 ≤ sizeLine; decide, [.int i tk, u], .cons ⟨_, rfl⟩ (.cons ru .nil), ⟨_, atT, rfl, _, rfl⟩⟩
    have I1 : Inv X pins σ (upd H s.heap.objs.size (.tup [.int (i : Nat), x])) { s with heap := h'', toks := tk + 1 } :=
      I.turnedNew (ch := [e, it]) (fun b ob hb q => (sb.2 b (fun z => hb (by simp [z]))).trans (hk b ob (fun z => hb (by simp [z])) (fun z => hb (by simp [z])) q)) hf (Nat.le_refl _) new
    refine ⟨.ref s.heap.objs.size, _, I1, rfl, ⟨_, x, rfl, I.hok.fresh (Nat.le_refl _), rfl, fun ys hy => by rw [I.tuple_inj hy hq]; exact hx⟩, ⟨⟨u, ?_⟩, hst.1.at fun o q => (sb.2 it (Ne.symm nei)).trans q, by omega⟩, fun b hb => ?_⟩
    · rw [show ((i + 1 : Nat) : Int) = (i : Int) + 1 by omega]; exact he'
    · have blt : b < s.heap.objs.size := by
        rcases List.mem_cons.mp hb with z | z
        · rw [z]; exact elt
        · rw [List.mem_singleton.mp z]; exact ilt
      rw [upd_ne (Nat.ne_of_lt blt)]
      exact (hf b hb).1
  done := by
    intro X hP hw hK hc i pins s σ H E I hf st hg
    subst hP hw hK
    obtain ⟨⟨old, gen⟩, git, ble⟩ := st
    obtain ⟨hge, xs, hq, hxl⟩ := hg
    obtain ⟨itm, rel, p, zp⟩ := I.tuple hq
    have hin : i = itm.toArray.size := by rw [List.size_toArray, ← rel.length]; omega
    obtain ⟨q0, q1, q2, q3, q4, q5⟩ := hf it (by simp)
    have D := Draws.tuple (prog := X.prog) (w := X.w) (A := X.A.in1) (I.ok.hd hc) it a nai itm.toArray
    refine wpAny_pyNext_enum_endD D gen ⟨by rw [← hin]; exact git, p⟩ fun h' eb => ⟨rfl, I.turned (t' := s.toks) (fun b o hb q => eb b o hb q) q0 q1 q3 q4 q5⟩
  self := fun A i s Q E st h => by
    obtain ⟨⟨_, gen⟩, _⟩ := st
    exact wpAny_pyIter_enum gen h
def iEnumT (K : PySem.W.Frag) (ta : TA) : TI := fun σ H R => ta σ H fun vs H1 => ∃ a xs, vs = [.ref a] ∧ SqT K H1 a xs ∧ R (IteT K a xs.length) H1
theorem pi_enumT {X : Cx} {e : Expr} {ta : TA} {p pos tpos : Pos} {elts : List Expr} {kk : Nat} (hg : Gl X "enumerate") (hm : X.mg "enumerate" = none) (ha : PA X [e] ta) (hs : starEach [e] X.env = [(false, eval e X.env)] := by rfl) :
    PI X (.Tuple elts kk tpos) (.Call (.Name "enumerate" p) [e] [] pos) (iEnumT X.K ta) := by
  refine ⟨fun pins s σ H R I h => Call_ (ld_blt I hg hm boot_enumerate (PyProof.Rows.callWith_type1 (thn (ha.run pos pins s σ H _ I h) fun us s1 ⟨vs, H1, I1, r1, q1⟩ => ?_) hs rfl))⟩
  obtain ⟨a, xs, rfl, hq, q⟩ := q1
  cases r1 with
  | cons r rr =>
    cases rr
    cases r
    obtain ⟨itm, rel, p', zp⟩ := I1.tuple hq
    have hal : a < s1.heap.objs.size := by obtain ⟨_, q, _⟩ := p'; exact Heap.lt_size q
    refine call_enum1 (begins_tuple a itm.toArray) p' fun h' gen git hk => wpAny_pyIter_enum gen ?_
    have J2 : Inv X pins σ H1 { s1 with heap := h' } := I1.kept (t' := s1.toks) hk
    refine ⟨s1.heap.objs.size + 1, [s1.heap.objs.size + 1, s1.heap.objs.size], _, _, H1, rfl, J2, turn_enumT a (s1.heap.objs.size + 1) s1.heap.objs.size xs.length (Nat.succ_ne_self _) (Nat.ne_of_lt (Nat.lt_succ_of_lt hal)) (Nat.ne_of_lt hal), ⟨⟨.none, gen⟩, ⟨_, git, rfl, rfl⟩, Nat.zero_le _⟩, fun b hb => ?_, q⟩
    have ble : s1.heap.objs.size ≤ b := by
      rcases List.mem_cons.mp hb with z | z
      · rw [z]; exact Nat.le_add_right _ _
      · rw [List.mem_singleton.mp z]; exact Nat.le_refl _
    exact I1.fpOk ble (I1.hok.fresh ble)
theorem walk_enumT {K : PySem.W.Frag} {a : Addr} {xs : List V} : Walk (IteT K a xs.length) xs.length (fun H => SqT K H a xs) (YPair (fun i => some (.int (i : Nat))) (fun i => xs[i]?)) where
  goes := fun i H hi hG => ⟨hi, xs, hG, rfl⟩
  stops := fun H hG => ⟨Nat.le_refl _, xs, hG, rfl⟩
  yields := fun i H x H' _ hG hy => by
    obtain ⟨T, v, e1, e2, e3, e4⟩ := hy
    exact ⟨T, _, v, e1, e2, e3, rfl, e4 xs hG⟩
end TK

namespace TK
open PySem PySem.Spec PyProof.Rows L2
/-! ### max(xs, default=d), min(xs, default=d) of ints -/
theorem hold_ints {h : Heap} : ∀ {us : List Value} {ns : List Int}, IntsAre us ns → ∃ as, ReadsAll h us (ns.map PySem.W.Datum.toD) as
  | _, _, .nil => ⟨[], .nil⟩
  | _, _, .cons n t r => by
    obtain ⟨as, ra⟩ := hold_ints (h := h) r
    exact ⟨[] ++ as, .cons (.int n t) ra⟩
theorem hold_int {h : Heap} {v : Value} {m : Int} (H : PySem.W.Holds h v m) : ∃ t, v = Value.int m t := by
  obtain ⟨as, r⟩ := H
  have r : Reads h v (.int m) as := r
  cases r with
  | int i t => exact ⟨t, rfl⟩
theorem maxOf_is : ∀ (ys : List Int) (y : Int), PySem.W.maxOf y ys ∈ y :: ys ∧ ∀ z ∈ y :: ys, z ≤ PySem.W.maxOf y ys
  | [], y => ⟨List.mem_cons_self .., fun z hz => by cases List.mem_singleton.mp hz; exact Int.le_refl _⟩
  | a :: ys, y => by
    have e : PySem.W.maxOf y (a :: ys) = PySem.W.maxOf (if y < a then a else y) ys := by
      show List.foldl _ (if decide (y < a) = true then a else y) ys = _
      by_cases h : y < a
      · rw [if_pos (decide_eq_true h), if_pos h]; rfl
      · rw [if_neg (by simpa using h), if_neg h]; rfl
    obtain ⟨h1, h2⟩ := maxOf_is ys (if y < a then a else y)
    rw [e]
    by_cases h : y < a
    · rw [if_pos h] at h1 h2 ⊢
      refine ⟨?_, fun z hz => ?_⟩
      · exact List.mem_cons_of_mem _ h1
      · rcases List.mem_cons.mp hz with q | q
        · have := h2 a (List.mem_cons_self ..)
          omega
        · exact h2 z q
    · rw [if_neg h] at h1 h2 ⊢
      refine ⟨?_, fun z hz => ?_⟩
      · rcases List.mem_cons.mp h1 with q | q
        · rw [q]; exact List.mem_cons_self ..
        · exact List.mem_cons_of_mem _ (List.mem_cons_of_mem _ q)
      · rcases List.mem_cons.mp hz with q | q
        · rw [q]; exact h2 y (List.mem_cons_self ..)
        · rcases List.mem_cons.mp q with q | q
          · have := h2 y (List.mem_cons_self ..)
            omega
          · exact h2 z (List.mem_cons_of_mem _ q)
theorem minOf_is : ∀ (ys : List Int) (y : Int), PySem.W.minOf y ys ∈ y :: ys ∧ ∀ z ∈ y :: ys, PySem.W.minOf y ys ≤ z
  | [], y => ⟨List.mem_cons_self .., fun z hz => by cases List.mem_singleton.mp hz; exact Int.le_refl _⟩
  | a :: ys, y => by
    have e : PySem.W.minOf y (a :: ys) = PySem.W.minOf (if a < y then a else y) ys := by
      show List.foldl _ (if decide (a < y) = true then a else y) ys = _
      by_cases h : a < y
      · rw [if_pos (decide_eq_true h), if_pos h]; rfl
      · rw [if_neg (by simpa using h), if_neg h]; rfl
    obtain ⟨h1, h2⟩ := minOf_is ys (if a < y then a else y)
    rw [e]
    by_cases h : a < y
    · rw [if_pos h] at h1 h2 ⊢
      refine ⟨?_, fun z hz => ?_⟩
      · exact List.mem_cons_of_mem _ h1
      · rcases List.mem_cons.mp hz with q | q
        · have := h2 a (List.mem_cons_self ..)
          omega
        · exact h2 z q
    · rw [if_neg h] at h1 h2 ⊢
      refine ⟨?_, fun z hz => ?_⟩
      · rcases List.mem_cons.mp h1 with q | q
        · rw [q]; exact List.mem_cons_self ..
        · exact List.mem_cons_of_mem _ (List.mem_cons_of_mem _ q)
      · rcases List.mem_cons.mp hz with q | q
        · rw [q]; exact h2 y (List.mem_cons_self ..)
        · rcases List.mem_cons.mp q with q | q
          · have := h2 y (List.mem_cons_self ..)
            omega
          · exact h2 z (List.mem_cons_of_mem _ q)
def rMaxDef (K : PySem.W.Frag) : List V → List V → Hp → VK → Prop := fun vs zs H Q => ∃ (a : Addr) (ns : List Int) (d : V), vs = [V.ref a] ∧ zs = [d] ∧ SqL K H a (ns.map V.int) ∧ (ns = [] → Q d H) ∧ ∀ m, m ∈ ns → (∀ y, y ∈ ns → y ≤ m) → Q (.int m) H
def rMinDef (K : PySem.W.Frag) : List V → List V → Hp → VK → Prop := fun vs zs H Q => ∃ (a : Addr) (ns : List Int) (d : V), vs = [V.ref a] ∧ zs = [d] ∧ SqL K H a (ns.map V.int) ∧ (ns = [] → Q d H) ∧ ∀ m, m ∈ ns → (∀ y, y ∈ ns → m ≤ y) → Q (.int m) H
section
variable {X : Cx}
theorem cr_maxDef (hc : X.calm = true) (hu : X.A.units + 64 < cLine) : CallRK X (.builtin "max") [Str.ofString "default"] (rMaxDef X.K) := by
  intro pins s σ H xs zs us ws Q I rx rz hq
  obtain ⟨a, ns, d, rfl, rfl, hs, q0, q1⟩ := hq
  rw [Vals.ref1 rx]
  cases rz with
  | cons z1 z2 =>
    cases z2
    obtain ⟨its, rv, hl, _⟩ := I.list hs
    refine PySem.W.max_list_datum_default (α := Int) (xs := ns) (I.ok.hd hc) hl.isList (hold_ints rv.ints) (by show X.A.units + 1 + 0 < cLine; omega) (fun e h' tk hk => ⟨d, H, I.kept hk, z1, q0 e⟩) fun y ys i v h' tk e _ hv hk => ?_
    obtain ⟨t, rfl⟩ := hold_int hv
    obtain ⟨m1, m2⟩ := maxOf_is ys y
    exact ⟨.int _, H, I.kept hk, ⟨_, rfl⟩, q1 _ (by rw [e]; exact m1) fun z hz => m2 z (by rw [e] at hz; exact hz)⟩
theorem cr_minDef (hc : X.calm = true) (hu : X.A.units + 64 < cLine) : CallRK X (.builtin "min") [Str.ofString "default"] (rMinDef X.K) := by
  intro pins s σ H xs zs us ws Q I rx rz hq
  obtain ⟨a, ns, d, rfl, rfl, hs, q0, q1⟩ := hq
  rw [Vals.ref1 rx]
  cases rz with
  | cons z1 z2 =>
    cases z2
    obtain ⟨its, rv, hl, _⟩ := I.list hs
    refine PySem.W.min_list_datum_default (α := Int) (xs := ns) (I.ok.hd hc) hl.isList (hold_ints rv.ints) (by show X.A.units + 1 + 0 < cLine; omega) (fun e h' tk hk => ⟨d, H, I.kept hk, z1, q0 e⟩) fun y ys i v h' tk e _ hv hk => ?_
    obtain ⟨t, rfl⟩ := hold_int hv
    obtain ⟨m1, m2⟩ := minOf_is ys y
    exact ⟨.int _, H, I.kept hk, ⟨_, rfl⟩, q1 _ (by rw [e]; exact m1) fun z hz => m2 z (by rw [e] at hz; exact hz)⟩
end
/-! ### t[::-1] of a tuple -/
section
variable {prog : Program} {w : World} {A : Around} {E : Value → Shared → Prop} {s : Shared}
theorem places_rev (n : Nat) : Builtin.Slice.slicePlaces ((n : Int) - 1) (-1) (-1) = n := by
  unfold Builtin.Slice.slicePlaces
  rw [if_neg (by decide)]
  by_cases h : n = 0
  · subst h; rfl
  · rw [if_pos (by omega), show -(-1 : Int) = 1 from rfl, Int.ediv_one]
    omega
theorem applied_rev {sl : Addr} {vl vu vs : Value} {n : Nat} {Q : Int × Int × Nat → Shared → Prop} (hs : s.heap.IsSliceOf sl vl vu vs) (pl : IsPart vl none) (pu : IsPart vu none) (ps : IsPart vs (some (-1)))
    (h : Q ((n : Int) - 1, -1, n) s) : wpAny (model prog w) A (Builtin.Slice.sliceApplied (.ref sl) (pure (n : Int))) Q E s := by
  obtain ⟨ob, go, _, gd⟩ := id hs
  unfold Builtin.Slice.sliceApplied Builtin.Slice.sliceFields
  refine wpAny_bind (wpAny_bind (wpAny_field go gd (x := vl) rfl (wpAny_bind (wpAny_field go gd (x := vu) rfl (wpAny_bind (wpAny_field go gd (x := vs) rfl (wpAny_pure ?_)))))))
  refine wpAny_bind (HT.slicePart_ ps ?_)
  show wpAny _ _ (if ((-1 : Int) == 0) = true then _ else _) _ _ s
  rw [if_neg (by decide)]
  refine wpAny_bind (HT.slicePart_ pl (wpAny_bind (HT.slicePart_ pu (wpAny_bind (wpAny_pure ?_)))))
  show wpAny _ _ (pure ((n : Int) - 1, (-1 : Int), Builtin.Slice.slicePlaces ((n : Int) - 1) (-1) (-1))) _ _ s
  rw [places_rev]
  exact wpAny_pure h
theorem fm_congr {α β : Type} {f g : α → Option β} : ∀ {l : List α}, (∀ x ∈ l, f x = g x) → l.filterMap f = l.filterMap g
  | [], _ => rfl
  | x :: r, h => by
    rw [List.filterMap_cons, List.filterMap_cons, h x (List.mem_cons_self ..), fm_congr fun y hy => h y (List.mem_cons_of_mem _ hy)]
theorem pick_rev (xs : Array Value) : ((List.range xs.size).filterMap fun (m : Nat) => xs[((xs.size : Int) - 1 + (m : Int) * (-1)).toNat]?).toArray = xs.toList.reverse.toArray := by
  have e : ((List.range xs.size).filterMap fun (m : Nat) => xs[((xs.size : Int) - 1 + (m : Int) * (-1)).toNat]?) = ((List.range xs.size).map fun k => xs.size - 1 - k).filterMap (xs[·]?) := by
    rw [List.filterMap_map]
    refine fm_congr fun m hm => ?_
    have := List.mem_range.mp hm
    show xs[_]? = xs[xs.size - 1 - m]?
    congr 1
    omega
  rw [e, PySem.W.krv_range, List.filterMap_reverse, PySem.W.krv_all]
theorem getItem_tup_rev {t sl : Addr} {items : Array Value} {vl vu vs : Value} {Q : Value → Shared → Prop} (ht : IsTup s.heap t items) (hs : s.heap.IsSliceOf sl vl vu vs) (pl : IsPart vl none) (pu : IsPart vu none) (ps : IsPart vs (some (-1)))
    (h : Q (.ref s.heap.objs.size) { s with heap := s.heap.push { cls := .type "tuple", data := .seq items.toList.reverse.toArray } }) (hsz : items.size ≤ sizeLine) : wpAny (model prog w) A (getItem (.ref t) (.ref sl)) Q E s := by
  have small : sizeOk (.seq items.toList.reverse.toArray) := by
    show items.toList.reverse.toArray.size ≤ sizeLine
    rw [List.size_toArray, List.length_reverse, Array.length_toList]
    exact hsz
  obtain ⟨ob, go, gc, gd⟩ := id hs
  unfold getItem
  try with_reducible refine wpAny_holding ?_
  first | refine wpAny_bind (wpAny_pure ?_) | skip
  refine wpAny_bind (wpAny_sequenceKey ht.typeIs (by decide) (wpAny_bind (wpAny_callSpecial?_slot (name := Str.ofString "__getitem__") ht.typeIs PyProof.Rows.slot_tuple_getitem (wpAny_call_entry PyProof.Rows.slot_tuple_getitem ht.typeIs entry_tuple_getitem ?_ (args_tuple_getitem _ _)))))
  show wpAny _ _ (Builtin.Tuple.tupleItemsOf (.ref t) >>= _) _ _ s
  refine wpAny_bind (tupleItemsOf_ ht (wpAny_bind (wpAny_typeOf ⟨ob, go, gc⟩ ?_)))
  rw [if_pos (by decide)]
  refine wpAny_bind (applied_rev hs pl pu ps ?_)
  show wpAny _ _ (if (((items.size : Int) - 1) == 0 && (-1 : Int) == 1 && items.size == items.size) = true then _ else _) _ _ s
  rw [if_neg (by rw [show ((-1 : Int) == 1) = false from rfl, Bool.and_false, Bool.false_and]; decide), pick_rev]
  first
    | exact wpAny_bind (m := Builtin.Tuple.tupleExact _) (wpAny_newObj_type (wpAny_pure ⟨_, rfl, wpAny_pure h⟩) small)
    | exact wpAny_bind (m := Builtin.Tuple.tupleExact _) (wpAny_newObj_type (wpAny_bind (wpAny_pure (wpAny_pure ⟨_, rfl, wpAny_pure h⟩))) small)
    | exact wpAny_bind (wpAny_bind (m := Builtin.Tuple.tupleExact _) (wpAny_newObj_type (wpAny_pure (wpAny_pure ⟨_, rfl, wpAny_pure h⟩)) small))
    | exact wpAny_bind (wpAny_bind (m := Builtin.Tuple.tupleExact _) (wpAny_newObj_type (wpAny_pure ⟨_, rfl, wpAny_pure h⟩) small))
end
def tRevT (K : PySem.W.Frag) (te : TE) : TE := fun σ H Q => te σ H fun x H1 => ∃ a xs, x = .ref a ∧ SqT K H1 a xs ∧ ∀ p, H1 p = none → Q (.ref p) (upd H1 p (.tup xs.reverse))
theorem pe_revT {X : Cx} {e : Expr} {te : TE} {k : Nat} {p1 p2 p3 pos : Pos} (he : PE X e te) : PE X (.Subscript e (.Slice none none (some (.UnaryOp .USub (.Constant (.int 1) k p1) p2)) p3) pos) (tRevT X.K te) := by
  refine ⟨fun pins s σ H Q I h => Subscript_ (thn (he.run pins s σ H _ I h) fun v s1 ⟨x, H1, I1, r1, a, xs, ex, hx, q⟩ => ?_)⟩
  subst ex
  cases r1
  have one : PO X (some (.UnaryOp .USub (.Constant (.int 1) k p1) p2)) (tPart (tUn (rU fun i => .int (-i)) (tC (.int 1)))) := po_some (pe_un un_neg pe_int)
  refine wpAny_Slice (thn (po_none.run pins s1 σ H1 (fun o G => o = none ∧ G = H1) I1 ⟨rfl, rfl⟩) fun vl s2 ⟨l, H2, I2, pl, el, e2⟩ => ?_)
  subst el e2
  refine thn (po_none.run pins s2 σ H2 (fun o G => o = none ∧ G = H2) I2 ⟨rfl, rfl⟩) fun vu s3 ⟨u, H3, I3, pu, eu, e3⟩ => ?_
  subst eu e3
  refine thn (one.run pins s3 σ H3 (fun o G => o = some (-1) ∧ G = H3) I3 ⟨1, rfl, -1, rfl, rfl, rfl⟩) fun vs s4 ⟨o, H4, I4, ps, eo, e4⟩ => ?_
  subst eo e4
  have J : Inv X pins σ H4 { s4 with heap := s4.heap.push { cls := .type "slice", data := .fields #[vl, vu, vs] } } := I4.kept (t' := s4.toks) fun b ob q => Heap.get?_push_of_some _ q
  obtain ⟨itm, r, ht, hz⟩ := J.tuple hx
  have hlen := r.length
  show wpAny (model X.prog X.w) X.A (subscriptTail e (.Slice none none (some (.UnaryOp .USub (.Constant (.int 1) k p1) p2)) p3) (.ref a) (.ref s4.heap.objs.size)) (EP X pins σ Q) X.xe { s4 with heap := s4.heap.push { cls := .type "slice", data := .fields #[vl, vu, vs] } }
  refine tail_any (ops := [.ref a, .ref s4.heap.objs.size]) ht.typeIs PyProof.Rows.slot_tuple_getitem.lookup ?_ (by with_unfolding_all rfl)
  refine getItem_tup_rev ht (Heap.IsSliceOf.new _ vl vu vs) pl pu ps ?_ (by rw [List.size_toArray]; omega)
  refine ⟨.ref _, _, J.laid (t' := s4.toks) (o := .tup xs.reverse) (fun b ob q => Heap.get?_push_of_some _ q) (Nat.le_refl _) ?_, rfl, q _ (J.hok.fresh (Nat.le_refl _))⟩
  exact ⟨by rw [List.length_reverse]; exact hz, _, r.reverse, IsTup.new _ _⟩
end TK

namespace TK
open PySem PySem.Spec PyProof.Rows L2
section
variable {X : Cx}
/-! ### a word of one's own in the middle; two ways to read the same text -/
theorem ps_cut {st : Stmt} {t : TS} (h : PS X st t) : PS X st (fun D σ H => ∃ R : L2.St → Hp → Prop, t { D with nx := R } σ H ∧ ∀ σ' H', R σ' H' → D.nx σ' H') :=
  ⟨fun pins s σ H D I ⟨R, q, k⟩ => thn (h.run pins s σ H _ I q) fun f s' z => by
    cases f with
    | next => obtain ⟨σ', H', I', r⟩ := z; exact ⟨σ', H', I', k _ _ r⟩
    | brk => exact z
    | cont => exact z
    | ret u => exact z⟩
theorem pe_cut {e : Expr} {t : TE} (h : PE X e t) : PE X e (fun σ H Q => ∃ R : VK, t σ H R ∧ ∀ v H', R v H' → Q v H') :=
  ⟨fun pins s σ H Q I ⟨R, q, k⟩ => thn (h.run pins s σ H _ I q) fun v s' z => by
    obtain ⟨x, H', I', r, q'⟩ := z
    exact ⟨x, H', I', r, k _ _ q'⟩⟩
theorem pt_cut {e : Expr} {t : TT} (h : PT X e t) : PT X e (fun σ H Q => ∃ R : Bool → Hp → Prop, t σ H R ∧ ∀ b H', R b H' → Q b H') :=
  ⟨fun pins s σ H Q I ⟨R, q, k⟩ => thn (h.run pins s σ H _ I q) fun v s' z => by
    obtain ⟨H', I', q'⟩ := z
    exact ⟨H', I', k _ _ q'⟩⟩
theorem pi_or {tg it : Expr} {w1 w2 : TI} (h1 : PI X tg it w1) (h2 : PI X tg it w2) : PI X tg it (fun σ H R => w1 σ H R ∨ w2 σ H R) :=
  ⟨fun pins s σ H R I h => h.elim (h1.run pins s σ H R I) (h2.run pins s σ H R I)⟩
theorem ps_or {st : Stmt} {t1 t2 : TS} (h1 : PS X st t1) (h2 : PS X st t2) : PS X st (fun D σ H => t1 D σ H ∨ t2 D σ H) :=
  ⟨fun pins s σ H D I h => h.elim (h1.run pins s σ H D I) (h2.run pins s σ H D I)⟩
theorem pe_or2 {e : Expr} {t1 t2 : TE} (h1 : PE X e t1) (h2 : PE X e t2) : PE X e (fun σ H Q => t1 σ H Q ∨ t2 σ H Q) :=
  ⟨fun pins s σ H Q I h => h.elim (h1.run pins s σ H Q I) (h2.run pins s σ H Q I)⟩
theorem pt_or2 {e : Expr} {t1 t2 : TT} (h1 : PT X e t1) (h2 : PT X e t2) : PT X e (fun σ H Q => t1 σ H Q ∨ t2 σ H Q) :=
  ⟨fun pins s σ H Q I h => h.elim (h1.run pins s σ H Q I) (h2.run pins s σ H Q I)⟩
end
end TK

namespace TK
open PySem PySem.Spec PyProof.Rows L2
section
variable {X : Cx}
/-! sum(t), a tuple of ints -/
def rSumT (K : PySem.W.Frag) : List V → Hp → VK → Prop := fun vs H Q => ∃ (a : Addr) (ns : List Int), vs = [V.ref a] ∧ SqT K H a (ns.map V.int) ∧ Q (.int ns.sum) H
theorem cr_sumT (hc : X.calm = true) : CallR X (.builtin "sum") (rSumT X.K) := by
  intro pins s σ H vs us Q I r h
  obtain ⟨a, ns, rfl, hs, q⟩ := h
  obtain ⟨itm, rv, p, _⟩ := I.tuple hs
  rw [Vals.ref1 r]
  obtain ⟨xs, e⟩ := rv.ints.allInts.items
  have hn : numsOf itm.toArray.toList = ns := rv.ints.numsOf
  rw [e, nums_intItems] at hn
  refine PySem.W.ktm_sumG (I.ok.hd hc) (e ▸ p) fun h' tk t' hk => ?_
  rw [preSum_eq, List.take_of_length_le (by simp), hn]
  exact ⟨.int _, H, I.kept hk, ⟨_, rfl⟩, q⟩
/-- *e within a comprehension -/
theorem pa_starK {K : PySem.W.Frag} {e : Expr} {es : List Expr} {te : TE} {t : TA} {p : Pos} (h : X.K = K) (he : PE X e te) (hr : PA X es t) (hs : starEach (.Starred e p :: es) X.env = (true, eval e X.env) :: starEach es X.env := by rfl) : PA X (.Starred e p :: es) (StX.tStar K te t) := h ▸ StX.pa_star he hr hs
theorem op_eqDK {K : PySem.W.Frag} (h : X.K = K) (hu : X.A.units + 64 < cLine) : OpR X (compareOp .Eq) (rEqD K) := h ▸ op_eqD hu
theorem op_neDK {K : PySem.W.Frag} (h : X.K = K) (hu : X.A.units + 64 < cLine) : OpR X (compareOp .NotEq) (rNeD K) := h ▸ op_neD hu
/-! ### objects at a row of addresses -/
def At (H : Hp) (us : List Addr) (os : List HO) : Prop := us.length = os.length ∧ ∀ (i : Nat) (u : Addr) (o : HO), us[i]? = some u → os[i]? = some o → H u = some o
theorem At.same {H H' : Hp} {us : List Addr} {os : List HO} (h : At H us os) (s : Same H H') : At H' us os := ⟨h.1, fun i u o a b => s _ _ (h.2 i u o a b)⟩
theorem At.nil {H : Hp} : At H [] [] := ⟨rfl, fun i u o a _ => by simp at a⟩
theorem At.append {H : Hp} {us vs : List Addr} {os ps : List HO} (h : At H us os) (k : At H vs ps) : At H (us ++ vs) (os ++ ps) := by
  refine ⟨by rw [List.length_append, List.length_append, h.1, k.1], fun i u o a b => ?_⟩
  by_cases hi : i < us.length
  · rw [List.getElem?_append_left hi] at a
    rw [List.getElem?_append_left (by rw [← h.1]; exact hi)] at b
    exact h.2 i u o a b
  · rw [List.getElem?_append_right (by omega)] at a
    rw [List.getElem?_append_right (by rw [← h.1]; omega), ← h.1] at b
    exact k.2 _ u o a b
theorem At.one {H : Hp} {u : Addr} {o : HO} (e : H u = some o) : At H [u] [o] := ⟨rfl, fun i u' o' a b => by
  match i, a, b with
  | 0, a, b =>
    cases a
    cases b
    exact e⟩
theorem At.get {H : Hp} {us : List Addr} {os : List HO} {i : Nat} {x : V} (h : At H us os) (e : (us.map V.ref)[i]? = some x) : ∃ (u : Addr) (o : HO), x = .ref u ∧ us[i]? = some u ∧ os[i]? = some o ∧ H u = some o := by
  rw [List.getElem?_map] at e
  cases ht : us[i]? with
  | none => rw [ht] at e; cases e
  | some t =>
    rw [ht] at e
    cases e
    have hi : i < os.length := by rw [← h.1]; exact (List.getElem?_eq_some_iff.mp ht).1
    exact ⟨t, os[i], rfl, rfl, List.getElem?_eq_getElem hi, h.2 i t _ ht (List.getElem?_eq_getElem hi)⟩
/-- a list elsewhere is written anew -/
theorem At.wrote {H : Hp} {us : List Addr} {os : List HO} {D : Addr} {xs : List V} {o : HO} (h : At H us os) (t : ∀ p ∈ os, ∃ ys, p = HO.tup ys) (e : H D = some (.lst xs)) : At (upd H D o) us os := ⟨h.1, fun i u p a b => by
  have := h.2 i u p a b
  rw [upd_ne fun z => ?_]
  · exact this
  · subst z
    obtain ⟨ys, rfl⟩ := t p (List.mem_of_getElem? b)
    rw [e] at this
    cases this⟩
end
end TK

namespace TK
open PySem PySem.Spec PyProof.Rows L2
def topS (i : Nat) : Stmt := PySem.Challenge.pw_turnsandkeys_k27_ladder_prices_all.main.body.getD i (.Pass ⟨0, 0, 0, 0⟩)
abbrev s_is_name : Stmt := topS 8
theorem sc_is_name : FnScope ["word", "sign"] ["word"] (defScope s_is_name) := ⟨rfl, rfl, rfl, by decide +kernel, rfl, by decide +kernel, by decide +kernel⟩
abbrev s_check_size : Stmt := topS 9
theorem sc_check_size : FnScope ["size", "low", "high"] ["size", "low", "high"] (defScope s_check_size) := ⟨rfl, rfl, rfl, by decide +kernel, rfl, by decide +kernel, by decide +kernel⟩
abbrev s_check_range : Stmt := topS 10
theorem sc_check_range : FnScope ["number", "low", "high"] ["number", "low", "high"] (defScope s_check_range) := ⟨rfl, rfl, rfl, by decide +kernel, rfl, by decide +kernel, by decide +kernel⟩
abbrev s_arrangements : Stmt := topS 11
theorem sc_arrangements : FnScope ["names", "most", "found", "at", "name", "others", "rest"] ["names", "most"] (defScope s_arrangements) := ⟨rfl, rfl, rfl, by decide +kernel, rfl, by decide +kernel, by decide +kernel⟩
abbrev s_check_bidders : Stmt := topS 13
theorem sc_check_bidders : FnScope ["bidders", "at", "name", "weight", "bid"] ["bidders"] (defScope s_check_bidders) := ⟨rfl, rfl, rfl, by decide +kernel, rfl, by decide +kernel, by decide +kernel⟩
abbrev s_check : Stmt := topS 14
theorem sc_check : FnScope ["bidders", "hours", "floor"] ["bidders", "hours", "floor"] (defScope s_check) := ⟨rfl, rfl, rfl, by decide +kernel, rfl, by decide +kernel, by decide +kernel⟩
abbrev s_names : Stmt := topS 15
theorem sc_names : FnScope ["bidders", "bidder"] ["bidders"] (defScope s_names) := ⟨rfl, rfl, rfl, by decide +kernel, rfl, by decide +kernel, by decide +kernel⟩
abbrev s_strength : Stmt := topS 16
theorem sc_strength : FnScope ["bidder", "_", "weight", "bid"] ["bidder"] (defScope s_strength) := ⟨rfl, rfl, rfl, by decide +kernel, rfl, by decide +kernel, by decide +kernel⟩
abbrev s_ladder_prices : Stmt := topS 17
theorem sc_ladder_prices : FnScope ["bidders", "hours", "floor", "pairs", "names", "raises"] ["bidders", "hours", "floor"] (defScope s_ladder_prices) := ⟨rfl, rfl, rfl, by decide +kernel, rfl, by decide +kernel, by decide +kernel⟩
abbrev s_raises : Stmt := topS 18
theorem sc_raises : FnScope ["bidders", "names", "hours", "floor", "behind", "strongest", "raises", "name", "at", "_", "weight", "bid", "need", "place", "bidder", "rival"] ["bidders", "names", "hours", "floor"] (defScope s_raises) := ⟨rfl, rfl, rfl, by decide +kernel, rfl, by decide +kernel, by decide +kernel⟩
abbrev s_L_cell : Stmt := topS 20
theorem sc_L_cell : FnScope ["_law_script", "_law_k", "_law_far_here", "_law_j"] ["_law_script", "_law_k"] (defScope s_L_cell) := ⟨rfl, rfl, rfl, by decide +kernel, rfl, by decide +kernel, by decide +kernel⟩
abbrev s_L_mixed : Stmt := topS 21
theorem sc_L_mixed : FnScope ["_law_cell_here", "_law_k", "_law_x"] ["_law_cell_here", "_law_k"] (defScope s_L_mixed) := ⟨rfl, rfl, rfl, by decide +kernel, rfl, by decide +kernel, by decide +kernel⟩
abbrev s_L_pool : Stmt := topS 22
theorem sc_L_pool : FnScope ["_law_cell_here", "_law_number", "_law_rest", "_law_deep", "_law_pool_here", "_law_k"] ["_law_cell_here", "_law_number"] (defScope s_L_pool) := ⟨rfl, rfl, rfl, by decide +kernel, rfl, by decide +kernel, by decide +kernel⟩
abbrev s_L_part : Stmt := topS 23
theorem sc_L_part : FnScope ["_law_pool_here", "_law_spot", "_law_under", "_law_size"] ["_law_pool_here", "_law_spot", "_law_under", "_law_size"] (defScope s_L_part) := ⟨rfl, rfl, rfl, by decide +kernel, rfl, by decide +kernel, by decide +kernel⟩
abbrev s_L_names : Stmt := topS 24
theorem sc_L_names : FnScope ["_law_pool_here", "_law_spot", "_law_number", "_law_letters", "_law_stem", "_law_k", "_law_turn", "_law_cut", "_law_first", "_law_short", "_law_tail", "_law_names_here", "_law_mark"] ["_law_pool_here", "_law_spot", "_law_number"] (defScope s_L_names) := ⟨rfl, rfl, rfl, by decide +kernel, rfl, by decide +kernel, by decide +kernel⟩
abbrev s_L_far : Stmt := topS 25
theorem sc_L_far : FnScope ["_law_pool_here", "_law_spot", "_law_number", "_law_far_here", "_law_k"] ["_law_pool_here", "_law_spot", "_law_number"] (defScope s_L_far) := ⟨rfl, rfl, rfl, by decide +kernel, rfl, by decide +kernel, by decide +kernel⟩
abbrev s_L_chosen : Stmt := topS 26
theorem sc_L_chosen : FnScope ["_law_pool_here", "_law_spot", "_law_under", "_law_small", "_law_crest", "_law_whole", "_law_way", "_law_near"] ["_law_pool_here", "_law_spot", "_law_under", "_law_small", "_law_crest", "_law_whole"] (defScope s_L_chosen) := ⟨rfl, rfl, rfl, by decide +kernel, rfl, by decide +kernel, by decide +kernel⟩
abbrev s_L_bidders : Stmt := topS 27
theorem sc_L_bidders : FnScope ["_law_pool_here", "_law_spot", "_law_number", "_law_names_here", "_law_crew", "_law_k", "_law_place", "_law_weight", "_law_bid"] ["_law_pool_here", "_law_spot", "_law_number"] (defScope s_L_bidders) := ⟨rfl, rfl, rfl, by decide +kernel, rfl, by decide +kernel, by decide +kernel⟩
abbrev s_L_sill : Stmt := topS 28
theorem sc_L_sill : FnScope ["_law_pool_here", "_law_spot", "_law_crew", "_law_way", "_law_near", "_law_name", "_law_weight", "_law_bid"] ["_law_pool_here", "_law_spot", "_law_crew"] (defScope s_L_sill) := ⟨rfl, rfl, rfl, by decide +kernel, rfl, by decide +kernel, by decide +kernel⟩
abbrev s_L_raises : Stmt := topS 29
theorem sc_L_raises : FnScope ["_law_pool_here", "_law_crew", "_law_more", "_law_k", "_law_name", "_law_weight", "_law_bid", "_law_way", "_law_near", "_law_extra", "_law_other", "_law_load", "_law_worth"] ["_law_pool_here", "_law_crew"] (defScope s_L_raises) := ⟨rfl, rfl, rfl, by decide +kernel, rfl, by decide +kernel, by decide +kernel⟩
abbrev s_L_raised : Stmt := topS 30
theorem sc_L_raised : FnScope ["_law_crew", "_law_more", "_law_raised_here", "_law_k", "_law_name", "_law_weight", "_law_bid"] ["_law_crew", "_law_more"] (defScope s_L_raised) := ⟨rfl, rfl, rfl, by decide +kernel, rfl, by decide +kernel, by decide +kernel⟩
abbrev s_L_ladder : Stmt := topS 31
theorem sc_L_ladder : FnScope ["_law_crew", "_law_slots", "_law_sill_here", "_law_loads", "_law_names_here", "_law_rank", "_law_k", "_law_ahead", "_law_name", "_law_weight", "_law_bid", "_law_j"] ["_law_crew", "_law_slots", "_law_sill_here"] (defScope s_L_ladder) := ⟨rfl, rfl, rfl, by decide +kernel, rfl, by decide +kernel, by decide +kernel⟩
abbrev s_L_places : Stmt := topS 32
theorem sc_L_places : FnScope ["_law_number", "_law_slots", "_law_rows", "_law_a", "_law_b", "_law_c"] ["_law_number", "_law_slots"] (defScope s_L_places) := ⟨rfl, rfl, rfl, by decide +kernel, rfl, by decide +kernel, by decide +kernel⟩
abbrev s_L_lift : Stmt := topS 33
theorem sc_L_lift : FnScope ["_law_load", "_law_weight", "_law_need"] ["_law_load", "_law_weight", "_law_need"] (defScope s_L_lift) := ⟨rfl, rfl, rfl, by decide +kernel, rfl, by decide +kernel, by decide +kernel⟩
abbrev s_L_cost : Stmt := topS 34
theorem sc_L_cost : FnScope ["_law_crew", "_law_slots", "_law_sill_here", "_law_places_here", "_law_loads", "_law_bars", "_law_whole", "_law_k", "_law_name", "_law_weight", "_law_bid", "_law_extra", "_law_j"] ["_law_crew", "_law_slots", "_law_sill_here", "_law_places_here"] (defScope s_L_cost) := ⟨rfl, rfl, rfl, by decide +kernel, rfl, by decide +kernel, by decide +kernel⟩
abbrev s_L_all : Stmt := topS 35
theorem sc_L_all : FnScope ["_law_crew", "_law_slots", "_law_sill_here", "_law_rows", "_law_places_here", "_law_cost_here", "_law_k"] ["_law_crew", "_law_slots", "_law_sill_here"] (defScope s_L_all) := ⟨rfl, rfl, rfl, by decide +kernel, rfl, by decide +kernel, by decide +kernel⟩
abbrev s_L_integer : Stmt := topS 36
theorem sc_L_integer : FnScope ["_law_got"] ["_law_got"] (defScope s_L_integer) := ⟨rfl, rfl, rfl, by decide +kernel, rfl, by decide +kernel, by decide +kernel⟩
abbrev s_L_same : Stmt := topS 37
theorem sc_L_same : FnScope ["_law_got", "_law_wanted", "_law_k"] ["_law_got", "_law_wanted"] (defScope s_L_same) := ⟨rfl, rfl, rfl, by decide +kernel, rfl, by decide +kernel, by decide +kernel⟩
abbrev s_law : Stmt := topS 38
theorem sc_law : FnScope ["_law_script", "_law_rest", "_law_slots", "_law_number", "_law_crew", "_law_sill_here", "_law_wanted", "_law_given", "_law_got", "_law_more", "_law_wished", "_law_found", "_law_names_here", "_law_cost_here"] ["_law_script"] (defScope s_law) := ⟨rfl, rfl, rfl, by decide +kernel, rfl, by decide +kernel, by decide +kernel⟩
end TK

namespace TK
open PySem PySem.Spec PyProof.Rows L2
section
variable {P : Program} {w : World} {K : PySem.W.Frag} {mg : Str → Option Value} {base : Heap}
/-! check_size, check_range -/
def spRange : Sp := fun vs H Q _ => ∃ a lo hi : Int, vs = [.int a, .int lo, .int hi] ∧ lo ≤ a ∧ a ≤ hi ∧ Q .non H
theorem ok_check_size {f : Addr} {fd : FuncData} (F : Fun K "check_size" "check_size" s_check_size f fd) : FnOk P w K mg base CX0 1 f fd ["size", "low", "high"] spRange := by
  refine F.ok sc_check_size (fun vs H Q E h => ?_) (fun cdv A outer s H vs Q E hr h => ?_)
  · obtain ⟨a, lo, hi, rfl, _⟩ := h
    rfl
  · obtain ⟨a, lo, hi, rfl, h1, h2, q⟩ := h
    refine ⟨_, (pss_one (ps_if (pt_not (pt_chain op_le op_le (pv 1) (pv 0) (pv 2))) (pss_one ps_never) pss_nil)), ?_⟩
    refine ⟨_, rfl, _, rfl, _, _, rfl, rfl, _, rfl, ?_⟩
    rw [decide_eq_true h1]
    refine iteT ⟨_, rfl, _, _, rfl, rfl, _, rfl, ?_⟩
    rw [decide_eq_true h2]
    exact iteF q
theorem ok_check_range {f : Addr} {fd : FuncData} (F : Fun K "check_range" "check_range" s_check_range f fd) : FnOk P w K mg base CX0 1 f fd ["number", "low", "high"] spRange := by
  refine F.ok sc_check_range (fun vs H Q E h => ?_) (fun cdv A outer s H vs Q E hr h => ?_)
  · obtain ⟨a, lo, hi, rfl, _⟩ := h
    rfl
  · obtain ⟨a, lo, hi, rfl, h1, h2, q⟩ := h
    refine ⟨_, (pss_one (ps_if (pt_not (pt_chain op_le op_le (pv 1) (pv 0) (pv 2))) (pss_one ps_never) pss_nil)), ?_⟩
    refine ⟨_, rfl, _, rfl, _, _, rfl, rfl, _, rfl, ?_⟩
    rw [decide_eq_true h1]
    refine iteT ⟨_, rfl, _, _, rfl, rfl, _, rfl, ?_⟩
    rw [decide_eq_true h2]
    exact iteF q
theorem pz {n : Nat} : (0 : Int) < ((n + 1 : Nat) : Int) := by omega
theorem mb {a : Int} {n : Nat} (h : n + 1 ≤ 2 ^ 63) : -(2 ^ 64) < a % ((n + 1 : Nat) : Int) ∧ a % ((n + 1 : Nat) : Int) < 2 ^ 64 := by
  have h1 := Int.emod_nonneg a (b := ((n + 1 : Nat) : Int)) (by omega)
  have h2 := Int.emod_lt_of_pos a (b := ((n + 1 : Nat) : Int)) (by omega)
  omega
/-! _law_part -/
def partOf (ns : List Int) (s u z : Int) : Int := ns.getD s.toNat 0 / u % z
def spPart (K : PySem.W.Frag) : Sp := fun vs H Q _ => ∃ (a : Addr) (ns : List Int) (s u z : Int), vs = [.ref a, .int s, .int u, .int z] ∧ SqL K H a (ns.map V.int) ∧ 0 ≤ s ∧ s < ns.length ∧ 0 < u ∧ u < 1000000 ∧ 0 < z ∧ Q (.int (partOf ns s u z)) H
theorem get_int {ns : List Int} {s : Int} (h0 : 0 ≤ s) (h : s < ns.length) : atI (ns.map V.int) s = some (.int (ns.getD s.toNat 0)) := by
  have h1 : s.toNat < ns.length := by omega
  refine atI_in h0 ?_
  rw [List.getElem?_map, List.getElem?_eq_getElem h1, List.getD_eq_getElem?_getD, List.getElem?_eq_getElem h1]
  rfl
theorem ok_L_part {f : Addr} {fd : FuncData} (F : Fun K "_law_part" "_law_part" s_L_part f fd) (m_int : mg "int" = none) : FnOk P w K mg base CX0 1 f fd ["_law_pool_here", "_law_spot", "_law_under", "_law_size"] (spPart K) := by
  refine F.ok sc_L_part (fun vs H Q E h => ?_) (fun cdv A outer s H vs Q E hr h => ?_)
  · obtain ⟨a, ns, s, u, z, rfl, _⟩ := h
    rfl
  · obtain ⟨a, ns, s, u, z, rfl, hS, h0, h1, h2, h3, h4, q⟩ := h
    refine ⟨_, (pss_one (ps_ret (pe_op op_mod (pe_op op_fdiv (pe_callTy call_int1 (by rfl) m_int (by decide +kernel) (pa_cons (pe_ix ix_list (pv 0) (pv 1) (fun _ _ => rfl)) pa_nil)) (pv 2)) (pv 3)))), ?_⟩
    refine ⟨_, rfl, _, rfl, _, _, _, _, rfl, rfl, hS, get_int h0 h1, .inl ⟨_, rfl, _, rfl, _, _, rfl, rfl, ⟨h2, by omega⟩, _, rfl, _, _, rfl, rfl, h4, ?_⟩⟩
    exact q
theorem part_lo {ns : List Int} {s u z : Int} (h : 0 < z) : 0 ≤ partOf ns s u z := Int.emod_nonneg _ (by omega)
theorem part_hi {ns : List Int} {s u z : Int} (h : 0 < z) : partOf ns s u z < z := Int.emod_lt_of_pos _ h
/-! _law_mixed -/
def spMixed : Sp := fun vs H Q _ => ∃ c k : Int, vs = [.int c, .int k] ∧ 0 ≤ k ∧ k < 1000000 ∧ ∀ r : Int, 0 ≤ r → Q (.int r) H
theorem ok_L_mixed {f : Addr} {fd : FuncData} (F : Fun K "_law_mixed" "_law_mixed" s_L_mixed f fd) (m_abs : mg "abs" = none) : FnOk P w K mg base CX0 1 f fd ["_law_cell_here", "_law_k"] spMixed := by
  refine F.ok sc_L_mixed (fun vs H Q E h => ?_) (fun cdv A outer s H vs Q E hr h => ?_)
  · obtain ⟨c, k, rfl, _⟩ := h
    rfl
  · obtain ⟨c, k, rfl, h0, h1, q⟩ := h
    refine ⟨_, (pss_cons (ps_set (i := 2) sc_L_mixed.nd rfl (.inl rfl) (pe_op op_mod (pe_op op_add (pe_op op_mul (pe_op op_mod (pe_callB call_abs (by rfl) m_abs (by decide +kernel) (pa_cons (pv 0) pa_nil)) pe_int) pe_int) (pe_op op_mul (pe_op op_add (pv 1) pe_int) pe_int)) pe_int))
  (pss_cons (ps_set (i := 2) sc_L_mixed.nd rfl (.inl rfl) (pe_op op_mod (pe_op op_add (pe_op op_mul (pv 2) (pe_op op_add (pe_op op_mod (pv 2) pe_int) pe_int)) (pe_op op_mul (pe_op op_add (pv 1) pe_int) pe_int)) pe_int))
  (pss_cons (ps_set (i := 2) sc_L_mixed.nd rfl (.inl rfl) (pe_op op_mod (pe_op op_mul (pv 2) (pe_op op_add (pe_op op_mod (pv 2) pe_int) pe_int)) pe_int))
  (pss_one (ps_ret (pe_op op_fdiv (pv 2) pe_int)))))), ?_⟩
    refine ⟨_, rfl, _, rfl, _, _, rfl, rfl, pz, _, _, rfl, rfl, .inr (by decide), _, rfl, _, _, rfl, rfl, _, _, rfl, rfl, .inr (by decide), _, _, rfl, rfl, _, _, rfl, rfl, pz, ?_⟩
    refine ⟨_, rfl, _, rfl, _, _, rfl, rfl, pz, _, _, rfl, rfl, _, _, rfl, rfl, .inl (mb (by decide)), _, rfl, _, _, rfl, rfl, _, _, rfl, rfl, .inr (by decide), _, _, rfl, rfl, _, _, rfl, rfl, pz, ?_⟩
    refine ⟨_, rfl, _, rfl, _, _, rfl, rfl, pz, _, _, rfl, rfl, _, _, rfl, rfl, .inl (mb (by decide)), _, _, rfl, rfl, pz, _, rfl, _, _, rfl, rfl, ⟨by decide, by decide⟩, ?_⟩
    exact q _ (Int.ediv_nonneg (Int.emod_nonneg _ (by decide)) (by decide))
/-! _law_cell -/
def spCellA (K : PySem.W.Frag) : Sp := fun vs H Q _ => ∃ (a : Addr) (ns : List Int) (k : Int), vs = [.ref a, .int k] ∧ SqL K H a (ns.map V.int) ∧ 0 ≤ k ∧ k < 1000 ∧ ns.length ≤ 1000 ∧ ∀ r : Int, Q (.int r) H
theorem ok_L_cell {f : Addr} {fd : FuncData} (F : Fun K "_law_cell" "_law_cell" s_L_cell f fd) (m_len : mg "len" = none) (m_range : mg "range" = none) (m_abs : mg "abs" = none) : FnOk P w K mg base CX0 1 f fd ["_law_script", "_law_k"] (spCellA K) := by
  refine F.ok sc_L_cell (fun vs H Q E h => ?_) (fun cdv A outer s H vs Q E hr h => ?_)
  · obtain ⟨a, ns, k, rfl, _⟩ := h
    rfl
  · obtain ⟨a, ns, k, rfl, hS, h0, h1, h2, q⟩ := h
    refine ⟨_, (pss_cons (ps_if (pt_cmpR op_lt (pv 1) (pe_callB call_len_seq (by rfl) m_len (by decide +kernel) (pa_cons (pv 0) pa_nil)) (nomark _)) (pss_one (ps_ret (pe_ix ix_list (pv 0) (pv 1) (fun _ _ => rfl)))) pss_nil)
  (pss_cons (ps_set (i := 2) sc_L_cell.nd rfl (.inl rfl) (pe_op op_mul pe_int (pe_op op_add (pv 1) pe_int)))
  (pss_cons (ps_for PassesOwn.never rfl (pi_range1 (by rfl) m_range (pa_cons (pe_callB call_len_seq (by rfl) m_len (by decide +kernel) (pa_cons (pv 0) pa_nil)) pa_nil)) (pg_name (i := 3) sc_L_cell.nd rfl (.inl rfl))
    (pss_one (ps_set (i := 2) sc_L_cell.nd rfl (.inl rfl) (pe_op op_mod (pe_op op_add (pv 2) (pe_op op_mul (pe_op op_mul (pe_op op_add (pv 3) pe_int) (pe_op op_mod (pe_callB call_abs (by rfl) m_abs (by decide +kernel) (pa_cons (pe_ix ix_list (pv 0) (pv 3) (fun _ _ => rfl)) pa_nil)) pe_int)) pe_int)) pe_int))))
  (pss_one (ps_ret (pv 2)))))), ?_⟩
    refine ⟨_, rfl, _, rfl, _, _, rfl, .inl hS, _, _, rfl, rfl, _, rfl, ite2 (fun e => ?_) (fun e => ?_)⟩
    · have e1 : k < ((ns.map V.int).length : Nat) := of_decide_eq_true e
      rw [List.length_map] at e1
      exact ⟨_, rfl, _, rfl, _, _, _, _, rfl, rfl, hS, get_int h0 e1, q _⟩
    · refine ⟨_, rfl, _, _, rfl, rfl, _, _, rfl, rfl, .inl (by decide), ?_⟩
      refine ⟨_, rfl, _, _, rfl, .inl hS, _, rfl, by omega, by rw [List.length_map]; omega, for_range (fun i σ H' => H' = H ∧ ∃ (r : Int) (y : Option V), σ = [some (.ref a), some (.int k), some (.int r), y]) ⟨rfl, _, _, rfl⟩ ?_ ?_⟩
      · rintro i σ H' hi ⟨rfl, r, y, rfl⟩
        rw [List.length_map] at hi
        have hi' : i < ns.length := by omega
        refine ⟨_, rfl, _, rfl, _, _, rfl, rfl, _, rfl, _, rfl, _, _, _, _, rfl, rfl, hS, get_int (by omega) (by omega), _, rfl, _, _, rfl, rfl, pz, _, _, rfl, rfl, .inr (mb (by decide)), _, _, rfl, rfl, .inr (by decide), _, _, rfl, rfl, _, _, rfl, rfl, pz, rfl, _, _, rfl⟩
      · rintro σ H' ⟨rfl, r, y, rfl⟩
        exact ⟨_, rfl, q _⟩
end
end TK

namespace TK
open PySem PySem.Spec PyProof.Rows L2
theorem upd_twice {H : Hp} {p : Addr} {a b : HO} : upd (upd H p a) p b = upd H p b := by
  funext x
  unfold upd
  by_cases e : x = p
  · rw [if_pos e, if_pos e]
  · rw [if_neg e, if_neg e, if_neg e]
section
variable {P : Program} {w : World} {K : PySem.W.Frag} {mg : Str → Option Value} {base : Heap}
/-! _law_pool -/
def spPool : Sp := fun vs H Q _ => ∃ (c n : Int), vs = [.int c, .int n] ∧ 0 ≤ n ∧ n ≤ 1000 ∧ ∀ (p : Addr) (ns : List Int), H p = none → (ns.length : Int) = n → (∀ x ∈ ns, 0 ≤ x) → Q (.ref p) (upd H p (.lst (ns.map V.int)))
theorem ok_L_pool {f : Addr} {fd : FuncData} (F : Fun K "_law_pool" "_law_pool" s_L_pool f fd) (m_range : mg "range" = none) (m_abs : mg "abs" = none) (d_L_mixed : Def P w K mg base "_law_mixed" 1 ["_law_cell_here", "_law_k"] spMixed) : FnOk P w K mg base CX0 2 f fd ["_law_cell_here", "_law_number"] spPool := by
  refine F.ok sc_L_pool (fun vs H Q E h => ?_) (fun cdv A outer s H vs Q E hr h => ?_)
  · obtain ⟨c, n, rfl, _⟩ := h
    rfl
  · obtain ⟨c, n, rfl, h0, h1, q⟩ := h
    refine ⟨_, (pss_cons (ps_set (i := 2) sc_L_pool.nd rfl (.inl rfl) (pe_callB call_abs (by rfl) m_abs (by decide +kernel) (pa_cons (pv 0) pa_nil)))
  (pss_cons (ps_set (i := 3) sc_L_pool.nd rfl (.inl rfl) (pe_cmpR op_ge (pv 2) (pe_op op_pow pe_int pe_int) (nomark _)))
  (pss_cons (ps_set (i := 4) sc_L_pool.nd rfl (.inl rfl) (pe_lst pa_nil))
  (pss_cons (ps_for PassesOwn.never rfl (pi_range1 (by rfl) m_range (pa_cons (pv 1) pa_nil)) (pg_name (i := 5) sc_L_pool.nd rfl (.inl rfl))
    (pss_one (ps_if (PW.pt (pw_and (pt_val (pv 3)) (pw_and1 (pt_cmpR op_gt (pv 2) pe_int (nomark _))))) (pss_cons (ps_expr (pe_bm PySem.F.plainAttrs_list PySem.F.slot_list_append PySem.F.type_list_append mt_append (pv 4) (pa_cons (pe_op op_mod (pv 2) pe_int) pa_nil)))
  (pss_one (ps_set (i := 2) sc_L_pool.nd rfl (.inl rfl) (pe_op op_fdiv (pv 2) pe_int)))) (pss_one (ps_expr (pe_bm PySem.F.plainAttrs_list PySem.F.slot_list_append PySem.F.type_list_append mt_append (pv 4) (pa_cons (pe_callD d_L_mixed (hr.mono (by decide)) (by rfl) (pa_cons (pv 0) (pa_cons (pv 5) pa_nil))) pa_nil)))))))
  (pss_one (ps_ret (pv 4))))))), ?_⟩
    have ha : 0 ≤ (if c < 0 then -c else c) := by split <;> omega
    refine ⟨_, rfl, _, rfl, _, rfl, _, _, rfl, rfl, ⟨by decide, by decide, by decide⟩, _, _, rfl, rfl, ?_⟩
    refine ⟨Nat.zero_le _, fun p np => ?_⟩
    refine ⟨_, rfl, _, rfl, by omega, by omega, for_range (fun i σ H' => ∃ (r : Int) (b : Bool) (ns : List Int) (y : Option V), σ = [some (.int c), some (.int n), some (.int r), some (.bl b), some (.ref p), y] ∧ 0 ≤ r ∧ ns.length = i ∧ (∀ x ∈ ns, 0 ≤ x) ∧ H' = upd H p (.lst (ns.map V.int))) ⟨_, _, [], _, rfl, ha, rfl, (fun x hx => nomatch hx), rfl⟩ ?_ ?_⟩
    · rintro i σ H' hi ⟨r, b, ns, y, rfl, r0, hl, hx, rfl⟩
      have hz : (ns.map V.int).length < sizeLine := by rw [List.length_map]; exact small1000 (by omega)
      refine ⟨_, rfl, _, rfl, ite2 (fun e => ?_) (fun e => ?_)⟩
      · refine ⟨_, rfl, _, _, rfl, rfl, _, rfl, ite2 (fun e => ?_) (fun e => ?_)⟩
        · refine ⟨_, rfl, .inl ⟨rfl, _, lstAt upd_same⟩, _, rfl, _, _, rfl, rfl, pz, _, _, _, rfl, rfl, upd_same, hz, ?_⟩
          refine ⟨_, rfl, _, _, rfl, rfl, ⟨by decide, by decide⟩, ?_⟩
          refine ⟨_, b, ns ++ [r % 5040], _, rfl, Int.ediv_nonneg r0 (by decide), by rw [List.length_append, hl]; rfl, ?_, ?_⟩
          · intro x h
            rcases List.mem_append.mp h with h | h
            · exact hx x h
            · cases List.mem_singleton.mp h; exact Int.emod_nonneg _ (by decide)
          · rw [upd_twice, List.map_append]; rfl
        · refine ⟨_, rfl, .inl ⟨rfl, _, lstAt upd_same⟩, _, rfl, _, rfl, _, _, rfl, by omega, by omega, fun z z0 => ⟨_, _, _, rfl, rfl, upd_same, hz, r, b, ns ++ [z], _, rfl, r0, by rw [List.length_append, hl]; rfl, ?_, ?_⟩⟩
          · intro x h
            rcases List.mem_append.mp h with h | h
            · exact hx x h
            · cases List.mem_singleton.mp h; exact z0
          · rw [upd_twice, List.map_append]; rfl
      · refine iteF ?_
        refine ⟨_, rfl, .inl ⟨rfl, _, lstAt upd_same⟩, _, rfl, _, rfl, _, _, rfl, by omega, by omega, fun z z0 => ⟨_, _, _, rfl, rfl, upd_same, hz, r, b, ns ++ [z], _, rfl, r0, by rw [List.length_append, hl]; rfl, ?_, ?_⟩⟩
        · intro x h
          rcases List.mem_append.mp h with h | h
          · exact hx x h
          · cases List.mem_singleton.mp h; exact z0
        · rw [upd_twice, List.map_append]; rfl
    · rintro σ H' ⟨r, b, ns, y, rfl, r0, hl, hx, rfl⟩
      exact ⟨_, rfl, q p ns np (by omega) hx⟩
/-! _law_far -/
def spFar (K : PySem.W.Frag) : Sp := fun vs H Q _ => ∃ (a : Addr) (ns : List Int) (s n : Int), vs = [.ref a, .int s, .int n] ∧ SqL K H a (ns.map V.int) ∧ 0 ≤ s ∧ 0 ≤ n ∧ n ≤ 1000 ∧ s + n ≤ ns.length ∧ ∀ r : Int, 0 ≤ r → Q (.int r) H
theorem ok_L_far {f : Addr} {fd : FuncData} (F : Fun K "_law_far" "_law_far" s_L_far f fd) (m_range : mg "range" = none) (m_int : mg "int" = none) : FnOk P w K mg base CX0 1 f fd ["_law_pool_here", "_law_spot", "_law_number"] (spFar K) := by
  refine F.ok sc_L_far (fun vs H Q E h => ?_) (fun cdv A outer s H vs Q E hr h => ?_)
  · obtain ⟨a, ns, s, n, rfl, _⟩ := h
    rfl
  · obtain ⟨a, ns, s, n, rfl, hS, h0, h1, h2, h3, q⟩ := h
    refine ⟨_, (pss_cons (ps_set (i := 3) sc_L_far.nd rfl (.inl rfl) pe_int)
  (pss_cons (ps_for PassesOwn.never rfl (pi_range1 (by rfl) m_range (pa_cons (pv 2) pa_nil)) (pg_name (i := 4) sc_L_far.nd rfl (.inl rfl))
    (pss_one (ps_set (i := 3) sc_L_far.nd rfl (.inl rfl) (pe_op op_add (pe_op op_mul (pv 3) pe_int) (pe_op op_mod (pe_callTy call_int1 (by rfl) m_int (by decide +kernel) (pa_cons (pe_ix ix_list (pv 0) (pe_op op_add (pv 1) (pv 4)) (fun _ _ => rfl)) pa_nil)) pe_int)))))
  (pss_one (ps_ret (pv 3))))), ?_⟩
    refine ⟨_, rfl, _, rfl, by omega, by omega, for_range (fun i σ H' => H' = H ∧ ∃ (r : Int) (y : Option V), σ = [some (.ref a), some (.int s), some (.int n), some (.int r), y] ∧ 0 ≤ r) ⟨rfl, _, _, rfl, by decide⟩ ?_ ?_⟩
    · rintro i σ H' hi ⟨rfl, r, y, rfl, r0⟩
      refine ⟨_, rfl, _, _, rfl, rfl, .inr (by decide), _, rfl, _, rfl, _, rfl, _, _, rfl, rfl, _, _, _, _, rfl, rfl, hS, get_int (by omega) (by omega), .inl ⟨_, rfl, _, _, rfl, rfl, pz, _, _, rfl, rfl, rfl, _, _, rfl, ?_⟩⟩
      exact Int.add_nonneg (Int.mul_nonneg r0 (by decide)) (Int.emod_nonneg _ (by decide))
    · rintro σ H' ⟨rfl, r, y, rfl, r0⟩
      exact ⟨_, rfl, q _ r0⟩
/-! _law_chosen: from 0 to the crest -/
def spChosen (K : PySem.W.Frag) : Sp := fun vs H Q _ => ∃ (a : Addr) (ns : List Int) (s u z c wh : Int), vs = [.ref a, .int s, .int u, .int z, .int c, .int wh] ∧ SqL K H a (ns.map V.int) ∧ 0 ≤ s ∧ s < ns.length ∧ 0 < u ∧ u < 1000 ∧ 0 < z ∧ z ≤ c ∧ ∀ r : Int, 0 ≤ r → r ≤ c → Q (.int r) H
theorem ok_L_chosen {f : Addr} {fd : FuncData} (F : Fun K "_law_chosen" "_law_chosen" s_L_chosen f fd) (m_int : mg "int" = none) (d_L_part : Def P w K mg base "_law_part" 1 ["_law_pool_here", "_law_spot", "_law_under", "_law_size"] (spPart K)) : FnOk P w K mg base CX0 2 f fd ["_law_pool_here", "_law_spot", "_law_under", "_law_small", "_law_crest", "_law_whole"] (spChosen K) := by
  refine F.ok sc_L_chosen (fun vs H Q E h => ?_) (fun cdv A outer s H vs Q E hr h => ?_)
  · obtain ⟨a, ns, s, u, z, c, wh, rfl, _⟩ := h
    rfl
  · obtain ⟨a, ns, s, u, z, c, wh, rfl, hS, h0, h1, h2, h3, h4, h5, q⟩ := h
    refine ⟨_, (pss_cons (ps_set (i := 6) sc_L_chosen.nd rfl (.inl rfl) (pe_callD d_L_part (hr.mono (by decide)) (by rfl) (pa_cons (pv 0) (pa_cons (pv 1) (pa_cons (pv 2) (pa_cons pe_int pa_nil))))))
  (pss_cons (ps_set (i := 7) sc_L_chosen.nd rfl (.inl rfl) (pe_callD d_L_part (hr.mono (by decide)) (by rfl) (pa_cons (pv 0) (pa_cons (pv 1) (pa_cons (pe_op op_mul pe_int (pv 2)) (pa_cons (pv 3) pa_nil))))))
  (pss_cons (ps_if (pt_cmpR op_eq (pv 6) pe_int (nomark _)) (pss_one (ps_ret (pe_op op_sub (pv 4) (pv 7)))) pss_nil)
  (pss_cons (ps_if (pt_cmpR op_eq (pv 6) pe_int (nomark _)) (pss_one (ps_ret (pe_op op_mod (pe_callTy call_int1 (by rfl) m_int (by decide +kernel) (pa_cons (pv 5) pa_nil)) (pe_op op_add (pv 4) pe_int)))) pss_nil)
  (pss_one (ps_ret (pv 7))))))), ?_⟩
    refine ⟨_, rfl, _, rfl, _, rfl, _, _, _, _, _, rfl, hS, h0, h1, h2, by omega, by decide, ?_⟩
    refine ⟨_, rfl, _, rfl, _, rfl, _, _, rfl, rfl, .inl (by decide), _, rfl, _, _, _, _, _, rfl, hS, h0, h1, by omega, by omega, h4, ?_⟩
    have p0 := part_lo (ns := ns) (s := s) (u := 10 * u) h4
    have p1 := part_hi (ns := ns) (s := s) (u := 10 * u) h4
    refine ⟨_, rfl, rfl, _, rfl, ite2 (fun e => ?_) (fun e => ?_)⟩
    · exact ⟨_, rfl, _, rfl, _, _, rfl, rfl, q _ (by omega) (by omega)⟩
    · refine ⟨_, rfl, rfl, _, rfl, ite2 (fun e => ?_) (fun e => ?_)⟩
      · refine ⟨_, rfl, .inl ⟨_, rfl, _, rfl, _, _, rfl, rfl, _, _, rfl, rfl, show (0 : Int) < c + 1 by omega, q _ (Int.emod_nonneg _ (by omega)) ?_⟩⟩
        have := Int.emod_lt_of_pos wh (show (0 : Int) < c + 1 by omega)
        omega
      · exact ⟨_, rfl, q _ p0 (by omega)⟩
end
end TK

namespace TK
open PySem PySem.Spec PyProof.Rows L2
/-! ### texts as lists of codes -/
def sOf (l : List Nat) : Str := ⟨l.toArray⟩
theorem sOf_codes (l : List Nat) : (sOf l).cps.toList = l := rfl
theorem sOf_len (l : List Nat) : (sOf l).length = l.length := by simp [sOf, Str.length]
theorem sOf_app (a b : List Nat) : sOf a ++ sOf b = sOf (a ++ b) := by
  show (⟨a.toArray ++ b.toArray⟩ : Str) = ⟨(a ++ b).toArray⟩
  simp
theorem sOf_inj {a b : List Nat} (h : sOf a = sOf b) : a = b := by
  have := congrArg (fun z : Str => z.cps.toList) h
  exact this
theorem sOf_one (c : Nat) : (⟨#[c]⟩ : Str) = sOf [c] := rfl
theorem cut_to (l : List Nat) {m : Int} (h : 0 ≤ m) : cutS (sOf l) none (some m) = sOf (l.take m.toNat) := by
  obtain ⟨k, rfl⟩ : ∃ k : Nat, m = (k : Int) := ⟨m.toNat, by omega⟩
  unfold cutS
  rw [HT.sIx_none, HT.sIx_nat, sOf_len, sOf_codes, List.drop_zero, Nat.sub_zero, Int.toNat_natCast]
  show sOf _ = sOf _
  congr 1
  by_cases hk : k ≤ l.length
  · rw [Nat.min_eq_left hk]
  · rw [Nat.min_eq_right (by omega), List.take_of_length_le (by omega), List.take_of_length_le (by omega)]
theorem cut_from (l : List Nat) {m : Int} (h : 0 ≤ m) : cutS (sOf l) (some m) none = sOf (l.drop m.toNat) := by
  obtain ⟨k, rfl⟩ : ∃ k : Nat, m = (k : Int) := ⟨m.toNat, by omega⟩
  unfold cutS
  rw [HT.sIx_none, HT.sIx_nat, sOf_len, sOf_codes, Int.toNat_natCast]
  show sOf _ = sOf _
  congr 1
  by_cases hk : k ≤ l.length
  · rw [Nat.min_eq_left hk, List.take_of_length_le (by rw [List.length_drop]; omega)]
  · rw [Nat.min_eq_right (by omega), List.drop_of_length_le (by omega), List.drop_of_length_le (by omega), List.take_nil]
def lettersZ : Str := Str.ofString "abcdefghijklmnopqrstuvwxyz"
theorem letters_codes : lettersZ.cps.toList = (List.range 26).map (97 + ·) := by decide +kernel
theorem letters_len : lettersZ.length = 26 := by decide +kernel
theorem letter_at {i : Int} (h0 : 0 ≤ i) (h1 : i < 26) : atI lettersZ.cps.toList i = some (97 + i.toNat) := by
  refine atI_in h0 ?_
  rw [letters_codes, List.getElem?_map, List.getElem?_range (by omega)]
  rfl
def Let (l : List Nat) : Prop := ∀ c ∈ l, 97 ≤ c ∧ c ≤ 122
theorem Let.app {a b : List Nat} (h : Let a) (k : Let b) : Let (a ++ b) := fun c hc => by
  rcases List.mem_append.mp hc with e | e
  · exact h c e
  · exact k c e
theorem Let.one {n : Nat} (h : n < 26) : Let [97 + n] := fun c hc => by
  cases List.mem_singleton.mp hc
  omega
theorem Let.take {a : List Nat} (h : Let a) (n : Nat) : Let (a.take n) := fun c hc => h c (List.mem_of_mem_take hc)
theorem Let.drop {a : List Nat} (h : Let a) (n : Nat) : Let (a.drop n) := fun c hc => h c (List.mem_of_mem_drop hc)
/-- a name: 1 to 8 letters -/
def Nm (l : List Nat) : Prop := 1 ≤ l.length ∧ l.length ≤ 8 ∧ Let l
def nameF (b : Bool) (stem short tail : List Nat) (cut first turn : Nat) (k : Nat) : List Nat :=
  if b = true then short.take cut ++ [97 + (first + 7 * ((k + turn) % 6)) % 26] ++ short.drop cut ++ tail else stem.take ((k + turn) % 6 + 1)
theorem nameF_nm {b : Bool} {stem short tail : List Nat} {cut first turn k : Nat} (hs : stem.length = 6) (hsh : short.length ≤ 6) (ht : tail.length ≤ 1) (l1 : Let stem) (l2 : Let short) (l3 : Let tail) : Nm (nameF b stem short tail cut first turn k) := by
  unfold nameF
  cases b with
  | true =>
    rw [if_pos rfl]
    have e : (short.take cut).length + (short.drop cut).length = short.length := by rw [← List.length_append, List.take_append_drop]
    refine ⟨?_, ?_, (((l2.take _).app (.one (Nat.mod_lt _ (by decide)))).app (l2.drop _)).app l3⟩
    · simp only [List.length_append, List.length_cons, List.length_nil]; omega
    · simp only [List.length_append, List.length_cons, List.length_nil]; omega
  | false =>
    rw [if_neg (by decide)]
    have := Nat.mod_lt (k + turn) (show 6 > 0 by decide)
    exact ⟨by rw [List.length_take]; omega, by rw [List.length_take]; omega, l1.take _⟩
theorem nameF_inj {b : Bool} {stem short tail : List Nat} {cut first turn k j : Nat} (hs : stem.length = 6) (hk : k < 6) (hj : j < 6) (h : nameF b stem short tail cut first turn k = nameF b stem short tail cut first turn j) : k = j := by
  unfold nameF at h
  cases b with
  | true =>
    rw [if_pos rfl, if_pos rfl] at h
    simp only [List.append_assoc, List.append_cancel_left_eq, List.cons_append, List.nil_append, List.cons.injEq] at h
    have := h.1
    omega
  | false =>
    rw [if_neg (by decide), if_neg (by decide)] at h
    have e := congrArg List.length h
    rw [List.length_take, List.length_take, hs] at e
    omega
theorem nodup_range {f : Nat → List Nat} : ∀ {n : Nat}, (∀ k j, k < n → j < n → f k = f j → k = j) → ((List.range n).map f).Nodup := by
  intro n h
  rw [List.nodup_iff_pairwise_ne, List.pairwise_map]
  refine List.Pairwise.imp_of_mem ?_ (List.nodup_iff_pairwise_ne.mp List.nodup_range)
  intro a b ha hb hne e
  exact hne (h a b (List.mem_range.mp ha) (List.mem_range.mp hb) e)
def vN (l : List Nat) : V := .str (sOf l)
section
variable {P : Program} {w : World} {K : PySem.W.Frag} {mg : Str → Option Value} {base : Heap}
/-! _law_names -/
def spNames (K : PySem.W.Frag) : Sp := fun vs H Q _ => ∃ (a : Addr) (ns : List Int) (s n : Int), vs = [.ref a, .int s, .int n] ∧ SqL K H a (ns.map V.int) ∧ 0 ≤ s ∧ s + 5 ≤ ns.length ∧ 0 ≤ n ∧ n ≤ 6 ∧
  ∀ (p : Addr) (zs : List (List Nat)), H p = none → (zs.length : Int) = n → (∀ z ∈ zs, Nm z) → zs.Nodup → Q (.ref p) (upd H p (.lst (zs.map vN)))
theorem small_len {l : List Nat} (h : l.length ≤ 1000) : (sOf l).length ≤ sizeLine := by rw [sOf_len]; exact Nat.le_of_lt (small1000 h)
theorem ok_L_names {f : Addr} {fd : FuncData} (F : Fun K "_law_names" "_law_names" s_L_names f fd) (m_range : mg "range" = none) (m_int : mg "int" = none) (d_L_part : Def P w K mg base "_law_part" 1 ["_law_pool_here", "_law_spot", "_law_under", "_law_size"] (spPart K)) : FnOk P w K mg base CX0 2 f fd ["_law_pool_here", "_law_spot", "_law_number"] (spNames K) := by
  refine F.ok sc_L_names (fun vs H Q E h => ?_) (fun cdv A outer s H vs Q E hr h => ?_)
  · obtain ⟨a, ns, s, n, rfl, _⟩ := h
    rfl
  · obtain ⟨a, ns, s, n, rfl, hS, h0, h1, h2, h3, q⟩ := h
    refine ⟨_, (pss_cons (ps_set (i := 3) sc_L_names.nd rfl (.inl rfl) pe_str)
  (pss_cons (ps_set (i := 4) sc_L_names.nd rfl (.inl rfl) pe_str)
  (pss_cons (ps_for PassesOwn.never rfl (pi_range1 (by rfl) m_range (pa_cons pe_int pa_nil)) (pg_name (i := 5) sc_L_names.nd rfl (.inl rfl))
    (pss_one (ps_set (i := 4) sc_L_names.nd rfl (.inl rfl) (pe_op op_add_str (pe_op op_add_str (pv 4) (pe_ix ix_str (pv 3) (pe_callD d_L_part (hr.mono (by decide)) (by rfl) (pa_cons (pv 0) (pa_cons (pe_op op_add (pv 1) (pv 5)) (pa_cons pe_int (pa_cons pe_int pa_nil))))) (fun _ _ => rfl))) (pe_ix ix_str (pv 3) (pe_callD d_L_part (hr.mono (by decide)) (by rfl) (pa_cons (pv 0) (pa_cons (pe_op op_add (pv 1) (pv 5)) (pa_cons pe_int (pa_cons pe_int pa_nil))))) (fun _ _ => rfl))))))
  (pss_cons (ps_set (i := 6) sc_L_names.nd rfl (.inl rfl) (pe_callD d_L_part (hr.mono (by decide)) (by rfl) (pa_cons (pv 0) (pa_cons (pe_op op_add (pv 1) pe_int) (pa_cons pe_int (pa_cons pe_int pa_nil))))))
  (pss_cons (ps_set (i := 7) sc_L_names.nd rfl (.inl rfl) (pe_callD d_L_part (hr.mono (by decide)) (by rfl) (pa_cons (pv 0) (pa_cons (pe_op op_add (pv 1) pe_int) (pa_cons pe_int (pa_cons pe_int pa_nil))))))
  (pss_cons (ps_set (i := 8) sc_L_names.nd rfl (.inl rfl) (pe_callD d_L_part (hr.mono (by decide)) (by rfl) (pa_cons (pv 0) (pa_cons (pe_op op_add (pv 1) pe_int) (pa_cons pe_int (pa_cons pe_int pa_nil))))))
  (pss_cons (ps_set (i := 9) sc_L_names.nd rfl (.inl rfl) (pe_slice sl_str (pv 4) po_none (po_some (pe_callD d_L_part (hr.mono (by decide)) (by rfl) (pa_cons (pv 0) (pa_cons (pe_op op_add (pv 1) pe_int) (pa_cons pe_int (pa_cons pe_int pa_nil))))))))
  (pss_cons (ps_set (i := 10) sc_L_names.nd rfl (.inl rfl) (pe_slice sl_str (pv 4) po_none (po_some (pe_callD d_L_part (hr.mono (by decide)) (by rfl) (pa_cons (pv 0) (pa_cons (pe_op op_add (pv 1) pe_int) (pa_cons pe_int (pa_cons pe_int pa_nil))))))))
  (pss_cons (ps_set (i := 11) sc_L_names.nd rfl (.inl rfl) (pe_lst pa_nil))
  (pss_cons (ps_for PassesOwn.never rfl (pi_range1 (by rfl) m_range (pa_cons (pv 2) pa_nil)) (pg_name (i := 5) sc_L_names.nd rfl (.inl rfl))
    (pss_cons (ps_set (i := 12) sc_L_names.nd rfl (.inl rfl) (pe_op op_mod (pe_callTy call_int1 (by rfl) m_int (by decide +kernel) (pa_cons (pe_op op_add (pv 5) (pv 6)) pa_nil)) pe_int))
  (pss_one (ps_if (pt_cmpR op_eq (pe_callD d_L_part (hr.mono (by decide)) (by rfl) (pa_cons (pv 0) (pa_cons (pe_op op_add (pv 1) pe_int) (pa_cons pe_int (pa_cons pe_int pa_nil))))) pe_int (nomark _)) (pss_one (ps_expr (pe_bm PySem.F.plainAttrs_list PySem.F.slot_list_append PySem.F.type_list_append mt_append (pv 11) (pa_cons (pe_op op_add_str (pe_op op_add_str (pe_op op_add_str (pe_slice sl_str (pv 9) po_none (po_some (pv 7))) (pe_ix ix_str (pv 3) (pe_op op_mod (pe_callTy call_int1 (by rfl) m_int (by decide +kernel) (pa_cons (pe_op op_add (pv 8) (pe_op op_mul pe_int (pv 12))) pa_nil)) pe_int) (fun _ _ => rfl))) (pe_slice sl_str (pv 9) (po_some (pv 7)) po_none)) (pv 10)) pa_nil)))) (pss_one (ps_expr (pe_bm PySem.F.plainAttrs_list PySem.F.slot_list_append PySem.F.type_list_append mt_append (pv 11) (pa_cons (pe_slice sl_str (pv 4) po_none (po_some (pe_op op_add (pv 12) pe_int))) pa_nil))))))))
  (pss_one (ps_ret (pv 11))))))))))))), ?_⟩
    refine ⟨_, rfl, by decide, by decide, for_range (fun i σ H' => H' = H ∧ ∃ (st : List Nat) (y : Option V), σ = [some (.ref a), some (.int s), some (.int n), some (.str lettersZ), some (vN st), y, none, none, none, none, none, none, none] ∧ st.length = 2 * i ∧ Let st) ⟨rfl, [], _, rfl, rfl, fun c hc => nomatch hc⟩ ?_ ?_⟩
    · rintro i σ H' hi ⟨rfl, st, y, rfl, hl, le⟩
      have hi3 : i < 3 := hi
      have b1 := part_lo (ns := ns) (s := s + (0 + (i : Int))) (u := 1) (z := 26) (by decide)
      have b2 := part_hi (ns := ns) (s := s + (0 + (i : Int))) (u := 1) (z := 26) (by decide)
      have c1 := part_lo (ns := ns) (s := s + (0 + (i : Int))) (u := 26) (z := 26) (by decide)
      have c2 := part_hi (ns := ns) (s := s + (0 + (i : Int))) (u := 26) (z := 26) (by decide)
      refine ⟨_, rfl, _, rfl, _, rfl, _, rfl, _, rfl, _, _, rfl, rfl, _, _, _, _, _, rfl, hS, by omega, by omega, by decide, by decide, by decide, ?_⟩
      refine ⟨_, _, _, rfl, rfl, by rw [letters_len]; decide, letter_at b1 b2, _, _, rfl, rfl, ?_, ?_⟩
      · rw [sOf_len, sOf_one, sOf_len]; exact Nat.le_of_lt (small1000 (by simp only [List.length_cons, List.length_nil]; omega))
      refine ⟨_, rfl, _, rfl, _, rfl, _, rfl, _, _, rfl, rfl, _, _, _, _, _, rfl, hS, by omega, by omega, by decide, by decide, by decide, ?_⟩
      refine ⟨_, _, _, rfl, rfl, by rw [letters_len]; decide, letter_at c1 c2, _, _, rfl, rfl, ?_, ?_⟩
      · rw [sOf_one, sOf_one, sOf_app, sOf_len, sOf_len]; exact Nat.le_of_lt (small1000 (by simp only [List.length_append, List.length_cons, List.length_nil]; omega))
      refine ⟨rfl, (st ++ [97 + (partOf ns (s + (0 + (i : Int))) 1 26).toNat]) ++ [97 + (partOf ns (s + (0 + (i : Int))) 26 26).toNat], some (.int (0 + (i : Int))), ?_, ?_, ?_⟩
      · rw [sOf_one, sOf_one, sOf_app, sOf_app]; rfl
      · simp only [List.length_append, List.length_cons, List.length_nil]; omega
      · exact (le.app (.one (by omega))).app (.one (by omega))
    · rintro σ H' ⟨rfl, st, y, rfl, hl, le⟩
      have hl : st.length = 6 := hl
      have t1 := part_lo (ns := ns) (s := s + 3) (u := 1) (z := 6) (by decide)
      have t2 := part_hi (ns := ns) (s := s + 3) (u := 1) (z := 6) (by decide)
      have u1 := part_lo (ns := ns) (s := s + 3) (u := 6) (z := 7) (by decide)
      have u2 := part_hi (ns := ns) (s := s + 3) (u := 6) (z := 7) (by decide)
      have v1 := part_lo (ns := ns) (s := s + 3) (u := 42) (z := 26) (by decide)
      have v2 := part_hi (ns := ns) (s := s + 3) (u := 42) (z := 26) (by decide)
      have w1 := part_lo (ns := ns) (s := s + 4) (u := 4) (z := 7) (by decide)
      have w2 := part_hi (ns := ns) (s := s + 4) (u := 4) (z := 7) (by decide)
      have x1 := part_lo (ns := ns) (s := s + 4) (u := 2) (z := 2) (by decide)
      have x2 := part_hi (ns := ns) (s := s + 4) (u := 2) (z := 2) (by decide)
      refine ⟨_, rfl, _, rfl, _, _, rfl, rfl, _, _, _, _, _, rfl, hS, by omega, by omega, by decide, by decide, by decide, ?_⟩
      refine ⟨_, rfl, _, rfl, _, _, rfl, rfl, _, _, _, _, _, rfl, hS, by omega, by omega, by decide, by decide, by decide, ?_⟩
      refine ⟨_, rfl, _, rfl, _, _, rfl, rfl, _, _, _, _, _, rfl, hS, by omega, by omega, by decide, by decide, by decide, ?_⟩
      refine ⟨_, rfl, _, rfl, _, rfl, _, _, rfl, rfl, _, _, _, _, _, rfl, hS, by omega, by omega, by decide, by decide, by decide, _, rfl, _, rfl, small_len (by omega), ?_⟩
      refine ⟨_, rfl, _, rfl, _, rfl, _, _, rfl, rfl, _, _, _, _, _, rfl, hS, by omega, by omega, by decide, by decide, by decide, _, rfl, _, rfl, small_len (by omega), ?_⟩
      rw [cut_to st w1, cut_to st x1]
      refine ⟨Nat.zero_le _, fun p np => ?_⟩
      have hS2 : ∀ o, SqL K (upd H' p o) a (ns.map V.int) := fun o => (same_upd np).seq hS
      let nf := nameF (decide (partOf ns (s + 4) 1 2 = 0)) st (st.take (partOf ns (s + 4) 4 7).toNat) (st.take (partOf ns (s + 4) 2 2).toNat) (partOf ns (s + 3) 6 7).toNat (partOf ns (s + 3) 42 26).toNat (partOf ns (s + 3) 1 6).toNat
      refine ⟨_, rfl, _, rfl, by omega, by omega, for_range (fun i σ H2 => H2 = upd H' p (.lst (((List.range i).map nf).map vN)) ∧ ∃ (y m : Option V), σ = [some (.ref a), some (.int s), some (.int n), some (.str lettersZ), some (vN st), y, some (.int (partOf ns (s + 3) 1 6)), some (.int (partOf ns (s + 3) 6 7)), some (.int (partOf ns (s + 3) 42 26)), some (vN (st.take (partOf ns (s + 4) 4 7).toNat)), some (vN (st.take (partOf ns (s + 4) 2 2).toNat)), some (.ref p), m]) ⟨rfl, _, _, rfl⟩ ?_ ?_⟩
      · rintro i σ H2 hi ⟨rfl, y, m, rfl⟩
        have hz : (((List.range i).map nf).map vN).length < sizeLine := by rw [List.length_map, List.length_map, List.length_range]; exact small1000 (by omega)
        have mk : (0 + (i : Int) + partOf ns (s + 3) 1 6) % 6 = (((i + (partOf ns (s + 3) 1 6).toNat) % 6 : Nat) : Int) := by omega
        have next : ∀ (l : List Nat), l = nf i → ((List.range i).map nf).map vN ++ [vN l] = ((List.range (i + 1)).map nf).map vN := by
          intro l e
          rw [List.range_succ, List.map_append, List.map_append, e]
          rfl
        refine ⟨_, rfl, _, rfl, _, _, rfl, rfl, .inl ⟨_, rfl, _, _, rfl, rfl, pz, ?_⟩⟩
        refine ⟨_, rfl, _, rfl, _, _, rfl, rfl, _, _, _, _, _, rfl, hS2 _, by omega, by omega, by decide, by decide, by decide, rfl, _, rfl, ite2 (fun e => ?_) (fun e => ?_)⟩
        · have e1 : decide (partOf ns (s + 4) 1 2 = 0) = true := by
            have := V.int.inj (of_decide_eq_true e)
            exact decide_eq_true this
          have f1 : 0 ≤ (partOf ns (s + 3) 42 26 + 7 * ((0 + (i : Int) + partOf ns (s + 3) 1 6) % 6)) % 26 := by omega
          have f2 : (partOf ns (s + 3) 42 26 + 7 * ((0 + (i : Int) + partOf ns (s + 3) 1 6) % 6)) % 26 < 26 := by omega
          refine ⟨_, rfl, .inl ⟨rfl, _, lstAt upd_same⟩, ?_⟩
          refine ⟨_, rfl, _, rfl, _, rfl, _, rfl, small_len (by rw [List.length_take]; omega), ?_⟩
          refine ⟨_, rfl, _, rfl, _, rfl, _, _, rfl, rfl, .inl (by decide), _, _, rfl, rfl, .inl ⟨_, rfl, _, _, rfl, rfl, pz, _, _, _, rfl, rfl, by rw [letters_len]; decide, letter_at f1 f2, ?_⟩⟩
          rw [cut_to _ u1]
          refine ⟨_, _, rfl, rfl, ?_, ?_⟩
          · rw [sOf_one, sOf_len, sOf_len]
            exact Nat.le_of_lt (small1000 (by rw [List.length_take, List.length_take]; simp only [List.length_cons, List.length_nil]; omega))
          refine ⟨_, rfl, _, rfl, _, rfl, _, rfl, small_len (by rw [List.length_take]; omega), ?_⟩
          rw [cut_from _ u1, sOf_one, sOf_app]
          refine ⟨_, _, rfl, rfl, ?_, ?_⟩
          · rw [sOf_len, sOf_len]
            exact Nat.le_of_lt (small1000 (by rw [List.length_append, List.length_take, List.length_take, List.length_drop, List.length_take]; simp only [List.length_cons, List.length_nil]; omega))
          refine ⟨_, rfl, _, _, rfl, rfl, ?_, ?_⟩
          · rw [sOf_app, sOf_len, sOf_len]
            exact Nat.le_of_lt (small1000 (by rw [List.length_append, List.length_append, List.length_take, List.length_take, List.length_drop, List.length_take, List.length_take]; simp only [List.length_cons, List.length_nil]; omega))
          rw [sOf_app, sOf_app]
          refine ⟨_, _, _, rfl, rfl, upd_same, hz, ?_, _, _, rfl⟩
          rw [upd_twice]
          congr 2
          refine next _ ?_
          show _ = nameF _ _ _ _ _ _ _ _
          unfold nameF
          rw [if_pos e1]
          congr 5
          omega
        · have e1 : ¬ decide (partOf ns (s + 4) 1 2 = 0) = true := by
            intro z
            have := of_decide_eq_true z
            exact e (decide_eq_true (congrArg V.int this))
          refine ⟨_, rfl, .inl ⟨rfl, _, lstAt upd_same⟩, ?_⟩
          refine ⟨_, rfl, _, rfl, _, _, rfl, rfl, _, rfl, _, rfl, small_len (by omega), ?_⟩
          rw [cut_to _ (show (0 : Int) ≤ (0 + (i : Int) + partOf ns (s + 3) 1 6) % 6 + 1 by omega)]
          refine ⟨_, _, _, rfl, rfl, upd_same, hz, ?_, _, _, rfl⟩
          rw [upd_twice]
          congr 2
          refine next _ ?_
          show _ = nameF _ _ _ _ _ _ _ _
          unfold nameF
          rw [if_neg e1]
          congr 1
          omega
      · rintro σ H2 ⟨rfl, y, m, rfl⟩
        refine ⟨_, rfl, q p ((List.range n.toNat).map nf) np ?_ ?_ ?_⟩
        · rw [List.length_map, List.length_range]; omega
        · intro z hz
          obtain ⟨k, hk, rfl⟩ := List.mem_map.mp hz
          exact nameF_nm hl (by rw [List.length_take]; omega) (by rw [List.length_take]; omega) le (le.take _) (le.take _)
        · refine nodup_range fun k j hk hj e => ?_
          exact nameF_inj hl (by omega) (by omega) e
end
end TK

namespace TK
open PySem PySem.Spec PyProof.Rows L2
/-! ### bidders -/
abbrev Bd := List Nat × Int × Int
def tB3 (c : Bd) : HO := .tup [vN c.1, .int c.2.1, .int c.2.2]
def CrewAt (H : Hp) (ts : List Addr) (cs : List Bd) : Prop := ts.length = cs.length ∧ ∀ (i : Nat) (t : Addr) (c : Bd), ts[i]? = some t → cs[i]? = some c → H t = some (tB3 c)
def BdOk (c : Bd) : Prop := Nm c.1 ∧ 1 ≤ c.2.1 ∧ c.2.1 ≤ 1000 ∧ 0 ≤ c.2.2 ∧ c.2.2 ≤ 1000000000
structure CrewOk (cs : List Bd) : Prop where
  ok : ∀ c ∈ cs, BdOk c
  nd : (cs.map (·.1)).Nodup
  few : cs.length ≤ 6
theorem CrewAt.same {H H' : Hp} {ts : List Addr} {cs : List Bd} (h : CrewAt H ts cs) (s : Same H H') : CrewAt H' ts cs := ⟨h.1, fun i t c a b => s _ _ (h.2 i t c a b)⟩
theorem CrewAt.snoc {H : Hp} {ts : List Addr} {cs : List Bd} {t : Addr} {c : Bd} (h : CrewAt H ts cs) (e : H t = some (tB3 c)) : CrewAt H (ts ++ [t]) (cs ++ [c]) := by
  refine ⟨by rw [List.length_append, List.length_append, h.1]; rfl, fun i t' c' a b => ?_⟩
  by_cases hi : i < ts.length
  · rw [List.getElem?_append_left hi] at a
    rw [List.getElem?_append_left (by rw [← h.1]; exact hi)] at b
    exact h.2 i t' c' a b
  · have hi' : i = ts.length := by
      have := (List.getElem?_eq_some_iff.mp a).1
      rw [List.length_append] at this
      simp only [List.length_cons, List.length_nil] at this
      omega
    subst hi'
    rw [List.getElem?_append_right (Nat.le_refl _), Nat.sub_self] at a
    rw [List.getElem?_append_right (by rw [h.1]; exact Nat.le_refl _), ← h.1, Nat.sub_self] at b
    cases a
    cases b
    exact e
theorem CrewAt.nil {H : Hp} : CrewAt H [] [] := ⟨rfl, fun i t c a _ => by simp at a⟩
theorem get_nm {zs : List (List Nat)} {i : Nat} (h : i < zs.length) : atI (zs.map vN) (0 + (i : Int)) = some (vN zs[i]) := by
  refine atI_in (by omega) ?_
  rw [show (0 + (i : Int)).toNat = i by omega, List.getElem?_map, List.getElem?_eq_getElem h]
  rfl
section
variable {P : Program} {w : World} {K : PySem.W.Frag} {mg : Str → Option Value} {base : Heap}
def spBidders (K : PySem.W.Frag) : Sp := fun vs H Q _ => ∃ (a : Addr) (ns : List Int) (s n : Int), vs = [.ref a, .int s, .int n] ∧ SqL K H a (ns.map V.int) ∧ 0 ≤ s ∧ s + 5 + 5 * n ≤ ns.length ∧ 0 ≤ n ∧ n ≤ 6 ∧
  ∀ (H' : Hp) (p : Addr) (ts : List Addr) (cs : List Bd), Same H H' → H p = none → H' p = some (.lst (ts.map V.ref)) → CrewAt H' ts cs → CrewOk cs → (cs.length : Int) = n → Q (.ref p) H'
theorem ok_L_bidders {f : Addr} {fd : FuncData} (F : Fun K "_law_bidders" "_law_bidders" s_L_bidders f fd) (m_range : mg "range" = none) (m_int : mg "int" = none)
    (d_L_part : Def P w K mg base "_law_part" 1 ["_law_pool_here", "_law_spot", "_law_under", "_law_size"] (spPart K)) (d_L_names : Def P w K mg base "_law_names" 2 ["_law_pool_here", "_law_spot", "_law_number"] (spNames K))
    (d_L_far : Def P w K mg base "_law_far" 1 ["_law_pool_here", "_law_spot", "_law_number"] (spFar K)) (d_L_chosen : Def P w K mg base "_law_chosen" 2 ["_law_pool_here", "_law_spot", "_law_under", "_law_small", "_law_crest", "_law_whole"] (spChosen K)) :
    FnOk P w K mg base CX0 3 f fd ["_law_pool_here", "_law_spot", "_law_number"] (spBidders K) := by
  refine F.ok sc_L_bidders (fun vs H Q E h => ?_) (fun cdv A outer s H vs Q E hr h => ?_)
  · obtain ⟨a, ns, s, n, rfl, _⟩ := h
    rfl
  · obtain ⟨a, ns, s, n, rfl, hS, h0, h1, h2, h3, q⟩ := h
    refine ⟨_, (pss_cons (ps_set (i := 3) sc_L_bidders.nd rfl (.inl rfl) (pe_callD d_L_names (hr.mono (by decide)) (by rfl) (pa_cons (pv 0) (pa_cons (pv 1) (pa_cons (pv 2) pa_nil)))))
  (pss_cons (ps_set (i := 4) sc_L_bidders.nd rfl (.inl rfl) (pe_lst pa_nil))
  (pss_cons (ps_for PassesOwn.never rfl (pi_range1 (by rfl) m_range (pa_cons (pv 2) pa_nil)) (pg_name (i := 5) sc_L_bidders.nd rfl (.inl rfl))
    (pss_cons (ps_set (i := 6) sc_L_bidders.nd rfl (.inl rfl) (pe_op op_add (pe_op op_add (pv 1) pe_int) (pe_op op_mul pe_int (pv 5))))
  (pss_cons (ps_set (i := 7) sc_L_bidders.nd rfl (.inl rfl) (pe_op op_add pe_int (pe_callD d_L_chosen (hr.mono (by decide)) (by rfl) (pa_cons (pv 0) (pa_cons (pv 6) (pa_cons pe_int (pa_cons pe_int (pa_cons pe_int (pa_cons (pe_callD d_L_far (hr.mono (by decide)) (by rfl) (pa_cons (pv 0) (pa_cons (pe_op op_add (pv 6) pe_int) (pa_cons pe_int pa_nil)))) pa_nil)))))))))
  (pss_cons (ps_set (i := 8) sc_L_bidders.nd rfl (.inl rfl) (pe_callD d_L_chosen (hr.mono (by decide)) (by rfl) (pa_cons (pv 0) (pa_cons (pv 6) (pa_cons pe_int (pa_cons pe_int (pa_cons (pe_op op_pow pe_int pe_int) (pa_cons (pe_callD d_L_far (hr.mono (by decide)) (by rfl) (pa_cons (pv 0) (pa_cons (pe_op op_add (pv 6) pe_int) (pa_cons pe_int pa_nil)))) pa_nil))))))))
  (pss_cons (ps_if (pt_cmpR op_eq (pe_callD d_L_part (hr.mono (by decide)) (by rfl) (pa_cons (pv 0) (pa_cons (pe_op op_add (pv 1) pe_int) (pa_cons pe_int (pa_cons pe_int pa_nil))))) pe_int (nomark _)) (pss_cons (ps_set (i := 7) sc_L_bidders.nd rfl (.inl rfl) (pe_op op_add pe_int (pe_op op_mod (pe_callTy call_int1 (by rfl) m_int (by decide +kernel) (pa_cons (pe_op op_sub (pv 7) pe_int) pa_nil)) pe_int)))
  (pss_one (ps_set (i := 8) sc_L_bidders.nd rfl (.inl rfl) (pe_op op_mod (pe_callTy call_int1 (by rfl) m_int (by decide +kernel) (pa_cons (pv 8) pa_nil)) pe_int)))) pss_nil)
  (pss_cons (ps_if (PW.pt (pw_and (pt_cmpR op_le (pv 7) pe_int (nomark _)) (pw_and1 (pt_cmpR op_lt (pe_callD d_L_part (hr.mono (by decide)) (by rfl) (pa_cons (pv 0) (pa_cons (pe_op op_add (pv 6) pe_int) (pa_cons pe_int (pa_cons pe_int pa_nil))))) pe_int (nomark _))))) (pss_one (ps_set (i := 8) sc_L_bidders.nd rfl (.inl rfl) (pe_op op_fdiv pe_int (pv 7)))) pss_nil)
  (pss_one (ps_expr (pe_bm PySem.F.plainAttrs_list PySem.F.slot_list_append PySem.F.type_list_append mt_append (pv 4) (pa_cons (pe_tup (pa_cons (pe_ix ix_list (pv 3) (pv 5) (fun _ _ => rfl)) (pa_cons (pv 7) (pa_cons (pv 8) pa_nil)))) pa_nil))))))))))
  (pss_one (ps_ret (pv 4)))))), ?_⟩
    refine ⟨_, rfl, _, rfl, _, rfl, _, _, _, _, rfl, hS, h0, by omega, h2, h3, fun zn zs nzn lz okz ndz => ?_⟩
    have s1 : Same H (upd H zn (.lst (zs.map vN))) := same_upd nzn
    refine ⟨Nat.zero_le _, fun p np => ?_⟩
    have np0 : H p = none := s1.free np
    have hne : zn ≠ p := fun e => by subst e; rw [upd_same] at np; cases np
    refine ⟨_, rfl, _, rfl, by omega, by omega, for_range (fun i σ H2 => ∃ (y6 y7 y8 y5 : Option V) (ts : List Addr) (cs : List Bd), σ = [some (.ref a), some (.int s), some (.int n), some (.ref zn), some (.ref p), y5, y6, y7, y8] ∧ Same H H2 ∧ H2 zn = some (.lst (zs.map vN)) ∧ H2 p = some (.lst (ts.map V.ref)) ∧ CrewAt H2 ts cs ∧ cs.length = i ∧ cs.map (·.1) = zs.take i ∧ ∀ c ∈ cs, BdOk c)
      ⟨_, _, _, _, [], [], rfl, same_at s1 np0, by rw [upd_ne hne, upd_same], upd_same, .nil, rfl, rfl, fun c hc => nomatch hc⟩ ?_ ?_⟩
    · rintro i σ H2 hi ⟨y6, y7, y8, y5, ts, cs, rfl, sm, ez, ep, ca, hl, hn, hok⟩
      have hS2 : SqL K H2 a (ns.map V.int) := sm.seq hS
      have hiz : i < zs.length := by omega
      have hzz : (ts.map V.ref).length < sizeLine := by rw [List.length_map, ca.1]; exact small1000 (by omega)
      refine ⟨_, rfl, _, _, rfl, rfl, _, rfl, _, _, rfl, rfl, .inl (by decide), _, _, rfl, rfl, ?_⟩
      refine ⟨_, rfl, _, rfl, _, rfl, _, rfl, _, _, rfl, rfl, _, _, _, _, rfl, hS2, by omega, by decide, by decide, by omega, fun z1 _ => ?_⟩
      refine ⟨_, _, _, _, _, _, _, rfl, hS2, by omega, by omega, by decide, by decide, by decide, by decide, fun wt w0 w1 => ?_⟩
      refine ⟨_, _, rfl, rfl, ?_⟩
      refine ⟨_, rfl, _, rfl, _, _, rfl, rfl, ⟨by decide, by decide, by decide⟩, _, rfl, _, rfl, _, _, rfl, rfl, _, _, _, _, rfl, hS2, by omega, by decide, by decide, by omega, fun z2 _ => ?_⟩
      refine ⟨_, _, _, _, _, _, _, rfl, hS2, by omega, by omega, by decide, by decide, by decide, by decide, fun bd b0 b1 => ?_⟩
      have b1' : bd ≤ 1000000000 := b1
      have leaf : ∀ (W B : Int) (t : Addr) (H3 : Hp), 1 ≤ W → W ≤ 1000 → 0 ≤ B → B ≤ 1000000000 → H2 t = none → H3 = upd (upd H2 t (.tup [vN zs[i], .int W, .int B])) p (.lst (ts.map V.ref ++ [V.ref t])) →
          ∃ (ts : List Addr) (cs : List Bd), Same H H3 ∧ H3 zn = some (.lst (zs.map vN)) ∧ H3 p = some (.lst (ts.map V.ref)) ∧ CrewAt H3 ts cs ∧ cs.length = i + 1 ∧ cs.map (·.1) = zs.take (i + 1) ∧ ∀ c ∈ cs, BdOk c := by
        intro W B t H3 q1 q2 q3 q4 nt e
        subst e
        have ntp : t ≠ p := fun e => by subst e; rw [ep] at nt; cases nt
        have s3 : Same H2 (upd H2 t (.tup [vN zs[i], .int W, .int B])) := same_upd nt
        have st : ∀ b o, b ≠ p → H2 b = some o → (upd (upd H2 t (.tup [vN zs[i], .int W, .int B])) p (.lst (ts.map V.ref ++ [V.ref t]))) b = some o := fun b o hb e => by
          rw [upd_ne hb]; exact s3 _ _ e
        refine ⟨ts ++ [t], cs ++ [(zs[i], W, B)], fun b o e => ?_, st _ _ hne ez, by rw [upd_same, List.map_append]; rfl, ?_, by rw [List.length_append, hl]; rfl, ?_, ?_⟩
        · exact st _ _ (ne_of_none e np0) (sm _ _ e)
        · refine CrewAt.snoc ⟨ca.1, fun j t' c' e1 e2 => ?_⟩ ?_
          · have := ca.2 j t' c' e1 e2
            refine st _ _ (fun e => ?_) this
            subst e
            rw [ep] at this
            cases this
          · rw [upd_ne ntp, upd_same]
            rfl
        · rw [List.map_append, hn, List.take_add_one, List.getElem?_eq_getElem hiz]
          rfl
        · intro c hc
          rcases List.mem_append.mp hc with e | e
          · exact hok c e
          · cases List.mem_singleton.mp e
            exact ⟨okz _ (List.getElem_mem hiz), q1, q2, q3, q4⟩
      have fin : ∀ (W B : Int) (t : Addr) (y6 : Option V) (σ' : L2.St) (H3 : Hp), 1 ≤ W → W ≤ 1000 → 0 ≤ B → B ≤ 1000000000 → H2 t = none → σ' = [some (.ref a), some (.int s), some (.int n), some (.ref zn), some (.ref p), some (.int (0 + (i : Int))), y6, some (.int W), some (.int B)] → H3 = upd (upd H2 t (.tup [vN zs[i], .int W, .int B])) p (.lst (ts.map V.ref ++ [V.ref t])) →
          ∃ (y6 y7 y8 y5 : Option V) (ts : List Addr) (cs : List Bd), σ' = [some (.ref a), some (.int s), some (.int n), some (.ref zn), some (.ref p), y5, y6, y7, y8] ∧ Same H H3 ∧ H3 zn = some (.lst (zs.map vN)) ∧ H3 p = some (.lst (ts.map V.ref)) ∧ CrewAt H3 ts cs ∧ cs.length = i + 1 ∧ cs.map (·.1) = zs.take (i + 1) ∧ ∀ c ∈ cs, BdOk c := by
        intro W B t y6 σ' H3 q1 q2 q3 q4 nt e1 e2
        obtain ⟨ts', cs', r⟩ := leaf W B t H3 q1 q2 q3 q4 nt e2
        exact ⟨_, _, _, _, ts', cs', e1, r⟩
      refine ⟨_, rfl, _, rfl, _, _, rfl, rfl, _, _, _, _, _, rfl, hS2, by omega, by omega, by decide, by decide, by decide, rfl, _, rfl, ite2 (fun e => ?_) (fun e => ?_)⟩
      · refine ⟨_, rfl, _, _, rfl, rfl, .inl ⟨_, rfl, _, _, rfl, rfl, pz, _, _, rfl, rfl, ?_⟩⟩
        refine ⟨_, rfl, .inl ⟨_, rfl, _, _, rfl, rfl, pz, ?_⟩⟩
        refine ⟨_, rfl, _, _, rfl, rfl, _, rfl, ite2 (fun e => ?_) (fun e => ?_)⟩
        · have e4 := of_decide_eq_true e
          refine ⟨_, rfl, _, rfl, _, _, rfl, rfl, _, _, _, _, _, rfl, hS2, by omega, by omega, by decide, by decide, by decide, _, _, rfl, rfl, _, rfl, ite2 (fun e => ?_) (fun e => ?_)⟩
          · refine ⟨_, rfl, _, _, rfl, rfl, ⟨by omega, by omega⟩, ?_⟩
            refine ⟨_, rfl, .inl ⟨rfl, _, lstAt ep⟩, _, rfl, _, rfl, _, _, _, _, rfl, rfl, lstAt ez, get_nm hiz, _, rfl, _, rfl, (show 3 ≤ sizeLine by decide), fun t nt => ⟨_, _, _, rfl, rfl, by rw [upd_ne (ne_of_none ep nt)]; exact ep, hzz, fin _ _ t _ _ _ (by omega) (by omega) (Int.ediv_nonneg (by decide) (by omega)) (Int.le_trans (Int.ediv_le_self _ (by decide)) (by decide)) nt rfl rfl⟩⟩
          · refine ⟨_, rfl, .inl ⟨rfl, _, lstAt ep⟩, _, rfl, _, rfl, _, _, _, _, rfl, rfl, lstAt ez, get_nm hiz, _, rfl, _, rfl, (show 3 ≤ sizeLine by decide), fun t nt => ⟨_, _, _, rfl, rfl, by rw [upd_ne (ne_of_none ep nt)]; exact ep, hzz, fin _ _ t _ _ _ (by omega) (by omega) (by omega) (by omega) nt rfl rfl⟩⟩
        · refine iteF ?_
          refine ⟨_, rfl, .inl ⟨rfl, _, lstAt ep⟩, _, rfl, _, rfl, _, _, _, _, rfl, rfl, lstAt ez, get_nm hiz, _, rfl, _, rfl, (show 3 ≤ sizeLine by decide), fun t nt => ⟨_, _, _, rfl, rfl, by rw [upd_ne (ne_of_none ep nt)]; exact ep, hzz, fin _ _ t _ _ _ (by omega) (by omega) (by omega) (by omega) nt rfl rfl⟩⟩
      · refine ⟨_, rfl, _, _, rfl, rfl, _, rfl, ite2 (fun e => ?_) (fun e => ?_)⟩
        · have e4 := of_decide_eq_true e
          refine ⟨_, rfl, _, rfl, _, _, rfl, rfl, _, _, _, _, _, rfl, hS2, by omega, by omega, by decide, by decide, by decide, _, _, rfl, rfl, _, rfl, ite2 (fun e => ?_) (fun e => ?_)⟩
          · refine ⟨_, rfl, _, _, rfl, rfl, ⟨by omega, by omega⟩, ?_⟩
            refine ⟨_, rfl, .inl ⟨rfl, _, lstAt ep⟩, _, rfl, _, rfl, _, _, _, _, rfl, rfl, lstAt ez, get_nm hiz, _, rfl, _, rfl, (show 3 ≤ sizeLine by decide), fun t nt => ⟨_, _, _, rfl, rfl, by rw [upd_ne (ne_of_none ep nt)]; exact ep, hzz, fin _ _ t _ _ _ (by omega) (by omega) (Int.ediv_nonneg (by decide) (by omega)) (Int.le_trans (Int.ediv_le_self _ (by decide)) (by decide)) nt rfl rfl⟩⟩
          · refine ⟨_, rfl, .inl ⟨rfl, _, lstAt ep⟩, _, rfl, _, rfl, _, _, _, _, rfl, rfl, lstAt ez, get_nm hiz, _, rfl, _, rfl, (show 3 ≤ sizeLine by decide), fun t nt => ⟨_, _, _, rfl, rfl, by rw [upd_ne (ne_of_none ep nt)]; exact ep, hzz, fin _ _ t _ _ _ (by omega) (by omega) b0 b1 nt rfl rfl⟩⟩
        · refine iteF ?_
          refine ⟨_, rfl, .inl ⟨rfl, _, lstAt ep⟩, _, rfl, _, rfl, _, _, _, _, rfl, rfl, lstAt ez, get_nm hiz, _, rfl, _, rfl, (show 3 ≤ sizeLine by decide), fun t nt => ⟨_, _, _, rfl, rfl, by rw [upd_ne (ne_of_none ep nt)]; exact ep, hzz, fin _ _ t _ _ _ (by omega) (by omega) b0 b1 nt rfl rfl⟩⟩
    · rintro σ H2 ⟨y6, y7, y8, y5, ts, cs, rfl, sm, ez, ep, ca, hl, hn, hok⟩
      refine ⟨_, rfl, q H2 p ts cs sm np0 ep ca ⟨hok, ?_, by omega⟩ (by omega)⟩
      rw [hn, List.take_of_length_le (by omega)]
      exact ndz
end
end TK

namespace TK
open PySem PySem.Spec PyProof.Rows L2
section
variable {P : Program} {w : World} {K : PySem.W.Frag} {mg : Str → Option Value} {base : Heap}
/-! _law_sill -/
def spSill (K : PySem.W.Frag) : Sp := fun vs H Q _ => ∃ (a p : Addr) (ns : List Int) (s : Int) (ts : List Addr) (cs : List Bd), vs = [.ref a, .int s, .ref p] ∧ SqL K H a (ns.map V.int) ∧ 0 ≤ s ∧ s + 5 ≤ ns.length ∧ H p = some (.lst (ts.map V.ref)) ∧ CrewAt H ts cs ∧ CrewOk cs ∧
  ∀ (H' : Hp) (r : Int), Same H H' → 0 ≤ r → r ≤ 1000000000000 → Q (.int r) H'
theorem nm_ok {l : List Nat} (h : Nm l) : PyData.strOk (sOf l) = true := by
  show (sOf l).cps.all (· < 0x110000) = true
  rw [← Array.all_toList, sOf_codes, List.all_eq_true]
  intro c hc
  have := h.2.2 c hc
  exact decide_eq_true (by omega)
theorem crew_dp {K : PySem.W.Frag} {H : Hp} : ∀ {ts : List Addr} {cs : List Bd}, CrewAt H ts cs → (∀ c ∈ cs, BdOk c) → ∃ ds, DpAll K H (ts.map V.ref) ds ∧ ds.length = ts.length ∧ PyData.canLayAll0 ds = true ∧ PyData.depthAll ds ≤ 1
  | [], _, _, _ => ⟨[], .nil, rfl, by simp [PyData.canLayAll0], by simp [PyData.depthAll]⟩
  | t :: ts, [], h, _ => by cases h.1
  | t :: ts, c :: cs, h, ok => by
    obtain ⟨ds, h1, h2, h3, h4⟩ := crew_dp (K := K) (ts := ts) (cs := cs) ⟨Nat.succ.inj h.1, fun i t' c' a b => h.2 (i + 1) t' c' a b⟩ fun c hc => ok c (List.mem_cons_of_mem _ hc)
    have e : H t = some (tB3 c) := h.2 0 t c rfl rfl
    refine ⟨.tuple [.str (sOf c.1), .int c.2.1, .int c.2.2] :: ds, .cons (.tup (tupAt e) (.cons (.str _) (.cons (.int _) (.cons (.int _) .nil)))) h1, congrArg Nat.succ h2, ?_, ?_⟩
    · simp only [PyData.canLayAll0, PyData.canLay0, Bool.and_true, Bool.and_eq_true]
      exact ⟨nm_ok (ok c (List.mem_cons_self ..)).1, h3⟩
    · simp only [PyData.depthAll, PyData.depth]
      omega
theorem four {i : Int} (h0 : 0 ≤ i) (h1 : i < 4) : ∃ v : Int, atI [V.int 0, V.int 0, V.int 1, V.int (-1)] i = some (.int v) ∧ -1 ≤ v ∧ v ≤ 1 := by
  obtain rfl | rfl | rfl | rfl : i = 0 ∨ i = 1 ∨ i = 2 ∨ i = 3 := by omega
  · exact ⟨0, rfl, by decide, by decide⟩
  · exact ⟨0, rfl, by decide, by decide⟩
  · exact ⟨1, rfl, by decide, by decide⟩
  · exact ⟨-1, rfl, by decide, by decide⟩
theorem ok_L_sill {f : Addr} {fd : FuncData} (F : Fun K "_law_sill" "_law_sill" s_L_sill f fd) (m_int : mg "int" = none) (m_len : mg "len" = none) (m_min : mg "min" = none) (m_max : mg "max" = none)
    (d_L_part : Def P w K mg base "_law_part" 1 ["_law_pool_here", "_law_spot", "_law_under", "_law_size"] (spPart K)) 
    (d_L_far : Def P w K mg base "_law_far" 1 ["_law_pool_here", "_law_spot", "_law_number"] (spFar K)) :
    FnOk P w K mg base CX0 2 f fd ["_law_pool_here", "_law_spot", "_law_crew"] (spSill K) := by
  refine F.ok sc_L_sill (fun vs H Q E h => ?_) (fun cdv A outer s H vs Q E hr h => ?_)
  · obtain ⟨a, p, ns, s, ts, cs, rfl, _⟩ := h
    rfl
  · obtain ⟨a, p, ns, s, ts, cs, rfl, hS, h0, h1, hp, ca, ck, q⟩ := h
    refine ⟨_, (pss_cons (ps_set (i := 3) sc_L_sill.nd rfl (.inl rfl) (pe_callD d_L_part (hr.mono (by decide)) (by rfl) (pa_cons (pv 0) (pa_cons (pv 1) (pa_cons pe_int (pa_cons pe_int pa_nil))))))
  (pss_cons (ps_set (i := 4) sc_L_sill.nd rfl (.inl rfl) (pe_callD d_L_part (hr.mono (by decide)) (by rfl) (pa_cons (pv 0) (pa_cons (pv 1) (pa_cons pe_int (pa_cons pe_int pa_nil))))))
  (pss_cons (ps_if (pt_cmpR op_lt (pv 3) pe_int (nomark _)) (pss_one (ps_ret pe_int)) pss_nil)
  (pss_cons (ps_if (PW.pt (pw_and (pt_cmpR op_lt (pv 3) pe_int (nomark _)) (pw_and1 (pt_cmpR (op_neD hr.units) (pv 2) (pe_lst pa_nil) (nomark _))))) (pss_cons (ps_asg (pe_ix ix_list (pv 2) (pe_op op_mod (pe_callTy call_int1 (by rfl) m_int (by decide +kernel) (pa_cons (pv 4) pa_nil)) (pe_callB call_len_seq (by rfl) m_len (by decide +kernel) (pa_cons (pv 2) pa_nil))) (fun _ _ => rfl)) (pg_tup (by rfl) (pgs_cons (pg_name (i := 5) sc_L_sill.nd rfl (.inl rfl)) (pgs_cons (pg_name (i := 6) sc_L_sill.nd rfl (.inl rfl)) (pgs_cons (pg_name (i := 7) sc_L_sill.nd rfl (.inl rfl)) pgs_nil)))))
  (pss_one (ps_ret (pe_callB (call_min2 rfl) (by rfl) m_min (by decide +kernel) (pa_cons (pe_callB (call_max2 rfl) (by rfl) m_max (by decide +kernel) (pa_cons pe_int (pa_cons (pe_op op_add (pe_op op_mul (pv 6) (pv 7)) (pe_ix ix_list (pe_lst (pa_cons pe_int (pa_cons pe_int (pa_cons pe_int (pa_cons (pe_un un_neg pe_int) pa_nil))))) (pe_op op_sub (pv 3) pe_int) (fun _ _ => rfl))) pa_nil))) (pa_cons (pe_op op_pow pe_int pe_int) pa_nil)))))) pss_nil)
  (pss_cons (ps_if (pt_cmpR op_eq (pv 3) pe_int (nomark _)) (pss_one (ps_ret (pv 4))) pss_nil)
  (pss_one (ps_ret (pe_op op_mod (pe_callTy call_int1 (by rfl) m_int (by decide +kernel) (pa_cons (pe_callD d_L_far (hr.mono (by decide)) (by rfl) (pa_cons (pv 0) (pa_cons (pe_op op_add (pv 1) pe_int) (pa_cons pe_int pa_nil)))) pa_nil)) (pe_op op_add (pe_op op_pow pe_int pe_int) pe_int))))))))), ?_⟩
    have w1 := part_lo (ns := ns) (s := s) (u := 1) (z := 8) (by decide)
    have w2 := part_hi (ns := ns) (s := s) (u := 1) (z := 8) (by decide)
    have n1 := part_lo (ns := ns) (s := s) (u := 8) (z := 60) (by decide)
    have n2 := part_hi (ns := ns) (s := s) (u := 8) (z := 60) (by decide)
    refine ⟨_, rfl, _, rfl, _, _, _, _, _, rfl, hS, by omega, by omega, by decide, by decide, by decide, ?_⟩
    refine ⟨_, rfl, _, rfl, _, _, _, _, _, rfl, hS, by omega, by omega, by decide, by decide, by decide, ?_⟩
    refine ⟨_, rfl, _, _, rfl, rfl, _, rfl, ite2 (fun e => ?_) (fun e => ?_)⟩
    · exact q _ _ (Same.refl _) (by decide) (by decide)
    · have e2 : ¬ partOf ns s 1 8 < 2 := fun z => e (decide_eq_true z)
      refine ⟨_, rfl, _, _, rfl, rfl, _, rfl, ite2 (fun e => ?_) (fun e => ?_)⟩
      · have e6 : partOf ns s 1 8 < 6 := of_decide_eq_true e
        refine ⟨_, rfl, Nat.zero_le _, fun z nz => ?_⟩
        have sm : Same H (upd H z (.lst [])) := same_upd nz
        obtain ⟨ds, d1, d2, d3, d4⟩ := crew_dp (K := K) (ca.same sm) ck.ok
        refine ⟨.list ds, .list [], .lst (lstAt (sm _ _ hp)) d1, .lst (lstAt upd_same) .nil, ?_, rfl, _, rfl, ite2 (fun e => ?_) (fun e => ?_)⟩
        · show ((PyData.list ds).canLay0 && decide ((PyData.list ds).depth ≤ 64)) = true
          rw [show (PyData.list ds).canLay0 = true by simp only [PyData.canLay0, d3], show (PyData.list ds).depth = PyData.depthAll ds + 1 by simp only [PyData.depth]]
          exact decide_eq_true (by omega)
        · have ne : ts ≠ [] := fun z => by
            subst z
            cases ds with
            | nil => exact absurd e (by decide)
            | cons d r => cases d2
          have hl : 0 < ts.length := List.length_pos_iff.mpr ne
          have hm1 := Int.emod_nonneg (partOf ns s 8 60) (show ((ts.map V.ref).length : Int) ≠ 0 by rw [List.length_map]; omega)
          have hm2 := Int.emod_lt_of_pos (partOf ns s 8 60) (show (0 : Int) < ((ts.map V.ref).length : Int) by rw [List.length_map]; omega)
          rw [List.length_map] at hm1 hm2
          have hj : (partOf ns s 8 60 % (ts.length : Int)).toNat < ts.length := by omega
          have hj2 : (partOf ns s 8 60 % (ts.length : Int)).toNat < cs.length := by rw [← ca.1]; exact hj
          have hc := (ca.same sm).2 _ _ _ (List.getElem?_eq_getElem hj) (List.getElem?_eq_getElem hj2)
          obtain ⟨_, c1, c2, c3, c4⟩ := ck.ok _ (List.getElem_mem hj2)
          have hat : atI (ts.map V.ref) (partOf ns s 8 60 % ((ts.map V.ref).length : Int)) = some (.ref ts[(partOf ns s 8 60 % (ts.length : Int)).toNat]) := by
            rw [List.length_map]
            refine atI_in hm1 ?_
            rw [List.getElem?_map, List.getElem?_eq_getElem hj]
            rfl
          refine ⟨_, rfl, _, rfl, .inl ⟨_, rfl, _, rfl, _, _, rfl, .inl (lstAt (sm _ _ hp)), _, _, rfl, rfl, (by show (0 : Int) < ((ts.map V.ref).length : Int); rw [List.length_map]; omega), _, _, _, _, rfl, rfl, lstAt (sm _ _ hp), hat, _, _, rfl, tupAt hc, rfl, _, _, rfl, _, _, rfl, _, _, rfl, rfl, ?_⟩⟩
          obtain ⟨v, ev, v1, v2⟩ := four (i := partOf ns s 1 8 - 2) (by omega) (by omega)
          refine ⟨_, rfl, _, rfl, _, _, rfl, rfl, .inl ⟨by omega, by omega⟩, _, rfl, (show 4 ≤ sizeLine by decide), fun l nl => ⟨_, rfl, _, _, rfl, rfl, _, _, _, _, rfl, rfl, lstAt upd_same, ev, _, _, rfl, rfl, _, _, rfl, _, _, rfl, rfl, ⟨by decide, by decide, by decide⟩, _, _, rfl, ?_⟩⟩
          have e12 : (10 : Int) ^ (12 : Int).toNat = 1000000000000 := by decide
          have g0 : 0 ≤ cs[(partOf ns s 8 60 % (ts.length : Int)).toNat].2.1 * cs[(partOf ns s 8 60 % (ts.length : Int)).toNat].2.2 := Int.mul_nonneg (by omega) c3
          generalize cs[(partOf ns s 8 60 % (ts.length : Int)).toNat].2.1 * cs[(partOf ns s 8 60 % (ts.length : Int)).toNat].2.2 = pr at g0 ⊢
          rw [e12]
          refine q _ _ (sm.trans (same_upd nl)) ?_ ?_
          · split
            · omega
            · split <;> omega
          · split
            · omega
            · omega
        · refine ⟨_, rfl, rfl, _, rfl, ite2 (fun e => ?_) (fun e => ?_)⟩
          · exact ⟨_, rfl, q _ _ sm n1 (by omega)⟩
          · refine ⟨_, rfl, _, rfl, _, _, rfl, rfl, _, _, _, _, rfl, sm.seq hS, by omega, by decide, by decide, by omega, fun r r0 => .inl ⟨_, rfl, _, _, rfl, rfl, ⟨by decide, by decide, by decide⟩, _, _, rfl, rfl, _, _, rfl, rfl, (show (0 : Int) < 1000000000001 by decide), ?_⟩⟩
            have m1 := Int.emod_nonneg r (show (1000000000001 : Int) ≠ 0 by decide)
            have m2 := Int.emod_lt_of_pos r (show (0 : Int) < 1000000000001 by decide)
            exact q _ _ sm m1 (show r % 1000000000001 ≤ 1000000000000 by omega)
      · have sm := Same.refl H
        refine iteF ?_
        refine ⟨_, rfl, rfl, _, rfl, ite2 (fun e => ?_) (fun e => ?_)⟩
        · exact ⟨_, rfl, q _ _ sm n1 (by omega)⟩
        · refine ⟨_, rfl, _, rfl, _, _, rfl, rfl, _, _, _, _, rfl, sm.seq hS, by omega, by decide, by decide, by omega, fun r r0 => .inl ⟨_, rfl, _, _, rfl, rfl, ⟨by decide, by decide, by decide⟩, _, _, rfl, rfl, _, _, rfl, rfl, (show (0 : Int) < 1000000000001 by decide), ?_⟩⟩
          have m1 := Int.emod_nonneg r (show (1000000000001 : Int) ≠ 0 by decide)
          have m2 := Int.emod_lt_of_pos r (show (0 : Int) < 1000000000001 by decide)
          exact q _ _ sm m1 (show r % 1000000000001 ≤ 1000000000000 by omega)
/-! _law_integer: of an int -/
def spInteger : Sp := fun vs H Q _ => ∃ i : Int, vs = [.int i] ∧ Q (.bl true) H
theorem ok_L_integer {f : Addr} {fd : FuncData} (F : Fun K "_law_integer" "_law_integer" s_L_integer f fd) (m_isinstance : mg "isinstance" = none) (m_int : mg "int" = none) (m_bool : mg "bool" = none) :
    FnOk P w K mg base CX0 1 f fd ["_law_got"] spInteger := by
  refine F.ok sc_L_integer (fun vs H Q E h => ?_) (fun cdv A outer s H vs Q E hr h => ?_)
  · obtain ⟨i, rfl, _⟩ := h
    rfl
  · obtain ⟨i, rfl, q⟩ := h
    refine ⟨_, (pss_one (ps_ret (pe_and (pe_callB call_isi (by rfl) m_isinstance (by decide +kernel) (pa_cons (pv 0) (pa_cons (pe_bltn (v := .ty "int") (u := .type "int") (by rfl) m_int (by decide +kernel) rfl) pa_nil))) (pe_one (pe_not (pe_callB call_isi (by rfl) m_isinstance (by decide +kernel) (pa_cons (pv 0) (pa_cons (pe_bltn (v := .ty "bool") (u := .type "bool") (by rfl) m_bool (by decide +kernel) rfl) pa_nil)))))))), ?_⟩
    refine ⟨_, rfl, _, _, _, _, true, rfl, .ty "int", .base (.int i), rfl, _, rfl, iteT ?_⟩
    refine ⟨_, rfl, _, _, _, _, false, rfl, .ty "bool", .base (.int i), rfl, _, rfl, ?_⟩
    exact q
end
end TK

namespace TK
open PySem PySem.Spec PyProof.Rows L2
section
variable {P : Program} {w : World} {K : PySem.W.Frag} {mg : Str → Option Value} {base : Heap}
/-! is_name, of a name -/
def spIsName : Sp := fun vs H Q _ => ∃ l : List Nat, vs = [vN l] ∧ Nm l ∧ ∀ H', Same H H' → Q (.bl true) H'
theorem all_true {n : Nat} : (List.replicate n true).all id = true := by
  induction n with
  | zero => rfl
  | succ n ih => rw [List.replicate_succ, List.all_cons, ih]; rfl
theorem ok_is_name {f : Addr} {fd : FuncData} (F : Fun K "is_name" "is_name" s_is_name f fd) (m_len : mg "len" = none) (m_all : mg "all" = none) {tk : Tok} (g_LETTERS : mg "LETTERS" = some (.str lettersZ tk)) : FnOk P w K mg base CX0 1 f fd ["word"] spIsName := by
  refine F.ok sc_is_name (fun vs H Q E h => ?_) (fun cdv A outer s H vs Q E hr h => ?_)
  · obtain ⟨l, rfl, _⟩ := h
    rfl
  · obtain ⟨l, rfl, ⟨h1, h2, h3⟩, q⟩ := h
    refine ⟨_, (pss_one (ps_ret (pe_and (pe_chain op_le op_le pe_int (pe_callB call_len_str (by rfl) m_len (by decide +kernel) (pa_cons (pv 0) pa_nil)) pe_int) (pe_one (pe_callB (cr_all rfl) (by rfl) m_all (by decide +kernel) (pa_cons (pe_lc (own := [("sign", 1)]) (by rfl) sc_is_name.nd (pi_str (pv 0)) (blkOk_by (N := ["word", "sign"]) (sc := defScope s_is_name) (by decide +kernel)) (fun _ _ _ _ _ => (pg_name (i := 1) sc_is_name.nd rfl (.inl rfl))) (fun _ _ _ _ _ => pts_nil) (fun _ _ _ _ _ => (pe_cmpR op_in_sign (pv 1) (pe_glob (v := .str lettersZ) (by rfl) g_LETTERS ⟨_, rfl⟩) (by rfl)))) pa_nil)))))), ?_⟩
    refine ⟨_, rfl, _, rfl, small_len (by omega), _, _, rfl, rfl, _, rfl, ?_⟩
    rw [decide_eq_true (show (1 : Int) ≤ ((sOf l).length : Nat) by rw [sOf_len]; omega)]
    refine iteT ⟨_, _, rfl, rfl, _, rfl, ?_⟩
    rw [decide_eq_true (show (((sOf l).length : Nat) : Int) ≤ 8 by rw [sOf_len]; omega)]
    refine iteT ⟨_, rfl, _, rfl, fun D nD => ?_⟩
    refine lc_it walk_str (fun i H' => H' = upd H D (.lst ((List.replicate i true).map V.bl))) rfl (fun _ _ _ _ => True.intro) (fun i x H1 H2 hi hp hy => ?_) (fun H' hp => ?_)
    · subst hp
      obtain ⟨rfl, c, hc, rfl⟩ := hy
      have hcl : c ∈ l := by
        have : (sOf l).cps.toList[i]? = some c := by rw [Array.getElem?_toList]; exact hc
        exact List.mem_of_getElem? this
      have hin : c ∈ lettersZ.cps.toList := by
        rw [letters_codes]
        have := h3 c hcl
        exact List.mem_map.mpr ⟨c - 97, List.mem_range.mpr (by omega), by omega⟩
      have hil : i < l.length := by
        have : (sOf l).cps.size = l.length := sOf_len l
        omega
      refine ⟨rfl, yesT ⟨_, rfl, _, _, rfl, rfl, _, upd_same, ?_, ?_⟩⟩
      · rw [List.length_map, List.length_replicate]; exact small1000 (by omega)
      · rw [upd_twice, decide_eq_true hin, List.replicate_succ', List.map_append]
        rfl
    · subst hp
      refine ⟨_, _, rfl, lstAt upd_same, ?_⟩
      rw [all_true]
      exact q _ (same_upd nD)
/-! strength, _weakness -/
def spStrength (K : PySem.W.Frag) : Sp := fun vs H Q _ => ∃ (t : Addr) (c : Bd), vs = [.ref t] ∧ H t = some (tB3 c) ∧ BdOk c ∧ Q (.int (c.2.1 * c.2.2)) H
theorem ok_strength {f : Addr} {fd : FuncData} (F : Fun K "strength" "strength" s_strength f fd) : FnOk P w K mg base CX0 1 f fd ["bidder"] (spStrength K) := by
  refine F.ok sc_strength (fun vs H Q E h => ?_) (fun cdv A outer s H vs Q E hr h => ?_)
  · obtain ⟨t, c, rfl, _⟩ := h
    rfl
  · obtain ⟨t, c, rfl, ht, ⟨_, c1, c2, c3, c4⟩, q⟩ := h
    refine ⟨_, (pss_cons (ps_asg (pv 0) (pg_tup (by rfl) (pgs_cons (pg_name (i := 1) sc_strength.nd rfl (.inl rfl)) (pgs_cons (pg_name (i := 2) sc_strength.nd rfl (.inl rfl)) (pgs_cons (pg_name (i := 3) sc_strength.nd rfl (.inl rfl)) pgs_nil)))))
  (pss_one (ps_ret (pe_op op_mul (pv 2) (pv 3))))), ?_⟩
    refine ⟨_, rfl, _, _, rfl, tupAt ht, rfl, _, _, rfl, _, _, rfl, _, _, rfl, rfl, ?_⟩
    exact ⟨_, rfl, _, rfl, _, _, rfl, rfl, .inl ⟨by omega, by omega⟩, q⟩
/-! _names -/
def SqS (K : PySem.W.Frag) (H : Hp) (a : Addr) (xs : List V) : Prop := SqL K H a xs ∨ SqT K H a xs
theorem SqS.same {H H' : Hp} {a : Addr} {xs : List V} (h : SqS K H a xs) (s : Same H H') : SqS K H' a xs := by
  rcases h with h | h
  · exact .inl (s.seq h)
  · exact .inr (same_tup s h)
def spNamesOf (K : PySem.W.Frag) : Sp := fun vs H Q _ => ∃ (a : Addr) (ts : List Addr) (cs : List Bd), vs = [.ref a] ∧ SqS K H a (ts.map V.ref) ∧ CrewAt H ts cs ∧ cs.length ≤ 1000 ∧ ∀ p, H p = none → Q (.ref p) (upd H p (.lst (cs.map fun c => vN c.1)))
theorem crew_at {H : Hp} {ts : List Addr} {cs : List Bd} {i : Nat} {x : V} (h : CrewAt H ts cs) (e : (ts.map V.ref)[i]? = some x) : ∃ (t : Addr) (c : Bd), x = .ref t ∧ ts[i]? = some t ∧ cs[i]? = some c ∧ H t = some (tB3 c) := by
  rw [List.getElem?_map] at e
  cases ht : ts[i]? with
  | none => rw [ht] at e; cases e
  | some t =>
    rw [ht] at e
    cases e
    have hi : i < cs.length := by rw [← h.1]; exact (List.getElem?_eq_some_iff.mp ht).1
    exact ⟨t, cs[i], rfl, rfl, List.getElem?_eq_getElem hi, h.2 i t _ ht (List.getElem?_eq_getElem hi)⟩
theorem ok_names {f : Addr} {fd : FuncData} (F : Fun K "_names" "_names" s_names f fd) : FnOk P w K mg base CX0 1 f fd ["bidders"] (spNamesOf K) := by
  refine F.ok sc_names (fun vs H Q E h => ?_) (fun cdv A outer s H vs Q E hr h => ?_)
  · obtain ⟨t, ts, cs, rfl, _⟩ := h
    rfl
  · obtain ⟨a, ts, cs, rfl, hS, ca, hl, q⟩ := h
    have one : ∀ (D : Addr) (i : Nat) (t : Addr) (c : Bd) (H' : Hp), H D = none → H t = some (tB3 c) → cs[i]? = some c → H' = upd H D (.lst ((cs.take i).map fun c => vN c.1)) → ∃ acc, (H' t = some (tB3 c)) ∧ H' D = some (.lst acc) ∧ acc.length < sizeLine ∧ upd H' D (.lst (acc ++ [vN c.1])) = upd H D (.lst ((cs.take (i + 1)).map fun c => vN c.1)) := by
      intro D i t c H' nD et ec e
      subst e
      refine ⟨_, (same_upd nD) _ _ et, upd_same, ?_, ?_⟩
      · rw [List.length_map, List.length_take]; exact small1000 (by omega)
      · rw [upd_twice, List.take_add_one, ec, List.map_append]; rfl
    rcases hS with hS | hS
    · refine ⟨_, (pss_one (ps_ret (pe_lc (own := [("bidder", 1)]) (by rfl) sc_names.nd (pi_list (pv 0)) (blkOk_by (N := ["bidders", "bidder"]) (sc := defScope s_names) (by decide +kernel)) (fun _ _ _ _ _ => (pg_name (i := 1) sc_names.nd rfl (.inl rfl))) (fun _ _ _ _ _ => pts_nil) (fun _ _ _ _ _ => (pe_ix (ix_tupK (K := K) rfl) (pv 1) pe_int (fun _ _ => rfl)))))), ?_⟩
      refine ⟨_, rfl, a, rfl, ⟨_, hS⟩, fun D nD => ?_⟩
      refine lc_list (K := K) (a := a) (xs := ts.map V.ref) (fun i H' => H' = upd H D (.lst ((cs.take i).map fun c => vN c.1))) rfl (fun i H' _ e => e ▸ (same_upd nD).seq hS) (fun i x H' hx hp => ?_) (fun H' hp => ?_)
      · obtain ⟨t, c, rfl, e1, e2, e3⟩ := crew_at ca hx
        obtain ⟨acc, f1, f2, f3, f4⟩ := one D i t c H' nD e3 e2 hp
        exact ⟨rfl, yesT ⟨_, rfl, _, _, _, _, rfl, rfl, tupAt f1, atI_nat (j := 0) rfl, acc, f2, f3, f4⟩⟩
      · subst hp
        rw [List.length_map, ca.1, List.take_length]
        exact q D nD
    · refine ⟨_, (pss_one (ps_ret (pe_lc (own := [("bidder", 1)]) (by rfl) sc_names.nd (pi_tup (pv 0)) (blkOk_by (N := ["bidders", "bidder"]) (sc := defScope s_names) (by decide +kernel)) (fun _ _ _ _ _ => (pg_name (i := 1) sc_names.nd rfl (.inl rfl))) (fun _ _ _ _ _ => pts_nil) (fun _ _ _ _ _ => (pe_ix (ix_tupK (K := K) rfl) (pv 1) pe_int (fun _ _ => rfl)))))), ?_⟩
      refine ⟨_, rfl, a, rfl, ⟨_, hS⟩, fun D nD => ?_⟩
      refine lc_tup (K := K) (a := a) (xs := ts.map V.ref) (fun i H' => H' = upd H D (.lst ((cs.take i).map fun c => vN c.1))) rfl (fun i H' _ e => e ▸ same_tup (same_upd nD) hS) (fun i x H' hx hp => ?_) (fun H' hp => ?_)
      · obtain ⟨t, c, rfl, e1, e2, e3⟩ := crew_at ca hx
        obtain ⟨acc, f1, f2, f3, f4⟩ := one D i t c H' nD e3 e2 hp
        exact ⟨rfl, yesT ⟨_, rfl, _, _, _, _, rfl, rfl, tupAt f1, atI_nat (j := 0) rfl, acc, f2, f3, f4⟩⟩
      · subst hp
        rw [List.length_map, ca.1, List.take_length]
        exact q D nD
end
end TK

namespace TK
open PySem PySem.Spec PyProof.Rows L2
/-! ### the same data, down to a depth -/
def flat1 : V → Bool
  | .non => true | .bl _ => true | .int _ => true | .str _ => true | _ => false
def Eq2 (H : Hp) : Nat → V → V → Prop
  | 0, x, y => x = y ∧ flat1 x = true
  | n + 1, x, y => (x = y ∧ flat1 x = true) ∨ ∃ (a b : Addr) (xs ys : List V), x = .ref a ∧ y = .ref b ∧ ((H a = some (.lst xs) ∧ H b = some (.lst ys)) ∨ (H a = some (.tup xs) ∧ H b = some (.tup ys))) ∧ xs.length = ys.length ∧ xs.length < 2 ^ 40 ∧
      ∀ (i : Nat) (x y : V), xs[i]? = some x → ys[i]? = some y → Eq2 H n x y
theorem bint {z : V} {H : Hp} {Q : VK} (h : z = .bl true) (q : Q (.bl true) H) : Q z H := h ▸ q
section
variable {P : Program} {w : World} {K : PySem.W.Frag} {mg : Str → Option Value} {base : Heap}
def spSame (n : Nat) : Sp := fun vs H Q _ => ∃ x y, vs = [x, y] ∧ Eq2 H n x y ∧ Q (.bl true) H
theorem same_tail {x y : V} {H : Hp} (ex : x = y) (fx : flat1 x = true) : (x = .non ∧ y = .non) ∨ (∃ b, x = .bl b ∧ y = .bl b) ∨ (∃ i, x = .int i ∧ y = .int i) ∨ ∃ z, x = .str z ∧ y = .str z := by
  subst ex
  cases x with
  | non => exact .inl ⟨rfl, rfl⟩
  | bl b => exact .inr (.inl ⟨b, rfl, rfl⟩)
  | int i => exact .inr (.inr (.inl ⟨i, rfl, rfl⟩))
  | str z => exact .inr (.inr (.inr ⟨z, rfl, rfl⟩))
  | byt _ => cases fx
  | flt _ => cases fx
  | ref _ => cases fx
  | ty _ => cases fx
structure SameTx (K : PySem.W.Frag) (mg : Str → Option Value) : Prop where
  m_isinstance : mg "isinstance" = none
  m_int : mg "int" = none
  m_bool : mg "bool" = none
  m_str : mg "str" = none
  m_tuple : mg "tuple" = none
  m_list : mg "list" = none
  m_len : mg "len" = none
  m_range : mg "range" = none
theorem ok_L_same {f : Addr} {fd : FuncData} (F : Fun K "_law_same" "_law_same" s_L_same f fd) (g : mg "_law_same" = some (.ref f)) (b : Binds K fd ["_law_got", "_law_wanted"] []) (T : SameTx K mg) (d_L_integer : Def P w K mg base "_law_integer" 1 ["_law_got"] spInteger) :
    ∀ n : Nat, n ≤ 10 → FnOk P w K mg base CX0 (n + 2) f fd ["_law_got", "_law_wanted"] (spSame n) := by
  obtain ⟨m_isinstance, m_int, m_bool, m_str, m_tuple, m_list, m_len, m_range⟩ := T
  intro n
  induction n with
  | zero =>
    intro _
    refine F.ok sc_L_same (fun vs H Q E h => ?_) (fun cdv A outer s H vs Q E hr h => ?_)
    · obtain ⟨x, y, rfl, _⟩ := h
      rfl
    · obtain ⟨x, y, rfl, ⟨ex, fx⟩, q⟩ := h
      refine ⟨_, (pss_cons (ps_if (pt_cmpR op_isN (pv 1) pe_non (nomark _)) (pss_one (ps_ret (pe_cmpR op_isN (pv 0) pe_non (nomark _)))) pss_nil)
  (pss_cons (ps_if (pt_cmpR op_isT (pv 1) pe_bl (nomark _)) (pss_one (ps_ret (pe_cmpR op_isT (pv 0) pe_bl (nomark _)))) pss_nil)
  (pss_cons (ps_if (pt_cmpR op_isT (pv 1) pe_bl (nomark _)) (pss_one (ps_ret (pe_cmpR op_isT (pv 0) pe_bl (nomark _)))) pss_nil)
  (pss_cons (ps_if (pt_val (pe_callB call_isi (by rfl) m_isinstance (by decide +kernel) (pa_cons (pv 1) (pa_cons (pe_bltn (v := .ty "int") (u := .type "int") (by rfl) m_int (by decide +kernel) rfl) pa_nil)))) (pss_one (ps_ret (pe_and (pe_callD d_L_integer (hr.mono (by omega)) (by rfl) (pa_cons (pv 0) pa_nil)) (pe_one (pe_cmpR op_eq (pv 0) (pv 1) (nomark _)))))) pss_nil)
  (pss_cons (ps_if (pt_val (pe_callB call_isi (by rfl) m_isinstance (by decide +kernel) (pa_cons (pv 1) (pa_cons (pe_bltn (v := .ty "str") (u := .type "str") (by rfl) m_str (by decide +kernel) rfl) pa_nil)))) (pss_one (ps_ret (pe_and (pe_callB call_isi (by rfl) m_isinstance (by decide +kernel) (pa_cons (pv 0) (pa_cons (pe_bltn (v := .ty "str") (u := .type "str") (by rfl) m_str (by decide +kernel) rfl) pa_nil))) (pe_one (pe_cmpR op_eq (pv 0) (pv 1) (nomark _)))))) pss_nil)
  (pss_cons (ps_if (PW.pt (pw_and (pt_val (pe_callB call_isi (by rfl) m_isinstance (by decide +kernel) (pa_cons (pv 1) (pa_cons (pe_bltn (v := .ty "tuple") (u := .type "tuple") (by rfl) m_tuple (by decide +kernel) rfl) pa_nil)))) (pw_and1 (pt_not (pt_val (pe_callB call_isi (by rfl) m_isinstance (by decide +kernel) (pa_cons (pv 0) (pa_cons (pe_bltn (v := .ty "tuple") (u := .type "tuple") (by rfl) m_tuple (by decide +kernel) rfl) pa_nil)))))))) (pss_one (ps_ret pe_bl)) pss_nil)
  (pss_cons (ps_if (PW.pt (pw_and (pt_val (pe_callB call_isi (by rfl) m_isinstance (by decide +kernel) (pa_cons (pv 1) (pa_cons (pe_bltn (v := .ty "list") (u := .type "list") (by rfl) m_list (by decide +kernel) rfl) pa_nil)))) (pw_and1 (pt_not (pt_val (pe_callB call_isi (by rfl) m_isinstance (by decide +kernel) (pa_cons (pv 0) (pa_cons (pe_bltn (v := .ty "list") (u := .type "list") (by rfl) m_list (by decide +kernel) rfl) pa_nil)))))))) (pss_one (ps_ret pe_bl)) pss_nil)
  (pss_cons (ps_if (pt_cmpR op_ne (pe_callB call_len_seq (by rfl) m_len (by decide +kernel) (pa_cons (pv 0) pa_nil)) (pe_callB call_len_seq (by rfl) m_len (by decide +kernel) (pa_cons (pv 1) pa_nil)) (nomark _)) (pss_one (ps_ret pe_bl)) pss_nil)
  (pss_cons ps_never (pss_one ps_never)))))))))), ?_⟩
      rcases same_tail (H := H) ex fx with ⟨rfl, rfl⟩ | ⟨b, rfl, rfl⟩ | ⟨i, rfl, rfl⟩ | ⟨z, rfl, rfl⟩
      · exact ⟨_, rfl, rfl, _, rfl, iteT ⟨_, rfl, rfl, q⟩⟩
      · refine ⟨_, rfl, rfl, _, rfl, iteF ⟨_, rfl, _, rfl, _, rfl, ?_⟩⟩
        cases b with
        | true => exact iteT ⟨_, rfl, _, rfl, q⟩
        | false => exact iteF ⟨_, rfl, _, rfl, _, rfl, iteT ⟨_, rfl, _, rfl, q⟩⟩
      · refine ⟨_, rfl, rfl, _, rfl, iteF ⟨_, rfl, _, rfl, _, rfl, iteF ⟨_, rfl, _, rfl, _, rfl, iteF ?_⟩⟩⟩
        refine ⟨_, rfl, _, _, _, _, true, rfl, .ty "int", .base (.int i), rfl, _, rfl, iteT ?_⟩
        refine ⟨_, rfl, i, rfl, _, rfl, iteT ⟨_, rfl, _, rfl, rfl, ?_⟩⟩
        exact bint (congrArg V.bl (decide_eq_true rfl)) q
      · refine ⟨_, rfl, rfl, _, rfl, iteF ⟨_, rfl, _, rfl, _, rfl, iteF ⟨_, rfl, _, rfl, _, rfl, iteF ?_⟩⟩⟩
        refine ⟨_, rfl, _, _, _, _, false, rfl, .ty "int", .base (.str z), rfl, _, rfl, iteF ?_⟩
        refine ⟨_, rfl, _, _, _, _, true, rfl, .ty "str", .base (.str z), rfl, _, rfl, iteT ?_⟩
        refine ⟨_, rfl, _, _, _, _, true, rfl, .ty "str", .base (.str z), rfl, _, rfl, iteT ⟨_, rfl, _, rfl, rfl, ?_⟩⟩
        exact bint (congrArg V.bl (decide_eq_true rfl)) q
  | succ n ih =>
    intro hn
    have d_L_same : Def P w K mg base "_law_same" (n + 2) ["_law_got", "_law_wanted"] (spSame n) := ⟨_, _, ih (by omega), g, F.kp, b⟩
    refine F.ok sc_L_same (fun vs H Q E h => ?_) (fun cdv A outer s H vs Q E hr h => ?_)
    · obtain ⟨x, y, rfl, _⟩ := h
      rfl
    · obtain ⟨x, y, rfl, hE, q⟩ := h
      rcases hE with ⟨ex, fx⟩ | ⟨a, c, xs, ys, rfl, rfl, hk, hl, hz, hi⟩
      · refine ⟨_, (pss_cons (ps_if (pt_cmpR op_isN (pv 1) pe_non (nomark _)) (pss_one (ps_ret (pe_cmpR op_isN (pv 0) pe_non (nomark _)))) pss_nil)
  (pss_cons (ps_if (pt_cmpR op_isT (pv 1) pe_bl (nomark _)) (pss_one (ps_ret (pe_cmpR op_isT (pv 0) pe_bl (nomark _)))) pss_nil)
  (pss_cons (ps_if (pt_cmpR op_isT (pv 1) pe_bl (nomark _)) (pss_one (ps_ret (pe_cmpR op_isT (pv 0) pe_bl (nomark _)))) pss_nil)
  (pss_cons (ps_if (pt_val (pe_callB call_isi (by rfl) m_isinstance (by decide +kernel) (pa_cons (pv 1) (pa_cons (pe_bltn (v := .ty "int") (u := .type "int") (by rfl) m_int (by decide +kernel) rfl) pa_nil)))) (pss_one (ps_ret (pe_and (pe_callD d_L_integer (hr.mono (by omega)) (by rfl) (pa_cons (pv 0) pa_nil)) (pe_one (pe_cmpR op_eq (pv 0) (pv 1) (nomark _)))))) pss_nil)
  (pss_cons (ps_if (pt_val (pe_callB call_isi (by rfl) m_isinstance (by decide +kernel) (pa_cons (pv 1) (pa_cons (pe_bltn (v := .ty "str") (u := .type "str") (by rfl) m_str (by decide +kernel) rfl) pa_nil)))) (pss_one (ps_ret (pe_and (pe_callB call_isi (by rfl) m_isinstance (by decide +kernel) (pa_cons (pv 0) (pa_cons (pe_bltn (v := .ty "str") (u := .type "str") (by rfl) m_str (by decide +kernel) rfl) pa_nil))) (pe_one (pe_cmpR op_eq (pv 0) (pv 1) (nomark _)))))) pss_nil)
  (pss_cons (ps_if (PW.pt (pw_and (pt_val (pe_callB call_isi (by rfl) m_isinstance (by decide +kernel) (pa_cons (pv 1) (pa_cons (pe_bltn (v := .ty "tuple") (u := .type "tuple") (by rfl) m_tuple (by decide +kernel) rfl) pa_nil)))) (pw_and1 (pt_not (pt_val (pe_callB call_isi (by rfl) m_isinstance (by decide +kernel) (pa_cons (pv 0) (pa_cons (pe_bltn (v := .ty "tuple") (u := .type "tuple") (by rfl) m_tuple (by decide +kernel) rfl) pa_nil)))))))) (pss_one (ps_ret pe_bl)) pss_nil)
  (pss_cons (ps_if (PW.pt (pw_and (pt_val (pe_callB call_isi (by rfl) m_isinstance (by decide +kernel) (pa_cons (pv 1) (pa_cons (pe_bltn (v := .ty "list") (u := .type "list") (by rfl) m_list (by decide +kernel) rfl) pa_nil)))) (pw_and1 (pt_not (pt_val (pe_callB call_isi (by rfl) m_isinstance (by decide +kernel) (pa_cons (pv 0) (pa_cons (pe_bltn (v := .ty "list") (u := .type "list") (by rfl) m_list (by decide +kernel) rfl) pa_nil)))))))) (pss_one (ps_ret pe_bl)) pss_nil)
  (pss_cons (ps_if (pt_cmpR op_ne (pe_callB call_len_seq (by rfl) m_len (by decide +kernel) (pa_cons (pv 0) pa_nil)) (pe_callB call_len_seq (by rfl) m_len (by decide +kernel) (pa_cons (pv 1) pa_nil)) (nomark _)) (pss_one (ps_ret pe_bl)) pss_nil)
  (pss_cons ps_never (pss_one ps_never)))))))))), ?_⟩
        rcases same_tail (H := H) ex fx with ⟨rfl, rfl⟩ | ⟨b, rfl, rfl⟩ | ⟨i, rfl, rfl⟩ | ⟨z, rfl, rfl⟩
        · exact ⟨_, rfl, rfl, _, rfl, iteT ⟨_, rfl, rfl, q⟩⟩
        · refine ⟨_, rfl, rfl, _, rfl, iteF ⟨_, rfl, _, rfl, _, rfl, ?_⟩⟩
          cases b with
          | true => exact iteT ⟨_, rfl, _, rfl, q⟩
          | false => exact iteF ⟨_, rfl, _, rfl, _, rfl, iteT ⟨_, rfl, _, rfl, q⟩⟩
        · refine ⟨_, rfl, rfl, _, rfl, iteF ⟨_, rfl, _, rfl, _, rfl, iteF ⟨_, rfl, _, rfl, _, rfl, iteF ?_⟩⟩⟩
          refine ⟨_, rfl, _, _, _, _, true, rfl, .ty "int", .base (.int i), rfl, _, rfl, iteT ?_⟩
          refine ⟨_, rfl, i, rfl, _, rfl, iteT ⟨_, rfl, _, rfl, rfl, ?_⟩⟩
          exact bint (congrArg V.bl (decide_eq_true rfl)) q
        · refine ⟨_, rfl, rfl, _, rfl, iteF ⟨_, rfl, _, rfl, _, rfl, iteF ⟨_, rfl, _, rfl, _, rfl, iteF ?_⟩⟩⟩
          refine ⟨_, rfl, _, _, _, _, false, rfl, .ty "int", .base (.str z), rfl, _, rfl, iteF ?_⟩
          refine ⟨_, rfl, _, _, _, _, true, rfl, .ty "str", .base (.str z), rfl, _, rfl, iteT ?_⟩
          refine ⟨_, rfl, _, _, _, _, true, rfl, .ty "str", .base (.str z), rfl, _, rfl, iteT ⟨_, rfl, _, rfl, rfl, ?_⟩⟩
          exact bint (congrArg V.bl (decide_eq_true rfl)) q
      · have step : ∀ (i : Nat) (hi1 : i < ys.length), ∃ x y, atI xs (0 + (i : Int)) = some x ∧ atI ys (0 + (i : Int)) = some y ∧ Eq2 H n x y := by
          intro i h1
          have h2 : i < xs.length := by omega
          refine ⟨xs[i], ys[i], ?_, ?_, hi i _ _ (List.getElem?_eq_getElem h2) (List.getElem?_eq_getElem h1)⟩
          · exact atI_in (by omega) (by rw [show (0 + (i : Int)).toNat = i by omega]; exact List.getElem?_eq_getElem h2)
          · exact atI_in (by omega) (by rw [show (0 + (i : Int)).toNat = i by omega]; exact List.getElem?_eq_getElem h1)
        rcases hk with ⟨ha, hc⟩ | ⟨ha, hc⟩
        · refine ⟨_, (pss_cons (ps_if (pt_cmpR op_isN (pv 1) pe_non (nomark _)) (pss_one (ps_ret (pe_cmpR op_isN (pv 0) pe_non (nomark _)))) pss_nil)
  (pss_cons (ps_if (pt_cmpR op_isT (pv 1) pe_bl (nomark _)) (pss_one (ps_ret (pe_cmpR op_isT (pv 0) pe_bl (nomark _)))) pss_nil)
  (pss_cons (ps_if (pt_cmpR op_isT (pv 1) pe_bl (nomark _)) (pss_one (ps_ret (pe_cmpR op_isT (pv 0) pe_bl (nomark _)))) pss_nil)
  (pss_cons (ps_if (pt_val (pe_callB call_isi (by rfl) m_isinstance (by decide +kernel) (pa_cons (pv 1) (pa_cons (pe_bltn (v := .ty "int") (u := .type "int") (by rfl) m_int (by decide +kernel) rfl) pa_nil)))) (pss_one (ps_ret (pe_and (pe_callD d_L_integer (hr.mono (by omega)) (by rfl) (pa_cons (pv 0) pa_nil)) (pe_one (pe_cmpR op_eq (pv 0) (pv 1) (nomark _)))))) pss_nil)
  (pss_cons (ps_if (pt_val (pe_callB call_isi (by rfl) m_isinstance (by decide +kernel) (pa_cons (pv 1) (pa_cons (pe_bltn (v := .ty "str") (u := .type "str") (by rfl) m_str (by decide +kernel) rfl) pa_nil)))) (pss_one (ps_ret (pe_and (pe_callB call_isi (by rfl) m_isinstance (by decide +kernel) (pa_cons (pv 0) (pa_cons (pe_bltn (v := .ty "str") (u := .type "str") (by rfl) m_str (by decide +kernel) rfl) pa_nil))) (pe_one (pe_cmpR op_eq (pv 0) (pv 1) (nomark _)))))) pss_nil)
  (pss_cons (ps_if (PW.pt (pw_and (pt_val (pe_callB call_isi (by rfl) m_isinstance (by decide +kernel) (pa_cons (pv 1) (pa_cons (pe_bltn (v := .ty "tuple") (u := .type "tuple") (by rfl) m_tuple (by decide +kernel) rfl) pa_nil)))) (pw_and1 (pt_not (pt_val (pe_callB call_isi (by rfl) m_isinstance (by decide +kernel) (pa_cons (pv 0) (pa_cons (pe_bltn (v := .ty "tuple") (u := .type "tuple") (by rfl) m_tuple (by decide +kernel) rfl) pa_nil)))))))) (pss_one (ps_ret pe_bl)) pss_nil)
  (pss_cons (ps_if (PW.pt (pw_and (pt_val (pe_callB call_isi (by rfl) m_isinstance (by decide +kernel) (pa_cons (pv 1) (pa_cons (pe_bltn (v := .ty "list") (u := .type "list") (by rfl) m_list (by decide +kernel) rfl) pa_nil)))) (pw_and1 (pt_not (pt_val (pe_callB call_isi (by rfl) m_isinstance (by decide +kernel) (pa_cons (pv 0) (pa_cons (pe_bltn (v := .ty "list") (u := .type "list") (by rfl) m_list (by decide +kernel) rfl) pa_nil)))))))) (pss_one (ps_ret pe_bl)) pss_nil)
  (pss_cons (ps_if (pt_cmpR op_ne (pe_callB call_len_seq (by rfl) m_len (by decide +kernel) (pa_cons (pv 0) pa_nil)) (pe_callB call_len_seq (by rfl) m_len (by decide +kernel) (pa_cons (pv 1) pa_nil)) (nomark _)) (pss_one (ps_ret pe_bl)) pss_nil)
  (pss_cons (ps_for PassesOwn.never rfl (pi_range1 (by rfl) m_range (pa_cons (pe_callB call_len_seq (by rfl) m_len (by decide +kernel) (pa_cons (pv 1) pa_nil)) pa_nil)) (pg_name (i := 2) sc_L_same.nd rfl (.inl rfl))
    (pss_one (ps_if (pt_not (pt_val (pe_callD d_L_same (hr.mono (by omega)) (by rfl) (pa_cons (pe_ix ix_list (pv 0) (pv 2) (fun _ _ => rfl)) (pa_cons (pe_ix ix_list (pv 1) (pv 2) (fun _ _ => rfl)) pa_nil))))) (pss_one (ps_ret pe_bl)) pss_nil)))
  (pss_one (ps_ret pe_bl))))))))))), ?_⟩
          refine ⟨_, rfl, rfl, _, rfl, iteF ⟨_, rfl, _, rfl, _, rfl, iteF ⟨_, rfl, _, rfl, _, rfl, iteF ?_⟩⟩⟩
          refine ⟨_, rfl, _, _, _, _, false, rfl, .ty "int", .base (.lst hc), rfl, _, rfl, iteF ?_⟩
          refine ⟨_, rfl, _, _, _, _, false, rfl, .ty "str", .base (.lst hc), rfl, _, rfl, iteF ?_⟩
          refine ⟨_, rfl, _, _, _, _, false, rfl, .ty "tuple", .base (.lst hc), rfl, _, rfl, iteF (iteF ?_)⟩
          refine ⟨_, rfl, _, _, _, _, true, rfl, .ty "list", .base (.lst hc), rfl, _, rfl, iteT ⟨_, rfl, _, _, _, _, true, rfl, .ty "list", .base (.lst ha), rfl, _, rfl, iteF ?_⟩⟩
          refine ⟨_, rfl, _, _, rfl, .inl (lstAt ha), _, rfl, _, _, rfl, .inl (lstAt hc), rfl, _, rfl, ?_⟩
          refine iteNS (congrArg (fun k : Nat => V.int (k : Int)) hl) ?_
          refine ⟨_, rfl, _, _, rfl, .inl (lstAt hc), _, rfl, by omega, by omega, for_range (fun i σ H' => H' = H ∧ ∃ y : Option V, σ = [some (.ref a), some (.ref c), y]) ⟨rfl, _, rfl⟩ ?_ ?_⟩
          · rintro i σ H' hlt ⟨rfl, y, rfl⟩
            obtain ⟨x1, y1, e1, e2, e3⟩ := step i (by omega)
            refine ⟨_, rfl, _, rfl, _, _, _, _, rfl, rfl, lstAt ha, e1, _, rfl, _, rfl, _, _, _, _, rfl, rfl, lstAt hc, e2, x1, y1, rfl, e3, _, rfl, iteF ⟨rfl, _, rfl⟩⟩
          · rintro σ H' ⟨rfl, y, rfl⟩
            exact q
        · refine ⟨_, (pss_cons (ps_if (pt_cmpR op_isN (pv 1) pe_non (nomark _)) (pss_one (ps_ret (pe_cmpR op_isN (pv 0) pe_non (nomark _)))) pss_nil)
  (pss_cons (ps_if (pt_cmpR op_isT (pv 1) pe_bl (nomark _)) (pss_one (ps_ret (pe_cmpR op_isT (pv 0) pe_bl (nomark _)))) pss_nil)
  (pss_cons (ps_if (pt_cmpR op_isT (pv 1) pe_bl (nomark _)) (pss_one (ps_ret (pe_cmpR op_isT (pv 0) pe_bl (nomark _)))) pss_nil)
  (pss_cons (ps_if (pt_val (pe_callB call_isi (by rfl) m_isinstance (by decide +kernel) (pa_cons (pv 1) (pa_cons (pe_bltn (v := .ty "int") (u := .type "int") (by rfl) m_int (by decide +kernel) rfl) pa_nil)))) (pss_one (ps_ret (pe_and (pe_callD d_L_integer (hr.mono (by omega)) (by rfl) (pa_cons (pv 0) pa_nil)) (pe_one (pe_cmpR op_eq (pv 0) (pv 1) (nomark _)))))) pss_nil)
  (pss_cons (ps_if (pt_val (pe_callB call_isi (by rfl) m_isinstance (by decide +kernel) (pa_cons (pv 1) (pa_cons (pe_bltn (v := .ty "str") (u := .type "str") (by rfl) m_str (by decide +kernel) rfl) pa_nil)))) (pss_one (ps_ret (pe_and (pe_callB call_isi (by rfl) m_isinstance (by decide +kernel) (pa_cons (pv 0) (pa_cons (pe_bltn (v := .ty "str") (u := .type "str") (by rfl) m_str (by decide +kernel) rfl) pa_nil))) (pe_one (pe_cmpR op_eq (pv 0) (pv 1) (nomark _)))))) pss_nil)
  (pss_cons (ps_if (PW.pt (pw_and (pt_val (pe_callB call_isi (by rfl) m_isinstance (by decide +kernel) (pa_cons (pv 1) (pa_cons (pe_bltn (v := .ty "tuple") (u := .type "tuple") (by rfl) m_tuple (by decide +kernel) rfl) pa_nil)))) (pw_and1 (pt_not (pt_val (pe_callB call_isi (by rfl) m_isinstance (by decide +kernel) (pa_cons (pv 0) (pa_cons (pe_bltn (v := .ty "tuple") (u := .type "tuple") (by rfl) m_tuple (by decide +kernel) rfl) pa_nil)))))))) (pss_one (ps_ret pe_bl)) pss_nil)
  (pss_cons (ps_if (PW.pt (pw_and (pt_val (pe_callB call_isi (by rfl) m_isinstance (by decide +kernel) (pa_cons (pv 1) (pa_cons (pe_bltn (v := .ty "list") (u := .type "list") (by rfl) m_list (by decide +kernel) rfl) pa_nil)))) (pw_and1 (pt_not (pt_val (pe_callB call_isi (by rfl) m_isinstance (by decide +kernel) (pa_cons (pv 0) (pa_cons (pe_bltn (v := .ty "list") (u := .type "list") (by rfl) m_list (by decide +kernel) rfl) pa_nil)))))))) (pss_one (ps_ret pe_bl)) pss_nil)
  (pss_cons (ps_if (pt_cmpR op_ne (pe_callB call_len_seq (by rfl) m_len (by decide +kernel) (pa_cons (pv 0) pa_nil)) (pe_callB call_len_seq (by rfl) m_len (by decide +kernel) (pa_cons (pv 1) pa_nil)) (nomark _)) (pss_one (ps_ret pe_bl)) pss_nil)
  (pss_cons (ps_for PassesOwn.never rfl (pi_range1 (by rfl) m_range (pa_cons (pe_callB call_len_seq (by rfl) m_len (by decide +kernel) (pa_cons (pv 1) pa_nil)) pa_nil)) (pg_name (i := 2) sc_L_same.nd rfl (.inl rfl))
    (pss_one (ps_if (pt_not (pt_val (pe_callD d_L_same (hr.mono (by omega)) (by rfl) (pa_cons (pe_ix ix_tup (pv 0) (pv 2) (fun _ _ => rfl)) (pa_cons (pe_ix ix_tup (pv 1) (pv 2) (fun _ _ => rfl)) pa_nil))))) (pss_one (ps_ret pe_bl)) pss_nil)))
  (pss_one (ps_ret pe_bl))))))))))), ?_⟩
          refine ⟨_, rfl, rfl, _, rfl, iteF ⟨_, rfl, _, rfl, _, rfl, iteF ⟨_, rfl, _, rfl, _, rfl, iteF ?_⟩⟩⟩
          refine ⟨_, rfl, _, _, _, _, false, rfl, .ty "int", .base (.tup hc), rfl, _, rfl, iteF ?_⟩
          refine ⟨_, rfl, _, _, _, _, false, rfl, .ty "str", .base (.tup hc), rfl, _, rfl, iteF ?_⟩
          refine ⟨_, rfl, _, _, _, _, true, rfl, .ty "tuple", .base (.tup hc), rfl, _, rfl, iteT ⟨_, rfl, _, _, _, _, true, rfl, .ty "tuple", .base (.tup ha), rfl, _, rfl, iteF ?_⟩⟩
          refine ⟨_, rfl, _, _, _, _, false, rfl, .ty "list", .base (.tup hc), rfl, _, rfl, iteF (iteF ?_)⟩
          refine ⟨_, rfl, _, _, rfl, .inr (tupAt ha), _, rfl, _, _, rfl, .inr (tupAt hc), rfl, _, rfl, ?_⟩
          refine iteNS (congrArg (fun k : Nat => V.int (k : Int)) hl) ?_
          refine ⟨_, rfl, _, _, rfl, .inr (tupAt hc), _, rfl, by omega, by omega, for_range (fun i σ H' => H' = H ∧ ∃ y : Option V, σ = [some (.ref a), some (.ref c), y]) ⟨rfl, _, rfl⟩ ?_ ?_⟩
          · rintro i σ H' hlt ⟨rfl, y, rfl⟩
            obtain ⟨x1, y1, e1, e2, e3⟩ := step i (by omega)
            refine ⟨_, rfl, _, rfl, _, _, _, _, rfl, rfl, tupAt ha, e1, _, rfl, _, rfl, _, _, _, _, rfl, rfl, tupAt hc, e2, x1, y1, rfl, e3, _, rfl, iteF ⟨rfl, _, rfl⟩⟩
          · rintro σ H' ⟨rfl, y, rfl⟩
            exact q
end
end TK

namespace TK
open PySem PySem.Spec PyProof.Rows L2
structure CrewW (cs : List Bd) : Prop where
  wts : ∀ c ∈ cs, 1 ≤ c.2.1 ∧ c.2.1 ≤ 1000
  few : cs.length ≤ 6
theorem CrewOk.w {cs : List Bd} (h : CrewOk cs) : CrewW cs := ⟨fun c hc => ⟨(h.ok c hc).2.1, (h.ok c hc).2.2.1⟩, h.few⟩
def loadB (c : Bd) : Int := c.2.1 * c.2.2
/-- j stands ahead of k -/
def beats (ls : List Int) (j k : Nat) : Bool := decide (ls.getD k 0 < ls.getD j 0) || (decide (ls.getD j 0 = ls.getD k 0) && decide (j < k))
def aheadOf (ls : List Int) (k : Nat) : List Nat := (List.range ls.length).filter fun j => beats ls j k
def pick (cs : List Bd) (sill : Int) (r k : Nat) : Bool := decide ((aheadOf (cs.map loadB) k).length = r) && decide (sill ≤ (cs.map loadB).getD k 0)
def rowOf1 (cs : List Bd) (sill : Int) (r n : Nat) : List (List Nat) := ((List.range n).filter fun k => pick cs sill r k).map fun k => ((cs.map (·.1)).getD k [])
def wantF (cs : List Bd) (sill : Int) : Nat → List (List Nat)
  | 0 => []
  | r + 1 => wantF cs sill r ++ rowOf1 cs sill r cs.length
theorem row_len (cs : List Bd) (sill : Int) (r n : Nat) : (rowOf1 cs sill r n).length ≤ n := by
  unfold rowOf1
  rw [List.length_map]
  have := List.length_filter_le (fun k => pick cs sill r k) (List.range n)
  rw [List.length_range] at this
  exact this
theorem want_len (cs : List Bd) (sill : Int) : ∀ r, (wantF cs sill r).length ≤ r * cs.length
  | 0 => Nat.le_of_eq (by simp [wantF])
  | r + 1 => by
    unfold wantF
    rw [List.length_append, Nat.succ_mul]
    exact Nat.add_le_add (want_len cs sill r) (row_len cs sill r cs.length)
section
variable {P : Program} {w : World} {K : PySem.W.Frag} {mg : Str → Option Value} {base : Heap}
def spLadderW (K : PySem.W.Frag) : Sp := fun vs H Q _ => ∃ (p : Addr) (ts : List Addr) (cs : List Bd) (n : Nat) (sill : Int), vs = [.ref p, .int (n : Int), .int sill] ∧ H p = some (.lst (ts.map V.ref)) ∧ CrewAt H ts cs ∧ CrewW cs ∧ n ≤ 3 ∧
  ∀ (H' : Hp) (t : Addr), Same H H' → H' t = some (.tup ((wantF cs sill n).map vN)) → Q (.ref t) H'
theorem ok_L_ladder {f : Addr} {fd : FuncData} (F : Fun K "_law_ladder" "_law_ladder" s_L_ladder f fd) (m_range : mg "range" = none) (m_len : mg "len" = none) (m_tuple : mg "tuple" = none) :
    FnOk P w K mg base CX0 1 f fd ["_law_crew", "_law_slots", "_law_sill_here"] (spLadderW K) := by
  refine F.ok sc_L_ladder (fun vs H Q E h => ?_) (fun cdv A outer s H vs Q E hr h => ?_)
  · obtain ⟨p, ts, cs, n, sill, rfl, _⟩ := h
    rfl
  · obtain ⟨p, ts, cs, n, sill, rfl, hp, ca, ck, hn, q⟩ := h
    refine ⟨_, (pss_cons (ps_set (i := 3) sc_L_ladder.nd rfl (.inr rfl) (pe_lc (own := [("_law_name", 8), ("_law_weight", 9), ("_law_bid", 10)]) (by rfl) sc_L_ladder.nd (pi_list (pv 0)) (blkOk_by (N := ["_law_crew", "_law_slots", "_law_sill_here", "_law_loads", "_law_names_here", "_law_rank", "_law_k", "_law_ahead", "_law_name", "_law_weight", "_law_bid", "_law_j"]) (sc := defScope s_L_ladder) (by decide +kernel)) (fun _ _ _ _ _ => (pg_tupK (K := K) (n := 3) rfl (by rfl) (pgs_cons (pg_name (i := 8) sc_L_ladder.nd rfl (.inl rfl)) (pgs_cons (pg_name (i := 9) sc_L_ladder.nd rfl (.inl rfl)) (pgs_cons (pg_name (i := 10) sc_L_ladder.nd rfl (.inl rfl)) pgs_nil))))) (fun _ _ _ _ _ => pts_nil) (fun _ _ _ _ _ => (pe_op op_mul (pv 9) (pv 10)))))
  (pss_cons (ps_set (i := 4) sc_L_ladder.nd rfl (.inl rfl) (pe_lst pa_nil))
  (pss_cons (ps_for PassesOwn.never rfl (pi_range1 (by rfl) m_range (pa_cons (pv 1) pa_nil)) (pg_name (i := 5) sc_L_ladder.nd rfl (.inl rfl))
    (pss_one (ps_for PassesOwn.never rfl (pi_range1 (by rfl) m_range (pa_cons (pe_callB call_len_seq (by rfl) m_len (by decide +kernel) (pa_cons (pv 0) pa_nil)) pa_nil)) (pg_name (i := 6) sc_L_ladder.nd rfl (.inr rfl))
    (pss_cons (ps_setLc (i := 7) (own := [("_law_j", 11)]) (by rfl) sc_L_ladder.nd rfl rfl (sw_true rfl rfl rfl (by decide +kernel)) (pi_range1 (by rfl) m_range (pa_cons (pe_callB call_len_seq (by rfl) m_len (by decide +kernel) (pa_cons (pv 0) pa_nil)) pa_nil)) (blkOk_by (N := ["_law_crew", "_law_slots", "_law_sill_here", "_law_loads", "_law_names_here", "_law_rank", "_law_k", "_law_ahead", "_law_name", "_law_weight", "_law_bid", "_law_j"]) (sc := defScope s_L_ladder) (by decide +kernel)) (fun _ _ _ _ _ => (pg_name (i := 11) sc_L_ladder.nd rfl (.inl rfl))) (fun _ _ _ _ _ => (pts_one (PW.pt (pw_or (pt_cmpR op_gt (pe_ix (ix_listK (K := K) rfl) (pv 3) (pv 11) (fun _ _ => rfl)) (pe_ix (ix_listK (K := K) rfl) (pv 3) (pv 6) (fun _ _ => rfl)) (nomark _)) (pw_or1 (PW.pt (pw_and (pt_cmpR op_eq (pe_ix (ix_listK (K := K) rfl) (pv 3) (pv 11) (fun _ _ => rfl)) (pe_ix (ix_listK (K := K) rfl) (pv 3) (pv 6) (fun _ _ => rfl)) (nomark _)) (pw_and1 (pt_cmpR op_lt (pv 11) (pv 6) (nomark _)))))))))) (fun _ _ _ _ _ => (pv 11)))
  (pss_one (ps_if (PW.pt (pw_and (pt_cmpR op_eq (pe_callB call_len_seq (by rfl) m_len (by decide +kernel) (pa_cons (pv 7) pa_nil)) (pv 5) (nomark _)) (pw_and1 (pt_cmpR op_ge (pe_ix ix_list (pv 3) (pv 6) (fun _ _ => rfl)) (pv 2) (nomark _))))) (pss_one (ps_expr (pe_bm PySem.F.plainAttrs_list PySem.F.slot_list_append PySem.F.type_list_append mt_append (pv 4) (pa_cons (pe_ix ix_tup (pe_ix ix_list (pv 0) (pv 6) (fun _ _ => rfl)) pe_int (fun _ _ => rfl)) pa_nil)))) pss_nil))))))
  (pss_one (ps_ret (pe_callTy call_tuple_of (by rfl) m_tuple (by decide +kernel) (pa_cons (pv 4) pa_nil))))))), ?_⟩
    have hlen : ts.length = cs.length := ca.1
    have h6 := ck.few
    -- the loads
    refine ⟨_, rfl, p, rfl, ⟨_, lstAt hp⟩, fun D nD => ?_⟩
    refine lc_list (K := K) (a := p) (xs := ts.map V.ref) (fun i H' => H' = upd H D (.lst ((cs.take i).map fun c => V.int (loadB c)))) rfl (fun i H' _ e => e ▸ (same_upd nD).seq (lstAt hp)) (fun i x H' hx hq => ?_) (fun H' hq => ?_)
    · subst hq
      obtain ⟨t, c, rfl, e1, e2, e3⟩ := crew_at ca hx
      have hc := ck.wts c (List.mem_of_getElem? e2)
      refine ⟨_, _, rfl, tupAt ((same_upd nD) _ _ e3), rfl, _, _, rfl, _, _, rfl, _, _, rfl, rfl, rfl, yesT ⟨_, rfl, _, rfl, _, _, rfl, rfl, .inl ⟨by have := hc.1; omega, by have := hc.2; omega⟩, _, upd_same, ?_, ?_⟩⟩
      · rw [List.length_map, List.length_take]; exact small1000 (by omega)
      · rw [upd_twice, List.take_add_one, e2, List.map_append]; rfl
    · subst hq
      rw [List.length_map, hlen, List.take_length]
      have s1 : Same H (upd H D (.lst (cs.map fun c => V.int (loadB c)))) := same_upd nD
      have eL : (cs.map fun c => V.int (loadB c)) = (cs.map loadB).map V.int := by rw [List.map_map]; rfl
      rw [eL] at s1 ⊢
      have hlL : (cs.map loadB).length = cs.length := List.length_map ..
      refine ⟨Nat.zero_le _, fun nl nnl => ?_⟩
      have nnl0 : H nl = none := s1.free nnl
      have hDn : D ≠ nl := fun e => by subst e; rw [upd_same] at nnl; cases nnl
      refine ⟨_, rfl, _, rfl, by omega, by omega, for_range (fun r σ H2 => Same H H2 ∧ H2 D = some (.lst ((cs.map loadB).map V.int)) ∧ H2 nl = some (.lst ((wantF cs sill r).map vN)) ∧ ∃ y5 y6 y7 : Option V, σ = [some (.ref p), some (.int (n : Int)), some (.int sill), some (.ref D), some (.ref nl), y5, y6, y7, none, none, none, none])
        ⟨same_at s1 nnl0, by rw [upd_ne hDn, upd_same], upd_same, _, _, _, rfl⟩ ?_ ?_⟩
      · rintro r σ H2 hr2 ⟨sm, eD, eN, y5, y6, y7, rfl⟩
        refine ⟨_, rfl, _, _, rfl, .inl (lstAt (sm _ _ hp)), _, rfl, by omega, by rw [List.length_map]; omega, for_range (fun k σ H2 => Same H H2 ∧ H2 D = some (.lst ((cs.map loadB).map V.int)) ∧ H2 nl = some (.lst ((wantF cs sill r ++ rowOf1 cs sill r k).map vN)) ∧ ∃ y6 y7 : Option V, σ = [some (.ref p), some (.int (n : Int)), some (.int sill), some (.ref D), some (.ref nl), some (.int (0 + (r : Int))), y6, y7, none, none, none, none])
          ⟨sm, eD, by rw [eN]; simp [rowOf1], _, _, rfl⟩ ?_ ?_⟩
        · rintro k σ H3 hk ⟨sm3, eD3, eN3, z6, z7, rfl⟩
          rw [List.length_map] at hk
          have hk2 : k < cs.length := by omega
          have hkt : k < ts.length := by omega
          have gk : atI ((cs.map loadB).map V.int) (0 + (k : Int)) = some (.int ((cs.map loadB).getD k 0)) := by
            have := get_int (ns := cs.map loadB) (s := 0 + (k : Int)) (by omega) (by rw [hlL]; omega)
            rw [show (0 + (k : Int)).toNat = k by omega] at this
            exact this
          -- ahead = [..]
          refine ⟨_, rfl, _, _, rfl, .inl (lstAt (sm3 _ _ hp)), _, rfl, by omega, by rw [List.length_map]; omega, fun D2 nD2 => ?_⟩
          refine lc_range (fun i H' => H' = upd H3 D2 (.lst (((List.range i).filter fun j => beats (cs.map loadB) j k).map fun (j : Nat) => V.int (0 + (j : Int))))) rfl (fun i H' hi hq => ?_) (fun H' hq => ?_)
          · subst hq
            rw [List.length_map] at hi
            have hi2 : i < cs.length := by omega
            have gi : atI ((cs.map loadB).map V.int) (0 + (i : Int)) = some (.int ((cs.map loadB).getD i 0)) := by
              have := get_int (ns := cs.map loadB) (s := 0 + (i : Int)) (by omega) (by rw [hlL]; omega)
              rw [show (0 + (i : Int)).toNat = i by omega] at this
              exact this
            have sD2 := same_upd (o := .lst (((List.range i).filter fun j => beats (cs.map loadB) j k).map fun (j : Nat) => V.int (0 + (j : Int)))) nD2
            have hz : (((List.range i).filter fun j => beats (cs.map loadB) j k).map fun (j : Nat) => V.int (0 + (j : Int))).length < sizeLine := by
              rw [List.length_map]
              have := List.length_filter_le (fun j => beats (cs.map loadB) j k) (List.range i)
              rw [List.length_range] at this
              exact small1000 (by omega)
            have yes : beats (cs.map loadB) i k = true → upd (upd H3 D2 (.lst (((List.range i).filter fun j => beats (cs.map loadB) j k).map fun (j : Nat) => V.int (0 + (j : Int))))) D2 (.lst ((((List.range i).filter fun j => beats (cs.map loadB) j k).map fun (j : Nat) => V.int (0 + (j : Int))) ++ [V.int (0 + (i : Int))])) = upd H3 D2 (.lst (((List.range (i + 1)).filter fun j => beats (cs.map loadB) j k).map fun (j : Nat) => V.int (0 + (j : Int)))) := fun hb => by
              rw [upd_twice, List.range_succ, List.filter_append, List.map_append, List.filter_cons, if_pos hb]
              rfl
            have no : beats (cs.map loadB) i k = false → upd H3 D2 (.lst (((List.range i).filter fun j => beats (cs.map loadB) j k).map fun (j : Nat) => V.int (0 + (j : Int)))) = upd H3 D2 (.lst (((List.range (i + 1)).filter fun j => beats (cs.map loadB) j k).map fun (j : Nat) => V.int (0 + (j : Int)))) := fun hb => by
              rw [List.range_succ, List.filter_append, List.filter_cons, if_neg (by rw [hb]; decide), List.filter_nil, List.append_nil]
            refine ⟨rfl, _, rfl, _, rfl, _, _, _, _, rfl, rfl, lstAt (sD2 _ _ eD3), gi, _, rfl, _, rfl, _, _, _, _, rfl, rfl, lstAt (sD2 _ _ eD3), gk, _, _, rfl, rfl, _, rfl, ite2 (fun e => ?_) (fun e => ?_)⟩
            · refine iteT ⟨_, rfl, _, upd_same, hz, yes ?_⟩
              unfold beats
              rw [e]; rfl
            · refine ⟨_, rfl, _, rfl, _, _, _, _, rfl, rfl, lstAt (sD2 _ _ eD3), gi, _, rfl, _, rfl, _, _, _, _, rfl, rfl, lstAt (sD2 _ _ eD3), gk, rfl, _, rfl, ite2 (fun e2 => ?_) (fun e2 => ?_)⟩
              · have e3 : (cs.map loadB).getD i 0 = (cs.map loadB).getD k 0 := V.int.inj (of_decide_eq_true e2)
                refine ⟨_, rfl, _, rfl, _, _, rfl, rfl, _, rfl, ite2 (fun e4 => ?_) (fun e4 => ?_)⟩
                · refine ⟨_, rfl, _, upd_same, hz, yes ?_⟩
                  have e5 := of_decide_eq_true e4
                  unfold beats
                  rw [decide_eq_true e3, decide_eq_true (show i < k by omega)]
                  simp
                · refine no ?_
                  have e5 : ¬ (0 + (i : Int) < 0 + (k : Int)) := fun z => e4 (decide_eq_true z)
                  unfold beats
                  rw [decide_eq_false (show ¬ i < k by omega), decide_eq_false (show ¬ (cs.map loadB).getD k 0 < (cs.map loadB).getD i 0 by omega)]
                  simp
              · refine iteF (no ?_)
                have e3 : ¬ (cs.map loadB).getD i 0 = (cs.map loadB).getD k 0 := fun z => e2 (decide_eq_true (congrArg V.int z))
                have e5 : ¬ ((cs.map loadB).getD k 0 < (cs.map loadB).getD i 0) := fun z => e (decide_eq_true z)
                unfold beats
                rw [decide_eq_false e5, decide_eq_false e3]
                rfl
          · subst hq
            rw [List.length_map, hlen, show ((List.range ((cs.length : Nat) : Int).toNat).filter fun j => beats (cs.map loadB) j k) = aheadOf (cs.map loadB) k by unfold aheadOf; rw [hlL, Int.toNat_natCast]]
            have sD2 := same_upd (o := .lst ((aheadOf (cs.map loadB) k).map fun (j : Nat) => V.int (0 + (j : Int)))) nD2
            have hD2n : nl ≠ D2 := fun e => by subst e; rw [eN3] at nD2; cases nD2
            have row : rowOf1 cs sill r (k + 1) = rowOf1 cs sill r k ++ (if pick cs sill r k = true then [(cs.map (·.1)).getD k []] else []) := by
              unfold rowOf1
              rw [List.range_succ, List.filter_append, List.map_append, List.filter_cons, List.filter_nil]
              by_cases hb : pick cs sill r k = true
              · rw [if_pos hb, if_pos hb]; rfl
              · rw [if_neg hb, if_neg hb]; rfl
            have stay : pick cs sill r k = false → Same H (upd H3 D2 (.lst ((aheadOf (cs.map loadB) k).map fun (j : Nat) => V.int (0 + (j : Int))))) ∧ (upd H3 D2 (.lst ((aheadOf (cs.map loadB) k).map fun (j : Nat) => V.int (0 + (j : Int))))) D = some (.lst ((cs.map loadB).map V.int)) ∧ (upd H3 D2 (.lst ((aheadOf (cs.map loadB) k).map fun (j : Nat) => V.int (0 + (j : Int))))) nl = some (.lst ((wantF cs sill r ++ rowOf1 cs sill r (k + 1)).map vN)) := fun hb => by
              refine ⟨sm3.trans sD2, sD2 _ _ eD3, ?_⟩
              rw [row, if_neg (by rw [hb]; decide), List.append_nil]
              exact sD2 _ _ eN3
            refine ⟨_, rfl, _, _, rfl, .inl (lstAt upd_same), _, rfl, rfl, _, rfl, ite2 (fun e => ?_) (fun e => ?_)⟩
            · have e1 : ((((aheadOf (cs.map loadB) k).map fun (j : Nat) => V.int (0 + (j : Int))).length : Nat) : Int) = 0 + (r : Int) := V.int.inj (of_decide_eq_true e)
              rw [List.length_map] at e1
              refine ⟨_, rfl, _, rfl, _, _, _, _, rfl, rfl, lstAt (sD2 _ _ eD3), gk, _, rfl, _, _, rfl, rfl, _, rfl, ite2 (fun e2 => ?_) (fun e2 => ?_)⟩
              · have e3 := of_decide_eq_true e2
                have hb : pick cs sill r k = true := by
                  unfold pick
                  rw [decide_eq_true (show (aheadOf (cs.map loadB) k).length = r by omega), decide_eq_true e3]
                  rfl
                obtain ⟨t, c, et, e4, e5, e6⟩ := crew_at (ca.same (sm3.trans sD2)) (i := k) (x := .ref ts[k]) (by rw [List.getElem?_map, List.getElem?_eq_getElem hkt]; rfl)
                have at1 : atI (ts.map V.ref) (0 + (k : Int)) = some (.ref t) := by
                  refine atI_in (by omega) ?_
                  rw [show (0 + (k : Int)).toNat = k by omega, List.getElem?_map, e4]
                  rfl
                have nmk : (cs.map (·.1)).getD k [] = c.1 := by
                  rw [List.getD_eq_getElem?_getD, List.getElem?_map, e5]
                  rfl
                refine ⟨_, rfl, .inl ⟨rfl, _, lstAt (sD2 _ _ eN3)⟩, _, rfl, _, rfl, _, _, _, _, rfl, rfl, lstAt ((sm3.trans sD2) _ _ hp), at1, _, _, _, _, rfl, rfl, tupAt e6, atI_nat (j := 0) rfl, _, _, _, rfl, rfl, sD2 _ _ eN3, ?_, ?_, ?_, ?_, _, _, rfl⟩
                · have l1 := want_len cs sill r
                  have l2 := row_len cs sill r k
                  have l3 : r * cs.length ≤ 3 * 6 := Nat.mul_le_mul (by omega) h6
                  rw [List.length_map, List.length_append]
                  exact small1000 (by omega)
                · exact fun b o eb => by rw [upd_ne (ne_of_none eb nnl0)]; exact (sm3.trans sD2) _ _ eb
                · rw [upd_ne hDn]; exact sD2 _ _ eD3
                · rw [upd_same, row, if_pos hb, nmk, ← List.append_assoc, List.map_append (l₁ := wantF cs sill r ++ rowOf1 cs sill r k)]; rfl
              · obtain ⟨a1, a2, a3⟩ := stay (by
                  unfold pick
                  rw [decide_eq_false (show ¬ sill ≤ (cs.map loadB).getD k 0 from fun z => e2 (decide_eq_true z)), Bool.and_false])
                exact ⟨a1, a2, a3, _, _, rfl⟩
            · refine iteF ?_
              obtain ⟨a1, a2, a3⟩ := stay (by
                unfold pick
                rw [decide_eq_false (show ¬ (aheadOf (cs.map loadB) k).length = r from fun z => e (decide_eq_true (congrArg V.int (by rw [List.length_map]; omega)))), Bool.false_and])
              exact ⟨a1, a2, a3, _, _, rfl⟩
        · rintro σ H3 ⟨sm3, eD3, eN3, z6, z7, rfl⟩
          refine ⟨sm3, eD3, ?_, _, _, _, rfl⟩
          rw [eN3, List.length_map, hlen]
          rfl
      · rintro σ H2 ⟨sm, eD, eN, y5, y6, y7, rfl⟩
        exact ⟨_, rfl, _, _, rfl, .inl ⟨lstAt eN, fun t nt => q _ t (sm.trans (same_upd nt)) upd_same⟩⟩
end
end TK

namespace TK
open PySem PySem.Spec PyProof.Rows L2
theorem CrewAt.take {H : Hp} {ts : List Addr} {cs : List Bd} (h : CrewAt H ts cs) (n : Nat) : CrewAt H (ts.take n) (cs.take n) := by
  refine ⟨by rw [List.length_take, List.length_take, h.1], fun i t c a b => ?_⟩
  rw [List.getElem?_take] at a b
  split at a
  · rename_i hi
    rw [if_pos hi] at b
    exact h.2 i t c a b
  · cases a
theorem cut_ref (ts : List Addr) (i : Nat) : cutV (ts.map V.ref) none (some ((i : Nat) : Int)) = (ts.take i).map V.ref := by
  unfold cutV
  rw [HT.sIx_none, HT.sIx_nat, List.drop_zero, Nat.sub_zero, List.map_take]
  by_cases h : i ≤ (ts.map V.ref).length
  · rw [Nat.min_eq_left h]
  · rw [Nat.min_eq_right (by omega), List.take_length, List.take_of_length_le (by omega)]
theorem all_flat (cs : List Bd) : (cs.map fun c => vN c.1).all flatV = true := by
  rw [List.all_eq_true]
  intro x hx
  obtain ⟨c, _, rfl⟩ := List.mem_map.mp hx
  rfl
theorem eqv_nm {a b : List Nat} : eqV (vN a) (vN b) = decide (a = b) := by
  show (sOf a == sOf b) = _
  by_cases h : a = b
  · subst h; simp
  · rw [decide_eq_false h]
    exact beq_eq_false_iff_ne.mpr fun z => h (sOf_inj z)
theorem not_in {cs : List Bd} {i : Nat} {c : Bd} (nd : (cs.map (·.1)).Nodup) (h : cs[i]? = some c) : (if false = true then !inV (vN c.1) ((cs.take i).map fun c => vN c.1) else inV (vN c.1) ((cs.take i).map fun c => vN c.1)) = false := by
  rw [if_neg (by decide)]
  unfold inV
  rw [List.any_eq_false]
  intro x hx
  obtain ⟨d, hd, rfl⟩ := List.mem_map.mp hx
  rw [eqv_nm]
  obtain ⟨j, hj⟩ := List.getElem?_of_mem hd
  rw [List.getElem?_take] at hj
  split at hj
  · rename_i hji
    intro z
    have e : d.1 = c.1 := of_decide_eq_true z
    have a1 : (cs.map (·.1))[j]? = some c.1 := by rw [List.getElem?_map, hj]; exact congrArg some e
    have a2 : (cs.map (·.1))[i]? = some c.1 := by rw [List.getElem?_map, h]; rfl
    have := nd_ix nd a1 a2
    omega
  · cases hj
section
variable {P : Program} {w : World} {K : PySem.W.Frag} {mg : Str → Option Value} {base : Heap}
def spCheckB (K : PySem.W.Frag) : Sp := fun vs H Q _ => ∃ (a : Addr) (ts : List Addr) (cs : List Bd), vs = [.ref a] ∧ SqS K H a (ts.map V.ref) ∧ CrewAt H ts cs ∧ CrewOk cs ∧ ∀ H', Same H H' → Q .non H'
theorem ok_check_bidders {f : Addr} {fd : FuncData} (F : Fun K "check_bidders" "check_bidders" s_check_bidders f fd) (m_len : mg "len" = none) (m_enumerate : mg "enumerate" = none)
    (d_check_size : Def P w K mg base "check_size" 1 ["size", "low", "high"] spRange) (d_check_range : Def P w K mg base "check_range" 1 ["number", "low", "high"] spRange)
    (d_is_name : Def P w K mg base "is_name" 1 ["word"] spIsName) (d_names : Def P w K mg base "_names" 1 ["bidders"] (spNamesOf K)) : FnOk P w K mg base CX0 2 f fd ["bidders"] (spCheckB K) := by
  refine F.ok sc_check_bidders (fun vs H Q E h => ?_) (fun cdv A outer s H vs Q E hr h => ?_)
  · obtain ⟨a, ts, cs, rfl, _⟩ := h
    rfl
  · obtain ⟨a, ts, cs, rfl, hS, ca, ck, q⟩ := h
    have h6 := ck.few
    have hle := ca.1
    rcases hS with hS | hS
    · refine ⟨_, (pss_cons (ps_expr (pe_callD d_check_size (hr.mono (by decide)) (by rfl) (pa_cons (pe_callB call_len_seq (by rfl) m_len (by decide +kernel) (pa_cons (pv 0) pa_nil)) (pa_cons pe_int (pa_cons pe_int pa_nil)))))
  (pss_one (ps_for PassesOwn.never rfl (pi_enum (by rfl) m_enumerate (pa_cons (pv 0) pa_nil)) (pg_tup (by rfl) (pgs_cons (pg_name (i := 1) sc_check_bidders.nd rfl (.inl rfl)) (pgs_cons (pg_tup (by rfl) (pgs_cons (pg_name (i := 2) sc_check_bidders.nd rfl (.inl rfl)) (pgs_cons (pg_name (i := 3) sc_check_bidders.nd rfl (.inl rfl)) (pgs_cons (pg_name (i := 4) sc_check_bidders.nd rfl (.inl rfl)) pgs_nil)))) pgs_nil)))
    (pss_cons (ps_if (pt_not (pt_val (pe_callD d_is_name (hr.mono (by decide)) (by rfl) (pa_cons (pv 2) pa_nil)))) (pss_one ps_never) pss_nil)
  (pss_cons (ps_if (pt_cmpR op_in_seq (pv 2) (pe_callD d_names (hr.mono (by decide)) (by rfl) (pa_cons (pe_slice sl_list (pv 0) po_none (po_some (pv 1))) pa_nil)) (by rfl)) (pss_one ps_never) pss_nil)
  (pss_cons (ps_expr (pe_callD d_check_range (hr.mono (by decide)) (by rfl) (pa_cons (pv 3) (pa_cons pe_int (pa_cons pe_int pa_nil)))))
  (pss_one (ps_expr (pe_callD d_check_range (hr.mono (by decide)) (by rfl) (pa_cons (pv 4) (pa_cons pe_int (pa_cons (pe_op op_pow pe_int pe_int) pa_nil)))))))))))), ?_⟩
      refine ⟨_, rfl, _, _, rfl, .inl hS, _, _, _, rfl, by omega, by rw [List.length_map]; omega, ?_⟩
      refine ⟨_, rfl, _, _, rfl, hS, for_it walk_enum (fun _ σ H2 => Same H H2 ∧ ∃ y1 y2 y3 y4 : Option V, σ = [some (.ref a), y1, y2, y3, y4]) ⟨Same.refl H, _, _, _, _, rfl⟩ (fun i σ H2 _ hp => hp.1.seq hS) ?_ ?_⟩
      · rintro i x σ H2 H3 hi ⟨sm, y1, y2, y3, y4, rfl⟩ ⟨T, z1, z2, rfl, nT, rfl, e1, e2⟩
        rw [List.length_map] at hi
        cases e1
        have sT : Same H2 (upd H2 T (.tup [.int (i : Nat), z2])) := same_upd nT
        have sm3 := sm.trans sT
        obtain ⟨t, c, rfl, f1, f2, f3⟩ := crew_at (ca.same sm3) e2
        obtain ⟨g1, g2, g3, g4, g5⟩ := ck.ok c (List.mem_of_getElem? f2)
        have hil : i < cs.length := (List.getElem?_eq_some_iff.mp f2).1
        refine ⟨_, _, rfl, tupAt upd_same, rfl, _, _, rfl, _, _, rfl, _, _, rfl, tupAt f3, rfl, _, _, rfl, _, _, rfl, _, _, rfl, rfl, rfl, ?_⟩
        refine ⟨_, rfl, c.1, rfl, g1, fun H4 s4 => ⟨_, rfl, iteF ?_⟩⟩
        have sm4 := sm3.trans s4
        refine ⟨_, rfl, _, rfl, _, rfl, _, rfl, _, _, rfl, sm4.seq hS, fun p np => ?_⟩
        have sp : Same H4 (upd H4 p (.lst (cutV (ts.map V.ref) none (some ((i : Nat) : Int))))) := same_upd np
        refine ⟨_, ts.take i, cs.take i, rfl, .inl (lstAt (by rw [upd_same, cut_ref])), (ca.take i).same (sm4.trans sp), by rw [List.length_take]; have := ck.few; omega, fun p2 np2 => ?_⟩
        refine ⟨_, _, rfl, .inl (lstAt upd_same), rfl, all_flat _, _, rfl, ?_⟩
        rw [not_in ck.nd f2]
        have sm5 := (sm4.trans sp).trans (same_upd (o := .lst ((cs.take i).map fun c => vN c.1)) np2)
        refine iteF ⟨_, rfl, _, _, _, rfl, g2, g3, ?_⟩
        exact ⟨_, rfl, _, _, rfl, rfl, ⟨by decide, by decide, by decide⟩, _, _, _, rfl, g4, g5, sm5, _, _, _, _, rfl⟩
      · rintro σ H2 ⟨sm, y1, y2, y3, y4, rfl⟩
        exact q _ sm
    · refine ⟨_, (pss_cons (ps_expr (pe_callD d_check_size (hr.mono (by decide)) (by rfl) (pa_cons (pe_callB call_len_seq (by rfl) m_len (by decide +kernel) (pa_cons (pv 0) pa_nil)) (pa_cons pe_int (pa_cons pe_int pa_nil)))))
  (pss_one (ps_for PassesOwn.never rfl (pi_enumT (by rfl) m_enumerate (pa_cons (pv 0) pa_nil)) (pg_tup (by rfl) (pgs_cons (pg_name (i := 1) sc_check_bidders.nd rfl (.inl rfl)) (pgs_cons (pg_tup (by rfl) (pgs_cons (pg_name (i := 2) sc_check_bidders.nd rfl (.inl rfl)) (pgs_cons (pg_name (i := 3) sc_check_bidders.nd rfl (.inl rfl)) (pgs_cons (pg_name (i := 4) sc_check_bidders.nd rfl (.inl rfl)) pgs_nil)))) pgs_nil)))
    (pss_cons (ps_if (pt_not (pt_val (pe_callD d_is_name (hr.mono (by decide)) (by rfl) (pa_cons (pv 2) pa_nil)))) (pss_one ps_never) pss_nil)
  (pss_cons (ps_if (pt_cmpR op_in_seq (pv 2) (pe_callD d_names (hr.mono (by decide)) (by rfl) (pa_cons (pe_slice sl_tup (pv 0) po_none (po_some (pv 1))) pa_nil)) (by rfl)) (pss_one ps_never) pss_nil)
  (pss_cons (ps_expr (pe_callD d_check_range (hr.mono (by decide)) (by rfl) (pa_cons (pv 3) (pa_cons pe_int (pa_cons pe_int pa_nil)))))
  (pss_one (ps_expr (pe_callD d_check_range (hr.mono (by decide)) (by rfl) (pa_cons (pv 4) (pa_cons pe_int (pa_cons (pe_op op_pow pe_int pe_int) pa_nil)))))))))))), ?_⟩
      refine ⟨_, rfl, _, _, rfl, .inr hS, _, _, _, rfl, by omega, by rw [List.length_map]; omega, ?_⟩
      refine ⟨_, rfl, _, _, rfl, hS, for_it walk_enumT (fun _ σ H2 => Same H H2 ∧ ∃ y1 y2 y3 y4 : Option V, σ = [some (.ref a), y1, y2, y3, y4]) ⟨Same.refl H, _, _, _, _, rfl⟩ (fun i σ H2 _ hp => same_tup hp.1 hS) ?_ ?_⟩
      · rintro i x σ H2 H3 hi ⟨sm, y1, y2, y3, y4, rfl⟩ ⟨T, z1, z2, rfl, nT, rfl, e1, e2⟩
        rw [List.length_map] at hi
        cases e1
        have sT : Same H2 (upd H2 T (.tup [.int (i : Nat), z2])) := same_upd nT
        have sm3 := sm.trans sT
        obtain ⟨t, c, rfl, f1, f2, f3⟩ := crew_at (ca.same sm3) e2
        obtain ⟨g1, g2, g3, g4, g5⟩ := ck.ok c (List.mem_of_getElem? f2)
        have hil : i < cs.length := (List.getElem?_eq_some_iff.mp f2).1
        refine ⟨_, _, rfl, tupAt upd_same, rfl, _, _, rfl, _, _, rfl, _, _, rfl, tupAt f3, rfl, _, _, rfl, _, _, rfl, _, _, rfl, rfl, rfl, ?_⟩
        refine ⟨_, rfl, c.1, rfl, g1, fun H4 s4 => ⟨_, rfl, iteF ?_⟩⟩
        have sm4 := sm3.trans s4
        refine ⟨_, rfl, _, rfl, _, rfl, _, rfl, _, _, rfl, same_tup sm4 hS, (by rw [HT.sIx_none, HT.sIx_nat, List.length_map]; omega), fun p np => ?_⟩
        have sp : Same H4 (upd H4 p (.tup (cutV (ts.map V.ref) none (some ((i : Nat) : Int))))) := same_upd np
        refine ⟨_, ts.take i, cs.take i, rfl, .inr (tupAt (by rw [upd_same, cut_ref])), (ca.take i).same (sm4.trans sp), by rw [List.length_take]; have := ck.few; omega, fun p2 np2 => ?_⟩
        refine ⟨_, _, rfl, .inl (lstAt upd_same), rfl, all_flat _, _, rfl, ?_⟩
        rw [not_in ck.nd f2]
        have sm5 := (sm4.trans sp).trans (same_upd (o := .lst ((cs.take i).map fun c => vN c.1)) np2)
        refine iteF ⟨_, rfl, _, _, _, rfl, g2, g3, ?_⟩
        exact ⟨_, rfl, _, _, rfl, rfl, ⟨by decide, by decide, by decide⟩, _, _, _, rfl, g4, g5, sm5, _, _, _, _, rfl⟩
      · rintro σ H2 ⟨sm, y1, y2, y3, y4, rfl⟩
        exact q _ sm
/-! _check -/
def spCheck (K : PySem.W.Frag) : Sp := fun vs H Q _ => ∃ (a : Addr) (ts : List Addr) (cs : List Bd) (hours floor : Int), vs = [.ref a, .int hours, .int floor] ∧ SqS K H a (ts.map V.ref) ∧ CrewAt H ts cs ∧ CrewOk cs ∧ 1 ≤ hours ∧ hours ≤ 3 ∧ 0 ≤ floor ∧ floor ≤ 1000000000000 ∧ ∀ H', Same H H' → Q .non H'
theorem ok_check {f : Addr} {fd : FuncData} (F : Fun K "_check" "_check" s_check f fd) (d_check_range : Def P w K mg base "check_range" 1 ["number", "low", "high"] spRange) (d_check_bidders : Def P w K mg base "check_bidders" 2 ["bidders"] (spCheckB K)) :
    FnOk P w K mg base CX0 3 f fd ["bidders", "hours", "floor"] (spCheck K) := by
  refine F.ok sc_check (fun vs H Q E h => ?_) (fun cdv A outer s H vs Q E hr h => ?_)
  · obtain ⟨a, ts, cs, hours, floor, rfl, _⟩ := h
    rfl
  · obtain ⟨a, ts, cs, hours, floor, rfl, hS, ca, ck, h1, h2, h3, h4, q⟩ := h
    refine ⟨_, (pss_cons (ps_expr (pe_callD d_check_bidders (hr.mono (by decide)) (by rfl) (pa_cons (pv 0) pa_nil)))
  (pss_cons (ps_expr (pe_callD d_check_range (hr.mono (by decide)) (by rfl) (pa_cons (pv 1) (pa_cons pe_int (pa_cons pe_int pa_nil)))))
  (pss_one (ps_expr (pe_callD d_check_range (hr.mono (by decide)) (by rfl) (pa_cons (pv 2) (pa_cons pe_int (pa_cons (pe_op op_pow pe_int pe_int) pa_nil)))))))), ?_⟩
    refine ⟨_, rfl, a, ts, cs, rfl, hS, ca, ck, fun H' sm => ?_⟩
    refine ⟨_, rfl, _, _, _, rfl, h1, h2, ?_⟩
    exact ⟨_, rfl, _, _, rfl, rfl, ⟨by decide, by decide, by decide⟩, _, _, _, rfl, h3, h4, q _ sm⟩
end
end TK

namespace TK
open PySem PySem.Spec PyProof.Rows L2
section
variable {X : Cx} {CX : CXT} {k n : Nat} {f : Addr} {fd : FuncData} {ps ks : List Str} {sp : Sp} {E : XK} {x : Str} {p pos : Pos} {kws : List Keyword} {tk : TA} {g : List Value → List Value → List Value} {gV : List V → List V → List V}
/-- f(k = v, ..): keywords alone -/
theorem pe_callN0 (F : FnOk X.prog X.w X.K X.mg X.base CX k f fd ps sp) (hr : Room k X.A) (hg : Gl X x) (hm : X.mg x = some (.ref f)) (hk : PySem.W.keepIn X.K (.ref f) = true) (hb : KBn X.K fd ps 0 ks g gV) (hx : Passes CX X E) (hkw : PK X kws tk)
    (hall : (backToKw pos (keywordEach kws X.env)).all (·.1.isSome) = true := by rfl) (hks : (backToKw pos (keywordEach kws X.env)).filterMap (·.1) = ks := by rfl) (hdb : (x == ("__debug__" : Str)) = false := by decide)
    (hpl : ((backTo pos (starEach [] X.env)).any (·.1) || (backToKw pos (keywordEach kws X.env)).any (·.1.isNone)) = false := by rfl) : PE X (.Call (.Name x p) [] kws pos) (tCallN 0 ks.length sp gV E tNil tk) := by
  refine ⟨fun pins s σ H Q I h => wpAny_Call_Name_kw (ld_glob I hg hm (PySem.W.callWith_KW0 (h₀ := X.base) I.ok.mod.kin hk hall ?_ hpl) hdb)⟩
  refine thn (hkw.run pos pins s σ H _ I h) fun ws s2 ⟨zs, H2, I2, rz, l1, l2, q2⟩ => ⟨I2.kIn, ?_⟩
  rw [hks]
  exact run_fnN (us := []) (vs := []) F hr hb hx I2 .nil rz rfl l2 q2
end
/-! ### the bidders in their ranking -/
def keysOf (cs : List Bd) : List Int := cs.map fun c => -(loadB c)
def ranks (ts : List Addr) (cs : List Bd) : List (Addr × Bd) := (sortK ((keysOf cs).zip (ts.zip cs))).map Prod.snd
theorem zip_map_snd {α β : Type} (g : α → β) : ∀ (l : List Int) (m : List α), (l.zip m).map (fun p => (p.1, g p.2)) = l.zip (m.map g)
  | [], _ => rfl
  | _ :: _, [] => rfl
  | a :: l, b :: m => by
    show (a, g b) :: (l.zip m).map _ = (a, g b) :: l.zip (m.map g)
    rw [zip_map_snd g l m]
theorem sorted_map {α β : Type} (g : α → β) (ks : List Int) (m : List α) : ((sortK (ks.zip m)).map Prod.snd).map g = (sortK (ks.zip (m.map g))).map Prod.snd := by
  rw [← zip_map_snd, ← sortK_map, List.map_map, List.map_map]
  rfl
theorem zip_fst {ts : List Addr} {cs : List Bd} (h : ts.length = cs.length) : (ts.zip cs).map Prod.fst = ts := List.map_fst_zip (Nat.le_of_eq h)
theorem zip_snd {ts : List Addr} {cs : List Bd} (h : ts.length = cs.length) : (ts.zip cs).map Prod.snd = cs := List.map_snd_zip (Nat.le_of_eq h.symm)
theorem ranks_refs {ts : List Addr} {cs : List Bd} (h : ts.length = cs.length) : byKey (keysOf cs) (ts.map V.ref) = ((ranks ts cs).map Prod.fst).map V.ref := by
  unfold ranks byKey
  rw [sorted_map Prod.fst, zip_fst h, sorted_map V.ref]
theorem ranks_cs {ts : List Addr} {cs : List Bd} (h : ts.length = cs.length) : (ranks ts cs).map Prod.snd = (sortK ((keysOf cs).zip cs)).map Prod.snd := by
  unfold ranks
  rw [sorted_map Prod.snd, zip_snd h]
theorem ranks_mem {ts : List Addr} {cs : List Bd} {H : Hp} (ca : CrewAt H ts cs) {q : Addr × Bd} (hq : q ∈ ranks ts cs) : H q.1 = some (tB3 q.2) ∧ q.2 ∈ cs := by
  obtain ⟨z, hz, rfl⟩ := List.mem_map.mp hq
  have h1 := (sortK_perm _).mem_iff.mp hz
  have h2 : z.2 ∈ ts.zip cs := (List.of_mem_zip h1).2
  obtain ⟨i, hi⟩ := List.getElem?_of_mem h2
  have := List.getElem?_zip_eq_some.mp hi
  exact ⟨ca.2 i _ _ this.1 this.2, List.mem_of_getElem? this.2⟩
theorem pairs_crew {H : Hp} {qs : List (Addr × Bd)} (h : ∀ q ∈ qs, H q.1 = some (tB3 q.2)) : CrewAt H (qs.map Prod.fst) (qs.map Prod.snd) := by
  refine ⟨by rw [List.length_map, List.length_map], fun i t c a b => ?_⟩
  rw [List.getElem?_map] at a b
  cases e : qs[i]? with
  | none => rw [e] at a; cases a
  | some q =>
    rw [e] at a b
    cases a
    cases b
    exact h q (List.mem_of_getElem? e)
theorem ranks_len {ts : List Addr} {cs : List Bd} (h : ts.length = cs.length) : (ranks ts cs).length = cs.length := by
  unfold ranks keysOf
  rw [List.length_map, (sortK_perm _).length_eq, List.length_zip, List.length_zip, List.length_map, h, Nat.min_self, Nat.min_self]
section
variable {P : Program} {w : World} {K : PySem.W.Frag} {mg : Str → Option Value} {base : Heap}
/-! ladder -/
def gotF (cs : List Bd) (floor : Int) (hours : Nat) : List (List Nat) := ((((sortK ((keysOf cs).zip cs)).map Prod.snd).filter fun c => decide (floor ≤ loadB c)).map (·.1)).take hours
theorem filter_snd {qs : List (Addr × Bd)} {floor : Int} : (qs.filter fun q => decide (floor ≤ loadB q.2)).map Prod.snd = (qs.map Prod.snd).filter fun c => decide (floor ≤ loadB c) := by
  rw [List.filter_map]
  rfl
theorem cut_any (xs : List V) (i : Nat) : cutV xs none (some ((i : Nat) : Int)) = xs.take i := by
  unfold cutV
  rw [HT.sIx_none, HT.sIx_nat, List.drop_zero, Nat.sub_zero]
  by_cases h : i ≤ xs.length
  · rw [Nat.min_eq_left h]
  · rw [Nat.min_eq_right (by omega), List.take_length, List.take_of_length_le (by omega)]
end
end TK

namespace TK
open PySem PySem.Spec PyProof.Rows L2
/-! ### the ranking by places -/
def lexP (p q : Int × Nat) : Prop := p.1 < q.1 ∨ (p.1 = q.1 ∧ p.2 < q.2)
theorem insK_lex (x : Int × Nat) : ∀ l : List (Int × Nat), l.Pairwise lexP → (∀ y ∈ l, x.2 < y.2) → (insK x l).Pairwise lexP
  | [], _, _ => List.pairwise_singleton ..
  | y :: r, h, hx => by
    unfold insK
    split
    · rename_i hle
      refine List.Pairwise.cons (fun z hz => ?_) h
      have h1 : y.1 ≤ z.1 := by
        rcases List.mem_cons.mp hz with rfl | hz
        · exact Int.le_refl _
        · rcases List.rel_of_pairwise_cons h hz with e | e
          · omega
          · omega
      have h2 := hx z hz
      by_cases e : x.1 < z.1
      · exact .inl e
      · exact .inr ⟨by omega, h2⟩
    · rename_i hle
      refine List.Pairwise.cons (fun z hz => ?_) (insK_lex x r (List.Pairwise.of_cons h) fun z hz => hx z (List.mem_cons_of_mem _ hz))
      rcases List.mem_cons.mp ((insK_perm x r).mem_iff.mp hz) with rfl | hz
      · exact .inl (by omega)
      · exact List.rel_of_pairwise_cons h hz
theorem sortK_lex : ∀ l : List (Int × Nat), l.Pairwise (fun p q => p.2 < q.2) → (sortK l).Pairwise lexP
  | [], _ => .nil
  | x :: r, h => insK_lex x _ (sortK_lex r (List.Pairwise.of_cons h)) fun y hy => List.rel_of_pairwise_cons h ((sortK_perm r).mem_iff.mp hy)
def idxOf (cs : List Bd) : List Nat := (sortK ((keysOf cs).zip (List.range cs.length))).map Prod.snd
theorem zip_key : ∀ {l : List Int} {m : List Nat} {p : Int × Nat}, p ∈ l.zip m → ∃ i : Nat, l[i]? = some p.1 ∧ m[i]? = some p.2 := by
  intro l m p hp
  obtain ⟨i, hi⟩ := List.getElem?_of_mem hp
  exact ⟨i, List.getElem?_zip_eq_some.mp hi⟩
theorem zip_up : ∀ (l : List Int) (m : List Nat), m.Pairwise (· < ·) → (l.zip m).Pairwise (fun p q => p.2 < q.2)
  | [], _, _ => .nil
  | _ :: _, [], _ => .nil
  | a :: l, b :: m, h => List.Pairwise.cons (fun p hp => List.rel_of_pairwise_cons h (List.of_mem_zip hp).2) (zip_up l m (List.Pairwise.of_cons h))
theorem idx_perm (cs : List Bd) : (idxOf cs).Perm (List.range cs.length) := by
  unfold idxOf
  have h := (sortK_perm ((keysOf cs).zip (List.range cs.length))).map Prod.snd
  rw [List.map_snd_zip (by unfold keysOf; rw [List.length_range, List.length_map]; exact Nat.le_refl _)] at h
  exact h
theorem idx_beats (cs : List Bd) : (idxOf cs).Pairwise (fun j k => beats (cs.map loadB) j k = true) := by
  unfold idxOf
  rw [List.pairwise_map]
  refine List.Pairwise.imp_of_mem ?_ (sortK_lex _ (zip_up _ _ List.pairwise_lt_range))
  intro p q hp hq h
  have key : ∀ r : Int × Nat, r ∈ sortK ((keysOf cs).zip (List.range cs.length)) → r.1 = -((cs.map loadB).getD r.2 0) := by
    intro r hr
    obtain ⟨i, e1, e2⟩ := zip_key ((sortK_perm _).mem_iff.mp hr)
    have hi : i < cs.length := by
      have := (List.getElem?_eq_some_iff.mp e2).1
      rw [List.length_range] at this
      exact this
    rw [List.getElem?_range hi] at e2
    have e3 : i = r.2 := Option.some.inj e2
    unfold keysOf at e1
    rw [List.getElem?_map, List.getElem?_eq_getElem hi] at e1
    rw [← e3, List.getD_eq_getElem?_getD, List.getElem?_map, List.getElem?_eq_getElem hi]
    exact (Option.some.inj e1).symm
  have k1 := key p hp
  have k2 := key q hq
  unfold beats
  rcases h with h | ⟨h1, h2⟩
  · rw [decide_eq_true (show (cs.map loadB).getD q.2 0 < (cs.map loadB).getD p.2 0 by omega)]
    rfl
  · rw [decide_eq_true (show (cs.map loadB).getD p.2 0 = (cs.map loadB).getD q.2 0 by omega), decide_eq_true h2]
    simp
theorem beats_anti {ls : List Int} {j k : Nat} (h : beats ls j k = true) : beats ls k j = false := by
  unfold beats at *
  simp only [Bool.or_eq_true, Bool.and_eq_true, decide_eq_true_eq] at h
  have a : ¬ ls.getD j 0 < ls.getD k 0 := by omega
  have b : ¬ (ls.getD k 0 = ls.getD j 0 ∧ k < j) := by omega
  rw [decide_eq_false a, Bool.false_or]
  by_cases c : ls.getD k 0 = ls.getD j 0
  · rw [decide_eq_false (show ¬ k < j from fun z => b ⟨c, z⟩), Bool.and_false]
  · rw [decide_eq_false c, Bool.false_and]
theorem beats_self (ls : List Int) (k : Nat) : beats ls k k = false := by
  unfold beats
  simp
theorem beats_load {ls : List Int} {j k : Nat} (h : beats ls j k = true) : ls.getD k 0 ≤ ls.getD j 0 := by
  unfold beats at h
  simp only [Bool.or_eq_true, Bool.and_eq_true, decide_eq_true_eq] at h
  omega
/-- where all stand in order, so many stand ahead of the r-th -/
theorem ahead_count {ls : List Int} : ∀ (l : List Nat), l.Pairwise (fun j k => beats ls j k = true) → ∀ (r : Nat) (k : Nat), l[r]? = some k → (l.filter fun j => beats ls j k).length = r := by
  intro l h r k hk
  obtain ⟨hr, e⟩ := List.getElem?_eq_some_iff.mp hk
  have split : l = l.take r ++ (k :: l.drop (r + 1)) := by
    rw [← e, ← List.drop_eq_getElem_cons hr, List.take_append_drop]
  rw [split] at h
  obtain ⟨h1, h2, h3⟩ := List.pairwise_append.mp h
  have a1 : (l.take r).filter (fun j => beats ls j k) = l.take r := List.filter_eq_self.mpr fun j hj => h3 j hj k (List.mem_cons_self ..)
  have a2 : (l.drop (r + 1)).filter (fun j => beats ls j k) = [] := List.filter_eq_nil_iff.mpr fun j hj => by
    rw [beats_anti (List.rel_of_pairwise_cons h2 hj)]
    decide
  rw [split, List.filter_append, a1, List.filter_cons, if_neg (by rw [beats_self]; decide), a2, List.append_nil, List.length_take]
  omega
theorem ahead_idx {cs : List Bd} {r k : Nat} (h : (idxOf cs)[r]? = some k) : (aheadOf (cs.map loadB) k).length = r := by
  unfold aheadOf
  rw [List.length_map, ← ((idx_perm cs).filter _).length_eq]
  exact ahead_count _ (idx_beats cs) r k h
theorem idx_len (cs : List Bd) : (idxOf cs).length = cs.length := by rw [(idx_perm cs).length_eq, List.length_range]
theorem row_at {cs : List Bd} {sill : Int} {r k : Nat} (h : (idxOf cs)[r]? = some k) : ((List.range cs.length).filter fun j => pick cs sill r j) = if sill ≤ (cs.map loadB).getD k 0 then [k] else [] := by
  have hp := (idx_perm cs).filter fun j => pick cs sill r j
  obtain ⟨hr, e⟩ := List.getElem?_eq_some_iff.mp h
  have split : idxOf cs = (idxOf cs).take r ++ (k :: (idxOf cs).drop (r + 1)) := by
    rw [← e, ← List.drop_eq_getElem_cons hr, List.take_append_drop]
  have off : ∀ (i j : Nat), (idxOf cs)[i]? = some j → i ≠ r → ¬ pick cs sill r j = true := fun i j hj hne z => by
    unfold pick at z
    rw [ahead_idx hj, decide_eq_false hne] at z
    cases z
  have b1 : ((idxOf cs).take r).filter (fun j => pick cs sill r j) = [] := List.filter_eq_nil_iff.mpr fun j hj => by
    obtain ⟨i, hi⟩ := List.getElem?_of_mem hj
    rw [List.getElem?_take] at hi
    split at hi
    · exact off i j hi (by omega)
    · cases hi
  have b2 : ((idxOf cs).drop (r + 1)).filter (fun j => pick cs sill r j) = [] := List.filter_eq_nil_iff.mpr fun j hj => by
    obtain ⟨i, hi⟩ := List.getElem?_of_mem hj
    rw [List.getElem?_drop] at hi
    exact off _ j hi (by omega)
  have c1 : (idxOf cs).filter (fun j => pick cs sill r j) = if sill ≤ (cs.map loadB).getD k 0 then [k] else [] := by
    rw [split, List.filter_append, b1, List.filter_cons, b2, List.nil_append]
    have hp1 : pick cs sill r k = decide (sill ≤ (cs.map loadB).getD k 0) := by
      unfold pick
      rw [ahead_idx h, decide_eq_true rfl, Bool.true_and]
    rw [hp1]
    by_cases hs : sill ≤ (cs.map loadB).getD k 0
    · rw [if_pos hs, decide_eq_true hs, if_pos rfl]
    · rw [if_neg hs, decide_eq_false hs, if_neg (by decide)]
  rw [c1] at hp
  by_cases hs : sill ≤ (cs.map loadB).getD k 0
  · rw [if_pos hs] at hp ⊢
    exact List.perm_singleton.mp hp.symm
  · rw [if_neg hs] at hp ⊢
    exact List.perm_nil.mp hp.symm
theorem row_out {cs : List Bd} {sill : Int} {r : Nat} (h : cs.length ≤ r) : ((List.range cs.length).filter fun j => pick cs sill r j) = [] := by
  refine List.filter_eq_nil_iff.mpr fun j hj z => ?_
  have hm : j ∈ idxOf cs := (idx_perm cs).mem_iff.mpr hj
  obtain ⟨i, hi⟩ := List.getElem?_of_mem hm
  have hil := (List.getElem?_eq_some_iff.mp hi).1
  rw [idx_len] at hil
  unfold pick at z
  rw [ahead_idx hi, decide_eq_false (by omega)] at z
  cases z
def nmAt (cs : List Bd) (k : Nat) : List Nat := (cs.map (·.1)).getD k []
theorem want_eq (cs : List Bd) (sill : Int) : ∀ h : Nat, wantF cs sill h = (((idxOf cs).take h).filter fun k => decide (sill ≤ (cs.map loadB).getD k 0)).map (nmAt cs)
  | 0 => rfl
  | h + 1 => by
    unfold wantF
    rw [want_eq cs sill h]
    unfold rowOf1
    by_cases hh : h < cs.length
    · have hhi : h < (idxOf cs).length := by rw [idx_len]; exact hh
      have hi : (idxOf cs)[h]? = some (idxOf cs)[h] := List.getElem?_eq_getElem hhi
      rw [row_at hi, List.take_add_one, hi, List.filter_append, List.map_append]
      congr 1
      show _ = List.map (nmAt cs) (List.filter _ [(idxOf cs)[h]])
      rw [List.filter_cons, List.filter_nil]
      by_cases hs : sill ≤ (cs.map loadB).getD (idxOf cs)[h] 0
      · rw [if_pos hs, if_pos (decide_eq_true hs)]
        rfl
      · rw [if_neg hs, if_neg (by rw [decide_eq_false hs]; decide)]
        rfl
    · rw [row_out (by omega), List.take_of_length_le (i := h) (by rw [idx_len]; omega), List.take_of_length_le (i := h + 1) (by rw [idx_len]; omega)]
      exact List.append_nil _
theorem take_filter {α : Type} {p : α → Bool} : ∀ (l : List α) (n : Nat), l.Pairwise (fun a b => p b = true → p a = true) → (l.filter p).take n = (l.take n).filter p
  | [], n, _ => by simp
  | x :: r, 0, _ => by simp
  | x :: r, n + 1, h => by
    have ih := take_filter r n (List.Pairwise.of_cons h)
    by_cases hx : p x = true
    · rw [List.filter_cons, if_pos hx, List.take_succ_cons, ih, List.take_succ_cons, List.filter_cons, if_pos hx]
    · have no : ∀ y ∈ r, ¬ p y = true := fun y hy hp => hx (List.rel_of_pairwise_cons h hy hp)
      rw [List.filter_cons, if_neg hx, List.take_succ_cons, List.filter_cons, if_neg hx, List.filter_eq_nil_iff.mpr no, List.filter_eq_nil_iff.mpr fun y hy => no y (List.mem_of_mem_take hy)]
      simp
theorem sorted_idx (cs : List Bd) : (sortK ((keysOf cs).zip cs)).map Prod.snd = (idxOf cs).map fun k => cs.getD k ([], 0, 0) := by
  unfold idxOf
  rw [sorted_map]
  congr 3
  refine List.ext_getElem? fun i => ?_
  rw [List.getElem?_map]
  by_cases h : i < cs.length
  · rw [List.getElem?_range h, List.getElem?_eq_getElem h]
    show some cs[i] = some (cs.getD i ([], 0, 0))
    rw [List.getD_eq_getElem?_getD, List.getElem?_eq_getElem h]
    rfl
  · rw [List.getElem?_eq_none (by omega), List.getElem?_eq_none (by rw [List.length_range]; omega)]
    rfl
theorem got_want (cs : List Bd) (floor : Int) (h : Nat) : gotF cs floor h = wantF cs floor h := by
  have mem : ∀ k ∈ idxOf cs, k < cs.length := fun k hk => List.mem_range.mp ((idx_perm cs).mem_iff.mp hk)
  have at1 : ∀ k, k < cs.length → loadB (cs.getD k ([], 0, 0)) = (cs.map loadB).getD k 0 ∧ (cs.getD k ([], 0, 0)).1 = nmAt cs k := fun k hk => by
    unfold nmAt
    rw [List.getD_eq_getElem?_getD, List.getD_eq_getElem?_getD, List.getD_eq_getElem?_getD, List.getElem?_map, List.getElem?_map, List.getElem?_eq_getElem hk]
    exact ⟨rfl, rfl⟩
  have e1 : ((idxOf cs).map fun k => cs.getD k ([], 0, 0)).filter (fun c => decide (floor ≤ loadB c)) = ((idxOf cs).filter fun k => decide (floor ≤ (cs.map loadB).getD k 0)).map fun k => cs.getD k ([], 0, 0) := by
    rw [List.filter_map]
    congr 1
    refine List.filter_congr fun k hk => ?_
    show decide (floor ≤ loadB (cs.getD k ([], 0, 0))) = _
    rw [(at1 k (mem k hk)).1]
  rw [want_eq]
  unfold gotF
  rw [sorted_idx, e1, List.map_map, ← List.map_take, take_filter _ _ (List.Pairwise.imp (fun {a b} hb z => ?_) (idx_beats cs))]
  · refine List.map_congr_left fun k hk => ?_
    exact (at1 k (mem k (List.mem_of_mem_take (List.mem_filter.mp hk).1))).2
  · have := of_decide_eq_true z
    have h2 := beats_load hb
    exact decide_eq_true (by omega)
end TK

namespace TK
open PySem PySem.Spec PyProof.Rows L2
/-! ### what is on top of a ranking -/
def bt (L : Nat → Int) (j k : Nat) : Prop := L k < L j ∨ (L j = L k ∧ j < k)
theorem bt_beats (ls : List Int) (j k : Nat) : beats ls j k = true ↔ bt (fun i => ls.getD i 0) j k := by
  unfold beats bt
  simp
theorem bt_trans {L : Nat → Int} {a b c : Nat} (h1 : bt L a b) (h2 : bt L b c) : bt L a c := by
  unfold bt at *
  omega
theorem bt_irr {L : Nat → Int} {a : Nat} (h : bt L a a) : False := by
  unfold bt at h
  omega
theorem bt_anti {L : Nat → Int} {a b : Nat} (h1 : bt L a b) (h2 : bt L b a) : False := bt_irr (bt_trans h1 h2)
theorem bt_load {L : Nat → Int} {a b : Nat} (h : bt L a b) : L b ≤ L a := by
  unfold bt at h
  omega
theorem sorted_uniq {R : Nat → Nat → Prop} (anti : ∀ a b, R a b → R b a → False) (irr : ∀ a, ¬ R a a) : ∀ {l m : List Nat}, l.Perm m → l.Pairwise R → m.Pairwise R → l = m
  | [], m, h, _, _ => (List.nil_perm.mp h).symm
  | a :: l, [], h, _, _ => by cases (List.perm_nil.mp h)
  | a :: l, b :: m, h, hl, hm => by
    have e : a = b := by
      have h1 : a ∈ b :: m := h.mem_iff.mp (List.mem_cons_self ..)
      have h2 : b ∈ a :: l := h.mem_iff.mpr (List.mem_cons_self ..)
      rcases List.mem_cons.mp h1 with q | q
      · exact q
      · rcases List.mem_cons.mp h2 with z | z
        · exact z.symm
        · exact (anti b a (List.rel_of_pairwise_cons hm q) (List.rel_of_pairwise_cons hl z)).elim
    subst e
    rw [sorted_uniq anti irr (List.Perm.cons_inv h) hl.of_cons hm.of_cons]
/-- these places are what a ranking gives to so many hours -/
structure Top (L : Nat → Int) (n : Nat) (sill : Int) (h : Nat) (ps : List Nat) : Prop where
  lt : ∀ p ∈ ps, p < n
  pw : ps.Pairwise (bt L)
  ge : ∀ p ∈ ps, sill ≤ L p
  le : ps.length ≤ h
  out : ∀ q, q < n → q ∉ ps → sill ≤ L q → ps.length = h ∧ ∀ p ∈ ps, bt L p q
theorem pw_nodup {L : Nat → Int} {ps : List Nat} (h : ps.Pairwise (bt L)) : ps.Nodup := List.nodup_iff_pairwise_ne.mpr (h.imp fun {a b} q z => by subst z; exact bt_irr q)
theorem top_of {L : Nat → Int} {n : Nat} {sill : Int} {h : Nat} {ix ps : List Nat} (hp : ix.Perm (List.range n)) (hw : ix.Pairwise (bt L)) : (ix.filter fun k => decide (sill ≤ L k)).take h = ps ↔ Top L n sill h ps := by
  have nd : ix.Nodup := hp.nodup_iff.mpr List.nodup_range
  have mem : ∀ k, k ∈ (ix.filter fun k => decide (sill ≤ L k)) ↔ k < n ∧ sill ≤ L k := fun k => by
    rw [List.mem_filter, hp.mem_iff, List.mem_range]
    simp
  have fw := hw.filter fun k => decide (sill ≤ L k)
  constructor
  · intro e
    subst e
    have cut := List.take_append_drop h (ix.filter fun k => decide (sill ≤ L k))
    have fw2 := fw
    rw [← cut] at fw2
    have ap := List.pairwise_append.mp fw2
    refine ⟨fun p hp => ((mem p).mp (List.mem_of_mem_take hp)).1, ap.1, fun p hp => ((mem p).mp (List.mem_of_mem_take hp)).2, by rw [List.length_take]; omega, fun q hq ho hs => ?_⟩
    have hm := (mem q).mpr ⟨hq, hs⟩
    rw [← cut] at hm
    rcases List.mem_append.mp hm with z | z
    · exact (ho z).elim
    · refine ⟨?_, fun p hp => ap.2.2 p hp q z⟩
      have : 0 < ((ix.filter fun k => decide (sill ≤ L k)).drop h).length := List.length_pos_of_mem z
      rw [List.length_drop] at this
      rw [List.length_take]
      omega
  · intro T
    have nps := pw_nodup T.pw
    have key : ps ++ (ix.filter fun k => decide (sill ≤ L k)).filter (fun k => decide (k ∉ ps)) = ix.filter fun k => decide (sill ≤ L k) := by
      refine sorted_uniq (R := bt L) (fun a b => bt_anti) (fun a => bt_irr) ?_ ?_ fw
      · have nF : (ix.filter fun k => decide (sill ≤ L k)).Nodup := nd.filter _
        refine (List.perm_ext_iff_of_nodup ?_ nF).mpr fun k => ?_
        · refine List.nodup_append.mpr ⟨nps, nF.filter _, fun a ha b hb e => ?_⟩
          subst e
          have := (List.mem_filter.mp hb).2
          exact of_decide_eq_true this ha
        · rw [List.mem_append, List.mem_filter]
          constructor
          · rintro (z | z)
            · exact (mem k).mpr ⟨T.lt k z, T.ge k z⟩
            · exact z.1
          · intro z
            by_cases hk : k ∈ ps
            · exact .inl hk
            · exact .inr ⟨z, decide_eq_true hk⟩
      · refine List.pairwise_append.mpr ⟨T.pw, fw.filter _, fun a ha b hb => ?_⟩
        have hb1 := List.mem_filter.mp hb
        have hb2 := (mem b).mp hb1.1
        exact (T.out b hb2.1 (of_decide_eq_true hb1.2) hb2.2).2 a ha
    by_cases hl : ps.length = h
    · rw [← key, List.take_append_of_le_length (by omega), List.take_of_length_le (by omega)]
    · have e : (ix.filter fun k => decide (sill ≤ L k)).filter (fun k => decide (k ∉ ps)) = [] := List.filter_eq_nil_iff.mpr fun b hb z => by
        have hb2 := (mem b).mp hb
        exact hl (T.out b hb2.1 (of_decide_eq_true z) hb2.2).1
      rw [e, List.append_nil] at key
      rw [← key, List.take_of_length_le T.le]
theorem nm_inj {cs : List Bd} (nd : (cs.map (·.1)).Nodup) : ∀ {ps qs : List Nat}, (∀ p ∈ ps, p < cs.length) → (∀ q ∈ qs, q < cs.length) → ps.map (nmAt cs) = qs.map (nmAt cs) → ps = qs
  | [], [], _, _, _ => rfl
  | [], _ :: _, _, _, h => by cases h
  | _ :: _, [], _, _, h => by cases h
  | p :: ps, q :: qs, h1, h2, h => by
    rw [List.map_cons, List.map_cons] at h
    obtain ⟨e1, e2⟩ := List.cons.inj h
    have a : ∀ k, k < cs.length → (cs.map (·.1))[k]? = some (nmAt cs k) := fun k hk => by
      unfold nmAt
      rw [List.getD_eq_getElem?_getD, List.getElem?_map, List.getElem?_eq_getElem hk]
      rfl
    have a1 := a p (h1 p (List.mem_cons_self ..))
    have a2 := a q (h2 q (List.mem_cons_self ..))
    rw [e1] at a1
    rw [nd_ix nd a1 a2, nm_inj nd (fun p hp => h1 p (List.mem_cons_of_mem _ hp)) (fun q hq => h2 q (List.mem_cons_of_mem _ hq)) e2]
theorem want_top {cs : List Bd} {sill : Int} {h : Nat} {ps : List Nat} (nd : (cs.map (·.1)).Nodup) (hps : ∀ p ∈ ps, p < cs.length) : wantF cs sill h = ps.map (nmAt cs) ↔ Top (fun k => (cs.map loadB).getD k 0) cs.length sill h ps := by
  have hw : (idxOf cs).Pairwise (bt fun k => (cs.map loadB).getD k 0) := (idx_beats cs).imp fun {a b} q => (bt_beats _ a b).mp q
  have tf := take_filter (p := fun k => decide (sill ≤ (cs.map loadB).getD k 0)) (idxOf cs) h (hw.imp fun {a b} q z => decide_eq_true (Int.le_trans (of_decide_eq_true z) (bt_load q)))
  rw [want_eq, ← tf, ← top_of (idx_perm cs) hw]
  constructor
  · intro e
    refine nm_inj nd (fun p hp => ?_) hps e
    exact List.mem_range.mp ((idx_perm cs).mem_iff.mp (List.mem_filter.mp (List.mem_of_mem_take hp)).1)
  · intro e
    rw [e]
/-! ### raises -/
def wt (cs : List Bd) (k : Nat) : Int := (cs.map (·.2.1)).getD k 1
def bdAt (cs : List Bd) (k : Nat) : Int := (cs.map (·.2.2)).getD k 0
def onUp (p q : Nat) : Int := if q < p then 1 else 0
def needOf (floor : Int) (l : List (Int × Nat)) (p : Nat) : Int := l.foldl (fun m b => max m (b.1 + onUp p b.2)) floor
def rOf (w b need : Int) : Int := max 0 ((need + w - 1) / w - b)
def outs (cs : List Bd) (ps : List Nat) : List (Int × Nat) := ((List.range cs.length).filter fun k => decide (k ∉ ps)).map fun k => (wt cs k * bdAt cs k, k)
/-- what must rank behind the one ahead of these, and the raises -/
def behindF (cs : List Bd) (floor : Int) (o : List (Int × Nat)) : List Nat → List (Int × Nat) × (Nat → Int)
  | [] => (o, fun _ => 0)
  | p :: ps =>
    let r := behindF cs floor o ps
    let x := rOf (wt cs p) (bdAt cs p) (needOf floor r.1 p)
    ([(wt cs p * (bdAt cs p + x), p)], fun k => if k = p then x else r.2 k)
def ldR (cs : List Bd) (rs : Nat → Int) (k : Nat) : Int := wt cs k * (bdAt cs k + rs k)
theorem need_le {floor : Int} {p : Nat} : ∀ (l : List (Int × Nat)) (m : Int), l.foldl (fun m b => max m (b.1 + onUp p b.2)) floor ≤ m ↔ floor ≤ m ∧ ∀ b ∈ l, b.1 + onUp p b.2 ≤ m := by
  intro l
  induction l generalizing floor with
  | nil => intro m; simp
  | cons b l ih =>
    intro m
    rw [List.foldl_cons, ih]
    simp only [List.mem_cons, forall_eq_or_imp]
    constructor
    · rintro ⟨h1, h2⟩
      exact ⟨by omega, by omega, h2⟩
    · rintro ⟨h1, h2, h3⟩
      exact ⟨by omega, h3⟩
theorem need_mem {floor : Int} {p : Nat} : ∀ (l : List (Int × Nat)), l.foldl (fun m b => max m (b.1 + onUp p b.2)) floor ∈ floor :: l.map fun b => b.1 + onUp p b.2 := by
  intro l
  induction l generalizing floor with
  | nil => simp
  | cons b l ih =>
    rw [List.foldl_cons]
    have := ih (floor := max floor (b.1 + onUp p b.2))
    rcases List.mem_cons.mp this with q | q
    · rw [q]
      by_cases h : floor ≤ b.1 + onUp p b.2
      · rw [show max floor (b.1 + onUp p b.2) = b.1 + onUp p b.2 by omega]; simp
      · rw [show max floor (b.1 + onUp p b.2) = floor by omega]; simp
    · simp only [List.map_cons, List.mem_cons]
      exact .inr (.inr q)
theorem need_is {floor : Int} {p : Nat} {l : List (Int × Nat)} {m : Int} (h1 : m ∈ floor :: l.map fun b => b.1 + onUp p b.2) (h2 : ∀ y ∈ floor :: l.map (fun b => b.1 + onUp p b.2), y ≤ m) : m = needOf floor l p := by
  have a : needOf floor l p ≤ m := (need_le l m).mpr ⟨h2 _ (List.mem_cons_self ..), fun b hb => h2 _ (List.mem_cons_of_mem _ (List.mem_map.mpr ⟨b, hb, rfl⟩))⟩
  have b : m ≤ needOf floor l p := by
    have k := (need_le l (needOf floor l p)).mp (Int.le_refl _)
    rcases List.mem_cons.mp h1 with q | q
    · rw [q]; exact k.1
    · obtain ⟨b, hb, rfl⟩ := List.mem_map.mp q
      exact k.2 b hb
  omega
theorem r_nonneg (w b need : Int) : 0 ≤ rOf w b need := by unfold rOf; omega
theorem r_enough {w b need : Int} (hw : 1 ≤ w) : need ≤ w * (b + rOf w b need) := by
  have h1 : (need + w - 1) / w ≤ b + rOf w b need := by unfold rOf; omega
  have h2 : need + w - 1 < w * ((need + w - 1) / w + 1) := by
    have := Int.lt_mul_ediv_self_add (x := need + w - 1) (k := w) (by omega)
    rw [Int.mul_add, Int.mul_one]
    exact this
  have h3 : w * ((need + w - 1) / w) ≤ w * (b + rOf w b need) := Int.mul_le_mul_of_nonneg_left h1 (by omega)
  rw [Int.mul_add, Int.mul_one] at h2
  omega
theorem r_least {w b need r : Int} (hw : 1 ≤ w) (h0 : 0 ≤ r) (h : need ≤ w * (b + r)) : rOf w b need ≤ r := by
  have h1 : (need + w - 1) / w ≤ b + r := by
    have : (need + w - 1) / w < b + r + 1 := by
      refine Int.ediv_lt_of_lt_mul (by omega) ?_
      rw [Int.add_mul, Int.one_mul, Int.mul_comm]
      omega
    omega
  unfold rOf
  omega
def hdB (L : Nat → Int) (o : List (Int × Nat)) : List Nat → List (Int × Nat)
  | [] => o
  | q :: _ => [(L q, q)]
theorem hdB_congr {L M : Nat → Int} {o : List (Int × Nat)} : ∀ {ps : List Nat}, (∀ q ∈ ps, L q = M q) → hdB L o ps = hdB M o ps
  | [], _ => rfl
  | q :: _, h => by
    show [(L q, q)] = [(M q, q)]
    rw [h q (List.mem_cons_self ..)]
/-- each beats what stands behind, and reaches the floor -/
def Chain (L : Nat → Int) (floor : Int) (o : List (Int × Nat)) : List Nat → Prop
  | [] => True
  | p :: ps => floor ≤ L p ∧ (∀ b ∈ hdB L o ps, b.1 + onUp p b.2 ≤ L p) ∧ Chain L floor o ps
theorem behind_chain {cs : List Bd} (hw : ∀ k, 1 ≤ wt cs k) {floor : Int} {o : List (Int × Nat)} : ∀ {ps : List Nat}, ps.Nodup →
    (∀ k, k ∉ ps → (behindF cs floor o ps).2 k = 0) ∧ (∀ k, 0 ≤ (behindF cs floor o ps).2 k) ∧
    (behindF cs floor o ps).1 = hdB (ldR cs (behindF cs floor o ps).2) o ps ∧
    Chain (ldR cs (behindF cs floor o ps).2) floor o ps
  | [], _ => ⟨fun _ _ => rfl, fun _ => Int.le_refl 0, rfl, True.intro⟩
  | p :: ps, nd => by
    obtain ⟨hp, nd2⟩ := List.nodup_cons.mp nd
    obtain ⟨h1, h2, h3, h4⟩ := behind_chain hw (floor := floor) (o := o) nd2
    have ex : ∀ k, k ≠ p → (behindF cs floor o (p :: ps)).2 k = (behindF cs floor o ps).2 k := fun k hk => by
      show (if k = p then _ else _) = _
      rw [if_neg hk]
    have ep : (behindF cs floor o (p :: ps)).2 p = rOf (wt cs p) (bdAt cs p) (needOf floor (behindF cs floor o ps).1 p) := by
      show (if p = p then _ else _) = _
      rw [if_pos rfl]
    have chain_congr : ∀ {L M : Nat → Int} {qs : List Nat}, (∀ q ∈ qs, L q = M q) → Chain L floor o qs → Chain M floor o qs := by
      intro L M qs
      induction qs with
      | nil => intro _ _; exact True.intro
      | cons q qs ih =>
        intro e c
        obtain ⟨c1, c2, c3⟩ := c
        refine ⟨by rw [← e q (List.mem_cons_self ..)]; exact c1, ?_, ih (fun x hx => e x (List.mem_cons_of_mem _ hx)) c3⟩
        rw [← e q (List.mem_cons_self ..), ← hdB_congr fun x hx => e x (List.mem_cons_of_mem _ hx)]
        exact c2
    have ld_ne : ∀ k, k ≠ p → ldR cs (behindF cs floor o (p :: ps)).2 k = ldR cs (behindF cs floor o ps).2 k := fun k hk => by
      unfold ldR
      rw [ex k hk]
    have enough := r_enough (w := wt cs p) (b := bdAt cs p) (need := needOf floor (behindF cs floor o ps).1 p) (hw p)
    have ldp : ldR cs (behindF cs floor o (p :: ps)).2 p = wt cs p * (bdAt cs p + rOf (wt cs p) (bdAt cs p) (needOf floor (behindF cs floor o ps).1 p)) := by
      unfold ldR
      rw [ep]
    rw [← ldp] at enough
    obtain ⟨e1, e2⟩ := (need_le _ _).mp enough
    refine ⟨fun k hk => ?_, fun k => ?_, ?_, e1, ?_, chain_congr (fun q hq => (ld_ne q fun z => by subst z; exact hp hq).symm) h4⟩
    · rw [ex k (fun z => hk (by rw [z]; exact List.mem_cons_self ..))]
      exact h1 k fun z => hk (List.mem_cons_of_mem _ z)
    · by_cases hk : k = p
      · rw [hk, ep]; exact r_nonneg ..
      · rw [ex k hk]; exact h2 k
    · show [(_, p)] = [(_, p)]
      rw [ldp]
    · rw [h3] at e2
      rw [hdB_congr fun q hq => ld_ne q fun z => by subst z; exact hp hq]
      exact e2
theorem behind_least {cs : List Bd} (hw : ∀ k, 1 ≤ wt cs k) {floor : Int} {o : List (Int × Nat)} {rs : Nat → Int} (h0 : ∀ k, 0 ≤ rs k) : ∀ {ps : List Nat}, ps.Nodup → Chain (ldR cs rs) floor o ps → ∀ k, (behindF cs floor o ps).2 k ≤ rs k
  | [], _, _, k => h0 k
  | p :: ps, nd, c, k => by
    obtain ⟨hp, nd2⟩ := List.nodup_cons.mp nd
    obtain ⟨c1, c2, c3⟩ := c
    have ih := behind_least hw h0 nd2 c3
    by_cases hk : k = p
    · subst hk
      show (if k = k then _ else _) ≤ _
      rw [if_pos rfl]
      refine r_least (hw k) (h0 k) ((need_le _ _).mpr ⟨c1, fun b hb => ?_⟩)
      obtain ⟨_, _, h3, _⟩ := behind_chain hw (floor := floor) (o := o) nd2
      rw [h3] at hb
      cases ps with
      | nil => exact c2 b hb
      | cons q qs =>
        have eb : b = (ldR cs (behindF cs floor o (q :: qs)).2 q, q) := List.mem_singleton.mp hb
        subst eb
        have := c2 (ldR cs rs q, q) (List.mem_singleton.mpr rfl)
        have le : ldR cs (behindF cs floor o (q :: qs)).2 q ≤ ldR cs rs q := by
          unfold ldR
          exact Int.mul_le_mul_of_nonneg_left (by have := ih q; omega) (by have := hw q; omega)
        show _ + onUp k q ≤ _
        have t2 : ldR cs rs q + onUp k q ≤ ldR cs rs k := this
        show ldR cs _ q + onUp k q ≤ ldR cs rs k
        omega
    · show (if k = p then _ else _) ≤ _
      rw [if_neg hk]
      exact ih k
theorem up_bt {L : Nat → Int} {p q : Nat} (h : p ≠ q) : L q + onUp p q ≤ L p ↔ bt L p q := by
  unfold onUp bt
  split <;> omega
theorem mem_outs {cs : List Bd} {ps : List Nat} {b : Int × Nat} : b ∈ outs cs ps ↔ b.2 < cs.length ∧ b.2 ∉ ps ∧ b.1 = wt cs b.2 * bdAt cs b.2 := by
  unfold outs
  rw [List.mem_map]
  constructor
  · rintro ⟨k, hk, rfl⟩
    have := List.mem_filter.mp hk
    exact ⟨List.mem_range.mp this.1, of_decide_eq_true this.2, rfl⟩
  · rintro ⟨h1, h2, h3⟩
    exact ⟨b.2, List.mem_filter.mpr ⟨List.mem_range.mpr h1, decide_eq_true h2⟩, by rw [← h3]⟩
theorem chain_top {L L0 : Nat → Int} {floor : Int} {o : List (Int × Nat)} : ∀ {ps : List Nat}, ps.Nodup → Chain L floor o ps → (∀ b ∈ o, b.2 ∉ ps ∧ b.1 = L b.2) → ps.Pairwise (bt L) ∧ (∀ p ∈ ps, floor ≤ L p) ∧ ∀ b ∈ o, ∀ p ∈ ps, bt L p b.2
  | [], _, _, _ => ⟨.nil, fun _ h => (nomatch h), fun _ _ _ h => (nomatch h)⟩
  | p :: ps, nd, c, ho => by
    obtain ⟨hp, nd2⟩ := List.nodup_cons.mp nd
    obtain ⟨c1, c2, c3⟩ := c
    obtain ⟨i1, i2, i3⟩ := chain_top (L0 := L0) nd2 c3 fun b hb => ⟨fun z => (ho b hb).1 (List.mem_cons_of_mem _ z), (ho b hb).2⟩
    cases ps with
    | nil =>
      refine ⟨List.pairwise_singleton .., fun x hx => by cases List.mem_singleton.mp hx; exact c1, fun b hb x hx => ?_⟩
      cases List.mem_singleton.mp hx
      have := c2 b hb
      rw [(ho b hb).2] at this
      exact (up_bt fun z => (ho b hb).1 (by rw [← z]; exact List.mem_cons_self ..)).mp this
    | cons q qs =>
      have pq : bt L p q := (up_bt fun z => hp (by rw [z]; exact List.mem_cons_self ..)).mp (c2 (L q, q) (List.mem_singleton.mpr rfl))
      have all : ∀ x ∈ q :: qs, bt L p x := fun x hx => by
        rcases List.mem_cons.mp hx with z | z
        · rw [z]; exact pq
        · exact bt_trans pq (List.rel_of_pairwise_cons i1 z)
      refine ⟨List.pairwise_cons.mpr ⟨all, i1⟩, fun x hx => ?_, fun b hb x hx => ?_⟩
      · rcases List.mem_cons.mp hx with z | z
        · rw [z]; exact c1
        · exact i2 x z
      · rcases List.mem_cons.mp hx with z | z
        · rw [z]; exact bt_trans pq (i3 b hb q (List.mem_cons_self ..))
        · exact i3 b hb x z
/-- the names have a price -/
def CanB (cs : List Bd) (ps : List Nat) (h : Nat) (floor : Int) : Prop := ps.length ≤ h ∧ (ps.length < h → ∀ q, q < cs.length → q ∉ ps → wt cs q * bdAt cs q < floor)
def rsF (cs : List Bd) (floor : Int) (ps : List Nat) : Nat → Int := (behindF cs floor (outs cs ps) ps).2
theorem rs_brings {cs : List Bd} (hw : ∀ k, 1 ≤ wt cs k) {floor : Int} {h : Nat} {ps : List Nat} (nd : ps.Nodup) (lt : ∀ p ∈ ps, p < cs.length) (can : CanB cs ps h floor) : Top (ldR cs (rsF cs floor ps)) cs.length floor h ps := by
  obtain ⟨h1, h2, h3, h4⟩ := behind_chain hw (floor := floor) (o := outs cs ps) nd
  have e0 : ∀ q, q ∉ ps → ldR cs (rsF cs floor ps) q = wt cs q * bdAt cs q := fun q hq => by
    unfold ldR rsF
    rw [h1 q hq, Int.add_zero]
  obtain ⟨t1, t2, t3⟩ := chain_top (L := ldR cs (rsF cs floor ps)) (L0 := fun _ => 0) nd h4 fun b hb => by
    obtain ⟨m1, m2, m3⟩ := mem_outs.mp hb
    exact ⟨m2, by rw [m3, e0 _ m2]⟩
  refine ⟨lt, t1, t2, can.1, fun q hq ho hs => ?_⟩
  rw [e0 q ho] at hs
  refine ⟨?_, fun p hp => t3 _ (mem_outs.mpr ⟨hq, ho, rfl⟩ : (wt cs q * bdAt cs q, q) ∈ outs cs ps) p hp⟩
  by_cases hl : ps.length = h
  · exact hl
  · have := can.2 (by have := can.1; omega) q hq ho
    omega
theorem top_chain {L : Nat → Int} {floor : Int} {o : List (Int × Nat)} : ∀ {ps : List Nat}, ps.Pairwise (bt L) → (∀ p ∈ ps, floor ≤ L p) → (∀ b ∈ o, ∀ p ∈ ps, b.1 + onUp p b.2 ≤ L p) → Chain L floor o ps
  | [], _, _, _ => True.intro
  | p :: ps, h1, h2, h3 => by
    refine ⟨h2 p (List.mem_cons_self ..), ?_, top_chain h1.of_cons (fun q hq => h2 q (List.mem_cons_of_mem _ hq)) fun b hb q hq => h3 b hb q (List.mem_cons_of_mem _ hq)⟩
    cases ps with
    | nil => exact fun b hb => h3 b hb p (List.mem_cons_self ..)
    | cons q qs =>
      intro b hb
      have eb : b = (L q, q) := List.mem_singleton.mp hb
      subst eb
      have pq : bt L p q := List.rel_of_pairwise_cons h1 (List.mem_cons_self ..)
      exact (up_bt fun z => by subst z; exact bt_irr pq).mpr pq
theorem brings_can {cs : List Bd} (hw : ∀ k, 1 ≤ wt cs k) {floor : Int} {h : Nat} {ps : List Nat} {rs : Nat → Int} (h0 : ∀ k, 0 ≤ rs k) (T : Top (ldR cs rs) cs.length floor h ps) : CanB cs ps h floor ∧ ∀ k, rsF cs floor ps k ≤ rs k := by
  have up : ∀ q, wt cs q * bdAt cs q ≤ ldR cs rs q := fun q => by
    unfold ldR
    exact Int.mul_le_mul_of_nonneg_left (by have := h0 q; omega) (by have := hw q; omega)
  refine ⟨⟨T.le, fun hl q hq ho => ?_⟩, behind_least hw h0 (pw_nodup T.pw) (top_chain T.pw T.ge fun b hb p hp => ?_)⟩
  · have u := up q
    by_cases hs : floor ≤ ldR cs rs q
    · have := (T.out q hq ho hs).1
      omega
    · omega
  · obtain ⟨m1, m2, m3⟩ := mem_outs.mp hb
    rw [m3]
    have u := up b.2
    have g := T.ge p hp
    by_cases hs : floor ≤ ldR cs rs b.2
    · have z := (up_bt fun z => m2 (by rw [← z]; exact hp)).mpr ((T.out b.2 m1 m2 hs).2 p hp)
      omega
    · unfold onUp
      split <;> omega
end TK

namespace TK
open PySem PySem.Spec PyProof.Rows L2
theorem all_flatN (xs : List (List Nat)) : (xs.map vN).all flatV = true := by
  rw [List.all_eq_true]
  intro x hx
  obtain ⟨c, _, rfl⟩ := List.mem_map.mp hx
  rfl
theorem inV_nm (x : List Nat) (xs : List (List Nat)) : inV (vN x) (xs.map vN) = decide (x ∈ xs) := by
  unfold inV
  by_cases h : x ∈ xs
  · rw [decide_eq_true h, List.any_eq_true]
    exact ⟨vN x, List.mem_map.mpr ⟨x, h, rfl⟩, by rw [eqv_nm]; exact decide_eq_true rfl⟩
  · rw [decide_eq_false h, List.any_eq_false]
    intro y hy z
    obtain ⟨c, hc, rfl⟩ := List.mem_map.mp hy
    rw [eqv_nm] at z
    have := of_decide_eq_true z
    subst this
    exact h hc
theorem nodup_take {α : Type} {xs : List α} (nd : xs.Nodup) {i : Nat} {x : α} (h : xs[i]? = some x) : x ∉ xs.take i := fun hm => by
  obtain ⟨j, hj⟩ := List.getElem?_of_mem hm
  rw [List.getElem?_take] at hj
  split at hj
  · rename_i hji
    have := nd_ix nd hj h
    omega
  · cases hj
section
variable {P : Program} {w : World} {K : PySem.W.Frag} {mg : Str → Option Value} {base : Heap}
/-! check_picks -/
end
end TK

namespace TK
open PySem PySem.Spec PyProof.Rows L2
/-! ### pairs of strength and place -/
def BehAt (H : Hp) (us : List Addr) (bs : List (Int × Nat)) : Prop := us.length = bs.length ∧ ∀ (i : Nat) (u : Addr) (b : Int × Nat), us[i]? = some u → bs[i]? = some b → H u = some (.tup [.int b.1, .int (b.2 : Int)])
theorem BehAt.same {H H' : Hp} {us : List Addr} {bs : List (Int × Nat)} (h : BehAt H us bs) (s : Same H H') : BehAt H' us bs := ⟨h.1, fun i u b a c => s _ _ (h.2 i u b a c)⟩
theorem BehAt.nil {H : Hp} : BehAt H [] [] := ⟨rfl, fun i t c a _ => by simp at a⟩
theorem BehAt.snoc {H : Hp} {us : List Addr} {bs : List (Int × Nat)} {u : Addr} {b : Int × Nat} (h : BehAt H us bs) (e : H u = some (.tup [.int b.1, .int (b.2 : Int)])) : BehAt H (us ++ [u]) (bs ++ [b]) := by
  refine ⟨by rw [List.length_append, List.length_append, h.1]; rfl, fun i t' c' a c => ?_⟩
  by_cases hi : i < us.length
  · rw [List.getElem?_append_left hi] at a
    rw [List.getElem?_append_left (by rw [← h.1]; exact hi)] at c
    exact h.2 i t' c' a c
  · have hi' : i = us.length := by
      have := (List.getElem?_eq_some_iff.mp a).1
      rw [List.length_append] at this
      simp only [List.length_cons, List.length_nil] at this
      omega
    subst hi'
    rw [List.getElem?_append_right (Nat.le_refl _), Nat.sub_self] at a
    rw [List.getElem?_append_right (by rw [h.1]; exact Nat.le_refl _), ← h.1, Nat.sub_self] at c
    cases a
    cases c
    exact e
theorem beh_at {H : Hp} {us : List Addr} {bs : List (Int × Nat)} {i : Nat} {x : V} (h : BehAt H us bs) (e : (us.map V.ref)[i]? = some x) : ∃ (u : Addr) (b : Int × Nat), x = .ref u ∧ us[i]? = some u ∧ bs[i]? = some b ∧ H u = some (.tup [.int b.1, .int (b.2 : Int)]) := by
  rw [List.getElem?_map] at e
  cases ht : us[i]? with
  | none => rw [ht] at e; cases e
  | some t =>
    rw [ht] at e
    cases e
    have hi : i < bs.length := by rw [← h.1]; exact (List.getElem?_eq_some_iff.mp ht).1
    exact ⟨t, bs[i], rfl, rfl, List.getElem?_eq_getElem hi, h.2 i t _ ht (List.getElem?_eq_getElem hi)⟩
def outsTo (cs : List Bd) (ps : List Nat) (i : Nat) : List (Int × Nat) := ((List.range i).filter fun k => decide (k ∉ ps)).map fun k => (wt cs k * bdAt cs k, k)
theorem outs_len (cs : List Bd) (ps : List Nat) (i : Nat) : (outsTo cs ps i).length ≤ i := by
  unfold outsTo
  rw [List.length_map]
  have := List.length_filter_le (fun k => decide (k ∉ ps)) (List.range i)
  rw [List.length_range] at this
  exact this
theorem cs_get {cs : List Bd} {i : Nat} {c : Bd} (h : cs[i]? = some c) : wt cs i = c.2.1 ∧ bdAt cs i = c.2.2 ∧ nmAt cs i = c.1 := by
  unfold wt bdAt nmAt
  rw [List.getD_eq_getElem?_getD, List.getD_eq_getElem?_getD, List.getD_eq_getElem?_getD, List.getElem?_map, List.getElem?_map, List.getElem?_map, h]
  exact ⟨rfl, rfl, rfl⟩
theorem nm_mem {cs : List Bd} (nd : (cs.map (·.1)).Nodup) {ps : List Nat} (lt : ∀ p ∈ ps, p < cs.length) {k : Nat} (hk : k < cs.length) : nmAt cs k ∈ ps.map (nmAt cs) ↔ k ∈ ps := by
  constructor
  · intro h
    obtain ⟨p, hp, e⟩ := List.mem_map.mp h
    have := nm_inj nd (ps := [p]) (qs := [k]) (fun q hq => by cases List.mem_singleton.mp hq; exact lt p hp) (fun q hq => by cases List.mem_singleton.mp hq; exact hk) (by rw [List.map_cons, List.map_cons, e])
    cases this
    exact hp
  · exact fun h => List.mem_map.mpr ⟨k, h, rfl⟩
theorem wt_pos {cs : List Bd} (ok : ∀ c ∈ cs, 1 ≤ c.2.1) (k : Nat) : 1 ≤ wt cs k := by
  unfold wt
  rw [List.getD_eq_getElem?_getD, List.getElem?_map]
  cases h : cs[k]? with
  | none => exact Int.le_refl 1
  | some c => exact ok c (List.mem_of_getElem? h)
/-- max of a list, or -1 -/
theorem both_max {ns : List Int} {Q : Int → Prop} (h : ∀ st : Int, (∀ f : Int, 0 ≤ f → (f ≤ st ↔ ∃ y ∈ ns, f ≤ y)) → Q st) : (∀ m, m ∈ ns → (∀ y, y ∈ ns → y ≤ m) → Q m) ∧ (ns = [] → Q (-1)) := by
  refine ⟨fun m h1 h2 => h m fun f _ => ⟨fun hf => ⟨m, h1, hf⟩, fun ⟨y, hy, hf⟩ => Int.le_trans hf (h2 y hy)⟩, fun e => h (-1) fun f hf => ⟨fun z => by omega, fun ⟨y, hy, _⟩ => by rw [e] at hy; cases hy⟩⟩
def rsL (cs : List Bd) (rs : Nat → Int) : List Int := (List.range cs.length).map rs
theorem rs_set {cs : List Bd} {rs : Nat → Int} {p : Nat} {x : Int} : (rsL cs rs).set p x = rsL cs (fun k => if k = p then x else rs k) := by
  unfold rsL
  refine List.ext_getElem? fun i => ?_
  rw [List.getElem?_set, List.length_map, List.length_range, List.getElem?_map, List.getElem?_map]
  by_cases hi : i < cs.length
  · rw [List.getElem?_range hi]
    by_cases hp : p = i
    · subst hp
      rw [if_pos rfl, if_pos hi]
      show _ = some (if p = p then x else rs p)
      rw [if_pos rfl]
    · rw [if_neg hp]
      show some (rs i) = some (if i = p then x else rs i)
      rw [if_neg (fun z => hp z.symm)]
  · rw [List.getElem?_eq_none (by rw [List.length_range]; omega)]
    split <;> simp_all
theorem rs_get {cs : List Bd} {rs : Nat → Int} {p : Nat} (h : p < cs.length) : (rsL cs rs)[p]? = some (rs p) := by
  unfold rsL
  rw [List.getElem?_map, List.getElem?_range h]
  rfl
theorem rs_len {cs : List Bd} {rs : Nat → Int} : (rsL cs rs).length = cs.length := by
  unfold rsL
  rw [List.length_map, List.length_range]
theorem fdiv_w {a w : Int} (h : 1 ≤ w) : a.fdiv w = a / w := Int.fdiv_eq_ediv_of_nonneg a (by omega)
theorem maxr (w b need : Int) : (if (need + w - 1) / w - b > 0 then (need + w - 1) / w - b else 0) = rOf w b need := by
  unfold rOf
  split <;> omega
theorem rep_zero {n : Nat} {cs : List Bd} (h : n = cs.length) : (List.replicate ((n : Nat) : Int).toNat [V.int 0]).flatten = (rsL cs fun _ => 0).map V.int := by
  subst h
  rw [Int.toNat_natCast]
  unfold rsL
  refine List.ext_getElem? fun i => ?_
  have fl : ∀ n : Nat, (List.replicate n [V.int 0]).flatten = List.replicate n (V.int 0) := fun n => by
    induction n with
    | zero => rfl
    | succ n ih => rw [List.replicate_succ, List.flatten_cons, ih]; rfl
  rw [fl, List.getElem?_replicate, List.getElem?_map, List.getElem?_map]
  by_cases hi : i < cs.length
  · rw [if_pos hi, List.getElem?_range hi]; rfl
  · rw [if_neg hi, List.getElem?_eq_none (by rw [List.length_range]; omega)]; rfl
section
variable {P : Program} {w : World} {K : PySem.W.Frag} {mg : Str → Option Value} {base : Heap}
def spRaises (K : PySem.W.Frag) : Sp := fun vs H Q _ => ∃ (a u : Addr) (ts : List Addr) (cs : List Bd) (ps : List Nat) (hours : Nat) (floor : Int), vs = [.ref a, .ref u, .int (hours : Int), .int floor] ∧ SqS K H a (ts.map V.ref) ∧ CrewAt H ts cs ∧ CrewOk cs ∧
  SqT K H u ((ps.map (nmAt cs)).map vN) ∧ ps.Nodup ∧ (∀ p ∈ ps, p < cs.length) ∧ 0 ≤ floor ∧ (¬ CanB cs ps hours floor → ∀ H', Same H H' → Q .non H') ∧
  (CanB cs ps hours floor → ∀ (H' : Hp) (t : Addr), Same H H' → H' t = some (.tup ((rsL cs (rsF cs floor ps)).map V.int)) → Q (.ref t) H')
theorem ok_raises {f : Addr} {fd : FuncData} (F : Fun K "_raises" "_raises" s_raises f fd) (m_enumerate : mg "enumerate" = none) (m_max : mg "max" = none) (m_len : mg "len" = none) (m_reversed : mg "reversed" = none) (m_list : mg "list" = none) (m_tuple : mg "tuple" = none)
    (d_strength : Def P w K mg base "strength" 1 ["bidder"] (spStrength K)) (d_names : Def P w K mg base "_names" 1 ["bidders"] (spNamesOf K)) : FnOk P w K mg base CX0 3 f fd ["bidders", "names", "hours", "floor"] (spRaises K) := by
  refine F.ok sc_raises (fun vs H Q E h => ?_) (fun cdv A outer s H vs Q E hr h => ?_)
  · obtain ⟨a, u, ts, cs, ps, hours, floor, rfl, _⟩ := h
    rfl
  · obtain ⟨a, u, ts, cs, ps, hours, floor, rfl, hS, ca, ck, hT, nd, lt, fl0, q0, q1⟩ := h
    have h6 := ck.few
    have hlen : ts.length = cs.length := ca.1
    have hw : ∀ k, 1 ≤ wt cs k := wt_pos fun c hc => (ck.ok c hc).2.1
    have nlen : ((ps.map (nmAt cs)).map vN).length = ps.length := by rw [List.length_map, List.length_map]
    have outsE : outsTo cs ps cs.length = outs cs ps := rfl
    have ol := outs_len cs ps cs.length
    -- one turn of the first comprehension
    have ostep : ∀ (i : Nat), outsTo cs ps (i + 1) = outsTo cs ps i ++ (if i ∈ ps then [] else [(wt cs i * bdAt cs i, i)]) := fun i => by
      unfold outsTo
      rw [List.range_succ, List.filter_append, List.map_append, List.filter_cons, List.filter_nil]
      by_cases hp : i ∈ ps
      · rw [if_neg (by simpa using hp), if_pos hp]; rfl
      · rw [if_pos (by simpa using hp), if_neg hp]; rfl
    have canE : ∀ st : Int, (∀ f : Int, 0 ≤ f → (f ≤ st ↔ ∃ y ∈ (outs cs ps).map (·.1), f ≤ y)) → (CanB cs ps hours floor ↔ ¬ (hours < ps.length ∨ (ps.length < hours ∧ floor ≤ st))) := fun st hst => by
      have e : floor ≤ st ↔ ∃ q, q < cs.length ∧ q ∉ ps ∧ floor ≤ wt cs q * bdAt cs q := by
        rw [hst floor fl0]
        constructor
        · rintro ⟨y, hy, hf⟩
          obtain ⟨b, hb, rfl⟩ := List.mem_map.mp hy
          obtain ⟨m1, m2, m3⟩ := mem_outs.mp hb
          exact ⟨b.2, m1, m2, by rw [← m3]; exact hf⟩
        · rintro ⟨q, q1, q2, q3⟩
          exact ⟨_, List.mem_map.mpr ⟨(wt cs q * bdAt cs q, q), mem_outs.mpr ⟨q1, q2, rfl⟩, rfl⟩, q3⟩
      unfold CanB
      constructor
      · rintro ⟨c1, c2⟩ (z | ⟨z1, z2⟩)
        · omega
        · obtain ⟨x, x1, x2, x3⟩ := e.mp z2
          have := c2 z1 x x1 x2
          omega
      · intro n
        refine ⟨Nat.le_of_not_lt fun z => n (.inl z), fun hl x x1 x2 => ?_⟩
        have : ¬ floor ≤ wt cs x * bdAt cs x := fun z => n (.inr ⟨hl, e.mpr ⟨x, x1, x2, z⟩⟩)
        omega
    refine ⟨_, (pss_cons (ps_cut (ps_setLc (i := 4) (own := [("place", 13), ("bidder", 14)]) (by rfl) sc_raises.nd rfl rfl (sw_true rfl rfl rfl (by decide +kernel)) (pi_or (pi_enum (by rfl) m_enumerate (pa_cons (pv 0) pa_nil)) (pi_enumT (by rfl) m_enumerate (pa_cons (pv 0) pa_nil))) (blkOk_by (N := ["bidders", "names", "hours", "floor", "behind", "strongest", "raises", "name", "at", "_", "weight", "bid", "need", "place", "bidder", "rival"]) (sc := defScope s_raises) (by decide +kernel)) (fun _ _ _ _ _ => (pg_tupK (K := K) (n := 2) rfl (by rfl) (pgs_cons (pg_name (i := 13) sc_raises.nd rfl (.inl rfl)) (pgs_cons (pg_name (i := 14) sc_raises.nd rfl (.inl rfl)) pgs_nil)))) (fun _ _ _ _ _ => (pts_one (pt_cmpR (op_notIn_seqK (K := K) rfl) (pe_ix (ix_tupK (K := K) rfl) (pv 14) pe_int (fun _ _ => rfl)) (pv 1) (by rfl)))) (fun _ _ _ _ _ => (pe_tup (pa_cons (pe_callD d_strength (hr.mono (by decide)) (by rfl) (pa_cons (pv 14) pa_nil)) (pa_cons (pv 13) pa_nil))))))
  (pss_cons (ps_cut (ps_set (i := 5) sc_raises.nd rfl (.inl rfl) (pe_callBK (cr_maxDef rfl hr.units) (by rfl) m_max (by decide +kernel) (pa_cons (pe_lc (own := [("rival", 15), ("_", 9)]) (by rfl) sc_raises.nd (pi_list (pv 4)) (blkOk_by (N := ["bidders", "names", "hours", "floor", "behind", "strongest", "raises", "name", "at", "_", "weight", "bid", "need", "place", "bidder", "rival"]) (sc := defScope s_raises) (by decide +kernel)) (fun _ _ _ _ _ => (pg_tupK (K := K) (n := 2) rfl (by rfl) (pgs_cons (pg_name (i := 15) sc_raises.nd rfl (.inl rfl)) (pgs_cons (pg_name (i := 9) sc_raises.nd rfl (.inl rfl)) pgs_nil)))) (fun _ _ _ _ _ => pts_nil) (fun _ _ _ _ _ => (pv 15))) pa_nil) (pk_cons (pe_un un_neg pe_int) pk_nil))))
  (pss_cons (ps_cut (ps_if (PW.pt (pw_or (pt_cmpR op_gt (pe_callB call_len_seq (by rfl) m_len (by decide +kernel) (pa_cons (pv 1) pa_nil)) (pv 2) (nomark _)) (pw_or1 (PW.pt (pw_and (pt_cmpR op_lt (pe_callB call_len_seq (by rfl) m_len (by decide +kernel) (pa_cons (pv 1) pa_nil)) (pv 2) (nomark _)) (pw_and1 (pt_cmpR op_ge (pv 5) (pv 3) (nomark _)))))))) (pss_one (ps_ret pe_non)) pss_nil))
  (pss_cons (ps_set (i := 6) sc_raises.nd rfl (.inl rfl) (pe_op op_rep (pe_lst (pa_cons pe_int pa_nil)) (pe_callB call_len_seq (by rfl) m_len (by decide +kernel) (pa_cons (pv 0) pa_nil))))
  (pss_cons (ps_for PassesOwn.never rfl (pi_reversed (by rfl) m_reversed (pa_cons (pe_callTy call_list_of (by rfl) m_list (by decide +kernel) (pa_cons (pv 1) pa_nil)) pa_nil)) (pg_name (i := 7) sc_raises.nd rfl (.inl rfl))
    (pss_cons (ps_set (i := 8) sc_raises.nd rfl (.inr rfl) (pe_bm PySem.F.plainAttrs_list PySem.F.slot_list_index PySem.F.type_list_index mt_index (pe_callD d_names (hr.mono (by decide)) (by rfl) (pa_cons (pv 0) pa_nil)) (pa_cons (pv 7) pa_nil)))
  (pss_cons (ps_asg (pe_cut (pe_or2 (pe_ix ix_list (pv 0) (pv 8) (fun _ _ => rfl)) (pe_ix ix_tup (pv 0) (pv 8) (fun _ _ => rfl)))) (pg_tup (by rfl) (pgs_cons (pg_name (i := 9) sc_raises.nd rfl (.inl rfl)) (pgs_cons (pg_name (i := 10) sc_raises.nd rfl (.inl rfl)) (pgs_cons (pg_name (i := 11) sc_raises.nd rfl (.inl rfl)) pgs_nil)))))
  (pss_cons (ps_set (i := 12) sc_raises.nd rfl (.inl rfl) (pe_callB (cr_max rfl) (by rfl) m_max (by decide +kernel) (pa_cons (pe_lst (pa_cons (pv 3) (StX.pa_star (pe_lc (own := [("rival", 15), ("place", 13)]) (by rfl) sc_raises.nd (pi_list (pv 4)) (blkOk_by (N := ["bidders", "names", "hours", "floor", "behind", "strongest", "raises", "name", "at", "_", "weight", "bid", "need", "place", "bidder", "rival"]) (sc := defScope s_raises) (by decide +kernel)) (fun _ _ _ _ _ => (pg_tupK (K := K) (n := 2) rfl (by rfl) (pgs_cons (pg_name (i := 15) sc_raises.nd rfl (.inl rfl)) (pgs_cons (pg_name (i := 13) sc_raises.nd rfl (.inl rfl)) pgs_nil)))) (fun _ _ _ _ _ => pts_nil) (fun _ _ _ _ _ => (pe_op op_add (pv 15) (pe_ifExp (pt_cmpR op_lt (pv 13) (pv 8) (nomark _)) pe_int pe_int)))) pa_nil))) pa_nil)))
  (pss_cons (ps_asg (pe_callB (call_max2 rfl) (by rfl) m_max (by decide +kernel) (pa_cons pe_int (pa_cons (pe_op op_sub (pe_op op_fdivN (pe_op op_sub (pe_op op_add (pv 12) (pv 10)) pe_int) (pv 10)) (pv 11)) pa_nil))) (pg_sub (pv 6) (pv 8) set_list))
  (pss_one (ps_set (i := 4) sc_raises.nd rfl (.inl rfl) (pe_lst (pa_cons (pe_tup (pa_cons (pe_op op_mul (pv 10) (pe_op op_add (pv 11) (pe_ix ix_list (pv 6) (pv 8) (fun _ _ => rfl)))) (pa_cons (pv 8) pa_nil))) pa_nil)))))))))
  (pss_one (ps_ret (pe_callTy call_tuple_of (by rfl) m_tuple (by decide +kernel) (pa_cons (pv 6) pa_nil))))))))), ?_⟩
    have SQA2 : ∀ {H' : Hp}, Same H H' → SqL K H' a (ts.map V.ref) ∨ SqT K H' a (ts.map V.ref) := fun s => hS.same s
    -- behind
    refine ⟨fun σ H1 => Same H H1 ∧ ∃ (D : Addr) (us : List Addr), H1 D = some (.lst (us.map V.ref)) ∧ BehAt H1 us (outs cs ps) ∧ σ = [some (.ref a), some (.ref u), some (.int (hours : Int)), some (.int floor), some (.ref D), none, none, none, none, none, none, none, none, none, none, none], ?_, ?_⟩
    · have step : ∀ (D : Addr) (i : Nat) (H1 : Hp) (us : List Addr) (T t : Addr) (c : Bd), H D = none → Same H H1 → H1 D = some (.lst (us.map V.ref)) → BehAt H1 us (outsTo cs ps i) → H1 T = none → cs[i]? = some c → i ∉ ps →
          ∀ p, (upd H1 T (.tup [.int (i : Nat), .ref t])) p = none → ∃ acc, (upd (upd H1 T (.tup [.int (i : Nat), .ref t])) p (.tup [.int (c.2.1 * c.2.2), .int (i : Nat)])) D = some (.lst acc) ∧ acc.length < sizeLine ∧
            Same H (upd (upd (upd H1 T (.tup [.int (i : Nat), .ref t])) p (.tup [.int (c.2.1 * c.2.2), .int (i : Nat)])) D (.lst (acc ++ [.ref p]))) ∧
            ∃ us' : List Addr, (upd (upd (upd H1 T (.tup [.int (i : Nat), .ref t])) p (.tup [.int (c.2.1 * c.2.2), .int (i : Nat)])) D (.lst (acc ++ [.ref p]))) D = some (.lst (us'.map V.ref)) ∧ BehAt (upd (upd (upd H1 T (.tup [.int (i : Nat), .ref t])) p (.tup [.int (c.2.1 * c.2.2), .int (i : Nat)])) D (.lst (acc ++ [.ref p]))) us' (outsTo cs ps (i + 1)) := by
        intro D i H1 us T t c nD sm eD bh nT f2 hp p np
        have sT := same_upd (o := .tup [.int (i : Nat), .ref t]) nT
        have sp := same_upd (o := .tup [.int (c.2.1 * c.2.2), .int (i : Nat)]) np
        obtain ⟨g1, g2, g3⟩ := cs_get f2
        have hi2 : i < cs.length := (List.getElem?_eq_some_iff.mp f2).1
        have hDp : D ≠ p := fun e => by
          subst e
          rw [sT _ _ eD] at np
          cases np
        refine ⟨us.map V.ref, by rw [upd_ne hDp]; exact sT _ _ eD, ?_, same_at ((sm.trans sT).trans sp) nD, us ++ [p], ?_, ?_⟩
        · rw [List.length_map, bh.1]
          have := outs_len cs ps i
          exact small1000 (by omega)
        · rw [upd_same, List.map_append]; rfl
        · rw [ostep i, if_neg hp, g1, g2]
          have sD : ∀ b o, (∃ xs, o = HO.tup xs) → upd (upd H1 T (.tup [.int (i : Nat), .ref t])) p (.tup [.int (c.2.1 * c.2.2), .int (i : Nat)]) b = some o → upd (upd (upd H1 T (.tup [.int (i : Nat), .ref t])) p (.tup [.int (c.2.1 * c.2.2), .int (i : Nat)])) D (.lst (us.map V.ref ++ [V.ref p])) b = some o := fun b o ho e => by
            obtain ⟨xs, rfl⟩ := ho
            rw [upd_ne (fun z => ?_)]
            · exact e
            · subst z
              rw [upd_ne hDp] at e
              rw [sT _ _ eD] at e
              cases e
          have bh2 := (bh.same sT).same sp
          refine BehAt.snoc ⟨bh2.1, fun j u2 b a1 a2 => sD _ _ ⟨_, rfl⟩ (bh2.2 j u2 b a1 a2)⟩ ?_
          exact sD _ _ ⟨_, rfl⟩ upd_same
      rcases hS with hS | hS
      · refine .inl ⟨_, rfl, _, _, rfl, hS, fun D nD => ?_⟩
        refine lc_it walk_enum (fun i H' => Same H H' ∧ ∃ us : List Addr, H' D = some (.lst (us.map V.ref)) ∧ BehAt H' us (outsTo cs ps i)) ⟨same_upd nD, [], upd_same, .nil⟩ (fun i H' _ hp => hp.1.seq hS) ?_ ?_
        · rintro i x H1 H2 hi ⟨sm, us, eD, bh⟩ ⟨T, z1, z2, rfl, nT, rfl, e1, e2⟩
          rw [List.length_map] at hi
          cases e1
          have sT := same_upd (o := .tup [.int (i : Nat), z2]) nT
          have sm2 := sm.trans sT
          obtain ⟨t, c, rfl, f1, f2, f3⟩ := crew_at (ca.same sm2) e2
          obtain ⟨g1, g2, g3⟩ := cs_get f2
          have hi2 : i < cs.length := by omega
          refine ⟨_, _, rfl, tupAt upd_same, rfl, _, _, rfl, _, _, rfl, rfl, rfl, ?_⟩
          refine ⟨_, rfl, _, _, _, _, rfl, rfl, tupAt f3, atI_nat (j := 0) rfl, _, rfl, _, _, rfl, .inr (same_tup sm2 hT), rfl, all_flatN _, ?_⟩
          rw [inV_nm, if_pos rfl, ← g3, decide_eq_decide.mpr (nm_mem ck.nd lt hi2)]
          by_cases hp : i ∈ ps
          · rw [decide_eq_true hp]
            refine ⟨_, rfl, iteF ⟨sm2, us, sT _ _ eD, ?_⟩⟩
            rw [ostep i, if_pos hp, List.append_nil]
            exact bh.same sT
          · rw [decide_eq_false hp]
            exact ⟨_, rfl, iteT ⟨_, rfl, _, _, rfl, f3, ck.ok c (List.mem_of_getElem? f2), _, rfl, (by show 2 ≤ sizeLine; decide), fun p np => step D i H1 us T t c nD sm eD bh nT f2 hp p np⟩⟩
        · rintro H1 ⟨sm, us, eD, bh⟩
          rw [List.length_map, hlen, outsE] at bh
          exact ⟨sm, D, us, eD, bh, rfl⟩
      · refine .inr ⟨_, rfl, _, _, rfl, hS, fun D nD => ?_⟩
        refine lc_it walk_enumT (fun i H' => Same H H' ∧ ∃ us : List Addr, H' D = some (.lst (us.map V.ref)) ∧ BehAt H' us (outsTo cs ps i)) ⟨same_upd nD, [], upd_same, .nil⟩ (fun i H' _ hp => same_tup hp.1 hS) ?_ ?_
        · rintro i x H1 H2 hi ⟨sm, us, eD, bh⟩ ⟨T, z1, z2, rfl, nT, rfl, e1, e2⟩
          rw [List.length_map] at hi
          cases e1
          have sT := same_upd (o := .tup [.int (i : Nat), z2]) nT
          have sm2 := sm.trans sT
          obtain ⟨t, c, rfl, f1, f2, f3⟩ := crew_at (ca.same sm2) e2
          obtain ⟨g1, g2, g3⟩ := cs_get f2
          have hi2 : i < cs.length := by omega
          refine ⟨_, _, rfl, tupAt upd_same, rfl, _, _, rfl, _, _, rfl, rfl, rfl, ?_⟩
          refine ⟨_, rfl, _, _, _, _, rfl, rfl, tupAt f3, atI_nat (j := 0) rfl, _, rfl, _, _, rfl, .inr (same_tup sm2 hT), rfl, all_flatN _, ?_⟩
          rw [inV_nm, if_pos rfl, ← g3, decide_eq_decide.mpr (nm_mem ck.nd lt hi2)]
          by_cases hp : i ∈ ps
          · rw [decide_eq_true hp]
            refine ⟨_, rfl, iteF ⟨sm2, us, sT _ _ eD, ?_⟩⟩
            rw [ostep i, if_pos hp, List.append_nil]
            exact bh.same sT
          · rw [decide_eq_false hp]
            exact ⟨_, rfl, iteT ⟨_, rfl, _, _, rfl, f3, ck.ok c (List.mem_of_getElem? f2), _, rfl, (by show 2 ≤ sizeLine; decide), fun p np => step D i H1 us T t c nD sm eD bh nT f2 hp p np⟩⟩
        · rintro H1 ⟨sm, us, eD, bh⟩
          rw [List.length_map, hlen, outsE] at bh
          exact ⟨sm, D, us, eD, bh, rfl⟩
    · rintro σ H1 ⟨sm, D, us, eD, bh, rfl⟩
      have ol2 : (outs cs ps).length ≤ cs.length := ol
      have hul : us.length ≤ 6 := by rw [bh.1]; omega
      -- the strongest
      refine ⟨fun σ H2 => Same H1 H2 ∧ ∃ st : Int, (∀ f : Int, 0 ≤ f → (f ≤ st ↔ ∃ y ∈ (outs cs ps).map (·.1), f ≤ y)) ∧ σ = [some (.ref a), some (.ref u), some (.int (hours : Int)), some (.int floor), some (.ref D), some (.int st), none, none, none, none, none, none, none, none, none, none], ?_, ?_⟩
      · refine ⟨_, rfl, _, rfl, ⟨_, lstAt eD⟩, fun D2 nD2 => ?_⟩
        refine lc_list (K := K) (a := D) (xs := us.map V.ref) (fun i H' => H' = upd H1 D2 (.lst ((((outs cs ps).take i).map (·.1)).map V.int))) rfl (fun i H' _ e => e ▸ (same_upd nD2).seq (lstAt eD)) (fun i x H' hx hp => ?_) (fun H' hp => ?_)
        · subst hp
          obtain ⟨u2, b, rfl, f1, f2, f3⟩ := beh_at bh hx
          refine ⟨_, _, rfl, tupAt ((same_upd nD2) _ _ f3), rfl, _, _, rfl, _, _, rfl, rfl, rfl, yesT ⟨_, rfl, _, upd_same, ?_, ?_⟩⟩
          · rw [List.length_map, List.length_map, List.length_take]; exact small1000 (by omega)
          · rw [upd_twice, List.take_add_one, f2, List.map_append, List.map_append]; rfl
        · subst hp
          rw [List.length_map, bh.1, List.take_length]
          have s2 := same_upd (o := .lst (((outs cs ps).map (·.1)).map V.int)) nD2
          refine ⟨_, rfl, _, _, _, rfl, rfl, lstAt upd_same, fun e => ⟨s2, -1, fun f hf => ⟨fun z => by omega, fun ⟨y, hy, _⟩ => by rw [e] at hy; cases hy⟩, rfl⟩, fun m h1 h2 => ⟨s2, m, fun f _ => ⟨fun hf => ⟨m, h1, hf⟩, fun ⟨y, hy, hf⟩ => Int.le_trans hf (h2 y hy)⟩, rfl⟩⟩
      · rintro σ H2 ⟨s12, st, hst, rfl⟩
        have ce := canE st hst
        have sm2 := sm.trans s12
        have eD2 := s12 _ _ eD
        have bh2 := bh.same s12
        -- None
        refine ⟨fun σ H3 => H3 = H2 ∧ CanB cs ps hours floor ∧ σ = [some (.ref a), some (.ref u), some (.int (hours : Int)), some (.int floor), some (.ref D), some (.int st), none, none, none, none, none, none, none, none, none, none], ?_, ?_⟩
        · refine ⟨_, rfl, _, _, rfl, .inr (same_tup sm2 hT), _, rfl, _, _, rfl, rfl, _, rfl, ite2 (fun e => ?_) (fun e => ?_)⟩
          · have e2 := of_decide_eq_true e
            rw [nlen] at e2
            exact iteT (q0 (fun z => ce.mp z (.inl (by omega))) _ sm2)
          · have e2 : ¬ ((hours : Int) < (((ps.map (nmAt cs)).map vN).length : Nat)) := fun z => e (decide_eq_true z)
            rw [nlen] at e2
            refine ⟨_, rfl, _, _, rfl, .inr (same_tup sm2 hT), _, rfl, _, _, rfl, rfl, _, rfl, ite2 (fun e3 => ?_) (fun e3 => ?_)⟩
            · have e4 := of_decide_eq_true e3
              rw [nlen] at e4
              refine ⟨_, rfl, _, rfl, _, _, rfl, rfl, _, rfl, ite2 (fun e5 => ?_) (fun e5 => ?_)⟩
              · exact q0 (fun z => ce.mp z (.inr ⟨by omega, of_decide_eq_true e5⟩)) _ sm2
              · exact ⟨rfl, ce.mpr fun z => z.elim (fun z => by omega) fun z => e5 (decide_eq_true z.2), rfl⟩
            · have e4 : ¬ ((((ps.map (nmAt cs)).map vN).length : Nat) : Int) < (hours : Int) := fun z => e3 (decide_eq_true z)
              rw [nlen] at e4
              exact iteF ⟨rfl, ce.mpr fun z => by omega, rfl⟩
        · rintro σ H3 ⟨rfl, can, rfl⟩
          have sAll := sm2
          -- raises
          refine ⟨(by show 1 ≤ sizeLine; decide), fun z0 nz0 => ⟨_, rfl, _, _, rfl, SQA2 (sAll.trans (same_upd nz0)), _, _, _, rfl, rfl, upd_same, by omega, by rw [List.length_map]; omega, ?_, fun R nR => ?_⟩⟩
          · rw [List.length_map, Int.toNat_natCast]
            exact Nat.le_of_lt (small1000 (by show 1 * ts.length ≤ 1000; omega))
          rw [List.length_map, rep_zero hlen]
          have sz := same_upd (o := .lst [V.int 0]) nz0
          have sR := same_upd (o := .lst ((rsL cs fun _ => 0).map V.int)) nR
          have sm4 := (sAll.trans sz).trans sR
          refine ⟨_, rfl, _, _, rfl, .inr (same_tup sm4 hT), fun l nl => ?_⟩
          have sl := same_upd (o := .lst ((ps.map (nmAt cs)).map vN)) nl
          have nRH : H R = none := (sAll.trans sz).free nR
          refine ⟨_, _, rfl, lstAt upd_same, for_it walk_rev (fun i σ H4 => Same H H4 ∧ H4 l = some (.lst ((ps.map (nmAt cs)).map vN)) ∧ H4 R = some (.lst ((rsL cs (behindF cs floor (outs cs ps) (ps.drop (ps.length - i))).2).map V.int)) ∧
            ∃ (D : Addr) (us : List Addr) (y7 y8 y9 y10 y11 y12 : Option V), H4 D = some (.lst (us.map V.ref)) ∧ BehAt H4 us (behindF cs floor (outs cs ps) (ps.drop (ps.length - i))).1 ∧ us.length ≤ 6 ∧ σ = [some (.ref a), some (.ref u), some (.int (hours : Int)), some (.int floor), some (.ref D), some (.int st), some (.ref R), y7, y8, y9, y10, y11, y12, none, none, none]) ?_ (fun i σ H4 _ hp => lstAt hp.2.1) ?_ ?_⟩
          · rw [Nat.sub_zero, List.drop_length]
            exact ⟨sm4.trans sl, upd_same, sl _ _ upd_same, D, us, _, _, _, _, _, _, sl _ _ (sR _ _ (sz _ _ eD2)), ((bh2.same sz).same sR).same sl, hul, rfl⟩
          · rintro i x σ H5 H4 hi ⟨sm, el, eR, D', us', y7, y8, y9, y10, y11, y12, eD', bh', hus, rfl⟩ ⟨rfl, hx⟩
            rw [nlen] at hi
            rw [nlen] at hx
            obtain ⟨j, ej⟩ : ∃ j, j = ps.length - 1 - i := ⟨_, rfl⟩
            rw [← ej] at hx
            have hj : j < ps.length := by omega
            have ed : ps.drop (ps.length - (i + 1)) = ps[j] :: ps.drop (ps.length - i) := by
              rw [show ps.length - (i + 1) = j by omega, show ps.length - i = j + 1 by omega]
              exact List.drop_eq_getElem_cons hj
            obtain ⟨p, ep⟩ : ∃ p, p = ps[j] := ⟨_, rfl⟩
            rw [← ep] at ed
            have hpm : p ∈ ps := by rw [ep]; exact List.getElem_mem hj
            have hpl := lt p hpm
            have ex : x = vN (nmAt cs p) := by
              rw [List.getElem?_map, List.getElem?_map, List.getElem?_eq_getElem hj, ← ep] at hx
              exact (Option.some.inj hx).symm
            subst ex
            obtain ⟨c, ec⟩ : ∃ c, cs[p]? = some c := ⟨_, List.getElem?_eq_getElem hpl⟩
            obtain ⟨t, et⟩ : ∃ t, ts[p]? = some t := ⟨_, List.getElem?_eq_getElem (by omega)⟩
            have ht := ca.2 p t c et ec
            obtain ⟨g1, g2, g3⟩ := cs_get ec
            have cok := ck.ok c (List.mem_of_getElem? ec)
            obtain ⟨o1, o2, o3, o4, o5⟩ := cok
            -- at
            refine ⟨_, rfl, a, ts, cs, rfl, hS.same sm, ca.same sm, by omega, fun pN nN => ?_⟩
            have s6 := same_upd (o := .lst (cs.map fun c => vN c.1)) nN
            have sm6 := sm.trans s6
            refine ⟨.inl ⟨rfl, _, lstAt upd_same⟩, _, rfl, _, _, _, p, _, rfl, rfl, lstAt upd_same, rfl, all_flat cs, by rw [List.getElem?_map, ec]; rfl, by rw [g3, eqv_nm]; exact decide_eq_true rfl, fun m z' hm hz => ?_, ?_⟩
            · rw [List.getElem?_map] at hz
              cases em : cs[m]? with
              | none => rw [em] at hz; cases hz
              | some d =>
                rw [em] at hz
                cases hz
                rw [g3, eqv_nm]
                refine decide_eq_false fun z => ?_
                have a1 : (cs.map (·.1))[m]? = some c.1 := by rw [List.getElem?_map, em]; exact congrArg some z
                have a2 : (cs.map (·.1))[p]? = some c.1 := by rw [List.getElem?_map, ec]; rfl
                have := nd_ix ck.nd a1 a2
                omega
            -- weight, bid
            have att : atI (ts.map V.ref) ((p : Nat) : Int) = some (.ref t) := atI_nat (by rw [List.getElem?_map, et]; rfl)
            obtain ⟨H6, eH6⟩ : ∃ H6, H6 = upd H4 pN (.lst (cs.map fun c => vN c.1)) := ⟨_, rfl⟩
            rw [← eH6] at s6 sm6 ⊢
            refine ⟨fun v H' => v = .ref t ∧ H' = H6, ?_, ?_⟩
            · rcases hS.same sm6 with hL | hL
              · exact .inl ⟨_, rfl, _, rfl, _, _, _, _, rfl, rfl, hL, att, rfl, rfl⟩
              · exact .inr ⟨_, rfl, _, rfl, _, _, _, _, rfl, rfl, hL, att, rfl, rfl⟩
            rintro v H' ⟨rfl, rfl⟩
            refine ⟨_, _, rfl, tupAt (sm6 _ _ ht), rfl, _, _, rfl, _, _, rfl, _, _, rfl, rfl, ?_⟩
            -- need
            have eD6 := s6 _ _ eD'
            have bh6 := bh'.same s6
            obtain ⟨bs, ebs⟩ : ∃ bs, bs = (behindF cs floor (outs cs ps) (ps.drop (ps.length - i))).1 := ⟨_, rfl⟩
            rw [← ebs] at bh6
            have hbl : bs.length ≤ 6 := by rw [← bh6.1]; exact hus
            refine ⟨_, rfl, _, rfl, _, rfl, ⟨_, lstAt eD6⟩, fun D3 nD3 => ?_⟩
            refine lc_list (K := K) (a := D') (xs := us'.map V.ref) (fun i H7 => H7 = upd H' D3 (.lst (((bs.take i).map fun b => b.1 + onUp p b.2).map V.int))) rfl (fun i H7 _ e => e ▸ (same_upd nD3).seq (lstAt eD6)) (fun i x H7 hx hp => ?_) (fun H7 hp => ?_)
            · subst hp
              obtain ⟨u2, b, rfl, f1, f2, f3⟩ := beh_at bh6 hx
              have fin : ∀ z : Int, z = onUp p b.2 → ∃ acc, (upd H' D3 (.lst (((bs.take i).map fun b => b.1 + onUp p b.2).map V.int))) D3 = some (.lst acc) ∧ acc.length < sizeLine ∧
                  upd (upd H' D3 (.lst (((bs.take i).map fun b => b.1 + onUp p b.2).map V.int))) D3 (.lst (acc ++ [.int (b.1 + z)])) = upd H' D3 (.lst (((bs.take (i + 1)).map fun b => b.1 + onUp p b.2).map V.int)) := fun z ez => by
                subst ez
                refine ⟨_, upd_same, ?_, ?_⟩
                · rw [List.length_map, List.length_map, List.length_take]; exact small1000 (by omega)
                · rw [upd_twice, List.take_add_one, f2, List.map_append, List.map_append]; rfl
              refine ⟨_, _, rfl, tupAt ((same_upd nD3) _ _ f3), rfl, _, _, rfl, _, _, rfl, rfl, rfl, yesT ⟨_, rfl, _, rfl, _, rfl, _, _, rfl, rfl, _, rfl, ite2 (fun e => ?_) (fun e => ?_)⟩⟩
              · have e2 := of_decide_eq_true e
                exact ⟨_, _, rfl, rfl, fin 1 (by unfold onUp; rw [if_pos (by omega)])⟩
              · have e2 : ¬ ((b.2 : Int) < (p : Int)) := fun z => e (decide_eq_true z)
                exact ⟨_, _, rfl, rfl, fin 0 (by unfold onUp; rw [if_neg (by omega)])⟩
            · subst hp
              rw [List.length_map, bh6.1, List.take_length]
              have s7 := same_upd (o := .lst ((bs.map fun b => b.1 + onUp p b.2).map V.int)) nD3
              refine ⟨_, _, rfl, .inr (lstAt upd_same), ?_, fun p3 np3 => ?_⟩
              · rw [List.append_nil, List.length_cons, List.length_map, List.length_map]
                exact Nat.le_of_lt (small1000 (by omega))
              refine ⟨_, floor :: bs.map (fun b => b.1 + onUp p b.2), rfl, lstAt (by rw [upd_same, List.append_nil]; rfl), Nat.succ_pos _, fun m h1 h2 => ?_⟩
              have em := need_is h1 h2
              subst em
              have s8 := same_upd (o := .lst (V.int floor :: (((bs.map fun b => b.1 + onUp p b.2).map V.int) ++ []))) np3
              obtain ⟨H8, eH8⟩ : ∃ H8, H8 = upd (upd H' D3 (.lst ((bs.map fun b => b.1 + onUp p b.2).map V.int))) p3 (.lst (V.int floor :: (((bs.map fun b => b.1 + onUp p b.2).map V.int) ++ []))) := ⟨_, rfl⟩
              rw [← eH8] at s8 ⊢
              have s48 := (s6.trans s7).trans s8
              have eR8 := s48 _ _ eR
              -- the raise
              refine ⟨_, rfl, _, rfl, _, _, rfl, rfl, _, _, rfl, rfl, _, rfl, _, _, rfl, rfl, ⟨by omega, by omega⟩, _, rfl, _, _, rfl, rfl, _, _, rfl, _, rfl, _, rfl, _, _, _, p, rfl, rfl, eR8, ?_, ?_⟩
              · rw [List.length_map, rs_len]
                unfold ixN
                rw [if_pos (by omega), if_pos (by omega), Int.toNat_natCast]
              rw [fdiv_w o2, maxr, ← g1, ← g2]
              obtain ⟨rr, err⟩ : ∃ rr, rr = (behindF cs floor (outs cs ps) (ps.drop (ps.length - i))).2 := ⟨_, rfl⟩
              obtain ⟨x, exx⟩ : ∃ x, x = rOf (wt cs p) (bdAt cs p) (needOf floor bs p) := ⟨_, rfl⟩
              rw [← err] at eR8 ⊢
              rw [← exx]
              have eL : ((rsL cs rr).map V.int).set p (.int x) = (rsL cs (fun k => if k = p then x else rr k)).map V.int := by
                rw [← rs_set, List.map_set]
              rw [eL]
              have b2 : (behindF cs floor (outs cs ps) (ps.drop (ps.length - (i + 1)))).2 = fun k => if k = p then x else rr k := by
                rw [ed]
                show (fun k => if k = p then rOf (wt cs p) (bdAt cs p) (needOf floor (behindF cs floor (outs cs ps) (ps.drop (ps.length - i))).1 p) else (behindF cs floor (outs cs ps) (ps.drop (ps.length - i))).2 k) = _
                rw [← ebs, ← exx, ← err]
              have b1 : (behindF cs floor (outs cs ps) (ps.drop (ps.length - (i + 1)))).1 = [(wt cs p * (bdAt cs p + x), p)] := by
                rw [ed]
                show [(wt cs p * (bdAt cs p + rOf (wt cs p) (bdAt cs p) (needOf floor (behindF cs floor (outs cs ps) (ps.drop (ps.length - i))).1 p)), p)] = _
                rw [← ebs, ← exx]
              have gx : (rsL cs (fun k => if k = p then x else rr k))[p]? = some x := by
                rw [rs_get hpl, if_pos rfl]
              refine ⟨_, rfl, _, rfl, _, rfl, _, rfl, _, _, _, _, rfl, rfl, lstAt upd_same, atI_nat (by rw [List.getElem?_map, gx]; rfl), _, _, rfl, rfl, _, _, rfl, rfl, .inl ⟨by omega, by omega⟩, _, rfl, (by show 2 ≤ sizeLine; decide), fun p4 np4 => ⟨(by show 1 ≤ sizeLine; decide), fun p5 np5 => ?_⟩⟩
              have s4 := same_upd (o := .tup [.int (wt cs p * (bdAt cs p + x)), .int (p : Nat)]) np4
              have s5 := same_upd (o := .lst [V.ref p4]) np5
              have hlR : l ≠ R := fun z => by
                subst z
                rw [upd_same] at nl
                cases nl
              refine ⟨((same_at (sm.trans s48) nRH).trans s4).trans s5, ?_, ?_, p5, [p4], _, _, _, _, _, _, upd_same, ?_, (by show 1 ≤ 6; omega), rfl⟩
              · exact s5 _ _ (s4 _ _ (by rw [upd_ne hlR]; exact s48 _ _ el))
              · rw [b2]
                exact s5 _ _ (s4 _ _ upd_same)
              · rw [b1]
                refine ⟨rfl, fun k u2 b a1 a2 => ?_⟩
                match k, a1, a2 with
                | 0, a1, a2 =>
                  cases a1
                  cases a2
                  exact s5 _ _ upd_same
          · rintro σ H4 ⟨sm, el, eR, D', us', y7, y8, y9, y10, y11, y12, eD', bh', hus, rfl⟩
            rw [nlen, Nat.sub_self, List.drop_zero] at eR
            exact ⟨_, rfl, _, _, rfl, .inl ⟨lstAt eR, fun t nt => q1 can _ t (sm.trans (same_upd nt)) upd_same⟩⟩
end
end TK

namespace TK
open PySem PySem.Spec PyProof.Rows L2
/-! ### lists of names as data -/
def dN (x : List Nat) : PyData := .str (sOf x)
theorem nms_dp {K : PySem.W.Frag} {H : Hp} : ∀ (xs : List (List Nat)), DpAll K H (xs.map vN) (xs.map dN)
  | [] => .nil
  | x :: xs => .cons (.str _) (nms_dp xs)
theorem nms_lay : ∀ {xs : List (List Nat)}, (∀ x ∈ xs, Nm x) → PyData.canLayAll0 (xs.map dN) = true ∧ PyData.depthAll (xs.map dN) ≤ 1
  | [], _ => ⟨by simp [PyData.canLayAll0], by simp [PyData.depthAll]⟩
  | x :: xs, h => by
    obtain ⟨h1, h2⟩ := nms_lay fun y hy => h y (List.mem_cons_of_mem _ hy)
    rw [List.map_cons]
    unfold dN
    refine ⟨?_, ?_⟩
    · simp only [PyData.canLayAll0, PyData.canLay0, Bool.and_eq_true]
      exact ⟨nm_ok (h x (List.mem_cons_self ..)), h1⟩
    · simp only [PyData.depthAll, PyData.depth]
      unfold dN at h2
      omega
theorem shaped_lst {ds : List PyData} (h1 : PyData.canLayAll0 ds = true) (h2 : PyData.depthAll ds ≤ 60) : SeqAt.shaped (.list ds) = true := by
  show ((PyData.list ds).canLay0 && decide ((PyData.list ds).depth ≤ 64)) = true
  rw [show (PyData.list ds).canLay0 = true by simp only [PyData.canLay0, h1], show (PyData.list ds).depth = PyData.depthAll ds + 1 by simp only [PyData.depth]]
  exact decide_eq_true (by omega)
theorem shaped_tup {ds : List PyData} (h1 : PyData.canLayAll0 ds = true) (h2 : PyData.depthAll ds ≤ 60) : SeqAt.shaped (.tuple ds) = true := by
  show ((PyData.tuple ds).canLay0 && decide ((PyData.tuple ds).depth ≤ 64)) = true
  rw [show (PyData.tuple ds).canLay0 = true by simp only [PyData.canLay0, h1], show (PyData.tuple ds).depth = PyData.depthAll ds + 1 by simp only [PyData.depth]]
  exact decide_eq_true (by omega)
theorem nms_eqv : ∀ (xs ys : List (List Nat)), PyData.eqvAll (xs.map dN) (ys.map dN) = decide (xs = ys)
  | [], [] => by simp [PyData.eqvAll]
  | [], _ :: _ => by simp [PyData.eqvAll]
  | _ :: _, [] => by simp [PyData.eqvAll]
  | x :: xs, y :: ys => by
    rw [List.map_cons, List.map_cons, PyData.eqvAll, nms_eqv xs ys]
    unfold dN
    rw [PyData.eqv]
    by_cases h : x = y
    · subst h; simp
    · have : (sOf x == sOf y) = false := beq_eq_false_iff_ne.mpr fun z => h (sOf_inj z)
      rw [this]
      simp [h]
theorem eqv_tupN (xs ys : List (List Nat)) : PyData.eqv (.tuple (xs.map dN)) (.tuple (ys.map dN)) = decide (xs = ys) := by
  rw [PyData.eqv, nms_eqv]
theorem eqv_lstN (xs : List (List Nat)) : PyData.eqv (.list (xs.map dN)) (.list []) = decide (xs = []) := by
  have := nms_eqv xs []
  rw [List.map_nil] at this
  rw [PyData.eqv, this]
theorem nm_of {cs : List Bd} (ok : ∀ c ∈ cs, BdOk c) {k : Nat} (h : k < cs.length) : Nm (nmAt cs k) := by
  rw [(cs_get (List.getElem?_eq_getElem h)).2.2]
  exact (ok _ (List.getElem_mem h)).1
theorem nms_of {cs : List Bd} (ok : ∀ c ∈ cs, BdOk c) {ps : List Nat} (lt : ∀ p ∈ ps, p < cs.length) : ∀ x ∈ ps.map (nmAt cs), Nm x := fun x hx => by
  obtain ⟨p, hp, rfl⟩ := List.mem_map.mp hx
  exact nm_of ok (lt p hp)
/-! ### the crew with raises -/
def raiseC (cs : List Bd) (rs : Nat → Int) : List Bd := (List.range cs.length).map fun k => (nmAt cs k, wt cs k, bdAt cs k + rs k)
theorem raise_len {cs : List Bd} {rs : Nat → Int} : (raiseC cs rs).length = cs.length := by
  unfold raiseC
  rw [List.length_map, List.length_range]
theorem raise_get {cs : List Bd} {rs : Nat → Int} {k : Nat} (h : k < cs.length) : (raiseC cs rs)[k]? = some (nmAt cs k, wt cs k, bdAt cs k + rs k) := by
  unfold raiseC
  rw [List.getElem?_map, List.getElem?_range h]
  rfl
theorem raise_nm {cs : List Bd} {rs : Nat → Int} : (raiseC cs rs).map (·.1) = cs.map (·.1) := by
  refine List.ext_getElem? fun i => ?_
  rw [List.getElem?_map, List.getElem?_map]
  by_cases h : i < cs.length
  · rw [raise_get h, List.getElem?_eq_getElem h, (cs_get (List.getElem?_eq_getElem h)).2.2]
    rfl
  · rw [List.getElem?_eq_none (by rw [raise_len]; omega), List.getElem?_eq_none (by omega)]
theorem raise_nmAt {cs : List Bd} {rs : Nat → Int} : nmAt (raiseC cs rs) = nmAt cs := by
  funext k
  unfold nmAt
  rw [raise_nm]
theorem raise_load {cs : List Bd} {rs : Nat → Int} {k : Nat} (h : k < cs.length) : ((raiseC cs rs).map loadB).getD k 0 = ldR cs rs k := by
  rw [List.getD_eq_getElem?_getD, List.getElem?_map, raise_get h]
  rfl
theorem raise_w {cs : List Bd} (ck : CrewW cs) (rs : Nat → Int) : CrewW (raiseC cs rs) := by
  refine ⟨fun c hc => ?_, by rw [raise_len]; exact ck.few⟩
  obtain ⟨k, hk⟩ := List.getElem?_of_mem hc
  have hl := (List.getElem?_eq_some_iff.mp hk).1
  rw [raise_len] at hl
  rw [raise_get hl] at hk
  cases hk
  show 1 ≤ wt cs k ∧ wt cs k ≤ 1000
  rw [(cs_get (List.getElem?_eq_getElem hl)).1]
  exact ck.wts _ (List.getElem_mem hl)
theorem top_congr {L M : Nat → Int} {n : Nat} {sill : Int} {h : Nat} {ps : List Nat} (e : ∀ k, k < n → L k = M k) (T : Top L n sill h ps) : Top M n sill h ps := by
  have be : ∀ a b, a < n → b < n → (bt L a b ↔ bt M a b) := fun a b ha hb => by
    unfold bt
    rw [e a ha, e b hb]
  refine ⟨T.lt, ?_, fun p hp => by rw [← e p (T.lt p hp)]; exact T.ge p hp, T.le, fun q hq ho hs => ?_⟩
  · exact T.pw.imp_of_mem fun {a b} ha hb r => (be a b (T.lt a ha) (T.lt b hb)).mp r
  · obtain ⟨h1, h2⟩ := T.out q hq ho (by rw [e q hq]; exact hs)
    exact ⟨h1, fun p hp => (be p q (T.lt p hp) hq).mp (h2 p hp)⟩
/-- the ladder of the raised bids -/
theorem want_raised {cs : List Bd} (nd : (cs.map (·.1)).Nodup) {rs : Nat → Int} {sill : Int} {h : Nat} {ps : List Nat} (lt : ∀ p ∈ ps, p < cs.length) : wantF (raiseC cs rs) sill h = ps.map (nmAt cs) ↔ Top (ldR cs rs) cs.length sill h ps := by
  have := want_top (cs := raiseC cs rs) (sill := sill) (h := h) (ps := ps) (by rw [raise_nm]; exact nd) (by rw [raise_len]; exact lt)
  rw [raise_nmAt, raise_len] at this
  rw [this]
  exact ⟨top_congr fun k hk => raise_load hk, top_congr fun k hk => (raise_load hk).symm⟩
section
variable {P : Program} {w : World} {K : PySem.W.Frag} {mg : Str → Option Value} {base : Heap}
/-! raises_for -/
theorem nm_nodup {cs : List Bd} (nd : (cs.map (·.1)).Nodup) : ∀ {ps : List Nat}, ps.Nodup → (∀ p ∈ ps, p < cs.length) → (ps.map (nmAt cs)).Nodup
  | [], _, _ => List.nodup_nil
  | p :: ps, h, lt => by
    obtain ⟨h1, h2⟩ := List.nodup_cons.mp h
    rw [List.map_cons, List.nodup_cons]
    exact ⟨fun z => h1 ((nm_mem nd (fun q hq => lt q (List.mem_cons_of_mem _ hq)) (lt p (List.mem_cons_self ..))).mp z), nm_nodup nd h2 fun q hq => lt q (List.mem_cons_of_mem _ hq)⟩
/-! _law_raised -/
def spRaisedL (K : PySem.W.Frag) : Sp := fun vs H Q _ => ∃ (p m : Addr) (ts : List Addr) (cs : List Bd) (rs : Nat → Int), vs = [.ref p, .ref m] ∧ H p = some (.lst (ts.map V.ref)) ∧ CrewAt H ts cs ∧ cs.length ≤ 1000 ∧ SqS K H m ((rsL cs rs).map V.int) ∧
  ∀ (H' : Hp) (l : Addr) (ts' : List Addr), Same H H' → H' l = some (.lst (ts'.map V.ref)) → CrewAt H' ts' (raiseC cs rs) → Q (.ref l) H'
theorem ok_L_raised {f : Addr} {fd : FuncData} (F : Fun K "_law_raised" "_law_raised" s_L_raised f fd) (m_range : mg "range" = none) (m_len : mg "len" = none) : FnOk P w K mg base CX0 1 f fd ["_law_crew", "_law_more"] (spRaisedL K) := by
  refine F.ok sc_L_raised (fun vs H Q E h => ?_) (fun cdv A outer s H vs Q E hr h => ?_)
  · obtain ⟨p, m, ts, cs, rs, rfl, _⟩ := h
    rfl
  · obtain ⟨p, m, ts, cs, rs, rfl, hp, ca, h6, hM, q⟩ := h
    have hlen := ca.1
    refine ⟨_, (pss_cons (ps_set (i := 2) sc_L_raised.nd rfl (.inl rfl) (pe_lst pa_nil))
  (pss_cons (ps_for PassesOwn.never rfl (pi_range1 (by rfl) m_range (pa_cons (pe_callB call_len_seq (by rfl) m_len (by decide +kernel) (pa_cons (pv 0) pa_nil)) pa_nil)) (pg_name (i := 3) sc_L_raised.nd rfl (.inl rfl))
    (pss_cons (ps_asg (pe_ix ix_list (pv 0) (pv 3) (fun _ _ => rfl)) (pg_tup (by rfl) (pgs_cons (pg_name (i := 4) sc_L_raised.nd rfl (.inl rfl)) (pgs_cons (pg_name (i := 5) sc_L_raised.nd rfl (.inl rfl)) (pgs_cons (pg_name (i := 6) sc_L_raised.nd rfl (.inl rfl)) pgs_nil)))))
  (pss_one (ps_expr (pe_bm PySem.F.plainAttrs_list PySem.F.slot_list_append PySem.F.type_list_append mt_append (pv 2) (pa_cons (pe_tup (pa_cons (pv 4) (pa_cons (pv 5) (pa_cons (pe_op op_add (pv 6) (pe_cut (pe_or2 (pe_ix ix_list (pv 1) (pv 3) (fun _ _ => rfl)) (pe_ix ix_tup (pv 1) (pv 3) (fun _ _ => rfl))))) pa_nil)))) pa_nil))))))
  (pss_one (ps_ret (pv 2))))), ?_⟩
    refine ⟨Nat.zero_le _, fun l nl => ?_⟩
    have s0 := same_upd (o := .lst []) nl
    refine ⟨_, rfl, _, _, rfl, .inl (lstAt (s0 _ _ hp)), _, rfl, by omega, by rw [List.length_map]; omega, for_range (fun k σ H2 => Same H H2 ∧ ∃ (ts' : List Addr) (y3 y4 y5 y6 : Option V), H2 l = some (.lst (ts'.map V.ref)) ∧ CrewAt H2 ts' ((raiseC cs rs).take k) ∧ σ = [some (.ref p), some (.ref m), some (.ref l), y3, y4, y5, y6])
      ⟨s0, [], _, _, _, _, upd_same, .nil, rfl⟩ ?_ ?_⟩
    · rintro k σ H2 hk ⟨sm, ts', y3, y4, y5, y6, el, ca', rfl⟩
      rw [List.length_map] at hk
      have hk2 : k < cs.length := by omega
      obtain ⟨t, c, et, e4, e5, e6⟩ := crew_at (ca.same sm) (i := k) (x := .ref ts[k]) (by rw [List.getElem?_map, List.getElem?_eq_getElem (by omega)]; rfl)
      have at1 : atI (ts.map V.ref) (0 + (k : Int)) = some (.ref t) := by
        refine atI_in (by omega) ?_
        rw [show (0 + (k : Int)).toNat = k by omega, List.getElem?_map, e4]
        rfl
      have at2 : atI ((rsL cs rs).map V.int) (0 + (k : Int)) = some (.int (rs k)) := by
        refine atI_in (by omega) ?_
        rw [show (0 + (k : Int)).toNat = k by omega, List.getElem?_map, rs_get hk2]
        rfl
      obtain ⟨g1, g2, g3⟩ := cs_get e5
      refine ⟨_, rfl, _, rfl, _, _, _, _, rfl, rfl, lstAt (sm _ _ hp), at1, _, _, rfl, tupAt e6, rfl, _, _, rfl, _, _, rfl, _, _, rfl, rfl, ?_⟩
      refine ⟨_, rfl, .inl ⟨rfl, _, lstAt el⟩, _, rfl, _, rfl, _, rfl, fun v H' => v = .int (rs k) ∧ H' = H2, ?_, ?_⟩
      · rcases hM.same sm with hL | hL
        · exact .inl ⟨_, rfl, _, rfl, _, _, _, _, rfl, rfl, hL, at2, rfl, rfl⟩
        · exact .inr ⟨_, rfl, _, rfl, _, _, _, _, rfl, rfl, hL, at2, rfl, rfl⟩
      · rintro v H' ⟨rfl, rfl⟩
        refine ⟨_, _, rfl, rfl, (by show 3 ≤ sizeLine; decide), fun t2 nt2 => ?_⟩
        have s2 := same_upd (o := .tup [vN c.1, .int c.2.1, .int (c.2.2 + rs k)]) nt2
        have tl : l ≠ t2 := fun e => by subst e; rw [el] at nt2; cases nt2
        have hcl : ts'.length = k := by rw [ca'.1, List.length_take, raise_len]; omega
        refine ⟨_, _, _, rfl, rfl, s2 _ _ el, ?_, ?_⟩
        · rw [List.length_map]
          exact small1000 (by omega)
        · refine ⟨same_at (sm.trans s2) nl, ts' ++ [t2], _, _, _, _, by rw [upd_same, List.map_append]; rfl, ?_, rfl⟩
          have kp : ∀ b o, (∃ xs, o = HO.tup xs) → upd H' t2 (.tup [vN c.1, .int c.2.1, .int (c.2.2 + rs k)]) b = some o → upd (upd H' t2 (.tup [vN c.1, .int c.2.1, .int (c.2.2 + rs k)])) l (.lst (ts'.map V.ref ++ [V.ref t2])) b = some o := fun b o ho e => by
            obtain ⟨xs, rfl⟩ := ho
            rw [upd_ne (fun z => ?_)]
            · exact e
            · subst z
              rw [s2 _ _ el] at e
              cases e
          rw [List.take_add_one, raise_get hk2, g1, g2, g3]
          have ca2 := ca'.same s2
          exact CrewAt.snoc (c := (c.1, c.2.1, c.2.2 + rs k)) ⟨ca2.1, fun i t c a b => kp _ _ ⟨_, rfl⟩ (ca2.2 i t c a b)⟩ (kp _ _ ⟨_, rfl⟩ upd_same)
    · rintro σ H2 ⟨sm, ts', y3, y4, y5, y6, el, ca', rfl⟩
      rw [List.length_map, hlen, List.take_of_length_le (by rw [raise_len]; omega)] at ca'
      exact ⟨_, rfl, q _ _ _ sm el ca'⟩
end
end TK

namespace TK
open PySem PySem.Spec PyProof.Rows L2
section
variable {P : Program} {w : World} {K : PySem.W.Frag} {mg : Str → Option Value} {base : Heap}
/-! _law_raises -/
def spRaisesL (K : PySem.W.Frag) : Sp := fun vs H Q _ => ∃ (a p : Addr) (ns : List Int) (ts : List Addr) (cs : List Bd), vs = [.ref a, .ref p] ∧ SqL K H a (ns.map V.int) ∧ ns.length = 30 ∧ H p = some (.lst (ts.map V.ref)) ∧ CrewAt H ts cs ∧ CrewOk cs ∧
  ∀ (H' : Hp) (l : Addr) (rs : Nat → Int), Same H H' → H' l = some (.lst ((rsL cs rs).map V.int)) → (∀ k, 0 ≤ rs k) → Q (.ref l) H'
theorem ok_L_raises {f : Addr} {fd : FuncData} (F : Fun K "_law_raises" "_law_raises" s_L_raises f fd) (m_range : mg "range" = none) (m_len : mg "len" = none) (m_int : mg "int" = none) (m_max : mg "max" = none)
    (d_L_part : Def P w K mg base "_law_part" 1 ["_law_pool_here", "_law_spot", "_law_under", "_law_size"] (spPart K)) (d_L_far : Def P w K mg base "_law_far" 1 ["_law_pool_here", "_law_spot", "_law_number"] (spFar K)) : FnOk P w K mg base CX0 2 f fd ["_law_pool_here", "_law_crew"] (spRaisesL K) := by
  refine F.ok sc_L_raises (fun vs H Q E h => ?_) (fun cdv A outer s H vs Q E hr h => ?_)
  · obtain ⟨a, p, ns, ts, cs, rfl, _⟩ := h
    rfl
  · obtain ⟨a, p, ns, ts, cs, rfl, hS, h30, hp, ca, ck, q⟩ := h
    have h6 := ck.few
    have hlen := ca.1
    refine ⟨_, (pss_cons (ps_set (i := 2) sc_L_raises.nd rfl (.inl rfl) (pe_lst pa_nil))
  (pss_cons (ps_for PassesOwn.never rfl (pi_range1 (by rfl) m_range (pa_cons (pe_callB call_len_seq (by rfl) m_len (by decide +kernel) (pa_cons (pv 1) pa_nil)) pa_nil)) (pg_name (i := 3) sc_L_raises.nd rfl (.inl rfl))
    (pss_cons (ps_asg (pe_ix ix_list (pv 1) (pv 3) (fun _ _ => rfl)) (pg_tup (by rfl) (pgs_cons (pg_name (i := 4) sc_L_raises.nd rfl (.inl rfl)) (pgs_cons (pg_name (i := 5) sc_L_raises.nd rfl (.inl rfl)) (pgs_cons (pg_name (i := 6) sc_L_raises.nd rfl (.inl rfl)) pgs_nil)))))
  (pss_cons (ps_set (i := 7) sc_L_raises.nd rfl (.inl rfl) (pe_callD d_L_part (hr.mono (by decide)) (by rfl) (pa_cons (pv 0) (pa_cons (pe_op op_mul pe_int (pv 3)) (pa_cons pe_int (pa_cons pe_int pa_nil))))))
  (pss_cons (ps_set (i := 8) sc_L_raises.nd rfl (.inl rfl) (pe_callD d_L_part (hr.mono (by decide)) (by rfl) (pa_cons (pv 0) (pa_cons (pe_op op_mul pe_int (pv 3)) (pa_cons pe_int (pa_cons pe_int pa_nil))))))
  (pss_cons (ps_set (i := 9) sc_L_raises.nd rfl (.inl rfl) pe_int)
  (pss_cons (ps_cut (ps_if (pt_cmpR op_lt (pv 7) pe_int (nomark _)) (pss_one (ps_set (i := 9) sc_L_raises.nd rfl (.inl rfl) (pe_op op_mod (pe_callTy call_int1 (by rfl) m_int (by decide +kernel) (pa_cons (pv 8) pa_nil)) pe_int))) pss_nil))
  (pss_cons (ps_cut (ps_if (pt_cmpR op_eq (pv 7) pe_int (nomark _)) (pss_cons (ps_asg (pe_ix ix_list (pv 1) (pe_op op_modN (pe_callTy call_int1 (by rfl) m_int (by decide +kernel) (pa_cons (pv 8) pa_nil)) (pe_callB call_len_seq (by rfl) m_len (by decide +kernel) (pa_cons (pv 1) pa_nil))) (fun _ _ => rfl)) (pg_tup (by rfl) (pgs_cons (pg_name (i := 10) sc_L_raises.nd rfl (.inl rfl)) (pgs_cons (pg_name (i := 11) sc_L_raises.nd rfl (.inl rfl)) (pgs_cons (pg_name (i := 12) sc_L_raises.nd rfl (.inl rfl)) pgs_nil)))))
  (pss_one (ps_set (i := 9) sc_L_raises.nd rfl (.inl rfl) (pe_callB (call_max2 rfl) (by rfl) m_max (by decide +kernel) (pa_cons pe_int (pa_cons (pe_op op_add (pe_op op_sub (pe_op op_fdivN (pe_op op_mul (pv 11) (pv 12)) (pv 5)) (pv 6)) (pe_callD d_L_part (hr.mono (by decide)) (by rfl) (pa_cons (pv 0) (pa_cons (pe_op op_mul pe_int (pv 3)) (pa_cons pe_int (pa_cons pe_int pa_nil)))))) pa_nil)))))) pss_nil))
  (pss_cons (ps_cut (ps_if (pt_cmpR op_eq (pv 7) pe_int (nomark _)) (pss_one (ps_set (i := 9) sc_L_raises.nd rfl (.inl rfl) (pe_callD d_L_far (hr.mono (by decide)) (by rfl) (pa_cons (pv 0) (pa_cons (pe_op op_add (pe_op op_mul pe_int (pv 3)) pe_int) (pa_cons pe_int pa_nil)))))) pss_nil))
  (pss_one (ps_expr (pe_bm PySem.F.plainAttrs_list PySem.F.slot_list_append PySem.F.type_list_append mt_append (pv 2) (pa_cons (pv 9) pa_nil))))))))))))
  (pss_one (ps_ret (pv 2))))), ?_⟩
    refine ⟨Nat.zero_le _, fun l nl => ?_⟩
    have s0 := same_upd (o := .lst []) nl
    refine ⟨_, rfl, _, _, rfl, .inl (lstAt (s0 _ _ hp)), _, rfl, by omega, by rw [List.length_map]; omega, for_range (fun k σ H2 => Same H H2 ∧ ∃ (ms : List Int) (y3 y4 y5 y6 y7 y8 y9 y10 y11 y12 : Option V), H2 l = some (.lst (ms.map V.int)) ∧ ms.length = k ∧ (∀ x ∈ ms, 0 ≤ x) ∧ σ = [some (.ref a), some (.ref p), some (.ref l), y3, y4, y5, y6, y7, y8, y9, y10, y11, y12])
      ⟨s0, [], _, _, _, _, _, _, _, _, _, _, upd_same, rfl, fun _ h => (nomatch h), rfl⟩ ?_ ?_⟩
    · rintro k σ H2 hk ⟨sm, ms, y3, y4, y5, y6, y7, y8, y9, y10, y11, y12, el, hml, hms, rfl⟩
      rw [List.length_map] at hk
      have hk2 : k < cs.length := by omega
      obtain ⟨t, c, et, e4, e5, e6⟩ := crew_at (ca.same sm) (i := k) (x := .ref ts[k]) (by rw [List.getElem?_map, List.getElem?_eq_getElem (by omega)]; rfl)
      have at1 : atI (ts.map V.ref) (0 + (k : Int)) = some (.ref t) := by
        refine atI_in (by omega) ?_
        rw [show (0 + (k : Int)).toNat = k by omega, List.getElem?_map, e4]
        rfl
      obtain ⟨c0, c1, c2, c3, c4⟩ := ck.ok c (List.mem_of_getElem? e5)
      have hS2 := sm.seq hS
      refine ⟨_, rfl, _, rfl, _, _, _, _, rfl, rfl, lstAt (sm _ _ hp), at1, _, _, rfl, tupAt e6, rfl, _, _, rfl, _, _, rfl, _, _, rfl, rfl, ?_⟩
      refine ⟨_, rfl, _, rfl, _, _, rfl, rfl, .inl ⟨by decide, by decide⟩, a, ns, 5 * (0 + (k : Int)), 1, 8, rfl, hS2, by omega, by omega, by decide, by decide, by decide, ?_⟩
      refine ⟨_, rfl, _, rfl, _, _, rfl, rfl, .inl ⟨by decide, by decide⟩, a, ns, 5 * (0 + (k : Int)), 8, 60, rfl, hS2, by omega, by omega, by decide, by decide, by decide, ?_⟩
      have n1 := part_lo (ns := ns) (s := 5 * (0 + (k : Int))) (u := 8) (z := 60) (by decide)
      obtain ⟨way, ew⟩ : ∃ way, way = partOf ns (5 * (0 + (k : Int))) 1 8 := ⟨_, rfl⟩
      obtain ⟨near, en⟩ : ∃ near, near = partOf ns (5 * (0 + (k : Int))) 8 60 := ⟨_, rfl⟩
      rw [← en] at n1
      rw [← ew, ← en]
      -- a small one
      refine ⟨fun σ H' => H' = H2 ∧ ∃ ex : Int, 0 ≤ ex ∧ σ = [some (.ref a), some (.ref p), some (.ref l), some (.int (0 + (k : Int))), some (vN c.1), some (.int c.2.1), some (.int c.2.2), some (.int way), some (.int near), some (.int ex), y10, y11, y12], ?_, ?_⟩
      · refine ⟨_, rfl, _, _, rfl, rfl, _, rfl, ite2 (fun e => ?_) (fun e => ?_)⟩
        · exact ⟨_, rfl, .inl ⟨_, rfl, _, _, rfl, rfl, (by show (0 : Int) < 10; decide), rfl, near % 10, Int.emod_nonneg _ (by decide), rfl⟩⟩
        · exact ⟨rfl, 0, Int.le_refl 0, rfl⟩
      rintro σ H' ⟨rfl, ex, ex0, rfl⟩
      -- just enough for another's strength
      refine ⟨fun σ H2 => H2 = H' ∧ ∃ (ex : Int) (y10 y11 y12 : Option V), 0 ≤ ex ∧ σ = [some (.ref a), some (.ref p), some (.ref l), some (.int (0 + (k : Int))), some (vN c.1), some (.int c.2.1), some (.int c.2.2), some (.int way), some (.int near), some (.int ex), y10, y11, y12], ?_, ?_⟩
      · refine ⟨_, rfl, rfl, _, rfl, ite2 (fun e => ?_) (fun e => ?_)⟩
        · have hm1 := Int.emod_nonneg near (show ((ts.map V.ref).length : Int) ≠ 0 by rw [List.length_map]; omega)
          have hm2 := Int.emod_lt_of_pos near (show (0 : Int) < ((ts.map V.ref).length : Int) by rw [List.length_map]; omega)
          have efm : near.fmod ((ts.map V.ref).length : Int) = near % ((ts.map V.ref).length : Int) := Int.fmod_eq_emod_of_nonneg _ (by omega)
          obtain ⟨j, ej⟩ : ∃ j : Nat, near % ((ts.map V.ref).length : Int) = (j : Int) := ⟨_, (Int.toNat_of_nonneg hm1).symm⟩
          rw [ej] at efm hm2
          rw [List.length_map] at hm2
          have hj : j < ts.length := by omega
          obtain ⟨t2, d, et2, f4, f5, f6⟩ := crew_at (ca.same sm) (i := j) (x := .ref ts[j]) (by rw [List.getElem?_map, List.getElem?_eq_getElem hj]; rfl)
          obtain ⟨d0, d1, d2, d3, d4⟩ := ck.ok d (List.mem_of_getElem? f5)
          refine ⟨_, rfl, _, rfl, .inl ⟨_, rfl, _, rfl, _, _, rfl, .inl (lstAt (sm _ _ hp)), _, _, rfl, rfl, (by rw [List.length_map]; omega), _, _, _, _, rfl, rfl, lstAt (sm _ _ hp), (by rw [efm]; exact atI_nat (by rw [List.getElem?_map, f4]; rfl)), _, _, rfl, tupAt f6, rfl, _, _, rfl, _, _, rfl, _, _, rfl, rfl, ?_⟩⟩
          refine ⟨_, rfl, _, rfl, _, _, rfl, rfl, .inl ⟨by omega, by omega⟩, _, rfl, _, _, rfl, rfl, ⟨by omega, by omega⟩, _, rfl, _, _, rfl, rfl, _, rfl, _, rfl, _, _, rfl, rfl, .inl ⟨by decide, by decide⟩, a, ns, 5 * (0 + (k : Int)), 480, 3, rfl, hS2, by omega, by omega, by decide, by decide, by decide, _, _, rfl, rfl, _, _, rfl, rfl, _, _, _, _, ?_, rfl⟩
          split <;> omega
        · exact ⟨rfl, ex, _, _, _, ex0, rfl⟩
      rintro σ H2 ⟨rfl, ex, z10, z11, z12, ex0, rfl⟩
      refine ⟨fun σ H' => H' = H2 ∧ ∃ (ex : Int), 0 ≤ ex ∧ σ = [some (.ref a), some (.ref p), some (.ref l), some (.int (0 + (k : Int))), some (vN c.1), some (.int c.2.1), some (.int c.2.2), some (.int way), some (.int near), some (.int ex), z10, z11, z12], ?_, ?_⟩
      · refine ⟨_, rfl, rfl, _, rfl, ite2 (fun e => ?_) (fun e => ?_)⟩
        · exact ⟨_, rfl, _, rfl, _, _, rfl, rfl, .inl ⟨by decide, by decide⟩, _, _, rfl, rfl, a, ns, 5 * (0 + (k : Int)) + 1, 4, rfl, hS2, by omega, by decide, by decide, by omega, fun r hr0 => ⟨rfl, r, hr0, rfl⟩⟩
        · exact ⟨rfl, ex, ex0, rfl⟩
      rintro σ H' ⟨rfl, ex, ex0, rfl⟩
      refine ⟨_, rfl, .inl ⟨rfl, _, lstAt el⟩, _, rfl, _, _, _, rfl, rfl, el, by rw [List.length_map]; exact small1000 (by omega), ?_⟩
      refine ⟨same_at sm nl, ms ++ [ex], _, _, _, _, _, _, _, _, _, _, by rw [upd_same, List.map_append]; rfl, by rw [List.length_append, hml]; rfl, fun x hx => ?_, rfl⟩
      rcases List.mem_append.mp hx with z | z
      · exact hms x z
      · rw [List.mem_singleton.mp z]; exact ex0
    · rintro σ H2 ⟨sm, ms, y3, y4, y5, y6, y7, y8, y9, y10, y11, y12, el, hml, hms, rfl⟩
      rw [List.length_map, hlen] at hml
      refine ⟨_, rfl, q H2 l (fun k => ms.getD k 0) sm ?_ fun k => ?_⟩
      · rw [el]
        congr 3
        refine List.ext_getElem? fun i => ?_
        unfold rsL
        rw [List.getElem?_map]
        by_cases hi : i < cs.length
        · rw [List.getElem?_range hi, List.getElem?_eq_getElem (by omega)]
          show _ = some (ms.getD i 0)
          rw [List.getD_eq_getElem?_getD, List.getElem?_eq_getElem (by omega)]
          rfl
        · rw [List.getElem?_eq_none (by omega), List.getElem?_eq_none (by rw [List.length_range]; omega)]
          rfl
      · rw [List.getD_eq_getElem?_getD]
        cases e : ms[k]? with
        | none => exact Int.le_refl 0
        | some x => exact hms x (List.mem_of_getElem? e)
end
end TK

namespace TK
open PySem PySem.Spec PyProof.Rows L2
/-! ### arrangements -/
def arrAt {α : Type} (r : List α → List (List α)) (l : List α) (i : Nat) : List (List α) := match l[i]? with | some x => (r (l.eraseIdx i)).map (x :: ·) | none => []
def arr {α : Type} : Nat → List α → List (List α)
  | 0, _ => [[]]
  | m + 1, l => [] :: (List.range l.length).flatMap fun i => arrAt (arr m) l i
theorem flat_congr {α β : Type} {f g : α → List β} : ∀ {l : List α}, (∀ x ∈ l, f x = g x) → l.flatMap f = l.flatMap g
  | [], _ => rfl
  | x :: l, h => by
    rw [List.flatMap_cons, List.flatMap_cons, h x (List.mem_cons_self ..), flat_congr fun y hy => h y (List.mem_cons_of_mem _ hy)]
theorem map_erase {α β : Type} (f : α → β) (l : List α) (i : Nat) : (l.map f).eraseIdx i = (l.eraseIdx i).map f := by
  rw [List.eraseIdx_eq_take_drop_succ, List.eraseIdx_eq_take_drop_succ, List.map_append, List.map_take, List.map_drop]
theorem arr_map {α β : Type} (f : α → β) : ∀ (m : Nat) (l : List α), arr m (l.map f) = (arr m l).map (List.map f)
  | 0, _ => rfl
  | m + 1, l => by
    unfold arr
    rw [List.map_cons, List.length_map, List.map_flatMap]
    congr 1
    refine flat_congr fun i _ => ?_
    unfold arrAt
    rw [List.getElem?_map]
    cases l[i]? with
    | none => rfl
    | some x =>
      show (arr m ((l.map f).eraseIdx i)).map (f x :: ·) = ((arr m (l.eraseIdx i)).map (x :: ·)).map (List.map f)
      rw [map_erase, arr_map f m, List.map_map, List.map_map]
      rfl
theorem mem_erase {α : Type} {l : List α} {i : Nat} {x y : α} (hi : l[i]? = some x) (hy : y ∈ l) (ne : y ≠ x) : y ∈ l.eraseIdx i := by
  obtain ⟨j, hj⟩ := List.getElem?_of_mem hy
  by_cases h : j < i
  · exact List.mem_of_getElem? (i := j) (by rw [List.getElem?_eraseIdx, if_pos h]; exact hj)
  · have : j ≠ i := fun z => by subst z; rw [hi] at hj; exact ne (Option.some.inj hj).symm
    exact List.mem_of_getElem? (i := j - 1) (by rw [List.getElem?_eraseIdx, if_neg (by omega), show j - 1 + 1 = j by omega]; exact hj)
theorem arr_mem {α : Type} : ∀ (m : Nat) {l : List α} {ps : List α}, ps.Nodup → (∀ p ∈ ps, p ∈ l) → ps.length ≤ m → ps ∈ arr m l
  | 0, l, [], _, _, _ => List.mem_cons_self ..
  | 0, l, _ :: _, _, _, h => by simp at h
  | m + 1, l, [], _, _, _ => List.mem_cons_self ..
  | m + 1, l, p :: ps, nd, sub, hl => by
    obtain ⟨h1, h2⟩ := List.nodup_cons.mp nd
    obtain ⟨i, hi⟩ := List.getElem?_of_mem (sub p (List.mem_cons_self ..))
    have hil := (List.getElem?_eq_some_iff.mp hi).1
    refine List.mem_cons_of_mem _ (List.mem_flatMap.mpr ⟨i, List.mem_range.mpr hil, ?_⟩)
    unfold arrAt
    rw [hi]
    exact List.mem_map.mpr ⟨ps, arr_mem m h2 (fun q hq => mem_erase hi (sub q (List.mem_cons_of_mem _ hq)) fun z => h1 (by rw [← z]; exact hq)) (by simpa using hl), rfl⟩
theorem arr_sound {α : Type} : ∀ (m : Nat) {l : List α} {ps : List α}, ps ∈ arr m l → ps.length ≤ m ∧ (∀ p ∈ ps, p ∈ l) ∧ (l.Nodup → ps.Nodup)
  | 0, l, ps, h => by
    cases List.mem_singleton.mp h
    exact ⟨Nat.le_refl _, fun _ h => (nomatch h), fun _ => List.nodup_nil⟩
  | m + 1, l, ps, h => by
    rcases List.mem_cons.mp h with z | z
    · subst z
      exact ⟨Nat.zero_le _, fun _ h => (nomatch h), fun _ => List.nodup_nil⟩
    · obtain ⟨i, hi, hm⟩ := List.mem_flatMap.mp z
      unfold arrAt at hm
      cases e : l[i]? with
      | none => rw [e] at hm; cases hm
      | some x =>
        rw [e] at hm
        obtain ⟨qs, hq, rfl⟩ := List.mem_map.mp hm
        obtain ⟨r1, r2, r3⟩ := arr_sound m hq
        refine ⟨by rw [List.length_cons]; omega, fun p hp => ?_, fun nd => ?_⟩
        · rcases List.mem_cons.mp hp with z | z
          · rw [z]; exact List.mem_of_getElem? e
          · exact List.mem_of_mem_eraseIdx (r2 p z)
        · refine List.nodup_cons.mpr ⟨fun z => ?_, r3 (nd.sublist (List.eraseIdx_sublist ..))⟩
          have hx := r2 x z
          obtain ⟨j, hj⟩ := List.getElem?_of_mem hx
          rw [List.getElem?_eraseIdx] at hj
          split at hj
          · have := nd_ix nd hj e
            omega
          · have := nd_ix nd hj e
            omega
theorem arr_nd : ∀ n, n < 7 → ∀ m, m < 4 → (arr m (List.range n)).Nodup ∧ (arr m (List.range n)).length ≤ 157 := by decide +kernel
def placesF (n s : Nat) : List (List Nat) :=
  [] :: (List.range n).flatMap fun a => [a] :: (List.range n).flatMap fun b => if 1 < s ∧ b ≠ a then [a, b] :: (List.range n).flatMap fun c => if 2 < s ∧ c ≠ a ∧ c ≠ b then [[a, b, c]] else [] else []
theorem places_arr : ∀ n, n < 7 → ∀ s, s < 4 → 1 ≤ s → placesF n s = arr s (List.range n) := by decide +kernel
/-! ### prices -/
def rivTo (cs : List Bd) (ps : List Nat) (sill : Int) (i : Nat) : List Nat := (List.range i).filter fun k => decide (k ∉ ps) && decide (sill ≤ wt cs k * bdAt cs k)
def canb (cs : List Bd) (ps : List Nat) (h : Nat) (sill : Int) : Bool := !(decide (h < ps.length) || (decide (ps.length < h) && decide (rivTo cs ps sill cs.length ≠ [])))
theorem canb_iff {cs : List Bd} {ps : List Nat} {h : Nat} {sill : Int} : canb cs ps h sill = true ↔ CanB cs ps h sill := by
  have e : rivTo cs ps sill cs.length ≠ [] ↔ ∃ q, q < cs.length ∧ q ∉ ps ∧ sill ≤ wt cs q * bdAt cs q := by
    constructor
    · intro n
      obtain ⟨q, hq⟩ := List.exists_mem_of_ne_nil _ n
      have h1 := List.mem_filter.mp hq
      have h2 := h1.2
      simp only [Bool.and_eq_true, decide_eq_true_eq] at h2
      exact ⟨q, List.mem_range.mp h1.1, h2.1, h2.2⟩
    · rintro ⟨q, q1, q2, q3⟩ z
      have : q ∈ rivTo cs ps sill cs.length := List.mem_filter.mpr ⟨List.mem_range.mpr q1, by simp [q2, q3]⟩
      rw [z] at this
      cases this
  unfold CanB canb
  rw [Bool.not_eq_true', Bool.or_eq_false_iff, Bool.and_eq_false_iff, decide_eq_false_iff_not, decide_eq_false_iff_not, decide_eq_false_iff_not]
  constructor
  · rintro ⟨c1, c2⟩
    refine ⟨Nat.le_of_not_lt c1, fun hl x x1 x2 => ?_⟩
    have : ¬ sill ≤ wt cs x * bdAt cs x := fun z => c2.elim (fun y => y hl) fun y => y (e.mpr ⟨x, x1, x2, z⟩)
    omega
  · rintro ⟨c1, c2⟩
    refine ⟨Nat.not_lt.mpr c1, ?_⟩
    by_cases hl : ps.length < h
    · refine .inr fun z => ?_
      obtain ⟨x, x1, x2, x3⟩ := e.mp z
      have := c2 hl x x1 x2
      omega
    · exact .inl hl
def costF (cs : List Bd) (h : Nat) (sill : Int) (ps : List Nat) : Option Int := if canb cs ps h sill = true then some (rsL cs (rsF cs sill ps)).sum else none
def rowsOf (cs : List Bd) (h : Nat) (sill : Int) (l : List (List Nat)) : List (List Nat × Int) := l.filterMap fun ps => (costF cs h sill ps).map fun c => (ps, c)
def rowsF (cs : List Bd) (h : Nat) (sill : Int) : List (List Nat × Int) := rowsOf cs h sill (arr h (List.range cs.length))
theorem filter_one {α : Type} {p : α → Bool} : ∀ {l : List α} {x : α}, l.Nodup → x ∈ l → (∀ y ∈ l, p y = true ↔ y = x) → l.filter p = [x]
  | [], _, _, h, _ => by cases h
  | a :: l, x, nd, hx, hp => by
    obtain ⟨h1, h2⟩ := List.nodup_cons.mp nd
    rw [List.filter_cons]
    by_cases e : a = x
    · subst e
      rw [if_pos ((hp a (List.mem_cons_self ..)).mpr rfl), List.filter_eq_nil_iff.mpr fun y hy z => h1 (by rw [← (hp y (List.mem_cons_of_mem _ hy)).mp z]; exact hy)]
    · rw [if_neg fun z => e ((hp a (List.mem_cons_self ..)).mp z)]
      exact filter_one h2 ((List.mem_cons.mp hx).elim (fun z => (e z.symm).elim) id) fun y hy => hp y (List.mem_cons_of_mem _ hy)
theorem rows_filter {cs : List Bd} {h : Nat} {sill : Int} {g : List Nat × Int → Bool} : ∀ (l : List (List Nat)), (rowsOf cs h sill l).filter g = rowsOf cs h sill (l.filter fun ps => match costF cs h sill ps with | some c => g (ps, c) | none => false)
  | [] => rfl
  | ps :: l => by
    have ih := rows_filter (cs := cs) (h := h) (sill := sill) (g := g) l
    unfold rowsOf at ih ⊢
    rw [List.filterMap_cons, List.filter_cons]
    cases e : costF cs h sill ps with
    | none =>
      rw [if_neg (by simp)]
      exact ih
    | some c =>
      show List.filter g ((ps, c) :: _) = _
      rw [List.filter_cons, ih]
      by_cases hg : g (ps, c) = true
      · rw [if_pos hg, if_pos hg, List.filterMap_cons, e]
        rfl
      · rw [if_neg hg, if_neg hg]
theorem sum_nonneg : ∀ {l : List Int}, (∀ x ∈ l, 0 ≤ x) → 0 ≤ l.sum
  | [], _ => Int.le_refl 0
  | x :: l, h => by
    rw [List.sum_cons]
    have := sum_nonneg fun y hy => h y (List.mem_cons_of_mem _ hy)
    have := h x (List.mem_cons_self ..)
    omega
theorem sum_zero : ∀ {l : List Int}, (∀ x ∈ l, 0 ≤ x) → l.sum = 0 → ∀ x ∈ l, x = 0
  | [], _, _, _, hx => by cases hx
  | y :: l, h, e, x, hx => by
    rw [List.sum_cons] at e
    have h1 := sum_nonneg fun y hy => h y (List.mem_cons_of_mem _ hy)
    have h2 := h y (List.mem_cons_self ..)
    rcases List.mem_cons.mp hx with z | z
    · rw [z]; omega
    · exact sum_zero (fun y hy => h y (List.mem_cons_of_mem _ hy)) (by omega) x z
theorem sum_le {f g : Nat → Int} : ∀ {l : List Nat}, (∀ k ∈ l, f k ≤ g k) → (l.map f).sum ≤ (l.map g).sum
  | [], _ => Int.le_refl 0
  | k :: l, h => by
    rw [List.map_cons, List.map_cons, List.sum_cons, List.sum_cons]
    have := sum_le fun y hy => h y (List.mem_cons_of_mem _ hy)
    have := h k (List.mem_cons_self ..)
    omega
/-- just one ladder costs nothing -/
theorem rows_zero {cs : List Bd} (ck : CrewOk cs) {h : Nat} {sill : Int} (h3 : h ≤ 3) {ps : List Nat} (T : Top (ldR cs fun _ => 0) cs.length sill h ps) : (rowsF cs h sill).filter (fun r => decide (r.2 = 0)) = [(ps, 0)] := by
  have hw : ∀ k, 1 ≤ wt cs k := wt_pos fun c hc => (ck.ok c hc).2.1
  have nd := pw_nodup T.pw
  have h6 := ck.few
  have zero : ∀ qs : List Nat, qs.Nodup → (∀ q ∈ qs, q < cs.length) → CanB cs qs h sill → ((rsL cs (rsF cs sill qs)).sum = 0 ↔ qs = ps) := fun qs ndq ltq cn => by
    obtain ⟨_, kn, _, _⟩ := behind_chain hw (floor := sill) (o := outs cs qs) ndq
    constructor
    · intro e
      have z := sum_zero (l := rsL cs (rsF cs sill qs)) (fun x hx => by obtain ⟨k, _, rfl⟩ := List.mem_map.mp hx; exact kn k) e
      have T2 : Top (ldR cs fun _ => 0) cs.length sill h qs := top_congr (fun k hk => by
        unfold ldR
        rw [z (rsF cs sill qs k) (List.mem_map.mpr ⟨k, List.mem_range.mpr hk, rfl⟩)]) (rs_brings hw ndq ltq cn)
      have e1 := (want_raised ck.nd ltq).mpr T2
      have e2 := (want_raised ck.nd T.lt).mpr T
      exact nm_inj ck.nd ltq T.lt (by rw [← e1, ← e2])
    · intro e
      subst e
      have le := (brings_can hw (fun _ => Int.le_refl 0) T).2
      have ez : rsF cs sill qs = fun _ => 0 := funext fun k => Int.le_antisymm (le k) (kn k)
      rw [ez]
      unfold rsL
      have : ∀ l : List Nat, (l.map fun _ => (0 : Int)).sum = 0 := fun l => by
        induction l with
        | nil => rfl
        | cons x l ih => rw [List.map_cons, List.sum_cons, ih]; rfl
      exact this _
  have cn := (brings_can hw (fun _ => Int.le_refl 0) T).1
  unfold rowsF
  rw [rows_filter, filter_one (x := ps) (arr_nd _ (by omega) _ (by omega)).1 (arr_mem h nd (fun p hp => List.mem_range.mpr (T.lt p hp)) T.le) fun qs hq => ?_]
  · unfold rowsOf costF
    rw [List.filterMap_cons, if_pos (canb_iff.mpr cn), (zero ps nd T.lt cn).mpr rfl]
    rfl
  · obtain ⟨q1, q2, q3⟩ := arr_sound h hq
    have ndq := q3 List.nodup_range
    have ltq : ∀ q ∈ qs, q < cs.length := fun q hq => List.mem_range.mp (q2 q hq)
    unfold costF
    by_cases hc : canb cs qs h sill = true
    · rw [if_pos hc]
      show decide ((rsL cs (rsF cs sill qs)).sum = 0) = true ↔ _
      rw [decide_eq_true_eq]
      exact zero qs ndq ltq (canb_iff.mp hc)
    · rw [if_neg hc]
      constructor
      · intro z; cases z
      · intro z
        subst z
        exact (hc (canb_iff.mpr cn)).elim
/-- each ladder stands once -/
theorem rows_names {cs : List Bd} (ck : CrewOk cs) {h : Nat} {sill : Int} (h3 : h ≤ 3) {ps : List Nat} (nd : ps.Nodup) (lt : ∀ p ∈ ps, p < cs.length) (cn : CanB cs ps h sill) :
    (rowsF cs h sill).filter (fun r => decide (r.1.map (nmAt cs) = ps.map (nmAt cs))) = [(ps, (rsL cs (rsF cs sill ps)).sum)] := by
  have h6 := ck.few
  unfold rowsF
  rw [rows_filter, filter_one (x := ps) (arr_nd _ (by omega) _ (by omega)).1 (arr_mem h nd (fun p hp => List.mem_range.mpr (lt p hp)) cn.1) fun qs hq => ?_]
  · unfold rowsOf costF
    rw [List.filterMap_cons, if_pos (canb_iff.mpr cn)]
    rfl
  · obtain ⟨q1, q2, q3⟩ := arr_sound h hq
    have ltq : ∀ q ∈ qs, q < cs.length := fun q hq => List.mem_range.mp (q2 q hq)
    unfold costF
    by_cases hc : canb cs qs h sill = true
    · rw [if_pos hc]
      show decide (qs.map (nmAt cs) = ps.map (nmAt cs)) = true ↔ _
      rw [decide_eq_true_eq]
      exact ⟨nm_inj ck.nd ltq lt, fun z => by rw [z]⟩
    · rw [if_neg hc]
      constructor
      · intro z; cases z
      · intro z
        subst z
        exact (hc (canb_iff.mpr cn)).elim
/-! ### the law's own price -/
def bars (cs : List Bd) (ps : List Nat) (sill : Int) : List (Int × Nat) := (rivTo cs ps sill cs.length).map fun k => (wt cs k * bdAt cs k, k)
theorem mem_bars {cs : List Bd} {ps : List Nat} {sill : Int} {b : Int × Nat} : b ∈ bars cs ps sill ↔ b ∈ outs cs ps ∧ sill ≤ b.1 := by
  unfold bars rivTo
  rw [mem_outs, List.mem_map]
  constructor
  · rintro ⟨k, hk, rfl⟩
    have := List.mem_filter.mp hk
    have h2 := this.2
    simp only [Bool.and_eq_true, decide_eq_true_eq] at h2
    exact ⟨⟨List.mem_range.mp this.1, h2.1, rfl⟩, h2.2⟩
  · rintro ⟨⟨h1, h2, h3⟩, h4⟩
    refine ⟨b.2, List.mem_filter.mpr ⟨List.mem_range.mpr h1, ?_⟩, by rw [← h3]⟩
    rw [h3] at h4
    simp [h2, h4]
theorem need_bars {cs : List Bd} {ps : List Nat} {sill : Int} (p : Nat) : needOf sill (bars cs ps sill) p = needOf sill (outs cs ps) p := by
  have a := (need_le (floor := sill) (p := p) (outs cs ps) (needOf sill (outs cs ps) p)).mp (Int.le_refl _)
  have b := (need_le (floor := sill) (p := p) (bars cs ps sill) (needOf sill (bars cs ps sill) p)).mp (Int.le_refl _)
  refine Int.le_antisymm ((need_le _ _).mpr ⟨a.1, fun x hx => a.2 x (mem_bars.mp hx).1⟩) ((need_le _ _).mpr ⟨b.1, fun x hx => ?_⟩)
  by_cases h : sill ≤ x.1
  · exact b.2 x (mem_bars.mpr ⟨hx, h⟩)
  · have := b.1
    unfold onUp
    split <;> omega
theorem behind_bars {cs : List Bd} {sill : Int} {qs : List Nat} : ∀ (ps : List Nat), (behindF cs sill (bars cs qs sill) ps).2 = (behindF cs sill (outs cs qs) ps).2 ∧ (∀ p, needOf sill (behindF cs sill (bars cs qs sill) ps).1 p = needOf sill (behindF cs sill (outs cs qs) ps).1 p)
  | [] => ⟨rfl, fun p => need_bars p⟩
  | p :: ps => by
    obtain ⟨h1, h2⟩ := behind_bars (cs := cs) (sill := sill) (qs := qs) ps
    unfold behindF
    dsimp only
    rw [h2 p, h1]
    exact ⟨rfl, fun _ => rfl⟩
def liftF (load w need : Int) : Int := if need ≤ load then 0 else (need - load + w - 1) / w
theorem lift_r {w b need : Int} (hw : 1 ≤ w) : liftF (w * b) w need = rOf w b need := by
  unfold liftF rOf
  have e : (need - w * b + w - 1) / w = (need + w - 1) / w - b := by
    rw [show need - w * b + w - 1 = (need + w - 1) + (-b) * w by rw [Int.neg_mul, Int.mul_comm b w]; omega, Int.add_mul_ediv_right _ _ (by omega)]
    omega
  split
  · rename_i h
    have : (need + w - 1) / w < b + 1 := by
      refine Int.ediv_lt_of_lt_mul (by omega) ?_
      rw [Int.add_mul, Int.one_mul, Int.mul_comm]
      omega
    omega
  · rename_i h
    rw [e]
    have : b < (need + w - 1) / w := by
      refine Int.lt_of_lt_of_le (Int.lt_succ b) ?_
      refine Int.le_ediv_of_mul_le (by omega) ?_
      rw [Int.add_mul, Int.one_mul, Int.mul_comm b w]
      omega
    omega
theorem r_mono {w b m n : Int} (hw : 1 ≤ w) (h : m ≤ n) : rOf w b m ≤ rOf w b n := by
  unfold rOf
  have := Int.ediv_le_ediv (a := m + w - 1) (b := n + w - 1) (c := w) (by omega) (by omega)
  omega
theorem r_max {w b m n : Int} (hw : 1 ≤ w) : rOf w b (max m n) = max (rOf w b m) (rOf w b n) := by
  by_cases h : m ≤ n
  · have := r_mono (b := b) hw h
    rw [show max m n = n by omega]
    omega
  · have := r_mono (b := b) hw (show n ≤ m by omega)
    rw [show max m n = m by omega]
    omega
theorem lift_fold {w b : Int} (hw : 1 ≤ w) {p : Nat} : ∀ (l : List (Int × Nat)) (m : Int), l.foldl (fun e x => max e (rOf w b (x.1 + onUp p x.2))) (rOf w b m) = rOf w b (needOf m l p)
  | [], m => rfl
  | x :: l, m => by
    rw [List.foldl_cons, ← r_max hw, lift_fold hw l]
    rfl
theorem sum_perm {l m : List Int} (h : l.Perm m) : l.sum = m.sum := by
  induction h with
  | nil => rfl
  | cons x _ ih => rw [List.sum_cons, List.sum_cons, ih]
  | swap x y l => rw [List.sum_cons, List.sum_cons, List.sum_cons, List.sum_cons]; omega
  | trans _ _ i1 i2 => rw [i1, i2]
theorem sum_on {cs : List Bd} {f : Nat → Int} {ps : List Nat} (nd : ps.Nodup) (lt : ∀ p ∈ ps, p < cs.length) (h0 : ∀ k, k ∉ ps → f k = 0) : (rsL cs f).sum = (ps.map f).sum := by
  have pm : (List.range cs.length).Perm (ps ++ (List.range cs.length).filter fun k => decide (k ∉ ps)) := by
    refine (List.perm_ext_iff_of_nodup List.nodup_range (List.nodup_append.mpr ⟨nd, List.nodup_range.filter _, fun a ha b hb e => ?_⟩)).mpr fun k => ?_
    · subst e
      exact of_decide_eq_true (List.mem_filter.mp hb).2 ha
    · rw [List.mem_append, List.mem_filter, List.mem_range]
      constructor
      · intro hk
        by_cases z : k ∈ ps
        · exact .inl z
        · exact .inr ⟨hk, decide_eq_true z⟩
      · rintro (z | z)
        · exact lt k z
        · exact z.1
  unfold rsL
  rw [sum_perm (pm.map f), List.map_append, List.sum_append]
  have : (((List.range cs.length).filter fun k => decide (k ∉ ps)).map f).sum = 0 := by
    have : ∀ l : List Nat, (∀ k ∈ l, k ∉ ps) → (l.map f).sum = 0 := fun l hl => by
      induction l with
      | nil => rfl
      | cons x l ih => rw [List.map_cons, List.sum_cons, h0 x (hl x (List.mem_cons_self ..)), ih fun k hk => hl k (List.mem_cons_of_mem _ hk)]; rfl
    exact this _ fun k hk => of_decide_eq_true (List.mem_filter.mp hk).2
  rw [this, Int.add_zero]
end TK

namespace TK
open PySem PySem.Spec PyProof.Rows L2
theorem cut_from_l (xs : List V) (i : Nat) : cutV xs (some ((i : Nat) : Int)) none = xs.drop i := by
  unfold cutV
  rw [HT.sIx_none, HT.sIx_nat]
  by_cases h : i ≤ xs.length
  · rw [Nat.min_eq_left h, List.take_of_length_le (by rw [List.length_drop]; exact Nat.le_refl _)]
  · rw [Nat.min_eq_right (by omega), List.drop_eq_nil_of_le (Nat.le_refl _), List.drop_eq_nil_of_le (by omega)]
    simp
def tN (ys : List (List Nat)) : HO := .tup (ys.map vN)
theorem arr_len {α : Type} : ∀ (m : Nat) {l : List α}, l.length ≤ 6 → (arr m l).length ≤ 7 ^ m
  | 0, _, _ => Nat.le_refl _
  | m + 1, l, h => by
    have fl : ∀ i, i ≤ l.length → ((List.range i).flatMap fun i => arrAt (arr m) l i).length ≤ i * 7 ^ m := fun i hi => by
      induction i with
      | zero => exact Nat.zero_le _
      | succ i ih =>
        rw [List.range_succ, List.flatMap_append, List.length_append, Nat.succ_mul]
        refine Nat.add_le_add (ih (by omega)) ?_
        rw [List.flatMap_cons, List.flatMap_nil, List.append_nil]
        unfold arrAt
        rw [List.getElem?_eq_getElem (by omega)]
        show ((arr m (l.eraseIdx i)).map _).length ≤ 7 ^ m
        rw [List.length_map]
        exact arr_len m (by have := List.length_eraseIdx_le l i; omega)
    unfold arr
    rw [List.length_cons]
    have h1 := fl l.length (Nat.le_refl _)
    have h2 : l.length * 7 ^ m ≤ 6 * 7 ^ m := Nat.mul_le_mul_right _ h
    have h3 : 0 < 7 ^ m := Nat.pow_pos (by decide)
    rw [Nat.pow_succ]
    omega
section
variable {P : Program} {w : World} {K : PySem.W.Frag} {mg : Str → Option Value} {base : Heap}
def spArr (K : PySem.W.Frag) (n : Nat) : Sp := fun vs H Q _ => ∃ (a : Addr) (xs : List (List Nat)), vs = [.ref a, .int (n : Int)] ∧ SqL K H a (xs.map vN) ∧ xs.length ≤ 6 ∧ ∀ (H' : Hp) (l : Addr) (us : List Addr), Same H H' → H' l = some (.lst (us.map V.ref)) → At H' us ((arr n xs).map tN) → Q (.ref l) H'
theorem ok_arrangements {f : Addr} {fd : FuncData} (F : Fun K "arrangements" "arrangements" s_arrangements f fd) (g : mg "arrangements" = some (.ref f)) (b : Binds K fd ["names", "most"] []) (m_enumerate : mg "enumerate" = none) :
    ∀ n : Nat, n ≤ 3 → FnOk P w K mg base CX0 (n + 1) f fd ["names", "most"] (spArr K n) := by
  intro n
  induction n with
  | zero =>
    intro _
    refine F.ok sc_arrangements (fun vs H Q E h => ?_) (fun cdv A outer s H vs Q E hr h => ?_)
    · obtain ⟨a, xs, rfl, _⟩ := h
      rfl
    · obtain ⟨a, xs, rfl, hL, h6, q⟩ := h
      refine ⟨_, (pss_cons (ps_set (i := 2) sc_arrangements.nd rfl (.inl rfl) (pe_lst (pa_cons (pe_tup pa_nil) pa_nil)))
  (pss_cons (ps_if (pt_cmpR op_gt (pv 1) pe_int (nomark _)) (pss_one ps_never) pss_nil)
  (pss_one (ps_ret (pv 2))))), ?_⟩
      refine ⟨Nat.zero_le _, fun t nt => ⟨(by show 1 ≤ sizeLine; decide), fun l nl => ?_⟩⟩
      refine ⟨_, rfl, _, _, rfl, rfl, _, rfl, iteF ⟨_, rfl, ?_⟩⟩
      have s1 := same_upd (o := .tup []) nt
      have s2 := same_upd (o := .lst [V.ref t]) nl
      exact q _ l [t] (s1.trans s2) upd_same (At.one (s2 _ _ upd_same))
  | succ n ih =>
    intro hn
    have d_arrangements : Def P w K mg base "arrangements" (n + 1) ["names", "most"] (spArr K n) := ⟨_, _, ih (by omega), g, F.kp, b⟩
    refine F.ok sc_arrangements (fun vs H Q E h => ?_) (fun cdv A outer s H vs Q E hr h => ?_)
    · obtain ⟨a, xs, rfl, _⟩ := h
      rfl
    · obtain ⟨a, xs, rfl, hL, h6, q⟩ := h
      obtain ⟨flat, efl⟩ : ∃ flat : Nat → List (List (List Nat)), flat = fun i => (List.range i).flatMap fun i => arrAt (arr n) xs i := ⟨_, rfl⟩
      have tup : ∀ zs : List (List (List Nat)), ∀ p ∈ zs.map tN, ∃ ys, p = HO.tup ys := fun zs p hp => by
        obtain ⟨z, _, rfl⟩ := List.mem_map.mp hp
        exact ⟨_, rfl⟩
      have seven : 7 ^ n ≤ 49 := Nat.pow_le_pow_right (n := 7) (by decide) (show n ≤ 2 by omega)
      refine ⟨_, (pss_cons (ps_set (i := 2) sc_arrangements.nd rfl (.inl rfl) (pe_lst (pa_cons (pe_tup pa_nil) pa_nil)))
  (pss_cons (ps_if (pt_cmpR op_gt (pv 1) pe_int (nomark _)) (pss_one (ps_for PassesOwn.never rfl (pi_enum (by rfl) m_enumerate (pa_cons (pv 0) pa_nil)) (pg_tup (by rfl) (pgs_cons (pg_name (i := 3) sc_arrangements.nd rfl (.inl rfl)) (pgs_cons (pg_name (i := 4) sc_arrangements.nd rfl (.inr rfl)) pgs_nil)))
    (pss_cons (ps_set (i := 5) sc_arrangements.nd rfl (.inl rfl) (pe_lst (StX.pa_star (pe_slice sl_list (pv 0) po_none (po_some (pv 3))) (StX.pa_star (pe_slice sl_list (pv 0) (po_some (pe_op op_add (pv 3) pe_int)) po_none) pa_nil))))
  (pss_one (ps_expr (pe_bm PySem.F.plainAttrs_list PySem.F.slot_list_extend PySem.F.type_list_extend mt_extend (pv 2) (pa_cons (pe_lc (own := [("rest", 6)]) (by rfl) sc_arrangements.nd (pi_list (pe_callD d_arrangements (hr.mono (by omega)) (by rfl) (pa_cons (pv 5) (pa_cons (pe_op op_sub (pv 1) pe_int) pa_nil)))) (blkOk_by (N := ["names", "most", "found", "at", "name", "others", "rest"]) (sc := defScope s_arrangements) (by decide +kernel)) (fun _ _ _ _ _ => (pg_name (i := 6) sc_arrangements.nd rfl (.inl rfl))) (fun _ _ _ _ _ => pts_nil) (fun _ _ _ _ _ => (pe_tup (pa_cons (pv 4) (pa_starK (K := K) rfl (pv 6) pa_nil))))) pa_nil))))))) pss_nil)
  (pss_one (ps_ret (pv 2))))), ?_⟩
      refine ⟨Nat.zero_le _, fun t nt => ⟨(by show 1 ≤ sizeLine; decide), fun l nl => ?_⟩⟩
      have s1 := same_upd (o := .tup []) nt
      have s2 := same_upd (o := .lst [V.ref t]) nl
      have nlH : H l = none := s1.free nl
      refine ⟨_, rfl, _, _, rfl, rfl, _, rfl, ?_⟩
      rw [decide_eq_true (show (0 : Int) < ((n + 1 : Nat) : Int) by omega)]
      refine iteT ?_
      refine ⟨_, rfl, _, _, rfl, (s1.trans s2).seq hL, for_it walk_enum (fun i σ H2 => Same H H2 ∧ ∃ (us : List Addr) (y3 y4 y5 : Option V), H2 l = some (.lst (us.map V.ref)) ∧ At H2 us (([] :: flat i).map tN) ∧ us.length ≤ 1 + i * 49 ∧ σ = [some (.ref a), some (.int ((n + 1 : Nat) : Int)), some (.ref l), y3, y4, y5, none])
        ⟨s1.trans s2, [t], _, _, _, upd_same, by rw [efl]; exact At.one (s2 _ _ upd_same), Nat.le_refl _, rfl⟩ (fun i σ H2 _ hp => hp.1.seq hL) ?_ ?_⟩
      · rintro i x σ H2 H3 hi ⟨sm, us, y3, y4, y5, el, at2, hus, rfl⟩ ⟨T, z1, z2, rfl, nT, rfl, e1, e2⟩
        rw [List.length_map] at hi
        cases e1
        have ei : xs[i]? = some xs[i] := List.getElem?_eq_getElem hi
        have ez : z2 = vN xs[i] := by
          have e3 : (xs.map vN)[i]? = some z2 := e2
          rw [List.getElem?_map, ei] at e3
          exact (Option.some.inj e3).symm
        subst ez
        have sT := same_upd (o := .tup [.int (i : Nat), vN xs[i]]) nT
        have sm3 := sm.trans sT
        refine ⟨_, _, rfl, tupAt upd_same, rfl, _, _, rfl, _, _, rfl, rfl, ?_⟩
        -- others
        refine ⟨_, rfl, _, rfl, _, rfl, _, _, rfl, sm3.seq hL, fun p1 np1 => ?_⟩
        have sp1 := same_upd (o := .lst (cutV (xs.map vN) none (some ((i : Nat) : Int)))) np1
        refine ⟨_, _, rfl, .inr (lstAt upd_same), _, rfl, _, rfl, _, _, rfl, rfl, _, rfl, _, _, rfl, (sm3.trans sp1).seq hL, fun p2 np2 => ?_⟩
        rw [cut_any] at sp1
        rw [cut_any] at np2 ⊢
        have ec : cutV (xs.map vN) (some (((i : Nat) : Int) + 1)) none = (xs.map vN).drop (i + 1) := cut_from_l _ (i + 1)
        rw [ec]
        have sp2 := same_upd (o := .lst ((xs.map vN).drop (i + 1))) np2
        refine ⟨_, _, rfl, .inr (lstAt upd_same), ?_, fun p3 np3 => ?_⟩
        · rw [List.append_nil, List.length_append, List.length_take, List.length_drop, List.length_map]
          exact Nat.le_of_lt (small1000 (by omega))
        have eo : (xs.map vN).take i ++ ((xs.map vN).drop (i + 1) ++ []) = (xs.eraseIdx i).map vN := by
          rw [List.append_nil, ← map_erase, List.eraseIdx_eq_take_drop_succ]
        rw [eo]
        have sp3 := same_upd (o := .lst ((xs.eraseIdx i).map vN)) np3
        have s23 := sp1.trans (sp2.trans sp3)
        obtain ⟨H4, eH4⟩ : ∃ H4, H4 = upd (upd (upd (upd H2 T (.tup [.int (i : Nat), vN xs[i]])) p1 (.lst ((xs.map vN).take i))) p2 (.lst ((xs.map vN).drop (i + 1)))) p3 (.lst ((xs.eraseIdx i).map vN)) := ⟨_, rfl⟩
        have eo4 : H4 p3 = some (.lst ((xs.eraseIdx i).map vN)) := by rw [eH4]; exact upd_same
        rw [← eH4] at s23 ⊢
        have s24 := sT.trans s23
        have em : (((n + 1 : Nat) : Int) - 1) = (n : Int) := by omega
        have hel := List.length_eraseIdx_le xs i
        -- the longer ones
        refine ⟨_, rfl, .inl ⟨rfl, _, lstAt (s24 _ _ el)⟩, _, rfl, _, rfl, _, _, rfl, rfl, p3, xs.eraseIdx i, (by show [V.ref p3, V.int (((n + 1 : Nat) : Int) - 1)] = [V.ref p3, V.int (n : Int)]; rw [em]), lstAt eo4, by omega, fun H5 l2 us2 s5 el2 at5 => ?_⟩
        have al : (arr n (xs.eraseIdx i)).length ≤ 49 := Nat.le_trans (arr_len n (by omega)) seven
        refine ⟨l2, rfl, ⟨_, lstAt el2⟩, fun D nD => ?_⟩
        refine lc_list (K := K) (a := l2) (xs := us2.map V.ref) (fun j H6 => Same H5 H6 ∧ ∃ ws : List Addr, H6 D = some (.lst (ws.map V.ref)) ∧ At H6 ws ((((arr n (xs.eraseIdx i)).take j).map (xs[i] :: ·)).map tN)) ⟨same_upd nD, [], upd_same, .nil⟩ (fun j H6 _ hp => hp.1.seq (lstAt el2)) (fun j x H6 hx hp => ?_) (fun H6 hp => ?_)
        · obtain ⟨s6, ws, eD, at6⟩ := hp
          obtain ⟨u2, o2, rfl, f1, f2, f3⟩ := (at5.same s6).get hx
          rw [List.getElem?_map] at f2
          cases ey : (arr n (xs.eraseIdx i))[j]? with
          | none => rw [ey] at f2; cases f2
          | some ys =>
            rw [ey] at f2
            cases f2
            have hyl : ys.length ≤ n := (arr_sound n (List.mem_of_getElem? ey)).1
            refine ⟨rfl, yesT ⟨_, rfl, _, rfl, _, _, rfl, .inl (tupAt f3), ?_, fun p np => ?_⟩⟩
            · rw [List.append_nil, List.length_cons, List.length_map]
              exact Nat.le_of_lt (small1000 (by omega))
            have sp := same_upd (o := .tup (vN xs[i] :: (ys.map vN ++ []))) np
            have hDp : D ≠ p := fun e => by subst e; rw [eD] at np; cases np
            have hws : ws.length ≤ j := by rw [at6.1, List.length_map, List.length_map, List.length_take]; omega
            have hj : j < (arr n (xs.eraseIdx i)).length := (List.getElem?_eq_some_iff.mp ey).1
            refine ⟨_, sp _ _ eD, ?_, same_at (s6.trans sp) nD, ws ++ [p], ?_, ?_⟩
            · rw [List.length_map]; exact small1000 (by omega)
            · rw [upd_same, List.map_append]; rfl
            · rw [List.take_add_one, ey, List.map_append, List.map_append]
              refine ((at6.same sp).append (At.one (o := tN (xs[i] :: ys)) ?_)).wrote (fun p hp => ?_) (sp _ _ eD)
              · rw [upd_same, List.append_nil]; rfl
              · rcases List.mem_append.mp hp with z | z
                · exact tup _ p z
                · rw [List.mem_singleton.mp z]; exact ⟨_, rfl⟩
        · obtain ⟨s6, ws, eD, at6⟩ := hp
          rw [List.length_map, at5.1, List.length_map, List.take_length] at at6
          have hws : ws.length ≤ 49 := by rw [at6.1, List.length_map, List.length_map]; exact al
          have s46 := s5.trans s6
          have el6 := s46 _ _ (s24 _ _ el)
          refine ⟨_, _, _, _, rfl, rfl, el6, eD, ?_, ?_⟩
          · rw [List.length_map, List.length_map]
            exact Nat.le_of_lt (small1000 (by omega))
          have fe : flat (i + 1) = flat i ++ (arr n (xs.eraseIdx i)).map (xs[i] :: ·) := by
            rw [efl]
            show (List.range (i + 1)).flatMap (fun i => arrAt (arr n) xs i) = _
            rw [List.range_succ, List.flatMap_append, List.flatMap_cons, List.flatMap_nil, List.append_nil]
            congr 1
            unfold arrAt
            rw [ei]
          refine ⟨same_at (sm.trans (s24.trans s46)) nlH, us ++ ws, _, _, _, by rw [upd_same, List.map_append], ?_, ?_, rfl⟩
          · rw [fe, ← List.cons_append, List.map_append]
            exact (((at2.same s24).same s46).append at6).wrote (fun p hp => by rw [← List.map_append] at hp; exact tup _ p hp) el6
          · rw [List.length_append, Nat.add_mul]; omega
      · rintro σ H2 ⟨sm, us, y3, y4, y5, el, at2, hus, rfl⟩
        rw [List.length_map, efl] at at2
        exact ⟨_, rfl, q H2 l us sm el at2⟩
end
end TK

namespace TK
open PySem PySem.Spec PyProof.Rows L2
theorem range_nm (cs : List Bd) : (List.range cs.length).map (nmAt cs) = cs.map (·.1) := by
  refine List.ext_getElem? fun i => ?_
  rw [List.getElem?_map, List.getElem?_map]
  by_cases h : i < cs.length
  · rw [List.getElem?_range h, List.getElem?_eq_getElem h]
    show some (nmAt cs i) = some _
    rw [(cs_get (List.getElem?_eq_getElem h)).2.2]
  · rw [List.getElem?_eq_none (by rw [List.length_range]; omega), List.getElem?_eq_none (by omega)]
    rfl
def Got (H : Hp) (cs : List Bd) (ps : List Nat) (h : Nat) (sill : Int) (g : V) : Prop := (¬ CanB cs ps h sill ∧ g = .non) ∨ (CanB cs ps h sill ∧ ∃ t : Addr, g = .ref t ∧ H t = some (.tup ((rsL cs (rsF cs sill ps)).map V.int)))
/-! ### rows of names and a price -/
def RowAt (H : Hp) (cs : List Bd) (u : Addr) (r : List Nat × Int) : Prop := ∃ t : Addr, H u = some (.tup [.ref t, .int r.2]) ∧ H t = some (.tup ((r.1.map (nmAt cs)).map vN))
theorem RowAt.same {H H' : Hp} {cs : List Bd} {u : Addr} {r : List Nat × Int} (h : RowAt H cs u r) (s : Same H H') : RowAt H' cs u r := by
  obtain ⟨t, a, b⟩ := h
  exact ⟨t, s _ _ a, s _ _ b⟩
theorem RowAt.wrote {H : Hp} {cs : List Bd} {u D : Addr} {r : List Nat × Int} {xs : List V} {o : HO} (h : RowAt H cs u r) (e : H D = some (.lst xs)) : RowAt (upd H D o) cs u r := by
  obtain ⟨t, a, b⟩ := h
  refine ⟨t, ?_, ?_⟩
  · rw [upd_ne fun z => by subst z; rw [e] at a; cases a]; exact a
  · rw [upd_ne fun z => by subst z; rw [e] at b; cases b]; exact b
def RowsAt (H : Hp) (cs : List Bd) (us : List Addr) (rs : List (List Nat × Int)) : Prop := us.length = rs.length ∧ ∀ (i : Nat) (u : Addr) (r : List Nat × Int), us[i]? = some u → rs[i]? = some r → RowAt H cs u r
theorem RowsAt.same {H H' : Hp} {cs : List Bd} {us : List Addr} {rs : List (List Nat × Int)} (h : RowsAt H cs us rs) (s : Same H H') : RowsAt H' cs us rs := ⟨h.1, fun i u r a b => (h.2 i u r a b).same s⟩
theorem RowsAt.wrote {H : Hp} {cs : List Bd} {us : List Addr} {D : Addr} {rs : List (List Nat × Int)} {xs : List V} {o : HO} (h : RowsAt H cs us rs) (e : H D = some (.lst xs)) : RowsAt (upd H D o) cs us rs := ⟨h.1, fun i u r a b => (h.2 i u r a b).wrote e⟩
theorem RowsAt.nil {H : Hp} {cs : List Bd} : RowsAt H cs [] [] := ⟨rfl, fun i u r a _ => by simp at a⟩
theorem RowsAt.snoc {H : Hp} {cs : List Bd} {us : List Addr} {rs : List (List Nat × Int)} {u : Addr} {r : List Nat × Int} (h : RowsAt H cs us rs) (e : RowAt H cs u r) : RowsAt H cs (us ++ [u]) (rs ++ [r]) := by
  refine ⟨by rw [List.length_append, List.length_append, h.1]; rfl, fun i t' c' a c => ?_⟩
  by_cases hi : i < us.length
  · rw [List.getElem?_append_left hi] at a
    rw [List.getElem?_append_left (by rw [← h.1]; exact hi)] at c
    exact h.2 i t' c' a c
  · have hi' : i = us.length := by
      have := (List.getElem?_eq_some_iff.mp a).1
      rw [List.length_append] at this
      simp only [List.length_cons, List.length_nil] at this
      omega
    subst hi'
    rw [List.getElem?_append_right (Nat.le_refl _), Nat.sub_self] at a
    rw [List.getElem?_append_right (by rw [h.1]; exact Nat.le_refl _), ← h.1, Nat.sub_self] at c
    cases a
    cases c
    exact e
theorem RowsAt.get {H : Hp} {cs : List Bd} {us : List Addr} {rs : List (List Nat × Int)} {i : Nat} {x : V} (h : RowsAt H cs us rs) (e : (us.map V.ref)[i]? = some x) : ∃ (u : Addr) (r : List Nat × Int), x = .ref u ∧ us[i]? = some u ∧ rs[i]? = some r ∧ RowAt H cs u r := by
  rw [List.getElem?_map] at e
  cases ht : us[i]? with
  | none => rw [ht] at e; cases e
  | some t =>
    rw [ht] at e
    cases e
    have hi : i < rs.length := by rw [← h.1]; exact (List.getElem?_eq_some_iff.mp ht).1
    exact ⟨t, rs[i], rfl, rfl, List.getElem?_eq_getElem hi, h.2 i t _ ht (List.getElem?_eq_getElem hi)⟩
theorem rows_len (cs : List Bd) (h : Nat) (sill : Int) (l : List (List Nat)) : (rowsOf cs h sill l).length ≤ l.length := List.length_filterMap_le ..
theorem rows_step (cs : List Bd) (h : Nat) (sill : Int) {l : List (List Nat)} {i : Nat} {ps : List Nat} (e : l[i]? = some ps) : rowsOf cs h sill (l.take (i + 1)) = rowsOf cs h sill (l.take i) ++ (match costF cs h sill ps with | some c => [(ps, c)] | none => []) := by
  rw [List.take_add_one, e]
  unfold rowsOf
  rw [List.filterMap_append]
  congr 1
  show List.filterMap _ [ps] = _
  rw [List.filterMap_cons]
  cases costF cs h sill ps <;> rfl
section
variable {P : Program} {w : World} {K : PySem.W.Frag} {mg : Str → Option Value} {base : Heap}
/-! ladder_prices -/
def spLP (K : PySem.W.Frag) : Sp := fun vs H Q _ => ∃ (a : Addr) (ts : List Addr) (cs : List Bd) (h : Nat) (floor : Int), vs = [.ref a, .int (h : Int), .int floor] ∧ SqS K H a (ts.map V.ref) ∧ CrewAt H ts cs ∧ CrewOk cs ∧ 1 ≤ h ∧ h ≤ 3 ∧ 0 ≤ floor ∧ floor ≤ 1000000000000 ∧
  ∀ (H' : Hp) (l : Addr) (us : List Addr), Same H H' → H l = none → H' l = some (.lst (us.map V.ref)) → RowsAt H' cs us (rowsF cs h floor) → Q (.ref l) H'
theorem ok_ladder_prices {f : Addr} {fd : FuncData} {kws : List (Str × V)} (F : FunD K "ladder_prices" "ladder_prices" (defArgs s_ladder_prices) (defBody s_ladder_prices) (defScope s_ladder_prices) [] kws f fd) (m_sum : mg "sum" = none)
    (d_check : Def P w K mg base "_check" 3 ["bidders", "hours", "floor"] (spCheck K)) (d_names : Def P w K mg base "_names" 1 ["bidders"] (spNamesOf K)) (d_arrangements : ∀ n : Nat, n ≤ 3 → Def P w K mg base "arrangements" (n + 1) ["names", "most"] (spArr K n))
    (d_raises : Def P w K mg base "_raises" 3 ["bidders", "names", "hours", "floor"] (spRaises K)) : FnOk P w K mg base CX0 5 f fd ["bidders", "hours", "floor"] (spLP K) := by
  refine F.ok (CX := CX0) sc_ladder_prices (fun vs H Q E h => ?_) (fun cdv A outer s H vs Q E hr h => ?_)
  · obtain ⟨a, ts, cs, h, floor, rfl, _⟩ := h
    rfl
  · obtain ⟨a, ts, cs, h, floor, rfl, hS, ca, ck, h1, h3, f0, f1, q⟩ := h
    have h6 := ck.few
    have d_arrangements := d_arrangements h h3
    refine ⟨_, PSs.nox (pss_cons (ps_expr (pe_callD d_check (hr.mono (by decide)) (by rfl) (pa_cons (pv 0) (pa_cons (pv 1) (pa_cons (pv 2) pa_nil)))))
  (pss_cons (ps_set (i := 3) sc_ladder_prices.nd rfl (.inl rfl) (pe_lst pa_nil))
  (pss_cons (ps_for PassesOwn.never rfl (pi_list (pe_callD d_arrangements (hr.mono (by omega)) (by rfl) (pa_cons (pe_callD d_names (hr.mono (by decide)) (by rfl) (pa_cons (pv 0) pa_nil)) (pa_cons (pv 1) pa_nil)))) (pg_name (i := 4) sc_ladder_prices.nd rfl (.inl rfl))
    (pss_cons (ps_cut (ps_set (i := 5) sc_ladder_prices.nd rfl (.inl rfl) (pe_callD d_raises (hr.mono (by decide)) (by rfl) (pa_cons (pv 0) (pa_cons (pv 4) (pa_cons (pv 1) (pa_cons (pv 2) pa_nil)))))))
  (pss_one (ps_if (pt_cmpR op_notN (pv 5) pe_non (nomark _)) (pss_one (ps_expr (pe_bm PySem.F.plainAttrs_list PySem.F.slot_list_append PySem.F.type_list_append mt_append (pv 3) (pa_cons (pe_tup (pa_cons (pv 4) (pa_cons (pe_callB (cr_sumT rfl) (by rfl) m_sum (by decide +kernel) (pa_cons (pv 5) pa_nil)) pa_nil))) pa_nil)))) pss_nil))))
  (pss_one (ps_ret (pv 3)))))), ?_⟩
    refine ⟨_, rfl, _, rfl, _, rfl, a, ts, cs, _, _, rfl, hS, ca, ck, by omega, by omega, f0, f1, fun H1 s1 => ?_⟩
    refine ⟨Nat.zero_le _, fun l nl => ?_⟩
    have s2 := same_upd (o := .lst []) nl
    have nlH : H l = none := s1.free nl
    have s12 := s1.trans s2
    refine ⟨_, rfl, a, ts, cs, rfl, hS.same s12, ca.same s12, by omega, fun p np => ?_⟩
    have s3 := same_upd (o := .lst (cs.map fun c => vN c.1)) np
    have s13 := s12.trans s3
    refine ⟨_, rfl, p, cs.map (·.1), rfl, lstAt (by rw [upd_same, List.map_map]; rfl), by rw [List.length_map]; exact h6, fun H4 l2 us2 s4 el2 at2 => ?_⟩
    have s14 := s13.trans s4
    obtain ⟨al, eal⟩ : ∃ al, al = arr h (List.range cs.length) := ⟨_, rfl⟩
    have hal : al.length ≤ 157 := by rw [eal]; exact (arr_nd _ (by omega) _ (by omega)).2
    rw [← range_nm, arr_map, ← eal] at at2
    have lu : us2.length = al.length := by rw [at2.1, List.length_map, List.length_map]
    have el4 := s4 _ _ (s3 _ _ upd_same : (upd (upd H1 l (.lst [])) p (.lst (cs.map fun c => vN c.1))) l = some (.lst []))
    refine ⟨l2, rfl, ⟨_, lstAt el2⟩, for_it walk_list (fun i σ H5 => Same H H5 ∧ H5 l2 = some (.lst (us2.map V.ref)) ∧ At H5 us2 ((al.map (List.map (nmAt cs))).map tN) ∧ ∃ (us : List Addr) (y4 y5 : Option V), H5 l = some (.lst (us.map V.ref)) ∧ RowsAt H5 cs us (rowsOf cs h floor (al.take i)) ∧ σ = [some (.ref a), some (.int (h : Int)), some (.int floor), some (.ref l), y4, y5])
      ⟨s14, el2, at2, [], _, _, el4, .nil, rfl⟩ (fun i σ H5 _ hp => lstAt hp.2.1) ?_ ?_⟩
    · rintro i x σ H6 H5 hi ⟨sm, el2', at2', us, y4, y5, el, ra, rfl⟩ ⟨rfl, hx⟩
      obtain ⟨u, o, rfl, e1, e2, e3⟩ := at2'.get hx
      rw [List.length_map, lu] at hi
      have ei : al[i]? = some al[i] := List.getElem?_eq_getElem hi
      obtain ⟨ps, eps⟩ : ∃ ps, ps = al[i] := ⟨_, rfl⟩
      rw [← eps] at ei
      rw [List.getElem?_map, List.getElem?_map, ei] at e2
      cases e2
      have hm : ps ∈ arr h (List.range cs.length) := by rw [← eal]; exact List.mem_of_getElem? ei
      obtain ⟨r1, r2, r3⟩ := arr_sound h hm
      have nd := r3 List.nodup_range
      have lt : ∀ p ∈ ps, p < cs.length := fun p hp => List.mem_range.mp (r2 p hp)
      have st := rows_step cs h floor ei
      have hul : us.length ≤ 157 := by
        rw [ra.1]
        have := rows_len cs h floor (al.take i)
        rw [List.length_take] at this
        omega
      refine ⟨fun σ H6 => Same H5 H6 ∧ ∃ g, Got H6 cs ps h floor g ∧ σ = [some (.ref a), some (.int (h : Int)), some (.int floor), some (.ref l), some (.ref u), some g], ?_, ?_⟩
      · exact ⟨_, rfl, _, rfl, _, rfl, _, rfl, a, u, ts, cs, ps, h, floor, rfl, hS.same sm, ca.same sm, ck, tupAt e3, nd, lt, f0, fun n H' s => ⟨s, _, .inl ⟨n, rfl⟩, rfl⟩, fun c H' t s e => ⟨s, _, .inr ⟨c, t, rfl, e⟩, rfl⟩⟩
      rintro σ H6 ⟨s6, g, hg, rfl⟩
      have sm6 := sm.trans s6
      rcases hg with ⟨nc, rfl⟩ | ⟨cn, t, rfl, et⟩
      · have ce : costF cs h floor ps = none := by
          unfold costF
          rw [if_neg fun z => nc (canb_iff.mp z)]
        rw [ce] at st
        refine ⟨_, rfl, rfl, _, rfl, iteF ⟨sm6, s6 _ _ el2', at2'.same s6, us, _, _, s6 _ _ el, ?_, rfl⟩⟩
        rw [st, List.append_nil]
        exact ra.same s6
      · have ce : costF cs h floor ps = some (rsL cs (rsF cs floor ps)).sum := by
          unfold costF
          rw [if_pos (canb_iff.mpr cn)]
        rw [ce] at st
        refine ⟨_, rfl, rfl, _, rfl, iteT ?_⟩
        refine ⟨_, rfl, .inl ⟨rfl, _, lstAt (s6 _ _ el)⟩, _, rfl, _, rfl, _, _, rfl, tupAt et, (by show 2 ≤ sizeLine; decide), fun p2 np2 => ?_⟩
        have s7 := same_upd (o := .tup [V.ref u, V.int (rsL cs (rsF cs floor ps)).sum]) np2
        have el7 := s7 _ _ (s6 _ _ el)
        refine ⟨_, _, _, rfl, rfl, el7, ?_, ?_⟩
        · rw [List.length_map]; exact small1000 (by omega)
        · have s67 := s6.trans s7
          have e2l : l2 ≠ l := fun z => by
            subst z
            have z1 := s4 _ _ (s3 _ _ (upd_same : (upd H1 l2 (.lst [])) l2 = some (.lst [])))
            rw [el2] at z1
            cases us2 with
            | nil =>
              have := al[i]?
              simp at lu
              omega
            | cons _ _ => cases z1
          refine ⟨same_at (sm.trans s67) nlH, ?_, (at2'.same s67).wrote (fun p hp => ?_) el7, us ++ [p2], _, _, by rw [upd_same, List.map_append]; rfl, ?_, rfl⟩
          · rw [upd_ne e2l]; exact s67 _ _ el2'
          · obtain ⟨z, _, rfl⟩ := List.mem_map.mp hp
            exact ⟨_, rfl⟩
          · rw [st]
            exact (RowsAt.snoc (r := (ps, (rsL cs (rsF cs floor ps)).sum)) (ra.same s67) ⟨u, upd_same, s67 _ _ e3⟩).wrote el7
    · rintro σ H5 ⟨sm, el2', at2', us, y4, y5, el, ra, rfl⟩
      rw [List.length_map, lu, List.take_length, eal] at ra
      exact ⟨_, rfl, q H5 l us sm nlH el ra⟩
end
end TK

namespace TK
open PySem PySem.Spec PyProof.Rows L2
def iN (k : Nat) : V := .int ((k : Nat) : Int)
def pI (ps : List Nat) : HO := .lst (ps.map iN)
theorem At.wroteI {H : Hp} {us vs : List Addr} {os : List (List Nat)} {D : Addr} {o : HO} (h : At H us (os.map pI)) (ne : vs ≠ []) (e : H D = some (.lst (vs.map V.ref))) : At (upd H D o) us (os.map pI) := ⟨h.1, fun i u p a b => by
  have := h.2 i u p a b
  rw [upd_ne fun z => ?_]
  · exact this
  · subst z
    obtain ⟨ps, _, rfl⟩ := List.mem_map.mp (List.mem_of_getElem? b)
    rw [e] at this
    cases vs with
    | nil => exact ne rfl
    | cons v vs =>
      unfold pI at this
      cases ps with
      | nil => cases this
      | cons k ps => cases this⟩
theorem inV_int (x : Nat) (xs : List Nat) : inV (.int (0 + ((x : Nat) : Int))) (xs.map iN) = decide (x ∈ xs) := by
  unfold inV
  have ev : ∀ a : Nat, eqV (iN a) (.int (0 + ((x : Nat) : Int))) = decide (a = x) := fun a => by
    show decide ((a : Int) = 0 + (x : Int)) = _
    exact decide_eq_decide.mpr (by omega)
  by_cases h : x ∈ xs
  · rw [decide_eq_true h, List.any_eq_true]
    exact ⟨iN x, List.mem_map.mpr ⟨x, h, rfl⟩, by rw [ev]; exact decide_eq_true rfl⟩
  · rw [decide_eq_false h, List.any_eq_false]
    intro y hy z
    obtain ⟨c, hc, rfl⟩ := List.mem_map.mp hy
    rw [ev] at z
    have := of_decide_eq_true z
    subst this
    exact h hc
section
variable {P : Program} {w : World} {K : PySem.W.Frag} {mg : Str → Option Value} {base : Heap}
/-! _law_lift -/
def spLift : Sp := fun vs H Q _ => ∃ load wt need : Int, vs = [.int load, .int wt, .int need] ∧ 1 ≤ wt ∧ wt ≤ 1000 ∧ Q (.int (liftF load wt need)) H
theorem ok_L_lift {f : Addr} {fd : FuncData} (F : Fun K "_law_lift" "_law_lift" s_L_lift f fd) : FnOk P w K mg base CX0 1 f fd ["_law_load", "_law_weight", "_law_need"] spLift := by
  refine F.ok sc_L_lift (fun vs H Q E h => ?_) (fun cdv A outer s H vs Q E hr h => ?_)
  · obtain ⟨a, b, c, rfl, _⟩ := h
    rfl
  · obtain ⟨load, wt, need, rfl, h1, h2, q⟩ := h
    refine ⟨_, (pss_cons (ps_if (pt_cmpR op_ge (pv 0) (pv 2) (nomark _)) (pss_one (ps_ret pe_int)) pss_nil)
  (pss_one (ps_ret (pe_op op_fdivN (pe_op op_sub (pe_op op_add (pe_op op_sub (pv 2) (pv 0)) (pv 1)) pe_int) (pv 1))))), ?_⟩
    unfold liftF at q
    refine ⟨_, rfl, _, rfl, _, _, rfl, rfl, _, rfl, ite2 (fun e => ?_) (fun e => ?_)⟩
    · rw [if_pos (of_decide_eq_true e)] at q
      exact q
    · rw [if_neg fun z => e (decide_eq_true z), ← Int.fdiv_eq_ediv_of_nonneg _ (by omega)] at q
      exact ⟨_, rfl, _, rfl, _, _, rfl, rfl, _, rfl, _, _, rfl, rfl, _, _, rfl, rfl, _, rfl, _, _, rfl, rfl, ⟨by omega, by omega⟩, q⟩
/-! _law_places -/
def pC (s a b : Nat) (c : Nat) : List (List Nat) := if 2 < s ∧ c ≠ a ∧ c ≠ b then [[a, b, c]] else []
def pB (n s a : Nat) (b : Nat) : List (List Nat) := if 1 < s ∧ b ≠ a then [a, b] :: (List.range n).flatMap (pC s a b) else []
def pA (n s : Nat) (a : Nat) : List (List Nat) := [a] :: (List.range n).flatMap (pB n s a)
theorem places_is (n s : Nat) : placesF n s = [] :: (List.range n).flatMap (pA n s) := rfl
theorem flat_step {α : Type} (f : Nat → List α) (i : Nat) : (List.range (i + 1)).flatMap f = (List.range i).flatMap f ++ f i := by
  rw [List.range_succ, List.flatMap_append, List.flatMap_cons, List.flatMap_nil, List.append_nil]
def spPlaces : Sp := fun vs H Q _ => ∃ n s : Nat, vs = [.int (n : Int), .int (s : Int)] ∧ n ≤ 6 ∧ ∀ (H' : Hp) (l : Addr) (us : List Addr), Same H H' → H' l = some (.lst (us.map V.ref)) → At H' us ((placesF n s).map pI) → (∀ u ∈ us, H u = none) → H l = none → Q (.ref l) H'
theorem ok_L_places {f : Addr} {fd : FuncData} (F : Fun K "_law_places" "_law_places" s_L_places f fd) (m_range : mg "range" = none) : FnOk P w K mg base CX0 1 f fd ["_law_number", "_law_slots"] spPlaces := by
  refine F.ok sc_L_places (fun vs H Q E h => ?_) (fun cdv A outer s H vs Q E hr h => ?_)
  · obtain ⟨a, b, rfl, _⟩ := h
    rfl
  · obtain ⟨n, sl, rfl, h6, q⟩ := h
    refine ⟨_, (pss_cons (ps_set (i := 2) sc_L_places.nd rfl (.inl rfl) (pe_lst (pa_cons (pe_lst pa_nil) pa_nil)))
  (pss_cons (ps_for PassesOwn.never rfl (pi_range1 (by rfl) m_range (pa_cons (pv 0) pa_nil)) (pg_name (i := 3) sc_L_places.nd rfl (.inl rfl))
    (pss_cons (ps_expr (pe_bm PySem.F.plainAttrs_list PySem.F.slot_list_append PySem.F.type_list_append mt_append (pv 2) (pa_cons (pe_lst (pa_cons (pv 3) pa_nil)) pa_nil)))
  (pss_one (ps_for PassesOwn.never rfl (pi_range1 (by rfl) m_range (pa_cons (pv 0) pa_nil)) (pg_name (i := 4) sc_L_places.nd rfl (.inl rfl))
    (pss_one (ps_if (PW.pt (pw_and (pt_cmpR op_gt (pv 1) pe_int (nomark _)) (pw_and1 (pt_cmpR op_ne (pv 4) (pv 3) (nomark _))))) (pss_cons (ps_expr (pe_bm PySem.F.plainAttrs_list PySem.F.slot_list_append PySem.F.type_list_append mt_append (pv 2) (pa_cons (pe_lst (pa_cons (pv 3) (pa_cons (pv 4) pa_nil))) pa_nil)))
  (pss_one (ps_for PassesOwn.never rfl (pi_range1 (by rfl) m_range (pa_cons (pv 0) pa_nil)) (pg_name (i := 5) sc_L_places.nd rfl (.inl rfl))
    (pss_one (ps_if (PW.pt (pw_and (pt_cmpR op_gt (pv 1) pe_int (nomark _)) (pw_and (pt_cmpR op_ne (pv 5) (pv 3) (nomark _)) (pw_and1 (pt_cmpR op_ne (pv 5) (pv 4) (nomark _)))))) (pss_one (ps_expr (pe_bm PySem.F.plainAttrs_list PySem.F.slot_list_append PySem.F.type_list_append mt_append (pv 2) (pa_cons (pe_lst (pa_cons (pv 3) (pa_cons (pv 4) (pa_cons (pv 5) pa_nil)))) pa_nil)))) pss_nil))))) pss_nil))))))
  (pss_one (ps_ret (pv 2))))), ?_⟩
    refine ⟨Nat.zero_le _, fun t nt => ⟨(by show 1 ≤ sizeLine; decide), fun l nl => ?_⟩⟩
    have s1 := same_upd (o := .lst []) nt
    have s2 := same_upd (o := .lst [V.ref t]) nl
    have nlH : H l = none := s1.free nl
    -- what stands so far
    obtain ⟨St, eSt⟩ : ∃ St : List (List Nat) → Nat → Hp → Prop, St = fun rows m H2 => Same H H2 ∧ ∃ us : List Addr, us ≠ [] ∧ us.length ≤ m ∧ H2 l = some (.lst (us.map V.ref)) ∧ At H2 us (rows.map pI) ∧ ∀ u ∈ us, H u = none := ⟨_, rfl⟩
    have put : ∀ (rows : List (List Nat)) (m : Nat) (H2 : Hp) (r : List Nat), m < 1000 → St rows m H2 → ∀ p, H2 p = none → ∃ us : List Addr, (upd H2 p (pI r)) l = some (.lst (us.map V.ref)) ∧ us.length ≤ m ∧ St (rows ++ [r]) (m + 1) (upd (upd H2 p (pI r)) l (.lst (us.map V.ref ++ [V.ref p]))) := by
      intro rows m H2 r hm hst p np
      rw [eSt] at hst ⊢
      obtain ⟨sm, us, ne, hl, el, at2, fr⟩ := hst
      have sp := same_upd (o := pI r) np
      refine ⟨us, sp _ _ el, hl, same_at (sm.trans sp) nlH, us ++ [p], by simp, by rw [List.length_append]; exact Nat.succ_le_succ hl, by rw [upd_same, List.map_append]; rfl, ?_, fun u hu => (List.mem_append.mp hu).elim (fr u) fun z => by rw [List.mem_singleton.mp z]; exact sm.free np⟩
      have k := (at2.same sp).append (At.one (o := pI r) upd_same)
      rw [show (rows.map pI) ++ [pI r] = (rows ++ [r]).map pI by rw [List.map_append]; rfl] at k
      exact k.wroteI ne (sp _ _ el)
    have st0 : St [[]] 1 (upd (upd H t (.lst [])) l (.lst [V.ref t])) := by
      rw [eSt]
      exact ⟨s1.trans s2, [t], by simp, Nat.le_refl _, upd_same, At.one (o := pI []) (s2 _ _ upd_same), fun u hu => by rw [List.mem_singleton.mp hu]; exact nt⟩
    refine ⟨_, rfl, _, rfl, by omega, by omega, for_range (fun a σ H2 => St ([] :: (List.range a).flatMap (pA n sl)) (1 + a * 50) H2 ∧ ∃ y3 y4 y5 : Option V, σ = [some (.int (n : Int)), some (.int (sl : Int)), some (.ref l), y3, y4, y5])
      ⟨st0, _, _, _, rfl⟩ ?_ ?_⟩
    · rintro a σ H2 ha ⟨hst, y3, y4, y5, rfl⟩
      have ha2 : a < n := by omega
      have az : ∀ k : Nat, V.int (0 + (k : Int)) = iN k := fun k => by unfold iN; rw [Int.zero_add]
      have lo : ∀ H2 rows m, St rows m H2 → ∃ us : List Addr, H2 l = some (.lst (us.map V.ref)) := fun H2 rows m h => by
        rw [eSt] at h
        obtain ⟨_, us, _, _, el, _⟩ := h
        exact ⟨us, el⟩
      obtain ⟨us0, el0⟩ := lo _ _ _ hst
      refine ⟨_, rfl, .inl ⟨rfl, _, lstAt el0⟩, _, rfl, (by show 1 ≤ sizeLine; decide), fun p np => ?_⟩
      obtain ⟨us1, el1, hl1, hst1⟩ := put _ _ _ [a] (by omega) hst p np
      rw [az a]
      refine ⟨_, _, _, rfl, rfl, el1, by rw [List.length_map]; exact small1000 (by omega), ?_⟩
      refine ⟨_, rfl, _, rfl, by omega, by omega, for_range (fun b σ H3 => St (([] :: (List.range a).flatMap (pA n sl)) ++ [a] :: (List.range b).flatMap (pB n sl a)) (2 + a * 50 + b * 8) H3 ∧ ∃ y4 y5 : Option V, σ = [some (.int (n : Int)), some (.int (sl : Int)), some (.ref l), some (iN a), y4, y5])
        ⟨?_, _, _, rfl⟩ ?_ ?_⟩
      · have e : 1 + a * 50 + 1 = 2 + a * 50 + 0 * 8 := by omega
        rw [e] at hst1
        exact hst1
      · rintro b σ H3 hb ⟨hst3, y4, y5, rfl⟩
        have hb2 : b < n := by omega
        rw [flat_step (pB n sl a) b]
        refine ⟨_, rfl, _, _, rfl, rfl, _, rfl, ite2 (fun e => ?_) (fun e => ?_)⟩
        · have e1 := of_decide_eq_true e
          refine ⟨_, rfl, _, rfl, rfl, _, rfl, ?_⟩
          rw [az b]
          by_cases hab : b = a
          · have e2 : pB n sl a b = [] := by unfold pB; rw [if_neg fun z => z.2 hab]
            rw [show (!decide (iN b = iN a)) = false by rw [hab]; simp]
            refine iteF ⟨?_, _, _, rfl⟩
            rw [e2, List.append_nil]
            rw [eSt] at hst3 ⊢
            obtain ⟨z1, us, z2, z3, z4⟩ := hst3
            exact ⟨z1, us, z2, by omega, z4⟩
          · have e2 : pB n sl a b = [a, b] :: (List.range n).flatMap (pC sl a b) := by unfold pB; rw [if_pos ⟨by omega, hab⟩]
            rw [show (!decide (iN b = iN a)) = true by
              unfold iN
              have : ¬ V.int ((b : Nat) : Int) = V.int ((a : Nat) : Int) := fun z => hab (by have := V.int.inj z; omega)
              rw [decide_eq_false this]; rfl]
            refine iteT ?_
            obtain ⟨us3, el3⟩ := lo _ _ _ hst3
            refine ⟨_, rfl, .inl ⟨rfl, _, lstAt el3⟩, _, rfl, _, rfl, (by show 2 ≤ sizeLine; decide), fun p4 np4 => ?_⟩
            obtain ⟨us4, el4, hl4, hst4⟩ := put _ _ _ [a, b] (by omega) hst3 p4 np4
            refine ⟨_, _, _, rfl, rfl, el4, by rw [List.length_map]; exact small1000 (by omega), ?_⟩
            refine ⟨_, rfl, _, rfl, by omega, by omega, for_range (fun c σ H5 => St ((([] :: (List.range a).flatMap (pA n sl)) ++ [a] :: (List.range b).flatMap (pB n sl a)) ++ [a, b] :: (List.range c).flatMap (pC sl a b)) (3 + a * 50 + b * 8 + c) H5 ∧ ∃ y5 : Option V, σ = [some (.int (n : Int)), some (.int (sl : Int)), some (.ref l), some (iN a), some (iN b), y5])
              ⟨?_, _, rfl⟩ ?_ ?_⟩
            · have e : 2 + a * 50 + b * 8 + 1 = 3 + a * 50 + b * 8 + 0 := by omega
              rw [e] at hst4
              exact hst4
            · rintro c σ H5 hc ⟨hst5, y5, rfl⟩
              have hc2 : c < n := by omega
              rw [flat_step (pC sl a b) c]
              have skip : pC sl a b c = [] → St ((([] :: (List.range a).flatMap (pA n sl)) ++ [a] :: (List.range b).flatMap (pB n sl a)) ++ [a, b] :: ((List.range c).flatMap (pC sl a b) ++ pC sl a b c)) (3 + a * 50 + b * 8 + (c + 1)) H5 := fun e => by
                rw [e, List.append_nil]
                rw [eSt] at hst5 ⊢
                obtain ⟨z1, us, z2, z3, z4⟩ := hst5
                exact ⟨z1, us, z2, by omega, z4⟩
              have ne : ∀ x y : Nat, x ≠ y → (!decide (iN x = iN y)) = true := fun x y h => by
                unfold iN
                have : ¬ V.int ((x : Nat) : Int) = V.int ((y : Nat) : Int) := fun z => h (by have := V.int.inj z; omega)
                rw [decide_eq_false this]; rfl
              have eq : ∀ x y : Nat, x = y → (!decide (iN x = iN y)) = false := fun x y h => by rw [h]; simp
              refine ⟨_, rfl, _, _, rfl, rfl, _, rfl, ite2 (fun e => ?_) (fun e => ?_)⟩
              · have e3 := of_decide_eq_true e
                refine ⟨_, rfl, _, rfl, rfl, _, rfl, ?_⟩
                rw [az c]
                by_cases hca : c = a
                · rw [eq c a hca]
                  exact iteF (⟨skip (by unfold pC; rw [if_neg fun z => z.2.1 hca]), _, rfl⟩)
                · rw [ne c a hca]
                  refine iteT ⟨_, rfl, _, rfl, rfl, _, rfl, ?_⟩
                  by_cases hcb : c = b
                  · rw [eq c b hcb]
                    exact iteF ⟨skip (by unfold pC; rw [if_neg fun z => z.2.2 hcb]), _, rfl⟩
                  · rw [ne c b hcb]
                    obtain ⟨us5, el5⟩ := lo _ _ _ hst5
                    refine iteT ⟨_, rfl, .inl ⟨rfl, _, lstAt el5⟩, _, rfl, _, rfl, _, rfl, (by show 3 ≤ sizeLine; decide), fun p6 np6 => ?_⟩
                    obtain ⟨us6, el6, hl6, hst6⟩ := put _ _ _ [a, b, c] (by omega) hst5 p6 np6
                    refine ⟨_, _, _, rfl, rfl, el6, by rw [List.length_map]; exact small1000 (by omega), ?_, _, rfl⟩
                    rw [show pC sl a b c = [[a, b, c]] by unfold pC; rw [if_pos ⟨by omega, hca, hcb⟩], ← List.cons_append, ← List.append_assoc]
                    exact hst6
              · have e3 : ¬ ((2 : Int) < (sl : Int)) := fun z => e (decide_eq_true z)
                exact iteF (⟨skip (by unfold pC; rw [if_neg fun z => by omega]), _, rfl⟩)
            · rintro σ H5 ⟨hst5, y5, rfl⟩
              rw [Int.toNat_natCast] at hst5
              refine ⟨?_, _, _, rfl⟩
              rw [e2, ← List.cons_append, ← List.append_assoc]
              rw [eSt] at hst5 ⊢
              obtain ⟨z1, us, z2, z3, z4⟩ := hst5
              exact ⟨z1, us, z2, by omega, z4⟩
        · have e1 : ¬ ((1 : Int) < (sl : Int)) := fun z => e (decide_eq_true z)
          have e2 : pB n sl a b = [] := by unfold pB; rw [if_neg fun z => by omega]
          refine iteF ⟨?_, _, _, rfl⟩
          rw [e2, List.append_nil]
          rw [eSt] at hst3 ⊢
          obtain ⟨z1, us, z2, z3, z4⟩ := hst3
          exact ⟨z1, us, z2, by omega, z4⟩
      · rintro σ H3 ⟨hst3, y4, y5, rfl⟩
        rw [Int.toNat_natCast] at hst3
        refine ⟨?_, _, _, _, rfl⟩
        rw [flat_step (pA n sl) a, ← List.cons_append]
        rw [eSt] at hst3 ⊢
        obtain ⟨z1, us, z2, z3, z4⟩ := hst3
        exact ⟨z1, us, z2, by omega, z4⟩
    · rintro σ H2 ⟨hst, y3, y4, y5, rfl⟩
      rw [Int.toNat_natCast, eSt] at hst
      obtain ⟨z1, us, z2, z3, z4, z5, z6⟩ := hst
      exact ⟨_, rfl, q H2 l us z1 z4 z5 z6 nlH⟩
end
end TK

namespace TK
open PySem PySem.Spec PyProof.Rows L2
theorem load_zero {cs : List Bd} {k : Nat} (h : k < cs.length) : (cs.map loadB).getD k 0 = ldR cs (fun _ => 0) k := by
  unfold ldR
  obtain ⟨g1, g2, _⟩ := cs_get (List.getElem?_eq_getElem h)
  rw [List.getD_eq_getElem?_getD, List.getElem?_map, List.getElem?_eq_getElem h, g1, g2, Int.add_zero]
  rfl
theorem loads_zero (cs : List Bd) : cs.map loadB = rsL cs (ldR cs fun _ => 0) := by
  refine List.ext_getElem? fun i => ?_
  by_cases h : i < cs.length
  · have := load_zero h
    rw [rs_get h, ← this, List.getD_eq_getElem?_getD, List.getElem?_map, List.getElem?_eq_getElem h]
    rfl
  · rw [List.getElem?_eq_none (by rw [List.length_map]; omega), List.getElem?_eq_none (by rw [rs_len]; omega)]
theorem onInt (p q : Nat) : (if decide ((q : Int) < (p : Int)) = true then (1 : Int) else 0) = onUp p q := by
  unfold onUp
  by_cases h : q < p
  · rw [if_pos h, if_pos (decide_eq_true (by omega))]
  · rw [if_neg h, if_neg fun z => h (by have := of_decide_eq_true z; omega)]
theorem need_snoc (m : Int) (l : List (Int × Nat)) (b : Int × Nat) (p : Nat) : needOf m (l ++ [b]) p = max (needOf m l p) (b.1 + onUp p b.2) := by
  unfold needOf
  rw [List.foldl_append]
  rfl
theorem ints_dp {K : PySem.W.Frag} {H : Hp} : ∀ (xs : List Int), DpAll K H (xs.map V.int) (xs.map PyData.int)
  | [] => .nil
  | x :: xs => .cons (.int _) (ints_dp xs)
theorem ints_lay : ∀ (xs : List Int), PyData.canLayAll0 (xs.map PyData.int) = true ∧ PyData.depthAll (xs.map PyData.int) ≤ 1
  | [] => ⟨by simp [PyData.canLayAll0], by simp [PyData.depthAll]⟩
  | x :: xs => by
    obtain ⟨h1, h2⟩ := ints_lay xs
    rw [List.map_cons]
    refine ⟨?_, ?_⟩
    · simp only [PyData.canLayAll0, PyData.canLay0, Bool.and_eq_true]
      exact ⟨trivial, h1⟩
    · simp only [PyData.depthAll, PyData.depth]
      omega
theorem eqv_lstI (xs : List Int) : PyData.eqv (.list (xs.map PyData.int)) (.list []) = decide (xs = []) := by
  cases xs with
  | nil => rw [PyData.eqv]; simp [PyData.eqvAll]
  | cons x xs => rw [PyData.eqv, List.map_cons]; simp [PyData.eqvAll]
section
variable {P : Program} {w : World} {K : PySem.W.Frag} {mg : Str → Option Value} {base : Heap}
/-! _law_cost -/
def spCost (K : PySem.W.Frag) : Sp := fun vs H Q _ => ∃ (p pl : Addr) (ts : List Addr) (cs : List Bd) (ps : List Nat) (h : Nat) (sill : Int), vs = [.ref p, .int (h : Int), .int sill, .ref pl] ∧ H p = some (.lst (ts.map V.ref)) ∧ CrewAt H ts cs ∧ CrewOk cs ∧ H pl = some (pI ps) ∧ ps.Nodup ∧ (∀ p ∈ ps, p < cs.length) ∧ ps.length ≤ 6 ∧
  ∀ H', Same H H' → Q (match costF cs h sill ps with | some c => .int c | none => .non) H'
theorem ok_L_cost {f : Addr} {fd : FuncData} (F : Fun K "_law_cost" "_law_cost" s_L_cost f fd) (m_range : mg "range" = none) (m_len : mg "len" = none) (m_max : mg "max" = none) (m_int : mg "int" = none)
    (d_L_lift : Def P w K mg base "_law_lift" 1 ["_law_load", "_law_weight", "_law_need"] spLift) : FnOk P w K mg base CX0 2 f fd ["_law_crew", "_law_slots", "_law_sill_here", "_law_places_here"] (spCost K) := by
  refine F.ok sc_L_cost (fun vs H Q E h => ?_) (fun cdv A outer s H vs Q E hr h => ?_)
  · obtain ⟨p, pl, ts, cs, ps, h, sill, rfl, _⟩ := h
    rfl
  · obtain ⟨p, pl, ts, cs, ps, h, sill, rfl, hp, ca, ck, hpl, nd, lt, p6, q⟩ := h
    have h6 := ck.few
    have hlen := ca.1
    have hw : ∀ k, 1 ≤ wt cs k := wt_pos fun c hc => (ck.ok c hc).2.1
    have plen : (ps.map iN).length = ps.length := List.length_map ..
    refine ⟨_, (pss_cons (ps_set (i := 4) sc_L_cost.nd rfl (.inr rfl) (pe_lc (own := [("_law_name", 8), ("_law_weight", 9), ("_law_bid", 10)]) (by rfl) sc_L_cost.nd (pi_list (pv 0)) (blkOk_by (N := ["_law_crew", "_law_slots", "_law_sill_here", "_law_places_here", "_law_loads", "_law_bars", "_law_whole", "_law_k", "_law_name", "_law_weight", "_law_bid", "_law_extra", "_law_j"]) (sc := defScope s_L_cost) (by decide +kernel)) (fun _ _ _ _ _ => (pg_tupK (K := K) (n := 3) rfl (by rfl) (pgs_cons (pg_name (i := 8) sc_L_cost.nd rfl (.inl rfl)) (pgs_cons (pg_name (i := 9) sc_L_cost.nd rfl (.inl rfl)) (pgs_cons (pg_name (i := 10) sc_L_cost.nd rfl (.inl rfl)) pgs_nil))))) (fun _ _ _ _ _ => pts_nil) (fun _ _ _ _ _ => (pe_op op_mul (pv 9) (pv 10)))))
  (pss_cons (ps_setLc (i := 5) (own := [("_law_k", 7)]) (by rfl) sc_L_cost.nd rfl rfl (sw_true rfl rfl rfl (by decide +kernel)) (pi_range1 (by rfl) m_range (pa_cons (pe_callB call_len_seq (by rfl) m_len (by decide +kernel) (pa_cons (pv 0) pa_nil)) pa_nil)) (blkOk_by (N := ["_law_crew", "_law_slots", "_law_sill_here", "_law_places_here", "_law_loads", "_law_bars", "_law_whole", "_law_k", "_law_name", "_law_weight", "_law_bid", "_law_extra", "_law_j"]) (sc := defScope s_L_cost) (by decide +kernel)) (fun _ _ _ _ _ => (pg_name (i := 7) sc_L_cost.nd rfl (.inl rfl))) (fun _ _ _ _ _ => (pts_one (PW.pt (pw_and (pt_cmpR (op_notIn_seqK (K := K) rfl) (pv 7) (pv 3) (by rfl)) (pw_and1 (pt_cmpR op_ge (pe_ix (ix_listK (K := K) rfl) (pv 4) (pv 7) (fun _ _ => rfl)) (pv 2) (nomark _))))))) (fun _ _ _ _ _ => (pv 7)))
  (pss_cons (ps_cut (ps_if (PW.pt (pw_or (pt_cmpR op_gt (pe_callB call_len_seq (by rfl) m_len (by decide +kernel) (pa_cons (pv 3) pa_nil)) (pv 1) (nomark _)) (pw_or1 (PW.pt (pw_and (pt_cmpR op_lt (pe_callB call_len_seq (by rfl) m_len (by decide +kernel) (pa_cons (pv 3) pa_nil)) (pv 1) (nomark _)) (pw_and1 (pt_cmpR (op_neD hr.units) (pv 5) (pe_lst pa_nil) (nomark _)))))))) (pss_one (ps_ret pe_non)) pss_nil))
  (pss_cons (ps_set (i := 6) sc_L_cost.nd rfl (.inl rfl) pe_int)
  (pss_cons (ps_for PassesOwn.never rfl (pi_list (pe_revL (pv 3))) (pg_name (i := 7) sc_L_cost.nd rfl (.inl rfl))
    (pss_cons (ps_asg (pe_ix ix_list (pv 0) (pv 7) (fun _ _ => rfl)) (pg_tup (by rfl) (pgs_cons (pg_name (i := 8) sc_L_cost.nd rfl (.inl rfl)) (pgs_cons (pg_name (i := 9) sc_L_cost.nd rfl (.inl rfl)) (pgs_cons (pg_name (i := 10) sc_L_cost.nd rfl (.inl rfl)) pgs_nil)))))
  (pss_cons (ps_set (i := 11) sc_L_cost.nd rfl (.inl rfl) (pe_callD d_L_lift (hr.mono (by decide)) (by rfl) (pa_cons (pe_ix ix_list (pv 4) (pv 7) (fun _ _ => rfl)) (pa_cons (pv 9) (pa_cons (pv 2) pa_nil)))))
  (pss_cons (ps_for PassesOwn.never rfl (pi_list (pv 5)) (pg_name (i := 12) sc_L_cost.nd rfl (.inl rfl))
    (pss_one (ps_set (i := 11) sc_L_cost.nd rfl (.inl rfl) (pe_callB (call_max2 rfl) (by rfl) m_max (by decide +kernel) (pa_cons (pv 11) (pa_cons (pe_callD d_L_lift (hr.mono (by decide)) (by rfl) (pa_cons (pe_ix ix_list (pv 4) (pv 7) (fun _ _ => rfl)) (pa_cons (pv 9) (pa_cons (pe_op op_add (pe_ix ix_list (pv 4) (pv 12) (fun _ _ => rfl)) (pe_callTy call_int1 (by rfl) m_int (by decide +kernel) (pa_cons (pe_cmpR op_lt (pv 12) (pv 7) (nomark _)) pa_nil))) pa_nil)))) pa_nil))))))
  (pss_cons (ps_asg (pe_op op_add (pe_ix ix_list (pv 4) (pv 7) (fun _ _ => rfl)) (pe_op op_mul (pv 9) (pv 11))) (pg_sub (pv 4) (pv 7) set_list))
  (pss_cons (ps_set (i := 6) sc_L_cost.nd rfl (.inl rfl) (pe_op op_add (pv 6) (pv 11)))
  (pss_one (ps_set (i := 5) sc_L_cost.nd rfl (.inl rfl) (pe_lst (pa_cons (pv 7) pa_nil))))))))))
  (pss_one (ps_ret (pv 6)))))))), ?_⟩
    -- the loads
    refine ⟨_, rfl, p, rfl, ⟨_, lstAt hp⟩, fun D nD => ?_⟩
    refine lc_list (K := K) (a := p) (xs := ts.map V.ref) (fun i H' => H' = upd H D (.lst ((cs.take i).map fun c => V.int (loadB c)))) rfl (fun i H' _ e => e ▸ (same_upd nD).seq (lstAt hp)) (fun i x H' hx hq => ?_) (fun H' hq => ?_)
    · subst hq
      obtain ⟨t, c, rfl, e1, e2, e3⟩ := crew_at ca hx
      have hc := ck.w.wts c (List.mem_of_getElem? e2)
      refine ⟨_, _, rfl, tupAt ((same_upd nD) _ _ e3), rfl, _, _, rfl, _, _, rfl, _, _, rfl, rfl, rfl, yesT ⟨_, rfl, _, rfl, _, _, rfl, rfl, .inl ⟨by omega, by omega⟩, _, upd_same, ?_, ?_⟩⟩
      · rw [List.length_map, List.length_take]; exact small1000 (by omega)
      · rw [upd_twice, List.take_add_one, e2, List.map_append]; rfl
    · subst hq
      rw [List.length_map, hlen, List.take_length]
      have eL : (cs.map fun c => V.int (loadB c)) = (rsL cs (ldR cs fun _ => 0)).map V.int := by rw [← loads_zero, List.map_map]; rfl
      rw [eL]
      have s1 := same_upd (o := .lst ((rsL cs (ldR cs fun _ => 0)).map V.int)) nD
      obtain ⟨H1, eH1⟩ : ∃ H1, H1 = upd H D (.lst ((rsL cs (ldR cs fun _ => 0)).map V.int)) := ⟨_, rfl⟩
      have eD1 : H1 D = some (.lst ((rsL cs (ldR cs fun _ => 0)).map V.int)) := by rw [eH1]; exact upd_same
      rw [← eH1] at s1 ⊢
      -- the bars
      refine ⟨_, rfl, _, _, rfl, .inl (lstAt (s1 _ _ hp)), _, rfl, by omega, by rw [List.length_map]; omega, fun D2 nD2 => ?_⟩
      refine lc_range (fun i H' => H' = upd H1 D2 (.lst ((rivTo cs ps sill i).map iN))) rfl (fun i H' hi hq => ?_) (fun H' hq => ?_)
      · subst hq
        rw [List.length_map] at hi
        have hi2 : i < cs.length := by omega
        have sD2 := same_upd (o := .lst ((rivTo cs ps sill i).map iN)) nD2
        have rlen : (rivTo cs ps sill i).length ≤ i := by
          unfold rivTo
          have := List.length_filter_le (fun k => decide (k ∉ ps) && decide (sill ≤ wt cs k * bdAt cs k)) (List.range i)
          rw [List.length_range] at this
          exact this
        have step : rivTo cs ps sill (i + 1) = rivTo cs ps sill i ++ (if (decide (i ∉ ps) && decide (sill ≤ wt cs i * bdAt cs i)) = true then [i] else []) := by
          unfold rivTo
          rw [List.range_succ, List.filter_append, List.filter_cons, List.filter_nil]
        have gi : atI ((rsL cs (ldR cs fun _ => 0)).map V.int) (0 + (i : Int)) = some (.int (wt cs i * bdAt cs i)) := by
          refine atI_in (by omega) ?_
          rw [show (0 + (i : Int)).toNat = i by omega, List.getElem?_map, rs_get hi2]
          show some (V.int (wt cs i * (bdAt cs i + 0))) = _
          rw [Int.add_zero]
        refine ⟨rfl, ?_⟩
        refine ⟨_, rfl, _, rfl, _, _, rfl, .inl (lstAt (sD2 _ _ (s1 _ _ hpl))), rfl, ?_, _, rfl, ?_⟩
        · rw [List.all_eq_true]
          intro x hx
          obtain ⟨k, _, rfl⟩ := List.mem_map.mp hx
          rfl
        rw [if_pos rfl, inV_int]
        by_cases hp2 : i ∈ ps
        · rw [decide_eq_true hp2]
          refine iteF ?_
          show _ = _
          rw [step, decide_eq_false (fun z => z hp2), Bool.false_and, if_neg (by decide), List.append_nil]
        · rw [decide_eq_false hp2]
          refine iteT ⟨_, rfl, _, rfl, _, _, _, _, rfl, rfl, lstAt (sD2 _ _ eD1), gi, _, rfl, _, _, rfl, rfl, _, rfl, ite2 (fun e => ?_) (fun e => ?_)⟩
          · refine ⟨_, rfl, _, upd_same, ?_, ?_⟩
            · rw [List.length_map]; exact small1000 (by omega)
            · rw [upd_twice, step, decide_eq_true hp2, e, Bool.true_and, if_pos rfl, List.map_append]
              congr 4
              show V.int (0 + (i : Int)) = V.int (i : Int)
              rw [Int.zero_add]
          · show _ = _
            rw [step, Bool.eq_false_iff.mpr e, Bool.and_false, if_neg (by decide), List.append_nil]
      · subst hq
        rw [List.length_map, hlen, Int.toNat_natCast]
        obtain ⟨rv, erv⟩ : ∃ rv, rv = rivTo cs ps sill cs.length := ⟨_, rfl⟩
        have rlen : rv.length ≤ 6 := by
          rw [erv]
          unfold rivTo
          have := List.length_filter_le (fun k => decide (k ∉ ps) && decide (sill ≤ wt cs k * bdAt cs k)) (List.range cs.length)
          rw [List.length_range] at this
          omega
        have ebars : (bars cs ps sill).map (fun b => iN b.2) = rv.map iN := by
          unfold bars
          rw [← erv, List.map_map]
          rfl
        rw [← erv]
        have s2 := same_upd (o := .lst (rv.map iN)) nD2
        obtain ⟨H2, eH2⟩ : ∃ H2, H2 = upd H1 D2 (.lst (rv.map iN)) := ⟨_, rfl⟩
        have eD22 : H2 D2 = some (.lst (rv.map iN)) := by rw [eH2]; exact upd_same
        rw [← eH2] at s2 ⊢
        have s02 := s1.trans s2
        have eD12 := s2 _ _ eD1
        -- nothing brings them about
        refine ⟨fun σ H3 => Same H2 H3 ∧ canb cs ps h sill = true ∧ σ = [some (.ref p), some (.int (h : Int)), some (.int sill), some (.ref pl), some (.ref D), some (.ref D2), none, none, none, none, none, none, none], ?_, ?_⟩
        · have non : canb cs ps h sill = false → ∀ H', Same H H' → Q .non H' := fun e H' s' => by
            have := q H' s'
            unfold costF at this
            rw [if_neg (by rw [e]; decide)] at this
            exact this
          refine ⟨_, rfl, _, _, rfl, .inl (lstAt (s02 _ _ hpl)), _, rfl, _, _, rfl, rfl, _, rfl, ite2 (fun e => ?_) (fun e => ?_)⟩
          · have e2 := of_decide_eq_true e
            rw [plen] at e2
            refine iteT (non ?_ _ s02)
            unfold canb
            rw [decide_eq_true (show h < ps.length by omega)]
            rfl
          · have e2 : ¬ ((h : Int) < ((ps.map iN).length : Nat)) := fun z => e (decide_eq_true z)
            rw [plen] at e2
            have e2n : decide (h < ps.length) = false := decide_eq_false (by omega)
            refine ⟨_, rfl, _, _, rfl, .inl (lstAt (s02 _ _ hpl)), _, rfl, _, _, rfl, rfl, _, rfl, ite2 (fun e3 => ?_) (fun e3 => ?_)⟩
            · have e4 := of_decide_eq_true e3
              rw [plen] at e4
              have e4n : decide (ps.length < h) = true := decide_eq_true (by omega)
              refine ⟨_, rfl, Nat.zero_le _, fun z nz => ?_⟩
              have s3 := same_upd (o := .lst []) nz
              have einI : rv.map iN = (rv.map fun k => ((k : Nat) : Int)).map V.int := by rw [List.map_map]; rfl
              obtain ⟨w1, w2⟩ := ints_lay (rv.map fun k => ((k : Nat) : Int))
              refine ⟨.list ((rv.map fun k => ((k : Nat) : Int)).map PyData.int), .list [], .lst (lstAt (s3 _ _ (by rw [eD22, einI]))) (ints_dp _), .lst (lstAt upd_same) .nil, shaped_lst w1 (by omega), rfl, _, rfl, ?_⟩
              rw [eqv_lstI]
              by_cases hq0 : (rv.map fun k => ((k : Nat) : Int)) = []
              · rw [decide_eq_true hq0]
                have hq1 : rv = [] := List.map_eq_nil_iff.mp hq0
                refine iteF ⟨s3, ?_, rfl⟩
                unfold canb
                rw [e2n, ← erv, hq1]
                simp
              · rw [decide_eq_false hq0]
                refine iteT (non ?_ _ (s02.trans s3))
                unfold canb
                have hr : rv ≠ [] := fun z => hq0 (by rw [z]; rfl)
                rw [e2n, e4n, ← erv]
                simp [hr]
            · have e4 : ¬ ((((ps.map iN).length : Nat) : Int) < (h : Int)) := fun z => e3 (decide_eq_true z)
              rw [plen] at e4
              refine iteF ⟨Same.refl _, ?_, rfl⟩
              unfold canb
              rw [e2n, decide_eq_false (show ¬ ps.length < h by omega)]
              rfl
        · rintro σ H3 ⟨s3, cb, rfl⟩
          have s03 := s02.trans s3
          refine ⟨_, rfl, _, _, rfl, lstAt (s03 _ _ hpl), fun pr npr => ?_⟩
          have s4 := same_upd (o := .lst (ps.map iN).reverse) npr
          have prD : pr ≠ D := fun z => by subst z; rw [s3 _ _ eD12] at npr; cases npr
          have s04 := s03.trans s4
          refine ⟨pr, rfl, ⟨_, lstAt upd_same⟩, for_it walk_list (fun i σ H5 => Same H H5 ∧ H5 pr = some (.lst (ps.map iN).reverse) ∧ H5 D = some (.lst ((rsL cs (ldR cs (behindF cs sill (bars cs ps sill) (ps.drop (ps.length - i))).2)).map V.int)) ∧
            ∃ (bD : Addr) (y7 y8 y9 y10 y11 y12 : Option V), H5 bD = some (.lst ((behindF cs sill (bars cs ps sill) (ps.drop (ps.length - i))).1.map fun b => iN b.2)) ∧ bD ≠ D ∧
              σ = [some (.ref p), some (.int (h : Int)), some (.int sill), some (.ref pl), some (.ref D), some (.ref bD), some (.int ((ps.drop (ps.length - i)).map (behindF cs sill (bars cs ps sill) (ps.drop (ps.length - i))).2).sum), y7, y8, y9, y10, y11, y12])
            ?_ (fun i σ H5 _ hp => lstAt hp.2.1) ?_ ?_⟩
          · rw [Nat.sub_zero, List.drop_length]
            refine ⟨s04, upd_same, s4 _ _ (s3 _ _ eD12), D2, _, _, _, _, _, _, ?_, ?_, rfl⟩
            · show _ = some (HO.lst ((bars cs ps sill).map fun b => iN b.2))
              rw [ebars]
              exact s4 _ _ (s3 _ _ eD22)
            · intro z
              subst z
              rw [eD1] at nD2
              cases nD2
          · rintro i x σ H6 H5 hi ⟨sm, epr, eD, bD, y7, y8, y9, y10, y11, y12, ebD, hbD, rfl⟩ ⟨rfl, hx⟩
            rw [List.length_reverse, plen] at hi
            obtain ⟨j, ej⟩ : ∃ j, j = ps.length - 1 - i := ⟨_, rfl⟩
            have hj : j < ps.length := by omega
            rw [List.getElem?_reverse (by rw [plen]; exact hi), plen, ← ej, List.getElem?_map, List.getElem?_eq_getElem hj] at hx
            have ed : ps.drop (ps.length - (i + 1)) = ps[j] :: ps.drop (ps.length - i) := by
              rw [show ps.length - (i + 1) = j by omega, show ps.length - i = j + 1 by omega]
              exact List.drop_eq_getElem_cons hj
            obtain ⟨k, ek⟩ : ∃ k, k = ps[j] := ⟨_, rfl⟩
            rw [← ek] at ed hx
            cases hx
            have hkm : k ∈ ps := by rw [ek]; exact List.getElem_mem hj
            have hkl := lt k hkm
            obtain ⟨dn, edn⟩ : ∃ dn, dn = ps.drop (ps.length - i) := ⟨_, rfl⟩
            rw [← edn] at eD ebD ed ⊢
            have ndk : (k :: dn).Nodup := by rw [← ed]; exact nd.sublist (List.drop_sublist _ _)
            obtain ⟨hkd, ndd⟩ := List.nodup_cons.mp ndk
            obtain ⟨k0, kn, kh, _⟩ := behind_chain hw (floor := sill) (o := bars cs ps sill) ndd
            obtain ⟨bs, ebs⟩ : ∃ bs, bs = (behindF cs sill (bars cs ps sill) dn).1 := ⟨_, rfl⟩
            obtain ⟨rr, err⟩ : ∃ rr, rr = (behindF cs sill (bars cs ps sill) dn).2 := ⟨_, rfl⟩
            rw [← ebs] at ebD kh
            rw [← err] at eD k0 kn kh ⊢
            -- what stands behind, with its strength
            have hbs : ∀ b ∈ bs, b.2 < cs.length ∧ b.1 = ldR cs rr b.2 := fun b hb => by
              rw [kh] at hb
              cases dn with
              | nil =>
                obtain ⟨m1, m2⟩ := mem_bars.mp hb
                obtain ⟨m3, m4, m5⟩ := mem_outs.mp m1
                refine ⟨m3, ?_⟩
                rw [m5]
                unfold ldR
                rw [k0 b.2 (fun z => nomatch z), Int.add_zero]
              | cons q qs =>
                cases List.mem_singleton.mp hb
                exact ⟨lt q (by
                  have : q ∈ ps.drop (ps.length - i) := by rw [← edn]; exact List.mem_cons_self ..
                  exact List.mem_of_mem_drop this), rfl⟩
            have hbl : bs.length ≤ 6 := by
              rw [kh]
              cases dn with
              | nil =>
                show (bars cs ps sill).length ≤ 6
                unfold bars
                rw [List.length_map, ← erv]
                exact rlen
              | cons q qs => exact (by show 1 ≤ 6; omega)
            obtain ⟨c, ec⟩ : ∃ c, cs[k]? = some c := ⟨_, List.getElem?_eq_getElem hkl⟩
            obtain ⟨t, et⟩ : ∃ t, ts[k]? = some t := ⟨_, List.getElem?_eq_getElem (by omega)⟩
            have ht := sm _ _ (ca.2 k t c et ec)
            obtain ⟨g1, g2, g3⟩ := cs_get ec
            obtain ⟨o1, o2, o3, o4, o5⟩ := ck.ok c (List.mem_of_getElem? ec)
            have att : atI (ts.map V.ref) ((k : Nat) : Int) = some (.ref t) := atI_nat (by rw [List.getElem?_map, et]; rfl)
            have atL : ∀ x : Nat, x < cs.length → atI ((rsL cs (ldR cs rr)).map V.int) ((x : Nat) : Int) = some (.int (ldR cs rr x)) := fun x hx => atI_nat (by rw [List.getElem?_map, rs_get hx]; rfl)
            have ldk : ldR cs rr k = wt cs k * bdAt cs k := by
              unfold ldR
              rw [k0 k hkd, Int.add_zero]
            refine ⟨_, rfl, _, rfl, _, _, _, _, rfl, rfl, lstAt (sm _ _ hp), att, _, _, rfl, tupAt ht, rfl, _, _, rfl, _, _, rfl, _, _, rfl, rfl, ?_⟩
            rw [← g1, ← g2]
            refine ⟨_, rfl, _, rfl, _, _, _, _, rfl, rfl, lstAt eD, atL k hkl, _, rfl, _, rfl, _, _, _, rfl, hw k, by rw [g1]; exact o3, ?_⟩
            rw [ldk, lift_r (hw k)]
            -- each bar
            refine ⟨_, rfl, bD, rfl, ⟨_, lstAt ebD⟩, for_it walk_list (fun m σ H7 => H7 = H5 ∧ ∃ y12 : Option V, σ = [some (.ref p), some (.int (h : Int)), some (.int sill), some (.ref pl), some (.ref D), some (.ref bD), some (.int (dn.map rr).sum), some (iN k), some (vN c.1), some (.int (wt cs k)), some (.int (bdAt cs k)), some (.int (rOf (wt cs k) (bdAt cs k) (needOf sill (bs.take m) k))), y12])
              ⟨rfl, _, rfl⟩ (fun m σ H7 _ hp => by rw [hp.1]; exact lstAt ebD) ?_ ?_⟩
            · rintro m x σ H8 H7 hm ⟨rfl, y12, rfl⟩ ⟨e7, hx⟩
              subst e7
              rw [List.length_map] at hm
              have em : bs[m]? = some bs[m] := List.getElem?_eq_getElem hm
              obtain ⟨b, eb⟩ : ∃ b, b = bs[m] := ⟨_, rfl⟩
              rw [← eb] at em
              rw [List.getElem?_map, em] at hx
              cases hx
              obtain ⟨b1, b2⟩ := hbs b (List.mem_of_getElem? em)
              refine ⟨_, rfl, _, rfl, _, rfl, _, _, _, _, rfl, rfl, lstAt eD, atL k hkl, _, rfl, _, rfl, _, rfl, _, _, _, _, rfl, rfl, lstAt eD, atL b.2 b1, _, rfl, _, rfl, _, _, rfl, rfl, .inr ⟨_, rfl, _, _, rfl, rfl, _, _, _, rfl, hw k, by rw [g1]; exact o3, _, _, rfl, rfl, some (iN b.2), ?_⟩⟩
              have eb2 : (if decide ((b.2 : Int) < (k : Int)) = true then (1 : Int) else 0) = onUp k b.2 := onInt k b.2
              have fin : (if liftF (ldR cs rr k) (wt cs k) (ldR cs rr b.2 + if decide ((b.2 : Int) < (k : Int)) = true then 1 else 0) > rOf (wt cs k) (bdAt cs k) (needOf sill (bs.take m) k) then liftF (ldR cs rr k) (wt cs k) (ldR cs rr b.2 + if decide ((b.2 : Int) < (k : Int)) = true then 1 else 0) else rOf (wt cs k) (bdAt cs k) (needOf sill (bs.take m) k)) = rOf (wt cs k) (bdAt cs k) (needOf sill (bs.take (m + 1)) k) := by
                rw [eb2, ← b2, ldk, lift_r (hw k), List.take_add_one, em]
                show _ = rOf (wt cs k) (bdAt cs k) (needOf sill (bs.take m ++ [b]) k)
                rw [need_snoc, r_max (hw k)]
                split <;> omega
              exact congrArg (fun z : Int => [some (V.ref p), some (.int (h : Int)), some (.int sill), some (.ref pl), some (.ref D), some (.ref bD), some (.int (dn.map rr).sum), some (iN k), some (vN c.1), some (.int (wt cs k)), some (.int (bdAt cs k)), some (.int z), some (iN b.2)]) fin
            · rintro σ H7 ⟨rfl, y12, rfl⟩
              rw [List.length_map, List.take_length]
              obtain ⟨xx, exx⟩ : ∃ xx, xx = rOf (wt cs k) (bdAt cs k) (needOf sill bs k) := ⟨_, rfl⟩
              rw [← exx]
              have e2 : (behindF cs sill (bars cs ps sill) (k :: dn)).2 = fun x => if x = k then xx else rr x := by
                show (fun x => if x = k then rOf (wt cs k) (bdAt cs k) (needOf sill (behindF cs sill (bars cs ps sill) dn).1 k) else (behindF cs sill (bars cs ps sill) dn).2 x) = _
                rw [← ebs, ← exx, ← err]
              have e1 : (behindF cs sill (bars cs ps sill) (k :: dn)).1 = [(wt cs k * (bdAt cs k + xx), k)] := by
                show [(wt cs k * (bdAt cs k + rOf (wt cs k) (bdAt cs k) (needOf sill (behindF cs sill (bars cs ps sill) dn).1 k)), k)] = _
                rw [← ebs, ← exx]
              have eS : ((rsL cs (ldR cs rr)).map V.int).set k (.int (ldR cs rr k + wt cs k * xx)) = (rsL cs (ldR cs fun x => if x = k then xx else rr x)).map V.int := by
                rw [← List.map_set, rs_set]
                congr 2
                funext x
                show (if x = k then ldR cs rr k + wt cs k * xx else ldR cs rr x) = wt cs x * (bdAt cs x + if x = k then xx else rr x)
                by_cases hx : x = k
                · rw [if_pos hx, if_pos hx, ldk, hx, Int.mul_add]
                · rw [if_neg hx, if_neg hx]
                  rfl
              have eSum : ((k :: dn).map fun x => if x = k then xx else rr x).sum = (dn.map rr).sum + xx := by
                rw [List.map_cons, List.sum_cons, if_pos rfl, show dn.map (fun x => if x = k then xx else rr x) = dn.map rr from List.map_congr_left fun x hx => by rw [if_neg fun z => by subst z; exact hkd hx]]
                omega
              have ndk2 := o2
              refine ⟨_, rfl, _, rfl, _, _, _, _, rfl, rfl, lstAt eD, atL k hkl, _, rfl, _, rfl, _, _, rfl, rfl, .inl ⟨by rw [g1]; omega, by rw [g1]; omega⟩, _, _, rfl, rfl, _, rfl, _, rfl, D, _, _, k, rfl, rfl, eD, ?_, ?_⟩
              · rw [List.length_map, rs_len]
                unfold ixN
                rw [if_pos (by omega), if_pos (by omega), Int.toNat_natCast]
              have nDH := nD
              rw [ed, e2, e1]
              refine ⟨_, rfl, _, rfl, _, _, rfl, rfl, _, rfl, (by show 1 ≤ sizeLine; decide), fun p5 np5 => ?_⟩
              have e3 : upd H7 D (.lst (((rsL cs (ldR cs rr)).map V.int).set k (.int (ldR cs rr k + wt cs k * xx)))) = upd H7 D (.lst ((rsL cs (ldR cs fun x => if x = k then xx else rr x)).map V.int)) := by rw [eS]
              have np6 : upd H7 D (.lst (((rsL cs (ldR cs rr)).map V.int).set k (.int (ldR cs rr k + wt cs k * xx)))) p5 = none := np5
              rw [e3] at np6
              have s6 := same_upd (o := .lst [iN k]) np6
              have p5D : p5 ≠ D := fun z => by subst z; rw [upd_same] at np6; cases np6
              have prD2 : pr ≠ D := prD
              show Same H (upd (upd H7 D (.lst (((rsL cs (ldR cs rr)).map V.int).set k (.int (ldR cs rr k + wt cs k * xx))))) p5 (.lst [iN k])) ∧ _
              rw [e3]
              refine ⟨(same_at sm nDH).trans s6, s6 _ _ (by rw [upd_ne prD2]; exact epr), s6 _ _ upd_same, p5, some (iN k), some (vN c.1), some (.int (wt cs k)), some (.int (bdAt cs k)), some (.int xx), y12, upd_same, p5D, ?_⟩
              rw [eSum]
              rfl
          · rintro σ H5 ⟨sm, epr, eD, bD, y7, y8, y9, y10, y11, y12, ebD, hbD, rfl⟩
            rw [List.length_reverse, plen, Nat.sub_self, List.drop_zero]
            have eq2 := (behind_bars (cs := cs) (sill := sill) (qs := ps) ps).1
            obtain ⟨k0, _, _, _⟩ := behind_chain hw (floor := sill) (o := outs cs ps) nd
            have := q H5 sm
            unfold costF at this
            rw [if_pos cb, sum_on (f := rsF cs sill ps) nd lt k0] at this
            rw [eq2]
            exact ⟨_, rfl, this⟩
end
end TK

namespace TK
open PySem PySem.Spec PyProof.Rows L2
theorem At.ne {H : Hp} {us : List Addr} {os : List HO} {D : Addr} {o : HO} (h : At H us os) (hD : ∀ u ∈ us, u ≠ D) : At (upd H D o) us os := ⟨h.1, fun i u p a b => by
  rw [upd_ne (hD u (List.mem_of_getElem? a))]
  exact h.2 i u p a b⟩
section
variable {P : Program} {w : World} {K : PySem.W.Frag} {mg : Str → Option Value} {base : Heap}
/-! _law_all -/
def spAll (K : PySem.W.Frag) : Sp := fun vs H Q _ => ∃ (p : Addr) (ts : List Addr) (cs : List Bd) (h : Nat) (sill : Int), vs = [.ref p, .int (h : Int), .int sill] ∧ H p = some (.lst (ts.map V.ref)) ∧ CrewAt H ts cs ∧ CrewOk cs ∧ 1 ≤ h ∧ h ≤ 3 ∧
  ∀ (H' : Hp) (l : Addr) (us : List Addr), Same H H' → H' l = some (.lst (us.map V.ref)) → RowsAt H' cs us (rowsF cs h sill) → Q (.ref l) H'
theorem ok_L_all {f : Addr} {fd : FuncData} (F : Fun K "_law_all" "_law_all" s_L_all f fd) (m_len : mg "len" = none) (m_tuple : mg "tuple" = none)
    (d_L_places : Def P w K mg base "_law_places" 1 ["_law_number", "_law_slots"] spPlaces) (d_L_cost : Def P w K mg base "_law_cost" 2 ["_law_crew", "_law_slots", "_law_sill_here", "_law_places_here"] (spCost K)) : FnOk P w K mg base CX0 3 f fd ["_law_crew", "_law_slots", "_law_sill_here"] (spAll K) := by
  refine F.ok sc_L_all (fun vs H Q E h => ?_) (fun cdv A outer s H vs Q E hr h => ?_)
  · obtain ⟨p, ts, cs, h, sill, rfl, _⟩ := h
    rfl
  · obtain ⟨p, ts, cs, h, sill, rfl, hp, ca, ck, h1, h3, q⟩ := h
    have h6 := ck.few
    have hlen := ca.1
    refine ⟨_, (pss_cons (ps_set (i := 3) sc_L_all.nd rfl (.inl rfl) (pe_lst pa_nil))
  (pss_cons (ps_for PassesOwn.never rfl (pi_list (pe_callD d_L_places (hr.mono (by decide)) (by rfl) (pa_cons (pe_callB call_len_seq (by rfl) m_len (by decide +kernel) (pa_cons (pv 0) pa_nil)) (pa_cons (pv 1) pa_nil)))) (pg_name (i := 4) sc_L_all.nd rfl (.inl rfl))
    (pss_cons (ps_cut (ps_set (i := 5) sc_L_all.nd rfl (.inl rfl) (pe_callD d_L_cost (hr.mono (by decide)) (by rfl) (pa_cons (pv 0) (pa_cons (pv 1) (pa_cons (pv 2) (pa_cons (pv 4) pa_nil)))))))
  (pss_one (ps_if (pt_cmpR op_notN (pv 5) pe_non (nomark _)) (pss_one (ps_expr (pe_bm PySem.F.plainAttrs_list PySem.F.slot_list_append PySem.F.type_list_append mt_append (pv 3) (pa_cons (pe_tup (pa_cons (pe_callTy call_tuple_of (by rfl) m_tuple (by decide +kernel) (pa_cons (pe_lc (own := [("_law_k", 6)]) (by rfl) sc_L_all.nd (pi_list (pv 4)) (blkOk_by (N := ["_law_crew", "_law_slots", "_law_sill_here", "_law_rows", "_law_places_here", "_law_cost_here", "_law_k"]) (sc := defScope s_L_all) (by decide +kernel)) (fun _ _ _ _ _ => (pg_name (i := 6) sc_L_all.nd rfl (.inl rfl))) (fun _ _ _ _ _ => pts_nil) (fun _ _ _ _ _ => (pe_ix (ix_tupK (K := K) rfl) (pe_ix (ix_listK (K := K) rfl) (pv 0) (pv 6) (fun _ _ => rfl)) pe_int (fun _ _ => rfl)))) pa_nil)) (pa_cons (pv 5) pa_nil))) pa_nil)))) pss_nil))))
  (pss_one (ps_ret (pv 3))))), ?_⟩
    refine ⟨Nat.zero_le _, fun l nl => ?_⟩
    have s1 := same_upd (o := .lst []) nl
    refine ⟨_, rfl, _, _, rfl, .inl (lstAt (s1 _ _ hp)), _, rfl, (ts.map V.ref).length, h, rfl, by rw [List.length_map]; omega, fun H2 l2 us2 s2 el2 at2 fr2 nl2 => ?_⟩
    rw [List.length_map, hlen, places_arr _ (by omega) _ (by omega) h1] at at2
    have s12 := s1.trans s2
    obtain ⟨al, eal⟩ : ∃ al, al = arr h (List.range cs.length) := ⟨_, rfl⟩
    have hal : al.length ≤ 157 := by rw [eal]; exact (arr_nd _ (by omega) _ (by omega)).2
    rw [← eal] at at2
    have lu : us2.length = al.length := by rw [at2.1, List.length_map]
    have une : ∀ u ∈ us2, u ≠ l := fun u hu z => by
      subst z
      have := fr2 u hu
      rw [upd_same] at this
      cases this
    have lne : l2 ≠ l := fun z => by
      subst z
      rw [upd_same] at nl2
      cases nl2
    refine ⟨l2, rfl, ⟨_, lstAt el2⟩, for_it walk_list (fun i σ H5 => Same H H5 ∧ H5 l2 = some (.lst (us2.map V.ref)) ∧ At H5 us2 (al.map pI) ∧ ∃ (us : List Addr) (y4 y5 : Option V), H5 l = some (.lst (us.map V.ref)) ∧ RowsAt H5 cs us (rowsOf cs h sill (al.take i)) ∧ σ = [some (.ref p), some (.int (h : Int)), some (.int sill), some (.ref l), y4, y5, none])
      ⟨s12, el2, at2, [], _, _, s2 _ _ upd_same, .nil, rfl⟩ (fun i σ H5 _ hp => lstAt hp.2.1) ?_ ?_⟩
    · rintro i x σ H6 H5 hi ⟨sm, el2', at2', us, y4, y5, el, ra, rfl⟩ ⟨rfl, hx⟩
      obtain ⟨u, o, rfl, e1, e2, e3⟩ := at2'.get hx
      rw [List.length_map, lu] at hi
      have ei : al[i]? = some al[i] := List.getElem?_eq_getElem hi
      obtain ⟨ps, eps⟩ : ∃ ps, ps = al[i] := ⟨_, rfl⟩
      rw [← eps] at ei
      rw [List.getElem?_map, ei] at e2
      cases e2
      have hm : ps ∈ arr h (List.range cs.length) := by rw [← eal]; exact List.mem_of_getElem? ei
      obtain ⟨r1, r2, r3⟩ := arr_sound h hm
      have nd := r3 List.nodup_range
      have lt : ∀ p ∈ ps, p < cs.length := fun p hp => List.mem_range.mp (r2 p hp)
      have st := rows_step cs h sill ei
      have hul : us.length ≤ 157 := by
        rw [ra.1]
        have := rows_len cs h sill (al.take i)
        rw [List.length_take] at this
        omega
      refine ⟨fun σ H6 => Same H5 H6 ∧ σ = [some (.ref p), some (.int (h : Int)), some (.int sill), some (.ref l), some (.ref u), some (match costF cs h sill ps with | some c => .int c | none => .non), none], ?_, ?_⟩
      · exact ⟨_, rfl, _, rfl, _, rfl, _, rfl, p, u, ts, cs, ps, h, sill, rfl, sm _ _ hp, ca.same sm, ck, e3, nd, lt, by omega, fun H' s' => ⟨s', rfl⟩⟩
      rintro σ H6 ⟨s6, rfl⟩
      have sm6 := sm.trans s6
      cases ce : costF cs h sill ps with
      | none =>
        rw [ce] at st
        refine ⟨_, rfl, rfl, _, rfl, iteF ⟨sm6, s6 _ _ el2', at2'.same s6, us, _, _, s6 _ _ el, ?_, rfl⟩⟩
        rw [st, List.append_nil]
        exact ra.same s6
      | some c =>
        rw [ce] at st
        refine ⟨_, rfl, rfl, _, rfl, iteT ?_⟩
        refine ⟨_, rfl, .inl ⟨rfl, _, lstAt (s6 _ _ el)⟩, _, rfl, u, rfl, ⟨_, lstAt (s6 _ _ e3)⟩, fun D nD => ?_⟩
        refine lc_list (K := K) (a := u) (xs := ps.map iN) (fun j H7 => H7 = upd H6 D (.lst (((ps.take j).map (nmAt cs)).map vN))) rfl (fun j H7 _ e => e ▸ (same_upd nD).seq (lstAt (s6 _ _ e3))) (fun j x H7 hx hq => ?_) (fun H7 hq => ?_)
        · subst hq
          have sD := same_upd (o := .lst (((ps.take j).map (nmAt cs)).map vN)) nD
          rw [List.getElem?_map] at hx
          cases ej : ps[j]? with
          | none => rw [ej] at hx; cases hx
          | some k =>
            rw [ej] at hx
            cases hx
            have hk := lt k (List.mem_of_getElem? ej)
            obtain ⟨t, b, et, e4, e5, e6⟩ := crew_at ((ca.same sm6).same sD) (i := k) (x := .ref ts[k]) (by rw [List.getElem?_map, List.getElem?_eq_getElem (by omega)]; rfl)
            refine ⟨rfl, yesT ⟨_, rfl, _, rfl, _, _, _, _, rfl, rfl, lstAt (sD _ _ (sm6 _ _ hp)), atI_nat (by rw [List.getElem?_map, e4]; rfl), _, _, _, _, rfl, rfl, tupAt e6, atI_nat (j := 0) rfl, _, upd_same, ?_, ?_⟩⟩
            · rw [List.length_map, List.length_map, List.length_take]; exact small1000 (by omega)
            · rw [upd_twice, List.take_add_one, ej, List.map_append, List.map_append, ← (cs_get e5).2.2]; rfl
        · subst hq
          rw [List.length_map, List.take_length]
          have s7 := same_upd (o := .lst ((ps.map (nmAt cs)).map vN)) nD
          refine ⟨_, _, rfl, .inl ⟨lstAt upd_same, fun t nt => ?_⟩⟩
          have s8 := same_upd (o := .tup ((ps.map (nmAt cs)).map vN)) nt
          refine ⟨_, rfl, (by show 2 ≤ sizeLine; decide), fun p2 np2 => ?_⟩
          have s9 := same_upd (o := .tup [V.ref t, V.int c]) np2
          have s69 := s6.trans (s7.trans (s8.trans s9))
          have el9 := s69 _ _ el
          refine ⟨_, _, _, rfl, rfl, el9, ?_, ?_⟩
          · rw [List.length_map]; exact small1000 (by omega)
          · refine ⟨same_at (sm.trans s69) nl, by rw [upd_ne lne]; exact s69 _ _ el2', (at2'.same s69).ne une, us ++ [p2], _, _, by rw [upd_same, List.map_append]; rfl, ?_, rfl⟩
            rw [st]
            exact (RowsAt.snoc (r := (ps, c)) (ra.same s69) ⟨t, upd_same, s9 _ _ upd_same⟩).wrote el9
    · rintro σ H5 ⟨sm, el2', at2', us, y4, y5, el, ra, rfl⟩
      rw [List.length_map, lu, List.take_length, eal] at ra
      exact ⟨_, rfl, q H5 l us sm el ra⟩
end
end TK

namespace TK
open PySem PySem.Spec PyProof.Rows L2
theorem Eq2.up {H : Hp} : ∀ {n : Nat} {x y : V}, Eq2 H n x y → Eq2 H (n + 1) x y
  | 0, x, y, h => .inl h
  | n + 1, x, y, h => by
    rcases h with h | ⟨a, b, xs, ys, e1, e2, h1, h2, h3, h4⟩
    · exact .inl h
    · exact .inr ⟨a, b, xs, ys, e1, e2, h1, h2, h3, fun i x y hx hy => Eq2.up (h4 i x y hx hy)⟩
theorem eq_row {H : Hp} {cs : List Bd} {u v : Addr} {r : List Nat × Int} (hl : r.1.length ≤ 1000) (h1 : RowAt H cs u r) (h2 : RowAt H cs v r) : Eq2 H 2 (.ref u) (.ref v) := by
  obtain ⟨t, a1, a2⟩ := h1
  obtain ⟨t', b1, b2⟩ := h2
  refine .inr ⟨u, v, _, _, rfl, rfl, .inr ⟨a1, b1⟩, rfl, (show 2 < 2 ^ 40 by decide), fun i x y hx hy => ?_⟩
  match i, hx, hy with
  | 0, hx, hy =>
    cases hx
    cases hy
    refine .inr ⟨t, t', _, _, rfl, rfl, .inr ⟨a2, b2⟩, rfl, by rw [List.length_map, List.length_map]; omega, fun i x y hx hy => ⟨?_, ?_⟩⟩
    · rw [hx] at hy
      exact Option.some.inj hy
    · rw [List.getElem?_map] at hx
      cases e : (r.1.map (nmAt cs))[i]? with
      | none => rw [e] at hx; cases hx
      | some z => rw [e] at hx; cases hx; rfl
  | 1, hx, hy =>
    cases hx
    cases hy
    exact .inl ⟨rfl, rfl⟩
theorem eq_rows {H : Hp} {cs : List Bd} {l m : Addr} {us vs : List Addr} {rs : List (List Nat × Int)} (hl : rs.length ≤ 1000) (hr : ∀ r ∈ rs, r.1.length ≤ 1000) (h1 : H l = some (.lst (us.map V.ref))) (h2 : H m = some (.lst (vs.map V.ref))) (r1 : RowsAt H cs us rs) (r2 : RowsAt H cs vs rs) : Eq2 H 3 (.ref l) (.ref m) := by
  refine .inr ⟨l, m, _, _, rfl, rfl, .inl ⟨h1, h2⟩, by rw [List.length_map, List.length_map, r1.1, r2.1], by rw [List.length_map, r1.1]; omega, fun i x y hx hy => ?_⟩
  obtain ⟨u, r, rfl, _, er, ru⟩ := r1.get hx
  obtain ⟨v, r', rfl, _, er', rv⟩ := r2.get hy
  rw [er] at er'
  cases er'
  exact eq_row (hr r (List.mem_of_getElem? er)) ru rv
theorem rowsF_ok {cs : List Bd} (h6 : cs.length ≤ 6) {h : Nat} (h3 : h ≤ 3) {sill : Int} : (rowsF cs h sill).length ≤ 157 ∧ ∀ r ∈ rowsF cs h sill, r.1.length ≤ 1000 ∧ ∀ p ∈ r.1, p < cs.length := by
  refine ⟨Nat.le_trans (rows_len cs h sill _) (arr_nd _ (by omega) _ (by omega)).2, fun r hr => ?_⟩
  obtain ⟨ps, hps, e⟩ := List.mem_filterMap.mp hr
  obtain ⟨r1, r2, _⟩ := arr_sound h hps
  cases ec : costF cs h sill ps with
  | none => rw [ec] at e; cases e
  | some c =>
    rw [ec] at e
    cases e
    exact ⟨by show ps.length ≤ 1000; omega, fun p hp => List.mem_range.mp (r2 p hp)⟩
theorem want_idx (cs : List Bd) (sill : Int) (h : Nat) : ∃ ps : List Nat, wantF cs sill h = ps.map (nmAt cs) ∧ ∀ p ∈ ps, p < cs.length :=
  ⟨_, want_eq cs sill h, fun p hp => List.mem_range.mp ((idx_perm cs).mem_iff.mp (List.mem_of_mem_take (List.mem_filter.mp hp).1))⟩
theorem want_idxR (cs : List Bd) (rs : Nat → Int) (sill : Int) (h : Nat) : ∃ ps : List Nat, wantF (raiseC cs rs) sill h = ps.map (nmAt cs) ∧ ∀ p ∈ ps, p < cs.length := by
  obtain ⟨ps, e, lt⟩ := want_idx (raiseC cs rs) sill h
  rw [raise_nmAt] at e
  rw [raise_len] at lt
  exact ⟨ps, e, lt⟩
theorem eq_crew {H : Hp} {l p : Addr} {ts : List Addr} {cs : List Bd} (h1 : H l = some (.lst (ts.map V.ref))) (h2 : H p = some (.lst (ts.map V.ref))) (ca : CrewAt H ts cs) (hl : cs.length ≤ 1000) : Eq2 H 2 (.ref l) (.ref p) := by
  refine .inr ⟨l, p, _, _, rfl, rfl, .inl ⟨h1, h2⟩, rfl, by rw [List.length_map, ca.1]; omega, fun i x y hx hy => ?_⟩
  obtain ⟨t, c, rfl, e1, e2, e3⟩ := crew_at ca hx
  rw [hx] at hy
  cases hy
  refine .inr ⟨t, t, _, _, rfl, rfl, .inr ⟨e3, e3⟩, rfl, (show 3 < 2 ^ 40 by decide), fun i x y hx hy => ?_⟩
  rw [hx] at hy
  cases hy
  refine ⟨rfl, ?_⟩
  match i, hx with
  | 0, hx => cases hx; rfl
  | 1, hx => cases hx; rfl
  | 2, hx => cases hx; rfl
theorem CrewAt.rev {H : Hp} {ts : List Addr} {cs : List Bd} (h : CrewAt H ts cs) : CrewAt H ts.reverse cs.reverse := by
  refine ⟨by rw [List.length_reverse, List.length_reverse, h.1], fun i t c a b => ?_⟩
  have hi : i < ts.length := by
    have := (List.getElem?_eq_some_iff.mp a).1
    rw [List.length_reverse] at this
    exact this
  rw [List.getElem?_reverse hi] at a
  rw [List.getElem?_reverse (by rw [← h.1]; exact hi), ← h.1] at b
  exact h.2 _ t c a b
theorem CrewOk.rev {cs : List Bd} (h : CrewOk cs) : CrewOk cs.reverse := by
  refine ⟨fun c hc => h.ok c (List.mem_reverse.mp hc), ?_, by rw [List.length_reverse]; exact h.few⟩
  rw [List.map_reverse]
  rw [List.nodup_iff_pairwise_ne, List.pairwise_reverse]
  exact (List.nodup_iff_pairwise_ne.mp h.nd).imp fun {a b} z => Ne.symm z
section
variable {P : Program} {w : World} {K : PySem.W.Frag} {mg : Str → Option Value} {base : Heap}
def spLaw (K : PySem.W.Frag) : Sp := fun vs H Q _ => ∃ (a : Addr) (ns : List Int), vs = [.ref a] ∧ SqL K H a (ns.map V.int) ∧ ns.length ≤ 63 ∧ ∀ H', Q (.bl true) H'
theorem ok_law {f fR : Addr} {fd fdR : FuncData} (F : Fun K "law" "law" s_law f fd) (m_list : mg "list" = none) (m_tuple : mg "tuple" = none) (m_len : mg "len" = none) (m_sum : mg "sum" = none)
    (G_ladder_prices : FnOk P w K mg base CX0 5 fR fdR ["bidders", "hours", "floor"] (spLP K)) (g_ladder_prices : mg "ladder_prices" = some (.ref fR)) (k_ladder_prices : PySem.W.keepIn K (.ref fR) = true)
    {g1 g2 g3 g4 : List Value → List Value → List Value}
    (kb_ladder_prices_hours_floor : KBn K fdR ["bidders", "hours", "floor"] 1 ["hours", "floor"] g1 (fun vs zs => vs ++ zs)) (kb_ladder_prices_hours : KBn K fdR ["bidders", "hours", "floor"] 1 ["hours"] g2 (fun vs zs => vs ++ (zs ++ [.int 0])))
    (kb_ladder_prices_floor : KBn K fdR ["bidders", "hours", "floor"] 1 ["floor"] g3 (fun vs zs => vs ++ (.int 1 :: zs))) (kb_ladder_prices_bidders : KBn K fdR ["bidders", "hours", "floor"] 0 ["bidders"] g4 (fun _ zs => zs ++ [.int 1, .int 0]))
    (d_L_cell : Def P w K mg base "_law_cell" 1 ["_law_script", "_law_k"] (spCellA K)) (d_L_pool : Def P w K mg base "_law_pool" 2 ["_law_cell_here", "_law_number"] spPool)
    (d_L_part : Def P w K mg base "_law_part" 1 ["_law_pool_here", "_law_spot", "_law_under", "_law_size"] (spPart K)) (d_L_bidders : Def P w K mg base "_law_bidders" 3 ["_law_pool_here", "_law_spot", "_law_number"] (spBidders K))
    (d_L_sill : Def P w K mg base "_law_sill" 2 ["_law_pool_here", "_law_spot", "_law_crew"] (spSill K)) (d_L_raises : Def P w K mg base "_law_raises" 2 ["_law_pool_here", "_law_crew"] (spRaisesL K))
    (d_L_raised : Def P w K mg base "_law_raised" 1 ["_law_crew", "_law_more"] (spRaisedL K)) (d_L_ladder : Def P w K mg base "_law_ladder" 1 ["_law_crew", "_law_slots", "_law_sill_here"] (spLadderW K))
    (d_L_all : Def P w K mg base "_law_all" 3 ["_law_crew", "_law_slots", "_law_sill_here"] (spAll K))
    (d_L_same : Def P w K mg base "_law_same" 5 ["_law_got", "_law_wanted"] (spSame 3)) : FnOk P w K mg base CX0 8 f fd ["_law_script"] (spLaw K) := by
  refine F.ok sc_law (fun vs H Q E h => ?_) (fun cdv A outer s H vs Q E hr h => ?_)
  · obtain ⟨a, ns, rfl, _⟩ := h
    rfl
  · obtain ⟨a, ns, rfl, hS, hlen, q⟩ := h
    refine ⟨_, (pss_cons (ps_set (i := 1) sc_law.nd rfl (.inl rfl) (pe_callD d_L_pool (hr.mono (by decide)) (by rfl) (pa_cons (pe_callD d_L_cell (hr.mono (by decide)) (by rfl) (pa_cons (pv 0) (pa_cons pe_int pa_nil))) (pa_cons pe_int pa_nil))))
  (pss_cons (ps_cut (ps_set (i := 2) sc_law.nd rfl (.inl rfl) (pe_op op_add pe_int (pe_callD d_L_part (hr.mono (by decide)) (by rfl) (pa_cons (pv 1) (pa_cons pe_int (pa_cons pe_int (pa_cons pe_int pa_nil))))))))
  (pss_cons (ps_set (i := 3) sc_law.nd rfl (.inl rfl) (pe_callD d_L_part (hr.mono (by decide)) (by rfl) (pa_cons (pv 1) (pa_cons pe_int (pa_cons pe_int (pa_cons pe_int pa_nil))))))
  (pss_cons (ps_cut (ps_if (pt_cmpR op_eq (pe_callD d_L_part (hr.mono (by decide)) (by rfl) (pa_cons (pv 1) (pa_cons pe_int (pa_cons pe_int (pa_cons pe_int pa_nil))))) pe_int (nomark _)) (pss_one (ps_set (i := 3) sc_law.nd rfl (.inl rfl) (pe_op op_add pe_int (pe_callD d_L_part (hr.mono (by decide)) (by rfl) (pa_cons (pv 1) (pa_cons pe_int (pa_cons pe_int (pa_cons pe_int pa_nil)))))))) pss_nil))
  (pss_cons (ps_set (i := 4) sc_law.nd rfl (.inl rfl) (pe_callD d_L_bidders (hr.mono (by decide)) (by rfl) (pa_cons (pe_callD d_L_pool (hr.mono (by decide)) (by rfl) (pa_cons (pe_callD d_L_cell (hr.mono (by decide)) (by rfl) (pa_cons (pv 0) (pa_cons pe_int pa_nil))) (pa_cons pe_int pa_nil))) (pa_cons pe_int (pa_cons (pv 3) pa_nil)))))
  (pss_cons (ps_set (i := 5) sc_law.nd rfl (.inl rfl) (pe_callD d_L_sill (hr.mono (by decide)) (by rfl) (pa_cons (pv 1) (pa_cons pe_int (pa_cons (pv 4) pa_nil)))))
  (pss_cons (ps_set (i := 6) sc_law.nd rfl (.inl rfl) (pe_callD d_L_all (hr.mono (by decide)) (by rfl) (pa_cons (pv 4) (pa_cons (pv 2) (pa_cons (pv 5) pa_nil)))))
  (pss_cons (ps_set (i := 7) sc_law.nd rfl (.inl rfl) (pe_callTy call_list_of (by rfl) m_list (by decide +kernel) (pa_cons (pv 4) pa_nil)))
  (pss_cons (ps_set (i := 8) sc_law.nd rfl (.inl rfl) (pe_callN G_ladder_prices (hr.mono (by decide)) (by rfl) g_ladder_prices k_ladder_prices kb_ladder_prices_hours_floor pass0 (pa_cons (pv 7) pa_nil) (pk_cons (pv 2) (pk_cons (pv 5) pk_nil))))
  (pss_cons (ps_if (PW.pt (pw_or (pt_not (pt_val (pe_callD d_L_same (hr.mono (by decide)) (by rfl) (pa_cons (pv 8) (pa_cons (pv 6) pa_nil))))) (pw_or1 (pt_not (pt_val (pe_callD d_L_same (hr.mono (by decide)) (by rfl) (pa_cons (pv 7) (pa_cons (pv 4) pa_nil)))))))) (pss_one (ps_ret pe_bl)) pss_nil)
  (pss_cons (ps_if (pt_cmpR (op_neD hr.units) (pe_lc (own := [("_law_names_here", 12), ("_law_cost_here", 13)]) (by rfl) sc_law.nd (pi_list (pv 8)) (blkOk_by (N := ["_law_script", "_law_rest", "_law_slots", "_law_number", "_law_crew", "_law_sill_here", "_law_wanted", "_law_given", "_law_got", "_law_more", "_law_wished", "_law_found", "_law_names_here", "_law_cost_here"]) (sc := defScope s_law) (by decide +kernel)) (fun _ _ _ _ _ => (pg_tupK (K := K) (n := 2) rfl (by rfl) (pgs_cons (pg_name (i := 12) sc_law.nd rfl (.inl rfl)) (pgs_cons (pg_name (i := 13) sc_law.nd rfl (.inl rfl)) pgs_nil)))) (fun _ _ _ _ _ => (pts_one (pt_cmpR op_eq (pv 13) pe_int (nomark _)))) (fun _ _ _ _ _ => (pv 12))) (pe_lst (pa_cons (pe_callD d_L_ladder (hr.mono (by decide)) (by rfl) (pa_cons (pv 4) (pa_cons (pv 2) (pa_cons (pv 5) pa_nil)))) pa_nil)) (nomark _)) (pss_one (ps_ret pe_bl)) pss_nil)
  (pss_cons (ps_set (i := 9) sc_law.nd rfl (.inl rfl) (pe_callD d_L_raises (hr.mono (by decide)) (by rfl) (pa_cons (pe_callD d_L_pool (hr.mono (by decide)) (by rfl) (pa_cons (pe_callD d_L_cell (hr.mono (by decide)) (by rfl) (pa_cons (pv 0) (pa_cons pe_int pa_nil))) (pa_cons pe_int pa_nil))) (pa_cons (pv 4) pa_nil))))
  (pss_cons (ps_set (i := 10) sc_law.nd rfl (.inr rfl) (pe_callD d_L_ladder (hr.mono (by decide)) (by rfl) (pa_cons (pe_callD d_L_raised (hr.mono (by decide)) (by rfl) (pa_cons (pv 4) (pa_cons (pv 9) pa_nil))) (pa_cons (pv 2) (pa_cons (pv 5) pa_nil)))))
  (pss_cons (ps_setLc (i := 11) (own := [("_law_names_here", 12), ("_law_cost_here", 13)]) (by rfl) sc_law.nd rfl rfl (sw_true rfl rfl rfl (by decide +kernel)) (pi_list (pv 8)) (blkOk_by (N := ["_law_script", "_law_rest", "_law_slots", "_law_number", "_law_crew", "_law_sill_here", "_law_wanted", "_law_given", "_law_got", "_law_more", "_law_wished", "_law_found", "_law_names_here", "_law_cost_here"]) (sc := defScope s_law) (by decide +kernel)) (fun _ _ _ _ _ => (pg_tupK (K := K) (n := 2) rfl (by rfl) (pgs_cons (pg_name (i := 12) sc_law.nd rfl (.inl rfl)) (pgs_cons (pg_name (i := 13) sc_law.nd rfl (.inl rfl)) pgs_nil)))) (fun _ _ _ _ _ => (pts_one (pt_cmpR (op_eqDK (K := K) rfl hr.units) (pv 12) (pv 10) (nomark _)))) (fun _ _ _ _ _ => (pv 13)))
  (pss_cons (ps_if (PW.pt (pw_or (pt_cmpR op_ne (pe_callB call_len_seq (by rfl) m_len (by decide +kernel) (pa_cons (pv 11) pa_nil)) pe_int (nomark _)) (pw_or1 (pt_cmpR op_gt (pe_ix ix_list (pv 11) pe_int (fun _ _ => rfl)) (pe_callB (cr_sum rfl) (by rfl) m_sum (by decide +kernel) (pa_cons (pv 9) pa_nil)) (nomark _))))) (pss_one (ps_ret pe_bl)) pss_nil)
  (pss_cons (ps_cut (ps_expr (pe_bm PySem.F.plainAttrs_list PySem.F.slot_list_append PySem.F.type_list_append mt_append (pv 8) (pa_cons (pe_tup (pa_cons (pv 10) (pa_cons pe_int pa_nil))) pa_nil))))
  (pss_cons (ps_if (pt_not (pt_val (pe_callD d_L_same (hr.mono (by decide)) (by rfl) (pa_cons (pe_callN G_ladder_prices (hr.mono (by decide)) (by rfl) g_ladder_prices k_ladder_prices kb_ladder_prices_hours_floor pass0 (pa_cons (pe_callTy call_tuple_of (by rfl) m_tuple (by decide +kernel) (pa_cons (pv 4) pa_nil)) pa_nil) (pk_cons (pv 2) (pk_cons (pv 5) pk_nil))) (pa_cons (pv 6) pa_nil))))) (pss_one (ps_ret pe_bl)) pss_nil)
  (pss_cons (ps_if (pt_not (pt_val (pe_callD d_L_same (hr.mono (by decide)) (by rfl) (pa_cons (pe_callN G_ladder_prices (hr.mono (by decide)) (by rfl) g_ladder_prices k_ladder_prices kb_ladder_prices_hours pass0 (pa_cons (pv 7) pa_nil) (pk_cons (pv 2) pk_nil)) (pa_cons (pe_callD d_L_all (hr.mono (by decide)) (by rfl) (pa_cons (pv 4) (pa_cons (pv 2) (pa_cons pe_int pa_nil)))) pa_nil))))) (pss_one (ps_ret pe_bl)) pss_nil)
  (pss_cons (ps_if (pt_not (pt_val (pe_callD d_L_same (hr.mono (by decide)) (by rfl) (pa_cons (pe_callN G_ladder_prices (hr.mono (by decide)) (by rfl) g_ladder_prices k_ladder_prices kb_ladder_prices_floor pass0 (pa_cons (pv 7) pa_nil) (pk_cons (pv 5) pk_nil)) (pa_cons (pe_callD d_L_all (hr.mono (by decide)) (by rfl) (pa_cons (pv 4) (pa_cons pe_int (pa_cons (pv 5) pa_nil)))) pa_nil))))) (pss_one (ps_ret pe_bl)) pss_nil)
  (pss_cons (ps_if (pt_not (pt_val (pe_callD d_L_same (hr.mono (by decide)) (by rfl) (pa_cons (pe_callN0 G_ladder_prices (hr.mono (by decide)) (by rfl) g_ladder_prices k_ladder_prices kb_ladder_prices_bidders pass0 (pk_cons (pv 7) pk_nil)) (pa_cons (pe_callD d_L_all (hr.mono (by decide)) (by rfl) (pa_cons (pv 4) (pa_cons pe_int (pa_cons pe_int pa_nil)))) pa_nil))))) (pss_one (ps_ret pe_bl)) pss_nil)
  (pss_cons (ps_cut (ps_expr (pe_bm0 PySem.F.plainAttrs_list PySem.F.slot_list_reverse PySem.F.type_list_reverse mt_reverse (pv 7))))
  (pss_one (ps_ret (pe_callD d_L_same (hr.mono (by decide)) (by rfl) (pa_cons (pe_callN G_ladder_prices (hr.mono (by decide)) (by rfl) g_ladder_prices k_ladder_prices kb_ladder_prices_hours_floor pass0 (pa_cons (pv 7) pa_nil) (pk_cons (pv 2) (pk_cons (pv 5) pk_nil))) (pa_cons (pe_callD d_L_all (hr.mono (by decide)) (by rfl) (pa_cons (pe_revL (pv 4)) (pa_cons (pv 2) (pa_cons (pv 5) pa_nil)))) pa_nil)))))))))))))))))))))))))), ?_⟩
    -- the draws
    refine ⟨_, rfl, a, ns, 1, rfl, hS, by decide, by decide, by omega, fun c1 => ⟨c1, 6, rfl, by decide, by decide, fun p1 ns1 np1 l1 o1 => ?_⟩⟩
    have s1 : Same H (upd H p1 (.lst (ns1.map V.int))) := same_upd np1
    obtain ⟨H1, eH1⟩ : ∃ H1, H1 = upd H p1 (.lst (ns1.map V.int)) := ⟨_, rfl⟩
    have e11 : H1 p1 = some (.lst (ns1.map V.int)) := by rw [eH1]; exact upd_same
    rw [← eH1] at s1 ⊢
    have v0 := part_lo (ns := ns1) (s := 0) (u := 1) (z := 3) (by decide)
    have v3 := part_hi (ns := ns1) (s := 0) (u := 1) (z := 3) (by decide)
    obtain ⟨N, hN⟩ : ∃ N : Nat, 1 + partOf ns1 0 1 3 = (N : Int) := ⟨(1 + partOf ns1 0 1 3).toNat, by omega⟩
    refine ⟨fun σ H' => H' = H1 ∧ σ = [some (.ref a), some (.ref p1), some (.int (N : Int)), none, none, none, none, none, none, none, none, none, none, none], ⟨_, rfl, p1, ns1, 0, 1, 3, rfl, lstAt e11, by decide, by omega, by decide, by decide, by decide, _, _, rfl, rfl, rfl, by rw [← hN]; rfl⟩, ?_⟩
    rintro σ H' ⟨rfl, rfl⟩
    have u0 := part_lo (ns := ns1) (s := 0) (u := 3) (z := 5) (by decide)
    have u5 := part_hi (ns := ns1) (s := 0) (u := 3) (z := 5) (by decide)
    have x0 := part_lo (ns := ns1) (s := 0) (u := 120) (z := 2) (by decide)
    have x2 := part_hi (ns := ns1) (s := 0) (u := 120) (z := 2) (by decide)
    refine ⟨_, rfl, p1, ns1, 0, 3, 5, rfl, lstAt e11, by decide, by omega, by decide, by decide, by decide, ?_⟩
    refine ⟨fun σ H2 => H2 = H' ∧ ∃ n : Int, 0 ≤ n ∧ n ≤ 6 ∧ σ = [some (.ref a), some (.ref p1), some (.int (N : Int)), some (.int n), none, none, none, none, none, none, none, none, none, none], ?_, ?_⟩
    · refine ⟨_, rfl, p1, ns1, 0, 15, 8, rfl, lstAt e11, by decide, by omega, by decide, by decide, by decide, rfl, _, rfl, ite2 (fun e => ?_) (fun e => ?_)⟩
      · exact ⟨_, rfl, p1, ns1, 0, 120, 2, rfl, lstAt e11, by decide, by omega, by decide, by decide, by decide, _, _, rfl, rfl, rfl, 5 + partOf ns1 0 120 2, by omega, by omega, rfl⟩
      · exact ⟨rfl, _, u0, by omega, rfl⟩
    rintro σ H2 ⟨rfl, n, n0, n6, rfl⟩
    refine ⟨_, rfl, a, ns, 0, rfl, s1.seq hS, by decide, by decide, by omega, fun c0 => ⟨c0, 35, rfl, by decide, by decide, fun p2 ns2 np2 l2 o2 => ?_⟩⟩
    have s2 := same_upd (o := .lst (ns2.map V.int)) np2
    refine ⟨_, rfl, p2, ns2, 0, n, rfl, lstAt upd_same, by decide, by omega, n0, n6, fun H3 p3 ts cs s3 np3 ep3 ca3 ck lc => ?_⟩
    have h6 := ck.few
    have hw : ∀ k, 1 ≤ wt cs k := wt_pos fun c hc => (ck.ok c hc).2.1
    have e13 : H3 p1 = some (.lst (ns1.map V.int)) := s3 _ _ (s2 _ _ e11)
    refine ⟨_, rfl, _, rfl, p1, p3, ns1, 1, ts, cs, rfl, lstAt e13, by decide, by omega, ep3, ca3, ck, fun H4 r s4 r0 r1 => ?_⟩
    have sa := ((s1.trans s2).trans s3).trans s4
    refine ⟨_, rfl, _, rfl, _, rfl, p3, ts, cs, N, r, rfl, s4 _ _ ep3, ca3.same s4, ck, by omega, by omega, fun H5 lw usw s5 elw raw => ?_⟩
    have s35 := s4.trans s5
    obtain ⟨rl, rk⟩ := rowsF_ok (cs := cs) h6 (h := N) (by omega) (sill := r)
    have rk1 : ∀ x ∈ rowsF cs N r, x.1.length ≤ 1000 := fun x hx => (rk x hx).1
    refine ⟨_, rfl, _, _, rfl, .inl (lstAt (s35 _ _ ep3)), fun l nl => ?_⟩
    have s6 := same_upd (o := .lst (ts.map V.ref)) nl
    have s36 := s35.trans s6
    obtain ⟨H6, eH6⟩ : ∃ H6, H6 = upd H5 l (.lst (ts.map V.ref)) := ⟨_, rfl⟩
    have el6 : H6 l = some (.lst (ts.map V.ref)) := by rw [eH6]; exact upd_same
    rw [← eH6] at s6 s36 ⊢
    have ca6 := ca3.same s36
    have ep6 := s36 _ _ ep3
    have elw6 := s6 _ _ elw
    have raw6 := raw.same s6
    -- all ladders
    refine ⟨_, rfl, _, rfl, _, rfl, rfl, rfl, l, ts, cs, N, r, rfl, .inl (lstAt el6), ca6, ck, by omega, by omega, r0, r1, fun H7 lg usg s7 nlg elg rag => ?_⟩
    refine ⟨_, rfl, _, rfl, _, _, rfl, eq_rows (by omega) rk1 elg (s7 _ _ elw6) rag (raw6.same s7), _, rfl, iteF ?_⟩
    refine ⟨_, rfl, _, rfl, _, _, rfl, (eq_crew (s7 _ _ el6) (s7 _ _ ep6) (ca6.same s7) (by omega)).up, _, rfl, iteF ?_⟩
    -- just one costs nothing
    obtain ⟨ps, eps, lt⟩ := want_idx cs r N
    have T0 : Top (ldR cs fun _ => 0) cs.length r N ps := top_congr (fun k hk => load_zero hk) ((want_top ck.nd lt).mp eps)
    have rz := rows_zero ck (by omega) T0
    obtain ⟨rs, ers⟩ : ∃ rs, rs = rowsF cs N r := ⟨_, rfl⟩
    rw [← ers] at rag raw6 rl rk rk1 rz
    refine ⟨_, rfl, lg, rfl, ⟨_, lstAt elg⟩, fun D nD => ?_⟩
    refine lc_list (K := K) (a := lg) (xs := usg.map V.ref) (fun i H8 => Same H7 H8 ∧ ∃ zs : List Addr, H8 D = some (.lst (zs.map V.ref)) ∧ zs.length ≤ i ∧ At H8 zs ((((rs.take i).filter fun r => decide (r.2 = 0)).map fun r => r.1.map (nmAt cs)).map tN)) ⟨same_upd nD, [], upd_same, Nat.le_refl _, .nil⟩ (fun i H8 _ hp => hp.1.seq (lstAt elg)) (fun i x H8 hx hp => ?_) (fun H8 hp => ?_)
    · obtain ⟨s8, zs, eD, hzs, at8⟩ := hp
      obtain ⟨u, rw_, rfl, f1, f2, t, f3, f4⟩ := (rag.same s8).get hx
      have hil := (List.getElem?_eq_some_iff.mp f2).1
      refine ⟨_, _, rfl, tupAt f3, rfl, _, _, rfl, _, _, rfl, rfl, rfl, ?_⟩
      refine ⟨_, rfl, rfl, _, rfl, ?_⟩
      rw [List.take_add_one, f2, List.filter_append, List.map_append, List.map_append]
      by_cases hz : rw_.2 = 0
      · rw [show decide (V.int rw_.2 = V.int 0) = true from decide_eq_true (congrArg V.int hz)]
        refine iteT ⟨_, rfl, _, eD, by rw [List.length_map]; exact small1000 (by omega), same_at s8 nD, zs ++ [t], by rw [upd_same, List.map_append]; rfl, by rw [List.length_append]; exact Nat.succ_le_succ hzs, ?_⟩
        show At _ _ (_ ++ List.map tN (List.map _ (List.filter _ [rw_])))
        rw [List.filter_cons, if_pos (decide_eq_true hz)]
        refine (at8.append (At.one (o := tN (rw_.1.map (nmAt cs))) f4)).wrote (fun p hp => ?_) eD
        rcases List.mem_append.mp hp with z | z
        · obtain ⟨z, _, rfl⟩ := List.mem_map.mp z
          exact ⟨_, rfl⟩
        · rw [List.mem_singleton.mp z]; exact ⟨_, rfl⟩
      · rw [show decide (V.int rw_.2 = V.int 0) = false from decide_eq_false fun z => hz (V.int.inj z)]
        refine iteF ⟨s8, zs, eD, by omega, ?_⟩
        show At _ _ (_ ++ List.map tN (List.map _ (List.filter _ [rw_])))
        rw [List.filter_cons, if_neg fun z => hz (of_decide_eq_true z), List.filter_nil, List.map_nil, List.map_nil, List.append_nil]
        exact at8
    obtain ⟨s8, zs, eD, hzs, at8⟩ := hp
    rw [List.length_map, rag.1, List.take_length, rz] at at8
    obtain ⟨t8, ezs, et8⟩ : ∃ t8, zs = [t8] ∧ H8 t8 = some (.tup ((ps.map (nmAt cs)).map vN)) := by
      cases zs with
      | nil => cases at8.1
      | cons z zs =>
        cases zs with
        | cons _ _ => cases at8.1
        | nil => exact ⟨z, rfl, at8.2 0 z _ rfl rfl⟩
    rw [ezs] at eD
    have s78 := s7.trans s8
    refine ⟨_, rfl, _, rfl, _, rfl, p3, ts, cs, N, r, rfl, s78 _ _ ep6, ca6.same s78, ck.w, by omega, fun H9 t9 s9 et9 => ?_⟩
    rw [eps] at et9
    refine ⟨(by show 1 ≤ sizeLine; decide), fun p9 np9 => ?_⟩
    have s10 := same_upd (o := .lst [V.ref t9]) np9
    have s910 := s9.trans s10
    have s710 := s8.trans s910
    obtain ⟨w1, w2⟩ := nms_lay (nms_of ck.ok lt)
    have w3 : PyData.canLayAll0 [PyData.tuple ((ps.map (nmAt cs)).map dN)] = true := by simp only [PyData.canLayAll0, PyData.canLay0, w1, Bool.and_true]
    have w4 : PyData.depthAll [PyData.tuple ((ps.map (nmAt cs)).map dN)] ≤ 60 := by
      simp only [PyData.depthAll, PyData.depth]
      omega
    refine ⟨.list [.tuple ((ps.map (nmAt cs)).map dN)], .list [.tuple ((ps.map (nmAt cs)).map dN)], .lst (lstAt (s910 _ _ eD)) (.cons (.tup (tupAt (s910 _ _ et8)) (nms_dp _)) .nil), .lst (lstAt upd_same) (.cons (.tup (tupAt (s10 _ _ et9)) (nms_dp _)) .nil), shaped_lst w3 w4, shaped_lst w3 w4, _, rfl, ?_⟩
    rw [SeqAt.eqv_refl _ (by simp only [PyData.canLay0, w3])]
    refine iteF ?_
    -- a ladder that some raises bring about
    have s6_10 := s7.trans s710
    obtain ⟨Hx, eHx⟩ : ∃ Hx, Hx = upd H9 p9 (.lst [V.ref t9]) := ⟨_, rfl⟩
    rw [← eHx] at s710 s6_10 ⊢
    refine ⟨_, rfl, a, ns, 2, rfl, ((sa.trans s5).trans (s6.trans s6_10)).seq hS, by decide, by decide, by omega, fun c2 => ⟨c2, 30, rfl, by decide, by decide, fun p5 ns5 np5 l5 o5 => ?_⟩⟩
    have s11 := same_upd (o := .lst (ns5.map V.int)) np5
    have s6_11 := s6_10.trans s11
    refine ⟨_, rfl, p5, p3, ns5, ts, cs, rfl, lstAt upd_same, by omega, s6_11 _ _ ep6, ca6.same s6_11, ck, fun H12 lm mf s12 elm mf0 => ?_⟩
    have s6_12 := s6_11.trans s12
    refine ⟨_, rfl, _, rfl, p3, lm, ts, cs, mf, rfl, s6_12 _ _ ep6, ca6.same s6_12, by omega, .inl (lstAt elm), fun H13 l13 ts13 s13 el13 ca13 => ?_⟩
    have s6_13 := s6_12.trans s13
    refine ⟨_, rfl, _, rfl, l13, ts13, raiseC cs mf, N, r, rfl, el13, ca13, raise_w ck.w mf, by omega, fun H14 t14 s14 et14 => ?_⟩
    have s6_14 := s6_13.trans s14
    have elm14 := s14 _ _ (s13 _ _ elm)
    have s7_14 : Same H7 H14 := s710.trans (s11.trans (s12.trans (s13.trans s14)))
    obtain ⟨qs, eqs, ltq⟩ := want_idxR cs mf r N
    rw [eqs] at et14
    have T1 : Top (ldR cs mf) cs.length r N qs := (want_raised ck.nd ltq).mp eqs
    have ndq := pw_nodup T1.pw
    obtain ⟨cn, lea⟩ := brings_can hw mf0 T1
    have rn := rows_names ck (by omega) ndq ltq cn
    rw [← ers] at rn
    obtain ⟨w5, w6⟩ := nms_lay (nms_of ck.ok ltq)
    have elg14 := s7_14 _ _ elg
    refine ⟨_, rfl, lg, rfl, ⟨_, lstAt elg14⟩, fun D2 nD2 => ?_⟩
    refine lc_list (K := K) (a := lg) (xs := usg.map V.ref) (fun i H15 => H15 = upd H14 D2 (.lst ((((rs.take i).filter fun r => decide (r.1.map (nmAt cs) = qs.map (nmAt cs))).map (·.2)).map V.int))) rfl (fun i H15 _ e => e ▸ (same_upd nD2).seq (lstAt elg14)) (fun i x H15 hx hp => ?_) (fun H15 hp => ?_)
    · subst hp
      have sD := same_upd (o := .lst ((((rs.take i).filter fun r => decide (r.1.map (nmAt cs) = qs.map (nmAt cs))).map (·.2)).map V.int)) nD2
      obtain ⟨u, rw_, rfl, f1, f2, t, f3, f4⟩ := ((rag.same s7_14).same sD).get hx
      have hil := (List.getElem?_eq_some_iff.mp f2).1
      obtain ⟨w7, w8⟩ := nms_lay (nms_of ck.ok (rk rw_ (List.mem_of_getElem? f2)).2)
      refine ⟨_, _, rfl, tupAt f3, rfl, _, _, rfl, _, _, rfl, rfl, rfl, ?_⟩
      refine ⟨_, rfl, _, rfl, .tuple ((rw_.1.map (nmAt cs)).map dN), .tuple ((qs.map (nmAt cs)).map dN), .tup (tupAt f4) (nms_dp _), .tup (tupAt (sD _ _ et14)) (nms_dp _), shaped_tup w7 (by omega), shaped_tup w5 (by omega), _, rfl, ?_⟩
      rw [eqv_tupN, List.take_add_one, f2, List.filter_append, List.map_append, List.map_append]
      by_cases hz : rw_.1.map (nmAt cs) = qs.map (nmAt cs)
      · rw [decide_eq_true hz]
        refine iteT ⟨_, rfl, _, upd_same, ?_, ?_⟩
        · rw [List.length_map, List.length_map]
          have := List.length_filter_le (fun r : List Nat × Int => decide (r.1.map (nmAt cs) = qs.map (nmAt cs))) (rs.take i)
          rw [List.length_take] at this
          exact small1000 (by omega)
        · rw [upd_twice]
          show _ = upd _ _ (.lst (_ ++ List.map V.int (List.map _ (List.filter _ [rw_]))))
          rw [List.filter_cons, if_pos (decide_eq_true hz)]
          rfl
      · rw [decide_eq_false hz]
        refine iteF ?_
        show _ = upd _ _ (.lst (_ ++ List.map V.int (List.map _ (List.filter _ [rw_]))))
        rw [List.filter_cons, if_neg fun z => hz (of_decide_eq_true z), List.filter_nil, List.map_nil, List.map_nil, List.append_nil]
    subst hp
    rw [List.length_map, rag.1, List.take_length, rn]
    have s15 := same_upd (o := .lst [V.int (rsL cs (rsF cs r qs)).sum]) nD2
    refine ⟨_, rfl, _, _, rfl, .inl (lstAt upd_same), rfl, _, rfl, iteNS rfl ?_⟩
    refine ⟨_, rfl, _, _, _, _, rfl, rfl, lstAt upd_same, atI_nat (j := 0) rfl, _, rfl, _, _, rfl, lstAt (s15 _ _ elm14), _, _, rfl, rfl, _, rfl, ?_⟩
    have sle : (rsL cs (rsF cs r qs)).sum ≤ (rsL cs mf).sum := sum_le fun k _ => lea k
    rw [decide_eq_false (show ¬ (rsL cs mf).sum < (rsL cs (rsF cs r qs)).sum by omega)]
    refine iteF ?_
    -- the answer is spoilt
    have elg15 := s15 _ _ elg14
    refine ⟨fun σ H' => Same H6 H' ∧ ∃ x11 : V, σ = [some (.ref a), some (.ref p1), some (.int (N : Int)), some (.int n), some (.ref p3), some (.int r), some (.ref lw), some (.ref l), some (.ref lg), some (.ref lm), some (.ref t14), some x11, none, none], ?_, ?_⟩
    · refine ⟨_, rfl, .inl ⟨rfl, _, lstAt elg15⟩, _, rfl, (by show 2 ≤ sizeLine; decide), fun p16 np16 => ?_⟩
      have s16 := same_upd (o := .tup [V.ref t14, V.int 0]) np16
      exact ⟨_, _, _, rfl, rfl, s16 _ _ elg15, by rw [List.length_map, rag.1]; exact small1000 (by omega), same_at (s6_14.trans (s15.trans s16)) nlg, _, rfl⟩
    rintro σ Hb ⟨sb, x11, rfl⟩
    have caB := ca6.same sb
    have epB := sb _ _ ep6
    have elB := sb _ _ el6
    have elwB := sb _ _ elw6
    have rawB := raw6.same sb
    -- a tuple
    refine ⟨_, rfl, _, _, rfl, .inl ⟨lstAt epB, fun tp ntp => ?_⟩⟩
    have t1 := same_upd (o := .tup (ts.map V.ref)) ntp
    refine ⟨_, rfl, _, rfl, rfl, rfl, tp, ts, cs, N, r, rfl, .inr (tupAt upd_same), caB.same t1, ck, by omega, by omega, r0, r1, fun Hc lc1 uc1 t2 _ ec1 rc1 => ?_⟩
    have t12 := t1.trans t2
    rw [← ers] at rc1
    refine ⟨_, rfl, _, _, rfl, eq_rows (by omega) rk1 ec1 (t12 _ _ elwB) rc1 (rawB.same t12), _, rfl, iteF ?_⟩
    -- without a floor
    refine ⟨_, rfl, _, rfl, rfl, rfl, l, ts, cs, N, 0, rfl, .inl (lstAt (t12 _ _ elB)), caB.same t12, ck, by omega, by omega, by decide, by decide, fun Hd ld1 ud1 t3 _ ed1 rd1 => ?_⟩
    have t13 := t12.trans t3
    refine ⟨_, rfl, _, rfl, p3, ts, cs, N, 0, rfl, t13 _ _ epB, caB.same t13, ck, by omega, by omega, fun He le1 ue1 t4 ee1 re1 => ?_⟩
    have t14' := t13.trans t4
    have k1 := rowsF_ok (cs := cs) h6 (h := N) (by omega) (sill := 0)
    refine ⟨_, _, rfl, eq_rows (by omega) (fun x hx => (k1.2 x hx).1) (t4 _ _ ed1) ee1 (rd1.same t4) re1, _, rfl, iteF ?_⟩
    -- without hours
    refine ⟨_, rfl, _, rfl, rfl, rfl, l, ts, cs, 1, r, rfl, .inl (lstAt (t14' _ _ elB)), caB.same t14', ck, by decide, by decide, r0, r1, fun Hf lf1 uf1 t5 _ ef1 rf1 => ?_⟩
    have t15 := t14'.trans t5
    refine ⟨_, rfl, _, rfl, p3, ts, cs, 1, r, rfl, t15 _ _ epB, caB.same t15, ck, by decide, by decide, fun Hg lg1 ug1 t6 eg1 rg1 => ?_⟩
    have t16 := t15.trans t6
    have k2 := rowsF_ok (cs := cs) h6 (h := 1) (by omega) (sill := r)
    refine ⟨_, _, rfl, eq_rows (by omega) (fun x hx => (k2.2 x hx).1) (t6 _ _ ef1) eg1 (rf1.same t6) rg1, _, rfl, iteF ?_⟩
    -- by name
    refine ⟨_, rfl, rfl, rfl, l, ts, cs, 1, 0, rfl, .inl (lstAt (t16 _ _ elB)), caB.same t16, ck, by decide, by decide, by decide, by decide, fun Hh lh1 uh1 t7 _ eh1 rh1 => ?_⟩
    have t17 := t16.trans t7
    refine ⟨_, rfl, p3, ts, cs, 1, 0, rfl, t17 _ _ epB, caB.same t17, ck, by decide, by decide, fun Hi li1 ui1 t8 ei1 ri1 => ?_⟩
    have t18 := t17.trans t8
    have k3 := rowsF_ok (cs := cs) h6 (h := 1) (by omega) (sill := 0)
    refine ⟨_, _, rfl, eq_rows (by omega) (fun x hx => (k3.2 x hx).1) (t8 _ _ eh1) ei1 (rh1.same t8) ri1, _, rfl, iteF ?_⟩
    -- turned about
    have elI := t18 _ _ elB
    refine ⟨fun σ H' => Same H5 H' ∧ H' l = some (.lst (ts.map V.ref).reverse) ∧ σ = [some (.ref a), some (.ref p1), some (.int (N : Int)), some (.int n), some (.ref p3), some (.int r), some (.ref lw), some (.ref l), some (.ref lg), some (.ref lm), some (.ref t14), some x11, none, none], ?_, ?_⟩
    · exact ⟨_, rfl, .inl ⟨rfl, _, lstAt elI⟩, _, _, rfl, rfl, elI, same_at (s6.trans (sb.trans t18)) nl, upd_same, rfl⟩
    rintro σ Hj ⟨sj, elj, rfl⟩
    have cj := (ca3.same s35).same sj
    have epj := sj _ _ (s35 _ _ ep3)
    have elr : Hj l = some (.lst (ts.reverse.map V.ref)) := by rw [elj, List.map_reverse]
    refine ⟨_, rfl, _, rfl, _, rfl, rfl, rfl, l, ts.reverse, cs.reverse, N, r, rfl, .inl (lstAt elr), cj.rev, ck.rev, by omega, by omega, r0, r1, fun Hk lk1 uk1 t9 _ ek1 rk3 => ?_⟩
    refine ⟨_, rfl, _, _, rfl, lstAt (t9 _ _ epj), fun rv nrv => ?_⟩
    have t10 := same_upd (o := .lst (ts.map V.ref).reverse) nrv
    have t910 := t9.trans t10
    refine ⟨_, rfl, _, rfl, rv, ts.reverse, cs.reverse, N, r, rfl, by rw [upd_same, List.map_reverse], (cj.same t910).rev, ck.rev, by omega, by omega, fun Hm lm1 um1 t11 em1 rm1 => ?_⟩
    have k4 := rowsF_ok (cs := cs.reverse) ck.rev.few (h := N) (by omega) (sill := r)
    exact ⟨_, _, rfl, eq_rows (by omega) (fun x hx => (k4.2 x hx).1) (t11 _ _ (t10 _ _ ek1)) em1 ((rk3.same t10).same t11) rm1, q _⟩
end
end TK

namespace TK
open PySem PySem.Spec PyProof.Rows L2
/-- how ladder's keywords bind -/
theorem ladder_prices_kb {K : PySem.W.Frag} {f : Addr} {fd : FuncData} (F : FunD K "ladder_prices" "ladder_prices" (defArgs s_ladder_prices) (defBody s_ladder_prices) (defScope s_ladder_prices) [] [("hours", V.int 1), ("floor", V.int 0)] f fd) :
    (∃ g, KBn K fd ["bidders", "hours", "floor"] 1 ["hours", "floor"] g (fun vs zs => vs ++ zs)) ∧ (∃ g, KBn K fd ["bidders", "hours", "floor"] 1 ["hours"] g (fun vs zs => vs ++ (zs ++ [.int 0]))) ∧
    (∃ g, KBn K fd ["bidders", "hours", "floor"] 1 ["floor"] g (fun vs zs => vs ++ (.int 1 :: zs))) ∧ ∃ g, KBn K fd ["bidders", "hours", "floor"] 0 ["bidders"] g (fun _ zs => zs ++ [.int 1, .int 0]) := by
  refine ⟨?_, ?_, ?_, ?_⟩
  · obtain ⟨mv, h⟩ := F.kbinds0 (ps := ["bidders", "hours", "floor"]) 1 ["hours", "floor"] [] (fun us _ ws => us ++ ws) (by decide) (fun q hq => nomatch hq) (fun a _ b => a.append b) fun D doc pm an cdv ct us mv ws h1 h2 h3 => match us, h1, mv, h2, ws, h3 with | [_], _, [], _, [_, _], _ => rfl
    exact ⟨_, h⟩
  · obtain ⟨mv, h⟩ := F.kbinds0 (ps := ["bidders", "hours", "floor"]) 1 ["hours"] [("floor", V.int 0)] (fun us mv ws => us ++ (ws ++ mv)) (by decide) (fun q hq => by cases List.mem_singleton.mp hq; simp) (fun a m b => a.append (b.append m)) fun D doc pm an cdv ct us mv ws h1 h2 h3 => match us, h1, mv, h2, ws, h3 with | [_], _, [_], _, [_], _ => ⟨_, _, _, _, _, _, rfl, rfl, rfl⟩
    exact ⟨_, h⟩
  · obtain ⟨mv, h⟩ := F.kbinds0 (ps := ["bidders", "hours", "floor"]) 1 ["floor"] [("hours", V.int 1)] (fun us mv ws => us ++ (mv ++ ws)) (by decide) (fun q hq => by cases List.mem_singleton.mp hq; simp) (fun a m b => a.append (m.append b)) fun D doc pm an cdv ct us mv ws h1 h2 h3 => match us, h1, mv, h2, ws, h3 with | [_], _, [_], _, [_], _ => ⟨_, _, _, _, _, _, rfl, rfl, rfl⟩
    exact ⟨_, h⟩
  · obtain ⟨mv, h⟩ := F.kbinds0 (ps := ["bidders", "hours", "floor"]) 0 ["bidders"] [("hours", V.int 1), ("floor", V.int 0)] (fun _ mv ws => ws ++ mv) (by decide) (fun q hq => hq) (fun _ m b => b.append m) fun D doc pm an cdv ct us mv ws h1 h2 h3 => match us, h1, mv, h2, ws, h3 with | [], _, [_, _], _, [_], _ => ⟨_, _, _, _, _, _, rfl, rfl, ⟨_, _, _, _, _, _, rfl, rfl, rfl⟩⟩
    exact ⟨_, h⟩

theorem all_mk {l : PySem.W.OpenLaw} {w : World} {K : PySem.W.Frag} {h : Heap} {mg : Str → Option Value} {fa f0 f1 f2 f3 f4 f5 f6 f7 f8 f9 f10 f11 f12 f13 f14 f15 f16 f17 f18 f19 f20 f21 f22 f23 f24 f25 f26 f27 f28 : Addr} (X : K.In h) (G : h.Ns mainGlobals mg) (hfa : mg "law" = some (.ref fa))
    {DL_ladder_prices : Addr} {t_ladder_prices_hours : Tok} {t_ladder_prices_floor : Tok}
    {tk : Tok}
    {od0 an0 : Option Addr} {sl0 : Array (Option Value)} {oc0 kV0 dc0 pm0 cd0 ct0 : Value}
    (a0 : PySem.W.nsIn K mainGlobals "is_name" = some (some (.ref f0))) (l0 : K.lookup f0 = some ⟨oc0, od0, .func (PySem.W.fnOf "is_name" "is_name" (defArgs s_is_name) (defBody s_is_name) (defScope s_is_name) .none kV0 dc0 pm0 an0 cd0 ct0), sl0⟩) (c0 : PySem.W.codeIn K cd0 "is_name" = true) (k0 : PySem.W.keepIn K (.ref f0) = true)
    {od1 an1 : Option Addr} {sl1 : Array (Option Value)} {oc1 kV1 dc1 pm1 cd1 ct1 : Value}
    (a1 : PySem.W.nsIn K mainGlobals "check_size" = some (some (.ref f1))) (l1 : K.lookup f1 = some ⟨oc1, od1, .func (PySem.W.fnOf "check_size" "check_size" (defArgs s_check_size) (defBody s_check_size) (defScope s_check_size) .none kV1 dc1 pm1 an1 cd1 ct1), sl1⟩) (c1 : PySem.W.codeIn K cd1 "check_size" = true) (k1 : PySem.W.keepIn K (.ref f1) = true)
    {od2 an2 : Option Addr} {sl2 : Array (Option Value)} {oc2 kV2 dc2 pm2 cd2 ct2 : Value}
    (a2 : PySem.W.nsIn K mainGlobals "check_range" = some (some (.ref f2))) (l2 : K.lookup f2 = some ⟨oc2, od2, .func (PySem.W.fnOf "check_range" "check_range" (defArgs s_check_range) (defBody s_check_range) (defScope s_check_range) .none kV2 dc2 pm2 an2 cd2 ct2), sl2⟩) (c2 : PySem.W.codeIn K cd2 "check_range" = true) (k2 : PySem.W.keepIn K (.ref f2) = true)
    {od3 an3 : Option Addr} {sl3 : Array (Option Value)} {oc3 kV3 dc3 pm3 cd3 ct3 : Value}
    (a3 : PySem.W.nsIn K mainGlobals "arrangements" = some (some (.ref f3))) (l3 : K.lookup f3 = some ⟨oc3, od3, .func (PySem.W.fnOf "arrangements" "arrangements" (defArgs s_arrangements) (defBody s_arrangements) (defScope s_arrangements) .none kV3 dc3 pm3 an3 cd3 ct3), sl3⟩) (c3 : PySem.W.codeIn K cd3 "arrangements" = true) (k3 : PySem.W.keepIn K (.ref f3) = true)
    {od4 an4 : Option Addr} {sl4 : Array (Option Value)} {oc4 kV4 dc4 pm4 cd4 ct4 : Value}
    (a4 : PySem.W.nsIn K mainGlobals "check_bidders" = some (some (.ref f4))) (l4 : K.lookup f4 = some ⟨oc4, od4, .func (PySem.W.fnOf "check_bidders" "check_bidders" (defArgs s_check_bidders) (defBody s_check_bidders) (defScope s_check_bidders) .none kV4 dc4 pm4 an4 cd4 ct4), sl4⟩) (c4 : PySem.W.codeIn K cd4 "check_bidders" = true) (k4 : PySem.W.keepIn K (.ref f4) = true)
    {od5 an5 : Option Addr} {sl5 : Array (Option Value)} {oc5 kV5 dc5 pm5 cd5 ct5 : Value}
    (a5 : PySem.W.nsIn K mainGlobals "_check" = some (some (.ref f5))) (l5 : K.lookup f5 = some ⟨oc5, od5, .func (PySem.W.fnOf "_check" "_check" (defArgs s_check) (defBody s_check) (defScope s_check) .none kV5 dc5 pm5 an5 cd5 ct5), sl5⟩) (c5 : PySem.W.codeIn K cd5 "_check" = true) (k5 : PySem.W.keepIn K (.ref f5) = true)
    {od6 an6 : Option Addr} {sl6 : Array (Option Value)} {oc6 kV6 dc6 pm6 cd6 ct6 : Value}
    (a6 : PySem.W.nsIn K mainGlobals "_names" = some (some (.ref f6))) (l6 : K.lookup f6 = some ⟨oc6, od6, .func (PySem.W.fnOf "_names" "_names" (defArgs s_names) (defBody s_names) (defScope s_names) .none kV6 dc6 pm6 an6 cd6 ct6), sl6⟩) (c6 : PySem.W.codeIn K cd6 "_names" = true) (k6 : PySem.W.keepIn K (.ref f6) = true)
    {od7 an7 : Option Addr} {sl7 : Array (Option Value)} {oc7 kV7 dc7 pm7 cd7 ct7 : Value}
    (a7 : PySem.W.nsIn K mainGlobals "strength" = some (some (.ref f7))) (l7 : K.lookup f7 = some ⟨oc7, od7, .func (PySem.W.fnOf "strength" "strength" (defArgs s_strength) (defBody s_strength) (defScope s_strength) .none kV7 dc7 pm7 an7 cd7 ct7), sl7⟩) (c7 : PySem.W.codeIn K cd7 "strength" = true) (k7 : PySem.W.keepIn K (.ref f7) = true)
    {od8 an8 : Option Addr} {sl8 : Array (Option Value)} {oc8  dc8 pm8 cd8 ct8 : Value}
    (a8 : PySem.W.nsIn K mainGlobals "ladder_prices" = some (some (.ref f8))) (l8 : K.lookup f8 = some ⟨oc8, od8, .func (PySem.W.fnOf "ladder_prices" "ladder_prices" (defArgs s_ladder_prices) (defBody s_ladder_prices) (defScope s_ladder_prices) .none (.ref DL_ladder_prices) dc8 pm8 an8 cd8 ct8), sl8⟩) (c8 : PySem.W.codeIn K cd8 "ladder_prices" = true) (k8 : PySem.W.keepIn K (.ref f8) = true)
    {od9 an9 : Option Addr} {sl9 : Array (Option Value)} {oc9 kV9 dc9 pm9 cd9 ct9 : Value}
    (a9 : PySem.W.nsIn K mainGlobals "_raises" = some (some (.ref f9))) (l9 : K.lookup f9 = some ⟨oc9, od9, .func (PySem.W.fnOf "_raises" "_raises" (defArgs s_raises) (defBody s_raises) (defScope s_raises) .none kV9 dc9 pm9 an9 cd9 ct9), sl9⟩) (c9 : PySem.W.codeIn K cd9 "_raises" = true) (k9 : PySem.W.keepIn K (.ref f9) = true)
    {od10 an10 : Option Addr} {sl10 : Array (Option Value)} {oc10 kV10 dc10 pm10 cd10 ct10 : Value}
    (a10 : PySem.W.nsIn K mainGlobals "_law_cell" = some (some (.ref f10))) (l10 : K.lookup f10 = some ⟨oc10, od10, .func (PySem.W.fnOf "_law_cell" "_law_cell" (defArgs s_L_cell) (defBody s_L_cell) (defScope s_L_cell) .none kV10 dc10 pm10 an10 cd10 ct10), sl10⟩) (c10 : PySem.W.codeIn K cd10 "_law_cell" = true) (k10 : PySem.W.keepIn K (.ref f10) = true)
    {od11 an11 : Option Addr} {sl11 : Array (Option Value)} {oc11 kV11 dc11 pm11 cd11 ct11 : Value}
    (a11 : PySem.W.nsIn K mainGlobals "_law_mixed" = some (some (.ref f11))) (l11 : K.lookup f11 = some ⟨oc11, od11, .func (PySem.W.fnOf "_law_mixed" "_law_mixed" (defArgs s_L_mixed) (defBody s_L_mixed) (defScope s_L_mixed) .none kV11 dc11 pm11 an11 cd11 ct11), sl11⟩) (c11 : PySem.W.codeIn K cd11 "_law_mixed" = true) (k11 : PySem.W.keepIn K (.ref f11) = true)
    {od12 an12 : Option Addr} {sl12 : Array (Option Value)} {oc12 kV12 dc12 pm12 cd12 ct12 : Value}
    (a12 : PySem.W.nsIn K mainGlobals "_law_pool" = some (some (.ref f12))) (l12 : K.lookup f12 = some ⟨oc12, od12, .func (PySem.W.fnOf "_law_pool" "_law_pool" (defArgs s_L_pool) (defBody s_L_pool) (defScope s_L_pool) .none kV12 dc12 pm12 an12 cd12 ct12), sl12⟩) (c12 : PySem.W.codeIn K cd12 "_law_pool" = true) (k12 : PySem.W.keepIn K (.ref f12) = true)
    {od13 an13 : Option Addr} {sl13 : Array (Option Value)} {oc13 kV13 dc13 pm13 cd13 ct13 : Value}
    (a13 : PySem.W.nsIn K mainGlobals "_law_part" = some (some (.ref f13))) (l13 : K.lookup f13 = some ⟨oc13, od13, .func (PySem.W.fnOf "_law_part" "_law_part" (defArgs s_L_part) (defBody s_L_part) (defScope s_L_part) .none kV13 dc13 pm13 an13 cd13 ct13), sl13⟩) (c13 : PySem.W.codeIn K cd13 "_law_part" = true) (k13 : PySem.W.keepIn K (.ref f13) = true)
    {od14 an14 : Option Addr} {sl14 : Array (Option Value)} {oc14 kV14 dc14 pm14 cd14 ct14 : Value}
    (a14 : PySem.W.nsIn K mainGlobals "_law_names" = some (some (.ref f14))) (l14 : K.lookup f14 = some ⟨oc14, od14, .func (PySem.W.fnOf "_law_names" "_law_names" (defArgs s_L_names) (defBody s_L_names) (defScope s_L_names) .none kV14 dc14 pm14 an14 cd14 ct14), sl14⟩) (c14 : PySem.W.codeIn K cd14 "_law_names" = true) (k14 : PySem.W.keepIn K (.ref f14) = true)
    {od15 an15 : Option Addr} {sl15 : Array (Option Value)} {oc15 kV15 dc15 pm15 cd15 ct15 : Value}
    (a15 : PySem.W.nsIn K mainGlobals "_law_far" = some (some (.ref f15))) (l15 : K.lookup f15 = some ⟨oc15, od15, .func (PySem.W.fnOf "_law_far" "_law_far" (defArgs s_L_far) (defBody s_L_far) (defScope s_L_far) .none kV15 dc15 pm15 an15 cd15 ct15), sl15⟩) (c15 : PySem.W.codeIn K cd15 "_law_far" = true) (k15 : PySem.W.keepIn K (.ref f15) = true)
    {od16 an16 : Option Addr} {sl16 : Array (Option Value)} {oc16 kV16 dc16 pm16 cd16 ct16 : Value}
    (a16 : PySem.W.nsIn K mainGlobals "_law_chosen" = some (some (.ref f16))) (l16 : K.lookup f16 = some ⟨oc16, od16, .func (PySem.W.fnOf "_law_chosen" "_law_chosen" (defArgs s_L_chosen) (defBody s_L_chosen) (defScope s_L_chosen) .none kV16 dc16 pm16 an16 cd16 ct16), sl16⟩) (c16 : PySem.W.codeIn K cd16 "_law_chosen" = true) (k16 : PySem.W.keepIn K (.ref f16) = true)
    {od17 an17 : Option Addr} {sl17 : Array (Option Value)} {oc17 kV17 dc17 pm17 cd17 ct17 : Value}
    (a17 : PySem.W.nsIn K mainGlobals "_law_bidders" = some (some (.ref f17))) (l17 : K.lookup f17 = some ⟨oc17, od17, .func (PySem.W.fnOf "_law_bidders" "_law_bidders" (defArgs s_L_bidders) (defBody s_L_bidders) (defScope s_L_bidders) .none kV17 dc17 pm17 an17 cd17 ct17), sl17⟩) (c17 : PySem.W.codeIn K cd17 "_law_bidders" = true) (k17 : PySem.W.keepIn K (.ref f17) = true)
    {od18 an18 : Option Addr} {sl18 : Array (Option Value)} {oc18 kV18 dc18 pm18 cd18 ct18 : Value}
    (a18 : PySem.W.nsIn K mainGlobals "_law_sill" = some (some (.ref f18))) (l18 : K.lookup f18 = some ⟨oc18, od18, .func (PySem.W.fnOf "_law_sill" "_law_sill" (defArgs s_L_sill) (defBody s_L_sill) (defScope s_L_sill) .none kV18 dc18 pm18 an18 cd18 ct18), sl18⟩) (c18 : PySem.W.codeIn K cd18 "_law_sill" = true) (k18 : PySem.W.keepIn K (.ref f18) = true)
    {od19 an19 : Option Addr} {sl19 : Array (Option Value)} {oc19 kV19 dc19 pm19 cd19 ct19 : Value}
    (a19 : PySem.W.nsIn K mainGlobals "_law_raises" = some (some (.ref f19))) (l19 : K.lookup f19 = some ⟨oc19, od19, .func (PySem.W.fnOf "_law_raises" "_law_raises" (defArgs s_L_raises) (defBody s_L_raises) (defScope s_L_raises) .none kV19 dc19 pm19 an19 cd19 ct19), sl19⟩) (c19 : PySem.W.codeIn K cd19 "_law_raises" = true) (k19 : PySem.W.keepIn K (.ref f19) = true)
    {od20 an20 : Option Addr} {sl20 : Array (Option Value)} {oc20 kV20 dc20 pm20 cd20 ct20 : Value}
    (a20 : PySem.W.nsIn K mainGlobals "_law_raised" = some (some (.ref f20))) (l20 : K.lookup f20 = some ⟨oc20, od20, .func (PySem.W.fnOf "_law_raised" "_law_raised" (defArgs s_L_raised) (defBody s_L_raised) (defScope s_L_raised) .none kV20 dc20 pm20 an20 cd20 ct20), sl20⟩) (c20 : PySem.W.codeIn K cd20 "_law_raised" = true) (k20 : PySem.W.keepIn K (.ref f20) = true)
    {od21 an21 : Option Addr} {sl21 : Array (Option Value)} {oc21 kV21 dc21 pm21 cd21 ct21 : Value}
    (a21 : PySem.W.nsIn K mainGlobals "_law_ladder" = some (some (.ref f21))) (l21 : K.lookup f21 = some ⟨oc21, od21, .func (PySem.W.fnOf "_law_ladder" "_law_ladder" (defArgs s_L_ladder) (defBody s_L_ladder) (defScope s_L_ladder) .none kV21 dc21 pm21 an21 cd21 ct21), sl21⟩) (c21 : PySem.W.codeIn K cd21 "_law_ladder" = true) (k21 : PySem.W.keepIn K (.ref f21) = true)
    {od22 an22 : Option Addr} {sl22 : Array (Option Value)} {oc22 kV22 dc22 pm22 cd22 ct22 : Value}
    (a22 : PySem.W.nsIn K mainGlobals "_law_places" = some (some (.ref f22))) (l22 : K.lookup f22 = some ⟨oc22, od22, .func (PySem.W.fnOf "_law_places" "_law_places" (defArgs s_L_places) (defBody s_L_places) (defScope s_L_places) .none kV22 dc22 pm22 an22 cd22 ct22), sl22⟩) (c22 : PySem.W.codeIn K cd22 "_law_places" = true) (k22 : PySem.W.keepIn K (.ref f22) = true)
    {od23 an23 : Option Addr} {sl23 : Array (Option Value)} {oc23 kV23 dc23 pm23 cd23 ct23 : Value}
    (a23 : PySem.W.nsIn K mainGlobals "_law_lift" = some (some (.ref f23))) (l23 : K.lookup f23 = some ⟨oc23, od23, .func (PySem.W.fnOf "_law_lift" "_law_lift" (defArgs s_L_lift) (defBody s_L_lift) (defScope s_L_lift) .none kV23 dc23 pm23 an23 cd23 ct23), sl23⟩) (c23 : PySem.W.codeIn K cd23 "_law_lift" = true) (k23 : PySem.W.keepIn K (.ref f23) = true)
    {od24 an24 : Option Addr} {sl24 : Array (Option Value)} {oc24 kV24 dc24 pm24 cd24 ct24 : Value}
    (a24 : PySem.W.nsIn K mainGlobals "_law_cost" = some (some (.ref f24))) (l24 : K.lookup f24 = some ⟨oc24, od24, .func (PySem.W.fnOf "_law_cost" "_law_cost" (defArgs s_L_cost) (defBody s_L_cost) (defScope s_L_cost) .none kV24 dc24 pm24 an24 cd24 ct24), sl24⟩) (c24 : PySem.W.codeIn K cd24 "_law_cost" = true) (k24 : PySem.W.keepIn K (.ref f24) = true)
    {od25 an25 : Option Addr} {sl25 : Array (Option Value)} {oc25 kV25 dc25 pm25 cd25 ct25 : Value}
    (a25 : PySem.W.nsIn K mainGlobals "_law_all" = some (some (.ref f25))) (l25 : K.lookup f25 = some ⟨oc25, od25, .func (PySem.W.fnOf "_law_all" "_law_all" (defArgs s_L_all) (defBody s_L_all) (defScope s_L_all) .none kV25 dc25 pm25 an25 cd25 ct25), sl25⟩) (c25 : PySem.W.codeIn K cd25 "_law_all" = true) (k25 : PySem.W.keepIn K (.ref f25) = true)
    {od26 an26 : Option Addr} {sl26 : Array (Option Value)} {oc26 kV26 dc26 pm26 cd26 ct26 : Value}
    (a26 : PySem.W.nsIn K mainGlobals "_law_integer" = some (some (.ref f26))) (l26 : K.lookup f26 = some ⟨oc26, od26, .func (PySem.W.fnOf "_law_integer" "_law_integer" (defArgs s_L_integer) (defBody s_L_integer) (defScope s_L_integer) .none kV26 dc26 pm26 an26 cd26 ct26), sl26⟩) (c26 : PySem.W.codeIn K cd26 "_law_integer" = true) (k26 : PySem.W.keepIn K (.ref f26) = true)
    {od27 an27 : Option Addr} {sl27 : Array (Option Value)} {oc27 kV27 dc27 pm27 cd27 ct27 : Value}
    (a27 : PySem.W.nsIn K mainGlobals "_law_same" = some (some (.ref f27))) (l27 : K.lookup f27 = some ⟨oc27, od27, .func (PySem.W.fnOf "_law_same" "_law_same" (defArgs s_L_same) (defBody s_L_same) (defScope s_L_same) .none kV27 dc27 pm27 an27 cd27 ct27), sl27⟩) (c27 : PySem.W.codeIn K cd27 "_law_same" = true) (k27 : PySem.W.keepIn K (.ref f27) = true)
    {od28 an28 : Option Addr} {sl28 : Array (Option Value)} {oc28 kV28 dc28 pm28 cd28 ct28 : Value}
    (a28 : PySem.W.nsIn K mainGlobals "law" = some (some (.ref f28))) (l28 : K.lookup f28 = some ⟨oc28, od28, .func (PySem.W.fnOf "law" "law" (defArgs s_law) (defBody s_law) (defScope s_law) .none kV28 dc28 pm28 an28 cd28 ct28), sl28⟩) (c28 : PySem.W.codeIn K cd28 "law" = true) (k28 : PySem.W.keepIn K (.ref f28) = true)
    (n_ladder_prices_hours : PySem.W.nsIn K DL_ladder_prices "hours" = some (some (.int 1 t_ladder_prices_hours)))
    (n_ladder_prices_floor : PySem.W.nsIn K DL_ladder_prices "floor" = some (some (.int 0 t_ladder_prices_floor)))
    (aL : PySem.W.nsIn K mainGlobals "LETTERS" = some (some (.str lettersZ tk)))
    (z_len : PySem.W.nsIn K mainGlobals "len" = some none)
    (z_all : PySem.W.nsIn K mainGlobals "all" = some none)
    (z_enumerate : PySem.W.nsIn K mainGlobals "enumerate" = some none)
    (z_tuple : PySem.W.nsIn K mainGlobals "tuple" = some none)
    (z_list : PySem.W.nsIn K mainGlobals "list" = some none)
    (z_range : PySem.W.nsIn K mainGlobals "range" = some none)
    (z_abs : PySem.W.nsIn K mainGlobals "abs" = some none)
    (z_int : PySem.W.nsIn K mainGlobals "int" = some none)
    (z_min : PySem.W.nsIn K mainGlobals "min" = some none)
    (z_max : PySem.W.nsIn K mainGlobals "max" = some none)
    (z_reversed : PySem.W.nsIn K mainGlobals "reversed" = some none)
    (z_isinstance : PySem.W.nsIn K mainGlobals "isinstance" = some none)
    (z_bool : PySem.W.nsIn K mainGlobals "bool" = some none)
    (z_str : PySem.W.nsIn K mainGlobals "str" = some none)
    (z_sum : PySem.W.nsIn K mainGlobals "sum" = some none) :
    ∃ fd : FuncData, (∀ (s : Shared) (v : Value), BindsTo s fd ⟨[v], []⟩ [("_law_script", v)]) ∧ ∀ base : Heap, K.In base → base.Ns mainGlobals mg → FnOk l.prog w K mg base CX0 8 fa fd ["_law_script"] (spLaw K) := by
  have e := hfa.symm.trans (PySem.W.mg_of X G a28)
  cases e
  have m_len := PySem.W.mg_none_of X G z_len
  have m_all := PySem.W.mg_none_of X G z_all
  have m_enumerate := PySem.W.mg_none_of X G z_enumerate
  have m_tuple := PySem.W.mg_none_of X G z_tuple
  have m_list := PySem.W.mg_none_of X G z_list
  have m_range := PySem.W.mg_none_of X G z_range
  have m_abs := PySem.W.mg_none_of X G z_abs
  have m_int := PySem.W.mg_none_of X G z_int
  have m_min := PySem.W.mg_none_of X G z_min
  have m_max := PySem.W.mg_none_of X G z_max
  have m_reversed := PySem.W.mg_none_of X G z_reversed
  have m_isinstance := PySem.W.mg_none_of X G z_isinstance
  have m_bool := PySem.W.mg_none_of X G z_bool
  have m_str := PySem.W.mg_none_of X G z_str
  have m_sum := PySem.W.mg_none_of X G z_sum
  have F0 := fun_mk (st := s_is_name) l0 c0 k0
  have b0 := F0.binds (ps := ["word"]) fun _ _ _ _ _ _ us hl => match us, hl with | [_], _ => rfl
  have g0 := PySem.W.mg_of X G a0
  have F1 := fun_mk (st := s_check_size) l1 c1 k1
  have b1 := F1.binds (ps := ["size", "low", "high"]) fun _ _ _ _ _ _ us hl => match us, hl with | [_, _, _], _ => rfl
  have g1 := PySem.W.mg_of X G a1
  have F2 := fun_mk (st := s_check_range) l2 c2 k2
  have b2 := F2.binds (ps := ["number", "low", "high"]) fun _ _ _ _ _ _ us hl => match us, hl with | [_, _, _], _ => rfl
  have g2 := PySem.W.mg_of X G a2
  have F3 := fun_mk (st := s_arrangements) l3 c3 k3
  have b3 := F3.binds (ps := ["names", "most"]) fun _ _ _ _ _ _ us hl => match us, hl with | [_, _], _ => rfl
  have g3 := PySem.W.mg_of X G a3
  have F4 := fun_mk (st := s_check_bidders) l4 c4 k4
  have b4 := F4.binds (ps := ["bidders"]) fun _ _ _ _ _ _ us hl => match us, hl with | [_], _ => rfl
  have g4 := PySem.W.mg_of X G a4
  have F5 := fun_mk (st := s_check) l5 c5 k5
  have b5 := F5.binds (ps := ["bidders", "hours", "floor"]) fun _ _ _ _ _ _ us hl => match us, hl with | [_, _, _], _ => rfl
  have g5 := PySem.W.mg_of X G a5
  have F6 := fun_mk (st := s_names) l6 c6 k6
  have b6 := F6.binds (ps := ["bidders"]) fun _ _ _ _ _ _ us hl => match us, hl with | [_], _ => rfl
  have g6 := PySem.W.mg_of X G a6
  have F7 := fun_mk (st := s_strength) l7 c7 k7
  have b7 := F7.binds (ps := ["bidder"]) fun _ _ _ _ _ _ us hl => match us, hl with | [_], _ => rfl
  have g7 := PySem.W.mg_of X G a7
  have F8 : FunD K "ladder_prices" "ladder_prices" (defArgs s_ladder_prices) (defBody s_ladder_prices) (defScope s_ladder_prices) [] [("hours", V.int 1), ("floor", V.int 0)] f8 _ := ⟨⟨oc8, od8, .none, .ref DL_ladder_prices, dc8, pm8, an8, cd8, ct8, sl8, rfl, l8, c8, .inl ⟨rfl, rfl⟩, .inr ⟨DL_ladder_prices, rfl, fun q hq => by
    rcases List.mem_cons.mp hq with rfl | hq
    · exact ⟨_, n_ladder_prices_hours, ⟨_, rfl⟩⟩
    rw [List.mem_singleton.mp hq]
    exact ⟨_, n_ladder_prices_floor, ⟨_, rfl⟩⟩⟩⟩, k8⟩
  have g8 := PySem.W.mg_of X G a8
  have F9 := fun_mk (st := s_raises) l9 c9 k9
  have b9 := F9.binds (ps := ["bidders", "names", "hours", "floor"]) fun _ _ _ _ _ _ us hl => match us, hl with | [_, _, _, _], _ => rfl
  have g9 := PySem.W.mg_of X G a9
  have F10 := fun_mk (st := s_L_cell) l10 c10 k10
  have b10 := F10.binds (ps := ["_law_script", "_law_k"]) fun _ _ _ _ _ _ us hl => match us, hl with | [_, _], _ => rfl
  have g10 := PySem.W.mg_of X G a10
  have F11 := fun_mk (st := s_L_mixed) l11 c11 k11
  have b11 := F11.binds (ps := ["_law_cell_here", "_law_k"]) fun _ _ _ _ _ _ us hl => match us, hl with | [_, _], _ => rfl
  have g11 := PySem.W.mg_of X G a11
  have F12 := fun_mk (st := s_L_pool) l12 c12 k12
  have b12 := F12.binds (ps := ["_law_cell_here", "_law_number"]) fun _ _ _ _ _ _ us hl => match us, hl with | [_, _], _ => rfl
  have g12 := PySem.W.mg_of X G a12
  have F13 := fun_mk (st := s_L_part) l13 c13 k13
  have b13 := F13.binds (ps := ["_law_pool_here", "_law_spot", "_law_under", "_law_size"]) fun _ _ _ _ _ _ us hl => match us, hl with | [_, _, _, _], _ => rfl
  have g13 := PySem.W.mg_of X G a13
  have F14 := fun_mk (st := s_L_names) l14 c14 k14
  have b14 := F14.binds (ps := ["_law_pool_here", "_law_spot", "_law_number"]) fun _ _ _ _ _ _ us hl => match us, hl with | [_, _, _], _ => rfl
  have g14 := PySem.W.mg_of X G a14
  have F15 := fun_mk (st := s_L_far) l15 c15 k15
  have b15 := F15.binds (ps := ["_law_pool_here", "_law_spot", "_law_number"]) fun _ _ _ _ _ _ us hl => match us, hl with | [_, _, _], _ => rfl
  have g15 := PySem.W.mg_of X G a15
  have F16 := fun_mk (st := s_L_chosen) l16 c16 k16
  have b16 := F16.binds (ps := ["_law_pool_here", "_law_spot", "_law_under", "_law_small", "_law_crest", "_law_whole"]) fun _ _ _ _ _ _ us hl => match us, hl with | [_, _, _, _, _, _], _ => rfl
  have g16 := PySem.W.mg_of X G a16
  have F17 := fun_mk (st := s_L_bidders) l17 c17 k17
  have b17 := F17.binds (ps := ["_law_pool_here", "_law_spot", "_law_number"]) fun _ _ _ _ _ _ us hl => match us, hl with | [_, _, _], _ => rfl
  have g17 := PySem.W.mg_of X G a17
  have F18 := fun_mk (st := s_L_sill) l18 c18 k18
  have b18 := F18.binds (ps := ["_law_pool_here", "_law_spot", "_law_crew"]) fun _ _ _ _ _ _ us hl => match us, hl with | [_, _, _], _ => rfl
  have g18 := PySem.W.mg_of X G a18
  have F19 := fun_mk (st := s_L_raises) l19 c19 k19
  have b19 := F19.binds (ps := ["_law_pool_here", "_law_crew"]) fun _ _ _ _ _ _ us hl => match us, hl with | [_, _], _ => rfl
  have g19 := PySem.W.mg_of X G a19
  have F20 := fun_mk (st := s_L_raised) l20 c20 k20
  have b20 := F20.binds (ps := ["_law_crew", "_law_more"]) fun _ _ _ _ _ _ us hl => match us, hl with | [_, _], _ => rfl
  have g20 := PySem.W.mg_of X G a20
  have F21 := fun_mk (st := s_L_ladder) l21 c21 k21
  have b21 := F21.binds (ps := ["_law_crew", "_law_slots", "_law_sill_here"]) fun _ _ _ _ _ _ us hl => match us, hl with | [_, _, _], _ => rfl
  have g21 := PySem.W.mg_of X G a21
  have F22 := fun_mk (st := s_L_places) l22 c22 k22
  have b22 := F22.binds (ps := ["_law_number", "_law_slots"]) fun _ _ _ _ _ _ us hl => match us, hl with | [_, _], _ => rfl
  have g22 := PySem.W.mg_of X G a22
  have F23 := fun_mk (st := s_L_lift) l23 c23 k23
  have b23 := F23.binds (ps := ["_law_load", "_law_weight", "_law_need"]) fun _ _ _ _ _ _ us hl => match us, hl with | [_, _, _], _ => rfl
  have g23 := PySem.W.mg_of X G a23
  have F24 := fun_mk (st := s_L_cost) l24 c24 k24
  have b24 := F24.binds (ps := ["_law_crew", "_law_slots", "_law_sill_here", "_law_places_here"]) fun _ _ _ _ _ _ us hl => match us, hl with | [_, _, _, _], _ => rfl
  have g24 := PySem.W.mg_of X G a24
  have F25 := fun_mk (st := s_L_all) l25 c25 k25
  have b25 := F25.binds (ps := ["_law_crew", "_law_slots", "_law_sill_here"]) fun _ _ _ _ _ _ us hl => match us, hl with | [_, _, _], _ => rfl
  have g25 := PySem.W.mg_of X G a25
  have F26 := fun_mk (st := s_L_integer) l26 c26 k26
  have b26 := F26.binds (ps := ["_law_got"]) fun _ _ _ _ _ _ us hl => match us, hl with | [_], _ => rfl
  have g26 := PySem.W.mg_of X G a26
  have F27 := fun_mk (st := s_L_same) l27 c27 k27
  have b27 := F27.binds (ps := ["_law_got", "_law_wanted"]) fun _ _ _ _ _ _ us hl => match us, hl with | [_, _], _ => rfl
  have g27 := PySem.W.mg_of X G a27
  have F28 := fun_mk (st := s_law) l28 c28 k28
  have b28 := F28.binds (ps := ["_law_script"]) fun _ _ _ _ _ _ us hl => match us, hl with | [_], _ => rfl
  have g28 := PySem.W.mg_of X G a28
  have gLET := PySem.W.mg_of X G aL
  refine ⟨PySem.W.fnOf "law" "law" (defArgs s_law) (defBody s_law) (defScope s_law) .none kV28 dc28 pm28 an28 cd28 ct28, fun s v => .of_eq rfl, fun base _ _ => ?_⟩
  have d_is_name : Def l.prog w K mg base "is_name" 1 ["word"] (spIsName) := ⟨_, _, ok_is_name F0 m_len m_all gLET, g0, k0, b0⟩
  have d_check_size : Def l.prog w K mg base "check_size" 1 ["size", "low", "high"] (spRange) := ⟨_, _, ok_check_size F1 , g1, k1, b1⟩
  have d_check_range : Def l.prog w K mg base "check_range" 1 ["number", "low", "high"] (spRange) := ⟨_, _, ok_check_range F2 , g2, k2, b2⟩
  have d_arrangements : ∀ n : Nat, n ≤ 3 → Def l.prog w K mg base "arrangements" (n + 1) ["names", "most"] (spArr K n) := fun n hn => ⟨_, _, ok_arrangements F3 g3 b3 m_enumerate n hn, g3, k3, b3⟩
  have d_names : Def l.prog w K mg base "_names" 1 ["bidders"] (spNamesOf K) := ⟨_, _, ok_names F6 , g6, k6, b6⟩
  have d_check_bidders : Def l.prog w K mg base "check_bidders" 2 ["bidders"] (spCheckB K) := ⟨_, _, ok_check_bidders F4 m_len m_enumerate d_check_size d_check_range d_is_name d_names, g4, k4, b4⟩
  have d_check : Def l.prog w K mg base "_check" 3 ["bidders", "hours", "floor"] (spCheck K) := ⟨_, _, ok_check F5 d_check_range d_check_bidders, g5, k5, b5⟩
  have d_strength : Def l.prog w K mg base "strength" 1 ["bidder"] (spStrength K) := ⟨_, _, ok_strength F7 , g7, k7, b7⟩
  have d_raises : Def l.prog w K mg base "_raises" 3 ["bidders", "names", "hours", "floor"] (spRaises K) := ⟨_, _, ok_raises F9 m_enumerate m_max m_len m_reversed m_list m_tuple d_strength d_names, g9, k9, b9⟩
  have G_ladder_prices := ok_ladder_prices (P := l.prog) (w := w) (mg := mg) (base := base) F8 m_sum d_check d_names d_arrangements d_raises
  have g_ladder_prices := g8
  have k_ladder_prices := k8
  obtain ⟨⟨_, kb1⟩, ⟨_, kb2⟩, ⟨_, kb3⟩, ⟨_, kb4⟩⟩ := ladder_prices_kb F8
  have d_L_cell : Def l.prog w K mg base "_law_cell" 1 ["_law_script", "_law_k"] (spCellA K) := ⟨_, _, ok_L_cell F10 m_len m_range m_abs, g10, k10, b10⟩
  have d_L_mixed : Def l.prog w K mg base "_law_mixed" 1 ["_law_cell_here", "_law_k"] (spMixed) := ⟨_, _, ok_L_mixed F11 m_abs, g11, k11, b11⟩
  have d_L_pool : Def l.prog w K mg base "_law_pool" 2 ["_law_cell_here", "_law_number"] (spPool) := ⟨_, _, ok_L_pool F12 m_range m_abs d_L_mixed, g12, k12, b12⟩
  have d_L_part : Def l.prog w K mg base "_law_part" 1 ["_law_pool_here", "_law_spot", "_law_under", "_law_size"] (spPart K) := ⟨_, _, ok_L_part F13 m_int, g13, k13, b13⟩
  have d_L_names : Def l.prog w K mg base "_law_names" 2 ["_law_pool_here", "_law_spot", "_law_number"] (spNames K) := ⟨_, _, ok_L_names F14 m_range m_int d_L_part, g14, k14, b14⟩
  have d_L_far : Def l.prog w K mg base "_law_far" 1 ["_law_pool_here", "_law_spot", "_law_number"] (spFar K) := ⟨_, _, ok_L_far F15 m_range m_int, g15, k15, b15⟩
  have d_L_chosen : Def l.prog w K mg base "_law_chosen" 2 ["_law_pool_here", "_law_spot", "_law_under", "_law_small", "_law_crest", "_law_whole"] (spChosen K) := ⟨_, _, ok_L_chosen F16 m_int d_L_part, g16, k16, b16⟩
  have d_L_bidders : Def l.prog w K mg base "_law_bidders" 3 ["_law_pool_here", "_law_spot", "_law_number"] (spBidders K) := ⟨_, _, ok_L_bidders F17 m_range m_int d_L_part d_L_names d_L_far d_L_chosen, g17, k17, b17⟩
  have d_L_sill : Def l.prog w K mg base "_law_sill" 2 ["_law_pool_here", "_law_spot", "_law_crew"] (spSill K) := ⟨_, _, ok_L_sill F18 m_int m_len m_min m_max d_L_part d_L_far, g18, k18, b18⟩
  have d_L_raises : Def l.prog w K mg base "_law_raises" 2 ["_law_pool_here", "_law_crew"] (spRaisesL K) := ⟨_, _, ok_L_raises F19 m_range m_len m_int m_max d_L_part d_L_far, g19, k19, b19⟩
  have d_L_raised : Def l.prog w K mg base "_law_raised" 1 ["_law_crew", "_law_more"] (spRaisedL K) := ⟨_, _, ok_L_raised F20 m_range m_len, g20, k20, b20⟩
  have d_L_ladder : Def l.prog w K mg base "_law_ladder" 1 ["_law_crew", "_law_slots", "_law_sill_here"] (spLadderW K) := ⟨_, _, ok_L_ladder F21 m_range m_len m_tuple, g21, k21, b21⟩
  have d_L_places : Def l.prog w K mg base "_law_places" 1 ["_law_number", "_law_slots"] (spPlaces) := ⟨_, _, ok_L_places F22 m_range, g22, k22, b22⟩
  have d_L_lift : Def l.prog w K mg base "_law_lift" 1 ["_law_load", "_law_weight", "_law_need"] (spLift) := ⟨_, _, ok_L_lift F23 , g23, k23, b23⟩
  have d_L_cost : Def l.prog w K mg base "_law_cost" 2 ["_law_crew", "_law_slots", "_law_sill_here", "_law_places_here"] (spCost K) := ⟨_, _, ok_L_cost F24 m_range m_len m_max m_int d_L_lift, g24, k24, b24⟩
  have d_L_all : Def l.prog w K mg base "_law_all" 3 ["_law_crew", "_law_slots", "_law_sill_here"] (spAll K) := ⟨_, _, ok_L_all F25 m_len m_tuple d_L_places d_L_cost, g25, k25, b25⟩
  have d_L_integer : Def l.prog w K mg base "_law_integer" 1 ["_law_got"] (spInteger) := ⟨_, _, ok_L_integer F26 m_isinstance m_int m_bool, g26, k26, b26⟩
  have d_L_same : Def l.prog w K mg base "_law_same" 5 ["_law_got", "_law_wanted"] (spSame 3) := ⟨_, _, ok_L_same F27 g27 b27 ⟨m_isinstance, m_int, m_bool, m_str, m_tuple, m_list, m_len, m_range⟩ d_L_integer 3 (by decide), g27, k27, b27⟩
  exact ok_law F28 m_list m_tuple m_len m_sum G_ladder_prices g_ladder_prices k_ladder_prices kb1 kb2 kb3 kb4 d_L_cell d_L_pool d_L_part d_L_bidders d_L_sill d_L_raises d_L_raised d_L_ladder d_L_all d_L_same
end TK

open PySem PySem.W PyProof.Rows
set_option maxRecDepth 100000 in
set_option maxHeartbeats 0 in
theorem PySem.Challenge.cw_turnsandkeys_k27_ladder_prices_all_holds : PySem.Challenge.rw_turnsandkeys_k27_ladder_prices_all.Holds := by
  w_on; o_law; k_head; (case hw => w_witness2)
  k_fill
  refine L2.walk_of (l := PySem.Challenge.rw_turnsandkeys_k27_ladder_prices_all) (n := 63) (k := 8) (x := "_law_script") (CX := fun _ => L2.CX0) (sp := fun w => TK.spLaw _) rfl (by decide) rfl ⟨rfl, by decide, by decide⟩ (fun w h Y => PySem.W.kIn_of Y) ?F (fun _ _ a ns hl _ hS => ⟨a, ns, rfl, hS, hl, fun _ => rfl⟩) (fun _ _ _ _ _ h => h)
  case F =>
    intro w mg fa h KX G hmg
    refine' TK.all_mk KX G hmg ?a0 ?l0 ?c0 ?k0 ?a1 ?l1 ?c1 ?k1 ?a2 ?l2 ?c2 ?k2 ?a3 ?l3 ?c3 ?k3 ?a4 ?l4 ?c4 ?k4 ?a5 ?l5 ?c5 ?k5 ?a6 ?l6 ?c6 ?k6 ?a7 ?l7 ?c7 ?k7 ?a8 ?l8 ?c8 ?k8 ?a9 ?l9 ?c9 ?k9 ?a10 ?l10 ?c10 ?k10 ?a11 ?l11 ?c11 ?k11 ?a12 ?l12 ?c12 ?k12 ?a13 ?l13 ?c13 ?k13 ?a14 ?l14 ?c14 ?k14 ?a15 ?l15 ?c15 ?k15 ?a16 ?l16 ?c16 ?k16 ?a17 ?l17 ?c17 ?k17 ?a18 ?l18 ?c18 ?k18 ?a19 ?l19 ?c19 ?k19 ?a20 ?l20 ?c20 ?k20 ?a21 ?l21 ?c21 ?k21 ?a22 ?l22 ?c22 ?k22 ?a23 ?l23 ?c23 ?k23 ?a24 ?l24 ?c24 ?k24 ?a25 ?l25 ?c25 ?k25 ?a26 ?l26 ?c26 ?k26 ?a27 ?l27 ?c27 ?k27 ?a28 ?l28 ?c28 ?k28 ?n_ladder_prices_hours ?n_ladder_prices_floor ?aL ?z_len ?z_all ?z_enumerate ?z_tuple ?z_list ?z_range ?z_abs ?z_int ?z_min ?z_max ?z_reversed ?z_isinstance ?z_bool ?z_str ?z_sum
    (case a0 => k_is); (case l0 => k_is); (case c0 => k_is); (case k0 => k_is); (case a1 => k_is); (case l1 => k_is); (case c1 => k_is); (case k1 => k_is); (case a2 => k_is); (case l2 => k_is); (case c2 => k_is); (case k2 => k_is); (case a3 => k_is); (case l3 => k_is); (case c3 => k_is); (case k3 => k_is); (case a4 => k_is); (case l4 => k_is); (case c4 => k_is); (case k4 => k_is); (case a5 => k_is); (case l5 => k_is); (case c5 => k_is); (case k5 => k_is); (case a6 => k_is); (case l6 => k_is); (case c6 => k_is); (case k6 => k_is); (case a7 => k_is); (case l7 => k_is); (case c7 => k_is); (case k7 => k_is); (case a8 => k_is); (case l8 => k_is); (case c8 => k_is); (case k8 => k_is); (case a9 => k_is); (case l9 => k_is); (case c9 => k_is); (case k9 => k_is); (case a10 => k_is); (case l10 => k_is); (case c10 => k_is); (case k10 => k_is); (case a11 => k_is); (case l11 => k_is); (case c11 => k_is); (case k11 => k_is); (case a12 => k_is); (case l12 => k_is); (case c12 => k_is); (case k12 => k_is); (case a13 => k_is); (case l13 => k_is); (case c13 => k_is); (case k13 => k_is); (case a14 => k_is); (case l14 => k_is); (case c14 => k_is); (case k14 => k_is); (case a15 => k_is); (case l15 => k_is); (case c15 => k_is); (case k15 => k_is); (case a16 => k_is); (case l16 => k_is); (case c16 => k_is); (case k16 => k_is); (case a17 => k_is); (case l17 => k_is); (case c17 => k_is); (case k17 => k_is); (case a18 => k_is); (case l18 => k_is); (case c18 => k_is); (case k18 => k_is); (case a19 => k_is); (case l19 => k_is); (case c19 => k_is); (case k19 => k_is); (case a20 => k_is); (case l20 => k_is); (case c20 => k_is); (case k20 => k_is); (case a21 => k_is); (case l21 => k_is); (case c21 => k_is); (case k21 => k_is); (case a22 => k_is); (case l22 => k_is); (case c22 => k_is); (case k22 => k_is); (case a23 => k_is); (case l23 => k_is); (case c23 => k_is); (case k23 => k_is); (case a24 => k_is); (case l24 => k_is); (case c24 => k_is); (case k24 => k_is); (case a25 => k_is); (case l25 => k_is); (case c25 => k_is); (case k25 => k_is); (case a26 => k_is); (case l26 => k_is); (case c26 => k_is); (case k26 => k_is); (case a27 => k_is); (case l27 => k_is); (case c27 => k_is); (case k27 => k_is); (case a28 => k_is); (case l28 => k_is); (case c28 => k_is); (case k28 => k_is); (case n_ladder_prices_hours => k_is); (case n_ladder_prices_floor => k_is); (case aL => k_is); (case z_len => k_is); (case z_all => k_is); (case z_enumerate => k_is); (case z_tuple => k_is); (case z_list => k_is); (case z_range => k_is); (case z_abs => k_is); (case z_int => k_is); (case z_min => k_is); (case z_max => k_is); (case z_reversed => k_is); (case z_isinstance => k_is); (case z_bool => k_is); (case z_str => k_is); (case z_sum => k_is)
