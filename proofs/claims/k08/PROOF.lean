import PyProof.Rows.All
import Wide.All
import OpenK.AllK
import Wide.FinOn
import HandS.ForMost
import HandS.Style
import HandS.IsInst
import HandS.Defaults
import HandS.MakeKwOnly
import HandS.SortKw
import HandS.Walk
import KE.KSortKeySt
import KE.GoesEnum
import KE.DatumOrd
import KE.KRevSl
import HandS.Star
import KE.KTupSum
import KE.GoesMore
import KE.GoesZip
import HandS.DictComp
import HandS.RevRange
import HandS.Strs
import HandS.OwnEq
import HandS.SlotsOwn
import HandS.IterVal
import KE.KOwnIter
import KE.KOpsOwn
import KE.KEqDict
import HandS.NamedTupSort
import HandS.SortRule
import PyProof.WalkInts
import HandS.Zip
import KE.KDictZip
import KE.KDictSum
import HandS.Conv
import HandS.Deep
import PyProof.WalksMore
import PyProof.CollectIter
import PyProof.ListNew
import KE.LtData
import HandS.ExcInit
import HandS.ExcSuper
import HandS.Nested
import KE.KSuper
import KE.KSuperObj
import KE.KExcSuper
import HandS.ExcField
import HandS.ExcOwn
import HandS.ExcIs
import KE.KTryMore
import PyProof.InstSpecial
import HandS.Wide
import HandS.Gcd
import HandS.WordsExc
import PySem.Challenge.RW_turnsandkeys_k08_whole_first_way
set_option Elab.async false
set_option linter.all false
set_option maxRecDepth 100000
set_option maxHeartbeats 8000000
namespace TK
open PySem PySem.Spec PyProof.Rows L2
/-! ### a def that keeps its promise, as callers see it -/
structure Def (P : Program) (w : World) (K : PySem.W.Frag) (mg : Str → Option Value) (base : Heap) (x : Str) (k : Nat) (ps : List Str) (sp : Sp) : Prop where
  ex : ∃ (f : Addr) (fd : FuncData), FnOk P w K mg base CX0 k f fd ps sp ∧ mg x = some (.ref f) ∧ PySem.W.keepIn K (.ref f) = true ∧ Binds K fd ps []
section
variable {X : Cx} {x : Str} {k : Nat} {ps : List Str} {sp : Sp} {e : Expr} {es : List Expr} {t : TA} {p pos : Pos}
theorem pe_callD (D : Def X.prog X.w X.K X.mg X.base x k ps sp) (hr : Room k X.A) (hg : Gl X x) (ha : PA X (e :: es) t) (hdb : (x == ("__debug__" : Str)) = false := by decide)
    (he : starEach (e :: es) X.env = (false, eval e X.env) :: starEach es X.env := by rfl) (hpl : (backTo pos (starEach es X.env)).any (·.1) = false := by rfl) :
    PE X (.Call (.Name x p) (e :: es) [] pos) (tCall sp [] E0 t) := by
  obtain ⟨f, fd, F, g, kp, b⟩ := D.ex
  exact pe_call F hr hg g kp b .nil pass0 ha hdb he hpl
end
section
variable {X : Cx}
/-- x is True, x is False: x of any kind -/
def rIsT : R2 := fun x y H Q => ∃ b : Bool, y = .bl b ∧ Q (.bl (decide (x = .bl b))) H
theorem op_isT : OpR X (compareOp .Is) rIsT := by
  intro pins s σ H x y v u Q I rx ry h
  obtain ⟨b, rfl, q⟩ := h
  cases (show u = Value.bool b from ry)
  cases x with
  | bl a =>
    cases (show v = Value.bool a from rx)
    by_cases e : a = b
    · subst e
      exact wpAny_is_self rfl ⟨.bl true, H, I, rfl, by simpa using q⟩
    · exact wpAny_is_other rfl (fun z => e (Value.bool.inj z)) ⟨.bl false, H, I, rfl, by simpa [e] using q⟩
  | non => cases (show v = Value.none from rx); exact wpAny_is_other rfl (fun z => nomatch z) ⟨.bl false, H, I, rfl, by simpa using q⟩
  | int i => obtain ⟨t, rfl⟩ := (show ∃ t, v = Value.int i t from rx); exact wpAny_is_other rfl (fun z => nomatch z) ⟨.bl false, H, I, rfl, by simpa using q⟩
  | str i => obtain ⟨t, rfl⟩ := (show ∃ t, v = Value.str i t from rx); exact wpAny_is_other rfl (fun z => nomatch z) ⟨.bl false, H, I, rfl, by simpa using q⟩
  | byt i => obtain ⟨t, rfl⟩ := (show ∃ t, v = Value.bytes i t from rx); exact wpAny_is_other rfl (fun z => nomatch z) ⟨.bl false, H, I, rfl, by simpa using q⟩
  | flt i => obtain ⟨t, rfl⟩ := (show ∃ t, v = Value.float i t from rx); exact wpAny_is_other rfl (fun z => nomatch z) ⟨.bl false, H, I, rfl, by simpa using q⟩
  | ref a => cases (show v = Value.ref a from rx); exact wpAny_is_other rfl (fun z => nomatch z) ⟨.bl false, H, I, rfl, by simpa using q⟩
  | ty n => cases (show v = Value.type n from rx); exact wpAny_is_other rfl (fun z => nomatch z) ⟨.bl false, H, I, rfl, by simpa using q⟩
end
/-! ### rules within a comprehension: K by name -/
section
variable {X : Cx} {K : PySem.W.Frag}
theorem ix_listK (h : X.K = K) : IxR X (rIxL K) := h ▸ ix_list
theorem ix_tupK (h : X.K = K) : IxR X (rIxT K) := h ▸ ix_tup
theorem pg_tupK (h : X.K = K) {elts : List Expr} {kk : Nat} {pos : Pos} {n : Nat} {t : TGs} (hc : X.calm = true) (hp : PGs X elts t) (hn : (assignEach elts X.env).length = n := by rfl) (hst : (assignEach elts X.env).findIdx? (·.1) = none := by rfl) : PG X (.Tuple elts kk pos) (gTup K n t) := h ▸ pg_tup hc hp hn hst
theorem op_in_seqK (h : X.K = K) : OpR X (compareOp .In) (rIn K false) := h ▸ op_in_seq
theorem op_notIn_seqK (h : X.K = K) : OpR X (compareOp .NotIn) (rIn K true) := h ▸ op_notIn_seq
theorem call_len_seqK (h : X.K = K) : CallR X (.builtin "len") (fun xs H Q => ∃ p ys, xs = [.ref p] ∧ (SqL K H p ys ∨ SqT K H p ys) ∧ Q (.int ys.length) H) := h ▸ call_len_seq
end
/-! ### heaps -/
theorem same_upd {H : Hp} {p : Addr} {o : HO} (h : H p = none) : Same H (upd H p o) := fun b x e => by
  rw [upd_ne (ne_of_none e h)]
  exact e
theorem same_at {H H' : Hp} {p : Addr} {o : HO} (s : Same H H') (h : H p = none) : Same H (upd H' p o) := fun b x e => by
  rw [upd_ne (ne_of_none e h)]
  exact s b x e
theorem same_tup {K : PySem.W.Frag} {H H' : Hp} {a : Addr} {xs : List V} (e : Same H H') (h : SqT K H a xs) : SqT K H' a xs := by
  rcases h with (h | ⟨o, h⟩) | h
  · exact .inl (.inl (e _ _ h))
  · exact .inl (.inr ⟨o, e _ _ h⟩)
  · exact .inr h
theorem lstAt {K : PySem.W.Frag} {H : Hp} {a : Addr} {xs : List V} (h : H a = some (.lst xs)) : SqL K H a xs := .inl (.inl h)
theorem tupAt {K : PySem.W.Frag} {H : Hp} {a : Addr} {xs : List V} (h : H a = some (.tup xs)) : SqT K H a xs := .inl (.inl h)
theorem atI_in {α : Type} {xs : List α} {i : Int} {v : α} (h0 : 0 ≤ i) (h : xs[i.toNat]? = some v) : atI xs i = some v := by
  obtain ⟨n, rfl⟩ : ∃ n : Nat, i = (n : Int) := ⟨i.toNat, by omega⟩
  exact atI_nat h
theorem yesT {σ : L2.St} {H : Hp} {A B : Hp → Prop} (h : A H) : tYes σ H (fun b H3 => if b = true then A H3 else B H3) := by
  show if true = true then A H else B H
  rw [if_pos rfl]
  exact h
end TK

namespace TK
open PySem PySem.Spec PyProof.Rows L2
section
variable {X : Cx} {pins : List (Addr × Obj)} {σ : L2.St} {H : Hp} {s : Shared}
/-- an untracked object of ours comes to be tracked -/
theorem adopt {a : Addr} {o : HO} (I : Inv X pins σ H s) (f : FpOk X pins H a) (new : ObjOk X.prog X.w (upd H a o) s.heap a o) : Inv X pins σ (upd H a o) s := by
  obtain ⟨q0, q1, q2, q3, q4, q5⟩ := f
  have ne : ∀ b u, H b = some u → b ≠ a := fun b u e z => by rw [z, q0] at e; cases e
  refine I.step (h' := s.heap) (g' := s.gens) (t' := s.toks) (d' := s.drawn) (ch := [a]) (fun b hb => ?_) (fun b o _ _ _ e _ => e) (fun b o _ _ _ e _ => ⟨o.slots, e⟩) (fun b o hb _ n => ?_) (fun b o _ e => ⟨o, e⟩) (fun b xs e => ?_) (fun b o u e => ?_) (fun b ps e => ⟨#[], ?_⟩) (fun m hm => hm) (fun b u e => ?_) I.bare
  · have e : b = a := by simpa using hb
    subst e
    exact ⟨q3, q1, q4, q5⟩
  · rw [upd_ne (fun z => hb (by simp [z]))]; exact n
  · rw [upd_ne (ne b _ e)]; exact e
  · rw [upd_ne (ne b _ e)]; exact e
  · rw [upd_ne (ne b _ e), e]; simp
  · by_cases hb : b = a
    · subst hb
      rw [upd_same] at e
      cases e
      exact new
    · rw [upd_ne hb] at e
      exact (I.hok b u e).stay (fun c v _ q => q) (fun c q => by rw [upd_ne (ne c _ q)]; exact q) fun c xs q => by rw [upd_ne (ne c _ q)]; exact q
/-- a def called from within a built-in's method -/
theorem run_fn2 {k : Nat} {f : Addr} {fd : FuncData} {ps : List Str} {sp : Sp} {Q : VK} {us : List Value} {itm : List V} {E' : Value → Shared → Prop} (F : FnOk X.prog X.w X.K X.mg X.base CX0 k f fd ps sp) (hr : Room (k + 2) X.A) (hb : Binds X.K fd ps [])
    (I : Inv X pins σ H s) (r : Vals itm us) (h : sp itm H Q E0) : wpAny (model X.prog X.w) X.A.in1.in1 (call (.ref f) us) (EP X pins σ Q) E' s := by
  have hl : (us ++ []).length = ps.length := by rw [List.append_nil, ← r.length]; exact F.len _ _ _ _ h
  have hbb := hb s us I.kIn hl
  rw [List.append_nil] at hbb
  refine wpAny_call (codeAny_mono (F.run X.A.in1.in1 X.stack s H ⟨us, []⟩ us itm Q E0 hr.in1.in1 I.env0.in1.in1 hbb r h) fun r s' hq => ?_)
  cases r with
  | error e => exact False.elim hq
  | ok fl =>
    cases fl with
    | ret u => exact I.after hq
    | next => exact False.elim hq
    | brk => exact False.elim hq
    | cont => exact False.elim hq
end
section
variable {X : Cx} {pins : List (Addr × Obj)} {σ : L2.St} {H : Hp} {s : Shared} {A : Around} {E : Value → Shared → Prop} {a kS : Addr} {itm : List Value} {kl : List Int} {kar : Array Value} {e ep1 : Nat} {P : PySem.Fin → Shared → Prop}
theorem sb_tail {st : SortSt} (I : Inv X pins σ H s) (gk : s.heap.get? kS = some (seqObj "list" kar e)) (ga : s.heap.get? a = some (seqObj "list" #[] ep1)) (fa : FpOk X pins H a) (fk : FpOk X pins H kS) (hka : kS ≠ a)
    (hki : IntsAre kar.toList kl) (hle : kl.length = itm.length) (hsm : itm.length ≤ sizeLine) (hp : (arrOf st).Perm (kar.zip itm.toArray)) (hs : SortedTo (arrOf st) (arrOf st).size) (hfl : failedOf st = none)
    (hst : Stable intKind (arrOf st) (kar.zip itm.toArray))
    (h : ∀ s' out c, Inv X pins σ H s' → s'.heap.get? a = some (seqObj "list" out c) → KskOutSt false kl itm out.toList → P (.done (.ret .none)) s') :
    wpAny (model X.prog X.w) A (ksk_tail a false ep1 (.ref kS) st) P E s := by
  have hsm2 := hsm
  rw [sizeLine_eq] at hsm2
  have zk : kar.size = itm.length := by
    have h1 := hki.length
    rw [Array.length_toList] at h1
    omega
  have za : (arrOf st).size = itm.length := by rw [hp.size_eq, Array.size_zip, zk, List.size_toArray, Nat.min_self]
  have zo : ((arrOf st).map (·.2)).size = itm.length := by rw [Array.size_map]; exact za
  have s1 := Heap.SameBut.update s.heap kS (Obj.mapSeq fun _ => (#[] : Array Value))
  have ga1 : (s.heap.update kS (Obj.mapSeq fun _ => (#[] : Array Value))).get? a = some (seqObj "list" #[] ep1) := (s1.2 a hka.symm).trans ga
  have s2 := Heap.SameBut.update (s.heap.update kS (Obj.mapSeq fun _ => (#[] : Array Value))) a (Obj.mapSeq fun _ => (arrOf st).map (·.2))
  obtain ⟨cn, gcn⟩ : ∃ cn, ((s.heap.update kS (Obj.mapSeq fun _ => (#[] : Array Value))).update a (Obj.mapSeq fun _ => (arrOf st).map (·.2))).get? a = some (seqObj "list" ((arrOf st).map (·.2)) cn) :=
    ⟨_, get?_update_seq ga1 fun _ => (arrOf st).map (·.2)⟩
  obtain ⟨k0, k1, k2, k3, k4, k5⟩ := fk
  obtain ⟨a0, a1, a2, a3, a4, a5⟩ := fa
  have I1 : Inv X pins σ H { s with heap := s.heap.update kS (Obj.mapSeq fun _ => (#[] : Array Value)) } := I.turned (t' := s.toks) (fun b o hb q => (s1.2 b hb).trans q) k0 k1 k3 k4 k5
  unfold ksk_tail
  try dsimp only
  refine wpAny_bind (listUpdate_at gk rfl ?_ (by rw [zk, sizeLine_eq]; omega) (Nat.zero_le _))
  refine wpAny_bind (wpAny_letGo ?_)
  refine wpAny_bind (seqEpoch_at ga1 rfl ?_)
  refine wpAny_bind (listUpdate_at ga1 rfl ?_ (Nat.zero_le _) (Nat.le_trans (Nat.le_of_eq zo) (by rw [sizeLine_eq]; omega)))
  rw [hfl]
  simp only [bne_self_eq_false, Bool.false_eq_true, if_false]
  refine wpAny_pure (h _ _ cn (I1.turned (t' := s.toks) (fun b o hb q => (s2.2 b hb).trans q) a0 a1 a3 a4 a5) gcn ?_)
  exact ksk_outSt (b := false) hki hp hs (by simpa using hst)
theorem sb_end (I : Inv X pins σ H s) (gk : s.heap.get? kS = some (seqObj "list" kar e)) (ga : s.heap.get? a = some (seqObj "list" #[] ep1)) (fa : FpOk X pins H a) (fk : FpOk X pins H kS) (hka : kS ≠ a)
    (hki : IntsAre kar.toList kl) (hle : kl.length = itm.length) (hsm : itm.length ≤ sizeLine)
    (h : ∀ s' out c, Inv X pins σ H s' → s'.heap.get? a = some (seqObj "list" out c) → KskOutSt false kl itm out.toList → P (.done (.ret .none)) s') :
    wpAny (model X.prog X.w) A (ksk_end a false itm.toArray ep1 (.ref kS) kar) P E s := by
  have hsm2 := hsm
  rw [sizeLine_eq] at hsm2
  have zk : kar.size = itm.length := by
    have h1 := hki.length
    rw [Array.length_toList] at h1
    omega
  have zz : (kar.zip itm.toArray).size = itm.length := by rw [Array.size_zip, zk, List.size_toArray, Nat.min_self]
  unfold ksk_end
  try dsimp only
  simp only [Bool.false_eq_true, if_false]
  by_cases few : itm.toArray.size < 2
  · rw [if_pos few, if_pos few]
    refine wpAny_bind (wpAny_pure ?_)
    rw [StateT.run_pure]
    refine wpAny_bind (wpAny_pure ?_)
    try dsimp only
    refine sb_tail (st := SortSt.mk' general' (kar.zip itm.toArray) #[] 7 none) I gk ga fa fk hka hki hle hsm (Array.Perm.refl _) ?_ rfl (Stable.refl _) h
    intro i j hij jlt
    have hj2 : j < (kar.zip itm.toArray).size := jlt
    rw [zz] at hj2
    rw [List.size_toArray] at few
    have : i = j := by omega
    subst this
    exact Int.le_refl _
  · rw [if_neg few, if_neg few]
    rw [List.size_toArray] at few
    rw [ksk_kind hki (by rw [zk]; omega)]
    refine wpAny_bind (wpAny_pure ?_)
    refine wpAny_bind (wpAny_mono (wpS_sortRunsSt (κ := intKind) (a₀ := kar.zip itm.toArray)
      (st := SortSt.mk' oneType' (kar.zip itm.toArray) #[] 7 none)
      (Q := fun _ sq => (arrOf sq).Perm (kar.zip itm.toArray) ∧ failedOf sq = none ∧ SortedTo (arrOf sq) (arrOf sq).size ∧
        Stable intKind (arrOf sq) (kar.zip itm.toArray))
      intKind_oneLt (ksk_keysOfInt (ksk_intKeys hki)) ⟨Array.Perm.refl _, rfl, rfl⟩ rfl (Stable.refl _) (by rw [zz]; omega)
      fun sq a1 a2 a3 a4 => ⟨a1, a2, by rw [a1.size_eq]; exact sortedTo_of_int a3, a4⟩) ?_ fun _ _ e => e)
    rintro ⟨⟨⟩, sq⟩ s' ⟨rfl, hp, hf, hs, hst⟩
    try dsimp only
    exact sb_tail I gk ga fa fk hka hki hle hsm hp hs hf hst h
theorem sb_rest {f : Value} (I : Inv X pins σ H s) (gk : s.heap.get? kS = some (seqObj "list" #[] 0)) (ga : s.heap.get? a = some (seqObj "list" #[] ep1)) (fa : FpOk X pins H a) (fk : FpOk X pins H kS) (hka : kS ≠ a)
    (hle : kl.length = itm.length) (hsm : itm.length ≤ sizeLine)
    (turn : ∀ (i : Nat) (v : Value) (k : Int) (pins' : List (Addr × Obj)) (s' : Shared), itm[i]? = some v → kl[i]? = some k → Inv X pins' σ H s' →
      wpAny (model X.prog X.w) A (call f [v]) (EP X pins' σ fun x H' => x = .int k ∧ H' = H) (fun _ _ => False) s')
    (h : ∀ s' out c, Inv X pins σ H s' → s'.heap.get? a = some (seqObj "list" out c) → KskOutSt false kl itm out.toList → P (.done (.ret .none)) s') :
    wpAny (model X.prog X.w) A (ksk_rest a f false itm.toArray ep1 (.ref kS)) P E s := by
  have hsm2 := hsm
  rw [sizeLine_eq] at hsm2
  unfold ksk_rest
  refine wpAny_bind (wpAny_rule ?_)
  first
    | rw [List.forIn_toArray]
    | (rw [← Array.forIn_toList]; simp only [List.toList_toArray])
    | rw [← Array.forIn_toList]
  refine wpAny_bind (ksk_fold (fun i s' => ∃ gar e, Inv X pins σ H s' ∧ s'.heap.get? kS = some (seqObj "list" gar e) ∧ s'.heap.get? a = some (seqObj "list" #[] ep1) ∧ IntsAre gar.toList (kl.take i)) itm 0 s
    ⟨#[], 0, I, gk, ga, by simpa using IntsAre.nil⟩ ?step ?done)
  case step =>
    rintro j x s' hx ⟨gar, e, I', nk', na', hki⟩
    simp only [Nat.zero_add] at hki ⊢
    have jlt : j < itm.length := (List.getElem?_eq_some_iff.mp hx).1
    obtain ⟨k, ekj⟩ : ∃ k, kl[j]? = some k := ⟨_, List.getElem?_eq_getElem (by omega)⟩
    have gsm : gar.size ≤ itm.length := by
      have h1 := hki.length
      rw [Array.length_toList, List.length_take] at h1
      omega
    have I2 : Inv X (pins ++ [(kS, seqObj "list" gar e), (a, seqObj "list" #[] ep1)]) σ H s' := I'.pins_of fun p hp => by
      rcases List.mem_append.mp hp with hp | hp
      · exact I'.pin p (List.mem_append_right _ hp)
      · rcases List.mem_cons.mp hp with rfl | hp
        · exact ⟨nk', fk.1, fk.2.1, fk.2.2.1, fun v z => nomatch z⟩
        · rw [List.mem_singleton.mp hp]
          exact ⟨na', fa.1, fa.2.1, fa.2.2.1, fun v z => nomatch z⟩
    refine wpAny_bind (wpAny_attempt (wpAny_mono (turn j x k _ s' hx ekj I2) (fun v s'' he => ?_) fun _ _ hF => hF.elim))
    obtain ⟨y, H', I3, ry, rfl, rfl⟩ := he
    obtain ⟨t2, rfl⟩ : ∃ t, v = Value.int k t := ry
    try dsimp only
    have nk3 := (I3.pin (kS, seqObj "list" gar e) (List.mem_append_right _ (List.mem_append_right _ (.head _)))).1
    have na3 := (I3.pin (a, seqObj "list" #[] ep1) (List.mem_append_right _ (List.mem_append_right _ (.tail _ (.head _))))).1
    have s1 := Heap.SameBut.update s''.heap kS (Obj.mapSeq (·.push (.int k t2)))
    obtain ⟨cn, gcn⟩ : ∃ cn, (s''.heap.update kS (Obj.mapSeq (·.push (.int k t2)))).get? kS = some (seqObj "list" (gar.push (.int k t2)) cn) := ⟨_, get?_update_seq nk3 (·.push (.int k t2))⟩
    have et : kl.take (j + 1) = kl.take j ++ [k] := by rw [List.take_add_one, ekj]; simp
    have epu : (gar.push (Value.int k t2)).toList = gar.toList ++ [Value.int k t2] := by simp
    obtain ⟨k0, k1, _, k3, k4, k5⟩ := fk
    refine wpAny_bind (listUpdate_at nk3 rfl ?_ (by rw [sizeLine_eq]; omega) (Nat.le_trans (Nat.le_of_eq (Array.size_push ..)) (by rw [sizeLine_eq]; omega)))
    refine wpAny_pure ⟨rfl, gar.push (.int k t2), cn, I3.unpinned.turned (t' := s''.toks) (fun b o hb q => (s1.2 b hb).trans q) k0 k1 k3 k4 k5, gcn, (s1.2 a hka.symm).trans na3, by rw [epu, et]; exact ksk_snoc hki⟩
  case done =>
    rintro s' ⟨gar, e, I', nk', na', hki⟩
    have hkf : IntsAre gar.toList kl := by
      have eall : kl.take (0 + itm.length) = kl := List.take_of_length_le (by omega)
      rw [eall] at hki
      exact hki
    try dsimp only
    refine wpAny_bind (listItems_at nk' rfl ?_)
    exact sb_end I' nk' na' fa fk hka hkf hle hsm h
end
end TK

namespace TK
open PySem PySem.Spec PyProof.Rows L2
section
variable {prog : Program} {w : World} {A : Around} {E : Value → Shared → Prop} {s : Shared}
/-- the items of a tuple, drawn together -/
theorem collect_tup {t : Addr} {vs : List Value} {Q : List Value → Shared → Prop} (ht : IsTup s.heap t vs.toArray) (hsm : vs.length ≤ sizeLine)
    (h : Q vs { s with heap := (s.heap.push (seqObj "list" #[] 0)).update s.heap.objs.size (Obj.mapSeq (· ++ vs.toArray)) }) : wpAny (model prog w) A (collect (.ref t)) Q E s := by
  obtain ⟨ob, gob0, hcls, n, hdt⟩ := ht
  unfold collect
  refine wpAny_bind (wpAny_runValue (codeAny_builtin entry_proto_collect' ?_))
  show wpAny _ _ (do again (.builtin "list.__iadd__" ⟨[← newList [], .ref t], []⟩)) _ _ s
  refine wpAny_bind (wpAny_newList (wpAny_pure ⟨Code.quiet_builtin _ (by decide +kernel), codeAny_builtin entry_list_iadd' ?_⟩))
  show wpAny _ _ (Builtin.List.listExtendWith (.ref s.heap.objs.size) (.ref t) (.ref s.heap.objs.size)) _ _ { s with heap := s.heap.push (seqObj "list" #[] 0) }
  have gob : (s.heap.push (seqObj "list" #[] 0)).get? t = some ob := Heap.get?_push_of_some _ gob0
  have gnew : (s.heap.push (seqObj "list" #[] 0)).get? s.heap.objs.size = some (seqObj "list" #[] 0) := Heap.get?_push_size _ rfl
  unfold Builtin.List.listExtendWith
  refine wpAny_bind (wpAny_typeOf (T := "tuple") ⟨ob, gob, hcls⟩ ?_)
  rw [if_pos (by simp only [show (Value.type "tuple" == Value.type "tuple") = true from rfl, Bool.or_true])]
  refine wpAny_bind (listItems_at gob hdt (wpAny_bind (listItems_at gnew rfl ?_)))
  rw [if_neg (by simp)]
  refine wpAny_bind (listUpdate_at gnew rfl (wpAny_pure ?_) (Nat.zero_le _) (by simp only [Array.size_append, List.size_toArray, List.length_nil]; omega))
  show wpAny (model prog w) A (do
      let o ← load s.heap.objs.size
      match o.data with
      | .seq xs _ => pure xs.toList
      | _ => unsupported "internal:collect") Q E _
  refine wpAny_bind (wpAny_load (get?_update_seq gnew _) ?_)
  show wpAny _ _ (pure ((#[] : Array Value) ++ vs.toArray).toList) Q E _
  rw [show ((#[] : Array Value) ++ vs.toArray).toList = vs by simp]
  exact wpAny_pure h
end
section
variable {X : Cx} {pins : List (Addr × Obj)} {σ : L2.St} {H : Hp} {s : Shared} {A : Around} {E : Value → Shared → Prop} {a : Addr} {vs : List Value} {kz : List Int} {P : PySem.Fin → Shared → Prop}
theorem sb_sort {f : Value} {n : Nat} (I : Inv X pins σ H s) (ho : s.heap.get? a = some (seqObj "list" vs.toArray n)) (fa : FpOk X pins H a) (hlen : kz.length = vs.length) (hZ : vs.length ≤ sizeLine)
    (turn : ∀ (i : Nat) (v : Value) (k : Int) (pins' : List (Addr × Obj)) (s' : Shared), vs[i]? = some v → kz[i]? = some k → Inv X pins' σ H s' →
      wpAny (model X.prog X.w) A (call f [v]) (EP X pins' σ fun x H' => x = .int k ∧ H' = H) (fun _ _ => False) s')
    (h : ∀ s' out c, Inv X pins σ H s' → s'.heap.get? a = some (seqObj "list" out c) → KskOutSt false kz vs out.toList → P (.done (.ret .none)) s') :
    wpAny (model X.prog X.w) A (ksk_tree a f false) P E s := by
  have hZ2 := hZ
  rw [sizeLine_eq] at hZ2
  have hal : a < s.heap.objs.size := Heap.lt_size ho
  generalize hh1 : s.heap.update a (Obj.mapSeq fun _ => (#[] : Array Value)) = h1
  have sb : Heap.SameBut a s.heap h1 := by rw [← hh1]; exact Heap.SameBut.update s.heap a _
  obtain ⟨e1, ho1⟩ : ∃ e1, h1.get? a = some (seqObj "list" #[] e1) := by rw [← hh1]; exact ⟨_, get?_update_seq ho fun _ => #[]⟩
  have hz1 : h1.objs.size = s.heap.objs.size := by rw [← hh1, Heap.size_update]
  obtain ⟨a0, a1, a2, a3, a4, a5⟩ := id fa
  have I1 : Inv X pins σ H { s with heap := h1 } := I.turned (t' := s.toks) (fun b o hb q => (sb.2 b hb).trans q) a0 a1 a3 a4 a5
  have I2 : Inv X pins σ H { s with heap := (h1.push (seqObj "tuple" vs.toArray 0)).push (seqObj "list" #[] 0) } := I1.kept (t' := s.toks) fun b o q => Heap.get?_push_of_some _ (Heap.get?_push_of_some _ q)
  have hkz : (h1.push (seqObj "tuple" vs.toArray 0)).objs.size = s.heap.objs.size + 1 := by rw [size_push', hz1]
  unfold ksk_tree
  refine wpAny_bind (listItems_at ho rfl (wpAny_bind (listUpdate_at ho rfl ?_ (by rw [List.size_toArray, sizeLine_eq]; omega) (Nat.zero_le _))))
  rw [hh1]
  refine wpAny_bind (seqEpoch_at ho1 rfl (wpAny_bind (wpAny_newTuple (wpAny_bind (wpAny_newList (wpAny_holding ?_) (Nat.zero_le _))) (by show vs.length ≤ _; rw [sizeLine_eq]; omega))))
  refine sb_rest (s := { s with heap := (h1.push (seqObj "tuple" vs.toArray 0)).push (seqObj "list" #[] 0) }) (kS := (h1.push (seqObj "tuple" vs.toArray 0)).objs.size) I2 (Heap.get?_push_size _ rfl) (Heap.get?_push_of_some _ (Heap.get?_push_of_some _ ho1)) fa ?_ (Nat.ne_of_gt (by rw [hkz]; exact Nat.lt_succ_of_lt hal)) hlen hZ turn h
  exact I1.fpOk (by show h1.objs.size ≤ _; rw [hkz, hz1]; omega) (I1.hok.fresh (by show h1.objs.size ≤ _; rw [hkz, hz1]; omega))
end
/-! ### the stable order by a key -/
def insK {α : Type} (x : Int × α) : List (Int × α) → List (Int × α)
  | [] => [x]
  | y :: r => if x.1 ≤ y.1 then x :: y :: r else y :: insK x r
def sortK {α : Type} : List (Int × α) → List (Int × α)
  | [] => []
  | x :: r => insK x (sortK r)
section
variable {α : Type}
theorem insK_perm (x : Int × α) : ∀ l, (insK x l).Perm (x :: l)
  | [] => .refl _
  | y :: r => by
    unfold insK
    split
    · exact .refl _
    · exact ((insK_perm x r).cons y).trans (.swap x y r)
theorem sortK_perm : ∀ l : List (Int × α), (sortK l).Perm l
  | [] => .refl _
  | x :: r => (insK_perm x (sortK r)).trans ((sortK_perm r).cons x)
theorem insK_up (x : Int × α) : ∀ l : List (Int × α), l.Pairwise (fun p q => p.1 ≤ q.1) → (insK x l).Pairwise (fun p q => p.1 ≤ q.1)
  | [], _ => List.pairwise_singleton ..
  | y :: r, h => by
    unfold insK
    split
    · rename_i hx
      refine List.Pairwise.cons (fun z hsm => ?_) h
      rcases List.mem_cons.mp hsm with rfl | hsm
      · exact hx
      · exact Int.le_trans hx (List.rel_of_pairwise_cons h hsm)
    · rename_i hx
      refine List.Pairwise.cons (fun z hsm => ?_) (insK_up x r (List.Pairwise.of_cons h))
      rcases List.mem_cons.mp ((insK_perm x r).mem_iff.mp hsm) with rfl | hsm
      · omega
      · exact List.rel_of_pairwise_cons h hsm
theorem sortK_up : ∀ l : List (Int × α), (sortK l).Pairwise (fun p q => p.1 ≤ q.1)
  | [] => .nil
  | x :: r => insK_up x _ (sortK_up r)
theorem insK_filter (x : Int × α) (c : Int) : ∀ l : List (Int × α), l.Pairwise (fun p q => p.1 ≤ q.1) → (insK x l).filter (fun p => p.1 == c) = (x :: l).filter (fun p => p.1 == c)
  | [], _ => rfl
  | y :: r, h => by
    unfold insK
    split
    · rfl
    · rename_i hx
      have ih := insK_filter x c r (List.Pairwise.of_cons h)
      rw [List.filter_cons, ih, List.filter_cons, List.filter_cons, List.filter_cons]
      by_cases h1 : (x.1 == c) = true
      · by_cases h2 : (y.1 == c) = true
        · have e1 : x.1 = c := by simpa using h1
          have e2 : y.1 = c := by simpa using h2
          omega
        · simp [h1, h2]
      · simp [h1]
theorem sortK_filter (c : Int) : ∀ l : List (Int × α), (sortK l).filter (fun p => p.1 == c) = l.filter (fun p => p.1 == c)
  | [] => rfl
  | x :: r => by
    show (insK x (sortK r)).filter _ = _
    rw [insK_filter x c _ (sortK_up r), List.filter_cons, sortK_filter c r, List.filter_cons]
theorem stable_one : ∀ {l m : List (Int × α)}, l.Perm m → l.Pairwise (fun p q => p.1 ≤ q.1) → m.Pairwise (fun p q => p.1 ≤ q.1) → (∀ c, l.filter (fun p => p.1 == c) = m.filter (fun p => p.1 == c)) → l = m
  | [], m, hp, _, _, _ => by rw [List.nil_perm.mp hp]
  | x :: l, [], hp, _, _, _ => by cases hp.length_eq
  | x :: l, y :: m, hp, h1, h2, hf => by
    have le1 : x.1 ≤ y.1 := by
      rcases List.mem_cons.mp (hp.mem_iff.mpr (List.mem_cons_self ..) : y ∈ x :: l) with e | e
      · rw [e]; exact Int.le_refl _
      · exact List.rel_of_pairwise_cons h1 e
    have le2 : y.1 ≤ x.1 := by
      rcases List.mem_cons.mp (hp.mem_iff.mp (List.mem_cons_self ..) : x ∈ y :: m) with e | e
      · rw [e]; exact Int.le_refl _
      · exact List.rel_of_pairwise_cons h2 e
    have e : x.1 = y.1 := by omega
    have hx := hf x.1
    rw [List.filter_cons, List.filter_cons, if_pos (by simp), if_pos (by simp [e])] at hx
    obtain ⟨exy, _⟩ := List.cons.inj hx
    subst exy
    rw [stable_one (List.Perm.cons_inv hp) (List.Pairwise.of_cons h1) (List.Pairwise.of_cons h2) fun c => ?_]
    have := hf c
    rw [List.filter_cons, List.filter_cons] at this
    split at this
    · exact (List.cons.inj this).2
    · exact this
theorem insK_map {β : Type} (g : α → β) (x : Int × α) : ∀ l : List (Int × α), (insK x l).map (fun p => (p.1, g p.2)) = insK (x.1, g x.2) (l.map fun p => (p.1, g p.2))
  | [] => rfl
  | y :: r => by
    unfold insK
    by_cases h : x.1 ≤ y.1
    · rw [if_pos h]
      show _ = if x.1 ≤ y.1 then _ else _
      rw [if_pos h]; rfl
    · rw [if_neg h]
      show _ = if x.1 ≤ y.1 then _ else _
      rw [if_neg h, List.map_cons, insK_map g x r]
theorem sortK_map {β : Type} (g : α → β) : ∀ l : List (Int × α), (sortK l).map (fun p => (p.1, g p.2)) = sortK (l.map fun p => (p.1, g p.2))
  | [] => rfl
  | x :: r => by
    show (insK x (sortK r)).map _ = insK _ (sortK (r.map _))
    rw [insK_map, sortK_map g r]
end
/-- sorted pairs of related values are related -/
theorem insK_rel {x : Int × V} {u : Int × Value} (e : x.1 = u.1) (r : RelV x.2 u.2) : ∀ {l : List (Int × V)} {m : List (Int × Value)}, Paired (fun p q => p.1 = q.1 ∧ RelV p.2 q.2) l m → Paired (fun (p : Int × V) (q : Int × Value) => p.1 = q.1 ∧ RelV p.2 q.2) (insK x l) (insK u m)
  | _, _, .nil => .cons ⟨e, r⟩ .nil
  | y :: l, v :: m, .cons h t => by
    unfold insK
    rw [← e, ← h.1]
    split
    · exact .cons ⟨e, r⟩ (.cons h t)
    · exact .cons h (insK_rel e r t)
theorem sortK_rel : ∀ {l : List (Int × V)} {m : List (Int × Value)}, Paired (fun p q => p.1 = q.1 ∧ RelV p.2 q.2) l m → Paired (fun (p : Int × V) (q : Int × Value) => p.1 = q.1 ∧ RelV p.2 q.2) (sortK l) (sortK m)
  | _, _, .nil => .nil
  | _, _, .cons h t => insK_rel h.1 h.2 (sortK_rel t)
theorem zip_rel : ∀ {kz : List Int} {xs : List V} {us : List Value}, Vals xs us → Paired (fun (p : Int × V) (q : Int × Value) => p.1 = q.1 ∧ RelV p.2 q.2) (kz.zip xs) (kz.zip us)
  | [], _, _, _ => .nil
  | _ :: _, _, _, .nil => .nil
  | k :: kz, _, _, .cons r t => .cons ⟨rfl, r⟩ (zip_rel t)
theorem rel_snd : ∀ {l : List (Int × V)} {m : List (Int × Value)}, Paired (fun p q => p.1 = q.1 ∧ RelV p.2 q.2) l m → Vals (l.map Prod.snd) (m.map Prod.snd)
  | _, _, .nil => .nil
  | _, _, .cons h t => .cons h.2 (rel_snd t)
def byKey (ks : List Int) (xs : List V) : List V := (sortK (ks.zip xs)).map Prod.snd
theorem byKey_len {ks : List Int} {xs : List V} (h : ks.length = xs.length) : (byKey ks xs).length = xs.length := by
  unfold byKey
  rw [List.length_map, (sortK_perm _).length_eq, List.length_zip, h, Nat.min_self]
section
variable {X : Cx}
/-- sorted(xs, key=f), f a def whose answer is an int and that leaves the heap -/
def rSortedBy (K : PySem.W.Frag) (f : Addr) (sp : Sp) : List V → List V → Hp → VK → Prop := fun vs zs H Q => ∃ (a : Addr) (xs : List V) (ks : List Int), vs = [V.ref a] ∧ zs = [V.ref f] ∧ (SqL K H a xs ∨ SqT K H a xs) ∧ ks.length = xs.length ∧
  (∀ (i : Nat) (x : V) (k : Int), xs[i]? = some x → ks[i]? = some k → sp [x] H (fun v H' => v = .int k ∧ H' = H) E0) ∧ ∀ p, H p = none → Q (.ref p) (upd H p (.lst (byKey ks xs)))
theorem cr_sortedBy {k : Nat} {f : Addr} {fd : FuncData} {ps : List Str} {sp : Sp} (F : FnOk X.prog X.w X.K X.mg X.base CX0 k f fd ps sp) (hr : Room (k + 2) X.A) (hb : Binds X.K fd ps []) : CallRK X (.builtin "sorted") [Str.ofString "key"] (rSortedBy X.K f sp) := by
  intro pins s σ H xs zs us ws Q I rx rz hq
  obtain ⟨a, ys, ks, rfl, rfl, hS, hkl, hsp, q⟩ := hq
  cases rx with
  | cons r1 r2 =>
    cases r2
    cases r1
    cases rz with
    | cons z1 z2 =>
      cases z2
      cases z1
      obtain ⟨its, rv, hcol, hsm⟩ : ∃ its : List Value, Vals ys its ∧ (∀ (A : Around) (Q : List Value → Shared → Prop) (E : Value → Shared → Prop), Q its { s with heap := (s.heap.push (seqObj "list" #[] 0)).update s.heap.objs.size (Obj.mapSeq (· ++ its.toArray)) } → wpAny (model X.prog X.w) A (collect (.ref a)) Q E s) ∧ its.length ≤ sizeLine := by
        rcases hS with hS | hS
        · obtain ⟨its, rv, hl, hsm⟩ := I.list hS
          have hz' : its.length ≤ sizeLine := by rw [← rv.length]; exact hsm
          exact ⟨its, rv, fun A Q E h => collect_list hl.isList h hz', hz'⟩
        · obtain ⟨its, rv, hl, hsm⟩ := I.tuple hS
          have hz' : its.length ≤ sizeLine := by rw [← rv.length]; exact hsm
          exact ⟨its, rv, fun A Q E h => collect_tup hl hz' h, hz'⟩
      have hlen : ks.length = its.length := by rw [hkl, rv.length]
      show wpAny _ _ (call (.builtin "sorted") [.ref a] [(Str.ofString "key", .ref f)]) _ _ _
      refine call_function_entry_kw kind_sorted plain_sorted entry_sorted (ksk_s1 _ _) ?_
      unfold Builtin.«sorted»
      refine wpAny_bind (m := checkCount "sorted" 1 1 _) (wpAny_pure (wpAny_bind (hcol _ _ _ (wpAny_bind (wpAny_newList ?_ hsm)))))
      generalize hh1 : (s.heap.push (seqObj "list" #[] 0)).update s.heap.objs.size (Obj.mapSeq (· ++ its.toArray)) = h1
      have hz1 : h1.objs.size = s.heap.objs.size + 1 := by rw [← hh1, Heap.size_update, size_push']
      have kp1 : ∀ b o, s.heap.get? b = some o → h1.get? b = some o := fun b o e => by
        rw [← hh1, Heap.get?_update_ne _ _ _ _ (Nat.ne_of_lt (Heap.lt_size e))]
        exact Heap.get?_push_of_some _ e
      have hoL : (h1.push (seqObj "list" its.toArray 0)).get? h1.objs.size = some (seqObj "list" its.toArray 0) := Heap.get?_push_size _ rfl
      have I1 : Inv X pins σ H { s with heap := h1 } := I.kept (t' := s.toks) kp1
      have I2 : Inv X pins σ H { s with heap := h1.push (seqObj "list" its.toArray 0) } := I1.kept (t' := s.toks) fun b o e => Heap.get?_push_of_some _ e
      have fa : FpOk X pins H h1.objs.size := I1.fpOk (Nat.le_refl _) (I1.hok.fresh (Nat.le_refl _))
      refine wpAny_bind (wpAny_holding (wpAny_call_entry_kw slot_list_sort ⟨_, hoL, rfl⟩ entry_list_sort ?_ (ksk_l1 _ _)))
      show wpAny (model X.prog X.w) X.A.in1.in1 (Builtin.«list.sort» ⟨[.ref h1.objs.size], [(Str.ofString "key", .ref f)]⟩) _ _ _
      rw [ksk_t1]
      refine sb_sort (s := { s with heap := h1.push (seqObj "list" its.toArray 0) }) (kz := ks) I2 hoL fa hlen hsm (fun i v k pins' s' hv hk I' => ?_) fun s' out c I' ho' ko => ⟨_, rfl, ?_⟩
      · obtain ⟨x, hx, rxv⟩ : ∃ x, ys[i]? = some x ∧ RelV x v := by
          have hi : i < ys.length := by rw [rv.length]; exact (List.getElem?_eq_some_iff.mp hv).1
          obtain ⟨u, hu, ru⟩ := rv.get (List.getElem?_eq_getElem hi)
          rw [hv] at hu
          cases hu
          exact ⟨_, List.getElem?_eq_getElem hi, ru⟩
        exact run_fn2 F hr hb I' (.cons rxv .nil) (hsp i x k hx hk)
      · obtain ⟨pr, p1, p2, p3, p4⟩ := ko
        have e1 : pr = sortK (ks.zip its) := stable_one (p1.trans (sortK_perm _).symm) (by simpa using p3) (sortK_up _) fun c => (p4 c).trans (sortK_filter c _).symm
        have rel : Vals (byKey ks ys) out.toList := by
          rw [p2, e1]
          exact rel_snd (sortK_rel (zip_rel rv))
        have hbz : (byKey ks ys).length ≤ sizeLine := by rw [byKey_len hkl, rv.length]; exact hsm
        refine wpAny_pure ⟨_, rfl, ?_⟩
        exact ⟨.ref h1.objs.size, upd H h1.objs.size (.lst (byKey ks ys)), adopt I' fa ⟨hbz, out.toList, c, rel, by rw [Array.toArray_toList]; exact ho'⟩, rfl, q _ fa.1⟩
end
end TK

namespace TK
open PySem PySem.Spec PyProof.Rows L2
/-! ### enumerate(tuple) -/
theorem meets_enum1 {v : Value} {o : Obj} {G : Heap → Prop} (B : Begins v o G) :
    Meets (Builtin.«enumerate.__new__» ⟨[.type "enumerate", v], []⟩) (fun _ R s => G s.heap ∧
      R (.ok (.ret (.ref (s.heap.push o).objs.size))) { s with heap := (s.heap.push o).push { cls := .type "enumerate", data := .fields #[.none, .bool false, .ref s.heap.objs.size, rawInt 0, .none, .none] } }) :=
  .of_wp fun prog w A R s hh => by
    obtain ⟨hp, gg, dd, tk, os⟩ := s
    obtain ⟨hG, hR⟩ := hh
    have hsub := sub_enumerate
    have it1 : ∀ {A' : Around} {E' : Value → Shared → Prop} {Q : Value → Shared → Prop}, Q (.ref hp.objs.size) ⟨hp.push o, gg, dd, tk, os⟩ → wpAny (model prog w) A' (pyIter v) Q E' ⟨hp, gg, dd, tk, os⟩ := fun q => B.iter prog w _ _ ⟨hp, gg, dd, tk, os⟩ _ hG q
    wp_walk using it1
    refine wpAny_stack_any fun st => wpAny_pure ?_
    split
    · rename_i c _ _ _ _ _
      cases (c == Value.type "enumerate") <;> (wp_walk using it1; exact ⟨_, rfl, hR⟩)
    · wp_walk using it1
      exact ⟨_, rfl, hR⟩
section
variable {prog : Program} {w : World} {A : Around} {E : Value → Shared → Prop} {s : Shared}
theorem call_enum1 {v : Value} {o : Obj} {G : Heap → Prop} {Q : Value → Shared → Prop} (B : Begins v o G) (hG : G s.heap)
    (h : ∀ h', IsEnum h' (s.heap.objs.size + 1) s.heap.objs.size 0 .none → h'.get? s.heap.objs.size = some o → (∀ b o, s.heap.get? b = some o → h'.get? b = some o) → Q (.ref (s.heap.objs.size + 1)) { s with heap := h' }) :
    wpAny (model prog w) A (call (.type "enumerate") [v]) Q E s := by
  refine callType_new F.called_enumerate (by decide) (F.typeCall_enumerate_1 _) (F.newCall_enumerate_1 _) (fun obj => F.args_object_init_2 obj _) F.entry_enumerate_new (meets_enum1 B) ⟨hG, ?_⟩
  have zp : (s.heap.push o).objs.size = s.heap.objs.size + 1 := Heap.size_push ..
  show _ ∧ _
  rw [zp]
  have gen : IsEnum ((s.heap.push o).push { cls := .type "enumerate", data := .fields #[.none, .bool false, .ref s.heap.objs.size, rawInt 0, .none, .none] }) (s.heap.objs.size + 1) s.heap.objs.size 0 .none := by
    unfold IsEnum
    rw [← zp]
    exact Heap.get?_push_size _ rfl
  exact ⟨⟨_, gen, rfl⟩, h _ gen (Heap.get?_push_of_some _ (Heap.get?_push_size _ B.free)) fun b o q => Heap.get?_push_of_some _ (Heap.get?_push_of_some _ q)⟩
end
def IteT (K : PySem.W.Frag) (a : Addr) (n : Nat) : It :=
  ⟨fun i H => i < n ∧ ∃ xs : List V, SqT K H a xs ∧ xs.length = n, fun i H v H' => ∃ T x, v = .ref T ∧ H T = none ∧ H' = upd H T (.tup [.int (i : Nat), x]) ∧ ∀ xs, SqT K H a xs → xs[i]? = some x, fun i H => n ≤ i ∧ ∃ xs : List V, SqT K H a xs ∧ xs.length = n⟩
theorem turn_enumT {P : Program} {w : World} {K : PySem.W.Frag} {elts : List Expr} {kk : Nat} {tpos : Pos} (a e it : Addr) (n : Nat) (nei : e ≠ it) (nae : a ≠ e) (nai : a ≠ it) :
    Turn P w K (.Tuple elts kk tpos) (IteT K a n) [e, it] e (fun i h => (∃ old, IsEnum h e it ((i : Nat) : Int) old) ∧ h.IsTupleIter it a i ∧ i ≤ n) where
  mem := List.mem_cons_self ..
  obj := fun i h st b hb => by
    obtain ⟨⟨old, gen⟩, ⟨o, ho, _, hd⟩, _⟩ := st
    rcases List.mem_cons.mp hb with z | z
    · rw [z]; exact ⟨_, gen, fun v q => nomatch q⟩
    · rw [List.mem_singleton.mp z]; exact ⟨o, ho, fun v q => by rw [hd] at q; cases q⟩
  keep := fun i h h' st k => by
    obtain ⟨⟨old, gen⟩, hi, hn⟩ := st
    exact ⟨⟨old, k e (by simp) _ gen⟩, hi.at fun o q => k it (by simp) o q, hn⟩
  item := by
    intro X hP hw hK hc i pins s σ H E I hf st hg
    subst hP hw hK
    obtain ⟨⟨old, gen⟩, git, _⟩ := st
    obtain ⟨ltn, xs, hq, hxl⟩ := hg
    obtain ⟨itm, rel, p, zp⟩ := I.tuple hq
    have elt : e < s.heap.objs.size := Heap.lt_size gen
    have ilt : it < s.heap.objs.size := by obtain ⟨_, q, _⟩ := git; exact Heap.lt_size q
    have hsz : itm.toArray.size = n := by rw [List.size_toArray, ← rel.length]; exact hxl
    have D := Draws.tuple (prog := X.prog) (w := X.w) (A := X.A.in1) (I.ok.hd hc) it a nai itm.toArray
    refine wpAny_pyNext_enum_itemD D gen ⟨git, p⟩ (by rw [hsz]; exact ltn) nei (by simp [nei, Ne.symm nae]) fun u h' tk hu ho hst hT _ hk => ?_
    obtain ⟨x, hx, ru⟩ : ∃ x, xs[i]? = some x ∧ RelV x u := by
      obtain ⟨u', hu', ru'⟩ := rel.get (List.getElem?_eq_getElem (show i < xs.length by omega))
      have hu2 : itm[i]? = some u := by simpa using hu
      rw [hu2] at hu'
      cases hu'
      exact ⟨_, List.getElem?_eq_getElem (by omega), ru'⟩
    refine ⟨_, rfl, wpAny_letOwnedTupleGo_enum (s := { s with heap := h', toks := tk + 1 }) ho fun h'' he' sb => ?_⟩
    have atT : h''.get? s.heap.objs.size = some { cls := .type "tuple", data := .seq #[.int i tk, u] } := (sb.2 _ (Nat.ne_of_gt elt)).trans hT
    have new : ObjOk X.prog X.w (upd H s.heap.objs.size (.tup [.int (i : Nat), x])) h'' s.heap.objs.size (.tup [.int (i : Nat), x]) :=
      ⟨by show 2 ≤ sizeLine; decide, [.int i tk, u], .cons ⟨_, rfl⟩ (.cons ru .nil), ⟨_, atT, rfl, _, rfl⟩⟩
    have I1 : Inv X pins σ (upd H s.heap.objs.size (.tup [.int (i : Nat), x])) { s with heap := h'', toks := tk + 1 } :=
      I.turnedNew (ch := [e, it]) (fun b ob hb q => (sb.2 b (fun z => hb (by simp [z]))).trans (hk b ob (fun z => hb (by simp [z])) (fun z => hb (by simp [z])) q)) hf (Nat.le_refl _) new
    refine ⟨.ref s.heap.objs.size, _, I1, rfl, ⟨_, x, rfl, I.hok.fresh (Nat.le_refl _), rfl, fun ys hy => by rw [I.tuple_inj hy hq]; exact hx⟩, ⟨⟨u, ?_⟩, hst.1.at fun o q => (sb.2 it (Ne.symm nei)).trans q, by omega⟩, fun b hb => ?_⟩
    · rw [show ((i + 1 : Nat) : Int) = (i : Int) + 1 by omega]; exact he'
    · have blt : b < s.heap.objs.size := by
        rcases List.mem_cons.mp hb with z | z
        · rw [z]; exact elt
        · rw [List.mem_singleton.mp z]; exact ilt
      rw [upd_ne (Nat.ne_of_lt blt)]
      exact (hf b hb).1
  done := by
    intro X hP hw hK hc i pins s σ H E I hf st hg
    subst hP hw hK
    obtain ⟨⟨old, gen⟩, git, ble⟩ := st
    obtain ⟨hge, xs, hq, hxl⟩ := hg
    obtain ⟨itm, rel, p, zp⟩ := I.tuple hq
    have hin : i = itm.toArray.size := by rw [List.size_toArray, ← rel.length]; omega
    obtain ⟨q0, q1, q2, q3, q4, q5⟩ := hf it (by simp)
    have D := Draws.tuple (prog := X.prog) (w := X.w) (A := X.A.in1) (I.ok.hd hc) it a nai itm.toArray
    refine wpAny_pyNext_enum_endD D gen ⟨by rw [← hin]; exact git, p⟩ fun h' eb => ⟨rfl, I.turned (t' := s.toks) (fun b o hb q => eb b o hb q) q0 q1 q3 q4 q5⟩
  self := fun A i s Q E st h => by
    obtain ⟨⟨_, gen⟩, _⟩ := st
    exact wpAny_pyIter_enum gen h
def iEnumT (K : PySem.W.Frag) (ta : TA) : TI := fun σ H R => ta σ H fun vs H1 => ∃ a xs, vs = [.ref a] ∧ SqT K H1 a xs ∧ R (IteT K a xs.length) H1
theorem pi_enumT {X : Cx} {e : Expr} {ta : TA} {p pos tpos : Pos} {elts : List Expr} {kk : Nat} (hg : Gl X "enumerate") (hm : X.mg "enumerate" = none) (ha : PA X [e] ta) (hs : starEach [e] X.env = [(false, eval e X.env)] := by rfl) :
    PI X (.Tuple elts kk tpos) (.Call (.Name "enumerate" p) [e] [] pos) (iEnumT X.K ta) := by
  refine ⟨fun pins s σ H R I h => Call_ (ld_blt I hg hm boot_enumerate (PyProof.Rows.callWith_type1 (thn (ha.run pos pins s σ H _ I h) fun us s1 ⟨vs, H1, I1, r1, q1⟩ => ?_) hs rfl))⟩
  obtain ⟨a, xs, rfl, hq, q⟩ := q1
  cases r1 with
  | cons r rr =>
    cases rr
    cases r
    obtain ⟨itm, rel, p', zp⟩ := I1.tuple hq
    have hal : a < s1.heap.objs.size := by obtain ⟨_, q, _⟩ := p'; exact Heap.lt_size q
    refine call_enum1 (begins_tuple a itm.toArray) p' fun h' gen git hk => wpAny_pyIter_enum gen ?_
    have J2 : Inv X pins σ H1 { s1 with heap := h' } := I1.kept (t' := s1.toks) hk
    refine ⟨s1.heap.objs.size + 1, [s1.heap.objs.size + 1, s1.heap.objs.size], _, _, H1, rfl, J2, turn_enumT a (s1.heap.objs.size + 1) s1.heap.objs.size xs.length (Nat.succ_ne_self _) (Nat.ne_of_lt (Nat.lt_succ_of_lt hal)) (Nat.ne_of_lt hal), ⟨⟨.none, gen⟩, ⟨_, git, rfl, rfl⟩, Nat.zero_le _⟩, fun b hb => ?_, q⟩
    have ble : s1.heap.objs.size ≤ b := by
      rcases List.mem_cons.mp hb with z | z
      · rw [z]; exact Nat.le_add_right _ _
      · rw [List.mem_singleton.mp z]; exact Nat.le_refl _
    exact I1.fpOk ble (I1.hok.fresh ble)
theorem walk_enumT {K : PySem.W.Frag} {a : Addr} {xs : List V} : Walk (IteT K a xs.length) xs.length (fun H => SqT K H a xs) (YPair (fun i => some (.int (i : Nat))) (fun i => xs[i]?)) where
  goes := fun i H hi hG => ⟨hi, xs, hG, rfl⟩
  stops := fun H hG => ⟨Nat.le_refl _, xs, hG, rfl⟩
  yields := fun i H x H' _ hG hy => by
    obtain ⟨T, v, e1, e2, e3, e4⟩ := hy
    exact ⟨T, _, v, e1, e2, e3, rfl, e4 xs hG⟩
end TK

namespace TK
open PySem PySem.Spec PyProof.Rows L2
/-! ### max(xs, default=d), min(xs, default=d) of ints -/
theorem hold_ints {h : Heap} : ∀ {us : List Value} {ns : List Int}, IntsAre us ns → ∃ as, ReadsAll h us (ns.map PySem.W.Datum.toD) as
  | _, _, .nil => ⟨[], .nil⟩
  | _, _, .cons n t r => by
    obtain ⟨as, ra⟩ := hold_ints (h := h) r
    exact ⟨[] ++ as, .cons (.int n t) ra⟩
theorem hold_int {h : Heap} {v : Value} {m : Int} (H : PySem.W.Holds h v m) : ∃ t, v = Value.int m t := by
  obtain ⟨as, r⟩ := H
  have r : Reads h v (.int m) as := r
  cases r with
  | int i t => exact ⟨t, rfl⟩
theorem maxOf_is : ∀ (ys : List Int) (y : Int), PySem.W.maxOf y ys ∈ y :: ys ∧ ∀ z ∈ y :: ys, z ≤ PySem.W.maxOf y ys
  | [], y => ⟨List.mem_cons_self .., fun z hz => by cases List.mem_singleton.mp hz; exact Int.le_refl _⟩
  | a :: ys, y => by
    have e : PySem.W.maxOf y (a :: ys) = PySem.W.maxOf (if y < a then a else y) ys := by
      show List.foldl _ (if decide (y < a) = true then a else y) ys = _
      by_cases h : y < a
      · rw [if_pos (decide_eq_true h), if_pos h]; rfl
      · rw [if_neg (by simpa using h), if_neg h]; rfl
    obtain ⟨h1, h2⟩ := maxOf_is ys (if y < a then a else y)
    rw [e]
    by_cases h : y < a
    · rw [if_pos h] at h1 h2 ⊢
      refine ⟨?_, fun z hz => ?_⟩
      · exact List.mem_cons_of_mem _ h1
      · rcases List.mem_cons.mp hz with q | q
        · have := h2 a (List.mem_cons_self ..)
          omega
        · exact h2 z q
    · rw [if_neg h] at h1 h2 ⊢
      refine ⟨?_, fun z hz => ?_⟩
      · rcases List.mem_cons.mp h1 with q | q
        · rw [q]; exact List.mem_cons_self ..
        · exact List.mem_cons_of_mem _ (List.mem_cons_of_mem _ q)
      · rcases List.mem_cons.mp hz with q | q
        · rw [q]; exact h2 y (List.mem_cons_self ..)
        · rcases List.mem_cons.mp q with q | q
          · have := h2 y (List.mem_cons_self ..)
            omega
          · exact h2 z (List.mem_cons_of_mem _ q)
theorem minOf_is : ∀ (ys : List Int) (y : Int), PySem.W.minOf y ys ∈ y :: ys ∧ ∀ z ∈ y :: ys, PySem.W.minOf y ys ≤ z
  | [], y => ⟨List.mem_cons_self .., fun z hz => by cases List.mem_singleton.mp hz; exact Int.le_refl _⟩
  | a :: ys, y => by
    have e : PySem.W.minOf y (a :: ys) = PySem.W.minOf (if a < y then a else y) ys := by
      show List.foldl _ (if decide (a < y) = true then a else y) ys = _
      by_cases h : a < y
      · rw [if_pos (decide_eq_true h), if_pos h]; rfl
      · rw [if_neg (by simpa using h), if_neg h]; rfl
    obtain ⟨h1, h2⟩ := minOf_is ys (if a < y then a else y)
    rw [e]
    by_cases h : a < y
    · rw [if_pos h] at h1 h2 ⊢
      refine ⟨?_, fun z hz => ?_⟩
      · exact List.mem_cons_of_mem _ h1
      · rcases List.mem_cons.mp hz with q | q
        · have := h2 a (List.mem_cons_self ..)
          omega
        · exact h2 z q
    · rw [if_neg h] at h1 h2 ⊢
      refine ⟨?_, fun z hz => ?_⟩
      · rcases List.mem_cons.mp h1 with q | q
        · rw [q]; exact List.mem_cons_self ..
        · exact List.mem_cons_of_mem _ (List.mem_cons_of_mem _ q)
      · rcases List.mem_cons.mp hz with q | q
        · rw [q]; exact h2 y (List.mem_cons_self ..)
        · rcases List.mem_cons.mp q with q | q
          · have := h2 y (List.mem_cons_self ..)
            omega
          · exact h2 z (List.mem_cons_of_mem _ q)
def rMaxDef (K : PySem.W.Frag) : List V → List V → Hp → VK → Prop := fun vs zs H Q => ∃ (a : Addr) (ns : List Int) (d : V), vs = [V.ref a] ∧ zs = [d] ∧ SqL K H a (ns.map V.int) ∧ (ns = [] → Q d H) ∧ ∀ m, m ∈ ns → (∀ y, y ∈ ns → y ≤ m) → Q (.int m) H
def rMinDef (K : PySem.W.Frag) : List V → List V → Hp → VK → Prop := fun vs zs H Q => ∃ (a : Addr) (ns : List Int) (d : V), vs = [V.ref a] ∧ zs = [d] ∧ SqL K H a (ns.map V.int) ∧ (ns = [] → Q d H) ∧ ∀ m, m ∈ ns → (∀ y, y ∈ ns → m ≤ y) → Q (.int m) H
section
variable {X : Cx}
theorem cr_maxDef (hc : X.calm = true) (hu : X.A.units + 64 < cLine) : CallRK X (.builtin "max") [Str.ofString "default"] (rMaxDef X.K) := by
  intro pins s σ H xs zs us ws Q I rx rz hq
  obtain ⟨a, ns, d, rfl, rfl, hs, q0, q1⟩ := hq
  rw [Vals.ref1 rx]
  cases rz with
  | cons z1 z2 =>
    cases z2
    obtain ⟨its, rv, hl, _⟩ := I.list hs
    refine PySem.W.max_list_datum_default (α := Int) (xs := ns) (I.ok.hd hc) hl.isList (hold_ints rv.ints) (by show X.A.units + 1 + 0 < cLine; omega) (fun e h' tk hk => ⟨d, H, I.kept hk, z1, q0 e⟩) fun y ys i v h' tk e _ hv hk => ?_
    obtain ⟨t, rfl⟩ := hold_int hv
    obtain ⟨m1, m2⟩ := maxOf_is ys y
    exact ⟨.int _, H, I.kept hk, ⟨_, rfl⟩, q1 _ (by rw [e]; exact m1) fun z hz => m2 z (by rw [e] at hz; exact hz)⟩
theorem cr_minDef (hc : X.calm = true) (hu : X.A.units + 64 < cLine) : CallRK X (.builtin "min") [Str.ofString "default"] (rMinDef X.K) := by
  intro pins s σ H xs zs us ws Q I rx rz hq
  obtain ⟨a, ns, d, rfl, rfl, hs, q0, q1⟩ := hq
  rw [Vals.ref1 rx]
  cases rz with
  | cons z1 z2 =>
    cases z2
    obtain ⟨its, rv, hl, _⟩ := I.list hs
    refine PySem.W.min_list_datum_default (α := Int) (xs := ns) (I.ok.hd hc) hl.isList (hold_ints rv.ints) (by show X.A.units + 1 + 0 < cLine; omega) (fun e h' tk hk => ⟨d, H, I.kept hk, z1, q0 e⟩) fun y ys i v h' tk e _ hv hk => ?_
    obtain ⟨t, rfl⟩ := hold_int hv
    obtain ⟨m1, m2⟩ := minOf_is ys y
    exact ⟨.int _, H, I.kept hk, ⟨_, rfl⟩, q1 _ (by rw [e]; exact m1) fun z hz => m2 z (by rw [e] at hz; exact hz)⟩
end
/-! ### t[::-1] of a tuple -/
section
variable {prog : Program} {w : World} {A : Around} {E : Value → Shared → Prop} {s : Shared}
theorem places_rev (n : Nat) : Builtin.Slice.slicePlaces ((n : Int) - 1) (-1) (-1) = n := by
  unfold Builtin.Slice.slicePlaces
  rw [if_neg (by decide)]
  by_cases h : n = 0
  · subst h; rfl
  · rw [if_pos (by omega), show -(-1 : Int) = 1 from rfl, Int.ediv_one]
    omega
theorem applied_rev {sl : Addr} {vl vu vs : Value} {n : Nat} {Q : Int × Int × Nat → Shared → Prop} (hs : s.heap.IsSliceOf sl vl vu vs) (pl : IsPart vl none) (pu : IsPart vu none) (ps : IsPart vs (some (-1)))
    (h : Q ((n : Int) - 1, -1, n) s) : wpAny (model prog w) A (Builtin.Slice.sliceApplied (.ref sl) (pure (n : Int))) Q E s := by
  obtain ⟨ob, go, _, gd⟩ := id hs
  unfold Builtin.Slice.sliceApplied Builtin.Slice.sliceFields
  refine wpAny_bind (wpAny_bind (wpAny_field go gd (x := vl) rfl (wpAny_bind (wpAny_field go gd (x := vu) rfl (wpAny_bind (wpAny_field go gd (x := vs) rfl (wpAny_pure ?_)))))))
  refine wpAny_bind (HT.slicePart_ ps ?_)
  show wpAny _ _ (if ((-1 : Int) == 0) = true then _ else _) _ _ s
  rw [if_neg (by decide)]
  refine wpAny_bind (HT.slicePart_ pl (wpAny_bind (HT.slicePart_ pu (wpAny_bind (wpAny_pure ?_)))))
  show wpAny _ _ (pure ((n : Int) - 1, (-1 : Int), Builtin.Slice.slicePlaces ((n : Int) - 1) (-1) (-1))) _ _ s
  rw [places_rev]
  exact wpAny_pure h
theorem fm_congr {α β : Type} {f g : α → Option β} : ∀ {l : List α}, (∀ x ∈ l, f x = g x) → l.filterMap f = l.filterMap g
  | [], _ => rfl
  | x :: r, h => by
    rw [List.filterMap_cons, List.filterMap_cons, h x (List.mem_cons_self ..), fm_congr fun y hy => h y (List.mem_cons_of_mem _ hy)]
theorem pick_rev (xs : Array Value) : ((List.range xs.size).filterMap fun (m : Nat) => xs[((xs.size : Int) - 1 + (m : Int) * (-1)).toNat]?).toArray = xs.toList.reverse.toArray := by
  have e : ((List.range xs.size).filterMap fun (m : Nat) => xs[((xs.size : Int) - 1 + (m : Int) * (-1)).toNat]?) = ((List.range xs.size).map fun k => xs.size - 1 - k).filterMap (xs[·]?) := by
    rw [List.filterMap_map]
    refine fm_congr fun m hm => ?_
    have := List.mem_range.mp hm
    show xs[_]? = xs[xs.size - 1 - m]?
    congr 1
    omega
  rw [e, PySem.W.krv_range, List.filterMap_reverse, PySem.W.krv_all]
theorem getItem_tup_rev {t sl : Addr} {items : Array Value} {vl vu vs : Value} {Q : Value → Shared → Prop} (ht : IsTup s.heap t items) (hs : s.heap.IsSliceOf sl vl vu vs) (pl : IsPart vl none) (pu : IsPart vu none) (ps : IsPart vs (some (-1)))
    (h : Q (.ref s.heap.objs.size) { s with heap := s.heap.push { cls := .type "tuple", data := .seq items.toList.reverse.toArray } }) (hsz : items.size ≤ sizeLine) : wpAny (model prog w) A (getItem (.ref t) (.ref sl)) Q E s := by
  have small : sizeOk (.seq items.toList.reverse.toArray) := by
    show items.toList.reverse.toArray.size ≤ sizeLine
    rw [List.size_toArray, List.length_reverse, Array.length_toList]
    exact hsz
  obtain ⟨ob, go, gc, gd⟩ := id hs
  unfold getItem
  try with_reducible refine wpAny_holding ?_
  first | refine wpAny_bind (wpAny_pure ?_) | skip
  refine wpAny_bind (wpAny_sequenceKey ht.typeIs (by decide) (wpAny_bind (wpAny_callSpecial?_slot (name := Str.ofString "__getitem__") ht.typeIs PyProof.Rows.slot_tuple_getitem (wpAny_call_entry PyProof.Rows.slot_tuple_getitem ht.typeIs entry_tuple_getitem ?_ (args_tuple_getitem _ _)))))
  show wpAny _ _ (Builtin.Tuple.tupleItemsOf (.ref t) >>= _) _ _ s
  refine wpAny_bind (tupleItemsOf_ ht (wpAny_bind (wpAny_typeOf ⟨ob, go, gc⟩ ?_)))
  rw [if_pos (by decide)]
  refine wpAny_bind (applied_rev hs pl pu ps ?_)
  show wpAny _ _ (if (((items.size : Int) - 1) == 0 && (-1 : Int) == 1 && items.size == items.size) = true then _ else _) _ _ s
  rw [if_neg (by rw [show ((-1 : Int) == 1) = false from rfl, Bool.and_false, Bool.false_and]; decide), pick_rev]
  first
    | exact wpAny_bind (m := Builtin.Tuple.tupleExact _) (wpAny_newObj_type (wpAny_pure ⟨_, rfl, wpAny_pure h⟩) small)
    | exact wpAny_bind (m := Builtin.Tuple.tupleExact _) (wpAny_newObj_type (wpAny_bind (wpAny_pure (wpAny_pure ⟨_, rfl, wpAny_pure h⟩))) small)
    | exact wpAny_bind (wpAny_bind (m := Builtin.Tuple.tupleExact _) (wpAny_newObj_type (wpAny_pure (wpAny_pure ⟨_, rfl, wpAny_pure h⟩)) small))
    | exact wpAny_bind (wpAny_bind (m := Builtin.Tuple.tupleExact _) (wpAny_newObj_type (wpAny_pure ⟨_, rfl, wpAny_pure h⟩) small))
end
def tRevT (K : PySem.W.Frag) (te : TE) : TE := fun σ H Q => te σ H fun x H1 => ∃ a xs, x = .ref a ∧ SqT K H1 a xs ∧ ∀ p, H1 p = none → Q (.ref p) (upd H1 p (.tup xs.reverse))
theorem pe_revT {X : Cx} {e : Expr} {te : TE} {k : Nat} {p1 p2 p3 pos : Pos} (he : PE X e te) : PE X (.Subscript e (.Slice none none (some (.UnaryOp .USub (.Constant (.int 1) k p1) p2)) p3) pos) (tRevT X.K te) := by
  refine ⟨fun pins s σ H Q I h => Subscript_ (thn (he.run pins s σ H _ I h) fun v s1 ⟨x, H1, I1, r1, a, xs, ex, hx, q⟩ => ?_)⟩
  subst ex
  cases r1
  have one : PO X (some (.UnaryOp .USub (.Constant (.int 1) k p1) p2)) (tPart (tUn (rU fun i => .int (-i)) (tC (.int 1)))) := po_some (pe_un un_neg pe_int)
  refine wpAny_Slice (thn (po_none.run pins s1 σ H1 (fun o G => o = none ∧ G = H1) I1 ⟨rfl, rfl⟩) fun vl s2 ⟨l, H2, I2, pl, el, e2⟩ => ?_)
  subst el e2
  refine thn (po_none.run pins s2 σ H2 (fun o G => o = none ∧ G = H2) I2 ⟨rfl, rfl⟩) fun vu s3 ⟨u, H3, I3, pu, eu, e3⟩ => ?_
  subst eu e3
  refine thn (one.run pins s3 σ H3 (fun o G => o = some (-1) ∧ G = H3) I3 ⟨1, rfl, -1, rfl, rfl, rfl⟩) fun vs s4 ⟨o, H4, I4, ps, eo, e4⟩ => ?_
  subst eo e4
  have J : Inv X pins σ H4 { s4 with heap := s4.heap.push { cls := .type "slice", data := .fields #[vl, vu, vs] } } := I4.kept (t' := s4.toks) fun b ob q => Heap.get?_push_of_some _ q
  obtain ⟨itm, r, ht, hz⟩ := J.tuple hx
  have hlen := r.length
  show wpAny (model X.prog X.w) X.A (subscriptTail e (.Slice none none (some (.UnaryOp .USub (.Constant (.int 1) k p1) p2)) p3) (.ref a) (.ref s4.heap.objs.size)) (EP X pins σ Q) X.xe { s4 with heap := s4.heap.push { cls := .type "slice", data := .fields #[vl, vu, vs] } }
  refine tail_any (ops := [.ref a, .ref s4.heap.objs.size]) ht.typeIs PyProof.Rows.slot_tuple_getitem.lookup ?_ (by with_unfolding_all rfl)
  refine getItem_tup_rev ht (Heap.IsSliceOf.new _ vl vu vs) pl pu ps ?_ (by rw [List.size_toArray]; omega)
  refine ⟨.ref _, _, J.laid (t' := s4.toks) (o := .tup xs.reverse) (fun b ob q => Heap.get?_push_of_some _ q) (Nat.le_refl _) ?_, rfl, q _ (J.hok.fresh (Nat.le_refl _))⟩
  exact ⟨by rw [List.length_reverse]; exact hz, _, r.reverse, IsTup.new _ _⟩
end TK

namespace TK
open PySem PySem.Spec PyProof.Rows L2
section
variable {X : Cx}
/-! ### a word of one's own in the middle; two ways to read the same text -/
theorem ps_cut {st : Stmt} {t : TS} (h : PS X st t) : PS X st (fun D σ H => ∃ R : L2.St → Hp → Prop, t { D with nx := R } σ H ∧ ∀ σ' H', R σ' H' → D.nx σ' H') :=
  ⟨fun pins s σ H D I ⟨R, q, k⟩ => thn (h.run pins s σ H _ I q) fun f s' z => by
    cases f with
    | next => obtain ⟨σ', H', I', r⟩ := z; exact ⟨σ', H', I', k _ _ r⟩
    | brk => exact z
    | cont => exact z
    | ret u => exact z⟩
theorem pe_cut {e : Expr} {t : TE} (h : PE X e t) : PE X e (fun σ H Q => ∃ R : VK, t σ H R ∧ ∀ v H', R v H' → Q v H') :=
  ⟨fun pins s σ H Q I ⟨R, q, k⟩ => thn (h.run pins s σ H _ I q) fun v s' z => by
    obtain ⟨x, H', I', r, q'⟩ := z
    exact ⟨x, H', I', r, k _ _ q'⟩⟩
theorem pt_cut {e : Expr} {t : TT} (h : PT X e t) : PT X e (fun σ H Q => ∃ R : Bool → Hp → Prop, t σ H R ∧ ∀ b H', R b H' → Q b H') :=
  ⟨fun pins s σ H Q I ⟨R, q, k⟩ => thn (h.run pins s σ H _ I q) fun v s' z => by
    obtain ⟨H', I', q'⟩ := z
    exact ⟨H', I', k _ _ q'⟩⟩
theorem pi_or {tg it : Expr} {w1 w2 : TI} (h1 : PI X tg it w1) (h2 : PI X tg it w2) : PI X tg it (fun σ H R => w1 σ H R ∨ w2 σ H R) :=
  ⟨fun pins s σ H R I h => h.elim (h1.run pins s σ H R I) (h2.run pins s σ H R I)⟩
theorem ps_or {st : Stmt} {t1 t2 : TS} (h1 : PS X st t1) (h2 : PS X st t2) : PS X st (fun D σ H => t1 D σ H ∨ t2 D σ H) :=
  ⟨fun pins s σ H D I h => h.elim (h1.run pins s σ H D I) (h2.run pins s σ H D I)⟩
theorem pe_or2 {e : Expr} {t1 t2 : TE} (h1 : PE X e t1) (h2 : PE X e t2) : PE X e (fun σ H Q => t1 σ H Q ∨ t2 σ H Q) :=
  ⟨fun pins s σ H Q I h => h.elim (h1.run pins s σ H Q I) (h2.run pins s σ H Q I)⟩
theorem pt_or2 {e : Expr} {t1 t2 : TT} (h1 : PT X e t1) (h2 : PT X e t2) : PT X e (fun σ H Q => t1 σ H Q ∨ t2 σ H Q) :=
  ⟨fun pins s σ H Q I h => h.elim (h1.run pins s σ H Q I) (h2.run pins s σ H Q I)⟩
end
end TK

namespace TK
open PySem PySem.Spec PyProof.Rows L2
section
variable {X : Cx}
/-! sum(t), a tuple of ints -/
def rSumT (K : PySem.W.Frag) : List V → Hp → VK → Prop := fun vs H Q => ∃ (a : Addr) (ns : List Int), vs = [V.ref a] ∧ SqT K H a (ns.map V.int) ∧ Q (.int ns.sum) H
theorem cr_sumT (hc : X.calm = true) : CallR X (.builtin "sum") (rSumT X.K) := by
  intro pins s σ H vs us Q I r h
  obtain ⟨a, ns, rfl, hs, q⟩ := h
  obtain ⟨itm, rv, p, _⟩ := I.tuple hs
  rw [Vals.ref1 r]
  obtain ⟨xs, e⟩ := rv.ints.allInts.items
  have hn : numsOf itm.toArray.toList = ns := rv.ints.numsOf
  rw [e, nums_intItems] at hn
  refine PySem.W.ktm_sumG (I.ok.hd hc) (e ▸ p) fun h' tk t' hk => ?_
  rw [preSum_eq, List.take_of_length_le (by simp), hn]
  exact ⟨.int _, H, I.kept hk, ⟨_, rfl⟩, q⟩
/-- *e within a comprehension -/
theorem pa_starK {K : PySem.W.Frag} {e : Expr} {es : List Expr} {te : TE} {t : TA} {p : Pos} (h : X.K = K) (he : PE X e te) (hr : PA X es t) (hs : starEach (.Starred e p :: es) X.env = (true, eval e X.env) :: starEach es X.env := by rfl) : PA X (.Starred e p :: es) (StX.tStar K te t) := h ▸ StX.pa_star he hr hs
theorem op_eqDK {K : PySem.W.Frag} (h : X.K = K) (hu : X.A.units + 64 < cLine) : OpR X (compareOp .Eq) (rEqD K) := h ▸ op_eqD hu
theorem op_neDK {K : PySem.W.Frag} (h : X.K = K) (hu : X.A.units + 64 < cLine) : OpR X (compareOp .NotEq) (rNeD K) := h ▸ op_neD hu
/-! ### objects at a row of addresses -/
def At (H : Hp) (us : List Addr) (os : List HO) : Prop := us.length = os.length ∧ ∀ (i : Nat) (u : Addr) (o : HO), us[i]? = some u → os[i]? = some o → H u = some o
theorem At.same {H H' : Hp} {us : List Addr} {os : List HO} (h : At H us os) (s : Same H H') : At H' us os := ⟨h.1, fun i u o a b => s _ _ (h.2 i u o a b)⟩
theorem At.nil {H : Hp} : At H [] [] := ⟨rfl, fun i u o a _ => by simp at a⟩
theorem At.append {H : Hp} {us vs : List Addr} {os ps : List HO} (h : At H us os) (k : At H vs ps) : At H (us ++ vs) (os ++ ps) := by
  refine ⟨by rw [List.length_append, List.length_append, h.1, k.1], fun i u o a b => ?_⟩
  by_cases hi : i < us.length
  · rw [List.getElem?_append_left hi] at a
    rw [List.getElem?_append_left (by rw [← h.1]; exact hi)] at b
    exact h.2 i u o a b
  · rw [List.getElem?_append_right (by omega)] at a
    rw [List.getElem?_append_right (by rw [← h.1]; omega), ← h.1] at b
    exact k.2 _ u o a b
theorem At.one {H : Hp} {u : Addr} {o : HO} (e : H u = some o) : At H [u] [o] := ⟨rfl, fun i u' o' a b => by
  match i, a, b with
  | 0, a, b =>
    cases a
    cases b
    exact e⟩
theorem At.get {H : Hp} {us : List Addr} {os : List HO} {i : Nat} {x : V} (h : At H us os) (e : (us.map V.ref)[i]? = some x) : ∃ (u : Addr) (o : HO), x = .ref u ∧ us[i]? = some u ∧ os[i]? = some o ∧ H u = some o := by
  rw [List.getElem?_map] at e
  cases ht : us[i]? with
  | none => rw [ht] at e; cases e
  | some t =>
    rw [ht] at e
    cases e
    have hi : i < os.length := by rw [← h.1]; exact (List.getElem?_eq_some_iff.mp ht).1
    exact ⟨t, os[i], rfl, rfl, List.getElem?_eq_getElem hi, h.2 i t _ ht (List.getElem?_eq_getElem hi)⟩
/-- a list elsewhere is written anew -/
theorem At.wrote {H : Hp} {us : List Addr} {os : List HO} {D : Addr} {xs : List V} {o : HO} (h : At H us os) (t : ∀ p ∈ os, ∃ ys, p = HO.tup ys) (e : H D = some (.lst xs)) : At (upd H D o) us os := ⟨h.1, fun i u p a b => by
  have := h.2 i u p a b
  rw [upd_ne fun z => ?_]
  · exact this
  · subst z
    obtain ⟨ys, rfl⟩ := t p (List.mem_of_getElem? b)
    rw [e] at this
    cases this⟩
end
end TK

namespace TK
open PySem PySem.Spec PyProof.Rows L2
/-! ### zip(tuple, list) -/
def ItzM (K : PySem.W.Frag) (a b : Addr) : It :=
  ⟨fun i H => ∃ xs ys : List V, SqT K H a xs ∧ SqL K H b ys ∧ i < xs.length ∧ i < ys.length,
    fun i H v H' => ∃ T x y, v = .ref T ∧ H T = none ∧ H' = upd H T (.tup [x, y]) ∧ (∀ xs, SqT K H a xs → xs[i]? = some x) ∧ ∀ ys, SqL K H b ys → ys[i]? = some y,
    fun i H => ∃ xs ys : List V, SqT K H a xs ∧ SqL K H b ys ∧ i ≤ xs.length ∧ i ≤ ys.length ∧ (i = xs.length ∨ i = ys.length)⟩
theorem ne_nat {x y : Nat} (h : x < y ∨ y < x) : x ≠ y := by omega
theorem no_two {x p q : Nat} (h1 : x < p ∨ p < x) (h2 : x < q ∨ q < x) : x ∉ [p, q] := by
  intro h
  rcases List.mem_cons.mp h with z | z
  · exact ne_nat h1 z
  · exact ne_nat h2 (List.mem_singleton.mp z)
theorem sep_zip (I a b : Nat) (la : a < I) (lb : b < I) : ZipSep2 (I + 4) (I + 2) (I + 3) I (I + 1) [I, a] [I + 1, b] :=
  ⟨ne_nat (x := I + 2) (y := I + 4) (by omega), ne_nat (x := I + 3) (y := I + 4) (by omega), ne_nat (x := I + 2) (y := I + 3) (by omega), ne_nat (x := I + 2) (y := I) (by omega), List.mem_cons_self .., no_two (x := I + 4) (by omega) (by omega), no_two (x := I + 3) (by omega) (by omega),
    ne_nat (x := I + 2) (y := I + 1) (by omega), List.mem_cons_self .., no_two (x := I + 4) (by omega) (by omega), no_two (x := I + 3) (by omega) (by omega), no_two (x := I) (by omega) (by omega), no_two (x := I + 1) (by omega) (by omega)⟩
theorem turn_zipM {P : Program} {w : World} {K : PySem.W.Frag} {elts : List Expr} {kk : Nat} {tpos : Pos} {a b z TI TO i1 i2 : Addr} (S : ZipSep2 z TI TO i1 i2 [i1, a] [i2, b]) (na : a ≠ i1) (nb : b ≠ i2) :
    Turn P w K (.Tuple elts kk tpos) (ItzM K a b) [z, TI, TO, i1, i2] z (fun i h => IsZip h z TI TO .none ∧ IsTupOf2 h TI (.ref i1) (.ref i2) ∧ (∃ x y, IsTupOf2 h TO x y) ∧ h.IsTupleIter i1 a i ∧ h.IsListIter i2 b i) where
  mem := by simp
  obj := fun i h st c hc => by
    obtain ⟨hz, hTI, ⟨x, y, hTO⟩, ⟨o1, e1, _, d1⟩, ⟨o2, e2, _, d2⟩⟩ := st
    have e' : c = z ∨ c = TI ∨ c = TO ∨ c = i1 ∨ c = i2 := by simpa using hc
    rcases e' with rfl | rfl | rfl | rfl | rfl
    · exact ⟨_, hz, fun v q => nomatch q⟩
    · exact ⟨_, hTI, fun v q => nomatch q⟩
    · exact ⟨_, hTO, fun v q => nomatch q⟩
    · exact ⟨o1, e1, fun v q => by rw [d1] at q; cases q⟩
    · exact ⟨o2, e2, fun v q => by rw [d2] at q; cases q⟩
  keep := fun i h h' st k => by
    obtain ⟨hz, hTI, ⟨x, y, hTO⟩, h1, h2⟩ := st
    exact ⟨k z (by simp) _ hz, k TI (by simp) _ hTI, ⟨x, y, k TO (by simp) _ hTO⟩, h1.at fun o q => k i1 (by simp) o q, h2.at fun o q => k i2 (by simp) o q⟩
  item := by
    intro X hP hw hK hc i pins s σ H E I hf st hg
    subst hP hw hK
    obtain ⟨hz, hTI, ⟨x0, y0, hTO⟩, h1, h2⟩ := st
    obtain ⟨xs, ys, hqx, hqy, lx, ly⟩ := hg
    obtain ⟨its, rv, p, _⟩ := I.tuple hqx
    obtain ⟨its2, rv2, p2, _⟩ := I.list hqy
    have hzl : z < s.heap.objs.size := Heap.lt_size hz
    have n1 : its.toArray.size = xs.length := by rw [List.size_toArray, ← rv.length]
    have n2 : its2.toArray.size = ys.length := by rw [List.size_toArray, ← rv2.length]
    have D1 := Draws.tuple (prog := X.prog) (w := X.w) (A := X.A.in1) (I.ok.hd hc) i1 a na its.toArray
    have D2 := Draws.list (prog := X.prog) (w := X.w) (A := X.A.in1) (I.ok.hd hc) i2 b nb its2.toArray
    refine wpAny_pyNext_zipD2_item S D1 D2 hz hTI hTO ⟨h1, p⟩ ⟨h2, p2.isList⟩ (by rw [n1]; exact lx) (by rw [n2]; exact ly) fun u u2 h' tk hu hu2 z' TO' d1 d2 hT hsz hk => ?_
    refine ⟨_, rfl, wpAny_letOwnedTupleGo_zip (s := { s with heap := h', toks := tk }) z' fun h'' z'' sb => ?_⟩
    obtain ⟨x, hx, ru⟩ : ∃ x, xs[i]? = some x ∧ RelV x u := by
      obtain ⟨v, hv, r⟩ := rv.get (List.getElem?_eq_getElem lx)
      have : its[i]? = some u := by simpa using hu
      rw [this] at hv
      cases hv
      exact ⟨_, List.getElem?_eq_getElem lx, r⟩
    obtain ⟨y, hy, ru2⟩ : ∃ y, ys[i]? = some y ∧ RelV y u2 := by
      obtain ⟨v, hv, r⟩ := rv2.get (List.getElem?_eq_getElem ly)
      have : its2[i]? = some u2 := by simpa using hu2
      rw [this] at hv
      cases hv
      exact ⟨_, List.getElem?_eq_getElem ly, r⟩
    have hT2 : h''.get? s.heap.objs.size = some { cls := .type "tuple", data := .seq #[u, u2] } := (sb.2 _ (Nat.ne_of_gt hzl)).trans hT
    have new : ObjOk X.prog X.w (upd H s.heap.objs.size (.tup [x, y])) h'' s.heap.objs.size (.tup [x, y]) :=
      ⟨by show 2 ≤ sizeLine; decide, [u, u2], .cons ru (.cons ru2 .nil), ⟨_, hT2, rfl, _, rfl⟩⟩
    have I1 : Inv X pins σ (upd H s.heap.objs.size (.tup [x, y])) { s with heap := h'', toks := tk } :=
      I.turnedNew (ch := [z, TI, TO, i1, i2]) (fun c o hb q => (sb.2 c (fun q' => hb (by simp [q']))).trans (hk c o (fun q' => hb (by simp [q'])) (fun q' => hb (by simp [q'])) (fun q' => hb (by simp [q'])) (fun q' => hb (by simp [q'])) q)) hf (Nat.le_refl _) new
    refine ⟨.ref s.heap.objs.size, _, I1, rfl, ⟨_, x, y, rfl, I.hok.fresh (Nat.le_refl _), rfl, fun l hl => by rw [I.tuple_inj hl hqx]; exact hx, fun l hl => by rw [I.list_inj hl hqy]; exact hy⟩, ⟨z'', ?_, ⟨u, u2, ?_⟩, ?_, ?_⟩, fun c hcm => ?_⟩
    · exact (sb.2 _ S.TIz).trans (hk _ _ S.TIz S.TITO S.TIi1 S.TIi2 hTI)
    · exact (sb.2 _ S.TOz).trans TO'
    · exact d1.1.at fun o q => (sb.2 _ (Ne.symm S.zi1)).trans q
    · exact d2.1.at fun o q => (sb.2 _ (Ne.symm S.zi2)).trans q
    · have hlt : c < s.heap.objs.size := by
        have e' : c = z ∨ c = TI ∨ c = TO ∨ c = i1 ∨ c = i2 := by simpa using hcm
        rcases e' with rfl | rfl | rfl | rfl | rfl
        · exact hzl
        · exact Heap.lt_size hTI
        · exact Heap.lt_size hTO
        · obtain ⟨_, e1, _⟩ := h1; exact Heap.lt_size e1
        · obtain ⟨_, e2, _⟩ := h2; exact Heap.lt_size e2
      rw [upd_ne (Nat.ne_of_lt hlt)]
      exact (hf c hcm).1
  done := by
    intro X hP hw hK hc i pins s σ H E I hf st hg
    subst hP hw hK
    obtain ⟨hz, hTI, ⟨x0, y0, hTO⟩, h1, h2⟩ := st
    obtain ⟨xs, ys, hqx, hqy, le1, le2, hend⟩ := hg
    obtain ⟨its, rv, p, _⟩ := I.tuple hqx
    obtain ⟨its2, rv2, p2, _⟩ := I.list hqy
    have n1 : its.toArray.size = xs.length := by rw [List.size_toArray, ← rv.length]
    have n2 : its2.toArray.size = ys.length := by rw [List.size_toArray, ← rv2.length]
    have D1 := Draws.tuple (prog := X.prog) (w := X.w) (A := X.A.in1) (I.ok.hd hc) i1 a na its.toArray
    have D2 := Draws.list (prog := X.prog) (w := X.w) (A := X.A.in1) (I.ok.hd hc) i2 b nb its2.toArray
    exact wpAny_pyNext_zipD2_end S D1 D2 hz hTI hTO ⟨h1, p⟩ ⟨h2, p2.isList⟩ (by rw [n1]; exact le1) (by rw [n2]; exact le2) (by rw [n1, n2]; exact hend) fun h' tk hk => ⟨rfl, I.turnedL (ch := [z, TI, TO, i1, i2]) (fun c o hb q =>
      hk c o (fun q' => hb (by simp [q'])) (fun q' => hb (by simp [q'])) (fun q' => hb (by simp [q'])) (fun q' => hb (by simp [q'])) q) hf⟩
  self := fun A i s Q E st h => wpAny_pyIter_zip st.1 h
def iZipM (K : PySem.W.Frag) (ta : TA) : TI := fun σ H R => ta σ H fun vs H1 => ∃ a b xs ys, vs = [.ref a, .ref b] ∧ SqT K H1 a xs ∧ SqL K H1 b ys ∧ R (ItzM K a b) H1
theorem pi_zipM {X : Cx} {e e2 : Expr} {ta : TA} {p pos tpos : Pos} {elts : List Expr} {kk : Nat} (hg : Gl X "zip") (hm : X.mg "zip" = none) (ha : PA X [e, e2] ta)
    (hs : starEach [e, e2] X.env = (false, eval e X.env) :: starEach [e2] X.env := by rfl) (hpl : (backTo pos (starEach [e2] X.env)).any (·.1) = false := by rfl) :
    PI X (.Tuple elts kk tpos) (.Call (.Name "zip" p) [e, e2] [] pos) (iZipM X.K ta) := by
  refine ⟨fun pins s σ H R I h => Call_ (ld_blt I hg hm PyProof.Rows.boot_zip (PyProof.Rows.callWith_type1 (thn (ha.run pos pins s σ H _ I h) fun us s1 ⟨vs, H1, I1, r1, q1⟩ => ?_) hs hpl))⟩
  obtain ⟨a, b, xs, ys, rfl, hqx, hqy, q⟩ := q1
  obtain ⟨u1, u2, rfl, r, r'⟩ := r1.two
  cases r
  cases r'
  obtain ⟨its, rv, p1, _⟩ := I1.tuple hqx
  obtain ⟨its2, rv2, p2, _⟩ := I1.list hqy
  have la : a < s1.heap.objs.size := by obtain ⟨_, q, _⟩ := p1; exact Heap.lt_size q
  have lb : b < s1.heap.objs.size := p2.lt
  refine zip_begins2 (begins_tuple a its.toArray) (begins_list b its2.toArray) p1 p2.isList fun h' hz hTI hTO h1 h2 hsz hk => wpAny_pyIter_zip hz ?_
  have I2 : Inv X pins σ H1 { s1 with heap := h' } := I1.kept (t' := s1.toks) hk
  refine ⟨s1.heap.objs.size + 4, [s1.heap.objs.size + 4, s1.heap.objs.size + 2, s1.heap.objs.size + 3, s1.heap.objs.size, s1.heap.objs.size + 1], _, _, H1, rfl, I2, turn_zipM (sep_zip _ _ _ la lb) (Nat.ne_of_lt la) (Nat.ne_of_lt (Nat.lt_succ_of_lt lb)), ⟨hz, hTI, ⟨_, _, hTO⟩, ⟨_, h1, rfl, rfl⟩, ⟨_, h2, rfl, rfl⟩⟩, fun c hcm => ?_, q⟩
  have hle : s1.heap.objs.size ≤ c := by
    have e' : c = s1.heap.objs.size + 4 ∨ c = s1.heap.objs.size + 2 ∨ c = s1.heap.objs.size + 3 ∨ c = s1.heap.objs.size ∨ c = s1.heap.objs.size + 1 := by simpa using hcm
    rcases e' with rfl | rfl | rfl | rfl | rfl
    · exact Nat.le_add_right _ _
    · exact Nat.le_add_right _ _
    · exact Nat.le_add_right _ _
    · exact Nat.le_refl _
    · exact Nat.le_add_right _ _
  exact I1.fpOk hle (I1.hok.fresh hle)
theorem walk_zipM {K : PySem.W.Frag} {a b : Addr} {xs ys : List V} (hl : xs.length = ys.length) : Walk (ItzM K a b) xs.length (fun H => SqT K H a xs ∧ SqL K H b ys) (YPair (fun i => xs[i]?) (fun i => ys[i]?)) where
  goes := fun i H hi q => ⟨xs, ys, q.1, q.2, hi, by omega⟩
  stops := fun H q => ⟨xs, ys, q.1, q.2, Nat.le_refl _, by omega, .inl rfl⟩
  yields := fun i H v H' _ q y => by
    obtain ⟨T, x, z, h1, h2, h3, h4, h5⟩ := y
    exact ⟨T, x, z, h1, h2, h3, h4 xs q.1, h5 ys q.2⟩
end TK

namespace TK
open PySem PySem.Spec PyProof.Rows L2
/-- a dict comprehension over whatever walks -/
theorem dc_it {J : It} {n : Nat} {G : Hp → Prop} {Y : Nat → Hp → V → Hp → Prop} (w : Walk J n G Y) {g : TG} {tt : TT} {tk tv : TE} {vs : List Nat} {σ : L2.St} {H1 : Hp} {D : Addr} {Qd : Hp → Prop} (Pv : Nat → Hp → Prop) (h0 : Pv 0 (upd H1 D (.dK []))) (hG : ∀ i H, i ≤ n → Pv i H → G H)
    (hs : ∀ i x H H', i < n → Pv i H → Y i H x H' → g x (wipe σ vs) H' fun σ2 H2 => wipe σ2 vs = wipe σ vs ∧ tt σ2 H2 fun b H3 =>
      if b = true then tk σ2 H3 fun y H4 => tv σ2 H4 fun z H5 => ∃ kvs k, y = kV k ∧ H5 D = some (.dK kvs) ∧ kvs.length < sizeLine ∧ Pv (i + 1) (upd H5 D (.dK (putK kvs k z))) else Pv (i + 1) H3) (hd : ∀ H, Pv n H → Qd H) :
    ∃ W : Nat → Nat → Hp → Prop, (∃ m, W 0 m (upd H1 D (.dK []))) ∧ ∀ i m H, W i m H →
      (J.stop i H ∧ Qd H) ∨ (J.go i H ∧ ∃ Nx : Hp → Prop, (∀ H', Nx H' → ∃ m', m' < m ∧ W (i + 1) m' H') ∧ ∀ x H', J.yld i H x H' → g x (wipe σ vs) H' fun σ2 H2 => wipe σ2 vs = wipe σ vs ∧ tt σ2 H2 fun b H3 =>
        if b = true then tk σ2 H3 fun y H4 => tv σ2 H4 fun z H5 => ∃ kvs k, y = kV k ∧ H5 D = some (.dK kvs) ∧ kvs.length < sizeLine ∧ Nx (upd H5 D (.dK (putK kvs k z))) else Nx H3) := by
  refine ⟨fun i m H => m = n - i ∧ i ≤ n ∧ Pv i H, ⟨n, by simp, Nat.zero_le _, h0⟩, ?_⟩
  rintro i m H ⟨rfl, hi, p⟩
  have q := hG i H hi p
  by_cases hlt : i < n
  · exact .inr ⟨w.goes i H hlt q, Pv (i + 1), fun H' p' => ⟨n - (i + 1), by omega, rfl, hlt, p'⟩, fun x H' y => hs i x H H' hlt p (w.yields i H x H' hlt q y)⟩
  · have e : i = n := by omega
    subst e
    exact .inl ⟨w.stops H q, hd H p⟩
end TK

namespace TK
open PySem PySem.Spec PyProof.Rows L2
section
variable {X : Cx}
/-- tuple(a list), the new tuple known to the object -/
theorem call_tuple_frz : CallR X (.type "tuple") (fun xs H Q => ∃ p ys, xs = [.ref p] ∧ SqL X.K H p ys ∧ ∀ (l : Addr) (o : Obj), H l = none → o.cls = .type "tuple" → o.dict = none → Q (.ref l) (upd H l (.frz o (.tup ys)))) := by
  intro pins s σ H xs us Q I r h
  obtain ⟨p, ys, rfl, hq, q⟩ := h
  obtain ⟨u, rfl, rx⟩ := vals1 r
  cases rx
  obtain ⟨its, r', pl, hz⟩ := I.list hq
  have hlen := r'.length
  refine call_tuple_list pl.isList (fun h' kp => ?_) (by simp only [List.size_toArray] <;> omega)
  have I1 : Inv X pins σ H { s with heap := h' } := I.kept (t' := s.toks) kp
  have I2 : Inv X pins σ (upd H h'.objs.size (.frz { cls := .type "tuple", data := .seq its.toArray } (.tup ys))) { s with heap := h'.push { cls := .type "tuple", data := .seq its.toArray } } :=
    I1.laid (t' := s.toks) (fun b o e => Heap.get?_push_of_some _ e) (Nat.le_refl _) (show ObjOk X.prog X.w _ _ _ (.frz _ (.tup ys)) from ⟨Heap.get?_push_size _ rfl, hz, its, r', IsTup.new _ _⟩)
  exact ⟨.ref h'.objs.size, _, I2, rfl, q _ _ (I1.hok.fresh (Nat.le_refl _)) rfl rfl⟩
/-- the value is such a tuple -/
def FrzT (x : V) (H : Hp) : Prop := ∃ p o xs, x = .ref p ∧ H p = some (.frz o (.tup xs)) ∧ o.cls = .type "tuple" ∧ o.dict = none
def tBMF (r : V → List V → Hp → VK → Prop) (to : TE) (t : TA) : TE := fun σ H Q => to σ H fun x H1 => FrzT x H1 ∧ t σ H1 fun xs H2 => r x xs H2 Q
variable {o e : Expr} {es : List Expr} {to : TE} {t : TA} {name : Str} {apos cpos : Pos} {id : String} {r : V → List V → Hp → VK → Prop}
theorem pe_bmF (pa : PlainAttrs "tuple") (slot : Slot "tuple" name id) (hty : typeOf (.builtin id) = pure (.type "method_descriptor")) (hm : MtR X id r) (ho : PE X o to) (ha : PA X (e :: es) t)
    (hbase : attributeBase o name X.env (eval o X.env) = eval o X.env := by rfl)
    (hfew : ((backTo cpos (starEach (e :: es) X.env)).all (fun x => !x.1) && (backToKw cpos (keywordEach [] X.env)).all (fun x => x.1.isSome)
      && decide ((e :: es).length + ([] : List Keyword).length + (if ([] : List Keyword).isEmpty then 0 else 1) < 30)) = true := by rfl)
    (hline : (apos.endLine == cpos.line) = true := by rfl) (hs : starEach (e :: es) X.env = (false, eval e X.env) :: starEach es X.env := by rfl) (hplain : (backTo cpos (starEach es X.env)).any (·.1) = false := by rfl) :
    PE X (.Call (.Attribute o name apos) (e :: es) [] cpos) (tBMF r to t) := by
  refine ⟨fun pins s σ H Q I h => ?_⟩
  refine wpAny_Call_method_late hbase hfew hline rfl (thn (ho.run pins s σ H _ I h) fun v s1 ⟨x, H1, I1, r1, ty, q1⟩ => ?_)
  have h12 : s1.TypeIs v "tuple" ∧ ∀ a, v = .ref a → ∃ ob, s1.heap.get? a = some ob ∧ ob.dict = none := by
    obtain ⟨p, ob, xs, rfl, hp, hc, hd⟩ := ty
    cases r1
    obtain ⟨eo, _⟩ := I1.hok p _ hp
    refine ⟨⟨ob, eo, hc⟩, fun a e => ?_⟩
    cases e
    exact ⟨ob, eo, hd⟩
  refine ⟨"tuple", id, pa, slot, hty, h12.1, h12.2, ?_⟩
  have hA := ha.run cpos pins s1 σ H1 _ I1 q1
  rw [hs] at hA ⊢
  refine Calls.callWith_builtin (by show (false || (backTo cpos (starEach es X.env)).any (·.1)) = false; rw [hplain] <;> rfl) (Calls.evalArgs_plain ?_)
  exact thn hA fun us s2 ⟨vs, H2, I2, r2, q2⟩ => hm pins s2 σ H2 x vs v us Q I2 r1 r2 q2
end
theorem tupFrz {K : PySem.W.Frag} {H : Hp} {a : Addr} {o : Obj} {xs : List V} (h : H a = some (.frz o (.tup xs))) : SqT K H a xs := .inl (.inr ⟨o, h⟩)
end TK

namespace TK
open PySem PySem.Spec PyProof.Rows L2
/-! ### the special methods of an own class -/
structure Own (K : PySem.W.Frag) (C : Addr) (name : Str) (g : Addr) : Prop where
  at_ : PySem.W.findIn K (.ref C) name = some (some (.ref g))
  fn : PySem.W.isFn K (.ref g) = true
def IsIn (H : Hp) (x : V) (C : Addr) : Prop := ∃ a dx fs, x = .ref a ∧ H a = some (.ins C dx fs)
section
variable {X : Cx} {CX : CXT} {C g : Addr} {n : Nat} {fd : FuncData} {ps : List Str} {sp : Sp} {E : XK} {pins : List (Addr × Obj)} {σ : L2.St} {H : Hp} {s : Shared}
theorem run_own {A : Around} {Q : VK} {us : List Value} {vs : List V} (F : FnOk X.prog X.w X.K X.mg X.base CX n g fd ps sp) (hr : Room n A) (e0 : Env0 X.prog X.w X.K X.mg X.base A X.stack s H) (hb : Binds X.K fd ps []) (hx : Passes CX X E)
    (I : Inv X pins σ H s) (r : Vals vs us) (h : sp vs H Q E) : wpAny (model X.prog X.w) A (call (.ref g) us) (EP X pins σ Q) X.xe s := by
  have hl : (us ++ []).length = ps.length := by rw [List.append_nil, ← r.length]; exact F.len _ _ _ _ h
  have hbb := hb s us I.kIn hl
  rw [List.append_nil] at hbb
  refine wpAny_call (codeAny_mono (F.run A X.stack s H ⟨us, []⟩ us vs Q E hr e0 hbb r h) fun r s' hq => ?_)
  cases r with
  | error e => exact hx pins σ H s e s' I hq
  | ok fl =>
    cases fl with
    | ret u => exact I.after hq
    | next => exact False.elim hq
    | brk => exact False.elim hq
    | cont => exact False.elim hq
theorem own_at {a dx : Addr} {fs : List (Str × V)} (I : Inv X pins σ H s) (h : H a = some (.ins C dx fs)) : ∃ ox od, PySem.W.InstAt s.heap a ox C od := by
  obtain ⟨mA, J, _⟩ := ins_get I.hok h
  obtain ⟨od, J, _⟩ := J.look
  exact ⟨_, _, J⟩
/-! o[k] -/
def rOwn (C : Addr) (sp : Sp) (E : XK) : R2 := fun x y H Q => IsIn H x C ∧ sp [x, y] H Q E
def PlainIxO (b : Expr) : Prop := ∀ (x : Addr) (i : Value), subscripted b true (.ref x) i = runValue (.builtin "lifetime.subscript" ⟨[.ref x, i], []⟩)
theorem pe_ixOwn {a b : Expr} {ta tb : TE} {pos : Pos} (c : Own X.K C "__getitem__" g) (cf : PySem.W.fnIn X.K g = true) (F : FnOk X.prog X.w X.K X.mg X.base CX n g fd ps sp) (hr : Room (n + 1) X.A) (hb : Binds X.K fd ps []) (hx : Passes CX X E)
    (ha : PE X a ta) (hb' : PE X b tb) (hs : PlainIxO b) : PE X (.Subscript a b pos) (tOp (rOwn C sp E) ta tb) := by
  refine ⟨fun pins s σ H Q I h => ?_⟩
  refine Subscript_ (binT ha hb' I h fun v u s2 x y H2 I2 rx ry q => ?_)
  obtain ⟨⟨p, dx, fs, rfl, hp⟩, q⟩ := q
  cases rx
  obtain ⟨ox, od, J⟩ := own_at I2 hp
  obtain ⟨m, hF⟩ := I2.fr
  exact PySem.W.sub_K hF I2.ok.mod.kin J c.at_ cf c.fn (run_own F hr.in1 I2.env0.in1 hb hx I2 (vs := [.ref p, y]) (.cons rfl (.cons ry .nil)) q) (hs _ _)
/-! o + p, o * p, o | p: two of one class -/
def rOwn2 (C : Addr) (sp : Sp) (E : XK) : R2 := fun x y H Q => IsIn H x C ∧ IsIn H y C ∧ sp [x, y] H Q E
theorem op_ownBin {op : Operator} (c : Own X.K C (PySem.dunder op.info.2) g) (sf : PySem.W.selfFirst X.K C = true) (F : FnOk X.prog X.w X.K X.mg X.base CX n g fd ps sp) (hr : Room n X.A) (hb : Binds X.K fd ps []) (hx : Passes CX X E) :
    OpR X (binaryOp op) (rOwn2 C sp E) := by
  intro pins s σ H x y v u Q I rx ry h
  obtain ⟨⟨a, dx, fs, rfl, ha⟩, ⟨b, dy, gs, rfl, hb'⟩, q⟩ := h
  cases rx
  cases ry
  obtain ⟨ox, od, J⟩ := own_at I ha
  obtain ⟨ox', od', J'⟩ := own_at I hb'
  obtain ⟨m, hF⟩ := I.fr
  refine PySem.W.binop_K hF I.ok.mod.kin J J'.type sf c.at_ c.fn (wpAny_mono (run_own F hr I.env0 hb hx I (vs := [.ref a, .ref b]) (.cons rfl (.cons rfl .nil)) q) (fun w s' z => ?_) fun _ _ x => x)
  obtain ⟨z', H', I', rz, qz⟩ := z
  exact SlX.cmpback rz ⟨z', H', I', rz, qz⟩
/-! o == p: two of one class -/
theorem op_ownEq {op : CmpOp} (hop : ∀ a b, compareOp op a b = richCompare op a b) (c : Own X.K C (cmpInfo op).2.1 g) (F : FnOk X.prog X.w X.K X.mg X.base CX n g fd ps sp) (hr : Room n X.A) (hb : Binds X.K fd ps []) (hx : Passes CX X E) :
    OpR X (compareOp op) (rOwn2 C sp E) := by
  intro pins s σ H x y v u Q I rx ry h
  obtain ⟨⟨a, dx, fs, rfl, ha⟩, ⟨b, dy, gs, rfl, hb'⟩, q⟩ := h
  cases rx
  cases ry
  obtain ⟨ox, od, J⟩ := own_at I ha
  obtain ⟨ox', od', J'⟩ := own_at I hb'
  obtain ⟨m, hF⟩ := I.fr
  rw [hop]
  refine PySem.W.cmp_K (op := op) (tb := .ref C) hr.units0 hF I.ok.mod.kin J J'.type (by simp [PySem.W.notFirst]) c.at_ c.fn (wpAny_mono (run_own F hr I.env0 hb hx I (vs := [.ref a, .ref b]) (.cons rfl (.cons rfl .nil)) q) (fun w s' z => ?_) fun _ _ x => x)
  obtain ⟨z', H', I', rz, qz⟩ := z
  exact SlX.cmpback rz ⟨z', H', I', rz, qz⟩
/-! x in o, x not in o -/
def rOwnIn (neg : Bool) (C : Addr) (sp : Sp) (E : XK) : R2 := fun x y H Q => IsIn H y C ∧ sp [y, x] H (fun z H' => ∃ b, z = .bl b ∧ Q (.bl (if neg then !b else b)) H') E
theorem op_ownIn (c : Own X.K C "__contains__" g) (F : FnOk X.prog X.w X.K X.mg X.base CX n g fd ps sp) (hr : Room n X.A) (hb : Binds X.K fd ps []) (hx : Passes CX X E) : OpR X (compareOp .In) (rOwnIn false C sp E) := by
  intro pins s σ H x y v u Q I rx ry h
  obtain ⟨⟨a, dx, fs, rfl, ha⟩, q⟩ := h
  cases ry
  obtain ⟨ox, od, J⟩ := own_at I ha
  obtain ⟨m, hF⟩ := I.fr
  refine PySem.W.in_K hF I.ok.mod.kin J c.at_ c.fn (wpAny_mono (run_own F hr I.env0 hb hx I (vs := [.ref a, x]) (.cons rfl (.cons rx .nil)) q) (fun w s' z => ?_) fun _ _ x => x)
  obtain ⟨z', H', I', rz, b, rfl, qz⟩ := z
  cases (show w = Value.bool b from rz)
  exact wpAny_truthy_bool ⟨.bl b, H', I', rfl, by simpa using qz⟩
theorem op_ownNotIn (c : Own X.K C "__contains__" g) (F : FnOk X.prog X.w X.K X.mg X.base CX n g fd ps sp) (hr : Room n X.A) (hb : Binds X.K fd ps []) (hx : Passes CX X E) : OpR X (compareOp .NotIn) (rOwnIn true C sp E) := by
  intro pins s σ H x y v u Q I rx ry h
  obtain ⟨⟨a, dx, fs, rfl, ha⟩, q⟩ := h
  cases ry
  obtain ⟨ox, od, J⟩ := own_at I ha
  obtain ⟨m, hF⟩ := I.fr
  refine PySem.W.notIn_K hF I.ok.mod.kin J c.at_ c.fn (wpAny_mono (run_own F hr I.env0 hb hx I (vs := [.ref a, x]) (.cons rfl (.cons rx .nil)) q) (fun w s' z => ?_) fun _ _ x => x)
  obtain ⟨z', H', I', rz, b, rfl, qz⟩ := z
  cases (show w = Value.bool b from rz)
  exact wpAny_truthy_bool ⟨.bl (!b), H', I', rfl, by simpa using qz⟩
/-! len(o) -/
def rOwnLen (C : Addr) (sp : Sp) (E : XK) : List V → Hp → VK → Prop := fun xs H Q => ∃ x, xs = [x] ∧ IsIn H x C ∧ sp [x] H (fun z H' => ∃ k : Nat, z = .int k ∧ k < 2 ^ 63 ∧ Q z H') E
theorem call_ownLen (c : Own X.K C "__len__" g) (F : FnOk X.prog X.w X.K X.mg X.base CX n g fd ps sp) (hr : Room (n + 1) X.A) (hb : Binds X.K fd ps []) (hx : Passes CX X E) : CallR X (.builtin "len") (rOwnLen C sp E) := by
  intro pins s σ H xs us Q I r h
  obtain ⟨x, rfl, ⟨a, dx, fs, rfl, ha⟩, q⟩ := h
  obtain ⟨u, rfl, ru⟩ := vals1 r
  cases ru
  obtain ⟨ox, od, J⟩ := own_at I ha
  obtain ⟨m, hF⟩ := I.fr
  refine PySem.W.len_K hF I.ok.mod.kin J c.at_ c.fn (wpAny_mono (run_own F hr.in1 I.env0.in1 hb hx I (vs := [.ref a]) (.cons rfl .nil) q) (fun w s' z => ?_) fun _ _ x => x)
  obtain ⟨z', H', I', rz, k, rfl, hk, qz⟩ := z
  obtain ⟨t, rfl⟩ := (show ∃ t, w = Value.int k t from rz)
  exact ⟨⟨by omega, by omega⟩, .int k, H', I'.tok _, ⟨_, rfl⟩, qz⟩
/-! iter(t), t a tuple; for x in o -/
abbrev itTObj (t : Addr) (i : Nat) : Obj := { cls := .type "tuple_iterator", data := .fields #[.ref t, .int i 0] }
def ItT (t it : Addr) : HO := .ext fun h => h.get? it = some (itTObj t 0)
theorem itT_ok {P : Program} {w : World} {H : Hp} {h : Heap} {t it : Addr} (e : h.get? it = some (itTObj t 0)) : ObjOk P w H h it (ItT t it) := ⟨e, ⟨_, e⟩, fun h1 h2 q k => k _ q⟩
theorem call_iterT : CallR X (.builtin "iter") (fun xs H Q => ∃ (l : Addr) (zs : List V), xs = [.ref l] ∧ SqT X.K H l zs ∧ ∀ it, H it = Option.none → X.s_0.heap.objs.size ≤ it → Q (.ref it) (upd H it (ItT l it))) := by
  intro pins s σ H xs us Q I r h
  obtain ⟨l, zs, rfl, hq, q⟩ := h
  obtain ⟨u, rfl, ru⟩ := vals1 r
  cases ru
  obtain ⟨its, rv, p, hz⟩ := I.tuple hq
  refine Calls.call_function_entry (by decide +kernel) (by decide +kernel) PySem.W.kdk_entry_iter (PySem.W.kdk_args_iter _) ?_
  unfold Builtin.«iter»
  refine wpAny_bind (m := someArgs "iter" 1 2 _) (wpAny_of_eq (a := [Value.ref l]) (by first | rfl | kernel_rfl!) ?_)
  show wpAny _ _ (pyIter (.ref l) >>= _) _ _ _
  refine wpAny_bind (wpAny_pyIter_tuple (show s.heap.IsTuple l its.toArray from p) ?_)
  exact wpAny_pure ⟨_, rfl, .ref s.heap.objs.size, _, I.laid (t' := s.toks) (fun b u e => Heap.get?_push_of_some _ e) (Nat.le_refl _) (itT_ok (Heap.get?_push_size _ rfl)), rfl, q _ (I.hok.fresh (Nat.le_refl _)) I.sz⟩
/-- what an __iter__ over a tuple does -/
def QIt (H : Hp) (n : Nat) (t : Addr) : VK := fun v H' => ∃ it, v = .ref it ∧ H it = Option.none ∧ n ≤ it ∧ H' = upd H it (ItT t it)
end
def FnIt (P : Program) (w : World) (K : PySem.W.Frag) (mg : Str → Option Value) (base : Heap) (k : Nat) (f : Addr) (R : Addr → Addr → Hp → Prop) : Prop :=
  ∀ (A : Around) (outer : List Env) (s : Shared) (H : Hp) (a t : Addr), Room k A → Env0 P w K mg base A outer s H → R a t H → codeAny (model P w) A (.call (.ref f) ⟨[.ref a], []⟩) (CR CX0 outer P w H s (QIt H s.heap.objs.size t) E0) s
theorem fnIt_of {P : Program} {w : World} {K : PySem.W.Frag} {mg : Str → Option Value} {base : Heap} {k : Nat} {f : Addr} {x qual : Str} {st : Stmt} {fd : FuncData} {N : List Str} {R : Addr → Addr → Hp → Prop} (F : Fun K x qual st f fd) (S : FnScope N ["self"] (defScope st)) (b : Binds K fd ["self"] [])
    (hbody : ∀ (cdv : Value) (A : Around) (outer : List Env) (s : Shared) (H : Hp) (a t : Addr), Room k (A.deeper (envOfC qual (defScope st) s.heap.objs.size f cdv)) → R a t H →
      ∃ tt, PSs (cxOf CX0 P w K mg base N qual (defScope st) f cdv A outer s H E0).nox (defBody st) tt ∧ tt { nx := fun _ H' => QIt H s.heap.objs.size t .non H', rt := QIt H s.heap.objs.size t } (start N [.ref a]) H) : FnIt P w K mg base (k + 1) f R := by
  intro A outer s H a t hr e0 hR
  obtain ⟨oc, od, kV, doc, pm, an, cdv, ct, osl, rfl, lk, hcd⟩ := F.ex
  have KX : K.In s.heap := e0.mod.kin.keeps fun b o e => (e0.bs b o e).1
  have lim : s.heap.NoLimit := e0.mod.nolimit.keeps fun b o e => (e0.bs b o e).1
  have hkind : ∀ y ∈ ([Str.ofString "self"] : List Str).zip [Value.ref a], (defScope st).names.lookup y.1 = some .local ∨ ((defScope st).names.lookup y.1 = some .cell ∧ ((cellsFrom (s.heap.objs.size + 1) (defScope st).names []).lookup y.1).isSome = true) := fun ⟨n, v⟩ hy => by
    rcases S.par n (List.of_mem_zip hy).1 with q | q
    · exact .inl q
    · exact .inr ⟨q, PySem.W.cellsFrom_some _ _ _ (.inl q)⟩
  have hbb := b s [.ref a] KX (by simp)
  rw [List.append_nil] at hbb
  refine codeAny_call_function hr.depth (KX _ _ lk) rfl S.co S.gen rfl (PySem.W.codeRec_of KX hcd) (hbb _ _ _ _ ?_)
  refine wpAny_newFunctionEnv_cells S.kind hkind fun env he s1 x => ?_
  subst he
  refine ⟨lim.keeps x.toInCall.keep, codeAny_func ?_⟩
  obtain ⟨t', ht, hq⟩ := hbody cdv A outer s H a t (hr.deeper _) hR
  have I : Inv (cxOf CX0 P w K mg base N qual (defScope st) f cdv A outer s H E0) [] (start N [V.ref a]) H s1 := inv_start S hr.hd e0 rfl (.cons rfl .nil) x
  refine wpAny_mono (ht.nox.run [] s1 (start N [V.ref a]) H _ I hq) (fun fl s' hs => ?_) fun e s' hs => hs
  have fin : ∀ {σ' : L2.St} {H' : Hp} {v : V} {u : Value}, Inv (cxOf CX0 P w K mg base N qual (defScope st) f cdv A outer s H E0) [] σ' H' s' → RelV v u → QIt H s.heap.objs.size t v H' → CE outer P w H s (QIt H s.heap.objs.size t) u s' :=
    fun {σ' H' v u} J rv q => ⟨v, H', J.os, J.bare, J.base, J.hok, rv, q⟩
  cases fl with
  | ret u =>
    obtain ⟨v, σ', H', J, rv, q⟩ := hs
    exact fin J rv q
  | next =>
    obtain ⟨σ', H', J, q⟩ := hs
    exact fin (v := V.non) (u := Value.none) J rfl q
  | brk =>
    obtain ⟨_, _, _, q⟩ := hs
    exact False.elim q
  | cont =>
    obtain ⟨_, _, _, q⟩ := hs
    exact False.elim q
section
variable {X : Cx} {CX : CXT} {C g : Addr} {n : Nat} {fd : FuncData} {ps : List Str} {sp : Sp} {E : XK} {pins : List (Addr × Obj)} {σ : L2.St} {H : Hp} {s : Shared}
def iOwn (K : PySem.W.Frag) (C : Addr) (R : Addr → Addr → Hp → Prop) (te : TE) : TI := fun σ H Z => te σ H fun x H1 => ∃ a dx fs t, x = .ref a ∧ H1 a = some (.ins C dx fs) ∧ R a t H1 ∧ (∃ xs, SqT K H1 t xs) ∧ Z (Itt K t) H1
theorem pi_own {R : Addr → Addr → Hp → Prop} {e tg : Expr} {te : TE} (c : Own X.K C "__iter__" g) (F : FnIt X.prog X.w X.K X.mg X.base n g R) (hr : Room n X.A) (he : PE X e te) : PI X tg e (iOwn X.K C R te) := by
  refine ⟨fun pins s σ H Z I h => ?_⟩
  refine thn (he.run pins s σ H _ I h) fun v s1 ⟨x, H1, I1, r1, q1⟩ => ?_
  obtain ⟨a, dx, fs, t, rfl, ha, hR, ⟨xs, hxs⟩, q⟩ := q1
  cases r1
  obtain ⟨ox, od, J⟩ := own_at I1 ha
  obtain ⟨m, hF⟩ := I1.fr
  refine PySem.W.owit_iter hF I1.ok.mod.kin J c.at_ c.fn ?_
  refine wpAny_call (codeAny_mono (F X.A X.stack s1 H1 a t hr I1.env0 hR) fun r s' hq => ?_)
  cases r with
  | error e => exact False.elim hq
  | ok fl =>
    cases fl with
    | ret u =>
      obtain ⟨z, H2, os, bare, un, hok, rz, it, rfl, hn, hge, rfl⟩ := id hq
      have I2 : Inv X pins σ (upd H1 it (ItT t it)) s' := I1.call' os un hok bare (fun b z => absurd z (by simp))
      cases rz
      have hget : s'.heap.get? it = some (itTObj t 0) := (I2.hok it _ upd_same).1
      have hT : s'.TypeIs (.ref it) "tuple_iterator" := ⟨_, hget, rfl⟩
      have hi : (upd H1 it (ItT t it)) it = some (.ext fun h => h.get? it = some (itTObj t 0)) := upd_same
      have I3 := ItX.inv_drop I2 hi
      have e3 : ItX.dropH (upd H1 it (ItT t it)) it = H1 := ItX.dropH_upd hn
      have fp := ItX.inv_fp I2 hi (Nat.le_trans I1.sz hge)
      rw [e3] at I3 fp
      unfold PySem.W.OwitIt
      refine wpAny_specialOf (name := Str.ofString "__next__") hT PySem.F.slot_tuple_iterator_next.lookup ?_
      refine ⟨it, [it], _, _, H1, rfl, I3, turn_tuple t it, ⟨_, hget, rfl, rfl⟩, fun b hb => ?_, q⟩
      cases List.mem_singleton.mp hb
      exact fp
    | next => exact False.elim hq
    | brk => exact False.elim hq
    | cont => exact False.elim hq
end
end TK

namespace TK
open PySem PySem.Calls PySem.Spec PyProof.Rows PyProof.V L2
/-! ### two dicts with tuples as keys, equal whatever the order -/
section
variable {prog : Program} {w : World} {K : Type} [DecidableEq K] {knd : HeapKind prog w K} {A : Around} {E : Value → Shared → Prop} {s : Shared}
theorem samePairsH {nm : String} {a b : Addr} {ka kb : List (K × Addr × Value)} {Q : Bool → Shared → Prop} (hu : knd.room A) (ha : (a == sysModules) = false) (hb : (b == sysModules) = false)
    (da : s.heap.DictOfH knd a ka) (db : s.heap.DictOfH knd b kb) (hl : ka.length = kb.length) (hits : ∀ x ∈ ka, ∃ p, atKey kb x.1 = some p ∧ SeqAt.EqAt A s x.2.2 p.2 true) (h : Q true s) :
    wpAny (model prog w) A (Builtin.Dict.samePairs nm a b) Q E s := by
  obtain ⟨oa, es, ep, hoa, _, hda, hea, hia, _⟩ := da
  obtain ⟨ob, es', ep', hob, _, hdb, heb, hib, hnb⟩ := db
  have hla : ka.length = es.size := (size_of_entries hea).symm
  have hlb : kb.length = es'.size := (size_of_entries heb).symm
  have hsz : es.size = es'.size := by omega
  unfold Builtin.Dict.samePairs Builtin.Dict.showsAll
  rw [if_neg (show ¬ (a == sysModules) = true by rw [ha]; exact Bool.false_ne_true), if_neg (show ¬ (b == sysModules) = true by rw [hb]; exact Bool.false_ne_true)]
  refine wpAny_bind (wpAny_pure (wpAny_bind (wpAny_pure ?_)))
  refine wpAny_bind (wpAny_dictEntries hoa hda ?_)
  dsimp only
  refine wpAny_bind (wpAny_dictEntries hob hdb ?_)
  rw [if_neg (by rw [hsz]; simp)]
  refine wpAny_bind (wpAny_dictEpoch hoa hda ?_)
  refine wpAny_bind ?_
  rw [Std.Legacy.Range.forIn_eq_forIn_range']
  simp only [Std.Legacy.Range.size, Nat.sub_zero, Nat.add_sub_cancel, Nat.div_one]
  refine wpAny_forIn_list _
    (fun rest q s' => s' = s ∧ q = (none, ()) ∧ ∃ i, rest = List.range' i (es.size - i) ∧ i ≤ es.size)
    _ ?_ ?_ _ _ ⟨rfl, rfl, 0, by simp, Nat.zero_le _⟩
  · rintro x rest q s' ⟨rfl, rfl, i, hr, hi⟩
    have hlt : i < es.size := by
      rcases Nat.lt_or_ge i es.size with h | h
      · exact h
      · rw [Nat.sub_eq_zero_of_le h] at hr; simp at hr
    obtain ⟨rfl, hrest⟩ : x = i ∧ rest = List.range' (i + 1) (es.size - (i + 1)) := by
      have e : es.size - i = (es.size - (i + 1)) + 1 := by omega
      rw [e, List.range'_succ] at hr
      injection hr with h1 h2
      exact ⟨h1, h2⟩
    refine wpAny_bind (wpAny_dictEntries hoa hda ?_)
    have hlt' : x < ka.length := by rw [hla]; exact hlt
    have hent : es[x]? = some (entryOfKey knd ka[x]) := by rw [entry_at hea x, List.getElem?_eq_getElem hlt']; rfl
    rw [hent]
    obtain ⟨p, hp, heq⟩ := hits ka[x] (List.getElem_mem hlt')
    have hkey := hia ka[x] (List.getElem_mem hlt')
    show wpAny _ _ (holding [(entryOfKey knd ka[x]).key, (entryOfKey knd ka[x]).val] _ >>= _) _ _ _
    refine wpAny_bind (wpAny_holding (wpAny_bind (wpAny_dictFind_heap hu hkey hob hdb heb hib hnb ?_ ?_)))
    · intro hno
      rw [atKey_none_of_get hno] at hp
      exact nomatch hp
    · intro j p' hj
      have ep' : p' = p := Option.some.inj ((atKey_of_get hnb hj).symm.trans hp)
      subst ep'
      refine wpAny_bind (wpAny_dictEntries hob hdb ?_)
      rw [entry_at heb j, hj]
      refine wpAny_holding (heq prog w _ _ ?_)
      show wpAny _ _ (if (!true) = true then _ else _) _ _ _
      rw [if_neg (by decide)]
      refine wpAny_bind (wpAny_dictEpoch hoa hda ?_)
      rw [if_neg (by simp)]
      exact wpAny_pure ⟨rfl, rfl, x + 1, hrest, hlt⟩
  · rintro q s' ⟨rfl, rfl, i, hr, hi⟩
    refine wpAny_pure ?_
    exact h
theorem eqDictH {a b : Addr} {ka kb : List (K × Addr × Value)} {Q : Value → Shared → Prop} (hr : knd.room A.in1) (ha : (a == sysModules) = false) (hb : (b == sysModules) = false)
    (da : s.heap.DictOfH knd a ka) (db : s.heap.DictOfH knd b kb) (hu : A.units < cLine) (hl : ka.length = kb.length) (hits : ∀ x ∈ ka, ∃ p, atKey kb x.1 = some p ∧ SeqAt.EqAt A.in1 s x.2.2 p.2 true) (h : Q (.bool true) s) :
    wpAny (model prog w) A (compareOp .Eq (.ref a) (.ref b)) Q E s := by
  refine wpAny_richCompare_same_room (op := .Eq) da.typeIs db.typeIs PySem.F.slot_dict_eq (wpAny_call_entry PySem.F.slot_dict_eq da.typeIs PySem.F.entry_dict_eq ?_ (PySem.F.args_dict_eq_2 _ _)) hu
  show wpAny _ _ (Builtin.Dict.dictSlotArgs "__eq__" ⟨[.ref a, .ref b], []⟩ >>= _) _ _ s
  refine wpAny_bind ?_
  unfold Builtin.Dict.dictSlotArgs
  refine wpAny_bind (wpAny_notOrdered_dict da.typeIs ?_)
  show wpAny _ _ (pure (Value.ref a, Value.ref b)) _ _ s
  refine wpAny_pure ?_
  refine wpAny_bind (wpAny_isInstance (T := "dict") db.typeIs PySem.F.sub_dict_dict ?_)
  simp only [Bool.not_true, Bool.false_eq_true, if_false]
  refine wpAny_bind (wpAny_pure (wpAny_bind (wpAny_pure ?_)))
  refine wpAny_bind (samePairsH hr ha hb da db hl hits ?_)
  refine wpAny_pure ⟨_, rfl, ?_, ?_⟩
  · exact fun x => nomatch x
  · simpa using h
end
section
variable {X : Cx}
def rEqDT : R2 := fun x y H Q => ∃ a b ks ls, x = .ref a ∧ y = .ref b ∧ H a = some (.dT ks) ∧ H b = some (.dT ls) ∧ ks.length = ls.length ∧ (∀ p ∈ ks, valV ls p.1 = some p.2 ∧ flatB p.2 = true) ∧ Q (.bl true) H
theorem hitsT {H : Hp} {A : Around} {s : Shared} {ls : List (List Key × V)} {xb : List (List Key × Addr × Value)} (rb : KT H ls xb) {ks : List (List Key × V)} {xa : List (List Key × Addr × Value)} (ra : KT H ks xa) :
    (∀ p ∈ ks, valV ls p.1 = some p.2 ∧ flatB p.2 = true) → ∀ x ∈ xa, ∃ p, atKey xb x.1 = some p ∧ SeqAt.EqAt A s x.2.2 p.2 true := by
  unfold KT at ra
  induction ra with
  | nil => intro _ x h; exact absurd h List.not_mem_nil
  | @cons p q ps qs h t ih =>
    intro hp x hx
    rcases List.mem_cons.mp hx with rfl | hx
    · obtain ⟨h1, _, h2⟩ := h
      obtain ⟨e, f⟩ := hp p List.mem_cons_self
      have rr : RelO (some p.2) ((atKey xb p.1).map (·.2)) := by rw [← e]; exact rb.val p.1
      obtain ⟨y, hy, ry⟩ := rr.some_of
      obtain ⟨z, hz, rfl⟩ := Option.map_eq_some_iff.mp hy
      exact ⟨z, by rw [← h1]; exact hz, eqAt_same h2 ry f⟩
    · exact ih (fun p' hm => hp p' (List.mem_cons_of_mem _ hm)) x hx
theorem op_eq_dictT (hu : X.A.units + 1 < cLine) : OpR X (compareOp .Eq) rEqDT := by
  intro pins s σ H x y v u Q I rx ry h
  obtain ⟨a, b, ks, ls, rfl, rfl, ea, eb, hlen, hp, q⟩ := h
  obtain rfl : v = Value.ref a := rx
  obtain rfl : u = Value.ref b := ry
  obtain ⟨_, ya, va, ra, da⟩ := dt_rd I.hok (.inl ea)
  obtain ⟨_, yb, vb, rb, db⟩ := dt_rd I.hok (.inl eb)
  have hl : va.length = vb.length := by rw [← Paired.length ra, ← Paired.length rb]; exact hlen
  exact eqDictH (tupleKind_room_in1 hu) ya yb da db (Nat.lt_of_succ_lt hu) hl (hitsT rb ra hp) (fin_bl I q rfl)
end
end TK

namespace TK
open PySem PySem.Spec PyProof.Rows L2
/-- any loop of a comprehension over whatever walks (for two generators: one time each) -/
theorem walk_go {J : It} {n : Nat} {G : Hp → Prop} {Y : Nat → Hp → V → Hp → Prop} (w : Walk J n G Y) {H0 : Hp} {Qd : Hp → Prop} {body : (Hp → Prop) → V → Hp → Prop} (Pv : Nat → Hp → Prop) (h0 : Pv 0 H0) (hG : ∀ i H, i ≤ n → Pv i H → G H)
    (hs : ∀ i x H H', i < n → Pv i H → Y i H x H' → body (Pv (i + 1)) x H') (hd : ∀ H, Pv n H → Qd H) :
    ∃ W : Nat → Nat → Hp → Prop, (∃ m, W 0 m H0) ∧ ∀ i m H, W i m H →
      (J.stop i H ∧ Qd H) ∨ (J.go i H ∧ ∃ Nx : Hp → Prop, (∀ H', Nx H' → ∃ m', m' < m ∧ W (i + 1) m' H') ∧ ∀ x H', J.yld i H x H' → body Nx x H') := by
  refine ⟨fun i m H => m = n - i ∧ i ≤ n ∧ Pv i H, ⟨n, by simp, Nat.zero_le _, h0⟩, ?_⟩
  rintro i m H ⟨rfl, hi, p⟩
  have q := hG i H hi p
  by_cases hlt : i < n
  · exact .inr ⟨w.goes i H hlt q, Pv (i + 1), fun H' p' => ⟨n - (i + 1), by omega, rfl, hlt, p'⟩, fun x H' y => hs i x H H' hlt p (w.yields i H x H' hlt q y)⟩
  · have e : i = n := by omega
    subst e
    exact .inl ⟨w.stops H q, hd H p⟩
theorem pe_fldK {X : Cx} {K : PySem.W.Frag} {e : Expr} {f : Str} {pos : Pos} {ta : TE} (h : X.K = K) (he : PE X e ta) (hb : attributeBase e f X.env (eval e X.env) = eval e X.env) : PE X (.Attribute e f pos) (tFld K ta f) := h ▸ pe_fld he hb
theorem pi_tupK {X : Cx} {K : PySem.W.Frag} {tg e : Expr} {te : TE} (h : X.K = K) (he : PE X e te) : PI X tg e (iTup K te) := h ▸ pi_tup he
end TK

/-! sorted(l), l a list of tuples of ints of any lengths -/
namespace TLS
open PySem PySem.W PySem.Calls PyProof.Rows SrtO
/-- v is a tuple that holds these numbers -/
def IsTI (h : Heap) (v : Value) (ns : List Int) : Prop := ∃ (a : Addr) (o : Obj) (items : Array Value) (n : Nat), v = .ref a ∧ h.get? a = some o ∧ o.cls = .type "tuple" ∧ o.data = .seq items n ∧ IntsAre items.toList ns
theorem IsTI.keeps {h h' : Heap} {v : Value} {ns : List Int} (x : IsTI h v ns) (k : ∀ b o, v = .ref b → h.get? b = some o → h'.get? b = some o) : IsTI h' v ns := by
  obtain ⟨a, o, items, n, e, g, c, d, i⟩ := x
  exact ⟨a, o, items, n, e, k _ _ e g, c, d, i⟩
theorem IsTI.type {M : Model} {h : Heap} {v : Value} {ns : List Int} (x : IsTI h v ns) : Looks M h (typeOf v) (.type "tuple") := by
  obtain ⟨a, o, items, n, rfl, g, c, d, i⟩ := x
  exact c ▸ (Looks.ld g).andThen .now
section
variable {prog : Program} {w : World} {A : Around} {E : Value → Shared → Prop} {s : Shared}
/-- place by place -/
theorem lex_go (fin : Bool) {Q : Bool → Shared → Prop} : ∀ (vs ws : List Value) (ns ms : List Int) (i : Nat), IntsAre vs ns → IntsAre ws ms → fin = decide (ns.length < ms.length) → Q (HT.lexLt ns ms) s → KatLex prog w A true fin Q (vs.zip ws) i s := by
  intro vs
  induction vs with
  | nil =>
    intro ws ns ms i h1 h2 hf hq
    cases h1
    refine kat_nil ?_
    cases h2 with
    | nil => rw [hf]; rw [HT.lexLt_nil_nil] at hq; exact hq
    | cons c u h2 => rw [hf]; rw [HT.lexLt_nil_cons] at hq; rw [decide_eq_true (by simp)]; exact hq
  | cons v vs ih =>
    intro ws ns ms i h1 h2 hf hq
    cases h1 with
    | cons a t h1 =>
      cases h2 with
      | nil =>
        refine kat_nil ?_
        rw [hf]; rw [HT.lexLt_cons_nil] at hq; rw [decide_eq_false (by simp)]; exact hq
      | cons c u h2 =>
        rw [HT.lexLt_cons] at hq
        refine kat_cons (SeqAt.EqAt.int_int a t c u prog w _ _ ?_)
        refine kat_go (fun e1 => ?_) (fun e1 => ?_)
        · have ex : a = c := by simpa using e1
          rw [if_pos ex] at hq
          exact kat_yes (ih _ _ _ _ h1 h2 (by rw [hf]; simp) hq)
        · have ex : ¬ a = c := by simpa using e1
          rw [if_neg ex] at hq
          exact kat_no (TS.oneLt_ints _ hq)
theorem lt_tuples {v u : Value} {ns ms : List Int} {Q : Bool → Shared → Prop} (hv : IsTI s.heap v ns) (hw : IsTI s.heap u ms) (h : Q (HT.lexLt ns ms) s) : wpAny (model prog w) A (keyLt' (tuples' true) v u) Q E s := by
  obtain ⟨a, o, items, n, rfl, g, c, d, i⟩ := hv
  obtain ⟨a', o', items', n', rfl, g', c', d', i'⟩ := hw
  refine kat_lt g d g' d' (lex_go _ _ _ ns ms 0 i i' ?_ h)
  have z1 : items.size = ns.length := by rw [← i.length]; simp
  have z2 : items'.size = ms.length := by rw [← i'.length]; simp
  rw [z1, z2]
theorem lt_general {v u : Value} {ns ms : List Int} {Q : Bool → Shared → Prop} (hu : A.units < cLine) (hv : IsTI s.heap v ns) (hw : IsTI s.heap u ms) (h : Q (HT.lexLt ns ms) s) : wpAny (model prog w) A (oneLt' false v u) Q E s := by
  obtain ⟨a, o, items, n, rfl, g, c, d, i⟩ := hv
  obtain ⟨a', o', items', n', rfl, g', c', d', i'⟩ := hw
  refine kat_one _ _ (HT.lt_tupInts (l := a) (b := a') ⟨o, g, c, n, d⟩ ⟨o', g', c', n', d'⟩ i i' hu ?_)
  exact h
theorem call_ltT {a b : Addr} {dd dd2 : Option Addr} {items items2 : Array Value} {n n2 : Nat} {sl sl2 : Array (Option Value)} {ns ms : List Int} {Q : Value → Shared → Prop} (ga : s.heap.get? a = some { cls := .type "tuple", dict := dd, data := .seq items n, slots := sl })
    (gb : s.heap.get? b = some { cls := .type "tuple", dict := dd2, data := .seq items2 n2, slots := sl2 }) (ia : IntsAre items.toList ns) (ib : IntsAre items2.toList ms) (h : Q (.bool (HT.lexLt ns ms)) s) : wpAny (model prog w) A (call (.builtin "tuple.__lt__") [.ref a, .ref b]) Q E s := by
  refine wpAny_call (codeAny_call_builtin PySem.F.slot_tuple_lt.plain PySem.F.entry_tuple_lt (PySem.F.slot_tuple_lt.check _ _ _ _ _ _ _ _ ⟨_, ga, rfl⟩ (PySem.F.args_tuple_lt_2 _ _) ?_))
  refine wpAny_mono (HT.tuple_lt_ints a b items items2 n n2 dd dd2 sl sl2 ns ms ia ib prog w _ (wants Q E) s ⟨ga, gb, h⟩) (fun fin s' q => ?_) fun _ _ z => z
  cases fin with
  | done f => exact q
  | again c => exact q
theorem lt_one {v u : Value} {ns ms : List Int} {Q : Bool → Shared → Prop} (hu : A.units < cLine) (hv : IsTI s.heap v ns) (hw : IsTI s.heap u ms) (h : Q (HT.lexLt ns ms) s) : wpAny (model prog w) A (keyLt' oneType' v u) Q E s := by
  have tv : Looks (model prog w) s.heap (typeOf v) (.type "tuple") := hv.type
  have sp : Looks (model prog w) s.heap (specialOf v "__lt__") (some (.builtin "tuple.__lt__")) := tv.andThen (by
    show Looks _ _ (typeLookup (.type "tuple") (cmpInfo .Lt).2.1) _
    rw [PySem.F.slot_tuple_lt.lookup]
    exact .now)
  obtain ⟨a, o, items, n, rfl, g, c, d, i⟩ := hv
  obtain ⟨a', o', items', n', rfl, g', c', d', i'⟩ := hw
  obtain ⟨cls, dd, data, sl⟩ := o
  obtain ⟨cls2, dd2, data2, sl2⟩ := o'
  simp only at c d c' d'
  subst c d c' d'
  rw [keyLt'_oneType, oneLt'_eq]
  simp only [if_true]
  refine wpAny_bind (wpAny_cRoomFor hu ?_)
  refine wpAny_bind (NtL.csib (E := E) sp (PySem.F.slot_tuple_lt.bind _) (call_ltT g g' i i' ?_))
  exact wpAny_truthy_bool h
/-- what stands first in each -/
def firstsO (h : Heap) : List Value → List (Option Value) → Prop
  | [], [] => True
  | v :: vs, f :: fs => (∃ a o xs n, v = .ref a ∧ h.get? a = some o ∧ o.cls = .type "tuple" ∧ o.data = .seq xs n ∧ xs[0]? = f) ∧ firstsO h vs fs
  | _, _ => False
theorem firsts_walk {M : Model} : ∀ (vs : List Value) (fs : List (Option Value)) {Q : List (Option Value) → Shared → Prop}, firstsO s.heap vs fs → Q fs s → wpAny M A (vs.mapM firstOfTuple') Q E s
  | [], [], _, _, h => by rw [List.mapM_nil]; exact wpAny_pure h
  | [], _ :: _, _, t, _ => t.elim
  | _ :: _, [], _, t, _ => t.elim
  | v :: vs, f :: fs, Q, t, h => by
    obtain ⟨⟨a, o, xs, n, rfl, ho, hc, hd, hf⟩, t⟩ := t
    rw [List.mapM_cons]
    refine wpAny_bind ?_
    rw [kas_first_eq]
    refine wpAny_bind (Looks.here (show Looks M s.heap (typeOf (.ref a)) o.cls from (Looks.ld ho).andThen .now) ?_)
    rw [hc, if_neg (by first | decide | simp)]
    refine wpAny_bind (listItems_at ho hd (wpAny_pure ?_))
    rw [hf]
    exact wpAny_bind (firsts_walk vs fs (Q := fun bs s' => wpAny M A (pure (f :: bs)) Q E s') t (wpAny_pure h))
theorem firstsO_of {k : Value → List Int} : ∀ {vs : List Value}, (∀ v ∈ vs, IsTI s.heap v (k v)) → ∃ fs, firstsO s.heap vs fs ∧ fs.length = vs.length ∧ (∀ (i : Nat) v, vs[i]? = some v → ∃ f, fs[i]? = some f ∧ (f.isSome = true ↔ k v ≠ [])) ∧ ∀ f ∈ fs, ∀ u, f = some u → ∃ x t, u = Value.int x t
  | [], _ => ⟨[], trivial, rfl, fun _ _ h => (nomatch h), fun _ h => nomatch h⟩
  | v :: vs, h => by
    obtain ⟨fs, h1, h2, h3, h4⟩ := firstsO_of (vs := vs) fun u m => h u (List.mem_cons_of_mem _ m)
    obtain ⟨a, o, items, n, e, g, c, d, i⟩ := h v List.mem_cons_self
    have key : (items[0]?.isSome = true ↔ k v ≠ []) ∧ ∀ u, items[0]? = some u → ∃ x t, u = Value.int x t := by
      obtain ⟨its⟩ := items
      generalize k v = ns at i ⊢
      cases i with
      | nil => simp
      | cons x t r => simp
    refine ⟨items[0]? :: fs, ⟨⟨a, o, items, n, e, g, c, d, rfl⟩, h1⟩, by simp [h2], fun j u hj => ?_, fun f hf u hu => ?_⟩
    · cases j with
      | zero => cases Option.some.inj hj; exact ⟨_, rfl, key.1⟩
      | succ j => exact h3 j u hj
    · rcases List.mem_cons.mp hf with rfl | hf
      · exact key.2 u hu
      · exact h4 f hf u hu
theorem kat_of {k : Value → List Int} : ∀ {vs : List Value}, (∀ v ∈ vs, IsTI s.heap v (k v)) → (∀ v ∈ vs, k v ≠ []) → ∃ gs, KatTups s.heap vs gs ∧ gs.length = vs.length ∧ ∀ f ∈ gs, ∃ x t, f = Value.int x t
  | [], _, _ => ⟨[], .nil, rfl, fun _ h => nomatch h⟩
  | v :: vs, h, n => by
    obtain ⟨gs, h1, h2, h3⟩ := kat_of (vs := vs) (fun u m => h u (List.mem_cons_of_mem _ m)) fun u m => n u (List.mem_cons_of_mem _ m)
    obtain ⟨a, o, items, m, e, g, c, d, i⟩ := h v List.mem_cons_self
    have nv := n v List.mem_cons_self
    obtain ⟨x, t, hx⟩ : ∃ x t, items[0]? = some (Value.int x t) := by
      obtain ⟨its⟩ := items
      generalize k v = ns at i nv
      cases i with
      | nil => exact absurd rfl nv
      | cons x t r => exact ⟨x, t, by simp⟩
    subst e
    refine ⟨.int x t :: gs, .cons g c d hx h1, by simp [h2], fun f hf => ?_⟩
    rcases List.mem_cons.mp hf with rfl | hf
    · exact ⟨x, t, rfl⟩
    · exact h3 f hf
theorem ti_sortable {a : Addr} {vs : List Value} {k : Value → List Int} (h0 : 0 < vs.length) (hu : A.units < cLine) (hp : ∀ v ∈ vs, IsTI s.heap v (k v)) (ha : ∀ o, s.heap.get? a = some o → o.cls ≠ .type "tuple") : SortableO prog w A s a vs fun v u => HT.lexLt (k v) (k u) := by
  intro h' keep
  have hp' : ∀ v ∈ vs, IsTI h' v (k v) := fun v hm => by
    obtain ⟨b, o, items, n, e, g, c, d, i⟩ := hp v hm
    exact ⟨b, o, items, n, e, keep b o (fun z => by subst z; exact ha o g c) g, c, d, i⟩
  by_cases all : ∀ v ∈ vs, k v ≠ []
  · obtain ⟨gs, h1, h2, h3⟩ := kat_of (s := { s with heap := h' }) hp' all
    refine ⟨tuples' true, fun Q E hq => ?_, fun p q hm hm' => lt_tuples (s := { s with heap := h' }) (hp' _ hm) (hp' _ hm') ⟨rfl, rfl⟩⟩
    refine PySem.W.kat_kind (T := .type "int") h1 (by omega) (fun f hm => ?_) (by rfl) ?_
    · obtain ⟨x, t, rfl⟩ := h3 f hm
      exact PySem.W.Looks.now
    · have e : (Value.type "int" != Value.type "tuple") = true := by first | decide +kernel | rfl | decide
      rw [e]
      exact hq
  · obtain ⟨fs, h1, h2, h3, h4⟩ := firstsO_of (s := { s with heap := h' }) hp'
    have hno : (fs.toArray.all fun x => x.isSome) = false := by
      rw [List.all_toArray]
      cases e : fs.all (fun x => x.isSome) with
      | false => rfl
      | true =>
        refine absurd (fun v hm => ?_) all
        obtain ⟨j, hj⟩ := List.getElem?_of_mem hm
        obtain ⟨f, hf, hi⟩ := h3 j v hj
        exact hi.mp (List.all_eq_true.mp e f (List.mem_of_getElem? hf))
    by_cases hd : (fs.toArray[0]?.bind id).isSome = true
    · refine ⟨general', fun Q E hq => ?_, fun p q hm hm' => ?_⟩
      · rw [kat_kind_eq, List.mapM_toArray, map_eq_pure_bind]
        refine wpAny_bind (wpAny_bind (firsts_walk vs fs h1 (wpAny_pure ?_)))
        rw [if_neg (by rw [hno]; decide), if_pos hd]
        exact wpAny_pure hq
      · show wpAny _ _ (oneLt' false p.1 q.1) _ _ _
        exact lt_general (s := { s with heap := h' }) hu (hp' _ hm) (hp' _ hm') ⟨rfl, rfl⟩
    · refine ⟨oneType', fun Q E hq => ?_, fun p q hm hm' => lt_one (s := { s with heap := h' }) hu (hp' _ hm) (hp' _ hm') ⟨rfl, rfl⟩⟩
      rw [kat_kind_eq, List.mapM_toArray, map_eq_pure_bind]
      refine wpAny_bind (wpAny_bind (firsts_walk vs fs h1 (wpAny_pure ?_)))
      rw [if_neg (by rw [hno]; decide), if_neg hd]
      rw [oneTypeOnly'_eq, List.mapM_toArray, map_eq_pure_bind]
      refine wpAny_bind (wpAny_bind (wpAny_bind (kas_mapM (r := Value.type "tuple") _ (fun v hv Q' hq' => ((hp' v hv).type (M := model prog w)).here hq') (wpAny_pure ?_))))
      obtain ⟨v1, rest, rfl⟩ : ∃ v1 rest, vs = v1 :: rest := by
        match vs, h0 with
        | v1 :: rest, _ => exact ⟨v1, rest, rfl⟩
      have hall : ((List.map (fun _ => Value.type "tuple") (v1 :: rest)).toArray.all fun x => x == Value.type "tuple") = true := by
        simp only [List.all_toArray, List.all_map, List.all_eq_true]
        intro _ _
        rfl
      have h00 : (List.map (fun _ => Value.type "tuple") (v1 :: rest)).toArray[0]? = some (Value.type "tuple") := by simp
      rw [h00]
      simp only [hall, if_true]
      exact wpAny_pure (wpAny_pure hq)
theorem sorted_ti {l : Addr} {vs : List Value} {k : Value → List Int} {Q : Value → Shared → Prop} (hu : A.units + 64 < cLine) (hl : s.heap.IsList l vs.toArray) (hz : vs.length ≤ sizeLine) (hp : ∀ v ∈ vs, IsTI s.heap v (k v))
    (h : ∀ (h' : Heap) (d : Addr) (out : List Value), Srtd (fun v u => HT.lexLt (k v) (k u)) out → Stb (fun v u => HT.lexLt (k v) (k u)) out vs → (∀ b o, s.heap.get? b = some o → h'.get? b = some o) → s.heap.objs.size ≤ d → (∃ n, h'.get? d = some (seqObj "list" out.toArray n)) → Q (.ref d) { s with heap := h' }) :
    wpAny (model prog w) A (call (.builtin "sorted") [.ref l]) Q E s := by
  refine sorted_ord (NtL.swo_lexL k) hl hz (fun h2 h₁ a ha kk => ?_) fun out hs hb => ?_
  · refine ti_sortable (s := { s with heap := h₁ }) (by omega) (by show A.units + 1 + 1 < cLine; omega) (fun v hm => (hp v hm).keeps fun b o _ e => (kk b o e).2) fun o e => ?_
    have e' : some o = some (seqObj "list" vs.toArray 0) := e.symm.trans ha
    cases e'
    intro c
    exact absurd (Value.type.inj c) (by decide)
  · exact h _ _ out hs hb (fun b o e => sortedAll_old e) (Nat.le_succ _) (sortedAll_at s.heap vs out.toArray)
end
end TLS
namespace TK
open PySem PySem.Spec PyProof.Rows L2
theorem ints_are : ∀ {ns : List Int} {us : List Value}, Vals (ns.map V.int) us → IntsAre us ns
  | [], us, r => by
    rw [List.map_nil] at r
    cases r
    exact .nil
  | n :: ns, us, r => by
    rw [List.map_cons] at r
    cases r with
    | cons h q =>
      obtain ⟨t, rfl⟩ := h
      exact .cons n t (ints_are q)
abbrev ltL (k : V → List Int) (x y : V) : Bool := HT.lexLt (k x) (k y)
/-- sorted(l), l a list of tuples of ints of any lengths (k says which): a new list, sorted, equal ones in their order -/
def rSortedTI (K : PySem.W.Frag) : List V → Hp → VK → Prop := fun vs H Q => ∃ (a : Addr) (xs : List V) (k : V → List Int), vs = [V.ref a] ∧ SqL K H a xs ∧ (∀ x ∈ xs, ∃ t, x = V.ref t ∧ H t = some (.tup ((k x).map V.int))) ∧
  ∀ ys p, SrtO.Srtd (ltL k) ys → SrtO.Stb (ltL k) ys xs → H p = none → Q (.ref p) (upd H p (.lst ys))
section
variable {X : Cx}
theorem call_sortedTI (hu : X.A.units + 64 < cLine) : CallR X (.builtin "sorted") (rSortedTI X.K) := by
  intro pins s σ H vs us Q I r h
  obtain ⟨a, xs, k, rfl, hs, hx, q⟩ := h
  obtain ⟨its, rv, hl, hz⟩ := I.list hs
  obtain ⟨u, rfl, ru⟩ := vals1 r
  obtain rfl : u = Value.ref a := ru
  obtain ⟨e1, e2⟩ := refs_back rv fun x m => by
    obtain ⟨t, e, _⟩ := hx x m
    exact ⟨t, e⟩
  refine TLS.sorted_ti (k := fun u => k (backV u)) hu hl.isList (by rw [← rv.length]; exact hz) (fun v hv => ?_) fun h' d out h1 h2 kp hd hn => ?_
  · obtain ⟨t, rfl⟩ := e2 v hv
    have hm : V.ref t ∈ xs := by rw [e1]; exact List.mem_map.mpr ⟨_, hv, rfl⟩
    obtain ⟨t', e, ht⟩ := hx _ hm
    cases e
    obtain ⟨_, its2, r2, o, ho, hc, n, hd⟩ := I.hok _ _ ht
    exact ⟨t, o, _, n, rfl, ho, hc, hd, by show IntsAre _ (k (V.ref t)); simpa using ints_are r2⟩
  · have h3 : ∀ u ∈ out, ∃ a, u = Value.ref a := fun u hu => e2 u (h2.perm.mem_iff.mp hu)
    obtain ⟨n, hn⟩ := hn
    have hb : SrtO.Stb (ltL k) (out.map backV) xs := by
      rw [e1]
      exact SrtO.Stb.map (NtL.swo_lexL k) backV h2
    refine ⟨.ref d, upd H d (.lst (out.map backV)), I.laid (t' := s.toks) kp hd ⟨?_, out, n, vals_back h3, hn⟩, rfl, q _ d (SrtO.srtd_map h1) hb (I.hok.fresh hd)⟩
    rw [hb.len]
    exact hz
end
end TK

/-! min(t), max(t) of a tuple of ints; zip of two tuples -/
namespace TK
open PySem PySem.Spec PyProof.Rows L2
section
variable {prog : Program} {w : World} {A : Around} {E : Value → Shared → Prop} {s : Shared} {t : Addr}
theorem min_intTup {xs : Array (Int × Tok)} {Q : Value → Shared → Prop} (hh : A.handled = none) (ht : s.heap.IsTuple t (intItems xs)) (hne : 0 < xs.size)
    (h : ∀ v h' tk, (intItems xs)[argBest (fun i j => decide (numAt xs i < numAt xs j)) (xs.size - 1)]? = some v → (∀ b o, s.heap.get? b = some o → h'.get? b = some o) → Q v { s with heap := h', toks := tk }) :
    wpAny (model prog w) A (call (.builtin "min") [.ref t]) Q E s := by
  obtain ⟨o, ho, hc, n, hd⟩ := id ht
  have hne2 : t ≠ s.heap.objs.size := Nat.ne_of_lt (Heap.lt_size ho)
  refine call_min_walk (wpAny_pyIter_tuple ht ?_)
  refine ⟨s.heap.objs.size, _, _, _, _, _, _, rfl, Walks.tuple (prog := prog) (w := w) (A := A.in1) hh s.heap.objs.size t hne2 (intItems xs), ⟨⟨_, Heap.get?_push_size _ rfl, rfl, rfl⟩, ht.at fun o e => Heap.get?_push_of_some _ e⟩, fun b hb => ?_, by simpa [intItems] using hne, CmpOf.ints_lt (numAt xs) (fun _ _ => intItems_at), fun v h' tk hP hk => ?_⟩
  · rcases List.mem_cons.mp hb with rfl | hb
    · exact Heap.lt_size (Heap.get?_push_size _ rfl)
    · obtain rfl := List.mem_singleton.mp hb
      exact Heap.lt_size (Heap.get?_push_of_some _ ho)
  · exact h v h' tk (by simpa [intItems] using hP) fun b o e => hk b o (fun hb => absurd (Heap.lt_size e) ((List.mem_singleton.mp hb) ▸ Nat.lt_irrefl _)) (Heap.get?_push_of_some _ e)
theorem max_intTup {xs : Array (Int × Tok)} {Q : Value → Shared → Prop} (hh : A.handled = none) (ht : s.heap.IsTuple t (intItems xs)) (hne : 0 < xs.size)
    (h : ∀ v h' tk, (intItems xs)[argBest (fun i j => decide (numAt xs i > numAt xs j)) (xs.size - 1)]? = some v → (∀ b o, s.heap.get? b = some o → h'.get? b = some o) → Q v { s with heap := h', toks := tk }) :
    wpAny (model prog w) A (call (.builtin "max") [.ref t]) Q E s := by
  obtain ⟨o, ho, hc, n, hd⟩ := id ht
  have hne2 : t ≠ s.heap.objs.size := Nat.ne_of_lt (Heap.lt_size ho)
  refine call_max_walk (wpAny_pyIter_tuple ht ?_)
  refine ⟨s.heap.objs.size, _, _, _, _, _, _, rfl, Walks.tuple (prog := prog) (w := w) (A := A.in1) hh s.heap.objs.size t hne2 (intItems xs), ⟨⟨_, Heap.get?_push_size _ rfl, rfl, rfl⟩, ht.at fun o e => Heap.get?_push_of_some _ e⟩, fun b hb => ?_, by simpa [intItems] using hne, CmpOf.ints_gt (numAt xs) (fun _ _ => intItems_at), fun v h' tk hP hk => ?_⟩
  · rcases List.mem_cons.mp hb with rfl | hb
    · exact Heap.lt_size (Heap.get?_push_size _ rfl)
    · obtain rfl := List.mem_singleton.mp hb
      exact Heap.lt_size (Heap.get?_push_of_some _ ho)
  · exact h v h' tk (by simpa [intItems] using hP) fun b o e => hk b o (fun hb => absurd (Heap.lt_size e) ((List.mem_singleton.mp hb) ▸ Nat.lt_irrefl _)) (Heap.get?_push_of_some _ e)
end
section
variable {X : Cx}
def rMinT (K : PySem.W.Frag) : List V → Hp → VK → Prop := fun vs H Q => ∃ (a : Addr) (ns : List Int), vs = [V.ref a] ∧ SqT K H a (ns.map V.int) ∧ 0 < ns.length ∧ ∀ m, m ∈ ns → (∀ y, y ∈ ns → m ≤ y) → Q (.int m) H
def rMaxT (K : PySem.W.Frag) : List V → Hp → VK → Prop := fun vs H Q => ∃ (a : Addr) (ns : List Int), vs = [V.ref a] ∧ SqT K H a (ns.map V.int) ∧ 0 < ns.length ∧ ∀ m, m ∈ ns → (∀ y, y ∈ ns → y ≤ m) → Q (.int m) H
theorem cr_minT (hc : X.calm = true) : CallR X (.builtin "min") (rMinT X.K) := by
  intro pins s σ H vs us Q I r h
  obtain ⟨a, ns, rfl, hs, hne, q⟩ := h
  obtain ⟨itm, rv, p, _⟩ := I.tuple hs
  rw [Vals.ref1 r]
  obtain ⟨xs, e⟩ := rv.ints.allInts.items
  have hn : numsOf itm.toArray.toList = ns := rv.ints.numsOf
  rw [e, nums_intItems] at hn
  subst hn
  have hsz : 0 < xs.size := by simpa using hne
  refine min_intTup (I.ok.hd hc) (e ▸ p) hsz fun v h' tk hv hk => ?_
  obtain ⟨t, rfl⟩ := intItems_at hv
  obtain ⟨h1, h2⟩ := argBest_lt (numAt xs) (xs.size - 1)
  refine ⟨.int _, H, I.kept hk, ⟨_, rfl⟩, q _ ?_ fun a ha => ?_⟩
  · rw [numAt_eq]; exact PySem.getD_mem (by rw [List.length_map, Array.length_toList]; omega)
  · obtain ⟨j, hj, rfl⟩ := mem_getD ha
    rw [List.length_map, Array.length_toList] at hj
    rw [← numAt_eq]; exact h2 j (by omega)
theorem cr_maxT (hc : X.calm = true) : CallR X (.builtin "max") (rMaxT X.K) := by
  intro pins s σ H vs us Q I r h
  obtain ⟨a, ns, rfl, hs, hne, q⟩ := h
  obtain ⟨itm, rv, p, _⟩ := I.tuple hs
  rw [Vals.ref1 r]
  obtain ⟨xs, e⟩ := rv.ints.allInts.items
  have hn : numsOf itm.toArray.toList = ns := rv.ints.numsOf
  rw [e, nums_intItems] at hn
  subst hn
  have hsz : 0 < xs.size := by simpa using hne
  refine max_intTup (I.ok.hd hc) (e ▸ p) hsz fun v h' tk hv hk => ?_
  obtain ⟨t, rfl⟩ := intItems_at hv
  obtain ⟨h1, h2⟩ := argBest_gt (numAt xs) (xs.size - 1)
  refine ⟨.int _, H, I.kept hk, ⟨_, rfl⟩, q _ ?_ fun a ha => ?_⟩
  · rw [numAt_eq]; exact PySem.getD_mem (by rw [List.length_map, Array.length_toList]; omega)
  · obtain ⟨j, hj, rfl⟩ := mem_getD ha
    rw [List.length_map, Array.length_toList] at hj
    rw [← numAt_eq]; exact h2 j (by omega)
end
theorem walk_zipT {K : PySem.W.Frag} {a b : Addr} {xs ys : List V} (hl : xs.length = ys.length) : Walk (RZ.ItzT K a b) xs.length (fun H => SqT K H a xs ∧ SqT K H b ys) (YPair (fun i => xs[i]?) (fun i => ys[i]?)) where
  goes := fun i H hi q => ⟨xs, ys, _, _, q.1, q.2, List.getElem?_eq_getElem hi, List.getElem?_eq_getElem (hl ▸ hi)⟩
  stops := fun H q => ⟨xs, ys, q.1, q.2, .inl (Nat.le_refl _)⟩
  yields := fun i H v H' _ q y => by
    obtain ⟨T, x, z, h1, h2, h3, h4, h5⟩ := y
    exact ⟨T, x, z, h1, h2, h3, h4 xs q.1, h5 ys q.2⟩
end TK

/-! dict(zip(list, tuple)); tuple(d.values()) -/
namespace PySem
open Sem (wp)
section
variable {prog : Program} {w : World} {A : Around} {E : Value → Shared → Prop} {s : Shared} {z TI TO T i1 i2 : Addr} {fp1 fp2 : List Addr} {n1 n2 i : Nat} {P1 P2 : Nat → Value → Prop} {St1 St2 : Nat → Heap → Prop} {f : Bool} {oT : Obj}
theorem zipD2_next_item_held {Q : Value → Shared → Prop} (S : ZipSep2 z TI TO i1 i2 fp1 fp2) (D1 : Draws prog w A i1 fp1 n1 P1 St1) (D2 : Draws prog w A i2 fp2 n2 P2 St2)
    (hz : IsZipHeld s.heap z TI TO T f) (hT : s.heap.get? T = some oT) (hTI : IsTupOf2 s.heap TI (.ref i1) (.ref i2)) (st1 : St1 i s.heap) (st2 : St2 i s.heap) (hlt1 : i < n1) (hlt2 : i < n2)
    (hQ : ∀ x1 x2 h' tk, P1 i x1 → P2 i x2 → IsZipHeld h' z TI TO T true → St1 (i + 1) h' → St2 (i + 1) h' → IsTupOf2 h' s.heap.objs.size x1 x2 → h'.objs.size = s.heap.objs.size + 1 →
      (∀ c o, c ≠ z → c ≠ i1 → c ≠ i2 → s.heap.get? c = some o → h'.get? c = some o) → Q (.ref s.heap.objs.size) { s with heap := h', toks := tk }) :
    wpAny (model prog w) A (Builtin.«zip.__next__» ⟨[.ref z], []⟩) (fun fin s' => ∃ v, fin = .done (.ret v) ∧ Q v s') E s := by
  obtain ⟨hp, g, d, tk0, os⟩ := s
  show wpAny _ _ (field (.ref z) 2 >>= _) _ _ _
  refine wpAny_bind (wpAny_field hz rfl (x := .bool false) rfl ?_)
  show wpAny _ _ (field (.ref z) 3 >>= _) _ _ _
  refine wpAny_bind (wpAny_field hz rfl (x := .ref TI) rfl ?_)
  refine wpAny_bind (wpAny_seqItems hTI rfl ?_)
  show wpAny _ _ (Builtin.SmallTypes.ownedTupleIsFree (.ref z) >>= _) _ _ _
  refine wpAny_bind (wpAny_tupleHeld_zip hz hT fun g0 hz0 hs0 => ?_)
  simp only [Bool.false_eq_true, if_false]
  replace hs0 : Heap.SameBut z hp g0 := hs0
  refine wpAny_bind ?_
  rw [← Array.forIn_toList]
  simp only [List.forIn_cons, List.forIn_nil]
  refine wpAny_bind (wpAny_bind (wpAny_holding ?_))
  show wpAny _ _ (Builtin.SmallTypes.nextOf (.ref i1) >>= _) _ _ ⟨g0, g, d, tk0, os⟩
  refine wpAny_bind (D1.item i _ _ _ hlt1 (D1.over st1 hs0 S.zf1) fun x1 p1 tk1 hx1 sn1 hp1 => wpAny_pure ?_)
  replace hp1 : Heap.SameBut i1 g0 p1 := hp1
  refine wpAny_pure ?_
  refine wpAny_bind (wpAny_bind (wpAny_holding ?_))
  show wpAny _ _ (Builtin.SmallTypes.nextOf (.ref i2) >>= _) _ _ ⟨p1, g, d, tk1, os⟩
  refine wpAny_bind (D2.item i _ _ _ hlt2 (D2.over (D2.over st2 hs0 S.zf2) hp1 S.sep1_2) fun x2 p2 tk2 hx2 sn2 hp2 => wpAny_pure ?_)
  replace hp2 : Heap.SameBut i2 p1 p2 := hp2
  refine wpAny_pure (wpAny_pure ?_)
  show wpAny _ _ (newTuple [x1, x2] >>= _) _ _ _
  refine wpAny_bind (wpAny_newTuple ?_)
  have hsz : p2.objs.size = hp.objs.size := by rw [hp2.1, hp1.1, hs0.1]
  have hz3 : IsZipHeld p2 z TI TO T true := hp2.extBut _ _ S.zi2 (hp1.extBut _ _ S.zi1 hz0)
  have hk : ∀ c o, c ≠ z → c ≠ i1 → c ≠ i2 → hp.get? c = some o → p2.get? c = some o := fun c o c1 c2 c3 e => hp2.extBut _ _ c3 (hp1.extBut _ _ c2 (hs0.extBut _ _ c1 e))
  have hj1 : St1 (i + 1) p2 := D1.over sn1 hp2 S.sep2_1
  have hp' : IsTupOf2 (p2.push { cls := .type "tuple", data := .seq #[x1, x2] }) p2.objs.size x1 x2 := Heap.get?_push_size _ rfl
  have hz4 : (p2.push { cls := .type "tuple", data := .seq #[x1, x2] }).objs.size = p2.objs.size + 1 := Heap.size_push ..
  refine wpAny_pure ⟨_, rfl, ?_⟩
  show Q (.ref p2.objs.size) _
  rw [hsz] at hp' hz4 ⊢
  exact hQ x1 x2 _ tk2 hx1 hx2 (Heap.get?_push_of_some _ hz3) (D1.frame _ _ _ hj1 fun b _ o e => Heap.get?_push_of_some _ e) (D2.frame _ _ _ sn2 fun b _ o e => Heap.get?_push_of_some _ e) hp' hz4 fun c o c1 c2 c3 e => Heap.get?_push_of_some _ (hk c o c1 c2 c3 e)

theorem zipD2_next_end_held {Q : Fin → Shared → Prop} (S : ZipSep2 z TI TO i1 i2 fp1 fp2) (D1 : Draws prog w A i1 fp1 n1 P1 St1) (D2 : Draws prog w A i2 fp2 n2 P2 St2)
    (hz : IsZipHeld s.heap z TI TO T f) (hT : s.heap.get? T = some oT) (hTI : IsTupOf2 s.heap TI (.ref i1) (.ref i2)) (st1 : St1 i s.heap) (st2 : St2 i s.heap) (hle1 : i ≤ n1) (hle2 : i ≤ n2) (hend : i = n1 ∨ i = n2)
    (hE : ∀ h' tk e, (∀ c o, c ≠ z → c ≠ i1 → c ≠ i2 → s.heap.get? c = some o → h'.get? c = some o) → (∃ o, h'.get? e = some o ∧ o.cls = .type "StopIteration") → E (.ref e) { s with heap := h', toks := tk }) :
    wpAny (model prog w) A (Builtin.«zip.__next__» ⟨[.ref z], []⟩) Q E s := by
  obtain ⟨hp, g, d, tk0, os⟩ := s
  show wpAny _ _ (field (.ref z) 2 >>= _) _ _ _
  refine wpAny_bind (wpAny_field hz rfl (x := .bool false) rfl ?_)
  show wpAny _ _ (field (.ref z) 3 >>= _) _ _ _
  refine wpAny_bind (wpAny_field hz rfl (x := .ref TI) rfl ?_)
  refine wpAny_bind (wpAny_seqItems hTI rfl ?_)
  show wpAny _ _ (Builtin.SmallTypes.ownedTupleIsFree (.ref z) >>= _) _ _ _
  refine wpAny_bind (wpAny_tupleHeld_zip hz hT fun g0 hz0 hs0 => ?_)
  simp only [Bool.false_eq_true, if_false]
  replace hs0 : Heap.SameBut z hp g0 := hs0
  refine wpAny_bind ?_
  rw [← Array.forIn_toList]
  simp only [List.forIn_cons, List.forIn_nil]
  refine wpAny_bind (wpAny_bind (wpAny_holding ?_))
  show wpAny _ _ (Builtin.SmallTypes.nextOf (.ref i1) >>= _) _ _ ⟨g0, g, d, tk0, os⟩
  by_cases hlt1 : i < n1
  · refine wpAny_bind (D1.item i _ _ _ hlt1 (D1.over st1 hs0 S.zf1) fun x1 p1 tk1 hx1 sn1 hp1 => wpAny_pure ?_)
    replace hp1 : Heap.SameBut i1 g0 p1 := hp1
    refine wpAny_pure ?_
    have hi2 : i = n2 := by omega
    refine wpAny_bind (wpAny_bind (wpAny_holding ?_))
    show wpAny _ _ (Builtin.SmallTypes.nextOf (.ref i2) >>= _) _ _ ⟨p1, g, d, tk1, os⟩
    refine wpAny_bind (D2.done ⟨p1, g, d, tk1, os⟩ _ _ (by rw [← hi2]; exact (D2.over (D2.over st2 hs0 S.zf2) hp1 S.sep1_2)) fun q e hq he => ?_)
    replace hq : Heap.ExtBut i2 p1 q := hq
    exact hE q tk1 e (fun c o cz c1 c2 x => hq _ _ c2 (hp1.extBut _ _ c1 (hs0.extBut _ _ cz x))) he
  · have hi1 : i = n1 := by omega
    refine wpAny_bind (D1.done ⟨g0, g, d, tk0, os⟩ _ _ (by rw [← hi1]; exact (D1.over st1 hs0 S.zf1)) fun q e hq he => ?_)
    replace hq : Heap.ExtBut i1 g0 q := hq
    exact hE q tk0 e (fun c o cz c1 c2 x => hq _ _ c1 (hs0.extBut _ _ cz x)) he

theorem wpAny_pyNext_zipD2_item_held {Q : Option Value → Shared → Prop} (S : ZipSep2 z TI TO i1 i2 fp1 fp2) (D1 : Draws prog w A.in1 i1 fp1 n1 P1 St1) (D2 : Draws prog w A.in1 i2 fp2 n2 P2 St2)
    (hz : IsZipHeld s.heap z TI TO T f) (hT : s.heap.get? T = some oT) (hTI : IsTupOf2 s.heap TI (.ref i1) (.ref i2)) (st1 : St1 i s.heap) (st2 : St2 i s.heap) (hlt1 : i < n1) (hlt2 : i < n2)
    (hQ : ∀ x1 x2 h' tk, P1 i x1 → P2 i x2 → IsZipHeld h' z TI TO T true → St1 (i + 1) h' → St2 (i + 1) h' → IsTupOf2 h' s.heap.objs.size x1 x2 → h'.objs.size = s.heap.objs.size + 1 →
      (∀ c o, c ≠ z → c ≠ i1 → c ≠ i2 → s.heap.get? c = some o → h'.get? c = some o) → Q (some (.ref s.heap.objs.size)) { s with heap := h', toks := tk }) :
    wpAny (model prog w) A (pyNext (.ref z)) Q E s := by
  have hTy : s.TypeIs (.ref z) "zip" := ⟨_, hz, rfl⟩
  unfold pyNext
  exact wpAny_bind (wpAny_attempt (wpAny_callSpecial?_slot (name := Str.ofString "__next__") hTy F.slot_zip_next
    (wpAny_call_entry F.slot_zip_next hTy F.entry_zip_next
      (zipD2_next_item_held S D1 D2 hz hT hTI st1 st2 hlt1 hlt2 fun x1 x2 h' tk y1 y2 b1 d1 d2 b5 b6 b7 => wpAny_pure (hQ x1 x2 h' tk y1 y2 b1 d1 d2 b5 b6 b7)) (F.args_zip_next_1 _))))
theorem wpAny_pyNext_zipD2_end_held {Q : Option Value → Shared → Prop} (S : ZipSep2 z TI TO i1 i2 fp1 fp2) (D1 : Draws prog w A.in1 i1 fp1 n1 P1 St1) (D2 : Draws prog w A.in1 i2 fp2 n2 P2 St2)
    (hz : IsZipHeld s.heap z TI TO T f) (hT : s.heap.get? T = some oT) (hTI : IsTupOf2 s.heap TI (.ref i1) (.ref i2)) (st1 : St1 i s.heap) (st2 : St2 i s.heap) (hle1 : i ≤ n1) (hle2 : i ≤ n2) (hend : i = n1 ∨ i = n2)
    (hQ : ∀ h' tk, (∀ c o, c ≠ z → c ≠ i1 → c ≠ i2 → s.heap.get? c = some o → h'.get? c = some o) → Q none { s with heap := h', toks := tk }) : wpAny (model prog w) A (pyNext (.ref z)) Q E s := by
  have hTy : s.TypeIs (.ref z) "zip" := ⟨_, hz, rfl⟩
  unfold pyNext
  refine wpAny_bind (wpAny_attempt (wpAny_callSpecial?_slot (name := Str.ofString "__next__") hTy F.slot_zip_next
    (wpAny_call_entry F.slot_zip_next hTy F.entry_zip_next (zipD2_next_end_held S D1 D2 hz hT hTI st1 st2 hle1 hle2 hend fun h' tk e hk he => ?_) (F.args_zip_next_1 _))))
  obtain ⟨o, ho, hc⟩ := he
  refine wpAny_bind (wpAny_isInstance (T := "StopIteration") (b := true) ⟨o, ho, hc⟩ isSubtype_stop ?_)
  exact wpAny_pure (hQ _ _ hk)
end
/-- zip of a list and a tuple, as the argument of dict() -/
theorem PairArg.zipLT {prog : Program} {w : World} (z TI TO i1 i2 l1 l2 : Addr) (S : ZipSep2 z TI TO i1 i2 [i1, l1] [i2, l2]) (n1 : l1 ≠ i1) (n2 : l2 ≠ i2) (m1 : l1 ≠ z) (m2 : l2 ≠ z) (m3 : l1 ≠ i2) (m4 : l2 ≠ i1) (m5 : l1 ≠ TO) (m6 : l2 ≠ TO) (xs ys : Array Value) (hxy : xs.size = ys.size) :
    PairArg prog w "zip" z [z, TI, TO, i1, i2, l1, l2] [z, TO, i1, i2] xs.size (fun i k v => xs[i]? = some k ∧ ys[i]? = some v)
      (fun h => IsZip h z TI TO .none ∧ IsTupOf2 h TI (.ref i1) (.ref i2) ∧ (∃ a b, IsTupOf2 h TO a b) ∧ (h.IsListIter i1 l1 0 ∧ h.IsList l1 xs) ∧ (h.IsTupleIter i2 l2 0 ∧ h.IsTuple l2 ys)) where
  type := fun s ok => ⟨_, ok.1, rfl⟩
  notDict := by decide
  keep := fun h h' ok hk => by
    obtain ⟨hz, hTI, ⟨a, b, hTO⟩, ⟨h1, hl1⟩, h2, hl2⟩ := ok
    exact ⟨hk _ _ hz, hk _ _ hTI, ⟨a, b, hk _ _ hTO⟩, ⟨h1.at fun o e => hk _ o e, hl1.at fun o e => hk _ o e⟩, h2.at fun o e => hk _ o e, hl2.at fun o e => hk _ o e⟩
  there := fun h ok b hb => by
    obtain ⟨hz, hTI, ⟨a, c, hTO⟩, ⟨⟨o1, h1, _⟩, ⟨o3, hl1, _⟩⟩, ⟨o2, h2, _⟩, ⟨o4, hl2, _⟩⟩ := ok
    simp only [List.mem_cons, List.not_mem_nil, or_false] at hb
    rcases hb with rfl | rfl | rfl | rfl | rfl | rfl | rfl
    all_goals first | exact ⟨_, hz⟩ | exact ⟨_, hTI⟩ | exact ⟨_, hTO⟩ | exact ⟨_, h1⟩ | exact ⟨_, h2⟩ | exact ⟨_, hl1⟩ | exact ⟨_, hl2⟩
  sub := fun b hb => by simp at hb ⊢; rcases hb with rfl | rfl | rfl | rfl <;> simp
  noKeys := fun A s Q E hA ok h => getAttrOr_miss_zip ok.1 rfl rfl rfl zip_no_keys (by decide +kernel) hA h
  iter := fun A s d Q E hA ok hd hdf h => by
    obtain ⟨hz, hTI, ⟨a, b, hTO⟩, h1, h2⟩ := ok
    simp only [List.mem_cons, List.not_mem_nil, or_false, not_or] at hdf
    obtain ⟨dz, dTI, dTO, di1, di2, dl1, dl2⟩ := hdf
    have D1 := Draws.list (prog := prog) (w := w) (A := A.in1) hA i1 l1 n1 xs
    have D2 := Draws.tuple (prog := prog) (w := w) (A := A.in1) hA i2 l2 n2 ys
    refine wpAny_pyIter_zip hz (h z [z, TO, i1, i2] (fun i h => IsTupOf2 h TI (.ref i1) (.ref i2) ∧ (h.IsListIter i1 l1 i ∧ h.IsList l1 xs) ∧ (h.IsTupleIter i2 l2 i ∧ h.IsTuple l2 ys) ∧
      ((IsZip h z TI TO .none ∧ ∃ a b, IsTupOf2 h TO a b) ∨ ∃ T f oT, IsZipHeld h z TI TO T f ∧ h.get? T = some oT ∧ T ≠ z ∧ T ≠ i1 ∧ T ≠ i2 ∧ T ≠ d)) s.heap s.toks ?_
      ⟨hTI, h1, h2, .inl ⟨hz, a, b, hTO⟩⟩ (fun _ _ e => e) fun b hb => .inl hb)
    exact {
      off := fun hm => by
        simp only [List.mem_cons, List.not_mem_nil, or_false] at hm
        rcases hm with e | e | e | e
        · exact dz e
        · exact dTO e
        · exact di1 e
        · exact di2 e
      frame := fun i h₁ h₂ st hk => by
        obtain ⟨hTI, ⟨h1, hl1⟩, ⟨h2, hl2⟩, hz⟩ := st
        refine ⟨hk _ _ (Ne.symm dTI) hTI, ⟨h1.at fun o e => hk _ o (Ne.symm di1) e, hl1.at fun o e => hk _ o (Ne.symm dl1) e⟩, ⟨h2.at fun o e => hk _ o (Ne.symm di2) e, hl2.at fun o e => hk _ o (Ne.symm dl2) e⟩, ?_⟩
        rcases hz with ⟨hz, a, b, hTO⟩ | ⟨T, f, oT, hz, hT, r1, r2, r3, r4⟩
        · exact .inl ⟨hk _ _ (Ne.symm dz) hz, a, b, hk _ _ (Ne.symm dTO) hTO⟩
        · exact .inr ⟨T, f, oT, hk _ _ (Ne.symm dz) hz, hk _ _ r4 hT, r1, r2, r3, r4⟩
      item := fun i s₁ Q₁ E₁ hi st hds hQ => by
        obtain ⟨hTI, h1, h2, hz⟩ := st
        have lt : ∀ {c o}, s₁.heap.get? c = some o → s₁.heap.objs.size ≠ c := fun e => Nat.ne_of_gt (Heap.lt_size e)
        have n1 : s₁.heap.objs.size ≠ i1 := let ⟨_, e, _⟩ := h1.1; lt e
        have n2 : s₁.heap.objs.size ≠ i2 := let ⟨_, e, _⟩ := h2.1; lt e
        rcases hz with ⟨hz, a, b, hTO⟩ | ⟨T, f, oT, hz, hT, r1, r2, r3, r4⟩
        · refine wpAny_pyNext_zipD2_item S D1 D2 hz hTI hTO h1 h2 hi (by omega) fun x1 x2 h' tk e1 e2 a1 a2 a3 a4 a5 a6 hk => ?_
          exact hQ s₁.heap.objs.size _ _ h' tk ⟨e1, e2⟩ (.inl ⟨_, a5, rfl, _, rfl⟩)
            ⟨hk _ _ S.TIz S.TITO S.TIi1 S.TIi2 hTI, a3, a4, .inr ⟨s₁.heap.objs.size, false, _, a1, a5, lt hz, n1, n2, Nat.ne_of_gt hds⟩⟩
            fun c o hc e => hk c o (fun x => hc (by simp [x])) (fun x => hc (by simp [x])) (fun x => hc (by simp [x])) (fun x => hc (by simp [x])) e
        · refine wpAny_pyNext_zipD2_item_held S D1 D2 hz hT hTI h1 h2 hi (by omega) fun x1 x2 h' tk e1 e2 a1 a3 a4 a5 a6 hk => ?_
          exact hQ s₁.heap.objs.size _ _ h' tk ⟨e1, e2⟩ (.inl ⟨_, a5, rfl, _, rfl⟩)
            ⟨hk _ _ S.TIz S.TIi1 S.TIi2 hTI, a3, a4, .inr ⟨T, true, oT, a1, hk _ _ r1 r2 r3 hT, r1, r2, r3, r4⟩⟩
            fun c o hc e => hk c o (fun x => hc (by simp [x])) (fun x => hc (by simp [x])) (fun x => hc (by simp [x])) e
      done := fun s₁ Q₁ E₁ st hQ => by
        obtain ⟨hTI, h1, h2, hz⟩ := st
        rcases hz with ⟨hz, a, b, hTO⟩ | ⟨T, f, oT, hz, hT, r1, r2, r3, r4⟩
        · exact wpAny_pyNext_zipD2_end S D1 D2 hz hTI hTO h1 h2 (Nat.le_refl _) (by omega) (.inl rfl) fun h' tk hk => hQ h' tk fun c o hc e => hk c o (fun x => hc (by simp [x])) (fun x => hc (by simp [x])) (fun x => hc (by simp [x])) (fun x => hc (by simp [x])) e
        · exact wpAny_pyNext_zipD2_end_held S D1 D2 hz hT hTI h1 h2 (Nat.le_refl _) (by omega) (.inl rfl) fun h' tk hk => hQ h' tk fun c o hc e => hk c o (fun x => hc (by simp [x])) (fun x => hc (by simp [x])) (fun x => hc (by simp [x])) e }
end PySem
namespace TK
open PySem PySem.Spec PyProof.Rows L2
/-! dict(zip(xs, ys)) -/
def tDictZip (K : PySem.W.Frag) (ta : TA) : TE := fun σ H Q => ta σ H fun vs H1 => ∃ (a b : Addr) (ks : List Key) (ys : List V), vs = [.ref a, .ref b] ∧ SqL K H1 a (ks.map kV) ∧ SqT K H1 b ys ∧ ks.length = ys.length ∧ ∀ p, H1 p = none → Q (.ref p) (upd H1 p (.dK (mergeK [] (ks.zip ys))))
theorem kv_zip : ∀ {ks : List Key} {ys : List V} {us vs : List Value}, Vals (ks.map kV) us → Vals ys vs → ks.length = ys.length → L2.KV (ks.zip ys) (ks.zip vs)
  | [], [], _, _, h, k, _ => by cases h; cases k; exact .nil
  | k :: ks, y :: ys, _, _, h, g, hl => by
    cases h with
    | cons h1 h2 =>
      cases g with
      | cons g1 g2 => exact .cons ⟨rfl, g1⟩ (kv_zip h2 g2 (by simpa using hl))
theorem pe_dictZip {X : Cx} {e e2 : Expr} {ta : TA} {p pos p2 pos2 : Pos} (hc : X.calm = true) (hg : Gl X "dict") (hm : X.mg "dict" = none) (hg2 : Gl X "zip") (hm2 : X.mg "zip" = none) (ha : PA X [e, e2] ta)
    (hs : starEach [e, e2] X.env = (false, eval e X.env) :: starEach [e2] X.env := by rfl) (hpl : (backTo pos2 (starEach [e2] X.env)).any (·.1) = false := by rfl)
    (na : starEach [.Call (.Name "zip" p2) [e, e2] [] pos2] X.env = (false, eval (.Call (.Name "zip" p2) [e, e2] [] pos2) X.env) :: starEach [] X.env := by rfl) :
    PE X (.Call (.Name "dict" p) [.Call (.Name "zip" p2) [e, e2] [] pos2] [] pos) (tDictZip X.K ta) := by
  refine ⟨fun pins s σ H Q I h => ?_⟩
  have hzip : wpAny (model X.prog X.w) X.A (eval (.Call (.Name "zip" p2) [e, e2] [] pos2) X.env) (fun x s2 => ∃ (z TI TO i1 i2 a b : Addr) (ks : List Key) (ys : List V) (its its2 : List Value) (H1 : Hp) (s1 : Shared), x = .ref z ∧ Inv X pins σ H1 s1 ∧ s2 = { s1 with heap := s2.heap } ∧ (∀ c o, s1.heap.get? c = some o → s2.heap.get? c = some o) ∧ s1.heap.objs.size ≤ z ∧ s1.heap.objs.size ≤ TO ∧ s1.heap.objs.size ≤ i1 ∧ s1.heap.objs.size ≤ i2 ∧
      ZipSep2 z TI TO i1 i2 [i1, a] [i2, b] ∧ a < s1.heap.objs.size ∧ b < s1.heap.objs.size ∧ Vals (ks.map kV) its ∧ Vals ys its2 ∧ ks.length = ys.length ∧ its.length ≤ sizeLine ∧
      (IsZip s2.heap z TI TO .none ∧ IsTupOf2 s2.heap TI (.ref i1) (.ref i2) ∧ (∃ a b, IsTupOf2 s2.heap TO a b) ∧ (s2.heap.IsListIter i1 a 0 ∧ s2.heap.IsList a its.toArray) ∧ (s2.heap.IsTupleIter i2 b 0 ∧ s2.heap.IsTuple b its2.toArray)) ∧
      (∀ p, H1 p = none → Q (.ref p) (upd H1 p (.dK (mergeK [] (ks.zip ys)))))) X.xe s := by
    refine Call_ (ld_blt I hg2 hm2 PyProof.Rows.boot_zip (PyProof.Rows.callWith_type1 (thn (ha.run pos2 pins s σ H _ I h) fun us s1 ⟨vs, H1, I1, r1, q1⟩ => ?_) hs hpl))
    obtain ⟨a, b, ks, ys, rfl, hqx, hqy, hl, q⟩ := q1
    obtain ⟨u1, u2, rfl, r, r'⟩ := r1.two
    cases r
    cases r'
    obtain ⟨its, rv, p1, hz1⟩ := I1.list hqx
    obtain ⟨its2, rv2, p2, _⟩ := I1.tuple hqy
    have lb : b < s1.heap.objs.size := by obtain ⟨_, q, _⟩ := p2; exact Heap.lt_size q
    have la : a < s1.heap.objs.size := p1.lt
    refine zip_begins2 (begins_list a its.toArray) (begins_tuple b its2.toArray) p1.isList p2 fun h' hz hTI hTO h1 h2 hsz hk => ?_
    refine ⟨_, _, _, _, _, a, b, ks, ys, its, its2, H1, s1, rfl, I1, rfl, hk, Nat.le_add_right _ _, Nat.le_add_right _ _, Nat.le_refl _, Nat.le_add_right _ _, sep_zip _ _ _ la lb, la, lb, rv, rv2, hl, by rw [← rv.length]; exact hz1, ⟨hz, hTI, ⟨_, _, hTO⟩, ⟨⟨_, h1, rfl, rfl⟩, Heap.IsList.at p1.isList fun o e => hk _ o e⟩, ⟨_, h2, rfl, rfl⟩, Heap.IsTuple.at p2 fun o e => hk _ o e⟩, q⟩
  refine Call_ (ld_blt I hg hm boot_dict (PyProof.Rows.callWith_type1 (args_cons (thn hzip fun x s2 h2 => args_nil ?_) na) na))
  obtain ⟨z, TI, TO, i1, i2, a, b, ks, ys, its, its2, H1, s1, rfl, I1, es, hk, g1, g2, g3, g4, S, la, lb, rv, rv2, hl, hz1, ok, q⟩ := h2
  have ne : ∀ {x y : Nat}, x < s1.heap.objs.size → s1.heap.objs.size ≤ y → x ≠ y := fun h1 h2 => by omega
  have lx : its.toArray.size = its2.toArray.size := by
    rw [List.size_toArray, List.size_toArray, ← rv.length, ← rv2.length, List.length_map, hl]
  have PA' := PairArg.zipLT (prog := X.prog) (w := X.w) z TI TO i1 i2 a b S (ne la g3) (ne lb g4) (ne la g1) (ne lb g1) (ne la g4) (ne lb g3) (ne la g2) (ne lb g2) its.toArray its2.toArray lx
  have hlen : ks.length = its.length := by rw [← rv.length, List.length_map]
  have hlen2 : ys.length = its2.length := rv2.length
  refine PySem.call_dict_pairs (knd := mixKind X.prog X.w) (kvs := ks.zip its2) PA' (I1.ok.hd hc) ok ⟨?_, fun i k v hr => ?_⟩ (by rw [List.size_toArray]; exact hz1) fun h' tk hd' hk' => ?_
  · rw [List.length_zip, List.size_toArray]; omega
  · obtain ⟨e1, e2⟩ := hr
    have e1 : its[i]? = some k := by simpa using e1
    have e2 : its2[i]? = some v := by simpa using e2
    have hi : i < ks.length := by rw [hlen]; exact (List.getElem?_eq_some_iff.mp e1).1
    refine ⟨ks[i], ?_, ?_⟩
    · rw [List.getElem?_zip_eq_some]
      exact ⟨List.getElem?_eq_getElem hi, e2⟩
    · obtain ⟨u, hu, ru⟩ := rv.get (i := i) (x := kV ks[i]) (by rw [List.getElem?_map, List.getElem?_eq_getElem hi]; rfl)
      rw [e1] at hu
      cases hu
      exact kV_is ru
  · rw [es] at hd' hk' ⊢
    have hlt : ∀ {c o}, s1.heap.get? c = some o → c < s1.heap.objs.size := fun e => Heap.lt_size e
    have kp : ∀ c o, s1.heap.get? c = some o → h'.get? c = some o := fun c o e => hk' c o (by
      have := hlt e
      simp only [List.mem_cons, List.not_mem_nil, or_false, not_or]
      exact ⟨ne this g1, ne this g2, ne this g3, ne this g4⟩) (hk c o e)
    have big : s1.heap.objs.size ≤ s2.heap.objs.size := by
      obtain ⟨hz, _⟩ := ok
      exact Nat.le_of_lt (Nat.lt_of_le_of_lt g1 (Heap.lt_size hz))
    have hsm : (s2.heap.objs.size == sysModules) = false := beq_eq_false_iff_ne.mpr (Nat.ne_of_gt (Nat.lt_of_lt_of_le I1.big big))
    refine ⟨.ref s2.heap.objs.size, upd H1 s2.heap.objs.size (.dK (mergeK [] (ks.zip ys))), I1.laid (t' := tk) kp big ?_, rfl, q _ (I1.hok.fresh big)⟩
    refine (show ObjOk X.prog X.w _ _ _ (.dK (mergeK [] (ks.zip ys))) from ⟨?_, hsm, merged [] (ks.zip its2), KV.merge (kv_zip rv rv2 hl) .nil, hd'⟩)
    have e1 := (KV.merge (kv_zip rv rv2 hl) .nil).length
    have e2 := PySem.merged_length ([] : List (Key × Value)) (ks.zip its2)
    rw [List.length_zip, List.length_nil] at e2
    omega
/-! tuple(d.values()) -/
section
variable {prog : Program} {w : World} {A : Around} {E : Value → Shared → Prop} {s : Shared} {r d : Addr} {n : Nat} {P : Nat → Value → Prop} {OK : Heap → Prop}
theorem code_tuple_new_vals {Q₁ : Value → Shared → Prop} (K : PySem.W.KdlSrc prog w "dict_values" r d n P OK) (hh : A.handled = none) (hok : OK s.heap) (hn : n ≤ sizeLine)
    (h : ∀ (h' : Heap) (tk : Nat) (acc : Array Value), (∀ b o, s.heap.get? b = some o → h'.get? b = some o) → ItemsOf P acc n →
      Q₁ (.ref h'.objs.size) { s with heap := h'.push { cls := .type "tuple", data := .seq acc }, toks := tk }) :
    codeAny (model prog w) A (.call (.builtin "tuple.__new__") ⟨[.type "tuple", .ref r], []⟩) (wants Q₁ E) s := by
  refine codeAny_of_tree ?_
  show wpAny _ A.in1 (do checkBuiltinCall "tuple.__new__" ⟨[.type "tuple", .ref r], []⟩; again (.builtin "tuple.__new__" ⟨[.type "tuple", .ref r], []⟩)) _ _ s
  refine wpAny_bind (wpAny_of_eq (F.newCall_tuple_1 _) (wpAny_pure ⟨plainId_quiet F.plain_tuple_new _, codeAny_builtin F.entry_tuple_new ?_⟩))
  rw [Around.under_plainId F.plain_tuple_new _]
  have hsub := sub_tuple_self
  have hinit := init_tuple_lookup
  have hmh := madeHere_tuple
  have hTI : s.TypeIs (.ref r) "dict_values" := K.type s hok
  have hh1 : A.in1.handled = none := hh
  wp_walk using wpAny_typeOf hTI, PySem.W.kdu_collect (A := A.in1) K hh1 hok hn
  intro h' tk acc hk hacc
  show wpAny _ _ (Builtin.Tuple.tupleExact acc.toList.toArray >>= fun v => ret v) _ _ _
  unfold Builtin.Tuple.tupleExact
  refine wpAny_bind (wpAny_newObj_type ?_ (by show acc.toList.toArray.size ≤ sizeLine; simp only [Array.toArray_toList]; rw [hacc.1]; exact hn))
  refine wpAny_pure ?_
  have e : acc.toList.toArray = acc := by simp
  rw [e]
  exact h h' tk acc hk hacc
theorem call_tuple_vals {Q : Value → Shared → Prop} (K : PySem.W.KdlSrc prog w "dict_values" r d n P OK) (hh : A.handled = none) (hok : OK s.heap) (hn : n ≤ sizeLine)
    (hQ : ∀ (h' : Heap) (tk : Nat) (acc : Array Value), (∀ b o, s.heap.get? b = some o → h'.get? b = some o) → ItemsOf P acc n →
      Q (.ref h'.objs.size) { s with heap := h'.push { cls := .type "tuple", data := .seq acc }, toks := tk }) :
    wpAny (model prog w) A (call (.type "tuple") [.ref r]) Q E s := by
  refine callType_codes (Q₁ := fun obj s₁ => s₁.TypeIs obj "tuple" ∧ Q obj s₁) F.called_tuple (F.typeCall_tuple_1 _) F.entry_object_init
    (code_tuple_new_vals (A := A.in1) K hh hok hn fun h' tk acc hk hacc => ⟨⟨_, Heap.get?_push_size _ rfl, rfl⟩, hQ h' tk acc hk hacc⟩) fun obj s₁ h₁ => ?_
  exact ⟨h₁.1, F.args_object_init_2 obj _, object_init_meets F.called_tuple.init.lookup F.called_tuple.made (by decide) prog w A.in1 _ s₁ ⟨h₁.1, rfl, h₁.2⟩⟩
end
def tTupVals (td : TE) : TE := fun σ H Q => td σ H fun x H1 => ∃ (d : Addr) (kvs : List (Key × V)), x = .ref d ∧ Rd H1 d (.dK kvs) ∧ ∀ p, H1 p = none → Q (.ref p) (upd H1 p (.tup (kvs.map (·.2))))
theorem pe_tupVals {X : Cx} {e : Expr} {td : TE} {p pos apos cpos : Pos} (hc : X.calm = true) (hg : Gl X "tuple") (hm : X.mg "tuple" = none) (he : PE X e td)
    (hbase : attributeBase e "values" X.env (eval e X.env) = eval e X.env := by rfl) (hline : (apos.endLine == cpos.line) = true := by rfl)
    (na : starEach [.Call (.Attribute e "values" apos) [] [] cpos] X.env = (false, eval (.Call (.Attribute e "values" apos) [] [] cpos) X.env) :: starEach [] X.env := by rfl) :
    PE X (.Call (.Name "tuple" p) [.Call (.Attribute e "values" apos) [] [] cpos] [] pos) (tTupVals td) := by
  refine ⟨fun pins s σ H Q I h => ?_⟩
  have hv : wpAny (model X.prog X.w) X.A (eval (.Call (.Attribute e "values" apos) [] [] cpos) X.env) (fun x s2 => ∃ (v d : Addr) (kvs : List (Key × V)) (H1 : Hp), x = .ref v ∧ Inv X pins σ H1 s2 ∧ s2.heap.get? v = some { cls := .type "dict_values", data := .fields #[.ref d] } ∧ Rd H1 d (.dK kvs) ∧ ∀ p, H1 p = none → Q (.ref p) (upd H1 p (.tup (kvs.map (·.2))))) X.xe s := by
    refine wpAny_Call_method (T := "dict") (id := "dict.values") hbase rfl hline F.plainAttrs_dict F.slot_dict_values F.type_dict_values (thn (he.run pins s σ H _ I h) fun u s1 ⟨x, H1, I1, rx, d, kvs, ex, hd, q⟩ => ?_)
    subst ex
    obtain rfl : u = Value.ref d := rx
    obtain ⟨z, hs, vs, rel, dd⟩ := dk_rd I1.hok hd
    refine ⟨dd.typeIs, dd.mapOf.noDict, ?_⟩
    have I2 : Inv X pins σ H1 { s1 with heap := s1.heap.push { cls := .type "dict_values", data := .fields #[.ref d] } } := I1.kept (t' := s1.toks) fun b ob q => Heap.get?_push_of_some _ q
    show wpAny _ _ (callWith cpos (.builtin "dict.values") [.ref d] [] []) _ X.xe s1
    exact method_meetsIn F.slot_dict_values F.entry_dict_values rfl (PySem.evalArgs_none ⟨rfl, dd.typeIs, F.args_dict_values_1 _, _, meets_dict_values (mixKind X.prog X.w) d hs, ⟨vs, dd⟩, ⟨s1.heap.objs.size, d, kvs, H1, rfl, I2, Heap.get?_push_size _ rfl, hd, q⟩⟩)
  refine Call_ (ld_blt I hg hm boot_tuple (PyProof.Rows.callWith_type1 (args_cons (thn hv fun x s2 h2 => args_nil ?_) na) na))
  obtain ⟨v, d, kvs, H1, rfl, I2, hv, hd, q⟩ := h2
  obtain ⟨z, hs, vs, rel, dd⟩ := dk_rd I2.hok hd
  obtain ⟨ep, hat⟩ := dd.dictAt
  have hl : kvs.length = vs.length := Paired.length rel
  refine call_tuple_vals (PySem.W.kdl_values (knd := mixKind X.prog X.w) (kvs := vs) (ep := ep)) (I2.ok.hd hc) ⟨⟨_, hv, rfl, rfl⟩, hat⟩ (by omega) fun h' tk acc hk hacc => ?_
  have ea : acc.toList = vs.map (·.2) := PySem.W.kdl_vals_eq acc.toList (by rw [Array.length_toList]; exact hacc.1) fun j u hu => hacc.2 j u (by rw [← hu, Array.getElem?_toList])
  have I3 : Inv X pins σ H1 { s2 with heap := h', toks := tk } := I2.kept hk
  refine ⟨.ref h'.objs.size, upd H1 h'.objs.size (.tup (kvs.map (·.2))), I3.laid (t' := tk) (fun c o e => Heap.get?_push_of_some _ e) (Nat.le_refl _) (show ObjOk X.prog X.w _ _ _ (.tup (kvs.map (·.2))) from ⟨?_, acc.toList, ?_, ?_⟩), rfl, q _ (I3.hok.fresh (Nat.le_refl _))⟩
  · rw [List.length_map]; exact z
  · rw [ea]
    clear ea hacc hat dd hd q hl z
    induction rel with
    | nil => exact .nil
    | cons h t ih => exact .cons h.2 (ih)
  · rw [Array.toArray_toList]; exact IsTup.new _ _
end TK

namespace TK
open PySem PySem.Spec PyProof.Rows L2
section
variable {X : Cx}
/-- y = {k: v for ..}, y a plain name -/
theorem ps_setDc {i : Nat} {y : Str} {py : Pos} {kx vx tg iter : Expr} {ifs : List Expr} {scope : Scope} {own : List (Str × Nat)} {pos spos : Pos} {wi : TI} {g : TG} {tt : TT} {tk tv : TE} (hc : X.calm = true) (hN : X.N.Nodup) (hy : X.N[i]? = some y) (hyl : X.env.scope.names.lookup y = some .local)
    (hsw : swapsWith (.DictComp kx vx [⟨tg, iter, ifs, 0⟩] scope pos) (some (.Name y py)) spos.line X.env = pure true) (hi : PI X tg iter wi) (ok : BlkOk X.N X.env.scope scope own)
    (hg : ∀ (s : Shared) (H : Hp) (C : Addr) (cl : List (Str × Addr)) (fp : List Addr), PG (X.blk s H scope (compEnvC scope cl C X.env) fp) tg g) (ht : ∀ (s : Shared) (H : Hp) (C : Addr) (cl : List (Str × Addr)) (fp : List Addr), PTs (X.blk s H scope (compEnvC scope cl C X.env) fp) ifs tt)
    (hk : ∀ (s : Shared) (H : Hp) (C : Addr) (cl : List (Str × Addr)) (fp : List Addr), PE (X.blk s H scope (compEnvC scope cl C X.env) fp) kx tk)
    (he : ∀ (s : Shared) (H : Hp) (C : Addr) (cl : List (Str × Addr)) (fp : List Addr), PE (X.blk s H scope (compEnvC scope cl C X.env) fp) vx tv) (hs : ∀ x, foldedSetIterable iter X.env x = pure x := by intro _; rfl) :
    PS X (.Assign [.Name y py] (.DictComp kx vx [⟨tg, iter, ifs, 0⟩] scope pos) spos) (tAsg (tDc wi g tt tk tv (own.map (·.2))) (gName i)) := by
  refine ⟨fun pins s σ H D I h => ?_⟩
  rw [exec_Assign_Name_used _ _ _ _ hsw]
  refine wpAny_bind (wpAny_standAt (wpAny_bind ?_))
  show wpAny _ X.A (do let _ ← comprehension (.DictComp kx vx [⟨tg, iter, ifs, 0⟩] scope pos) scope X.env (firstIterPos [⟨tg, iter, ifs, 0⟩] pos) newDict false (eval iter X.env) (some (assign (.Name y py) X.env))) _ _ s
  have h : tDc wi g tt tk tv (own.map (·.2)) σ H (fun x H1 => gName i x σ H1 D.nx) := h
  refine wpAny_bind (thn (dc_core (Qf := fun _ s' => SP X pins D .next s') hc hN I hi ok hg ht hk he hs h fun L C s' m H' I' q hn f => ?_) fun _ s' hq => wpAny_pure (wpAny_pure hq))
  show wpAny _ _ (assign (.Name y py) X.env (.ref L)) _ _ _
  refine wpAny_assign_Name (store_ok2 (v := V.ref L) I' hN hy (.inl hyl) rfl (fun s2 I2 ⟨a, sb, ha⟩ => ?_) (.inr hyl))
  obtain ⟨f0, f1, f2, f3, f4, f5⟩ := f
  have haC : C ≠ a := by
    rcases ha with z | z
    · rw [z]; exact f1
    · exact fun e => f4 y a z e.symm
  refine ⟨m, hn.sameBut sb haC, fun h3 sb3 => ?_⟩
  exact ⟨_, H', I2.turned (t' := s2.toks) (fun b o hb e => (sb3.2 b hb).trans e) f0 f1 f3 f4 f5, q⟩
theorem sw_trueD {kx vx : Expr} {gs : List Comprehension} {scope : Scope} {pos py : Pos} {y : Str} {l : Nat} {env : Env} (hk : env.scope.kind = .function) (hy : env.scope.names.lookup y = some .local) (hl : (py.line == pos.line) = true)
    (ha : (scope.names.any fun (n, k) => n == y && (k == .local || k == .cell)) = false) : swapsWith (.DictComp kx vx gs scope pos) (some (.Name y py)) l env = pure true := by
  have ky : env.kindOf y = some .local := hy
  have hb : env.blockKind = .function := by unfold Env.blockKind; rw [hk]; rfl
  unfold swapsWith
  simp only [hb, ky, ha, Expr.pos, hl]
  rfl
end
end TK

/-! x in a list of tuples; list(o) of an object whose __iter__ hands out an iterator of a tuple -/
namespace TK
open PySem PySem.Spec PyProof.Rows L2
theorem rm65 {k : Nat} {A : Around} (r : Room k A) : A.units + 65 < cLine := by have := r.un; omega
section
variable {X : Cx} {C gi gl : Addr} {n : Nat} {fdL : FuncData} {psL : List Str} {spL : Sp} {R : Addr → Addr → Hp → Prop}
def rListIt (K : PySem.W.Frag) (C : Addr) (R : Addr → Addr → Hp → Prop) (spL : Sp) : List V → Hp → VK → Prop := fun xs H Q => ∃ (a dx : Addr) (fs : List (Str × V)) (t : Addr) (ys : List V), xs = [.ref a] ∧ H a = some (.ins C dx fs) ∧ SqT K H t ys ∧ ys.length ≤ sizeLine ∧
  (∀ H', Same H H' → R a t H' ∧ spL [.ref a] H' (fun z H2 => z = .int ((ys.length : Nat) : Int) ∧ H2 = H') E0) ∧ ∀ q, H q = none → Q (.ref q) (upd H q (.lst ys))
theorem run_own0 {pins : List (Addr × Obj)} {σ : L2.St} {H : Hp} {s : Shared} {g : Addr} {fd : FuncData} {ps : List Str} {sp : Sp} {A : Around} {Q : VK} {us : List Value} {vs : List V} (F : FnOk X.prog X.w X.K X.mg X.base CX0 n g fd ps sp) (hr : Room n A) (e0 : Env0 X.prog X.w X.K X.mg X.base A X.stack s H) (hb : Binds X.K fd ps [])
    (I : Inv X pins σ H s) (r : Vals vs us) (h : sp vs H Q E0) {E : Value → Shared → Prop} : wpAny (model X.prog X.w) A (call (.ref g) us) (EP X pins σ Q) E s := by
  have hl : (us ++ []).length = ps.length := by rw [List.append_nil, ← r.length]; exact F.len _ _ _ _ h
  have hbb := hb s us I.kIn hl
  rw [List.append_nil] at hbb
  refine wpAny_call (codeAny_mono (F.run A X.stack s H ⟨us, []⟩ us vs Q E0 hr e0 hbb r h) fun r s' hq => ?_)
  cases r with
  | error e => exact False.elim hq
  | ok fl =>
    cases fl with
    | ret u => exact I.after hq
    | next => exact False.elim hq
    | brk => exact False.elim hq
    | cont => exact False.elim hq
theorem call_listIt (ci : Own X.K C "__iter__" gi) (FI : FnIt X.prog X.w X.K X.mg X.base n gi R) (cl : Own X.K C "__len__" gl) (FL : FnOk X.prog X.w X.K X.mg X.base CX0 n gl fdL psL spL) (bL : Binds X.K fdL psL []) (hr : Room (n + 3) X.A) : CallR X (.type "list") (rListIt X.K C R spL) := by
  intro pins s σ H xs us Q I rv h
  obtain ⟨a, dx, fs, t, ys, rfl, ha, ht, hz, hR, hQ⟩ := h
  obtain ⟨u, rfl, ru⟩ := vals1 rv
  cases ru
  have r3 : Room n X.A.in1.in1.in1 := hr.in1.in1.in1
  have r2 : Room n X.A.in1.in1 := hr.in1.in1.mono (Nat.le_succ n)
  refine callType_codes (Q₁ := fun obj s₁ => obj = .ref s.heap.objs.size ∧ s₁ = { s with heap := s.heap.push { cls := .type "list", data := .seq #[] } }) PySem.F.called_list (PySem.F.typeCall_list_1 _) PySem.F.entry_list_init
    (code_list_new _ ⟨rfl, rfl⟩) fun obj s₁ h₁ => ?_
  obtain ⟨rfl, rfl⟩ := h₁
  have hS : (s.heap.push { cls := .type "list", data := .seq #[] }).get? s.heap.objs.size = some { cls := .type "list", data := .seq #[] } := Heap.get?_push_size _ rfl
  refine ⟨⟨_, hS, rfl⟩, PySem.F.args_list_init_2 _ _, ?_⟩
  have fr : H s.heap.objs.size = none := I.hok.fresh (Nat.le_refl _)
  have hQq := hQ _ fr
  have sH := same_upd (o := .lst []) fr
  have I1 : Inv X pins σ (upd H s.heap.objs.size (.lst [])) { s with heap := s.heap.push { cls := .type "list", data := .seq #[] } } := I.lnew (its := []) (t' := s.toks) .nil (Nat.zero_le _)
  have ha1 := sH _ _ ha
  have hq1 : (upd H s.heap.objs.size (.lst [])) s.heap.objs.size = some (.lst []) := upd_same
  have ht1 : SqT X.K (upd H s.heap.objs.size (.lst [])) t ys := same_tup sH ht
  obtain ⟨hR1, _⟩ := hR _ sH
  have hup : ∀ l, upd H s.heap.objs.size (.lst l) = upd (upd H s.heap.objs.size (.lst [])) s.heap.objs.size (.lst l) := fun l => (upd_upd ..).symm
  rw [hup] at hQq
  have qlt : X.s_0.heap.objs.size ≤ s.heap.objs.size := I.sz
  have hRL := fun H' (k : Same (upd H s.heap.objs.size (.lst [])) H') => (hR H' (sH.trans k)).2
  generalize hqd : s.heap.objs.size = q at *
  generalize upd H q (.lst []) = H1 at *
  show wpAny _ _ (do let old ← Builtin.List.listItems (.ref q); Builtin.List.listUpdate (.ref q) (fun _ => #[]); letGo old.toList.reverse; Builtin.List.listExtendWith (.ref q) (.ref a) .none) _ _ _
  refine wpAny_bind ?_
  unfold Builtin.List.listItems
  refine wpAny_bind (wpAny_seqItems hS rfl (wpAny_pure ?_))
  show wpAny _ _ (updateSeq q (fun _ => #[]) >>= fun _ => letGo (#[] : Array Value).toList.reverse >>= fun _ => Builtin.List.listExtendWith (.ref q) (.ref a) .none) _ _ _
  refine wpAny_bind (wpAny_updateSeq hS rfl ?_)
  have I2 := I1.lset (f := fun _ => #[]) (its := []) (its' := []) (ys := []) (t' := s.toks) hq1 hS rfl .nil (Nat.zero_le _)
  have e1 : upd H1 q (.lst []) = H1 := by
    funext b
    by_cases hb : b = q
    · rw [hb, upd_same, hq1]
    · rw [upd_ne hb]
  rw [e1] at I2
  refine wpAny_bind (wpAny_letGo ?_)
  generalize ({ s with heap := (s.heap.push { cls := .type "list", data := .seq #[] }).update q (Obj.mapSeq fun _ => #[]) } : Shared) = s2 at I2 ⊢
  have hne : q ≠ a := fun e => by rw [e, ha1] at hq1; cases hq1
  obtain ⟨ox, od, J⟩ := own_at I2 ha1
  obtain ⟨m0, hF⟩ := I2.fr
  unfold Builtin.List.listExtendWith
  refine wpAny_bind (J.type.here ?_)
  have h1 : Builtin.List.listSameRef (.ref q) (.ref a) = false := by simp [Builtin.List.listSameRef, hne]
  have h2 : (Value.ref C == Value.type "list") = false := rfl
  have h3 : (Value.ref C == Value.type "tuple") = false := rfl
  simp only [h1, h2, h3, Bool.or_false, Bool.false_eq_true, if_false]
  refine wpAny_bind (PySem.W.owit_iter hF I2.ok.mod.kin J ci.at_ ci.fn ?_)
  refine wpAny_call (codeAny_mono (FI X.A.in1.in1 X.stack s2 H1 a t r2 I2.env0.in1.in1 hR1) fun r s' hq => ?_)
  cases r with
  | error e => exact False.elim hq
  | ok fl =>
    cases fl with
    | next => exact False.elim hq
    | brk => exact False.elim hq
    | cont => exact False.elim hq
    | ret u =>
      obtain ⟨z, H2, os, bare, un, hok, rz, it, rfl, hn, hge, rfl⟩ := id hq
      have I3 : Inv X pins σ (upd H1 it (ItT t it)) s' := I2.call' os un hok bare (fun b z => absurd z (by simp))
      cases rz
      have hget : s'.heap.get? it = some (itTObj t 0) := (I3.hok it _ upd_same).1
      have hT : s'.TypeIs (.ref it) "tuple_iterator" := ⟨_, hget, rfl⟩
      have hi : (upd H1 it (ItT t it)) it = some (.ext fun h => h.get? it = some (itTObj t 0)) := upd_same
      unfold PySem.W.OwitIt
      refine wpAny_specialOf (name := Str.ofString "__next__") hT PySem.F.slot_tuple_iterator_next.lookup ?_
      have sI := same_upd (H := H1) (o := ItT t it) hn
      have ha3 := sI _ _ ha1
      obtain ⟨ox3, od3, J3⟩ := own_at I3 ha3
      obtain ⟨m3, hF3⟩ := I3.fr
      have hl3 := hRL _ sI
      refine wpAny_bind (wpAny_holding ?_)
      unfold Builtin.List.listLengthHint
      refine wpAny_bind (wpAny_bind (J3.type.here ((PySem.W.looks_findIn I3.kIn cl.at_).here ?_)))
      refine PySem.W.KFB.if_not rfl ?_
      dsimp only
      rw [if_pos (show (some (Value.ref gl)).isSome = true from rfl)]
      refine wpAny_bind (wpAny_rule ?_)
      refine wpAny_bind (wpAny_attempt (PySem.W.len_K hF3 I3.ok.mod.kin J3 cl.at_ cl.fn (wpAny_mono (run_own0 FL r3 I3.env0.in1.in1.in1 bL I3 (vs := [.ref a]) (.cons rfl .nil) hl3) (fun w s' z => ?_) fun _ _ x => x)))
      obtain ⟨z', H', I', rz, rfl, rfl⟩ := z
      obtain ⟨tk, rfl⟩ := (show ∃ t, w = Value.int _ t from rz)
      have hz2 : ys.length < 2 ^ 63 := Nat.lt_of_le_of_lt hz (by rw [sizeLine_eq]; decide)
      refine ⟨⟨by omega, by omega⟩, ?_⟩
      refine wpAny_bind (m := asInt? (Value.int ((ys.length : Nat) : Int) _)) (wpAny_pure ?_)
      dsimp only
      rw [if_neg (by rw [Int.toNat_natCast, notLongL hz]; exact Bool.false_ne_true)]
      refine wpAny_pure ?_
      have main : ∀ s4 : Shared, Inv X pins σ (upd H1 it (ItT t it)) s4 → codeAny (model X.prog X.w) X.A.in1 (.builtin "list.extend.loop" ⟨[.ref q, .ref it, .none], []⟩) (wants (fun r s₂ => r = Value.none ∧ EP X pins σ Q (Value.ref q) s₂) X.xe) s4 := fun s4 I4 => by
        have hget4 : s4.heap.get? it = some (itTObj t 0) := (I4.hok it _ upd_same).1
        have I5 := ItX.inv_drop I4 hi
        have fp := ItX.inv_fp I4 hi (Nat.le_trans I2.sz hge)
        rw [ItX.dropH_upd hn] at I5 fp
        obtain ⟨its, rv, p, hzz⟩ := I5.tuple ht1
        have p : s4.heap.IsTuple t its.toArray := p
        obtain ⟨z, its4, k4, r4, hl4, e4⟩ := I5.lstM hq1
        cases r4
        have hne2 : t ≠ it := fun e => by
          obtain ⟨o, h1, h2, h3⟩ := p
          rw [e, hget4] at h1
          cases Option.some.inj h1
          exact absurd (Value.type.inj h2) (by decide)
        have hqi : q ≠ it := fun e => by
          rw [e, hget4] at e4
          exact absurd (Value.type.inj (congrArg Obj.cls (Option.some.inj e4))) (by decide)
        have hqt : q ≠ t := fun e => by
          obtain ⟨o, h1, h2, h3⟩ := p
          rw [← e, e4] at h1
          cases Option.some.inj h1
          exact absurd (Value.type.inj h2) (by decide)
        have lny : ys.length = its.length := rv.length
        refine codeAny_extend_loopS (Walks.tuple (A := X.A.in1.in1) r2.hd it t hne2 its.toArray).toS (by rw [List.size_toArray]; omega) q (fun m => ?_) .none _ 0 s4 #[] k4 rfl (Nat.zero_le _) ⟨⟨_, hget4, rfl, rfl⟩, p⟩ e4 (ItemsOf.nil _) fun s5 acc' c' hm hS' hacc => ?_
        · rcases List.mem_cons.mp m with m | m
          · exact hqi m
          · exact hqt (List.mem_singleton.mp m)
        have eacc : acc'.toList = its := by
          refine List.ext_getElem (by rw [Array.length_toList, hacc.1, List.size_toArray]) fun j h1 h2 => ?_
          have this : its.toArray[j]? = some acc'[j] := hacc.2 j acc'[j] (Array.getElem?_eq_getElem (by rw [Array.length_toList] at h1; exact h1))
          rw [List.getElem?_toArray, List.getElem?_eq_getElem h2] at this
          rw [Array.getElem_toList]
          exact (Option.some.inj this).symm
        have I6 := I5.write (x := q) (e := q) (o := .lst ys) (t' := s4.toks) (h' := s4.heap.update q fun _ => { cls := .type "list", dict := none, data := .seq acc' c', slots := #[] }) (by rw [hq1]; exact trivial) (.inl rfl) (fun b' u hb hu => (Heap.get?_update_other s4.heap _ (Ne.symm hb)).trans hu) ⟨_, Heap.get?_update_self _ e4 rfl⟩
          ⟨hz, its, c', rv, by rw [Heap.get?_update_self _ e4 rfl, ← eacc]⟩
        have I7 := I6.turnedL (ch := [it]) (h' := s5.heap) (t' := s5.toks) (fun b o hb e => ?_) fun b hb => ?_
        · refine ⟨rfl, .ref q, upd H1 q (.lst ys), ?_, rfl, hQq⟩
          obtain ⟨h5, g5, d5, t5, o5⟩ := s5
          obtain ⟨m1, m2, m3, m4, m5⟩ := hm
          cases (show g5 = _ from m2)
          cases (show d5 = _ from m3)
          cases (show o5 = _ from m4)
          exact I7
        · by_cases hbq : b = q
          · subst hbq
            have e : (s4.heap.update b fun _ => { cls := .type "list", dict := none, data := .seq acc' c', slots := #[] }).get? b = some o := e
            rw [Heap.get?_update_self _ e4 rfl] at e
            cases Option.some.inj e
            exact hS'
          · have e : (s4.heap.update q fun _ => { cls := .type "list", dict := none, data := .seq acc' c', slots := #[] }).get? b = some o := e
            rw [Heap.get?_update_other _ _ (Ne.symm hbq)] at e
            exact hm.heap b o (fun m => (List.mem_cons.mp m).elim hbq fun m => hb m) e
        · cases List.mem_singleton.mp hb
          exact ⟨by rw [upd_ne hqi.symm]; exact fp.1, fp.2⟩
      have I7 := I'.tok (s'.toks)
      have hq7 := sI _ _ hq1
      refine wpAny_ite_split (fun _ => ?_) (fun _ => wpAny_pure ⟨plainId_quiet PySem.F.plain_extend_loop _, main _ (I'.tok _)⟩)
      refine wpAny_bind (wpAny_rule ?_)
      refine wpAny_bind ?_
      show wpAny _ _ (updateSeq q (·.push .none) >>= fun _ => updateSeq q (·.pop)) _ _ _
      obtain ⟨z3, its3, k3, r3', hl3', e3⟩ := I'.lstM hq7
      cases r3'
      refine wpAny_bind (wpAny_updateSeq e3 rfl ?_)
      have I8 := I'.lset (f := (·.push Value.none)) (its' := [Value.none]) (ys := [.non]) (t' := s'.toks) hq7 e3 (by simp) (.cons rfl .nil) (by rw [List.length_singleton, sizeLine_eq]; decide)
      obtain ⟨z4, its4, k4, r4, hl4, e4⟩ := I8.lstM upd_same
      obtain ⟨u4, rfl, ru4⟩ := vals1 r4
      refine wpAny_updateSeq e4 rfl ?_ (by show 1 ≤ sizeLine; rw [sizeLine_eq]; decide) (by show 0 ≤ sizeLine + 1; exact Nat.zero_le _)
      have I9 := I8.lset (f := (·.pop)) (its := [u4]) (its' := []) (ys := []) (t' := s'.toks) upd_same e4 (by rfl) .nil (Nat.zero_le _)
      rw [upd_upd] at I9
      have hH : upd (upd H1 it (ItT t it)) q (.lst []) = upd H1 it (ItT t it) := by
        funext b
        by_cases hb : b = q
        · rw [hb, upd_same, hq7]
        · rw [upd_ne hb]
      rw [hH] at I9
      exact wpAny_pure ⟨plainId_quiet PySem.F.plain_extend_loop _, main _ (I9.tok _)⟩
end
end TK

/-! x < y of data told alike at every place -/
namespace TK
open PySem PySem.Spec PyProof.Rows L2
def rLtD (K : PySem.W.Frag) : R2 := fun x y H Q => ∃ d e, Dp K H x d ∧ Dp K H y e ∧ PySem.W.alike d e = true ∧ d ≠ .none ∧ d.depth ≤ 64 ∧ Q (.bl (PySem.W.dataLt d e)) H
theorem op_ltD {X : Cx} (hu : X.A.units + 65 < cLine) : OpR X (compareOp .Lt) (rLtD X.K) := by
  intro pins s σ H x y v u Q I rx ry h
  obtain ⟨d, e, hd, he, al, nn, dp, q⟩ := h
  obtain ⟨as, r1⟩ := Dp.reads I d x v hd rx
  obtain ⟨bs, r2⟩ := Dp.reads I e y u he ry
  have R := PySem.W.rcLt_alike d e X.A s v u as bs r1 r2 al nn (by have := Nat.min_le_left d.depth e.depth; omega)
  have z : wpAny (model X.prog X.w) X.A (compareOp .Lt v u) (EP X pins σ Q) X.xe s := R X.prog X.w X.xe (EP X pins σ Q) ⟨.bl _, H, I, rfl, q⟩
  exact z
theorem lex_ints : ∀ ks ls : List Int, PyProof.Rows.lexLt PyProof.Rows.itemOrd (PySem.W.keyToksAll (ks.map PyData.int)) (PySem.W.keyToksAll (ls.map PyData.int)) = HT.lexLt ks ls
  | [], [] => by decide
  | [], l :: ls => by
    rw [List.map_nil, List.map_cons, PySem.W.toks_all_cons]
    show PyProof.Rows.lexLt PyProof.Rows.itemOrd [Sum.inl 0] _ = true
    rw [PySem.W.lex_atom (by decide)]
    decide
  | k :: ks, [] => by
    rw [List.map_nil, List.map_cons, PySem.W.toks_all_cons]
    show PyProof.Rows.lexLt PyProof.Rows.itemOrd _ [Sum.inl 0] = false
    rw [PySem.W.lex_atom (by decide)]
    decide
  | k :: ks, l :: ls => by
    rw [List.map_cons, List.map_cons, HT.lexLt_cons]
    by_cases h : k = l
    · subst h
      rw [if_pos rfl, PySem.W.dataLt_all_yes (by simp [PySem.W.alike]) (by simp [PyData.eqv])]
      exact lex_ints ks ls
    · rw [if_neg h, PySem.W.dataLt_all_no (by simp [PySem.W.alike]) (by simp [PyData.eqv, h]), PySem.W.dataLt_int]
/-- two ints and a row of ints -/
theorem dataLt3 (a b c d : Int) (ks ls : List Int) (hl : PyData.eqv (.list (ks.map PyData.int)) (.list (ls.map PyData.int)) = decide (ks = ls)) (al : PySem.W.alike (.list (ks.map PyData.int)) (.list (ls.map PyData.int)) = true) :
    PySem.W.dataLt (.tuple [.int a, .int b, .list (ks.map PyData.int)]) (.tuple [.int c, .int d, .list (ls.map PyData.int)]) = if a = c then (if b = d then HT.lexLt ks ls else decide (b < d)) else decide (a < c) := by
  rw [PySem.W.dataLt_tuple]
  by_cases h : a = c
  · subst h
    rw [if_pos rfl, PySem.W.dataLt_all_yes (by simp [PySem.W.alike]) (by simp [PyData.eqv])]
    by_cases g : b = d
    · subst g
      rw [if_pos rfl, PySem.W.dataLt_all_yes (by simp [PySem.W.alike]) (by simp [PyData.eqv])]
      by_cases e : ks = ls
      · subst e
        rw [PySem.W.dataLt_all_yes al (by rw [hl]; exact decide_eq_true rfl), ← lex_ints]
        rw [← List.append_nil (PySem.W.keyToksAll (ks.map PyData.int)), PySem.W.lex_pre]
        decide
      · rw [PySem.W.dataLt_all_no al (by rw [hl]; exact decide_eq_false e), PySem.W.dataLt_list, lex_ints]
    · rw [if_neg g, PySem.W.dataLt_all_no (by simp [PySem.W.alike]) (by simp [PyData.eqv, g]), PySem.W.dataLt_int]
  · rw [if_neg h, PySem.W.dataLt_all_no (by simp [PySem.W.alike]) (by simp [PyData.eqv, h]), PySem.W.dataLt_int]
theorem eqvAll_ints : ∀ ks ls : List Int, PyData.eqvAll (ks.map PyData.int) (ls.map PyData.int) = decide (ks = ls)
  | [], [] => by simp [PyData.eqvAll]
  | [], l :: ls => by simp [PyData.eqvAll]
  | k :: ks, [] => by simp [PyData.eqvAll]
  | k :: ks, l :: ls => by
    rw [List.map_cons, List.map_cons, PySem.W.eqv_all_cons, eqvAll_ints ks ls]
    by_cases h : k = l <;> by_cases g : ks = ls <;> simp [PyData.eqv, h, g]
theorem eqvL_ints (ks ls : List Int) : PyData.eqv (.list (ks.map PyData.int)) (.list (ls.map PyData.int)) = decide (ks = ls) := by
  rw [← eqvAll_ints]
  simp [PyData.eqv]
theorem alike_ints : ∀ ks ls : List Int, PySem.W.alikeAll (ks.map PyData.int) (ls.map PyData.int) = true
  | [], _ => by simp [PySem.W.alikeAll]
  | _ :: _, [] => by simp [PySem.W.alikeAll]
  | k :: ks, l :: ls => by simp [PySem.W.alikeAll, PySem.W.alike, alike_ints ks ls]
end TK

/-! enumerate(o) of an object whose __iter__ hands out an iterator of a tuple -/
namespace TK
open PySem PySem.Spec PyProof.Rows L2
section
variable {prog : Program} {w : World}
theorem meetsIn_enumO {v : Value} : MeetsIn prog w (Builtin.«enumerate.__new__» ⟨[.type "enumerate", v], []⟩) (fun A R s => ∃ G : Value → Shared → Prop, wpAny (model prog w) A.in1 (pyIter v) G (fun _ _ => False) s ∧
      ∀ u s1, G u s1 → R (.ok (.ret (.ref s1.heap.objs.size))) { s1 with heap := s1.heap.push { cls := .type "enumerate", data := .fields #[.none, .bool false, u, rawInt 0, .none, .none] } }) :=
  .of_wp fun A R s hh => by
    obtain ⟨G, hI, hR⟩ := hh
    have hsub := sub_enumerate
    have it2 : ∀ {E' : Value → Shared → Prop} {Q : Value → Shared → Prop}, (∀ u s1, G u s1 → Q u s1) → wpAny (model prog w) A.in1 (pyIter v) Q E' s := fun q => wpAny_mono hI q fun _ _ h => h.elim
    have fin : ∀ (u : Value) (s1 : Shared), G u s1 → wpAny (model prog w) A.in1 (do
          let __do_lift ← Builtin.SmallTypes.newRecord (Value.type "enumerate") (Builtin.SmallTypes.ownedTupleFields ++ [u, rawInt 0, Value.none, Value.none])
          ret __do_lift) (fun fin s' => ∃ v, fin = Fin.done (Flow.ret v) ∧ R (Except.ok (Flow.ret v)) s') (fun e s' => R (Except.error e) s') s1 := fun u s1 hu => by
      have hq := hR u s1 hu
      obtain ⟨hp, g, d, tk, os⟩ := s1
      wp_walk
      exact ⟨_, rfl, hq⟩
    wp_walk using it2
    refine wpAny_stack_any fun st => wpAny_pure ?_
    split
    · rename_i c _ _ _ _ _
      cases (c == Value.type "enumerate") <;> (wp_walk using it2; exact fin)
    · wp_walk using it2
      exact fin
end
section
variable {X : Cx} {C g : Addr} {n : Nat} {H : Hp}
def iEnumO (K : PySem.W.Frag) (C : Addr) (R : Addr → Addr → Hp → Prop) (ta : TA) : TI := fun σ H Z => ta σ H fun vs H1 => ∃ (a dx : Addr) (fs : List (Str × V)) (t : Addr) (xs : List V), vs = [.ref a] ∧ H1 a = some (.ins C dx fs) ∧ R a t H1 ∧ SqT K H1 t xs ∧ Z (IteT K t xs.length) H1
theorem pi_enumO {R : Addr → Addr → Hp → Prop} {e : Expr} {ta : TA} {p pos tpos : Pos} {elts : List Expr} {kk : Nat} (c : Own X.K C "__iter__" g) (FI : FnIt X.prog X.w X.K X.mg X.base n g R) (hr : Room (n + 2) X.A) (hg : Gl X "enumerate") (hm : X.mg "enumerate" = none) (ha : PA X [e] ta) (hs : starEach [e] X.env = [(false, eval e X.env)] := by rfl) :
    PI X (.Tuple elts kk tpos) (.Call (.Name "enumerate" p) [e] [] pos) (iEnumO X.K C R ta) := by
  refine ⟨fun pins s σ H Z I h => Call_ (ld_blt I hg hm boot_enumerate (PyProof.Rows.callWith_type1 (thn (ha.run pos pins s σ H _ I h) fun us s1 ⟨vs, H1, I1, r1, q1⟩ => ?_) hs rfl))⟩
  obtain ⟨a, dx, fs, t, xs, rfl, ha1, hR, hxs, q⟩ := q1
  obtain ⟨u0, rfl, ru⟩ := vals1 r1
  cases ru
  have r2 : Room n X.A.in1.in1 := hr.in1.in1
  refine callType_newIn F.called_enumerate (by decide) (F.typeCall_enumerate_1 _) (F.newCall_enumerate_1 _) (fun obj => F.args_object_init_2 obj _) F.entry_enumerate_new (meetsIn_enumO (prog := X.prog) (w := X.w) (v := .ref a)) ⟨fun u s2 => ∃ it, u = .ref it ∧ H1 it = none ∧ X.s_0.heap.objs.size ≤ it ∧ Inv X pins σ (upd H1 it (ItT t it)) s2, ?_, ?_⟩
  · obtain ⟨ox, od, J⟩ := own_at I1 ha1
    obtain ⟨m, hF⟩ := I1.fr
    refine PySem.W.owit_iter hF I1.ok.mod.kin J c.at_ c.fn ?_
    refine wpAny_call (codeAny_mono (FI X.A.in1.in1 X.stack s1 H1 a t r2 I1.env0.in1.in1 hR) fun r s' hq => ?_)
    cases r with
    | error e => exact False.elim hq
    | ok fl =>
      cases fl with
      | ret u =>
        obtain ⟨z, H2, os, bare, un, hok, rz, it, rfl, hn, hge, rfl⟩ := id hq
        have I2 : Inv X pins σ (upd H1 it (ItT t it)) s' := I1.call' os un hok bare (fun b z => absurd z (by simp))
        cases rz
        have hget : s'.heap.get? it = some (itTObj t 0) := (I2.hok it _ upd_same).1
        have hT : s'.TypeIs (.ref it) "tuple_iterator" := ⟨_, hget, rfl⟩
        unfold PySem.W.OwitIt
        exact wpAny_specialOf (name := Str.ofString "__next__") hT PySem.F.slot_tuple_iterator_next.lookup ⟨it, rfl, hn, Nat.le_trans I1.sz hge, I2⟩
      | next => exact False.elim hq
      | brk => exact False.elim hq
      | cont => exact False.elim hq
  · rintro u s2 ⟨it, rfl, hn, hge, I2⟩
    have hi : (upd H1 it (ItT t it)) it = some (.ext fun h => h.get? it = some (itTObj t 0)) := upd_same
    have git : s2.heap.get? it = some (itTObj t 0) := (I2.hok it _ upd_same).1
    have I3 := ItX.inv_drop I2 hi
    have e3 : ItX.dropH (upd H1 it (ItT t it)) it = H1 := ItX.dropH_upd hn
    have fp := ItX.inv_fp I2 hi hge
    rw [e3] at I3 fp
    have ilt : it < s2.heap.objs.size := Heap.lt_size git
    obtain ⟨itm, rel, pt, zp⟩ := I3.tuple hxs
    have tlt : t < s2.heap.objs.size := by obtain ⟨_, q, _⟩ := pt; exact Heap.lt_size q
    have tne : t ≠ it := fun e => by
      obtain ⟨o, ho, hc, _⟩ := pt
      rw [e, git] at ho
      cases ho
      have h : Value.type "tuple_iterator" = Value.type "tuple" := hc
      exact absurd h (by simp)
    have gen : IsEnum (s2.heap.push { cls := .type "enumerate", data := .fields #[.none, .bool false, .ref it, rawInt 0, .none, .none] }) s2.heap.objs.size it 0 .none := Heap.get?_push_size _ rfl
    have keep : ∀ b o, s2.heap.get? b = some o → (s2.heap.push { cls := .type "enumerate", data := .fields #[.none, .bool false, .ref it, rawInt 0, .none, .none] }).get? b = some o := fun b o q => Heap.get?_push_of_some _ q
    have J3 : Inv X pins σ H1 { s2 with heap := s2.heap.push { cls := .type "enumerate", data := .fields #[.none, .bool false, .ref it, rawInt 0, .none, .none] } } := I3.kept (t' := s2.toks) keep
    refine ⟨⟨_, gen, rfl⟩, wpAny_pyIter_enum gen ⟨s2.heap.objs.size, [s2.heap.objs.size, it], _, _, H1, rfl, J3, turn_enumT t s2.heap.objs.size it xs.length (Nat.ne_of_gt ilt) (Nat.ne_of_lt tlt) tne, ⟨⟨.none, gen⟩, ⟨_, keep _ _ git, rfl, rfl⟩, Nat.zero_le _⟩, fun b hb => ?_, q⟩⟩
    rcases List.mem_cons.mp hb with z | z
    · rw [z]
      exact I3.fpOk (Nat.le_refl _) (I3.hok.fresh (Nat.le_refl _))
    · rw [List.mem_singleton.mp z]
      exact fp
end
end TK

/-! an own exception over ValueError whose __init__ says super().__init__(..); self.f = x -/
namespace TK
section
open PySem PySem.W PySem.Calls PySem.Spec PyProof.Rows
variable {prog : Program} {w : World} {A : Around} {E : Value → Shared → Prop} {h : Heap} {g : Array GenState} {d : Drawn} {t : Nat} {os : OsState}
variable {nm q : Str} {C N : Addr} {bs bm : List Value} {hdct : Bool} {sn : List Str} {sub : List Value} {ab : Bool} {col : Option Bool} {dd : Option Addr} {k0 k1 k2 k3 k5 : Option Value}
/-- the bound __init__ called -/
theorem call_mw {u e t0 : Addr} {rest : List Value} {Q : Value → Shared → Prop}
    (hC : h.get? C = some (excClassObj nm q C N bs bm hdct sn sub ab col dd k0 k1 k2 k3 k5 "ValueError.__new__")) (he : h.get? e = some (HandSPX.excO C t0)) (hu : h.get? u = some (kxs_mw "ValueError.__init__" e)) (hrest : rest.length ≤ sizeLine)
    (hq : ∀ h' t1, (∀ b o, b ≠ e → h.get? b = some o → h'.get? b = some o) → h'.get? e = some (HandSPX.excO C t1) → Q .none ⟨h', g, d, t, os⟩) :
    wpAny (model prog w) A (call (.ref u) rest) Q E ⟨h, g, d, t, os⟩ := by
  refine wpAny_call (codeAny_of_tree ?_)
  show wpAny _ A.in1 (callAny (.ref u) ⟨rest, []⟩) _ _ _
  simp only [callAny]
  refine wpAny_bind (wpAny_load hu ?_)
  simp only [kxs_mw, show (Value.type "method-wrapper" == Value.type "method" || Value.type "method-wrapper" == Value.type "builtin_function_or_method" || Value.type "method-wrapper" == Value.type "method-wrapper") = true by decide, if_true]
  refine PySem.W.KFB.if_so (by decide) ?_
  refine wpAny_bind (ESX.check_bound F.excBase_ValueError hC he rfl ?_)
  refine wpAny_bind (wpAny_pure (wpAny_pure ?_))
  refine ⟨Code.quiet_builtin _ (by decide +kernel), codeAny_builtin F.excBase_ValueError.initEntry ?_⟩
  rw [Around.under_plainId F.excBase_ValueError.init.plain _]
  wp_walk
  refine hq _ h.objs.size (fun b o hb ho => ?_) ?_
  · rw [Heap.get?_update_other _ _ (Ne.symm hb)]
    exact Heap.get?_push_of_some _ ho
  · rw [Heap.get?_update_self _ (Heap.get?_push_of_some _ he) rfl]
    rfl
end
open PySem PySem.Spec PyProof.Rows L2 NdefX
open PySem.W (ks_superIn kxs_mw kxs_getMethod kxs_ValueError kxs_callWith)
def supBody (p0 p1 p2 p3 p4 p5 p6 p7 p8 : Pos) (msg : Expr) (arg fld : Str) : List Stmt :=
  [.Expr (.Call (.Attribute (.Call (.Name "super" p0) [] [] p1) "__init__" p2) [msg] [] p3) p4, .Assign [.Attribute (.Name "self" p5) fld p6] (.Name arg p7) p8]
/-- X.__init__(self, y): the exception at a gets its dict with the one field -/
def spSup (C : Addr) (fld : Str) (okv : V → Prop) : Sp := fun vs H Q _ => ∃ (a : Addr) (y : V), vs = [.ref a, y] ∧ okv y ∧ H a = some (exo a C none) ∧ ∀ dx, H dx = none → dx ≠ a → Q .non (upd (upd H dx (exd dx [(fld, y)])) a (exo a C (some dx)))
theorem fn_sup {CX : CXT} {P : Program} {w : World} {K : PySem.W.Frag} {mg : Str → Option Value} {base : Heap} {k : Nat} {f C cc cda : Addr} {qual arg fld file : Str} {params : Arguments} {scope : Scope} {msg : Expr} {p0 p1 p2 p3 p4 p5 p6 p7 p8 : Pos}
    {oc ccl cl dV kV doc pm ct : Value} {an od cdd cld : Option Addr} {osl ccs csl : Array (Option Value)} {vs0 : Array Value} {tf : Tok} {okv : V → Prop} {te : TE} {ar : Arg}
    (lk : K.lookup f = some ⟨oc, od, .func (PySem.W.fnX "__init__" qual params (supBody p0 p1 p2 p3 p4 p5 p6 p7 p8 msg arg fld) scope [("__class__", cc)] dV kV doc pm an (.ref cda) ct), osl⟩) (hcd : PySem.W.codeIn K (.ref cda) qual = true)
    (hcode : K.lookup cda = some ⟨ccl, cdd, .fields vs0, ccs⟩) (hvs : vs0[2]? = some (.str file tf)) (hfile : ((P.main.file : Str) == file) = true)
    (hcell : K.lookup cc = some ⟨cl, cld, .cell (some (.ref C)), csl⟩)
    (S : NScope ["self", arg, "__class__"] ["self", arg] ["__class__"] scope) (hks : scope.names.lookup ("super" : Str) = some .globalImplicit)
    (hpar : (params.posonlyargs ++ params.args).head? = some ar) (har : ar.arg = "self")
    (htop : (P.main.scope.names.lookup ("super" : Str)).isSome = false) (hsup : mg "super" = none)
    (T : OexC K C) (hmr : PySem.W.mroIn K C (.ref C) = some true) (hst : PySem.W.nsIn K cStatics "thirdparty.any" = some none) (hal : ks_superIn K C C "__init__" = some (some (.builtin "ValueError.__init__")))
    (hVE : PySem.W.subIn K (.ref C) (.type "ValueError") = some true) (hno : PySem.W.findIn K (.ref C) fld = some none)
    (hpa : ∀ (A : Around) (outer : List Env) (s : Shared) (H : Hp) (E : XK), PA (ncx CX P w K mg base ["self", arg, "__class__"] ⟨"__init__", qual, params, supBody p0 p1 p2 p3 p4 p5 p6 p7 p8 msg arg fld, scope, [("__class__", cc)], cda⟩ f A outer s H E) [msg] (tCons te tNil))
    (hpl : ∀ env : Env, starEach [msg] env = [(false, eval msg env)])
    (hte : ∀ (a : Addr) (y : V) (H : Hp) (Q : VK), okv y → (∀ z, Q z H) → te [some (.ref a), some y, some (.ref C)] H Q)
    (hdb : (arg == ("__debug__" : Str)) = false) (hdc : (arg == ("__classdict__" : Str)) = false) {pl : Env → Sem Bool} (hev : ∀ env : Env, eval (.Call (.Attribute (.Call (.Name "super" p0) [] [] p1) "__init__" p2) [msg] [] p3) env = (do
      let ov ← attributeBase (.Call (.Name "super" p0) [] [] p1) "__init__" env (eval (.Call (.Name "super" p0) [] [] p1) env)
      standAt p2.atName
      let (f, first) ← holding [ov] (getMethod ov "__init__" (pl env))
      callWith p3 f first (backTo p3 (starEach [msg] env)) [])) :
    FnOk P w K mg base CX (k + 1) f (PySem.W.fnX "__init__" qual params (supBody p0 p1 p2 p3 p4 p5 p6 p7 p8 msg arg fld) scope [("__class__", cc)] dV kV doc pm an (.ref cda) ct) ["self", arg] (spSup C fld okv) := by
  have len : ∀ vs H Q E, spSup C fld okv vs H Q E → vs.length = (["self", arg] : List Str).length := fun vs H Q E h => by
    obtain ⟨a, y, rfl, _⟩ := h
    rfl
  refine ⟨len, fun A outer s H args us vs Q E hr e0 hb r hsp => ?_⟩
  have hl := len _ _ _ _ hsp
  obtain ⟨a, y, rfl, oky, ea, q⟩ := hsp
  obtain ⟨hp0, g0, d0, tk0, os0⟩ := s
  have KX : K.In hp0 := e0.mod.kin.keeps fun b o e => (e0.bs b o e).1
  have lim : hp0.NoLimit := e0.mod.nolimit.keeps fun b o e => (e0.bs b o e).1
  have one : ∀ (y : Str) (c : Addr), ([(("__class__" : Str), cc)] : List (Str × Addr)).lookup y = some c → y = ("__class__" : Str) ∧ c = cc := fun y c e => by
    simp only [List.lookup] at e
    split at e
    · rename_i h
      exact ⟨eq_of_beq h, (Option.some.inj e).symm⟩
    · cases e
  have cls : CellsAt [(("__class__" : Str), cc)] ["__class__"] [some (.ref C)] hp0 H := by
    refine ⟨rfl, fun y c e => ?_, fun x y c e1 e2 => (one _ _ e1).1.trans (one _ _ e2).1.symm, fun i y hy => ?_⟩
    · obtain ⟨_, rfl⟩ := one _ _ e
      exact ⟨(e0.bs _ _ (e0.mod.kin _ _ hcell)).2, _, _, KX _ _ hcell, rfl⟩
    · match i, hy with
      | 0, hy =>
        cases Option.some.inj hy
        refine ⟨cc, by simp [List.lookup], fun v ev => ?_⟩
        cases Option.some.inj (Option.some.inj ev)
        exact ⟨.ref C, rfl, _, KX _ _ hcell, rfl⟩
      | i + 1, hy => simp at hy
  refine PySem.ks_codeAny_call_defAt (body := supBody p0 p1 p2 p3 p4 p5 p6 p7 p8 msg arg fld) (binds := (["self", arg] : List Str).zip us) hr.depth (KX _ _ lk) rfl lim (PySem.W.codeRec_of KX hcd) rfl hb S.nocell (fun ⟨n, v⟩ hy => S.par n (List.of_mem_zip hy).1) (fun h₁ hns kp => ?_) S.co S.gen S.kind
  let F : NF := ⟨"__init__", qual, params, supBody p0 p1 p2 p3 p4 p5 p6 p7 p8 msg arg fld, scope, [("__class__", cc)], cda⟩
  let X : Cx := ncx CX P w K mg base ["self", arg, "__class__"] F f A outer ⟨hp0, g0, d0, tk0, os0⟩ H E
  have I : Inv X [] (startF ["self", arg, "__class__"] [V.ref a, y] [some (.ref C)]) H ⟨h₁, g0, d0, tk0 + ((["self", arg] : List Str).zip us).length, os0⟩ :=
    inv_startN (CX := CX) (E := E) (N := ["self", arg, "__class__"]) (F := F) (f := f) (ws := [some (.ref C)]) S hr.hd e0 hl r cls hns kp
  have eσ : startF ["self", arg, "__class__"] [V.ref a, y] [some (.ref C)] = [some (.ref a), some y, some (.ref C)] := rfl
  rw [eσ] at I
  have pa : PA X [msg] (tCons te tNil) := hpa A outer ⟨hp0, g0, d0, tk0, os0⟩ H E
  generalize tk0 + ((["self", arg] : List Str).zip us).length = tk1 at I ⊢
  have KX1 : K.In h₁ := I.kIn
  obtain ⟨nm, q1, N, bs, bm, sn, sub, ab, col, dd, k0, k1, k2, k3, k5, hC, hbm⟩ := id T.cls
  obtain ⟨t1, hx⟩ := exo_at I.hok ea
  obtain ⟨mb, hb1, hb2⟩ := I.mod.blt
  have hself : scope.names.lookup ar.arg = some .local := by rw [har]; exact S.par "self" (by simp)
  obtain ⟨u, rfl⟩ : ∃ u, us = [Value.ref a, u] := by
    cases r with
    | @cons _ u0 _ ur ra rw' =>
      obtain rfl : u0 = Value.ref a := ra
      cases rw' with
      | cons rb rc => cases rc; exact ⟨_, rfl⟩
  have vself : (((["self", arg] : List Str).zip [Value.ref a, u]).reverse.lookup ar.arg) = some (.ref a) := by
    rw [har]
    have nd : (["self", arg] : List Str).Nodup := by
      have q := S.nd
      simp only [List.nodup_cons, List.mem_cons, not_or] at q ⊢
      exact ⟨⟨q.1.1, by simp⟩, by simp, by simp⟩
    exact zip_look (i := 0) nd rfl rfl
  show _root_.PySem.wpAt (model P w) X.A (.func (supBody p0 p1 p2 p3 p4 p5 p6 p7 p8 msg arg fld) X.env) (execs (supBody p0 p1 p2 p3 p4 p5 p6 p7 p8 msg arg fld) X.env) _ X.xe _
  refine PySem.ks_wpAt_execs_cons (PySem.ks_wpAt_Expr_any (PySem.ks_wpAt_MethodCall (PySem.ks_wpAt_super_base (env := X.env) (ar := ar) (f := f) hks (S.frk _ (by simp)) (by decide) rfl (KX1 _ _ lk) rfl hpar rfl (KX1 _ _ hcode) rfl hvs hfile htop ?_) (hev X.env)) I.quiet)
  refine PySem.W.ks_loadName_global S.kind hks (Calls.loadGlobal_builtin (mg := mg) (I.mod.glob.keeps I.bk) hsup (hb1.keeps I.bk) ((hb2 "super" (by decide)).trans (by decide +kernel : bootBuiltins "super" = some (.type "super"))) ⟨rfl, ?_⟩)
  refine wpAny_loadName_free S.kind (S.frk "__class__" (by simp)) (c := cc) rfl ⟨_, KX1 _ _ hcell, rfl⟩ ?_
  refine wpAny_loadName_local S.kind hself hns vself ?_
  have hCd := KX1 _ _ hC
  refine PySem.ks_wpAny_isType_cls hCd rfl ⟨rfl, ?_⟩
  refine PySem.ks_wpAny_call_super hCd rfl hx rfl (fun c e => by cases e) (PySem.W.looks_mroIn KX1 hmr) (fun h2 e2 kp2 => ?_)
  have I2 : Inv X [] [some (.ref a), some y, some (.ref C)] H ⟨h2, g0, d0, tk1, os0⟩ := I.kept (t' := tk1) kp2
  have KX2 : K.In h2 := I2.kIn
  have hx2 := kp2 _ _ hx
  have IA : PySem.W.InstAt h2 a _ C none := ⟨hx2, rfl, rfl, trivial⟩
  -- the bound __init__
  cases hcc : PySem.W.clsIn K C with
  | none => unfold ks_superIn at hal; rw [hcc] at hal; cases hal
  | some cd =>
    unfold ks_superIn at hal
    rw [hcc] at hal
    refine kxs_getMethod kxs_ValueError e2 (PySem.W.looks_opaque KX2 hst) (l₀ := cd.mro) (fun A Q E s k q => wpAny_bind ((PySem.W.looks_clsIn KX2 hcc) A _ E s k (wpAny_pure q))) rfl KX2 hal (IA.type.andThen (PySem.W.looks_subIn KX2 hVE)) (PySem.W.ks_ne KX2 IA hcc) (by decide) ?_
    have kp3 : ∀ b o, h2.get? b = some o → (h2.push (kxs_mw "ValueError.__init__" a)).get? b = some o := fun b o e => Heap.get?_push_of_some _ e
    have hu3 : (h2.push (kxs_mw "ValueError.__init__" a)).get? h2.objs.size = some (kxs_mw "ValueError.__init__" a) := Heap.get?_push_at rfl rfl
    have I3 : Inv X [] [some (.ref a), some y, some (.ref C)] H ⟨h2.push (kxs_mw "ValueError.__init__" a), g0, d0, tk1 + 1, os0⟩ := I2.kept (t' := tk1 + 1) kp3
    have I4 : Inv X [(h2.objs.size, kxs_mw "ValueError.__init__" a)] [some (.ref a), some y, some (.ref C)] H ⟨h2.push (kxs_mw "ValueError.__init__" a), g0, d0, tk1 + 1, os0⟩ := I3.pins_of fun p hp => by
      rw [List.mem_singleton.mp hp]
      exact ⟨hu3, I2.hok.fresh (Nat.le_refl _), Nat.ne_of_gt I2.lt, I2.nofs (Nat.le_refl _), fun v z => by cases z⟩
    show wpAny _ _ (callWith p3 (.ref h2.objs.size) [] (backTo p3 (starEach [msg] X.env)) []) _ _ _
    have ra := pa.run p3 _ _ _ H (fun vs H1 => ∃ z, vs = [z] ∧ H1 = H) I4 (hte a y H _ oky fun z => ⟨z, rfl, rfl⟩)
    rw [hpl] at ra ⊢
    refine kxs_callWith (i := "ValueError.__init__") (x := a) rfl (Calls.evalArgs_plain (thn ra fun us4 s4 hh => ?_))
    obtain ⟨vs4, H4, I5, r5, z, ev, eH⟩ := hh
    subst ev
    subst eH
    obtain ⟨h4, g4, d4, tk4, os4⟩ := s4
    have pin4 := I5.pin (h2.objs.size, kxs_mw "ValueError.__init__" a) (List.mem_append_right _ List.mem_cons_self)
    obtain ⟨t4, hx4⟩ := exo_at I5.hok ea
    refine ⟨pin4.1, call_mw (I5.kIn _ _ hC) hx4 pin4.1 (by show us4.length ≤ sizeLine; rw [← r5.length]; exact (show (1 : Nat) ≤ sizeLine by decide)) fun h5 t5 k5' hx5 => ?_⟩
    have J := I5.write (t' := tk4) (x := a) (e := a) (o := exo a C none) (by rw [ea]; exact True.intro) (.inl rfl) k5' ⟨_, hx5⟩ (exo_ok hx5)
    have eu : upd H4 a (exo a C none) = H4 := by
      funext b
      by_cases hb : b = a
      · rw [hb, upd_same, ea]
      · rw [upd_ne hb]
    rw [eu] at J
    -- self.f = y
    have hst2 : PSs X [.Assign [.Attribute (.Name "self" p5) fld p6] (.Name arg p7) p8] _ := pss_one (ps_ost (f := fld) (pe_var (i := 0) rfl (.inl (S.par "self" (by simp))) (by decide) (by decide)) (pe_var (i := 1) rfl (.inl (S.par arg (by simp))) hdb hdc))
    refine wpAt_of_wpAny (wpAny_mono (hst2.run _ _ _ _ { nx := fun _ H' => Q .non H', rt := Q } J ?_) (fun fl s' hs => ?_) fun e s' hs => hs)
    · exact ⟨_, rfl, _, rfl, a, C, rfl, T, hno, .inl ⟨ea, fun dx hdx n => q dx hdx n⟩⟩
    · have fin : ∀ {σ' : L2.St} {H' : Hp} {v : V} {u : Value}, Inv X [(h2.objs.size, kxs_mw "ValueError.__init__" a)] σ' H' s' → RelV v u → Q v H' → CE outer P w H4 ⟨hp0, g0, d0, tk0, os0⟩ Q u s' :=
        fun {σ' H' v u} J rv q => ⟨v, H', J.os, J.bare, J.base, J.hok, rv, q⟩
      cases fl with
      | ret u =>
        obtain ⟨v, σ', H', J, rv, q⟩ := hs
        exact fin J rv q
      | next =>
        obtain ⟨σ', H', J, q⟩ := hs
        exact fin (v := V.non) (u := Value.none) J rfl q
      | brk =>
        obtain ⟨_, _, _, q⟩ := hs
        exact False.elim q
      | cont =>
        obtain ⟨_, _, _, q⟩ := hs
        exact False.elim q
end TK

/-! raise X(e), X an own exception whose __init__ says super().__init__(..); self.f = e -/
namespace TK
open PySem PySem.Spec PyProof.Rows L2 NdefX
/-- what is told of X, at C, its __init__ at fI -/
structure SupT (P : Program) (w : World) (K : PySem.W.Frag) (mg : Str → Option Value) (base : Heap) (x arg fld : Str) (okv : V → Prop) (C fI : Addr) (fd : FuncData) : Prop where
  gC : mg x = some (.ref C)
  T : OexC K C
  iC : PySem.W.findIn K (.ref C) "__init__" = some (some (.ref fI))
  tI : PySem.W.typeIn K (.ref fI) = some (.type "function")
  F : FnOk P w K mg base CX0 1 fI fd ["self", arg] (spSup C fld okv)
  b : Binds K fd ["self", arg] []
  xf : XfC K C
  noN : PySem.W.findIn K (.ref C) fld = some none
  te : PySem.W.exmOne K (.ref C) (.ref C) = some true
/-- what the making asks -/
theorem sup_read {C : Addr} {fld : Str} {okv : V → Prop} {v : V} {H1 : Hp} {Q : XK} (ok : okv v) (q : ∀ d, H1 d = none → Q (.ref C) (some d) (upd H1 d (.xd [(fld, v)]))) :
    ([v] : List V).length ≤ 1000 ∧ ∀ a, H1 a = none → spSup C fld okv (.ref a :: ([v] ++ [])) (upd H1 a (exo a C none))
      (fun v H2 => v = .non ∧ ∃ (d : Addr) (fs : List (Str × V)), H2 a = some (exo a C (some d)) ∧ H2 d = some (exd d fs) ∧ H1 d = none ∧ Q (.ref C) (some d) (upd (del H2 a) d (.xd fs))) (fun _ _ _ => False) := by
  refine ⟨(show (1 : Nat) ≤ 1000 by decide), fun a na => ⟨a, v, rfl, ok, upd_same, fun dx hdx ne => ⟨rfl, dx, [(fld, v)], upd_same, ?_, ?_, ?_⟩⟩⟩
  · rw [upd_ne ne]; exact upd_same
  · rw [upd_ne ne] at hdx; exact hdx
  · rw [upd_ne ne] at hdx
    have e : upd (del (upd (upd (upd H1 a (exo a C none)) dx (exd dx [(fld, v)])) a (exo a C (some dx))) a) dx (.xd [(fld, v)]) = upd H1 dx (.xd [(fld, v)]) := by
      funext b
      by_cases h1 : b = dx
      · rw [h1, upd_same, upd_same]
      · rw [upd_ne h1, upd_ne h1]
        by_cases h2 : b = a
        · rw [h2, del_same, na]
        · rw [del_ne h2, upd_ne h2, upd_ne h1, upd_ne h2]
    rw [e]
    exact q dx hdx
section
variable {X : Cx} {W : WX} {x arg fld : Str} {okv : V → Prop} {C fI : Addr} {fd : FuncData} {e : Expr} {ta : TA} {p pos pos2 : Pos}
theorem ps_raiseSup (hc : X.calm = true) (T : SupT X.prog X.w X.K X.mg X.base x arg fld okv C fI fd) (hr : Room 2 X.A) (tk : Takes X W) (ha : PA X [e] ta) (hg : Gl X x)
    (hdb : (x == ("__debug__" : Str)) = false := by decide) (he : starEach (e :: []) X.env = (false, eval e X.env) :: starEach [] X.env := by rfl) (hpl : (backTo pos (starEach [] X.env)).any (·.1) = false := by rfl) :
    PS X (.Raise (some (.Call (.Name x p) [e] [] pos)) none pos2) (fun _ σ H => tMkO C (spSup C fld okv) [] ta σ H fun cls d H' => W cls d σ H') :=
  ps_raise hc tk (pmk_oex (dvs := []) T.T T.iC T.tI T.F hr T.b .nil (fun _ _ _ _ _ _ _ h => h.elim) hg T.gC ha hdb he hpl)
end
end TK

/-! X(), X an own exception without an __init__ -/
namespace TK
open PySem PySem.Spec PyProof.Rows L2
theorem pmk_own0 {X : Cx} {C : Addr} {bmB : List Value} {B newId initId : String} {x : Str} {p pos : Pos} (F : ExcBaseFacts B newId initId bmB) (q : PySem.W.excIn X.K C bmB newId = true) (gC : X.mg x = some (.ref C)) (kC : PySem.W.keepIn X.K (.ref C) = true) (r : Raises X (.ref C)) (hg : Gl X x)
    (hdb : (x == ("__debug__" : Str)) = false := by decide) : PMk X (.Call (.Name x p) [] [] pos) (fun _ H Q => Q (.ref C) none H) := by
  intro pins s σ H Q I h
  refine wpAny_Call_Name_kw (ld_glob I hg gC ?_ hdb)
  refine PySem.W.callWith_K0 I.kIn kC ?_
  show wpAny _ _ (call (.ref C) []) _ _ _
  obtain ⟨bm, N, nm, qn, bs, hdct, sn, sub, ab, col, dd, k0, k1, k2, k3, k5, mN, hC, hN, hni, T⟩ := exc_obj I.kIn q
  refine wpAny_call_exc_subT F T hC hN hni (fun h' e hm => ?_) (by show 0 ≤ sizeLine; exact Nat.zero_le _)
  exact mk_of I hm r h (I.hok.gone hm.new)
end TK

/-! isinstance of a caught exception that has its dict -/
namespace TK
section
open PySem PySem.W PySem.Spec PySem.Calls PyProof.Rows
variable {prog : Program} {w : World} {A : Around} {E : Value → Shared → Prop} {s : Shared} {K : Frag} {x D : Addr} {ox : Obj}
theorem findObj_dataO {C : Addr} {odc : Option Obj} {name : Str} {a g : Value} (hc : (clsIn K C).isSome = true) (ha : findIn K (.ref C) name = some (some a)) (hg : specialIn K a "__get__" = some (some g)) (ht : takesIn K a = some true) : findObj K C odc name = some (.bind g a) := by
  obtain ⟨cd, hc⟩ := Option.isSome_iff_exists.mp hc
  unfold findObj
  rw [hc, Option.bind_some, ha, Option.bind_some]
  simp [hg, ht]
theorem kin_classEo {Q : Option Value → Shared → Prop} (hga : findIn K (.ref D) "__getattribute__" = some (some (.builtin "BaseException.__getattribute__"))) (hgt : findIn K (.ref D) "__getattr__" = some none) (hsub : subIn K (.ref D) (.type "BaseException") = some true)
    (hdct : hasDictIn K D = true) (ha : findIn K (.ref D) "__class__" = some (some (.builtin "object.__class__")))
    (hn : specialIn K (.builtin "object.__class__") "__get__" = some (some (.builtin "getset_descriptor.__get__"))) (htk : takesIn K (.builtin "object.__class__") = some true) (hm : mroIn K D (.type "object") = some true)
    {odc : Option Obj} (X : K.In s.heap) (I : InstAt s.heap x ox D odc) (h : Q (some (.ref D)) { s with toks := s.toks + 1 }) : wpAny (model prog w) A (getAttr? (.ref x) "__class__") Q E s := by
  have hf : findObj K D odc "__class__" = some (.bind (.builtin "getset_descriptor.__get__") (.builtin "object.__class__")) := findObj_dataO (by obtain ⟨cd, hc, _⟩ := any_some hdct; rw [hc]; rfl) ha hn htk
  obtain ⟨hp, g, d, t, os⟩ := s
  have L0 := I.type (M := model prog w)
  have L1 := looks_findIn (M := model prog w) X hga
  have L2 := looks_findIn (M := model prog w) X hgt
  have L3 := looks_find (M := model prog w) X I hf
  have sub : Looks (model prog w) hp (isInstance (.ref x) (.type "BaseException")) true := L0.andThen (looks_subIn X hsub)
  have hx0 : (false && onTheHeap (Value.builtin "BaseException.__getattribute__")) = false := rfl
  have hx2 : (Value.builtin "BaseException.__getattribute__" == Value.builtin "object.__getattribute__") = false := by decide +kernel
  have hx1 : (onTheHeap (Value.ref D) && Value.builtin "BaseException.__getattribute__" == Value.builtin "object.__getattribute__") = false := by rw [hx2]; rfl
  unfold getAttr? getAttrBy? getAttrBy
  refine wpAny_bind (wpAny_mkText (wpAny_bind (wpAny_attempt (wpAny_holding (wpAny_bind (L0.at (wpAny_bind (L1.at ?_))))))))
  show wpAny _ _ (if (onTheHeap (Value.ref D) && Value.builtin "BaseException.__getattribute__" == Value.builtin "object.__getattribute__") = true then _ else _) _ _ _
  rw [hx1, if_neg Bool.false_ne_true]
  unfold getAttrByItsOwn hookBefore
  refine wpAny_bind ?_
  rw [if_pos (show onTheHeap (Value.ref D) = true from rfl)]
  refine L2.at ?_
  refine wpAny_bind (wpAny_attempt (wpAny_holding ?_))
  unfold callGetattribute
  rw [hx0, if_neg Bool.false_ne_true]
  unfold boundAndCalled
  rw [PySem.F.excAttr_ValueError.ga.bind (.ref x)]
  refine wpAny_bind (wpAny_pure ?_)
  show wpAny _ _ (call (.builtin "BaseException.__getattribute__") [.ref x, .str "__class__" t]) _ _ _
  refine wpAny_call (codeAny_call_builtin PySem.F.excAttr_ValueError.ga.plain PySem.F.entry_bexc_ga ?_)
  refine @check_slot (model prog w) _ _ ⟨hp, g, d, t + 1, os⟩ "BaseException.__getattribute__" "BaseException" "__getattribute__" (.ref x) [.str "__class__" t] [] _ (by decide +kernel) (by decide +kernel) sub (PySem.F.args_bexc_ga (.ref x) (.str "__class__" t)) ?_
  unfold Builtin.«object.__getattribute__»
  refine wpAny_bind (wpAny_of_eq (a := ((Value.ref x : Value), [Value.str "__class__" t])) (by first | rfl | (simp only [slotArgs]; rfl)) ?_)
  refine wpAny_bind (wpAny_pure (wpAny_bind (L0.at (wpAny_bind (L3.at ?_)))))
  show wpAny _ _ (holding [Value.builtin "object.__class__"] (call (.builtin "getset_descriptor.__get__") [.builtin "object.__class__", .ref x, .ref D]) >>= ret) _ _ _
  refine wpAny_bind (wpAny_holding (wpAny_call (class_get (s := ⟨hp, g, d, t + 1, os⟩) (ox := ox) (od := odc) X I hm ?_)))
  refine wpAny_pure ?_
  show wpAny _ _ (handedOut (.ref D)) _ _ _
  rw [handedOut_of (v := .ref D) rfl]
  first
    | exact wpAny_pure (wpAny_pure h)
    | exact wpAny_pure h
    | exact wpAny_pure (wpAny_bind (wpAny_pure (wpAny_pure h)))
theorem kitx_exco (hga : findIn K (.ref D) "__getattribute__" = some (some (.builtin "BaseException.__getattribute__"))) (hgt : findIn K (.ref D) "__getattr__" = some none) (hsub : subIn K (.ref D) (.type "BaseException") = some true) (hdct : hasDictIn K D = true) (ha : findIn K (.ref D) "__class__" = some (some (.builtin "object.__class__")))
    (hn : specialIn K (.builtin "object.__class__") "__get__" = some (some (.builtin "getset_descriptor.__get__"))) (htk : takesIn K (.builtin "object.__class__") = some true) (hm : mroIn K D (.type "object") = some true) {odc : Option Obj} :
    KitX K (.ref x) (.ref D) (fun h => InstAt h x ox D odc) where
  ty := fun _ _ _ I => I.type
  it := fun _ _ X _ => by
    obtain ⟨cdD, hcD, _⟩ := any_some hdct
    unfold clsIn at hcD
    split at hcD
    · rename_i c' d' cd' sl' ho
      intro A' Q' E' s' k q
      unfold isType loadHead
      exact wpAny_bind (wpAny_loadPart (k _ _ (X _ _ ho)) (wpAny_pure q))
    · cases hcD
  ne := fun h tp dd its n sl X htp => by
    obtain ⟨cdD, hcD, _⟩ := any_some hdct
    refine Bool.eq_false_iff.mpr fun q => ?_
    have e : D = tp := Value.ref.inj (beq_iff_eq.mp q)
    subst e
    unfold clsIn at hcD
    split at hcD
    · rename_i c' d' cd' sl' ho
      have z := (X _ _ ho).symm.trans htp
      cases z
    · cases hcD
  ca := fun X I k => kin_classEo hga hgt hsub hdct ha hn htk hm X I k
end
end TK

namespace TK
open PySem PySem.Spec PyProof.Rows L2
/-- the caught exception as it stands: its dict none, or told -/
def DctAt (d : Option Addr) (H : Hp) : Prop := d = none ∨ ∃ (dd : Addr) (fs : List (Str × V)), d = some dd ∧ H dd = some (.xd fs)
theorem inst_suite {X : Cx} {a D : Addr} {oe : Obj} {cls : Value} {d : Option Addr} {pn pins : List (Addr × Obj)} {σ : L2.St} {H : Hp} {s : Shared} (hz : Zc cls d oe) (hf : ∃ vs, oe.data = .fields vs) (I : Inv (X.suite a ((a, oe) :: pn)) pins σ H s) (ec : cls = .ref D) (hd : DctAt d H) :
    ∃ od, PySem.W.InstAt s.heap a oe D od := by
  obtain ⟨hget, _⟩ := I.pin (a, oe) (List.mem_append.mpr (.inl List.mem_cons_self))
  obtain ⟨vs, hv⟩ := hf
  subst ec
  rcases hd with rfl | ⟨dd, fs, rfl, e⟩
  · exact ⟨none, hget, hz.1, by unfold PySem.W.notCls; rw [hv] <;> rfl, by rw [hz.2]; exact True.intro⟩
  · have hx : ObjOk X.prog X.w H s.heap dd (.xd fs) := I.hok dd _ e
    obtain ⟨mA, hns, hr⟩ := hx
    obtain ⟨od, ho, hl⟩ := lookIn_ns hns
    exact ⟨some od, hget, hz.1, by unfold PySem.W.notCls; rw [hv] <;> rfl, by rw [hz.2]; exact ho⟩
/-- isinstance(e, c) -/
def rIsX (K : PySem.W.Frag) (D a : Addr) (cls : Value) (d : Option Addr) : List V → Hp → VK → Prop := fun xs H Q => ∃ (c : V) (cv : Value) (b : Bool), xs = [.ref a, c] ∧ cls = .ref D ∧ DctAt d H ∧ (∀ u, RelV c u → u = cv) ∧ PySem.W.kitOne K (.ref D) cv = some b ∧ Q (.bl b) H
theorem call_isX {X : Cx} {a D : Addr} {oe : Obj} {cls : Value} {d : Option Addr} {pn : List (Addr × Obj)} (C : ExcC X.K D) (hz : Zc cls d oe) (hf : ∃ vs, oe.data = .fields vs) : CallR (X.suite a ((a, oe) :: pn)) (.builtin "isinstance") (rIsX X.K D a cls d) := by
  intro pins s σ H xs us Q I r h
  obtain ⟨c, cv, b, rfl, ec, hd, hcv, e, q⟩ := h
  cases r with
  | cons rx rr =>
    cases rr with
    | cons rt rr =>
      cases rr
      cases rx
      have ec2 := hcv _ rt
      subst ec2
      obtain ⟨od, J⟩ := inst_suite hz hf I ec hd
      exact PySem.W.kia_one (kitx_exco C.hg C.hk C.hs C.hd C.ha C.hn C.ht C.hm) I.kIn J e (fun z => nomatch z) fun tk => ⟨.bl b, H, I.kept (t' := tk) fun _ _ z => z, rfl, q⟩
/-- isinstance(e, (c, ..)) -/
def rIsXT (K : PySem.W.Frag) (D a : Addr) (cls : Value) (d : Option Addr) : List V → Hp → VK → Prop := fun xs H Q => ∃ (tp : Addr) (cs : List V) (ws : List Value) (b : Bool), xs = [.ref a, .ref tp] ∧ cls = .ref D ∧ DctAt d H ∧ H tp = some (.tup cs) ∧ (∀ us, Vals cs us → us = ws) ∧ PySem.W.kitAny K (.ref D) ws = some b ∧ Q (.bl b) H
theorem call_isXT {X : Cx} {a D : Addr} {oe : Obj} {cls : Value} {d : Option Addr} {pn : List (Addr × Obj)} (C : ExcC X.K D) (hz : Zc cls d oe) (hf : ∃ vs, oe.data = .fields vs) : CallR (X.suite a ((a, oe) :: pn)) (.builtin "isinstance") (rIsXT X.K D a cls d) := by
  intro pins s σ H xs us Q I r h
  obtain ⟨tp, cs, ws, b, rfl, ec, hd, hT, hw, e, q⟩ := h
  cases r with
  | cons rx rr =>
    cases rr with
    | cons rt rr =>
      cases rr
      cases rx
      cases rt
      obtain ⟨od, J⟩ := inst_suite hz hf I ec hd
      obtain ⟨_, its, rv, o, h1, h2, n, h3⟩ := (show ObjOk X.prog X.w H s.heap tp (.tup cs) from I.hok tp _ hT)
      have e3 := hw _ rv
      subst e3
      obtain ⟨oc, odd, dt, sl⟩ := o
      simp only at h2 h3
      subst h2 h3
      exact PySem.W.kia_tup (kitx_exco C.hg C.hk C.hs C.hd C.ha C.hn C.ht C.hm) I.kIn J h1 e (fun z => nomatch z) fun tk => ⟨.bl b, H, I.kept (t' := tk) fun _ _ z => z, rfl, q⟩
end TK

/-! which classes an own exception is of, from simple facts -/
namespace TK
open PySem PySem.Spec PyProof.Rows L2 NdefX
/-- what is known of a class -/
structure ClsK (K : PySem.W.Frag) (N : Addr) : Prop where
  is_ : PySem.W.isClsIn K N = true
  ty : PySem.W.typeIn K (.ref N) = some (.type "type")
theorem kitCls_ref {K : PySem.W.Frag} {A N : Addr} {b : Bool} (h : ClsK K N) (s : PySem.W.subIn K (.ref A) (.ref N) = some b) : PySem.W.kitCls K (.ref A) (.ref N) = some b := by
  have h1 := h.is_
  unfold PySem.W.isClsIn at h1
  unfold PySem.W.kitCls
  simp [h1, h.ty, s]
theorem kit_no {K : PySem.W.Frag} {A N : Addr} (h : ClsK K N) (r : PySem.W.subIn K (.ref A) (.ref A) = some true) (s : PySem.W.subIn K (.ref A) (.ref N) = some false) : PySem.W.kitOne K (.ref A) (.ref N) = some false := by
  have ne : ((Value.ref A) == Value.ref N) = false := by
    cases e : ((Value.ref A) == Value.ref N) with
    | false => rfl
    | true =>
      have e2 := eq_of_beq e
      rw [← e2, r] at s
      cases s
  unfold PySem.W.kitOne
  rw [ne]
  exact kitCls_ref h s
theorem kit_yes {K : PySem.W.Frag} {A N : Addr} (h : ClsK K N) (s : PySem.W.subIn K (.ref A) (.ref N) = some true) : PySem.W.kitOne K (.ref A) (.ref N) = some true := by
  unfold PySem.W.kitOne
  split
  · rfl
  · exact kitCls_ref h s
theorem kitT_yes {K : PySem.W.Frag} {A : Addr} {T : String} (m : PySem.W.kitMeta T = true) (s : PySem.W.subIn K (.ref A) (.type T) = some true) : PySem.W.kitOne K (.ref A) (.type T) = some true := by
  unfold PySem.W.kitOne
  split
  · rfl
  · unfold PySem.W.kitCls
    simp [m, s]
theorem exm_self {K : PySem.W.Frag} {C : Addr} (h : ClsK K C) (b : PySem.W.subIn K (.ref C) (.type "BaseException") = some true) (r : PySem.W.subIn K (.ref C) (.ref C) = some true) : PySem.W.exmOne K (.ref C) (.ref C) = some true := by
  unfold PySem.W.exmOne
  rw [b, kitCls_ref h r]
  rfl
theorem kitAny_no {K : PySem.W.Frag} {t : Value} : ∀ {cs : List Value}, (∀ c ∈ cs, PySem.W.kitOne K t c = some false) → PySem.W.kitAny K t cs = some false
  | [], _ => rfl
  | c :: r, h => by
    unfold PySem.W.kitAny
    rw [h c (List.mem_cons_self ..)]
    exact kitAny_no fun d hd => h d (List.mem_cons_of_mem _ hd)
theorem kitAny_c {K : PySem.W.Frag} {t c : Value} {cs : List Value} (h : PySem.W.kitOne K t c = some false) (r : PySem.W.kitAny K t cs = some false) : PySem.W.kitAny K t (c :: cs) = some false := by
  unfold PySem.W.kitAny
  rw [h]
  exact r
theorem kitMeta_VE : PySem.W.kitMeta "ValueError" = true := by decide +kernel
/-- the facts of an exception's class, as the top's world tells them -/
theorem oexC_mk {K : PySem.W.Frag} {C : Addr} {nm q : Str} {N : Addr} {bs bm : List Value} {sn : List Str} {sub : List Value} {ab : Bool} {col : Option Bool} {dd : Option Addr} {k0 k1 k2 k3 k5 : Option Value}
    (lC : K.lookup C = some (excClassObj nm q C N bs bm true sn sub ab col dd k0 k1 k2 k3 k5 "ValueError.__new__")) (rf : PySem.HandSPX.refsVE bm = true) (sa : PySem.W.findIn K (.ref C) "__setattr__" = some (some (.builtin "object.__setattr__")))
    (bx : PySem.W.subIn K (.ref C) (.type "BaseException") = some true) (ty : PySem.W.typeIn K (.ref C) = some (.type "type")) (kc : PySem.W.keepIn K (.ref C) = true) : OexC K C := ⟨⟨_, _, _, _, _, _, _, _, _, _, _, _, _, _, _, lC, rf⟩, sa, bx, ty, kc⟩
end TK

/-! calls of methods that may raise, the exception's promise with the slots as they stand -/
namespace TK
open PySem PySem.Spec PyProof.Rows L2 NdefX
section
variable {X : Cx} {CX : CXT} {k : Nat} {f g C : Addr} {m : Str} {fd : FuncData} {ps : List Str} {sp : Sp} {E : L2.St → XK} {apos pos : Pos} {o e : Expr} {es : List Expr} {ta : TE} {t : TA}
def tMethAt (C : Addr) (m : Str) (sp : Sp) (E : L2.St → XK) (ta : TE) (t : TA) : TE := fun σ H Q => ta σ H fun x H1 => ∃ a dx fs, x = V.ref a ∧ H1 a = some (.ins C dx fs) ∧ fs.lookup m = none ∧
  t σ H1 fun vs H2 => sp (x :: vs) H2 Q (E σ)
/-- o.m(e, ..), that may raise -/
theorem pe_methAt {pl : Sem Bool} (he : PE X o ta) (c : Cls X.K C) (hm : Meth X.K C m f) (F : FnOk X.prog X.w X.K X.mg X.base CX k f fd ps sp) (hr : Room k X.A) (hb : Binds X.K fd ps []) (hx : ∀ σ, PassesAt CX X σ (E σ)) (ha : PA X (e :: es) t)
    (hst : starEach (e :: es) X.env = (false, eval e X.env) :: starEach es X.env := by rfl) (hpl : (backTo pos (starEach es X.env)).any (·.1) = false := by rfl)
    (ht : eval (.Call (.Attribute o m apos) (e :: es) [] pos) X.env = (do
      let ov ← eval o X.env
      standAt apos.atName
      let (f, first) ← holding [ov] (getMethod ov m pl)
      callWith pos f first (backTo pos (starEach (e :: es) X.env)) (backToKw pos (keywordEach [] X.env))) := by rfl) :
    PE X (.Call (.Attribute o m apos) (e :: es) [] pos) (tMethAt C m sp E ta t) := by
  refine ⟨fun pins s σ H Q I h => ?_⟩
  refine PySem.W.methodCall_KW (pl := pl) (thn (he.run pins s σ H _ I h) fun u s1 ⟨x, H1, I1, rx, a, dx, fs, ex, ea, l, q⟩ => ?_) ht
  subst ex
  obtain rfl : u = Value.ref a := rx
  refine getmeth_ok I1 ea c hm l ?_
  refine PySem.W.callWith_K (first := [.ref a]) (h₀ := X.base) I.ok.mod.kin hm.kp (thn (ha.run pos pins s1 σ H1 _ I1 q) fun us s2 ⟨vs, H2, I2, r, q2⟩ => ⟨I2.kIn, ?_⟩) hst hpl
  exact run_fnS (us := .ref a :: us) (vs := .ref a :: vs) F hr hb (hx σ) I2 (.cons rfl r) q2
/-- o.m(), that may raise -/
theorem pe_methAt0 {pl : Sem Bool} (he : PE X o ta) (c : Cls X.K C) (hm : Meth X.K C m f) (F : FnOk X.prog X.w X.K X.mg X.base CX k f fd ps sp) (hr : Room k X.A) (hb : Binds X.K fd ps []) (hx : ∀ σ, PassesAt CX X σ (E σ))
    (ht : eval (.Call (.Attribute o m apos) [] [] pos) X.env = (do
      let ov ← eval o X.env
      standAt apos.atName
      let (f, first) ← holding [ov] (getMethod ov m pl)
      callWith pos f first (backTo pos (starEach [] X.env)) (backToKw pos (keywordEach [] X.env))) := by rfl) :
    PE X (.Call (.Attribute o m apos) [] [] pos) (tMethAt C m sp E ta tNil) := by
  refine ⟨fun pins s σ H Q I h => ?_⟩
  refine PySem.W.methodCall_KW (pl := pl) (thn (he.run pins s σ H _ I h) fun u s1 ⟨x, H1, I1, rx, a, dx, fs, ex, ea, l, q⟩ => ?_) ht
  subst ex
  obtain rfl : u = Value.ref a := rx
  refine getmeth_ok I1 ea c hm l ?_
  exact PySem.W.callWith_K0 (first := [.ref a]) I1.kIn hm.kp (run_fnS (us := [.ref a]) (vs := [.ref a]) F hr hb (hx σ) I1 (.cons rfl .nil) q)
end
end TK

namespace TK
open PySem PySem.Spec PyProof.Rows L2 NdefX
/-! a value of another kind, compared with an own object -/
inductive OddX (K : PySem.W.Frag) (C : Addr) (H : Hp) : V → Prop where
  | non (h : PySem.W.notFirst K C (.type "NoneType") = true) : OddX K C H .non
  | str (z : Str) (h : PySem.W.notFirst K C (.type "str") = true) : OddX K C H (.str z)
  | int (i : Int) (h : PySem.W.notFirst K C (.type "int") = true) : OddX K C H (.int i)
  | bl (b : Bool) (h : PySem.W.notFirst K C (.type "bool") = true) : OddX K C H (.bl b)
  | lst {a : Addr} {xs : List V} (e : H a = some (.lst xs)) (h : PySem.W.notFirst K C (.type "list") = true) : OddX K C H (.ref a)
  | tup {a : Addr} {xs : List V} (e : H a = some (.tup xs)) (h : PySem.W.notFirst K C (.type "tuple") = true) : OddX K C H (.ref a)
section
variable {X : Cx} {K : PySem.W.Frag} {CX : CXT} {C g : Addr} {n : Nat} {fd : FuncData} {ps : List Str} {sp : Sp} {E : XK} {pins : List (Addr × Obj)} {σ : L2.St} {H : Hp} {s : Shared}
def rOwnX (K : PySem.W.Frag) (C : Addr) (sp : Sp) (E : XK) : R2 := fun x y H Q => IsIn H x C ∧ (IsIn H y C ∨ OddX K C H y) ∧ sp [x, y] H Q E
theorem oddX_looks {x : V} {u : Value} (I : Inv X pins σ H s) (rx : RelV x u) (o : OddX X.K C H x) : ∃ tb, PySem.W.Looks (model X.prog X.w) s.heap (typeOf u) tb ∧ PySem.W.notFirst X.K C tb = true := by
  cases o with
  | non h => cases (show u = Value.none from rx); exact ⟨_, .now, h⟩
  | str z h => obtain ⟨t, q⟩ := (show ∃ t, u = Value.str z t from rx); cases q; exact ⟨_, .now, h⟩
  | int z h => obtain ⟨t, q⟩ := (show ∃ t, u = Value.int z t from rx); cases q; exact ⟨_, .now, h⟩
  | bl z h => cases (show u = Value.bool z from rx); exact ⟨_, .now, h⟩
  | @lst a xs ea h =>
    cases (show u = Value.ref a from rx)
    obtain ⟨_, _, n, _, h1⟩ := (show ObjOk X.prog X.w H s.heap a (.lst xs) from I.hok a _ ea)
    exact ⟨.type "list", (PySem.W.Looks.ld h1).andThen .now, h⟩
  | @tup a xs ea h =>
    cases (show u = Value.ref a from rx)
    obtain ⟨_, _, _, o, h1, h2, _⟩ := (show ObjOk X.prog X.w H s.heap a (.tup xs) from I.hok a _ ea)
    exact ⟨_, h2 ▸ (PySem.W.Looks.ld h1).andThen .now, h⟩
theorem op_ownEqX {op : CmpOp} (hK : X.K = K) (hop : ∀ a b, compareOp op a b = richCompare op a b) (c : Own X.K C (cmpInfo op).2.1 g) (F : FnOk X.prog X.w X.K X.mg X.base CX n g fd ps sp) (hr : Room n X.A) (hb : Binds X.K fd ps []) (hx : Passes CX X E) :
    OpR X (compareOp op) (rOwnX K C sp E) := by
  subst hK
  intro pins s σ H x y v u Q I rx ry h
  obtain ⟨⟨a, dx, fs, rfl, ha⟩, hy, q⟩ := h
  cases rx
  obtain ⟨ox, od, J⟩ := own_at I ha
  obtain ⟨m, hF⟩ := I.fr
  rw [hop]
  have key : ∃ tb, PySem.W.Looks (model X.prog X.w) s.heap (typeOf u) tb ∧ PySem.W.notFirst X.K C tb = true := by
    rcases hy with ⟨b, dy, gs, rfl, hb'⟩ | o
    · cases ry
      obtain ⟨ox', od', J'⟩ := own_at I hb'
      exact ⟨_, J'.type, by simp [PySem.W.notFirst]⟩
    · exact oddX_looks I ry o
  obtain ⟨tb, L, nf⟩ := key
  refine PySem.W.cmp_K (op := op) (tb := tb) hr.units0 hF I.ok.mod.kin J L nf c.at_ c.fn (wpAny_mono (run_own F hr I.env0 hb hx I (vs := [.ref a, y]) (.cons rfl (.cons ry .nil)) q) (fun w s' z => ?_) fun _ _ x => x)
  obtain ⟨z', H', I', rz, qz⟩ := z
  exact SlX.cmpback rz ⟨z', H', I', rz, qz⟩
end
/-! o op p of two of one class, that may raise -/
section
variable {X : Cx} {CX : CXT} {n : Nat} {g C : Addr} {fd : FuncData} {ps : List Str} {sp : Sp} {E : L2.St → XK} {pos : Pos} {a b : Expr} {ta tb : TE} {pins : List (Addr × Obj)} {σ : L2.St} {H : Hp} {s : Shared}
theorem run_ownAt {E : XK} {A : Around} {Q : VK} {us : List Value} {vs : List V} (F : FnOk X.prog X.w X.K X.mg X.base CX n g fd ps sp) (hr : Room n A) (e0 : Env0 X.prog X.w X.K X.mg X.base A X.stack s H) (hb : Binds X.K fd ps []) (hx : PassesAt CX X σ E)
    (I : Inv X pins σ H s) (r : Vals vs us) (h : sp vs H Q E) : wpAny (model X.prog X.w) A (call (.ref g) us) (EP X pins σ Q) X.xe s := by
  have hl : (us ++ []).length = ps.length := by rw [List.append_nil, ← r.length]; exact F.len _ _ _ _ h
  have hbb := hb s us I.kIn hl
  rw [List.append_nil] at hbb
  refine wpAny_call (codeAny_mono (F.run A X.stack s H ⟨us, []⟩ us vs Q E hr e0 hbb r h) fun r s' hq => ?_)
  cases r with
  | error e => exact hx pins H s e s' I hq
  | ok fl =>
    cases fl with
    | ret u => exact I.after hq
    | next => exact False.elim hq
    | brk => exact False.elim hq
    | cont => exact False.elim hq
theorem pe_ownBinAt {op : Operator} (c : Own X.K C (PySem.dunder op.info.2) g) (sf : PySem.W.selfFirst X.K C = true) (F : FnOk X.prog X.w X.K X.mg X.base CX n g fd ps sp) (hr : Room n X.A) (hb : Binds X.K fd ps []) (hx : ∀ σ, PassesAt CX X σ (E σ))
    (ha : PE X a ta) (hb' : PE X b tb) : PE X (.BinOp a op b pos) (fun σ H Q => ta σ H fun x H1 => tb σ H1 fun y H2 => rOwn2 C sp (E σ) x y H2 Q) := by
  refine ⟨fun pins s σ H Q I h => ?_⟩
  refine wpAny_BinOp (binT (R := fun x y H2 => rOwn2 C sp (E σ) x y H2 Q) ha hb' I h fun v u s2 x y H2 I2 rx ry q => ?_)
  obtain ⟨⟨a, dx, fs, rfl, ha⟩, ⟨b, dy, gs, rfl, hb''⟩, q⟩ := q
  cases rx
  cases ry
  obtain ⟨ox, od, J⟩ := own_at I2 ha
  obtain ⟨ox', od', J'⟩ := own_at I2 hb''
  obtain ⟨m, hF⟩ := I2.fr
  refine PySem.W.binop_K hF I2.ok.mod.kin J J'.type sf c.at_ c.fn (wpAny_mono (run_ownAt F hr I2.env0 hb (hx σ) I2 (vs := [.ref a, .ref b]) (.cons rfl (.cons rfl .nil)) q) (fun w s' z => ?_) fun _ _ x => x)
  obtain ⟨z', H', I', rz, qz⟩ := z
  exact SlX.cmpback rz ⟨z', H', I', rz, qz⟩
end
end TK

namespace TK
open PySem PySem.Spec PyProof.Rows L2 NdefX
/-! len(o), o an own object with a __len__ -/
section
variable {X : Cx} {CX : CXT} {C g : Addr} {n : Nat} {fd : FuncData} {sp : Sp} {E : XK}
def rLenOwn (C : Addr) (sp : Sp) (E : XK) : List V → Hp → VK → Prop := fun xs H Q => ∃ a dx fs, xs = [V.ref a] ∧ H a = some (.ins C dx fs) ∧ sp [.ref a] H (fun v H' => ∃ k : Int, v = .int k ∧ 0 ≤ k ∧ k < 2 ^ 63 ∧ Q (.int k) H') E
theorem call_lenOwn (c : Own X.K C "__len__" g) (F : FnOk X.prog X.w X.K X.mg X.base CX n g fd ["self"] sp) (hr : Room (n + 1) X.A) (hb : Binds X.K fd ["self"] []) (hx : Passes CX X E) : CallR X (.builtin "len") (rLenOwn C sp E) := by
  intro pins s σ H xs us Q I r h
  obtain ⟨a, dx, fs, rfl, ha, q⟩ := h
  obtain ⟨u, rfl, ru⟩ := vals1 r
  obtain rfl : u = Value.ref a := ru
  obtain ⟨ox, od, J⟩ := own_at I ha
  refine Calls.call_function_entry kind_len plain_len entry_len (args_len1 _) ?_
  unfold Builtin.«len»
  refine wpAny_bind (m := oneArg "len" _) (wpAny_pure ?_)
  refine wpAny_bind (m := callSpecial? (.ref a) (Str.ofString "__len__")) (PySem.W.special_fn I.kIn J c.at_ (beq_iff_eq.mp c.fn) (wpAny_mono (run_own F hr.in1 I.env0.in1 hb hx I (vs := [.ref a]) (.cons rfl .nil) q) (fun v s' z => ?_) fun _ _ x => x))
  obtain ⟨z', H', I', rz, k, rfl, k0, k1, qz⟩ := z
  obtain ⟨t, rfl⟩ := (show ∃ t, v = Value.int k t from rz)
  refine wpAny_bind (wpAny_holding (wpAny_pure ?_))
  refine wpAny_bind (wpAny_letGo ?_)
  show wpAny _ _ (if k < 0 then _ else _) _ _ _
  rw [if_neg (by omega)]
  show wpAny _ _ (if k ≥ 2 ^ 63 then _ else _) _ _ _
  rw [if_neg (by omega)]
  exact wpAny_bind (wpAny_mkInt (wpAny_pure ⟨_, rfl, ⟨.int k, H', I'.tok _, ⟨_, rfl⟩, qz⟩⟩))
end
end TK

namespace TK
open PySem PySem.Spec PyProof.Rows L2
def topS (i : Nat) : Stmt := PySem.Challenge.pw_turnsandkeys_k08_whole_first_way.main.body.getD i (.Pass ⟨0, 0, 0, 0⟩)
abbrev s_wall : Stmt := topS 0
theorem sc_wall : FnScope ["k"] ["k"] (defScope s_wall) := ⟨rfl, rfl, rfl, by decide +kernel, rfl, by decide +kernel, by decide +kernel⟩
abbrev s_is_name : Stmt := topS 12
theorem sc_is_name : FnScope ["word", "sign"] ["word"] (defScope s_is_name) := ⟨rfl, rfl, rfl, by decide +kernel, rfl, by decide +kernel, by decide +kernel⟩
abbrev s_check_size : Stmt := topS 13
theorem sc_check_size : FnScope ["size", "low", "high"] ["size", "low", "high"] (defScope s_check_size) := ⟨rfl, rfl, rfl, by decide +kernel, rfl, by decide +kernel, by decide +kernel⟩
abbrev s_check_range : Stmt := topS 14
theorem sc_check_range : FnScope ["number", "low", "high"] ["number", "low", "high"] (defScope s_check_range) := ⟨rfl, rfl, rfl, by decide +kernel, rfl, by decide +kernel, by decide +kernel⟩
abbrev s_check_names : Stmt := topS 15
theorem sc_check_names : FnScope ["names", "most", "hook", "at", "name"] ["names", "most", "hook"] (defScope s_check_names) := ⟨rfl, rfl, rfl, by decide +kernel, rfl, by decide +kernel, by decide +kernel⟩
abbrev s_check_known : Stmt := topS 16
theorem sc_check_known : FnScope ["names", "known", "name"] ["names", "known"] (defScope s_check_known) := ⟨rfl, rfl, rfl, by decide +kernel, rfl, by decide +kernel, by decide +kernel⟩
abbrev s_plus : Stmt := topS 18
theorem sc_plus : FnScope ["price", "other"] ["price", "other"] (defScope s_plus) := ⟨rfl, rfl, rfl, by decide +kernel, rfl, by decide +kernel, by decide +kernel⟩
abbrev s_least : Stmt := topS 19
theorem sc_least : FnScope ["prices", "price"] ["prices"] (defScope s_least) := ⟨rfl, rfl, rfl, by decide +kernel, rfl, by decide +kernel, by decide +kernel⟩
abbrev s_check_entries : Stmt := topS 21
theorem sc_check_entries : FnScope ["names", "entries", "giver", "taker", "toll"] ["names", "entries"] (defScope s_check_entries) := ⟨rfl, rfl, rfl, by decide +kernel, rfl, by decide +kernel, by decide +kernel⟩
abbrev s_least_tolls : Stmt := topS 22
theorem sc_least_tolls : FnScope ["entries", "tolls", "giver", "taker", "toll"] ["entries"] (defScope s_least_tolls) := ⟨rfl, rfl, rfl, by decide +kernel, rfl, by decide +kernel, by decide +kernel⟩
abbrev s_check_links : Stmt := topS 27
theorem sc_check_links : FnScope ["names", "links", "giver", "taker", "toll"] ["names", "links"] (defScope s_check_links) := ⟨rfl, rfl, rfl, by decide +kernel, rfl, by decide +kernel, by decide +kernel⟩
abbrev s_check_numbers : Stmt := topS 28
theorem sc_check_numbers : FnScope ["links", "numbers", "number"] ["links", "numbers"] (defScope s_check_numbers) := ⟨rfl, rfl, rfl, by decide +kernel, rfl, by decide +kernel, by decide +kernel⟩
abbrev s_is_way : Stmt := topS 31
theorem sc_is_way : FnScope ["links", "giver", "taker", "numbers", "holder", "number", "start", "end", "_"] ["links", "giver", "taker", "numbers"] (defScope s_is_way) := ⟨rfl, rfl, rfl, by decide +kernel, rfl, by decide +kernel, by decide +kernel⟩
abbrev s_way_toll : Stmt := topS 32
theorem sc_way_toll : FnScope ["links", "numbers", "number"] ["links", "numbers"] (defScope s_way_toll) := ⟨rfl, rfl, rfl, by decide +kernel, rfl, by decide +kernel, by decide +kernel⟩
abbrev s_least_toll : Stmt := topS 33
theorem sc_least_toll : FnScope ["links", "giver", "taker"] ["links", "giver", "taker"] (defScope s_least_toll) := ⟨rfl, rfl, rfl, by decide +kernel, rfl, by decide +kernel, by decide +kernel⟩
abbrev s_first_way : Stmt := topS 34
theorem sc_first_way : FnScope ["links", "giver", "taker", "costs", "way", "holder", "number"] ["links", "giver", "taker"] (defScope s_first_way) := ⟨rfl, rfl, rfl, by decide +kernel, rfl, by decide +kernel, by decide +kernel⟩
abbrev s_potentials : Stmt := topS 35
theorem sc_potentials : FnScope ["links", "givers", "prices", "_", "giver", "taker", "toll", "name"] ["links", "givers"] (defScope s_potentials) := ⟨rfl, rfl, rfl, by decide +kernel, rfl, by decide +kernel, by decide +kernel⟩
abbrev s_costs_to : Stmt := topS 36
theorem sc_costs_to : FnScope ["links", "taker", "costs", "_", "start", "end", "toll", "cost"] ["links", "taker"] (defScope s_costs_to) := ⟨rfl, rfl, rfl, by decide +kernel, rfl, by decide +kernel, by decide +kernel⟩
abbrev s_cost_through : Stmt := topS 37
theorem sc_cost_through : FnScope ["costs", "end", "toll", "further", "many"] ["costs", "end", "toll"] (defScope s_cost_through) := ⟨rfl, rfl, rfl, by decide +kernel, rfl, by decide +kernel, by decide +kernel⟩
abbrev s_first_link : Stmt := topS 38
theorem sc_first_link : FnScope ["links", "costs", "holder", "numbers", "number", "start", "end", "toll"] ["links", "costs", "holder"] (defScope s_first_link) := ⟨rfl, rfl, rfl, by decide +kernel, rfl, by decide +kernel, by decide +kernel⟩
abbrev s_L_cell : Stmt := topS 40
theorem sc_L_cell : FnScope ["_law_script", "_law_k", "_law_far", "_law_j"] ["_law_script", "_law_k"] (defScope s_L_cell) := ⟨rfl, rfl, rfl, by decide +kernel, rfl, by decide +kernel, by decide +kernel⟩
abbrev s_L_mixed : Stmt := topS 41
theorem sc_L_mixed : FnScope ["_law_cell_here", "_law_k", "_law_x"] ["_law_cell_here", "_law_k"] (defScope s_L_mixed) := ⟨rfl, rfl, rfl, by decide +kernel, rfl, by decide +kernel, by decide +kernel⟩
abbrev s_L_pool : Stmt := topS 42
theorem sc_L_pool : FnScope ["_law_cell_here", "_law_number", "_law_rest", "_law_deep", "_law_pool_here", "_law_k"] ["_law_cell_here", "_law_number"] (defScope s_L_pool) := ⟨rfl, rfl, rfl, by decide +kernel, rfl, by decide +kernel, by decide +kernel⟩
abbrev s_L_part : Stmt := topS 43
theorem sc_L_part : FnScope ["_law_pool_here", "_law_spot", "_law_under", "_law_size"] ["_law_pool_here", "_law_spot", "_law_under", "_law_size"] (defScope s_L_part) := ⟨rfl, rfl, rfl, by decide +kernel, rfl, by decide +kernel, by decide +kernel⟩
abbrev s_L_names : Stmt := topS 44
theorem sc_L_names : FnScope ["_law_pool_here", "_law_spot", "_law_number", "_law_letters", "_law_stem", "_law_k", "_law_turn", "_law_cut", "_law_first_here", "_law_short", "_law_tail", "_law_words_here", "_law_mark"] ["_law_pool_here", "_law_spot", "_law_number"] (defScope s_L_names) := ⟨rfl, rfl, rfl, by decide +kernel, rfl, by decide +kernel, by decide +kernel⟩
abbrev s_L_strange : Stmt := topS 45
theorem sc_L_strange : FnScope ["_law_words_here", "_law_letter"] ["_law_words_here"] (defScope s_L_strange) := ⟨rfl, rfl, rfl, by decide +kernel, rfl, by decide +kernel, by decide +kernel⟩
abbrev s_L_words : Stmt := topS 46
theorem sc_L_words : FnScope ["_law_cell_here", "_law_number", "_law_letters", "_law_rest", "_law_words_here", "_law_k", "_law_size", "_law_word", "_law_j"] ["_law_cell_here", "_law_number"] (defScope s_L_words) := ⟨rfl, rfl, rfl, by decide +kernel, rfl, by decide +kernel, by decide +kernel⟩
abbrev s_L_links : Stmt := topS 47
theorem sc_L_links : FnScope ["_law_pool_here", "_law_spot", "_law_words_here", "_law_number", "_law_ties_here", "_law_k", "_law_one", "_law_two", "_law_toll"] ["_law_pool_here", "_law_spot", "_law_words_here", "_law_number"] (defScope s_L_links) := ⟨rfl, rfl, rfl, by decide +kernel, rfl, by decide +kernel, by decide +kernel⟩
abbrev s_L_ties : Stmt := topS 48
theorem sc_L_ties : FnScope ["_law_cell_here", "_law_words_here", "_law_rest", "_law_ties_here", "_law_turn", "_law_one", "_law_two", "_law_toll"] ["_law_cell_here", "_law_words_here"] (defScope s_L_ties) := ⟨rfl, rfl, rfl, by decide +kernel, rfl, by decide +kernel, by decide +kernel⟩
abbrev s_L_integer : Stmt := topS 49
theorem sc_L_integer : FnScope ["_law_got"] ["_law_got"] (defScope s_L_integer) := ⟨rfl, rfl, rfl, by decide +kernel, rfl, by decide +kernel, by decide +kernel⟩
abbrev s_L_same : Stmt := topS 50
theorem sc_L_same : FnScope ["_law_got", "_law_wanted", "_law_k"] ["_law_got", "_law_wanted"] (defScope s_L_same) := ⟨rfl, rfl, rfl, by decide +kernel, rfl, by decide +kernel, by decide +kernel⟩
abbrev s_L_ways : Stmt := topS 51
theorem sc_L_ways : FnScope ["_law_words_here", "_law_ties_here", "_law_one", "_law_found", "_law_fresh", "_law_turn", "_law_longer", "_law_toll", "_law_steps", "_law_marks", "_law_here", "_law_seen", "_law_k"] ["_law_words_here", "_law_ties_here", "_law_one"] (defScope s_L_ways) := ⟨rfl, rfl, rfl, by decide +kernel, rfl, by decide +kernel, by decide +kernel⟩
abbrev s_L_first : Stmt := topS 52
theorem sc_L_first : FnScope ["_law_found", "_law_two", "_law_best", "_law_toll", "_law_steps", "_law_marks", "_law_here", "_law_seen"] ["_law_found", "_law_two"] (defScope s_L_first) := ⟨rfl, rfl, rfl, by decide +kernel, rfl, by decide +kernel, by decide +kernel⟩
abbrev s_L_agrees : Stmt := topS 53
theorem sc_L_agrees : FnScope ["_law_made", "_law_one", "_law_two", "_law_best", "_law_got"] ["_law_made", "_law_one", "_law_two", "_law_best"] (defScope s_L_agrees) := ⟨rfl, rfl, rfl, by decide +kernel, rfl, by decide +kernel, by decide +kernel⟩
abbrev s_law : Stmt := topS 54
theorem sc_law : FnScope ["_law_script", "_law_head", "_law_size", "_law_words_here", "_law_ties_here", "_law_made", "_law_one", "_law_found", "_law_two", "_law_best", "_law_toll"] ["_law_script"] (defScope s_law) := ⟨rfl, rfl, rfl, by decide +kernel, rfl, by decide +kernel, by decide +kernel⟩
end TK

namespace TK
open PySem PySem.Spec PyProof.Rows L2
section
variable {P : Program} {w : World} {K : PySem.W.Frag} {mg : Str → Option Value} {base : Heap}
/-! check_size, check_range -/
theorem pz {n : Nat} : (0 : Int) < ((n + 1 : Nat) : Int) := by omega
theorem mb {a : Int} {n : Nat} (h : n + 1 ≤ 2 ^ 63) : -(2 ^ 64) < a % ((n + 1 : Nat) : Int) ∧ a % ((n + 1 : Nat) : Int) < 2 ^ 64 := by
  have h1 := Int.emod_nonneg a (b := ((n + 1 : Nat) : Int)) (by omega)
  have h2 := Int.emod_lt_of_pos a (b := ((n + 1 : Nat) : Int)) (by omega)
  omega
/-! _law_part -/
def partOf (ns : List Int) (s u z : Int) : Int := ns.getD s.toNat 0 / u % z
def spPart (K : PySem.W.Frag) : Sp := fun vs H Q _ => ∃ (a : Addr) (ns : List Int) (s u z : Int), vs = [.ref a, .int s, .int u, .int z] ∧ SqL K H a (ns.map V.int) ∧ 0 ≤ s ∧ s < ns.length ∧ 0 < u ∧ u < 1000000 ∧ 0 < z ∧ Q (.int (partOf ns s u z)) H
theorem get_int {ns : List Int} {s : Int} (h0 : 0 ≤ s) (h : s < ns.length) : atI (ns.map V.int) s = some (.int (ns.getD s.toNat 0)) := by
  have h1 : s.toNat < ns.length := by omega
  refine atI_in h0 ?_
  rw [List.getElem?_map, List.getElem?_eq_getElem h1, List.getD_eq_getElem?_getD, List.getElem?_eq_getElem h1]
  rfl
theorem ok_L_part {f : Addr} {fd : FuncData} (F : Fun K "_law_part" "_law_part" s_L_part f fd) (m_int : mg "int" = none) : FnOk P w K mg base CX0 1 f fd ["_law_pool_here", "_law_spot", "_law_under", "_law_size"] (spPart K) := by
  refine F.ok sc_L_part (fun vs H Q E h => ?_) (fun cdv A outer s H vs Q E hr h => ?_)
  · obtain ⟨a, ns, s, u, z, rfl, _⟩ := h
    rfl
  · obtain ⟨a, ns, s, u, z, rfl, hS, h0, h1, h2, h3, h4, q⟩ := h
    refine ⟨_, (pss_one (ps_ret (pe_op op_mod (pe_op op_fdiv (pe_callTy call_int1 (by rfl) m_int (by decide +kernel) (pa_cons (pe_ix ix_list (pv 0) (pv 1) (fun _ _ => rfl)) pa_nil)) (pv 2)) (pv 3)))), ?_⟩
    refine ⟨_, rfl, _, rfl, _, _, _, _, rfl, rfl, hS, get_int h0 h1, .inl ⟨_, rfl, _, rfl, _, _, rfl, rfl, ⟨h2, by omega⟩, _, rfl, _, _, rfl, rfl, h4, ?_⟩⟩
    exact q
theorem part_lo {ns : List Int} {s u z : Int} (h : 0 < z) : 0 ≤ partOf ns s u z := Int.emod_nonneg _ (by omega)
theorem part_hi {ns : List Int} {s u z : Int} (h : 0 < z) : partOf ns s u z < z := Int.emod_lt_of_pos _ h
/-! _law_mixed -/
def spMixed : Sp := fun vs H Q _ => ∃ c k : Int, vs = [.int c, .int k] ∧ 0 ≤ k ∧ k < 1000000 ∧ ∀ r : Int, 0 ≤ r → Q (.int r) H
theorem ok_L_mixed {f : Addr} {fd : FuncData} (F : Fun K "_law_mixed" "_law_mixed" s_L_mixed f fd) (m_abs : mg "abs" = none) : FnOk P w K mg base CX0 1 f fd ["_law_cell_here", "_law_k"] spMixed := by
  refine F.ok sc_L_mixed (fun vs H Q E h => ?_) (fun cdv A outer s H vs Q E hr h => ?_)
  · obtain ⟨c, k, rfl, _⟩ := h
    rfl
  · obtain ⟨c, k, rfl, h0, h1, q⟩ := h
    refine ⟨_, (pss_cons (ps_set (i := 2) sc_L_mixed.nd rfl (.inl rfl) (pe_op op_mod (pe_op op_add (pe_op op_mul (pe_op op_mod (pe_callB call_abs (by rfl) m_abs (by decide +kernel) (pa_cons (pv 0) pa_nil)) pe_int) pe_int) (pe_op op_mul (pe_op op_add (pv 1) pe_int) pe_int)) pe_int))
  (pss_cons (ps_set (i := 2) sc_L_mixed.nd rfl (.inl rfl) (pe_op op_mod (pe_op op_add (pe_op op_add (pe_op op_mul (pv 2) pe_int) (pe_op op_fdiv (pv 2) pe_int)) (pe_op op_mul (pe_op op_add (pv 1) pe_int) pe_int)) pe_int))
  (pss_one (ps_ret (pe_op op_fdiv (pv 2) pe_int))))), ?_⟩
    refine ⟨_, rfl, _, rfl, _, _, rfl, rfl, pz, _, _, rfl, rfl, .inr (by decide), _, rfl, _, _, rfl, rfl, _, _, rfl, rfl, .inr (by decide), _, _, rfl, rfl, _, _, rfl, rfl, pz, ?_⟩
    refine ⟨_, rfl, _, _, rfl, rfl, .inr (by decide), _, rfl, _, _, rfl, rfl, ⟨by decide, by decide⟩, _, _, rfl, rfl, _, rfl, _, _, rfl, rfl, _, _, rfl, rfl, .inr (by decide), _, _, rfl, rfl, _, _, rfl, rfl, pz, ?_⟩
    refine ⟨_, rfl, _, _, rfl, rfl, ⟨by decide, by decide⟩, ?_⟩
    exact q _ (Int.ediv_nonneg (Int.emod_nonneg _ (by decide)) (by decide))
/-! _law_cell -/
def spCellA (K : PySem.W.Frag) : Sp := fun vs H Q _ => ∃ (a : Addr) (ns : List Int) (k : Int), vs = [.ref a, .int k] ∧ SqL K H a (ns.map V.int) ∧ 0 ≤ k ∧ k < 1000 ∧ ns.length ≤ 1000 ∧ ∀ r : Int, Q (.int r) H
theorem ok_L_cell {f : Addr} {fd : FuncData} (F : Fun K "_law_cell" "_law_cell" s_L_cell f fd) (m_len : mg "len" = none) (m_range : mg "range" = none) (m_abs : mg "abs" = none) : FnOk P w K mg base CX0 1 f fd ["_law_script", "_law_k"] (spCellA K) := by
  refine F.ok sc_L_cell (fun vs H Q E h => ?_) (fun cdv A outer s H vs Q E hr h => ?_)
  · obtain ⟨a, ns, k, rfl, _⟩ := h
    rfl
  · obtain ⟨a, ns, k, rfl, hS, h0, h1, h2, q⟩ := h
    refine ⟨_, (pss_cons (ps_if (pt_cmpR op_lt (pv 1) (pe_callB call_len_seq (by rfl) m_len (by decide +kernel) (pa_cons (pv 0) pa_nil)) (nomark _)) (pss_one (ps_ret (pe_ix ix_list (pv 0) (pv 1) (fun _ _ => rfl)))) pss_nil)
  (pss_cons (ps_set (i := 2) sc_L_cell.nd rfl (.inl rfl) (pe_op op_mul pe_int (pe_op op_add (pv 1) pe_int)))
  (pss_cons (ps_for PassesOwn.never rfl (pi_range1 (by rfl) m_range (pa_cons (pe_callB call_len_seq (by rfl) m_len (by decide +kernel) (pa_cons (pv 0) pa_nil)) pa_nil)) (pg_name (i := 3) sc_L_cell.nd rfl (.inl rfl))
    (pss_one (ps_set (i := 2) sc_L_cell.nd rfl (.inl rfl) (pe_op op_mod (pe_op op_add (pv 2) (pe_op op_mul (pe_op op_mul (pe_op op_add (pv 3) pe_int) (pe_op op_mod (pe_callB call_abs (by rfl) m_abs (by decide +kernel) (pa_cons (pe_ix ix_list (pv 0) (pv 3) (fun _ _ => rfl)) pa_nil)) pe_int)) pe_int)) pe_int))))
  (pss_one (ps_ret (pv 2)))))), ?_⟩
    refine ⟨_, rfl, _, rfl, _, _, rfl, .inl hS, _, _, rfl, rfl, _, rfl, ite2 (fun e => ?_) (fun e => ?_)⟩
    · have e1 : k < ((ns.map V.int).length : Nat) := of_decide_eq_true e
      rw [List.length_map] at e1
      exact ⟨_, rfl, _, rfl, _, _, _, _, rfl, rfl, hS, get_int h0 e1, q _⟩
    · refine ⟨_, rfl, _, _, rfl, rfl, _, _, rfl, rfl, .inl (by decide), ?_⟩
      refine ⟨_, rfl, _, _, rfl, .inl hS, _, rfl, by omega, by rw [List.length_map]; omega, for_range (fun i σ H' => H' = H ∧ ∃ (r : Int) (y : Option V), σ = [some (.ref a), some (.int k), some (.int r), y]) ⟨rfl, _, _, rfl⟩ ?_ ?_⟩
      · rintro i σ H' hi ⟨rfl, r, y, rfl⟩
        rw [List.length_map] at hi
        have hi' : i < ns.length := by omega
        refine ⟨_, rfl, _, rfl, _, _, rfl, rfl, _, rfl, _, rfl, _, _, _, _, rfl, rfl, hS, get_int (by omega) (by omega), _, rfl, _, _, rfl, rfl, pz, _, _, rfl, rfl, .inr (mb (by decide)), _, _, rfl, rfl, .inr (by decide), _, _, rfl, rfl, _, _, rfl, rfl, pz, rfl, _, _, rfl⟩
      · rintro σ H' ⟨rfl, r, y, rfl⟩
        exact ⟨_, rfl, q _⟩
end
end TK

namespace TK
open PySem PySem.Spec PyProof.Rows L2
theorem upd_twice {H : Hp} {p : Addr} {a b : HO} : upd (upd H p a) p b = upd H p b := by
  funext x
  unfold upd
  by_cases e : x = p
  · rw [if_pos e, if_pos e]
  · rw [if_neg e, if_neg e, if_neg e]
section
variable {P : Program} {w : World} {K : PySem.W.Frag} {mg : Str → Option Value} {base : Heap}
/-! _law_pool -/
def spPool : Sp := fun vs H Q _ => ∃ (c n : Int), vs = [.int c, .int n] ∧ 0 ≤ n ∧ n ≤ 1000 ∧ ∀ (p : Addr) (ns : List Int), H p = none → (ns.length : Int) = n → (∀ x ∈ ns, 0 ≤ x) → Q (.ref p) (upd H p (.lst (ns.map V.int)))
theorem ok_L_pool {f : Addr} {fd : FuncData} (F : Fun K "_law_pool" "_law_pool" s_L_pool f fd) (m_range : mg "range" = none) (m_abs : mg "abs" = none) (d_L_mixed : Def P w K mg base "_law_mixed" 1 ["_law_cell_here", "_law_k"] spMixed) : FnOk P w K mg base CX0 2 f fd ["_law_cell_here", "_law_number"] spPool := by
  refine F.ok sc_L_pool (fun vs H Q E h => ?_) (fun cdv A outer s H vs Q E hr h => ?_)
  · obtain ⟨c, n, rfl, _⟩ := h
    rfl
  · obtain ⟨c, n, rfl, h0, h1, q⟩ := h
    refine ⟨_, (pss_cons (ps_set (i := 2) sc_L_pool.nd rfl (.inl rfl) (pe_callB call_abs (by rfl) m_abs (by decide +kernel) (pa_cons (pv 0) pa_nil)))
  (pss_cons (ps_set (i := 3) sc_L_pool.nd rfl (.inl rfl) (pe_cmpR op_ge (pv 2) (pe_op op_pow pe_int pe_int) (nomark _)))
  (pss_cons (ps_set (i := 4) sc_L_pool.nd rfl (.inl rfl) (pe_lst pa_nil))
  (pss_cons (ps_for PassesOwn.never rfl (pi_range1 (by rfl) m_range (pa_cons (pv 1) pa_nil)) (pg_name (i := 5) sc_L_pool.nd rfl (.inl rfl))
    (pss_one (ps_if (PW.pt (pw_and (pt_val (pv 3)) (pw_and1 (pt_cmpR op_gt (pv 2) pe_int (nomark _))))) (pss_cons (ps_expr (pe_bm PySem.F.plainAttrs_list PySem.F.slot_list_append PySem.F.type_list_append mt_append (pv 4) (pa_cons (pe_op op_mod (pv 2) pe_int) pa_nil)))
  (pss_one (ps_set (i := 2) sc_L_pool.nd rfl (.inl rfl) (pe_op op_fdiv (pv 2) pe_int)))) (pss_one (ps_expr (pe_bm PySem.F.plainAttrs_list PySem.F.slot_list_append PySem.F.type_list_append mt_append (pv 4) (pa_cons (pe_callD d_L_mixed (hr.mono (by decide)) (by rfl) (pa_cons (pv 0) (pa_cons (pv 5) pa_nil))) pa_nil)))))))
  (pss_one (ps_ret (pv 4))))))), ?_⟩
    have ha : 0 ≤ (if c < 0 then -c else c) := by split <;> omega
    refine ⟨_, rfl, _, rfl, _, rfl, _, _, rfl, rfl, ⟨by decide, by decide, by decide⟩, _, _, rfl, rfl, ?_⟩
    refine ⟨Nat.zero_le _, fun p np => ?_⟩
    refine ⟨_, rfl, _, rfl, by omega, by omega, for_range (fun i σ H' => ∃ (r : Int) (b : Bool) (ns : List Int) (y : Option V), σ = [some (.int c), some (.int n), some (.int r), some (.bl b), some (.ref p), y] ∧ 0 ≤ r ∧ ns.length = i ∧ (∀ x ∈ ns, 0 ≤ x) ∧ H' = upd H p (.lst (ns.map V.int))) ⟨_, _, [], _, rfl, ha, rfl, (fun x hx => nomatch hx), rfl⟩ ?_ ?_⟩
    · rintro i σ H' hi ⟨r, b, ns, y, rfl, r0, hl, hx, rfl⟩
      have hz : (ns.map V.int).length < sizeLine := by rw [List.length_map]; exact small1000 (by omega)
      refine ⟨_, rfl, _, rfl, ite2 (fun e => ?_) (fun e => ?_)⟩
      · refine ⟨_, rfl, _, _, rfl, rfl, _, rfl, ite2 (fun e => ?_) (fun e => ?_)⟩
        · refine ⟨_, rfl, .inl ⟨rfl, _, lstAt upd_same⟩, _, rfl, _, _, rfl, rfl, pz, _, _, _, rfl, rfl, upd_same, hz, ?_⟩
          refine ⟨_, rfl, _, _, rfl, rfl, ⟨by decide, by decide⟩, ?_⟩
          refine ⟨_, b, ns ++ [r % 5040], _, rfl, Int.ediv_nonneg r0 (by decide), by rw [List.length_append, hl]; rfl, ?_, ?_⟩
          · intro x h
            rcases List.mem_append.mp h with h | h
            · exact hx x h
            · cases List.mem_singleton.mp h; exact Int.emod_nonneg _ (by decide)
          · rw [upd_twice, List.map_append]; rfl
        · refine ⟨_, rfl, .inl ⟨rfl, _, lstAt upd_same⟩, _, rfl, _, rfl, _, _, rfl, by omega, by omega, fun z z0 => ⟨_, _, _, rfl, rfl, upd_same, hz, r, b, ns ++ [z], _, rfl, r0, by rw [List.length_append, hl]; rfl, ?_, ?_⟩⟩
          · intro x h
            rcases List.mem_append.mp h with h | h
            · exact hx x h
            · cases List.mem_singleton.mp h; exact z0
          · rw [upd_twice, List.map_append]; rfl
      · refine iteF ?_
        refine ⟨_, rfl, .inl ⟨rfl, _, lstAt upd_same⟩, _, rfl, _, rfl, _, _, rfl, by omega, by omega, fun z z0 => ⟨_, _, _, rfl, rfl, upd_same, hz, r, b, ns ++ [z], _, rfl, r0, by rw [List.length_append, hl]; rfl, ?_, ?_⟩⟩
        · intro x h
          rcases List.mem_append.mp h with h | h
          · exact hx x h
          · cases List.mem_singleton.mp h; exact z0
        · rw [upd_twice, List.map_append]; rfl
    · rintro σ H' ⟨r, b, ns, y, rfl, r0, hl, hx, rfl⟩
      exact ⟨_, rfl, q p ns np (by omega) hx⟩
/-! _law_far -/
/-! _law_chosen: from 0 to the crest -/
end
end TK

namespace TK
open PySem PySem.Spec PyProof.Rows L2
/-! ### texts as lists of codes -/
def sOf (l : List Nat) : Str := ⟨l.toArray⟩
theorem sOf_codes (l : List Nat) : (sOf l).cps.toList = l := rfl
theorem sOf_len (l : List Nat) : (sOf l).length = l.length := by simp [sOf, Str.length]
theorem sOf_app (a b : List Nat) : sOf a ++ sOf b = sOf (a ++ b) := by
  show (⟨a.toArray ++ b.toArray⟩ : Str) = ⟨(a ++ b).toArray⟩
  simp
theorem sOf_inj {a b : List Nat} (h : sOf a = sOf b) : a = b := by
  have := congrArg (fun z : Str => z.cps.toList) h
  exact this
theorem sOf_one (c : Nat) : (⟨#[c]⟩ : Str) = sOf [c] := rfl
theorem cut_to (l : List Nat) {m : Int} (h : 0 ≤ m) : cutS (sOf l) none (some m) = sOf (l.take m.toNat) := by
  obtain ⟨k, rfl⟩ : ∃ k : Nat, m = (k : Int) := ⟨m.toNat, by omega⟩
  unfold cutS
  rw [HT.sIx_none, HT.sIx_nat, sOf_len, sOf_codes, List.drop_zero, Nat.sub_zero, Int.toNat_natCast]
  show sOf _ = sOf _
  congr 1
  by_cases hk : k ≤ l.length
  · rw [Nat.min_eq_left hk]
  · rw [Nat.min_eq_right (by omega), List.take_of_length_le (by omega), List.take_of_length_le (by omega)]
theorem cut_from (l : List Nat) {m : Int} (h : 0 ≤ m) : cutS (sOf l) (some m) none = sOf (l.drop m.toNat) := by
  obtain ⟨k, rfl⟩ : ∃ k : Nat, m = (k : Int) := ⟨m.toNat, by omega⟩
  unfold cutS
  rw [HT.sIx_none, HT.sIx_nat, sOf_len, sOf_codes, Int.toNat_natCast]
  show sOf _ = sOf _
  congr 1
  by_cases hk : k ≤ l.length
  · rw [Nat.min_eq_left hk, List.take_of_length_le (by rw [List.length_drop]; omega)]
  · rw [Nat.min_eq_right (by omega), List.drop_of_length_le (by omega), List.drop_of_length_le (by omega), List.take_nil]
def lettersZ : Str := Str.ofString "abcdefghijklmnopqrstuvwxyz"
theorem letters_codes : lettersZ.cps.toList = (List.range 26).map (97 + ·) := by decide +kernel
theorem letters_len : lettersZ.length = 26 := by decide +kernel
theorem letter_at {i : Int} (h0 : 0 ≤ i) (h1 : i < 26) : atI lettersZ.cps.toList i = some (97 + i.toNat) := by
  refine atI_in h0 ?_
  rw [letters_codes, List.getElem?_map, List.getElem?_range (by omega)]
  rfl
def Let (l : List Nat) : Prop := ∀ c ∈ l, 97 ≤ c ∧ c ≤ 122
theorem Let.app {a b : List Nat} (h : Let a) (k : Let b) : Let (a ++ b) := fun c hc => by
  rcases List.mem_append.mp hc with e | e
  · exact h c e
  · exact k c e
theorem Let.one {n : Nat} (h : n < 26) : Let [97 + n] := fun c hc => by
  cases List.mem_singleton.mp hc
  omega
theorem Let.take {a : List Nat} (h : Let a) (n : Nat) : Let (a.take n) := fun c hc => h c (List.mem_of_mem_take hc)
theorem Let.drop {a : List Nat} (h : Let a) (n : Nat) : Let (a.drop n) := fun c hc => h c (List.mem_of_mem_drop hc)
/-- a name: 1 to 8 letters -/
def Nm (l : List Nat) : Prop := 1 ≤ l.length ∧ l.length ≤ 8 ∧ Let l
def nameF (b : Bool) (stem short tail : List Nat) (cut first turn : Nat) (k : Nat) : List Nat :=
  if b = true then short.take cut ++ [97 + (first + 7 * ((k + turn) % 6)) % 26] ++ short.drop cut ++ tail else stem.take ((k + turn) % 6 + 1)
theorem nameF_nm {b : Bool} {stem short tail : List Nat} {cut first turn k : Nat} (hs : stem.length = 6) (hsh : short.length ≤ 6) (ht : tail.length ≤ 1) (l1 : Let stem) (l2 : Let short) (l3 : Let tail) : Nm (nameF b stem short tail cut first turn k) := by
  unfold nameF
  cases b with
  | true =>
    rw [if_pos rfl]
    have e : (short.take cut).length + (short.drop cut).length = short.length := by rw [← List.length_append, List.take_append_drop]
    refine ⟨?_, ?_, (((l2.take _).app (.one (Nat.mod_lt _ (by decide)))).app (l2.drop _)).app l3⟩
    · simp only [List.length_append, List.length_cons, List.length_nil]; omega
    · simp only [List.length_append, List.length_cons, List.length_nil]; omega
  | false =>
    rw [if_neg (by decide)]
    have := Nat.mod_lt (k + turn) (show 6 > 0 by decide)
    exact ⟨by rw [List.length_take]; omega, by rw [List.length_take]; omega, l1.take _⟩
theorem nameF_inj {b : Bool} {stem short tail : List Nat} {cut first turn k j : Nat} (hs : stem.length = 6) (hk : k < 6) (hj : j < 6) (h : nameF b stem short tail cut first turn k = nameF b stem short tail cut first turn j) : k = j := by
  unfold nameF at h
  cases b with
  | true =>
    rw [if_pos rfl, if_pos rfl] at h
    simp only [List.append_assoc, List.append_cancel_left_eq, List.cons_append, List.nil_append, List.cons.injEq] at h
    have := h.1
    omega
  | false =>
    rw [if_neg (by decide), if_neg (by decide)] at h
    have e := congrArg List.length h
    rw [List.length_take, List.length_take, hs] at e
    omega
theorem nodup_range {f : Nat → List Nat} : ∀ {n : Nat}, (∀ k j, k < n → j < n → f k = f j → k = j) → ((List.range n).map f).Nodup := by
  intro n h
  rw [List.nodup_iff_pairwise_ne, List.pairwise_map]
  refine List.Pairwise.imp_of_mem ?_ (List.nodup_iff_pairwise_ne.mp List.nodup_range)
  intro a b ha hb hne e
  exact hne (h a b (List.mem_range.mp ha) (List.mem_range.mp hb) e)
def vN (l : List Nat) : V := .str (sOf l)
section
variable {P : Program} {w : World} {K : PySem.W.Frag} {mg : Str → Option Value} {base : Heap}
/-! _law_names -/
def spNames (K : PySem.W.Frag) : Sp := fun vs H Q _ => ∃ (a : Addr) (ns : List Int) (s n : Int), vs = [.ref a, .int s, .int n] ∧ SqL K H a (ns.map V.int) ∧ 0 ≤ s ∧ s + 5 ≤ ns.length ∧ 0 ≤ n ∧ n ≤ 6 ∧
  ∀ (p : Addr) (zs : List (List Nat)), H p = none → (zs.length : Int) = n → (∀ z ∈ zs, Nm z) → zs.Nodup → Q (.ref p) (upd H p (.lst (zs.map vN)))
theorem small_len {l : List Nat} (h : l.length ≤ 1000) : (sOf l).length ≤ sizeLine := by rw [sOf_len]; exact Nat.le_of_lt (small1000 h)
theorem ok_L_names {f : Addr} {fd : FuncData} (F : Fun K "_law_names" "_law_names" s_L_names f fd) (m_range : mg "range" = none) (m_int : mg "int" = none) (d_L_part : Def P w K mg base "_law_part" 1 ["_law_pool_here", "_law_spot", "_law_under", "_law_size"] (spPart K)) : FnOk P w K mg base CX0 2 f fd ["_law_pool_here", "_law_spot", "_law_number"] (spNames K) := by
  refine F.ok sc_L_names (fun vs H Q E h => ?_) (fun cdv A outer s H vs Q E hr h => ?_)
  · obtain ⟨a, ns, s, n, rfl, _⟩ := h
    rfl
  · obtain ⟨a, ns, s, n, rfl, hS, h0, h1, h2, h3, q⟩ := h
    refine ⟨_, (pss_cons (ps_set (i := 3) sc_L_names.nd rfl (.inl rfl) pe_str)
  (pss_cons (ps_set (i := 4) sc_L_names.nd rfl (.inl rfl) pe_str)
  (pss_cons (ps_for PassesOwn.never rfl (pi_range1 (by rfl) m_range (pa_cons pe_int pa_nil)) (pg_name (i := 5) sc_L_names.nd rfl (.inl rfl))
    (pss_one (ps_set (i := 4) sc_L_names.nd rfl (.inl rfl) (pe_op op_add_str (pe_op op_add_str (pv 4) (pe_ix ix_str (pv 3) (pe_callD d_L_part (hr.mono (by decide)) (by rfl) (pa_cons (pv 0) (pa_cons (pe_op op_add (pv 1) (pv 5)) (pa_cons pe_int (pa_cons pe_int pa_nil))))) (fun _ _ => rfl))) (pe_ix ix_str (pv 3) (pe_callD d_L_part (hr.mono (by decide)) (by rfl) (pa_cons (pv 0) (pa_cons (pe_op op_add (pv 1) (pv 5)) (pa_cons pe_int (pa_cons pe_int pa_nil))))) (fun _ _ => rfl))))))
  (pss_cons (ps_set (i := 6) sc_L_names.nd rfl (.inl rfl) (pe_callD d_L_part (hr.mono (by decide)) (by rfl) (pa_cons (pv 0) (pa_cons (pe_op op_add (pv 1) pe_int) (pa_cons pe_int (pa_cons pe_int pa_nil))))))
  (pss_cons (ps_set (i := 7) sc_L_names.nd rfl (.inl rfl) (pe_callD d_L_part (hr.mono (by decide)) (by rfl) (pa_cons (pv 0) (pa_cons (pe_op op_add (pv 1) pe_int) (pa_cons pe_int (pa_cons pe_int pa_nil))))))
  (pss_cons (ps_set (i := 8) sc_L_names.nd rfl (.inl rfl) (pe_callD d_L_part (hr.mono (by decide)) (by rfl) (pa_cons (pv 0) (pa_cons (pe_op op_add (pv 1) pe_int) (pa_cons pe_int (pa_cons pe_int pa_nil))))))
  (pss_cons (ps_set (i := 9) sc_L_names.nd rfl (.inl rfl) (pe_slice sl_str (pv 4) po_none (po_some (pe_callD d_L_part (hr.mono (by decide)) (by rfl) (pa_cons (pv 0) (pa_cons (pe_op op_add (pv 1) pe_int) (pa_cons pe_int (pa_cons pe_int pa_nil))))))))
  (pss_cons (ps_set (i := 10) sc_L_names.nd rfl (.inl rfl) (pe_slice sl_str (pv 4) po_none (po_some (pe_callD d_L_part (hr.mono (by decide)) (by rfl) (pa_cons (pv 0) (pa_cons (pe_op op_add (pv 1) pe_int) (pa_cons pe_int (pa_cons pe_int pa_nil))))))))
  (pss_cons (ps_set (i := 11) sc_L_names.nd rfl (.inl rfl) (pe_lst pa_nil))
  (pss_cons (ps_for PassesOwn.never rfl (pi_range1 (by rfl) m_range (pa_cons (pv 2) pa_nil)) (pg_name (i := 5) sc_L_names.nd rfl (.inl rfl))
    (pss_cons (ps_set (i := 12) sc_L_names.nd rfl (.inl rfl) (pe_op op_mod (pe_callTy call_int1 (by rfl) m_int (by decide +kernel) (pa_cons (pe_op op_add (pv 5) (pv 6)) pa_nil)) pe_int))
  (pss_one (ps_if (pt_cmpR op_eq (pe_callD d_L_part (hr.mono (by decide)) (by rfl) (pa_cons (pv 0) (pa_cons (pe_op op_add (pv 1) pe_int) (pa_cons pe_int (pa_cons pe_int pa_nil))))) pe_int (nomark _)) (pss_one (ps_expr (pe_bm PySem.F.plainAttrs_list PySem.F.slot_list_append PySem.F.type_list_append mt_append (pv 11) (pa_cons (pe_op op_add_str (pe_op op_add_str (pe_op op_add_str (pe_slice sl_str (pv 9) po_none (po_some (pv 7))) (pe_ix ix_str (pv 3) (pe_op op_mod (pe_callTy call_int1 (by rfl) m_int (by decide +kernel) (pa_cons (pe_op op_add (pv 8) (pe_op op_mul pe_int (pv 12))) pa_nil)) pe_int) (fun _ _ => rfl))) (pe_slice sl_str (pv 9) (po_some (pv 7)) po_none)) (pv 10)) pa_nil)))) (pss_one (ps_expr (pe_bm PySem.F.plainAttrs_list PySem.F.slot_list_append PySem.F.type_list_append mt_append (pv 11) (pa_cons (pe_slice sl_str (pv 4) po_none (po_some (pe_op op_add (pv 12) pe_int))) pa_nil))))))))
  (pss_one (ps_ret (pv 11))))))))))))), ?_⟩
    refine ⟨_, rfl, by decide, by decide, for_range (fun i σ H' => H' = H ∧ ∃ (st : List Nat) (y : Option V), σ = [some (.ref a), some (.int s), some (.int n), some (.str lettersZ), some (vN st), y, none, none, none, none, none, none, none] ∧ st.length = 2 * i ∧ Let st) ⟨rfl, [], _, rfl, rfl, fun c hc => nomatch hc⟩ ?_ ?_⟩
    · rintro i σ H' hi ⟨rfl, st, y, rfl, hl, le⟩
      have hi3 : i < 3 := hi
      have b1 := part_lo (ns := ns) (s := s + (0 + (i : Int))) (u := 1) (z := 26) (by decide)
      have b2 := part_hi (ns := ns) (s := s + (0 + (i : Int))) (u := 1) (z := 26) (by decide)
      have c1 := part_lo (ns := ns) (s := s + (0 + (i : Int))) (u := 26) (z := 26) (by decide)
      have c2 := part_hi (ns := ns) (s := s + (0 + (i : Int))) (u := 26) (z := 26) (by decide)
      refine ⟨_, rfl, _, rfl, _, rfl, _, rfl, _, rfl, _, _, rfl, rfl, _, _, _, _, _, rfl, hS, by omega, by omega, by decide, by decide, by decide, ?_⟩
      refine ⟨_, _, _, rfl, rfl, by rw [letters_len]; decide, letter_at b1 b2, _, _, rfl, rfl, ?_, ?_⟩
      · rw [sOf_len, sOf_one, sOf_len]; exact Nat.le_of_lt (small1000 (by simp only [List.length_cons, List.length_nil]; omega))
      refine ⟨_, rfl, _, rfl, _, rfl, _, rfl, _, _, rfl, rfl, _, _, _, _, _, rfl, hS, by omega, by omega, by decide, by decide, by decide, ?_⟩
      refine ⟨_, _, _, rfl, rfl, by rw [letters_len]; decide, letter_at c1 c2, _, _, rfl, rfl, ?_, ?_⟩
      · rw [sOf_one, sOf_one, sOf_app, sOf_len, sOf_len]; exact Nat.le_of_lt (small1000 (by simp only [List.length_append, List.length_cons, List.length_nil]; omega))
      refine ⟨rfl, (st ++ [97 + (partOf ns (s + (0 + (i : Int))) 1 26).toNat]) ++ [97 + (partOf ns (s + (0 + (i : Int))) 26 26).toNat], some (.int (0 + (i : Int))), ?_, ?_, ?_⟩
      · rw [sOf_one, sOf_one, sOf_app, sOf_app]; rfl
      · simp only [List.length_append, List.length_cons, List.length_nil]; omega
      · exact (le.app (.one (by omega))).app (.one (by omega))
    · rintro σ H' ⟨rfl, st, y, rfl, hl, le⟩
      have hl : st.length = 6 := hl
      have t1 := part_lo (ns := ns) (s := s + 3) (u := 1) (z := 6) (by decide)
      have t2 := part_hi (ns := ns) (s := s + 3) (u := 1) (z := 6) (by decide)
      have u1 := part_lo (ns := ns) (s := s + 3) (u := 6) (z := 7) (by decide)
      have u2 := part_hi (ns := ns) (s := s + 3) (u := 6) (z := 7) (by decide)
      have v1 := part_lo (ns := ns) (s := s + 3) (u := 42) (z := 26) (by decide)
      have v2 := part_hi (ns := ns) (s := s + 3) (u := 42) (z := 26) (by decide)
      have w1 := part_lo (ns := ns) (s := s + 4) (u := 4) (z := 7) (by decide)
      have w2 := part_hi (ns := ns) (s := s + 4) (u := 4) (z := 7) (by decide)
      have x1 := part_lo (ns := ns) (s := s + 4) (u := 2) (z := 2) (by decide)
      have x2 := part_hi (ns := ns) (s := s + 4) (u := 2) (z := 2) (by decide)
      refine ⟨_, rfl, _, rfl, _, _, rfl, rfl, _, _, _, _, _, rfl, hS, by omega, by omega, by decide, by decide, by decide, ?_⟩
      refine ⟨_, rfl, _, rfl, _, _, rfl, rfl, _, _, _, _, _, rfl, hS, by omega, by omega, by decide, by decide, by decide, ?_⟩
      refine ⟨_, rfl, _, rfl, _, _, rfl, rfl, _, _, _, _, _, rfl, hS, by omega, by omega, by decide, by decide, by decide, ?_⟩
      refine ⟨_, rfl, _, rfl, _, rfl, _, _, rfl, rfl, _, _, _, _, _, rfl, hS, by omega, by omega, by decide, by decide, by decide, _, rfl, _, rfl, small_len (by omega), ?_⟩
      refine ⟨_, rfl, _, rfl, _, rfl, _, _, rfl, rfl, _, _, _, _, _, rfl, hS, by omega, by omega, by decide, by decide, by decide, _, rfl, _, rfl, small_len (by omega), ?_⟩
      rw [cut_to st w1, cut_to st x1]
      refine ⟨Nat.zero_le _, fun p np => ?_⟩
      have hS2 : ∀ o, SqL K (upd H' p o) a (ns.map V.int) := fun o => (same_upd np).seq hS
      let nf := nameF (decide (partOf ns (s + 4) 1 2 = 0)) st (st.take (partOf ns (s + 4) 4 7).toNat) (st.take (partOf ns (s + 4) 2 2).toNat) (partOf ns (s + 3) 6 7).toNat (partOf ns (s + 3) 42 26).toNat (partOf ns (s + 3) 1 6).toNat
      refine ⟨_, rfl, _, rfl, by omega, by omega, for_range (fun i σ H2 => H2 = upd H' p (.lst (((List.range i).map nf).map vN)) ∧ ∃ (y m : Option V), σ = [some (.ref a), some (.int s), some (.int n), some (.str lettersZ), some (vN st), y, some (.int (partOf ns (s + 3) 1 6)), some (.int (partOf ns (s + 3) 6 7)), some (.int (partOf ns (s + 3) 42 26)), some (vN (st.take (partOf ns (s + 4) 4 7).toNat)), some (vN (st.take (partOf ns (s + 4) 2 2).toNat)), some (.ref p), m]) ⟨rfl, _, _, rfl⟩ ?_ ?_⟩
      · rintro i σ H2 hi ⟨rfl, y, m, rfl⟩
        have hz : (((List.range i).map nf).map vN).length < sizeLine := by rw [List.length_map, List.length_map, List.length_range]; exact small1000 (by omega)
        have mk : (0 + (i : Int) + partOf ns (s + 3) 1 6) % 6 = (((i + (partOf ns (s + 3) 1 6).toNat) % 6 : Nat) : Int) := by omega
        have next : ∀ (l : List Nat), l = nf i → ((List.range i).map nf).map vN ++ [vN l] = ((List.range (i + 1)).map nf).map vN := by
          intro l e
          rw [List.range_succ, List.map_append, List.map_append, e]
          rfl
        refine ⟨_, rfl, _, rfl, _, _, rfl, rfl, .inl ⟨_, rfl, _, _, rfl, rfl, pz, ?_⟩⟩
        refine ⟨_, rfl, _, rfl, _, _, rfl, rfl, _, _, _, _, _, rfl, hS2 _, by omega, by omega, by decide, by decide, by decide, rfl, _, rfl, ite2 (fun e => ?_) (fun e => ?_)⟩
        · have e1 : decide (partOf ns (s + 4) 1 2 = 0) = true := by
            have := V.int.inj (of_decide_eq_true e)
            exact decide_eq_true this
          have f1 : 0 ≤ (partOf ns (s + 3) 42 26 + 7 * ((0 + (i : Int) + partOf ns (s + 3) 1 6) % 6)) % 26 := by omega
          have f2 : (partOf ns (s + 3) 42 26 + 7 * ((0 + (i : Int) + partOf ns (s + 3) 1 6) % 6)) % 26 < 26 := by omega
          refine ⟨_, rfl, .inl ⟨rfl, _, lstAt upd_same⟩, ?_⟩
          refine ⟨_, rfl, _, rfl, _, rfl, _, rfl, small_len (by rw [List.length_take]; omega), ?_⟩
          refine ⟨_, rfl, _, rfl, _, rfl, _, _, rfl, rfl, .inl (by decide), _, _, rfl, rfl, .inl ⟨_, rfl, _, _, rfl, rfl, pz, _, _, _, rfl, rfl, by rw [letters_len]; decide, letter_at f1 f2, ?_⟩⟩
          rw [cut_to _ u1]
          refine ⟨_, _, rfl, rfl, ?_, ?_⟩
          · rw [sOf_one, sOf_len, sOf_len]
            exact Nat.le_of_lt (small1000 (by rw [List.length_take, List.length_take]; simp only [List.length_cons, List.length_nil]; omega))
          refine ⟨_, rfl, _, rfl, _, rfl, _, rfl, small_len (by rw [List.length_take]; omega), ?_⟩
          rw [cut_from _ u1, sOf_one, sOf_app]
          refine ⟨_, _, rfl, rfl, ?_, ?_⟩
          · rw [sOf_len, sOf_len]
            exact Nat.le_of_lt (small1000 (by rw [List.length_append, List.length_take, List.length_take, List.length_drop, List.length_take]; simp only [List.length_cons, List.length_nil]; omega))
          refine ⟨_, rfl, _, _, rfl, rfl, ?_, ?_⟩
          · rw [sOf_app, sOf_len, sOf_len]
            exact Nat.le_of_lt (small1000 (by rw [List.length_append, List.length_append, List.length_take, List.length_take, List.length_drop, List.length_take, List.length_take]; simp only [List.length_cons, List.length_nil]; omega))
          rw [sOf_app, sOf_app]
          refine ⟨_, _, _, rfl, rfl, upd_same, hz, ?_, _, _, rfl⟩
          rw [upd_twice]
          congr 2
          refine next _ ?_
          show _ = nameF _ _ _ _ _ _ _ _
          unfold nameF
          rw [if_pos e1]
          congr 5
          omega
        · have e1 : ¬ decide (partOf ns (s + 4) 1 2 = 0) = true := by
            intro z
            have := of_decide_eq_true z
            exact e (decide_eq_true (congrArg V.int this))
          refine ⟨_, rfl, .inl ⟨rfl, _, lstAt upd_same⟩, ?_⟩
          refine ⟨_, rfl, _, rfl, _, _, rfl, rfl, _, rfl, _, rfl, small_len (by omega), ?_⟩
          rw [cut_to _ (show (0 : Int) ≤ (0 + (i : Int) + partOf ns (s + 3) 1 6) % 6 + 1 by omega)]
          refine ⟨_, _, _, rfl, rfl, upd_same, hz, ?_, _, _, rfl⟩
          rw [upd_twice]
          congr 2
          refine next _ ?_
          show _ = nameF _ _ _ _ _ _ _ _
          unfold nameF
          rw [if_neg e1]
          congr 1
          omega
      · rintro σ H2 ⟨rfl, y, m, rfl⟩
        refine ⟨_, rfl, q p ((List.range n.toNat).map nf) np ?_ ?_ ?_⟩
        · rw [List.length_map, List.length_range]; omega
        · intro z hz
          obtain ⟨k, hk, rfl⟩ := List.mem_map.mp hz
          exact nameF_nm hl (by rw [List.length_take]; omega) (by rw [List.length_take]; omega) le (le.take _) (le.take _)
        · refine nodup_range fun k j hk hj e => ?_
          exact nameF_inj hl (by omega) (by omega) e
end
end TK

namespace TK
open PySem PySem.Spec PyProof.Rows L2
section
variable {P : Program} {w : World} {K : PySem.W.Frag} {mg : Str → Option Value} {base : Heap}
/-! _law_integer: of an int -/
def spInteger : Sp := fun vs H Q _ => ∃ i : Int, vs = [.int i] ∧ Q (.bl true) H
theorem ok_L_integer {f : Addr} {fd : FuncData} (F : Fun K "_law_integer" "_law_integer" s_L_integer f fd) (m_isinstance : mg "isinstance" = none) (m_int : mg "int" = none) (m_bool : mg "bool" = none) :
    FnOk P w K mg base CX0 1 f fd ["_law_got"] spInteger := by
  refine F.ok sc_L_integer (fun vs H Q E h => ?_) (fun cdv A outer s H vs Q E hr h => ?_)
  · obtain ⟨i, rfl, _⟩ := h
    rfl
  · obtain ⟨i, rfl, q⟩ := h
    refine ⟨_, (pss_one (ps_ret (pe_and (pe_callB call_isi (by rfl) m_isinstance (by decide +kernel) (pa_cons (pv 0) (pa_cons (pe_bltn (v := .ty "int") (u := .type "int") (by rfl) m_int (by decide +kernel) rfl) pa_nil))) (pe_one (pe_not (pe_callB call_isi (by rfl) m_isinstance (by decide +kernel) (pa_cons (pv 0) (pa_cons (pe_bltn (v := .ty "bool") (u := .type "bool") (by rfl) m_bool (by decide +kernel) rfl) pa_nil)))))))), ?_⟩
    refine ⟨_, rfl, _, _, _, _, true, rfl, .ty "int", .base (.int i), rfl, _, rfl, iteT ?_⟩
    refine ⟨_, rfl, _, _, _, _, false, rfl, .ty "bool", .base (.int i), rfl, _, rfl, ?_⟩
    exact q
end
end TK

namespace TK
open PySem PySem.Spec PyProof.Rows L2
/-! ### the same data, down to a depth -/
def flat1 : V → Bool
  | .non => true | .bl _ => true | .int _ => true | .str _ => true | _ => false
/-- a tuple, known to the object or not -/
def TL (H : Hp) (a : Addr) (xs : List V) : Prop := H a = some (.tup xs) ∨ ∃ o, H a = some (.frz o (.tup xs))
theorem TL.ty {K : PySem.W.Frag} {H : Hp} {a : Addr} {xs : List V} (h : TL H a xs) : TyX K H (.ref a) (.type "tuple") := by
  rcases h with h | ⟨o, h⟩
  · exact .base (.tup h)
  · exact .fTuple h
theorem TL.sq {K : PySem.W.Frag} {H : Hp} {a : Addr} {xs : List V} (h : TL H a xs) : SqT K H a xs := .inl (h.elim .inl .inr)
def Eq2 (H : Hp) : Nat → V → V → Prop
  | 0, x, y => x = y ∧ flat1 x = true
  | n + 1, x, y => (x = y ∧ flat1 x = true) ∨ ∃ (a b : Addr) (xs ys : List V), x = .ref a ∧ y = .ref b ∧ ((H a = some (.lst xs) ∧ H b = some (.lst ys)) ∨ (TL H a xs ∧ TL H b ys)) ∧ xs.length = ys.length ∧ xs.length < 2 ^ 40 ∧
      ∀ (i : Nat) (x y : V), xs[i]? = some x → ys[i]? = some y → Eq2 H n x y
theorem bint {z : V} {H : Hp} {Q : VK} (h : z = .bl true) (q : Q (.bl true) H) : Q z H := h ▸ q
section
variable {P : Program} {w : World} {K : PySem.W.Frag} {mg : Str → Option Value} {base : Heap}
def spSame (n : Nat) : Sp := fun vs H Q _ => ∃ x y, vs = [x, y] ∧ Eq2 H n x y ∧ Q (.bl true) H
theorem same_tail {x y : V} {H : Hp} (ex : x = y) (fx : flat1 x = true) : (x = .non ∧ y = .non) ∨ (∃ b, x = .bl b ∧ y = .bl b) ∨ (∃ i, x = .int i ∧ y = .int i) ∨ ∃ z, x = .str z ∧ y = .str z := by
  subst ex
  cases x with
  | non => exact .inl ⟨rfl, rfl⟩
  | bl b => exact .inr (.inl ⟨b, rfl, rfl⟩)
  | int i => exact .inr (.inr (.inl ⟨i, rfl, rfl⟩))
  | str z => exact .inr (.inr (.inr ⟨z, rfl, rfl⟩))
  | byt _ => cases fx
  | flt _ => cases fx
  | ref _ => cases fx
  | ty _ => cases fx
structure SameTx (K : PySem.W.Frag) (mg : Str → Option Value) : Prop where
  m_isinstance : mg "isinstance" = none
  m_int : mg "int" = none
  m_bool : mg "bool" = none
  m_str : mg "str" = none
  m_tuple : mg "tuple" = none
  m_list : mg "list" = none
  m_len : mg "len" = none
  m_range : mg "range" = none
theorem ok_L_same {f : Addr} {fd : FuncData} (F : Fun K "_law_same" "_law_same" s_L_same f fd) (g : mg "_law_same" = some (.ref f)) (b : Binds K fd ["_law_got", "_law_wanted"] []) (T : SameTx K mg) (d_L_integer : Def P w K mg base "_law_integer" 1 ["_law_got"] spInteger) :
    ∀ n : Nat, n ≤ 10 → FnOk P w K mg base CX0 (n + 2) f fd ["_law_got", "_law_wanted"] (spSame n) := by
  obtain ⟨m_isinstance, m_int, m_bool, m_str, m_tuple, m_list, m_len, m_range⟩ := T
  intro n
  induction n with
  | zero =>
    intro _
    refine F.ok sc_L_same (fun vs H Q E h => ?_) (fun cdv A outer s H vs Q E hr h => ?_)
    · obtain ⟨x, y, rfl, _⟩ := h
      rfl
    · obtain ⟨x, y, rfl, ⟨ex, fx⟩, q⟩ := h
      refine ⟨_, (pss_cons (ps_if (pt_cmpR op_isN (pv 1) pe_non (nomark _)) (pss_one (ps_ret (pe_cmpR op_isN (pv 0) pe_non (nomark _)))) pss_nil)
  (pss_cons (ps_if (pt_cmpR op_isT (pv 1) pe_bl (nomark _)) (pss_one (ps_ret (pe_cmpR op_isT (pv 0) pe_bl (nomark _)))) pss_nil)
  (pss_cons (ps_if (pt_cmpR op_isT (pv 1) pe_bl (nomark _)) (pss_one (ps_ret (pe_cmpR op_isT (pv 0) pe_bl (nomark _)))) pss_nil)
  (pss_cons (ps_if (pt_val (pe_callB call_isi (by rfl) m_isinstance (by decide +kernel) (pa_cons (pv 1) (pa_cons (pe_bltn (v := .ty "int") (u := .type "int") (by rfl) m_int (by decide +kernel) rfl) pa_nil)))) (pss_one (ps_ret (pe_and (pe_callD d_L_integer (hr.mono (by omega)) (by rfl) (pa_cons (pv 0) pa_nil)) (pe_one (pe_cmpR op_eq (pv 0) (pv 1) (nomark _)))))) pss_nil)
  (pss_cons (ps_if (pt_val (pe_callB call_isi (by rfl) m_isinstance (by decide +kernel) (pa_cons (pv 1) (pa_cons (pe_bltn (v := .ty "str") (u := .type "str") (by rfl) m_str (by decide +kernel) rfl) pa_nil)))) (pss_one (ps_ret (pe_and (pe_callB call_isi (by rfl) m_isinstance (by decide +kernel) (pa_cons (pv 0) (pa_cons (pe_bltn (v := .ty "str") (u := .type "str") (by rfl) m_str (by decide +kernel) rfl) pa_nil))) (pe_one (pe_cmpR op_eq (pv 0) (pv 1) (nomark _)))))) pss_nil)
  (pss_cons (ps_if (PW.pt (pw_and (pt_val (pe_callB call_isi (by rfl) m_isinstance (by decide +kernel) (pa_cons (pv 1) (pa_cons (pe_bltn (v := .ty "tuple") (u := .type "tuple") (by rfl) m_tuple (by decide +kernel) rfl) pa_nil)))) (pw_and1 (pt_not (pt_val (pe_callB call_isi (by rfl) m_isinstance (by decide +kernel) (pa_cons (pv 0) (pa_cons (pe_bltn (v := .ty "tuple") (u := .type "tuple") (by rfl) m_tuple (by decide +kernel) rfl) pa_nil)))))))) (pss_one (ps_ret pe_bl)) pss_nil)
  (pss_cons (ps_if (PW.pt (pw_and (pt_val (pe_callB call_isi (by rfl) m_isinstance (by decide +kernel) (pa_cons (pv 1) (pa_cons (pe_bltn (v := .ty "list") (u := .type "list") (by rfl) m_list (by decide +kernel) rfl) pa_nil)))) (pw_and1 (pt_not (pt_val (pe_callB call_isi (by rfl) m_isinstance (by decide +kernel) (pa_cons (pv 0) (pa_cons (pe_bltn (v := .ty "list") (u := .type "list") (by rfl) m_list (by decide +kernel) rfl) pa_nil)))))))) (pss_one (ps_ret pe_bl)) pss_nil)
  (pss_cons (ps_if (pt_cmpR op_ne (pe_callB call_len_seq (by rfl) m_len (by decide +kernel) (pa_cons (pv 0) pa_nil)) (pe_callB call_len_seq (by rfl) m_len (by decide +kernel) (pa_cons (pv 1) pa_nil)) (nomark _)) (pss_one (ps_ret pe_bl)) pss_nil)
  (pss_cons ps_never (pss_one ps_never)))))))))), ?_⟩
      rcases same_tail (H := H) ex fx with ⟨rfl, rfl⟩ | ⟨b, rfl, rfl⟩ | ⟨i, rfl, rfl⟩ | ⟨z, rfl, rfl⟩
      · exact ⟨_, rfl, rfl, _, rfl, iteT ⟨_, rfl, rfl, q⟩⟩
      · refine ⟨_, rfl, rfl, _, rfl, iteF ⟨_, rfl, _, rfl, _, rfl, ?_⟩⟩
        cases b with
        | true => exact iteT ⟨_, rfl, _, rfl, q⟩
        | false => exact iteF ⟨_, rfl, _, rfl, _, rfl, iteT ⟨_, rfl, _, rfl, q⟩⟩
      · refine ⟨_, rfl, rfl, _, rfl, iteF ⟨_, rfl, _, rfl, _, rfl, iteF ⟨_, rfl, _, rfl, _, rfl, iteF ?_⟩⟩⟩
        refine ⟨_, rfl, _, _, _, _, true, rfl, .ty "int", .base (.int i), rfl, _, rfl, iteT ?_⟩
        refine ⟨_, rfl, i, rfl, _, rfl, iteT ⟨_, rfl, _, rfl, rfl, ?_⟩⟩
        exact bint (congrArg V.bl (decide_eq_true rfl)) q
      · refine ⟨_, rfl, rfl, _, rfl, iteF ⟨_, rfl, _, rfl, _, rfl, iteF ⟨_, rfl, _, rfl, _, rfl, iteF ?_⟩⟩⟩
        refine ⟨_, rfl, _, _, _, _, false, rfl, .ty "int", .base (.str z), rfl, _, rfl, iteF ?_⟩
        refine ⟨_, rfl, _, _, _, _, true, rfl, .ty "str", .base (.str z), rfl, _, rfl, iteT ?_⟩
        refine ⟨_, rfl, _, _, _, _, true, rfl, .ty "str", .base (.str z), rfl, _, rfl, iteT ⟨_, rfl, _, rfl, rfl, ?_⟩⟩
        exact bint (congrArg V.bl (decide_eq_true rfl)) q
  | succ n ih =>
    intro hn
    have d_L_same : Def P w K mg base "_law_same" (n + 2) ["_law_got", "_law_wanted"] (spSame n) := ⟨_, _, ih (by omega), g, F.kp, b⟩
    refine F.ok sc_L_same (fun vs H Q E h => ?_) (fun cdv A outer s H vs Q E hr h => ?_)
    · obtain ⟨x, y, rfl, _⟩ := h
      rfl
    · obtain ⟨x, y, rfl, hE, q⟩ := h
      rcases hE with ⟨ex, fx⟩ | ⟨a, c, xs, ys, rfl, rfl, hk, hl, hz, hi⟩
      · refine ⟨_, (pss_cons (ps_if (pt_cmpR op_isN (pv 1) pe_non (nomark _)) (pss_one (ps_ret (pe_cmpR op_isN (pv 0) pe_non (nomark _)))) pss_nil)
  (pss_cons (ps_if (pt_cmpR op_isT (pv 1) pe_bl (nomark _)) (pss_one (ps_ret (pe_cmpR op_isT (pv 0) pe_bl (nomark _)))) pss_nil)
  (pss_cons (ps_if (pt_cmpR op_isT (pv 1) pe_bl (nomark _)) (pss_one (ps_ret (pe_cmpR op_isT (pv 0) pe_bl (nomark _)))) pss_nil)
  (pss_cons (ps_if (pt_val (pe_callB call_isi (by rfl) m_isinstance (by decide +kernel) (pa_cons (pv 1) (pa_cons (pe_bltn (v := .ty "int") (u := .type "int") (by rfl) m_int (by decide +kernel) rfl) pa_nil)))) (pss_one (ps_ret (pe_and (pe_callD d_L_integer (hr.mono (by omega)) (by rfl) (pa_cons (pv 0) pa_nil)) (pe_one (pe_cmpR op_eq (pv 0) (pv 1) (nomark _)))))) pss_nil)
  (pss_cons (ps_if (pt_val (pe_callB call_isi (by rfl) m_isinstance (by decide +kernel) (pa_cons (pv 1) (pa_cons (pe_bltn (v := .ty "str") (u := .type "str") (by rfl) m_str (by decide +kernel) rfl) pa_nil)))) (pss_one (ps_ret (pe_and (pe_callB call_isi (by rfl) m_isinstance (by decide +kernel) (pa_cons (pv 0) (pa_cons (pe_bltn (v := .ty "str") (u := .type "str") (by rfl) m_str (by decide +kernel) rfl) pa_nil))) (pe_one (pe_cmpR op_eq (pv 0) (pv 1) (nomark _)))))) pss_nil)
  (pss_cons (ps_if (PW.pt (pw_and (pt_val (pe_callB call_isi (by rfl) m_isinstance (by decide +kernel) (pa_cons (pv 1) (pa_cons (pe_bltn (v := .ty "tuple") (u := .type "tuple") (by rfl) m_tuple (by decide +kernel) rfl) pa_nil)))) (pw_and1 (pt_not (pt_val (pe_callB call_isi (by rfl) m_isinstance (by decide +kernel) (pa_cons (pv 0) (pa_cons (pe_bltn (v := .ty "tuple") (u := .type "tuple") (by rfl) m_tuple (by decide +kernel) rfl) pa_nil)))))))) (pss_one (ps_ret pe_bl)) pss_nil)
  (pss_cons (ps_if (PW.pt (pw_and (pt_val (pe_callB call_isi (by rfl) m_isinstance (by decide +kernel) (pa_cons (pv 1) (pa_cons (pe_bltn (v := .ty "list") (u := .type "list") (by rfl) m_list (by decide +kernel) rfl) pa_nil)))) (pw_and1 (pt_not (pt_val (pe_callB call_isi (by rfl) m_isinstance (by decide +kernel) (pa_cons (pv 0) (pa_cons (pe_bltn (v := .ty "list") (u := .type "list") (by rfl) m_list (by decide +kernel) rfl) pa_nil)))))))) (pss_one (ps_ret pe_bl)) pss_nil)
  (pss_cons (ps_if (pt_cmpR op_ne (pe_callB call_len_seq (by rfl) m_len (by decide +kernel) (pa_cons (pv 0) pa_nil)) (pe_callB call_len_seq (by rfl) m_len (by decide +kernel) (pa_cons (pv 1) pa_nil)) (nomark _)) (pss_one (ps_ret pe_bl)) pss_nil)
  (pss_cons ps_never (pss_one ps_never)))))))))), ?_⟩
        rcases same_tail (H := H) ex fx with ⟨rfl, rfl⟩ | ⟨b, rfl, rfl⟩ | ⟨i, rfl, rfl⟩ | ⟨z, rfl, rfl⟩
        · exact ⟨_, rfl, rfl, _, rfl, iteT ⟨_, rfl, rfl, q⟩⟩
        · refine ⟨_, rfl, rfl, _, rfl, iteF ⟨_, rfl, _, rfl, _, rfl, ?_⟩⟩
          cases b with
          | true => exact iteT ⟨_, rfl, _, rfl, q⟩
          | false => exact iteF ⟨_, rfl, _, rfl, _, rfl, iteT ⟨_, rfl, _, rfl, q⟩⟩
        · refine ⟨_, rfl, rfl, _, rfl, iteF ⟨_, rfl, _, rfl, _, rfl, iteF ⟨_, rfl, _, rfl, _, rfl, iteF ?_⟩⟩⟩
          refine ⟨_, rfl, _, _, _, _, true, rfl, .ty "int", .base (.int i), rfl, _, rfl, iteT ?_⟩
          refine ⟨_, rfl, i, rfl, _, rfl, iteT ⟨_, rfl, _, rfl, rfl, ?_⟩⟩
          exact bint (congrArg V.bl (decide_eq_true rfl)) q
        · refine ⟨_, rfl, rfl, _, rfl, iteF ⟨_, rfl, _, rfl, _, rfl, iteF ⟨_, rfl, _, rfl, _, rfl, iteF ?_⟩⟩⟩
          refine ⟨_, rfl, _, _, _, _, false, rfl, .ty "int", .base (.str z), rfl, _, rfl, iteF ?_⟩
          refine ⟨_, rfl, _, _, _, _, true, rfl, .ty "str", .base (.str z), rfl, _, rfl, iteT ?_⟩
          refine ⟨_, rfl, _, _, _, _, true, rfl, .ty "str", .base (.str z), rfl, _, rfl, iteT ⟨_, rfl, _, rfl, rfl, ?_⟩⟩
          exact bint (congrArg V.bl (decide_eq_true rfl)) q
      · have step : ∀ (i : Nat) (hi1 : i < ys.length), ∃ x y, atI xs (0 + (i : Int)) = some x ∧ atI ys (0 + (i : Int)) = some y ∧ Eq2 H n x y := by
          intro i h1
          have h2 : i < xs.length := by omega
          refine ⟨xs[i], ys[i], ?_, ?_, hi i _ _ (List.getElem?_eq_getElem h2) (List.getElem?_eq_getElem h1)⟩
          · exact atI_in (by omega) (by rw [show (0 + (i : Int)).toNat = i by omega]; exact List.getElem?_eq_getElem h2)
          · exact atI_in (by omega) (by rw [show (0 + (i : Int)).toNat = i by omega]; exact List.getElem?_eq_getElem h1)
        rcases hk with ⟨ha, hc⟩ | ⟨ha, hc⟩
        · refine ⟨_, (pss_cons (ps_if (pt_cmpR op_isN (pv 1) pe_non (nomark _)) (pss_one (ps_ret (pe_cmpR op_isN (pv 0) pe_non (nomark _)))) pss_nil)
  (pss_cons (ps_if (pt_cmpR op_isT (pv 1) pe_bl (nomark _)) (pss_one (ps_ret (pe_cmpR op_isT (pv 0) pe_bl (nomark _)))) pss_nil)
  (pss_cons (ps_if (pt_cmpR op_isT (pv 1) pe_bl (nomark _)) (pss_one (ps_ret (pe_cmpR op_isT (pv 0) pe_bl (nomark _)))) pss_nil)
  (pss_cons (ps_if (pt_val (pe_callB call_isi (by rfl) m_isinstance (by decide +kernel) (pa_cons (pv 1) (pa_cons (pe_bltn (v := .ty "int") (u := .type "int") (by rfl) m_int (by decide +kernel) rfl) pa_nil)))) (pss_one (ps_ret (pe_and (pe_callD d_L_integer (hr.mono (by omega)) (by rfl) (pa_cons (pv 0) pa_nil)) (pe_one (pe_cmpR op_eq (pv 0) (pv 1) (nomark _)))))) pss_nil)
  (pss_cons (ps_if (pt_val (pe_callB call_isi (by rfl) m_isinstance (by decide +kernel) (pa_cons (pv 1) (pa_cons (pe_bltn (v := .ty "str") (u := .type "str") (by rfl) m_str (by decide +kernel) rfl) pa_nil)))) (pss_one (ps_ret (pe_and (pe_callB call_isi (by rfl) m_isinstance (by decide +kernel) (pa_cons (pv 0) (pa_cons (pe_bltn (v := .ty "str") (u := .type "str") (by rfl) m_str (by decide +kernel) rfl) pa_nil))) (pe_one (pe_cmpR op_eq (pv 0) (pv 1) (nomark _)))))) pss_nil)
  (pss_cons (ps_if (PW.pt (pw_and (pt_val (pe_callB call_isi (by rfl) m_isinstance (by decide +kernel) (pa_cons (pv 1) (pa_cons (pe_bltn (v := .ty "tuple") (u := .type "tuple") (by rfl) m_tuple (by decide +kernel) rfl) pa_nil)))) (pw_and1 (pt_not (pt_val (pe_callB call_isi (by rfl) m_isinstance (by decide +kernel) (pa_cons (pv 0) (pa_cons (pe_bltn (v := .ty "tuple") (u := .type "tuple") (by rfl) m_tuple (by decide +kernel) rfl) pa_nil)))))))) (pss_one (ps_ret pe_bl)) pss_nil)
  (pss_cons (ps_if (PW.pt (pw_and (pt_val (pe_callB call_isi (by rfl) m_isinstance (by decide +kernel) (pa_cons (pv 1) (pa_cons (pe_bltn (v := .ty "list") (u := .type "list") (by rfl) m_list (by decide +kernel) rfl) pa_nil)))) (pw_and1 (pt_not (pt_val (pe_callB call_isi (by rfl) m_isinstance (by decide +kernel) (pa_cons (pv 0) (pa_cons (pe_bltn (v := .ty "list") (u := .type "list") (by rfl) m_list (by decide +kernel) rfl) pa_nil)))))))) (pss_one (ps_ret pe_bl)) pss_nil)
  (pss_cons (ps_if (pt_cmpR op_ne (pe_callB call_len_seq (by rfl) m_len (by decide +kernel) (pa_cons (pv 0) pa_nil)) (pe_callB call_len_seq (by rfl) m_len (by decide +kernel) (pa_cons (pv 1) pa_nil)) (nomark _)) (pss_one (ps_ret pe_bl)) pss_nil)
  (pss_cons (ps_for PassesOwn.never rfl (pi_range1 (by rfl) m_range (pa_cons (pe_callB call_len_seq (by rfl) m_len (by decide +kernel) (pa_cons (pv 1) pa_nil)) pa_nil)) (pg_name (i := 2) sc_L_same.nd rfl (.inl rfl))
    (pss_one (ps_if (pt_not (pt_val (pe_callD d_L_same (hr.mono (by omega)) (by rfl) (pa_cons (pe_ix ix_list (pv 0) (pv 2) (fun _ _ => rfl)) (pa_cons (pe_ix ix_list (pv 1) (pv 2) (fun _ _ => rfl)) pa_nil))))) (pss_one (ps_ret pe_bl)) pss_nil)))
  (pss_one (ps_ret pe_bl))))))))))), ?_⟩
          refine ⟨_, rfl, rfl, _, rfl, iteF ⟨_, rfl, _, rfl, _, rfl, iteF ⟨_, rfl, _, rfl, _, rfl, iteF ?_⟩⟩⟩
          refine ⟨_, rfl, _, _, _, _, false, rfl, .ty "int", .base (.lst hc), rfl, _, rfl, iteF ?_⟩
          refine ⟨_, rfl, _, _, _, _, false, rfl, .ty "str", .base (.lst hc), rfl, _, rfl, iteF ?_⟩
          refine ⟨_, rfl, _, _, _, _, false, rfl, .ty "tuple", .base (.lst hc), rfl, _, rfl, iteF (iteF ?_)⟩
          refine ⟨_, rfl, _, _, _, _, true, rfl, .ty "list", .base (.lst hc), rfl, _, rfl, iteT ⟨_, rfl, _, _, _, _, true, rfl, .ty "list", .base (.lst ha), rfl, _, rfl, iteF ?_⟩⟩
          refine ⟨_, rfl, _, _, rfl, .inl (lstAt ha), _, rfl, _, _, rfl, .inl (lstAt hc), rfl, _, rfl, ?_⟩
          refine iteNS (congrArg (fun k : Nat => V.int (k : Int)) hl) ?_
          refine ⟨_, rfl, _, _, rfl, .inl (lstAt hc), _, rfl, by omega, by omega, for_range (fun i σ H' => H' = H ∧ ∃ y : Option V, σ = [some (.ref a), some (.ref c), y]) ⟨rfl, _, rfl⟩ ?_ ?_⟩
          · rintro i σ H' hlt ⟨rfl, y, rfl⟩
            obtain ⟨x1, y1, e1, e2, e3⟩ := step i (by omega)
            refine ⟨_, rfl, _, rfl, _, _, _, _, rfl, rfl, lstAt ha, e1, _, rfl, _, rfl, _, _, _, _, rfl, rfl, lstAt hc, e2, x1, y1, rfl, e3, _, rfl, iteF ⟨rfl, _, rfl⟩⟩
          · rintro σ H' ⟨rfl, y, rfl⟩
            exact q
        · refine ⟨_, (pss_cons (ps_if (pt_cmpR op_isN (pv 1) pe_non (nomark _)) (pss_one (ps_ret (pe_cmpR op_isN (pv 0) pe_non (nomark _)))) pss_nil)
  (pss_cons (ps_if (pt_cmpR op_isT (pv 1) pe_bl (nomark _)) (pss_one (ps_ret (pe_cmpR op_isT (pv 0) pe_bl (nomark _)))) pss_nil)
  (pss_cons (ps_if (pt_cmpR op_isT (pv 1) pe_bl (nomark _)) (pss_one (ps_ret (pe_cmpR op_isT (pv 0) pe_bl (nomark _)))) pss_nil)
  (pss_cons (ps_if (pt_val (pe_callB call_isi (by rfl) m_isinstance (by decide +kernel) (pa_cons (pv 1) (pa_cons (pe_bltn (v := .ty "int") (u := .type "int") (by rfl) m_int (by decide +kernel) rfl) pa_nil)))) (pss_one (ps_ret (pe_and (pe_callD d_L_integer (hr.mono (by omega)) (by rfl) (pa_cons (pv 0) pa_nil)) (pe_one (pe_cmpR op_eq (pv 0) (pv 1) (nomark _)))))) pss_nil)
  (pss_cons (ps_if (pt_val (pe_callB call_isi (by rfl) m_isinstance (by decide +kernel) (pa_cons (pv 1) (pa_cons (pe_bltn (v := .ty "str") (u := .type "str") (by rfl) m_str (by decide +kernel) rfl) pa_nil)))) (pss_one (ps_ret (pe_and (pe_callB call_isi (by rfl) m_isinstance (by decide +kernel) (pa_cons (pv 0) (pa_cons (pe_bltn (v := .ty "str") (u := .type "str") (by rfl) m_str (by decide +kernel) rfl) pa_nil))) (pe_one (pe_cmpR op_eq (pv 0) (pv 1) (nomark _)))))) pss_nil)
  (pss_cons (ps_if (PW.pt (pw_and (pt_val (pe_callB call_isi (by rfl) m_isinstance (by decide +kernel) (pa_cons (pv 1) (pa_cons (pe_bltn (v := .ty "tuple") (u := .type "tuple") (by rfl) m_tuple (by decide +kernel) rfl) pa_nil)))) (pw_and1 (pt_not (pt_val (pe_callB call_isi (by rfl) m_isinstance (by decide +kernel) (pa_cons (pv 0) (pa_cons (pe_bltn (v := .ty "tuple") (u := .type "tuple") (by rfl) m_tuple (by decide +kernel) rfl) pa_nil)))))))) (pss_one (ps_ret pe_bl)) pss_nil)
  (pss_cons (ps_if (PW.pt (pw_and (pt_val (pe_callB call_isi (by rfl) m_isinstance (by decide +kernel) (pa_cons (pv 1) (pa_cons (pe_bltn (v := .ty "list") (u := .type "list") (by rfl) m_list (by decide +kernel) rfl) pa_nil)))) (pw_and1 (pt_not (pt_val (pe_callB call_isi (by rfl) m_isinstance (by decide +kernel) (pa_cons (pv 0) (pa_cons (pe_bltn (v := .ty "list") (u := .type "list") (by rfl) m_list (by decide +kernel) rfl) pa_nil)))))))) (pss_one (ps_ret pe_bl)) pss_nil)
  (pss_cons (ps_if (pt_cmpR op_ne (pe_callB call_len_seq (by rfl) m_len (by decide +kernel) (pa_cons (pv 0) pa_nil)) (pe_callB call_len_seq (by rfl) m_len (by decide +kernel) (pa_cons (pv 1) pa_nil)) (nomark _)) (pss_one (ps_ret pe_bl)) pss_nil)
  (pss_cons (ps_for PassesOwn.never rfl (pi_range1 (by rfl) m_range (pa_cons (pe_callB call_len_seq (by rfl) m_len (by decide +kernel) (pa_cons (pv 1) pa_nil)) pa_nil)) (pg_name (i := 2) sc_L_same.nd rfl (.inl rfl))
    (pss_one (ps_if (pt_not (pt_val (pe_callD d_L_same (hr.mono (by omega)) (by rfl) (pa_cons (pe_ix ix_tup (pv 0) (pv 2) (fun _ _ => rfl)) (pa_cons (pe_ix ix_tup (pv 1) (pv 2) (fun _ _ => rfl)) pa_nil))))) (pss_one (ps_ret pe_bl)) pss_nil)))
  (pss_one (ps_ret pe_bl))))))))))), ?_⟩
          refine ⟨_, rfl, rfl, _, rfl, iteF ⟨_, rfl, _, rfl, _, rfl, iteF ⟨_, rfl, _, rfl, _, rfl, iteF ?_⟩⟩⟩
          refine ⟨_, rfl, _, _, _, _, false, rfl, .ty "int", hc.ty, rfl, _, rfl, iteF ?_⟩
          refine ⟨_, rfl, _, _, _, _, false, rfl, .ty "str", hc.ty, rfl, _, rfl, iteF ?_⟩
          refine ⟨_, rfl, _, _, _, _, true, rfl, .ty "tuple", hc.ty, rfl, _, rfl, iteT ⟨_, rfl, _, _, _, _, true, rfl, .ty "tuple", ha.ty, rfl, _, rfl, iteF ?_⟩⟩
          refine ⟨_, rfl, _, _, _, _, false, rfl, .ty "list", hc.ty, rfl, _, rfl, iteF (iteF ?_)⟩
          refine ⟨_, rfl, _, _, rfl, .inr (ha.sq), _, rfl, _, _, rfl, .inr (hc.sq), rfl, _, rfl, ?_⟩
          refine iteNS (congrArg (fun k : Nat => V.int (k : Int)) hl) ?_
          refine ⟨_, rfl, _, _, rfl, .inr (hc.sq), _, rfl, by omega, by omega, for_range (fun i σ H' => H' = H ∧ ∃ y : Option V, σ = [some (.ref a), some (.ref c), y]) ⟨rfl, _, rfl⟩ ?_ ?_⟩
          · rintro i σ H' hlt ⟨rfl, y, rfl⟩
            obtain ⟨x1, y1, e1, e2, e3⟩ := step i (by omega)
            refine ⟨_, rfl, _, rfl, _, _, _, _, rfl, rfl, ha.sq, e1, _, rfl, _, rfl, _, _, _, _, rfl, rfl, hc.sq, e2, x1, y1, rfl, e3, _, rfl, iteF ⟨rfl, _, rfl⟩⟩
          · rintro σ H' ⟨rfl, y, rfl⟩
            exact q
end
end TK

namespace TK
open PySem PySem.Spec PyProof.Rows L2
theorem eqv_nm {a b : List Nat} : eqV (vN a) (vN b) = decide (a = b) := by
  show (sOf a == sOf b) = _
  by_cases h : a = b
  · subst h; simp
  · rw [decide_eq_false h]
    exact beq_eq_false_iff_ne.mpr fun z => h (sOf_inj z)
theorem nms_flat (zs : List (List Nat)) : (zs.map vN).all flatV = true := by
  rw [List.all_eq_true]
  intro x hx
  obtain ⟨c, _, rfl⟩ := List.mem_map.mp hx
  rfl
theorem inV_nm {z : List Nat} {zs : List (List Nat)} : inV (vN z) (zs.map vN) = decide (z ∈ zs) := by
  unfold inV
  rw [List.any_map]
  by_cases h : z ∈ zs
  · rw [decide_eq_true h]
    exact List.any_eq_true.mpr ⟨z, h, by show eqV (vN z) (vN z) = true; rw [eqv_nm]; exact decide_eq_true rfl⟩
  · rw [decide_eq_false h]
    exact List.any_eq_false.mpr fun x hx => by
      show ¬ eqV (vN x) (vN z) = true
      rw [eqv_nm]
      intro e
      have := of_decide_eq_true e
      subst this
      exact h hx
theorem in_nm {z : List Nat} {zs : List (List Nat)} : (if false = true then !inV (vN z) (zs.map vN) else inV (vN z) (zs.map vN)) = decide (z ∈ zs) := by
  rw [if_neg (by decide), inV_nm]
theorem notin_nm {z : List Nat} {zs : List (List Nat)} : (if true = true then !inV (vN z) (zs.map vN) else inV (vN z) (zs.map vN)) = !decide (z ∈ zs) := by
  rw [if_pos rfl, inV_nm]
theorem eq_nm {a b : List Nat} : decide (vN a = vN b) = decide (a = b) := by
  by_cases h : a = b
  · subst h; simp
  · rw [decide_eq_false h]
    exact decide_eq_false fun z => h (sOf_inj (V.str.inj z))
theorem vN_at {zs : List (List Nat)} {i : Nat} {x : V} (h : (zs.map vN)[i]? = some x) : ∃ z, zs[i]? = some z ∧ x = vN z := by
  rw [List.getElem?_map] at h
  cases e : zs[i]? with
  | none => rw [e] at h; cases h
  | some z => rw [e] at h; exact ⟨z, rfl, (Option.some.inj h).symm⟩
theorem int_at {zs : List Int} {i : Nat} {x : V} (h : (zs.map V.int)[i]? = some x) : ∃ z, zs[i]? = some z ∧ x = .int z := by
  rw [List.getElem?_map] at h
  cases e : zs[i]? with
  | none => rw [e] at h; cases h
  | some z => rw [e] at h; exact ⟨z, rfl, (Option.some.inj h).symm⟩
section
variable {X : Cx} {K : PySem.W.Frag}
theorem mt_tup_indexK (h : X.K = K) : MtR X "tuple.index" (fun x xs H Q => ∃ p, ∃ ys : List Str, ∃ z j, x = .ref p ∧ xs = [.str z] ∧ SqT K H p (ys.map V.str) ∧ ys[j]? = some z ∧ (∀ m, m < j → ys[m]? ≠ some z) ∧ Q (.int (j : Nat)) H) := h ▸ L2.mt_tup_index
end
theorem vN_strs (zs : List (List Nat)) : zs.map vN = (zs.map sOf).map V.str := by rw [List.map_map]; rfl
theorem idx_first {zs : List (List Nat)} {z : List Nat} (h : z ∈ zs) (nd : zs.Nodup) : ∃ j : Nat, zs[j]? = some z ∧ (∀ m, m < j → zs[m]? ≠ some z) := by
  obtain ⟨j, hj⟩ := List.getElem?_of_mem h
  refine ⟨j, hj, fun m hm e => ?_⟩
  have hjl := (List.getElem?_eq_some_iff.mp hj).1
  have := (List.getElem?_inj hjl nd).mp (hj.trans e.symm)
  omega
theorem str_first {zs : List (List Nat)} {z : List Nat} {j : Nat} (h : zs[j]? = some z) (f : ∀ m, m < j → zs[m]? ≠ some z) : (zs.map sOf)[j]? = some (sOf z) ∧ ∀ m, m < j → (zs.map sOf)[m]? ≠ some (sOf z) := by
  refine ⟨by rw [List.getElem?_map, h]; rfl, fun m hm e => f m hm ?_⟩
  rw [List.getElem?_map] at e
  cases e1 : zs[m]? with
  | none => rw [e1] at e; cases e
  | some y => rw [e1] at e; exact congrArg some (sOf_inj (Option.some.inj e))
theorem take_map_succ {α β : Type} (f : α → β) {xs : List α} {i : Nat} {x : α} (h : xs[i]? = some x) : (xs.map f).take (i + 1) = (xs.map f).take i ++ [f x] := by
  rw [List.take_add_one, List.getElem?_map, h]; rfl
theorem take_all {α : Type} {xs : List α} {n : Nat} (h : xs.length = n) : xs.take n = xs := by rw [← h, List.take_length]
end TK

namespace TK
open PySem PySem.Spec PyProof.Rows L2
def SqS (K : PySem.W.Frag) (H : Hp) (a : Addr) (xs : List V) : Prop := SqL K H a xs ∨ SqT K H a xs
theorem SqS.same {K : PySem.W.Frag} {H H' : Hp} {a : Addr} {xs : List V} (h : SqS K H a xs) (s : Same H H') : SqS K H' a xs := by
  rcases h with h | h
  · exact .inl (s.seq h)
  · exact .inr (same_tup s h)
def spRange : Sp := fun vs H Q _ => ∃ a lo hi : Int, vs = [.int a, .int lo, .int hi] ∧ lo ≤ a ∧ a ≤ hi ∧ Q .non H
theorem cut_names (ws : List (List Nat)) (i : Nat) : cutV (ws.map vN) none (some ((i : Nat) : Int)) = (ws.take i).map vN := by
  unfold cutV
  rw [HT.sIx_none, HT.sIx_nat, List.drop_zero, Nat.sub_zero, List.map_take]
  by_cases h : i ≤ (ws.map vN).length
  · rw [Nat.min_eq_left h]
  · rw [Nat.min_eq_right (by omega), List.take_length, List.take_of_length_le (by omega)]
theorem not_before {zs : List (List Nat)} {i : Nat} {z : List Nat} (nd : zs.Nodup) (h : zs[i]? = some z) : z ∉ zs.take i := by
  intro m
  obtain ⟨j, hj⟩ := List.getElem?_of_mem m
  rw [List.getElem?_take] at hj
  split at hj
  · rename_i hji
    have hl := (List.getElem?_eq_some_iff.mp hj).1
    have := (List.getElem?_inj hl nd).mp (hj.trans h.symm)
    omega
  · cases hj
def capV : Option Int → V
  | none => .non
  | some x => .int x
section
variable {P : Program} {w : World} {K : PySem.W.Frag} {mg : Str → Option Value} {base : Heap}
theorem ok_check_size {f : Addr} {fd : FuncData} (F : Fun K "check_size" "check_size" s_check_size f fd) : FnOk P w K mg base CX0 1 f fd ["size", "low", "high"] spRange := by
  refine F.ok sc_check_size (fun vs H Q E h => ?_) (fun cdv A outer s H vs Q E hr h => ?_)
  · obtain ⟨a, lo, hi, rfl, _⟩ := h
    rfl
  · obtain ⟨a, lo, hi, rfl, h1, h2, q⟩ := h
    refine ⟨_, (pss_one (ps_if (pt_not (pt_chain op_le op_le (pv 1) (pv 0) (pv 2))) (pss_one ps_never) pss_nil)), ?_⟩
    refine ⟨_, rfl, _, rfl, _, _, rfl, rfl, _, rfl, ?_⟩
    rw [decide_eq_true h1]
    refine iteT ⟨_, rfl, _, _, rfl, rfl, _, rfl, ?_⟩
    rw [decide_eq_true h2]
    exact iteF q
theorem ok_check_range {f : Addr} {fd : FuncData} (F : Fun K "check_range" "check_range" s_check_range f fd) : FnOk P w K mg base CX0 1 f fd ["number", "low", "high"] spRange := by
  refine F.ok sc_check_range (fun vs H Q E h => ?_) (fun cdv A outer s H vs Q E hr h => ?_)
  · obtain ⟨a, lo, hi, rfl, _⟩ := h
    rfl
  · obtain ⟨a, lo, hi, rfl, h1, h2, q⟩ := h
    refine ⟨_, (pss_one (ps_if (pt_not (pt_chain op_le op_le (pv 1) (pv 0) (pv 2))) (pss_one ps_never) pss_nil)), ?_⟩
    refine ⟨_, rfl, _, rfl, _, _, rfl, rfl, _, rfl, ?_⟩
    rw [decide_eq_true h1]
    refine iteT ⟨_, rfl, _, _, rfl, rfl, _, rfl, ?_⟩
    rw [decide_eq_true h2]
    exact iteF q
/-! is_name, of a name -/
def spIsName : Sp := fun vs H Q _ => ∃ l : List Nat, vs = [vN l] ∧ Nm l ∧ ∀ H', Same H H' → Q (.bl true) H'
theorem all_true {n : Nat} : (List.replicate n true).all id = true := by
  induction n with
  | zero => rfl
  | succ n ih => rw [List.replicate_succ, List.all_cons, ih]; rfl
theorem ok_is_name {f : Addr} {fd : FuncData} (F : Fun K "is_name" "is_name" s_is_name f fd) (m_len : mg "len" = none) (m_all : mg "all" = none) {tk : Tok} (g_LETTERS : mg "LETTERS" = some (.str lettersZ tk)) : FnOk P w K mg base CX0 1 f fd ["word"] spIsName := by
  refine F.ok sc_is_name (fun vs H Q E h => ?_) (fun cdv A outer s H vs Q E hr h => ?_)
  · obtain ⟨l, rfl, _⟩ := h
    rfl
  · obtain ⟨l, rfl, ⟨h1, h2, h3⟩, q⟩ := h
    refine ⟨_, (pss_one (ps_ret (pe_and (pe_chain op_le op_le pe_int (pe_callB call_len_str (by rfl) m_len (by decide +kernel) (pa_cons (pv 0) pa_nil)) pe_int) (pe_one (pe_callB (cr_all rfl) (by rfl) m_all (by decide +kernel) (pa_cons (pe_lc (own := [("sign", 1)]) (by rfl) sc_is_name.nd (pi_str (pv 0)) (blkOk_by (N := ["word", "sign"]) (sc := defScope s_is_name) (by decide +kernel)) (fun _ _ _ _ _ => (pg_name (i := 1) sc_is_name.nd rfl (.inl rfl))) (fun _ _ _ _ _ => pts_nil) (fun _ _ _ _ _ => (pe_cmpR op_in_sign (pv 1) (pe_glob (v := .str lettersZ) (by rfl) g_LETTERS ⟨_, rfl⟩) (by rfl)))) pa_nil)))))), ?_⟩
    refine ⟨_, rfl, _, rfl, small_len (by omega), _, _, rfl, rfl, _, rfl, ?_⟩
    rw [decide_eq_true (show (1 : Int) ≤ ((sOf l).length : Nat) by rw [sOf_len]; omega)]
    refine iteT ⟨_, _, rfl, rfl, _, rfl, ?_⟩
    rw [decide_eq_true (show (((sOf l).length : Nat) : Int) ≤ 8 by rw [sOf_len]; omega)]
    refine iteT ⟨_, rfl, _, rfl, fun D nD => ?_⟩
    refine lc_it walk_str (fun i H' => H' = upd H D (.lst ((List.replicate i true).map V.bl))) rfl (fun _ _ _ _ => True.intro) (fun i x H1 H2 hi hp hy => ?_) (fun H' hp => ?_)
    · subst hp
      obtain ⟨rfl, c, hc, rfl⟩ := hy
      have hcl : c ∈ l := by
        have : (sOf l).cps.toList[i]? = some c := by rw [Array.getElem?_toList]; exact hc
        exact List.mem_of_getElem? this
      have hin : c ∈ lettersZ.cps.toList := by
        rw [letters_codes]
        have := h3 c hcl
        exact List.mem_map.mpr ⟨c - 97, List.mem_range.mpr (by omega), by omega⟩
      have hil : i < l.length := by
        have : (sOf l).cps.size = l.length := sOf_len l
        omega
      refine ⟨rfl, yesT ⟨_, rfl, _, _, rfl, rfl, _, upd_same, ?_, ?_⟩⟩
      · rw [List.length_map, List.length_replicate]; exact small1000 (by omega)
      · rw [upd_twice, decide_eq_true hin, List.replicate_succ', List.map_append]
        rfl
    · subst hp
      refine ⟨_, _, rfl, lstAt upd_same, ?_⟩
      rw [all_true]
      exact q _ (same_upd nD)
/-! check_names, without the hook -/
def spCheckN (K : PySem.W.Frag) : Sp := fun vs H Q _ => ∃ (a : Addr) (m : Int) (zs : List (List Nat)), vs = [.ref a, .int m, .bl false] ∧ SqL K H a (zs.map vN) ∧ 1 ≤ zs.length ∧ (zs.length : Int) ≤ m ∧ zs.length ≤ 6 ∧ (∀ z ∈ zs, Nm z) ∧ zs.Nodup ∧ ∀ H', Same H H' → Q .non H'
theorem ok_check_names {f : Addr} {fd : FuncData} {dvs : List V} {kws : List (Str × V)} (F : FunD K "check_names" "check_names" (defArgs s_check_names) (defBody s_check_names) (defScope s_check_names) dvs kws f fd) (m_len : mg "len" = none) (m_enumerate : mg "enumerate" = none)
    (d_check_size : Def P w K mg base "check_size" 1 ["size", "low", "high"] spRange) (d_is_name : Def P w K mg base "is_name" 1 ["word"] spIsName) : FnOk P w K mg base CX0 2 f fd ["names", "most", "hook"] (spCheckN K) := by
  refine F.ok (CX := CX0) sc_check_names (fun vs H Q E h => ?_) (fun cdv A outer s H vs Q E hr h => ?_)
  · obtain ⟨a, m, zs, rfl, _⟩ := h
    rfl
  · obtain ⟨a, m, zs, rfl, hS, l1, l2, l6, nm, nd, q⟩ := h
    refine ⟨_, PSs.nox (pss_cons (ps_expr (pe_callD d_check_size (hr.mono (by decide)) (by rfl) (pa_cons (pe_callB call_len_seq (by rfl) m_len (by decide +kernel) (pa_cons (pv 0) pa_nil)) (pa_cons pe_int (pa_cons (pv 1) pa_nil)))))
  (pss_one (ps_for PassesOwn.never rfl (pi_enum (by rfl) m_enumerate (pa_cons (pv 0) pa_nil)) (pg_tup (by rfl) (pgs_cons (pg_name (i := 3) sc_check_names.nd rfl (.inl rfl)) (pgs_cons (pg_name (i := 4) sc_check_names.nd rfl (.inl rfl)) pgs_nil)))
    (pss_cons (ps_if (PW.pt (pw_and (pt_not (pt_val (pe_callD d_is_name (hr.mono (by decide)) (by rfl) (pa_cons (pv 4) pa_nil)))) (pw_and1 (pt_not (PW.pt (pw_and (pt_val (pv 2)) (pw_and1 (pt_cmpR op_eq (pv 4) pe_str (nomark _))))))))) (pss_one ps_never) pss_nil)
  (pss_one (ps_if (pt_cmpR op_in_seq (pv 4) (pe_slice sl_list (pv 0) po_none (po_some (pv 3))) (by rfl)) (pss_one ps_never) pss_nil)))))), ?_⟩
    refine ⟨_, rfl, _, _, rfl, .inl hS, _, rfl, _, _, _, rfl, by rw [List.length_map]; omega, by rw [List.length_map]; omega, ?_⟩
    refine ⟨_, rfl, _, _, rfl, hS, for_it walk_enum (fun i σ H2 => Same H H2 ∧ ∃ y1 y2 : Option V, σ = [some (.ref a), some (.int m), some (.bl false), y1, y2]) ⟨Same.refl H, _, _, rfl⟩ (fun i σ H2 _ hp => hp.1.seq hS) ?_ ?_⟩
    · rintro i x σ H2 H3 hi ⟨sm, y1, y2, rfl⟩ ⟨T, v1, v2, rfl, nT, rfl, e1, e2⟩
      cases e1
      obtain ⟨z, ez, rfl⟩ := vN_at e2
      have sT : Same H2 (upd H2 T (.tup [.int (i : Nat), vN z])) := same_upd nT
      have sm3 := sm.trans sT
      refine ⟨_, _, rfl, tupAt upd_same, rfl, _, _, rfl, _, _, rfl, rfl, ?_⟩
      refine ⟨_, rfl, z, rfl, nm z (List.mem_of_getElem? ez), fun H4 s4 => ⟨_, rfl, iteF (iteF ?_)⟩⟩
      have sm4 := sm3.trans s4
      refine ⟨_, rfl, _, rfl, _, rfl, _, rfl, _, _, rfl, sm4.seq hS, fun p np => ?_⟩
      rw [cut_names]
      have sp := same_upd (o := .lst ((zs.take i).map vN)) np
      refine ⟨p, _, rfl, .inl (lstAt upd_same), rfl, nms_flat _, _, rfl, ?_⟩
      rw [in_nm, decide_eq_false (not_before nd ez)]
      exact iteF ⟨sm4.trans sp, _, _, rfl⟩
    · rintro σ H2 ⟨sm, y1, y2, rfl⟩
      exact q _ sm
/-! check_known -/
def spKnown (K : PySem.W.Frag) : Sp := fun vs H Q _ => ∃ (a b : Addr) (zs ks : List (List Nat)), vs = [.ref a, .ref b] ∧ SqS K H a (zs.map vN) ∧ SqS K H b (ks.map vN) ∧ (∀ z ∈ zs, z ∈ ks) ∧ Q .non H
theorem ok_check_known {f : Addr} {fd : FuncData} (F : Fun K "check_known" "check_known" s_check_known f fd) : FnOk P w K mg base CX0 1 f fd ["names", "known"] (spKnown K) := by
  refine F.ok sc_check_known (fun vs H Q E h => ?_) (fun cdv A outer s H vs Q E hr h => ?_)
  · obtain ⟨a, b, zs, ks, rfl, _⟩ := h
    rfl
  · obtain ⟨a, b, zs, ks, rfl, hA, hB, sub, q⟩ := h
    refine ⟨_, (pss_one (ps_for PassesOwn.never rfl (pi_or (pi_list (pv 0)) (pi_tup (pv 0))) (pg_name (i := 2) sc_check_known.nd rfl (.inl rfl))
    (pss_one (ps_if (pt_cmpR op_notIn_seq (pv 2) (pv 1) (by rfl)) (pss_one ps_never) pss_nil)))), ?_⟩
    have one : ∀ (i : Nat) (x : V) (σ : L2.St) (H2 : Hp), (zs.map vN)[i]? = some x → ∃ z, z ∈ ks ∧ x = vN z := fun i x σ H2 hx => by
      obtain ⟨z, ez, rfl⟩ := vN_at hx
      exact ⟨z, sub z (List.mem_of_getElem? ez), rfl⟩
    rcases hA with hA | hA
    · refine .inl ⟨_, rfl, a, rfl, ⟨_, hA⟩, for_list (K := K) (a := a) (xs := zs.map vN) (fun i σ H2 => H2 = H ∧ ∃ y : Option V, σ = [some (.ref a), some (.ref b), y]) ⟨rfl, _, rfl⟩ (fun i σ H2 _ hp => by rw [hp.1]; exact hA) ?_ ?_⟩
      · rintro i x σ H2 hx ⟨rfl, y, rfl⟩
        obtain ⟨z, hz, rfl⟩ := one i x [] H2 hx
        refine ⟨_, rfl, _, rfl, b, _, rfl, hB, rfl, nms_flat _, _, rfl, ?_⟩
        rw [notin_nm, decide_eq_true hz]
        exact iteF ⟨rfl, _, rfl⟩
      · rintro σ H2 ⟨rfl, y, rfl⟩
        exact q
    · refine .inr ⟨_, rfl, a, rfl, ⟨_, hA⟩, for_tup (K := K) (a := a) (xs := zs.map vN) (fun i σ H2 => H2 = H ∧ ∃ y : Option V, σ = [some (.ref a), some (.ref b), y]) ⟨rfl, _, rfl⟩ (fun i σ H2 _ hp => by rw [hp.1]; exact hA) ?_ ?_⟩
      · rintro i x σ H2 hx ⟨rfl, y, rfl⟩
        obtain ⟨z, hz, rfl⟩ := one i x [] H2 hx
        refine ⟨_, rfl, _, rfl, b, _, rfl, hB, rfl, nms_flat _, _, rfl, ?_⟩
        rw [notin_nm, decide_eq_true hz]
        exact iteF ⟨rfl, _, rfl⟩
      · rintro σ H2 ⟨rfl, y, rfl⟩
        exact q
/-! prices: plus, least -/
def plusO : Option Int → Int → Option Int
  | none, _ => none
  | some a, c => some (a + c)
def minO : Option Int → Option Int → Option Int
  | none, b => b
  | some a, none => some a
  | some a, some b => some (if b < a then b else a)
def spPlus : Sp := fun vs H Q _ => ∃ (a : Option Int) (c : Int), vs = [capV a, .int c] ∧ Q (capV (plusO a c)) H
theorem ok_plus {f : Addr} {fd : FuncData} (F : Fun K "plus" "plus" s_plus f fd) : FnOk P w K mg base CX0 1 f fd ["price", "other"] spPlus := by
  refine F.ok sc_plus (fun vs H Q E h => ?_) (fun cdv A outer s H vs Q E hr h => ?_)
  · obtain ⟨a, c, rfl, _⟩ := h
    rfl
  · obtain ⟨a, c, rfl, q⟩ := h
    refine ⟨_, (pss_cons (ps_if (PW.pt (pw_or (pt_cmpR op_isN (pv 0) pe_non (nomark _)) (pw_or1 (pt_cmpR op_isN (pv 1) pe_non (nomark _))))) (pss_one (ps_ret pe_non)) pss_nil)
  (pss_one (ps_ret (pe_op op_add (pv 0) (pv 1))))), ?_⟩
    cases a with
    | none => exact ⟨_, rfl, rfl, _, rfl, iteT q⟩
    | some a => exact ⟨_, rfl, rfl, _, rfl, iteF ⟨_, rfl, rfl, _, rfl, iteF ⟨_, rfl, _, rfl, _, _, rfl, rfl, q⟩⟩⟩
def spLeast (K : PySem.W.Frag) : Sp := fun vs H Q _ => ∃ (p : Addr) (a b : Option Int), vs = [.ref p] ∧ SqL K H p [capV a, capV b] ∧ ∀ H', Same H H' → Q (capV (minO a b)) H'
def ints2 (a b : Option Int) : List Int := a.toList ++ b.toList
theorem ok_least {f : Addr} {fd : FuncData} (F : Fun K "least" "least" s_least f fd) (m_min : mg "min" = none) : FnOk P w K mg base CX0 1 f fd ["prices"] (spLeast K) := by
  refine F.ok sc_least (fun vs H Q E h => ?_) (fun cdv A outer s H vs Q E hr h => ?_)
  · obtain ⟨p, a, b, rfl, _⟩ := h
    rfl
  · obtain ⟨p, a, b, rfl, hp, q⟩ := h
    refine ⟨_, (pss_one (ps_ret (pe_callBK (cr_minDef rfl hr.units) (by rfl) m_min (by decide +kernel) (pa_cons (pe_lc (own := [("price", 1)]) (by rfl) sc_least.nd (pi_list (pv 0)) (blkOk_by (N := ["prices", "price"]) (sc := defScope s_least) (by decide +kernel)) (fun _ _ _ _ _ => (pg_name (i := 1) sc_least.nd rfl (.inl rfl))) (fun _ _ _ _ _ => (pts_one (pt_cmpR op_notN (pv 1) pe_non (nomark _)))) (fun _ _ _ _ _ => (pv 1))) pa_nil) (pk_cons pe_non pk_nil)))), ?_⟩
    refine ⟨_, rfl, p, rfl, ⟨_, hp⟩, fun D nD => ?_⟩
    let part : Nat → List Int := fun i => match i with | 0 => [] | 1 => a.toList | _ => ints2 a b
    have pl : ∀ i, (part i).length ≤ 2 := fun i => by
      match i with
      | 0 => exact Nat.zero_le _
      | 1 => show a.toList.length ≤ 2; cases a <;> simp
      | i + 2 => show (a.toList ++ b.toList).length ≤ 2; cases a <;> cases b <;> simp
    refine lc_list (K := K) (a := p) (xs := [capV a, capV b]) (fun i H' => H' = upd H D (.lst ((part i).map V.int))) rfl (fun i H' _ e => e ▸ (same_upd nD).seq hp) (fun i x H' hx hq => ?_) (fun H' hq => ?_)
    · subst hq
      have hz : ((part i).map V.int).length < sizeLine := by rw [List.length_map]; exact small1000 (by have := pl i; omega)
      match i, hx with
      | 0, hx =>
        cases Option.some.inj hx
        cases a with
        | none => exact ⟨rfl, _, rfl, rfl, _, rfl, iteF rfl⟩
        | some v => exact ⟨rfl, _, rfl, rfl, _, rfl, iteT ⟨_, rfl, _, upd_same, hz, by rw [upd_twice]; rfl⟩⟩
      | 1, hx =>
        cases Option.some.inj hx
        cases b with
        | none =>
          refine ⟨rfl, _, rfl, rfl, _, rfl, iteF ?_⟩
          show upd H D (.lst (a.toList.map V.int)) = upd H D (.lst ((a.toList ++ ([] : List Int)).map V.int))
          rw [List.append_nil]
        | some v =>
          refine ⟨rfl, _, rfl, rfl, _, rfl, iteT ⟨_, rfl, _, upd_same, hz, ?_⟩⟩
          show upd _ D _ = upd H D (.lst ((a.toList ++ [v]).map V.int))
          rw [upd_twice, List.map_append]; rfl
      | i + 2, hx => simp at hx
    · subst hq
      have sD := same_upd (o := .lst ((ints2 a b).map V.int)) nD
      refine ⟨D, ints2 a b, .non, rfl, rfl, lstAt upd_same, fun e => ?_, fun m hm hle => ?_⟩
      · have e1 : a = none ∧ b = none := by
          cases a <;> cases b <;> simp [ints2] at e ⊢
        obtain ⟨rfl, rfl⟩ := e1
        exact q _ sD
      · have e1 : minO a b = some m := by
          cases a with
          | none =>
            cases b with
            | none => cases hm
            | some v => show some v = some m; rw [List.mem_singleton.mp hm]
          | some u =>
            cases b with
            | none => show some u = some m; rw [List.mem_singleton.mp hm]
            | some v =>
              have hu := hle u (by simp [ints2])
              have hv := hle v (by simp [ints2])
              show some (if v < u then v else u) = some m
              have hm : m = u ∨ m = v := by simpa [ints2] using hm
              congr 1
              split <;> omega
        have := q _ sD
        rw [e1] at this
        exact this
end
end TK

namespace TK
open PySem PySem.Spec PyProof.Rows L2
abbrev Nam := List Nat
abbrev Tie := Nam × Nam × Int
def leO (a b : Option Int) : Prop := ∀ v, b = some v → ∃ u, a = some u ∧ u ≤ v
theorem leO_refl (a : Option Int) : leO a a := fun v h => ⟨v, h, Int.le_refl _⟩
theorem leO_trans {a b c : Option Int} (h : leO a b) (k : leO b c) : leO a c := fun v e => by
  obtain ⟨u, e1, l1⟩ := k v e
  obtain ⟨t, e2, l2⟩ := h u e1
  exact ⟨t, e2, by omega⟩
theorem minO_left (a b : Option Int) : leO (minO a b) a := fun v e => by
  subst e
  cases b with
  | none => exact ⟨v, rfl, Int.le_refl _⟩
  | some b => exact ⟨_, rfl, by split <;> omega⟩
theorem minO_right (a b : Option Int) : leO (minO a b) b := fun v e => by
  subst e
  cases a with
  | none => exact ⟨v, rfl, Int.le_refl _⟩
  | some a => exact ⟨_, rfl, by split <;> omega⟩
theorem minO_or (a b : Option Int) : minO a b = a ∨ minO a b = b := by
  cases a with
  | none => exact .inr rfl
  | some a =>
    cases b with
    | none => exact .inl rfl
    | some b =>
      by_cases h : b < a
      · exact .inr (by show some (if b < a then b else a) = _; rw [if_pos h])
      · exact .inl (by show some (if b < a then b else a) = _; rw [if_neg h])
theorem plusO_mono {a b : Option Int} (h : leO a b) (c : Int) : leO (plusO a c) (plusO b c) := fun v e => by
  cases b with
  | none => cases e
  | some b =>
    obtain ⟨u, rfl, l⟩ := h b rfl
    cases e
    exact ⟨_, rfl, by omega⟩
/-! paths without a name twice -/
inductive SP (ks : List Nam) (ts : List Tie) : List Nam → Nam → Int → Prop
  | head {z : Nam} : z ∈ ks → SP ks ts [z] z 0
  | step {p : List Nam} {y z : Nam} {u c : Int} : SP ks ts p y u → (y, z, c) ∈ ts → z ∉ p → SP ks ts (z :: p) z (u + c)
section
variable {ks : List Nam} {ts : List Tie}
theorem SP.nn {p : List Nam} {z : Nam} {v : Int} (h : SP ks ts p z v) (h0 : ∀ t ∈ ts, 0 ≤ t.2.2) : 0 ≤ v := by
  induction h with
  | head _ => exact Int.le_refl _
  | step _ m _ ih => have := h0 _ m; dsimp only at this; omega
theorem SP.pre {p : List Nam} {z w : Nam} {v : Int} (h : SP ks ts p z v) (h0 : ∀ t ∈ ts, 0 ≤ t.2.2) (hw : w ∈ p) : ∃ p' v', SP ks ts p' w v' ∧ v' ≤ v := by
  induction h with
  | head hz =>
    rw [List.mem_singleton.mp hw]
    exact ⟨_, _, .head hz, Int.le_refl _⟩
  | step hp m hn ih =>
    rcases List.mem_cons.mp hw with rfl | hw
    · exact ⟨_, _, .step hp m hn, Int.le_refl _⟩
    · obtain ⟨p', v', a, b⟩ := ih hw
      have := h0 _ m
      dsimp only at this
      exact ⟨p', v', a, by omega⟩
theorem SP.nd {p : List Nam} {z : Nam} {v : Int} (h : SP ks ts p z v) : p.Nodup := by
  induction h with
  | head _ => exact List.nodup_cons.mpr ⟨by simp, List.nodup_nil⟩
  | step _ _ hn ih => exact List.nodup_cons.mpr ⟨hn, ih⟩
theorem SP.sub {p : List Nam} {z : Nam} {v : Int} {zs : List Nam} (h : SP ks ts p z v) (hk : ∀ k ∈ ks, k ∈ zs) (ht : ∀ t ∈ ts, t.2.1 ∈ zs) : ∀ w ∈ p, w ∈ zs := by
  induction h with
  | head hz => intro w hw; rw [List.mem_singleton.mp hw]; exact hk _ hz
  | step _ m _ ih =>
    intro w hw
    rcases List.mem_cons.mp hw with rfl | hw
    · exact ht _ m
    · exact ih w hw
theorem SP.ne {p : List Nam} {z : Nam} {v : Int} (h : SP ks ts p z v) : 1 ≤ p.length := by
  cases h <;> simp
end
theorem nd_len {p zs : List Nam} (h : p.Nodup) (s : ∀ w ∈ p, w ∈ zs) : p.length ≤ zs.length := by
  induction p generalizing zs with
  | nil => exact Nat.zero_le _
  | cons a p ih =>
    have ha := s a List.mem_cons_self
    obtain ⟨n1, n2⟩ := List.nodup_cons.mp h
    have := ih (zs := zs.erase a) n2 fun w hw => (List.mem_erase_of_ne (fun e => n1 (by rw [← e]; exact hw))).mpr (s w (List.mem_cons_of_mem _ hw))
    rw [List.length_erase_of_mem ha] at this
    have hp : 0 < zs.length := List.length_pos_of_mem ha
    simp only [List.length_cons]
    omega
/-! sweeps -/
def relax (pr : Nam → Option Int) (t : Tie) : Nam → Option Int := fun z => if z = t.2.1 then minO (pr t.2.1) (plusO (pr t.1) t.2.2) else pr z
def sweep (ts : List Tie) (pr : Nam → Option Int) : Nam → Option Int := ts.foldl relax pr
def prS (ks : List Nam) : Nam → Option Int := fun z => if z ∈ ks then some 0 else none
def prN (ks : List Nam) (ts : List Tie) : Nat → Nam → Option Int
  | 0 => prS ks
  | k + 1 => sweep ts (prN ks ts k)
theorem relax_le (pr : Nam → Option Int) (t : Tie) (z : Nam) : leO (relax pr t z) (pr z) := by
  unfold relax
  split
  · rename_i h; rw [h]; exact minO_left _ _
  · exact leO_refl _
theorem fold_le (ts : List Tie) (pr : Nam → Option Int) (z : Nam) : leO (ts.foldl relax pr z) (pr z) := by
  induction ts generalizing pr with
  | nil => exact leO_refl _
  | cons t ts ih => exact leO_trans (ih _) (relax_le pr t z)
theorem fold_tie (ts : List Tie) (pr : Nam → Option Int) {t : Tie} (h : t ∈ ts) : leO (ts.foldl relax pr t.2.1) (plusO (pr t.1) t.2.2) := by
  induction ts generalizing pr with
  | nil => cases h
  | cons a ts ih =>
    rcases List.mem_cons.mp h with rfl | h
    · refine leO_trans (fold_le ts _ _) ?_
      unfold relax
      rw [if_pos rfl]
      exact minO_right _ _
    · exact leO_trans (ih _ h) (plusO_mono (relax_le pr a _) _)
def Sound (ks : List Nam) (ts : List Tie) (pr : Nam → Option Int) : Prop := ∀ z v, pr z = some v → ∃ p u, SP ks ts p z u ∧ u ≤ v
theorem sound_relax {ks : List Nam} {ts : List Tie} {pr : Nam → Option Int} (h0 : ∀ t ∈ ts, 0 ≤ t.2.2) (h : Sound ks ts pr) {t : Tie} (m : t ∈ ts) : Sound ks ts (relax pr t) := by
  intro z v e
  obtain ⟨y, b, c⟩ := t
  have hc : 0 ≤ c := h0 _ m
  unfold relax at e
  split at e
  · rename_i hz
    replace hz : z = b := hz
    subst hz
    replace e : minO (pr z) (plusO (pr y) c) = some v := e
    rcases minO_or (pr z) (plusO (pr y) c) with q | q
    · exact h _ _ (q ▸ e)
    · rw [q] at e
      cases ey : pr y with
      | none => rw [ey] at e; cases e
      | some u =>
        rw [ey] at e
        have e := Option.some.inj e
        obtain ⟨p, u', hp, l⟩ := h _ _ ey
        by_cases hz : z ∈ p
        · obtain ⟨p', v', a, b⟩ := hp.pre h0 hz
          exact ⟨p', v', a, by omega⟩
        · exact ⟨_, _, .step hp m hz, by omega⟩
  · exact h _ _ e
theorem sound_fold {ks : List Nam} {ts : List Tie} (h0 : ∀ t ∈ ts, 0 ≤ t.2.2) (as : List Tie) (ha : ∀ t ∈ as, t ∈ ts) : ∀ pr : Nam → Option Int, Sound ks ts pr → Sound ks ts (as.foldl relax pr) := by
  induction as with
  | nil => exact fun pr h => h
  | cons a as ih => exact fun pr h => ih (fun t m => ha t (List.mem_cons_of_mem _ m)) _ (sound_relax h0 h (ha a List.mem_cons_self))
section
variable {ks : List Nam} {ts : List Tie}
theorem prN_sound (h0 : ∀ t ∈ ts, 0 ≤ t.2.2) : ∀ k, Sound ks ts (prN ks ts k)
  | 0 => fun z v e => by
    unfold prN prS at e
    split at e
    · rename_i h
      cases e
      exact ⟨_, _, .head h, Int.le_refl _⟩
    · cases e
  | k + 1 => sound_fold h0 ts (fun _ m => m) _ (prN_sound h0 k)
theorem prN_le (k : Nat) (z : Nam) : leO (prN ks ts (k + 1) z) (prN ks ts k z) := fold_le _ _ _
theorem prN_prog {p : List Nam} {z : Nam} {v : Int} (h : SP ks ts p z v) : ∀ k, p.length ≤ k + 1 → leO (prN ks ts k z) (some v) := by
  induction h with
  | head hz =>
    intro k hk
    induction k with
    | zero =>
      unfold prN prS
      rw [if_pos hz]
      exact leO_refl _
    | succ k ih => exact leO_trans (prN_le k _) (ih (by simp))
  | step hp m hn ih =>
    intro k hk
    have hne := hp.ne
    match k with
    | 0 => simp only [List.length_cons] at hk; omega
    | k + 1 => exact leO_trans (fold_tie ts (prN ks ts k) m) (plusO_mono (ih k (by simp only [List.length_cons] at hk; omega)) _)
theorem prN_mono {z : Nam} {j k : Nat} (h : j ≤ k) : leO (prN ks ts k z) (prN ks ts j z) := by
  induction k with
  | zero => cases Nat.le_zero.mp h; exact leO_refl _
  | succ k ih =>
    rcases Nat.lt_or_ge k j with q | q
    · cases Nat.le_antisymm h q
      exact leO_refl _
    · exact leO_trans (prN_le k z) (ih q)
end
/-- what the law's ties and givers keep -/
structure TOk (zs ks : List Nam) (ts : List Tie) : Prop where
  nd : zs.Nodup
  hk : ∀ k ∈ ks, k ∈ zs
  a : ∀ t ∈ ts, t.1 ∈ zs
  b : ∀ t ∈ ts, t.2.1 ∈ zs
  h0 : ∀ t ∈ ts, 0 ≤ t.2.2
/-- the program's prices -/
def pot (zs ks : List Nam) (ts : List Tie) : Nam → Option Int := prN ks ts zs.length
section
variable {zs ks : List Nam} {ts : List Tie}
theorem pot_path (T : TOk zs ks ts) {p : List Nam} {z : Nam} {v : Int} (h : SP ks ts p z v) : leO (pot zs ks ts z) (some v) :=
  prN_prog h _ (by have := nd_len h.nd (h.sub T.hk T.b); omega)
theorem pot_nn (T : TOk zs ks ts) {z : Nam} {v : Int} (e : pot zs ks ts z = some v) : 0 ≤ v := by
  obtain ⟨p, u, hp, l⟩ := prN_sound T.h0 _ z v e
  have := hp.nn T.h0
  omega
theorem pot_head (T : TOk zs ks ts) {z : Nam} (h : z ∈ ks) : pot zs ks ts z = some 0 := by
  obtain ⟨u, e, l⟩ := pot_path T (.head h) 0 rfl
  have := pot_nn T e
  rw [e, show u = 0 by omega]
theorem pot_tie (T : TOk zs ks ts) {t : Tie} (m : t ∈ ts) : leO (pot zs ks ts t.2.1) (plusO (pot zs ks ts t.1) t.2.2) := by
  intro v e
  obtain ⟨y, z, c⟩ := t
  have hc : 0 ≤ c := T.h0 _ m
  replace e : plusO (pot zs ks ts y) c = some v := e
  show ∃ u, pot zs ks ts z = some u ∧ u ≤ v
  cases ey : pot zs ks ts y with
  | none => rw [ey] at e; cases e
  | some u =>
    rw [ey] at e
    have e := Option.some.inj e
    obtain ⟨p, u', hp, l⟩ := prN_sound T.h0 _ _ _ ey
    by_cases hz : z ∈ p
    · obtain ⟨p', v', a, b⟩ := hp.pre T.h0 hz
      obtain ⟨x, e, l'⟩ := pot_path T a _ rfl
      exact ⟨x, e, by omega⟩
    · obtain ⟨x, e, l'⟩ := pot_path T (SP.step hp m hz) _ rfl
      exact ⟨x, e, by omega⟩
/-! the law's own reaching -/
def reach1 (pr : Nam → Option Int) (R : List Nam) (t : Tie) : List Nam := if t.1 ∈ R ∧ t.2.1 ∉ R ∧ pr t.2.1 = plusO (pr t.1) t.2.2 then R ++ [t.2.1] else R
def reachT (ts : List Tie) (pr : Nam → Option Int) (R : List Nam) : List Nam := ts.foldl (reach1 pr) R
def reachN (zs ks : List Nam) (ts : List Tie) (pr : Nam → Option Int) : Nat → List Nam
  | 0 => zs.filter fun z => decide (z ∈ ks)
  | k + 1 => reachT ts pr (reachN zs ks ts pr k)
theorem reach1_sub {pr : Nam → Option Int} {R : List Nam} {t : Tie} {z : Nam} (h : z ∈ R) : z ∈ reach1 pr R t := by
  unfold reach1
  split
  · exact List.mem_append_left _ h
  · exact h
theorem reachF_sub {pr : Nam → Option Int} (as : List Tie) : ∀ {R : List Nam} {z : Nam}, z ∈ R → z ∈ as.foldl (reach1 pr) R := by
  induction as with
  | nil => exact fun h => h
  | cons a as ih => exact fun h => ih (reach1_sub h)
theorem reachF_tie {pr : Nam → Option Int} (as : List Tie) : ∀ {R : List Nam} {t : Tie}, t ∈ as → t.1 ∈ R → pr t.2.1 = plusO (pr t.1) t.2.2 → t.2.1 ∈ as.foldl (reach1 pr) R := by
  induction as with
  | nil => intro R t h; cases h
  | cons a as ih =>
    intro R t h h1 h2
    rcases List.mem_cons.mp h with rfl | h
    · refine reachF_sub as ?_
      unfold reach1
      by_cases q : t.2.1 ∈ R
      · exact reach1_sub (t := t) (pr := pr) q
      · rw [if_pos ⟨h1, q, h2⟩]
        exact List.mem_append_right _ (List.mem_singleton.mpr rfl)
    · exact ih h (reach1_sub h1) h2
/-- all that are reached have a price -/
def Priced (pr : Nam → Option Int) (R : List Nam) : Prop := ∀ z ∈ R, ∃ v, pr z = some v
theorem priced1 {pr : Nam → Option Int} {R : List Nam} {t : Tie} (h : Priced pr R) : Priced pr (reach1 pr R t) := by
  unfold reach1
  split
  · rename_i q
    intro z m
    rcases List.mem_append.mp m with m | m
    · exact h z m
    · rw [List.mem_singleton.mp m, q.2.2]
      obtain ⟨v, e⟩ := h _ q.1
      rw [e]
      exact ⟨_, rfl⟩
  · exact h
theorem pricedF {pr : Nam → Option Int} (as : List Tie) : ∀ {R : List Nam}, Priced pr R → Priced pr (as.foldl (reach1 pr) R) := by
  induction as with
  | nil => exact fun h => h
  | cons a as ih => exact fun h => ih (priced1 h)
theorem pricedN (T : TOk zs ks ts) : ∀ k, Priced (pot zs ks ts) (reachN zs ks ts (pot zs ks ts) k)
  | 0 => fun z m => by
    have := (List.mem_filter.mp m).2
    exact ⟨0, pot_head T (of_decide_eq_true this)⟩
  | k + 1 => pricedF ts (pricedN T k)
theorem sub1 {pr : Nam → Option Int} {R : List Nam} {t : Tie} (h : ∀ z ∈ R, z ∈ zs) (ht : t.2.1 ∈ zs) : ∀ z ∈ reach1 pr R t, z ∈ zs := by
  unfold reach1
  split
  · intro z m
    rcases List.mem_append.mp m with m | m
    · exact h z m
    · rw [List.mem_singleton.mp m]; exact ht
  · exact h
theorem nd1 {pr : Nam → Option Int} {R : List Nam} {t : Tie} (h : R.Nodup) : (reach1 pr R t).Nodup := by
  unfold reach1
  split
  · rename_i q
    exact List.nodup_append.mpr ⟨h, by simp, fun a ha b hb => by rw [List.mem_singleton.mp hb]; exact fun e => q.2.1 (e ▸ ha)⟩
  · exact h
theorem reachN_le {j k : Nat} (h : j ≤ k) {pr : Nam → Option Int} {z : Nam} (m : z ∈ reachN zs ks ts pr j) : z ∈ reachN zs ks ts pr k := by
  induction k with
  | zero => cases Nat.le_zero.mp h; exact m
  | succ k ih =>
    rcases Nat.lt_or_ge k j with q | q
    · cases Nat.le_antisymm h q
      exact m
    · exact reachF_sub ts (ih q)
theorem tight_path (T : TOk zs ks ts) {p : List Nam} {z : Nam} {v : Int} (h : SP ks ts p z v) : pot zs ks ts z = some v → z ∈ reachN zs ks ts (pot zs ks ts) (p.length - 1) := by
  induction h with
  | head hz =>
    intro _
    exact List.mem_filter.mpr ⟨T.hk _ hz, decide_eq_true hz⟩
  | @step p y z u c hp m hn ih =>
    intro e
    obtain ⟨x, ex, lx⟩ := pot_path T hp u rfl
    obtain ⟨w, ew, lw⟩ := pot_tie T m (x + c) (by show plusO (pot zs ks ts y) c = _; rw [ex]; rfl)
    rw [show pot zs ks ts z = some w from ew] at e
    have e := Option.some.inj e
    have hx : x = u := by omega
    subst hx
    have hy := ih ex
    have hne := hp.ne
    rw [show (z :: p).length - 1 = (p.length - 1) + 1 by simp only [List.length_cons]; omega]
    refine reachF_tie ts m hy ?_
    show pot zs ks ts z = plusO (pot zs ks ts y) c
    rw [show pot zs ks ts z = some w from ew, ex, e]
    rfl
theorem reach_all (T : TOk zs ks ts) (z : Nam) : z ∈ reachN zs ks ts (pot zs ks ts) zs.length ↔ pot zs ks ts z ≠ none := by
  constructor
  · intro m
    obtain ⟨v, e⟩ := pricedN T _ z m
    rw [e]
    exact fun h => nomatch h
  · intro h
    cases e : pot zs ks ts z with
    | none => exact absurd e h
    | some v =>
      obtain ⟨p, u, hp, l⟩ := prN_sound T.h0 _ z v e
      obtain ⟨x, ex, lx⟩ := pot_path T hp u rfl
      rw [e] at ex
      have ex := Option.some.inj ex
      have hu : u = v := by omega
      subst hu
      have := nd_len hp.nd (hp.sub T.hk T.b)
      exact reachN_le (by omega) (tight_path T hp e)
end
end TK

namespace TK
open PySem PySem.Spec PyProof.Rows L2
/-! a def with defaults, as callers see it -/
structure DefD (P : Program) (w : World) (K : PySem.W.Frag) (mg : Str → Option Value) (base : Heap) (x : Str) (k : Nat) (ps : List Str) (sp : Sp) (dvs : List V) : Prop where
  ex : ∃ (f : Addr) (fd : FuncData) (ds : List Value), FnOk P w K mg base CX0 k f fd ps sp ∧ mg x = some (.ref f) ∧ PySem.W.keepIn K (.ref f) = true ∧ Binds K fd ps ds ∧ Vals dvs ds
section
variable {X : Cx} {x : Str} {k : Nat} {ps : List Str} {sp : Sp} {dvs : List V} {e : Expr} {es : List Expr} {t : TA} {p pos : Pos}
theorem pe_callDD (D : DefD X.prog X.w X.K X.mg X.base x k ps sp dvs) (hr : Room k X.A) (hg : Gl X x) (ha : PA X (e :: es) t) (hdb : (x == ("__debug__" : Str)) = false := by decide)
    (he : starEach (e :: es) X.env = (false, eval e X.env) :: starEach es X.env := by rfl) (hpl : (backTo pos (starEach es X.env)).any (·.1) = false := by rfl) :
    PE X (.Call (.Name x p) (e :: es) [] pos) (tCall sp dvs E0 t) := by
  obtain ⟨f, fd, ds, F, g, kp, b, r⟩ := D.ex
  exact pe_call F hr hg g kp b r pass0 ha hdb he hpl
end
abbrev s_Links_init : Stmt := inClass (topS 29) 0
theorem sc_Links_init : FnScope ["self", "names", "links", "giver", "taker", "toll"] ["self", "names", "links"] (defScope s_Links_init) := ⟨rfl, rfl, rfl, by decide +kernel, rfl, by decide +kernel, by decide +kernel⟩
abbrev s_Links_iter : Stmt := inClass (topS 29) 2
theorem sc_Links_iter : FnScope ["self"] ["self"] (defScope s_Links_iter) := ⟨rfl, rfl, rfl, by decide +kernel, rfl, by decide +kernel, by decide +kernel⟩
/-! ties -/
def TieAt (H : Hp) (e : Addr) (t : Tie) : Prop := H e = some (.tup [vN t.1, vN t.2.1, .int t.2.2])
def TiesAt (H : Hp) (es : List Addr) (ts : List Tie) : Prop := es.length = ts.length ∧ ∀ (i : Nat) (e : Addr), es[i]? = some e → ∃ t, ts[i]? = some t ∧ TieAt H e t
theorem TiesAt.same {H H' : Hp} {es : List Addr} {ts : List Tie} (h : TiesAt H es ts) (s : Same H H') : TiesAt H' es ts := ⟨h.1, fun i e he => by
  obtain ⟨t, a, b⟩ := h.2 i e he
  exact ⟨t, a, s _ _ b⟩⟩
theorem ties_at {H : Hp} {es : List Addr} {ts : List Tie} (h : TiesAt H es ts) {i : Nat} {x : V} (hx : (es.map V.ref)[i]? = some x) : ∃ e t, x = .ref e ∧ es[i]? = some e ∧ ts[i]? = some t ∧ TieAt H e t := by
  rw [List.getElem?_map] at hx
  cases e : es[i]? with
  | none => rw [e] at hx; cases hx
  | some a =>
    rw [e] at hx
    obtain ⟨t, h1, h2⟩ := h.2 i a e
    exact ⟨a, t, (Option.some.inj hx).symm, rfl, h1, h2⟩
theorem TiesAt.snoc {H H' : Hp} {es : List Addr} {ts : List Tie} {e : Addr} {t : Tie} (h : TiesAt H es ts) (s : Same H H') (k : TieAt H' e t) : TiesAt H' (es ++ [e]) (ts ++ [t]) := by
  refine ⟨by rw [List.length_append, List.length_append, h.1]; rfl, fun i x hx => ?_⟩
  by_cases hi : i < es.length
  · rw [List.getElem?_append_left hi] at hx
    obtain ⟨t', h1, h2⟩ := h.2 i x hx
    exact ⟨t', by rw [List.getElem?_append_left (by rw [← h.1]; exact hi)]; exact h1, s _ _ h2⟩
  · rw [List.getElem?_append_right (by omega)] at hx
    have hi2 : i - es.length = 0 := by
      have := (List.getElem?_eq_some_iff.mp hx).1
      simp at this
      omega
    rw [hi2] at hx
    cases Option.some.inj hx
    exact ⟨t, by rw [List.getElem?_append_right (by rw [← h.1]; omega), ← h.1, hi2]; rfl, k⟩
/-- what right links keep -/
structure LOk (zs : List Nam) (ts : List Tie) : Prop where
  nm : ∀ z ∈ zs, Nm z
  nd : zs.Nodup
  l1 : 1 ≤ zs.length
  l6 : zs.length ≤ 6
  t12 : ts.length ≤ 12
  a : ∀ t ∈ ts, t.1 ∈ zs
  b : ∀ t ∈ ts, t.2.1 ∈ zs
  ne : ∀ t ∈ ts, t.1 ≠ t.2.1
  h0 : ∀ t ∈ ts, 0 ≤ t.2.2
  h9 : ∀ t ∈ ts, t.2.2 ≤ 1000000000
theorem LOk.tok {zs ks : List Nam} {ts : List Tie} (h : LOk zs ts) (hk : ∀ k ∈ ks, k ∈ zs) : TOk zs ks ts := ⟨h.nd, hk, h.a, h.b, h.h0⟩
theorem mem_at {α : Type} {xs : List α} {i : Nat} {x : α} (h : xs[i]? = some x) : x ∈ xs := List.mem_of_getElem? h
/-! the object -/
def fldsL (a b : Addr) : List (Str × V) := putF "links" (.ref b) (putF "names" (.ref a) [])
theorem fldsL_names (a b : Addr) : (fldsL a b).lookup ("names" : Str) = some (.ref a) := by
  unfold fldsL
  rw [lookup_putF, if_neg (by decide +kernel), lookup_putF, if_pos rfl]
theorem fldsL_links (a b : Addr) : (fldsL a b).lookup ("links" : Str) = some (.ref b) := by
  unfold fldsL
  rw [lookup_putF, if_pos rfl]
theorem putF_len (f : Str) (v : V) : ∀ fs : List (Str × V), (putF f v fs).length ≤ fs.length + 1
  | [] => Nat.le_refl _
  | (g, x) :: r => by
    show (if g = f then _ else _ : List (Str × V)).length ≤ _
    split
    · exact Nat.le_succ _
    · exact Nat.succ_le_succ (putF_len f v r)
structure TxtL (K : PySem.W.Frag) (C : Addr) : Prop where
  cl : Cls K C
  nN : NoAttr K C "names"
  nL : NoAttr K C "links"
def LkAt (C : Addr) (H : Hp) (p : Addr) (zs : List Nam) (es : List Addr) (ts : List Tie) : Prop := ∃ dx a b o, H p = some (.ins C dx (fldsL a b)) ∧ H a = some (.frz o (.tup (zs.map vN))) ∧ o.cls = .type "tuple" ∧ o.dict = none ∧ H b = some (.tup (es.map V.ref)) ∧ TiesAt H es ts
theorem LkAt.same {C : Addr} {H H' : Hp} {p : Addr} {zs : List Nam} {es : List Addr} {ts : List Tie} (h : LkAt C H p zs es ts) (s : Same H H') : LkAt C H' p zs es ts := by
  obtain ⟨dx, a, b, o, h1, h2, h3, h4, h5, h6⟩ := h
  exact ⟨dx, a, b, o, s _ _ h1, s _ _ h2, h3, h4, s _ _ h5, h6.same s⟩
section
variable {P : Program} {w : World} {K : PySem.W.Frag} {mg : Str → Option Value} {base : Heap}
/-! _check_links -/
def spCheckL (K : PySem.W.Frag) : Sp := fun vs H Q _ => ∃ (a b : Addr) (zs : List Nam) (es : List Addr) (ts : List Tie), vs = [.ref a, .ref b] ∧ SqL K H a (zs.map vN) ∧ SqL K H b (es.map V.ref) ∧ TiesAt H es ts ∧ LOk zs ts ∧ ∀ H', Same H H' → Q .non H'
theorem ok_check_links {f : Addr} {fd : FuncData} {t1 t2 : Tok} (F : Fun K "_check_links" "_check_links" s_check_links f fd) (m_len : mg "len" = none) (g_MOST_LINKS : mg "MOST_LINKS" = some (.int 12 t1)) (g_MOST_TOLL : mg "MOST_TOLL" = some (.int 1000000000 t2))
    (d_check_size : Def P w K mg base "check_size" 1 ["size", "low", "high"] spRange) (d_check_range : Def P w K mg base "check_range" 1 ["number", "low", "high"] spRange) (d_check_known : Def P w K mg base "check_known" 1 ["names", "known"] (spKnown K)) :
    FnOk P w K mg base CX0 2 f fd ["names", "links"] (spCheckL K) := by
  refine F.ok sc_check_links (fun vs H Q E h => ?_) (fun cdv A outer s H vs Q E hr h => ?_)
  · obtain ⟨a, b, zs, es, ts, rfl, _⟩ := h
    rfl
  · obtain ⟨a, b, zs, es, ts, rfl, hA, hB, hT, ok, q⟩ := h
    have el : (es.map V.ref).length = ts.length := by rw [List.length_map, hT.1]
    have t12 := ok.t12
    refine ⟨_, (pss_cons (ps_expr (pe_callD d_check_size (hr.mono (by decide)) (by rfl) (pa_cons (pe_callB call_len_seq (by rfl) m_len (by decide +kernel) (pa_cons (pv 1) pa_nil)) (pa_cons pe_int (pa_cons (pe_glob (v := .int 12) (by rfl) g_MOST_LINKS ⟨_, rfl⟩) pa_nil)))))
  (pss_one (ps_for PassesOwn.never rfl (pi_list (pv 1)) (pg_tup (by rfl) (pgs_cons (pg_name (i := 2) sc_check_links.nd rfl (.inl rfl)) (pgs_cons (pg_name (i := 3) sc_check_links.nd rfl (.inl rfl)) (pgs_cons (pg_name (i := 4) sc_check_links.nd rfl (.inl rfl)) pgs_nil))))
    (pss_cons (ps_expr (pe_callD d_check_known (hr.mono (by decide)) (by rfl) (pa_cons (pe_lst (pa_cons (pv 2) (pa_cons (pv 3) pa_nil))) (pa_cons (pv 0) pa_nil))))
  (pss_cons (ps_if (pt_cmpR op_eq (pv 2) (pv 3) (nomark _)) (pss_one ps_never) pss_nil)
  (pss_one (ps_expr (pe_callD d_check_range (hr.mono (by decide)) (by rfl) (pa_cons (pv 4) (pa_cons pe_int (pa_cons (pe_glob (v := .int 1000000000) (by rfl) g_MOST_TOLL ⟨_, rfl⟩) pa_nil))))))))))), ?_⟩
    refine ⟨_, rfl, _, _, rfl, .inl hB, _, _, _, rfl, by omega, by rw [el]; omega, ?_⟩
    refine ⟨_, rfl, b, rfl, ⟨_, hB⟩, for_list (K := K) (a := b) (xs := es.map V.ref) (fun i σ H2 => Same H H2 ∧ ∃ y1 y2 y3 : Option V, σ = [some (.ref a), some (.ref b), y1, y2, y3]) ⟨Same.refl H, _, _, _, rfl⟩ (fun i σ H2 _ hp => hp.1.seq hB) ?_ ?_⟩
    · rintro i x σ H2 hx ⟨sm, y1, y2, y3, rfl⟩
      obtain ⟨e, t, rfl, _, et, ht⟩ := ties_at hT hx
      have tm := mem_at et
      have ht2 := sm _ _ ht
      refine ⟨_, _, rfl, tupAt ht2, rfl, _, _, rfl, _, _, rfl, _, _, rfl, rfl, ?_⟩
      refine ⟨_, rfl, _, rfl, (show (2 : Nat) ≤ sizeLine by decide), fun p np => ?_⟩
      have sp := same_upd (o := .lst [vN t.1, vN t.2.1]) np
      refine ⟨_, rfl, p, a, [t.1, t.2.1], zs, rfl, .inl (lstAt upd_same), .inl ((sm.trans sp).seq hA), ?_, ?_⟩
      · intro z hz
        rcases List.mem_cons.mp hz with rfl | hz
        · exact ok.a _ tm
        · rw [List.mem_singleton.mp hz]; exact ok.b _ tm
      refine ⟨_, rfl, _, rfl, rfl, _, rfl, ?_⟩
      rw [eq_nm, decide_eq_false (ok.ne _ tm)]
      refine iteF ⟨_, rfl, _, _, _, rfl, ok.h0 _ tm, ok.h9 _ tm, sm.trans sp, _, _, _, rfl⟩
    · rintro σ H2 ⟨sm, y1, y2, y3, rfl⟩
      exact q _ sm
/-! Links.__init__ -/
def spInitL (K : PySem.W.Frag) (C : Addr) : Sp := fun vs H Q _ => ∃ (p a b dx : Addr) (zs : List Nam) (es : List Addr) (ts : List Tie), vs = [.ref p, .ref a, .ref b] ∧ H p = some (.ins C dx []) ∧ H a = some (.lst (zs.map vN)) ∧ H b = some (.lst (es.map V.ref)) ∧ TiesAt H es ts ∧ LOk zs ts ∧
  ∀ H' es', LkAt C H' p zs es' ts → (∀ c o, H c = some o → c ≠ p → H' c = some o) → Q .non H'
theorem ok_Links {f C : Addr} {fd : FuncData} {dvs : List V} {kws : List (Str × V)} (F : FunD K "__init__" "Links.__init__" (defArgs s_Links_init) (defBody s_Links_init) (defScope s_Links_init) dvs kws f fd) (T : TxtL K C) (m_tuple : mg "tuple" = none)
    (d_check_names : DefD P w K mg base "check_names" 2 ["names", "most", "hook"] (spCheckN K) [.bl false]) (d_check_links : Def P w K mg base "_check_links" 2 ["names", "links"] (spCheckL K)) :
    FnOk P w K mg base CX0 3 f fd ["self", "names", "links"] (spInitL K C) := by
  refine F.ok (CX := CX0) sc_Links_init (fun vs H Q E h => ?_) (fun cdv A outer s H vs Q E hr h => ?_)
  · obtain ⟨p, a, b, dx, zs, es, ts, rfl, _⟩ := h
    rfl
  · obtain ⟨p, a, b, dx, zs, es, ts, rfl, hp, hA, hB, hT, ok, q⟩ := h
    have el : (es.map V.ref).length = ts.length := by rw [List.length_map, hT.1]
    have t12 := ok.t12
    refine ⟨_, PSs.nox (pss_cons (ps_expr (pe_callDD d_check_names (hr.mono (by decide)) (by rfl) (pa_cons (pv 1) (pa_cons pe_int pa_nil))))
  (pss_cons (ps_expr (pe_callD d_check_links (hr.mono (by decide)) (by rfl) (pa_cons (pv 1) (pa_cons (pv 2) pa_nil))))
  (pss_cons (ps_fld (pv 0) (pe_callTy call_tuple_frz (by rfl) m_tuple (by decide +kernel) (pa_cons (pv 1) pa_nil)) rfl)
  (pss_one (ps_fld (pv 0) (pe_callTy call_tuple_of (by rfl) m_tuple (by decide +kernel) (pa_cons (pe_lc (own := [("giver", 3), ("taker", 4), ("toll", 5)]) (by rfl) sc_Links_init.nd (pi_list (pv 2)) (blkOk_by (N := ["self", "names", "links", "giver", "taker", "toll"]) (sc := defScope s_Links_init) (by decide +kernel)) (fun _ _ _ _ _ => (pg_tupK (K := K) (n := 3) rfl (by rfl) (pgs_cons (pg_name (i := 3) sc_Links_init.nd rfl (.inl rfl)) (pgs_cons (pg_name (i := 4) sc_Links_init.nd rfl (.inl rfl)) (pgs_cons (pg_name (i := 5) sc_Links_init.nd rfl (.inl rfl)) pgs_nil))))) (fun _ _ _ _ _ => pts_nil) (fun _ _ _ _ _ => (pe_tup (pa_cons (pv 3) (pa_cons (pv 4) (pa_cons (pv 5) pa_nil)))))) pa_nil)) rfl))))), ?_⟩
    refine ⟨_, rfl, a, 6, zs, rfl, lstAt hA, ok.l1, by have := ok.l6; omega, ok.l6, ok.nm, ok.nd, fun H1 s1 => ?_⟩
    refine ⟨_, rfl, _, rfl, a, b, zs, es, ts, rfl, lstAt (s1 _ _ hA), lstAt (s1 _ _ hB), hT.same s1, ok, fun H2 s2 => ?_⟩
    have s12 := s1.trans s2
    refine ⟨_, rfl, a, _, rfl, lstAt (s12 _ _ hA), fun l o nl hc hd => ?_⟩
    have sl := s12.trans (same_upd (o := .frz o (.tup (zs.map vN))) nl)
    have hp3 := sl _ _ hp
    have pl : p ≠ l := ne_of_none (s12 _ _ hp) nl
    have bp : b ≠ p := ne_of hB hp (by intro z; cases z)
    refine ⟨_, rfl, p, C, dx, [], rfl, hp3, T.cl, T.nN, by decide, ?_⟩
    -- the heap with the names told
    let H4 := upd (upd H2 l (.frz o (.tup (zs.map vN)))) p (.ins C dx (putF "names" (.ref l) []))
    have hB4 : H4 b = some (.lst (es.map V.ref)) := by show upd _ _ _ _ = _; rw [upd_ne bp]; exact sl _ _ hB
    have hL4 : H4 l = some (.frz o (.tup (zs.map vN))) := by show upd _ _ _ _ = _; rw [upd_ne pl.symm]; exact upd_same
    have hp4 : H4 p = some (.ins C dx (putF "names" (.ref l) [])) := upd_same
    have f4 : ∀ c x, H c = some x → c ≠ p → H4 c = some x := fun c x e n => by show upd _ _ _ _ = _; rw [upd_ne n]; exact sl _ _ e
    have hT4 : TiesAt H4 es ts := ⟨hT.1, fun i e he => by
      obtain ⟨t, h1, h2⟩ := hT.2 i e he
      exact ⟨t, h1, f4 _ _ h2 (ne_of h2 hp (by intro z; cases z))⟩⟩
    refine ⟨_, rfl, b, rfl, ⟨_, lstAt hB4⟩, fun D nD => ?_⟩
    have sD := same_upd (o := .lst []) nD
    refine lc_list (K := K) (a := b) (xs := es.map V.ref) (fun i H' => ∃ es' : List Addr, Same H4 H' ∧ H' D = some (.lst (es'.map V.ref)) ∧ TiesAt H' es' (ts.take i)) ⟨[], sD, upd_same, rfl, fun _ _ h => nomatch h⟩ (fun i H' _ hq => lstAt (hq.choose_spec.1 _ _ hB4)) (fun i x H' hx hq => ?_) (fun H' hq => ?_)
    · obtain ⟨es', s5, hD5, hT5⟩ := hq
      obtain ⟨e, t, rfl, _, et, ht⟩ := ties_at hT4 hx
      have hi : i < ts.length := (List.getElem?_eq_some_iff.mp et).1
      have l5 : es'.length = i := by rw [hT5.1, List.length_take]; omega
      refine ⟨_, _, rfl, tupAt (s5 _ _ ht), rfl, _, _, rfl, _, _, rfl, _, _, rfl, rfl, rfl, yesT ⟨_, rfl, _, rfl, _, rfl, (show (3 : Nat) ≤ sizeLine by decide), fun q5 nq => ⟨_, (same_upd nq) _ _ hD5, ?_, ?_⟩⟩⟩
      · rw [List.length_map]; exact small1000 (by omega)
      · have sq := same_upd (o := .tup [vN t.1, vN t.2.1, .int t.2.2]) nq
        have Dq : D ≠ q5 := ne_of_none hD5 nq
        have fD : ∀ c x, H' c = some x → c ≠ D → (upd (upd H' q5 (.tup [vN t.1, vN t.2.1, .int t.2.2])) D (.lst (es'.map V.ref ++ [.ref q5]))) c = some x := fun c x e n => by rw [upd_ne n]; exact sq _ _ e
        refine ⟨es' ++ [q5], fun c x e => fD c x (s5 _ _ e) (ne_of_none e nD), by rw [List.map_append]; exact upd_same, ?_⟩
        rw [List.take_add_one, et]
        refine ⟨by rw [List.length_append, List.length_append, hT5.1]; rfl, (TiesAt.snoc (H := upd (upd H' q5 (.tup [vN t.1, vN t.2.1, .int t.2.2])) D (.lst (es'.map V.ref ++ [.ref q5]))) ⟨hT5.1, fun j e he => ?_⟩ (Same.refl _) ?_).2⟩
        · obtain ⟨t', h1, h2⟩ := hT5.2 j e he
          exact ⟨t', h1, fD _ _ h2 (ne_of h2 hD5 (by intro z; cases z))⟩
        · show _ = _
          rw [upd_ne Dq.symm]; exact upd_same
    · obtain ⟨es', s5, hD5, hT5⟩ := hq
      rw [List.take_of_length_le (by rw [el]; exact Nat.le_refl _)] at hT5
      refine ⟨D, _, rfl, .inl ⟨lstAt hD5, fun m nm => ?_⟩⟩
      have sm := s5.trans (same_upd (o := .tup (es'.map V.ref)) nm)
      have pm : p ≠ m := ne_of_none (s5 _ _ hp4) nm
      have lm : l ≠ m := ne_of_none (s5 _ _ hL4) nm
      refine ⟨_, rfl, p, C, dx, _, rfl, sm _ _ hp4, T.cl, T.nL, Nat.lt_of_le_of_lt (putF_len _ _ _) (by decide), ?_⟩
      refine q _ es' ⟨dx, l, m, o, upd_same, by rw [upd_ne pl.symm]; exact sm _ _ hL4, hc, hd, by rw [upd_ne pm.symm]; exact upd_same, ?_⟩ fun c x e n => ?_
      · refine ⟨hT5.1, fun j e he => ?_⟩
        obtain ⟨t', h1, h2⟩ := hT5.2 j e he
        have e1 := (same_upd (o := .tup (es'.map V.ref)) nm) _ _ h2
        exact ⟨t', h1, by show _ = _; rw [upd_ne (ne_of e1 (sm _ _ hp4) (by intro z; cases z))]; exact e1⟩
      · rw [upd_ne n]; exact sm _ _ (f4 c x e n)
/-! Links.__iter__ -/
def RLk (K : PySem.W.Frag) (C : Addr) (a t : Addr) (H : Hp) : Prop := ∃ dx b xs, H a = some (.ins C dx (fldsL b t)) ∧ SqT K H t xs
theorem ok_Links_iter {f C : Addr} {fd : FuncData} (F : Fun K "__iter__" "Links.__iter__" s_Links_iter f fd) (b : Binds K fd ["self"] []) (T : TxtL K C) (m_iter : mg "iter" = none) : FnIt P w K mg base 1 f (RLk K C) := by
  refine fnIt_of (k := 0) F sc_Links_iter b fun cdv A outer s H a t hr hR => ?_
  obtain ⟨dx, b, xs, ha, ht⟩ := hR
  refine ⟨_, PSs.nox (pss_one (ps_ret (pe_callB call_iterT (by rfl) m_iter (by decide +kernel) (pa_cons (pe_fld (pv 0) rfl) pa_nil)))), ?_⟩
  exact ⟨_, rfl, a, C, dx, _, _, rfl, ha, T.cl, T.nL, fldsL_links _ _, t, xs, rfl, ht, fun it hn hs => ⟨it, rfl, hn, hs, rfl⟩⟩
end
end TK

namespace TK
open PySem PySem.Spec PyProof.Rows L2
theorem letters_nd : ((List.range 26).map fun j => [97 + j]).Nodup := nodup_range fun k j _ _ e => by
  have := List.cons.inj e
  omega
section
variable {P : Program} {w : World} {K : PySem.W.Frag} {mg : Str → Option Value} {base : Heap}
/-! _law_strange -/
def spStrange (K : PySem.W.Frag) : Sp := fun vs H Q _ => ∃ (a : Addr) (zs : List Nam), vs = [.ref a] ∧ SqL K H a (zs.map vN) ∧ zs.length ≤ 25 ∧ ∀ n : Nat, n < 26 → [97 + n] ∉ zs → Q (vN [97 + n]) H
theorem ok_L_strange {f : Addr} {fd : FuncData} (F : Fun K "_law_strange" "_law_strange" s_L_strange f fd) : FnOk P w K mg base CX0 1 f fd ["_law_words_here"] (spStrange K) := by
  refine F.ok sc_L_strange (fun vs H Q E h => ?_) (fun cdv A outer s H vs Q E hr h => ?_)
  · obtain ⟨a, zs, rfl, _⟩ := h
    rfl
  · obtain ⟨a, zs, rfl, hS, l25, q⟩ := h
    refine ⟨_, (pss_cons (ps_for PassesOwn.never rfl (pi_str pe_str) (pg_name (i := 1) sc_L_strange.nd rfl (.inl rfl))
    (pss_one (ps_if (pt_cmpR op_notIn_seq (pv 1) (pv 0) (by rfl)) (pss_one (ps_ret (pv 1))) pss_nil)))
  (pss_one (ps_ret pe_str))), ?_⟩
    refine ⟨_, rfl, for_it (walk_str (z := lettersZ)) (fun i σ H' => H' = H ∧ (∃ y, σ = [some (.ref a), y]) ∧ ∀ j, j < i → [97 + j] ∈ zs) ⟨rfl, ⟨_, rfl⟩, fun _ h => nomatch h⟩ (fun _ _ _ _ _ => True.intro) ?_ ?_⟩
    · rintro i x σ H1 H2 hi ⟨rfl, ⟨y, rfl⟩, hj⟩ ⟨rfl, c, hc, rfl⟩
      have hi26 : i < 26 := by have := letters_len; have e : lettersZ.cps.size = 26 := this; omega
      have hc' : c = 97 + i := by
        have e : lettersZ.cps.toList[i]? = some c := by rw [Array.getElem?_toList]; exact hc
        rw [letters_codes, List.getElem?_map, List.getElem?_range hi26] at e
        exact (Option.some.inj e).symm
      subst hc'
      have e : (if true = true then !inV (V.str ⟨#[97 + i]⟩) (zs.map vN) else inV (V.str ⟨#[97 + i]⟩) (zs.map vN)) = !decide ([97 + i] ∈ zs) := notin_nm (z := [97 + i])
      refine ⟨_, rfl, _, rfl, a, _, rfl, .inl hS, rfl, nms_flat _, _, rfl, ?_⟩
      rw [e]
      by_cases h : [97 + i] ∈ zs
      · rw [decide_eq_true h]
        refine iteF ⟨rfl, ⟨_, rfl⟩, fun j hj' => ?_⟩
        rcases Nat.lt_succ_iff_lt_or_eq.mp hj' with q1 | rfl
        · exact hj j q1
        · exact h
      · rw [decide_eq_false h]
        exact iteT ⟨_, rfl, q i hi26 h⟩
    · rintro σ H1 ⟨rfl, ⟨y, rfl⟩, hj⟩
      have e26 : lettersZ.cps.size = 26 := letters_len
      have := nd_len letters_nd (zs := zs) (fun w hw => by
        obtain ⟨j, hj1, rfl⟩ := List.mem_map.mp hw
        exact hj j (by rw [e26]; exact List.mem_range.mp hj1))
      rw [List.length_map, List.length_range] at this
      omega
/-! _law_words -/
def spWords : Sp := fun vs H Q _ => ∃ (c n : Int), vs = [.int c, .int n] ∧ 1 ≤ n ∧ n ≤ 6 ∧
  ∀ (H' : Hp) (p : Addr) (zs : List Nam), Same H H' → H' p = some (.lst (zs.map vN)) → (zs.length : Int) = n → (∀ z ∈ zs, Nm z) → zs.Nodup → Q (.ref p) H'
theorem ok_L_words {f : Addr} {fd : FuncData} (F : Fun K "_law_words" "_law_words" s_L_words f fd) (m_range : mg "range" = none) (m_abs : mg "abs" = none)
    (d_L_names : Def P w K mg base "_law_names" 2 ["_law_pool_here", "_law_spot", "_law_number"] (spNames K)) (d_L_pool : Def P w K mg base "_law_pool" 2 ["_law_cell_here", "_law_number"] spPool)
    (d_L_strange : Def P w K mg base "_law_strange" 1 ["_law_words_here"] (spStrange K)) : FnOk P w K mg base CX0 3 f fd ["_law_cell_here", "_law_number"] spWords := by
  refine F.ok sc_L_words (fun vs H Q E h => ?_) (fun cdv A outer s H vs Q E hr h => ?_)
  · obtain ⟨c, n, rfl, _⟩ := h
    rfl
  · obtain ⟨c, n, rfl, h1, h6, q⟩ := h
    have ha : 0 ≤ (if c < 0 then -c else c) := by split <;> omega
    refine ⟨_, (pss_cons (ps_set (i := 2) sc_L_words.nd rfl (.inl rfl) pe_str)
  (pss_cons (ps_set (i := 3) sc_L_words.nd rfl (.inl rfl) (pe_callB call_abs (by rfl) m_abs (by decide +kernel) (pa_cons (pv 0) pa_nil)))
  (pss_cons (ps_if (pt_cmpR op_lt (pv 3) (pe_op op_pow pe_int pe_int) (nomark _)) (pss_one (ps_ret (pe_callD d_L_names (hr.mono (by decide)) (by rfl) (pa_cons (pe_callD d_L_pool (hr.mono (by decide)) (by rfl) (pa_cons (pv 0) (pa_cons pe_int pa_nil))) (pa_cons pe_int (pa_cons (pv 1) pa_nil)))))) pss_nil)
  (pss_cons (ps_set (i := 4) sc_L_words.nd rfl (.inl rfl) (pe_lst pa_nil))
  (pss_cons (ps_for PassesOwn.never rfl (pi_range1 (by rfl) m_range (pa_cons (pv 1) pa_nil)) (pg_name (i := 5) sc_L_words.nd rfl (.inl rfl))
    (pss_cons (ps_set (i := 6) sc_L_words.nd rfl (.inl rfl) (pe_op op_add pe_int (pe_op op_mod (pv 3) pe_int)))
  (pss_cons (ps_set (i := 3) sc_L_words.nd rfl (.inl rfl) (pe_op op_fdiv (pv 3) pe_int))
  (pss_cons (ps_set (i := 7) sc_L_words.nd rfl (.inl rfl) pe_str)
  (pss_cons (ps_for PassesOwn.never rfl (pi_range1 (by rfl) m_range (pa_cons (pv 6) pa_nil)) (pg_name (i := 8) sc_L_words.nd rfl (.inl rfl))
    (pss_cons (ps_set (i := 7) sc_L_words.nd rfl (.inl rfl) (pe_op op_add_str (pv 7) (pe_ix ix_str (pv 2) (pe_op op_mod (pv 3) pe_int) (fun _ _ => rfl))))
  (pss_one (ps_set (i := 3) sc_L_words.nd rfl (.inl rfl) (pe_op op_fdiv (pv 3) pe_int)))))
  (pss_cons (ps_if (pt_cmpR op_in_seq (pv 7) (pv 4) (by rfl)) (pss_one (ps_set (i := 7) sc_L_words.nd rfl (.inl rfl) (pe_callD d_L_strange (hr.mono (by decide)) (by rfl) (pa_cons (pv 4) pa_nil)))) pss_nil)
  (pss_one (ps_expr (pe_bm PySem.F.plainAttrs_list PySem.F.slot_list_append PySem.F.type_list_append mt_append (pv 4) (pa_cons (pv 7) pa_nil))))))))))
  (pss_one (ps_ret (pv 4)))))))), ?_⟩
    refine ⟨_, rfl, _, rfl, _, rfl, _, _, rfl, rfl, ⟨by decide, by decide, by decide⟩, _, _, rfl, rfl, _, rfl, ite2 (fun e => ?_) (fun e => ?_)⟩
    · refine ⟨_, rfl, c, 5, rfl, by decide, by decide, fun p ns np hl hx => ?_⟩
      refine ⟨_, rfl, p, ns, 0, n, rfl, lstAt upd_same, by decide, by omega, by omega, h6, fun p2 zs np2 hl2 nm nd => ?_⟩
      exact q _ p2 zs ((same_upd np).trans (same_upd np2)) upd_same hl2 nm nd
    refine ⟨Nat.zero_le _, fun p np => ?_⟩
    refine ⟨_, rfl, _, rfl, by omega, by omega, for_range (fun i σ H' => ∃ (r : Int) (zs : List Nam) (y1 y2 y3 y4 : Option V), σ = [some (.int c), some (.int n), some (.str lettersZ), some (.int r), some (.ref p), y1, y2, y3, y4] ∧ 0 ≤ r ∧ zs.length = i ∧ (∀ z ∈ zs, Nm z) ∧ zs.Nodup ∧ H' = upd H p (.lst (zs.map vN))) ⟨_, [], _, _, _, _, rfl, ha, rfl, (fun x hx => nomatch hx), List.nodup_nil, rfl⟩ ?_ ?_⟩
    · rintro i σ H' hi ⟨r, zs, y1, y2, y3, y4, rfl, r0, hl, nm, nd, rfl⟩
      have m0 : 0 ≤ r % 8 := Int.emod_nonneg _ (by decide)
      have m8 : r % 8 < 8 := Int.emod_lt_of_pos _ (by decide)
      have d0 : 0 ≤ r / 8 := Int.ediv_nonneg r0 (by decide)
      refine ⟨_, rfl, _, _, rfl, rfl, pz, _, _, rfl, rfl, ?_⟩
      refine ⟨_, rfl, _, _, rfl, rfl, ⟨by decide, by decide⟩, ?_⟩
      refine ⟨_, rfl, _, rfl, by omega, by omega, for_range (fun j σ H' => ∃ (r' : Int) (st : List Nat) (y4 : Option V), σ = [some (.int c), some (.int n), some (.str lettersZ), some (.int r'), some (.ref p), some (.int (0 + (i : Int))), some (.int (1 + r % 8)), some (vN st), y4] ∧ 0 ≤ r' ∧ st.length = j ∧ Let st ∧ H' = upd H p (.lst (zs.map vN))) ⟨_, [], _, rfl, d0, rfl, (fun x hx => nomatch hx), rfl⟩ ?_ ?_⟩
      · rintro j σ H' hj ⟨r', st, y4, rfl, r0', hl', le, rfl⟩
        have b1 : 0 ≤ r' % 26 := Int.emod_nonneg _ (by decide)
        have b2 : r' % 26 < 26 := Int.emod_lt_of_pos _ (by decide)
        refine ⟨_, rfl, _, rfl, _, rfl, _, _, rfl, rfl, pz, _, _, _, rfl, rfl, by rw [letters_len]; decide, letter_at b1 b2, _, _, rfl, rfl, ?_, ?_⟩
        · rw [sOf_len, sOf_one, sOf_len]; exact Nat.le_of_lt (small1000 (by simp only [List.length_cons, List.length_nil]; omega))
        refine ⟨_, rfl, _, _, rfl, rfl, ⟨by decide, by decide⟩, ?_⟩
        refine ⟨r' / 26, st ++ [97 + (r' % 26).toNat], some (.int (0 + (j : Int))), ?_, Int.ediv_nonneg r0' (show (0 : Int) ≤ 26 by decide), by rw [List.length_append, hl']; rfl, le.app (.one (by omega)), rfl⟩
        rw [sOf_one, sOf_app]
        rfl
      · rintro σ H' ⟨r', st, y4, rfl, r0', hl', le, rfl⟩
        have hst : Nm st := ⟨by omega, by omega, le⟩
        have hz : (zs.map vN).length < sizeLine := by rw [List.length_map]; exact small1000 (by omega)
        refine ⟨_, rfl, _, rfl, p, _, rfl, .inl (lstAt upd_same), rfl, nms_flat _, _, rfl, ?_⟩
        rw [in_nm]
        by_cases h : st ∈ zs
        · rw [decide_eq_true h]
          refine iteT ⟨_, rfl, p, zs, rfl, lstAt upd_same, by omega, fun k hk hn => ?_⟩
          refine ⟨_, rfl, .inl ⟨rfl, _, lstAt upd_same⟩, _, rfl, _, _, _, rfl, rfl, upd_same, hz, r', zs ++ [[97 + k]], _, _, _, _, rfl, r0', by rw [List.length_append, hl]; rfl, ?_, ?_, ?_⟩
          · intro z hz'
            rcases List.mem_append.mp hz' with m | m
            · exact nm z m
            · rw [List.mem_singleton.mp m]; exact ⟨Nat.le_refl 1, (show 1 ≤ 8 by decide), .one hk⟩
          · exact List.nodup_append.mpr ⟨nd, by simp, fun a ha b hb => by rw [List.mem_singleton.mp hb]; exact fun e => hn (e ▸ ha)⟩
          · rw [upd_twice, List.map_append]; rfl
        · rw [decide_eq_false h]
          refine iteF ?_
          refine ⟨_, rfl, .inl ⟨rfl, _, lstAt upd_same⟩, _, rfl, _, _, _, rfl, rfl, upd_same, hz, r', zs ++ [st], _, _, _, _, rfl, r0', by rw [List.length_append, hl]; rfl, ?_, ?_, ?_⟩
          · intro z hz'
            rcases List.mem_append.mp hz' with m | m
            · exact nm z m
            · rw [List.mem_singleton.mp m]; exact hst
          · exact List.nodup_append.mpr ⟨nd, by simp, fun a ha b hb => by rw [List.mem_singleton.mp hb]; exact fun e => h (e ▸ ha)⟩
          · rw [upd_twice, List.map_append]; rfl
    · rintro σ H' ⟨r, zs, y1, y2, y3, y4, rfl, r0, hl, nm, nd, rfl⟩
      exact ⟨_, rfl, q _ p zs (same_upd np) upd_same (by omega) nm nd⟩
end
end TK

namespace TK
open PySem PySem.Spec PyProof.Rows L2
/-! right ties, under way -/
structure TsOk (zs : List Nam) (ts : List Tie) : Prop where
  a : ∀ t ∈ ts, t.1 ∈ zs
  b : ∀ t ∈ ts, t.2.1 ∈ zs
  ne : ∀ t ∈ ts, t.1 ≠ t.2.1
  h0 : ∀ t ∈ ts, 0 ≤ t.2.2
  h9 : ∀ t ∈ ts, t.2.2 ≤ 1000000000
theorem TsOk.nil {zs : List Nam} : TsOk zs [] := ⟨(fun _ h => nomatch h), (fun _ h => nomatch h), (fun _ h => nomatch h), (fun _ h => nomatch h), (fun _ h => nomatch h)⟩
theorem TsOk.app {zs : List Nam} {ts us : List Tie} (h : TsOk zs ts) (k : TsOk zs us) : TsOk zs (ts ++ us) :=
  ⟨fun t m => (List.mem_append.mp m).elim (h.a t) (k.a t), fun t m => (List.mem_append.mp m).elim (h.b t) (k.b t), fun t m => (List.mem_append.mp m).elim (h.ne t) (k.ne t), fun t m => (List.mem_append.mp m).elim (h.h0 t) (k.h0 t), fun t m => (List.mem_append.mp m).elim (h.h9 t) (k.h9 t)⟩
theorem TsOk.sub {zs : List Nam} {ts us : List Tie} (h : TsOk zs ts) (k : ∀ t ∈ us, t ∈ ts) : TsOk zs us :=
  ⟨fun t m => h.a t (k t m), fun t m => h.b t (k t m), fun t m => h.ne t (k t m), fun t m => h.h0 t (k t m), fun t m => h.h9 t (k t m)⟩
structure TW (H0 H : Hp) (D : Addr) (zs : List Nam) (es : List Addr) (ts : List Tie) : Prop where
  s : Same H0 H
  d : H D = some (.lst (es.map V.ref))
  t : TiesAt H es ts
  o : TsOk zs ts
theorem TW.add {H0 H : Hp} {D q : Addr} {zs : List Nam} {es : List Addr} {ts : List Tie} {t : Tie} (h : TW H0 H D zs es ts) (n : H0 D = none) (nq : H q = none) (a : t.1 ∈ zs) (b : t.2.1 ∈ zs) (ne : t.1 ≠ t.2.1) (h0 : 0 ≤ t.2.2) (h9 : t.2.2 ≤ 1000000000) :
    TW H0 (upd (upd H q (.tup [vN t.1, vN t.2.1, .int t.2.2])) D (.lst (es.map V.ref ++ [.ref q]))) D zs (es ++ [q]) (ts ++ [t]) := by
  have sq := same_upd (o := .tup [vN t.1, vN t.2.1, .int t.2.2]) nq
  have Dq : D ≠ q := ne_of_none h.d nq
  have fD : ∀ c x, H c = some x → c ≠ D → (upd (upd H q (.tup [vN t.1, vN t.2.1, .int t.2.2])) D (.lst (es.map V.ref ++ [.ref q]))) c = some x := fun c x e n => by rw [upd_ne n]; exact sq _ _ e
  refine ⟨fun c x e => fD c x (h.s _ _ e) (ne_of_none e n), by rw [List.map_append]; exact upd_same, ?_, h.o.app ?_⟩
  · refine TiesAt.snoc (H := upd (upd H q (.tup [vN t.1, vN t.2.1, .int t.2.2])) D (.lst (es.map V.ref ++ [.ref q]))) ⟨h.t.1, fun j e he => ?_⟩ (Same.refl _) ?_
    · obtain ⟨t', h1, h2⟩ := h.t.2 j e he
      exact ⟨t', h1, fD _ _ h2 (ne_of h2 h.d (by intro z; cases z))⟩
    · show _ = _
      rw [upd_ne Dq.symm]; exact upd_same
  · have one : ∀ x ∈ [t], x = t := fun x m => List.mem_singleton.mp m
    exact ⟨fun x m => by rw [one x m]; exact a, fun x m => by rw [one x m]; exact b, fun x m => by rw [one x m]; exact ne, fun x m => by rw [one x m]; exact h0, fun x m => by rw [one x m]; exact h9⟩
/-! the two ends of a tie -/
theorem two_ne {L a d : Int} (h0 : 0 ≤ a) (h1 : a < L) (d0 : 0 ≤ d) (d1 : d < L - 1) : 0 ≤ (a + 1 + d) % L ∧ (a + 1 + d) % L < L ∧ (a + 1 + d) % L ≠ a := by
  refine ⟨Int.emod_nonneg _ (by omega), Int.emod_lt_of_pos _ (by omega), ?_⟩
  by_cases h : a + 1 + d < L
  · rw [Int.emod_eq_of_lt (by omega) h]; omega
  · rw [show a + 1 + d = (a + 1 + d - L) + L * 1 by omega, Int.add_mul_emod_self_left, Int.emod_eq_of_lt (by omega) (by omega)]; omega
theorem nm_get {zs : List Nam} {i : Int} (h0 : 0 ≤ i) (h : i < zs.length) : ∃ z, zs[i.toNat]? = some z ∧ z ∈ zs ∧ atI (zs.map vN) i = some (vN z) := by
  have hl : i.toNat < zs.length := by omega
  refine ⟨zs[i.toNat], List.getElem?_eq_getElem hl, List.getElem_mem hl, atI_in h0 ?_⟩
  rw [List.getElem?_map, List.getElem?_eq_getElem hl]
  rfl
theorem nm_ne {zs : List Nam} {i j : Int} {y z : Nam} (nd : zs.Nodup) (i0 : 0 ≤ i) (j0 : 0 ≤ j) (h1 : zs[i.toNat]? = some y) (h2 : zs[j.toNat]? = some z) (ne : j ≠ i) : y ≠ z := by
  intro e
  subst e
  have hl := (List.getElem?_eq_some_iff.mp h1).1
  have := (List.getElem?_inj hl nd).mp (h1.trans h2.symm)
  omega
section
variable {P : Program} {w : World} {K : PySem.W.Frag} {mg : Str → Option Value} {base : Heap}
/-! _law_links -/
def spLinks (K : PySem.W.Frag) : Sp := fun vs H Q _ => ∃ (a b : Addr) (ns : List Int) (s n : Int) (zs : List Nam), vs = [.ref a, .int s, .ref b, .int n] ∧ SqL K H a (ns.map V.int) ∧ SqL K H b (zs.map vN) ∧ 0 ≤ s ∧ s + n ≤ ns.length ∧ 0 ≤ n ∧ n ≤ 12 ∧ zs.length ≤ 6 ∧ zs.Nodup ∧
  ∀ (H' : Hp) (p : Addr) (es : List Addr) (ts : List Tie), TW H H' p zs es ts → ts.length ≤ 12 → Q (.ref p) H'
theorem ok_L_links {f : Addr} {fd : FuncData} (F : Fun K "_law_links" "_law_links" s_L_links f fd) (m_len : mg "len" = none) (m_range : mg "range" = none)
    (d_L_part : Def P w K mg base "_law_part" 1 ["_law_pool_here", "_law_spot", "_law_under", "_law_size"] (spPart K)) : FnOk P w K mg base CX0 2 f fd ["_law_pool_here", "_law_spot", "_law_words_here", "_law_number"] (spLinks K) := by
  refine F.ok sc_L_links (fun vs H Q E h => ?_) (fun cdv A outer s H vs Q E hr h => ?_)
  · obtain ⟨a, b, ns, s, n, zs, rfl, _⟩ := h
    rfl
  · obtain ⟨a, b, ns, sp, n, zs, rfl, hA, hB, s0, sn, n0, n12, z6, nd, q⟩ := h
    have zl : (zs.map vN).length = zs.length := List.length_map ..
    refine ⟨_, (pss_cons (ps_set (i := 4) sc_L_links.nd rfl (.inl rfl) (pe_lst pa_nil))
  (pss_cons (ps_if (pt_cmpR op_lt (pe_callB call_len_seq (by rfl) m_len (by decide +kernel) (pa_cons (pv 2) pa_nil)) pe_int (nomark _)) (pss_one (ps_ret (pv 4))) pss_nil)
  (pss_cons (ps_for PassesOwn.never rfl (pi_range1 (by rfl) m_range (pa_cons (pv 3) pa_nil)) (pg_name (i := 5) sc_L_links.nd rfl (.inl rfl))
    (pss_cons (ps_set (i := 6) sc_L_links.nd rfl (.inl rfl) (pe_op op_mod (pe_callD d_L_part (hr.mono (by decide)) (by rfl) (pa_cons (pv 0) (pa_cons (pe_op op_add (pv 1) (pv 5)) (pa_cons pe_int (pa_cons pe_int pa_nil))))) (pe_callB call_len_seq (by rfl) m_len (by decide +kernel) (pa_cons (pv 2) pa_nil))))
  (pss_cons (ps_set (i := 7) sc_L_links.nd rfl (.inl rfl) (pe_op op_mod (pe_op op_add (pe_op op_add (pv 6) pe_int) (pe_op op_mod (pe_callD d_L_part (hr.mono (by decide)) (by rfl) (pa_cons (pv 0) (pa_cons (pe_op op_add (pv 1) (pv 5)) (pa_cons pe_int (pa_cons pe_int pa_nil))))) (pe_op op_sub (pe_callB call_len_seq (by rfl) m_len (by decide +kernel) (pa_cons (pv 2) pa_nil)) pe_int))) (pe_callB call_len_seq (by rfl) m_len (by decide +kernel) (pa_cons (pv 2) pa_nil))))
  (pss_cons (ps_set (i := 8) sc_L_links.nd rfl (.inl rfl) (pe_callD d_L_part (hr.mono (by decide)) (by rfl) (pa_cons (pv 0) (pa_cons (pe_op op_add (pv 1) (pv 5)) (pa_cons pe_int (pa_cons pe_int pa_nil))))))
  (pss_cons (ps_if (pt_cmpR op_eq (pe_callD d_L_part (hr.mono (by decide)) (by rfl) (pa_cons (pv 0) (pa_cons (pe_op op_add (pv 1) (pv 5)) (pa_cons pe_int (pa_cons pe_int pa_nil))))) pe_int (nomark _)) (pss_one (ps_set (i := 8) sc_L_links.nd rfl (.inl rfl) (pe_op op_sub (pe_op op_pow pe_int pe_int) (pv 8)))) pss_nil)
  (pss_one (ps_expr (pe_bm PySem.F.plainAttrs_list PySem.F.slot_list_append PySem.F.type_list_append mt_append (pv 4) (pa_cons (pe_tup (pa_cons (pe_ix ix_list (pv 2) (pv 6) (fun _ _ => rfl)) (pa_cons (pe_ix ix_list (pv 2) (pv 7) (fun _ _ => rfl)) (pa_cons (pv 8) pa_nil)))) pa_nil)))))))))
  (pss_one (ps_ret (pv 4)))))), ?_⟩
    refine ⟨Nat.zero_le _, fun p np => ?_⟩
    have s1 := same_upd (o := .lst []) np
    have w0 : TW H (upd H p (.lst [])) p zs [] [] := ⟨s1, upd_same, ⟨rfl, fun _ _ h => nomatch h⟩, .nil⟩
    refine ⟨_, rfl, _, _, rfl, .inl (s1.seq hB), _, _, rfl, rfl, _, rfl, ite2 (fun e => ?_) (fun e => ?_)⟩
    · exact ⟨_, rfl, q _ p [] [] w0 (Nat.zero_le _)⟩
    have l2 : 2 ≤ zs.length := by
      rw [zl] at e
      have := of_decide_eq_false (Bool.eq_false_iff.mpr e)
      omega
    refine ⟨_, rfl, _, rfl, by omega, by omega, for_range (fun i σ H' => ∃ (es : List Addr) (ts : List Tie) (y1 y2 y3 y4 : Option V), σ = [some (.ref a), some (.int sp), some (.ref b), some (.int n), some (.ref p), y1, y2, y3, y4] ∧ TW H H' p zs es ts ∧ ts.length = i) ⟨[], [], _, _, _, _, rfl, w0, rfl⟩ ?_ ?_⟩
    · rintro i σ H' hi ⟨es, ts, y1, y2, y3, y4, rfl, tw, hl⟩
      have hA' := tw.s.seq hA
      have hB' := tw.s.seq hB
      have p1 := part_lo (ns := ns) (s := sp + (0 + (i : Int))) (u := 1) (z := 12) (by decide)
      have p2 := part_lo (ns := ns) (s := sp + (0 + (i : Int))) (u := 12) (z := 6) (by decide)
      have t1 := part_lo (ns := ns) (s := sp + (0 + (i : Int))) (u := 72) (z := 7) (by decide)
      have t2 := part_hi (ns := ns) (s := sp + (0 + (i : Int))) (u := 72) (z := 7) (by decide)
      have o1 : 0 ≤ partOf ns (sp + (0 + (i : Int))) 1 12 % (zs.length : Int) := Int.emod_nonneg _ (by omega)
      have o2 : partOf ns (sp + (0 + (i : Int))) 1 12 % (zs.length : Int) < zs.length := Int.emod_lt_of_pos _ (by omega)
      have d1 : 0 ≤ partOf ns (sp + (0 + (i : Int))) 12 6 % ((zs.length : Int) - 1) := Int.emod_nonneg _ (by omega)
      have d2 : partOf ns (sp + (0 + (i : Int))) 12 6 % ((zs.length : Int) - 1) < (zs.length : Int) - 1 := Int.emod_lt_of_pos _ (by omega)
      obtain ⟨w1, w2, w3⟩ := two_ne o1 o2 d1 d2
      obtain ⟨y, gy, my, ay⟩ := nm_get o1 o2
      obtain ⟨z, gz, mz, az⟩ := nm_get w1 w2
      have nyz := nm_ne nd o1 w1 gy gz w3
      refine ⟨_, rfl, _, rfl, _, rfl, _, _, rfl, rfl, _, _, _, _, _, rfl, hA', by omega, by omega, by decide, by decide, by decide, _, rfl, _, _, rfl, .inl hB', _, _, rfl, rfl, by rw [zl]; omega, ?_⟩
      rw [zl]
      refine ⟨_, rfl, _, _, rfl, rfl, _, rfl, _, rfl, _, rfl, _, _, rfl, rfl, _, _, _, _, _, rfl, hA', by omega, by omega, by decide, by decide, by decide, _, rfl, _, _, rfl, .inl hB', _, _, rfl, rfl, _, _, rfl, rfl, by rw [zl]; omega, _, _, rfl, rfl, _, rfl, _, _, rfl, .inl hB', _, _, rfl, rfl, by rw [zl]; omega, ?_⟩
      rw [zl]
      refine ⟨_, rfl, _, rfl, _, rfl, _, _, rfl, rfl, _, _, _, _, _, rfl, hA', by omega, by omega, by decide, by decide, by decide, ?_⟩
      refine ⟨_, rfl, _, rfl, _, rfl, _, _, rfl, rfl, _, _, _, _, _, rfl, hA', by omega, by omega, by decide, by decide, by decide, rfl, _, rfl, ite2 (fun e => ?_) (fun e => ?_)⟩
      · refine ⟨_, _, rfl, rfl, ⟨by decide, by decide, by decide⟩, _, rfl, _, _, rfl, rfl, ?_⟩
        refine ⟨_, rfl, .inl ⟨rfl, _, lstAt tw.d⟩, _, rfl, _, rfl, _, _, _, _, rfl, rfl, hB', ay, _, rfl, _, rfl, _, _, _, _, rfl, rfl, hB', az, _, rfl, (show (3 : Nat) ≤ sizeLine by decide), fun t nt => ?_⟩
        have Dt : p ≠ t := ne_of_none tw.d nt
        refine ⟨_, _, _, rfl, rfl, by rw [upd_ne Dt]; exact tw.d, by rw [List.length_map, tw.t.1]; exact small1000 (by omega), es ++ [t], ts ++ [(y, z, 10 ^ (9 : Int).toNat - partOf ns (sp + (0 + (i : Int))) 72 7)], _, _, _, _, rfl, tw.add (t := (y, z, 10 ^ (9 : Int).toNat - partOf ns (sp + (0 + (i : Int))) 72 7)) np nt my mz nyz ?_ ?_, by rw [List.length_append, hl]; rfl⟩
        · show (0 : Int) ≤ 1000000000 - partOf ns (sp + (0 + (i : Int))) 72 7
          omega
        · show (1000000000 : Int) - partOf ns (sp + (0 + (i : Int))) 72 7 ≤ 1000000000
          omega
      · refine ⟨_, rfl, .inl ⟨rfl, _, lstAt tw.d⟩, _, rfl, _, rfl, _, _, _, _, rfl, rfl, hB', ay, _, rfl, _, rfl, _, _, _, _, rfl, rfl, hB', az, _, rfl, (show (3 : Nat) ≤ sizeLine by decide), fun t nt => ?_⟩
        have Dt : p ≠ t := ne_of_none tw.d nt
        exact ⟨_, _, _, rfl, rfl, by rw [upd_ne Dt]; exact tw.d, by rw [List.length_map, tw.t.1]; exact small1000 (by omega), es ++ [t], ts ++ [(y, z, partOf ns (sp + (0 + (i : Int))) 72 7)], _, _, _, _, rfl, tw.add (t := (y, z, partOf ns (sp + (0 + (i : Int))) 72 7)) np nt my mz nyz (by show 0 ≤ partOf ns (sp + (0 + (i : Int))) 72 7; omega) (by show partOf ns (sp + (0 + (i : Int))) 72 7 ≤ 1000000000; omega), by rw [List.length_append, hl]; rfl⟩
    · rintro σ H' ⟨es, ts, y1, y2, y3, y4, rfl, tw, hl⟩
      exact ⟨_, rfl, q _ p es ts tw (by omega)⟩
/-! _law_ties -/
def spTies (K : PySem.W.Frag) : Sp := fun vs H Q _ => ∃ (c : Int) (b : Addr) (zs : List Nam), vs = [.int c, .ref b] ∧ SqL K H b (zs.map vN) ∧ zs.length ≤ 6 ∧ zs.Nodup ∧
  ∀ (H' : Hp) (p : Addr) (es : List Addr) (ts : List Tie), TW H H' p zs es ts → ts.length ≤ 12 → Q (.ref p) H'
theorem ok_L_ties {f : Addr} {fd : FuncData} (F : Fun K "_law_ties" "_law_ties" s_L_ties f fd) (m_len : mg "len" = none) (m_range : mg "range" = none) (m_abs : mg "abs" = none) : FnOk P w K mg base CX0 1 f fd ["_law_cell_here", "_law_words_here"] (spTies K) := by
  refine F.ok sc_L_ties (fun vs H Q E h => ?_) (fun cdv A outer s H vs Q E hr h => ?_)
  · obtain ⟨c, b, zs, rfl, _⟩ := h
    rfl
  · obtain ⟨c, b, zs, rfl, hB, z6, nd, q⟩ := h
    have zl : (zs.map vN).length = zs.length := List.length_map ..
    have ha : 0 ≤ (if c < 0 then -c else c) := by split <;> omega
    refine ⟨_, (pss_cons (ps_set (i := 2) sc_L_ties.nd rfl (.inl rfl) (pe_callB call_abs (by rfl) m_abs (by decide +kernel) (pa_cons (pv 0) pa_nil)))
  (pss_cons (ps_set (i := 3) sc_L_ties.nd rfl (.inl rfl) (pe_lst pa_nil))
  (pss_cons (ps_if (pt_cmpR op_lt (pe_callB call_len_seq (by rfl) m_len (by decide +kernel) (pa_cons (pv 1) pa_nil)) pe_int (nomark _)) (pss_one (ps_ret (pv 3))) pss_nil)
  (pss_cons (ps_for PassesOwn.never rfl (pi_range1 (by rfl) m_range (pa_cons pe_int pa_nil)) (pg_name (i := 4) sc_L_ties.nd rfl (.inl rfl))
    (pss_cons (ps_if (pt_cmpR op_eq (pv 2) pe_int (nomark _)) (pss_one ps_break) pss_nil)
  (pss_cons (ps_set (i := 5) sc_L_ties.nd rfl (.inl rfl) (pe_op op_mod (pe_op op_mod (pv 2) pe_int) (pe_callB call_len_seq (by rfl) m_len (by decide +kernel) (pa_cons (pv 1) pa_nil))))
  (pss_cons (ps_set (i := 6) sc_L_ties.nd rfl (.inl rfl) (pe_op op_mod (pe_op op_add (pe_op op_add (pv 5) pe_int) (pe_op op_mod (pe_op op_mod (pe_op op_fdiv (pv 2) pe_int) pe_int) (pe_op op_sub (pe_callB call_len_seq (by rfl) m_len (by decide +kernel) (pa_cons (pv 1) pa_nil)) pe_int))) (pe_callB call_len_seq (by rfl) m_len (by decide +kernel) (pa_cons (pv 1) pa_nil))))
  (pss_cons (ps_set (i := 7) sc_L_ties.nd rfl (.inl rfl) (pe_op op_mod (pe_op op_fdiv (pv 2) pe_int) (pe_op op_add (pe_op op_pow pe_int pe_int) pe_int)))
  (pss_cons (ps_if (pt_cmpR op_eq (pe_op op_mod (pe_op op_fdiv (pv 2) pe_int) pe_int) pe_int (nomark _)) (pss_one (ps_set (i := 7) sc_L_ties.nd rfl (.inl rfl) (pe_op op_mod (pe_op op_fdiv (pv 2) pe_int) pe_int))) pss_nil)
  (pss_cons (ps_expr (pe_bm PySem.F.plainAttrs_list PySem.F.slot_list_append PySem.F.type_list_append mt_append (pv 3) (pa_cons (pe_tup (pa_cons (pe_ix ix_list (pv 1) (pv 5) (fun _ _ => rfl)) (pa_cons (pe_ix ix_list (pv 1) (pv 6) (fun _ _ => rfl)) (pa_cons (pv 7) pa_nil)))) pa_nil)))
  (pss_one (ps_set (i := 2) sc_L_ties.nd rfl (.inl rfl) (pe_op op_fdivW (pv 2) (pe_op op_mul pe_int (pe_op op_add (pe_op op_pow pe_int pe_int) pe_int))))))))))))
  (pss_one (ps_ret (pv 3))))))), ?_⟩
    refine ⟨_, rfl, _, rfl, Nat.zero_le _, fun p np => ?_⟩
    have s1 := same_upd (o := .lst []) np
    have w0 : TW H (upd H p (.lst [])) p zs [] [] := ⟨s1, upd_same, ⟨rfl, fun _ _ h => nomatch h⟩, .nil⟩
    refine ⟨_, rfl, _, _, rfl, .inl (s1.seq hB), _, _, rfl, rfl, _, rfl, ite2 (fun e => ?_) (fun e => ?_)⟩
    · exact ⟨_, rfl, q _ p [] [] w0 (Nat.zero_le _)⟩
    have l2 : 2 ≤ zs.length := by
      rw [zl] at e
      have := of_decide_eq_false (Bool.eq_false_iff.mpr e)
      omega
    refine ⟨_, rfl, by decide, by decide, for_range (fun i σ H' => ∃ (r : Int) (es : List Addr) (ts : List Tie) (y1 y2 y3 y4 : Option V), σ = [some (.int c), some (.ref b), some (.int r), some (.ref p), y1, y2, y3, y4] ∧ 0 ≤ r ∧ TW H H' p zs es ts ∧ ts.length ≤ i) ⟨_, [], [], _, _, _, _, rfl, ha, w0, Nat.le_refl _⟩ ?_ ?_⟩
    · rintro i σ H' hi ⟨r, es, ts, y1, y2, y3, y4, rfl, r0, tw, hl⟩
      have hi12 : i < 12 := hi
      have hB' := tw.s.seq hB
      have o1 : 0 ≤ r % 6 % (zs.length : Int) := Int.emod_nonneg _ (by omega)
      have o2 : r % 6 % (zs.length : Int) < zs.length := Int.emod_lt_of_pos _ (by omega)
      have d1 : 0 ≤ r / 6 % 5 % ((zs.length : Int) - 1) := Int.emod_nonneg _ (by omega)
      have d2 : r / 6 % 5 % ((zs.length : Int) - 1) < (zs.length : Int) - 1 := Int.emod_lt_of_pos _ (by omega)
      obtain ⟨w1, w2, w3⟩ := two_ne o1 o2 d1 d2
      obtain ⟨y, gy, my, ay⟩ := nm_get o1 o2
      obtain ⟨z, gz, mz, az⟩ := nm_get w1 w2
      have nyz := nm_ne nd o1 w1 gy gz w3
      have u1 : 0 ≤ r / 60 % 1000000001 := Int.emod_nonneg _ (by decide)
      have u2 : r / 60 % 1000000001 < 1000000001 := Int.emod_lt_of_pos _ (by decide)
      have v1 : 0 ≤ r / 60 % 7 := Int.emod_nonneg _ (by decide)
      have v2 : r / 60 % 7 < 7 := Int.emod_lt_of_pos _ (by decide)
      refine ⟨_, rfl, rfl, _, rfl, ite2 (fun e => ?_) (fun e => ?_)⟩
      · exact ⟨_, rfl, q _ p es ts tw (by omega)⟩
      refine ⟨_, rfl, _, _, rfl, rfl, pz, _, rfl, _, _, rfl, .inl hB', _, _, rfl, rfl, by rw [zl]; omega, ?_⟩
      rw [zl]
      refine ⟨_, rfl, _, _, rfl, rfl, _, rfl, _, _, rfl, rfl, ⟨by decide, by decide⟩, _, _, rfl, rfl, pz, _, rfl, _, _, rfl, .inl hB', _, _, rfl, rfl, _, _, rfl, rfl, by rw [zl]; omega, _, _, rfl, rfl, _, rfl, _, _, rfl, .inl hB', _, _, rfl, rfl, by rw [zl]; omega, ?_⟩
      rw [zl]
      refine ⟨_, rfl, _, _, rfl, rfl, ⟨by decide, by decide⟩, _, _, rfl, rfl, ⟨by decide, by decide, by decide⟩, _, _, rfl, rfl, _, _, rfl, rfl, (show (0 : Int) < 10 ^ (9 : Int).toNat + 1 by decide), ?_⟩
      refine ⟨_, rfl, _, _, rfl, rfl, ⟨by decide, by decide⟩, _, _, rfl, rfl, pz, rfl, _, rfl, ite2 (fun e => ?_) (fun e => ?_)⟩
      · refine ⟨_, rfl, _, _, rfl, rfl, ⟨by decide, by decide⟩, _, _, rfl, rfl, pz, ?_⟩
        refine ⟨_, rfl, .inl ⟨rfl, _, lstAt tw.d⟩, _, rfl, _, rfl, _, _, _, _, rfl, rfl, hB', ay, _, rfl, _, rfl, _, _, _, _, rfl, rfl, hB', az, _, rfl, (show (3 : Nat) ≤ sizeLine by decide), fun t nt => ?_⟩
        have Dt : p ≠ t := ne_of_none tw.d nt
        refine ⟨_, _, _, rfl, rfl, by rw [upd_ne Dt]; exact tw.d, by rw [List.length_map, tw.t.1]; exact small1000 (by omega), ?_⟩
        refine ⟨_, rfl, _, _, rfl, rfl, ⟨by decide, by decide, by decide⟩, _, _, rfl, rfl, _, _, rfl, rfl, .inl ⟨by decide, by decide⟩, _, _, rfl, rfl, wide_div (b := 40) (by decide) (by decide) (by decide) (by decide), ?_⟩
        exact ⟨_, es ++ [t], ts ++ [(y, z, r / 60 % 7)], _, _, _, _, rfl, Int.ediv_nonneg r0 (by decide), tw.add (t := (y, z, r / 60 % 7)) np nt my mz nyz v1 (by show r / 60 % 7 ≤ 1000000000; omega), by rw [List.length_append]; exact Nat.succ_le_succ hl⟩
      · refine ⟨_, rfl, .inl ⟨rfl, _, lstAt tw.d⟩, _, rfl, _, rfl, _, _, _, _, rfl, rfl, hB', ay, _, rfl, _, rfl, _, _, _, _, rfl, rfl, hB', az, _, rfl, (show (3 : Nat) ≤ sizeLine by decide), fun t nt => ?_⟩
        have Dt : p ≠ t := ne_of_none tw.d nt
        refine ⟨_, _, _, rfl, rfl, by rw [upd_ne Dt]; exact tw.d, by rw [List.length_map, tw.t.1]; exact small1000 (by omega), ?_⟩
        refine ⟨_, rfl, _, _, rfl, rfl, ⟨by decide, by decide, by decide⟩, _, _, rfl, rfl, _, _, rfl, rfl, .inl ⟨by decide, by decide⟩, _, _, rfl, rfl, wide_div (b := 40) (by decide) (by decide) (by decide) (by decide), ?_⟩
        exact ⟨_, es ++ [t], ts ++ [(y, z, r / 60 % 1000000001)], _, _, _, _, rfl, Int.ediv_nonneg r0 (by decide), tw.add (t := (y, z, r / 60 % 1000000001)) np nt my mz nyz u1 (by show r / 60 % 1000000001 ≤ 1000000000; omega), by rw [List.length_append]; exact Nat.succ_le_succ hl⟩
    · rintro σ H' ⟨r, es, ts, y1, y2, y3, y4, rfl, r0, tw, hl⟩
      exact ⟨_, rfl, q _ p es ts tw hl⟩
end
end TK

namespace TK
open PySem PySem.Spec PyProof.Rows L2
/-- o.m(k = v, ..) of an instance of the class at C -/
def tMethK (C : Addr) (m : Str) (n : Nat) (sp : Sp) (gV : List V → List V → List V) (E : XK) (ta : TE) (tk : TA) : TE := fun σ H Q => ta σ H fun x H1 => ∃ a dx fs, x = .ref a ∧ H1 a = some (.ins C dx fs) ∧ fs.lookup m = none ∧
  tk σ H1 fun zs H2 => zs.length = n ∧ sp (gV [x] zs) H2 Q E
section
variable {X : Cx} {CX : CXT} {k : Nat} {f C : Addr} {fd : FuncData} {ps ks : List Str} {sp : Sp} {E : XK} {m : Str} {pos apos : Pos} {o : Expr} {kws : List Keyword} {ta : TE} {tk : TA} {g : List Value → List Value → List Value} {gV : List V → List V → List V}
theorem run_kb {pins : List (Addr × Obj)} {σ : L2.St} {H : Hp} {s : Shared} {Q : VK} {n : Nat} {us ws : List Value} {vs zs : List V} (F : FnOk X.prog X.w X.K X.mg X.base CX k f fd ps sp) (hr : Room k X.A) (hb : KBn X.K fd ps n ks g gV) (hx : Passes CX X E)
    (I : Inv X pins σ H s) (r : Vals vs us) (rz : Vals zs ws) (l1 : us.length = n) (l2 : ws.length = ks.length) (h : sp (gV vs zs) H Q E) : wpAny (model X.prog X.w) X.A (call (.ref f) us (ks.zip ws)) (EP X pins σ Q) X.xe s := by
  refine wpAny_call (codeAny_mono (F.run X.A X.stack s H ⟨us, ks.zip ws⟩ (g us ws) (gV vs zs) Q E hr I.env0 (hb.to s us ws I.kIn l1 l2) (hb.rel r rz) h) fun r s' hq => ?_)
  cases r with
  | error e => exact hx pins σ H s e s' I hq
  | ok fl =>
    cases fl with
    | ret u => exact I.after hq
    | next => exact False.elim hq
    | brk => exact False.elim hq
    | cont => exact False.elim hq
theorem pe_methK0 {pl : Sem Bool} (he : PE X o ta) (c : Cls X.K C) (hm : Meth X.K C m f) (F : FnOk X.prog X.w X.K X.mg X.base CX k f fd ps sp) (hr : Room k X.A) (hb : KBn X.K fd ps 1 ks g gV) (hx : Passes CX X E) (hkw : PK X kws tk)
    (hall : (backToKw pos (keywordEach kws X.env)).all (·.1.isSome) = true := by rfl) (hks : (backToKw pos (keywordEach kws X.env)).filterMap (·.1) = ks := by rfl)
    (hpl : ((backTo pos (starEach [] X.env)).any (·.1) || (backToKw pos (keywordEach kws X.env)).any (·.1.isNone)) = false := by rfl)
    (ht : eval (.Call (.Attribute o m apos) [] kws pos) X.env = (do
      let ov ← eval o X.env
      standAt apos.atName
      let (f, first) ← holding [ov] (getMethod ov m pl)
      callWith pos f first (backTo pos (starEach [] X.env)) (backToKw pos (keywordEach kws X.env))) := by rfl) :
    PE X (.Call (.Attribute o m apos) [] kws pos) (tMethK C m ks.length sp gV E ta tk) := by
  refine ⟨fun pins s σ H Q I h => ?_⟩
  refine PySem.W.methodCall_KW (pl := pl) (thn (he.run pins s σ H _ I h) fun u s1 ⟨x, H1, I1, rx, a, dx, fs, ex, ea, l, q⟩ => ?_) ht
  subst ex
  obtain rfl : u = Value.ref a := rx
  refine getmeth_ok I1 ea c hm l ?_
  refine PySem.W.callWith_KW0 (first := [.ref a]) (h₀ := X.base) I.ok.mod.kin hm.kp hall ?_ hpl
  refine thn (hkw.run pos pins s1 σ H1 _ I1 q) fun ws s2 ⟨zs, H2, I2, rz, l1, q2⟩ => ⟨I2.kIn, ?_⟩
  rw [hks]
  exact run_kb (us := [.ref a]) (vs := [.ref a]) F hr hb hx I2 (.cons rfl .nil) rz rfl (rz.length.symm.trans l1) q2
end
section
variable {X : Cx} {K : PySem.W.Frag}
theorem call_tuple_ofK (h : X.K = K) : CallR X (.type "tuple") (fun xs H Q => ∃ p ys, xs = [.ref p] ∧ ((SqL K H p ys ∧ ∀ l, H l = none → Q (.ref l) (upd H l (.tup ys))) ∨ (SqT K H p ys ∧ Q (.ref p) H))) := h ▸ call_tuple_of
theorem call_list_ofK (h : X.K = K) : CallR X (.type "list") (fun xs H Q => ∃ p ys, xs = [.ref p] ∧ (SqL K H p ys ∨ SqT K H p ys) ∧ ∀ l, H l = none → Q (.ref l) (upd H l (.lst ys))) := h ▸ call_list_of
end
/-- what is no instance of the class, nor of one below it -/
inductive Odd (K : PySem.W.Frag) (C : Addr) (H : Hp) : V → Prop where
  | non (h : PySem.W.notFirst K C (.type "NoneType") = true) : Odd K C H .non
  | str (z : Str) (h : PySem.W.notFirst K C (.type "str") = true) : Odd K C H (.str z)
  | tup {a : Addr} {xs : List V} (e : H a = some (.tup xs)) (h : PySem.W.notFirst K C (.type "tuple") = true) : Odd K C H (.ref a)
section
variable {X : Cx} {K : PySem.W.Frag} {CX : CXT} {C g : Addr} {n : Nat} {fd : FuncData} {ps : List Str} {sp : Sp} {E : XK} {pins : List (Addr × Obj)} {σ : L2.St} {H : Hp} {s : Shared}
/-- o == y: y of one's own class, or of another kind -/
def rOwnA (K : PySem.W.Frag) (C : Addr) (sp : Sp) (E : XK) : R2 := fun x y H Q => IsIn H x C ∧ (IsIn H y C ∨ Odd K C H y) ∧ sp [x, y] H Q E
theorem odd_looks {x : V} {u : Value} (I : Inv X pins σ H s) (rx : RelV x u) (o : Odd X.K C H x) : ∃ tb, PySem.W.Looks (model X.prog X.w) s.heap (typeOf u) tb ∧ PySem.W.notFirst X.K C tb = true := by
  cases o with
  | non h => cases (show u = Value.none from rx); exact ⟨_, .now, h⟩
  | str z h => obtain ⟨t, q⟩ := (show ∃ t, u = Value.str z t from rx); cases q; exact ⟨_, .now, h⟩
  | @tup a xs ea h =>
    cases (show u = Value.ref a from rx)
    obtain ⟨_, _, _, o, h1, h2, _⟩ := (show ObjOk X.prog X.w H s.heap a (.tup xs) from I.hok a _ ea)
    exact ⟨_, h2 ▸ (PySem.W.Looks.ld h1).andThen .now, h⟩
theorem op_ownEqA {op : CmpOp} (hK : X.K = K) (hop : ∀ a b, compareOp op a b = richCompare op a b) (c : Own X.K C (cmpInfo op).2.1 g) (F : FnOk X.prog X.w X.K X.mg X.base CX n g fd ps sp) (hr : Room n X.A) (hb : Binds X.K fd ps []) (hx : Passes CX X E) :
    OpR X (compareOp op) (rOwnA K C sp E) := by
  subst hK
  intro pins s σ H x y v u Q I rx ry h
  obtain ⟨⟨a, dx, fs, rfl, ha⟩, hy, q⟩ := h
  cases rx
  obtain ⟨ox, od, J⟩ := own_at I ha
  obtain ⟨m, hF⟩ := I.fr
  rw [hop]
  have key : ∃ tb, PySem.W.Looks (model X.prog X.w) s.heap (typeOf u) tb ∧ PySem.W.notFirst X.K C tb = true := by
    rcases hy with ⟨b, dy, gs, rfl, hb'⟩ | o
    · cases ry
      obtain ⟨ox', od', J'⟩ := own_at I hb'
      exact ⟨_, J'.type, by simp [PySem.W.notFirst]⟩
    · exact odd_looks I ry o
  obtain ⟨tb, L, nf⟩ := key
  refine PySem.W.cmp_K (op := op) (tb := tb) hr.units0 hF I.ok.mod.kin J L nf c.at_ c.fn (wpAny_mono (run_own F hr I.env0 hb hx I (vs := [.ref a, y]) (.cons rfl (.cons ry .nil)) q) (fun w s' z => ?_) fun _ _ x => x)
  obtain ⟨z', H', I', rz, qz⟩ := z
  exact SlX.cmpback rz ⟨z', H', I', rz, qz⟩
end
end TK

namespace TK
open PySem PySem.Spec PyProof.Rows L2 NdefX
abbrev s_Links_len : Stmt := inClass (topS 29) 1
theorem sc_Links_len : FnScope ["self"] ["self"] (defScope s_Links_len) := ⟨rfl, rfl, rfl, by decide +kernel, rfl, by decide +kernel, by decide +kernel⟩
theorem gTup3 {K : PySem.W.Frag} {i j k : Nat} {e : Addr} {x y z : V} {σ : L2.St} {H : Hp} {Q : L2.St → Hp → Prop} (he : H e = some (.tup [x, y, z])) (σ' : L2.St) (hσ : ((σ.set i (some x)).set j (some y)).set k (some z) = σ') (h : Q σ' H) :
    gTup K 3 (gCons (gName i) (gCons (gName j) (gCons (gName k) gNil))) (.ref e) σ H Q := by
  subst hσ
  exact ⟨_, _, rfl, tupAt he, rfl, _, _, rfl, _, _, rfl, _, _, rfl, rfl, h⟩
/-! the mathematics of ways -/
abbrev inR (n : Nat) (k : Int) : Prop := 0 ≤ k ∧ k < (n : Int)
/-- the first number that no link has -/
def wrongO (n : Nat) (ks : List Int) : Option Int := ks.find? fun k => !decide (inR n k)
def tieAt (ts : List Tie) (k : Int) : Tie := ts.getD k.toNat ([], [], 0)
/-- where the links lead -/
def goI (ts : List Tie) (h : Nam) : List Int → Option Nam
  | [] => some h
  | k :: r => if inR ts.length k then (if (tieAt ts k).1 = h then goI ts (tieAt ts k).2.1 r else none) else none
def sumT (ts : List Tie) (ks : List Int) : Int := (ks.map fun k => (tieAt ts k).2.2).sum
theorem tie_get {ts : List Tie} {k : Int} (h : inR ts.length k) : ts[k.toNat]? = some (tieAt ts k) := by
  unfold tieAt
  rw [List.getD_eq_getElem?_getD, List.getElem?_eq_getElem (show k.toNat < ts.length by omega)]
  rfl
theorem ties_get {K : PySem.W.Frag} {H : Hp} {es : List Addr} {ts : List Tie} {k : Int} (hT : TiesAt H es ts) (h : inR ts.length k) : ∃ e, atI (es.map V.ref) k = some (.ref e) ∧ TieAt H e (tieAt ts k) := by
  have hl : k.toNat < es.length := by rw [hT.1]; omega
  obtain ⟨t, h1, h2⟩ := hT.2 k.toNat _ (List.getElem?_eq_getElem hl)
  rw [tie_get h] at h1
  cases h1
  exact ⟨_, atI_in h.1 (by rw [List.getElem?_map, List.getElem?_eq_getElem hl]; rfl), h2⟩
theorem wrong_snoc {n : Nat} {ks : List Int} {i : Nat} {k : Int} (e : ks[i]? = some k) (w : wrongO n (ks.take i) = none) : wrongO n (ks.take (i + 1)) = if inR n k then none else some k := by
  unfold wrongO at w ⊢
  rw [List.take_add_one, e, List.find?_append, w]
  by_cases h : inR n k
  · rw [if_pos h]; simp [h]
  · rw [if_neg h]; simp [h]
theorem wrong_stop {n : Nat} {ks : List Int} {i : Nat} {k : Int} (e : ks[i]? = some k) (w : wrongO n (ks.take i) = none) (h : ¬ inR n k) : wrongO n ks = some k := by
  have := wrong_snoc e w
  rw [if_neg h] at this
  unfold wrongO at this ⊢
  rw [← List.take_append_drop (i + 1) ks, List.find?_append, this]
  rfl
theorem wrong_none {n : Nat} {ks : List Int} (h : wrongO n ks = none) : ∀ k ∈ ks, inR n k := fun k m => by
  have := List.find?_eq_none.mp h k m
  simpa using this
theorem go_step {ts : List Tie} {h : Nam} {ks : List Int} {i : Nat} {k : Int} (e : ks[i]? = some k) : goI ts h (ks.drop i) = if inR ts.length k then (if (tieAt ts k).1 = h then goI ts (tieAt ts k).2.1 (ks.drop (i + 1)) else none) else none := by
  have hi := (List.getElem?_eq_some_iff.mp e)
  rw [List.drop_eq_getElem_cons hi.1, hi.2]
  rfl
theorem vN_dec (x z : Nam) : decide (vN x = vN z) = decide (x = z) := by
  by_cases e : x = z
  · rw [decide_eq_true e, decide_eq_true (congrArg vN e)]
  · rw [decide_eq_false e, decide_eq_false (show ¬ vN x = vN z from fun w => e (sOf_inj (V.str.inj w)))]
section
variable {P : Program} {w : World} {K : PySem.W.Frag} {mg : Str → Option Value} {base : Heap}
/-! len of links -/
def spLenL (C : Addr) : Sp := fun vs H Q _ => ∃ (p : Addr) (zs : List Nam) (es : List Addr) (ts : List Tie), vs = [.ref p] ∧ LkAt C H p zs es ts ∧ Q (.int ((ts.length : Nat) : Int)) H
theorem ok_Links_len {f C : Addr} {fd : FuncData} (F : Fun K "__len__" "Links.__len__" s_Links_len f fd) (T : TxtL K C) (m_len : mg "len" = none) : FnOk P w K mg base CX0 1 f fd ["self"] (spLenL C) := by
  refine F.ok sc_Links_len (fun vs H Q E h => ?_) (fun cdv A outer s H vs Q E hr h => ?_)
  · obtain ⟨p, zs, es, ts, rfl, _⟩ := h
    rfl
  · obtain ⟨p, zs, es, ts, rfl, ⟨dx, a, b, o, hp, _, _, _, hb, hT⟩, q⟩ := h
    refine ⟨_, (pss_one (ps_ret (pe_callB call_len_seq (by rfl) m_len (by decide +kernel) (pa_cons (pe_fld (pv 0) rfl) pa_nil)))), ?_⟩
    refine ⟨_, rfl, p, C, dx, _, _, rfl, hp, T.cl, T.nL, fldsL_links _ _, b, _, rfl, .inr (tupAt hb), ?_⟩
    rw [List.length_map, hT.1]
    exact q
/-! check_numbers -/
def spCheckNum (K : PySem.W.Frag) (C CN : Addr) : Sp := fun vs H Q E => ∃ (p a : Addr) (zs : List Nam) (es : List Addr) (ts : List Tie) (ks : List Int), vs = [.ref p, .ref a] ∧ LkAt C H p zs es ts ∧ ts.length ≤ 12 ∧ SqS K H a (ks.map V.int) ∧
  ((wrongO ts.length ks = none ∧ Q .non H) ∨ (∃ k, wrongO ts.length ks = some k ∧ ∀ H' d, H d = none → Same H H' → H' d = some (.xd [("number", .int k)]) → E (.ref CN) (some d) H'))
theorem ok_check_numbers {f C CN fN gL : Addr} {fd fdN fdL : FuncData} (F : Fun K "check_numbers" "check_numbers" s_check_numbers f fd) (TN : SupT P w K mg base "NoLink" "number" "number" (fun _ => True) CN fN fdN) (m_len : mg "len" = none)
    (O_Links_len : Own K C "__len__" gL) (G_Links_len : FnOk P w K mg base CX0 1 gL fdL ["self"] (spLenL C)) (b_Links_len : Binds K fdL ["self"] []) : FnOk P w K mg base (L2.CX P w) 4 f fd ["links", "numbers"] (spCheckNum K C CN) := by
  refine F.okX sc_check_numbers (fun vs H Q E h => ?_) (fun cdv A outer s H vs Q E hr h => ?_)
  · obtain ⟨p, a, zs, es, ts, ks, rfl, _⟩ := h
    rfl
  · obtain ⟨p, a, zs, es, ts, ks, rfl, lk, t12, hS, q⟩ := h
    obtain ⟨dx, na, lb, o, hp, _⟩ := id lk
    refine ⟨_, (pss_one (ps_for (passes_of rfl) rfl (pi_or (pi_list (pv 1)) (pi_tup (pv 1))) (pg_name (i := 2) sc_check_numbers.nd rfl (.inl rfl))
    (pss_one (ps_if (pt_not (pt_chain op_le op_lt pe_int (pv 2) (pe_callB (call_lenOwn O_Links_len G_Links_len (hr.mono (by decide)) b_Links_len pass0) (by rfl) m_len (by decide +kernel) (pa_cons (pv 0) pa_nil)))) (pss_one (ps_raiseSup rfl TN (hr.mono (by decide)) (takes_of rfl rfl rfl rfl) (pa_cons (pv 2) pa_nil) (by rfl))) pss_nil)))), ?_⟩
    rcases hS with hS | hS
    · refine .inl ⟨_, rfl, a, rfl, ⟨_, hS⟩, for_list (K := K) (a := a) (xs := ks.map V.int) (fun i σ H' => H' = H ∧ (∃ y2 : Option V, σ = [some (.ref p), some (.ref a), y2]) ∧ wrongO ts.length (ks.take i) = none) ⟨rfl, ⟨none, rfl⟩, rfl⟩ (fun i σ H' _ hq => by rw [hq.1]; exact hS) ?_ ?_⟩
      · rintro i x σ H1 hx ⟨rfl, ⟨y2, rfl⟩, hw⟩
        obtain ⟨k, ek, rfl⟩ := int_at hx
        have stop : ¬ inR ts.length k → ∃ k', wrongO ts.length ks = some k' ∧ k' = k := fun h => ⟨k, wrong_stop ek hw h, rfl⟩
        refine ⟨_, rfl, _, _, rfl, rfl, _, rfl, ?_⟩
        by_cases h0 : 0 ≤ k
        · rw [decide_eq_true h0]
          refine iteT ⟨_, rfl, p, dx, _, rfl, hp, p, zs, es, ts, rfl, lk, _, rfl, by omega, by omega, _, _, rfl, rfl, _, rfl, ?_⟩
          by_cases h1 : k < (ts.length : Int)
          · rw [decide_eq_true h1]
            exact iteF ⟨rfl, ⟨_, rfl⟩, by rw [wrong_snoc ek hw, if_pos ⟨h0, h1⟩]⟩
          · rw [decide_eq_false h1]
            obtain ⟨k', e', rfl⟩ := stop fun z => h1 z.2
            rcases q with ⟨w0, _⟩ | ⟨k2, w2, q⟩
            · rw [w0] at e'; cases e'
            · rw [w2] at e'
              cases e'
              exact iteT ⟨_, rfl, sup_read trivial fun d nd => q _ d nd (same_upd nd) upd_same⟩
        · rw [decide_eq_false h0]
          obtain ⟨k', e', rfl⟩ := stop fun z => h0 z.1
          rcases q with ⟨w0, _⟩ | ⟨k2, w2, q⟩
          · rw [w0] at e'; cases e'
          · rw [w2] at e'
            cases e'
            exact iteF ⟨_, rfl, iteT ⟨_, rfl, sup_read trivial fun d nd => q _ d nd (same_upd nd) upd_same⟩⟩
      · rintro σ H1 ⟨rfl, ⟨y2, rfl⟩, hw⟩
        rw [List.length_map, List.take_length] at hw
        rcases q with ⟨w0, q⟩ | ⟨k2, w2, q⟩
        · exact q
        · rw [hw] at w2; cases w2
    · refine .inr ⟨_, rfl, a, rfl, ⟨_, hS⟩, for_tup (K := K) (a := a) (xs := ks.map V.int) (fun i σ H' => H' = H ∧ (∃ y2 : Option V, σ = [some (.ref p), some (.ref a), y2]) ∧ wrongO ts.length (ks.take i) = none) ⟨rfl, ⟨none, rfl⟩, rfl⟩ (fun i σ H' _ hq => by rw [hq.1]; exact hS) ?_ ?_⟩
      · rintro i x σ H1 hx ⟨rfl, ⟨y2, rfl⟩, hw⟩
        obtain ⟨k, ek, rfl⟩ := int_at hx
        have stop : ¬ inR ts.length k → ∃ k', wrongO ts.length ks = some k' ∧ k' = k := fun h => ⟨k, wrong_stop ek hw h, rfl⟩
        refine ⟨_, rfl, _, _, rfl, rfl, _, rfl, ?_⟩
        by_cases h0 : 0 ≤ k
        · rw [decide_eq_true h0]
          refine iteT ⟨_, rfl, p, dx, _, rfl, hp, p, zs, es, ts, rfl, lk, _, rfl, by omega, by omega, _, _, rfl, rfl, _, rfl, ?_⟩
          by_cases h1 : k < (ts.length : Int)
          · rw [decide_eq_true h1]
            exact iteF ⟨rfl, ⟨_, rfl⟩, by rw [wrong_snoc ek hw, if_pos ⟨h0, h1⟩]⟩
          · rw [decide_eq_false h1]
            obtain ⟨k', e', rfl⟩ := stop fun z => h1 z.2
            rcases q with ⟨w0, _⟩ | ⟨k2, w2, q⟩
            · rw [w0] at e'; cases e'
            · rw [w2] at e'
              cases e'
              exact iteT ⟨_, rfl, sup_read trivial fun d nd => q _ d nd (same_upd nd) upd_same⟩
        · rw [decide_eq_false h0]
          obtain ⟨k', e', rfl⟩ := stop fun z => h0 z.1
          rcases q with ⟨w0, _⟩ | ⟨k2, w2, q⟩
          · rw [w0] at e'; cases e'
          · rw [w2] at e'
            cases e'
            exact iteF ⟨_, rfl, iteT ⟨_, rfl, sup_read trivial fun d nd => q _ d nd (same_upd nd) upd_same⟩⟩
      · rintro σ H1 ⟨rfl, ⟨y2, rfl⟩, hw⟩
        rw [List.length_map, List.take_length] at hw
        rcases q with ⟨w0, q⟩ | ⟨k2, w2, q⟩
        · exact q
        · rw [hw] at w2; cases w2
/-! is_way -/
def spIsWay (K : PySem.W.Frag) (C : Addr) : Sp := fun vs H Q _ => ∃ (p a : Addr) (zs : List Nam) (es : List Addr) (ts : List Tie) (ks : List Int) (x y : Nam), vs = [.ref p, vN x, vN y, .ref a] ∧ LkAt C H p zs es ts ∧ ts.length ≤ 12 ∧ SqS K H a (ks.map V.int) ∧ x ∈ zs ∧ y ∈ zs ∧
  ∀ H', Same H H' → Q (.bl (decide (goI ts x ks = some y))) H'
theorem ok_is_way {f C gL : Addr} {fd fdL : FuncData} (F : Fun K "is_way" "is_way" s_is_way f fd) (T : TxtL K C) (m_len : mg "len" = none) (O_Links_len : Own K C "__len__" gL) (G_Links_len : FnOk P w K mg base CX0 1 gL fdL ["self"] (spLenL C)) (b_Links_len : Binds K fdL ["self"] [])
    (d_check_known : Def P w K mg base "check_known" 1 ["names", "known"] (spKnown K)) : FnOk P w K mg base CX0 3 f fd ["links", "giver", "taker", "numbers"] (spIsWay K C) := by
  refine F.ok sc_is_way (fun vs H Q E h => ?_) (fun cdv A outer s H vs Q E hr h => ?_)
  · obtain ⟨p, a, zs, es, ts, ks, x, y, rfl, _⟩ := h
    rfl
  · obtain ⟨p, a, zs, es, ts, ks, x, y, rfl, lk, t12, hS, hx, hy, q⟩ := h
    obtain ⟨dx, na, lb, o, hp, hn, _, _, hb, hT⟩ := id lk
    refine ⟨_, (pss_cons (ps_expr (pe_callD d_check_known (hr.mono (by decide)) (by rfl) (pa_cons (pe_lst (pa_cons (pv 1) (pa_cons (pv 2) pa_nil))) (pa_cons (pe_fld (pv 0) rfl) pa_nil))))
  (pss_cons (ps_set (i := 4) sc_is_way.nd rfl (.inl rfl) (pv 1))
  (pss_cons (ps_for PassesOwn.never rfl (pi_or (pi_list (pv 3)) (pi_tup (pv 3))) (pg_name (i := 5) sc_is_way.nd rfl (.inl rfl))
    (pss_cons (ps_if (pt_not (pt_chain op_le op_lt pe_int (pv 5) (pe_callB (call_lenOwn O_Links_len G_Links_len (hr.mono (by decide)) b_Links_len pass0) (by rfl) m_len (by decide +kernel) (pa_cons (pv 0) pa_nil)))) (pss_one (ps_ret pe_bl)) pss_nil)
  (pss_cons (ps_asg (pe_ix ix_tup (pe_fld (pv 0) rfl) (pv 5) (fun _ _ => rfl)) (pg_tup (by rfl) (pgs_cons (pg_name (i := 6) sc_is_way.nd rfl (.inl rfl)) (pgs_cons (pg_name (i := 7) sc_is_way.nd rfl (.inl rfl)) (pgs_cons (pg_name (i := 8) sc_is_way.nd rfl (.inl rfl)) pgs_nil)))))
  (pss_cons (ps_if (pt_cmpR op_ne (pv 6) (pv 4) (nomark _)) (pss_one (ps_ret pe_bl)) pss_nil)
  (pss_one (ps_set (i := 4) sc_is_way.nd rfl (.inl rfl) (pv 7)))))))
  (pss_one (ps_ret (pe_cmpR op_eq (pv 4) (pv 2) (nomark _))))))), ?_⟩
    refine ⟨_, rfl, _, rfl, (show (2 : Nat) ≤ sizeLine by decide), fun L nL => ?_⟩
    have sL := same_upd (o := .lst [vN x, vN y]) nL
    refine ⟨_, rfl, p, C, dx, _, _, rfl, sL _ _ hp, T.cl, T.nN, fldsL_names _ _, L, na, [x, y], zs, rfl, .inl (lstAt upd_same), .inr (tupFrz (sL _ _ hn)), (fun z m => by rcases List.mem_cons.mp m with rfl | m; exact hx; rw [List.mem_singleton.mp m]; exact hy), ?_⟩
    have lk1 := lk.same sL
    have hp1 := sL _ _ hp
    have hb1 := sL _ _ hb
    have hT1 := hT.same sL
    have hS1 := hS.same sL
    have q1 : ∀ b : Bool, b = decide (goI ts x ks = some y) → Q (.bl b) (upd H L (.lst [vN x, vN y])) := fun b e => by rw [e]; exact q _ sL
    generalize upd H L (.lst [vN x, vN y]) = H1 at lk1 hp1 hb1 hT1 hS1 q1 ⊢
    refine ⟨_, rfl, ?_⟩
    rcases hS1 with hS1 | hS1
    · refine .inl ⟨_, rfl, a, rfl, ⟨_, hS1⟩, for_list (K := K) (a := a) (xs := ks.map V.int) (fun i σ H' => H' = H1 ∧ ∃ (h : Nam) (y5 y6 y7 y8 : Option V), σ = [some (.ref p), some (vN x), some (vN y), some (.ref a), some (vN h), y5, y6, y7, y8] ∧ goI ts x ks = goI ts h (ks.drop i)) ⟨rfl, x, none, none, none, none, rfl, rfl⟩ (fun i σ H' _ hq => by rw [hq.1]; exact hS1) ?_ ?_⟩
      · rintro i v σ H2 hv ⟨rfl, h, y5, y6, y7, y8, rfl, eg⟩
        obtain ⟨k, ek, rfl⟩ := int_at hv
        rw [go_step ek] at eg
        refine ⟨_, rfl, _, _, rfl, rfl, _, rfl, ?_⟩
        by_cases h0 : 0 ≤ k
        · rw [decide_eq_true h0]
          refine iteT ⟨_, rfl, p, dx, _, rfl, hp1, p, zs, es, ts, rfl, lk1, _, rfl, by omega, by omega, _, _, rfl, rfl, _, rfl, ?_⟩
          by_cases h1 : k < (ts.length : Int)
          · rw [decide_eq_true h1]
            rw [if_pos ⟨h0, h1⟩] at eg
            obtain ⟨e, ae, te⟩ := ties_get (K := K) hT1 ⟨h0, h1⟩
            refine iteF ⟨_, rfl, p, C, dx, _, _, rfl, hp1, T.cl, T.nL, fldsL_links _ _, _, rfl, _, _, _, _, rfl, rfl, tupAt hb1, ae, ?_⟩
            refine gTup3 te [some (.ref p), some (vN x), some (vN y), some (.ref a), some (vN h), some (.int k), some (vN (tieAt ts k).1), some (vN (tieAt ts k).2.1), some (.int (tieAt ts k).2.2)] rfl ?_
            refine ⟨_, rfl, _, rfl, rfl, _, rfl, ?_⟩
            rw [vN_dec]
            by_cases e1 : (tieAt ts k).1 = h
            · rw [decide_eq_true e1]
              rw [if_pos e1] at eg
              exact iteF ⟨_, rfl, rfl, _, _, _, _, _, rfl, eg⟩
            · rw [decide_eq_false e1]
              rw [if_neg e1] at eg
              exact iteT (q1 false (by rw [eg]; rfl))
          · rw [decide_eq_false h1]
            rw [if_neg (fun z => h1 z.2)] at eg
            exact iteT (q1 false (by rw [eg]; rfl))
        · rw [decide_eq_false h0]
          rw [if_neg (fun z => h0 z.1)] at eg
          exact iteF ⟨_, rfl, iteT (q1 false (by rw [eg]; rfl))⟩
      · rintro σ H2 ⟨rfl, h, y5, y6, y7, y8, rfl, eg⟩
        rw [List.length_map, List.drop_length] at eg
        refine ⟨_, rfl, _, rfl, rfl, q1 _ ?_⟩
        rw [vN_dec, eg]
        exact decide_eq_decide.mpr ⟨fun e => congrArg some e, fun e => Option.some.inj e⟩
    · refine .inr ⟨_, rfl, a, rfl, ⟨_, hS1⟩, for_tup (K := K) (a := a) (xs := ks.map V.int) (fun i σ H' => H' = H1 ∧ ∃ (h : Nam) (y5 y6 y7 y8 : Option V), σ = [some (.ref p), some (vN x), some (vN y), some (.ref a), some (vN h), y5, y6, y7, y8] ∧ goI ts x ks = goI ts h (ks.drop i)) ⟨rfl, x, none, none, none, none, rfl, rfl⟩ (fun i σ H' _ hq => by rw [hq.1]; exact hS1) ?_ ?_⟩
      · rintro i v σ H2 hv ⟨rfl, h, y5, y6, y7, y8, rfl, eg⟩
        obtain ⟨k, ek, rfl⟩ := int_at hv
        rw [go_step ek] at eg
        refine ⟨_, rfl, _, _, rfl, rfl, _, rfl, ?_⟩
        by_cases h0 : 0 ≤ k
        · rw [decide_eq_true h0]
          refine iteT ⟨_, rfl, p, dx, _, rfl, hp1, p, zs, es, ts, rfl, lk1, _, rfl, by omega, by omega, _, _, rfl, rfl, _, rfl, ?_⟩
          by_cases h1 : k < (ts.length : Int)
          · rw [decide_eq_true h1]
            rw [if_pos ⟨h0, h1⟩] at eg
            obtain ⟨e, ae, te⟩ := ties_get (K := K) hT1 ⟨h0, h1⟩
            refine iteF ⟨_, rfl, p, C, dx, _, _, rfl, hp1, T.cl, T.nL, fldsL_links _ _, _, rfl, _, _, _, _, rfl, rfl, tupAt hb1, ae, ?_⟩
            refine gTup3 te [some (.ref p), some (vN x), some (vN y), some (.ref a), some (vN h), some (.int k), some (vN (tieAt ts k).1), some (vN (tieAt ts k).2.1), some (.int (tieAt ts k).2.2)] rfl ?_
            refine ⟨_, rfl, _, rfl, rfl, _, rfl, ?_⟩
            rw [vN_dec]
            by_cases e1 : (tieAt ts k).1 = h
            · rw [decide_eq_true e1]
              rw [if_pos e1] at eg
              exact iteF ⟨_, rfl, rfl, _, _, _, _, _, rfl, eg⟩
            · rw [decide_eq_false e1]
              rw [if_neg e1] at eg
              exact iteT (q1 false (by rw [eg]; rfl))
          · rw [decide_eq_false h1]
            rw [if_neg (fun z => h1 z.2)] at eg
            exact iteT (q1 false (by rw [eg]; rfl))
        · rw [decide_eq_false h0]
          rw [if_neg (fun z => h0 z.1)] at eg
          exact iteF ⟨_, rfl, iteT (q1 false (by rw [eg]; rfl))⟩
      · rintro σ H2 ⟨rfl, h, y5, y6, y7, y8, rfl, eg⟩
        rw [List.length_map, List.drop_length] at eg
        refine ⟨_, rfl, _, rfl, rfl, q1 _ ?_⟩
        rw [vN_dec, eg]
        exact decide_eq_decide.mpr ⟨fun e => congrArg some e, fun e => Option.some.inj e⟩
/-! way_toll -/
def spWayToll (K : PySem.W.Frag) (C CN : Addr) : Sp := fun vs H Q E => ∃ (p a : Addr) (zs : List Nam) (es : List Addr) (ts : List Tie) (ks : List Int), vs = [.ref p, .ref a] ∧ LkAt C H p zs es ts ∧ ts.length ≤ 12 ∧ SqS K H a (ks.map V.int) ∧ ks.length ≤ 1000 ∧
  ((wrongO ts.length ks = none ∧ ∀ H', Same H H' → Q (.int (sumT ts ks)) H') ∨ (∃ k, wrongO ts.length ks = some k ∧ ∀ H' d, H d = none → Same H H' → H' d = some (.xd [("number", .int k)]) → E (.ref CN) (some d) H'))
theorem ok_way_toll {f C CN fC : Addr} {fd fdC : FuncData} (F : Fun K "way_toll" "way_toll" s_way_toll f fd) (T : TxtL K C) (m_sum : mg "sum" = none)
    (G_check_numbers : FnOk P w K mg base (L2.CX P w) 4 fC fdC ["links", "numbers"] (spCheckNum K C CN)) (g_check_numbers : mg "check_numbers" = some (.ref fC)) (k_check_numbers : PySem.W.keepIn K (.ref fC) = true) (b_check_numbers : Binds K fdC ["links", "numbers"] []) :
    FnOk P w K mg base (L2.CX P w) 5 f fd ["links", "numbers"] (spWayToll K C CN) := by
  refine F.okX sc_way_toll (fun vs H Q E h => ?_) (fun cdv A outer s H vs Q E hr h => ?_)
  · obtain ⟨p, a, zs, es, ts, ks, rfl, _⟩ := h
    rfl
  · obtain ⟨p, a, zs, es, ts, ks, rfl, lk, t12, hS, kl, q⟩ := h
    obtain ⟨dx, na, lb, o, hp, hn, _, _, hb, hT⟩ := id lk
    refine ⟨_, (pss_cons (ps_expr (pe_callS (E := fun _ => E) G_check_numbers (hr.mono (by decide)) (by rfl) g_check_numbers k_check_numbers b_check_numbers (fun σ => passAt (takes_of rfl rfl rfl rfl) σ) (pa_cons (pv 0) (pa_cons (pv 1) pa_nil))))
  (PSs.nox (pss_one (ps_ret (pe_callB (cr_sum rfl) (by rfl) m_sum (by decide +kernel) (pa_cons (pe_lc (own := [("number", 2)]) (by rfl) sc_way_toll.nd (pi_or (pi_list (pv 1)) (pi_tup (pv 1))) (blkOk_by (N := ["links", "numbers", "number"]) (sc := defScope s_way_toll) (by decide +kernel)) (fun _ _ _ _ _ => (pg_name (i := 2) sc_way_toll.nd rfl (.inl rfl))) (fun _ _ _ _ _ => pts_nil) (fun _ _ _ _ _ => (pe_ix (ix_tupK (K := K) rfl) (pe_ix (ix_tupK (K := K) rfl) (pe_fldK (K := K) rfl (pv 0) rfl) (pv 2) (fun _ _ => rfl)) pe_int (fun _ _ => rfl)))) pa_nil)))))), ?_⟩
    rcases q with ⟨w0, q⟩ | ⟨k, wk, q⟩
    · refine ⟨_, rfl, _, rfl, p, a, zs, es, ts, ks, rfl, lk, t12, hS, .inl ⟨w0, ?_⟩⟩
      have wn := wrong_none w0
      rcases hS with hS | hS
      · refine .inl ⟨_, rfl, a, rfl, ⟨_, hS⟩, fun D nD => ?_⟩
        refine lc_list (K := K) (a := a) (xs := ks.map V.int) (fun i H' => Same H H' ∧ H' D = some (.lst (((ks.take i).map fun k => (tieAt ts k).2.2).map V.int))) ⟨same_upd nD, upd_same⟩ (fun i H' _ hq => hq.1.seq hS) (fun i v H' hv hq => ?_) (fun H' hq => ?_)
        · obtain ⟨s1, eD⟩ := hq
          obtain ⟨k, ek, rfl⟩ := int_at hv
          have hi : i < ks.length := (List.getElem?_eq_some_iff.mp ek).1
          obtain ⟨e, ae, te⟩ := ties_get (K := K) (hT.same s1) (wn k (List.mem_of_getElem? ek))
          refine ⟨rfl, yesT ⟨_, rfl, p, C, dx, _, _, rfl, s1 _ _ hp, T.cl, T.nL, fldsL_links _ _, _, rfl, _, _, _, _, rfl, rfl, tupAt (s1 _ _ hb), ae, _, _, _, _, rfl, rfl, tupAt te, rfl, _, eD, ?_, same_at s1 nD, ?_⟩⟩
          · rw [List.length_map, List.length_map, List.length_take]; exact small1000 (by omega)
          · rw [List.take_add_one, ek, List.map_append, List.map_append, upd_same]
            rfl
        · obtain ⟨s1, eD⟩ := hq
          rw [List.length_map, List.take_length] at eD
          exact ⟨D, _, rfl, lstAt eD, q _ s1⟩
      · refine .inr ⟨_, rfl, a, rfl, ⟨_, hS⟩, fun D nD => ?_⟩
        refine lc_tup (K := K) (a := a) (xs := ks.map V.int) (fun i H' => Same H H' ∧ H' D = some (.lst (((ks.take i).map fun k => (tieAt ts k).2.2).map V.int))) ⟨same_upd nD, upd_same⟩ (fun i H' _ hq => same_tup hq.1 hS) (fun i v H' hv hq => ?_) (fun H' hq => ?_)
        · obtain ⟨s1, eD⟩ := hq
          obtain ⟨k, ek, rfl⟩ := int_at hv
          have hi : i < ks.length := (List.getElem?_eq_some_iff.mp ek).1
          obtain ⟨e, ae, te⟩ := ties_get (K := K) (hT.same s1) (wn k (List.mem_of_getElem? ek))
          refine ⟨rfl, yesT ⟨_, rfl, p, C, dx, _, _, rfl, s1 _ _ hp, T.cl, T.nL, fldsL_links _ _, _, rfl, _, _, _, _, rfl, rfl, tupAt (s1 _ _ hb), ae, _, _, _, _, rfl, rfl, tupAt te, rfl, _, eD, ?_, same_at s1 nD, ?_⟩⟩
          · rw [List.length_map, List.length_map, List.length_take]; exact small1000 (by omega)
          · rw [List.take_add_one, ek, List.map_append, List.map_append, upd_same]
            rfl
        · obtain ⟨s1, eD⟩ := hq
          rw [List.length_map, List.take_length] at eD
          exact ⟨D, _, rfl, lstAt eD, q _ s1⟩
    · exact ⟨_, rfl, _, rfl, p, a, zs, es, ts, ks, rfl, lk, t12, hS, .inr ⟨k, wk, fun H' d nd s e => q H' d nd s e⟩⟩
end
end TK

namespace TK
open PySem PySem.Spec PyProof.Rows L2
/-! the dict name -> price -/
def kvP (pr : Nam → Option Int) (z : Nam) : Key × V := (Sum.inr (sOf z), capV (pr z))
theorem key_eq {a b : Nam} : decide ((Sum.inr (sOf a) : Key) = Sum.inr (sOf b)) = decide (a = b) := decide_eq_decide.mpr ⟨fun h => sOf_inj (Sum.inr.inj h), fun h => by rw [h]⟩
theorem valP {zs : List Nam} {pr : Nam → Option Int} {z : Nam} (h : z ∈ zs) : valV (zs.map (kvP pr)) (Sum.inr (sOf z) : Key) = some (capV (pr z)) := by
  induction zs with
  | nil => cases h
  | cons a zs ih =>
    by_cases e : a = z
    · subst e
      exact valV_pos (p := kvP pr a) rfl
    · rw [List.map_cons, valV_neg (p := kvP pr a) (fun q => e (sOf_inj (Sum.inr.inj q)))]
      rcases List.mem_cons.mp h with q | q
      · exact absurd q.symm e
      · exact ih q
theorem valP_none {zs : List Nam} {pr : Nam → Option Int} {z : Nam} (h : z ∉ zs) : valV (zs.map (kvP pr)) (Sum.inr (sOf z) : Key) = none := by
  induction zs with
  | nil => rfl
  | cons a zs ih =>
    rw [List.map_cons, valV_neg (p := kvP pr a) (fun q => h (by rw [sOf_inj (Sum.inr.inj q)]; exact List.mem_cons_self))]
    exact ih fun q => h (List.mem_cons_of_mem _ q)
theorem putP {zs : List Nam} {pr : Nam → Option Int} {z : Nam} {x : Option Int} (h : z ∈ zs) : putK (zs.map (kvP pr)) (Sum.inr (sOf z) : Key) (capV x) = zs.map (kvP fun w => if w = z then x else pr w) := by
  unfold putK
  rw [if_pos (List.any_eq_true.mpr ⟨kvP pr z, List.mem_map.mpr ⟨z, h, rfl⟩, decide_eq_true rfl⟩), List.map_map]
  refine List.map_congr_left fun w _ => ?_
  show (if (Sum.inr (sOf w) : Key) = Sum.inr (sOf z) then ((Sum.inr (sOf w) : Key), capV x) else kvP pr w) = (Sum.inr (sOf w), capV (if w = z then x else pr w))
  by_cases e : w = z
  · rw [if_pos (by rw [e]), if_pos e]
  · rw [if_neg (fun q => e (sOf_inj (Sum.inr.inj q))), if_neg e]
    rfl
theorem putP_new {zs : List Nam} {pr : Nam → Option Int} {i : Nat} {z : Nam} (nd : zs.Nodup) (h : zs[i]? = some z) : putK ((zs.take i).map (kvP pr)) (Sum.inr (sOf z) : Key) (capV (pr z)) = (zs.take (i + 1)).map (kvP pr) := by
  rw [putK_new _ (valP_none (not_before nd h)), List.take_add_one, h, List.map_append]
  rfl
theorem relax_eq (pr : Nam → Option Int) (t : Tie) : (fun w => if w = t.2.1 then minO (pr t.2.1) (plusO (pr t.1) t.2.2) else pr w) = relax pr t := rfl
theorem sweep_snoc {ts : List Tie} {j : Nat} {t : Tie} {pr : Nam → Option Int} (h : ts[j]? = some t) : sweep (ts.take (j + 1)) pr = relax (sweep (ts.take j) pr) t := by
  unfold sweep
  rw [List.take_add_one, h, List.foldl_append]
  rfl
theorem none_of {H H' : Hp} {p : Addr} (s : Same H H') (n : H' p = none) : H p = none := by
  cases e : H p with
  | none => rfl
  | some o => rw [s _ _ e] at n; cases n
section
variable {P : Program} {w : World} {K : PySem.W.Frag} {mg : Str → Option Value} {base : Heap}
/-! potentials -/
def potV (zs ks : List Nam) (ts : List Tie) : List V := zs.map fun z => capV (pot zs ks ts z)
def spPot (K : PySem.W.Frag) (C : Addr) : Sp := fun vs H Q _ => ∃ (p a : Addr) (zs : List Nam) (es : List Addr) (ts : List Tie) (ks : List Nam), vs = [.ref p, .ref a] ∧ LkAt C H p zs es ts ∧ SqS K H a (ks.map vN) ∧ LOk zs ts ∧ (∀ k ∈ ks, k ∈ zs) ∧
  ∀ H' q, H q = none → Same H H' → H' q = some (.lst (potV zs ks ts)) → Q (.ref q) H'
theorem ok_potentials {f C gi : Addr} {fd : FuncData} (F : Fun K "potentials" "potentials" s_potentials f fd) (T : TxtL K C) (O_Links_iter : Own K C "__iter__" gi) (I_Links : FnIt P w K mg base 1 gi (RLk K C))
    (d_check_known : Def P w K mg base "check_known" 1 ["names", "known"] (spKnown K)) (d_plus : Def P w K mg base "plus" 1 ["price", "other"] spPlus) (d_least : Def P w K mg base "least" 1 ["prices"] (spLeast K)) :
    FnOk P w K mg base CX0 2 f fd ["links", "givers"] (spPot K C) := by
  refine F.ok sc_potentials (fun vs H Q E h => ?_) (fun cdv A outer s H vs Q E hr h => ?_)
  · obtain ⟨p, a, zs, es, ts, ks, rfl, _⟩ := h
    rfl
  · obtain ⟨p, a, zs, es, ts, ks, rfl, lk, hS, ok, sub, q⟩ := h
    obtain ⟨dx, n, b, o, hp, hn, hc, hd, hb, hT⟩ := id lk
    have hN : SqT K H n (zs.map vN) := tupFrz hn
    have zl : (zs.map vN).length = zs.length := List.length_map ..
    have el : (es.map V.ref).length = ts.length := by rw [List.length_map, hT.1]
    have z6 := ok.l6
    refine ⟨_, (pss_cons (ps_expr (pe_callD d_check_known (hr.mono (by decide)) (by rfl) (pa_cons (pv 1) (pa_cons (pe_fld (pv 0) rfl) pa_nil))))
  (pss_cons (ps_set (i := 2) sc_potentials.nd rfl (.inr rfl) (pe_dc (own := [("name", 7)]) (by rfl) sc_potentials.nd (pi_tup (pe_fld (pv 0) rfl)) (blkOk_by (N := ["links", "givers", "prices", "_", "giver", "taker", "toll", "name"]) (sc := defScope s_potentials) (by decide +kernel)) (fun _ _ _ _ _ => (pg_name (i := 7) sc_potentials.nd rfl (.inl rfl))) (fun _ _ _ _ _ => pts_nil) (fun _ _ _ _ _ => (pv 7)) (fun _ _ _ _ _ => (pe_ifExp (pt_cmpR (op_in_seqK (K := K) rfl) (pv 7) (pv 1) (by rfl)) pe_int pe_non))))
  (pss_cons (ps_for PassesOwn.never rfl (pi_tup (pe_fld (pv 0) rfl)) (pg_name (i := 3) sc_potentials.nd rfl (.inl rfl))
    (pss_one (ps_for PassesOwn.never rfl (pi_own O_Links_iter I_Links (hr.mono (by decide)) (pv 0)) (pg_tup (by rfl) (pgs_cons (pg_name (i := 4) sc_potentials.nd rfl (.inl rfl)) (pgs_cons (pg_name (i := 5) sc_potentials.nd rfl (.inl rfl)) (pgs_cons (pg_name (i := 6) sc_potentials.nd rfl (.inl rfl)) pgs_nil))))
    (pss_one (ps_dput (hu_of hr) (pv 2) (pv 5) (pe_callD d_least (hr.mono (by decide)) (by rfl) (pa_cons (pe_lst (pa_cons (pe_dget (hu_of hr) (pv 2) (pv 5) (fun _ _ => rfl)) (pa_cons (pe_callD d_plus (hr.mono (by decide)) (by rfl) (pa_cons (pe_dget (hu_of hr) (pv 2) (pv 4) (fun _ _ => rfl)) (pa_cons (pv 6) pa_nil))) pa_nil))) pa_nil)) rfl)))))
  (pss_one (ps_ret (pe_lc (own := [("name", 7)]) (by rfl) sc_potentials.nd (pi_tup (pe_fld (pv 0) rfl)) (blkOk_by (N := ["links", "givers", "prices", "_", "giver", "taker", "toll", "name"]) (sc := defScope s_potentials) (by decide +kernel)) (fun _ _ _ _ _ => (pg_name (i := 7) sc_potentials.nd rfl (.inl rfl))) (fun _ _ _ _ _ => pts_nil) (fun _ _ _ _ _ => (pe_dget (hu_of hr) (pv 2) (pv 7) (fun _ _ => rfl))))))))), ?_⟩
    refine ⟨_, rfl, _, rfl, p, C, dx, _, _, rfl, hp, T.cl, T.nN, fldsL_names _ _, a, n, ks, zs, rfl, hS, .inr hN, sub, ?_⟩
    refine ⟨_, rfl, p, C, dx, _, _, rfl, hp, T.cl, T.nN, fldsL_names _ _, n, rfl, ⟨_, hN⟩, fun D nD => ?_⟩
    refine dc_tup (K := K) (a := n) (xs := zs.map vN) (fun i H' => H' = upd H D (.dK ((zs.take i).map (kvP (prS ks))))) rfl (fun i H' _ e => e ▸ same_tup (same_upd nD) hN) (fun i x H' hx hq => ?_) (fun H' hq => ?_)
    · subst hq
      obtain ⟨z, ez, rfl⟩ := vN_at hx
      have sD := same_upd (o := .dK ((zs.take i).map (kvP (prS ks)))) nD
      have hS' : SqS K (upd H D (.dK ((zs.take i).map (kvP (prS ks))))) a (ks.map vN) := hS.same sD
      have hz : ((zs.take i).map (kvP (prS ks))).length < sizeLine := by rw [List.length_map, List.length_take]; exact small1000 (by omega)
      refine ⟨rfl, yesT ⟨_, rfl, _, rfl, _, rfl, a, _, rfl, hS', rfl, nms_flat _, _, rfl, ?_⟩⟩
      rw [in_nm]
      have hput := putP_new (pr := prS ks) ok.nd ez
      by_cases hk : z ∈ ks
      · rw [decide_eq_true hk]
        refine iteT ⟨_, Sum.inr (sOf z), rfl, upd_same, hz, ?_⟩
        rw [show capV (prS ks z) = .int 0 by unfold prS; rw [if_pos hk]; rfl] at hput
        rw [upd_twice, hput]
      · rw [decide_eq_false hk]
        refine iteF ⟨_, Sum.inr (sOf z), rfl, upd_same, hz, ?_⟩
        rw [show capV (prS ks z) = .non by unfold prS; rw [if_neg hk]; rfl] at hput
        rw [upd_twice, hput]
    subst hq
    rw [zl, List.take_length]
    have s1 := same_upd (o := .dK (zs.map (kvP (prS ks)))) nD
    have dl : ∀ pr : Nam → Option Int, (zs.map (kvP pr)).length < sizeLine := fun pr => by rw [List.length_map]; exact small1000 (by omega)
    refine ⟨_, rfl, p, C, dx, _, _, rfl, s1 _ _ hp, T.cl, T.nN, fldsL_names _ _, n, rfl, ⟨_, same_tup s1 hN⟩, for_tup (K := K) (a := n) (xs := zs.map vN) (fun i σ H2 => Same H H2 ∧ H2 D = some (.dK (zs.map (kvP (prN ks ts i)))) ∧ ∃ y1 y2 y3 y4 : Option V, σ = [some (.ref p), some (.ref a), some (.ref D), y1, y2, y3, y4, none]) ⟨s1, upd_same, _, _, _, _, rfl⟩ (fun i σ H2 _ hp => same_tup hp.1 hN) ?_ ?_⟩
    · rintro i x σ H2 hx ⟨sm, hD, y1, y2, y3, y4, rfl⟩
      refine ⟨_, rfl, p, dx, _, b, rfl, sm _ _ hp, ⟨dx, n, _, sm _ _ hp, tupAt (sm _ _ hb)⟩, ⟨_, tupAt (sm _ _ hb)⟩, ?_⟩
      refine for_tup (K := K) (a := b) (xs := es.map V.ref) (fun j σ H3 => Same H H3 ∧ H3 D = some (.dK (zs.map (kvP (sweep (ts.take j) (prN ks ts i))))) ∧ ∃ y1 y2 y3 y4 : Option V, σ = [some (.ref p), some (.ref a), some (.ref D), y1, y2, y3, y4, none]) ⟨sm, hD, _, _, _, _, rfl⟩ (fun j σ H3 _ hp => tupAt (hp.1 _ _ hb)) ?_ ?_
      · rintro j x σ H3 hx ⟨s3, hD3, y1, y2, y3, y4, rfl⟩
        obtain ⟨e, t, rfl, _, et, ht⟩ := ties_at hT hx
        have tm := mem_at et
        have z1 := ok.a _ tm
        have z2 := ok.b _ tm
        refine ⟨_, _, rfl, tupAt (s3 _ _ ht), rfl, _, _, rfl, _, _, rfl, _, _, rfl, rfl, ?_⟩
        have g1 : DGet H3 D (vN t.2.1) (some (capV (sweep (ts.take j) (prN ks ts i) t.2.1))) := valP (pr := sweep (ts.take j) (prN ks ts i)) z2 ▸ DGet.k (k := Sum.inr (sOf t.2.1)) hD3
        have g2 : DGet H3 D (vN t.1) (some (capV (sweep (ts.take j) (prN ks ts i) t.1))) := valP (pr := sweep (ts.take j) (prN ks ts i)) z1 ▸ DGet.k (k := Sum.inr (sOf t.1)) hD3
        refine ⟨_, rfl, _, rfl, D, _, rfl, g1, _, rfl, _, rfl, D, _, rfl, g2, _, rfl, sweep (ts.take j) (prN ks ts i) t.1, t.2.2, rfl, (show (2 : Nat) ≤ sizeLine by decide), fun l nl => ?_⟩
        refine ⟨l, sweep (ts.take j) (prN ks ts i) t.2.1, plusO (sweep (ts.take j) (prN ks ts i) t.1) t.2.2, rfl, lstAt upd_same, fun H4 s4 => ?_⟩
        have s34 := (same_upd (o := .lst [capV (sweep (ts.take j) (prN ks ts i) t.2.1), capV (plusO (sweep (ts.take j) (prN ks ts i) t.1) t.2.2)]) nl).trans s4
        have hD4 := s34 _ _ hD3
        refine ⟨_, rfl, _, rfl, D, _, rfl, DPut.k (k := Sum.inr (sOf t.2.1)) hD4 (dl _), same_at (s3.trans s34) nD, ?_, _, _, _, _, rfl⟩
        rw [putP z2, sweep_snoc et]
        exact upd_same
      · rintro σ H3 ⟨s3, hD3, y⟩
        rw [el, List.take_length] at hD3
        exact ⟨s3, hD3, y⟩
    · rintro σ H2 ⟨sm, hD, y1, y2, y3, y4, rfl⟩
      rw [zl] at hD
      refine ⟨_, rfl, p, C, dx, _, _, rfl, sm _ _ hp, T.cl, T.nN, fldsL_names _ _, n, rfl, ⟨_, same_tup sm hN⟩, fun D2 nD2 => ?_⟩
      refine lc_tup (K := K) (a := n) (xs := zs.map vN) (fun i H' => H' = upd H2 D2 (.lst ((zs.take i).map fun z => capV (pot zs ks ts z)))) rfl (fun i H' _ e => e ▸ same_tup (sm.trans (same_upd nD2)) hN) (fun i x H' hx hq => ?_) (fun H' hq => ?_)
      · subst hq
        obtain ⟨z, ez, rfl⟩ := vN_at hx
        have hD5 := (same_upd (o := .lst ((zs.take i).map fun z => capV (pot zs ks ts z))) nD2) _ _ hD
        have g1 : DGet (upd H2 D2 (.lst ((zs.take i).map fun z => capV (pot zs ks ts z)))) D (vN z) (some (capV (pot zs ks ts z))) := valP (pr := pot zs ks ts) (mem_at ez) ▸ DGet.k (k := Sum.inr (sOf z)) hD5
        refine ⟨rfl, yesT ⟨_, rfl, _, rfl, D, _, rfl, g1, _, upd_same, ?_, ?_⟩⟩
        · rw [List.length_map, List.length_take]; exact small1000 (by omega)
        · rw [upd_twice, List.take_add_one, ez, List.map_append]
          rfl
      · subst hq
        rw [zl, List.take_length]
        exact q _ _ (none_of sm nD2) (sm.trans (same_upd nD2)) upd_same
/-! least_toll -/
def spLeastToll (C : Addr) : Sp := fun vs H Q _ => ∃ (p : Addr) (zs : List Nam) (es : List Addr) (ts : List Tie) (x y : Nam), vs = [.ref p, vN x, vN y] ∧ LkAt C H p zs es ts ∧ LOk zs ts ∧ x ∈ zs ∧ y ∈ zs ∧
  ∀ H', Same H H' → Q (capV (pot zs [x] ts y)) H'
theorem ok_least_toll {f C : Addr} {fd : FuncData} (F : Fun K "least_toll" "least_toll" s_least_toll f fd) (T : TxtL K C)
    (d_check_known : Def P w K mg base "check_known" 1 ["names", "known"] (spKnown K)) (d_potentials : Def P w K mg base "potentials" 2 ["links", "givers"] (spPot K C)) :
    FnOk P w K mg base CX0 3 f fd ["links", "giver", "taker"] (spLeastToll C) := by
  refine F.ok sc_least_toll (fun vs H Q E h => ?_) (fun cdv A outer s H vs Q E hr h => ?_)
  · obtain ⟨p, zs, es, ts, x, y, rfl, _⟩ := h
    rfl
  · obtain ⟨p, zs, es, ts, x, y, rfl, lk, ok, hx, hy, q⟩ := h
    obtain ⟨dx, n, b, o, hp, hn, hc, hd, hb, hT⟩ := id lk
    refine ⟨_, (pss_cons (ps_expr (pe_callD d_check_known (hr.mono (by decide)) (by rfl) (pa_cons (pe_lst (pa_cons (pv 1) (pa_cons (pv 2) pa_nil))) (pa_cons (pe_fld (pv 0) rfl) pa_nil))))
  (pss_one (ps_ret (pe_ix ix_list (pe_callD d_potentials (hr.mono (by decide)) (by rfl) (pa_cons (pv 0) (pa_cons (pe_lst (pa_cons (pv 1) pa_nil)) pa_nil))) (pe_bmF PySem.F.plainAttrs_tuple PySem.F.slot_tuple_index PySem.F.type_tuple_index L2.mt_tup_index (pe_fld (pv 0) rfl) (pa_cons (pv 2) pa_nil)) (fun _ _ => rfl))))), ?_⟩
    refine ⟨_, rfl, _, rfl, (show (2 : Nat) ≤ sizeLine by decide), fun l nl => ?_⟩
    have s1 := same_upd (o := .lst [vN x, vN y]) nl
    refine ⟨_, rfl, p, C, dx, _, _, rfl, s1 _ _ hp, T.cl, T.nN, fldsL_names _ _, l, n, [x, y], zs, rfl, .inl (lstAt upd_same), .inr (tupFrz (s1 _ _ hn)), ?_, ?_⟩
    · intro z hz
      rcases List.mem_cons.mp hz with rfl | hz
      · exact hx
      · rw [List.mem_singleton.mp hz]; exact hy
    refine ⟨_, rfl, _, rfl, (show (1 : Nat) ≤ sizeLine by decide), fun l2 nl2 => ?_⟩
    have s2 := s1.trans (same_upd (o := .lst [vN x]) nl2)
    refine ⟨p, l2, zs, es, ts, [x], rfl, lk.same s2, .inl (lstAt upd_same), ok, fun k hk => by rw [List.mem_singleton.mp hk]; exact hx, fun H3 r _ s3 e3 => ?_⟩
    have s23 := s2.trans s3
    obtain ⟨j, j1, j2⟩ := idx_first hy ok.nd
    obtain ⟨k1, k2⟩ := str_first j1 j2
    refine ⟨_, rfl, p, C, dx, _, _, rfl, s23 _ _ hp, T.cl, T.nN, fldsL_names _ _, ⟨n, o, _, rfl, s23 _ _ hn, hc, hd⟩, _, rfl, n, zs.map sOf, sOf y, j, rfl, rfl, ?_, k1, k2, ?_⟩
    · rw [← vN_strs]; exact tupFrz (s23 _ _ hn)
    refine ⟨r, _, _, _, rfl, rfl, lstAt e3, ?_, q _ s23⟩
    refine atI_nat ?_
    unfold potV
    rw [List.getElem?_map, j1]
    rfl
end
end TK

/-! the mathematics of first ways -/
namespace TK
open PySem PySem.Spec PyProof.Rows L2
/-- a walk from x to y: the links' numbers, where it stands, what it costs -/
inductive Pw (ts : List Tie) : Nam → List Nat → List Nam → Nam → Int → Prop
  | nil (x : Nam) : Pw ts x [] [x] x 0
  | cons {k : Nat} {t : Tie} {ks : List Nat} {vs : List Nam} {y : Nam} {v : Int} (e : ts[k]? = some t) (w : Pw ts t.2.1 ks vs y v) : Pw ts t.1 (k :: ks) (t.1 :: vs) y (t.2.2 + v)
abbrev Cst := Int × Int
def cle (a b : Cst) : Prop := a.1 < b.1 ∨ (a.1 = b.1 ∧ a.2 ≤ b.2)
def clt (a b : Cst) : Bool := decide (a.1 < b.1 ∨ (a.1 = b.1 ∧ a.2 < b.2))
def thr (c : Cst) (t : Int) : Cst := (c.1 + t, c.2 + 1)
theorem cle_refl (a : Cst) : cle a a := .inr ⟨rfl, Int.le_refl _⟩
theorem cle_trans {a b c : Cst} (h : cle a b) (k : cle b c) : cle a c := by
  unfold cle at *
  omega
theorem cle_anti {a b : Cst} (h : cle a b) (k : cle b a) : a = b := by
  unfold cle at *
  exact Prod.ext (by omega) (by omega)
theorem thr_mono {a b : Cst} (h : cle a b) (t : Int) : cle (thr a t) (thr b t) := by
  unfold cle thr at *
  show a.1 + t < b.1 + t ∨ (a.1 + t = b.1 + t ∧ a.2 + 1 ≤ b.2 + 1)
  omega
def leC (a b : Option Cst) : Prop := ∀ v, b = some v → ∃ u, a = some u ∧ cle u v
theorem leC_refl (a : Option Cst) : leC a a := fun v h => ⟨v, h, cle_refl _⟩
theorem leC_trans {a b c : Option Cst} (h : leC a b) (k : leC b c) : leC a c := fun v e => by
  obtain ⟨u, e1, l1⟩ := k v e
  obtain ⟨u2, e2, l2⟩ := h u e1
  exact ⟨u2, e2, cle_trans l2 l1⟩
theorem leC_thr {a b : Option Cst} (h : leC a b) (t : Int) : leC (a.map fun c => thr c t) (b.map fun c => thr c t) := fun v e => by
  obtain ⟨c, rfl, rfl⟩ := Option.map_eq_some_iff.mp e
  obtain ⟨u, rfl, l⟩ := h c rfl
  exact ⟨_, rfl, thr_mono l t⟩
def newB (co : Nam → Option Cst) (t : Tie) (c : Cst) : Bool := match co t.1 with
  | none => true
  | some d => clt (thr c t.2.2) d
def relC (co : Nam → Option Cst) (t : Tie) : Nam → Option Cst := fun z => match co t.2.1 with
  | none => co z
  | some c => if newB co t c = true ∧ z = t.1 then some (thr c t.2.2) else co z
theorem relC_none {co : Nam → Option Cst} {t : Tie} (h : co t.2.1 = none) : relC co t = co := by
  funext z
  unfold relC
  rw [h]
theorem relC_yes {co : Nam → Option Cst} {t : Tie} {c : Cst} (h : co t.2.1 = some c) (n : newB co t c = true) : relC co t = fun z => if z = t.1 then some (thr c t.2.2) else co z := by
  funext z
  unfold relC
  rw [h]
  simp [n]
theorem relC_no {co : Nam → Option Cst} {t : Tie} {c : Cst} (h : co t.2.1 = some c) (n : newB co t c = false) : relC co t = co := by
  funext z
  unfold relC
  rw [h]
  simp [n]
def coS (y : Nam) : Nam → Option Cst := fun z => if z = y then some (0, 0) else none
def coN (ts : List Tie) (y : Nam) : Nat → Nam → Option Cst
  | 0 => coS y
  | n + 1 => ts.foldl relC (coN ts y n)
theorem clt_le {a b : Cst} (h : clt a b = true) : cle a b := by
  have := of_decide_eq_true h
  unfold cle
  omega
theorem clt_no {a b : Cst} (h : clt a b = false) : cle b a := by
  have := of_decide_eq_false h
  unfold cle
  omega
theorem relC_le (co : Nam → Option Cst) (t : Tie) (z : Nam) : leC (relC co t z) (co z) := by
  cases hc : co t.2.1 with
  | none => rw [relC_none hc]; exact leC_refl _
  | some c =>
    cases hn : newB co t c with
    | false => rw [relC_no hc hn]; exact leC_refl _
    | true =>
      rw [relC_yes hc hn]
      show leC (if z = t.1 then _ else _) _
      by_cases hz : z = t.1
      · rw [if_pos hz]
        intro v e
        unfold newB at hn
        rw [← hz, e] at hn
        exact ⟨_, rfl, clt_le hn⟩
      · rw [if_neg hz]; exact leC_refl _
theorem relC_tie (co : Nam → Option Cst) (t : Tie) : leC (relC co t t.1) ((co t.2.1).map fun c => thr c t.2.2) := fun v e => by
  obtain ⟨c, hc, rfl⟩ := Option.map_eq_some_iff.mp e
  cases hn : newB co t c with
  | true =>
    rw [relC_yes hc hn]
    exact ⟨_, if_pos rfl, cle_refl _⟩
  | false =>
    rw [relC_no hc hn]
    unfold newB at hn
    cases hd : co t.1 with
    | none => rw [hd] at hn; cases hn
    | some d =>
      rw [hd] at hn
      exact ⟨d, rfl, clt_no hn⟩
theorem foldC_le : ∀ (as : List Tie) (co : Nam → Option Cst) (z : Nam), leC (as.foldl relC co z) (co z)
  | [], co, z => leC_refl _
  | t :: as, co, z => leC_trans (foldC_le as _ z) (relC_le co t z)
theorem foldC_tie : ∀ (as : List Tie) (co : Nam → Option Cst) {t : Tie}, t ∈ as → leC (as.foldl relC co t.1) ((co t.2.1).map fun c => thr c t.2.2)
  | s :: as, co, t, m => by
    rcases List.mem_cons.mp m with rfl | m
    · exact leC_trans (foldC_le as _ _) (relC_tie co t)
    · exact leC_trans (foldC_tie as (relC co s) m) (leC_thr (relC_le co s _) _)
theorem coN_mono (ts : List Tie) (y z : Nam) : ∀ n, leC (coN ts y n z) (coN ts y 0 z)
  | 0 => leC_refl _
  | n + 1 => leC_trans (foldC_le ts _ z) (coN_mono ts y z n)
theorem coN_path {ts : List Tie} {x y : Nam} {ks : List Nat} {vs : List Nam} {v : Int} (h : Pw ts x ks vs y v) : ∀ n, ks.length ≤ n → leC (coN ts y n x) (some (v, (ks.length : Int))) := by
  induction h with
  | nil x =>
    intro n _
    refine leC_trans (coN_mono ts x x n) fun v e => ?_
    cases Option.some.inj e
    exact ⟨(0, 0), if_pos rfl, cle_refl _⟩
  | @cons k t ks vs y v e w ih =>
    intro n hn
    cases n with
    | zero => simp at hn
    | succ n =>
      refine leC_trans (foldC_tie ts (coN ts y n) (List.mem_of_getElem? e)) (leC_trans (leC_thr (ih n (by simpa using hn)) _) fun u eu => ?_)
      cases Option.some.inj eu
      refine ⟨_, rfl, .inr ⟨?_, ?_⟩⟩
      · show v + t.2.2 = t.2.2 + v
        omega
      · show (ks.length : Int) + 1 ≤ ((k :: ks).length : Int)
        rw [List.length_cons]
        omega
section
variable {ts : List Tie} {zs : List Nam} {y : Nam}
theorem Pw.nn {x : Nam} {ks : List Nat} {vs : List Nam} {v : Int} (h : Pw ts x ks vs y v) (h0 : ∀ t ∈ ts, 0 ≤ t.2.2) : 0 ≤ v := by
  induction h with
  | nil x => exact Int.le_refl _
  | cons e w ih =>
    have := h0 _ (List.mem_of_getElem? e)
    omega
theorem Pw.vlen {x : Nam} {ks : List Nat} {vs : List Nam} {v : Int} (h : Pw ts x ks vs y v) : vs.length = ks.length + 1 := by
  induction h with
  | nil x => rfl
  | cons e w ih => rw [List.length_cons, List.length_cons, ih]
theorem Pw.mem {x : Nam} {ks : List Nat} {vs : List Nam} {v : Int} (h : Pw ts x ks vs y v) (hy : y ∈ zs) (ha : ∀ t ∈ ts, t.1 ∈ zs) : ∀ z ∈ vs, z ∈ zs := by
  induction h with
  | nil x => intro z m; rw [List.mem_singleton.mp m]; exact hy
  | cons e w ih =>
    intro z m
    rcases List.mem_cons.mp m with rfl | m
    · exact ha _ (List.mem_of_getElem? e)
    · exact ih hy z m
theorem Pw.suf {x : Nam} {ks : List Nat} {vs : List Nam} {v : Int} (h : Pw ts x ks vs y v) (h0 : ∀ t ∈ ts, 0 ≤ t.2.2) {w : Nam} (m : w ∈ vs) : ∃ ks' vs' v', Pw ts w ks' vs' y v' ∧ v' ≤ v ∧ ks'.length ≤ ks.length ∧ (vs.Nodup → vs'.Nodup) := by
  induction h with
  | nil x => rw [List.mem_singleton.mp m]; exact ⟨_, _, _, .nil x, Int.le_refl _, Nat.le_refl _, id⟩
  | @cons k t ks vs y v e p ih =>
    rcases List.mem_cons.mp m with rfl | m
    · exact ⟨_, _, _, .cons e p, Int.le_refl _, Nat.le_refl _, id⟩
    · obtain ⟨ks', vs', v', h1, h2, h3, h4⟩ := ih m
      have := h0 _ (List.mem_of_getElem? e)
      exact ⟨ks', vs', v', h1, by omega, by rw [List.length_cons]; omega, fun nd => h4 (List.nodup_cons.mp nd).2⟩
def SoundC (ts : List Tie) (y : Nam) (co : Nam → Option Cst) : Prop := ∀ z c, co z = some c → ∃ ks vs v, Pw ts z ks vs y v ∧ vs.Nodup ∧ cle (v, (ks.length : Int)) c
theorem soundC_rel (h0 : ∀ t ∈ ts, 0 ≤ t.2.2) {co : Nam → Option Cst} (h : SoundC ts y co) {t : Tie} (m : t ∈ ts) : SoundC ts y (relC co t) := by
  intro z c e
  cases hd : co t.2.1 with
  | none => rw [relC_none hd] at e; exact h z c e
  | some d =>
    cases hn : newB co t d with
    | false => rw [relC_no hd hn] at e; exact h z c e
    | true =>
      rw [relC_yes hd hn] at e
      have e : (if z = t.1 then some (thr d t.2.2) else co z) = some c := e
      by_cases hz : z = t.1
      · rw [if_pos hz] at e
        cases Option.some.inj e
        subst hz
        obtain ⟨ks, vs, v, p, nd, l⟩ := h _ _ hd
        obtain ⟨k, hk⟩ := List.getElem?_of_mem m
        by_cases hm : t.1 ∈ vs
        · obtain ⟨ks', vs', v', p', l1, l2, nd'⟩ := p.suf h0 hm
          refine ⟨ks', vs', v', p', nd' nd, cle_trans ?_ (thr_mono l t.2.2)⟩
          have := h0 t m
          show v' < v + t.2.2 ∨ (v' = v + t.2.2 ∧ (ks'.length : Int) ≤ (ks.length : Int) + 1)
          omega
        · refine ⟨k :: ks, t.1 :: vs, _, .cons hk p, List.nodup_cons.mpr ⟨hm, nd⟩, cle_trans ?_ (thr_mono l t.2.2)⟩
          show t.2.2 + v < v + t.2.2 ∨ (t.2.2 + v = v + t.2.2 ∧ ((k :: ks).length : Int) ≤ (ks.length : Int) + 1)
          rw [List.length_cons]
          omega
      · rw [if_neg hz] at e
        exact h z c e
theorem soundC_fold (h0 : ∀ t ∈ ts, 0 ≤ t.2.2) : ∀ (as : List Tie), (∀ t ∈ as, t ∈ ts) → ∀ co, SoundC ts y co → SoundC ts y (as.foldl relC co)
  | [], _, _, h => h
  | t :: as, ha, co, h => soundC_fold h0 as (fun s m => ha s (List.mem_cons_of_mem _ m)) _ (soundC_rel h0 h (ha t List.mem_cons_self))
theorem coN_sound (h0 : ∀ t ∈ ts, 0 ≤ t.2.2) : ∀ n, SoundC ts y (coN ts y n)
  | 0 => fun z c e => by
    have e : (if z = y then some ((0, 0) : Cst) else none) = some c := e
    split at e
    · rename_i hz
      cases Option.some.inj e
      subst hz
      exact ⟨[], [z], 0, .nil z, List.nodup_cons.mpr ⟨List.not_mem_nil, List.nodup_nil⟩, cle_refl _⟩
    · cases e
  | n + 1 => soundC_fold h0 ts (fun _ m => m) _ (coN_sound h0 n)
/-- the least costs to y -/
def coF (zs : List Nam) (ts : List Tie) (y : Nam) : Nam → Option Cst := coN ts y zs.length
theorem co_le (ok : LOk zs ts) (hy : y ∈ zs) {x : Nam} {ks : List Nat} {vs : List Nam} {v : Int} (h : Pw ts x ks vs y v) (nd : vs.Nodup) : leC (coF zs ts y x) (some (v, (ks.length : Int))) := by
  refine coN_path h _ ?_
  have := nd_len nd (h.mem hy ok.a)
  have := h.vlen
  omega
theorem co_some (ok : LOk zs ts) (hy : y ∈ zs) {x : Nam} {c : Cst} (e : coF zs ts y x = some c) : ∃ ks vs, Pw ts x ks vs y c.1 ∧ vs.Nodup ∧ (ks.length : Int) = c.2 := by
  obtain ⟨ks, vs, v, p, nd, l⟩ := coN_sound ok.h0 _ x c e
  obtain ⟨u, eu, lu⟩ := co_le ok hy p nd _ rfl
  rw [e] at eu
  cases Option.some.inj eu
  have := cle_anti l lu
  subst this
  exact ⟨ks, vs, p, nd, rfl⟩
theorem co_fix (ok : LOk zs ts) (hy : y ∈ zs) {t : Tie} (m : t ∈ ts) {c : Cst} (e : coF zs ts y t.2.1 = some c) : leC (coF zs ts y t.1) (some (thr c t.2.2)) := by
  obtain ⟨ks, vs, p, nd, l⟩ := co_some ok hy e
  obtain ⟨k, hk⟩ := List.getElem?_of_mem m
  by_cases hm : t.1 ∈ vs
  · obtain ⟨ks', vs', v', p', l1, l2, nd'⟩ := p.suf ok.h0 hm
    refine leC_trans (co_le ok hy p' (nd' nd)) fun u eu => ?_
    cases Option.some.inj eu
    have := ok.h0 t m
    refine ⟨_, rfl, ?_⟩
    show v' < c.1 + t.2.2 ∨ (v' = c.1 + t.2.2 ∧ (ks'.length : Int) ≤ c.2 + 1)
    omega
  · refine leC_trans (co_le ok hy (.cons hk p) (List.nodup_cons.mpr ⟨hm, nd⟩)) fun u eu => ?_
    cases Option.some.inj eu
    refine ⟨_, rfl, ?_⟩
    show t.2.2 + c.1 < c.1 + t.2.2 ∨ (t.2.2 + c.1 = c.1 + t.2.2 ∧ ((k :: ks).length : Int) ≤ c.2 + 1)
    rw [List.length_cons]
    omega
theorem co_self (ok : LOk zs ts) (hy : y ∈ zs) : coF zs ts y y = some (0, 0) := by
  obtain ⟨u, eu, lu⟩ := co_le ok hy (.nil y) (List.nodup_cons.mpr ⟨List.not_mem_nil, List.nodup_nil⟩) _ rfl
  obtain ⟨ks, vs, p, nd, l⟩ := co_some ok hy eu
  have := p.nn ok.h0
  rw [eu, cle_anti lu (by unfold cle; show 0 < u.1 ∨ (0 = u.1 ∧ 0 ≤ u.2); omega)]
  rfl
/-- the first link of a least walk is tight -/
theorem co_tight (ok : LOk zs ts) (hy : y ∈ zs) {x : Nam} {k : Nat} {ks : List Nat} {vs : List Nam} {c : Cst} (e : coF zs ts y x = some c) (p : Pw ts x (k :: ks) vs y c.1) (nd : vs.Nodup) (l : ((k :: ks).length : Int) = c.2) :
    ∃ t d vs', ts[k]? = some t ∧ t.1 = x ∧ coF zs ts y t.2.1 = some d ∧ thr d t.2.2 = c ∧ Pw ts t.2.1 ks vs' y d.1 ∧ vs'.Nodup ∧ (ks.length : Int) = d.2 := by
  obtain ⟨c1, c2⟩ := c
  simp only at p
  generalize hc : c1 = w at p
  cases p with
  | @cons _ t _ vs' _ v' hk p' =>
    have nd' := (List.nodup_cons.mp nd).2
    obtain ⟨d, ed, ld⟩ := co_le ok hy p' nd' _ rfl
    obtain ⟨u, eu, lu⟩ := co_fix ok hy (List.mem_of_getElem? hk) ed _ rfl
    rw [e] at eu
    cases Option.some.inj eu
    rw [List.length_cons] at l
    have l : (ks.length : Int) + 1 = c2 := by simpa using l
    have h : d = (v', (ks.length : Int)) := by
      refine cle_anti ld ?_
      unfold cle thr at *
      simp only at *
      omega
    subst h
    exact ⟨t, _, vs', hk, rfl, ed, by unfold thr; simp only; rw [← l, Int.add_comm], p', nd', rfl⟩
end
end TK

/-! the first of the least walks; all simple walks -/
namespace TK
open PySem PySem.Spec PyProof.Rows L2
def tieN (ts : List Tie) (k : Nat) : Tie := ts.getD k ([], [], 0)
theorem tieN_at {ts : List Tie} {k : Nat} {t : Tie} (h : ts[k]? = some t) : tieN ts k = t := by
  unfold tieN
  rw [List.getD_eq_getElem?_getD, h]
  rfl
theorem tieN_get {ts : List Tie} {k : Nat} (h : k < ts.length) : ts[k]? = some (tieN ts k) := by
  rw [tieN_at (List.getElem?_eq_getElem h)]
  exact List.getElem?_eq_getElem h
def tightB (co : Nam → Option Cst) (x : Nam) (t : Tie) : Bool := decide (t.1 = x) && match co t.2.1 with
  | none => false
  | some d => decide (co x = some (thr d t.2.2))
def tights (co : Nam → Option Cst) (ts : List Tie) (x : Nam) (n : Nat) : List Nat := (List.range n).filter fun k => tightB co x (tieN ts k)
theorem tights_succ (co : Nam → Option Cst) (ts : List Tie) (x : Nam) (n : Nat) : tights co ts x (n + 1) = tights co ts x n ++ if tightB co x (tieN ts n) = true then [n] else [] := by
  unfold tights
  rw [List.range_succ, List.filter_append]
  congr 1
  rw [List.filter_cons, List.filter_nil]
def fwN (co : Nam → Option Cst) (ts : List Tie) (y : Nam) : Nat → Nam → List Nat
  | 0, _ => []
  | n + 1, x => match (tights co ts x ts.length).head? with
    | none => []
    | some k => k :: fwN co ts y n (tieN ts k).2.1
def lxN : List Nat → List Nat → Bool
  | _, [] => false
  | [], _ :: _ => true
  | x :: xs, y :: ys => if x = y then lxN xs ys else decide (x < y)
theorem lxN_asym : ∀ {a b : List Nat}, lxN a b = true → lxN b a = false
  | _, [], h => by unfold lxN at h; cases h
  | [], _ :: _, _ => rfl
  | x :: xs, y :: ys, h => by
    have h : (if x = y then lxN xs ys else decide (x < y)) = true := h
    show (if y = x then lxN ys xs else decide (y < x)) = false
    by_cases e : x = y
    · rw [if_pos e] at h
      rw [if_pos e.symm]
      exact lxN_asym h
    · rw [if_neg e] at h
      rw [if_neg fun q => e q.symm]
      have := of_decide_eq_true h
      exact decide_eq_false (by omega)
theorem lxN_irr : ∀ a : List Nat, lxN a a = false
  | [] => rfl
  | x :: xs => by
    show (if x = x then lxN xs xs else decide (x < x)) = false
    rw [if_pos rfl]
    exact lxN_irr xs
section
variable {ts : List Tie} {zs : List Nam} {y : Nam}
theorem tight_at (ok : LOk zs ts) {x : Nam} {k : Nat} {t : Tie} {c d : Cst} (e : coF zs ts y x = some c) (hk : ts[k]? = some t) (h1 : t.1 = x) (hd : coF zs ts y t.2.1 = some d) (h2 : thr d t.2.2 = c) : k ∈ tights (coF zs ts y) ts x ts.length := by
  refine List.mem_filter.mpr ⟨List.mem_range.mpr (List.getElem?_eq_some_iff.mp hk).1, ?_⟩
  rw [tieN_at hk]
  unfold tightB
  rw [hd, decide_eq_true h1, e]
  show (true && decide (some c = some (thr d t.2.2))) = true
  rw [h2, decide_eq_true rfl]
  rfl
theorem tights_head {co : Nam → Option Cst} {x : Nam} {k0 : Nat} (h : (tights co ts x ts.length).head? = some k0) : k0 ∈ tights co ts x ts.length ∧ ∀ k ∈ tights co ts x ts.length, k0 ≤ k := by
  have pw : (tights co ts x ts.length).Pairwise (· < ·) := List.Pairwise.filter _ List.pairwise_lt_range
  cases hl : tights co ts x ts.length with
  | nil => rw [hl] at h; cases h
  | cons a l =>
    rw [hl] at h pw
    cases Option.some.inj h
    refine ⟨List.mem_cons_self, fun k m => ?_⟩
    rcases List.mem_cons.mp m with rfl | m
    · exact Nat.le_refl _
    · exact Nat.le_of_lt ((List.pairwise_cons.mp pw).1 k m)
theorem tights_mem {co : Nam → Option Cst} {x : Nam} {k : Nat} (h : k ∈ tights co ts x ts.length) : ∃ t d, ts[k]? = some t ∧ t.1 = x ∧ co t.2.1 = some d ∧ co x = some (thr d t.2.2) := by
  obtain ⟨h1, h2⟩ := List.mem_filter.mp h
  have hk := tieN_get (List.mem_range.mp h1)
  unfold tightB at h2
  obtain ⟨h3, h4⟩ := Bool.and_eq_true _ _ ▸ h2
  cases hd : co (tieN ts k).2.1 with
  | none => rw [hd] at h4; cases h4
  | some d =>
    rw [hd] at h4
    exact ⟨_, d, hk, of_decide_eq_true h3, hd, of_decide_eq_true h4⟩
/-- one step along the first tight link -/
theorem fw_step (ok : LOk zs ts) (hy : y ∈ zs) {x : Nam} {v : Int} {M : Nat} (e : coF zs ts y x = some (v, (M : Int))) (ne : x ≠ y) :
    ∃ M' k0 t0 l, M = M' + 1 ∧ tights (coF zs ts y) ts x ts.length = k0 :: l ∧ ts[k0]? = some t0 ∧ t0.1 = x ∧ coF zs ts y t0.2.1 = some (v - t0.2.2, (M' : Int)) ∧ (∀ k ∈ tights (coF zs ts y) ts x ts.length, k0 ≤ k) ∧ fwN (coF zs ts y) ts y (M' + 1) x = k0 :: fwN (coF zs ts y) ts y M' t0.2.1 := by
  obtain ⟨ks, vs, p, nd, l⟩ := co_some ok hy e
  cases ks with
  | nil => cases p; exact absurd rfl ne
  | cons k ks =>
    obtain ⟨t, d, vs', h1, h2, h3, h4, h5, h6, h7⟩ := co_tight ok hy e p nd l
    have m := tight_at ok e h1 h2 h3 h4
    obtain ⟨k0, hk0⟩ : ∃ k0, (tights (coF zs ts y) ts x ts.length).head? = some k0 := by
      cases hl : tights (coF zs ts y) ts x ts.length with
      | nil => rw [hl] at m; cases m
      | cons a l => exact ⟨a, rfl⟩
    obtain ⟨m0, le0⟩ := tights_head hk0
    obtain ⟨t0, d0, g1, g2, g3, g4⟩ := tights_mem m0
    rw [e] at g4
    obtain ⟨d1, d2⟩ := d0
    have g4 := Option.some.inj g4
    have g5 : v = d1 + t0.2.2 := congrArg Prod.fst g4
    have g6 : (M : Int) = d2 + 1 := congrArg Prod.snd g4
    have l : ((ks.length + 1 : Nat) : Int) = (M : Int) := l
    have hd : (v - t0.2.2, ((M - 1 : Nat) : Int)) = (d1, d2) := Prod.ext (by show v - t0.2.2 = d1; omega) (by show ((M - 1 : Nat) : Int) = d2; omega)
    obtain ⟨a, hl⟩ : ∃ l, tights (coF zs ts y) ts x ts.length = k0 :: l := by
      cases hl : tights (coF zs ts y) ts x ts.length with
      | nil => rw [hl] at hk0; cases hk0
      | cons a l => rw [hl] at hk0; cases Option.some.inj hk0; exact ⟨l, rfl⟩
    refine ⟨M - 1, k0, t0, a, by omega, hl, g1, g2, by rw [g3, hd], le0, ?_⟩
    show (match (tights (coF zs ts y) ts x ts.length).head? with
    | none => []
    | some k => k :: fwN (coF zs ts y) ts y (M - 1) (tieN ts k).2.1) = _
    rw [hk0]
    show k0 :: fwN (coF zs ts y) ts y (M - 1) (tieN ts k0).2.1 = _
    rw [tieN_at g1]
theorem fw_path (ok : LOk zs ts) (hy : y ∈ zs) : ∀ (M : Nat) {x : Nam} {v : Int}, coF zs ts y x = some (v, (M : Int)) → ∃ vs, Pw ts x (fwN (coF zs ts y) ts y M x) vs y v ∧ vs.Nodup ∧ (∀ z ∈ vs, ∃ d, coF zs ts y z = some d ∧ d.2 ≤ M) ∧
    (fwN (coF zs ts y) ts y M x).length = M ∧ ∀ ks vs', Pw ts x ks vs' y v → vs'.Nodup → ks.length = M → fwN (coF zs ts y) ts y M x = ks ∨ lxN (fwN (coF zs ts y) ts y M x) ks = true
  | 0, x, v, e => by
    obtain ⟨ks, vs, p, nd, l⟩ := co_some ok hy e
    have l : (ks.length : Int) = 0 := l
    have : ks = [] := List.length_eq_zero_iff.mp (by omega)
    subst this
    have hv : v = 0 ∧ x = y ∧ vs = [x] := by
      simp only at p
      generalize h0 : v = w at p
      cases p
      exact ⟨rfl, rfl, rfl⟩
    obtain ⟨rfl, rfl, rfl⟩ := hv
    refine ⟨_, .nil x, nd, fun z m => ?_, rfl, fun ks vs' _ _ hl => .inl (List.length_eq_zero_iff.mp hl).symm⟩
    rw [List.mem_singleton.mp m]
    exact ⟨_, e, Int.le_refl _⟩
  | M + 1, x, v, e => by
    have ne : x ≠ y := fun h => by
      rw [h, co_self ok hy] at e
      have := congrArg Prod.snd (Option.some.inj e)
      have : (0 : Int) = ((M + 1 : Nat) : Int) := this
      omega
    obtain ⟨M', k0, t0, l, hM, hl, g1, g2, g3, le0, hf⟩ := fw_step ok hy e ne
    cases (show M = M' by omega)
    obtain ⟨vs, p, nd, hz, ln, lx⟩ := fw_path ok hy M g3
    rw [hf]
    have hx : x ∉ vs := fun m => by
      obtain ⟨d, e1, l1⟩ := hz x m
      rw [e] at e1
      cases Option.some.inj e1
      have : ((M + 1 : Nat) : Int) ≤ (M : Int) := l1
      omega
    refine ⟨x :: vs, ?_, List.nodup_cons.mpr ⟨hx, nd⟩, fun z m => ?_, by rw [List.length_cons, ln], fun ks vs' p' nd' hl' => ?_⟩
    · have := Pw.cons g1 p
      rw [g2, show t0.2.2 + (v - t0.2.2) = v by omega] at this
      exact this
    · rcases List.mem_cons.mp m with rfl | m
      · exact ⟨_, e, Int.le_refl _⟩
      · obtain ⟨d, e1, l1⟩ := hz z m
        exact ⟨d, e1, by omega⟩
    · cases ks with
      | nil => cases hl'
      | cons k ks =>
        obtain ⟨t, d, vs'', h1, h2, h3, h4, h5, h6, h7⟩ := co_tight ok hy e p' nd' (by rw [hl'])
        have m := tight_at ok e h1 h2 h3 h4
        have hk := le0 k m
        by_cases hkk : k0 = k
        · subst hkk
          rw [g1] at h1
          cases Option.some.inj h1
          rw [g3] at h3
          cases Option.some.inj h3
          rcases lx ks vs'' h5 h6 (by rw [List.length_cons] at hl'; omega) with q | q
          · exact .inl (by rw [q])
          · exact .inr ((if_pos rfl).trans q)
        · exact .inr ((if_neg hkk).trans (decide_eq_true (by omega)))
end
/-! all simple walks, as the law makes them -/
abbrev Ent := Int × List Nat × Nam × List Nam
def stepE (ts : List Tie) (e : Ent) (k : Nat) : Option Ent := if (tieN ts k).1 = e.2.2.1 ∧ (tieN ts k).2.1 ∉ e.2.2.2 then some (e.1 + (tieN ts k).2.2, e.2.1 ++ [k], (tieN ts k).2.1, e.2.2.2 ++ [(tieN ts k).2.1]) else none
def extE (ts : List Tie) (e : Ent) (n : Nat) : List Ent := (List.range n).filterMap (stepE ts e)
theorem extE_succ (ts : List Tie) (e : Ent) (n : Nat) : extE ts e (n + 1) = extE ts e n ++ (stepE ts e n).toList := by
  unfold extE
  rw [List.range_succ, List.filterMap_append]
  congr 1
def freshE (ts : List Tie) (x : Nam) : Nat → List Ent
  | 0 => [(0, [], x, [x])]
  | n + 1 => (freshE ts x n).flatMap fun e => extE ts e ts.length
def foundE (ts : List Tie) (x : Nam) : Nat → List Ent
  | 0 => [(0, [], x, [x])]
  | n + 1 => foundE ts x n ++ freshE ts x (n + 1)
theorem Pw.start {ts : List Tie} {x h : Nam} {ks : List Nat} {vs : List Nam} {v : Int} (p : Pw ts x ks vs h v) : ∃ w1, vs = x :: w1 := by
  cases p <;> exact ⟨_, rfl⟩
theorem Pw.snoc {ts : List Tie} {x h : Nam} {ks : List Nat} {vs : List Nam} {v : Int} (p : Pw ts x ks vs h v) : ∀ {k : Nat} {t : Tie}, ts[k]? = some t → t.1 = h → Pw ts x (ks ++ [k]) (vs ++ [t.2.1]) t.2.1 (v + t.2.2) := by
  induction p with
  | nil x =>
    intro k t e h
    have := Pw.cons e (Pw.nil t.2.1)
    rw [h, Int.add_comm] at this
    exact this
  | @cons k0 t0 ks vs h v e p ih =>
    intro k t e' h'
    have := Pw.cons e (ih e' h')
    rw [← Int.add_assoc] at this
    exact this
theorem fresh_sound {ts : List Tie} {x : Nam} : ∀ (n : Nat) (e : Ent), e ∈ freshE ts x n → Pw ts x e.2.1 e.2.2.2 e.2.2.1 e.1 ∧ e.2.2.2.Nodup ∧ e.2.1.length = n
  | 0, e, m => by
    rw [List.mem_singleton.mp m]
    exact ⟨.nil x, List.nodup_cons.mpr ⟨List.not_mem_nil, List.nodup_nil⟩, rfl⟩
  | n + 1, e, m => by
    obtain ⟨d, hd, m⟩ := List.mem_flatMap.mp m
    obtain ⟨k, hk, he⟩ := List.mem_filterMap.mp m
    obtain ⟨p, nd, l⟩ := fresh_sound n d hd
    unfold stepE at he
    split at he
    · rename_i h
      cases Option.some.inj he
      refine ⟨p.snoc (tieN_get (List.mem_range.mp hk)) h.1, ?_, by rw [List.length_append, l]; rfl⟩
      exact List.nodup_append.mpr ⟨nd, List.nodup_cons.mpr ⟨List.not_mem_nil, List.nodup_nil⟩, fun a ha b hb e => h.2 (by rw [← List.mem_singleton.mp hb, ← e]; exact ha)⟩
    · cases he
theorem fresh_all {ts : List Tie} {x h y : Nam} {ks : List Nat} {vs : List Nam} {v : Int} (p : Pw ts h ks vs y v) : ∀ {n : Nat} {v0 : Int} {ks0 : List Nat} {vs0 vs1 : List Nam}, (v0, ks0, h, vs0) ∈ freshE ts x n → vs = h :: vs1 → (vs0 ++ vs1).Nodup → (v0 + v, ks0 ++ ks, y, vs0 ++ vs1) ∈ freshE ts x (n + ks.length) := by
  induction p with
  | nil z =>
    intro n v0 ks0 vs0 vs1 m e nd
    cases e
    rw [List.append_nil, List.append_nil, Int.add_zero]
    exact m
  | @cons k t ks vs y v e p ih =>
    intro n v0 ks0 vs0 vs1 m ev nd
    cases ev
    obtain ⟨w1, hw⟩ := p.start
    subst hw
    have hk := (List.getElem?_eq_some_iff.mp e).1
    have hn : t.2.1 ∉ vs0 := fun q => (List.nodup_append.mp nd).2.2 _ q _ List.mem_cons_self rfl
    have m1 : (v0 + t.2.2, ks0 ++ [k], t.2.1, vs0 ++ [t.2.1]) ∈ freshE ts x (n + 1) := by
      refine List.mem_flatMap.mpr ⟨_, m, List.mem_filterMap.mpr ⟨k, List.mem_range.mpr hk, ?_⟩⟩
      unfold stepE
      rw [tieN_at e]
      exact if_pos ⟨rfl, hn⟩
    have := ih m1 rfl (by rw [List.append_assoc]; exact nd)
    rw [List.append_assoc, List.append_assoc, Int.add_assoc] at this
    rw [List.length_cons, show n + (ks.length + 1) = n + 1 + ks.length by omega]
    exact this
theorem found_fresh {ts : List Tie} {x : Nam} : ∀ {n N : Nat} {e : Ent}, n ≤ N → e ∈ freshE ts x n → e ∈ foundE ts x N
  | n, 0, e, h, m => by
    cases Nat.le_zero.mp h
    exact m
  | n, N + 1, e, h, m => by
    by_cases hn : n = N + 1
    · subst hn
      exact List.mem_append.mpr (.inr m)
    · exact List.mem_append.mpr (.inl (found_fresh (by omega) m))
theorem found_from {ts : List Tie} {x : Nam} : ∀ {N : Nat} {e : Ent}, e ∈ foundE ts x N → ∃ n, e ∈ freshE ts x n
  | 0, e, m => ⟨0, m⟩
  | N + 1, e, m => (List.mem_append.mp m).elim found_from fun m => ⟨_, m⟩
theorem ext_len12 {ts : List Tie} (h : ts.length ≤ 12) (e : Ent) : (extE ts e ts.length).length ≤ 12 := by
  unfold extE
  have := List.length_filterMap_le (stepE ts e) (List.range ts.length)
  rw [List.length_range] at this
  omega
theorem flat_len {α β : Type} (f : α → List β) {m : Nat} (h : ∀ a, (f a).length ≤ m) : ∀ l : List α, (l.flatMap f).length ≤ m * l.length
  | [] => Nat.zero_le _
  | a :: l => by
    rw [List.flatMap_cons, List.length_append, List.length_cons, Nat.mul_succ]
    have := flat_len f h l
    have := h a
    omega
theorem fresh_len {ts : List Tie} (h : ts.length ≤ 12) (x : Nam) : ∀ n, (freshE ts x n).length ≤ 12 ^ n
  | 0 => Nat.le_refl _
  | n + 1 => by
    have h1 := flat_len (fun e => extE ts e ts.length) (ext_len12 h) (freshE ts x n)
    have h2 := fresh_len h x n
    show ((freshE ts x n).flatMap fun e => extE ts e ts.length).length ≤ 12 ^ n * 12
    omega
theorem found_len {ts : List Tie} (h : ts.length ≤ 12) (x : Nam) : ∀ n, (foundE ts x n).length ≤ 2 * 12 ^ n
  | 0 => (by decide : 1 ≤ 2 * 12 ^ 0)
  | n + 1 => by
    have h1 := found_len h x n
    have h2 := fresh_len h x (n + 1)
    show (foundE ts x n ++ freshE ts x (n + 1)).length ≤ 2 * (12 ^ n * 12)
    rw [List.length_append]
    have : 12 ^ (n + 1) = 12 ^ n * 12 := rfl
    omega
/-! the best -/
abbrev Key3 := Int × List Nat
def cmpK (a b : Key3) : Bool := decide (a.1 < b.1 ∨ (a.1 = b.1 ∧ (a.2.length < b.2.length ∨ (a.2.length = b.2.length ∧ lxN a.2 b.2 = true))))
def keyE (e : Ent) : Key3 := (e.1, e.2.1)
def bet (y : Nam) (b : Option Key3) (e : Ent) : Option Key3 := if e.2.2.1 = y ∧ (b = none ∨ ∃ d, b = some d ∧ cmpK (keyE e) d = true) then some (keyE e) else b
theorem best_min {y : Nam} {T : Key3} (irr : cmpK T T = false) : ∀ (l : List Ent), (∀ e ∈ l, e.2.2.1 = y → keyE e = T ∨ (cmpK T (keyE e) = true ∧ cmpK (keyE e) T = false)) → ∀ b0 : Option Key3, (b0 = none ∨ ∃ d, b0 = some d ∧ (d = T ∨ cmpK T d = true)) →
    ((∃ e ∈ l, e.2.2.1 = y ∧ keyE e = T) ∨ b0 = some T) → l.foldl (bet y) b0 = some T
  | [], _, b0, _, h => by
    rcases h with ⟨e, m, _⟩ | h
    · cases m
    · exact h
  | e :: l, hl, b0, hb, h => by
    show l.foldl (bet y) (bet y b0 e) = some T
    have he := hl e List.mem_cons_self
    have key : (bet y b0 e = none ∨ ∃ d, bet y b0 e = some d ∧ (d = T ∨ cmpK T d = true)) ∧ (((e.2.2.1 = y ∧ keyE e = T) ∨ b0 = some T) → bet y b0 e = some T) := by
      unfold bet
      by_cases hy : e.2.2.1 = y
      · rcases he hy with hT | ⟨h1, h2⟩
        · rw [hT]
          rcases hb with rfl | ⟨d, rfl, hd⟩
          · rw [if_pos ⟨hy, .inl rfl⟩]
            exact ⟨.inr ⟨T, rfl, .inl rfl⟩, fun _ => rfl⟩
          · rcases hd with rfl | hd
            · rw [if_neg (fun q => by
                rcases q.2 with q | ⟨d, q1, q2⟩
                · cases q
                · cases Option.some.inj q1; rw [irr] at q2; cases q2)]
              exact ⟨.inr ⟨_, rfl, .inl rfl⟩, fun _ => rfl⟩
            · rw [if_pos ⟨hy, .inr ⟨d, rfl, hd⟩⟩]
              exact ⟨.inr ⟨T, rfl, .inl rfl⟩, fun _ => rfl⟩
        · have hne : keyE e ≠ T := fun q => by rw [q, irr] at h1; cases h1
          by_cases hc : e.2.2.1 = y ∧ (b0 = none ∨ ∃ d, b0 = some d ∧ cmpK (keyE e) d = true)
          · rw [if_pos hc]
            refine ⟨.inr ⟨_, rfl, .inr h1⟩, fun q => ?_⟩
            rcases q with q | q
            · exact absurd q.2 hne
            · rcases hc.2 with q2 | ⟨d, q2, q3⟩
              · rw [q] at q2; cases q2
              · rw [q] at q2; cases Option.some.inj q2; rw [h2] at q3; cases q3
          · rw [if_neg hc]
            exact ⟨hb, fun q => q.elim (fun q => absurd q.2 hne) id⟩
      · rw [if_neg fun q => hy q.1]
        exact ⟨hb, fun q => q.elim (fun q => absurd q.1 hy) id⟩
    refine best_min irr l (fun d m => hl d (List.mem_cons_of_mem _ m)) _ key.1 ?_
    rcases h with ⟨d, m, h1, h2⟩ | h
    · rcases List.mem_cons.mp m with rfl | m
      · exact .inr (key.2 (.inl ⟨h1, h2⟩))
      · exact .inl ⟨d, m, h1, h2⟩
    · exact .inr (key.2 (.inr h))
theorem best_none {y : Nam} : ∀ (l : List Ent), (∀ e ∈ l, e.2.2.1 ≠ y) → l.foldl (bet y) none = none
  | [], _ => rfl
  | e :: l, h => by
    show l.foldl (bet y) (bet y none e) = none
    unfold bet
    rw [if_neg fun q => h e List.mem_cons_self q.1]
    exact best_none l fun d m => h d (List.mem_cons_of_mem _ m)
/-- what first_way answers with its toll -/
def firstK (zs : List Nam) (ts : List Tie) (x y : Nam) : Option Key3 := (coF zs ts y x).map fun c => (c.1, fwN (coF zs ts y) ts y c.2.toNat x)
theorem best_is {zs : List Nam} {ts : List Tie} {x y : Nam} (ok : LOk zs ts) (hy : y ∈ zs) : (foundE ts x zs.length).foldl (bet y) none = firstK zs ts x y := by
  unfold firstK
  cases hc : coF zs ts y x with
  | none =>
    refine best_none _ fun e m he => ?_
    obtain ⟨n, m⟩ := found_from m
    obtain ⟨p, nd, _⟩ := fresh_sound n e m
    rw [he] at p
    obtain ⟨u, eu, _⟩ := co_le ok hy p nd _ rfl
    rw [hc] at eu
    cases eu
  | some c =>
    obtain ⟨v, M⟩ := c
    obtain ⟨ks0, vs0, p0, nd0, l0⟩ := co_some ok hy hc
    obtain ⟨m, hm⟩ : ∃ m : Nat, M = (m : Int) := ⟨ks0.length, l0.symm⟩
    subst hm
    obtain ⟨vs, p, nd, hz, ln, lx⟩ := fw_path ok hy m hc
    show _ = some (v, fwN (coF zs ts y) ts y (Int.toNat (m : Int)) x)
    rw [Int.toNat_natCast]
    generalize fwN (coF zs ts y) ts y m x = F at p ln lx
    refine best_min (T := (v, F)) ?_ _ (fun e me he => ?_) none (.inl rfl) (.inl ⟨(v, F, y, vs), ?_, rfl, rfl⟩)
    · refine decide_eq_false fun q => ?_
      rcases q with q | ⟨_, q | ⟨_, q⟩⟩
      · exact Int.lt_irrefl _ q
      · exact Nat.lt_irrefl _ q
      · have q : lxN F F = true := q
        rw [lxN_irr] at q; cases q
    · obtain ⟨n, me⟩ := found_from me
      obtain ⟨p', nd', _⟩ := fresh_sound n e me
      rw [he] at p'
      obtain ⟨u, eu, lu⟩ := co_le ok hy p' nd' _ rfl
      rw [hc] at eu
      cases Option.some.inj eu
      obtain ⟨w, ks, h, vs'⟩ := e
      simp only at p' nd' lu he
      unfold cle at lu
      simp only at lu
      by_cases heq : v = w ∧ m = ks.length
      · obtain ⟨rfl, rfl⟩ := heq
        rcases lx ks vs' p' nd' rfl with q | q
        · exact .inl (by show (v, ks) = (v, F); rw [q])
        · refine .inr ⟨decide_eq_true (.inr ⟨rfl, .inr ⟨ln, q⟩⟩), decide_eq_false fun z => ?_⟩
          rcases z with z | ⟨_, z | ⟨_, z⟩⟩
          · exact Int.lt_irrefl _ z
          · have z : ks.length < F.length := z
            omega
          · have z : lxN ks F = true := z
            rw [lxN_asym q] at z; cases z
      · refine .inr ⟨decide_eq_true ?_, decide_eq_false fun z => ?_⟩
        · show v < w ∨ (v = w ∧ (F.length < ks.length ∨ (F.length = ks.length ∧ lxN F ks = true)))
          by_cases q : v < w
          · exact .inl q
          · exact .inr ⟨by omega, .inl (by omega)⟩
        · have z : w < v ∨ (w = v ∧ (ks.length < F.length ∨ (ks.length = F.length ∧ lxN ks F = true))) := z
          rcases z with z | ⟨z1, z | ⟨z, _⟩⟩
          · omega
          · omega
          · exact heq ⟨z1.symm, by omega⟩
    · have hv := p.vlen
      have hl := nd_len nd (p.mem hy ok.a)
      obtain ⟨w1, hw⟩ := p.start
      have := fresh_all (x := x) p (n := 0) (v0 := 0) (ks0 := []) (vs0 := [x]) (vs1 := w1) List.mem_cons_self hw (by rw [hw] at nd; exact nd)
      rw [Int.zero_add, List.nil_append, Nat.zero_add, show [x] ++ w1 = vs from hw.symm] at this
      exact found_fresh (by omega) this
end TK

/-! the costs to a taker -/
namespace TK
open PySem PySem.Spec PyProof.Rows L2
def CAt (H : Hp) (e : Addr) (c : Cst) : Prop := H e = some (.tup [.int c.1, .int c.2])
def CoAt (H : Hp) (D : Addr) (co : Nam → Option Cst) (n : Nat) : Prop := ∃ kvs : List (Key × V), H D = some (.dK kvs) ∧ kvs.length ≤ n ∧ ∀ z, (co z = none → valV kvs (Sum.inr (sOf z) : Key) = none) ∧ ∀ c, co z = some c → ∃ e, valV kvs (Sum.inr (sOf z) : Key) = some (.ref e) ∧ CAt H e c
theorem CoAt.same {H H' : Hp} {D : Addr} {co : Nam → Option Cst} {n : Nat} (h : CoAt H D co n) (s : Same H H') : CoAt H' D co n := by
  obtain ⟨kvs, h1, h2, h3⟩ := h
  refine ⟨kvs, s _ _ h1, h2, fun z => ⟨(h3 z).1, fun c e => ?_⟩⟩
  obtain ⟨a, e1, e2⟩ := (h3 z).2 c e
  exact ⟨a, e1, s _ _ e2⟩
theorem CoAt.mono {H : Hp} {D : Addr} {co : Nam → Option Cst} {n m : Nat} (h : CoAt H D co n) (k : n ≤ m) : CoAt H D co m := by
  obtain ⟨kvs, h1, h2, h3⟩ := h
  exact ⟨kvs, h1, by omega, h3⟩
theorem co_none {H : Hp} {D : Addr} {co : Nam → Option Cst} {n : Nat} (h : CoAt H D co n) {z : Nam} (e : co z = none) : DGet H D (vN z) none := by
  obtain ⟨kvs, h1, _, h3⟩ := h
  exact (h3 z).1 e ▸ DGet.k (k := Sum.inr (sOf z)) h1
theorem co_get {H : Hp} {D : Addr} {co : Nam → Option Cst} {n : Nat} (h : CoAt H D co n) {z : Nam} {c : Cst} (e : co z = some c) : ∃ a, DGet H D (vN z) (some (.ref a)) ∧ CAt H a c := by
  obtain ⟨kvs, h1, _, h3⟩ := h
  obtain ⟨a, e1, e2⟩ := (h3 z).2 c e
  exact ⟨a, e1 ▸ DGet.k (k := Sum.inr (sOf z)) h1, e2⟩
theorem co_put {H : Hp} {D e : Addr} {co : Nam → Option Cst} {n : Nat} (h : CoAt H D co n) {z : Nam} {c : Cst} (hn : n ≤ 1000) (he : CAt H e c) : ∃ H', DPut H D (vN z) (.ref e) H' ∧ CoAt H' D (fun w => if w = z then some c else co w) (n + 1) ∧ ∃ o, H' = upd H D o := by
  obtain ⟨kvs, h1, h2, h3⟩ := h
  have ne : ∀ {a : Addr} {c : Cst}, CAt H a c → a ≠ D := fun ha q => by
    rw [q] at ha
    unfold CAt at ha
    rw [h1] at ha
    cases ha
  refine ⟨_, DPut.k (k := Sum.inr (sOf z)) h1 (small1000 (by omega)), ⟨_, upd_same, by have := length_putK kvs (Sum.inr (sOf z) : Key) (.ref e); omega, fun w => ?_⟩, _, rfl⟩
  rw [valV_put]
  by_cases hw : w = z
  · subst hw
    rw [if_pos rfl]
    show (((if w = w then some c else co w) = none → _) ∧ ∀ d, (if w = w then some c else co w) = some d → _)
    rw [if_pos rfl]
    refine ⟨fun q => (nomatch q), fun d q => ?_⟩
    cases Option.some.inj q
    exact ⟨e, rfl, (upd_ne (ne he)).trans he⟩
  · rw [if_neg fun q => hw (sOf_inj (Sum.inr.inj q))]
    show (((if w = z then some c else co w) = none → _) ∧ ∀ d, (if w = z then some c else co w) = some d → _)
    rw [if_neg hw]
    refine ⟨(h3 w).1, fun d q => ?_⟩
    obtain ⟨a, e1, e2⟩ := (h3 w).2 d q
    exact ⟨a, e1, (upd_ne (ne e2)).trans e2⟩
theorem lexLt2 (a b : Cst) : HT.lexLt [a.1, a.2] [b.1, b.2] = clt a b := by
  show (if a.1 = b.1 then (if a.2 = b.2 then false else decide (a.2 < b.2)) else decide (a.1 < b.1)) = decide (a.1 < b.1 ∨ (a.1 = b.1 ∧ a.2 < b.2))
  by_cases h1 : a.1 = b.1
  · rw [if_pos h1]
    by_cases h2 : a.2 = b.2
    · rw [if_pos h2]
      exact (decide_eq_false (by omega)).symm
    · rw [if_neg h2]
      exact decide_eq_decide.mpr (by omega)
  · rw [if_neg h1]
    exact decide_eq_decide.mpr (by omega)
section
variable {P : Program} {w : World} {K : PySem.W.Frag} {mg : Str → Option Value} {base : Heap}
def spThr : Sp := fun vs H Q _ => ∃ (D : Addr) (z : Nam) (t : Int) (co : Nam → Option Cst) (c : Cst) (n : Nat), vs = [.ref D, vN z, .int t] ∧ CoAt H D co n ∧ co z = some c ∧ ∀ e, H e = none → Q (.ref e) (upd H e (.tup [.int (thr c t).1, .int (thr c t).2]))
theorem ok_cost_through {f : Addr} {fd : FuncData} (F : Fun K "_cost_through" "_cost_through" s_cost_through f fd) : FnOk P w K mg base CX0 1 f fd ["costs", "end", "toll"] spThr := by
  refine F.ok sc_cost_through (fun vs H Q E h => ?_) (fun cdv A outer s H vs Q E hr h => ?_)
  · obtain ⟨D, z, t, co, c, n, rfl, _⟩ := h
    rfl
  · obtain ⟨D, z, t, co, c, n, rfl, hD, hc, q⟩ := h
    refine ⟨_, (pss_cons (ps_asg (pe_dget (hu_of hr) (pv 0) (pv 1) (fun _ _ => rfl)) (pg_tup (by rfl) (pgs_cons (pg_name (i := 3) sc_cost_through.nd rfl (.inl rfl)) (pgs_cons (pg_name (i := 4) sc_cost_through.nd rfl (.inl rfl)) pgs_nil))))
  (pss_one (ps_ret (pe_tup (pa_cons (pe_op op_add (pv 3) (pv 2)) (pa_cons (pe_op op_add (pv 4) pe_int) pa_nil)))))), ?_⟩
    obtain ⟨a, ga, ha⟩ := co_get hD hc
    refine ⟨_, rfl, _, rfl, D, _, rfl, ga, ?_⟩
    refine ⟨_, _, rfl, tupAt ha, rfl, _, _, rfl, _, _, rfl, rfl, ?_⟩
    exact ⟨_, rfl, _, rfl, _, _, rfl, rfl, _, rfl, _, _, rfl, rfl, (show (2 : Nat) ≤ sizeLine by decide), fun e ne => q e ne⟩
def spCosts (C : Addr) : Sp := fun vs H Q _ => ∃ (p : Addr) (zs : List Nam) (es : List Addr) (ts : List Tie) (y : Nam), vs = [.ref p, vN y] ∧ LkAt C H p zs es ts ∧ LOk zs ts ∧ y ∈ zs ∧ ∀ H' D, H D = none → Same H H' → CoAt H' D (coF zs ts y) 100 → Q (.ref D) H'
theorem ok_costs_to {f C gi : Addr} {fd : FuncData} (F : Fun K "_costs_to" "_costs_to" s_costs_to f fd) (T : TxtL K C) (O_Links_iter : Own K C "__iter__" gi) (I_Links : FnIt P w K mg base 1 gi (RLk K C))
    (d_cost_through : Def P w K mg base "_cost_through" 1 ["costs", "end", "toll"] spThr) : FnOk P w K mg base CX0 2 f fd ["links", "taker"] (spCosts C) := by
  refine F.ok sc_costs_to (fun vs H Q E h => ?_) (fun cdv A outer s H vs Q E hr h => ?_)
  · obtain ⟨p, zs, es, ts, y, rfl, _⟩ := h
    rfl
  · obtain ⟨p, zs, es, ts, y, rfl, lk, ok, hy, q⟩ := h
    refine ⟨_, (pss_cons (ps_set (i := 2) sc_costs_to.nd rfl (.inl rfl) (pe_disp (pps_cons (pv 1) (pe_tup (pa_cons pe_int (pa_cons pe_int pa_nil))) pps_nil) rfl rfl (by simp) (by simp)))
  (pss_cons (ps_for PassesOwn.never rfl (pi_tup (pe_fld (pv 0) rfl)) (pg_name (i := 3) sc_costs_to.nd rfl (.inl rfl))
    (pss_one (ps_for PassesOwn.never rfl (pi_own O_Links_iter I_Links (hr.mono (by decide)) (pv 0)) (pg_tup (by rfl) (pgs_cons (pg_name (i := 4) sc_costs_to.nd rfl (.inl rfl)) (pgs_cons (pg_name (i := 5) sc_costs_to.nd rfl (.inl rfl)) (pgs_cons (pg_name (i := 6) sc_costs_to.nd rfl (.inl rfl)) pgs_nil))))
    (pss_one (ps_if (pt_cmp (pc_din (hu_of hr) (pv 5) (pv 2))) (pss_cons (ps_set (i := 7) sc_costs_to.nd rfl (.inl rfl) (pe_callD d_cost_through (hr.mono (by decide)) (by rfl) (pa_cons (pv 2) (pa_cons (pv 5) (pa_cons (pv 6) pa_nil)))))
  (pss_one (ps_if (PW.pt (pw_or (pt_cmp (pc_dnotin (hu_of hr) (pv 4) (pv 2))) (pw_or1 (pt_cmpR (op_ltT (Nat.lt_of_le_of_lt (Nat.le_add_right _ 64) hr.units)) (pv 7) (pe_dget (hu_of hr) (pv 2) (pv 4) (fun _ _ => rfl)) (nomark _))))) (pss_one (ps_dput (hu_of hr) (pv 2) (pv 4) (pv 7) rfl)) pss_nil))) pss_nil)))))
  (pss_one (ps_ret (pv 2))))), ?_⟩
    obtain ⟨dx, n, b, o, hp, hn, oc, od, hb, hT⟩ := id lk
    have hN : SqT K H n (zs.map vN) := tupFrz hn
    have zl : (zs.map vN).length = zs.length := List.length_map ..
    have el : (es.map V.ref).length = ts.length := by rw [List.length_map, hT.1]
    refine fun D nD => ⟨_, rfl, (show (2 : Nat) ≤ sizeLine by decide), fun e ne => ?_⟩
    have eD : e ≠ D := fun q => by rw [q, upd_same] at ne; cases ne
    refine ⟨(upd_ne eD.symm).trans upd_same, [((Sum.inr (sOf y) : Key), V.ref e)], rfl, (show (1 : Nat) ≤ 15 by decide), ?_⟩
    have sD0 := same_upd (o := .dK []) nD
    have sD1 := sD0.trans (same_upd (o := .tup [V.int 0, .int 0]) ne)
    have sD2 := same_at (o := .dK (mergeK [] [((Sum.inr (sOf y) : Key), V.ref e)])) sD1 nD
    have c0 : CoAt (upd (upd (upd H D (.dK [])) e (.tup [V.int 0, .int 0])) D (.dK (mergeK [] [((Sum.inr (sOf y) : Key), V.ref e)]))) D (coN ts y 0) 1 := by
      refine ⟨_, upd_same, Nat.le_refl _, fun z => ?_⟩
      show (((if z = y then some ((0, 0) : Cst) else none) = none → valV (putK [] (Sum.inr (sOf y) : Key) (V.ref e)) _ = none) ∧ ∀ c, (if z = y then some ((0, 0) : Cst) else none) = some c → ∃ e', valV (putK [] (Sum.inr (sOf y) : Key) (V.ref e)) _ = some (.ref e') ∧ _)
      rw [valV_put]
      by_cases hz : z = y
      · subst hz
        rw [if_pos rfl, if_pos rfl]
        refine ⟨fun q => (nomatch q), fun c q => ?_⟩
        cases Option.some.inj q
        exact ⟨e, rfl, (upd_ne eD).trans upd_same⟩
      · rw [if_neg hz, if_neg fun q => hz (sOf_inj (Sum.inr.inj q))]
        exact ⟨fun _ => rfl, fun c q => (nomatch q)⟩
    generalize upd (upd (upd H D (.dK [])) e (.tup [V.int 0, .int 0])) D (.dK (mergeK [] [((Sum.inr (sOf y) : Key), V.ref e)])) = H1 at sD2 c0 ⊢
    refine ⟨_, rfl, p, C, dx, _, _, rfl, sD2 _ _ hp, T.cl, T.nN, fldsL_names _ _, n, rfl, ⟨_, same_tup sD2 hN⟩, for_tup (K := K) (a := n) (xs := zs.map vN) (fun i σ H2 => Same H H2 ∧ CoAt H2 D (coN ts y i) (1 + 12 * i) ∧ ∃ y3 y4 y5 y6 y7 : Option V, σ = [some (.ref p), some (vN y), some (.ref D), y3, y4, y5, y6, y7]) ⟨sD2, c0, _, _, _, _, _, rfl⟩ (fun i σ H2 _ hp => same_tup hp.1 hN) ?_ ?_⟩
    · rintro i x σ H2 hx ⟨sm, hD, y3, y4, y5, y6, y7, rfl⟩
      have hi : i < zs.length := by have := (List.getElem?_eq_some_iff.mp hx).1; omega
      have z6 := ok.l6
      have t12 := ok.t12
      refine ⟨_, rfl, p, dx, _, b, rfl, sm _ _ hp, ⟨dx, n, _, sm _ _ hp, tupAt (sm _ _ hb)⟩, ⟨_, tupAt (sm _ _ hb)⟩, ?_⟩
      refine for_tup (K := K) (a := b) (xs := es.map V.ref) (fun j σ H3 => Same H H3 ∧ CoAt H3 D ((ts.take j).foldl relC (coN ts y i)) (1 + 12 * i + j) ∧ ∃ y3 y4 y5 y6 y7 : Option V, σ = [some (.ref p), some (vN y), some (.ref D), y3, y4, y5, y6, y7]) ⟨sm, hD, _, _, _, _, _, rfl⟩ (fun j σ H3 _ hp => tupAt (hp.1 _ _ hb)) ?_ ?_
      · rintro j x σ H3 hx ⟨s3, hD3, y3, y4, y5, y6, y7, rfl⟩
        obtain ⟨e, t, rfl, _, et, ht⟩ := ties_at hT hx
        have tm := mem_at et
        have hj : j < ts.length := (List.getElem?_eq_some_iff.mp et).1
        rw [List.take_add_one, et, List.foldl_append]
        show gTup _ _ _ _ _ _ _
        generalize hco : (ts.take j).foldl relC (coN ts y i) = co at hD3 ⊢
        refine ⟨_, _, rfl, tupAt (s3 _ _ ht), rfl, _, _, rfl, _, _, rfl, _, _, rfl, rfl, ?_⟩
        cases hc : co t.2.1 with
        | none =>
          refine ⟨_, rfl, _, rfl, D, _, rfl, co_none hD3 hc, _, rfl, iteF ⟨s3, ?_, _, _, _, _, _, rfl⟩⟩
          show CoAt H3 D (relC co t) _
          rw [relC_none hc]
          exact hD3.mono (by omega)
        | some c =>
          obtain ⟨a, ga, ha⟩ := co_get hD3 hc
          refine ⟨_, rfl, _, rfl, D, _, rfl, ga, _, rfl, iteT ⟨_, rfl, _, rfl, _, rfl, D, t.2.1, t.2.2, co, c, _, rfl, hD3, hc, fun e' ne' => ?_⟩⟩
          have s4 := same_upd (o := .tup [V.int (thr c t.2.2).1, .int (thr c t.2.2).2]) ne'
          have he : CAt (upd H3 e' (.tup [V.int (thr c t.2.2).1, .int (thr c t.2.2).2])) e' (thr c t.2.2) := upd_same
          have hD4 := hD3.same s4
          generalize upd H3 e' (.tup [V.int (thr c t.2.2).1, .int (thr c t.2.2).2]) = H4 at s4 he hD4 ⊢
          have s34 := s3.trans s4
          have put : newB co t c = true → ∃ H5, DPut H4 D (vN t.1) (.ref e') H5 ∧ Same H H5 ∧ CoAt H5 D (relC co t) (1 + 12 * i + j + 1) := fun hn => by
            obtain ⟨H5, hp5, hc5, o5, rfl⟩ := co_put (z := t.1) hD4 (by omega) he
            refine ⟨_, hp5, same_at s34 nD, ?_⟩
            rw [relC_yes hc hn]
            exact hc5
          cases hd : co t.1 with
          | none =>
            obtain ⟨H5, hp5, s5, c5⟩ := put (by unfold newB; rw [hd])
            exact ⟨_, rfl, _, rfl, D, _, rfl, co_none hD4 hd, _, rfl, iteT (iteT ⟨_, rfl, _, rfl, _, rfl, D, H5, rfl, hp5, s5, c5, _, _, _, _, _, rfl⟩)⟩
          | some d =>
            obtain ⟨a', ga', ha'⟩ := co_get hD4 hd
            refine ⟨_, rfl, _, rfl, D, _, rfl, ga', _, rfl, iteF ⟨_, rfl, _, rfl, _, rfl, D, _, rfl, ga', e', a', [(thr c t.2.2).1, (thr c t.2.2).2], [d.1, d.2], rfl, rfl, tupAt he, tupAt ha', _, rfl, ?_⟩⟩
            rw [lexLt2]
            have hn : newB co t c = clt (thr c t.2.2) d := by unfold newB; rw [hd]
            cases hq : clt (thr c t.2.2) d with
            | true =>
              obtain ⟨H5, hp5, s5, c5⟩ := put (hn.trans hq)
              exact iteT ⟨_, rfl, _, rfl, _, rfl, D, H5, rfl, hp5, s5, c5, _, _, _, _, _, rfl⟩
            | false =>
              refine iteF ⟨s34, ?_, _, _, _, _, _, rfl⟩
              show CoAt H4 D (relC co t) _
              rw [relC_no hc (hn.trans hq)]
              exact hD4.mono (by omega)
      · rintro σ H3 ⟨s3, hD3, q3⟩
        rw [el, List.take_length] at hD3
        exact ⟨s3, hD3.mono (by omega), q3⟩
    · rintro σ H2 ⟨sm, hD, y3, y4, y5, y6, y7, rfl⟩
      rw [zl] at hD
      have z6 := ok.l6
      exact ⟨_, rfl, q H2 D nD sm (hD.mono (by omega))⟩
end
end TK

/-! the first way -/
namespace TK
open PySem PySem.Spec PyProof.Rows L2
theorem gTup13 {K : PySem.W.Frag} {i j k l : Nat} {e t : Addr} {x y z u : V} {σ : L2.St} {H : Hp} {Q : L2.St → Hp → Prop} (he : H e = some (.tup [x, .ref t])) (ht : H t = some (.tup [y, z, u])) (σ' : L2.St) (hσ : (((σ.set i (some x)).set j (some y)).set k (some z)).set l (some u) = σ') (h : Q σ' H) :
    gTup K 2 (gCons (gName i) (gCons (gTup K 3 (gCons (gName j) (gCons (gName k) (gCons (gName l) gNil)))) gNil)) (.ref e) σ H Q := by
  subst hσ
  refine ⟨_, _, rfl, tupAt he, rfl, _, _, rfl, _, _, rfl, ?_⟩
  exact ⟨_, _, rfl, tupAt ht, rfl, _, _, rfl, _, _, rfl, _, _, rfl, rfl, rfl, h⟩
theorem eqv2 (a b : Cst) : PyData.eqv (.tuple [.int a.1, .int a.2]) (.tuple [.int b.1, .int b.2]) = decide (a = b) := by
  have : (a = b) ↔ (a.1 = b.1 ∧ a.2 = b.2) := ⟨fun h => by rw [h]; exact ⟨rfl, rfl⟩, fun h => Prod.ext h.1 h.2⟩
  by_cases h1 : a.1 = b.1 <;> by_cases h2 : a.2 = b.2 <;> simp [PyData.eqv, PyData.eqvAll, h1, h2, this]
section
variable {P : Program} {w : World} {K : PySem.W.Frag} {mg : Str → Option Value} {base : Heap}
def nI (k : Nat) : V := .int (k : Nat)
def spFirstL (C : Addr) : Sp := fun vs H Q _ => ∃ (p D : Addr) (zs : List Nam) (es : List Addr) (ts : List Tie) (x : Nam) (co : Nam → Option Cst) (c : Cst) (n k : Nat) (l : List Nat), vs = [.ref p, .ref D, vN x] ∧ LkAt C H p zs es ts ∧ LOk zs ts ∧ CoAt H D co n ∧ co x = some c ∧ tights co ts x ts.length = k :: l ∧ ∀ H', Same H H' → Q (.int (k : Nat)) H'
theorem ok_first_link {f C gi : Addr} {fd : FuncData} (F : Fun K "_first_link" "_first_link" s_first_link f fd) (T : TxtL K C) (m_enumerate : mg "enumerate" = none) (O_Links_iter : Own K C "__iter__" gi) (I_Links : FnIt P w K mg base 1 gi (RLk K C))
    (d_cost_through : Def P w K mg base "_cost_through" 1 ["costs", "end", "toll"] spThr) : FnOk P w K mg base CX0 4 f fd ["links", "costs", "holder"] (spFirstL C) := by
  refine F.ok sc_first_link (fun vs H Q E h => ?_) (fun cdv A outer s H vs Q E hr h => ?_)
  · obtain ⟨p, D, zs, es, ts, x, co, c, n, k, l, rfl, _⟩ := h
    rfl
  · obtain ⟨p, D, zs, es, ts, x, co, c, n, k, l, rfl, lk, ok, hD, hc, hl, q⟩ := h
    refine ⟨_, (pss_cons (ps_setLc (i := 3) (own := [("number", 4), ("start", 5), ("end", 6), ("toll", 7)]) (by rfl) sc_first_link.nd rfl rfl (sw_true rfl rfl rfl (by decide +kernel)) (pi_enumO O_Links_iter I_Links (hr.mono (by decide)) (by rfl) m_enumerate (pa_cons (pv 0) pa_nil)) (blkOk_by (N := ["links", "costs", "holder", "numbers", "number", "start", "end", "toll"]) (sc := defScope s_first_link) (by decide +kernel)) (fun _ _ _ _ _ => (pg_tupK (K := K) (n := 2) rfl (by rfl) (pgs_cons (pg_name (i := 4) sc_first_link.nd rfl (.inl rfl)) (pgs_cons (pg_tupK (K := K) (n := 3) rfl (by rfl) (pgs_cons (pg_name (i := 5) sc_first_link.nd rfl (.inl rfl)) (pgs_cons (pg_name (i := 6) sc_first_link.nd rfl (.inl rfl)) (pgs_cons (pg_name (i := 7) sc_first_link.nd rfl (.inl rfl)) pgs_nil)))) pgs_nil)))) (fun _ _ _ _ _ => (pts_one (PW.pt (pw_and (pt_cmpR op_eq (pv 5) (pv 2) (nomark _)) (pw_and (pt_cmp (pc_din (hu_of hr) (pv 6) (pv 1))) (pw_and1 (pt_cmpR (op_eqDK (K := K) rfl hr.units) (pe_callD d_cost_through (hr.mono (by decide)) (by rfl) (pa_cons (pv 1) (pa_cons (pv 6) (pa_cons (pv 7) pa_nil)))) (pe_dget (hu_of hr) (pv 1) (pv 2) (fun _ _ => rfl)) (nomark _)))))))) (fun _ _ _ _ _ => (pv 4)))
  (pss_one (ps_ret (pe_ix ix_list (pv 3) pe_int (fun _ _ => rfl))))), ?_⟩
    obtain ⟨dx, nn, b, o, hp, hn, oc, od, hb, hT⟩ := id lk
    have el : (es.map V.ref).length = ts.length := by rw [List.length_map, hT.1]
    have t12 := ok.t12
    refine ⟨_, rfl, p, dx, _, b, es.map V.ref, rfl, hp, ⟨dx, nn, _, hp, tupAt hb⟩, tupAt hb, fun L nL => ?_⟩
    have tl : ∀ i, (tights co ts x i).length ≤ i := fun i => by
      have := List.length_filter_le (fun k => tightB co x (tieN ts k)) (List.range i)
      rw [List.length_range] at this
      exact this
    refine lc_it (walk_enumT (K := K) (a := b) (xs := es.map V.ref)) (fun i H' => Same H H' ∧ H' L = some (.lst ((tights co ts x i).map nI))) ⟨same_upd nL, upd_same⟩ (fun i H' _ hq => tupAt (hq.1 _ _ hb)) (fun i v H1 H2 hi hq hy => ?_) (fun H' hq => ?_)
    · obtain ⟨s1, eL⟩ := hq
      obtain ⟨T0, x0, y0, rfl, nT, rfl, e1, e2⟩ := hy
      cases Option.some.inj e1
      obtain ⟨e, t, rfl, _, et, hte⟩ := ties_at hT e2
      have sT := same_upd (o := .tup [.int (i : Nat), V.ref e]) nT
      have s2 := s1.trans sT
      have eL2 := sT _ _ eL
      have hD2 := hD.same s2
      have hi12 : i < 12 := by rw [el] at hi; omega
      refine gTup13 upd_same (s2 _ _ hte) [some (.ref p), some (.ref D), some (vN x), none, some (.int (i : Nat)), some (vN t.1), some (vN t.2.1), some (.int t.2.2)] rfl ?_
      refine ⟨rfl, ?_⟩
      have hti : tieN ts i = t := tieN_at et
      generalize upd H1 T0 (.tup [.int (i : Nat), V.ref e]) = H3 at s2 eL2 hD2 ⊢
      rw [tights_succ, hti]
      have keep : ∀ {H4 : Hp}, Same H H4 → H4 L = some (.lst ((tights co ts x i).map nI)) → tightB co x t = false → Same H H4 ∧ H4 L = some (.lst ((tights co ts x i ++ if tightB co x t = true then [i] else []).map nI)) := fun s e n => ⟨s, by rw [n, if_neg Bool.false_ne_true, List.append_nil]; exact e⟩
      refine ⟨_, rfl, _, rfl, rfl, _, rfl, ?_⟩
      rw [vN_dec]
      by_cases h1 : t.1 = x
      · rw [decide_eq_true h1]
        refine iteT ?_
        cases hd : co t.2.1 with
        | none =>
          refine ⟨_, rfl, _, rfl, D, _, rfl, co_none hD2 hd, _, rfl, iteF (iteF (keep s2 eL2 (by unfold tightB; rw [hd, Bool.and_false])))⟩
        | some d =>
          obtain ⟨a, ga, ha⟩ := co_get hD2 hd
          refine ⟨_, rfl, _, rfl, D, _, rfl, ga, _, rfl, iteT ⟨_, rfl, _, rfl, _, rfl, D, t.2.1, t.2.2, co, d, _, rfl, hD2, hd, fun e' ne' => ?_⟩⟩
          have s4 := same_upd (o := .tup [V.int (thr d t.2.2).1, .int (thr d t.2.2).2]) ne'
          have he : CAt (upd H3 e' (.tup [V.int (thr d t.2.2).1, .int (thr d t.2.2).2])) e' (thr d t.2.2) := upd_same
          have hD4 := hD2.same s4
          have eL4 := s4 _ _ eL2
          have s24 := s2.trans s4
          generalize upd H3 e' (.tup [V.int (thr d t.2.2).1, .int (thr d t.2.2).2]) = H4 at he hD4 eL4 s24 ⊢
          obtain ⟨a', ga', ha'⟩ := co_get hD4 hc
          refine ⟨_, rfl, _, rfl, D, _, rfl, ga', .tuple [.int (thr d t.2.2).1, .int (thr d t.2.2).2], .tuple [.int c.1, .int c.2], .tup (tupAt he) (.cons (.int _) (.cons (.int _) .nil)), .tup (tupAt ha') (.cons (.int _) (.cons (.int _) .nil)), rfl, rfl, _, rfl, ?_⟩
          rw [eqv2]
          have ht : tightB co x t = decide (thr d t.2.2 = c) := by
            unfold tightB
            rw [hd, decide_eq_true h1, hc]
            show (true && decide (some c = some (thr d t.2.2))) = _
            rw [Bool.true_and]
            exact decide_eq_decide.mpr ⟨fun q => (Option.some.inj q).symm, fun q => by rw [q]⟩
          by_cases h2 : thr d t.2.2 = c
          · rw [decide_eq_true h2] at ht ⊢
            refine iteT ⟨_, rfl, _, eL4, by rw [List.length_map]; have := tl i; exact small1000 (by omega), same_at s24 nL, ?_⟩
            rw [ht, if_pos rfl, List.map_append]
            exact upd_same
          · rw [decide_eq_false h2] at ht ⊢
            exact iteF (keep s24 eL4 ht)
      · rw [decide_eq_false h1]
        exact iteF (iteF (keep s2 eL2 (by unfold tightB; rw [decide_eq_false h1, Bool.false_and])))
    · obtain ⟨s1, eL⟩ := hq
      rw [el, hl] at eL
      exact ⟨_, rfl, _, _, _, nI k, rfl, rfl, lstAt eL, atI_in (by decide) rfl, q _ s1⟩
def spFirst (C : Addr) : Sp := fun vs H Q _ => ∃ (p : Addr) (zs : List Nam) (es : List Addr) (ts : List Tie) (x y : Nam), vs = [.ref p, vN x, vN y] ∧ LkAt C H p zs es ts ∧ LOk zs ts ∧ x ∈ zs ∧ y ∈ zs ∧ (firstK zs ts x y = none → ∀ H', Same H H' → Q .non H') ∧ ∀ k3, firstK zs ts x y = some k3 → ∀ H' L, H L = none → Same H H' → H' L = some (.lst (k3.2.map nI)) → Q (.ref L) H'
theorem ok_first_way {f C : Addr} {fd : FuncData} (F : Fun K "first_way" "first_way" s_first_way f fd) (T : TxtL K C) (d_check_known : Def P w K mg base "check_known" 1 ["names", "known"] (spKnown K))
    (d_costs_to : Def P w K mg base "_costs_to" 2 ["links", "taker"] (spCosts C)) (d_first_link : Def P w K mg base "_first_link" 4 ["links", "costs", "holder"] (spFirstL C)) : FnOk P w K mg base CX0 5 f fd ["links", "giver", "taker"] (spFirst C) := by
  refine F.ok sc_first_way (fun vs H Q E h => ?_) (fun cdv A outer s H vs Q E hr h => ?_)
  · obtain ⟨p, zs, es, ts, x, y, rfl, _⟩ := h
    rfl
  · obtain ⟨p, zs, es, ts, x, y, rfl, lk, ok, hx, hy, qn, qs⟩ := h
    refine ⟨_, (pss_cons (ps_expr (pe_callD d_check_known (hr.mono (by decide)) (by rfl) (pa_cons (pe_lst (pa_cons (pv 1) (pa_cons (pv 2) pa_nil))) (pa_cons (pe_fld (pv 0) rfl) pa_nil))))
  (pss_cons (ps_set (i := 3) sc_first_way.nd rfl (.inl rfl) (pe_callD d_costs_to (hr.mono (by decide)) (by rfl) (pa_cons (pv 0) (pa_cons (pv 2) pa_nil))))
  (pss_cons (ps_if (pt_cmp (pc_dnotin (hu_of hr) (pv 1) (pv 3))) (pss_one (ps_ret pe_non)) pss_nil)
  (pss_cons (ps_set (i := 4) sc_first_way.nd rfl (.inl rfl) (pe_lst pa_nil))
  (pss_cons (ps_set (i := 5) sc_first_way.nd rfl (.inl rfl) (pv 1))
  (pss_cons (ps_while PassesOwn.never (pt_cmpR op_ne (pv 5) (pv 2) (nomark _)) (pss_cons (ps_set (i := 6) sc_first_way.nd rfl (.inl rfl) (pe_callD d_first_link (hr.mono (by decide)) (by rfl) (pa_cons (pv 0) (pa_cons (pv 3) (pa_cons (pv 5) pa_nil)))))
  (pss_cons (ps_expr (pe_bm PySem.F.plainAttrs_list PySem.F.slot_list_append PySem.F.type_list_append mt_append (pv 4) (pa_cons (pv 6) pa_nil)))
  (pss_one (ps_set (i := 5) sc_first_way.nd rfl (.inl rfl) (pe_ix ix_tup (pe_ix ix_tup (pe_fld (pv 0) rfl) (pv 6) (fun _ _ => rfl)) pe_int (fun _ _ => rfl)))))))
  (pss_one (ps_ret (pv 4))))))))), ?_⟩
    obtain ⟨dx, nn, b, o, hp, hn, oc, od, hb, hT⟩ := id lk
    have hN : SqT K H nn (zs.map vN) := tupFrz hn
    refine ⟨_, rfl, _, rfl, (show (2 : Nat) ≤ sizeLine by decide), fun W nW => ?_⟩
    have sW := same_upd (o := .lst [vN x, vN y]) nW
    have eW : (upd H W (.lst [vN x, vN y])) W = some (.lst ([x, y].map vN)) := upd_same
    generalize upd H W (.lst [vN x, vN y]) = H1 at sW eW ⊢
    refine ⟨_, rfl, p, C, dx, _, _, rfl, sW _ _ hp, T.cl, T.nN, fldsL_names _ _, W, nn, [x, y], zs, rfl, .inl (lstAt eW), .inr (same_tup sW hN), fun z m => ?_, ?_⟩
    · rcases List.mem_cons.mp m with rfl | m
      · exact hx
      · rw [List.mem_singleton.mp m]; exact hy
    refine ⟨_, rfl, _, rfl, p, zs, es, ts, y, rfl, lk.same sW, ok, hy, fun H2 D nD s2 hD => ?_⟩
    have s02 := sW.trans s2
    cases hc : coF zs ts y x with
    | none =>
      refine ⟨_, rfl, _, rfl, D, _, rfl, co_none hD hc, _, rfl, iteT (qn (by unfold firstK; rw [hc]; rfl) _ s02)⟩
    | some c =>
      obtain ⟨a, ga, ha⟩ := co_get hD hc
      refine ⟨_, rfl, _, rfl, D, _, rfl, ga, _, rfl, iteF ⟨Nat.zero_le _, fun L nL => ?_⟩⟩
      obtain ⟨v0, M0⟩ := c
      obtain ⟨ks0, vs0, p0, nd0, l0⟩ := co_some ok hy hc
      obtain ⟨M, rfl⟩ : ∃ M : Nat, M0 = (M : Int) := ⟨ks0.length, l0.symm⟩
      have l0 : (ks0.length : Int) = (M : Int) := l0
      have hM6 : M ≤ 6 := by
        have h1 := p0.vlen
        have h2 := nd_len nd0 (p0.mem hy ok.a)
        have h3 := ok.l6
        omega
      have sL := same_upd (o := .lst []) nL
      have eL0 : (upd H2 L (.lst [])) L = some (.lst (([] : List Nat).map nI)) := upd_same
      generalize upd H2 L (.lst []) = H3 at sL eL0 ⊢
      refine ⟨_, rfl, fun m σ H' => ∃ (h : Nam) (v : Int) (ks : List Nat) (y6 : Option V), σ = [some (.ref p), some (vN x), some (vN y), some (.ref D), some (.ref L), some (vN h), y6] ∧ Same H2 H' ∧ H' L = some (.lst (ks.map nI)) ∧ coF zs ts y h = some (v, (m : Int)) ∧ ks ++ fwN (coF zs ts y) ts y m h = fwN (coF zs ts y) ts y M x ∧ ks.length + m = M, ⟨M, x, v0, [], _, rfl, sL, eL0, hc, rfl, Nat.zero_add _⟩, ?_⟩
      rintro m σ H' ⟨h, v, ks, y6, rfl, s3, eL, he, hf, hm⟩
      refine ⟨_, rfl, _, rfl, rfl, _, rfl, ?_⟩
      rw [vN_dec]
      by_cases hh : h = y
      · rw [decide_eq_true hh]
        refine iteF ⟨_, rfl, qs (v0, ks) ?_ H' L (none_of s02 nL) (s02.trans s3) eL⟩
        rw [hh, co_self ok hy] at he
        have hm0 : (0 : Int) = (m : Int) := congrArg Prod.snd (Option.some.inj he)
        cases (show m = 0 by omega)
        have hf : ks ++ [] = fwN (coF zs ts y) ts y M x := hf
        rw [List.append_nil] at hf
        unfold firstK
        rw [hc]
        show some (v0, fwN (coF zs ts y) ts y (Int.toNat (M : Int)) x) = _
        rw [Int.toNat_natCast, hf]
      · rw [decide_eq_false hh]
        obtain ⟨M', k0, t0, l, hM, hl, g1, g2, g3, _, hfw⟩ := fw_step ok hy he hh
        subst hM
        refine iteT ⟨fun σ' H' => ∃ m', m' < M' + 1 ∧ ∃ (h : Nam) (v : Int) (ks : List Nat) (y6 : Option V), σ' = [some (.ref p), some (vN x), some (vN y), some (.ref D), some (.ref L), some (vN h), y6] ∧ Same H2 H' ∧ H' L = some (.lst (ks.map nI)) ∧ coF zs ts y h = some (v, (m' : Int)) ∧ ks ++ fwN (coF zs ts y) ts y m' h = fwN (coF zs ts y) ts y M x ∧ ks.length + m' = M, fun _ _ h => h, ?_⟩
        refine ⟨_, rfl, _, rfl, _, rfl, p, D, zs, es, ts, h, coF zs ts y, _, 100, k0, l, rfl, lk.same (s02.trans s3), ok, hD.same s3, he, hl, fun H4 s4 => ?_⟩
        have eL4 := s4 _ _ eL
        have s34 := s3.trans s4
        have hk0 : k0 < ts.length := (List.getElem?_eq_some_iff.mp g1).1
        have hke : k0 < es.length := by rw [hT.1]; exact hk0
        obtain ⟨t0', q1, q2⟩ := hT.2 k0 _ (List.getElem?_eq_getElem hke)
        rw [g1] at q1
        cases Option.some.inj q1
        have sA := same_at (o := .lst (ks.map nI ++ [nI k0])) s34 nL
        have hb5 := (s02.trans sA) _ _ hb
        have ht5 := (s02.trans sA) _ _ q2
        refine ⟨_, rfl, .inl ⟨rfl, _, lstAt eL4⟩, _, rfl, _, _, _, rfl, rfl, eL4, by rw [List.length_map]; exact small1000 (by omega), ?_⟩
        refine ⟨_, rfl, p, C, dx, _, _, rfl, (s02.trans sA) _ _ hp, T.cl, T.nL, fldsL_links _ _, _, rfl, _, _, (k0 : Nat), .ref es[k0], rfl, rfl, tupAt hb5, atI_in (by omega) (by rw [Int.toNat_natCast, List.getElem?_map, List.getElem?_eq_getElem hke]; rfl), _, _, 1, vN t0.2.1, rfl, rfl, tupAt ht5, atI_in (by decide) rfl, ?_⟩
        refine ⟨M', Nat.lt_succ_self _, t0.2.1, v - t0.2.2, ks ++ [k0], _, rfl, sA, by rw [List.map_append]; exact upd_same, g3, ?_, by rw [List.length_append]; simp only [List.length_cons, List.length_nil]; omega⟩
        rw [List.append_assoc, ← hf, hfw]
        rfl
end
end TK

/-! the law's ways, the best of them -/
namespace TK
open PySem PySem.Spec PyProof.Rows L2
theorem gTup5 {K : PySem.W.Frag} {i j k l m : Nat} {e : Addr} {x y z u v : V} {σ : L2.St} {H : Hp} {Q : L2.St → Hp → Prop} (he : H e = some (.tup [x, y, z, u, v])) (σ' : L2.St) (hσ : ((((σ.set i (some x)).set j (some y)).set k (some z)).set l (some u)).set m (some v) = σ') (h : Q σ' H) :
    gTup K 5 (gCons (gName i) (gCons (gName j) (gCons (gName k) (gCons (gName l) (gCons (gName m) gNil))))) (.ref e) σ H Q := by
  subst hσ
  exact ⟨_, _, rfl, tupAt he, rfl, _, _, rfl, _, _, rfl, _, _, rfl, _, _, rfl, _, _, rfl, rfl, h⟩
def EntAt (H : Hp) (N : Addr → Prop) (e : Addr) (d : Ent) : Prop := ∃ a b : Addr, H e = some (.tup [.int d.1, .int (d.2.1.length : Nat), .ref a, vN d.2.2.1, .ref b]) ∧ H a = some (.lst (d.2.1.map nI)) ∧ H b = some (.lst (d.2.2.2.map vN)) ∧ N a ∧ N b ∧ N e
def EntsAt (H : Hp) (N : Addr → Prop) (es : List Addr) (ds : List Ent) : Prop := es.length = ds.length ∧ ∀ (i : Nat) (e : Addr), es[i]? = some e → ∃ d, ds[i]? = some d ∧ EntAt H N e d
theorem EntAt.same {H H' : Hp} {N : Addr → Prop} {e : Addr} {d : Ent} (h : EntAt H N e d) (s : Same H H') : EntAt H' N e d := by
  obtain ⟨a, b, h1, h2, h3, h4⟩ := h
  exact ⟨a, b, s _ _ h1, s _ _ h2, s _ _ h3, h4⟩
theorem EntsAt.same {H H' : Hp} {N : Addr → Prop} {es : List Addr} {ds : List Ent} (h : EntsAt H N es ds) (s : Same H H') : EntsAt H' N es ds := ⟨h.1, fun i e he => by
  obtain ⟨d, h1, h2⟩ := h.2 i e he
  exact ⟨d, h1, h2.same s⟩⟩
theorem EntAt.upd {H : Hp} {L : Addr} {o : HO} {e : Addr} {d : Ent} (h : EntAt H (· ≠ L) e d) : EntAt (upd H L o) (· ≠ L) e d := by
  obtain ⟨a, b, h1, h2, h3, h4, h5, h6⟩ := h
  exact ⟨a, b, (upd_ne h6).trans h1, (upd_ne h4).trans h2, (upd_ne h5).trans h3, h4, h5, h6⟩
theorem EntsAt.upd {H : Hp} {L : Addr} {o : HO} {es : List Addr} {ds : List Ent} (h : EntsAt H (· ≠ L) es ds) : EntsAt (upd H L o) (· ≠ L) es ds := ⟨h.1, fun i e he => by
  obtain ⟨d, h1, h2⟩ := h.2 i e he
  exact ⟨d, h1, h2.upd⟩⟩
theorem EntsAt.any {H : Hp} {N M : Addr → Prop} {es : List Addr} {ds : List Ent} (h : EntsAt H N es ds) (k : ∀ a, H a ≠ none → N a → M a) : EntsAt H M es ds := ⟨h.1, fun i e he => by
  obtain ⟨d, h1, a, b, h2, h3, h4, h5, h6, h7⟩ := h.2 i e he
  exact ⟨d, h1, a, b, h2, h3, h4, k _ (by rw [h3]; exact nofun) h5, k _ (by rw [h4]; exact nofun) h6, k _ (by rw [h2]; exact nofun) h7⟩⟩
theorem EntsAt.app {H : Hp} {N : Addr → Prop} {es fs : List Addr} {ds cs : List Ent} (h : EntsAt H N es ds) (k : EntsAt H N fs cs) : EntsAt H N (es ++ fs) (ds ++ cs) := by
  refine ⟨by rw [List.length_append, List.length_append, h.1, k.1], fun i e he => ?_⟩
  by_cases hi : i < es.length
  · rw [List.getElem?_append_left hi] at he
    rw [List.getElem?_append_left (by rw [← h.1]; exact hi)]
    exact h.2 i e he
  · rw [List.getElem?_append_right (by omega)] at he
    rw [List.getElem?_append_right (by rw [← h.1]; omega), ← h.1]
    exact k.2 _ e he
theorem EntsAt.one {H : Hp} {N : Addr → Prop} {e : Addr} {d : Ent} (h : EntAt H N e d) : EntsAt H N [e] [d] := ⟨rfl, fun i a he => by
  match i, he with
  | 0, he => cases Option.some.inj he; exact ⟨d, rfl, h⟩⟩
theorem ents_at {H : Hp} {N : Addr → Prop} {es : List Addr} {ds : List Ent} (h : EntsAt H N es ds) {i : Nat} {x : V} (hx : (es.map V.ref)[i]? = some x) : ∃ e d, x = .ref e ∧ ds[i]? = some d ∧ EntAt H N e d := by
  rw [List.getElem?_map] at hx
  obtain ⟨e, he, rfl⟩ := Option.map_eq_some_iff.mp hx
  obtain ⟨d, a, b⟩ := h.2 i e he
  exact ⟨e, d, rfl, a, b⟩
theorem tie_ix {H : Hp} {es : List Addr} {ts : List Tie} (h : TiesAt H es ts) {k : Nat} (hk : k < ts.length) : ∃ te, atI (es.map V.ref) (k : Nat) = some (.ref te) ∧ H te = some (.tup [vN (tieN ts k).1, vN (tieN ts k).2.1, .int (tieN ts k).2.2]) := by
  have hke : k < es.length := by rw [h.1]; exact hk
  obtain ⟨t, q1, q2⟩ := h.2 k _ (List.getElem?_eq_getElem hke)
  refine ⟨es[k], atI_in (by omega) (by rw [Int.toNat_natCast, List.getElem?_map, List.getElem?_eq_getElem hke]; rfl), ?_⟩
  rw [tieN_at q1]
  exact q2
theorem dpN {K : PySem.W.Frag} {H : Hp} : ∀ ks : List Nat, DpAll K H (ks.map nI) ((ks.map fun k : Nat => (k : Int)).map PyData.int)
  | [] => .nil
  | k :: ks => .cons (.int _) (dpN ks)
theorem lexN : ∀ ks ls : List Nat, HT.lexLt (ks.map fun k : Nat => (k : Int)) (ls.map fun k : Nat => (k : Int)) = lxN ks ls
  | [], [] => rfl
  | [], _ :: _ => rfl
  | _ :: _, [] => rfl
  | k :: ks, l :: ls => by
    rw [List.map_cons, List.map_cons, HT.lexLt_cons]
    show _ = if k = l then lxN ks ls else decide (k < l)
    by_cases h : k = l
    · rw [if_pos h, if_pos (by omega), lexN ks ls]
    · rw [if_neg h, if_neg (by omega)]
      exact decide_eq_decide.mpr (by omega)
theorem depth_ints : ∀ ks : List Int, PyData.depthAll (ks.map PyData.int) ≤ 1
  | [] => by simp [PyData.depthAll]
  | k :: ks => by
    have := depth_ints ks
    simp [PyData.depthAll, PyData.depth]
    omega
def keyD (k : Key3) : PyData := .tuple [.int k.1, .int (k.2.length : Nat), .list ((k.2.map fun k : Nat => (k : Int)).map PyData.int)]
theorem keyD_depth (k : Key3) : (keyD k).depth ≤ 64 := by
  have := depth_ints (k.2.map fun k : Nat => (k : Int))
  simp only [keyD, PyData.depth, PyData.depthAll]
  omega
theorem keyD_alike (a b : Key3) : PySem.W.alike (keyD a) (keyD b) = true := by
  simp [keyD, PySem.W.alike, PySem.W.alikeAll, alike_ints, -List.map_map]
theorem keyD_lt (a b : Key3) : PySem.W.dataLt (keyD a) (keyD b) = cmpK a b := by
  unfold keyD
  rw [dataLt3 _ _ _ _ _ _ (eqvL_ints _ _) (by simp [PySem.W.alike, alike_ints, -List.map_map]), lexN]
  unfold cmpK
  by_cases h1 : a.1 = b.1
  · rw [if_pos h1]
    by_cases h2 : a.2.length = b.2.length
    · rw [if_pos (by omega)]
      by_cases h3 : lxN a.2 b.2 = true
      · rw [h3]; exact (decide_eq_true (.inr ⟨h1, .inr ⟨h2, rfl⟩⟩)).symm
      · rw [Bool.eq_false_iff.mpr h3]
        exact (decide_eq_false (by rintro (q | ⟨_, q | ⟨_, q⟩⟩) <;> first | omega | cases q)).symm
    · rw [if_neg (by omega)]
      refine decide_eq_decide.mpr ⟨fun q => .inr ⟨h1, .inl (by omega)⟩, fun q => ?_⟩
      rcases q with q | ⟨_, q | ⟨q, _⟩⟩ <;> omega
  · rw [if_neg h1]
    refine decide_eq_decide.mpr ⟨fun q => .inl q, fun q => ?_⟩
    rcases q with q | ⟨q, _⟩ <;> omega
theorem key_dp {K : PySem.W.Frag} {H : Hp} {e a : Addr} {k : Key3} (h : H e = some (.tup [.int k.1, .int (k.2.length : Nat), .ref a])) (g : H a = some (.lst (k.2.map nI))) : Dp K H (.ref e) (keyD k) := .tup (tupAt h) (.cons (.int _) (.cons (.int _) (.cons (.lst (lstAt g) (dpN _)) .nil)))
def anyA : Addr → Prop := fun _ => True
section
variable {P : Program} {w : World} {K : PySem.W.Frag} {mg : Str → Option Value} {base : Heap}
def spWays (K : PySem.W.Frag) : Sp := fun vs H Q _ => ∃ (a b : Addr) (zs : List Nam) (es : List Addr) (ts : List Tie) (x : Nam), vs = [.ref a, .ref b, vN x] ∧ SqL K H a (zs.map vN) ∧ SqL K H b (es.map V.ref) ∧ TiesAt H es ts ∧ ts.length ≤ 12 ∧ zs.length ≤ 6 ∧ ∀ H' F fs, Same H H' → H' F = some (.lst (fs.map V.ref)) → EntsAt H' anyA fs (foundE ts x zs.length) → Q (.ref F) H'
theorem ok_L_ways {f : Addr} {fd : FuncData} (F : Fun K "_law_ways" "_law_ways" s_L_ways f fd) (m_list : mg "list" = none) (m_range : mg "range" = none) (m_len : mg "len" = none) : FnOk P w K mg base CX0 1 f fd ["_law_words_here", "_law_ties_here", "_law_one"] (spWays K) := by
  refine F.ok sc_L_ways (fun vs H Q E h => ?_) (fun cdv A outer s H vs Q E hr h => ?_)
  · obtain ⟨a, b, zs, es, ts, x, rfl, _⟩ := h
    rfl
  · obtain ⟨a, b, zs, es, ts, x, rfl, hA, hB, hT, t12, z6, q⟩ := h
    refine ⟨_, (pss_cons (ps_set (i := 3) sc_L_ways.nd rfl (.inl rfl) (pe_lst (pa_cons (pe_tup (pa_cons pe_int (pa_cons pe_int (pa_cons (pe_lst pa_nil) (pa_cons (pv 2) (pa_cons (pe_lst (pa_cons (pv 2) pa_nil)) pa_nil)))))) pa_nil)))
  (pss_cons (ps_set (i := 4) sc_L_ways.nd rfl (.inl rfl) (pe_callTy call_list_of (by rfl) m_list (by decide +kernel) (pa_cons (pv 3) pa_nil)))
  (pss_cons (ps_for PassesOwn.never rfl (pi_range1 (by rfl) m_range (pa_cons (pe_callB call_len_seq (by rfl) m_len (by decide +kernel) (pa_cons (pv 0) pa_nil)) pa_nil)) (pg_name (i := 5) sc_L_ways.nd rfl (.inl rfl))
    (pss_cons (ps_set (i := 6) sc_L_ways.nd rfl (.inl rfl) (pe_lst pa_nil))
  (pss_cons (ps_for PassesOwn.never rfl (pi_list (pe_callTy call_list_of (by rfl) m_list (by decide +kernel) (pa_cons (pv 4) pa_nil))) (pg_tup (by rfl) (pgs_cons (pg_name (i := 7) sc_L_ways.nd rfl (.inl rfl)) (pgs_cons (pg_name (i := 8) sc_L_ways.nd rfl (.inl rfl)) (pgs_cons (pg_name (i := 9) sc_L_ways.nd rfl (.inl rfl)) (pgs_cons (pg_name (i := 10) sc_L_ways.nd rfl (.inl rfl)) (pgs_cons (pg_name (i := 11) sc_L_ways.nd rfl (.inl rfl)) pgs_nil))))))
    (pss_one (ps_for PassesOwn.never rfl (pi_range1 (by rfl) m_range (pa_cons (pe_callB call_len_seq (by rfl) m_len (by decide +kernel) (pa_cons (pv 1) pa_nil)) pa_nil)) (pg_name (i := 12) sc_L_ways.nd rfl (.inl rfl))
    (pss_one (ps_if (PW.pt (pw_and (pt_cmpR op_eq (pe_ix ix_tup (pe_ix ix_list (pv 1) (pv 12) (fun _ _ => rfl)) pe_int (fun _ _ => rfl)) (pv 10) (nomark _)) (pw_and1 (pt_cmpR op_notIn_seq (pe_ix ix_tup (pe_ix ix_list (pv 1) (pv 12) (fun _ _ => rfl)) pe_int (fun _ _ => rfl)) (pv 11) (by rfl))))) (pss_one (ps_expr (pe_bm PySem.F.plainAttrs_list PySem.F.slot_list_append PySem.F.type_list_append mt_append (pv 6) (pa_cons (pe_tup (pa_cons (pe_op op_add (pv 7) (pe_ix ix_tup (pe_ix ix_list (pv 1) (pv 12) (fun _ _ => rfl)) pe_int (fun _ _ => rfl))) (pa_cons (pe_op op_add (pv 8) pe_int) (pa_cons (pe_op op_cat (pv 9) (pe_lst (pa_cons (pv 12) pa_nil))) (pa_cons (pe_ix ix_tup (pe_ix ix_list (pv 1) (pv 12) (fun _ _ => rfl)) pe_int (fun _ _ => rfl)) (pa_cons (pe_op op_cat (pv 11) (pe_lst (pa_cons (pe_ix ix_tup (pe_ix ix_list (pv 1) (pv 12) (fun _ _ => rfl)) pe_int (fun _ _ => rfl)) pa_nil))) pa_nil)))))) pa_nil)))) pss_nil)))))
  (pss_cons (ps_set (i := 3) sc_L_ways.nd rfl (.inl rfl) (pe_op op_cat (pv 3) (pv 6)))
  (pss_one (ps_set (i := 4) sc_L_ways.nd rfl (.inl rfl) (pe_callTy call_list_of (by rfl) m_list (by decide +kernel) (pa_cons (pv 6) pa_nil))))))))
  (pss_one (ps_ret (pv 3)))))), ?_⟩
    refine ⟨Nat.zero_le _, fun a0 n0 => ⟨_, rfl, _, rfl, (show (1 : Nat) ≤ sizeLine by decide), fun b0 m0 => ⟨(show (5 : Nat) ≤ sizeLine by decide), fun e0 l0 => ⟨(show (1 : Nat) ≤ sizeLine by decide), fun F0 k0 => ?_⟩⟩⟩⟩
    have sa := same_upd (o := .lst []) n0
    have sb := same_upd (o := .lst [vN x]) m0
    have se := same_upd (o := .tup [V.int 0, .int 0, .ref a0, vN x, .ref b0]) l0
    have sf := same_upd (o := .lst [V.ref e0]) k0
    have s1 := sa.trans (sb.trans (se.trans sf))
    have ha1 := (sb.trans (se.trans sf)) _ _ upd_same
    have hb1 := (se.trans sf) _ _ upd_same
    have he1 := sf _ _ upd_same
    have hF1 : (upd (upd (upd (upd H a0 (.lst [])) b0 (.lst [vN x])) e0 (.tup [V.int 0, .int 0, .ref a0, vN x, .ref b0])) F0 (.lst [V.ref e0])) F0 = some (.lst ([e0].map V.ref)) := upd_same
    generalize upd (upd (upd (upd H a0 (.lst [])) b0 (.lst [vN x])) e0 (.tup [V.int 0, .int 0, .ref a0, vN x, .ref b0])) F0 (.lst [V.ref e0]) = H1 at s1 ha1 hb1 he1 hF1 ⊢
    have en1 : EntsAt H1 anyA [e0] (foundE ts x 0) := EntsAt.one ⟨a0, b0, he1, ha1, hb1, trivial, trivial, trivial⟩
    refine ⟨_, rfl, F0, _, rfl, .inl (lstAt hF1), fun G0 g0 => ?_⟩
    have sg := same_upd (o := .lst ([e0].map V.ref)) g0
    have s2 := s1.trans sg
    refine ⟨_, rfl, a, _, rfl, .inl (s2.seq hA), _, rfl, by omega, by rw [List.length_map]; omega, for_range (fun i σ H' => ∃ (F G : Addr) (fs gs : List Addr) (y5 y6 y7 y8 y9 y10 y11 y12 : Option V), σ = [some (.ref a), some (.ref b), some (vN x), some (.ref F), some (.ref G), y5, y6, y7, y8, y9, y10, y11, y12] ∧ Same H H' ∧ H' F = some (.lst (fs.map V.ref)) ∧ EntsAt H' anyA fs (foundE ts x i) ∧ H' G = some (.lst (gs.map V.ref)) ∧ EntsAt H' anyA gs (freshE ts x i))
      ⟨F0, G0, [e0], [e0], _, _, _, _, _, _, _, _, rfl, s2, sg _ _ hF1, en1.same sg, upd_same, en1.same sg⟩ ?_ ?_⟩
    · rintro i σ H2 hi ⟨F, G, fs, gs, y5, y6, y7, y8, y9, y10, y11, y12, rfl, s3, eF, hF, eG, hG⟩
      have hi6 : i < 6 := by rw [List.length_map] at hi; omega
      have gl : gs.length ≤ 12 ^ i := by rw [hG.1]; exact fresh_len t12 x i
      have p6 : 12 ^ i ≤ 12 ^ 5 := Nat.pow_le_pow_right (by decide) (by omega)
      have gl5 : gs.length ≤ 248832 := Nat.le_trans gl p6
      refine ⟨Nat.zero_le _, fun L nL => ⟨_, rfl, G, _, rfl, .inl (lstAt ((same_upd nL) _ _ eG)), fun G2 nG2 => ?_⟩⟩
      have eL2 : (upd (upd H2 L (.lst [])) G2 (.lst (gs.map V.ref))) L = some (.lst (([] : List Addr).map V.ref)) := (same_upd nG2) _ _ upd_same
      have eG2 : (upd (upd H2 L (.lst [])) G2 (.lst (gs.map V.ref))) G2 = some (.lst (gs.map V.ref)) := upd_same
      have s4 : Same H2 (upd (upd H2 L (.lst [])) G2 (.lst (gs.map V.ref))) := (same_upd nL).trans (same_upd nG2)
      have gn : G2 ≠ L := fun q => by rw [q, upd_same] at nG2; cases nG2
      generalize upd (upd H2 L (.lst [])) G2 (.lst (gs.map V.ref)) = H3 at eL2 eG2 s4 ⊢
      refine ⟨G2, rfl, ⟨_, lstAt eG2⟩, for_list (K := K) (a := G2) (xs := gs.map V.ref) (fun j σ H' => ∃ (ls : List Addr) (y7 y8 y9 y10 y11 y12 : Option V), σ = [some (.ref a), some (.ref b), some (vN x), some (.ref F), some (.ref G), some (.int (0 + (i : Nat))), some (.ref L), y7, y8, y9, y10, y11, y12] ∧ Same H2 H' ∧ H' G2 = some (.lst (gs.map V.ref)) ∧ H' L = some (.lst (ls.map V.ref)) ∧ EntsAt H' (· ≠ L) ls (((freshE ts x i).take j).flatMap fun e => extE ts e ts.length))
        ⟨[], _, _, _, _, _, _, rfl, s4, eG2, eL2, rfl, fun _ _ h => (nomatch h)⟩ (fun j σ H' _ hq => ?_) ?_ ?_⟩
      · obtain ⟨_, _, _, _, _, _, _, rfl, _, h, _⟩ := hq
        exact lstAt h
      · rintro j v σ H4 hx ⟨ls, y7, y8, y9, y10, y11, y12, rfl, s5, eG4, eL4, hL4⟩
        obtain ⟨e, d, rfl, ed, hd⟩ := ents_at hG hx
        obtain ⟨a1, b1, h1, h2, h3, _⟩ := hd
        have hj : j < gs.length := by have := (List.getElem?_eq_some_iff.mp ed).1; rw [hG.1]; exact this
        rw [List.take_add_one, ed, List.flatMap_append]
        have pl : (((freshE ts x i).take j).flatMap fun e => extE ts e ts.length).length ≤ 12 * j := by
          refine Nat.le_trans (flat_len _ (ext_len12 t12) _) ?_
          rw [List.length_take]
          exact Nat.mul_le_mul_left _ (Nat.min_le_left _ _)
        generalize ((freshE ts x i).take j).flatMap (fun e => extE ts e ts.length) = pre at hL4 pl ⊢
        show gTup _ _ _ _ _ _ _
        refine gTup5 (s5 _ _ h1) [some (.ref a), some (.ref b), some (vN x), some (.ref F), some (.ref G), some (.int (0 + (i : Nat))), some (.ref L), some (.int d.1), some (.int (d.2.1.length : Nat)), some (.ref a1), some (vN d.2.2.1), some (.ref b1), y12] rfl ?_
        refine ⟨_, rfl, b, _, rfl, .inl ((s3.trans s5).seq hB), _, rfl, by omega, by rw [List.length_map, hT.1]; omega, for_range (fun k σ H' => ∃ (ls : List Addr) (y12 : Option V), σ = [some (.ref a), some (.ref b), some (vN x), some (.ref F), some (.ref G), some (.int (0 + (i : Nat))), some (.ref L), some (.int d.1), some (.int (d.2.1.length : Nat)), some (.ref a1), some (vN d.2.2.1), some (.ref b1), y12] ∧ Same H2 H' ∧ H' G2 = some (.lst (gs.map V.ref)) ∧ H' L = some (.lst (ls.map V.ref)) ∧ EntsAt H' (· ≠ L) ls (pre ++ extE ts d k))
          ⟨ls, _, rfl, s5, eG4, eL4, by rw [show extE ts d 0 = [] from rfl, List.append_nil]; exact hL4⟩ ?_ ?_⟩
        · rintro k σ H5 hk ⟨ls, y12, rfl, s6, eG5, eL5, hL5⟩
          have hk : k < ts.length := by rw [List.length_map, hT.1] at hk; omega
          rw [show (0 : Int) + (k : Int) = ((k : Nat) : Int) by omega]
          have s36 := s3.trans s6
          obtain ⟨te, at1, ht1⟩ := tie_ix hT hk
          have hB5 := s36.seq hB
          have ht5 := s36 _ _ ht1
          have el : (extE ts d k).length ≤ 12 := by
            have := List.length_filterMap_le (stepE ts d) (List.range k)
            rw [List.length_range] at this
            exact Nat.le_trans this (by omega)
          have ll : ls.length < sizeLine := Nat.lt_of_le_of_lt (show ls.length ≤ 3000000 by rw [hL5.1, List.length_append]; omega) (by decide)
          rw [extE_succ, ← List.append_assoc]
          refine ⟨_, rfl, _, rfl, _, _, _, .ref te, rfl, rfl, hB5, at1, _, _, 0, vN (tieN ts k).1, rfl, rfl, tupAt ht5, atI_in (by decide) rfl, _, rfl, rfl, _, rfl, ?_⟩
          rw [vN_dec]
          by_cases g1 : (tieN ts k).1 = d.2.2.1
          · rw [decide_eq_true g1]
            refine iteT ⟨_, rfl, _, rfl, _, _, _, .ref te, rfl, rfl, hB5, at1, _, _, 1, vN (tieN ts k).2.1, rfl, rfl, tupAt ht5, atI_in (by decide) rfl, _, rfl, b1, _, rfl, .inl (lstAt (s6 _ _ h3)), rfl, nms_flat _, _, rfl, ?_⟩
            rw [notin_nm]
            by_cases g2 : (tieN ts k).2.1 ∈ d.2.2.2
            · rw [decide_eq_true g2]
              have : stepE ts d k = none := if_neg fun q => q.2 g2
              rw [this]
              exact iteF ⟨ls, _, rfl, s6, eG5, eL5, by rw [show (none : Option Ent).toList = [] from rfl, List.append_nil]; exact hL5⟩
            · rw [decide_eq_false g2]
              refine iteT ?_
              have hst : stepE ts d k = some (d.1 + (tieN ts k).2.2, d.2.1 ++ [k], (tieN ts k).2.1, d.2.2.2 ++ [(tieN ts k).2.1]) := if_pos ⟨g1, g2⟩
              rw [hst]
              obtain ⟨pw, _, dl⟩ := fresh_sound i d (List.mem_of_getElem? ed)
              have dv := pw.vlen
              refine ⟨_, rfl, .inl ⟨rfl, _, lstAt eL5⟩, _, rfl, _, rfl, _, rfl, _, _, _, .ref te, rfl, rfl, hB5, at1, _, _, 2, .int (tieN ts k).2.2, rfl, rfl, tupAt ht5, atI_in (by decide) rfl, _, _, rfl, rfl, _, rfl, _, _, rfl, rfl, _, rfl, _, rfl, (show (1 : Nat) ≤ sizeLine by decide), fun u nu => ?_⟩
              have su := same_upd (o := .lst [V.int (k : Nat)]) nu
              have h2u := su _ _ (s6 _ _ h2)
              have hu : (upd H5 u (.lst [V.int (k : Nat)])) u = some (.lst [V.int (k : Nat)]) := upd_same
              refine ⟨a1, u, _, _, rfl, rfl, h2u, hu, by rw [List.length_map, dl]; exact Nat.le_of_lt (small1000 (show i + 1 ≤ 1000 by omega)), fun a2 na2 => ?_⟩
              rw [show d.2.1.map nI ++ [V.int (k : Nat)] = (d.2.1 ++ [k]).map nI from by rw [List.map_append]; rfl]
              have sa2 := same_upd (o := .lst ((d.2.1 ++ [k]).map nI)) na2
              have hA2 : (upd (upd H5 u (.lst [V.int (k : Nat)])) a2 (.lst ((d.2.1 ++ [k]).map nI))) a2 = some (.lst ((d.2.1 ++ [k]).map nI)) := upd_same
              have eLa := su _ _ eL5
              have na : a2 ≠ L := (ne_of_none eLa na2).symm
              have s56 := su.trans sa2
              generalize upd (upd H5 u (.lst [V.int (k : Nat)])) a2 (.lst ((d.2.1 ++ [k]).map nI)) = H6 at s56 hA2 ⊢
              have s66 := s6.trans s56
              have hB6 := s56.seq hB5
              have ht6 := s56 _ _ ht5
              refine ⟨_, rfl, _, rfl, _, _, _, .ref te, rfl, rfl, hB6, at1, _, _, 1, vN (tieN ts k).2.1, rfl, rfl, tupAt ht6, atI_in (by decide) rfl, _, rfl, _, rfl, _, rfl, _, _, _, .ref te, rfl, rfl, hB6, at1, _, _, 1, vN (tieN ts k).2.1, rfl, rfl, tupAt ht6, atI_in (by decide) rfl, (show (1 : Nat) ≤ sizeLine by decide), fun u2 nu2 => ?_⟩
              have su2 := same_upd (o := .lst [vN (tieN ts k).2.1]) nu2
              have hu2 : (upd H6 u2 (.lst [vN (tieN ts k).2.1])) u2 = some (.lst [vN (tieN ts k).2.1]) := upd_same
              have h3u := su2 _ _ (s66 _ _ h3)
              refine ⟨b1, u2, _, _, rfl, rfl, h3u, hu2, by rw [List.length_map, dv, dl]; exact Nat.le_of_lt (small1000 (show i + 1 + 1 ≤ 1000 by omega)), fun b2 nb2 => ⟨(show (5 : Nat) ≤ sizeLine by decide), fun e2 ne2 => ?_⟩⟩
              rw [show d.2.2.2.map vN ++ [vN (tieN ts k).2.1] = (d.2.2.2 ++ [(tieN ts k).2.1]).map vN from by rw [List.map_append]; rfl] at ne2 ⊢
              have sb2 := same_upd (o := .lst ((d.2.2.2 ++ [(tieN ts k).2.1]).map vN)) nb2
              have eLb := su2 _ _ (s56 _ _ eL5)
              have nb : b2 ≠ L := (ne_of_none eLb nb2).symm
              have hB2 : (upd (upd H6 u2 (.lst [vN (tieN ts k).2.1])) b2 (.lst ((d.2.2.2 ++ [(tieN ts k).2.1]).map vN))) b2 = some (.lst ((d.2.2.2 ++ [(tieN ts k).2.1]).map vN)) := upd_same
              have s67 := su2.trans sb2
              generalize upd (upd H6 u2 (.lst [vN (tieN ts k).2.1])) b2 (.lst ((d.2.2.2 ++ [(tieN ts k).2.1]).map vN)) = H7 at s67 hB2 ne2 ⊢
              have s57 := s56.trans s67
              have ne : e2 ≠ L := (ne_of_none (s57 _ _ eL5) ne2).symm
              have hA7 := s67 _ _ hA2
              have s78 := same_upd (o := .tup [V.int (d.1 + (tieN ts k).2.2), .int ((d.2.1.length : Nat) + 1), .ref a2, vN (tieN ts k).2.1, .ref b2]) ne2
              have hE2 : (upd H7 e2 (.tup [V.int (d.1 + (tieN ts k).2.2), .int ((d.2.1.length : Nat) + 1), .ref a2, vN (tieN ts k).2.1, .ref b2])) e2 = some (.tup [V.int (d.1 + (tieN ts k).2.2), .int (((d.2.1 ++ [k]).length : Nat) : Int), .ref a2, vN (tieN ts k).2.1, .ref b2]) := by
                rw [upd_same, List.length_append]
                rfl
              generalize upd H7 e2 (.tup [V.int (d.1 + (tieN ts k).2.2), .int ((d.2.1.length : Nat) + 1), .ref a2, vN (tieN ts k).2.1, .ref b2]) = H8 at s78 hE2 ⊢
              have s58 := s57.trans s78
              have ent : EntAt H8 (· ≠ L) e2 (d.1 + (tieN ts k).2.2, d.2.1 ++ [k], (tieN ts k).2.1, d.2.2.2 ++ [(tieN ts k).2.1]) := ⟨a2, b2, hE2, s78 _ _ hA7, s78 _ _ hB2, na, nb, ne⟩
              exact ⟨_, _, _, rfl, rfl, s58 _ _ eL5, by rw [List.length_map]; exact ll, ls ++ [e2], _, rfl, same_at (s6.trans s58) nL, (upd_ne gn).trans (s58 _ _ eG5), by rw [List.map_append]; exact upd_same, ((hL5.same s58).app (EntsAt.one ent)).upd⟩
          · rw [decide_eq_false g1]
            have : stepE ts d k = none := if_neg fun q => g1 q.1
            rw [this]
            exact iteF (iteF ⟨ls, _, rfl, s6, eG5, eL5, by rw [show (none : Option Ent).toList = [] from rfl, List.append_nil]; exact hL5⟩)
        · rintro σ H5 ⟨ls, y12, rfl, s6, eG5, eL5, hL5⟩
          rw [List.length_map, hT.1] at hL5
          refine ⟨ls, _, _, _, _, _, _, rfl, s6, eG5, eL5, ?_⟩
          rw [show (some d).toList.flatMap (fun e => extE ts e ts.length) = extE ts d ts.length ++ [] from rfl, List.append_nil]
          exact hL5
      · rintro σ H4 ⟨ls, y7, y8, y9, y10, y11, y12, rfl, s5, eG4, eL4, hL4⟩
        rw [List.length_map, hG.1, List.take_length] at hL4
        have s35 := s3.trans s5
        have fl := found_len t12 x i
        have ll : ls.length ≤ 12 * 248832 := by
          rw [hL4.1]
          have := flat_len (fun e => extE ts e ts.length) (ext_len12 t12) (freshE ts x i)
          rw [← hG.1] at this
          omega
        have eF4 := s5 _ _ eF
        refine ⟨_, rfl, _, rfl, F, L, _, _, rfl, rfl, eF4, eL4, by rw [List.length_map, List.length_map, hF.1]; exact Nat.le_trans (show _ ≤ 5000000 by omega) (by decide), fun F2 nF2 => ?_⟩
        rw [← List.map_append]
        have sF := same_upd (o := .lst ((fs ++ ls).map V.ref)) nF2
        have eF2 : (upd H4 F2 (.lst ((fs ++ ls).map V.ref))) F2 = some (.lst ((fs ++ ls).map V.ref)) := upd_same
        generalize upd H4 F2 (.lst ((fs ++ ls).map V.ref)) = H5 at sF eF2 ⊢
        refine ⟨_, rfl, L, _, rfl, .inl (lstAt (sF _ _ eL4)), fun G3 nG3 => ?_⟩
        have sG := same_upd (o := .lst (ls.map V.ref)) nG3
        have s46 := sF.trans sG
        have hL6 := (hL4.same s46).any (M := anyA) fun _ _ _ => trivial
        exact ⟨F2, G3, fs ++ ls, ls, _, _, _, _, _, _, _, _, rfl, s35.trans s46, sG _ _ eF2, ((hF.same s5).same s46).app hL6, upd_same, hL6⟩
    · rintro σ H2 ⟨F, G, fs, gs, y5, y6, y7, y8, y9, y10, y11, y12, rfl, s3, eF, hF, eG, hG⟩
      rw [List.length_map] at hF
      exact ⟨_, rfl, q _ _ _ s3 eF hF⟩
def spBest (K : PySem.W.Frag) : Sp := fun vs H Q _ => ∃ (F : Addr) (fs : List Addr) (ds : List Ent) (y : Nam), vs = [.ref F, vN y] ∧ SqL K H F (fs.map V.ref) ∧ EntsAt H anyA fs ds ∧ (ds.foldl (bet y) none = none → ∀ H', Same H H' → Q .non H') ∧ ∀ k3, ds.foldl (bet y) none = some k3 → ∀ H' e a, Same H H' → H' e = some (.tup [.int k3.1, .int (k3.2.length : Nat), .ref a]) → H' a = some (.lst (k3.2.map nI)) → Q (.ref e) H'
theorem ok_L_first {f : Addr} {fd : FuncData} (F : Fun K "_law_first" "_law_first" s_L_first f fd) : FnOk P w K mg base CX0 1 f fd ["_law_found", "_law_two"] (spBest K) := by
  refine F.ok sc_L_first (fun vs H Q E h => ?_) (fun cdv A outer s H vs Q E hr h => ?_)
  · obtain ⟨F, fs, ds, y, rfl, _⟩ := h
    rfl
  · obtain ⟨F, fs, ds, y, rfl, hF, hE, qn, qs⟩ := h
    refine ⟨_, (pss_cons (ps_set (i := 2) sc_L_first.nd rfl (.inl rfl) pe_non)
  (pss_cons (ps_for PassesOwn.never rfl (pi_list (pv 0)) (pg_tup (by rfl) (pgs_cons (pg_name (i := 3) sc_L_first.nd rfl (.inl rfl)) (pgs_cons (pg_name (i := 4) sc_L_first.nd rfl (.inl rfl)) (pgs_cons (pg_name (i := 5) sc_L_first.nd rfl (.inl rfl)) (pgs_cons (pg_name (i := 6) sc_L_first.nd rfl (.inl rfl)) (pgs_cons (pg_name (i := 7) sc_L_first.nd rfl (.inl rfl)) pgs_nil))))))
    (pss_one (ps_if (PW.pt (pw_and (pt_cmpR op_eq (pv 6) (pv 1) (nomark _)) (pw_and1 (PW.pt (pw_or (pt_cmpR op_isN (pv 2) pe_non (nomark _)) (pw_or1 (pt_cmpR (op_ltD (rm65 hr)) (pe_tup (pa_cons (pv 3) (pa_cons (pv 4) (pa_cons (pv 5) pa_nil)))) (pv 2) (nomark _)))))))) (pss_one (ps_set (i := 2) sc_L_first.nd rfl (.inl rfl) (pe_tup (pa_cons (pv 3) (pa_cons (pv 4) (pa_cons (pv 5) pa_nil)))))) pss_nil)))
  (pss_one (ps_ret (pv 2))))), ?_⟩
    have fl : (fs.map V.ref).length = ds.length := by rw [List.length_map, hE.1]
    refine ⟨_, rfl, F, rfl, ⟨_, hF⟩, for_list (K := K) (a := F) (xs := fs.map V.ref) (fun i σ H' => ∃ (b y3 y4 y5 y6 y7 : Option V), σ = [some (.ref F), some (vN y), b, y3, y4, y5, y6, y7] ∧ Same H H' ∧ ((ds.take i).foldl (bet y) none = none → b = some .non) ∧ ∀ k3, (ds.take i).foldl (bet y) none = some k3 → ∃ e a : Addr, b = some (.ref e) ∧ H' e = some (.tup [.int k3.1, .int (k3.2.length : Nat), .ref a]) ∧ H' a = some (.lst (k3.2.map nI)))
      ⟨_, _, _, _, _, _, rfl, Same.refl _, fun _ => rfl, fun _ h => (nomatch h)⟩ (fun i σ H' _ hq => ?_) ?_ ?_⟩
    · obtain ⟨_, _, _, _, _, _, rfl, s1, _⟩ := hq
      exact s1.seq hF
    · rintro i v σ H1 hx ⟨bb, y3, y4, y5, y6, y7, rfl, s1, hn, hs⟩
      obtain ⟨e, d, rfl, ed, he⟩ := ents_at (hE.same s1) hx
      obtain ⟨a, b, h1, h2, h3, _⟩ := he
      rw [List.take_add_one, ed, List.foldl_append]
      generalize (ds.take i).foldl (bet y) none = b0 at hn hs ⊢
      show gTup _ _ _ _ _ _ _
      refine gTup5 h1 [some (.ref F), some (vN y), bb, some (.int d.1), some (.int (d.2.1.length : Nat)), some (.ref a), some (vN d.2.2.1), some (.ref b)] rfl ?_
      show tIfS _ _ _ _ _ _
      have hbet : List.foldl (bet y) b0 (some d).toList = bet y b0 d := rfl
      rw [hbet]
      refine ⟨_, rfl, _, rfl, rfl, _, rfl, ?_⟩
      rw [vN_dec]
      by_cases hy : d.2.2.1 = y
      · rw [decide_eq_true hy]
        refine iteT ?_
        cases b0 with
        | none =>
          cases hn rfl
          refine ⟨_, rfl, rfl, _, rfl, ?_⟩
          rw [decide_eq_true rfl]
          refine iteT (iteT ⟨_, rfl, _, rfl, _, rfl, (show (3 : Nat) ≤ sizeLine by decide), fun e' ne' => ?_⟩)
          have hb : bet y none d = some (keyE d) := if_pos ⟨hy, .inl rfl⟩
          rw [hb]
          have sE := same_upd (o := .tup [V.int d.1, .int (d.2.1.length : Nat), .ref a]) ne'
          refine ⟨_, _, _, _, _, _, rfl, s1.trans sE, fun q => (nomatch q), fun k3 q => ?_⟩
          cases Option.some.inj q
          exact ⟨e', a, rfl, upd_same, sE _ _ h2⟩
        | some d0 =>
          obtain ⟨e0, a0, rfl, g1, g2⟩ := hs d0 rfl
          refine ⟨_, rfl, rfl, _, rfl, ?_⟩
          rw [decide_eq_false (show ¬ V.ref e0 = V.non from nofun)]
          refine iteF ⟨_, rfl, _, rfl, _, rfl, (show (3 : Nat) ≤ sizeLine by decide), fun u nu => ?_⟩
          have sU := same_upd (o := .tup [V.int d.1, .int (d.2.1.length : Nat), .ref a]) nu
          refine ⟨_, rfl, keyD (keyE d), keyD d0, key_dp (a := a) upd_same (sU _ _ h2), key_dp (sU _ _ g1) (sU _ _ g2), keyD_alike _ _, nofun, keyD_depth _, _, rfl, ?_⟩
          rw [keyD_lt]
          cases hc : cmpK (keyE d) d0 with
          | true =>
            refine iteT ⟨_, rfl, _, rfl, _, rfl, (show (3 : Nat) ≤ sizeLine by decide), fun e' ne' => ?_⟩
            have hb : bet y (some d0) d = some (keyE d) := if_pos ⟨hy, .inr ⟨d0, rfl, hc⟩⟩
            rw [hb]
            have sE := same_upd (o := .tup [V.int d.1, .int (d.2.1.length : Nat), .ref a]) ne'
            refine ⟨_, _, _, _, _, _, rfl, s1.trans (sU.trans sE), fun q => (nomatch q), fun k3 q => ?_⟩
            cases Option.some.inj q
            exact ⟨e', a, rfl, upd_same, sE _ _ (sU _ _ h2)⟩
          | false =>
            have hb : bet y (some d0) d = some d0 := if_neg fun q => by
              rcases q.2 with q | ⟨d1, q1, q2⟩
              · cases q
              · cases Option.some.inj q1; rw [hc] at q2; cases q2
            rw [hb]
            refine iteF ⟨_, _, _, _, _, _, rfl, s1.trans sU, fun q => (nomatch q), fun k3 q => ?_⟩
            cases Option.some.inj q
            exact ⟨e0, a0, rfl, sU _ _ g1, sU _ _ g2⟩
      · rw [decide_eq_false hy]
        have hb : bet y b0 d = b0 := if_neg fun q => hy q.1
        rw [hb]
        exact iteF (iteF ⟨_, _, _, _, _, _, rfl, s1, hn, hs⟩)
    · rintro σ H1 ⟨bb, y3, y4, y5, y6, y7, rfl, s1, hn, hs⟩
      rw [fl, List.take_length] at hn hs
      cases hb : ds.foldl (bet y) none with
      | none =>
        cases hn hb
        exact ⟨_, rfl, qn hb _ s1⟩
      | some k3 =>
        obtain ⟨e, a, rfl, h1, h2⟩ := hs k3 hb
        exact ⟨_, rfl, qs k3 hb _ _ _ s1 h1 h2⟩
end
end TK

namespace TK
open PySem PySem.Spec PyProof.Rows L2
/-! calls with keywords in any order -/
def pickV (is : List Nat) (xs : List V) : List V := is.map fun i => xs.getD i .non
def pickU (is : List Nat) (us : List Value) : List Value := is.map fun i => us.getD i .none
theorem pick_rel {xs : List V} {us : List Value} (r : Vals xs us) : ∀ is : List Nat, Vals (pickV is xs) (pickU is us)
  | [] => .nil
  | i :: is => by
    refine .cons ?_ (pick_rel r is)
    show L2.RelV (xs.getD i .non) (us.getD i .none)
    rw [List.getD_eq_getElem?_getD, List.getD_eq_getElem?_getD]
    cases e : xs[i]? with
    | none =>
      have hl := r.length
      rw [List.getElem?_eq_none_iff] at e
      rw [show us[i]? = none from List.getElem?_eq_none_iff.mpr (by omega)]
      rfl
    | some x =>
      obtain ⟨u, hu, ru⟩ := r.get e
      rw [hu]
      exact ru
theorem fun_kbn {K : PySem.W.Frag} {x qual : Str} {st : Stmt} {f : Addr} {fd : FuncData} {ps : List Str} (F : Fun K x qual st f fd) (n : Nat) (ks : List Str) (is : List Nat)
    (h : ∀ (kV doc pm : Value) (an : Option Addr) (cdv ct : Value) (us ws : List Value), us.length = n → ws.length = ks.length → bindArgs (PySem.W.fnOf x qual (defArgs st) (defBody st) (defScope st) .none kV doc pm an cdv ct) ⟨us, ks.zip ws⟩ = pure (ps.zip (pickU is (us ++ ws)))) :
    KBn K fd ps n ks (fun us ws => pickU is (us ++ ws)) (fun vs zs => pickV is (vs ++ zs)) := by
  obtain ⟨oc, od, kV, doc, pm, an, cdv, ct, osl, rfl, lk, hcd⟩ := F.ex
  exact ⟨fun s us ws _ h1 h2 => .of_eq (h kV doc pm an cdv ct us ws h1 h2), fun r1 r2 => pick_rel (r1.append r2) is⟩
section
variable {X : Cx} {CX : CXT} {k n : Nat} {f : Addr} {fd : FuncData} {ps ks : List Str} {sp : Sp} {E : XK} {x : Str} {p pos : Pos} {kws : List Keyword} {tk : TA} {g : List Value → List Value → List Value} {gV : List V → List V → List V}
/-- f(k = v, ..): keywords alone -/
theorem pe_callN0 (F : FnOk X.prog X.w X.K X.mg X.base CX k f fd ps sp) (hr : Room k X.A) (hg : Gl X x) (hm : X.mg x = some (.ref f)) (hk : PySem.W.keepIn X.K (.ref f) = true) (hb : KBn X.K fd ps 0 ks g gV) (hx : Passes CX X E) (hkw : PK X kws tk)
    (hall : (backToKw pos (keywordEach kws X.env)).all (·.1.isSome) = true := by rfl) (hks : (backToKw pos (keywordEach kws X.env)).filterMap (·.1) = ks := by rfl) (hdb : (x == ("__debug__" : Str)) = false := by decide)
    (hpl : ((backTo pos (starEach [] X.env)).any (·.1) || (backToKw pos (keywordEach kws X.env)).any (·.1.isNone)) = false := by rfl) : PE X (.Call (.Name x p) [] kws pos) (tCallN 0 ks.length sp gV E tNil tk) := by
  refine ⟨fun pins s σ H Q I h => wpAny_Call_Name_kw (ld_glob I hg hm (PySem.W.callWith_KW0 (h₀ := X.base) I.ok.mod.kin hk hall ?_ hpl) hdb)⟩
  refine thn (hkw.run pos pins s σ H _ I h) fun ws s2 ⟨zs, H2, I2, rz, l1, l2, q2⟩ => ⟨I2.kIn, ?_⟩
  rw [hks]
  exact run_fnN (us := []) (vs := []) F hr hb hx I2 .nil rz rfl l2 q2
end
abbrev KB (K : PySem.W.Frag) (fd : FuncData) (ps : List Str) (n : Nat) (ks : List Str) (is : List Nat) : Prop := KBn K fd ps n ks (fun us ws => pickU is (us ++ ws)) (fun vs zs => pickV is (vs ++ zs))
end TK

/-! first_way agrees with the best of the law's ways -/
namespace TK
open PySem PySem.Spec PyProof.Rows L2
theorem fn0 {P : Program} {w : World} {K : PySem.W.Frag} {mg : Str → Option Value} {base : Heap} {k : Nat} {f : Addr} {fd : FuncData} {ps : List Str} {sp : Sp} (F : FnOk P w K mg base (L2.CX P w) k f fd ps sp) : FnOk P w K mg base CX0 k f fd ps (fun vs H Q _ => sp vs H Q E0) :=
  ⟨fun vs H Q E h => F.len vs H Q E0 h, fun A outer s H args us vs Q E hr he hb hv hs => codeAny_mono (F.run A outer s H args us vs Q E0 hr he hb hv hs) fun r s' h => by
    cases r with
    | error e =>
      obtain ⟨_, _, _, _, _, _, _, _, _, _, _, _, hE⟩ := h
      exact hE.elim
    | ok fl => cases fl <;> exact h⟩
def ksI (ks : List Nat) : List Int := ks.map fun k : Nat => (k : Int)
theorem nI_map (ks : List Nat) : ks.map nI = (ksI ks).map V.int := by
  unfold ksI
  rw [List.map_map]
  rfl
theorem tieAt_nat {ts : List Tie} {k : Nat} {t : Tie} (h : ts[k]? = some t) : tieAt ts (k : Nat) = t := by
  unfold tieAt
  rw [Int.toNat_natCast, List.getD_eq_getElem?_getD, h]
  rfl
theorem pw_go {ts : List Tie} {x y : Nam} {ks : List Nat} {vs : List Nam} {v : Int} (p : Pw ts x ks vs y v) : goI ts x (ksI ks) = some y ∧ (∀ k ∈ ks, k < ts.length) ∧ sumT ts (ksI ks) = v := by
  induction p with
  | nil x => exact ⟨rfl, nofun, rfl⟩
  | @cons k t ks vs y v e p ih =>
    obtain ⟨h1, h2, h3⟩ := ih
    have hk := (List.getElem?_eq_some_iff.mp e).1
    refine ⟨?_, fun j m => ?_, ?_⟩
    · show (if inR ts.length (k : Int) then (if (tieAt ts (k : Int)).1 = t.1 then goI ts (tieAt ts (k : Int)).2.1 (ksI ks) else none) else none) = some y
      rw [if_pos (by show 0 ≤ (k : Int) ∧ (k : Int) < (ts.length : Int); omega), tieAt_nat e, if_pos rfl]
      exact h1
    · rcases List.mem_cons.mp m with rfl | m
      · exact hk
      · exact h2 j m
    · show ((tieAt ts (k : Int)).2.2 :: (ksI ks).map fun k => (tieAt ts k).2.2).sum = _
      rw [List.sum_cons, tieAt_nat e]
      exact congrArg (t.2.2 + ·) h3
theorem wrong_no {n : Nat} {ks : List Nat} (h : ∀ k ∈ ks, k < n) : wrongO n (ksI ks) = none := by
  unfold wrongO
  rw [List.find?_eq_none]
  intro k m
  obtain ⟨j, hj, rfl⟩ := List.mem_map.mp m
  have := h j hj
  simp
  omega
theorem first_path {zs : List Nam} {ts : List Tie} {x y : Nam} (ok : LOk zs ts) (hy : y ∈ zs) {k3 : Key3} (h : firstK zs ts x y = some k3) : ∃ vs, Pw ts x k3.2 vs y k3.1 ∧ k3.2.length ≤ 6 := by
  unfold firstK at h
  obtain ⟨c, hc, rfl⟩ := Option.map_eq_some_iff.mp h
  obtain ⟨v, M⟩ := c
  obtain ⟨ks0, vs0, p0, nd0, l0⟩ := co_some ok hy hc
  obtain ⟨m, rfl⟩ : ∃ m : Nat, M = (m : Int) := ⟨ks0.length, l0.symm⟩
  obtain ⟨vs, p, nd, _, ln, _⟩ := fw_path ok hy m hc
  refine ⟨vs, ?_, ?_⟩
  · show Pw ts x (fwN (coF zs ts y) ts y (Int.toNat (m : Int)) x) vs y v
    rw [Int.toNat_natCast]
    exact p
  · show (fwN (coF zs ts y) ts y (Int.toNat (m : Int)) x).length ≤ 6
    rw [Int.toNat_natCast]
    have h1 := p.vlen
    have h2 := nd_len nd (p.mem hy ok.a)
    have h3 := ok.l6
    omega
theorem eq_nums {H : Hp} {t u : Addr} {ks : List Nat} (h1 : H t = some (.lst (ks.map nI))) (h2 : H u = some (.lst (ks.map nI))) (hl : ks.length ≤ 6) (n : Nat) : Eq2 H (n + 1) (.ref t) (.ref u) := by
  refine .inr ⟨t, u, _, _, rfl, rfl, .inl ⟨h1, h2⟩, rfl, by rw [List.length_map]; omega, fun i x y hx hy => ?_⟩
  rw [hx] at hy
  have e := Option.some.inj hy
  have f : flat1 x = true := by
    obtain ⟨k, _, rfl⟩ := List.mem_map.mp (List.mem_of_getElem? hx)
    rfl
  cases n with
  | zero => exact ⟨e, f⟩
  | succ n => exact .inl ⟨e, f⟩
section
variable {P : Program} {w : World} {K : PySem.W.Frag} {mg : Str → Option Value} {base : Heap}
def spAgrees (C : Addr) : Sp := fun vs H Q _ => ∃ (p : Addr) (zs : List Nam) (es : List Addr) (ts : List Tie) (x y : Nam) (bv : V), vs = [.ref p, vN x, vN y, bv] ∧ LkAt C H p zs es ts ∧ LOk zs ts ∧ x ∈ zs ∧ y ∈ zs ∧
  ((firstK zs ts x y = none ∧ bv = .non) ∨ ∃ k3 e a, firstK zs ts x y = some k3 ∧ bv = .ref e ∧ H e = some (.tup [.int k3.1, .int (k3.2.length : Nat), .ref a]) ∧ H a = some (.lst (k3.2.map nI))) ∧ ∀ H', Same H H' → Q (.bl true) H'
theorem ok_L_agrees {f C CN ff : Addr} {fd fdf : FuncData} (F : Fun K "_law_agrees" "_law_agrees" s_L_agrees f fd) (d_first_way : Def P w K mg base "first_way" 5 ["links", "giver", "taker"] (spFirst C)) (d_L_same : Def P w K mg base "_law_same" 4 ["_law_got", "_law_wanted"] (spSame 2))
    (d_is_way : Def P w K mg base "is_way" 3 ["links", "giver", "taker", "numbers"] (spIsWay K C)) (d_way_toll : Def P w K mg base "way_toll" 5 ["links", "numbers"] (fun vs H Q _ => spWayToll K C CN vs H Q E0))
    (G_first_way : FnOk P w K mg base CX0 5 ff fdf ["links", "giver", "taker"] (spFirst C)) (g_first_way : mg "first_way" = some (.ref ff)) (k_first_way : PySem.W.keepIn K (.ref ff) = true) (kb_first_way_links_giver_taker : KB K fdf ["links", "giver", "taker"] 0 ["links", "giver", "taker"] [0, 1, 2]) : FnOk P w K mg base CX0 6 f fd ["_law_made", "_law_one", "_law_two", "_law_best"] (spAgrees C) := by
  refine F.ok sc_L_agrees (fun vs H Q E h => ?_) (fun cdv A outer s H vs Q E hr h => ?_)
  · obtain ⟨p, zs, es, ts, x, y, bv, rfl, _⟩ := h
    rfl
  · obtain ⟨p, zs, es, ts, x, y, bv, rfl, lk, ok, hx, hy, hb, q⟩ := h
    refine ⟨_, (pss_cons (ps_set (i := 4) sc_L_agrees.nd rfl (.inl rfl) (pe_callD d_first_way (hr.mono (by decide)) (by rfl) (pa_cons (pv 0) (pa_cons (pv 1) (pa_cons (pv 2) pa_nil)))))
  (pss_cons (ps_if (pt_cmpR op_isN (pv 3) pe_non (nomark _)) (pss_one (ps_ret (pe_cmpR op_isN (pv 4) pe_non (nomark _)))) pss_nil)
  (pss_cons (ps_if (pt_not (pt_val (pe_callD d_L_same (hr.mono (by decide)) (by rfl) (pa_cons (pv 4) (pa_cons (pe_ix ix_tup (pv 3) pe_int (fun _ _ => rfl)) pa_nil))))) (pss_one (ps_ret pe_bl)) pss_nil)
  (pss_cons (ps_if (PW.pt (pw_or (pt_cmpR op_notBl (pe_callD d_is_way (hr.mono (by decide)) (by rfl) (pa_cons (pv 0) (pa_cons (pv 1) (pa_cons (pv 2) (pa_cons (pv 4) pa_nil))))) pe_bl (nomark _)) (pw_or1 (pt_not (pt_val (pe_callD d_L_same (hr.mono (by decide)) (by rfl) (pa_cons (pe_callD d_way_toll (hr.mono (by decide)) (by rfl) (pa_cons (pv 0) (pa_cons (pv 4) pa_nil))) (pa_cons (pe_ix ix_tup (pv 3) pe_int (fun _ _ => rfl)) pa_nil)))))))) (pss_one (ps_ret pe_bl)) pss_nil)
  (pss_cons (ps_expr (pe_bm PySem.F.plainAttrs_list PySem.F.slot_list_append PySem.F.type_list_append mt_append (pv 4) (pa_cons pe_int pa_nil)))
  (pss_cons (ps_expr (pe_bm0 PySem.F.plainAttrs_list PySem.F.slot_list_reverse PySem.F.type_list_reverse mt_reverse (pv 4)))
  (pss_one (ps_ret (pe_callD d_L_same (hr.mono (by decide)) (by rfl) (pa_cons (pe_callN0 G_first_way (hr.mono (by decide)) (by rfl) g_first_way k_first_way kb_first_way_links_giver_taker pass0 (pk_cons (pv 0) (pk_cons (pv 1) (pk_cons (pv 2) pk_nil)))) (pa_cons (pe_ix ix_tup (pv 3) pe_int (fun _ _ => rfl)) pa_nil))))))))))), ?_⟩
    refine ⟨_, rfl, _, rfl, _, rfl, p, zs, es, ts, x, y, rfl, lk, ok, hx, hy, fun hn H1 s1 => ?_, fun k3 hk H1 L nL s1 eL => ?_⟩
    · rcases hb with ⟨_, rfl⟩ | ⟨k3, e, a, h1, _⟩
      · refine ⟨_, rfl, rfl, _, rfl, ?_⟩
        rw [decide_eq_true rfl]
        refine iteT ⟨_, rfl, rfl, ?_⟩
        rw [decide_eq_true rfl]
        exact q _ s1
      · rw [hn] at h1; cases h1
    · rcases hb with ⟨h1, _⟩ | ⟨k3', e, a, h1, rfl, he, ha⟩
      · rw [hk] at h1; cases h1
      rw [hk] at h1
      cases Option.some.inj h1
      obtain ⟨vs0, pw, l6⟩ := first_path ok hy hk
      obtain ⟨g1, g2, g3⟩ := pw_go pw
      have t12 := ok.t12
      refine ⟨_, rfl, rfl, _, rfl, ?_⟩
      rw [decide_eq_false (show ¬ V.ref e = V.non from nofun)]
      refine iteF ⟨_, rfl, _, rfl, _, _, 2, .ref a, rfl, rfl, tupAt (s1 _ _ he), atI_in (by decide) rfl, _, _, rfl, eq_nums eL (s1 _ _ ha) l6 1, _, rfl, iteF ?_⟩
      have eLI : H1 L = some (.lst ((ksI k3.2).map V.int)) := by rw [← nI_map]; exact eL
      refine ⟨_, rfl, _, rfl, _, rfl, _, rfl, p, L, zs, es, ts, ksI k3.2, x, y, rfl, lk.same s1, t12, .inl (lstAt eLI), hx, hy, fun H2 s2 => ?_⟩
      rw [g1, decide_eq_true rfl]
      have s12 := s1.trans s2
      have eL2 := s2 _ _ eL
      have eLI2 := s2 _ _ eLI
      refine ⟨true, true, rfl, rfl, _, rfl, iteF ⟨_, rfl, _, rfl, p, L, zs, es, ts, ksI k3.2, rfl, lk.same s12, t12, .inl (lstAt eLI2), by unfold ksI; rw [List.length_map]; omega, .inl ⟨wrong_no g2, fun H3 s3 => ?_⟩⟩⟩
      rw [g3]
      have s13 := s12.trans s3
      have eL3 := s3 _ _ eL2
      refine ⟨_, rfl, _, _, 0, .int k3.1, rfl, rfl, tupAt (s13 _ _ he), atI_in (by decide) rfl, _, _, rfl, .inl ⟨rfl, rfl⟩, _, rfl, iteF ?_⟩
      refine ⟨_, rfl, .inl ⟨rfl, _, lstAt eL3⟩, _, _, _, rfl, rfl, eL3, by rw [List.length_map]; exact small1000 (by omega), ?_⟩
      refine ⟨_, rfl, .inl ⟨rfl, _, lstAt upd_same⟩, _, _, rfl, rfl, upd_same, ?_⟩
      have s4 := same_at (o := .lst (k3.2.map nI ++ [V.int 0]).reverse) (same_at (o := .lst (k3.2.map nI ++ [V.int 0])) s13 nL) nL
      generalize upd (upd H3 L (.lst (k3.2.map nI ++ [V.int 0]))) L (.lst (k3.2.map nI ++ [V.int 0]).reverse) = H4 at s4 ⊢
      refine ⟨_, rfl, _, rfl, _, rfl, rfl, rfl, p, zs, es, ts, x, y, rfl, lk.same s4, ok, hx, hy, fun hn => ?_, fun k3' hk' H5 L' nL' s5 eL' => ?_⟩
      · rw [hk] at hn; cases hn
      · rw [hk] at hk'
        cases Option.some.inj hk'
        have s45 := s4.trans s5
        exact ⟨_, rfl, _, _, 2, .ref a, rfl, rfl, tupAt (s45 _ _ he), atI_in (by decide) rfl, _, _, rfl, eq_nums eL' (s45 _ _ ha) l6 1, q _ s45⟩
end
end TK

/-! the law -/
namespace TK
open PySem PySem.Spec PyProof.Rows L2
theorem fl_cap (x : Option Int) : flat1 (capV x) = true := by cases x <;> rfl
theorem TiesAt.app {H : Hp} {es fs : List Addr} {ts us : List Tie} (h : TiesAt H es ts) (k : TiesAt H fs us) : TiesAt H (es ++ fs) (ts ++ us) := by
  refine ⟨by rw [List.length_append, List.length_append, h.1, k.1], fun i e he => ?_⟩
  by_cases hi : i < es.length
  · rw [List.getElem?_append_left hi] at he
    obtain ⟨t, h1, h2⟩ := h.2 i e he
    exact ⟨t, by rw [List.getElem?_append_left (by rw [← h.1]; exact hi)]; exact h1, h2⟩
  · rw [List.getElem?_append_right (by omega)] at he
    obtain ⟨t, h1, h2⟩ := k.2 _ e he
    exact ⟨t, by rw [List.getElem?_append_right (by rw [← h.1]; omega), ← h.1]; exact h1, h2⟩
theorem TiesAt.take {H : Hp} {es : List Addr} {ts : List Tie} (h : TiesAt H es ts) (n : Nat) : TiesAt H (es.take n) (ts.take n) := by
  refine ⟨by rw [List.length_take, List.length_take, h.1], fun i e he => ?_⟩
  rw [List.getElem?_take] at he
  split at he
  · rename_i hi
    obtain ⟨t, h1, h2⟩ := h.2 i e he
    exact ⟨t, by rw [List.getElem?_take, if_pos hi]; exact h1, h2⟩
  · cases he
theorem cut12 (xs : List V) : cutV xs none (some 12) = xs.take 12 := by
  unfold cutV
  rw [HT.sIx_none, show (12 : Int) = ((12 : Nat) : Int) from rfl, HT.sIx_nat, List.drop_zero, Nat.sub_zero]
  by_cases h : 12 ≤ xs.length
  · rw [Nat.min_eq_left h]
  · rw [Nat.min_eq_right (by omega), List.take_length, List.take_of_length_le (by omega)]
theorem ixN_zero {n : Nat} (h : 0 < n) : ixN n 0 = some 0 := by
  unfold ixN
  rw [if_pos (Int.le_refl 0), if_pos (by omega)]
  rfl
theorem eq_flat {H : Hp} {t u : Addr} {xs : List V} (h1 : TL H t xs) (h2 : TL H u xs) (hl : xs.length ≤ 1000) (fl : ∀ x ∈ xs, flat1 x = true) (n : Nat) : Eq2 H (n + 1) (.ref t) (.ref u) := by
  refine .inr ⟨t, u, _, _, rfl, rfl, .inr ⟨h1, h2⟩, rfl, by omega, fun i x y hx hy => ?_⟩
  rw [hx] at hy
  have e := Option.some.inj hy
  have f := fl x (List.mem_of_getElem? hx)
  cases n with
  | zero => exact ⟨e, f⟩
  | succ n => exact .inl ⟨e, f⟩
theorem eq_flatL {H : Hp} {t u : Addr} {xs : List V} (h1 : H t = some (.lst xs)) (h2 : H u = some (.lst xs)) (hl : xs.length ≤ 1000) (fl : ∀ x ∈ xs, flat1 x = true) (n : Nat) : Eq2 H (n + 1) (.ref t) (.ref u) := by
  refine .inr ⟨t, u, _, _, rfl, rfl, .inl ⟨h1, h2⟩, rfl, by omega, fun i x y hx hy => ?_⟩
  rw [hx] at hy
  have e := Option.some.inj hy
  have f := fl x (List.mem_of_getElem? hx)
  cases n with
  | zero => exact ⟨e, f⟩
  | succ n => exact .inl ⟨e, f⟩
theorem fl_nm {zs : List Nam} : ∀ x ∈ zs.map vN, flat1 x = true := fun x hx => by
  obtain ⟨z, _, rfl⟩ := List.mem_map.mp hx
  rfl
theorem fl_pot {zs ks : List Nam} {ts : List Tie} : ∀ x ∈ potV zs ks ts, flat1 x = true := fun x hx => by
  obtain ⟨z, _, rfl⟩ := List.mem_map.mp hx
  exact fl_cap _
theorem eq_ties {H : Hp} {t u : Addr} {es fs : List Addr} {ts : List Tie} (h1 : TL H t (es.map V.ref)) (h2 : TL H u (fs.map V.ref)) (a : TiesAt H es ts) (b : TiesAt H fs ts) (hl : ts.length ≤ 12) : Eq2 H 2 (.ref t) (.ref u) := by
  refine .inr ⟨t, u, _, _, rfl, rfl, .inr ⟨h1, h2⟩, by rw [List.length_map, List.length_map, a.1, b.1], by rw [List.length_map, a.1]; omega, fun i x y hx hy => ?_⟩
  obtain ⟨e, k, rfl, _, ek, hk⟩ := ties_at a hx
  obtain ⟨e', k', rfl, _, ek', hk'⟩ := ties_at b hy
  have : k = k' := Option.some.inj (ek.symm.trans ek')
  subst this
  refine eq_flat (.inl hk) (.inl hk') (show (3 : Nat) ≤ 1000 by decide) (fun x hx => ?_) 0
  rcases List.mem_cons.mp hx with rfl | hx
  · rfl
  rcases List.mem_cons.mp hx with rfl | hx
  · rfl
  rcases List.mem_cons.mp hx with rfl | hx
  · rfl
  · cases hx
theorem SP.pw {ts : List Tie} {x : Nam} {p : List Nam} {z : Nam} {v : Int} (h : SP [x] ts p z v) : ∃ ks vs, Pw ts x ks vs z v ∧ vs.Nodup ∧ ∀ w, w ∈ vs → w ∈ p := by
  induction h with
  | head hz =>
    rw [List.mem_singleton.mp hz]
    exact ⟨_, _, .nil x, List.nodup_cons.mpr ⟨List.not_mem_nil, List.nodup_nil⟩, fun _ h => h⟩
  | @step p y z u c hp m hn ih =>
    obtain ⟨ks, vs, pw, nd, sub⟩ := ih
    obtain ⟨k, hk⟩ := List.getElem?_of_mem m
    refine ⟨_, _, pw.snoc hk rfl, List.nodup_append.mpr ⟨nd, List.nodup_cons.mpr ⟨List.not_mem_nil, List.nodup_nil⟩, fun a ha b hb e => hn (by rw [← show b = z from List.mem_singleton.mp hb, ← e]; exact sub a ha)⟩, fun w hw => ?_⟩
    rcases List.mem_append.mp hw with h | h
    · exact List.mem_cons_of_mem _ (sub w h)
    · rw [List.mem_singleton.mp h]; exact List.mem_cons_self
theorem fresh_sp {ts : List Tie} {x : Nam} : ∀ (n : Nat) (e : Ent), e ∈ freshE ts x n → ∃ p, SP [x] ts p e.2.2.1 e.1 ∧ ∀ w, w ∈ p → w ∈ e.2.2.2
  | 0, e, m => by
    rw [List.mem_singleton.mp m]
    exact ⟨_, .head List.mem_cons_self, fun _ h => h⟩
  | n + 1, e, m => by
    obtain ⟨d, hd, m⟩ := List.mem_flatMap.mp m
    obtain ⟨k, hk, he⟩ := List.mem_filterMap.mp m
    obtain ⟨p, hp, sub⟩ := fresh_sp n d hd
    unfold stepE at he
    split at he
    · rename_i h
      cases Option.some.inj he
      have mt : tieN ts k ∈ ts := List.mem_of_getElem? (tieN_get (List.mem_range.mp hk))
      refine ⟨_, .step (z := (tieN ts k).2.1) (c := (tieN ts k).2.2) hp (by rw [← h.1]; exact mt) fun q => h.2 (sub _ q), fun w hw => ?_⟩
      rcases List.mem_cons.mp hw with rfl | hw
      · exact List.mem_append.mpr (.inr List.mem_cons_self)
      · exact List.mem_append.mpr (.inl (sub w hw))
    · cases he
theorem pot_first {zs : List Nam} {ts : List Tie} {x y : Nam} (ok : LOk zs ts) (hx : x ∈ zs) (hy : y ∈ zs) : pot zs [x] ts y = (firstK zs ts x y).map (·.1) := by
  have T : TOk zs [x] ts := ok.tok fun k hk => by rw [List.mem_singleton.mp hk]; exact hx
  have lower : ∀ u, pot zs [x] ts y = some u → ∃ c, coF zs ts y x = some c ∧ c.1 ≤ u := fun u hu => by
    obtain ⟨p, v, hp, l⟩ := prN_sound T.h0 _ y u hu
    obtain ⟨ks, vs, pw, nd, _⟩ := hp.pw
    obtain ⟨c, hc, lc⟩ := co_le ok hy pw nd _ rfl
    refine ⟨c, hc, ?_⟩
    unfold cle at lc
    simp only at lc
    omega
  unfold firstK
  cases hc : coF zs ts y x with
  | none =>
    cases hp : pot zs [x] ts y with
    | none => rfl
    | some u =>
      obtain ⟨c, h1, _⟩ := lower u hp
      rw [hc] at h1; cases h1
  | some c =>
    obtain ⟨ks, vs, pw, nd, _⟩ := co_some ok hy hc
    obtain ⟨w1, hw⟩ := pw.start
    have m := fresh_all (x := x) pw (n := 0) (v0 := 0) (ks0 := []) (vs0 := [x]) (vs1 := w1) List.mem_cons_self hw (by rw [hw] at nd; exact nd)
    obtain ⟨p, hp, _⟩ := fresh_sp _ _ m
    obtain ⟨u, hu, lu⟩ := pot_path T hp _ rfl
    have hu : pot zs [x] ts y = some u := hu
    have lu : u ≤ 0 + c.1 := lu
    obtain ⟨c', h1, h2⟩ := lower u hu
    rw [hc] at h1
    cases Option.some.inj h1
    rw [hu, show u = c.1 by omega]
    rfl
theorem TiesAt.upd {H : Hp} {D : Addr} {l : List V} {o : HO} {es : List Addr} {ts : List Tie} (h : TiesAt H es ts) (hD : H D = some (.lst l)) : TiesAt (upd H D o) es ts := ⟨h.1, fun i e he => by
  obtain ⟨t, h1, h2⟩ := h.2 i e he
  exact ⟨t, h1, (upd_ne fun q => by
    unfold TieAt at h2
    rw [q, hD] at h2
    cases h2).trans h2⟩⟩
theorem TiesAt.one {H : Hp} {e : Addr} {t : Tie} (h : TieAt H e t) : TiesAt H [e] [t] := ⟨rfl, fun i a he => by
  match i, he with
  | 0, he => cases Option.some.inj he; exact ⟨t, rfl, h⟩⟩
def m3 (t : Tie) : Tie := (t.1, t.2.1, t.2.2 % 3)
theorem ok_m3 {zs : List Nam} {ts : List Tie} (ok : LOk zs ts) : LOk zs (ts.map m3) := by
  have key : ∀ (p : Tie → Prop), (∀ t ∈ ts, p (m3 t)) → ∀ t ∈ ts.map m3, p t := fun p h t m => by
    obtain ⟨u, hu, rfl⟩ := List.mem_map.mp m
    exact h u hu
  exact ⟨ok.nm, ok.nd, ok.l1, ok.l6, by rw [List.length_map]; exact ok.t12, key _ ok.a, key _ ok.b, key _ ok.ne, key _ fun t _ => Int.emod_nonneg _ (by decide), key _ fun t _ => by
    have := Int.emod_lt_of_pos t.2.2 (show (0 : Int) < 3 by decide)
    show t.2.2 % 3 ≤ 1000000000
    omega⟩
section
variable {P : Program} {w : World} {K : PySem.W.Frag} {mg : Str → Option Value} {base : Heap}
def spLaw (K : PySem.W.Frag) : Sp := fun vs H Q _ => ∃ (a : Addr) (ns : List Int), vs = [.ref a] ∧ SqL K H a (ns.map V.int) ∧ ns.length ≤ 63 ∧ ∀ H', Q (.bl true) H'
theorem ok_law {f C fL : Addr} {fd fdL : FuncData} (F : Fun K "law" "law" s_law f fd) (T : TxtL K C) (m_list : mg "list" = none) (m_tuple : mg "tuple" = none)
    (M_Links : Mk K C fL) (G_Links : FnOk P w K mg base CX0 3 fL fdL ["self", "names", "links"] (spInitL K C)) (mg_Links : mg "Links" = some (.ref C)) (b_Links : Binds K fdL ["self", "names", "links"] [])
    (d_L_cell : Def P w K mg base "_law_cell" 1 ["_law_script", "_law_k"] (spCellA K)) (d_L_pool : Def P w K mg base "_law_pool" 2 ["_law_cell_here", "_law_number"] spPool)
    (d_L_part : Def P w K mg base "_law_part" 1 ["_law_pool_here", "_law_spot", "_law_under", "_law_size"] (spPart K)) (d_L_words : Def P w K mg base "_law_words" 3 ["_law_cell_here", "_law_number"] spWords)
    (d_L_links : Def P w K mg base "_law_links" 2 ["_law_pool_here", "_law_spot", "_law_words_here", "_law_number"] (spLinks K)) (d_L_ties : Def P w K mg base "_law_ties" 1 ["_law_cell_here", "_law_words_here"] (spTies K))
    (d_L_ways : Def P w K mg base "_law_ways" 1 ["_law_words_here", "_law_ties_here", "_law_one"] (spWays K)) (d_L_first : Def P w K mg base "_law_first" 1 ["_law_found", "_law_two"] (spBest K))
    (d_L_agrees : Def P w K mg base "_law_agrees" 6 ["_law_made", "_law_one", "_law_two", "_law_best"] (spAgrees C)) (d_least_toll : Def P w K mg base "least_toll" 3 ["links", "giver", "taker"] (spLeastToll C))
    (d_L_same : Def P w K mg base "_law_same" 4 ["_law_got", "_law_wanted"] (spSame 2)) : FnOk P w K mg base CX0 8 f fd ["_law_script"] (spLaw K) := by
  refine F.ok sc_law (fun vs H Q E h => ?_) (fun cdv A outer s H vs Q E hr h => ?_)
  · obtain ⟨a, ns, rfl, _⟩ := h
    rfl
  · obtain ⟨a, ns, rfl, hS, hlen, q⟩ := h
    refine ⟨_, (pss_cons (ps_set (i := 1) sc_law.nd rfl (.inl rfl) (pe_callD d_L_pool (hr.mono (by decide)) (by rfl) (pa_cons (pe_callD d_L_cell (hr.mono (by decide)) (by rfl) (pa_cons (pv 0) (pa_cons pe_int pa_nil))) (pa_cons pe_int pa_nil))))
  (pss_cons (ps_set (i := 2) sc_law.nd rfl (.inl rfl) (pe_op op_add pe_int (pe_callD d_L_part (hr.mono (by decide)) (by rfl) (pa_cons (pv 1) (pa_cons pe_int (pa_cons pe_int (pa_cons pe_int pa_nil)))))))
  (pss_cons (ps_set (i := 3) sc_law.nd rfl (.inl rfl) (pe_callD d_L_words (hr.mono (by decide)) (by rfl) (pa_cons (pe_callD d_L_cell (hr.mono (by decide)) (by rfl) (pa_cons (pv 0) (pa_cons pe_int pa_nil))) (pa_cons (pv 2) pa_nil))))
  (pss_cons (ps_set (i := 4) sc_law.nd rfl (.inl rfl) (pe_op op_cat (pe_callD d_L_links (hr.mono (by decide)) (by rfl) (pa_cons (pv 1) (pa_cons pe_int (pa_cons (pv 3) (pa_cons (pe_callD d_L_part (hr.mono (by decide)) (by rfl) (pa_cons (pv 1) (pa_cons pe_int (pa_cons pe_int (pa_cons pe_int pa_nil))))) pa_nil))))) (pe_callD d_L_ties (hr.mono (by decide)) (by rfl) (pa_cons (pe_callD d_L_cell (hr.mono (by decide)) (by rfl) (pa_cons (pv 0) (pa_cons pe_int pa_nil))) (pa_cons (pv 3) pa_nil)))))
  (pss_cons (ps_set (i := 4) sc_law.nd rfl (.inl rfl) (pe_slice sl_list (pv 4) po_none (po_some pe_int)))
  (pss_cons (ps_cut (ps_if (pt_cmpR op_eq (pe_callD d_L_part (hr.mono (by decide)) (by rfl) (pa_cons (pv 1) (pa_cons pe_int (pa_cons pe_int (pa_cons pe_int pa_nil))))) pe_int (nomark _)) (pss_one (ps_setLc (i := 4) (own := [("_law_one", 6), ("_law_two", 8), ("_law_toll", 10)]) (by rfl) sc_law.nd rfl rfl (sw_true rfl rfl rfl (by decide +kernel)) (pi_list (pv 4)) (blkOk_by (N := ["_law_script", "_law_head", "_law_size", "_law_words_here", "_law_ties_here", "_law_made", "_law_one", "_law_found", "_law_two", "_law_best", "_law_toll"]) (sc := defScope s_law) (by decide +kernel)) (fun _ _ _ _ _ => (pg_tupK (K := K) (n := 3) rfl (by rfl) (pgs_cons (pg_name (i := 6) sc_law.nd rfl (.inl rfl)) (pgs_cons (pg_name (i := 8) sc_law.nd rfl (.inl rfl)) (pgs_cons (pg_name (i := 10) sc_law.nd rfl (.inl rfl)) pgs_nil))))) (fun _ _ _ _ _ => pts_nil) (fun _ _ _ _ _ => (pe_tup (pa_cons (pv 6) (pa_cons (pv 8) (pa_cons (pe_op op_mod (pv 10) pe_int) pa_nil))))))) pss_nil))
  (pss_cons (ps_set (i := 5) sc_law.nd rfl (.inl rfl) (pe_make M_Links G_Links (hr.mono (by decide)) (by rfl) mg_Links b_Links .nil pass0 (pa_cons (pe_callTy call_list_of (by rfl) m_list (by decide +kernel) (pa_cons (pv 3) pa_nil)) (pa_cons (pe_callTy call_list_of (by rfl) m_list (by decide +kernel) (pa_cons (pv 4) pa_nil)) pa_nil))))
  (pss_cons (ps_for PassesOwn.never rfl (pi_list (pv 3)) (pg_name (i := 6) sc_law.nd rfl (.inl rfl))
    (pss_cons (ps_set (i := 7) sc_law.nd rfl (.inl rfl) (pe_callD d_L_ways (hr.mono (by decide)) (by rfl) (pa_cons (pv 3) (pa_cons (pv 4) (pa_cons (pv 6) pa_nil)))))
  (pss_one (ps_for PassesOwn.never rfl (pi_list (pv 3)) (pg_name (i := 8) sc_law.nd rfl (.inl rfl))
    (pss_one (ps_if (pt_not (pt_val (pe_callD d_L_agrees (hr.mono (by decide)) (by rfl) (pa_cons (pv 5) (pa_cons (pv 6) (pa_cons (pv 8) (pa_cons (pe_callD d_L_first (hr.mono (by decide)) (by rfl) (pa_cons (pv 7) (pa_cons (pv 8) pa_nil))) pa_nil))))))) (pss_one (ps_ret pe_bl)) pss_nil))))))
  (pss_cons (ps_set (i := 6) sc_law.nd rfl (.inl rfl) (pe_ix ix_list (pv 3) (pe_op op_mod (pe_callD d_L_part (hr.mono (by decide)) (by rfl) (pa_cons (pv 1) (pa_cons pe_int (pa_cons pe_int (pa_cons pe_int pa_nil))))) (pv 2)) (fun _ _ => rfl)))
  (pss_cons (ps_set (i := 8) sc_law.nd rfl (.inl rfl) (pe_ix ix_list (pv 3) (pe_op op_mod (pe_callD d_L_part (hr.mono (by decide)) (by rfl) (pa_cons (pv 1) (pa_cons pe_int (pa_cons pe_int (pa_cons pe_int pa_nil))))) (pv 2)) (fun _ _ => rfl)))
  (pss_cons (ps_set (i := 9) sc_law.nd rfl (.inl rfl) (pe_callD d_L_first (hr.mono (by decide)) (by rfl) (pa_cons (pe_callD d_L_ways (hr.mono (by decide)) (by rfl) (pa_cons (pv 3) (pa_cons (pv 4) (pa_cons (pv 6) pa_nil)))) (pa_cons (pv 8) pa_nil))))
  (pss_cons (ps_set (i := 10) sc_law.nd rfl (.inl rfl) pe_non)
  (pss_cons (ps_cut (ps_if (pt_cmpR op_notN (pv 9) pe_non (nomark _)) (pss_one (ps_set (i := 10) sc_law.nd rfl (.inl rfl) (pe_ix ix_tup (pv 9) pe_int (fun _ _ => rfl)))) pss_nil))
  (pss_cons (ps_if (pt_not (pt_val (pe_callD d_L_same (hr.mono (by decide)) (by rfl) (pa_cons (pe_callD d_least_toll (hr.mono (by decide)) (by rfl) (pa_cons (pv 5) (pa_cons (pv 6) (pa_cons (pv 8) pa_nil)))) (pa_cons (pv 10) pa_nil))))) (pss_one (ps_ret pe_bl)) pss_nil)
  (pss_one (ps_ret (pe_and (pe_callD d_L_same (hr.mono (by decide)) (by rfl) (pa_cons (pe_fld (pv 5) rfl) (pa_cons (pe_callTy call_tuple_of (by rfl) m_tuple (by decide +kernel) (pa_cons (pv 4) pa_nil)) pa_nil))) (pe_one (pe_callD d_L_same (hr.mono (by decide)) (by rfl) (pa_cons (pe_fld (pv 5) rfl) (pa_cons (pe_callTy call_tuple_of (by rfl) m_tuple (by decide +kernel) (pa_cons (pv 3) pa_nil)) pa_nil))))))))))))))))))))), ?_⟩
    -- the pool
    refine ⟨_, rfl, a, ns, 1, rfl, hS, by decide, by decide, by omega, fun c1 => ⟨c1, 15, rfl, by decide, by decide, fun p1 ns1 np1 l1 o1 => ?_⟩⟩
    have s2 : Same H (upd H p1 (.lst (ns1.map V.int))) := same_upd np1
    have e1 : (upd H p1 (.lst (ns1.map V.int))) p1 = some (.lst (ns1.map V.int)) := upd_same
    generalize upd H p1 (.lst (ns1.map V.int)) = H2 at s2 e1 ⊢
    have u0 := part_lo (ns := ns1) (s := 0) (u := 1) (z := 6) (by decide)
    have u1 := part_hi (ns := ns1) (s := 0) (u := 1) (z := 6) (by decide)
    have v0 := part_lo (ns := ns1) (s := 1) (u := 1) (z := 13) (by decide)
    have v1 := part_hi (ns := ns1) (s := 1) (u := 1) (z := 13) (by decide)
    refine ⟨_, rfl, p1, ns1, 0, 1, 6, rfl, lstAt e1, by decide, by omega, by decide, by decide, by decide, _, _, rfl, rfl, ?_⟩
    -- the words
    refine ⟨_, rfl, a, ns, 0, rfl, s2.seq hS, by decide, by decide, by omega, fun c3 => ⟨_, rfl, c3, _, rfl, by omega, by omega, fun H3 c zs s3 ec lz nm nd => ?_⟩⟩
    have s23 := s2.trans s3
    have z1 : 1 ≤ zs.length := by omega
    have z6 : zs.length ≤ 6 := by omega
    have zl : (zs.map vN).length = zs.length := List.length_map ..
    -- the ties
    refine ⟨_, rfl, _, rfl, _, rfl, p1, ns1, 1, 1, 13, rfl, lstAt (s3 _ _ e1), by decide, by omega, by decide, by decide, by decide, ?_⟩
    refine ⟨p1, c, ns1, 2, _, zs, rfl, lstAt (s3 _ _ e1), lstAt ec, by decide, by omega, by omega, by omega, z6, nd, fun H4 d5 es5 ts5 tw5 t5 => ?_⟩
    have s4 := tw5.s
    refine ⟨_, rfl, a, ns, 2, rfl, (s23.trans s4).seq hS, by decide, by decide, by omega, fun c4 => ⟨_, rfl, c4, c, zs, rfl, lstAt (s4 _ _ ec), z6, nd, fun H5 d6 es6 ts6 tw6 t6 => ?_⟩⟩
    have s5 := tw6.s
    refine ⟨d5, d6, _, _, rfl, rfl, s5 _ _ tw5.d, tw6.d, by rw [List.length_map, List.length_map, tw5.t.1, tw6.t.1]; exact Nat.le_of_lt (small1000 (by omega)), fun p7 np7 => ?_⟩
    refine ⟨_, rfl, _, rfl, _, _, rfl, lstAt upd_same, fun p8 np8 => ?_⟩
    rw [cut12, ← List.map_append, ← List.map_take]
    rw [← List.map_append] at np8
    obtain ⟨es, ees⟩ : ∃ es, es = (es5 ++ es6).take 12 := ⟨_, rfl⟩
    obtain ⟨ts, ets⟩ : ∃ ts, ts = (ts5 ++ ts6).take 12 := ⟨_, rfl⟩
    rw [← ees]
    obtain ⟨H8, eH8⟩ : ∃ H8, H8 = upd (upd H5 p7 (.lst ((es5 ++ es6).map V.ref))) p8 (.lst (es.map V.ref)) := ⟨_, rfl⟩
    have s58 : Same H5 H8 := by rw [eH8]; exact (same_upd np7).trans (same_upd np8)
    have e8 : H8 p8 = some (.lst (es.map V.ref)) := by rw [eH8]; exact upd_same
    have hT8 : TiesAt H8 es ts := by rw [ees, ets]; exact (((tw5.t.same s5).app tw6.t).take 12).same s58
    have tok : TsOk zs ts := (tw5.o.app tw6.o).sub fun t m => by rw [ets] at m; exact List.mem_of_mem_take m
    have t12 : ts.length ≤ 12 := by rw [ets, List.length_take]; omega
    have ok : LOk zs ts := ⟨nm, nd, z1, z6, t12, tok.a, tok.b, tok.ne, tok.h0, tok.h9⟩
    have el : (es.map V.ref).length = ts.length := by rw [List.length_map, hT8.1]
    rw [← eH8]
    clear eH8
    have s38 : Same H3 H8 := (s4.trans s5).trans s58
    have ec8 := s38 _ _ ec
    have e18 := s38 _ _ (s3 _ _ e1)
    have s8 : Same H H8 := s23.trans s38
    clear s38 s58 s23 s2 s3 s4 s5 ec e1 tw5 tw6 tok np7 np8
    -- thirds
    refine ⟨fun σ H' => ∃ (p9 : Addr) (es : List Addr) (ts : List Tie), σ = [some (.ref a), some (.ref p1), some (.int (1 + partOf ns1 0 1 6)), some (.ref c), some (.ref p9), none, none, none, none, none, none] ∧ Same H8 H' ∧ H' p9 = some (.lst (es.map V.ref)) ∧ TiesAt H' es ts ∧ LOk zs ts, ?_, ?_⟩
    · refine ⟨_, rfl, p1, ns1, 1, 13, 2, rfl, lstAt e18, by decide, by omega, by decide, by decide, by decide, rfl, _, rfl, ite2 (fun e => ?_) (fun e => ⟨p8, es, ts, rfl, Same.refl _, e8, hT8, ok⟩)⟩
      refine ⟨_, rfl, p8, rfl, ⟨_, lstAt e8⟩, fun D nD => ?_⟩
      refine lc_list (K := K) (a := p8) (xs := es.map V.ref) (fun i H' => ∃ fs : List Addr, Same H8 H' ∧ H' D = some (.lst (fs.map V.ref)) ∧ TiesAt H' fs ((ts.take i).map m3)) ⟨[], same_upd nD, upd_same, rfl, fun _ _ h => (nomatch h)⟩ (fun i H' _ hq => lstAt (hq.choose_spec.1 _ _ e8)) (fun i v H' hx hq => ?_) (fun H' hq => ?_)
      · obtain ⟨fs, s9, eD, hF⟩ := hq
        obtain ⟨e, t, rfl, _, et, ht⟩ := ties_at (hT8.same s9) hx
        have hi : i < ts.length := (List.getElem?_eq_some_iff.mp et).1
        have fl : fs.length ≤ 12 := by rw [hF.1, List.length_map, List.length_take]; omega
        rw [List.take_add_one, et, List.map_append]
        show gTup _ _ _ _ _ _ _
        refine gTup3 ht _ rfl ?_
        refine ⟨rfl, yesT ?_⟩
        refine ⟨_, rfl, _, rfl, _, rfl, _, _, rfl, rfl, (show (0 : Int) < 3 by decide), (show (3 : Nat) ≤ sizeLine by decide), fun e2 ne2 => ?_⟩
        have sE := same_upd (o := .tup [vN t.1, vN t.2.1, V.int (t.2.2 % 3)]) ne2
        have hE : TieAt (upd H' e2 (.tup [vN t.1, vN t.2.1, V.int (t.2.2 % 3)])) e2 (m3 t) := upd_same
        have eD2 := sE _ _ eD
        exact ⟨_, eD2, by rw [List.length_map]; exact small1000 (by omega), fs ++ [e2], same_at (s9.trans sE) nD, by rw [List.map_append]; exact upd_same, ((hF.same sE).app (TiesAt.one hE)).upd eD2⟩
      · obtain ⟨fs, s9, eD, hF⟩ := hq
        rw [el, List.take_length] at hF
        exact ⟨D, fs, ts.map m3, rfl, s9, eD, hF, ok_m3 ok⟩
    clear hT8 e8 ok t12 el ees ets
    clear es ts
    rintro σ H9 ⟨p9, es, ts, rfl, s9, e9, hT9, ok⟩
    have t12 := ok.t12
    have ec9 := s9 _ _ ec8
    have e19 := s9 _ _ e18
    -- the links
    refine ⟨_, rfl, c, _, rfl, .inl (lstAt ec9), fun q1 nq1 => ?_⟩
    have sq1 := same_upd (o := .lst (zs.map vN)) nq1
    refine ⟨_, rfl, p9, _, rfl, .inl (lstAt (sq1 _ _ e9)), fun q2 nq2 => ?_⟩
    have sq2 := same_upd (o := .lst (es.map V.ref)) nq2
    have s8q := sq1.trans sq2
    intro m dx nm' ndx ne
    have sdx := same_upd (o := .own m) ndx
    have nmm : (upd (upd (upd H9 q1 (.lst (zs.map vN))) q2 (.lst (es.map V.ref))) dx (.own m)) m = none := by rw [upd_ne ne.symm]; exact nm'
    have sm' := sdx.trans (same_upd (o := .ins C dx []) nmm)
    refine ⟨m, q1, q2, dx, zs, es, ts, rfl, upd_same, sm' _ _ (sq2 _ _ upd_same), sm' _ _ upd_same, hT9.same (s8q.trans sm'), ok, fun H10 es' lka fr => ⟨rfl, ?_⟩⟩
    have sA : Same H9 H10 := fun x o e => fr x o ((s8q.trans sm') _ _ e) (ne_of_none (s8q _ _ e) nm')
    have ec10 := sA _ _ ec9
    have e110 := sA _ _ e19
    have e910 := sA _ _ e9
    have hT10 := hT9.same sA
    clear sA sm' s8q sq1 sq2 sdx nmm fr s9 ec9 e19 e9 hT9 ec8 e18
    -- the walks
    refine ⟨_, rfl, c, rfl, ⟨_, lstAt ec10⟩, for_list (K := K) (a := c) (xs := zs.map vN) (fun i σ H' => ∃ (y6 y7 y8 : Option V), σ = [some (.ref a), some (.ref p1), some (.int (1 + partOf ns1 0 1 6)), some (.ref c), some (.ref p9), some (.ref m), y6, y7, y8, none, none] ∧ Same H10 H') ⟨_, _, _, rfl, Same.refl _⟩ (fun i σ H' _ hq => ?_) ?_ ?_⟩
    · obtain ⟨_, _, _, rfl, s11⟩ := hq
      exact lstAt (s11 _ _ ec10)
    · rintro i v σ H11 hx ⟨y6, y7, y8, rfl, s11⟩
      obtain ⟨x, ex, rfl⟩ := vN_at hx
      have mx := List.mem_of_getElem? ex
      refine ⟨_, rfl, _, rfl, _, rfl, c, p9, zs, es, ts, x, rfl, lstAt (s11 _ _ ec10), lstAt (s11 _ _ e910), hT10.same s11, t12, z6, fun H12 F fs s12 eF hE => ?_⟩
      have s1012 := s11.trans s12
      refine ⟨_, rfl, c, rfl, ⟨_, lstAt (s1012 _ _ ec10)⟩, for_list (K := K) (a := c) (xs := zs.map vN) (fun i σ H' => ∃ (y8 : Option V), σ = [some (.ref a), some (.ref p1), some (.int (1 + partOf ns1 0 1 6)), some (.ref c), some (.ref p9), some (.ref m), some (vN x), some (.ref F), y8, none, none] ∧ Same H12 H') ⟨_, rfl, Same.refl _⟩ (fun i σ H' _ hq => ?_) ?_ ?_⟩
      · obtain ⟨_, rfl, s13⟩ := hq
        exact lstAt ((s1012.trans s13) _ _ ec10)
      · rintro j v σ H13 hx2 ⟨y8, rfl, s13⟩
        obtain ⟨y, ey, rfl⟩ := vN_at hx2
        have my := List.mem_of_getElem? ey
        have s1013 := s1012.trans s13
        refine ⟨_, rfl, _, rfl, _, rfl, _, rfl, _, rfl, F, fs, foundE ts x zs.length, y, rfl, lstAt (s13 _ _ eF), hE.same s13, fun hn H14 s14 => ?_, fun k3 hk H14 e ak s14 he ha => ?_⟩
        · rw [best_is ok my] at hn
          refine ⟨m, zs, es', ts, x, y, .non, rfl, lka.same (s1013.trans s14), ok, mx, my, .inl ⟨hn, rfl⟩, fun H15 s15 => ⟨_, rfl, iteF ⟨_, rfl, s13.trans (s14.trans s15)⟩⟩⟩
        · rw [best_is ok my] at hk
          refine ⟨m, zs, es', ts, x, y, .ref e, rfl, lka.same (s1013.trans s14), ok, mx, my, .inr ⟨k3, e, ak, hk, rfl, he, ha⟩, fun H15 s15 => ⟨_, rfl, iteF ⟨_, rfl, s13.trans (s14.trans s15)⟩⟩⟩
      · rintro σ H13 ⟨y8, rfl, s13⟩
        exact ⟨_, _, _, rfl, s1012.trans s13⟩
    · rintro σ H11 ⟨y6, y7, y8, rfl, s11⟩
      -- the least toll
      have z1' : (0 : Int) < 1 + partOf ns1 0 1 6 := by omega
      have o1 := Int.emod_nonneg (partOf ns1 14 1 60) (show (1 + partOf ns1 0 1 6) ≠ 0 by omega)
      have o2 := Int.emod_lt_of_pos (partOf ns1 14 1 60) z1'
      obtain ⟨x, gx, mx, ax⟩ := nm_get (zs := zs) o1 (by omega)
      have o3 := Int.emod_nonneg (partOf ns1 14 60 60) (show (1 + partOf ns1 0 1 6) ≠ 0 by omega)
      have o4 := Int.emod_lt_of_pos (partOf ns1 14 60 60) z1'
      obtain ⟨y, gy, my, ay⟩ := nm_get (zs := zs) o3 (by omega)
      refine ⟨_, rfl, _, rfl, p1, ns1, 14, 1, 60, rfl, lstAt (s11 _ _ e110), by decide, by omega, by decide, by decide, by decide, _, rfl, _, _, rfl, rfl, z1', _, _, _, _, rfl, rfl, lstAt (s11 _ _ ec10), ax, ?_⟩
      refine ⟨_, rfl, _, rfl, p1, ns1, 14, 60, 60, rfl, lstAt (s11 _ _ e110), by decide, by omega, by decide, by decide, by decide, _, rfl, _, _, rfl, rfl, z1', _, _, _, _, rfl, rfl, lstAt (s11 _ _ ec10), ay, ?_⟩
      refine ⟨_, rfl, _, rfl, _, rfl, c, p9, zs, es, ts, x, rfl, lstAt (s11 _ _ ec10), lstAt (s11 _ _ e910), hT10.same s11, t12, z6, fun H12 F fs s12 eF hE => ⟨_, rfl, F, fs, foundE ts x zs.length, y, rfl, lstAt eF, hE, fun hn H13 s13 => ?_, fun k3 hk H13 e ak s13 he ha => ?_⟩⟩
      · rw [best_is ok my] at hn
        have hp : pot zs [x] ts y = none := by rw [pot_first ok mx my, hn]; rfl
        refine ⟨fun σ H' => ∃ (y9 : Option V), σ = [some (.ref a), some (.ref p1), some (.int (1 + partOf ns1 0 1 6)), some (.ref c), some (.ref p9), some (.ref m), some (vN x), y7, some (vN y), y9, some (capV (pot zs [x] ts y))] ∧ Same H13 H', ?_, ?_⟩
        · refine ⟨_, rfl, rfl, _, rfl, ?_⟩
          rw [decide_eq_true rfl]
          exact iteF ⟨_, by rw [hp]; rfl, Same.refl _⟩
        · -- the rest
          rintro σ H14 ⟨y9, rfl, s14⟩
          have s1114 := s11.trans (s12.trans (s13.trans s14))
          refine ⟨_, rfl, _, rfl, _, rfl, m, zs, es', ts, x, y, rfl, lka.same s1114, ok, mx, my, fun H15 s15 => ⟨_, rfl, _, _, rfl, .inl ⟨rfl, fl_cap _⟩, _, rfl, iteF ?_⟩⟩
          have s1015 := s1114.trans s15
          -- the object's tuples
          obtain ⟨dx', x1, x2, o, k1, k2, kk3, k4, k5, k6⟩ := lka.same s1015
          refine ⟨_, rfl, m, C, dx', _, _, rfl, k1, T.cl, T.nL, fldsL_links _ _, ?_⟩
          refine ⟨_, rfl, p9, _, rfl, .inl ⟨lstAt (s1015 _ _ e910), fun t1 nt1 => ?_⟩⟩
          have st1 := same_upd (o := .tup (es.map V.ref)) nt1
          refine ⟨_, _, rfl, eq_ties (.inl (st1 _ _ k5)) (.inl upd_same) (k6.same st1) (hT10.same (s1015.trans st1)) t12, _, rfl, iteT ?_⟩
          refine ⟨_, rfl, m, C, dx', _, _, rfl, st1 _ _ k1, T.cl, T.nN, fldsL_names _ _, ?_⟩
          refine ⟨_, rfl, c, _, rfl, .inl ⟨lstAt (st1 _ _ (s1015 _ _ ec10)), fun t2 nt2 => ?_⟩⟩
          have st2 := same_upd (o := .tup (zs.map vN)) nt2
          exact ⟨_, _, rfl, eq_flat (.inr ⟨o, st2 _ _ (st1 _ _ k2)⟩) (.inl upd_same) (by rw [zl]; omega) fl_nm 1, q _⟩
      · rw [best_is ok my] at hk
        have hp : pot zs [x] ts y = some k3.1 := by rw [pot_first ok mx my, hk]; rfl
        refine ⟨fun σ H' => ∃ (y9 : Option V), σ = [some (.ref a), some (.ref p1), some (.int (1 + partOf ns1 0 1 6)), some (.ref c), some (.ref p9), some (.ref m), some (vN x), y7, some (vN y), y9, some (capV (pot zs [x] ts y))] ∧ Same H13 H', ?_, ?_⟩
        · refine ⟨_, rfl, rfl, _, rfl, ?_⟩
          rw [decide_eq_false (show ¬ V.ref e = V.non from nofun)]
          exact iteT ⟨_, rfl, _, _, 0, .int k3.1, rfl, rfl, tupAt he, atI_in (by decide) rfl, _, by rw [hp]; rfl, Same.refl _⟩
        · -- the rest
          rintro σ H14 ⟨y9, rfl, s14⟩
          have s1114 := s11.trans (s12.trans (s13.trans s14))
          refine ⟨_, rfl, _, rfl, _, rfl, m, zs, es', ts, x, y, rfl, lka.same s1114, ok, mx, my, fun H15 s15 => ⟨_, rfl, _, _, rfl, .inl ⟨rfl, fl_cap _⟩, _, rfl, iteF ?_⟩⟩
          have s1015 := s1114.trans s15
          -- the object's tuples
          obtain ⟨dx', x1, x2, o, k1, k2, kk3, k4, k5, k6⟩ := lka.same s1015
          refine ⟨_, rfl, m, C, dx', _, _, rfl, k1, T.cl, T.nL, fldsL_links _ _, ?_⟩
          refine ⟨_, rfl, p9, _, rfl, .inl ⟨lstAt (s1015 _ _ e910), fun t1 nt1 => ?_⟩⟩
          have st1 := same_upd (o := .tup (es.map V.ref)) nt1
          refine ⟨_, _, rfl, eq_ties (.inl (st1 _ _ k5)) (.inl upd_same) (k6.same st1) (hT10.same (s1015.trans st1)) t12, _, rfl, iteT ?_⟩
          refine ⟨_, rfl, m, C, dx', _, _, rfl, st1 _ _ k1, T.cl, T.nN, fldsL_names _ _, ?_⟩
          refine ⟨_, rfl, c, _, rfl, .inl ⟨lstAt (st1 _ _ (s1015 _ _ ec10)), fun t2 nt2 => ?_⟩⟩
          have st2 := same_upd (o := .tup (zs.map vN)) nt2
          exact ⟨_, _, rfl, eq_flat (.inr ⟨o, st2 _ _ (st1 _ _ k2)⟩) (.inl upd_same) (by rw [zl]; omega) fl_nm 1, q _⟩
end
end TK

namespace TK
open PySem PySem.Spec PyProof.Rows L2 NdefX

abbrev s_NoLink_init : Stmt := inClass (topS 9) 0

theorem all_mk {l : PySem.W.OpenLaw} {w : World} {K : PySem.W.Frag} {h : Heap} {mg : Str → Option Value} {fa f0 f1 f2 f3 f4 f5 f6 f7 f8 f9 f10 f11 f12 f13 f14 f15 f16 f17 f18 f19 f20 f21 f22 f23 f24 f25 f26 f27 f28 f29 f30 f31 f32 f33 f34 : Addr} (X : K.In h) (G : h.Ns mainGlobals mg) (hfa : mg "law" = some (.ref fa))
    {tk : Tok}
    {C TI EI DN : Addr} {odD odN2 : Option Addr} {slD slN2 : Array (Option Value)} {ocD ocN2 : Value} {nD nN : Nat} {tkL tkT : Tok}
    {fI : Addr} {odI anI : Option Addr} {slI : Array (Option Value)} {ocI kVI dcI pmI cdI ctI : Value}
    {fN : Addr} {odN anN : Option Addr} {slN : Array (Option Value)} {ocN kVN dcN pmN cdN ctN : Value}
    {fT : Addr} {odT anT : Option Addr} {slT : Array (Option Value)} {ocT kVT dcT pmT cdT ctT : Value}
    {CeN feN cceN cdaeN NNeN : Addr} {oceN ccleN cleN kVeN doceN pmeN cteN : Value} {aneN odeN cddeN cldeN : Option Addr} {osleN ccseN csleN : Array (Option Value)} {vseN : Array Value} {tfeN : Tok} {fileeN nmeN qeN : Str}
    {bseN bmeN subeN : List Value} {sneN : List Str} {abeN : Bool} {coleN : Option Bool} {ddeN : Option Addr} {k0eN k1eN k2eN k3eN k5eN : Option Value}
    {od0 an0 : Option Addr} {sl0 : Array (Option Value)} {oc0 kV0 dc0 pm0 cd0 ct0 : Value}
    (a0 : PySem.W.nsIn K mainGlobals "_wall" = some (some (.ref f0))) (l0 : K.lookup f0 = some ⟨oc0, od0, .func (PySem.W.fnOf "_wall" "_wall" (defArgs s_wall) (defBody s_wall) (defScope s_wall) .none kV0 dc0 pm0 an0 cd0 ct0), sl0⟩) (c0 : PySem.W.codeIn K cd0 "_wall" = true) (k0 : PySem.W.keepIn K (.ref f0) = true)
    {od1 an1 : Option Addr} {sl1 : Array (Option Value)} {oc1 kV1 dc1 pm1 cd1 ct1 : Value}
    (a1 : PySem.W.nsIn K mainGlobals "is_name" = some (some (.ref f1))) (l1 : K.lookup f1 = some ⟨oc1, od1, .func (PySem.W.fnOf "is_name" "is_name" (defArgs s_is_name) (defBody s_is_name) (defScope s_is_name) .none kV1 dc1 pm1 an1 cd1 ct1), sl1⟩) (c1 : PySem.W.codeIn K cd1 "is_name" = true) (k1 : PySem.W.keepIn K (.ref f1) = true)
    {od2 an2 : Option Addr} {sl2 : Array (Option Value)} {oc2 kV2 dc2 pm2 cd2 ct2 : Value}
    (a2 : PySem.W.nsIn K mainGlobals "check_size" = some (some (.ref f2))) (l2 : K.lookup f2 = some ⟨oc2, od2, .func (PySem.W.fnOf "check_size" "check_size" (defArgs s_check_size) (defBody s_check_size) (defScope s_check_size) .none kV2 dc2 pm2 an2 cd2 ct2), sl2⟩) (c2 : PySem.W.codeIn K cd2 "check_size" = true) (k2 : PySem.W.keepIn K (.ref f2) = true)
    {od3 an3 : Option Addr} {sl3 : Array (Option Value)} {oc3 kV3 dc3 pm3 cd3 ct3 : Value}
    (a3 : PySem.W.nsIn K mainGlobals "check_range" = some (some (.ref f3))) (l3 : K.lookup f3 = some ⟨oc3, od3, .func (PySem.W.fnOf "check_range" "check_range" (defArgs s_check_range) (defBody s_check_range) (defScope s_check_range) .none kV3 dc3 pm3 an3 cd3 ct3), sl3⟩) (c3 : PySem.W.codeIn K cd3 "check_range" = true) (k3 : PySem.W.keepIn K (.ref f3) = true)
    {od4 an4 : Option Addr} {sl4 : Array (Option Value)} {oc4 kV4 dc4 pm4 cd4 ct4 : Value}
    (a4 : PySem.W.nsIn K mainGlobals "check_names" = some (some (.ref f4))) (l4 : K.lookup f4 = some ⟨oc4, od4, .func (PySem.W.fnOf "check_names" "check_names" (defArgs s_check_names) (defBody s_check_names) (defScope s_check_names) (.ref DN) kV4 dc4 pm4 an4 cd4 ct4), sl4⟩) (c4 : PySem.W.codeIn K cd4 "check_names" = true) (k4 : PySem.W.keepIn K (.ref f4) = true)
    {od5 an5 : Option Addr} {sl5 : Array (Option Value)} {oc5 kV5 dc5 pm5 cd5 ct5 : Value}
    (a5 : PySem.W.nsIn K mainGlobals "check_known" = some (some (.ref f5))) (l5 : K.lookup f5 = some ⟨oc5, od5, .func (PySem.W.fnOf "check_known" "check_known" (defArgs s_check_known) (defBody s_check_known) (defScope s_check_known) .none kV5 dc5 pm5 an5 cd5 ct5), sl5⟩) (c5 : PySem.W.codeIn K cd5 "check_known" = true) (k5 : PySem.W.keepIn K (.ref f5) = true)
    {od6 an6 : Option Addr} {sl6 : Array (Option Value)} {oc6 kV6 dc6 pm6 cd6 ct6 : Value}
    (a6 : PySem.W.nsIn K mainGlobals "plus" = some (some (.ref f6))) (l6 : K.lookup f6 = some ⟨oc6, od6, .func (PySem.W.fnOf "plus" "plus" (defArgs s_plus) (defBody s_plus) (defScope s_plus) .none kV6 dc6 pm6 an6 cd6 ct6), sl6⟩) (c6 : PySem.W.codeIn K cd6 "plus" = true) (k6 : PySem.W.keepIn K (.ref f6) = true)
    {od7 an7 : Option Addr} {sl7 : Array (Option Value)} {oc7 kV7 dc7 pm7 cd7 ct7 : Value}
    (a7 : PySem.W.nsIn K mainGlobals "least" = some (some (.ref f7))) (l7 : K.lookup f7 = some ⟨oc7, od7, .func (PySem.W.fnOf "least" "least" (defArgs s_least) (defBody s_least) (defScope s_least) .none kV7 dc7 pm7 an7 cd7 ct7), sl7⟩) (c7 : PySem.W.codeIn K cd7 "least" = true) (k7 : PySem.W.keepIn K (.ref f7) = true)
    {od8 an8 : Option Addr} {sl8 : Array (Option Value)} {oc8 kV8 dc8 pm8 cd8 ct8 : Value}
    (a8 : PySem.W.nsIn K mainGlobals "_check_entries" = some (some (.ref f8))) (l8 : K.lookup f8 = some ⟨oc8, od8, .func (PySem.W.fnOf "_check_entries" "_check_entries" (defArgs s_check_entries) (defBody s_check_entries) (defScope s_check_entries) .none kV8 dc8 pm8 an8 cd8 ct8), sl8⟩) (c8 : PySem.W.codeIn K cd8 "_check_entries" = true) (k8 : PySem.W.keepIn K (.ref f8) = true)
    {od9 an9 : Option Addr} {sl9 : Array (Option Value)} {oc9 kV9 dc9 pm9 cd9 ct9 : Value}
    (a9 : PySem.W.nsIn K mainGlobals "_least_tolls" = some (some (.ref f9))) (l9 : K.lookup f9 = some ⟨oc9, od9, .func (PySem.W.fnOf "_least_tolls" "_least_tolls" (defArgs s_least_tolls) (defBody s_least_tolls) (defScope s_least_tolls) .none kV9 dc9 pm9 an9 cd9 ct9), sl9⟩) (c9 : PySem.W.codeIn K cd9 "_least_tolls" = true) (k9 : PySem.W.keepIn K (.ref f9) = true)
    {od10 an10 : Option Addr} {sl10 : Array (Option Value)} {oc10 kV10 dc10 pm10 cd10 ct10 : Value}
    (a10 : PySem.W.nsIn K mainGlobals "_check_links" = some (some (.ref f10))) (l10 : K.lookup f10 = some ⟨oc10, od10, .func (PySem.W.fnOf "_check_links" "_check_links" (defArgs s_check_links) (defBody s_check_links) (defScope s_check_links) .none kV10 dc10 pm10 an10 cd10 ct10), sl10⟩) (c10 : PySem.W.codeIn K cd10 "_check_links" = true) (k10 : PySem.W.keepIn K (.ref f10) = true)
    {od11 an11 : Option Addr} {sl11 : Array (Option Value)} {oc11 kV11 dc11 pm11 cd11 ct11 : Value}
    (a11 : PySem.W.nsIn K mainGlobals "check_numbers" = some (some (.ref f11))) (l11 : K.lookup f11 = some ⟨oc11, od11, .func (PySem.W.fnOf "check_numbers" "check_numbers" (defArgs s_check_numbers) (defBody s_check_numbers) (defScope s_check_numbers) .none kV11 dc11 pm11 an11 cd11 ct11), sl11⟩) (c11 : PySem.W.codeIn K cd11 "check_numbers" = true) (k11 : PySem.W.keepIn K (.ref f11) = true)
    {od12 an12 : Option Addr} {sl12 : Array (Option Value)} {oc12 kV12 dc12 pm12 cd12 ct12 : Value}
    (a12 : PySem.W.nsIn K mainGlobals "is_way" = some (some (.ref f12))) (l12 : K.lookup f12 = some ⟨oc12, od12, .func (PySem.W.fnOf "is_way" "is_way" (defArgs s_is_way) (defBody s_is_way) (defScope s_is_way) .none kV12 dc12 pm12 an12 cd12 ct12), sl12⟩) (c12 : PySem.W.codeIn K cd12 "is_way" = true) (k12 : PySem.W.keepIn K (.ref f12) = true)
    {od13 an13 : Option Addr} {sl13 : Array (Option Value)} {oc13 kV13 dc13 pm13 cd13 ct13 : Value}
    (a13 : PySem.W.nsIn K mainGlobals "way_toll" = some (some (.ref f13))) (l13 : K.lookup f13 = some ⟨oc13, od13, .func (PySem.W.fnOf "way_toll" "way_toll" (defArgs s_way_toll) (defBody s_way_toll) (defScope s_way_toll) .none kV13 dc13 pm13 an13 cd13 ct13), sl13⟩) (c13 : PySem.W.codeIn K cd13 "way_toll" = true) (k13 : PySem.W.keepIn K (.ref f13) = true)
    {od14 an14 : Option Addr} {sl14 : Array (Option Value)} {oc14 kV14 dc14 pm14 cd14 ct14 : Value}
    (a14 : PySem.W.nsIn K mainGlobals "least_toll" = some (some (.ref f14))) (l14 : K.lookup f14 = some ⟨oc14, od14, .func (PySem.W.fnOf "least_toll" "least_toll" (defArgs s_least_toll) (defBody s_least_toll) (defScope s_least_toll) .none kV14 dc14 pm14 an14 cd14 ct14), sl14⟩) (c14 : PySem.W.codeIn K cd14 "least_toll" = true) (k14 : PySem.W.keepIn K (.ref f14) = true)
    {od15 an15 : Option Addr} {sl15 : Array (Option Value)} {oc15 kV15 dc15 pm15 cd15 ct15 : Value}
    (a15 : PySem.W.nsIn K mainGlobals "first_way" = some (some (.ref f15))) (l15 : K.lookup f15 = some ⟨oc15, od15, .func (PySem.W.fnOf "first_way" "first_way" (defArgs s_first_way) (defBody s_first_way) (defScope s_first_way) .none kV15 dc15 pm15 an15 cd15 ct15), sl15⟩) (c15 : PySem.W.codeIn K cd15 "first_way" = true) (k15 : PySem.W.keepIn K (.ref f15) = true)
    {od16 an16 : Option Addr} {sl16 : Array (Option Value)} {oc16 kV16 dc16 pm16 cd16 ct16 : Value}
    (a16 : PySem.W.nsIn K mainGlobals "potentials" = some (some (.ref f16))) (l16 : K.lookup f16 = some ⟨oc16, od16, .func (PySem.W.fnOf "potentials" "potentials" (defArgs s_potentials) (defBody s_potentials) (defScope s_potentials) .none kV16 dc16 pm16 an16 cd16 ct16), sl16⟩) (c16 : PySem.W.codeIn K cd16 "potentials" = true) (k16 : PySem.W.keepIn K (.ref f16) = true)
    {od17 an17 : Option Addr} {sl17 : Array (Option Value)} {oc17 kV17 dc17 pm17 cd17 ct17 : Value}
    (a17 : PySem.W.nsIn K mainGlobals "_costs_to" = some (some (.ref f17))) (l17 : K.lookup f17 = some ⟨oc17, od17, .func (PySem.W.fnOf "_costs_to" "_costs_to" (defArgs s_costs_to) (defBody s_costs_to) (defScope s_costs_to) .none kV17 dc17 pm17 an17 cd17 ct17), sl17⟩) (c17 : PySem.W.codeIn K cd17 "_costs_to" = true) (k17 : PySem.W.keepIn K (.ref f17) = true)
    {od18 an18 : Option Addr} {sl18 : Array (Option Value)} {oc18 kV18 dc18 pm18 cd18 ct18 : Value}
    (a18 : PySem.W.nsIn K mainGlobals "_cost_through" = some (some (.ref f18))) (l18 : K.lookup f18 = some ⟨oc18, od18, .func (PySem.W.fnOf "_cost_through" "_cost_through" (defArgs s_cost_through) (defBody s_cost_through) (defScope s_cost_through) .none kV18 dc18 pm18 an18 cd18 ct18), sl18⟩) (c18 : PySem.W.codeIn K cd18 "_cost_through" = true) (k18 : PySem.W.keepIn K (.ref f18) = true)
    {od19 an19 : Option Addr} {sl19 : Array (Option Value)} {oc19 kV19 dc19 pm19 cd19 ct19 : Value}
    (a19 : PySem.W.nsIn K mainGlobals "_first_link" = some (some (.ref f19))) (l19 : K.lookup f19 = some ⟨oc19, od19, .func (PySem.W.fnOf "_first_link" "_first_link" (defArgs s_first_link) (defBody s_first_link) (defScope s_first_link) .none kV19 dc19 pm19 an19 cd19 ct19), sl19⟩) (c19 : PySem.W.codeIn K cd19 "_first_link" = true) (k19 : PySem.W.keepIn K (.ref f19) = true)
    {od20 an20 : Option Addr} {sl20 : Array (Option Value)} {oc20 kV20 dc20 pm20 cd20 ct20 : Value}
    (a20 : PySem.W.nsIn K mainGlobals "_law_cell" = some (some (.ref f20))) (l20 : K.lookup f20 = some ⟨oc20, od20, .func (PySem.W.fnOf "_law_cell" "_law_cell" (defArgs s_L_cell) (defBody s_L_cell) (defScope s_L_cell) .none kV20 dc20 pm20 an20 cd20 ct20), sl20⟩) (c20 : PySem.W.codeIn K cd20 "_law_cell" = true) (k20 : PySem.W.keepIn K (.ref f20) = true)
    {od21 an21 : Option Addr} {sl21 : Array (Option Value)} {oc21 kV21 dc21 pm21 cd21 ct21 : Value}
    (a21 : PySem.W.nsIn K mainGlobals "_law_mixed" = some (some (.ref f21))) (l21 : K.lookup f21 = some ⟨oc21, od21, .func (PySem.W.fnOf "_law_mixed" "_law_mixed" (defArgs s_L_mixed) (defBody s_L_mixed) (defScope s_L_mixed) .none kV21 dc21 pm21 an21 cd21 ct21), sl21⟩) (c21 : PySem.W.codeIn K cd21 "_law_mixed" = true) (k21 : PySem.W.keepIn K (.ref f21) = true)
    {od22 an22 : Option Addr} {sl22 : Array (Option Value)} {oc22 kV22 dc22 pm22 cd22 ct22 : Value}
    (a22 : PySem.W.nsIn K mainGlobals "_law_pool" = some (some (.ref f22))) (l22 : K.lookup f22 = some ⟨oc22, od22, .func (PySem.W.fnOf "_law_pool" "_law_pool" (defArgs s_L_pool) (defBody s_L_pool) (defScope s_L_pool) .none kV22 dc22 pm22 an22 cd22 ct22), sl22⟩) (c22 : PySem.W.codeIn K cd22 "_law_pool" = true) (k22 : PySem.W.keepIn K (.ref f22) = true)
    {od23 an23 : Option Addr} {sl23 : Array (Option Value)} {oc23 kV23 dc23 pm23 cd23 ct23 : Value}
    (a23 : PySem.W.nsIn K mainGlobals "_law_part" = some (some (.ref f23))) (l23 : K.lookup f23 = some ⟨oc23, od23, .func (PySem.W.fnOf "_law_part" "_law_part" (defArgs s_L_part) (defBody s_L_part) (defScope s_L_part) .none kV23 dc23 pm23 an23 cd23 ct23), sl23⟩) (c23 : PySem.W.codeIn K cd23 "_law_part" = true) (k23 : PySem.W.keepIn K (.ref f23) = true)
    {od24 an24 : Option Addr} {sl24 : Array (Option Value)} {oc24 kV24 dc24 pm24 cd24 ct24 : Value}
    (a24 : PySem.W.nsIn K mainGlobals "_law_names" = some (some (.ref f24))) (l24 : K.lookup f24 = some ⟨oc24, od24, .func (PySem.W.fnOf "_law_names" "_law_names" (defArgs s_L_names) (defBody s_L_names) (defScope s_L_names) .none kV24 dc24 pm24 an24 cd24 ct24), sl24⟩) (c24 : PySem.W.codeIn K cd24 "_law_names" = true) (k24 : PySem.W.keepIn K (.ref f24) = true)
    {od25 an25 : Option Addr} {sl25 : Array (Option Value)} {oc25 kV25 dc25 pm25 cd25 ct25 : Value}
    (a25 : PySem.W.nsIn K mainGlobals "_law_strange" = some (some (.ref f25))) (l25 : K.lookup f25 = some ⟨oc25, od25, .func (PySem.W.fnOf "_law_strange" "_law_strange" (defArgs s_L_strange) (defBody s_L_strange) (defScope s_L_strange) .none kV25 dc25 pm25 an25 cd25 ct25), sl25⟩) (c25 : PySem.W.codeIn K cd25 "_law_strange" = true) (k25 : PySem.W.keepIn K (.ref f25) = true)
    {od26 an26 : Option Addr} {sl26 : Array (Option Value)} {oc26 kV26 dc26 pm26 cd26 ct26 : Value}
    (a26 : PySem.W.nsIn K mainGlobals "_law_words" = some (some (.ref f26))) (l26 : K.lookup f26 = some ⟨oc26, od26, .func (PySem.W.fnOf "_law_words" "_law_words" (defArgs s_L_words) (defBody s_L_words) (defScope s_L_words) .none kV26 dc26 pm26 an26 cd26 ct26), sl26⟩) (c26 : PySem.W.codeIn K cd26 "_law_words" = true) (k26 : PySem.W.keepIn K (.ref f26) = true)
    {od27 an27 : Option Addr} {sl27 : Array (Option Value)} {oc27 kV27 dc27 pm27 cd27 ct27 : Value}
    (a27 : PySem.W.nsIn K mainGlobals "_law_links" = some (some (.ref f27))) (l27 : K.lookup f27 = some ⟨oc27, od27, .func (PySem.W.fnOf "_law_links" "_law_links" (defArgs s_L_links) (defBody s_L_links) (defScope s_L_links) .none kV27 dc27 pm27 an27 cd27 ct27), sl27⟩) (c27 : PySem.W.codeIn K cd27 "_law_links" = true) (k27 : PySem.W.keepIn K (.ref f27) = true)
    {od28 an28 : Option Addr} {sl28 : Array (Option Value)} {oc28 kV28 dc28 pm28 cd28 ct28 : Value}
    (a28 : PySem.W.nsIn K mainGlobals "_law_ties" = some (some (.ref f28))) (l28 : K.lookup f28 = some ⟨oc28, od28, .func (PySem.W.fnOf "_law_ties" "_law_ties" (defArgs s_L_ties) (defBody s_L_ties) (defScope s_L_ties) .none kV28 dc28 pm28 an28 cd28 ct28), sl28⟩) (c28 : PySem.W.codeIn K cd28 "_law_ties" = true) (k28 : PySem.W.keepIn K (.ref f28) = true)
    {od29 an29 : Option Addr} {sl29 : Array (Option Value)} {oc29 kV29 dc29 pm29 cd29 ct29 : Value}
    (a29 : PySem.W.nsIn K mainGlobals "_law_integer" = some (some (.ref f29))) (l29 : K.lookup f29 = some ⟨oc29, od29, .func (PySem.W.fnOf "_law_integer" "_law_integer" (defArgs s_L_integer) (defBody s_L_integer) (defScope s_L_integer) .none kV29 dc29 pm29 an29 cd29 ct29), sl29⟩) (c29 : PySem.W.codeIn K cd29 "_law_integer" = true) (k29 : PySem.W.keepIn K (.ref f29) = true)
    {od30 an30 : Option Addr} {sl30 : Array (Option Value)} {oc30 kV30 dc30 pm30 cd30 ct30 : Value}
    (a30 : PySem.W.nsIn K mainGlobals "_law_same" = some (some (.ref f30))) (l30 : K.lookup f30 = some ⟨oc30, od30, .func (PySem.W.fnOf "_law_same" "_law_same" (defArgs s_L_same) (defBody s_L_same) (defScope s_L_same) .none kV30 dc30 pm30 an30 cd30 ct30), sl30⟩) (c30 : PySem.W.codeIn K cd30 "_law_same" = true) (k30 : PySem.W.keepIn K (.ref f30) = true)
    {od31 an31 : Option Addr} {sl31 : Array (Option Value)} {oc31 kV31 dc31 pm31 cd31 ct31 : Value}
    (a31 : PySem.W.nsIn K mainGlobals "_law_ways" = some (some (.ref f31))) (l31 : K.lookup f31 = some ⟨oc31, od31, .func (PySem.W.fnOf "_law_ways" "_law_ways" (defArgs s_L_ways) (defBody s_L_ways) (defScope s_L_ways) .none kV31 dc31 pm31 an31 cd31 ct31), sl31⟩) (c31 : PySem.W.codeIn K cd31 "_law_ways" = true) (k31 : PySem.W.keepIn K (.ref f31) = true)
    {od32 an32 : Option Addr} {sl32 : Array (Option Value)} {oc32 kV32 dc32 pm32 cd32 ct32 : Value}
    (a32 : PySem.W.nsIn K mainGlobals "_law_first" = some (some (.ref f32))) (l32 : K.lookup f32 = some ⟨oc32, od32, .func (PySem.W.fnOf "_law_first" "_law_first" (defArgs s_L_first) (defBody s_L_first) (defScope s_L_first) .none kV32 dc32 pm32 an32 cd32 ct32), sl32⟩) (c32 : PySem.W.codeIn K cd32 "_law_first" = true) (k32 : PySem.W.keepIn K (.ref f32) = true)
    {od33 an33 : Option Addr} {sl33 : Array (Option Value)} {oc33 kV33 dc33 pm33 cd33 ct33 : Value}
    (a33 : PySem.W.nsIn K mainGlobals "_law_agrees" = some (some (.ref f33))) (l33 : K.lookup f33 = some ⟨oc33, od33, .func (PySem.W.fnOf "_law_agrees" "_law_agrees" (defArgs s_L_agrees) (defBody s_L_agrees) (defScope s_L_agrees) .none kV33 dc33 pm33 an33 cd33 ct33), sl33⟩) (c33 : PySem.W.codeIn K cd33 "_law_agrees" = true) (k33 : PySem.W.keepIn K (.ref f33) = true)
    {od34 an34 : Option Addr} {sl34 : Array (Option Value)} {oc34 kV34 dc34 pm34 cd34 ct34 : Value}
    (a34 : PySem.W.nsIn K mainGlobals "law" = some (some (.ref f34))) (l34 : K.lookup f34 = some ⟨oc34, od34, .func (PySem.W.fnOf "law" "law" (defArgs s_law) (defBody s_law) (defScope s_law) .none kV34 dc34 pm34 an34 cd34 ct34), sl34⟩) (c34 : PySem.W.codeIn K cd34 "law" = true) (k34 : PySem.W.keepIn K (.ref f34) = true)
    (aL : PySem.W.nsIn K mainGlobals "LETTERS" = some (some (.str lettersZ tk)))
    (z_len : PySem.W.nsIn K mainGlobals "len" = some none)
    (z_all : PySem.W.nsIn K mainGlobals "all" = some none)
    (z_enumerate : PySem.W.nsIn K mainGlobals "enumerate" = some none)
    (z_tuple : PySem.W.nsIn K mainGlobals "tuple" = some none)
    (z_list : PySem.W.nsIn K mainGlobals "list" = some none)
    (z_range : PySem.W.nsIn K mainGlobals "range" = some none)
    (z_abs : PySem.W.nsIn K mainGlobals "abs" = some none)
    (z_int : PySem.W.nsIn K mainGlobals "int" = some none)
    (z_min : PySem.W.nsIn K mainGlobals "min" = some none)
    (z_isinstance : PySem.W.nsIn K mainGlobals "isinstance" = some none)
    (z_bool : PySem.W.nsIn K mainGlobals "bool" = some none)
    (z_str : PySem.W.nsIn K mainGlobals "str" = some none)
    (z_iter : PySem.W.nsIn K mainGlobals "iter" = some none)
    (z_sum : PySem.W.nsIn K mainGlobals "sum" = some none)
    (aML : PySem.W.nsIn K mainGlobals "MOST_LINKS" = some (some (.int 12 tkL))) (aMT : PySem.W.nsIn K mainGlobals "MOST_TOLL" = some (some (.int 1000000000 tkT)))
    (aC : PySem.W.nsIn K mainGlobals "Links" = some (some (.ref C)))
    (aI : PySem.W.findIn K (.ref C) "__init__" = some (some (.ref fI))) (iI : PySem.W.isFn K (.ref fI) = true) (lI : K.lookup fI = some ⟨ocI, odI, .func (PySem.W.fnOf "__init__" "Links.__init__" (defArgs s_Links_init) (defBody s_Links_init) (defScope s_Links_init) (.ref TI) kVI dcI pmI anI cdI ctI), slI⟩) (cI : PySem.W.codeIn K cdI "Links.__init__" = true) (kI : PySem.W.keepIn K (.ref fI) = true)
    (aN : PySem.W.findIn K (.ref C) "__len__" = some (some (.ref fN))) (iN : PySem.W.isFn K (.ref fN) = true) (lN : K.lookup fN = some ⟨ocN, odN, .func (PySem.W.fnOf "__len__" "Links.__len__" (defArgs s_Links_len) (defBody s_Links_len) (defScope s_Links_len) .none kVN dcN pmN anN cdN ctN), slN⟩) (cN : PySem.W.codeIn K cdN "Links.__len__" = true) (kN : PySem.W.keepIn K (.ref fN) = true)
    (aT : PySem.W.findIn K (.ref C) "__iter__" = some (some (.ref fT))) (iT : PySem.W.isFn K (.ref fT) = true) (lT : K.lookup fT = some ⟨ocT, odT, .func (PySem.W.fnOf "__iter__" "Links.__iter__" (defArgs s_Links_iter) (defBody s_Links_iter) (defScope s_Links_iter) .none kVT dcT pmT anT cdT ctT), slT⟩) (cT : PySem.W.codeIn K cdT "Links.__iter__" = true) (kT : PySem.W.keepIn K (.ref fT) = true)
    (lTI : K.lookup TI = some ⟨ocD, odD, .seq (List.toArray [Value.ref EI]) nD, slD⟩) (lDN : K.lookup DN = some ⟨ocN2, odN2, .seq (List.toArray [Value.bool false]) nN, slN2⟩)
    (pg : PySem.W.plainGet K C Str.empty = true) (hd : PySem.W.hasDictIn K C = true) (po : PySem.W.plainOver K C = true) (sa : PySem.W.findIn K (.ref C) "__setattr__" = some (some (.builtin "object.__setattr__"))) (mk : PySem.W.makesIn K C = true) (kc : PySem.W.keepIn K (.ref C) = true)
    (nA : PySem.W.findIn K (.ref C) "names" = some none) (nB : PySem.W.findIn K (.ref C) "links" = some none)
    (hgt : PySem.W.specialIn K (.builtin "object.__class__") "__get__" = some (some (.builtin "getset_descriptor.__get__"))) (htk : PySem.W.takesIn K (.builtin "object.__class__") = some true)
    (htopS : (l.prog.main.scope.names.lookup ("super" : Str)).isSome = false) (z_super : PySem.W.nsIn K mainGlobals "super" = some none) (hstS : PySem.W.nsIn K cStatics "thirdparty.any" = some none)
    (aeN : PySem.W.nsIn K mainGlobals "NoLink" = some (some (.ref CeN))) (ibeN : PySem.W.findIn K (.ref CeN) "__init__" = some (some (.ref feN)))
    (leN : K.lookup feN = some ⟨oceN, odeN, .func (PySem.W.fnX "__init__" "NoLink.__init__" (defArgs s_NoLink_init) (defBody s_NoLink_init) (defScope s_NoLink_init) [("__class__", cceN)] .none kVeN doceN pmeN aneN (.ref cdaeN) cteN), osleN⟩) (cbeN : PySem.W.codeIn K (.ref cdaeN) "NoLink.__init__" = true)
    (hceN : K.lookup cdaeN = some ⟨ccleN, cddeN, .fields vseN, ccseN⟩) (hveN : vseN[2]? = some (.str fileeN tfeN)) (hfeN : ((l.prog.main.file : Str) == fileeN) = true) (hleN : K.lookup cceN = some ⟨cleN, cldeN, .cell (some (.ref CeN)), csleN⟩)
    (lceN : K.lookup CeN = some (excClassObj nmeN qeN CeN NNeN bseN bmeN true sneN subeN abeN coleN ddeN k0eN k1eN k2eN k3eN k5eN "ValueError.__new__")) (rfeN : PySem.HandSPX.refsVE bmeN = true) (saeN : PySem.W.findIn K (.ref CeN) "__setattr__" = some (some (.builtin "object.__setattr__")))
    (bxeN : PySem.W.subIn K (.ref CeN) (.type "BaseException") = some true) (tyeN : PySem.W.typeIn K (.ref CeN) = some (.type "type")) (kceN : PySem.W.keepIn K (.ref CeN) = true) (hmeN : PySem.W.mroIn K CeN (.ref CeN) = some true)
    (aleN : PySem.W.ks_superIn K CeN CeN "__init__" = some (some (.builtin "ValueError.__init__"))) (veeN : PySem.W.subIn K (.ref CeN) (.type "ValueError") = some true) (noeN : PySem.W.findIn K (.ref CeN) "number" = some none) (tfeNx : PySem.W.typeIn K (.ref feN) = some (.type "function"))
    (gaeN : PySem.W.findIn K (.ref CeN) "__getattribute__" = some (some (.builtin "BaseException.__getattribute__"))) (ggeN : PySem.W.findIn K (.ref CeN) "__getattr__" = some none) (hdeN : PySem.W.hasDictIn K CeN = true) (cceNx : PySem.W.findIn K (.ref CeN) "__class__" = some (some (.builtin "object.__class__")))
    (moeN : PySem.W.mroIn K CeN (.type "object") = some true) (iseN : PySem.W.isClsIn K CeN = true) (sueN : PySem.W.subIn K (.ref CeN) (.ref CeN) = some true) :
    ∃ fd : FuncData, (∀ (s : Shared) (v : Value), BindsTo s fd ⟨[v], []⟩ [("_law_script", v)]) ∧ ∀ base : Heap, K.In base → base.Ns mainGlobals mg → FnOk l.prog w K mg base CX0 8 fa fd ["_law_script"] (spLaw K) := by
  have e := hfa.symm.trans (PySem.W.mg_of X G a34)
  cases e
  have m_len := PySem.W.mg_none_of X G z_len
  have m_all := PySem.W.mg_none_of X G z_all
  have m_enumerate := PySem.W.mg_none_of X G z_enumerate
  have m_tuple := PySem.W.mg_none_of X G z_tuple
  have m_list := PySem.W.mg_none_of X G z_list
  have m_range := PySem.W.mg_none_of X G z_range
  have m_abs := PySem.W.mg_none_of X G z_abs
  have m_int := PySem.W.mg_none_of X G z_int
  have m_min := PySem.W.mg_none_of X G z_min
  have m_isinstance := PySem.W.mg_none_of X G z_isinstance
  have m_bool := PySem.W.mg_none_of X G z_bool
  have m_str := PySem.W.mg_none_of X G z_str
  have m_iter := PySem.W.mg_none_of X G z_iter
  have m_sum := PySem.W.mg_none_of X G z_sum
  have F0 := fun_mk (st := s_wall) l0 c0 k0
  have b0 := F0.binds (ps := ["k"]) fun _ _ _ _ _ _ us hl => match us, hl with | [_], _ => rfl
  have g0 := PySem.W.mg_of X G a0
  have F1 := fun_mk (st := s_is_name) l1 c1 k1
  have b1 := F1.binds (ps := ["word"]) fun _ _ _ _ _ _ us hl => match us, hl with | [_], _ => rfl
  have g1 := PySem.W.mg_of X G a1
  have F2 := fun_mk (st := s_check_size) l2 c2 k2
  have b2 := F2.binds (ps := ["size", "low", "high"]) fun _ _ _ _ _ _ us hl => match us, hl with | [_, _, _], _ => rfl
  have g2 := PySem.W.mg_of X G a2
  have F3 := fun_mk (st := s_check_range) l3 c3 k3
  have b3 := F3.binds (ps := ["number", "low", "high"]) fun _ _ _ _ _ _ us hl => match us, hl with | [_, _, _], _ => rfl
  have g3 := PySem.W.mg_of X G a3
  have F4 : FunD K "check_names" "check_names" (defArgs s_check_names) (defBody s_check_names) (defScope s_check_names) [V.bl false] [] f4 _ := ⟨⟨oc4, od4, .ref DN, kV4, dc4, pm4, an4, cd4, ct4, sl4, rfl, l4, c4, .inr ⟨by simp, DN, _, [Value.bool false], nN, rfl, lDN, rfl, .cons rfl .nil⟩, .inl rfl⟩, k4⟩
  have g4 := PySem.W.mg_of X G a4
  have F5 := fun_mk (st := s_check_known) l5 c5 k5
  have b5 := F5.binds (ps := ["names", "known"]) fun _ _ _ _ _ _ us hl => match us, hl with | [_, _], _ => rfl
  have g5 := PySem.W.mg_of X G a5
  have F6 := fun_mk (st := s_plus) l6 c6 k6
  have b6 := F6.binds (ps := ["price", "other"]) fun _ _ _ _ _ _ us hl => match us, hl with | [_, _], _ => rfl
  have g6 := PySem.W.mg_of X G a6
  have F7 := fun_mk (st := s_least) l7 c7 k7
  have b7 := F7.binds (ps := ["prices"]) fun _ _ _ _ _ _ us hl => match us, hl with | [_], _ => rfl
  have g7 := PySem.W.mg_of X G a7
  have F8 := fun_mk (st := s_check_entries) l8 c8 k8
  have b8 := F8.binds (ps := ["names", "entries"]) fun _ _ _ _ _ _ us hl => match us, hl with | [_, _], _ => rfl
  have g8 := PySem.W.mg_of X G a8
  have F9 := fun_mk (st := s_least_tolls) l9 c9 k9
  have b9 := F9.binds (ps := ["entries"]) fun _ _ _ _ _ _ us hl => match us, hl with | [_], _ => rfl
  have g9 := PySem.W.mg_of X G a9
  have F10 := fun_mk (st := s_check_links) l10 c10 k10
  have b10 := F10.binds (ps := ["names", "links"]) fun _ _ _ _ _ _ us hl => match us, hl with | [_, _], _ => rfl
  have g10 := PySem.W.mg_of X G a10
  have F11 := fun_mk (st := s_check_numbers) l11 c11 k11
  have b11 := F11.binds (ps := ["links", "numbers"]) fun _ _ _ _ _ _ us hl => match us, hl with | [_, _], _ => rfl
  have g11 := PySem.W.mg_of X G a11
  have F12 := fun_mk (st := s_is_way) l12 c12 k12
  have b12 := F12.binds (ps := ["links", "giver", "taker", "numbers"]) fun _ _ _ _ _ _ us hl => match us, hl with | [_, _, _, _], _ => rfl
  have g12 := PySem.W.mg_of X G a12
  have F13 := fun_mk (st := s_way_toll) l13 c13 k13
  have b13 := F13.binds (ps := ["links", "numbers"]) fun _ _ _ _ _ _ us hl => match us, hl with | [_, _], _ => rfl
  have g13 := PySem.W.mg_of X G a13
  have F14 := fun_mk (st := s_least_toll) l14 c14 k14
  have b14 := F14.binds (ps := ["links", "giver", "taker"]) fun _ _ _ _ _ _ us hl => match us, hl with | [_, _, _], _ => rfl
  have g14 := PySem.W.mg_of X G a14
  have F15 := fun_mk (st := s_first_way) l15 c15 k15
  have b15 := F15.binds (ps := ["links", "giver", "taker"]) fun _ _ _ _ _ _ us hl => match us, hl with | [_, _, _], _ => rfl
  have g15 := PySem.W.mg_of X G a15
  have F16 := fun_mk (st := s_potentials) l16 c16 k16
  have b16 := F16.binds (ps := ["links", "givers"]) fun _ _ _ _ _ _ us hl => match us, hl with | [_, _], _ => rfl
  have g16 := PySem.W.mg_of X G a16
  have F17 := fun_mk (st := s_costs_to) l17 c17 k17
  have b17 := F17.binds (ps := ["links", "taker"]) fun _ _ _ _ _ _ us hl => match us, hl with | [_, _], _ => rfl
  have g17 := PySem.W.mg_of X G a17
  have F18 := fun_mk (st := s_cost_through) l18 c18 k18
  have b18 := F18.binds (ps := ["costs", "end", "toll"]) fun _ _ _ _ _ _ us hl => match us, hl with | [_, _, _], _ => rfl
  have g18 := PySem.W.mg_of X G a18
  have F19 := fun_mk (st := s_first_link) l19 c19 k19
  have b19 := F19.binds (ps := ["links", "costs", "holder"]) fun _ _ _ _ _ _ us hl => match us, hl with | [_, _, _], _ => rfl
  have g19 := PySem.W.mg_of X G a19
  have F20 := fun_mk (st := s_L_cell) l20 c20 k20
  have b20 := F20.binds (ps := ["_law_script", "_law_k"]) fun _ _ _ _ _ _ us hl => match us, hl with | [_, _], _ => rfl
  have g20 := PySem.W.mg_of X G a20
  have F21 := fun_mk (st := s_L_mixed) l21 c21 k21
  have b21 := F21.binds (ps := ["_law_cell_here", "_law_k"]) fun _ _ _ _ _ _ us hl => match us, hl with | [_, _], _ => rfl
  have g21 := PySem.W.mg_of X G a21
  have F22 := fun_mk (st := s_L_pool) l22 c22 k22
  have b22 := F22.binds (ps := ["_law_cell_here", "_law_number"]) fun _ _ _ _ _ _ us hl => match us, hl with | [_, _], _ => rfl
  have g22 := PySem.W.mg_of X G a22
  have F23 := fun_mk (st := s_L_part) l23 c23 k23
  have b23 := F23.binds (ps := ["_law_pool_here", "_law_spot", "_law_under", "_law_size"]) fun _ _ _ _ _ _ us hl => match us, hl with | [_, _, _, _], _ => rfl
  have g23 := PySem.W.mg_of X G a23
  have F24 := fun_mk (st := s_L_names) l24 c24 k24
  have b24 := F24.binds (ps := ["_law_pool_here", "_law_spot", "_law_number"]) fun _ _ _ _ _ _ us hl => match us, hl with | [_, _, _], _ => rfl
  have g24 := PySem.W.mg_of X G a24
  have F25 := fun_mk (st := s_L_strange) l25 c25 k25
  have b25 := F25.binds (ps := ["_law_words_here"]) fun _ _ _ _ _ _ us hl => match us, hl with | [_], _ => rfl
  have g25 := PySem.W.mg_of X G a25
  have F26 := fun_mk (st := s_L_words) l26 c26 k26
  have b26 := F26.binds (ps := ["_law_cell_here", "_law_number"]) fun _ _ _ _ _ _ us hl => match us, hl with | [_, _], _ => rfl
  have g26 := PySem.W.mg_of X G a26
  have F27 := fun_mk (st := s_L_links) l27 c27 k27
  have b27 := F27.binds (ps := ["_law_pool_here", "_law_spot", "_law_words_here", "_law_number"]) fun _ _ _ _ _ _ us hl => match us, hl with | [_, _, _, _], _ => rfl
  have g27 := PySem.W.mg_of X G a27
  have F28 := fun_mk (st := s_L_ties) l28 c28 k28
  have b28 := F28.binds (ps := ["_law_cell_here", "_law_words_here"]) fun _ _ _ _ _ _ us hl => match us, hl with | [_, _], _ => rfl
  have g28 := PySem.W.mg_of X G a28
  have F29 := fun_mk (st := s_L_integer) l29 c29 k29
  have b29 := F29.binds (ps := ["_law_got"]) fun _ _ _ _ _ _ us hl => match us, hl with | [_], _ => rfl
  have g29 := PySem.W.mg_of X G a29
  have F30 := fun_mk (st := s_L_same) l30 c30 k30
  have b30 := F30.binds (ps := ["_law_got", "_law_wanted"]) fun _ _ _ _ _ _ us hl => match us, hl with | [_, _], _ => rfl
  have g30 := PySem.W.mg_of X G a30
  have F31 := fun_mk (st := s_L_ways) l31 c31 k31
  have b31 := F31.binds (ps := ["_law_words_here", "_law_ties_here", "_law_one"]) fun _ _ _ _ _ _ us hl => match us, hl with | [_, _, _], _ => rfl
  have g31 := PySem.W.mg_of X G a31
  have F32 := fun_mk (st := s_L_first) l32 c32 k32
  have b32 := F32.binds (ps := ["_law_found", "_law_two"]) fun _ _ _ _ _ _ us hl => match us, hl with | [_, _], _ => rfl
  have g32 := PySem.W.mg_of X G a32
  have F33 := fun_mk (st := s_L_agrees) l33 c33 k33
  have b33 := F33.binds (ps := ["_law_made", "_law_one", "_law_two", "_law_best"]) fun _ _ _ _ _ _ us hl => match us, hl with | [_, _, _, _], _ => rfl
  have g33 := PySem.W.mg_of X G a33
  have F34 := fun_mk (st := s_law) l34 c34 k34
  have b34 := F34.binds (ps := ["_law_script"]) fun _ _ _ _ _ _ us hl => match us, hl with | [_], _ => rfl
  have g34 := PySem.W.mg_of X G a34
  have gLET := PySem.W.mg_of X G aL
  refine ⟨PySem.W.fnOf "law" "law" (defArgs s_law) (defBody s_law) (defScope s_law) .none kV34 dc34 pm34 an34 cd34 ct34, fun s v => .of_eq rfl, fun base _ _ => ?_⟩
  have gML := PySem.W.mg_of X G aML
  have gMT := PySem.W.mg_of X G aMT
  have TL : TxtL K C := ⟨⟨pg, hd, po, sa⟩, nA, nB⟩
  have FI : FunD K "__init__" "Links.__init__" (defArgs s_Links_init) (defBody s_Links_init) (defScope s_Links_init) [V.ref EI] [] fI _ := ⟨⟨ocI, odI, .ref TI, kVI, dcI, pmI, anI, cdI, ctI, slI, rfl, lI, cI, .inr ⟨by simp, TI, _, [Value.ref EI], nD, rfl, lTI, rfl, .cons rfl .nil⟩, .inl rfl⟩, kI⟩
  obtain ⟨dsI, vdI, bI⟩ := FI.binds1 (ps := ["self", "names", "links"]) 3 1 (by simp) rfl fun _ _ _ _ _ _ _ us its h1 h2 => match us, h1, its, h2 with | [_, _, _], _, [_], _ => ⟨_, rfl, rfl⟩
  cases (show Vals [] dsI from vdI)
  have M : Mk K C fI := ⟨mk, aI, iI, kc⟩
  have FN := fun_mk (st := s_Links_len) lN cN kN
  have bN := FN.binds (ps := ["self"]) fun _ _ _ _ _ _ us hl => match us, hl with | [_], _ => rfl
  have On : Own K C "__len__" fN := ⟨aN, iN⟩
  have FT := fun_mk (st := s_Links_iter) lT cT kT
  have bT := FT.binds (ps := ["self"]) fun _ _ _ _ _ _ us hl => match us, hl with | [_], _ => rfl
  have Oi : Own K C "__iter__" fT := ⟨aT, iT⟩
  have Ii := ok_Links_iter (P := l.prog) (w := w) (mg := mg) (base := base) FT bT TL m_iter
  have m_super := PySem.W.mg_none_of X G z_super
  have KeN : ClsK K CeN := ⟨iseN, tyeN⟩
  have TeN : SupT l.prog w K mg base "NoLink" "number" "number" (fun _ => True) CeN feN _ := ⟨PySem.W.mg_of X G aeN, oexC_mk lceN rfeN saeN bxeN tyeN kceN, ibeN, tfeNx, fn_sup (k := 0) (okv := fun _ => True) leN cbeN hceN hveN hfeN hleN (nscope_by (by decide +kernel)) (by decide +kernel) rfl rfl htopS m_super (oexC_mk lceN rfeN saeN bxeN tyeN kceN) hmeN hstS aleN veeN noeN
    (fun A outer s H E => pa_cons pe_str pa_nil) (fun _ => rfl) (fun a y H Q _ h => h _) (by decide) (by decide) (fun _ => rfl), Binds.all (fun us hl => match us, hl with | [_, _], _ => rfl), ⟨gaeN, ggeN, bxeN, hdeN⟩, noeN, exm_self KeN bxeN sueN⟩
  have EeN : ExcC K CeN := ⟨gaeN, ggeN, bxeN, hdeN, cceNx, hgt, htk, moeN⟩

  have d_is_name : Def l.prog w K mg base "is_name" 1 ["word"] (spIsName) := ⟨_, _, ok_is_name F1 m_len m_all gLET, g1, k1, b1⟩
  have d_check_size : Def l.prog w K mg base "check_size" 1 ["size", "low", "high"] (spRange) := ⟨_, _, ok_check_size F2 , g2, k2, b2⟩
  have d_check_range : Def l.prog w K mg base "check_range" 1 ["number", "low", "high"] (spRange) := ⟨_, _, ok_check_range F3 , g3, k3, b3⟩
  obtain ⟨dsN, vdN, bdN⟩ := F4.binds1 (ps := ["names", "most", "hook"]) 2 0 (by simp) rfl fun _ _ _ _ _ _ _ us its h1 h2 => match us, h1, its, h2 with | [_, _], _, [_], _ => ⟨_, rfl, rfl⟩
  have d_check_names : DefD l.prog w K mg base "check_names" 2 ["names", "most", "hook"] (spCheckN K) [.bl false] := ⟨_, _, dsN, ok_check_names F4 m_len m_enumerate d_check_size d_is_name, g4, k4, bdN, vdN⟩
  have d_check_known : Def l.prog w K mg base "check_known" 1 ["names", "known"] (spKnown K) := ⟨_, _, ok_check_known F5 , g5, k5, b5⟩
  have d_plus : Def l.prog w K mg base "plus" 1 ["price", "other"] (spPlus) := ⟨_, _, ok_plus F6 , g6, k6, b6⟩
  have d_least : Def l.prog w K mg base "least" 1 ["prices"] (spLeast K) := ⟨_, _, ok_least F7 m_min, g7, k7, b7⟩


  have d_check_links : Def l.prog w K mg base "_check_links" 2 ["names", "links"] (spCheckL K) := ⟨_, _, ok_check_links F10 m_len gML gMT d_check_size d_check_range d_check_known, g10, k10, b10⟩

  have G_len := ok_Links_len (P := l.prog) (w := w) (mg := mg) (base := base) FN TL m_len
  have G_is_way := ok_is_way (P := l.prog) (w := w) (mg := mg) (base := base) F12 TL m_len On G_len bN d_check_known
  have d_is_way : Def l.prog w K mg base "is_way" 3 ["links", "giver", "taker", "numbers"] (spIsWay K C) := ⟨_, _, G_is_way, g12, k12, b12⟩
  have kb_iw : KB K _ ["links", "giver", "taker", "numbers"] 0 ["links", "giver", "taker", "numbers"] [0, 1, 2, 3] := fun_kbn F12 0 ["links", "giver", "taker", "numbers"] [0, 1, 2, 3] fun _ _ _ _ _ _ us ws h1 h2 => match us, h1, ws, h2 with | [], _, [_, _, _, _], _ => rfl
  have g_iw := g12
  have k_iw := k12
  have G_check_numbers := ok_check_numbers (P := l.prog) (w := w) (mg := mg) (base := base) F11 TeN m_len On G_len bN
  have G_way_toll := ok_way_toll (P := l.prog) (w := w) (mg := mg) (base := base) F13 TL m_sum G_check_numbers g11 k11 b11
  have d_way_toll : Def l.prog w K mg base "way_toll" 5 ["links", "numbers"] (fun vs H Q _ => spWayToll K C CeN vs H Q E0) := ⟨_, _, fn0 G_way_toll, g13, k13, b13⟩
  have d_potentials : Def l.prog w K mg base "potentials" 2 ["links", "givers"] (spPot K C) := ⟨_, _, ok_potentials F16 TL Oi Ii d_check_known d_plus d_least, g16, k16, b16⟩
  have d_least_toll : Def l.prog w K mg base "least_toll" 3 ["links", "giver", "taker"] (spLeastToll C) := ⟨_, _, ok_least_toll F14 TL d_check_known d_potentials, g14, k14, b14⟩
  have d_cost_through : Def l.prog w K mg base "_cost_through" 1 ["costs", "end", "toll"] (spThr) := ⟨_, _, ok_cost_through F18 , g18, k18, b18⟩
  have d_costs_to : Def l.prog w K mg base "_costs_to" 2 ["links", "taker"] (spCosts C) := ⟨_, _, ok_costs_to F17 TL Oi Ii d_cost_through, g17, k17, b17⟩
  have d_first_link : Def l.prog w K mg base "_first_link" 4 ["links", "costs", "holder"] (spFirstL C) := ⟨_, _, ok_first_link F19 TL m_enumerate Oi Ii d_cost_through, g19, k19, b19⟩
  have G_fw := ok_first_way (P := l.prog) (w := w) (mg := mg) (base := base) F15 TL d_check_known d_costs_to d_first_link
  have d_first_way : Def l.prog w K mg base "first_way" 5 ["links", "giver", "taker"] (spFirst C) := ⟨_, _, G_fw, g15, k15, b15⟩
  have kb_fw : KB K _ ["links", "giver", "taker"] 0 ["links", "giver", "taker"] [0, 1, 2] := fun_kbn F15 0 ["links", "giver", "taker"] [0, 1, 2] fun _ _ _ _ _ _ us ws h1 h2 => match us, h1, ws, h2 with | [], _, [_, _, _], _ => rfl
  have d_L_cell : Def l.prog w K mg base "_law_cell" 1 ["_law_script", "_law_k"] (spCellA K) := ⟨_, _, ok_L_cell F20 m_len m_range m_abs, g20, k20, b20⟩
  have d_L_mixed : Def l.prog w K mg base "_law_mixed" 1 ["_law_cell_here", "_law_k"] (spMixed) := ⟨_, _, ok_L_mixed F21 m_abs, g21, k21, b21⟩
  have d_L_pool : Def l.prog w K mg base "_law_pool" 2 ["_law_cell_here", "_law_number"] (spPool) := ⟨_, _, ok_L_pool F22 m_range m_abs d_L_mixed, g22, k22, b22⟩
  have d_L_part : Def l.prog w K mg base "_law_part" 1 ["_law_pool_here", "_law_spot", "_law_under", "_law_size"] (spPart K) := ⟨_, _, ok_L_part F23 m_int, g23, k23, b23⟩
  have d_L_names : Def l.prog w K mg base "_law_names" 2 ["_law_pool_here", "_law_spot", "_law_number"] (spNames K) := ⟨_, _, ok_L_names F24 m_range m_int d_L_part, g24, k24, b24⟩
  have d_L_strange : Def l.prog w K mg base "_law_strange" 1 ["_law_words_here"] (spStrange K) := ⟨_, _, ok_L_strange F25 , g25, k25, b25⟩
  have d_L_words : Def l.prog w K mg base "_law_words" 3 ["_law_cell_here", "_law_number"] (spWords) := ⟨_, _, ok_L_words F26 m_range m_abs d_L_names d_L_pool d_L_strange, g26, k26, b26⟩
  have d_L_links : Def l.prog w K mg base "_law_links" 2 ["_law_pool_here", "_law_spot", "_law_words_here", "_law_number"] (spLinks K) := ⟨_, _, ok_L_links F27 m_len m_range d_L_part, g27, k27, b27⟩
  have d_L_ties : Def l.prog w K mg base "_law_ties" 1 ["_law_cell_here", "_law_words_here"] (spTies K) := ⟨_, _, ok_L_ties F28 m_len m_range m_abs, g28, k28, b28⟩
  have d_L_integer : Def l.prog w K mg base "_law_integer" 1 ["_law_got"] (spInteger) := ⟨_, _, ok_L_integer F29 m_isinstance m_int m_bool, g29, k29, b29⟩
  have d_L_same : Def l.prog w K mg base "_law_same" 4 ["_law_got", "_law_wanted"] (spSame 2) := ⟨_, _, ok_L_same F30 g30 b30 ⟨m_isinstance, m_int, m_bool, m_str, m_tuple, m_list, m_len, m_range⟩ d_L_integer 2 (by decide), g30, k30, b30⟩
  have d_L_ways : Def l.prog w K mg base "_law_ways" 1 ["_law_words_here", "_law_ties_here", "_law_one"] (spWays K) := ⟨_, _, ok_L_ways F31 m_list m_range m_len, g31, k31, b31⟩
  have d_L_first : Def l.prog w K mg base "_law_first" 1 ["_law_found", "_law_two"] (spBest K) := ⟨_, _, ok_L_first F32 , g32, k32, b32⟩
  have d_L_agrees : Def l.prog w K mg base "_law_agrees" 6 ["_law_made", "_law_one", "_law_two", "_law_best"] (spAgrees C) := ⟨_, _, ok_L_agrees F33 d_first_way d_L_same d_is_way d_way_toll G_fw g15 k15 kb_fw, g33, k33, b33⟩
  have G_Links := ok_Links (P := l.prog) (w := w) (mg := mg) (base := base) FI TL m_tuple d_check_names d_check_links
  exact ok_law F34 TL m_list m_tuple M G_Links (PySem.W.mg_of X G aC) bI d_L_cell d_L_pool d_L_part d_L_words d_L_links d_L_ties d_L_ways d_L_first d_L_agrees d_least_toll d_L_same
end TK

open PySem PySem.W PyProof.Rows
set_option maxRecDepth 100000 in
set_option maxHeartbeats 0 in
theorem PySem.Challenge.cw_turnsandkeys_k08_whole_first_way_holds : PySem.Challenge.rw_turnsandkeys_k08_whole_first_way.Holds := by
  w_on; o_law; k_head; (case hw => w_witness2)
  k_fill
  refine L2.walk_of (l := PySem.Challenge.rw_turnsandkeys_k08_whole_first_way) (n := 63) (k := 8) (x := "_law_script") (CX := fun _ => L2.CX0) (sp := fun w => TK.spLaw _) rfl (by decide) rfl ⟨rfl, by decide, by decide⟩ (fun w h Y => PySem.W.kIn_of Y) ?F (fun _ _ a ns hl _ hS => ⟨a, ns, rfl, hS, hl, fun _ => rfl⟩) (fun _ _ _ _ _ h => h)
  case F =>
    intro w mg fa h KX G hmg
    refine' TK.all_mk KX G hmg ?a0 ?l0 ?c0 ?k0 ?a1 ?l1 ?c1 ?k1 ?a2 ?l2 ?c2 ?k2 ?a3 ?l3 ?c3 ?k3 ?a4 ?l4 ?c4 ?k4 ?a5 ?l5 ?c5 ?k5 ?a6 ?l6 ?c6 ?k6 ?a7 ?l7 ?c7 ?k7 ?a8 ?l8 ?c8 ?k8 ?a9 ?l9 ?c9 ?k9 ?a10 ?l10 ?c10 ?k10 ?a11 ?l11 ?c11 ?k11 ?a12 ?l12 ?c12 ?k12 ?a13 ?l13 ?c13 ?k13 ?a14 ?l14 ?c14 ?k14 ?a15 ?l15 ?c15 ?k15 ?a16 ?l16 ?c16 ?k16 ?a17 ?l17 ?c17 ?k17 ?a18 ?l18 ?c18 ?k18 ?a19 ?l19 ?c19 ?k19 ?a20 ?l20 ?c20 ?k20 ?a21 ?l21 ?c21 ?k21 ?a22 ?l22 ?c22 ?k22 ?a23 ?l23 ?c23 ?k23 ?a24 ?l24 ?c24 ?k24 ?a25 ?l25 ?c25 ?k25 ?a26 ?l26 ?c26 ?k26 ?a27 ?l27 ?c27 ?k27 ?a28 ?l28 ?c28 ?k28 ?a29 ?l29 ?c29 ?k29 ?a30 ?l30 ?c30 ?k30 ?a31 ?l31 ?c31 ?k31 ?a32 ?l32 ?c32 ?k32 ?a33 ?l33 ?c33 ?k33 ?a34 ?l34 ?c34 ?k34 ?aL ?z_len ?z_all ?z_enumerate ?z_tuple ?z_list ?z_range ?z_abs ?z_int ?z_min ?z_isinstance ?z_bool ?z_str ?z_iter ?z_sum ?aML ?aMT ?aC ?aI ?iI ?lI ?cI ?kI ?aN ?iN ?lN ?cN ?kN ?aT ?iT ?lT ?cT ?kT ?lTI ?lDN ?pg ?hd ?po ?sa ?mk ?kc ?nA ?nB ?hgt ?htk ?htopS ?z_super ?hstS ?aeN ?ibeN ?leN ?cbeN ?hceN ?hveN ?hfeN ?hleN ?lceN ?rfeN ?saeN ?bxeN ?tyeN ?kceN ?hmeN ?aleN ?veeN ?noeN ?tfeNx ?gaeN ?ggeN ?hdeN ?cceNx ?moeN ?iseN ?sueN
    (case a0 => k_is); (case l0 => k_is); (case c0 => k_is); (case k0 => k_is); (case a1 => k_is); (case l1 => k_is); (case c1 => k_is); (case k1 => k_is); (case a2 => k_is); (case l2 => k_is); (case c2 => k_is); (case k2 => k_is); (case a3 => k_is); (case l3 => k_is); (case c3 => k_is); (case k3 => k_is); (case a4 => k_is); (case l4 => k_is); (case c4 => k_is); (case k4 => k_is); (case a5 => k_is); (case l5 => k_is); (case c5 => k_is); (case k5 => k_is); (case a6 => k_is); (case l6 => k_is); (case c6 => k_is); (case k6 => k_is); (case a7 => k_is); (case l7 => k_is); (case c7 => k_is); (case k7 => k_is); (case a8 => k_is); (case l8 => k_is); (case c8 => k_is); (case k8 => k_is); (case a9 => k_is); (case l9 => k_is); (case c9 => k_is); (case k9 => k_is); (case a10 => k_is); (case l10 => k_is); (case c10 => k_is); (case k10 => k_is); (case a11 => k_is); (case l11 => k_is); (case c11 => k_is); (case k11 => k_is); (case a12 => k_is); (case l12 => k_is); (case c12 => k_is); (case k12 => k_is); (case a13 => k_is); (case l13 => k_is); (case c13 => k_is); (case k13 => k_is); (case a14 => k_is); (case l14 => k_is); (case c14 => k_is); (case k14 => k_is); (case a15 => k_is); (case l15 => k_is); (case c15 => k_is); (case k15 => k_is); (case a16 => k_is); (case l16 => k_is); (case c16 => k_is); (case k16 => k_is); (case a17 => k_is); (case l17 => k_is); (case c17 => k_is); (case k17 => k_is); (case a18 => k_is); (case l18 => k_is); (case c18 => k_is); (case k18 => k_is); (case a19 => k_is); (case l19 => k_is); (case c19 => k_is); (case k19 => k_is); (case a20 => k_is); (case l20 => k_is); (case c20 => k_is); (case k20 => k_is); (case a21 => k_is); (case l21 => k_is); (case c21 => k_is); (case k21 => k_is); (case a22 => k_is); (case l22 => k_is); (case c22 => k_is); (case k22 => k_is); (case a23 => k_is); (case l23 => k_is); (case c23 => k_is); (case k23 => k_is); (case a24 => k_is); (case l24 => k_is); (case c24 => k_is); (case k24 => k_is); (case a25 => k_is); (case l25 => k_is); (case c25 => k_is); (case k25 => k_is); (case a26 => k_is); (case l26 => k_is); (case c26 => k_is); (case k26 => k_is); (case a27 => k_is); (case l27 => k_is); (case c27 => k_is); (case k27 => k_is); (case a28 => k_is); (case l28 => k_is); (case c28 => k_is); (case k28 => k_is); (case a29 => k_is); (case l29 => k_is); (case c29 => k_is); (case k29 => k_is); (case a30 => k_is); (case l30 => k_is); (case c30 => k_is); (case k30 => k_is); (case a31 => k_is); (case l31 => k_is); (case c31 => k_is); (case k31 => k_is); (case a32 => k_is); (case l32 => k_is); (case c32 => k_is); (case k32 => k_is); (case a33 => k_is); (case l33 => k_is); (case c33 => k_is); (case k33 => k_is); (case a34 => k_is); (case l34 => k_is); (case c34 => k_is); (case k34 => k_is); (case aL => k_is); (case z_len => k_is); (case z_all => k_is); (case z_enumerate => k_is); (case z_tuple => k_is); (case z_list => k_is); (case z_range => k_is); (case z_abs => k_is); (case z_int => k_is); (case z_min => k_is); (case z_isinstance => k_is); (case z_bool => k_is); (case z_str => k_is); (case z_iter => k_is); (case z_sum => k_is); (case aML => k_is); (case aMT => k_is); (case aC => k_is); (case aI => k_is); (case iI => k_is); (case lI => k_is); (case cI => k_is); (case kI => k_is); (case aN => k_is); (case iN => k_is); (case lN => k_is); (case cN => k_is); (case kN => k_is); (case aT => k_is); (case iT => k_is); (case lT => k_is); (case cT => k_is); (case kT => k_is); (case lTI => k_is); (case lDN => k_is); (case pg => k_is); (case hd => k_is); (case po => k_is); (case sa => k_is); (case mk => k_is); (case kc => k_is); (case nA => k_is); (case nB => k_is); (case hgt => k_is); (case htk => k_is); (case htopS => first | rfl | decide +kernel); (case z_super => k_is); (case hstS => k_is); (case aeN => k_is); (case ibeN => k_is); (case leN => k_is); (case cbeN => k_is); (case hceN => k_is); (case hveN => first | rfl | k_is); (case hfeN => first | rfl | decide +kernel); (case hleN => k_is); (case lceN => k_is); (case rfeN => first | rfl | decide +kernel); (case saeN => k_is); (case bxeN => k_is); (case tyeN => k_is); (case kceN => k_is); (case hmeN => k_is); (case aleN => first | k_is | rfl | kernel_rfl); (case veeN => k_is); (case noeN => k_is); (case tfeNx => k_is); (case gaeN => k_is); (case ggeN => k_is); (case hdeN => k_is); (case cceNx => k_is); (case moeN => k_is); (case iseN => k_is); (case sueN => k_is)
