import PyProof.Rows.All
import Wide.All
import OpenK.AllK
import Wide.FinOn
import HandS.ForMost
import HandS.ForExc
import HandS.Steps
import HandS.IsInst
import HandS.TupMul
import HandS.RevRange
import HandS.DictComp
import HandS.FStr
import HandS.SortInts
import HandS.More
import HandS.Conv
import HandS.ListEq
import HandS.Evl
import KE.GoesEnum
import HandS.Iter
import HandS.Walk
import KE.GoesEnumKw
import HandS.SortKw
import HandS.TryMany
import HandS.ExcOwn
import PySem.Challenge.RW_fademill_k11_whole_texts
import HandS.TupSets
import HandS.RaiseMore
import HandS.Zip
import KE.KExcSuper
import HandS.ExcInit
import PyProof.FString2
import KE.GoesMore
import HandS.Style
import HandS.TupAny
import HandS.Lambda
import KE.KDflt
import KE.KNestM
import HandS.Deep
import HandS.EndTab
set_option Elab.async false
set_option linter.all false
set_option maxRecDepth 100000
set_option maxHeartbeats 1000000
namespace Fm
open PySem L2
/-! own lemmas over the layer -/
theorem st_if {c : TT} {t1 t2 : TS} {D : Ends} {σ : L2.St} {H : Hp} {b : Bool} (h : Ans c σ H b) (y : b = true → t1 D σ H) (n : b = false → t2 D σ H) : tIfS c t1 t2 D σ H := by
  cases b with
  | true => exact st_yes h (y rfl)
  | false => exact st_no h (n rfl)
/-- an item of a list, a tuple, a text, none of which changes -/
theorem val_ixL {K : PySem.W.Frag} {ta tb : TE} {σ : L2.St} {H : Hp} {p : Addr} {xs : List V} {i : Int} {v : V} (ha : Val ta σ H (.ref p)) (hb : Val tb σ H (.int i)) (h : SqL K H p xs) (e : atI xs i = some v) : Val (tOp (rIx K) ta tb) σ H v :=
  val_op ha hb fun _ q => .inl ⟨p, xs, i, v, rfl, rfl, h, e, q⟩
theorem val_ixT {K : PySem.W.Frag} {ta tb : TE} {σ : L2.St} {H : Hp} {p : Addr} {xs : List V} {i : Int} {v : V} (ha : Val ta σ H (.ref p)) (hb : Val tb σ H (.int i)) (h : SqT K H p xs) (e : atI xs i = some v) : Val (tOp (rIx K) ta tb) σ H v :=
  val_op ha hb fun _ q => .inr (.inl ⟨p, xs, i, v, rfl, rfl, h, e, q⟩)
theorem val_i0 {g : Int → Int → V} {ta tb : TE} {σ : L2.St} {H : Hp} {i j : Int} (ha : Val ta σ H (.int i)) (hb : Val tb σ H (.int j)) : Val (tOp (rI0 g) ta tb) σ H (g i j) := val_op ha hb fun _ q => ⟨i, j, rfl, rfl, q⟩
theorem val_i {C : Int → Int → Prop} {g : Int → Int → V} {ta tb : TE} {σ : L2.St} {H : Hp} {i j : Int} (ha : Val ta σ H (.int i)) (hb : Val tb σ H (.int j)) (c : C i j) : Val (tOp (rI C g) ta tb) σ H (g i j) := val_op ha hb fun _ q => ⟨i, j, rfl, rfl, c, q⟩
theorem ans_i0 {g : Int → Int → Bool} {ta tb : TE} {σ : L2.St} {H : Hp} {i j : Int} (ha : Val ta σ H (.int i)) (hb : Val tb σ H (.int j)) : Ans (tTest (tOp (rI0 fun i j => .bl (g i j)) ta tb)) σ H (g i j) := fun _ q => ha _ (hb _ ⟨i, j, rfl, rfl, _, rfl, q⟩)
theorem st_asg {te : TE} {i : Nat} {v : V} {t2 : TS} {D : Ends} {σ : L2.St} {H : Hp} (h : Val te σ H v) (q : t2 D (σ.set i (some v)) H) : tSeq (tAsg te (gName i)) t2 D σ H := h _ q
theorem st_setL {te to ti : TE} {t2 : TS} {D : Ends} {σ : L2.St} {H : Hp} {v : V} {l : Addr} {xs : List V} {k : Int} {j : Nat} (h : Val te σ H v) (ho : Val to σ H (.ref l)) (hi : Val ti σ H (.int k)) (hl : H l = some (.lst xs)) (hj : ixN xs.length k = some j)
    (q : t2 D σ (upd H l (.lst (xs.set j v)))) : tSeq (tAsg te (gSub to ti rSetL)) t2 D σ H := h _ (ho _ (hi _ ⟨l, xs, k, j, rfl, rfl, hl, hj, q⟩))
theorem st_setL1 {te to ti : TE} {D : Ends} {σ : L2.St} {H : Hp} {v : V} {l : Addr} {xs : List V} {k : Int} {j : Nat} (h : Val te σ H v) (ho : Val to σ H (.ref l)) (hi : Val ti σ H (.int k)) (hl : H l = some (.lst xs)) (hj : ixN xs.length k = some j)
    (q : D.nx σ (upd H l (.lst (xs.set j v)))) : tAsg te (gSub to ti rSetL) D σ H := h _ (ho _ (hi _ ⟨l, xs, k, j, rfl, rfl, hl, hj, q⟩))
theorem val_int1 {ta : TE} {σ : L2.St} {H : Hp} {i : Int} (ha : Val ta σ H (.int i)) : Val (tCB (fun xs H Q => (∃ i, xs = [.int i] ∧ Q (.int i) H) ∨ ∃ k, xs = [.bl k] ∧ Q (.int (if k then 1 else 0)) H) (tCons ta tNil)) σ H (.int i) := fun _ q => ha _ (.inl ⟨i, rfl, q⟩)
theorem val_lenX {K : PySem.W.Frag} {ta : TE} {σ : L2.St} {H : Hp} {x : V} {n : Nat} (ha : Val ta σ H x) (h : LenV K x H n) : Val (tCB (fun xs H Q => ∃ x n, xs = [x] ∧ LenV K x H n ∧ Q (.int n) H) (tCons ta tNil)) σ H (.int n) := fun _ q => ha _ ⟨x, n, rfl, h, q⟩
theorem val_lenS {K : PySem.W.Frag} {ta : TE} {σ : L2.St} {H : Hp} {p : Addr} {xs : List V} (ha : Val ta σ H (.ref p)) (h : SqL K H p xs ∨ SqT K H p xs) : Val (tCB (fun xs H Q => ∃ p ys, xs = [.ref p] ∧ (SqL K H p ys ∨ SqT K H p ys) ∧ Q (.int ys.length) H) (tCons ta tNil)) σ H (.int xs.length) := fun _ q => ha _ ⟨p, xs, rfl, h, q⟩
end Fm
namespace Fm
open PySem L2
/-! the rules, the written part told by name (a comprehension's block has another context, the same written part) -/
section
variable {X : Cx} {K : PySem.W.Frag}
theorem ix_K (h : X.K = K) : IxR X (rIx K) := h ▸ ix_seq
theorem len_K (h : X.K = K) : CallR X (.builtin "len") (fun xs H Q => ∃ x n, xs = [x] ∧ LenV K x H n ∧ Q (.int n) H) := h ▸ call_len
theorem isi_K (h : X.K = K) : CallR X (.builtin "isinstance") (rIsi K) := h ▸ call_isi
theorem isiT_K (h : X.K = K) : CallR X (.builtin "isinstance") (rIsiT K) := h ▸ call_isiT
theorem tpl_K (h : X.K = K) : CallR X (.type "tuple") (fun xs H Q => ∃ p ys, xs = [.ref p] ∧ ((SqL K H p ys ∧ ∀ l, H l = none → Q (.ref l) (upd H l (.tup ys))) ∨ (SqT K H p ys ∧ Q (.ref p) H))) := h ▸ call_tuple_of
theorem ls_K (h : X.K = K) : CallR X (.type "list") (fun xs H Q => ∃ p ys, xs = [.ref p] ∧ (SqL K H p ys ∨ SqT K H p ys) ∧ ∀ l, H l = none → Q (.ref l) (upd H l (.lst ys))) := h ▸ call_list_of
theorem any_K (h : X.K = K) (hc : X.calm = true) : CallR X (.builtin "any") (rAny K) := h ▸ cr_any hc
theorem all_K (h : X.K = K) (hc : X.calm = true) : CallR X (.builtin "all") (rAll K) := h ▸ cr_all hc
theorem in_K (h : X.K = K) : OpR X (compareOp .In) (rIn K false) := h ▸ op_in_seq
theorem nin_K (h : X.K = K) : OpR X (compareOp .NotIn) (rIn K true) := h ▸ op_notIn_seq
theorem eqD_K (h : X.K = K) (hu : X.A.units + 64 < cLine) : OpR X (compareOp .Eq) (rEqD K) := h ▸ op_eqD hu
theorem neD_K (h : X.K = K) (hu : X.A.units + 64 < cLine) : OpR X (compareOp .NotEq) (rNeD K) := h ▸ op_neD hu
theorem sorted_K (h : X.K = K) : CallR X (.builtin "sorted") (rSortedI K) := h ▸ cr_sortedI
theorem max_K (h : X.K = K) (hc : X.calm = true) : CallR X (.builtin "max") (rMax K) := h ▸ (cr_max hc)
theorem min_K (h : X.K = K) (hc : X.calm = true) : CallR X (.builtin "min") (rMin K) := h ▸ (cr_min hc)
theorem sum_K (h : X.K = K) (hc : X.calm = true) : CallR X (.builtin "sum") (rSum K) := h ▸ (cr_sum hc)
theorem sll_K (h : X.K = K) : SlR X (rSlL K) := h ▸ sl_list
theorem slt_K (h : X.K = K) : SlR X (rSlT K) := h ▸ sl_tup
theorem catT_K (h : X.K = K) : OpR X (binaryOp .Add) (rCatT K) := h ▸ op_catT
theorem repT_K (h : X.K = K) : OpR X (binaryOp .Mult) (rRepT K) := h ▸ op_repT
theorem pi_listK {tg l : Expr} {tl : TE} (h : X.K = K) (hl : PE X l tl) : PI X tg l (iList K tl) := h ▸ pi_list hl
theorem pi_tupK {tg l : Expr} {tl : TE} (h : X.K = K) (hl : PE X l tl) : PI X tg l (iTup K tl) := h ▸ pi_tup hl
theorem pt_truthK {a : Expr} {ta : TE} (h : X.K = K) (ha : PE X a ta) (he : ∀ whole, isTrue a X.env whole = (do let v ← whole; standAt a.pos; holding [v] (truthy v))) : PT X a (fun σ H Q => ta σ H fun x H' => ∃ k, TruV K x H' k ∧ Q k H') := h ▸ pt_truth ha he
end
end Fm
set_option Elab.async false
set_option linter.all false
set_option maxRecDepth 100000
set_option maxHeartbeats 1000000
namespace Fm
open PySem PySem.Spec PyProof.Rows L2
/-! enumerate over a tuple -/
theorem meets_enum1 {v : Value} {o : Obj} {G : Heap → Prop} (B : Begins v o G) :
    Meets (Builtin.«enumerate.__new__» ⟨[.type "enumerate", v], []⟩) (fun _ R s => G s.heap ∧
      R (.ok (.ret (.ref (s.heap.push o).objs.size))) { s with heap := (s.heap.push o).push { cls := .type "enumerate", data := .fields #[.none, .bool false, .ref s.heap.objs.size, rawInt 0, .none, .none] } }) :=
  .of_wp fun prog w A R s h => by
    obtain ⟨hp, g, d, tk, os⟩ := s; have h1 := h.1; have h2 := h.2
    have hsub := sub_enumerate
    have q1 : ∀ {A' : Around} {E : Value → Shared → Prop} {Q : Value → Shared → Prop}, Q (.ref hp.objs.size) ⟨hp.push o, g, d, tk, os⟩ → wpAny (model prog w) A' (pyIter v) Q E ⟨hp, g, d, tk, os⟩ :=
      fun q => B.iter prog w _ _ ⟨hp, g, d, tk, os⟩ _ h1 q
    wp_walk using q1
    refine wpAny_stack_any fun st => wpAny_pure ?_
    split
    · rename_i c _ _ _ _ _
      cases (c == Value.type "enumerate") <;> (wp_walk using q1; exact ⟨_, rfl, h2⟩)
    · wp_walk using q1; exact ⟨_, rfl, h2⟩
section
variable {prog : Program} {w : World} {A : Around} {E : Value → Shared → Prop} {s : Shared}
theorem call_enum_tup {a : Addr} {its : Array Value} {Q : Value → Shared → Prop} (hL : s.heap.IsTuple a its)
    (h : ∀ h', IsEnum h' (s.heap.objs.size + 1) s.heap.objs.size 0 .none → h'.IsTupleIter s.heap.objs.size a 0 → (∀ b o, s.heap.get? b = some o → h'.get? b = some o) → Q (.ref (s.heap.objs.size + 1)) { s with heap := h' }) :
    wpAny (model prog w) A (call (.type "enumerate") [.ref a]) Q E s := by
  refine callType_new F.called_enumerate (by decide) (F.typeCall_enumerate_1 _) (F.newCall_enumerate_1 _) (fun obj => F.args_object_init_2 obj _) F.entry_enumerate_new (meets_enum1 (begins_tuple a its)) ⟨hL, ?_⟩
  have hz : (s.heap.push { cls := .type "tuple_iterator", data := .fields #[.ref a, .int 0 0] }).objs.size = s.heap.objs.size + 1 := Heap.size_push ..
  rw [hz]
  have he : IsEnum ((s.heap.push { cls := .type "tuple_iterator", data := .fields #[.ref a, .int 0 0] }).push { cls := .type "enumerate", data := .fields #[.none, .bool false, .ref s.heap.objs.size, rawInt 0, .none, .none] }) (s.heap.objs.size + 1) s.heap.objs.size 0 .none := by
    have y := Heap.get?_push_size (s.heap.push { cls := .type "tuple_iterator", data := .fields #[.ref a, .int 0 0] }) (o := { cls := .type "enumerate", data := .fields #[.none, .bool false, .ref s.heap.objs.size, rawInt 0, .none, .none] }) rfl
    rw [hz] at y; exact y
  exact ⟨⟨_, he, rfl⟩, h _ he ⟨_, Heap.get?_push_of_some _ (Heap.get?_push_size _ rfl), rfl, rfl⟩ fun b o x => Heap.get?_push_of_some _ (Heap.get?_push_of_some _ x)⟩
end
def Itet (K : PySem.W.Frag) (a : Addr) : It :=
  ⟨fun i H => ∃ (xs : List V) (x : V), SqT K H a xs ∧ xs[i]? = some x, fun i H v H' => ∃ T x, v = .ref T ∧ H T = none ∧ H' = upd H T (.tup [.int (i : Nat), x]) ∧ ∀ xs, SqT K H a xs → xs[i]? = some x, fun i H => ∃ xs : List V, SqT K H a xs ∧ xs.length = i⟩
theorem turn_enumT {P : Program} {w : World} {K : PySem.W.Frag} {elts : List Expr} {kk : Nat} {tpos : Pos} (a e it : Addr) (hat : a ≠ it) :
    Turn P w K (.Tuple elts kk tpos) (Itet K a) [e, it] e (fun i h => (∃ old, IsEnum h e it ((i : Nat) : Int) old) ∧ h.IsTupleIter it a i ∧ e ≠ it ∧ e ≠ a) where
  mem := by simp
  obj := fun i h st b hb => by
    obtain ⟨⟨old, he⟩, ⟨o, ho, hc, hd⟩, _⟩ := st
    rcases (show b = e ∨ b = it by simpa using hb) with z | z
    · rw [z]; exact ⟨_, he, fun v q => nomatch q⟩
    · rw [z]; exact ⟨o, ho, fun v q => by rw [hd] at q; cases q⟩
  keep := fun i h h' st k => let ⟨⟨old, he⟩, hi, hne⟩ := st; ⟨⟨old, k e (by simp) _ he⟩, hi.at fun o q => k it (by simp) o q, hne⟩
  item := by
    intro X hP hw hK hc i pins s σ H E I hf st hg
    subst hP hw hK
    obtain ⟨⟨old, he⟩, hit, hne, hea⟩ := st
    obtain ⟨xs, x, hq, hx⟩ := hg
    obtain ⟨its, rv, p, hz⟩ := I.tuple hq
    obtain ⟨u, hu, ru⟩ := rv.get hx
    have p' : s.heap.IsTuple a its.toArray := p
    have hel : e < s.heap.objs.size := Heap.lt_size he
    have hil : it < s.heap.objs.size := by obtain ⟨_, q, _⟩ := hit; exact Heap.lt_size q
    have hil2 : i < its.toArray.size := by
      have := (List.getElem?_eq_some_iff.mp hu).1
      simpa using this
    refine wpAny_pyNext_enum_itemC (Draws.tuple (A := X.A.in1) (I.ok.hd hc) it a hat its.toArray) he ⟨hit, p'⟩ hil2 hne (by simp [hne, hea]) fun x2 h' tk hP2 ho hst' hT hsz hk => ?_
    have ex2 : x2 = u := by
      have q : its.toArray[i]? = some x2 := hP2
      rw [List.getElem?_toArray, hu] at q
      exact (Option.some.inj q).symm
    subst ex2
    refine ⟨_, rfl, wpAny_letOwnedTupleGo_enum (s := { s with heap := h', toks := tk + 1 }) ho fun h'' he' sb => ?_⟩
    have hT2 : h''.get? s.heap.objs.size = some { cls := .type "tuple", data := .seq #[.int i tk, x2] } := (sb.2 _ (Nat.ne_of_gt hel)).trans hT
    have new : ObjOk X.prog X.w (upd H s.heap.objs.size (.tup [.int (i : Nat), x])) h'' s.heap.objs.size (.tup [.int (i : Nat), x]) :=
      ⟨by show 2 ≤ sizeLine; decide, [.int i tk, x2], .cons ⟨_, rfl⟩ (.cons ru .nil), ⟨_, hT2, rfl, _, rfl⟩⟩
    have I1 : Inv X pins σ (upd H s.heap.objs.size (.tup [.int (i : Nat), x])) { s with heap := h'', toks := tk + 1 } :=
      I.turnedNew (ch := [e, it]) (fun b ob hb q => (sb.2 b (fun z => hb (by simp [z]))).trans (hk b ob (fun z => hb (by simp [z])) (fun z => hb (by simp [z])) q)) hf (Nat.le_refl _) new
    refine ⟨.ref s.heap.objs.size, _, I1, rfl, ⟨_, x, rfl, I.hok.fresh (Nat.le_refl _), rfl, fun ys hy => by rw [I.tuple_inj hy hq]; exact hx⟩, ⟨⟨x2, ?_⟩, hst'.1.at fun o q => (sb.2 it (Ne.symm hne)).trans q, hne, hea⟩, fun b hb => ?_⟩
    · have e1 : ((i + 1 : Nat) : Int) = (i : Int) + 1 := by omega
      rw [e1]; exact he'
    · have hb' : b < s.heap.objs.size := by
        rcases (show b = e ∨ b = it by simpa using hb) with z | z
        · rw [z]; exact hel
        · rw [z]; exact hil
      rw [upd_ne (Nat.ne_of_lt hb')]
      exact (hf b hb).1
  done := by
    intro X hP hw hK hc i pins s σ H E I hf st hg
    subst hP hw hK
    obtain ⟨⟨old, he⟩, hit, hne, hea⟩ := st
    obtain ⟨xs, hq, hx⟩ := hg
    obtain ⟨its, rv, p, hz⟩ := I.tuple hq
    have p' : s.heap.IsTuple a its.toArray := p
    obtain ⟨f0, f1, f2, f3, f4, f5⟩ := hf it (by simp)
    have hl := rv.length
    have hsz : its.toArray.size = i := by
      rw [List.size_toArray]
      omega
    refine wpAny_pyNext_enum_endD (Draws.tuple (A := X.A.in1) (I.ok.hd hc) it a hat its.toArray) he ⟨by rw [hsz]; exact hit, p'⟩ fun h' eb => ⟨rfl, I.turned (t' := s.toks) (fun b o hb q => eb b o hb q) f0 f1 f3 f4 f5⟩
  self := fun A i s Q E st h => let ⟨⟨_, he⟩, _⟩ := st; wpAny_pyIter_enum he h
def iEnumT (K : PySem.W.Frag) (ta : TA) : TI := fun σ H R => ta σ H fun vs H1 => ∃ a xs, vs = [.ref a] ∧ SqT K H1 a xs ∧ R (Itet K a) H1
theorem pi_enumT {X : Cx} {e : Expr} {ta : TA} {p pos tpos : Pos} {elts : List Expr} {kk : Nat} (hg : Gl X "enumerate") (hm : X.mg "enumerate" = none) (ha : PA X [e] ta) (hs : starEach [e] X.env = [(false, eval e X.env)] := by rfl) :
    PI X (.Tuple elts kk tpos) (.Call (.Name "enumerate" p) [e] [] pos) (iEnumT X.K ta) := by
  refine ⟨fun pins s σ H R I h => ?_⟩
  refine Call_ (ld_blt I hg hm boot_enumerate (PyProof.Rows.callWith_type1 (thn (ha.run pos pins s σ H _ I h) fun us s1 ⟨vs, H1, I1, r1, q1⟩ => ?_) hs rfl))
  obtain ⟨a, xs, ex, hq, q⟩ := q1
  subst ex
  cases r1 with
  | cons r rr =>
    cases rr
    cases r
    obtain ⟨its, rv, p', hz⟩ := I1.tuple hq
    have p'' : s1.heap.IsTuple a its.toArray := p'
    have hal : a < s1.heap.objs.size := p'.lt
    refine call_enum_tup p'' fun h' he hit hk => wpAny_pyIter_enum he ?_
    have I2 : Inv X pins σ H1 { s1 with heap := h' } := I1.kept (t' := s1.toks) hk
    refine ⟨s1.heap.objs.size + 1, [s1.heap.objs.size + 1, s1.heap.objs.size], _, _, H1, rfl, I2, turn_enumT a (s1.heap.objs.size + 1) s1.heap.objs.size (Nat.ne_of_lt hal), ⟨⟨.none, he⟩, hit, Nat.succ_ne_self _, Nat.ne_of_gt (Nat.lt_succ_of_lt hal)⟩, fun b hb => ?_, q⟩
    have hle : s1.heap.objs.size ≤ b := by
      rcases (show b = s1.heap.objs.size + 1 ∨ b = s1.heap.objs.size by simpa using hb) with z | z
      · rw [z]; exact Nat.le_add_right _ _
      · rw [z]; exact Nat.le_refl _
    exact I1.fpOk hle (I1.hok.fresh hle)
open Evl in
/-- for i, x in enumerate(t), t a tuple; Pv by the turn -/
theorem s_forET {K : PySem.W.Frag} {a : Addr} {xs : List V} {te : TE} {i j : Nat} {tu : TS} {D : Ends} {σ : L2.St} {H : Hp} (h : Ev te σ H (.ref a)) (hx : SqT K H a xs) (Pv : Nat → L2.St → Hp → Prop) (h0 : ∀ H1, Ex H H1 → Pv 0 σ H1)
    (hl : ∀ m σ' H', m ≤ xs.length → Pv m σ' H' → SqT K H' a xs)
    (hs : ∀ m x σ' H', xs[m]? = some x → Pv m σ' H' → ∀ H2, Ex H' H2 → tu { D with nx := Pv (m + 1), ct := Pv (m + 1), bk := D.nx } ((σ'.set i (some (.int (m : Int)))).set j (some x)) H2) (hd : ∀ σ' H', Pv xs.length σ' H' → D.nx σ' H') :
    tFor (iEnumT K (tCons te tNil)) (gTup K 2 (gCons (gName i) (gCons (gName j) gNil))) tu D σ H := h H (Ex.refl H) _ fun H1 e => by
  refine ⟨a, xs, rfl, ex_t e hx, fun m μ σ H => μ = xs.length - m ∧ m ≤ xs.length ∧ Pv m σ H, ⟨xs.length, by simp, Nat.zero_le _, h0 H1 e⟩, ?_⟩
  rintro m μ σ2 H2 ⟨rfl, hm, p⟩
  have q := hl m σ2 H2 hm p
  by_cases hlt : m < xs.length
  · refine .inr ⟨⟨xs, xs[m], q, by simp [hlt]⟩, Pv (m + 1), fun σ' H' p' => ⟨xs.length - (m + 1), by omega, rfl, hlt, p'⟩, ?_⟩
    rintro v H3 ⟨T, x, rfl, hT, rfl, hy⟩
    refine ⟨T, _, rfl, SqT.of upd_same, rfl, _, _, rfl, ?_⟩
    refine ⟨_, _, rfl, ?_⟩
    exact ⟨rfl, hs m x σ2 H2 (hy xs q) p _ (Ex.new hT)⟩
  · have e2 : m = xs.length := by omega
    subst e2
    exact .inl ⟨⟨xs, q, rfl⟩, hd σ2 H2 p⟩
open Evl in
theorem q_forET {K : PySem.W.Frag} {a : Addr} {xs : List V} {te : TE} {i j : Nat} {tu tz : TS} {D : Ends} {σ : L2.St} {H : Hp} (h : Ev te σ H (.ref a)) (hx : SqT K H a xs) (Pv : Nat → L2.St → Hp → Prop) (h0 : ∀ H1, Ex H H1 → Pv 0 σ H1)
    (hl : ∀ m σ' H', m ≤ xs.length → Pv m σ' H' → SqT K H' a xs)
    (hs : ∀ m x σ' H', xs[m]? = some x → Pv m σ' H' → ∀ H2, Ex H' H2 → tu { D with nx := Pv (m + 1), ct := Pv (m + 1), bk := tz D } ((σ'.set i (some (.int (m : Int)))).set j (some x)) H2) (hd : ∀ σ' H', Pv xs.length σ' H' → tz D σ' H') :
    tSeq (tFor (iEnumT K (tCons te tNil)) (gTup K 2 (gCons (gName i) (gCons (gName j) gNil))) tu) tz D σ H := s_forET (D := { D with nx := tz D }) h hx Pv h0 hl hs hd
end Fm
set_option Elab.async false
set_option linter.all false
set_option maxRecDepth 100000
set_option maxHeartbeats 200000
namespace Fm
open PySem PySem.Spec PyProof.Rows L2
/-! a built-in class called with keywords -/
theorem callWith_tyK {M : Model} {A : Around} {E : Value → Shared → Prop} {s : Shared} {env : Env} {pos : Pos} {T : String} {e : Expr} {rest : List Expr} {kws : List Keyword} {ks : List Str} {Q : Value → Shared → Prop}
    (h : wpAny M A (spliced (backTo pos (starEach (e :: rest) env))) (fun vs s1 => wpAny M A (evalAll ((backToKw pos (keywordEach kws env)).map (·.2))) (fun kvs s2 => wpAny M A (call (.type T) vs (ks.zip kvs)) Q E s2) E s1) E s)
    (he : backTo pos (starEach (e :: rest) env) = (false, eval e env) :: backTo pos (starEach rest env)) (hpl : (backTo pos (starEach (e :: rest) env)).any (·.1) = false)
    (hall : (backToKw pos (keywordEach kws env)).all (·.1.isSome) = true) (hnone : (backToKw pos (keywordEach kws env)).any (·.1.isNone) = false) (hks : (backToKw pos (keywordEach kws env)).filterMap (·.1) = ks) :
    wpAny M A (callWith pos (.type T) [] (backTo pos (starEach (e :: rest) env)) (backToKw pos (keywordEach kws env))) Q E s := by
  have h2 : wpAny M A (evalArgs (.type T) true (backTo pos (starEach (e :: rest) env)) (backToKw pos (keywordEach kws env))) (fun a s1 => wpAny M A (call (.type T) ([] ++ a.pos) a.kw) Q E s1) E s := by
    rw [he] at h ⊢
    refine evalArgs_kwB hall ?_
    rw [hks]
    exact h
  unfold callWith
  refine wpAny_bind (wpAny_holding (wpAny_mono h2 (fun a s1 h1 => wpAny_bind (wpAny_standAt ?_)) fun _ _ x => x))
  simp only [hpl, hnone, Bool.or_false]
  refine wpAny_bind (wpAny_pure ?_)
  exact wpAny_bind (wpAny_mono h1 (fun r s2 hr => wpAny_bind (wpAny_holding (wpAny_point (wpAny_pure hr)))) fun _ _ x => x)
/-- a loop over T(e, .., k = ..) -/
theorem pi_tyK {X : Cx} {tg e : Expr} {es : List Expr} {kws : List Keyword} {ks : List Str} {t tk : TA} {x : Str} {T : String} {p pos : Pos} {r : List V → List V → Hp → (It → Hp → Prop) → Prop} (hg : Gl X x) (hm : X.mg x = none) (hv : bootBuiltins x = some (.type T)) (ha : PA X (e :: es) t) (hk : PK X kws tk)
    (hc : ∀ (pins : List (Addr × Obj)) (s : Shared) (σ : L2.St) (H : Hp) (vs zs : List V) (us ws : List Value) (R : It → Hp → Prop), Inv X pins σ H s → Vals vs us → Vals zs ws → r vs zs H R → wpAny (model X.prog X.w) X.A (call (.type T) us (ks.zip ws)) (fun v s1 => wpAny (model X.prog X.w) X.A (pyIter v) (PIE X pins σ tg R) X.xe s1) X.xe s)
    (he : backTo pos (starEach (e :: es) X.env) = (false, eval e X.env) :: backTo pos (starEach es X.env)) (hpl : (backTo pos (starEach (e :: es) X.env)).any (·.1) = false)
    (hall : (backToKw pos (keywordEach kws X.env)).all (·.1.isSome) = true) (hnone : (backToKw pos (keywordEach kws X.env)).any (·.1.isNone) = false) (hks : (backToKw pos (keywordEach kws X.env)).filterMap (·.1) = ks)
    (hn : x ≠ "__name__" := by decide) (hdb : (x == ("__debug__" : Str)) = false := by decide) : PI X tg (.Call (.Name x p) (e :: es) kws pos) (fun σ H R => t σ H fun vs H1 => tk σ H1 fun zs H2 => r vs zs H2 R) := by
  refine ⟨fun pins s σ H R I h => ?_⟩
  refine wpAny_Call_Name_kw (ld_blt I hg hm hv ?_ hn hdb)
  exact callWith_tyK (thn (ha.run pos pins s σ H _ I h) fun us s1 ⟨vs, H1, I1, r1, q1⟩ => thn (hk.run pos pins s1 σ H1 _ I1 q1) fun ws s2 ⟨zs, H2, I2, r2, q2⟩ => hc pins s2 σ H2 vs zs us ws R I2 r1 r2 q2) he hpl hall hnone hks
/-! enumerate with a start, over a tuple | a list -/
def IteST (K : PySem.W.Frag) (c : Int) (a : Addr) : It :=
  ⟨fun i H => ∃ (xs : List V) (x : V), SqT K H a xs ∧ xs[i]? = some x, fun i H v H' => ∃ T x, v = .ref T ∧ H T = none ∧ H' = upd H T (.tup [.int (c + (i : Nat)), x]) ∧ ∀ xs, SqT K H a xs → xs[i]? = some x, fun i H => ∃ xs : List V, SqT K H a xs ∧ xs.length = i⟩
theorem turn_enumST {P : Program} {w : World} {K : PySem.W.Frag} {elts : List Expr} {kk : Nat} {tpos : Pos} (c : Int) (a e it : Addr) (hat : a ≠ it) :
    Turn P w K (.Tuple elts kk tpos) (IteST K c a) [e, it] e (fun i h => (∃ old, IsEnum h e it (c + ((i : Nat) : Int)) old) ∧ h.IsTupleIter it a i ∧ e ≠ it ∧ e ≠ a) where
  mem := by simp
  obj := fun i h st b hb => by
    obtain ⟨⟨old, he⟩, ⟨o, ho, hc, hd⟩, _⟩ := st
    rcases (show b = e ∨ b = it by simpa using hb) with z | z
    · rw [z]; exact ⟨_, he, fun v q => nomatch q⟩
    · rw [z]; exact ⟨o, ho, fun v q => by rw [hd] at q; cases q⟩
  keep := fun i h h' st k => let ⟨⟨old, he⟩, hi, hne⟩ := st; ⟨⟨old, k e (by simp) _ he⟩, hi.at fun o q => k it (by simp) o q, hne⟩
  item := by
    intro X hP hw hK hc i pins s σ H E I hf st hg
    subst hP hw hK
    obtain ⟨⟨old, he⟩, hit, hne, hea⟩ := st
    obtain ⟨xs, x, hq, hx⟩ := hg
    obtain ⟨its, rv, p, hz⟩ := I.tuple hq
    obtain ⟨u, hu, ru⟩ := rv.get hx
    have p' : s.heap.IsTuple a its.toArray := p
    have hel : e < s.heap.objs.size := Heap.lt_size he
    have hil : it < s.heap.objs.size := by obtain ⟨_, q, _⟩ := hit; exact Heap.lt_size q
    have hil2 : i < its.toArray.size := by
      have := (List.getElem?_eq_some_iff.mp hu).1
      simpa using this
    refine wpAny_pyNext_enum_itemC (Draws.tuple (A := X.A.in1) (I.ok.hd hc) it a hat its.toArray) he ⟨hit, p'⟩ hil2 hne (by simp [hne, hea]) fun x2 h' tk hP2 ho hst' hT hsz hk => ?_
    have ex2 : x2 = u := by
      have q : its.toArray[i]? = some x2 := hP2
      rw [List.getElem?_toArray, hu] at q
      exact (Option.some.inj q).symm
    subst ex2
    refine ⟨_, rfl, wpAny_letOwnedTupleGo_enum (s := { s with heap := h', toks := tk + 1 }) ho fun h'' he' sb => ?_⟩
    have hT2 : h''.get? s.heap.objs.size = some { cls := .type "tuple", data := .seq #[.int (c + (i : Nat)) tk, x2] } := (sb.2 _ (Nat.ne_of_gt hel)).trans hT
    have new : ObjOk X.prog X.w (upd H s.heap.objs.size (.tup [.int (c + (i : Nat)), x])) h'' s.heap.objs.size (.tup [.int (c + (i : Nat)), x]) :=
      ⟨by show 2 ≤ sizeLine; decide, [.int (c + (i : Nat)) tk, x2], .cons ⟨_, rfl⟩ (.cons ru .nil), ⟨_, hT2, rfl, _, rfl⟩⟩
    have I1 : Inv X pins σ (upd H s.heap.objs.size (.tup [.int (c + (i : Nat)), x])) { s with heap := h'', toks := tk + 1 } :=
      I.turnedNew (ch := [e, it]) (fun b ob hb q => (sb.2 b (fun z => hb (by simp [z]))).trans (hk b ob (fun z => hb (by simp [z])) (fun z => hb (by simp [z])) q)) hf (Nat.le_refl _) new
    refine ⟨.ref s.heap.objs.size, _, I1, rfl, ⟨_, x, rfl, I.hok.fresh (Nat.le_refl _), rfl, fun ys hy => by rw [I.tuple_inj hy hq]; exact hx⟩, ⟨⟨x2, ?_⟩, hst'.1.at fun o q => (sb.2 it (Ne.symm hne)).trans q, hne, hea⟩, fun b hb => ?_⟩
    · have e1 : c + ((i + 1 : Nat) : Int) = c + (i : Int) + 1 := by omega
      rw [e1]; exact he'
    · have hb' : b < s.heap.objs.size := by
        rcases (show b = e ∨ b = it by simpa using hb) with z | z
        · rw [z]; exact hel
        · rw [z]; exact hil
      rw [upd_ne (Nat.ne_of_lt hb')]
      exact (hf b hb).1
  done := by
    intro X hP hw hK hc i pins s σ H E I hf st hg
    subst hP hw hK
    obtain ⟨⟨old, he⟩, hit, hne, hea⟩ := st
    obtain ⟨xs, hq, hx⟩ := hg
    obtain ⟨its, rv, p, hz⟩ := I.tuple hq
    have p' : s.heap.IsTuple a its.toArray := p
    obtain ⟨f0, f1, f2, f3, f4, f5⟩ := hf it (by simp)
    have hl := rv.length
    have hsz : its.toArray.size = i := by
      rw [List.size_toArray]
      omega
    refine wpAny_pyNext_enum_endD (Draws.tuple (A := X.A.in1) (I.ok.hd hc) it a hat its.toArray) he ⟨by rw [hsz]; exact hit, p'⟩ fun h' eb => ⟨rfl, I.turned (t' := s.toks) (fun b o hb q => eb b o hb q) f0 f1 f3 f4 f5⟩
  self := fun A i s Q E st h => let ⟨⟨_, he⟩, _⟩ := st; wpAny_pyIter_enum he h
def iEnumST (K : PySem.W.Frag) (c : Int) (ta : TA) : TI := fun σ H R => ta σ H fun vs H1 => tCons (tC (.int c)) tNil σ H1 fun zs H2 => ∃ a xs, vs = [.ref a] ∧ zs = [.int c] ∧ SqT K H2 a xs ∧ R (IteST K c a) H2
theorem enumST_call {X : Cx} {c : Int} (hc0 : -(2 ^ 63) ≤ c ∧ c < 2 ^ 63) {elts : List Expr} {kk : Nat} {tpos : Pos} (pins : List (Addr × Obj)) (s2 : Shared) (σ : L2.St) (H2 : Hp) (vs zs : List V) (us ws : List Value) (R : It → Hp → Prop) (I2 : Inv X pins σ H2 s2) (r1 : Vals vs us) (r2 : Vals zs ws)
    (h : ∃ a xs, vs = [.ref a] ∧ zs = [.int c] ∧ SqT X.K H2 a xs ∧ R (IteST X.K c a) H2) : wpAny (model X.prog X.w) X.A (call (.type "enumerate") us ([Str.ofString "start"].zip ws)) (fun v s1 => wpAny (model X.prog X.w) X.A (pyIter v) (PIE X pins σ (.Tuple elts kk tpos) R) X.xe s1) X.xe s2 := by
  obtain ⟨a, xs, rfl, rfl, hq, q⟩ := h
  cases r1 with
  | cons r rr =>
    cases rr
    cases r
    cases r2 with
    | cons rz rrz =>
      cases rrz
      obtain ⟨tz, rfl⟩ := rz
      obtain ⟨its, rv, p', hz⟩ := I2.tuple hq
      have p'' : s2.heap.IsTuple a its.toArray := p'
      have hal : a < s2.heap.objs.size := p'.lt
      refine PySem.enum_begins_start (begins_tuple a its.toArray) p'' hc0.1 hc0.2 fun h' hen hit hsz hk => wpAny_pyIter_enum hen ?_
      have I3 : Inv X pins σ H2 { s2 with heap := h' } := I2.kept (t' := s2.toks) hk
      refine ⟨s2.heap.objs.size + 1, [s2.heap.objs.size + 1, s2.heap.objs.size], _, _, H2, rfl, I3, turn_enumST c a (s2.heap.objs.size + 1) s2.heap.objs.size (Nat.ne_of_lt hal), ⟨⟨.none, by rw [show c + ((0 : Nat) : Int) = c by omega]; exact hen⟩, ⟨_, hit, rfl, rfl⟩, Nat.succ_ne_self _, Nat.ne_of_gt (Nat.lt_succ_of_lt hal)⟩, fun b hb => ?_, q⟩
      have hle : s2.heap.objs.size ≤ b := by
        rcases (show b = s2.heap.objs.size + 1 ∨ b = s2.heap.objs.size by simpa using hb) with z | z
        · rw [z]; exact Nat.le_add_right _ _
        · rw [z]; exact Nat.le_refl _
      exact I2.fpOk hle (I2.hok.fresh hle)
theorem pi_enumST {X : Cx} {K : PySem.W.Frag} (hK : X.K = K) {e : Expr} {ta : TA} {c : Int} {p pos tpos kp p1 : Pos} {elts : List Expr} {kk j : Nat} (hc0 : -(2 ^ 63) ≤ c ∧ c < 2 ^ 63) (hg : Gl X "enumerate") (hm : X.mg "enumerate" = none) (ha : PA X [e] ta)
    (he : backTo pos (starEach [e] X.env) = (false, eval e X.env) :: backTo pos (starEach [] X.env) := by rfl) (hpl : (backTo pos (starEach [e] X.env)).any (·.1) = false := by rfl)
    (hall : (backToKw pos (keywordEach [⟨some "start", .Constant (.int c) j p1, kp⟩] X.env)).all (·.1.isSome) = true := by rfl) (hnone : (backToKw pos (keywordEach [⟨some "start", .Constant (.int c) j p1, kp⟩] X.env)).any (·.1.isNone) = false := by rfl) (hks : (backToKw pos (keywordEach [⟨some "start", .Constant (.int c) j p1, kp⟩] X.env)).filterMap (·.1) = [Str.ofString "start"] := by rfl) :
    PI X (.Tuple elts kk tpos) (.Call (.Name "enumerate" p) [e] [⟨some "start", .Constant (.int c) j p1, kp⟩] pos) (iEnumST K c ta) := by
  subst hK
  exact pi_tyK hg hm boot_enumerate ha (pk_cons pe_int pk_nil) (fun pins s σ H vs zs us ws R => enumST_call hc0 pins s σ H vs zs us ws R) he hpl hall hnone hks
def IteSL (K : PySem.W.Frag) (c : Int) (a : Addr) : It :=
  ⟨fun i H => ∃ (xs : List V) (x : V), SqL K H a xs ∧ xs[i]? = some x, fun i H v H' => ∃ T x, v = .ref T ∧ H T = none ∧ H' = upd H T (.tup [.int (c + (i : Nat)), x]) ∧ ∀ xs, SqL K H a xs → xs[i]? = some x, fun i H => ∃ xs : List V, SqL K H a xs ∧ xs.length = i⟩
theorem turn_enumSL {P : Program} {w : World} {K : PySem.W.Frag} {elts : List Expr} {kk : Nat} {tpos : Pos} (c : Int) (a e it : Addr) (hat : a ≠ it) :
    Turn P w K (.Tuple elts kk tpos) (IteSL K c a) [e, it] e (fun i h => (∃ old, IsEnum h e it (c + ((i : Nat) : Int)) old) ∧ h.IsListIter it a i ∧ e ≠ it ∧ e ≠ a) where
  mem := by simp
  obj := fun i h st b hb => by
    obtain ⟨⟨old, he⟩, ⟨o, ho, hc, hd⟩, _⟩ := st
    rcases (show b = e ∨ b = it by simpa using hb) with z | z
    · rw [z]; exact ⟨_, he, fun v q => nomatch q⟩
    · rw [z]; exact ⟨o, ho, fun v q => by rw [hd] at q; cases q⟩
  keep := fun i h h' st k => let ⟨⟨old, he⟩, hi, hne⟩ := st; ⟨⟨old, k e (by simp) _ he⟩, hi.at fun o q => k it (by simp) o q, hne⟩
  item := by
    intro X hP hw hK hc i pins s σ H E I hf st hg
    subst hP hw hK
    obtain ⟨⟨old, he⟩, hit, hne, hea⟩ := st
    obtain ⟨xs, x, hq, hx⟩ := hg
    obtain ⟨its, rv, p, hz⟩ := I.list hq
    obtain ⟨u, hu, ru⟩ := rv.get hx
    have p' : s.heap.IsList a its.toArray := p.isList
    have hel : e < s.heap.objs.size := Heap.lt_size he
    have hil : it < s.heap.objs.size := by obtain ⟨_, q, _⟩ := hit; exact Heap.lt_size q
    have hil2 : i < its.toArray.size := by
      have := (List.getElem?_eq_some_iff.mp hu).1
      simpa using this
    refine wpAny_pyNext_enum_itemC (Draws.list (A := X.A.in1) (I.ok.hd hc) it a hat its.toArray) he ⟨hit, p'⟩ hil2 hne (by simp [hne, hea]) fun x2 h' tk hP2 ho hst' hT hsz hk => ?_
    have ex2 : x2 = u := by
      have q : its.toArray[i]? = some x2 := hP2
      rw [List.getElem?_toArray, hu] at q
      exact (Option.some.inj q).symm
    subst ex2
    refine ⟨_, rfl, wpAny_letOwnedTupleGo_enum (s := { s with heap := h', toks := tk + 1 }) ho fun h'' he' sb => ?_⟩
    have hT2 : h''.get? s.heap.objs.size = some { cls := .type "tuple", data := .seq #[.int (c + (i : Nat)) tk, x2] } := (sb.2 _ (Nat.ne_of_gt hel)).trans hT
    have new : ObjOk X.prog X.w (upd H s.heap.objs.size (.tup [.int (c + (i : Nat)), x])) h'' s.heap.objs.size (.tup [.int (c + (i : Nat)), x]) :=
      ⟨by show 2 ≤ sizeLine; decide, [.int (c + (i : Nat)) tk, x2], .cons ⟨_, rfl⟩ (.cons ru .nil), ⟨_, hT2, rfl, _, rfl⟩⟩
    have I1 : Inv X pins σ (upd H s.heap.objs.size (.tup [.int (c + (i : Nat)), x])) { s with heap := h'', toks := tk + 1 } :=
      I.turnedNew (ch := [e, it]) (fun b ob hb q => (sb.2 b (fun z => hb (by simp [z]))).trans (hk b ob (fun z => hb (by simp [z])) (fun z => hb (by simp [z])) q)) hf (Nat.le_refl _) new
    refine ⟨.ref s.heap.objs.size, _, I1, rfl, ⟨_, x, rfl, I.hok.fresh (Nat.le_refl _), rfl, fun ys hy => by rw [I.list_inj hy hq]; exact hx⟩, ⟨⟨x2, ?_⟩, hst'.1.at fun o q => (sb.2 it (Ne.symm hne)).trans q, hne, hea⟩, fun b hb => ?_⟩
    · have e1 : c + ((i + 1 : Nat) : Int) = c + (i : Int) + 1 := by omega
      rw [e1]; exact he'
    · have hb' : b < s.heap.objs.size := by
        rcases (show b = e ∨ b = it by simpa using hb) with z | z
        · rw [z]; exact hel
        · rw [z]; exact hil
      rw [upd_ne (Nat.ne_of_lt hb')]
      exact (hf b hb).1
  done := by
    intro X hP hw hK hc i pins s σ H E I hf st hg
    subst hP hw hK
    obtain ⟨⟨old, he⟩, hit, hne, hea⟩ := st
    obtain ⟨xs, hq, hx⟩ := hg
    obtain ⟨its, rv, p, hz⟩ := I.list hq
    have p' : s.heap.IsList a its.toArray := p.isList
    obtain ⟨f0, f1, f2, f3, f4, f5⟩ := hf it (by simp)
    have hl := rv.length
    have hsz : its.toArray.size = i := by
      rw [List.size_toArray]
      omega
    refine wpAny_pyNext_enum_endD (Draws.list (A := X.A.in1) (I.ok.hd hc) it a hat its.toArray) he ⟨by rw [hsz]; exact hit, p'⟩ fun h' eb => ⟨rfl, I.turned (t' := s.toks) (fun b o hb q => eb b o hb q) f0 f1 f3 f4 f5⟩
  self := fun A i s Q E st h => let ⟨⟨_, he⟩, _⟩ := st; wpAny_pyIter_enum he h
def iEnumSL (K : PySem.W.Frag) (c : Int) (ta : TA) : TI := fun σ H R => ta σ H fun vs H1 => tCons (tC (.int c)) tNil σ H1 fun zs H2 => ∃ a xs, vs = [.ref a] ∧ zs = [.int c] ∧ SqL K H2 a xs ∧ R (IteSL K c a) H2
theorem enumSL_call {X : Cx} {c : Int} (hc0 : -(2 ^ 63) ≤ c ∧ c < 2 ^ 63) {elts : List Expr} {kk : Nat} {tpos : Pos} (pins : List (Addr × Obj)) (s2 : Shared) (σ : L2.St) (H2 : Hp) (vs zs : List V) (us ws : List Value) (R : It → Hp → Prop) (I2 : Inv X pins σ H2 s2) (r1 : Vals vs us) (r2 : Vals zs ws)
    (h : ∃ a xs, vs = [.ref a] ∧ zs = [.int c] ∧ SqL X.K H2 a xs ∧ R (IteSL X.K c a) H2) : wpAny (model X.prog X.w) X.A (call (.type "enumerate") us ([Str.ofString "start"].zip ws)) (fun v s1 => wpAny (model X.prog X.w) X.A (pyIter v) (PIE X pins σ (.Tuple elts kk tpos) R) X.xe s1) X.xe s2 := by
  obtain ⟨a, xs, rfl, rfl, hq, q⟩ := h
  cases r1 with
  | cons r rr =>
    cases rr
    cases r
    cases r2 with
    | cons rz rrz =>
      cases rrz
      obtain ⟨tz, rfl⟩ := rz
      obtain ⟨its, rv, p', hz⟩ := I2.list hq
      have p'' : s2.heap.IsList a its.toArray := p'.isList
      have hal : a < s2.heap.objs.size := p'.lt
      refine PySem.enum_begins_start (begins_list a its.toArray) p'' hc0.1 hc0.2 fun h' hen hit hsz hk => wpAny_pyIter_enum hen ?_
      have I3 : Inv X pins σ H2 { s2 with heap := h' } := I2.kept (t' := s2.toks) hk
      refine ⟨s2.heap.objs.size + 1, [s2.heap.objs.size + 1, s2.heap.objs.size], _, _, H2, rfl, I3, turn_enumSL c a (s2.heap.objs.size + 1) s2.heap.objs.size (Nat.ne_of_lt hal), ⟨⟨.none, by rw [show c + ((0 : Nat) : Int) = c by omega]; exact hen⟩, ⟨_, hit, rfl, rfl⟩, Nat.succ_ne_self _, Nat.ne_of_gt (Nat.lt_succ_of_lt hal)⟩, fun b hb => ?_, q⟩
      have hle : s2.heap.objs.size ≤ b := by
        rcases (show b = s2.heap.objs.size + 1 ∨ b = s2.heap.objs.size by simpa using hb) with z | z
        · rw [z]; exact Nat.le_add_right _ _
        · rw [z]; exact Nat.le_refl _
      exact I2.fpOk hle (I2.hok.fresh hle)
theorem pi_enumSL {X : Cx} {K : PySem.W.Frag} (hK : X.K = K) {e : Expr} {ta : TA} {c : Int} {p pos tpos kp p1 : Pos} {elts : List Expr} {kk j : Nat} (hc0 : -(2 ^ 63) ≤ c ∧ c < 2 ^ 63) (hg : Gl X "enumerate") (hm : X.mg "enumerate" = none) (ha : PA X [e] ta)
    (he : backTo pos (starEach [e] X.env) = (false, eval e X.env) :: backTo pos (starEach [] X.env) := by rfl) (hpl : (backTo pos (starEach [e] X.env)).any (·.1) = false := by rfl)
    (hall : (backToKw pos (keywordEach [⟨some "start", .Constant (.int c) j p1, kp⟩] X.env)).all (·.1.isSome) = true := by rfl) (hnone : (backToKw pos (keywordEach [⟨some "start", .Constant (.int c) j p1, kp⟩] X.env)).any (·.1.isNone) = false := by rfl) (hks : (backToKw pos (keywordEach [⟨some "start", .Constant (.int c) j p1, kp⟩] X.env)).filterMap (·.1) = [Str.ofString "start"] := by rfl) :
    PI X (.Tuple elts kk tpos) (.Call (.Name "enumerate" p) [e] [⟨some "start", .Constant (.int c) j p1, kp⟩] pos) (iEnumSL K c ta) := by
  subst hK
  exact pi_tyK hg hm boot_enumerate ha (pk_cons pe_int pk_nil) (fun pins s σ H vs zs us ws R => enumSL_call hc0 pins s σ H vs zs us ws R) he hpl hall hnone hks
end Fm
set_option Elab.async false
set_option linter.all false
set_option maxRecDepth 100000
set_option maxHeartbeats 1000000
namespace Fm
open PySem PySem.Spec PyProof.Rows L2
/-! try with several clauses, each with a name -/
/-- one clause: its class, the slot of its name, its suite -/
structure Cl1 where
  c : Value
  i : Nat
  ts : Addr → Value → Option Addr → TS
def outOf (i : Nat) (D : Ends) : Ends := { nx := fun τ G => D.nx (τ.set i none) G, rt := D.rt, bk := fun τ G => D.bk (τ.set i none) G, ct := fun τ G => D.ct (τ.set i none) G }
def wManyAs (K : PySem.W.Frag) (Wo : WX) (D : Ends) : List Cl1 → WX
  | [] => Wo
  | q :: r => fun cl d τ G => ∃ b, PySem.W.exmOne K cl q.c = some b ∧ (b = true → ∀ a, G a = none → q.ts a cl d (outOf q.i D) (τ.set q.i (some (.ref a))) G) ∧ (b = false → wManyAs K Wo D r cl d τ G)
inductive ClsOk (X : Cx) : List ExceptHandler → List Cl1 → Prop
  | nil : ClsOk X [] []
  | cons {x n : Str} {q : Cl1} {b1 : Stmt} {su : List Stmt} {p1 p2 : Pos} {hs : List ExceptHandler} {l : List Cl1} (nm : Names X x q.c) (hi : X.N[q.i]? = some n) (hl : X.env.kindOf n = some .local)
      (hsu : ∀ (a : Addr) (ob : Obj) (cl : Value) (d : Option Addr) (pn : List (Addr × Obj)), Zc cl d ob → (∃ us, ob.data = .fields us) → PSs (X.suite a ((a, ob) :: pn)) (b1 :: su) (q.ts a cl d)) (r : ClsOk X hs l) :
      ClsOk X (.ExceptHandler (some (.Name x p1)) (some n) (b1 :: su) p2 :: hs) (q :: l)
/-- a clause that does not look at its error -/
theorem ClsOk.cons0 {X : Cx} {x n : Str} {c : Value} {i : Nat} {t : TS} {b1 : Stmt} {su : List Stmt} {p1 p2 : Pos} {hs : List ExceptHandler} {l : List Cl1} (nm : Names X x c) (hi : X.N[i]? = some n) (hl : X.env.kindOf n = some .local)
    (hsu : ∀ (a : Addr) (ob : Obj) (pn : List (Addr × Obj)), PSs (X.suite a ((a, ob) :: pn)) (b1 :: su) t) (r : ClsOk X hs l) : ClsOk X (.ExceptHandler (some (.Name x p1)) (some n) (b1 :: su) p2 :: hs) (⟨c, i, fun _ _ _ => t⟩ :: l) :=
  .cons (q := ⟨c, i, fun _ _ _ => t⟩) nm hi hl (fun a ob _ _ pn _ _ => hsu a ob pn) r
section
variable {X : Cx} {bd : List Stmt} {k0 : ExceptHandler} {ks : List ExceptHandler} {l : List Cl1} {pos : Pos} {tb : WX → TS} {Wo : WX}
theorem ps_try_manyAs (hst : X.stack = X.env :: X.outer) (hfe : X.env.frame = some X.env.locals) (nd : X.N.Nodup) (tk : Takes X Wo)
    (hb : ∀ (W : WX) (pn : List (Addr × Obj)) (xe : Value → Shared → Prop), Takes (X.tr pn xe) W → PassesOwn (model X.prog X.w) X.A X.env xe → PSs (X.tr pn xe) bd (tb W))
    (hh : ClsOk X (k0 :: ks) l) : PS X (.Try bd (k0 :: ks) [] [] pos) (fun D τ G => tb (wManyAs X.K Wo D l) D τ G) := by
  refine ⟨fun ps st τ G D J0 hw => ?_⟩
  have okX := J0.ok
  have frX : X.A.frames = some (X.env :: X.outer) := okX.frames.trans (congrArg some hst)
  refine wpAny_Try_except ?_
  refine wpAny_mono ((hb (wManyAs X.K Wo D l) (X.pn ++ ps) (fun er t1 => wpAny (model X.prog X.w) X.A (noteFrame er X.env) (fun _ t2 => wpAny (model X.prog X.w) X.A (setFlight er none) (fun _ t3 =>
    wpAny (model X.prog X.w) X.A (handleBy er X.env (k0 :: ks)) (SP X ps D) X.xe t3) X.xe t2) X.xe t1) ?_ PassesOwn.looking).run [] st τ G D (J0.toTry _) hw) (fun fw t1 hsp => ?_) fun _ _ z => z
  · rintro u st' ⟨a, B, sJ, ps', τ1, G1, cl, d, rfl, J', nb, up, sky, na, osq, ag, wq⟩
    have J : Inv X ps τ1 G1 sJ := J'.ofTry okX
    have sk : Sky B (X.env :: X.outer) a (Zc cl d) X.env.locals st'.heap := hst ▸ sky
    show wpAny (model X.prog X.w) X.A (noteFrame (.ref a) X.env) _ _ _
    refine Sky.land Zc.steady frX hfe sk fun g3 fl up3 => ?_
    have J3 : Inv X ps τ1 G1 { st' with heap := g3 } := J.landed nb fl.1 (up.trans up3) osq ag
    obtain ⟨ob, us, hob, hz, hdat⟩ := fl.there
    have notIn : a ∉ frs (X.env :: X.outer) := fun hm => by
      obtain ⟨_, o2, h2, hn⟩ := fl.2.2.1.mem hm
      rw [hob] at h2
      exact hn us (by rw [← Option.some.inj h2]; exact hdat)
    have n1 : a ≠ X.env.locals := fun z => notIn (List.mem_filterMap.mpr ⟨X.env, List.mem_cons_self, hfe.trans (congrArg some z.symm)⟩)
    have n2 : a ∉ X.fs := fun hm => by
      obtain ⟨ev, hev, q⟩ := List.mem_filterMap.mp hm
      exact notIn (List.mem_filterMap.mpr ⟨ev, List.mem_cons_of_mem _ hev, q⟩)
    have S3 := J3.suite hob hdat na n1 n2
    have each : ∀ {ks' : List ExceptHandler} {l' : List Cl1}, ClsOk X ks' l' → wManyAs X.K Wo D l' cl d τ1 G1 → wpAny (model X.prog X.w) X.A (handleBy (.ref a) X.env ks') (SP X ps D) X.xe { st' with heap := g3 } := by
      intro ks' l' hk
      induction hk with
      | nil =>
        intro wz
        refine wpAny_handleBy_nil ?_
        obtain ⟨c1, c2, c3, oe, vz, T, oT, tz, q1, q2, q3, q4, q5⟩ := id fl
        unfold PySem.passOn
        refine wpAny_bind (wpAny_field q1 q3 q4 ?_)
        rw [if_neg (fun z : (Value.ref T == Value.none) = true => Bool.noConfusion z)]
        have out : wpAny (model X.prog X.w) X.A (setFlight (.ref a) X.env.frame) (fun _ t4 => wpAny (model X.prog X.w) X.A (throw (.ref a) : Sem Flow) (SP X ps D) X.xe t4) X.xe { st' with heap := g3 } := by
          rw [hfe]
          refine HandSPX.setFlight_upZ fl fun g4 hg4 up4 => wpAny_throw (tk _ _ ⟨a, B, sJ, ps, τ1, G1, cl, d, rfl, J, nb, (up.trans up3).trans up4, .inr (.inr ?_), na, osq, ag, wz⟩)
          rw [hst]
          exact hg4
        first
          | exact wpAny_bind (wpAny_pure (wpAny_bind out))
          | exact wpAny_bind out
      | @cons x n q b1 su p1 p2 hs2 l2 nm hi hl hsu r ih =>
        rintro ⟨b, hb1, hy, hn⟩
        refine wpAny_handleBy_cons (codeAny_handlers_test ?_) (fun z => by cases z)
        have LT : PySem.W.Looks (model X.prog X.w) g3 (typeOf (.ref a)) cl := fun A' Q' E' s' k' z => wpAny_typeOf_ref (k' _ _ hob) (by rw [hz.1]; exact z)
        have LM := PySem.W.exm_one (M := model X.prog X.w) J3.kIn LT hb1
        have look : ∀ {Q' : Value → Shared → Prop} {E' : Value → Shared → Prop}, Q' q.c { st' with heap := g3 } → wpAny (model X.prog X.w) (X.A.mark (some (.ref a))) (eval (.Name x p1) X.env) Q' E' { st' with heap := g3 } := fun {Q' E'} z => by
          obtain ⟨m1, m2, m3 | ⟨m3, m4, m5⟩⟩ := nm
          · exact ld_glob (X := X.suite a ((a, ob) :: (X.pn ++ ps))) S3 m1 m3 z m2
          · exact ld_blt (X := X.suite a ((a, ob) :: (X.pn ++ ps))) S3 m1 m3 m4 z m5 m2
        refine look (LM.here ?_)
        cases b with
        | true =>
          refine codeAny_handlers_suite_as (HandSPX.lands_againZ fl fun g4 fl4 up4 => ?_)
          have J4 : Inv X ps τ1 G1 { st' with heap := g4 } := J.landed nb fl4.1 ((up.trans up3).trans up4) osq ag
          obtain ⟨ob4, us4, hob4, hz4, hdat4⟩ := fl4.there
          refine store_ok (X := X.suite a ((a, ob4) :: (X.pn ++ ps))) (v := .ref a) (J4.suite hob4 hdat4 na n1 n2) nd hi (.inl hl) rfl (fun t5 S5 => ?_) (.inr hl)
          refine wpAny_mono ((hsu a ob4 cl d (X.pn ++ ps) hz4 ⟨_, hdat4⟩).run [] t5 _ G1 _ S5 (hy rfl a na)) (fun fw t6 hsp => ?_) (fun _ _ z => False.elim z)
          have fin : ∀ {τ6 : L2.St} {G6 : Hp} {R : Shared → Prop}, Inv (X.suite a ((a, ob4) :: (X.pn ++ ps))) [] τ6 G6 t6 → (∀ t7, Inv X ps (τ6.set q.i none) G6 t7 → R t7) →
              wpAny (model X.prog X.w) X.A (do bindName X.env n .none; unbindBehindTheSuite X.env n p2) (fun _ t7 => R t7) X.xe t6 := fun {τ6 G6 R} S6 hR => gone_ok (S6.unsuite okX) nd hi hl hR
          cases fw with
          | next =>
            obtain ⟨τ6, G6, S6, z⟩ := hsp
            exact fin S6 fun t7 J7 => ⟨_, _, J7, z⟩
          | brk =>
            obtain ⟨τ6, G6, S6, z⟩ := hsp
            exact fin S6 fun t7 J7 => ⟨_, _, J7, z⟩
          | cont =>
            obtain ⟨τ6, G6, S6, z⟩ := hsp
            exact fin S6 fun t7 J7 => ⟨_, _, J7, z⟩
          | ret u6 =>
            obtain ⟨v6, τ6, G6, S6, r6, z⟩ := hsp
            exact fin S6 fun t7 J7 => ⟨_, _, _, J7, r6, z⟩
        | false =>
          show wpAny _ X.A (handleBy (.ref a) X.env hs2) _ _ _
          exact ih (hn rfl)
    exact each hh wq
  · cases fw with
    | next =>
      obtain ⟨τ1, G1, J', z⟩ := hsp
      exact wpAny_execs_nil ⟨τ1, G1, J'.ofTry okX, z⟩
    | brk =>
      obtain ⟨τ1, G1, J', z⟩ := hsp
      exact ⟨τ1, G1, J'.ofTry okX, z⟩
    | cont =>
      obtain ⟨τ1, G1, J', z⟩ := hsp
      exact ⟨τ1, G1, J'.ofTry okX, z⟩
    | ret u1 =>
      obtain ⟨v1, τ1, G1, J', r1, z⟩ := hsp
      exact ⟨v1, τ1, G1, J'.ofTry okX, r1, z⟩
end
section
variable {X : Cx} {o e : Expr} {es : List Expr} {to : TE} {t : TA} {name : Str} {apos cpos : Pos} {T id : String} {r : V → List V → Hp → VK → Prop}
/-- pe_bm, its K told -/
theorem pe_bmK {K : PySem.W.Frag} (hK : X.K = K) (pa : PlainAttrs T) (slot : Slot T name id) (hty : typeOf (.builtin id) = pure (.type "method_descriptor")) (hm : MtR X id r) (ho : PE X o to) (ha : PA X (e :: es) t)
    (hbase : attributeBase o name X.env (eval o X.env) = eval o X.env := by rfl)
    (hfew : ((backTo cpos (starEach (e :: es) X.env)).all (fun x => !x.1) && (backToKw cpos (keywordEach [] X.env)).all (fun x => x.1.isSome)
      && decide ((e :: es).length + ([] : List Keyword).length + (if ([] : List Keyword).isEmpty then 0 else 1) < 30)) = true := by rfl)
    (hline : (apos.endLine == cpos.line) = true := by rfl) (hs : starEach (e :: es) X.env = (false, eval e X.env) :: starEach es X.env := by rfl) (hplain : (backTo cpos (starEach es X.env)).any (·.1) = false := by rfl) :
    PE X (.Call (.Attribute o name apos) (e :: es) [] cpos) (tBM K T r to t) := hK ▸ pe_bm pa slot hty hm ho ha hbase hfew hline hs hplain
end
end Fm
set_option Elab.async false
set_option linter.all false
set_option maxRecDepth 100000
set_option maxHeartbeats 1000000
namespace Fm
open PySem L2 Evl
/-! ### instructions, programs -/
inductive In where
  | get (c : Nat) | plus (c : Nat) | minus (c : Nat) | set (c : Nat) | put (k : Int) | say | ask | zero (t : Nat) | go (t : Nat) | stop | touch (c : Nat)
  deriving DecidableEq
def In.w : In → Str
  | .get _ => "get" | .plus _ => "plus" | .minus _ => "minus" | .set _ => "set" | .put _ => "put" | .say => "say" | .ask => "ask" | .zero _ => "zero" | .go _ => "go" | .stop => "stop" | .touch _ => "touch"
def In.arg : In → Option Int
  | .get c => some c | .plus c => some c | .minus c => some c | .set c => some c | .put k => some k | .say => none | .ask => none | .zero t => some t | .go t => some t | .stop => none | .touch c => some c
def In.vs (i : In) : List V := match i.arg with
  | none => [.str i.w]
  | some k => [.str i.w, .int k]
def In.ok (cells len : Nat) : In → Prop
  | .get c => c < cells | .plus c => c < cells | .minus c => c < cells | .set c => c < cells | .put k => -1000000 ≤ k ∧ k ≤ 1000000 | .say => True | .ask => True | .zero t => t ≤ len | .go t => t ≤ len | .stop => True | .touch c => c < cells
def In.isTouch : In → Bool
  | .touch _ => true
  | _ => false
def InAt (K : PySem.W.Frag) (H : Hp) (v : V) (i : In) : Prop := ∃ b, v = .ref b ∧ SqT K H b i.vs
def PgT (K : PySem.W.Frag) (H : Hp) (a : Addr) (p : List In) : Prop := ∃ xs, SqT K H a xs ∧ Paired (InAt K H) xs p
theorem InAt.up {K : PySem.W.Frag} {H H' : Hp} {v : V} {i : In} (e : Ex H H') (h : InAt K H v i) : InAt K H' v i := let ⟨b, h1, h2⟩ := h; ⟨b, h1, ex_t e h2⟩
theorem PgT.up {K : PySem.W.Frag} {H H' : Hp} {a : Addr} {p : List In} (e : Ex H H') (h : PgT K H a p) : PgT K H' a p := let ⟨xs, h1, h2⟩ := h; ⟨xs, ex_t e h1, Paired.mapP h2 fun _ _ z => z.up e⟩
theorem paired_get {α β : Type} {R : α → β → Prop} : ∀ {xs : List α} {ys : List β} {i : Nat} {y : β}, Paired R xs ys → ys[i]? = some y → ∃ x, xs[i]? = some x ∧ R x y
  | _, _, _, _, .nil, e => by simp at e
  | _, _, 0, _, .cons r _, e => by simp at e; subst e; exact ⟨_, rfl, r⟩
  | _, _, i + 1, y, .cons _ t, e => by
    obtain ⟨u, h1, h2⟩ := paired_get (i := i) (y := y) t (by simpa using e)
    exact ⟨u, by simpa using h1, h2⟩
theorem paired_append {α β : Type} {R : α → β → Prop} : ∀ {xs xs' : List α} {ys ys' : List β}, Paired R xs ys → Paired R xs' ys' → Paired R (xs ++ xs') (ys ++ ys')
  | _, _, _, _, .nil, s => s
  | _, _, _, _, .cons r t, s => .cons r (paired_append t s)
theorem atI_nat' {α : Type} {xs : List α} {i : Nat} {v : α} (h : xs[i]? = some v) : atI xs (i : Int) = some v := by
  have hi : i < xs.length := (List.getElem?_eq_some_iff.mp h).1
  unfold atI
  rw [ixN_nat hi]
  exact h
theorem vs_0 (i : In) : atI i.vs 0 = some (.str i.w) := by
  unfold In.vs
  cases i <;> rfl
theorem vs_1 {i : In} {k : Int} (h : i.arg = some k) : atI i.vs 1 = some (.int k) := by
  unfold In.vs
  rw [h]
  rfl
section
variable {K : PySem.W.Frag} {σ : L2.St} {H : Hp} {ta tb te : TE} {a b : Addr} {p : List In} {x : In} {n : Nat}
theorem ev_ixT {xs : List V} {i : Int} {v : V} (ha : Ev ta σ H (.ref a)) (hb : Ev tb σ H (.int i)) (h : SqT K H a xs) (e : atI xs i = some v) : Ev (tOp (rIx K) ta tb) σ H v :=
  ev_op ha hb fun H1 e1 _ q => .inr (.inl ⟨a, xs, i, v, rfl, rfl, ex_t e1 h, e, q H1 (Ex.refl H1)⟩)
theorem ev_ixL {xs : List V} {i : Int} {v : V} (ha : Ev ta σ H (.ref a)) (hb : Ev tb σ H (.int i)) (h : SqL K H a xs) (e : atI xs i = some v) : Ev (tOp (rIx K) ta tb) σ H v :=
  ev_op ha hb fun H1 e1 _ q => .inl ⟨a, xs, i, v, rfl, rfl, ex_l e1 h, e, q H1 (Ex.refl H1)⟩
theorem PgT.len (h : PgT K H a p) : ∃ xs, SqT K H a xs ∧ xs.length = p.length := let ⟨xs, h1, h2⟩ := h; ⟨xs, h1, Paired.length h2⟩
theorem PgT.at_ (h : PgT K H a p) (e : p[n]? = some x) : ∃ b, ∃ xs, SqT K H a xs ∧ atI xs (n : Int) = some (.ref b) ∧ SqT K H b x.vs := by
  obtain ⟨xs, h1, h2⟩ := h
  obtain ⟨v, hv, b, rfl, hb⟩ := paired_get h2 e
  exact ⟨b, xs, h1, atI_nat' hv, hb⟩
theorem ev_pg (h : PgT K H a p) (e : p[n]? = some x) (ha : Ev ta σ H (.ref a)) (hb : Ev tb σ H (.int (n : Int))) : ∃ b, Ev (tOp (rIx K) ta tb) σ H (.ref b) ∧ SqT K H b x.vs := by
  obtain ⟨b, xs, h1, h2, h3⟩ := h.at_ e
  exact ⟨b, ev_ixT ha hb h1 h2, h3⟩
/-- program[n][0] -/
theorem ev_pg0 (h : PgT K H a p) (e : p[n]? = some x) (ha : Ev ta σ H (.ref a)) (hb : Ev tb σ H (.int (n : Int))) : Ev (tOp (rIx K) (tOp (rIx K) ta tb) (tC (.int 0))) σ H (.str x.w) := by
  obtain ⟨b, h1, h2⟩ := ev_pg h e ha hb
  exact ev_ixT h1 ev_c h2 (vs_0 x)
theorem ev_pg1 {k : Int} (h : PgT K H a p) (e : p[n]? = some x) (hk : x.arg = some k) (ha : Ev ta σ H (.ref a)) (hb : Ev tb σ H (.int (n : Int))) : Ev (tOp (rIx K) (tOp (rIx K) ta tb) (tC (.int 1))) σ H (.int k) := by
  obtain ⟨b, h1, h2⟩ := ev_pg h e ha hb
  exact ev_ixT h1 ev_c h2 (vs_1 hk)
abbrev rLn (K : PySem.W.Frag) : List V → Hp → VK → Prop := fun xs H Q => ∃ x n, xs = [x] ∧ LenV K x H n ∧ Q (.int n) H
theorem ev_lnT {xs : List V} (ha : Ev ta σ H (.ref a)) (h : SqT K H a xs) : Ev (tCB (rLn K) (tCons ta tNil)) σ H (.int (xs.length : Int)) := fun H1 e Q q =>
  ha H1 e _ fun H2 e2 => ⟨_, _, rfl, .inr ⟨xs, ex_t (e.trans e2) h, rfl⟩, q H2 e2⟩
theorem ev_lnL {xs : List V} (ha : Ev ta σ H (.ref a)) (h : SqL K H a xs) : Ev (tCB (rLn K) (tCons ta tNil)) σ H (.int (xs.length : Int)) := fun H1 e Q q =>
  ha H1 e _ fun H2 e2 => ⟨_, _, rfl, .inl ⟨xs, ex_l (e.trans e2) h, rfl⟩, q H2 e2⟩
theorem ev_lnP (h : PgT K H a p) (ha : Ev ta σ H (.ref a)) : Ev (tCB (rLn K) (tCons ta tNil)) σ H (.int (p.length : Int)) := by
  obtain ⟨xs, h1, h2⟩ := h.len
  have := ev_lnT ha h1
  rw [h2] at this
  exact this
theorem ev_i0 {g : Int → Int → V} {i j : Int} (ha : Ev ta σ H (.int i)) (hb : Ev tb σ H (.int j)) : Ev (tOp (rI0 g) ta tb) σ H (g i j) := ev_op ha hb rv_I0
theorem et_i0 {g : Int → Int → Bool} {i j : Int} (ha : Ev ta σ H (.int i)) (hb : Ev tb σ H (.int j)) : EvT (tTest (tOp (rI0 fun i j => .bl (g i j)) ta tb)) σ H (g i j) := et_test (ev_i0 ha hb)
theorem et_eq {x y : V} (ha : Ev ta σ H x) (hb : Ev tb σ H y) (h : scal x y = true) : EvT (tTest (tOp rEq ta tb)) σ H (decide (x = y)) := et_test (ev_op ha hb (rv_eq h))
theorem et_ne {x y : V} (ha : Ev ta σ H x) (hb : Ev tb σ H y) (h : scal x y = true) : EvT (tTest (tOp rNe ta tb)) σ H (!decide (x = y)) := et_test (ev_op ha hb (rv_ne h))
theorem et_inT {xs : List V} {x : V} (ha : Ev ta σ H x) (hb : EvU tb σ H xs) (hx : flatV x = true) (hf : xs.all flatV = true) : EvT (tTest (tOp (rIn K false) ta tb)) σ H (inV x xs) := et_test (ev_inU ha hb hx hf)
theorem et_inL {xs : List V} {x : V} (ha : Ev ta σ H x) (hb : EvL tb σ H xs) (hx : flatV x = true) (hf : xs.all flatV = true) : EvT (tTest (tOp (rIn K false) ta tb)) σ H (inV x xs) := et_test (ev_opL ha hb fun _ _ h _ => rv_isL (sq_of h) hx hf)
theorem et_inK {xs : List V} {x : V} (ha : Ev ta σ H x) (hb : Ev tb σ H (.ref a)) (h : SqT K H a xs) (hx : flatV x = true) (hf : xs.all flatV = true) : EvT (tTest (tOp (rIn K false) ta tb)) σ H (inV x xs) := et_test (ev_op ha hb (rv_isT h hx hf))
theorem ev_inK {xs : List V} {x : V} (ha : Ev ta σ H x) (hb : Ev tb σ H (.ref a)) (h : SqT K H a xs) (hx : flatV x = true) (hf : xs.all flatV = true) : Ev (tOp (rIn K false) ta tb) σ H (.bl (inV x xs)) := ev_op ha hb (rv_isT h hx hf)
end
/-! ### where a program stands -/
def gstep (p : List In) (j : Nat) : Nat := match p[j]? with
  | some (.go t) => t
  | _ => j
def gn (p : List In) (i : Nat) : Nat → Nat
  | 0 => i
  | k + 1 => gstep p (gn p i k)
def In.isGo : In → Bool
  | .go _ => true
  | _ => false
def In.isEnd : In → Bool
  | .go _ => true | .stop => true
  | _ => false
def ends (p : List In) (j : Nat) : Bool := match p[j]? with
  | none => true
  | some x => x.isEnd
/-- where it stands, its length for the end -/
def stE (p : List In) (i : Nat) : Nat := if ends p (gn p i (p.length + 1)) then p.length else gn p i (p.length + 1)
def toI (p : List In) (e : Nat) : Int := if e = p.length then -1 else (e : Int)
def Pok (cells : Nat) (p : List In) : Prop := 0 < p.length ∧ ∀ i ∈ p, i.ok cells p.length
/-- no touch in it -/
def NoT (p : List In) : Prop := ∀ i ∈ p, i.isTouch = false
theorem gstep_le {cells : Nat} {p : List In} (h : Pok cells p) {j : Nat} (hj : j ≤ p.length) : gstep p j ≤ p.length := by
  unfold gstep
  split
  · rename_i t e
    have := h.2 _ (List.mem_of_getElem? e)
    exact this
  · exact hj
theorem gn_le {cells : Nat} {p : List In} (h : Pok cells p) {i : Nat} (hi : i ≤ p.length) : ∀ k, gn p i k ≤ p.length
  | 0 => hi
  | k + 1 => gstep_le h (gn_le h hi k)
theorem w_go (i : In) : decide (V.str i.w = V.str "go") = i.isGo := by cases i <;> kernel_rfl
def In.isStop : In → Bool
  | .stop => true
  | _ => false
theorem w_stop (i : In) : decide (V.str i.w = V.str "stop") = i.isStop := by cases i <;> kernel_rfl
theorem w_sg (i : In) : inV (V.str i.w) [.str "stop", .str "go"] = i.isEnd := by cases i <;> kernel_rfl
def nV (l : List Nat) : List V := l.map fun x => V.int (x : Nat)
theorem nV_get {l : List Nat} {i : Nat} {x : V} (h : (nV l)[i]? = some x) : ∃ y, l[i]? = some y ∧ x = V.int (y : Nat) := by
  unfold nV at h
  rw [List.getElem?_map] at h
  cases hh : l[i]? with
  | none => rw [hh] at h; cases h
  | some z => rw [hh] at h; exact ⟨z, rfl, (Option.some.inj h).symm⟩
theorem nV_len (l : List Nat) : (nV l).length = l.length := List.length_map _
theorem inV_nV {y : Nat} : ∀ {F : List Nat}, inV (.int (y : Nat)) (nV F) = decide (y ∈ F)
  | [] => rfl
  | x :: F => by
    have ih := inV_nV (y := y) (F := F)
    show (((x : Int) == (y : Int)) || inV (.int (y : Nat)) (nV F)) = decide (y ∈ x :: F)
    rw [ih, Bool.eq_iff_iff]
    simp only [Bool.or_eq_true, decide_eq_true_eq, List.mem_cons, beq_iff_eq]
    constructor
    · rintro (h | h)
      · exact .inl (by omega)
      · exact .inr h
    · rintro (h | h)
      · exact .inl (by omega)
      · exact .inr h
theorem nV_flat (F : List Nat) : (nV F).all flatV = true := by
  rw [List.all_eq_true]
  intro x hx
  obtain ⟨y, _, rfl⟩ := List.mem_map.mp hx
  rfl
end Fm
set_option Elab.async false
set_option linter.all false
set_option maxRecDepth 100000
namespace Fm
open PySem L2
def top (i : Nat) : Stmt := PySem.Challenge.pw_fademill_k11_whole_texts.main.body.getD i (.Pass ⟨0, 0, 0, 0⟩)
structure Txt (K : PySem.W.Frag) (mg : Str → Option Value) : Prop where
  z_int : mg "int" = none
  z_len : mg "len" = none
  z_range : mg "range" = none
  z_isinstance : mg "isinstance" = none
  z_bool : mg "bool" = none
  z_tuple : mg "tuple" = none
  z_list : mg "list" = none
  z_str : mg "str" = none
  z_any : mg "any" = none
  z_sorted : mg "sorted" = none
  z_reversed : mg "reversed" = none
  z_enumerate : mg "enumerate" = none
  z_all : mg "all" = none
  z_zip : mg "zip" = none
  z_max : mg "max" = none
  z_min : mg "min" = none
  z_set : mg "set" = none
  c_MOST_CELLS : ∃ t, mg "MOST_CELLS" = some (.int 4 t)
  c_MILLION : ∃ t, mg "MILLION" = some (.int 1000000 t)
  c_MOST_FADE : ∃ t, mg "MOST_FADE" = some (.int 8 t)
  c_MOST_KEPT : ∃ t, mg "MOST_KEPT" = some (.int 4000 t)
  c_MOST_DIGITS : ∃ t, mg "MOST_DIGITS" = some (.int 7 t)
  c_DIGITS : ∃ t, mg "DIGITS" = some (.str "0123456789" t)
  c_LINE_END : ∃ t, mg "LINE_END" = some (.str "\n" t)
end Fm
set_option Elab.async false
set_option linter.all false
set_option maxRecDepth 100000
set_option maxHeartbeats 1000000
namespace Fm
open PySem L2 Evl
/-- a def that may be called by its name -/
structure Cal (P : Program) (w : World) (K : PySem.W.Frag) (mg : Str → Option Value) (base : Heap) (CX : CXT) (k : Nat) (x : Str) (f : Addr) (fd : FuncData) (ps : List Str) (sp : Sp) : Prop where
  G : FnOk P w K mg base CX k f fd ps sp
  g : mg x = some (.ref f)
  kp : PySem.W.keepIn K (.ref f) = true
  b : Binds K fd ps []
theorem tyx_up {K : PySem.W.Frag} {H H' : Hp} {x : V} {t : Value} (e : Ex H H') (h : TyX K H x t) : TyX K H' x t := by
  cases h with
  | base h =>
    refine .base ?_
    cases h with
    | non => exact .non
    | bl b => exact .bl b
    | int i => exact .int i
    | str s => exact .str s
    | flt s => exact .flt s
    | lst a => exact .lst (e _ _ a)
    | frz a => exact .frz (e _ _ a)
    | tup a => exact .tup (e _ _ a)
    | dK a => exact .dK (e _ _ a)
    | dT a => exact .dT (e _ _ a)
    | ins a b c d f g => exact .ins (e _ _ a) b c d f g
  | byt b => exact .byt b
  | set a => exact .set (e _ _ a)
  | kList a b => exact .kList a b
  | kTuple a b => exact .kTuple a b
  | kDict a b => exact .kDict a b
  | fTuple a => exact .fTuple (e _ _ a)
  | fDict a => exact .fDict (e _ _ a)
theorem ty_tup {K : PySem.W.Frag} {H : Hp} {a : Addr} {xs : List V} (h : SqT K H a xs) : TyX K H (.ref a) (.type "tuple") := by
  rcases h with (h | ⟨o, h⟩) | ⟨o, _, _, h, c, _⟩
  · exact .base (.tup h)
  · exact .fTuple h
  · exact .kTuple h c
theorem ty_lst {K : PySem.W.Frag} {H : Hp} {a : Addr} {xs : List V} (h : SqL K H a xs) : TyX K H (.ref a) (.type "list") := by
  rcases h with (h | ⟨o, h⟩) | ⟨o, _, _, h, c, _⟩
  · exact .base (.lst h)
  · exact .base (.frz h)
  · exact .kList h c
/-- an int, or what is none -/
def IntV (K : PySem.W.Frag) (H : Hp) (x : V) : Option Int → Prop
  | some n => x = .int n
  | none => ∃ t, TyX K H x (.type t) ∧ (kitB t "int" = some false ∨ kitB t "int" = some true ∧ kitB t "bool" = some true)
theorem IntV.non {K : PySem.W.Frag} {H : Hp} : IntV K H .non none := ⟨"NoneType", .base .non, .inl (by decide +kernel)⟩
theorem IntV.bl {K : PySem.W.Frag} {H : Hp} {b : Bool} : IntV K H (.bl b) none := ⟨"bool", .base (.bl b), .inr ⟨by decide +kernel, by decide +kernel⟩⟩
theorem IntV.tup {K : PySem.W.Frag} {H : Hp} {a : Addr} {xs : List V} (h : SqT K H a xs) : IntV K H (.ref a) none := ⟨"tuple", ty_tup h, .inl (by decide +kernel)⟩
theorem IntV.up {K : PySem.W.Frag} {H H' : Hp} {x : V} {o : Option Int} (e : Ex H H') (h : IntV K H x o) : IntV K H' x o := by
  cases o with
  | some n => exact h
  | none =>
    obtain ⟨t, a, b⟩ := h
    exact ⟨t, tyx_up e a, b⟩
section
variable {K : PySem.W.Frag} {σ : L2.St} {H : Hp} {ta tb tc te : TE} {a b : Addr}
theorem ev_isi {x : V} {t n : String} {b : Bool} (ha : Ev ta σ H x) (ty : TyX K H x (.type t)) (e : kitB t n = some b) : Ev (tCB (rIsi K) (tCons ta (tCons (tC (.ty n)) tNil))) σ H (.bl b) := fun H1 e1 _ q =>
  ha H1 e1 _ fun H2 e2 => ⟨x, _, _, _, b, rfl, .ty n, tyx_up (e1.trans e2) ty, kit_ty e, q H2 e2⟩
theorem ev_chain {g g' : Int → Int → Bool} {i j k : Int} (ha : Ev ta σ H (.int i)) (hb : Ev tb σ H (.int j)) (hc : Ev tc σ H (.int k)) : Ev (tChain (rI0 fun i j => .bl (g i j)) (rI0 fun i j => .bl (g' i j)) ta tb tc) σ H (.bl (g i j && g' j k)) := fun H1 e1 Q q =>
  ha H1 e1 _ fun H2 e2 => hb H2 (e1.trans e2) _ fun H3 e3 => ⟨i, j, rfl, rfl, g i j, rfl, by
    cases h : g i j with
    | true => exact iteT (hc H3 ((e1.trans e2).trans e3) _ fun H4 e4 => ⟨j, k, rfl, rfl, by
        have := q H4 ((e2.trans e3).trans e4)
        rw [h] at this
        exact this⟩)
    | false =>
      refine iteF ?_
      have := q H3 (e2.trans e3)
      rw [h] at this
      exact this⟩
/-- a call -/
theorem s_call {sp : Sp} {E : XK} {ta : TA} {vs : List V} {D : Ends} (h : EvA ta σ H vs) (k : ∀ H1, Ex H H1 → sp (vs ++ []) H1 (fun _ H2 => D.nx σ H2) E) : tDrop (tCall sp [] E ta) D σ H := h H (Ex.refl H) _ k
theorem q_call {sp : Sp} {E : XK} {ta : TA} {vs : List V} {D : Ends} {tz : TS} (h : EvA ta σ H vs) (k : ∀ H1, Ex H H1 → sp (vs ++ []) H1 (fun _ H2 => tz D σ H2) E) : tSeq (tDrop (tCall sp [] E ta)) tz D σ H := h H (Ex.refl H) _ k
theorem q_callA {sp : Sp} {E : XK} {ta : TA} {vs : List V} {D : Ends} {tz : TS} {i : Nat} (h : EvA ta σ H vs) (k : ∀ H1, Ex H H1 → sp (vs ++ []) H1 (fun v H2 => tz D (σ.set i (some v)) H2) E) : tSeq (tAsg (tCall sp [] E ta) (gName i)) tz D σ H := h H (Ex.refl H) _ k
theorem s_callA {sp : Sp} {E : XK} {ta : TA} {vs : List V} {D : Ends} {i : Nat} (h : EvA ta σ H vs) (k : ∀ H1, Ex H H1 → sp (vs ++ []) H1 (fun v H2 => D.nx (σ.set i (some v)) H2) E) : tAsg (tCall sp [] E ta) (gName i) D σ H := h H (Ex.refl H) _ k
theorem s_callR {sp : Sp} {E : XK} {ta : TA} {vs : List V} {D : Ends} (h : EvA ta σ H vs) (k : ∀ H1, Ex H H1 → sp (vs ++ []) H1 (fun v H2 => D.rt v H2) E) : tRet (tCall sp [] E ta) D σ H := h H (Ex.refl H) _ k
theorem ev_callV {sp : Sp} {E : XK} {ta : TA} {vs : List V} {z : V} (h : EvA ta σ H vs) (hs : ∀ H1, Ex H H1 → ∀ Q : VK, (∀ H2, Ex H1 H2 → Q z H2) → sp (vs ++ []) H1 Q E) : Ev (tCall sp [] E ta) σ H z := fun H1 e Q q =>
  h H1 e _ fun H2 e2 => hs H2 (e.trans e2) Q fun H3 e3 => q H3 (e2.trans e3)
end
end Fm
set_option Elab.async false
set_option linter.all false
set_option maxRecDepth 100000
set_option maxHeartbeats 1000000
namespace Fm
open PySem L2 Evl
section
variable {K : PySem.W.Frag} {σ : L2.St} {H : Hp} {ta tb te : TE} {D : Ends} {tz : TS}
theorem el_rep {xs : List V} {k : Nat} (ha : EvL ta σ H xs) (hb : ∀ H1, Ex H H1 → Ev tb σ H1 (.int (k : Int))) (hz : xs.length * k ≤ 100000) (hk : k ≤ 100000) : EvL (tOp rRep ta tb) σ H (List.replicate k xs).flatten := fun H1 e Q q =>
  ha H1 e _ fun p H2 hp e2 h2 => hb H2 (e.trans e2) H2 (Ex.refl H2) _ fun H3 e3 => ⟨p, (k : Int), xs, rfl, rfl, e3 _ _ h2, by omega, by omega, sz_of (by simpa using hz), fun r hr => by
    refine q r _ (fresh_back (e2.trans e3) hr) ((e2.trans e3).trans (Ex.new hr)) ?_
    rw [upd_same, Int.toNat_natCast]⟩
theorem el_cat {xs ys : List V} (ha : EvL ta σ H xs) (hb : EvL tb σ H ys) (hz : xs.length + ys.length ≤ 100000) : EvL (tOp rCat ta tb) σ H (xs ++ ys) := fun H1 e Q q =>
  ha H1 e _ fun p H2 hp e2 h2 => hb H2 (e.trans e2) _ fun r H3 hr e3 h3 => ⟨p, r, xs, ys, rfl, rfl, e3 _ _ h2, h3, sz_of hz, fun u hu =>
    q u _ (fresh_back (e2.trans e3) hu) ((e2.trans e3).trans (Ex.new hu)) upd_same⟩
/-- list + list, the left one already there -/
theorem el_cat1 {a : Addr} {xs ys : List V} (ha : Ev ta σ H (.ref a)) (h : H a = some (.lst xs)) (hb : EvL tb σ H ys) (hz : xs.length + ys.length ≤ 100000) : EvL (tOp rCat ta tb) σ H (xs ++ ys) := fun H1 e Q q =>
  ha H1 e _ fun H2 e2 => hb H2 (e.trans e2) _ fun r H3 hr e3 h3 => ⟨a, r, xs, ys, rfl, rfl, e3 _ _ (e2 _ _ (e _ _ h)), h3, sz_of hz, fun u hu =>
    q u _ (fresh_back (e2.trans e3) hu) ((e2.trans e3).trans (Ex.new hu)) upd_same⟩
/-- the left one new, the right one there -/
theorem el_cat2 {a : Addr} {xs ys : List V} (ha : EvL ta σ H xs) (hb : Ev tb σ H (.ref a)) (h : H a = some (.lst ys)) (hz : xs.length + ys.length ≤ 100000) : EvL (tOp rCat ta tb) σ H (xs ++ ys) := fun H1 e Q q =>
  ha H1 e _ fun p H2 hp e2 h2 => hb H2 (e.trans e2) _ fun H3 e3 => ⟨p, a, xs, ys, rfl, rfl, e3 _ _ h2, e3 _ _ (e2 _ _ (e _ _ h)), sz_of hz, fun u hu =>
    q u _ (fresh_back (e2.trans e3) hu) ((e2.trans e3).trans (Ex.new hu)) upd_same⟩
abbrev rTpl (K : PySem.W.Frag) : List V → Hp → VK → Prop := fun xs H Q => ∃ p ys, xs = [.ref p] ∧ ((SqL K H p ys ∧ ∀ l, H l = none → Q (.ref l) (upd H l (.tup ys))) ∨ (SqT K H p ys ∧ Q (.ref p) H))
/-- tuple(list) -/
theorem eu_tpl {a : Addr} {xs : List V} (ha : Ev ta σ H (.ref a)) (h : SqL K H a xs) : EvU (tCB (rTpl K) (tCons ta tNil)) σ H xs := fun H1 e Q q =>
  ha H1 e _ fun H2 e2 => ⟨a, xs, rfl, .inl ⟨ex_l (e.trans e2) h, fun l hl => q l _ (fresh_back e2 hl) (e2.trans (Ex.new hl)) upd_same⟩⟩
theorem eu_tplN {xs : List V} (ha : EvL ta σ H xs) : EvU (tCB (rTpl K) (tCons ta tNil)) σ H xs := fun H1 e Q q =>
  ha H1 e _ fun p H2 hp e2 h2 => ⟨p, xs, rfl, .inl ⟨sq_of h2, fun l hl => q l _ (fresh_back e2 hl) (e2.trans (Ex.new hl)) upd_same⟩⟩
abbrev rLs (K : PySem.W.Frag) : List V → Hp → VK → Prop := fun xs H Q => ∃ p ys, xs = [.ref p] ∧ (SqL K H p ys ∨ SqT K H p ys) ∧ ∀ l, H l = none → Q (.ref l) (upd H l (.lst ys))
theorem el_ls {a : Addr} {xs : List V} (ha : Ev ta σ H (.ref a)) (h : SqL K H a xs) : EvL (tCB (rLs K) (tCons ta tNil)) σ H xs := fun H1 e Q q =>
  ha H1 e _ fun H2 e2 => ⟨a, xs, rfl, .inl (ex_l (e.trans e2) h), fun l hl => q l _ (fresh_back e2 hl) (e2.trans (Ex.new hl)) upd_same⟩
abbrev rIsNn : R2 := fun x y H Q => y = .non ∧ Q (.bl (decide (x = .non))) H
theorem et_isN {x : V} (ha : Ev ta σ H x) : EvT (tTest (tOp rIsNn ta (tC .non))) σ H (decide (x = .non)) := et_test (ev_op ha ev_c fun H1 _ _ q => ⟨rfl, q H1 (Ex.refl H1)⟩)
theorem ev_isN {x : V} (ha : Ev ta σ H x) : Ev (tOp rIsNn ta (tC .non)) σ H (.bl (decide (x = .non))) := ev_op ha ev_c fun H1 _ _ q => ⟨rfl, q H1 (Ex.refl H1)⟩
/-- sorted(list of ints) -/
theorem q_sorted {P : Prop} {ns : List Int} (ha : EvL ta σ H (ns.map V.int)) (k : ∀ (ns' : List Int) p H1, ns'.Perm ns → ns'.Pairwise (· ≤ ·) → H p = none → Ex H H1 → H1 p = some (.lst (ns'.map V.int)) → D.rt (.ref p) H1) : tRet (tCB (rSortedI K) (tCons ta tNil)) D σ H :=
  ha H (Ex.refl H) _ fun q H1 hq e h1 => ⟨q, ns, rfl, sq_of h1, fun ns' p hp hs hn => k ns' p _ hp hs (fresh_back e hn) (e.trans (Ex.new hn)) upd_same⟩
theorem ev_succ {n : Nat} (ha : Ev ta σ H (.int (n : Nat))) : Ev (tOp (rI0 fun i j => .int (i + j)) ta (tC (.int 1))) σ H (.int ((n + 1 : Nat) : Int)) := by
  have := ev_i0 (g := fun i j => .int (i + j)) ha (ev_c (v := .int 1) (σ := σ) (H := H))
  exact this
theorem q_app2 {l : Addr} {xs : List V} {v : V} (hl : H l = some (.lst xs)) (ha : Ev ta σ H (.ref l)) (h : Ev te σ H v) (hz : xs.length < 100000) (k : ∀ H1, Ex H H1 → tz D σ (upd H1 l (.lst (xs ++ [v])))) :
    tSeq (tDrop (tBM K "list" rAppend ta (tCons te tNil))) tz D σ H := q_app hl ha h hz k
end
end Fm
set_option Elab.async false
set_option linter.all false
set_option maxRecDepth 100000
set_option maxHeartbeats 400000
namespace Fm
open PySem PySem.Spec PyProof.Rows L2 Evl TL
/-! texts: rules -/
section
variable {X : Cx} {K : PySem.W.Frag}
theorem op_mulS : OpR X (binaryOp .Mult) (fun x y H Q => ∃ (a : Str) (n : Int), x = .str a ∧ y = .int n ∧ MulOk a n ∧ Q (.str (Txt.mul a n)) H) := by
  intro pins s σ H x y v u Q I rx ry h
  obtain ⟨a, n, rfl, rfl, ok, q⟩ := h
  obtain ⟨t, rfl⟩ := rx
  obtain ⟨t', rfl⟩ := ry
  exact PySem.SB.mul ok fun t2 k => ⟨.str _, H, I.tok k, ⟨t2, rfl⟩, q⟩
def rJoin (K : PySem.W.Frag) : V → List V → Hp → VK → Prop := fun x xs H Q => ∃ a p, ∃ ys : List Str, x = .str a ∧ xs = [.ref p] ∧ (SqL K H p (ys.map V.str) ∨ SqT K H p (ys.map V.str)) ∧ (ys.map (·.length)).sum + ys.length * a.length ≤ 16777216 ∧ Q (.str (Txt.join a ys)) H
theorem mt_joinK (hK : X.K = K) : MtR X "str.join" (rJoin K) := by
  subst hK
  exact mt_join
theorem call_strA : CallR X (.type "str") (fun xs H Q => (∃ i, xs = [.int i] ∧ i.natAbs.log2 < 1920 ∧ Q (.str (toString i)) H) ∨ ∃ a, xs = [.str a] ∧ Q (.str a) H) := fun pins s σ H xs us Q I r h => h.elim (fun z => call_str_int pins s σ H xs us Q I r z) fun z => SkE.call_str_str pins s σ H xs us Q I r z
/-- len(set(xs)) of ints -/
def dist (ns : List Int) : Nat := (firstMet (fun i => ns.getD i 0) ns.length).length
def tLenSetF (K : PySem.W.Frag) (ta : TE) : TE := fun σ H Q => ta σ H fun x H1 => ∃ (l : Addr) (ns : List Int), x = V.ref l ∧ SqL K H1 l (ns.map V.int) ∧ ns.length < 64 ∧ Q (.int (dist ns : Nat)) H1
theorem pe_lenSetF (hK : X.K = K) {a : Expr} {ta : TE} {p p2 q pos : Pos} (hc : X.calm = true) (hg : Gl X "len") (hm : X.mg "len" = none) (hg2 : Gl X "set") (hm2 : X.mg "set" = none) (ha : PE X a ta)
    (na : starEach [a] X.env = (false, eval a X.env) :: starEach [] X.env := by rfl) : PE X (.Call (.Name "len" p) [.Call (.Name "set" p2) [a] [] q] [] pos) (tLenSetF K ta) := by
  subst hK
  refine ⟨fun pins s σ H Q I h => ?_⟩
  refine Call_ (ld_blt I hg hm PySem.boot_len ?_)
  refine PyProof.Rows.callWith_builtin1 (PyProof.Rows.args_cons ?_ rfl) rfl rfl
  refine Call_ (ld_blt I hg2 hm2 PyProof.Rows.boot_set ?_)
  refine PyProof.Rows.callWith_type1 (PyProof.Rows.args_cons (thn (ha.run pins s σ H _ I h) fun v s1 ⟨x, H1, I1, r1, q1⟩ => PyProof.Rows.args_nil ?_) na) na rfl
  obtain ⟨l, ns, rfl, hq, h1, q1⟩ := q1
  cases r1
  obtain ⟨its, r, pl, hz⟩ := I1.list hq
  have hl : its.toArray.size = ns.length := by rw [List.size_toArray, ← r.length, List.length_map]
  refine call_set_list (I1.ok.hd hc) pl.isList (ns := ns) (by simpa using r.ints) (by unfold scanBound; omega) fun h' tk hS hk => ?_
  rw [hl] at hS
  have hd : (firstMet (fun i => ns.getD i 0) ns.length).length ≤ ns.length := firstMet_length_le _ _
  refine PyProof.Rows.args_nil ?_
  obtain ⟨o, es, ep, t, ho, hex, hdd, _, _, _, hf, hn⟩ := hS
  have I2 : Inv X pins σ H1 { s1 with heap := h', toks := tk } := I1.kept fun b o e => hk b o (Heap.lt_size e) e
  refine call_len_set ho hex hdd hf (by rw [hn]; omega) ⟨.int (dist ns : Nat), H1, I2.tok _, ⟨_, by rw [hn]; rfl⟩, q1⟩
end
/-! numbers in texts -/
abbrev DIG : Str := "0123456789"
def sgn (c : Nat) : Str := ⟨#[c]⟩
/-- the digits are as they should be: few, and no needless 0 ahead -/
def plainL (l : List Nat) : Bool := decide (1 ≤ l.length) && decide (l.length ≤ 7) && l.all (fun c => decide (c ∈ DIG.cps.toList)) && (decide (l = [48]) || !decide (l.head? = some 48))
def val (l : List Nat) : Nat := NumText.digitsVal l
theorem dig_iff {c : Nat} : c ∈ DIG.cps.toList ↔ 48 ≤ c ∧ c ≤ 57 := by
  have e : DIG.cps.toList = [48, 49, 50, 51, 52, 53, 54, 55, 56, 57] := by decide +kernel
  rw [e]
  simp only [List.mem_cons, List.not_mem_nil, or_false]
  omega
theorem val_snoc (l : List Nat) (c : Nat) : val (l ++ [c]) = val l * 10 + (c - 48) := by
  unfold val NumText.digitsVal
  rw [List.foldl_append]
  rfl
theorem rev_ind {α : Type} {P : List α → Prop} (h0 : P []) (h1 : ∀ l a, P l → P (l ++ [a])) (l : List α) : P l := by
  have key : ∀ m : List α, P m.reverse := by
    intro m
    induction m with
    | nil => exact h0
    | cons a m ih =>
      rw [List.reverse_cons]
      exact h1 _ _ ih
  have := key l.reverse
  rwa [List.reverse_reverse] at this
theorem val_pos : ∀ (l : List Nat), (∀ c ∈ l, 48 ≤ c ∧ c ≤ 57) → l ≠ [] → l.head? ≠ some 48 → 1 ≤ val l := by
  intro l
  refine rev_ind (P := fun l => (∀ c ∈ l, 48 ≤ c ∧ c ≤ 57) → l ≠ [] → l.head? ≠ some 48 → 1 ≤ val l) ?_ ?_ l
  · intro _ h _; exact absurd rfl h
  · intro l c ih h _ hh
    rw [val_snoc]
    by_cases hl : l = []
    · subst hl
      have := h c (by simp)
      have : c ≠ 48 := fun z => hh (by rw [z]; rfl)
      show 1 ≤ val [] * 10 + (c - 48)
      omega
    · have := ih (fun d hd => h d (List.mem_append_left _ hd)) hl (fun z => hh (by rw [List.head?_append, z]; rfl))
      omega
theorem canon : ∀ (l : List Nat), (∀ c ∈ l, 48 ≤ c ∧ c ≤ 57) → l ≠ [] → (l = [48] ∨ l.head? ≠ some 48) → numL (val l) = l := by
  intro l
  refine rev_ind (P := fun l => (∀ c ∈ l, 48 ≤ c ∧ c ≤ 57) → l ≠ [] → (l = [48] ∨ l.head? ≠ some 48) → numL (val l) = l) ?_ ?_ l
  · intro _ h _; exact absurd rfl h
  · intro l c ih h _ hh
    have hc := h c (by simp)
    rw [val_snoc]
    by_cases hl : l = []
    · subst hl
      have e : val [] * 10 + (c - 48) = c - 48 := by
        show 0 * 10 + (c - 48) = c - 48
        omega
      rw [e, numL_lt (by omega)]
      show [48 + (c - 48)] = [c]
      congr 1
      omega
    · have hl48 : l.head? ≠ some 48 := by
        rcases hh with hh | hh
        · have := congrArg List.length hh
          rw [List.length_append] at this
          have : l.length = 0 := by simpa using this
          exact absurd (List.length_eq_zero_iff.mp this) hl
        · intro z
          exact hh (by rw [List.head?_append, z]; rfl)
      have hd : ∀ d ∈ l, 48 ≤ d ∧ d ≤ 57 := fun d hd => h d (List.mem_append_left _ hd)
      have hp := val_pos l hd hl hl48
      rw [numL_step (by omega)]
      have e1 : (val l * 10 + (c - 48)) / 10 = val l := by omega
      have e2 : 48 + (val l * 10 + (c - 48)) % 10 = c := by omega
      rw [e1, e2, ih hd hl (.inr hl48)]
theorem plain_canon {l : List Nat} (h : plainL l = true) : numL (val l) = l := by
  unfold plainL at h
  simp only [Bool.and_eq_true, Bool.or_eq_true, decide_eq_true_eq, Bool.not_eq_true', decide_eq_false_iff_not, List.all_eq_true] at h
  obtain ⟨⟨⟨h1, h2⟩, h3⟩, h4⟩ := h
  exact canon l (fun c hc => dig_iff.mp (h3 c hc)) (fun z => by rw [z] at h1; exact absurd h1 (by decide)) h4
theorem plain_text {d : Str} (h : plainL (tl d) = true) : d = Str.ofString (toString ((val (tl d) : Nat) : Int)) := ext_tl (by rw [tl_num, plain_canon h])
theorem plain_int {d : Str} (h : plainL (tl d) = true) : PySem.intText? d = some ((val (tl d) : Nat) : Int) := by
  have h1 := plain_canon h
  have h2 : (tl d).length ≤ 7 := by
    unfold plainL at h
    simp only [Bool.and_eq_true, decide_eq_true_eq] at h
    exact h.1.1.2
  have e := int_num (n := val (tl d)) (by rw [h1]; omega)
  rw [← plain_text h] at e
  exact e
/-- a number and its own text -/
theorem numL_plain {n : Nat} (h : n < 10000000) : plainL (numL n) = true := by
  have hd := numL_digits n
  have hne := numL_ne n
  have hl := numL_len (n := n) (k := 7) (by decide) h
  unfold plainL
  simp only [Bool.and_eq_true, Bool.or_eq_true, decide_eq_true_eq, Bool.not_eq_true', decide_eq_false_iff_not, List.all_eq_true]
  refine ⟨⟨⟨?_, hl⟩, fun c hc => dig_iff.mpr (hd c hc)⟩, ?_⟩
  · cases e : numL n with
    | nil => exact absurd e hne
    | cons a r => simp
  · by_cases h10 : n < 10
    · by_cases h0 : n = 0
      · subst h0
        left
        decide +kernel
      · right
        rw [numL_lt h10]
        intro z
        have : 48 + n = 48 := Option.some.inj z
        omega
    · right
      intro z
      -- the first digit of a number of two digits and more
      have key : ∀ (m : Nat), 0 < m → (numL m).head? ≠ some 48 := by
        intro m
        induction m using Nat.strongRecOn with
        | ind m ih =>
          intro hm z
          by_cases h9 : m < 10
          · rw [numL_lt h9] at z
            have : 48 + m = 48 := Option.some.inj z
            omega
          · rw [numL_step (by omega)] at z
            have hq := ih (m / 10) (by omega) (by omega)
            cases e : numL (m / 10) with
            | nil => exact numL_ne _ e
            | cons a r =>
              rw [e] at z hq
              exact hq z
      exact key n (by omega) z
end Fm
set_option Elab.async false
set_option linter.all false
set_option maxRecDepth 100000
namespace Fm
/-! ### arithmetic of lists -/
theorem nodup_le : ∀ (n : Nat) (l : List Nat), l.Nodup → (∀ x ∈ l, x < n) → l.length ≤ n
  | 0, l, _, h => by
    cases l with
    | nil => simp
    | cons a l => exact absurd (h a (by simp)) (by omega)
  | n + 1, l, hd, h => by
    by_cases hm : n ∈ l
    · have h1 := List.length_erase_of_mem hm
      have h2 := nodup_le n (l.erase n) (hd.erase n) fun x hx => by
        have h3 := h x (List.mem_of_mem_erase hx)
        have h4 : x ≠ n := fun e => by
          subst e
          exact (List.Nodup.not_mem_erase hd) hx
        omega
      have := List.length_pos_of_mem hm
      omega
    · have := nodup_le n l hd fun x hx => by
        have h3 := h x hx
        have h4 : x ≠ n := fun e => hm (e ▸ hx)
        omega
      omega
theorem pigeon {n : Nat} (f : Nat → Nat) (h : ∀ i, i ≤ n → f i < n) : ∃ a b, a < b ∧ b ≤ n ∧ f a = f b := by
  refine Classical.byContradiction fun hn => ?_
  have inj : ∀ a b, a ≤ n → b ≤ n → f a = f b → a = b := fun a b ha hb e => by
    rcases Nat.lt_trichotomy a b with z | z | z
    · exact absurd ⟨a, b, z, hb, e⟩ hn
    · exact z
    · exact absurd ⟨b, a, z, ha, e.symm⟩ hn
  have hd : ((List.range (n + 1)).map f).Nodup := by
    refine List.nodup_iff_pairwise_ne.mpr ?_
    rw [List.pairwise_map]
    refine List.Pairwise.imp_of_mem ?_ List.nodup_range
    intro a b ha hb hab e
    rw [List.mem_range] at ha hb
    exact hab (inj a b (by omega) (by omega) e)
  have := nodup_le n _ hd fun x hx => by
    obtain ⟨i, hi, rfl⟩ := List.mem_map.mp hx
    rw [List.mem_range] at hi
    exact h i (by omega)
  rw [List.length_map, List.length_range] at this
  omega
/-! ### where a program stands, its laws -/
def isgo (p : List In) (j : Nat) : Prop := ∃ t, p[j]? = some (.go t)
theorem gstep_not {p : List In} {j : Nat} (h : ¬ isgo p j) : gstep p j = j := by
  unfold gstep
  split
  · rename_i t e
    exact absurd ⟨t, e⟩ h
  · rfl
theorem gn_add (p : List In) (i a : Nat) : ∀ b, gn p (gn p i a) b = gn p i (a + b)
  | 0 => rfl
  | b + 1 => by
    show gstep p (gn p (gn p i a) b) = gstep p (gn p i (a + b))
    rw [gn_add p i a b]
theorem gn_stay {p : List In} {i k : Nat} (h : ¬ isgo p (gn p i k)) : ∀ b, gn p i (k + b) = gn p i k
  | 0 => rfl
  | b + 1 => by
    show gstep p (gn p i (k + b)) = _
    rw [gn_stay h b, gstep_not h]
theorem go_before {p : List In} {i k m : Nat} (h : isgo p (gn p i k)) (hm : m ≤ k) : isgo p (gn p i m) := by
  refine Classical.byContradiction fun hn => hn ?_
  have := gn_stay hn (k - m)
  rw [show m + (k - m) = k by omega] at this
  rw [← this]
  exact h
theorem isgo_lt {p : List In} {j : Nat} (h : isgo p j) : j < p.length := by
  obtain ⟨t, e⟩ := h
  exact (List.getElem?_eq_some_iff.mp e).1
theorem go_all {p : List In} {i : Nat} (h : isgo p (gn p i (p.length + 1))) : isgo p (gn p i (p.length + 2)) := by
  obtain ⟨a, b, hab, hb, e⟩ := pigeon (n := p.length) (gn p i) fun m hm => isgo_lt (go_before h (by omega))
  have e2 : gn p i (p.length + 2) = gn p i (p.length + 2 - (b - a)) := by
    have h1 := gn_add p i b (p.length + 2 - b)
    have h2 := gn_add p i a (p.length + 2 - b)
    rw [show b + (p.length + 2 - b) = p.length + 2 by omega] at h1
    rw [show a + (p.length + 2 - b) = p.length + 2 - (b - a) by omega] at h2
    rw [← h1, ← h2, e]
  rw [e2]
  exact go_before h (by omega)
theorem ends_go {p : List In} {j : Nat} (h : isgo p j) : ends p j = true := by
  obtain ⟨t, e⟩ := h
  unfold ends
  rw [e]
  rfl
/-- behind a go -/
theorem stE_go {p : List In} {i t : Nat} (h : p[i]? = some (.go t)) : stE p i = stE p t := by
  have e1 : gn p i 1 = t := by
    show gstep p i = t
    unfold gstep
    rw [h]
  have e2 : gn p t (p.length + 1) = gn p i (p.length + 2) := by
    rw [← e1, gn_add p i 1 (p.length + 1)]
    congr 1
    omega
  by_cases hg : isgo p (gn p i (p.length + 1))
  · have h1 := ends_go hg
    have h2 := ends_go (go_all hg)
    unfold stE
    rw [e2, h1, h2]
    simp
  · have := gn_stay hg 1
    unfold stE
    rw [e2, show p.length + 2 = p.length + 1 + 1 by omega, this]
theorem gn_fix {p : List In} {i : Nat} (h : ¬ isgo p i) (k : Nat) : gn p i k = i := by
  have := gn_stay (p := p) (i := i) (k := 0) h k
  rw [Nat.zero_add] at this
  exact this
theorem stE_end {p : List In} : stE p p.length = p.length := by
  have hn : ¬ isgo p p.length := fun h => absurd (isgo_lt h) (by omega)
  unfold stE
  rw [gn_fix hn]
  split <;> rfl
theorem stE_stop {p : List In} {i : Nat} (h : p[i]? = some .stop) : stE p i = p.length := by
  have hn : ¬ isgo p i := fun ⟨t, e⟩ => by rw [h] at e; cases e
  unfold stE
  rw [gn_fix hn]
  have : ends p i = true := by
    unfold ends
    rw [h]
    rfl
  rw [this]
  simp
theorem stE_self {p : List In} {i : Nat} {x : In} (h : p[i]? = some x) (hx : x.isEnd = false) : stE p i = i := by
  have hn : ¬ isgo p i := fun ⟨t, e⟩ => by
    rw [h] at e
    cases e
    cases hx
  unfold stE
  rw [gn_fix hn]
  have : ends p i = false := by
    unfold ends
    rw [h]
    exact hx
  rw [this]
  simp
/-- it comes from x to y by gos, one at least -/
def Lead (p : List In) (x y : Nat) : Prop := ∃ k, 1 ≤ k ∧ gn p x k = y ∧ ∀ i, i < k → isgo p (gn p x i)
theorem Lead.one {p : List In} {x t : Nat} (h : p[x]? = some (.go t)) : Lead p x t := ⟨1, Nat.le_refl _, by
  show gstep p x = t
  unfold gstep
  rw [h], fun i hi => by
  have : i = 0 := by omega
  subst this
  exact ⟨t, h⟩⟩
theorem Lead.step {p : List In} {x y t : Nat} (h : Lead p x y) (hy : p[y]? = some (.go t)) : Lead p x t := by
  obtain ⟨k, hk, e, hg⟩ := h
  refine ⟨k + 1, by omega, ?_, fun i hi => ?_⟩
  · show gstep p (gn p x k) = t
    rw [e]
    unfold gstep
    rw [hy]
  · by_cases hc : i < k
    · exact hg i hc
    · have : i = k := by omega
      subst this
      rw [e]
      exact ⟨t, hy⟩
theorem Lead.st {p : List In} {x y : Nat} (h : Lead p x y) : stE p x = stE p y := by
  obtain ⟨k, _, e, hg⟩ := h
  have key : ∀ m, m ≤ k → stE p x = stE p (gn p x m) := by
    intro m
    induction m with
    | zero => intro _; rfl
    | succ m ih =>
      intro hm
      obtain ⟨t, ht⟩ := hg m (by omega)
      rw [ih (by omega), stE_go ht]
      congr 1
      show t = gstep p (gn p x m)
      unfold gstep
      rw [ht]
  rw [key k (Nat.le_refl _), e]
theorem Lead.cyc {p : List In} {x : Nat} (h : Lead p x x) : stE p x = p.length := by
  obtain ⟨k, hk, e, hg⟩ := h
  have key : ∀ i, isgo p (gn p x i) := by
    intro i
    induction i using Nat.strongRecOn with
    | _ i ih =>
      by_cases hc : i < k
      · exact hg i hc
      · have h1 := gn_add p x k (i - k)
        rw [e, show k + (i - k) = i by omega] at h1
        rw [← h1]
        exact ih (i - k) (by omega)
  unfold stE
  rw [ends_go (key _)]
  simp
theorem stE_le {cells : Nat} {p : List In} (h : Pok cells p) {i : Nat} (hi : i ≤ p.length) : stE p i ≤ p.length := by
  unfold stE
  split
  · omega
  · exact gn_le h hi _
end Fm
set_option Elab.async false
set_option linter.all false
set_option maxRecDepth 100000
namespace Fm
/-- where it may stand behind an instruction -/
def brs (p : List In) (i : Nat) : List Nat := match p[i]? with
  | some (.zero t) => [stE p t, stE p (i + 1)]
  | _ => [stE p (i + 1)]
inductive Reach (p : List In) : Nat → Prop where
  | start : Reach p (stE p 0)
  | step {i j : Nat} : Reach p i → i < p.length → j ∈ brs p i → Reach p j
/-- it stands at i -/
def Sta (p : List In) (i : Nat) : Prop := ∃ x, p[i]? = some x ∧ x.isEnd = false
theorem Sta.lt {p : List In} {i : Nat} (h : Sta p i) : i < p.length := by
  obtain ⟨x, e, _⟩ := h
  exact (List.getElem?_eq_some_iff.mp e).1
theorem Sta.self {p : List In} {i : Nat} (h : Sta p i) : stE p i = i := by
  obtain ⟨x, e, hx⟩ := h
  exact stE_self e hx
theorem stE_sta {c : Nat} {p : List In} (h : Pok c p) {i : Nat} (hi : i ≤ p.length) : stE p i = p.length ∨ Sta p (stE p i) := by
  unfold stE
  by_cases he : ends p (gn p i (p.length + 1)) = true
  · rw [if_pos he]
    exact .inl rfl
  · rw [if_neg he]
    refine .inr ?_
    unfold ends at he
    cases hx : p[gn p i (p.length + 1)]? with
    | none => rw [hx] at he; exact absurd rfl he
    | some x =>
      rw [hx] at he
      exact ⟨x, hx, by simpa using he⟩
theorem brs_sta {c : Nat} {p : List In} (h : Pok c p) {i j : Nat} (hi : i < p.length) (hj : j ∈ brs p i) : j = p.length ∨ Sta p j := by
  unfold brs at hj
  split at hj
  · rename_i t e
    have ht : t ≤ p.length := h.2 _ (List.mem_of_getElem? e)
    rcases List.mem_cons.mp hj with rfl | hj
    · exact stE_sta h ht
    · rw [List.mem_singleton.mp hj]
      exact stE_sta h hi
  · rw [List.mem_singleton.mp hj]
    exact stE_sta h hi
theorem Reach.sta {c : Nat} {p : List In} (h : Pok c p) {i : Nat} (r : Reach p i) : i = p.length ∨ Sta p i := by
  cases r with
  | start => exact stE_sta h (Nat.zero_le _)
  | step _ hi hj => exact brs_sta h hi hj
theorem Reach.le {c : Nat} {p : List In} (h : Pok c p) {i : Nat} (r : Reach p i) : i ≤ p.length := by
  rcases r.sta h with z | z
  · omega
  · exact Nat.le_of_lt z.lt
/-! ### ascending lists -/
abbrev Asc (l : List Nat) : Prop := l.Pairwise (· < ·)
theorem asc_eq : ∀ {xs ys : List Nat}, Asc xs → Asc ys → (∀ z, z ∈ xs ↔ z ∈ ys) → xs = ys
  | [], [], _, _, _ => rfl
  | [], y :: ys, _, _, h => absurd ((h y).mpr (by simp)) (by simp)
  | x :: xs, [], _, _, h => absurd ((h x).mp (by simp)) (by simp)
  | x :: xs, y :: ys, hx, hy, h => by
    obtain ⟨hx1, hx2⟩ := List.pairwise_cons.mp hx
    obtain ⟨hy1, hy2⟩ := List.pairwise_cons.mp hy
    have e : x = y := by
      have h1 := (h x).mp (by simp)
      have h2 := (h y).mpr (by simp)
      rcases List.mem_cons.mp h1 with z | z
      · exact z
      rcases List.mem_cons.mp h2 with z2 | z2
      · exact z2.symm
      have := hy1 x z
      have := hx1 y z2
      omega
    subst e
    congr 1
    refine asc_eq hx2 hy2 fun z => ⟨fun hz => ?_, fun hz => ?_⟩
    · have := (h z).mp (List.mem_cons_of_mem _ hz)
      rcases List.mem_cons.mp this with q | q
      · subst q
        exact absurd (hx1 _ hz) (by omega)
      · exact q
    · have := (h z).mpr (List.mem_cons_of_mem _ hz)
      rcases List.mem_cons.mp this with q | q
      · subst q
        exact absurd (hy1 _ hz) (by omega)
      · exact q
/-- a rising arrangement of numbers none of which stands twice -/
theorem asc_of {ys : List Int} {l : List Nat} (hp : ys.Perm (l.map fun (x : Nat) => (x : Int))) (hs : ys.Pairwise (· ≤ ·)) (hd : l.Nodup) : ∃ zs : List Nat, ys = zs.map (fun (x : Nat) => (x : Int)) ∧ Asc zs ∧ zs.Perm l := by
  refine ⟨ys.map Int.toNat, ?_, ?_, ?_⟩
  · rw [List.map_map]
    have : ∀ y ∈ ys, (y.toNat : Int) = y := fun y hy => by
      obtain ⟨x, _, e⟩ := List.mem_map.mp (hp.mem_iff.mp hy)
      omega
    exact ((List.map_congr_left (f := (fun (x : Nat) => (x : Int)) ∘ Int.toNat) (g := id) this).trans (List.map_id _)).symm
  · have hnd : ys.Nodup := (hp.nodup_iff).mpr (by
      refine List.nodup_iff_pairwise_ne.mpr ?_
      rw [List.pairwise_map]
      refine List.Pairwise.imp ?_ (List.nodup_iff_pairwise_ne.mp hd)
      intro a b h e
      exact h (by omega))
    have h2 : ys.Pairwise (· < ·) := by
      have := hs.and (List.nodup_iff_pairwise_ne.mp hnd)
      exact this.imp fun ⟨a, b⟩ => by omega
    rw [Asc, List.pairwise_map]
    refine h2.imp_of_mem fun {a b} ha hb hab => ?_
    obtain ⟨x, _, e⟩ := List.mem_map.mp (hp.mem_iff.mp ha)
    obtain ⟨y, _, e2⟩ := List.mem_map.mp (hp.mem_iff.mp hb)
    have e : (x : Int) = a := e
    have e2 : (y : Int) = b := e2
    omega
  · have := hp.map Int.toNat
    rw [List.map_map] at this
    rw [show (Int.toNat ∘ fun (x : Nat) => (x : Int)) = id from by funext x; simp, List.map_id] at this
    exact this
theorem sub_le {l m : List Nat} (hd : l.Nodup) (h : ∀ x ∈ l, x ∈ m) : l.length ≤ m.length := by
  induction l generalizing m with
  | nil => simp
  | cons a l ih =>
    obtain ⟨h1, h2⟩ := List.nodup_cons.mp hd
    have ha := h a (by simp)
    have := ih (m := m.erase a) h2 fun x hx => by
      have hne : x ≠ a := fun e => h1 (e ▸ hx)
      exact (List.mem_erase_of_ne hne).mpr (h x (List.mem_cons_of_mem _ hx))
    have e := List.length_erase_of_mem ha
    have := List.length_pos_of_mem ha
    simp only [List.length_cons]
    omega
end Fm
set_option Elab.async false
set_option linter.all false
set_option maxRecDepth 100000
set_option maxHeartbeats 1000000
namespace Fm
open PySem L2 Evl
def kD (F : List Nat) : List (Key × V) := F.map fun (x : Nat) => (Sum.inl (x : Int), V.bl true)
theorem kD_val (F : List Nat) (x : Nat) : valV (kD F) (Sum.inl (x : Int)) = if x ∈ F then some (.bl true) else none := by
  induction F with
  | nil => simp [kD, valV_nil]
  | cons a l ih =>
    show valV ((Sum.inl (a : Int), V.bl true) :: kD l) _ = _
    by_cases h : a = x
    · subst h
      rw [valV_pos rfl]
      simp
    · rw [valV_neg (by intro z; exact h (by have := Sum.inl.inj z; omega)), ih]
      have : x ≠ a := fun e => h e.symm
      simp [this]
theorem kD_put {F : List Nat} {x : Nat} (h : x ∉ F) : putK (kD F) (Sum.inl (x : Int)) (.bl true) = kD (F ++ [x]) := by
  rw [putK_new _ (by rw [kD_val, if_neg h])]
  simp [kD]
section
variable {K : PySem.W.Frag} {σ : L2.St} {H : Hp} {ta tb te tt' : TE} {D : Ends} {tz tu : TS} {tt : TT} {tA : TA}
/-- the rest of a comprehension over a list that stands -/
theorem lc_tail {a : Addr} {xs : List V} {j : Nat} {vs : List Nat} {Qd : Addr → Hp → Prop} (f : Nat → Bool) (v : Nat → V) (hx : SqL K H a xs) (hz : xs.length ≤ 40000) (hw : ∀ x, wipe ((wipe σ vs).set j (some x)) vs = wipe σ vs)
    (ht : ∀ (i : Nat) (x : V) H1, Ex H H1 → xs[i]? = some x → EvT tt ((wipe σ vs).set j (some x)) H1 (f i)) (he : ∀ (i : Nat) (x : V) H1, Ex H H1 → xs[i]? = some x → f i = true → Ev te ((wipe σ vs).set j (some x)) H1 (v i))
    (q : ∀ Dl H2, H Dl = none → Ex H H2 → H2 Dl = some (.lst (given xs.length f v)) → Qd Dl H2) :
    ∀ Dl, H Dl = none → ∃ W : Nat → Nat → Hp → Prop, (∃ m, W 0 m (upd H Dl (.lst []))) ∧ ∀ i m H', W i m H' →
      ((Itl K a).stop i H' ∧ Qd Dl H') ∨ ((Itl K a).go i H' ∧ ∃ Nx : Hp → Prop, (∀ H'', Nx H'' → ∃ m', m' < m ∧ W (i + 1) m' H'') ∧ ∀ x H'', (Itl K a).yld i H' x H'' → gName j x (wipe σ vs) H'' fun σ2 H2 => wipe σ2 vs = wipe σ vs ∧ tt σ2 H2 fun b H3 =>
        if b = true then te σ2 H3 fun y H4 => ∃ acc, H4 Dl = some (.lst acc) ∧ acc.length < sizeLine ∧ Nx (upd H4 Dl (.lst (acc ++ [y]))) else Nx H3) := fun Dl hD =>
  lc_list (xs := xs) (Cw H f v Dl) ⟨hD, Ex.new hD, upd_same⟩ (fun i H' _ p => ex_l p.2.1 hx) (fun i x H' hi p => ⟨hw x, cw_turn p (by have := (List.getElem?_eq_some_iff.mp hi).1; omega) (ht i x H (Ex.refl H) hi) (fun hf => he i x H (Ex.refl H) hi hf)⟩) (fun H' p => q Dl H' p.1 p.2.1 p.2.2)
theorem lc_tailT {a : Addr} {xs : List V} {j : Nat} {vs : List Nat} {Qd : Addr → Hp → Prop} (f : Nat → Bool) (v : Nat → V) (hx : SqT K H a xs) (hz : xs.length ≤ 40000) (hw : ∀ x, wipe ((wipe σ vs).set j (some x)) vs = wipe σ vs)
    (ht : ∀ (i : Nat) (x : V) H1, Ex H H1 → xs[i]? = some x → EvT tt ((wipe σ vs).set j (some x)) H1 (f i)) (he : ∀ (i : Nat) (x : V) H1, Ex H H1 → xs[i]? = some x → f i = true → Ev te ((wipe σ vs).set j (some x)) H1 (v i))
    (q : ∀ Dl H2, H Dl = none → Ex H H2 → H2 Dl = some (.lst (given xs.length f v)) → Qd Dl H2) :
    ∀ Dl, H Dl = none → ∃ W : Nat → Nat → Hp → Prop, (∃ m, W 0 m (upd H Dl (.lst []))) ∧ ∀ i m H', W i m H' →
      ((Itt K a).stop i H' ∧ Qd Dl H') ∨ ((Itt K a).go i H' ∧ ∃ Nx : Hp → Prop, (∀ H'', Nx H'' → ∃ m', m' < m ∧ W (i + 1) m' H'') ∧ ∀ x H'', (Itt K a).yld i H' x H'' → gName j x (wipe σ vs) H'' fun σ2 H2 => wipe σ2 vs = wipe σ vs ∧ tt σ2 H2 fun b H3 =>
        if b = true then te σ2 H3 fun y H4 => ∃ acc, H4 Dl = some (.lst acc) ∧ acc.length < sizeLine ∧ Nx (upd H4 Dl (.lst (acc ++ [y]))) else Nx H3) := fun Dl hD =>
  lc_tup (xs := xs) (Cw H f v Dl) ⟨hD, Ex.new hD, upd_same⟩ (fun i H' _ p => ex_t p.2.1 hx) (fun i x H' hi p => ⟨hw x, cw_turn p (by have := (List.getElem?_eq_some_iff.mp hi).1; omega) (ht i x H (Ex.refl H) hi) (fun hf => he i x H (Ex.refl H) hi hf)⟩) (fun H' p => q Dl H' p.1 p.2.1 p.2.2)
theorem m_callC {sp : Sp} {E : XK} {vs : List V} {Q : VK} {r : List V → Hp → VK → Prop} (h : EvA tA σ H vs) (k : ∀ H1, Ex H H1 → sp (vs ++ []) H1 (fun x H2 => r [x] H2 Q) E) : tCB r (tCons (tCall sp [] E tA) tNil) σ H Q := h H (Ex.refl H) _ k
/-- a new list, one of some -/
def EvLP (te : TE) (σ : L2.St) (H : Hp) (R : List V → Prop) : Prop := ∀ H1, Ex H H1 → ∀ Q : VK, (∀ xs p H2, R xs → H1 p = none → Ex H1 H2 → H2 p = some (.lst xs) → Q (.ref p) H2) → te σ H1 Q
theorem elp_lc {tl : TE} {j : Nat} {vs : List Nat} {R R' : List V → Prop} (h : EvLP tl σ H R) (hw : ∀ x, wipe ((wipe σ vs).set j (some x)) vs = wipe σ vs)
    (hf : ∀ xs, R xs → xs.length ≤ 40000 ∧ ∃ (f : Nat → Bool) (v : Nat → V), (∀ (i : Nat) (x : V) H1, Ex H H1 → xs[i]? = some x → EvT tt ((wipe σ vs).set j (some x)) H1 (f i)) ∧ (∀ (i : Nat) (x : V) H1, Ex H H1 → xs[i]? = some x → f i = true → Ev te ((wipe σ vs).set j (some x)) H1 (v i)) ∧ R' (given xs.length f v)) :
    EvLP (tLc (iList K tl) (gName j) tt te vs) σ H R' := fun H0 e Q q => h H0 e _ fun xs a H1 hR ha e1 hx => by
  obtain ⟨hz, f, v, ht, he, hr⟩ := hf xs hR
  refine ⟨a, rfl, ⟨xs, sq_of hx⟩, ?_⟩
  exact lc_tail (Qd := fun Dl H2 => Q (.ref Dl) H2) f v (sq_of hx) hz hw (fun i x H2 e2 => ht i x H2 ((e.trans e1).trans e2)) (fun i x H2 e2 => he i x H2 ((e.trans e1).trans e2)) fun Dl H2 hD e2 h2 => q _ Dl H2 hr (fresh_back e1 hD) (e1.trans e2) h2
theorem s_retTP {R : List V → Prop} (h : EvLP ta σ H R) (k : ∀ xs p H1, R xs → H p = none → Ex H H1 → H1 p = some (.tup xs) → D.rt (.ref p) H1) : tRet (tCB (rTpl K) (tCons ta tNil)) D σ H :=
  h H (Ex.refl H) _ fun xs p H1 hR hp e1 h1 => ⟨p, xs, rfl, .inl ⟨sq_of h1, fun l hl => k xs l _ hR (fresh_back e1 hl) (e1.trans (Ex.new hl)) upd_same⟩⟩
abbrev rSortedDI : List V → Hp → VK → Prop := fun xs H Q => ∃ (a : Addr) (kvs : List (Key × V)) (ks : List Int), xs = [.ref a] ∧ Rd H a (.dK kvs) ∧ kvs.map (·.1) = ks.map Sum.inl ∧ ks.length < 64 ∧
    ∀ (ys : List Int) (p : Addr), ys.Perm ks → ys.Pairwise (· ≤ ·) → H p = none → Q (.ref p) (upd H p (.lst (ys.map V.int)))
theorem elp_sortedD {d : Addr} {F : List Nat} (ha : Ev ta σ H (.ref d)) (hd : H d = some (.dK (kD F))) (hn : F.Nodup) (hl : F.length < 64) : EvLP (tCB rSortedDI (tCons ta tNil)) σ H (fun xs => ∃ zs, xs = nV zs ∧ Asc zs ∧ zs.Perm F) := fun H1 e Q q =>
  ha H1 e _ fun H2 e2 => by
    have hks : (kD F).map (·.1) = (F.map fun (x : Nat) => (x : Int)).map Sum.inl := by
      unfold kD
      rw [List.map_map, List.map_map]
      rfl
    refine ⟨d, kD F, F.map fun (x : Nat) => (x : Int), rfl, .inl (e2 _ _ (e _ _ hd)), hks, by rw [List.length_map]; omega, fun ys p hperm hsort hp => ?_⟩
    obtain ⟨zs, rfl, hasc, hpz⟩ := asc_of hperm hsort hn
    refine q _ p _ ⟨zs, ?_, hasc, hpz⟩ (fresh_back e2 hp) (e2.trans (Ex.new hp)) upd_same
    unfold nV
    rw [List.map_map]
    rfl
theorem elp_sorted {ns : List Nat} (ha : EvL ta σ H (nV ns)) (hn : ns.Nodup) : EvLP (tCB (rSortedI K) (tCons ta tNil)) σ H (fun xs => ∃ zs, xs = nV zs ∧ Asc zs ∧ zs.Perm ns) := fun H1 e Q q =>
  ha H1 e _ fun r H2 hr e2 h2 => by
    refine ⟨r, ns.map fun (x : Nat) => (x : Int), rfl, ?_, fun ys p hperm hsort hp => ?_⟩
    · rw [List.map_map]
      exact sq_of h2
    obtain ⟨zs, rfl, hasc, hpz⟩ := asc_of hperm hsort hn
    refine q _ p _ ⟨zs, ?_, hasc, hpz⟩ (fresh_back e2 hp) (e2.trans (Ex.new hp)) upd_same
    unfold nV
    rw [List.map_map]
    rfl
theorem yes_lc {Q : Bool → Hp → Prop} (h : Q true H) : tYes σ H Q := h
theorem et_yes : EvT tYes σ H true := fun H1 _ _ q => q H1 (Ex.refl H1)
theorem given_map {α : Type} (l : List α) (f : α → Bool) (v : α → V) (f' : Nat → Bool) (v' : Nat → V) (hf : ∀ i x, l[i]? = some x → f' i = f x) (hv : ∀ i x, l[i]? = some x → v' i = v x) : given l.length f' v' = (l.filter f).map v := by
  have key : ∀ n, n ≤ l.length → given n f' v' = ((l.take n).filter f).map v := by
    intro n
    induction n with
    | zero => intro _; rfl
    | succ n ih =>
      intro hn
      obtain ⟨x, hx⟩ : ∃ x, l[n]? = some x := ⟨_, List.getElem?_eq_getElem (by omega)⟩
      have e : l.take (n + 1) = l.take n ++ [x] := by
        rw [List.take_add_one, hx]
        rfl
      cases h : f' n with
      | true =>
        have h2 : f x = true := (hf n x hx).symm.trans h
        rw [given_yes h, ih (by omega), e, List.filter_append, List.map_append, hv n x hx]
        simp [h2]
      | false =>
        have h2 : f x = false := (hf n x hx).symm.trans h
        rw [given_no h, ih (by omega), e, List.filter_append]
        simp [h2]
  rw [key _ (Nat.le_refl _), List.take_length]
/-- a comprehension over numbers -/
theorem elp_lcN {tl : TE} {j : Nat} {vs : List Nat} {R : List Nat → Prop} (f : Nat → Bool) (v : Nat → V) (h : EvLP tl σ H (fun xs => ∃ zs, xs = nV zs ∧ R zs)) (hw : ∀ x, wipe ((wipe σ vs).set j (some x)) vs = wipe σ vs) (hz : ∀ zs, R zs → zs.length ≤ 40000)
    (ht : ∀ zs, R zs → ∀ (y : Nat) H1, y ∈ zs → Ex H H1 → EvT tt ((wipe σ vs).set j (some (.int (y : Nat)))) H1 (f y)) (he : ∀ zs, R zs → ∀ (y : Nat) H1, y ∈ zs → Ex H H1 → f y = true → Ev te ((wipe σ vs).set j (some (.int (y : Nat)))) H1 (v y)) :
    EvLP (tLc (iList K tl) (gName j) tt te vs) σ H (fun xs => ∃ zs : List Nat, xs = (zs.filter f).map v ∧ R zs) := by
  refine elp_lc h hw ?_
  rintro xs ⟨zs, rfl, hR⟩
  refine ⟨by rw [nV_len]; exact hz zs hR, fun i => f (zs[i]?.getD 0), fun i => v (zs[i]?.getD 0), fun i x H1 e hx => ?_, fun i x H1 e hx hf => ?_, zs, ?_, hR⟩
  · obtain ⟨y, hy, rfl⟩ := nV_get hx
    have := ht zs hR y H1 (List.mem_of_getElem? hy) e
    simp only [hy, Option.getD_some]
    exact this
  · obtain ⟨y, hy, rfl⟩ := nV_get hx
    simp only [hy, Option.getD_some] at hf ⊢
    exact he zs hR y H1 (List.mem_of_getElem? hy) e hf
  · rw [nV_len]
    refine given_map zs f v _ _ (fun i x hx => ?_) (fun i x hx => ?_)
    · simp only [hx, Option.getD_some]
    · simp only [hx, Option.getD_some]
theorem EvL.p {xs : List V} (h : EvL te σ H xs) : EvLP te σ H (fun ys => ys = xs) := fun H1 e Q q => h H1 e Q fun p H2 hp e2 h2 => q xs p H2 rfl hp e2 h2
theorem EvLP.l {xs : List V} (h : EvLP te σ H (fun ys => ys = xs)) : EvL te σ H xs := fun H1 e Q q => h H1 e Q fun ys p H2 hy hp e2 h2 => q p H2 hp e2 (by rw [h2, hy])
/-- over a list of numbers that stands -/
theorem el_lcN {a : Addr} {tl : TE} {j : Nat} {vs : List Nat} {zs : List Nat} (f : Nat → Bool) (v : Nat → V) (h : Ev tl σ H (.ref a)) (hx : SqL K H a (nV zs)) (hw : ∀ x, wipe ((wipe σ vs).set j (some x)) vs = wipe σ vs) (hz : zs.length ≤ 40000)
    (ht : ∀ (y : Nat) H1, y ∈ zs → Ex H H1 → EvT tt ((wipe σ vs).set j (some (.int (y : Nat)))) H1 (f y)) (he : ∀ (y : Nat) H1, y ∈ zs → Ex H H1 → f y = true → Ev te ((wipe σ vs).set j (some (.int (y : Nat)))) H1 (v y)) :
    EvL (tLc (iList K tl) (gName j) tt te vs) σ H ((zs.filter f).map v) := by
  have := el_lcL (K := K) (t := tt) (te := te) (fun i => f (zs[i]?.getD 0)) (fun i => v (zs[i]?.getD 0)) h hx (by rw [nV_len]; exact hz) hw (fun i x H1 e hx => by
    obtain ⟨y, hy, rfl⟩ := nV_get hx
    have := ht y H1 (List.mem_of_getElem? hy) e
    simp only [hy, Option.getD_some]
    exact this) (fun i x H1 e hx hf => by
    obtain ⟨y, hy, rfl⟩ := nV_get hx
    simp only [hy, Option.getD_some] at hf ⊢
    exact he y H1 (List.mem_of_getElem? hy) e hf)
  rw [nV_len] at this
  rw [given_map zs f v _ _ (fun i x hx => by simp only [hx, Option.getD_some]) (fun i x hx => by simp only [hx, Option.getD_some])] at this
  exact this
/-- over the tuple of numbers that a call hands back -/
theorem el_lcTc {sp : Sp} {E : XK} {ws : List V} {tA : TA} {j : Nat} {vs : List Nat} {zs : List Nat} (f : Nat → Bool) (v : Nat → V) (h : EvA tA σ H ws) (hs : ∀ H1, Ex H H1 → ∀ Q : VK, (∀ p H2, H1 p = none → Ex H1 H2 → H2 p = some (.tup (nV zs)) → Q (.ref p) H2) → sp (ws ++ []) H1 Q E)
    (hw : ∀ x, wipe ((wipe σ vs).set j (some x)) vs = wipe σ vs) (hz : zs.length ≤ 40000)
    (ht : ∀ (y : Nat) H1, y ∈ zs → Ex H H1 → EvT tt ((wipe σ vs).set j (some (.int (y : Nat)))) H1 (f y)) (he : ∀ (y : Nat) H1, y ∈ zs → Ex H H1 → f y = true → Ev te ((wipe σ vs).set j (some (.int (y : Nat)))) H1 (v y)) :
    EvL (tLc (iTup K (tCall sp [] E tA)) (gName j) tt te vs) σ H ((zs.filter f).map v) := fun H0 e0 Q q => h H0 e0 _ fun H1 e1 => hs H1 (e0.trans e1) _ fun a H2 ha e2 h2 => by
  refine ⟨a, rfl, ⟨nV zs, st_of h2⟩, ?_⟩
  have e02 := (e0.trans e1).trans e2
  have key := given_map zs f v (fun i => f (zs[i]?.getD 0)) (fun i => v (zs[i]?.getD 0)) (fun i x hx => by simp only [hx, Option.getD_some]) (fun i x hx => by simp only [hx, Option.getD_some])
  exact lc_tailT (Qd := fun Dl H2 => Q (.ref Dl) H2) (fun i => f (zs[i]?.getD 0)) (fun i => v (zs[i]?.getD 0)) (st_of h2) (by rw [nV_len]; exact hz) hw (fun i x H3 e3 hx => by
    obtain ⟨y, hy, rfl⟩ := nV_get hx
    have := ht y H3 (List.mem_of_getElem? hy) (e02.trans e3)
    simp only [hy, Option.getD_some]
    exact this) (fun i x H3 e3 hx hf => by
    obtain ⟨y, hy, rfl⟩ := nV_get hx
    simp only [hy, Option.getD_some] at hf ⊢
    exact he y H3 (List.mem_of_getElem? hy) (e02.trans e3) hf) fun Dl H3 hD e3 h3 => q Dl H3 (fresh_back (e1.trans e2) hD) ((e1.trans e2).trans e3) (by
    rw [nV_len, key] at h3
    exact h3)
/-- {k: v}, one pair -/
theorem q_disp1 {i : Nat} {k : Nat} {tk tv : TE} (hk : ∀ H1, Ex H H1 → Ev tk σ H1 (.int (k : Nat))) (hv : ∀ H1, Ex H H1 → Ev tv σ H1 (.bl true)) (q : ∀ p H1, H p = none → Ex H H1 → H1 p = some (.dK (kD [k])) → tz D (σ.set i (some (.ref p))) H1) : tSeq (tAsg (tDisp [(tk, tv)]) (gName i)) tz D σ H := by
  intro p hp
  refine hk _ (Ex.new hp) _ (Ex.refl _) _ fun H2 e2 => hv _ ((Ex.new hp).trans e2) _ (Ex.refl _) _ fun H3 e3 => ?_
  refine ⟨e3 _ _ (e2 _ _ upd_same), [(Sum.inl (k : Int), .bl true)], rfl, (by show 1 ≤ 15; decide), ?_⟩
  refine q p _ hp (Ex.mut (((Ex.new hp).trans e2).trans e3) hp) ?_
  rw [upd_same]
  rfl
theorem et_inD {d : Addr} {F : List Nat} {x : Nat} (ha : Ev ta σ H (.int (x : Nat))) (hb : Ev tb σ H (.ref d)) (h : H d = some (.dK (kD F))) : EvT (tB (tDIn ta tb)) σ H (decide (x ∈ F)) := fun H1 e Q q =>
  ha H1 e _ fun H2 e2 => hb H2 (e.trans e2) _ fun H3 e3 => ⟨d, _, rfl, DGet.k (k := Sum.inl (x : Int)) (((e.trans e2).trans e3) _ _ h), _, rfl, by
    have := q H3 (e2.trans e3)
    rw [kD_val]
    by_cases hx : x ∈ F
    · rw [if_pos hx]; rw [decide_eq_true hx] at this; exact this
    · rw [if_neg hx]; rw [decide_eq_false hx] at this; exact this⟩
theorem et_ninD {d : Addr} {F : List Nat} {x : Nat} (ha : Ev ta σ H (.int (x : Nat))) (hb : Ev tb σ H (.ref d)) (h : H d = some (.dK (kD F))) : EvT (tB (tDNotIn ta tb)) σ H (!decide (x ∈ F)) := fun H1 e Q q =>
  ha H1 e _ fun H2 e2 => hb H2 (e.trans e2) _ fun H3 e3 => ⟨d, _, rfl, DGet.k (k := Sum.inl (x : Int)) (((e.trans e2).trans e3) _ _ h), _, rfl, by
    have := q H3 (e2.trans e3)
    rw [kD_val]
    by_cases hx : x ∈ F
    · rw [if_pos hx]; rw [decide_eq_true hx] at this; exact this
    · rw [if_neg hx]; rw [decide_eq_false hx] at this; exact this⟩
/-- d[x] = True, x new -/
theorem q_putD {d : Addr} {F : List Nat} {x : Nat} {td ty tv : TE} (h : H d = some (.dK (kD F))) (hx : x ∉ F) (hz : F.length < 100000) (hd : Ev td σ H (.ref d)) (hy : Ev ty σ H (.int (x : Nat))) (hv : Ev tv σ H (.bl true)) (k : ∀ H1, Ex H H1 → tz D σ (upd H1 d (.dK (kD (F ++ [x]))))) : tSeq (sDPut td ty tv) tz D σ H :=
  hv H (Ex.refl H) _ fun H1 e1 => hd H1 e1 _ fun H2 e2 => hy H2 (e1.trans e2) _ fun H3 e3 => ⟨d, _, rfl, DPut.k (k := Sum.inl (x : Int)) (((e1.trans e2).trans e3) _ _ h) (sz_lt (by unfold kD; rw [List.length_map]; exact hz)), by
    rw [kD_put hx]
    exact k H3 ((e1.trans e2).trans e3)⟩
/-- x = list.pop() -/
theorem q_pop {l : Addr} {xs : List V} {y : V} {i : Nat} (hl : H l = some (.lst (xs ++ [y]))) (ha : Ev ta σ H (.ref l)) (k : ∀ H1, Ex H H1 → tz D (σ.set i (some y)) (upd H1 l (.lst xs))) : tSeq (tAsg (tBM0 K "list" rPop ta) (gName i)) tz D σ H :=
  ha H (Ex.refl H) _ fun H1 e1 => ⟨.inl ⟨rfl, _, sq_of (e1 _ _ hl)⟩, l, _, y, rfl, rfl, e1 _ _ hl, by simp, by rw [List.dropLast_concat]; exact k H1 e1⟩
/-- a list's truth -/
theorem et_truL {l : Addr} {xs : List V} (ha : Ev ta σ H (.ref l)) (hl : SqL K H l xs) : EvT (fun σ H Q => ta σ H fun x H' => ∃ k, TruV K x H' k ∧ Q k H') σ H (!xs.isEmpty) := fun H1 e Q q =>
  ha H1 e _ fun H2 e2 => ⟨_, .inl ⟨xs, ex_l (e.trans e2) hl, rfl⟩, q H2 e2⟩
/-- a for over the tuple that a call hands back -/
theorem s_forTc {sp : Sp} {E : XK} {vs : List V} {tA : TA} {j : Nat} {xs : List V} (h : EvA tA σ H vs) (hs : ∀ H1, Ex H H1 → ∀ Q : VK, (∀ p H2, H1 p = none → Ex H1 H2 → H2 p = some (.tup xs) → Q (.ref p) H2) → sp (vs ++ []) H1 Q E) (PT : Addr → Nat → L2.St → Hp → Prop) (hP0 : ∀ p H1, H p = none → Ex H H1 → H1 p = some (.tup xs) → PT p 0 σ H1) (hl : ∀ p i σ' H', i ≤ xs.length → PT p i σ' H' → SqT K H' p xs)
    (hs2 : ∀ p i x σ' H', xs[i]? = some x → PT p i σ' H' → tu { D with nx := PT p (i + 1), ct := PT p (i + 1), bk := D.nx } (σ'.set j (some x)) H') (hd : ∀ p σ' H', PT p xs.length σ' H' → D.nx σ' H') : tFor (iTup K (tCall sp [] E tA)) (gName j) tu D σ H :=
  h H (Ex.refl H) _ fun H1 e1 => hs H1 e1 _ fun p H2 hp e2 h2 => ⟨p, rfl, ⟨xs, st_of h2⟩, for_tup (PT p) (hP0 p H2 (fresh_back e1 hp) (e1.trans e2) h2) (hl p) (hs2 p) (hd p)⟩
theorem et_niK {a : Addr} {xs : List V} {x : V} (ha : Ev ta σ H x) (hb : Ev tb σ H (.ref a)) (h : SqL K H a xs) (hx : flatV x = true) (hf : xs.all flatV = true) : EvT (tTest (tOp (rIn K true) ta tb)) σ H (!inV x xs) := et_test (ev_op ha hb (rv_niL h hx hf))
theorem s_forNLn {tl : TE} {tu : TS} {xs : List V} {j : Nat} (h : EvL tl σ H xs) (Pv : Addr → Nat → L2.St → Hp → Prop) (h0 : ∀ p H1, H p = none → Ex H H1 → H1 p = some (.lst xs) → Pv p 0 σ H1) (hl : ∀ p i σ' H', i ≤ xs.length → Pv p i σ' H' → SqL K H' p xs)
    (hs : ∀ p i x σ' H', xs[i]? = some x → Pv p i σ' H' → tu { D with nx := Pv p (i + 1), ct := Pv p (i + 1), bk := D.nx } (σ'.set j (some x)) H') (hd : ∀ p σ' H', Pv p xs.length σ' H' → D.nx σ' H') : tFor (iList K tl) (gName j) tu D σ H := s_forNL h Pv h0 hl hs hd
/-- over the list that a call hands back -/
theorem el_lcCall {sp : Sp} {E : XK} {ws : List V} {j : Nat} {vs : List Nat} {zs : List Nat} (enc : Nat → V) (f : Nat → Bool) (v : Nat → V) (h : EvA tA σ H ws) (hs : ∀ H1, Ex H H1 → ∀ Q : VK, (∀ p H2, H1 p = none → Ex H1 H2 → H2 p = some (.lst (zs.map enc)) → Q (.ref p) H2) → sp (ws ++ []) H1 Q E)
    (hw : ∀ x, wipe ((wipe σ vs).set j (some x)) vs = wipe σ vs) (hz : zs.length ≤ 40000)
    (ht : ∀ (y : Nat) H1, y ∈ zs → Ex H H1 → EvT tt ((wipe σ vs).set j (some (enc y))) H1 (f y)) (he : ∀ (y : Nat) H1, y ∈ zs → Ex H H1 → f y = true → Ev te ((wipe σ vs).set j (some (enc y))) H1 (v y)) :
    EvL (tLc (iList K (tCall sp [] E tA)) (gName j) tt te vs) σ H ((zs.filter f).map v) := fun H0 e0 Q q => h H0 e0 _ fun H1 e1 => hs H1 (e0.trans e1) _ fun a H2 ha e2 h2 => by
  refine ⟨a, rfl, ⟨zs.map enc, sq_of h2⟩, ?_⟩
  have e02 := (e0.trans e1).trans e2
  have get : ∀ {i : Nat} {x : V}, (zs.map enc)[i]? = some x → ∃ y, zs[i]? = some y ∧ x = enc y := fun {i x} hx => by
    rw [List.getElem?_map] at hx
    cases hy : zs[i]? with
    | none => rw [hy] at hx; cases hx
    | some y => rw [hy] at hx; cases hx; exact ⟨y, rfl, rfl⟩
  have key := given_map zs f v (fun i => f (zs[i]?.getD 0)) (fun i => v (zs[i]?.getD 0)) (fun i x hx => by simp only [hx, Option.getD_some]) (fun i x hx => by simp only [hx, Option.getD_some])
  exact lc_tail (Qd := fun Dl H2 => Q (.ref Dl) H2) (fun i => f (zs[i]?.getD 0)) (fun i => v (zs[i]?.getD 0)) (sq_of h2) (by rw [List.length_map]; exact hz) hw (fun i x H3 e3 hx => by
    obtain ⟨y, hy, rfl⟩ := get hx
    have := ht y H3 (List.mem_of_getElem? hy) (e02.trans e3)
    simp only [hy, Option.getD_some]
    exact this) (fun i x H3 e3 hx hf => by
    obtain ⟨y, hy, rfl⟩ := get hx
    simp only [hy, Option.getD_some] at hf ⊢
    exact he y H3 (List.mem_of_getElem? hy) (e02.trans e3) hf) fun Dl H3 hD e3 h3 => q Dl H3 (fresh_back (e1.trans e2) hD) ((e1.trans e2).trans e3) (by
    rw [List.length_map, key] at h3
    exact h3)
/-- over a list that stands, of numbers told by enc -/
theorem el_lcE {a : Addr} {tl : TE} {j : Nat} {vs : List Nat} {zs : List Nat} (enc : Nat → V) (f : Nat → Bool) (v : Nat → V) (h : Ev tl σ H (.ref a)) (hx : SqL K H a (zs.map enc)) (hw : ∀ x, wipe ((wipe σ vs).set j (some x)) vs = wipe σ vs) (hz : zs.length ≤ 40000)
    (ht : ∀ (y : Nat) H1, y ∈ zs → Ex H H1 → EvT tt ((wipe σ vs).set j (some (enc y))) H1 (f y)) (he : ∀ (y : Nat) H1, y ∈ zs → Ex H H1 → f y = true → Ev te ((wipe σ vs).set j (some (enc y))) H1 (v y)) :
    EvL (tLc (iList K tl) (gName j) tt te vs) σ H ((zs.filter f).map v) := by
  have get : ∀ {i : Nat} {x : V}, (zs.map enc)[i]? = some x → ∃ y, zs[i]? = some y ∧ x = enc y := fun {i x} hx => by
    rw [List.getElem?_map] at hx
    cases hy : zs[i]? with
    | none => rw [hy] at hx; cases hx
    | some y => rw [hy] at hx; cases hx; exact ⟨y, rfl, rfl⟩
  have := el_lcL (K := K) (t := tt) (te := te) (fun i => f (zs[i]?.getD 0)) (fun i => v (zs[i]?.getD 0)) h hx (by rw [List.length_map]; exact hz) hw (fun i x H1 e hx => by
    obtain ⟨y, hy, rfl⟩ := get hx
    have := ht y H1 (List.mem_of_getElem? hy) e
    simp only [hy, Option.getD_some]
    exact this) (fun i x H1 e hx hf => by
    obtain ⟨y, hy, rfl⟩ := get hx
    simp only [hy, Option.getD_some] at hf ⊢
    exact he y H1 (List.mem_of_getElem? hy) e hf)
  rw [List.length_map] at this
  rw [given_map zs f v _ _ (fun i x hx => by simp only [hx, Option.getD_some]) (fun i x hx => by simp only [hx, Option.getD_some])] at this
  exact this
end
end Fm
set_option Elab.async false
set_option linter.all false
set_option maxRecDepth 100000
set_option maxHeartbeats 1000000
namespace Fm
open PySem L2 Evl
section
variable {P : Program} {w : World} {K : PySem.W.Frag} {mg : Str → Option Value} {base : Heap}
/-! ### is_integer -/
def inRange (o : Option Int) (lo hi : Int) : Bool := match o with
  | some n => decide (lo ≤ n) && decide (n ≤ hi)
  | none => false
def spIsInt (K : PySem.W.Frag) : Sp := fun vs H Q _ => ∃ (x : V) (lo hi : Int) (o : Option Int), vs = [x, .int lo, .int hi] ∧ IntV K H x o ∧ ∀ H', Ex H H' → Q (.bl (inRange o lo hi)) H'
def spIsWhole (K : PySem.W.Frag) : Sp := fun vs H Q _ => ∃ (x : V) (o : Option Int), vs = [x] ∧ IntV K H x o ∧ ∀ H', Ex H H' → Q (.bl o.isSome) H'
abbrev s_is_whole : Stmt := top 15
theorem sc_is_whole : FnScope ["value"] ["value"] (defScope s_is_whole) := ⟨rfl, rfl, rfl, by decide +kernel, rfl, by decide +kernel, by decide +kernel⟩
theorem ok_is_whole {f : Addr} {fd : FuncData} (F : Fun K "is_whole" "is_whole" s_is_whole f fd) (T : Txt K mg) : FnOk P w K mg base CX0 1 f fd ["value"] (spIsWhole K) := by
  refine F.ok sc_is_whole (fun vs H Q E h => ?_) (fun cdv A outer s H vs Q E hr h => ?_)
  · obtain ⟨_, _, rfl, _⟩ := h
    rfl
  · obtain ⟨x, o, rfl, hx, k⟩ := h
    refine ⟨_, (pss_one (ps_ret (pe_and (pe_callB (isi_K (K := K) rfl) (by rfl) T.z_isinstance (by decide +kernel) (pa_cons (pv 0) (pa_cons (pe_bltn (v := .ty "int") (by rfl) T.z_int (by decide +kernel) rfl) pa_nil))) (pe_one (pe_not (pe_callB (isi_K (K := K) rfl) (by rfl) T.z_isinstance (by decide +kernel) (pa_cons (pv 0) (pa_cons (pe_bltn (v := .ty "bool") (by rfl) T.z_bool (by decide +kernel) rfl) pa_nil)))))))), ?_⟩
    cases o with
    | some n =>
      cases hx
      refine s_ret (v := .bl (true && !false)) (ev_andV (ev_isi (t := "int") (ev_var rfl) (.base (.int n)) (by decide +kernel)) fun _ => ev_notV (ev_isi (t := "int") (ev_var rfl) (.base (.int n)) (by decide +kernel))) fun H1 e1 => k H1 e1
    | none =>
      obtain ⟨t, ty, h | ⟨h, h2⟩⟩ := hx
      · refine s_ret (v := .bl (false && false)) (ev_andV (b := false) (ev_isi (ev_var rfl) ty h) fun z => nomatch z) fun H1 e1 => k H1 e1
      · refine s_ret (v := .bl (true && !true)) (ev_andV (ev_isi (ev_var rfl) ty h) fun _ => ev_notV (ev_isi (ev_var rfl) ty h2)) fun H1 e1 => k H1 e1
abbrev s_is_integer : Stmt := top 16
theorem sc_is_integer : FnScope ["value", "low", "high"] ["value", "low", "high"] (defScope s_is_integer) := ⟨rfl, rfl, rfl, by decide +kernel, rfl, by decide +kernel, by decide +kernel⟩
theorem ok_is_integer {f f1 : Addr} {fd fd1 : FuncData} (F : Fun K "is_integer" "is_integer" s_is_integer f fd) (T : Txt K mg) (C_is_whole : Cal P w K mg base CX0 1 "is_whole" f1 fd1 ["value"] (spIsWhole K)) : FnOk P w K mg base CX0 2 f fd ["value", "low", "high"] (spIsInt K) := by
  refine F.ok sc_is_integer (fun vs H Q E h => ?_) (fun cdv A outer s H vs Q E hr h => ?_)
  · obtain ⟨_, _, _, _, rfl, _⟩ := h
    rfl
  · obtain ⟨x, lo, hi, o, rfl, hx, k⟩ := h
    refine ⟨_, (pss_one (ps_ret (pe_and (pe_call C_is_whole.G (hr.mono (by first | decide | omega)) rfl C_is_whole.g C_is_whole.kp C_is_whole.b .nil pass0 (pa_cons (pv 0) pa_nil)) (pe_one (pe_chain op_le op_le (pv 1) (pv 0) (pv 2)))))), ?_⟩
    cases o with
    | some n =>
      cases hx
      refine s_ret (v := .bl (true && (decide (lo ≤ n) && decide (n ≤ hi)))) (ev_andV (ev_callV (ea_cons (ev_var rfl) ea_nil) fun H1 e1 Q' q => ⟨_, some n, rfl, rfl, q⟩) fun _ => ev_chain (ev_var rfl) (ev_var rfl) (ev_var rfl)) fun H1 e1 => k H1 e1
    | none =>
      refine s_ret (v := .bl (false && false)) (ev_andV (b := false) (ev_callV (ea_cons (ev_var rfl) ea_nil) fun H1 e1 Q' q => ⟨_, none, rfl, hx.up e1, q⟩) fun z => nomatch z) fun H1 e1 => k H1 e1
/-! ### check_number, all well -/
def spChkNum : Sp := fun vs H Q _ => ∃ (n lo hi : Int), vs = [.int n, .int lo, .int hi] ∧ lo ≤ n ∧ n ≤ hi ∧ ∀ H', Ex H H' → Q .non H'
abbrev s_check_number : Stmt := top 17
theorem sc_check_number : FnScope ["value", "low", "high"] ["value", "low", "high"] (defScope s_check_number) := ⟨rfl, rfl, rfl, by decide +kernel, rfl, by decide +kernel, by decide +kernel⟩
theorem ok_check_number {f f1 : Addr} {fd fd1 : FuncData} (F : Fun K "check_number" "check_number" s_check_number f fd) (T : Txt K mg) (C_is_integer : Cal P w K mg base CX0 2 "is_integer" f1 fd1 ["value", "low", "high"] (spIsInt K)) : FnOk P w K mg base CX0 3 f fd ["value", "low", "high"] spChkNum := by
  refine F.ok sc_check_number (fun vs H Q E h => ?_) (fun cdv A outer s H vs Q E hr h => ?_)
  · obtain ⟨_, _, _, rfl, _⟩ := h
    rfl
  · obtain ⟨n, lo, hi, rfl, h1, h2, k⟩ := h
    refine ⟨_, (pss_one (ps_if (pt_not (pt_val (pe_call C_is_integer.G (hr.mono (by first | decide | omega)) rfl C_is_integer.g C_is_integer.kp C_is_integer.b .nil pass0 (pa_cons (pv 0) (pa_cons (pv 1) (pa_cons (pv 2) pa_nil)))))) (pss_one ps_never) pss_nil)), ?_⟩
    refine s_when (b := false) (et_not (a := true) (et_B (ev_callV (ea_cons (ev_var rfl) (ea_cons (ev_var rfl) (ea_cons (ev_var rfl) ea_nil))) fun H1 e1 Q q => ⟨_, lo, hi, some n, rfl, rfl, fun H2 e2 => ?_⟩))) (fun z => nomatch z) fun _ H1 e1 => k H1 e1
    have : inRange (some n) lo hi = true := by simp [inRange, h1, h2]
    rw [this]
    exact q H2 e2
def spChkCells : Sp := fun vs H Q _ => ∃ (n : Nat), vs = [.int (n : Int)] ∧ 1 ≤ n ∧ n ≤ 4 ∧ ∀ H', Ex H H' → Q .non H'
abbrev s_check_cells : Stmt := top 18
theorem sc_check_cells : FnScope ["value"] ["value"] (defScope s_check_cells) := ⟨rfl, rfl, rfl, by decide +kernel, rfl, by decide +kernel, by decide +kernel⟩
theorem ok_check_cells {f f1 : Addr} {fd fd1 : FuncData} (F : Fun K "check_cells" "check_cells" s_check_cells f fd) (T : Txt K mg) (C_check_number : Cal P w K mg base CX0 3 "check_number" f1 fd1 ["value", "low", "high"] spChkNum) : FnOk P w K mg base CX0 4 f fd ["value"] spChkCells := by
  refine F.ok sc_check_cells (fun vs H Q E h => ?_) (fun cdv A outer s H vs Q E hr h => ?_)
  · obtain ⟨_, rfl, _⟩ := h
    rfl
  · obtain ⟨n, rfl, h1, h2, k⟩ := h
    refine ⟨_, (pss_one (ps_expr (pe_call C_check_number.G (hr.mono (by first | decide | omega)) rfl C_check_number.g C_check_number.kp C_check_number.b .nil pass0 (pa_cons (pv 0) (pa_cons pe_int (pa_cons (pe_glob (v := .int 4) rfl T.c_MOST_CELLS.choose_spec ⟨_, rfl⟩) pa_nil)))))), ?_⟩
    refine s_call (ea_cons (ev_var rfl) (ea_cons ev_c (ea_cons ev_c ea_nil))) fun H1 e1 => ⟨(n : Int), 1, 4, rfl, by omega, by omega, fun H2 e2 => k H2 (e1.trans e2)⟩
/-! ### is_instruction, one that is one -/
def spIsIn (K : PySem.W.Frag) : Sp := fun vs H Q _ => ∃ (c n : Nat) (v : V) (i : In), vs = [.int (c : Int), .int (n : Int), v] ∧ InAt K H v i ∧ i.ok c n ∧ i.isTouch = false ∧ ∀ H', Ex H H' → Q (.bl true) H'
/-- the words of the module's top -/
structure Wds (K : PySem.W.Frag) (mg : Str → Option Value) (aA aC aP : Addr) : Prop where
  g_ALONE : mg "ALONE" = some (.ref aA)
  g_WITH_CELL : mg "WITH_CELL" = some (.ref aC)
  g_WITH_PLACE : mg "WITH_PLACE" = some (.ref aP)
  A : ∀ H, SqT K H aA [.str "say", .str "ask", .str "stop"]
  C : ∀ H, SqT K H aC [.str "get", .str "plus", .str "minus", .str "set"]
  Pl : ∀ H, SqT K H aP [.str "zero", .str "go"]
end
end Fm
set_option Elab.async false
set_option linter.all false
set_option maxRecDepth 100000
set_option maxHeartbeats 1000000
namespace Fm
open PySem L2 Evl
section
variable {K : PySem.W.Frag} {H : Hp} {σ : L2.St} {ta tb : TE}
def In.one : In → Bool
  | .say => true | .ask => true | .stop => true
  | _ => false
def In.cel : In → Bool
  | .get _ => true | .plus _ => true | .minus _ => true | .set _ => true
  | _ => false
def In.pla : In → Bool
  | .zero _ => true | .go _ => true
  | _ => false
theorem w_one (i : In) : inV (V.str i.w) [.str "say", .str "ask", .str "stop"] = i.one := by cases i <;> kernel_rfl
theorem w_cel (i : In) : inV (V.str i.w) [.str "get", .str "plus", .str "minus", .str "set"] = i.cel := by cases i <;> kernel_rfl
theorem w_pla (i : In) : inV (V.str i.w) [.str "zero", .str "go"] = i.pla := by cases i <;> kernel_rfl
def In.isPut : In → Bool
  | .put _ => true
  | _ => false
theorem w_put (i : In) : decide (V.str i.w = V.str "put") = i.isPut := by cases i <;> kernel_rfl
theorem vs_len (i : In) : i.vs.length = (match i.arg with | none => 1 | some _ => 2) := by
  unfold In.vs
  cases i <;> rfl
theorem ev_neg {i : Int} (h : Ev ta σ H (.int i)) : Ev (tUn (rU fun i => .int (-i)) ta) σ H (.int (-i)) := ev_un h ru_neg
end
structure WdR (K : PySem.W.Frag) (mg : Str → Option Value) (aR : Addr) : Prop where
  g_READS : mg "READS" = some (.ref aR)
  R : ∀ H, SqT K H aR [.str "get", .str "plus", .str "minus"]
def In.rd : In → Bool
  | .get _ => true | .plus _ => true | .minus _ => true
  | _ => false
theorem w_rd (i : In) : inV (V.str i.w) [.str "get", .str "plus", .str "minus"] = i.rd := by cases i <;> kernel_rfl
def In.isSet : In → Bool
  | .set _ => true
  | _ => false
theorem w_set (i : In) : decide (V.str i.w = V.str "set") = i.isSet := by cases i <;> kernel_rfl
section
variable {P : Program} {w : World} {K : PySem.W.Frag} {mg : Str → Option Value} {base : Heap}
abbrev s_is_instruction : Stmt := top 22
theorem sc_is_instruction : FnScope ["cells", "length", "value", "word"] ["cells", "length", "value"] (defScope s_is_instruction) := ⟨rfl, rfl, rfl, by decide +kernel, rfl, by decide +kernel, by decide +kernel⟩
--TY is_instruction {'value':('tuple','any')}
theorem ok_is_instruction {f f1 aA aC aP : Addr} {fd fd1 : FuncData} (F : Fun K "is_instruction" "is_instruction" s_is_instruction f fd) (T : Txt K mg) (Wd : Wds K mg aA aC aP) (C_is_integer : Cal P w K mg base CX0 2 "is_integer" f1 fd1 ["value", "low", "high"] (spIsInt K)) : FnOk P w K mg base CX0 3 f fd ["cells", "length", "value"] (spIsIn K) := by
  refine F.ok sc_is_instruction (fun vs H Q E h => ?_) (fun cdv A outer s H vs Q E hr h => ?_)
  · obtain ⟨_, _, _, _, rfl, _⟩ := h
    rfl
  · obtain ⟨c, n, v, i, rfl, ⟨b, rfl, hb⟩, hok, hT, k⟩ := h
    refine ⟨_, (pss_cons (ps_if (PW.pt (pw_or (pt_not (pt_val (pe_callB (isi_K (K := K) rfl) (by rfl) T.z_isinstance (by decide +kernel) (pa_cons (pv 2) (pa_cons (pe_bltn (v := .ty "tuple") (by rfl) T.z_tuple (by decide +kernel) rfl) pa_nil))))) (pw_or1 (pt_cmpR (nin_K (K := K) rfl) (pe_callB (len_K (K := K) rfl) (by rfl) T.z_len (by decide +kernel) (pa_cons (pv 2) pa_nil)) (pe_tup (pa_cons pe_int (pa_cons pe_int pa_nil))) (by rfl))))) (pss_one (ps_ret pe_bl)) pss_nil)
  (pss_cons (ps_set (i := 3) sc_is_instruction.nd rfl (Or.inl rfl) (pe_ix (ix_K (K := K) rfl) (pv 2) pe_int (fun _ _ => rfl)))
  (pss_cons (ps_if (pt_cmpR op_eq (pe_callB (len_K (K := K) rfl) (by rfl) T.z_len (by decide +kernel) (pa_cons (pv 2) pa_nil)) pe_int (nomark _)) (pss_one (ps_ret (pe_cmpR (in_K (K := K) rfl) (pv 3) (pe_glob (v := .ref _) rfl Wd.g_ALONE rfl) (by rfl)))) pss_nil)
  (pss_cons (ps_if (pt_cmpR (in_K (K := K) rfl) (pv 3) (pe_glob (v := .ref _) rfl Wd.g_WITH_CELL rfl) (by rfl)) (pss_one (ps_ret (pe_call C_is_integer.G (hr.mono (by first | decide | omega)) rfl C_is_integer.g C_is_integer.kp C_is_integer.b .nil pass0 (pa_cons (pe_ix (ix_K (K := K) rfl) (pv 2) pe_int (fun _ _ => rfl)) (pa_cons pe_int (pa_cons (pe_op op_sub (pv 0) pe_int) pa_nil)))))) pss_nil)
  (pss_cons (ps_if (pt_cmpR (in_K (K := K) rfl) (pv 3) (pe_glob (v := .ref _) rfl Wd.g_WITH_PLACE rfl) (by rfl)) (pss_one (ps_ret (pe_call C_is_integer.G (hr.mono (by first | decide | omega)) rfl C_is_integer.g C_is_integer.kp C_is_integer.b .nil pass0 (pa_cons (pe_ix (ix_K (K := K) rfl) (pv 2) pe_int (fun _ _ => rfl)) (pa_cons pe_int (pa_cons (pv 1) pa_nil)))))) pss_nil)
  (pss_one (ps_ret (pe_and (pe_cmpR op_eq (pv 3) pe_str (nomark _)) (pe_one (pe_call C_is_integer.G (hr.mono (by first | decide | omega)) rfl C_is_integer.g C_is_integer.kp C_is_integer.b .nil pass0 (pa_cons (pe_ix (ix_K (K := K) rfl) (pv 2) pe_int (fun _ _ => rfl)) (pa_cons (pe_un un_neg (pe_glob (v := .int 1000000) rfl T.c_MILLION.choose_spec ⟨_, rfl⟩)) (pa_cons (pe_glob (v := .int 1000000) rfl T.c_MILLION.choose_spec ⟨_, rfl⟩) pa_nil))))))))))))), ?_⟩
    have hlen := vs_len i
    have hin : inV (V.int (i.vs.length : Int)) [.int 1, .int 2] = true := by
      rw [hlen]
      cases i <;> rfl
    refine q_when (b := false) (et_is (et_or (b := false) (et_not (et_B (ev_isi (t := "tuple") (b := true) (ev_var rfl) (ty_tup hb) (by decide +kernel)))) fun _ => et_is (et_test (ev_niU (ev_lnT (ev_var rfl) hb) (eu_tup (ea_cons ev_c (ea_cons ev_c ea_nil)) (by decide)) rfl rfl)) (by rw [hin]; rfl)) rfl) (fun z => nomatch z) fun _ H1 e1 => ?_
    have hb1 := ex_t e1 hb
    refine q_asg (ev_ixT (ev_var rfl) ev_c hb1 (vs_0 i)) fun H2 e2 => ?_
    have hb2 := ex_t e2 hb1
    refine q_when (et_eq (ev_lnT (ev_var rfl) hb2) ev_c rfl) (fun hc H3 e3 => ?_) (fun hc H3 e3 => ?_)
    · have ha : i.one = true := by
        have := of_decide_eq_true hc
        cases i <;> simp_all [In.isTouch, In.one, In.vs, In.arg]
      refine s_ret (ev_inK (ev_var rfl) ev_c (Wd.A _) rfl rfl) fun H4 e4 => ?_
      rw [w_one, ha]
      exact k H4 (((e1.trans e2).trans e3).trans e4)
    · obtain ⟨z, hz⟩ : ∃ z, i.arg = some z := by
        have := of_decide_eq_false hc
        cases i <;> simp_all [In.isTouch, In.vs, In.arg]
      have hb3 := ex_t e3 hb2
      refine q_when (et_inK (ev_var rfl) ev_c (Wd.C _) rfl rfl) (fun hc2 H4 e4 => ?_) (fun hc2 H4 e4 => ?_)
      · rw [w_cel] at hc2
        refine s_callR (ea_cons (ev_ixT (ev_var rfl) ev_c (ex_t e4 hb3) (vs_1 hz)) (ea_cons ev_c (ea_cons (ev_i0 (ev_var rfl) ev_c) ea_nil))) fun H5 e5 => ⟨_, 0, (c : Int) - 1, some z, rfl, rfl, fun H6 e6 => ?_⟩
        have : inRange (some z) 0 ((c : Int) - 1) = true := by
          cases i <;> simp_all [In.isTouch, In.cel, In.ok, In.arg, inRange] <;> omega
        rw [this]
        exact k H6 (((((e1.trans e2).trans e3).trans e4).trans e5).trans e6)
      · rw [w_cel] at hc2
        refine q_when (et_inK (ev_var rfl) ev_c (Wd.Pl _) rfl rfl) (fun hc3 H5 e5 => ?_) (fun hc3 H5 e5 => ?_)
        · rw [w_pla] at hc3
          refine s_callR (ea_cons (ev_ixT (ev_var rfl) ev_c (ex_t (e4.trans e5) hb3) (vs_1 hz)) (ea_cons ev_c (ea_cons (ev_var rfl) ea_nil))) fun H6 e6 => ⟨_, 0, (n : Int), some z, rfl, rfl, fun H7 e7 => ?_⟩
          have : inRange (some z) 0 (n : Int) = true := by
            cases i <;> simp_all [In.isTouch, In.pla, In.ok, In.arg, inRange] <;> omega
          rw [this]
          exact k H7 ((((((e1.trans e2).trans e3).trans e4).trans e5).trans e6).trans e7)
        · rw [w_pla] at hc3
          have hp : i.isPut = true := by cases i <;> simp_all [In.isTouch, In.pla, In.cel, In.isPut, In.ok, In.arg]
          refine s_ret (v := .bl true) (ev_is (ev_andV (ev_op (ev_var rfl) ev_c (rv_eq rfl)) (b := true) fun _ => ev_callV (ea_cons (ev_ixT (ev_var rfl) ev_c (ex_t (e4.trans e5) hb3) (vs_1 hz)) (ea_cons (ev_neg ev_c) (ea_cons ev_c ea_nil))) fun H6 e6 Q q => ⟨_, -1000000, 1000000, some z, rfl, rfl, fun H7 e7 => ?_⟩) (by rw [w_put, hp]; rfl)) fun H6 e6 => k H6 (((((e1.trans e2).trans e3).trans e4).trans e5).trans e6)
          have : inRange (some z) (-1000000) 1000000 = true := by
            cases i <;> simp_all [In.isTouch, In.isPut, In.ok, In.arg, inRange]
          rw [this]
          exact q H7 e7
/-! ### check_length, well -/
def spChkLen (K : PySem.W.Frag) : Sp := fun vs H Q _ => ∃ (a : Addr) (xs : List V) (m : Nat), vs = [.ref a, .int (m : Int)] ∧ SqT K H a xs ∧ 1 ≤ xs.length ∧ xs.length ≤ m ∧ ∀ H', Ex H H' → Q .non H'
abbrev s_check_length : Stmt := top 24
theorem sc_check_length : FnScope ["value", "most"] ["value", "most"] (defScope s_check_length) := ⟨rfl, rfl, rfl, by decide +kernel, rfl, by decide +kernel, by decide +kernel⟩
--TY check_length {'value':('tuple','any')}
theorem ok_check_length {f : Addr} {fd : FuncData} (F : Fun K "check_length" "check_length" s_check_length f fd) (T : Txt K mg) : FnOk P w K mg base CX0 2 f fd ["value", "most"] (spChkLen K) := by
  refine F.ok sc_check_length (fun vs H Q E h => ?_) (fun cdv A outer s H vs Q E hr h => ?_)
  · obtain ⟨_, _, _, rfl, _⟩ := h
    rfl
  · obtain ⟨a, xs, m, rfl, ha, h1, h2, k⟩ := h
    refine ⟨_, (pss_one (ps_if (PW.pt (pw_or (pt_not (pt_val (pe_callB (isi_K (K := K) rfl) (by rfl) T.z_isinstance (by decide +kernel) (pa_cons (pv 0) (pa_cons (pe_bltn (v := .ty "tuple") (by rfl) T.z_tuple (by decide +kernel) rfl) pa_nil))))) (pw_or1 (pt_not (pt_chain op_le op_le pe_int (pe_callB (len_K (K := K) rfl) (by rfl) T.z_len (by decide +kernel) (pa_cons (pv 0) pa_nil)) (pv 1)))))) (pss_one ps_never) pss_nil)), ?_⟩
    refine s_when (b := false) (et_is (et_or (b := false) (et_not (et_B (ev_isi (t := "tuple") (b := true) (ev_var rfl) (ty_tup ha) (by decide +kernel)))) fun _ => et_is (et_not (et_test (ev_chain ev_c (ev_lnT (ev_var rfl) ha) (ev_var rfl)))) ?_) rfl) (fun z => nomatch z) fun _ H1 e1 => k H1 e1
    have e1 : decide ((1 : Int) ≤ (xs.length : Int)) = true := decide_eq_true (by omega)
    have e2 : decide ((xs.length : Int) ≤ (m : Int)) = true := decide_eq_true (by omega)
    rw [e1, e2]
    rfl
/-! ### check_program, well -/
def spChkPg (K : PySem.W.Frag) : Sp := fun vs H Q _ => ∃ (c : Nat) (a : Addr) (p : List In), vs = [.int (c : Int), .ref a] ∧ PgT K H a p ∧ Pok c p ∧ NoT p ∧ p.length ≤ 20 ∧ ∀ H', Ex H H' → Q .non H'
end
end Fm
set_option Elab.async false
set_option linter.all false
set_option maxRecDepth 100000
set_option maxHeartbeats 1000000
namespace Fm
open PySem L2 Evl
/-- a machine of these fades and rows stands at m -/
def MaT (K : PySem.W.Frag) (H : Hp) (m : Addr) (fs rs : List Nat) : Prop := ∃ a b : Addr, SqT K H m [.ref a, .ref b] ∧ SqT K H a (nV fs) ∧ SqT K H b (nV rs)
theorem MaT.up {K : PySem.W.Frag} {H H' : Hp} {m : Addr} {fs rs : List Nat} (e : Ex H H') (h : MaT K H m fs rs) : MaT K H' m fs rs := let ⟨a, b, h1, h2, h3⟩ := h; ⟨a, b, ex_t e h1, ex_t e h2, ex_t e h3⟩
/-- what a touch makes of a life -/
def tch (fs rs ls : List Nat) (c i : Nat) : Nat := if ls.getD i 0 = 0 then 0 else if rs.getD i 0 = rs.getD c 0 then fs.getD i 0 else ls.getD i 0 - 1
def touchL (fs rs ls : List Nat) (c : Nat) : List Nat := (List.range ls.length).map (tch fs rs ls c)
def setL (fs rs ls : List Nat) (c : Nat) : List Nat := (touchL fs rs ls c).set c (fs.getD c 0)
def waitL (ls : List Nat) : List Nat := ls.map (· - 1)
theorem nV_app (a b : List Nat) : nV (a ++ b) = nV a ++ nV b := List.map_append
theorem nV_at {l : List Nat} {i : Nat} (h : i < l.length) : atI (nV l) (i : Int) = some (.int (l.getD i 0 : Nat)) := atI_nat' (by
  unfold nV
  rw [List.getElem?_map, List.getElem?_eq_getElem h, List.getD_eq_getElem?_getD, List.getElem?_eq_getElem h]
  rfl)
section
variable {K : PySem.W.Frag} {σ : L2.St} {H : Hp} {ta tb te tt' : TE} {D : Ends} {tz tu : TS} {tt : TT} {tA : TA}
/-- over a tuple that stands, of numbers told by enc -/
theorem el_lcT {a : Addr} {tl : TE} {j : Nat} {vs : List Nat} {zs : List Nat} (enc : Nat → V) (f : Nat → Bool) (v : Nat → V) (h : Ev tl σ H (.ref a)) (hx : SqT K H a (zs.map enc)) (hw : ∀ x, wipe ((wipe σ vs).set j (some x)) vs = wipe σ vs) (hz : zs.length ≤ 40000)
    (ht : ∀ (y : Nat) H1, y ∈ zs → Ex H H1 → EvT tt ((wipe σ vs).set j (some (enc y))) H1 (f y)) (he : ∀ (y : Nat) H1, y ∈ zs → Ex H H1 → f y = true → Ev te ((wipe σ vs).set j (some (enc y))) H1 (v y)) :
    EvL (tLc (iTup K tl) (gName j) tt te vs) σ H ((zs.filter f).map v) := fun H0 e0 Q q => h H0 e0 _ fun H2 e2 => by
  have e02 := e0.trans e2
  refine ⟨a, rfl, ⟨zs.map enc, ex_t e02 hx⟩, ?_⟩
  have get : ∀ {i : Nat} {x : V}, (zs.map enc)[i]? = some x → ∃ y, zs[i]? = some y ∧ x = enc y := fun {i x} hx => by
    rw [List.getElem?_map] at hx
    cases hy : zs[i]? with
    | none => rw [hy] at hx; cases hx
    | some y => rw [hy] at hx; cases hx; exact ⟨y, rfl, rfl⟩
  have key := given_map zs f v (fun i => f (zs[i]?.getD 0)) (fun i => v (zs[i]?.getD 0)) (fun i x hx => by simp only [hx, Option.getD_some]) (fun i x hx => by simp only [hx, Option.getD_some])
  exact lc_tailT (Qd := fun Dl H2 => Q (.ref Dl) H2) (fun i => f (zs[i]?.getD 0)) (fun i => v (zs[i]?.getD 0)) (ex_t e02 hx) (by rw [List.length_map]; exact hz) hw (fun i x H3 e3 hx => by
    obtain ⟨y, hy, rfl⟩ := get hx
    have := ht y H3 (List.mem_of_getElem? hy) (e02.trans e3)
    simp only [hy, Option.getD_some]
    exact this) (fun i x H3 e3 hx hf => by
    obtain ⟨y, hy, rfl⟩ := get hx
    simp only [hy, Option.getD_some] at hf ⊢
    exact he y H3 (List.mem_of_getElem? hy) (e02.trans e3) hf) fun Dl H3 hD e3 h3 => q Dl H3 (fresh_back e2 hD) (e2.trans e3) (by
    rw [List.length_map, key] at h3
    exact h3)
/-- over any tuple that stands, each turn giving one and the same value -/
theorem el_lcTv {a : Addr} {tl : TE} {j : Nat} {vs : List Nat} {xs : List V} (v : V) (h : Ev tl σ H (.ref a)) (hx : SqT K H a xs) (hw : ∀ x, wipe ((wipe σ vs).set j (some x)) vs = wipe σ vs) (hz : xs.length ≤ 40000)
    (he : ∀ (y : V) H1, y ∈ xs → Ex H H1 → Ev te ((wipe σ vs).set j (some y)) H1 v) :
    EvL (tLc (iTup K tl) (gName j) tYes te vs) σ H (xs.map fun _ => v) := fun H0 e0 Q q => h H0 e0 _ fun H2 e2 => by
  have e02 := e0.trans e2
  refine ⟨a, rfl, ⟨xs, ex_t e02 hx⟩, ?_⟩
  have hg : given xs.length (fun _ => true) (fun _ => v) = xs.map fun _ => v := by
    unfold given
    rw [List.filter_eq_self.mpr fun _ _ => rfl]
    refine List.ext_getElem (by simp) fun i h1 h2 => by simp
  exact lc_tailT (Qd := fun Dl H2 => Q (.ref Dl) H2) (fun _ => true) (fun _ => v) (ex_t e02 hx) hz hw (fun i x H3 e3 hx => et_yes) (fun i x H3 e3 hx hf => he x H3 (List.mem_of_getElem? hx) (e02.trans e3)) fun Dl H3 hD e3 h3 => q Dl H3 (fresh_back e2 hD) (e2.trans e3) (by
    rw [hg] at h3
    exact h3)
theorem q_unpack {a : Addr} {x y : V} {i j : Nat} (h : Ev te σ H (.ref a)) (ha : SqT K H a [x, y]) (k : ∀ H1, Ex H H1 → tz D ((σ.set i (some x)).set j (some y)) H1) : tSeq (tAsg te (gTup K 2 (gCons (gName i) (gCons (gName j) gNil)))) tz D σ H :=
  h H (Ex.refl H) _ fun H1 e1 => ⟨a, _, rfl, ex_t e1 ha, rfl, _, _, rfl, ⟨_, _, rfl, ⟨rfl, k H1 e1⟩⟩⟩
end
def spWaited (K : PySem.W.Frag) : Sp := fun vs H Q _ => ∃ (l : Addr) (ls : List Nat), vs = [.ref l] ∧ SqT K H l (nV ls) ∧ ls.length ≤ 10 ∧ ∀ b H', H b = none → Ex H H' → H' b = some (.tup (nV (waitL ls))) → Q (.ref b) H'
def spTouched (K : PySem.W.Frag) : Sp := fun vs H Q _ => ∃ (m l : Addr) (fs rs ls : List Nat) (c : Nat), vs = [.ref m, .ref l, .int (c : Nat)] ∧ MaT K H m fs rs ∧ SqT K H l (nV ls) ∧ fs.length = rs.length ∧ ls.length = rs.length ∧ c < rs.length ∧ rs.length ≤ 10 ∧
  ∀ b H', H b = none → Ex H H' → H' b = some (.tup (nV (touchL fs rs ls c))) → Q (.ref b) H'
def spSet (K : PySem.W.Frag) : Sp := fun vs H Q _ => ∃ (m l : Addr) (fs rs ls : List Nat) (c : Nat), vs = [.ref m, .ref l, .int (c : Nat)] ∧ MaT K H m fs rs ∧ SqT K H l (nV ls) ∧ fs.length = rs.length ∧ ls.length = rs.length ∧ c < rs.length ∧ rs.length ≤ 10 ∧
  ∀ b H', H b = none → Ex H H' → H' b = some (.tup (nV (setL fs rs ls c))) → Q (.ref b) H'
section
variable {P : Program} {w : World} {K : PySem.W.Frag} {mg : Str → Option Value} {base : Heap}
end
end Fm
set_option Elab.async false
set_option linter.all false
set_option maxRecDepth 100000
set_option maxHeartbeats 1000000
namespace Fm
open PySem L2 Evl RZ
def nm (rs : List Nat) : Nat := rs.foldl (fun n r => max n (r + 1)) 0
def RowsOk (rs : List Nat) : Prop := ∀ i r, rs[i]? = some r → r ≤ nm (rs.take i)
theorem nm_succ {rs : List Nat} {i r : Nat} (h : rs[i]? = some r) : nm (rs.take (i + 1)) = max (nm (rs.take i)) (r + 1) := by
  have : rs.take (i + 1) = rs.take i ++ [r] := by rw [List.take_succ, h]; rfl
  unfold nm
  rw [this, List.foldl_append]
  rfl
structure MaOk (fs rs : List Nat) : Prop where
  l1 : 1 ≤ fs.length
  l4 : fs.length ≤ 4
  ll : fs.length = rs.length
  f : ∀ x ∈ fs, 1 ≤ x ∧ x ≤ 8
  r : RowsOk rs
def LiOk (fs ls : List Nat) : Prop := ls.length = fs.length ∧ ∀ i, i < fs.length → ls.getD i 0 ≤ fs.getD i 0
def spFades (K : PySem.W.Frag) : Sp := fun vs H Q _ => ∃ (a : Addr) (fs : List Nat), vs = [.ref a] ∧ SqT K H a (nV fs) ∧ 1 ≤ fs.length ∧ fs.length ≤ 4 ∧ (∀ x ∈ fs, 1 ≤ x ∧ x ≤ 8) ∧ ∀ H', Ex H H' → Q (.bl true) H'
def spRows (K : PySem.W.Frag) : Sp := fun vs H Q _ => ∃ (a : Addr) (rs : List Nat), vs = [.ref a] ∧ SqT K H a (nV rs) ∧ RowsOk rs ∧ rs.length ≤ 100 ∧ ∀ H', Ex H H' → Q (.bl true) H'
def spChkMa (K : PySem.W.Frag) : Sp := fun vs H Q _ => ∃ (m : Addr) (fs rs : List Nat), vs = [.ref m] ∧ MaT K H m fs rs ∧ MaOk fs rs ∧ ∀ H', Ex H H' → Q .non H'
def spChkLi (K : PySem.W.Frag) : Sp := fun vs H Q _ => ∃ (m l : Addr) (fs rs ls : List Nat), vs = [.ref m, .ref l] ∧ MaT K H m fs rs ∧ MaOk fs rs ∧ SqT K H l (nV ls) ∧ LiOk fs ls ∧ ∀ H', Ex H H' → Q .non H'
def spChkCe (K : PySem.W.Frag) : Sp := fun vs H Q _ => ∃ (m : Addr) (fs rs : List Nat) (c : Nat), vs = [.ref m, .int (c : Nat)] ∧ MaT K H m fs rs ∧ MaOk fs rs ∧ c < rs.length ∧ ∀ H', Ex H H' → Q .non H'
section
variable {K : PySem.W.Frag} {σ : L2.St} {H : Hp} {ta tb te tt' : TE} {D : Ends} {tz tu : TS} {tt : TT} {tA : TA}
theorem ev_all {bs : List Bool} (h : EvL te σ H (bs.map V.bl)) : Ev (tCB (rAll K) (tCons te tNil)) σ H (.bl (bs.all id)) := fun H1 e Q q => h H1 e _ fun p H2 hp e2 h2 => ⟨p, bs, rfl, sq_of h2, q H2 e2⟩
/-- for x, y in zip(s, t), tuples of one length -/
theorem s_forZT {a b : Addr} {xs ys : List V} {i j : Nat} (h : EvA tA σ H [.ref a, .ref b]) (hx : SqT K H a xs) (hy : SqT K H b ys) (hl : xs.length = ys.length) (Pv : Nat → L2.St → Hp → Prop) (h0 : ∀ H1, Ex H H1 → Pv 0 σ H1) (hq : ∀ m σ' H', Pv m σ' H' → Ex H H')
    (hs : ∀ m x y σ' H', xs[m]? = some x → ys[m]? = some y → Pv m σ' H' → ∀ H2, Ex H' H2 → tu { D with nx := Pv (m + 1), ct := Pv (m + 1), bk := D.nx } ((σ'.set i (some x)).set j (some y)) H2) (hd : ∀ σ' H', Pv xs.length σ' H' → D.nx σ' H') :
    tFor (iZipA K tA) (gTup K 2 (gCons (gName i) (gCons (gName j) gNil))) tu D σ H := h H (Ex.refl H) _ fun H1 e => by
  refine ⟨a, b, xs, ys, rfl, .inr ⟨ex_t e hx, ex_t e hy, ?_⟩⟩
  refine for_zipT hl Pv (h0 H1 e) (fun m σ' H' p => ⟨ex_t (hq m σ' H' p) hx, ex_t (hq m σ' H' p) hy⟩) ?_ hd
  intro m x y T σ' H' h1 h2 p hT
  exact ⟨T, _, rfl, st_of upd_same, rfl, _, _, rfl, ⟨_, _, rfl, ⟨rfl, hs m x y σ' H' h1 h2 p _ (Ex.new hT)⟩⟩⟩
/-- for x in t: .. -/
theorem q_forTn {a : Addr} {xs : List V} {tl : TE} {j : Nat} (h : Ev tl σ H (.ref a)) (hx : SqT K H a xs) (Pv : Nat → L2.St → Hp → Prop) (h0 : ∀ H1, Ex H H1 → Pv 0 σ H1) (hl : ∀ i σ' H', i ≤ xs.length → Pv i σ' H' → SqT K H' a xs)
    (hs : ∀ i x σ' H', xs[i]? = some x → Pv i σ' H' → tu { D with nx := Pv (i + 1), ct := Pv (i + 1), bk := tz D } (σ'.set j (some x)) H') (hd : ∀ σ' H', Pv xs.length σ' H' → tz D σ' H') : tSeq (tFor (iTup K tl) (gName j) tu) tz D σ H :=
  q_forT h hx Pv h0 hl hs hd
end
section
variable {P : Program} {w : World} {K : PySem.W.Frag} {mg : Str → Option Value} {base : Heap}
abbrev s_are_fades : Stmt := top 19
theorem sc_are_fades : FnScope ["value", "fade"] ["value"] (defScope s_are_fades) := ⟨rfl, rfl, rfl, by decide +kernel, rfl, by decide +kernel, by decide +kernel⟩
--TY are_fades {'value':T,'fade':'any'}
theorem ok_fades {f f1 : Addr} {fd fd1 : FuncData} (F : Fun K "are_fades" "are_fades" s_are_fades f fd) (T : Txt K mg) (C_is_integer : Cal P w K mg base CX0 2 "is_integer" f1 fd1 ["value", "low", "high"] (spIsInt K)) : FnOk P w K mg base CX0 3 f fd ["value"] (spFades K) := by
  refine F.ok sc_are_fades (fun vs H Q E h => ?_) (fun cdv A outer s H vs Q E hr h => ?_)
  · obtain ⟨_, _, rfl, _⟩ := h
    rfl
  · obtain ⟨a, fs, rfl, ha, h1, h4, hf, k⟩ := h
    refine ⟨_, (pss_cons (ps_if (PW.pt (pw_or (pt_not (pt_val (pe_callB (isi_K (K := K) rfl) (by rfl) T.z_isinstance (by decide +kernel) (pa_cons (pv 0) (pa_cons (pe_bltn (v := .ty "tuple") (by rfl) T.z_tuple (by decide +kernel) rfl) pa_nil))))) (pw_or1 (pt_not (pt_chain op_le op_le pe_int (pe_callB (len_K (K := K) rfl) (by rfl) T.z_len (by decide +kernel) (pa_cons (pv 0) pa_nil)) (pe_glob (v := .int 4) rfl T.c_MOST_CELLS.choose_spec ⟨_, rfl⟩)))))) (pss_one (ps_ret pe_bl)) pss_nil)
  (pss_one (ps_ret (pe_callB (all_K (K := K) rfl rfl) (by rfl) T.z_all (by decide +kernel) (pa_cons (pe_lc (own := [("fade", 1)]) (g := gName 1) rfl sc_are_fades.nd (pi_tupK (K := K) rfl (pv 0)) (blkOk_by (by kernel_rfl)) (fun _ _ _ _ _ => pg_name (i := 1) sc_are_fades.nd rfl (by first | exact Or.inl rfl | exact Or.inr rfl)) (fun _ _ _ _ _ => pts_nil) (fun _ _ _ _ _ => (pe_call C_is_integer.G (hr.mono (by first | decide | omega)) rfl C_is_integer.g C_is_integer.kp C_is_integer.b .nil pass0 (pa_cons (pv 1) (pa_cons pe_int (pa_cons (pe_glob (v := .int 8) rfl T.c_MOST_FADE.choose_spec ⟨_, rfl⟩) pa_nil)))))) pa_nil))))), ?_⟩
    have hl : (nV fs).length = fs.length := nV_len fs
    have hch : (decide ((1 : Int) ≤ ((nV fs).length : Int)) && decide (((nV fs).length : Int) ≤ 4)) = true := by
      rw [hl, decide_eq_true (show (1 : Int) ≤ (fs.length : Int) by omega), decide_eq_true (show (fs.length : Int) ≤ 4 by omega)]
      rfl
    refine q_when (b := false) (et_is (et_or (b := false) (et_not (a := true) (et_B (ev_isi (t := "tuple") (b := true) (ev_var rfl) (ty_tup ha) (by decide +kernel)))) fun _ => et_not (a := true) (et_is (et_test (ev_chain ev_c (ev_lnT (ev_var rfl) ha) ev_c)) hch)) rfl) (fun z => nomatch z) fun _ H1 e1 => ?_
    have key := el_lcT (K := K) (σ := [some (.ref a), none]) (H := H1) (a := a) (tl := tVar 0) (j := 1) (vs := List.map (fun x => x.snd) [(("fade" : Str), 1)]) (tt := tYes) (te := tCall (spIsInt K) [] E0 (tCons (tVar 1) (tCons (tC (.int 1)) (tCons (tC (.int 8)) tNil)))) (zs := fs) (fun z => .int (z : Nat)) (fun _ => true) (fun z => .bl true)
      (ev_var rfl) (ex_t e1 ha) (fun x => rfl) (by omega) (fun y H2 _ _ => et_yes) (fun y H2 hy _ _ => ev_callV (ea_cons (ev_var rfl) (ea_cons ev_c (ea_cons ev_c ea_nil))) fun H3 e3 Q' q => ⟨_, 1, 8, some (y : Int), rfl, rfl, fun H4 e4 => by
        have : inRange (some (y : Int)) 1 8 = true := by
          have := hf y hy
          simp only [inRange, Bool.and_eq_true, decide_eq_true_eq]
          omega
        rw [this]
        exact q H4 e4⟩)
    rw [show fs.filter (fun _ => true) = fs from List.filter_eq_self.mpr fun _ _ => rfl] at key
    have hm : (fs.map fun _ => V.bl true) = (fs.map fun _ => true).map V.bl := by rw [List.map_map]; rfl
    rw [hm] at key
    refine s_ret (ev_all key) fun H2 e2 => ?_
    have : (fs.map fun _ => true).all id = true := by rw [List.all_map]; exact List.all_eq_true.mpr fun _ _ => rfl
    rw [this]
    exact k H2 (e1.trans e2)
abbrev s_are_rows : Stmt := top 20
theorem sc_are_rows : FnScope ["value", "named", "row"] ["value"] (defScope s_are_rows) := ⟨rfl, rfl, rfl, by decide +kernel, rfl, by decide +kernel, by decide +kernel⟩
--TY are_rows {'value':T,'row':'any','named':'int'}
theorem ok_rows {f f1 : Addr} {fd fd1 : FuncData} (F : Fun K "are_rows" "are_rows" s_are_rows f fd) (T : Txt K mg) (C_is_integer : Cal P w K mg base CX0 2 "is_integer" f1 fd1 ["value", "low", "high"] (spIsInt K)) : FnOk P w K mg base CX0 3 f fd ["value"] (spRows K) := by
  refine F.ok sc_are_rows (fun vs H Q E h => ?_) (fun cdv A outer s H vs Q E hr h => ?_)
  · obtain ⟨_, _, rfl, _⟩ := h
    rfl
  · obtain ⟨a, rs, rfl, ha, hr1, hl, k⟩ := h
    refine ⟨_, (pss_cons (ps_if (pt_not (pt_val (pe_callB (isi_K (K := K) rfl) (by rfl) T.z_isinstance (by decide +kernel) (pa_cons (pv 0) (pa_cons (pe_bltn (v := .ty "tuple") (by rfl) T.z_tuple (by decide +kernel) rfl) pa_nil))))) (pss_one (ps_ret pe_bl)) pss_nil)
  (pss_cons (ps_set (i := 1) sc_are_rows.nd rfl (Or.inl rfl) pe_int)
  (pss_cons (ps_for PassesOwn.never rfl (pi_tupK (K := K) rfl (pv 0)) (pg_name (i := 2) sc_are_rows.nd rfl (by first | exact Or.inl rfl | exact Or.inr rfl)) (pss_cons (ps_if (pt_not (pt_val (pe_call C_is_integer.G (hr.mono (by first | decide | omega)) rfl C_is_integer.g C_is_integer.kp C_is_integer.b .nil pass0 (pa_cons (pv 2) (pa_cons pe_int (pa_cons (pv 1) pa_nil)))))) (pss_one (ps_ret pe_bl)) pss_nil)
  (pss_one (ps_if (pt_cmpR op_eq (pv 2) (pv 1) (nomark _)) (pss_one (ps_aug (i := 1) sc_are_rows.nd rfl (Or.inl rfl) pe_int ip_add)) pss_nil))))
  (pss_one (ps_ret pe_bl))))), ?_⟩
    refine q_when (b := false) (et_not (a := true) (et_B (ev_isi (t := "tuple") (b := true) (ev_var rfl) (ty_tup ha) (by decide +kernel)))) (fun z => nomatch z) fun _ H1 e1 => ?_
    refine q_asg ev_c fun H2 e2 => ?_
    have e02 := e1.trans e2
    refine q_forTn (xs := nV rs) (ev_var rfl) (ex_t e02 ha) (fun i σ H' => ∃ z : Option V, Ex H H' ∧ σ = [some (.ref a), some (.int (nm (rs.take i) : Nat)), z]) (fun H3 e3 => ⟨_, e02.trans e3, rfl⟩) (fun i σ H' _ ⟨_, e, _⟩ => ex_t e ha) ?_ ?_
    · rintro i x σ H3 hi ⟨z, e3, rfl⟩
      obtain ⟨y, hy, rfl⟩ := nV_get hi
      have hyn := hr1 i y hy
      refine q_when (b := false) (et_not (a := true) (et_B (ev_callV (ea_cons (ev_var rfl) (ea_cons ev_c (ea_cons (ev_var rfl) ea_nil))) fun H4 e4 Q' q => ⟨_, 0, (nm (rs.take i) : Nat), some (y : Int), rfl, rfl, fun H5 e5 => by
        have : inRange (some (y : Int)) 0 (nm (rs.take i) : Nat) = true := by
          simp only [inRange, Bool.and_eq_true, decide_eq_true_eq]
          omega
        rw [this]
        exact q H5 e5⟩))) (fun z => nomatch z) fun _ H4 e4 => ?_
      refine s_when (et_eq (ev_var rfl) (ev_var rfl) rfl) (fun hc H5 e5 => ?_) (fun hc H5 e5 => ?_)
      · have : y = nm (rs.take i) := by have := V.int.inj (of_decide_eq_true hc); omega
        refine s_aug rfl ev_c fun H6 e6 => ?_
        refine ⟨some (.int (y : Nat)), ((e3.trans e4).trans e5).trans e6, ?_⟩
        rw [nm_succ hy, show (max (nm (rs.take i)) (y + 1) : Nat) = nm (rs.take i) + 1 by omega]
        rfl
      · have : y ≠ nm (rs.take i) := fun z => of_decide_eq_false hc (by rw [z])
        refine ⟨some (.int (y : Nat)), (e3.trans e4).trans e5, ?_⟩
        rw [nm_succ hy, show (max (nm (rs.take i)) (y + 1) : Nat) = nm (rs.take i) by omega]
        rfl
    · rintro σ H3 ⟨z, e3, rfl⟩
      exact s_ret ev_c fun H4 e4 => k H4 (e3.trans e4)
abbrev s_check_machine : Stmt := top 21
theorem sc_check_machine : FnScope ["value", "fades", "rows"] ["value"] (defScope s_check_machine) := ⟨rfl, rfl, rfl, by decide +kernel, rfl, by decide +kernel, by decide +kernel⟩
--TY check_machine {'value':T,'fades':T,'rows':T}
theorem ok_check_machine {f f1 f2 : Addr} {fd fd1 fd2 : FuncData} (F : Fun K "check_machine" "check_machine" s_check_machine f fd) (T : Txt K mg) (C_are_fades : Cal P w K mg base CX0 3 "are_fades" f1 fd1 ["value"] (spFades K)) (C_are_rows : Cal P w K mg base CX0 3 "are_rows" f2 fd2 ["value"] (spRows K)) : FnOk P w K mg base CX0 4 f fd ["value"] (spChkMa K) := by
  refine F.ok sc_check_machine (fun vs H Q E h => ?_) (fun cdv A outer s H vs Q E hr h => ?_)
  · obtain ⟨_, _, _, rfl, _⟩ := h
    rfl
  · obtain ⟨m, fs, rs, rfl, ⟨a, b, hm, ha, hb⟩, ok, k⟩ := h
    refine ⟨_, (pss_cons (ps_if (PW.pt (pw_or (pt_not (pt_val (pe_callB (isi_K (K := K) rfl) (by rfl) T.z_isinstance (by decide +kernel) (pa_cons (pv 0) (pa_cons (pe_bltn (v := .ty "tuple") (by rfl) T.z_tuple (by decide +kernel) rfl) pa_nil))))) (pw_or1 (pt_cmpR op_ne (pe_callB (len_K (K := K) rfl) (by rfl) T.z_len (by decide +kernel) (pa_cons (pv 0) pa_nil)) pe_int (nomark _))))) (pss_one ps_never) pss_nil)
  (pss_cons (ps_asg (pv 0) (pg_tup rfl (pgs_cons (pg_name (i := 1) sc_check_machine.nd rfl (by first | exact Or.inl rfl | exact Or.inr rfl)) (pgs_cons (pg_name (i := 2) sc_check_machine.nd rfl (by first | exact Or.inl rfl | exact Or.inr rfl)) pgs_nil))))
  (pss_cons (ps_if (pt_not (pt_val (pe_call C_are_fades.G (hr.mono (by first | decide | omega)) rfl C_are_fades.g C_are_fades.kp C_are_fades.b .nil pass0 (pa_cons (pv 1) pa_nil)))) (pss_one ps_never) pss_nil)
  (pss_one (ps_if (PW.pt (pw_or (pt_not (pt_val (pe_call C_are_rows.G (hr.mono (by first | decide | omega)) rfl C_are_rows.g C_are_rows.kp C_are_rows.b .nil pass0 (pa_cons (pv 2) pa_nil)))) (pw_or1 (pt_cmpR op_ne (pe_callB (len_K (K := K) rfl) (by rfl) T.z_len (by decide +kernel) (pa_cons (pv 2) pa_nil)) (pe_callB (len_K (K := K) rfl) (by rfl) T.z_len (by decide +kernel) (pa_cons (pv 1) pa_nil)) (nomark _))))) (pss_one ps_never) pss_nil))))), ?_⟩
    refine q_when (b := false) (et_is (et_or (b := false) (et_not (a := true) (et_B (ev_isi (t := "tuple") (b := true) (ev_var rfl) (ty_tup hm) (by decide +kernel)))) fun _ => et_is (et_ne (ev_lnT (ev_var rfl) hm) ev_c rfl) rfl) rfl) (fun z => nomatch z) fun _ H1 e1 => ?_
    refine q_unpack (ev_var rfl) (ex_t e1 hm) fun H2 e2 => ?_
    have e02 := e1.trans e2
    have ha2 := ex_t e02 ha
    have hb2 := ex_t e02 hb
    refine q_when (b := false) (et_not (a := true) (et_B (ev_callV (ea_cons (ev_var rfl) ea_nil) fun H3 e3 Q' q => ⟨a, fs, rfl, ex_t e3 ha2, ok.l1, ok.l4, ok.f, q⟩))) (fun z => nomatch z) fun _ H3 e3 => ?_
    have ha3 := ex_t e3 ha2
    have hb3 := ex_t e3 hb2
    have hll := ok.ll
    have hl4 := ok.l4
    refine s_when (b := false) (et_is (et_or (b := false) (et_not (a := true) (et_B (ev_callV (ea_cons (ev_var rfl) ea_nil) fun H4 e4 Q' q => ⟨b, rs, rfl, ex_t e4 hb3, ok.r, by omega, q⟩))) fun _ => et_is (et_ne (ev_lnT (ev_var rfl) hb3) (ev_lnT (ev_var rfl) ha3) rfl) (by rw [nV_len, nV_len, hll]; simp)) rfl) (fun z => nomatch z) fun _ H4 e4 => k H4 ((e02.trans e3).trans e4)
def spChkCeOf : Sp := fun vs H Q _ => ∃ (n c : Nat), vs = [.int (n : Nat), .int (c : Nat)] ∧ c < n ∧ ∀ H', Ex H H' → Q .non H'
def spBeh (K : PySem.W.Frag) (g : List Nat → List Nat → List Nat → Nat → List Nat) : Sp := fun vs H Q _ => ∃ (m l : Addr) (fs rs ls : List Nat) (c : Nat), vs = [.ref m, .ref l, .int (c : Nat)] ∧ MaT K H m fs rs ∧ MaOk fs rs ∧ SqT K H l (nV ls) ∧ LiOk fs ls ∧ c < rs.length ∧
  ∀ b H', H b = none → Ex H H' → H' b = some (.tup (nV (g fs rs ls c))) → Q (.ref b) H'
def spBehW (K : PySem.W.Frag) : Sp := fun vs H Q _ => ∃ (m l : Addr) (fs rs ls : List Nat), vs = [.ref m, .ref l] ∧ MaT K H m fs rs ∧ MaOk fs rs ∧ SqT K H l (nV ls) ∧ LiOk fs ls ∧
  ∀ b H', H b = none → Ex H H' → H' b = some (.tup (nV (waitL ls))) → Q (.ref b) H'
end
end Fm
set_option Elab.async false
set_option linter.all false
set_option maxRecDepth 100000
set_option maxHeartbeats 1000000
namespace Fm
open PySem L2 Evl TL
--RET {'words_of':('list','str'),'are_plain_digits':'bool','number_told':'any','numbers_behind':('tuple','int'),'lines_with_words':('list',('tuple','any')),'limits_behind':('tuple',('tuple','int'))}
/-- the words of a line -/
def wordsS (line : Str) : List Str := (Txt.split line " ").filter fun w => !decide (V.str w = V.str "")
def spWords : Sp := fun vs H Q _ => ∃ line : Str, vs = [.str line] ∧ line.length ≤ 49000 ∧ ∀ l H', H l = none → Ex H H' → H' l = some (.lst ((wordsS line).map V.str)) → Q (.ref l) H'
def spPlain : Sp := fun vs H Q _ => ∃ w : Str, vs = [.str w] ∧ w.length ≤ 100000 ∧ ∀ H', Ex H H' → Q (.bl (plainL (tl w))) H'
/-- the digits of a word, the sign off -/
def dgS (w : Str) : Str := if Txt.startswith w "-" = true then cutS w (some 1) none else w
/-- the number that a word tells -/
def numS (w : Str) : Option Int := if plainL (tl (dgS w)) = false ∨ w = "-0" then none else some (if dgS w = w then ((val (tl (dgS w)) : Nat) : Int) else -((val (tl (dgS w)) : Nat) : Int))
def numR (w : Str) (lo hi : Int) : Option Int := (numS w).bind fun n => if lo ≤ n ∧ n ≤ hi then some n else none
def oNum : Option Int → V
  | some n => .int n
  | none => .non
def spNum : Sp := fun vs H Q _ => ∃ (w : Str) (lo hi : Int), vs = [.str w, .int lo, .int hi] ∧ w.length ≤ 100000 ∧ ∀ H', Ex H H' → Q (oNum (numR w lo hi)) H'
theorem yes_lcT {σ : L2.St} {H : Hp} {Q : Bool → Hp → Prop} (h : Q true H) : tYes σ H Q := h
section
variable {K : PySem.W.Frag} {σ : L2.St} {H : Hp} {ta tb te tl' : TE} {tA tr : TA} {Q : VK} {D : Ends} {tz : TS}
theorem ev_cbS {z : Str} {n : Int} (ha : Ev ta σ H (.str z)) (hz : z.length ≤ sizeLine) (hn : n = (z.length : Nat)) : Ev (tCB (fun xs H Q => ∃ z : Str, xs = [.str z] ∧ z.length ≤ sizeLine ∧ Q (.int z.length) H) (tCons ta tNil)) σ H (.int n) := fun H1 e Q q => ha H1 e _ fun H2 e2 => ⟨z, rfl, hz, by rw [← hn]; exact q H2 e2⟩
/-- [.. for sign in a text] -/
theorem el_lcStr {z : Str} {j : Nat} {vs : List Nat} {f : Nat → V} (ha : Ev ta σ H (.str z)) (hw : ∀ x, wipe ((wipe σ vs).set j x) vs = wipe σ vs) (hz : z.length ≤ 50000)
    (he : ∀ (c : Nat) H', c ∈ z.cps.toList → Ex H H' → Ev te ((wipe σ vs).set j (some (.str ⟨#[c]⟩))) H' (f c)) : EvL (tLc (iStr ta) (gName j) tYes te vs) σ H (z.cps.toList.map f) := fun H1 e1 Q q => ha H1 e1 _ fun H2 e2 => ⟨z, rfl, fun D hD => lc_it walk_str (fun m H' => Ex H2 H' ∧ H' D = some (.lst ((z.cps.toList.take m).map f)))
    ⟨Ex.new hD, upd_same⟩ (fun m H' _ h => trivial) (fun m v H3 H4 hm h y => by
      obtain ⟨e3, h3⟩ := h
      obtain ⟨rfl, c, hc, rfl⟩ := y
      have hcl : z.cps.toList[m]? = some c := by rw [Array.getElem?_toList]; exact hc
      have hzl : z.cps.toList.length = z.length := by rw [Array.length_toList]; rfl
      refine ⟨hw _, ?_⟩
      refine yes_lcT ?_
      rw [if_pos rfl]
      refine (he c _ (List.mem_of_getElem? hcl) ((e1.trans e2).trans e3)) _ (Ex.refl _) _ fun H5 e5 => ?_
      refine ⟨_, e5 _ _ h3, sz_lt (by rw [List.length_map, List.length_take]; omega), Ex.mut (e3.trans e5) hD, ?_⟩
      rw [upd_same, List.take_add_one, hcl, List.map_append]
      rfl) (fun H3 h => by
      obtain ⟨e3, h3⟩ := h
      refine q D H3 (fresh_back e2 hD) (e2.trans e3) ?_
      rw [h3, List.take_of_length_le (by rw [Array.length_toList]; exact Nat.le_refl _)])⟩
theorem ev_bmS {r : V → List V → Hp → VK → Prop} {z : Str} {vs : List V} {v : V} (ha : Ev ta σ H (.str z)) (hA : EvA tA σ H vs) (hr : ∀ H1, Ex H H1 → ∀ Q : VK, Q v H1 → r (.str z) vs H1 Q) : Ev (tBM K "str" r ta tA) σ H v := fun H1 e Q q =>
  ha H1 e _ fun H2 e2 => ⟨rfl, hA H2 (e.trans e2) _ fun H3 e3 => hr H3 ((e.trans e2).trans e3) Q (q H3 (e2.trans e3))⟩
theorem ev_slS {tl1 th1 : TO} {z : Str} {lo hi : Option Int} (h : Ev te σ H (.str z)) (h1 : EvO tl1 σ H lo) (h2 : EvO th1 σ H hi) (hz : z.length ≤ sizeLine) : Ev (tSl rSlS te tl1 th1) σ H (.str (cutS z lo hi)) := fun H1 e Q q =>
  h H1 e _ fun H2 e2 => h1 H2 (e.trans e2) _ fun H3 e3 => h2 H3 ((e.trans e2).trans e3) _ fun H4 e4 => ⟨z, rfl, hz, q H4 ((e2.trans e3).trans e4)⟩
theorem q_words {a : Str} {b : Str} (ha : Ev ta σ H (.str a)) (hb : Ev tb σ H (.str b)) (h1 : (b.length == 0) = false) (h2 : a.length + 2 ≤ sizeLine) : EvL (tBM K "str" (fun x xs H Q => ∃ a b, x = .str a ∧ xs = [.str b] ∧ (b.length == 0) = false ∧ a.length + 2 ≤ sizeLine ∧ rNewStrs (Txt.split a b) H Q) ta (tCons tb tNil)) σ H ((Txt.split a b).map V.str) := fun H1 e Q q =>
  ha H1 e _ fun H2 e2 => ⟨rfl, hb H2 (e.trans e2) _ fun H3 e3 => ⟨a, b, rfl, rfl, h1, h2, fun p hp => q p _ (fresh_back (e2.trans e3) hp) ((e2.trans e3).trans (Ex.new hp)) upd_same⟩⟩
end
section
variable {P : Program} {w : World} {K : PySem.W.Frag} {mg : Str → Option Value} {base : Heap}
abbrev s_are_plain_digits : Stmt := top 32
theorem sc_are_plain_digits : FnScope ["word", "sign"] ["word"] (defScope s_are_plain_digits) := ⟨rfl, rfl, rfl, by decide +kernel, rfl, by decide +kernel, by decide +kernel⟩
--TY are_plain_digits {'word':'str','sign':'str','@over':{'inS':1}}
theorem ok_plain {f : Addr} {fd : FuncData} (F : Fun K "are_plain_digits" "are_plain_digits" s_are_plain_digits f fd) (T : Txt K mg) : FnOk P w K mg base CX0 1 f fd ["word"] spPlain := by
  refine F.ok sc_are_plain_digits (fun vs H Q E h => ?_) (fun cdv A outer s H vs Q E hr h => ?_)
  · obtain ⟨_, rfl, _⟩ := h
    rfl
  · obtain ⟨z, rfl, hz, k⟩ := h
    refine ⟨_, (pss_cons (ps_if (PW.pt (pw_or (pt_not (pt_chain op_le op_le pe_int (pe_callB call_len_str (by rfl) T.z_len (by decide +kernel) (pa_cons (pv 0) pa_nil)) (pe_glob (v := .int 7) rfl T.c_MOST_DIGITS.choose_spec ⟨_, rfl⟩))) (pw_or1 (pt_not (pt_val (pe_callB (all_K (K := K) rfl rfl) (by rfl) T.z_all (by decide +kernel) (pa_cons (pe_lc (own := [("sign", 1)]) (g := gName 1) rfl sc_are_plain_digits.nd (pi_str (pv 0)) (blkOk_by (by kernel_rfl)) (fun _ _ _ _ _ => pg_name (i := 1) sc_are_plain_digits.nd rfl (by first | exact Or.inl rfl | exact Or.inr rfl)) (fun _ _ _ _ _ => pts_nil) (fun _ _ _ _ _ => (pe_cmpR op_inS (pv 1) (pe_glob (v := .str "0123456789") rfl T.c_DIGITS.choose_spec ⟨_, rfl⟩) (by rfl)))) pa_nil))))))) (pss_one (ps_ret pe_bl)) pss_nil)
  (pss_one (ps_ret (pe_or (pe_cmpR op_eq (pv 0) pe_str (nomark _)) (pe_one (pe_cmpR op_ne (pe_ix ix_str (pv 0) pe_int (fun _ _ => rfl)) pe_str (nomark _))))))), ?_⟩
    have hlz : (tl z).length = z.length := (len_tl z).symm
    refine q_when (b := !(decide ((1 : Int) ≤ (z.length : Nat)) && decide (((z.length : Nat) : Int) ≤ 7)) || !((z.cps.toList.map fun c => decide (c ∈ DIG.cps.toList)).all id)) (et_or (et_not (et_test (ev_chain ev_c (ev_cbS (ev_var rfl) (sz_of hz) rfl) ev_c))) fun hb => et_not (et_B (ev_all ?_))) (fun hb H1 e1 => ?_) (fun hb H1 e1 => ?_)
    · rw [List.map_map]
      have h7 : z.length ≤ 50000 := by
        simp only [Bool.not_eq_false', Bool.and_eq_true, decide_eq_true_eq] at hb
        omega
      exact el_lcStr (ev_var rfl) (fun x => rfl) h7 fun c H1 hc e1 => ev_op (ev_var rfl) ev_c fun H2 e2 Q q => ⟨c, _, rfl, rfl, q H2 (Ex.refl H2)⟩
    · have hp : plainL (tl z) = false := by
        rw [List.all_map] at hb
        unfold plainL
        rw [hlz]
        simp only [Bool.or_eq_true, Bool.not_eq_true', Bool.and_eq_false_iff, decide_eq_false_iff_not] at hb
        simp only [Bool.and_eq_false_iff, decide_eq_false_iff_not]
        rcases hb with (hb | hb) | hb
        · exact .inl (.inl (.inl (by omega)))
        · exact .inl (.inl (.inr (by omega)))
        · exact .inl (.inr hb)
      refine s_ret ev_c fun H2 e2 => ?_
      have := k H2 (e1.trans e2)
      rwa [hp] at this
    · rw [List.all_map] at hb
      simp only [Bool.or_eq_false_iff, Bool.not_eq_false', Bool.and_eq_true, decide_eq_true_eq] at hb
      obtain ⟨⟨h1, h7⟩, hall⟩ := hb
      obtain ⟨c0, r0, hz0⟩ : ∃ c r, tl z = c :: r := by
        cases e : tl z with
        | nil =>
          have := congrArg List.length e
          rw [hlz] at this
          exact absurd this (by simp; omega)
        | cons c r => exact ⟨c, r, rfl⟩
      have hix : atI z.cps.toList (0 : Int) = some c0 := by
        have : atI z.cps.toList ((0 : Nat) : Int) = some c0 := atI_nat' (by show (tl z)[0]? = _; rw [hz0]; rfl)
        exact this
      refine s_ret (v := .bl (decide (V.str z = V.str "0") || !decide (V.str ⟨#[c0]⟩ = V.str "0"))) (ev_orV (ev_op (ev_var rfl) ev_c (rv_eq rfl)) fun _ => ev_op (ev_op (ev_var rfl) ev_c (rv_ixS (by omega) hix)) ev_c (rv_ne rfl)) fun H2 e2 => ?_
      have e3 : plainL (tl z) = (decide (V.str z = V.str "0") || !decide (V.str ⟨#[c0]⟩ = V.str "0")) := by
        unfold plainL
        have a1 : decide (1 ≤ (tl z).length) = true := decide_eq_true (by rw [hlz]; omega)
        have a2 : decide ((tl z).length ≤ 7) = true := decide_eq_true (by rw [hlz]; omega)
        have a3 : ((tl z).all fun c => decide (c ∈ DIG.cps.toList)) = true := hall
        rw [a1, a2, a3]
        have b1 : (tl z = [48]) ↔ (V.str z = V.str "0") := by
          have e0 : tl ("0" : Str) = [48] := by decide +kernel
          rw [← e0]
          exact ⟨fun q => congrArg V.str (ext_tl q), fun q => by rw [V.str.inj q]⟩
        have b2 : ((tl z).head? = some 48) ↔ (V.str ⟨#[c0]⟩ = V.str "0") := by
          rw [hz0]
          have e0 : ("0" : Str) = ⟨#[48]⟩ := by decide +kernel
          rw [e0]
          constructor
          · intro q
            rw [show c0 = 48 from Option.some.inj q]
          · intro q
            have q2 : tl (⟨#[c0]⟩ : Str) = tl (⟨#[48]⟩ : Str) := by rw [V.str.inj q]
            have q3 : [c0] = [48] := q2
            rw [(List.cons.inj q3).1]
            rfl
        have q1 : decide (tl z = [48]) = decide (V.str z = V.str "0") := decide_eq_decide.mpr b1
        have q2 : decide ((tl z).head? = some 48) = decide (V.str ⟨#[c0]⟩ = V.str "0") := decide_eq_decide.mpr b2
        rw [q1, q2]
        rfl
      rw [← e3]
      exact k H2 (e1.trans e2)
abbrev s_number_told : Stmt := top 33
theorem sc_number_told : FnScope ["word", "low", "high", "digits", "number"] ["word", "low", "high"] (defScope s_number_told) := ⟨rfl, rfl, rfl, by decide +kernel, rfl, by decide +kernel, by decide +kernel⟩
--TY number_told {'word':'str','low':'int','high':'int','digits':'str','number':'int'}
theorem ok_number_told {f f1 : Addr} {fd fd1 : FuncData} (F : Fun K "number_told" "number_told" s_number_told f fd) (T : Txt K mg) (C_are_plain_digits : Cal P w K mg base CX0 1 "are_plain_digits" f1 fd1 ["word"] spPlain) : FnOk P w K mg base CX0 2 f fd ["word", "low", "high"] spNum := by
  refine F.ok sc_number_told (fun vs H Q E h => ?_) (fun cdv A outer s H vs Q E hr h => ?_)
  · obtain ⟨_, _, _, rfl, _⟩ := h
    rfl
  · obtain ⟨z, lo, hi, rfl, hz, k⟩ := h
    refine ⟨_, (pss_cons (ps_set (i := 3) sc_number_told.nd rfl (Or.inl rfl) (pe_ifExp (pt_val (pe_bmK (K := K) rfl PySem.F.plainAttrs_str PySem.F.slot_str_startswith PySem.F.type_str_startswith mt_startswith (pv 0) (pa_cons pe_str pa_nil))) (pe_slice sl_str (pv 0) (po_some pe_int) po_none) (pv 0)))
  (pss_cons (ps_if (PW.pt (pw_or (pt_not (pt_val (pe_call C_are_plain_digits.G (hr.mono (by first | decide | omega)) rfl C_are_plain_digits.g C_are_plain_digits.kp C_are_plain_digits.b .nil pass0 (pa_cons (pv 3) pa_nil)))) (pw_or1 (pt_cmpR op_eq (pv 0) pe_str (nomark _))))) (pss_one (ps_ret pe_non)) pss_nil)
  (pss_cons (ps_set (i := 4) sc_number_told.nd rfl (Or.inl rfl) (pe_ifExp (pt_cmpR op_eq (pv 3) (pv 0) (nomark _)) (pe_callTy call_int_str (by rfl) T.z_int (by decide +kernel) (pa_cons (pv 3) pa_nil)) (pe_un un_neg (pe_callTy call_int_str (by rfl) T.z_int (by decide +kernel) (pa_cons (pv 3) pa_nil)))))
  (pss_one (ps_ret (pe_ifExp (pt_chain op_le op_le (pv 1) (pv 4) (pv 2)) (pv 4) pe_non)))))), ?_⟩
    have hdl : (dgS z).length ≤ 100000 := by
      unfold dgS
      split
      · rw [len_tl]
        show ((((tl z).drop _).take _)).length ≤ _
        rw [List.length_take, List.length_drop, ← len_tl]
        omega
      · exact hz
    refine q_asg (v := .str (dgS z)) (ev_if (b := Txt.startswith z "-") (et_B (ev_bmS (ev_var rfl) (ea_cons ev_c ea_nil) fun H1 e1 Q q => ⟨z, "-", rfl, rfl, q⟩)) (fun hb => ?_) (fun hb => ?_)) fun H1 e1 => ?_
    · have : dgS z = cutS z (some 1) none := by unfold dgS; rw [if_pos hb]
      rw [this]
      exact ev_slS (ev_var rfl) (eo_some ev_c) eo_none (sz_of hz)
    · have : dgS z = z := by unfold dgS; rw [if_neg (by rw [hb]; exact Bool.false_ne_true)]
      rw [this]
      exact ev_var rfl
    refine q_when (b := !(plainL (tl (dgS z))) || decide (V.str z = V.str "-0")) (et_or (et_not (et_B (ev_callV (ea_cons (ev_var rfl) ea_nil) fun H2 e2 Q q => ⟨dgS z, rfl, hdl, q⟩))) fun _ => et_eq (ev_var rfl) ev_c rfl) (fun hb H2 e2 => ?_) (fun hb H2 e2 => ?_)
    · have hn : numS z = none := by
        unfold numS
        refine if_pos ?_
        simp only [Bool.or_eq_true, Bool.not_eq_true', decide_eq_true_eq] at hb
        exact hb.imp id fun q => V.str.inj q
      refine s_ret ev_c fun H3 e3 => ?_
      have := k H3 ((e1.trans e2).trans e3)
      unfold numR at this
      rw [hn] at this
      exact this
    · simp only [Bool.or_eq_false_iff, Bool.not_eq_false', decide_eq_false_iff_not] at hb
      have hn : numS z = some (if dgS z = z then ((val (tl (dgS z)) : Nat) : Int) else -((val (tl (dgS z)) : Nat) : Int)) := by
        unfold numS
        refine if_neg ?_
        rintro (q | q)
        · rw [hb.1] at q; cases q
        · exact hb.2 (congrArg V.str q)
      have hint : ∀ {σ : L2.St} {H' : Hp}, σ[3]? = some (some (.str (dgS z))) → Ev (tCB (fun xs H Q => ∃ a n, xs = [V.str a] ∧ PySem.intText? a = some n ∧ a.length ≤ 640 ∧ Q (.int n) H) (tCons (tVar 3) tNil)) σ H' (.int (val (tl (dgS z)) : Nat)) := fun hs => fun H4 e4 Q q => (ev_var hs) H4 e4 _ fun H5 e5 => ⟨dgS z, _, rfl, plain_int hb.1, by
        have h1 := hb.1
        unfold plainL at h1
        simp only [Bool.and_eq_true, decide_eq_true_eq] at h1
        rw [len_tl]
        omega, q H5 e5⟩
      refine q_asg (v := .int (if dgS z = z then ((val (tl (dgS z)) : Nat) : Int) else -((val (tl (dgS z)) : Nat) : Int))) (ev_if (b := decide (V.str (dgS z) = V.str z)) (et_eq (ev_var rfl) (ev_var rfl) rfl) (fun hb2 => ?_) (fun hb2 => ?_)) fun H3 e3 => ?_
      · rw [if_pos (V.str.inj (of_decide_eq_true hb2))]
        exact hint rfl
      · rw [if_neg fun q => of_decide_eq_false hb2 (congrArg V.str q)]
        exact ev_neg (hint rfl)
      generalize hnv : (if dgS z = z then ((val (tl (dgS z)) : Nat) : Int) else -((val (tl (dgS z)) : Nat) : Int)) = n at hn ⊢
      refine s_ret (v := oNum (numR z lo hi)) (ev_if (b := decide (lo ≤ n) && decide (n ≤ hi)) (et_test (ev_chain (ev_var rfl) (ev_var rfl) (ev_var rfl))) (fun hb3 => ?_) (fun hb3 => ?_)) fun H4 e4 => k H4 ((e1.trans e2).trans (e3.trans e4))
      · rw [Bool.and_eq_true, decide_eq_true_eq, decide_eq_true_eq] at hb3
        have : numR z lo hi = some n := by unfold numR; rw [hn]; exact if_pos hb3
        rw [this]
        exact ev_var rfl
      · have : numR z lo hi = none := by
          unfold numR
          rw [hn]
          refine if_neg fun q => ?_
          rw [Bool.and_eq_false_iff, decide_eq_false_iff_not, decide_eq_false_iff_not] at hb3
          exact hb3.elim (fun z => z q.1) fun z => z q.2
        rw [this]
        exact ev_c
end
end Fm
set_option Elab.async false
set_option linter.all false
set_option maxRecDepth 100000
set_option maxHeartbeats 1000000
open L2
namespace Fm
namespace NS_BadLine
open PySem PySem.W PySem.Calls PyProof.Rows PySem.HandSPX
abbrev sI : Stmt := inClass (top 4) 0
/-- what the written part says of BadLine, at C, of its __init__, at fI, of the cell of its class, at cc, of the code, at cda -/
structure Ty (P : Program) (K : Frag) (mg : Str → Option Value) (C fI cc cda : Addr) : Prop where
  gC : mg "BadLine" = some (.ref C)
  zS : mg "super" = none
  tp : nsIn K cStatics "thirdparty.any" = some none
  cls : ∃ nm q N bs bm sn sub ab col dd k0 k1 k2 k3 k5, K.lookup C = some (excClassObj nm q C N bs bm true sn sub ab col dd k0 k1 k2 k3 k5 "ValueError.__new__") ∧ refsVE bm = true
  sup : ks_superIn K C C "__init__" = some (some (.builtin "ValueError.__init__"))
  mro : mroIn K C (.ref C) = some true
  ve : subIn K (.ref C) (.type "ValueError") = some true
  sa : findIn K (.ref C) "__setattr__" = some (some (.builtin "object.__setattr__"))
  ga : findIn K (.ref C) "__getattribute__" = some (some (.builtin "BaseException.__getattribute__"))
  gg : findIn K (.ref C) "__getattr__" = some none
  noN : findIn K (.ref C) "line" = some none
  noE : findIn K (.ref C) "place" = some none
  iC : findIn K (.ref C) "__init__" = some (some (.ref fI))
  tC : typeIn K (.ref fI) = some (.type "function")
  kC : keepIn K (.ref C) = true
  exC : subIn K (.ref C) (.type "BaseException") = some true
  tyC : typeIn K (.ref C) = some (.type "type")
  hdC : hasDictIn K C = true
  te : exmOne K (.ref C) (.ref C) = some true
  file : ∃ (ccl : Value) (cdd : Option Addr) (vs : Array Value) (ccs : Array (Option Value)) (fl : Str) (tf : Tok), K.lookup cda = some ⟨ccl, cdd, .fields vs, ccs⟩ ∧ vs[2]? = some (.str fl tf) ∧ ((P.main.file : Str) == fl) = true
  cell : ∃ (cl : Value) (cld : Option Addr) (csl : Array (Option Value)), K.lookup cc = some ⟨cl, cld, .cell (some (.ref C)), csl⟩
  top_ : (P.main.scope.names.lookup ("super" : Str)).isSome = false
  fn : ∃ (oc : Value) (od : Option Addr) (doc pm : Value) (an : Option Addr) (ct : Value) (osl : Array (Option Value)),
    K.lookup fI = some ⟨oc, od, .func (ksFn "__init__" "BadLine.__init__" (defArgs sI) (defBody sI) (defScope sI) .none .none doc pm an (.ref cda) ct cc), osl⟩ ∧ codeIn K (.ref cda) "BadLine.__init__" = true
/-- a value that is told well in a text -/
def Told (v : Value) : Prop := v = .none ∨ (∃ i t, v = .int i t ∧ i.natAbs.log2 < 1920) ∨ ∃ y t, v = .str y t ∧ y.length ≤ 1000
structure InitEnd (h h' : Heap) (x C dx t1 : Addr) (v v2 : Value) : Prop where
  keep : ∀ b o, b ≠ x → h.get? b = some o → h'.get? b = some o
  obj : h'.get? x = some { cls := .ref C, dict := some dx, data := .fields #[.ref t1, .none, .none, .none, .bool false, .none] }
  dbig : h.objs.size ≤ dx
  dne : dx ≠ x
  ns : h'.Ns1 dx (fun y => if y = "place" then some v2 else if y = "line" then some v else none)
section
variable {prog : Program} {w : World} {A : Around} {E : Value → Shared → Prop} {R : Result → Shared → Prop} {s : Shared} {K : Frag} {mg : Str → Option Value} {base : Heap} {C fI cc cda : Addr}
theorem str_len (a b : Str) : (a ++ b).length = a.length + b.length := Array.size_append
theorem told_field {v : Value} (V : Told v) {s : Shared} {Q : Value → Shared → Prop} (h : ∀ y t tk, y.length ≤ 10000 → Q (.str y t) { s with toks := tk }) : wpAny (model prog w) A (formatField v Str.empty) Q E s := by
  rcases V with rfl | ⟨i, t, rfl, hi⟩ | ⟨y, t, rfl, hy⟩
  · exact wpAny_formatField_none (h _ _ _ (by decide))
  · refine wpAny_formatField_int hi (h _ _ _ ?_)
    have e := int_text_length_le (k := 1920) (by decide) hi
    show (Str.ofString (toString i)).length ≤ 10000
    rw [PySem.ofString_length]
    omega
  · exact wpAny_formatField_str (by obtain ⟨_, _, _, _, _⟩ := s; exact h _ _ _ (by omega)) (h _ _ _ (by omega)) (by rw [sizeLine_eq]; omega)
theorem init_call {h : Heap} {g : Array GenState} {d : Drawn} {t : Nat} {os : OsState} {nm q : Str} {N u e t0 : Addr} {bs bm : List Value} {hdct : Bool} {sn : List Str} {sub : List Value} {ab : Bool} {col : Option Bool} {dd : Option Addr} {k0 k1 k2 k3 k5 : Option Value} {rest : List Value} {Q : Value → Shared → Prop}
    (hC : h.get? C = some (excClassObj nm q C N bs bm hdct sn sub ab col dd k0 k1 k2 k3 k5 "ValueError.__new__")) (he : h.get? e = some (excO C t0)) (hu : h.get? u = some (kxs_mw "ValueError.__init__" e)) (hrest : rest.length ≤ sizeLine)
    (hq : ∀ h', (∀ b o, b ≠ e → h.get? b = some o → h'.get? b = some o) → h'.get? e = some (excO C h.objs.size) → Q .none ⟨h', g, d, t, os⟩) : wpAny (model prog w) A (call (.ref u) rest) Q E ⟨h, g, d, t, os⟩ := by
  refine wpAny_call (codeAny_of_tree (show wpAny (model prog w) A.in1 (callAny (.ref u) ⟨rest, []⟩) _ _ _ from ?_))
  have yes : (Value.type "method-wrapper" == Value.type "method" || Value.type "method-wrapper" == Value.type "builtin_function_or_method" || Value.type "method-wrapper" == Value.type "method-wrapper") = true := by decide
  simp only [callAny]; refine wpAny_bind (wpAny_load hu ?_); simp only [kxs_mw, yes, if_true]
  refine KFB.if_so (by decide) (wpAny_bind (check_bound_init F.excBase_ValueError.toExcCallFacts hC he rfl (wpAny_bind (wpAny_pure (wpAny_pure ⟨plainId_quiet F.excBase_ValueError.init.plain _, codeAny_builtin F.excBase_ValueError.initEntry ?_⟩)))))
  exact exc_init_tree (cls := .ref C) (t0 := t0) (dv := none) (c2 := .none) (c3 := .none) (b4 := .bool false) he hrest fun h' a b _ => hq h' a b
theorem init_ok (T : Ty prog K mg C fI cc cda) {x t0 : Addr} {v v2 : Value} (V : Told v) (V2 : Told v2) (Md : L2.Mod K mg base) (bk : ∀ b o, base.get? b = some o → s.heap.get? b = some o) (hx : s.heap.get? x = some (excO C t0)) (hnx : K.lookup x = none) (hroom : A.depth < recursionLimit)
    (hq : ∀ h' tk dx t1, InitEnd s.heap h' x C dx t1 v v2 → R (.ok (.ret .none)) { s with heap := h', toks := tk }) : codeAny (model prog w) A (.call (.ref fI) ⟨[.ref x, v, v2], []⟩) R s := by
  obtain ⟨oc, od, doc, pm, an, ct, osl, ho, hcd⟩ := T.fn
  obtain ⟨ccl, cdd, vs, ccs, fl, tf, hcode, hvs, hfile⟩ := T.file
  obtain ⟨cl, cld, csl, hcell⟩ := T.cell
  obtain ⟨nm, q, N, bs, bm, sn, sub, ab, col, dd, k0, k1, k2, k3, k5, hC, hbm⟩ := T.cls
  have hcl : clsIn K C = some { name := nm, bases := bs, mro := .ref C :: bm, ns := N, qualname := q, hasDict := true, slotNames := sn, subclasses := sub, abstract := ab, collection := col, hasDel := false } := by unfold clsIn; rw [hC] <;> rfl
  have X : K.In s.heap := fun a o e => bk _ _ (Md.kin a o e)
  have nocell : ∀ y ∈ (defScope sI).names, y.2 ≠ .cell := by decide +kernel
  have loc : ∀ y ∈ [(("self" : Str), Value.ref x), ("line", v), ("place", v2)], (defScope sI).names.lookup y.1 = some .local := fun y hy => by
    rcases List.mem_cons.mp hy with rfl | hy
    · show (defScope sI).names.lookup ("self" : Str) = some .local
      decide +kernel
    · rcases List.mem_cons.mp hy with rfl | hy
      · show (defScope sI).names.lookup ("line" : Str) = some .local
        decide +kernel
      · rcases List.mem_cons.mp hy with rfl | hy
        · show (defScope sI).names.lookup ("place" : Str) = some .local
          decide +kernel
        · cases hy
  refine ks_codeAny_call_defAt (a := fI) (args := ⟨[.ref x, v, v2], []⟩) (binds := [("self", .ref x), ("line", v), ("place", v2)]) hroom (X _ _ ho) rfl (Md.nolimit.keeps bk) (codeRec_of X hcd) rfl (BindsTo.of_eq (by first | rfl | with_unfolding_all rfl)) nocell loc (fun h₁ hns hk₁ => ?_) rfl rfl rfl
  have X₁ : K.In h₁ := X.keeps hk₁
  have bk₁ : ∀ b o, base.get? b = some o → h₁.get? b = some o := fun b o e => hk₁ _ _ (bk _ _ e)
  have hx₁ := hk₁ _ _ hx
  have hxL : s.heap.objs.size ≠ x := Nat.ne_of_gt (Heap.lt_size hx)
  have hxC : x ≠ C := fun z => by
    rw [z, hC] at hnx
    cases hnx
  obtain ⟨oD, hD1, hD2⟩ : ∃ oD, h₁.get? C = some oD ∧ ∃ cd, oD.data = .cls cd := ⟨_, X₁ _ _ hC, _, rfl⟩
  obtain ⟨cd, hD2⟩ := hD2
  obtain ⟨mb, hb1, hb2⟩ := Md.blt
  refine ks_wpAt_execs_cons (ks_wpAt_Expr_any (ks_wpAt_MethodCall ?_))
  refine ks_wpAt_super_base (by rfl) (by rfl) (by decide) rfl (X₁ _ _ ho) rfl rfl rfl (X₁ _ _ hcode) rfl hvs hfile T.top_ ?_
  refine ks_loadName_global rfl (by rfl) (loadGlobal_builtin (Md.glob.keeps bk₁) T.zS (hb1.keeps bk₁) ((hb2 _ (by decide)).trans PyProof.Rows.Boot.«super») ⟨rfl, ?_⟩)
  refine wpAny_loadName_free rfl (by rfl) rfl ⟨_, X₁ _ _ hcell, rfl⟩ ?_
  refine wpAny_loadName_local rfl (by rfl) hns (by rfl) ?_
  refine ks_wpAny_isType_cls hD1 hD2 ⟨rfl, ?_⟩
  refine ks_wpAny_call_super hD1 hD2 hx₁ rfl (fun c e => nomatch e) (looks_mroIn X₁ T.mro) (fun h₂ e₂ k₂ => ?_)
  have X₂ : K.In h₂ := X₁.keeps k₂
  have hx₂ := k₂ _ _ hx₁
  have I₂ : InstAt h₂ x (excO C t0) C none := ⟨hx₂, rfl, rfl, trivial⟩
  have sup := T.sup
  unfold ks_superIn at sup
  rw [hcl] at sup
  refine kxs_getMethod kxs_ValueError e₂ (looks_opaque X₂ T.tp) (l₀ := .ref C :: bm) ((looks_clsIn X₂ hcl).andThen .now) rfl X₂ sup (I₂.type.andThen (looks_subIn X₂ T.ve)) hxC (by decide) ?_
  -- the call: its one argument
  have hlt : s.heap.objs.size < h₁.objs.size := hns.lt
  refine kxs_callWith (i := "ValueError.__init__") (x := x) (first := []) (by rfl) (evalArgs_plain ?_)
  have up₂ : ∀ b o, h₁.get? b = some o → (h₂.push (kxs_mw "ValueError.__init__" x)).get? b = some o := fun b o e => Heap.get?_push_of_some _ (k₂ _ _ e)
  refine spliced_cons (wpAny_JoinedStr (pos := ⟨0, 0, 0, 0⟩) ?_)
  refine Calls.Constant_str ⟨_, _, rfl, by decide, ?_⟩
  show wpAny _ _ (eval (.FormattedValue (.Name "line" _) (-1) none _) _) _ _ _
  refine wpAny_FormattedValue_plain (wpAny_Name ?_ (by decide))
  refine wpAny_loadName_local rfl (by rfl) (hns.keeps up₂) (by rfl) ?_
  refine told_field V fun y t tk hy => ⟨y, t, rfl, ?len, ?_⟩
  case len =>
    rw [str_len, str_len, sizeLine_eq]
    have : (Str.empty.length : Nat) + ("line " : Str).length ≤ 1000 := by decide +kernel
    omega
  refine Calls.Constant_str ⟨_, _, rfl, ?lenc, ?_⟩
  case lenc =>
    rw [str_len, str_len, str_len, sizeLine_eq]
    have : (Str.empty.length : Nat) + ("line " : Str).length + (", word " : Str).length ≤ 1000 := by decide +kernel
    omega
  show wpAny _ _ (eval (.FormattedValue (.Name "place" _) (-1) none _) _) _ _ _
  refine wpAny_FormattedValue_plain (wpAny_Name ?_ (by decide))
  refine wpAny_loadName_local rfl (by rfl) (hns.keeps up₂) (by rfl) ?_
  refine told_field V2 fun y2 t2 tk2 hy2 => ⟨y2, t2, rfl, ?len3, ?len4, ?_⟩
  case len3 =>
    rw [str_len, str_len, str_len, str_len, sizeLine_eq]
    have : (Str.empty.length : Nat) + ("line " : Str).length + (", word " : Str).length ≤ 1000 := by decide +kernel
    omega
  case len4 =>
    rw [str_len, str_len, str_len, str_len, sizeLine_eq]
    have : (Str.empty.length : Nat) + ("line " : Str).length + (", word " : Str).length ≤ 1000 := by decide +kernel
    omega
  refine spliced_nil ⟨Heap.get?_push_at rfl rfl, ?_⟩
  -- ValueError.__init__ bound
  have hu : (h₂.push (kxs_mw "ValueError.__init__" x)).get? h₂.objs.size = some (kxs_mw "ValueError.__init__" x) := Heap.get?_push_at rfl rfl
  have hx₃ := up₂ _ _ hx₁
  have hC₃ := up₂ _ _ (X₁ _ _ hC)
  generalize h₂.push (kxs_mw "ValueError.__init__" x) = h₃ at up₂ hu hx₃ hC₃ ⊢
  refine init_call hC₃ hx₃ hu (by show 1 ≤ sizeLine; rw [sizeLine_eq]; decide) fun h₄ k₄ hx₄ => ?_
  have hL₃ := hns.keeps up₂
  have hns₄ : h₄.Ns s.heap.objs.size (fun y => List.lookup y [(("self" : Str), Value.ref x), ("line", v), ("place", v2)].reverse) := by
    obtain ⟨oL, es, ep, hL, r⟩ := hL₃
    exact ⟨oL, es, ep, k₄ _ _ hxL hL, r⟩
  have k0 : ∀ b o, b ≠ x → s.heap.get? b = some o → h₄.get? b = some o := fun b o hb e => k₄ b o hb (up₂ _ _ (hk₁ _ _ e))
  have X₄ : K.In h₄ := fun a o e => k0 a o (fun z => by rw [z, hnx] at e; cases e) (X a o e)
  -- self.line = line
  refine wpAt_of_wpAny (wpAny_execs_cons (plainObj_wpAny_Assign_Attribute ?_))
  refine wpAny_Name (wpAny_loadName_local rfl (by rfl) hns₄ (by rfl) ?_) (by decide)
  refine wpAny_Name (wpAny_loadName_local rfl (by rfl) hns₄ (by rfl) ?_) (by decide)
  refine set_plain X₄ (ox := excO C h₃.objs.size) (od := none) ⟨hx₄, rfl, rfl, trivial⟩ T.sa ?_
  refine exc_osa X₄ hx₄ hcl (show refsVE (.ref C :: bm) = true from hbm) rfl T.noN (fun h₅ tk₅ dx k₅ dn dne hx₅ hn₅ => ?_)
  have zz : s.heap.objs.size ≤ h₄.objs.size := Nat.le_of_lt hns₄.lt
  have k5 : ∀ b o, b ≠ x → s.heap.get? b = some o → h₅.get? b = some o := fun b o hb e => k₅ b o hb (k0 b o hb e)
  have X₅ : K.In h₅ := fun a o e => k5 a o (fun z => by rw [z, hnx] at e; cases e) (X a o e)
  have hns₅ : h₅.Ns s.heap.objs.size (fun y => List.lookup y [(("self" : Str), Value.ref x), ("line", v), ("place", v2)].reverse) := by
    obtain ⟨oL, es, ep, hL, r⟩ := hns₄
    exact ⟨oL, es, ep, k₅ _ _ hxL hL, r⟩
  -- self.place = place
  refine wpAny_execs_cons (plainObj_wpAny_Assign_Attribute ?_)
  refine wpAny_Name (wpAny_loadName_local rfl (by rfl) hns₅ (by rfl) ?_) (by decide)
  refine wpAny_Name (wpAny_loadName_local rfl (by rfl) hns₅ (by rfl) ?_) (by decide)
  obtain ⟨oD, esD, epD, hoD, _⟩ := hn₅.count (PySem.Within.cons ("line" : Str) v PySem.Within.nil)
  refine set_plain X₅ (od := some oD) ⟨hx₅, rfl, rfl, hoD⟩ T.sa ?_
  refine PySem.OEX.osa_old X₅ hx₅ hn₅ (PySem.Within.cons ("line" : Str) v PySem.Within.nil) (by decide) hcl (show refsVE (.ref C :: bm) = true from hbm) rfl T.noE (fun h₆ tk₆ k₆ hn₆ => ?_)
  have dL : dx ≠ s.heap.objs.size := fun z => by
    have q1 : s.heap.objs.size < h₄.objs.size := hns₄.lt
    have q2 : h₄.objs.size ≤ dx := dn
    omega
  exact wpAny_execs_nil (hq h₆ tk₆ dx _ ⟨fun b o hb e => k₆ b o (fun z => by
      have q0 : dx < s.heap.objs.size := by rw [← z]; exact Heap.lt_size e
      have q1 : s.heap.objs.size < h₄.objs.size := hns₄.lt
      have q2 : h₄.objs.size ≤ dx := dn
      omega) (k5 b o hb e), k₆ _ _ dne.symm hx₅, Nat.le_trans zz dn, dne, hn₆⟩)
/-- a made BadLine -/
structure OwnMade (h h' : Heap) (e C d : Addr) (v v2 : Value) : Prop where
  keep : ∀ b o, h.get? b = some o → h'.get? b = some o
  new : h.objs.size ≤ e
  obj : ∃ oe vs, h'.get? e = some oe ∧ oe.cls = .ref C ∧ oe.dict = some d ∧ oe.data = .fields vs ∧ vs[1]? = some .none
  dbig : h.objs.size ≤ d
  dne : d ≠ e
  ns : h'.Ns1 d (fun y => if y = "place" then some v2 else if y = "line" then some v else none)
theorem made (T : Ty prog K mg C fI cc cda) {v v2 : Value} (V : Told v) (V2 : Told v2) (Md : L2.Mod K mg base) (bk : ∀ b o, base.get? b = some o → s.heap.get? b = some o) (hroom : A.depth + 1 < recursionLimit)
    (hq : ∀ h' tk e d, OwnMade s.heap h' e C d v v2 → R (.ok (.ret (.ref e))) { s with heap := h', toks := tk }) : codeAny (model prog w) A (.call (.ref C) ⟨[v, v2], []⟩) R s := by
  obtain ⟨nm, q, N, bs, bm, sn, sub, ab, col, dd, k0, k1, k2, k3, k5, hC, hbm⟩ := T.cls
  obtain ⟨hp, g, dr, tk, os⟩ := s
  have X : K.In hp := fun a o e => bk _ _ (Md.kin a o e)
  have k : ∀ b o, hp.get? b = some o → ((hp.push (kdv_tup [v, v2])).push (excO C hp.objs.size)).get? b = some o := fun b o e => Heap.get?_push_of_some _ (Heap.get?_push_of_some _ e)
  have hget : ((hp.push (kdv_tup [v, v2])).push (excO C hp.objs.size)).get? (hp.objs.size + 1) = some (excO C hp.objs.size) := by heap_get
  have hnx : K.lookup (hp.objs.size + 1) = none := by
    cases e : K.lookup (hp.objs.size + 1) with
    | none => rfl
    | some o =>
      have z : hp.get? (hp.objs.size + 1) = some o := X _ _ e
      exact absurd (Nat.lt_of_succ_lt (Heap.lt_size z)) (Nat.lt_irrefl _)
  have one : [v, v2].length ≤ sizeLine := by
    rw [sizeLine_eq]
    exact (by decide : 2 ≤ 16777216)
  refine call_own F.excBase_ValueError (fun Y => refsVE_contains Y bm hbm) (X _ _ hC) (looks_findIn X T.iC) (fun self => bind_fn X self T.tC) one ?_
  refine init_ok (s := ⟨(hp.push (kdv_tup [v, v2])).push (excO C hp.objs.size), g, dr, tk, os⟩) T V V2 Md (fun b o e => k b o (bk b o e)) hget hnx ?_ fun h' tk' dx t1 ⟨k', hx, dn, dne, hns⟩ => ?_
  · show A.depth + 1 < recursionLimit
    exact hroom
  · have old : ∀ b o, hp.get? b = some o → h'.get? b = some o := fun b o e => k' b o (Nat.ne_of_lt (Nat.lt_succ_of_lt (Heap.lt_size e))) (k b o e)
    have z : hp.objs.size + 1 + 1 ≤ dx := by
      first
        | (simpa only [Heap.size_push] using dn)
        | exact dn
        | (have q := dn; rw [Heap.size_push, Heap.size_push] at q; exact q)
    exact ⟨rfl, hq h' tk' (hp.objs.size + 1) dx ⟨old, Nat.le_succ _, ⟨_, _, hx, rfl, rfl, rfl, rfl⟩, Nat.le_trans (Nat.le_trans (Nat.le_succ _) (Nat.le_succ _)) z, dne, hns⟩⟩
end
open L2
theorem relO_fld {v v2 : V} {v' v2' : Value} (r : RelV v v') (r2 : RelV v2 v2') (f : Str) : RelO (List.lookup f [(("line" : Str), v), ("place", v2)]) (if f = "place" then some v2' else if f = "line" then some v' else none) := by
  by_cases hw : f = "line"
  · subst hw
    rw [if_neg (by decide), if_pos rfl]
    have q : List.lookup ("line" : Str) [(("line" : Str), v), ("place", v2)] = some v := by simp [List.lookup]
    rw [q]
    exact r
  · have qw : (f == ("line" : Str)) = false := by simpa using hw
    by_cases hw2 : f = "place"
    · subst hw2
      rw [if_pos rfl]
      have q : List.lookup ("place" : Str) [(("line" : Str), v), ("place", v2)] = some v2 := by simp [List.lookup, qw]
      rw [q]
      exact r2
    · rw [if_neg hw2, if_neg hw]
      have qw2 : (f == ("place" : Str)) = false := by simpa using hw2
      have q2 : List.lookup f [(("line" : Str), v), ("place", v2)] = none := by simp [List.lookup, qw, qw2]
      rw [q2]
      trivial
/-- a value that may be told -/
def ToldV (v : V) : Prop := v = .non ∨ (∃ i, v = .int i ∧ i.natAbs.log2 < 1920) ∨ ∃ y, v = .str y ∧ y.length ≤ 1000
theorem ToldV.told {v : V} {u : Value} (h : ToldV v) (r : RelV v u) : Told u := by
  rcases h with rfl | ⟨i, rfl, hi⟩ | ⟨y, rfl, hy⟩
  · exact .inl r
  · obtain ⟨t, rfl⟩ := r
    exact .inr (.inl ⟨i, t, rfl, hi⟩)
  · obtain ⟨t, rfl⟩ := r
    exact .inr (.inr ⟨y, t, rfl, hy⟩)
section
variable {X : Cx} {C fI cc cda : Addr}
/-- BadLine(e) -/
def tMk (C : Addr) (ta : TA) : L2.St → Hp → XK → Prop := fun σ H Q => ta σ H fun vs H1 => ∃ v v2, vs = [v, v2] ∧ ToldV v ∧ ToldV v2 ∧ ∀ d, H1 d = none → Q (.ref C) (some d) (upd H1 d (.xd [(("line" : Str), v), ("place", v2)]))
theorem pmk {a b : Expr} {ta : TA} {p pos : Pos} {k : Nat} (T : Ty X.prog X.K X.mg C fI cc cda) (hr : Room k X.A) (ha : PA X [a, b] ta) (hg : Gl X "BadLine" := by rfl)
    (he : starEach (a :: [b]) X.env = (false, eval a X.env) :: starEach [b] X.env := by rfl) (hpl : (backTo pos (starEach [b] X.env)).any (·.1) = false := by rfl) :
    PMk X (.Call (.Name "BadLine" p) [a, b] [] pos) (tMk C ta) := by
  intro pins s σ H Q I h
  refine wpAny_Call_Name_kw (ld_glob I hg T.gC ?_)
  refine PySem.W.callWith_K (h₀ := X.base) I.ok.mod.kin T.kC (thn (ha.run pos pins s σ H _ I h) fun us s1 hh => ?_) he hpl
  obtain ⟨vs, H1, I1, r1, v, v2, ev, tv, tv2, q1⟩ := hh
  subst ev
  refine ⟨I1.kIn, ?_⟩
  cases r1 with
  | @cons _ v' _ us' rv rn =>
  cases rn with
  | @cons _ v2' _ us2 rv2 rn =>
    cases rn
    show wpAny _ _ (call (.ref C) [v', v2']) _ _ _
    have bk1 := I1.bk
    obtain ⟨hp, g, dr, tk, os⟩ := s1
    refine wpAny_call (made T (tv.told rv) (tv2.told rv2) I1.ok.mod bk1 (by have := hr.dp; omega) fun h' tk' e d M => ?_)
    show MkP X pins σ Q (.ref e) ⟨h', g, dr, tk', os⟩
    obtain ⟨oe, fv, hoe, hc, hd, hdat, h1⟩ := M.obj
    have hns := M.ns
    obtain ⟨G', g1, g2⟩ := restrict h' fun b => decide (b ≠ e)
    have gk : ∀ b, b ≠ e → G'.get? b = h'.get? b := fun b hb => g1 b (decide_eq_true hb)
    have ge : G'.get? e = none := g2 e (by simp)
    have old : ∀ b o, hp.get? b = some o → G'.get? b = some o := fun b o q => (gk b (Nat.ne_of_lt (Nat.lt_of_lt_of_le (Heap.lt_size q) M.new))).trans (M.keep b o q)
    have ob : ObjOk X.prog X.w (upd H1 d (.xd [(("line" : Str), v), ("place", v2)])) G' d (.xd [(("line" : Str), v), ("place", v2)]) :=
      ⟨_, hns.at (fun o q => (gk d M.dne).trans q), fun f => relO_fld rv rv2 f⟩
    have J : Inv X pins σ (upd H1 d (.xd [(("line" : Str), v), ("place", v2)])) ⟨G', g, dr, tk', os⟩ := I1.laid (t' := tk') old M.dbig ob
    refine ⟨e, oe, fv, ⟨G', g, dr, tk', os⟩, _, .ref C, some d, rfl, J, fun b o q => ?_, ge, hoe, ⟨hc, hd⟩, hdat, h1, ?_, rfl, I1.bare, raises_own T.exC T.tyC, q1 d (I1.hok.fresh M.dbig)⟩
    · by_cases hb : b = e
      · have q' : G'.get? b = some o := q
        rw [hb, ge] at q'; cases q'
      · exact (gk b hb).symm.trans q
    · rw [upd_ne (Ne.symm M.dne)]
      exact I1.hok.fresh M.new
/-- raise BadLine(e) -/
def tRaise (C : Addr) (W : WX) (ta : TA) : TS := fun _ σ H => tMk C ta σ H fun cls d H' => W cls d σ H'
theorem ps_raise_ {a b : Expr} {ta : TA} {W : WX} {p pos pos2 : Pos} {k : Nat} (hc : X.calm = true) (T : Ty X.prog X.K X.mg C fI cc cda) (hr : Room k X.A) (tk : Takes X W) (ha : PA X [a, b] ta) (hg : Gl X "BadLine" := by rfl)
    (he : starEach (a :: [b]) X.env = (false, eval a X.env) :: starEach [b] X.env := by rfl) (hpl : (backTo pos (starEach [b] X.env)).any (·.1) = false := by rfl) :
    PS X (.Raise (some (.Call (.Name "BadLine" p) [a, b] [] pos)) none pos2) (tRaise C W ta) := ps_raise hc tk (pmk T hr ha hg he hpl)
/-- e.line, e the exception that the suite holds -/
def tBy (C : Addr) (a : Addr) (cls : Value) (d : Option Addr) (te : TE) : TE := fun σ H Q => te σ H fun x H1 => x = .ref a ∧ cls = .ref C ∧ ∃ (dd : Addr) (v v2 : V), d = some dd ∧ H1 dd = some (.xd [(("line" : Str), v), ("place", v2)]) ∧ Q v H1
theorem pe_by {a : Addr} {oe : Obj} {cls : Value} {d : Option Addr} {pn : List (Addr × Obj)} {e : Expr} {te : TE} {pos : Pos} (T : Ty X.prog X.K X.mg C fI cc cda) (hz : Zc cls d oe) (hf : ∃ vs, oe.data = .fields vs) (he : PE (X.suite a ((a, oe) :: pn)) e te)
    (hb : attributeBase e "line" X.env (eval e X.env) = eval e X.env := by rfl) :
    PE (X.suite a ((a, oe) :: pn)) (.Attribute e "line" pos) (tBy C a cls d te) := by
  refine ⟨fun pins s σ H Q I h => ?_⟩
  refine attr_of hb (thn (he.run pins s σ H _ I h) fun u s1 hh => ?_)
  obtain ⟨x, H1, I1, rx, ex, ec, dd, v, v2, ed, ea, q⟩ := hh
  subst ex
  obtain rfl : u = Value.ref a := rx
  subst ec
  subst ed
  obtain ⟨ha, _⟩ := I1.pin (a, oe) (List.mem_append_left _ List.mem_cons_self)
  obtain ⟨vs, hd⟩ := hf
  have hx : ObjOk X.prog X.w H1 s1.heap dd (.xd [(("line" : Str), v), ("place", v2)]) := I1.hok dd _ ea
  obtain ⟨mA, hns, hr⟩ := hx
  obtain ⟨od, ho, hl⟩ := lookIn_ns hns
  have l : List.lookup ("line" : Str) [(("line" : Str), v), ("place", v2)] = some v := by simp [List.lookup]
  obtain ⟨u, hu, ru⟩ := RelO.some_of (v := v) (o := mA "line") (by rw [← l]; exact hr "line")
  have J : PySem.W.InstAt s1.heap a oe C (some od) := ⟨ha, hz.1, by unfold PySem.W.notCls; rw [hd] <;> rfl, by rw [hz.2]; exact ho⟩
  exact HandSPX.exc_get I1.kIn J T.ga T.gg T.exC (PySem.W.findObj_own T.hdC T.noN rfl (by rw [hl, hu])) (handed_of ru) ⟨v, H1, I1.tok _, ru, q⟩
/-- e.place, e the exception that the suite holds -/
def tByE (C : Addr) (a : Addr) (cls : Value) (d : Option Addr) (te : TE) : TE := fun σ H Q => te σ H fun x H1 => x = .ref a ∧ cls = .ref C ∧ ∃ (dd : Addr) (v v2 : V), d = some dd ∧ H1 dd = some (.xd [(("line" : Str), v), ("place", v2)]) ∧ Q v2 H1
theorem pe_byE {a : Addr} {oe : Obj} {cls : Value} {d : Option Addr} {pn : List (Addr × Obj)} {e : Expr} {te : TE} {pos : Pos} (T : Ty X.prog X.K X.mg C fI cc cda) (hz : Zc cls d oe) (hf : ∃ vs, oe.data = .fields vs) (he : PE (X.suite a ((a, oe) :: pn)) e te)
    (hb : attributeBase e "place" X.env (eval e X.env) = eval e X.env := by rfl) :
    PE (X.suite a ((a, oe) :: pn)) (.Attribute e "place" pos) (tByE C a cls d te) := by
  refine ⟨fun pins s σ H Q I h => ?_⟩
  refine attr_of hb (thn (he.run pins s σ H _ I h) fun u s1 hh => ?_)
  obtain ⟨x, H1, I1, rx, ex, ec, dd, v, v2, ed, ea, q⟩ := hh
  subst ex
  obtain rfl : u = Value.ref a := rx
  subst ec
  subst ed
  obtain ⟨ha, _⟩ := I1.pin (a, oe) (List.mem_append_left _ List.mem_cons_self)
  obtain ⟨vs, hd⟩ := hf
  have hx : ObjOk X.prog X.w H1 s1.heap dd (.xd [(("line" : Str), v), ("place", v2)]) := I1.hok dd _ ea
  obtain ⟨mA, hns, hr⟩ := hx
  obtain ⟨od, ho, hl⟩ := lookIn_ns hns
  have l : List.lookup ("place" : Str) [(("line" : Str), v), ("place", v2)] = some v2 := by
    have qw : (("place" : Str) == ("line" : Str)) = false := by decide
    simp [List.lookup, qw]
  obtain ⟨u, hu, ru⟩ := RelO.some_of (v := v2) (o := mA "place") (by rw [← l]; exact hr "place")
  have J : PySem.W.InstAt s1.heap a oe C (some od) := ⟨ha, hz.1, by unfold PySem.W.notCls; rw [hd] <;> rfl, by rw [hz.2]; exact ho⟩
  exact HandSPX.exc_get I1.kIn J T.ga T.gg T.exC (PySem.W.findObj_own T.hdC T.noE rfl (by rw [hl, hu])) (handed_of ru) ⟨v2, H1, I1.tok _, ru, q⟩
end
end NS_BadLine
end Fm
set_option Elab.async false
set_option linter.all false
set_option maxRecDepth 100000
set_option maxHeartbeats 1000000
namespace Fm
open PySem PySem.Spec PyProof.Rows L2
theorem pg_tupK {X : Cx} {K : PySem.W.Frag} {es : List Expr} {k : Nat} {t : TGs} {n : Nat} {pos : Pos} (h : X.K = K) (hc : X.calm = true) (hp : PGs X es t)
    (hn : (assignEach es X.env).length = n := by rfl) (hst : (assignEach es X.env).findIdx? (·.1) = none := by rfl) : PG X (.Tuple es k pos) (gTup K n t) := h ▸ pg_tup hc hp hn hst
/-! zip of a list and a tuple -/
/-- the list at a, the tuple at b as they stand at each turn -/
def ItzM (K : PySem.W.Frag) (a b : Addr) : It where
  go := fun i H => ∃ (xs ys : List V) (x y : V), SqL K H a xs ∧ SqT K H b ys ∧ xs[i]? = some x ∧ ys[i]? = some y
  yld := fun i H v H' => ∃ T x y, v = .ref T ∧ H T = none ∧ H' = upd H T (.tup [x, y]) ∧ (∀ xs, SqL K H a xs → xs[i]? = some x) ∧ ∀ ys, SqT K H b ys → ys[i]? = some y
  stop := fun i H => ∃ xs ys : List V, SqL K H a xs ∧ SqT K H b ys ∧ xs.length = i ∧ ys.length = i
theorem of_five {c z TI TO i1 i2 : Addr} (h : c ∈ [z, TI, TO, i1, i2]) : c = z ∨ c = TI ∨ c = TO ∨ c = i1 ∨ c = i2 := by simpa using h
theorem sep_of {z TI TO i1 i2 a b : Addr} (D : ZipApart z TI TO i1 i2 a b) : ZipSep2 z TI TO i1 i2 [i1, a] [i2, b] where
  TIz := D.TIz
  TOz := D.TOz
  TITO := D.TITO
  TIi1 := D.TIi1
  mem1 := List.mem_cons_self
  zf1 := fun h => by simp only [List.mem_cons, List.not_mem_nil, or_false] at h; exact h.elim (fun e => D.i1z e.symm) fun e => D.l1z e.symm
  Tf1 := fun h => by simp only [List.mem_cons, List.not_mem_nil, or_false] at h; exact h.elim (fun e => D.TOi1 e) fun e => D.l1TO e.symm
  TIi2 := D.TIi2
  mem2 := List.mem_cons_self
  zf2 := fun h => by simp only [List.mem_cons, List.not_mem_nil, or_false] at h; exact h.elim (fun e => D.i2z e.symm) fun e => D.l2z e.symm
  Tf2 := fun h => by simp only [List.mem_cons, List.not_mem_nil, or_false] at h; exact h.elim (fun e => D.TOi2 e) fun e => D.l2TO e.symm
  sep1_2 := fun h => by simp only [List.mem_cons, List.not_mem_nil, or_false] at h; exact h.elim (fun e => D.i12 e) fun e => D.l2i1 e.symm
  sep2_1 := fun h => by simp only [List.mem_cons, List.not_mem_nil, or_false] at h; exact h.elim (fun e => D.i12 e.symm) fun e => D.l1i2 e.symm
theorem turn_zipM {P : Program} {w : World} {K : PySem.W.Frag} {elts : List Expr} {kk : Nat} {tpos : Pos} {a b z TI TO i1 i2 : Addr} (D : ZipApart z TI TO i1 i2 a b) :
    Turn P w K (.Tuple elts kk tpos) (ItzM K a b) [z, TI, TO, i1, i2] z (fun i h => IsZip h z TI TO .none ∧ IsTupOf2 h TI (.ref i1) (.ref i2) ∧ (∃ x y, IsTupOf2 h TO x y) ∧ h.IsListIter i1 a i ∧ h.IsTupleIter i2 b i) := by
  have old : ∀ {h : Heap} {i : Nat}, (IsZip h z TI TO .none ∧ IsTupOf2 h TI (.ref i1) (.ref i2) ∧ (∃ x y, IsTupOf2 h TO x y) ∧ h.IsListIter i1 a i ∧ h.IsTupleIter i2 b i) → ∀ c ∈ [z, TI, TO, i1, i2], ∃ o, h.get? c = some o ∧ ∀ v, o.data ≠ .cell v := fun {h i} st c hc => by
    obtain ⟨g1, g2, ⟨x, y, g3⟩, ⟨o4, g4, _, d4⟩, ⟨o5, g5, _, d5⟩⟩ := st
    rcases of_five hc with e | e | e | e | e <;> subst e
    · exact ⟨_, g1, fun v => by intro q; cases q⟩
    · exact ⟨_, g2, fun v => by intro q; cases q⟩
    · exact ⟨_, g3, fun v => by intro q; cases q⟩
    · exact ⟨o4, g4, fun v => by rw [d4]; intro q; cases q⟩
    · exact ⟨o5, g5, fun v => by rw [d5]; intro q; cases q⟩
  refine ⟨List.mem_cons_self, fun i h st => old st, fun i h h' st k => ?_, ?_, ?_, fun A i s Q E st q => wpAny_pyIter_zip st.1 q⟩
  · obtain ⟨g1, g2, ⟨x, y, g3⟩, g4, g5⟩ := st
    exact ⟨k _ (by simp) _ g1, k _ (by simp) _ g2, ⟨x, y, k _ (by simp) _ g3⟩, g4.at fun o => k i1 (by simp) o, g5.at fun o => k i2 (by simp) o⟩
  · rintro X rfl rfl rfl hc i pins s σ H E I hf st ⟨xs, ys, x, y, hqx, hqy, hx, hy⟩
    have lt5 : ∀ c ∈ [z, TI, TO, i1, i2], c < s.heap.objs.size := fun c hm => let ⟨o, ho, _⟩ := old st c hm; Heap.lt_size ho
    obtain ⟨g1, g2, ⟨x0, y0, g3⟩, g4, g5⟩ := st
    obtain ⟨us, rv, p, _⟩ := I.list hqx
    obtain ⟨us2, rv2, p2, _⟩ := I.tuple hqy
    obtain ⟨u, hu, ru⟩ := rv.get hx
    obtain ⟨u2, hu2, ru2⟩ := rv2.get hy
    have hh : X.A.in1.handled = none := I.ok.hd hc
    have n1 : i < us.toArray.size := by rw [List.size_toArray]; exact (List.getElem?_eq_some_iff.mp hu).1
    have n2 : i < us2.toArray.size := by rw [List.size_toArray]; exact (List.getElem?_eq_some_iff.mp hu2).1
    refine wpAny_pyNext_zipD2_item (sep_of D) (Draws.list hh i1 a D.l1i1 us.toArray) (Draws.tuple hh i2 b D.l2i2 us2.toArray) g1 g2 g3 ⟨g4, p.isList⟩ ⟨g5, p2⟩ n1 n2 fun v1 v2 h' tk e1 e2 hz' hTO' q1 q2 hT hsz hk => ?_
    have ev1 : v1 = u := by
      rw [List.getElem?_toArray, hu] at e1
      exact (Option.some.inj e1).symm
    have ev2 : v2 = u2 := by
      rw [List.getElem?_toArray, hu2] at e2
      exact (Option.some.inj e2).symm
    subst ev1
    subst ev2
    refine ⟨_, rfl, wpAny_letOwnedTupleGo_zip (s := { s with heap := h', toks := tk }) hz' fun h2 hz2 sb => ?_⟩
    have nz := fun c hm => Nat.ne_of_gt (lt5 c hm)
    have hT2 : IsTupOf2 h2 s.heap.objs.size v1 v2 := (sb.2 _ (nz z (by simp))).trans hT
    have new : ObjOk X.prog X.w (upd H s.heap.objs.size (.tup [x, y])) h2 s.heap.objs.size (.tup [x, y]) := ⟨by show 2 ≤ sizeLine; decide, [v1, v2], .cons ru (.cons ru2 .nil), ⟨_, hT2, rfl, _, rfl⟩⟩
    have I1 : Inv X pins σ (upd H s.heap.objs.size (.tup [x, y])) { s with heap := h2, toks := tk } := I.turnedNew (ch := [z, TI, TO, i1, i2]) (fun c o hb q => by
      simp only [List.mem_cons, List.not_mem_nil, or_false, not_or] at hb
      exact (sb.2 c hb.1).trans (hk c o hb.1 hb.2.2.1 hb.2.2.2.1 hb.2.2.2.2 q)) hf (Nat.le_refl _) new
    refine ⟨.ref s.heap.objs.size, _, I1, rfl, ⟨_, x, y, rfl, I.hok.fresh (Nat.le_refl _), rfl, fun l hl => ?_, fun l hl => ?_⟩, ⟨hz2, ?_, ⟨v1, v2, ?_⟩, ?_, ?_⟩, fun c hm => ?_⟩
    · rw [I.list_inj hl hqx]; exact hx
    · rw [I.tuple_inj hl hqy]; exact hy
    · exact (sb.2 _ D.TIz).trans (hk _ _ D.TIz D.TITO D.TIi1 D.TIi2 g2)
    · exact (sb.2 _ D.TOz).trans hTO'
    · exact q1.1.at fun o q => (sb.2 _ D.i1z).trans q
    · exact q2.1.at fun o q => (sb.2 _ D.i2z).trans q
    · rw [upd_ne (nz c hm).symm]
      exact (hf c hm).1
  · rintro X rfl rfl rfl hc i pins s σ H E I hf ⟨g1, g2, ⟨x0, y0, g3⟩, g4, g5⟩ ⟨xs, ys, hqx, hqy, l1, l2⟩
    obtain ⟨us, rv, p, _⟩ := I.list hqx
    obtain ⟨us2, rv2, p2, _⟩ := I.tuple hqy
    have n1 : us.toArray.size = i := by rw [List.size_toArray]; have := rv.length; omega
    have n2 : us2.toArray.size = i := by rw [List.size_toArray]; have := rv2.length; omega
    have hh : X.A.in1.handled = none := I.ok.hd hc
    exact wpAny_pyNext_zipD2_end (sep_of D) (Draws.list hh i1 a D.l1i1 us.toArray) (Draws.tuple hh i2 b D.l2i2 us2.toArray) g1 g2 g3 ⟨g4, p.isList⟩ ⟨g5, p2⟩ (Nat.le_of_eq n1.symm) (Nat.le_of_eq n2.symm) (.inl n1.symm) fun h' tk hk => ⟨rfl, I.turnedL (ch := [z, TI, TO, i1, i2]) (fun c o hb q => by
      simp only [List.mem_cons, List.not_mem_nil, or_false, not_or] at hb
      exact hk c o hb.1 hb.2.2.1 hb.2.2.2.1 hb.2.2.2.2 q) hf⟩
def iZipM (K : PySem.W.Frag) (ta : TA) : TI := fun σ H R => ta σ H fun vs H1 => ∃ a b xs ys, vs = [.ref a, .ref b] ∧ SqL K H1 a xs ∧ SqT K H1 b ys ∧ R (ItzM K a b) H1
theorem pi_zipM {X : Cx} {e e2 : Expr} {ta : TA} {p pos tpos : Pos} {elts : List Expr} {kk : Nat} (hg : Gl X "zip") (hm : X.mg "zip" = none) (ha : PA X [e, e2] ta)
    (hs : starEach [e, e2] X.env = (false, eval e X.env) :: starEach [e2] X.env := by rfl) (hpl : (backTo pos (starEach [e2] X.env)).any (·.1) = false := by rfl) :
    PI X (.Tuple elts kk tpos) (.Call (.Name "zip" p) [e, e2] [] pos) (iZipM X.K ta) := by
  refine ⟨fun pins s σ H R I h => Call_ (ld_blt I hg hm PyProof.Rows.boot_zip (PyProof.Rows.callWith_type1 (thn (ha.run pos pins s σ H _ I h) fun us s1 ⟨vs, H1, I1, r1, q1⟩ => ?_) hs hpl))⟩
  obtain ⟨a, b, xs, ys, rfl, hqx, hqy, q⟩ := q1
  obtain ⟨vsA, rvA, pA, _⟩ := I1.list hqx
  obtain ⟨vsB, rvB, pB, _⟩ := I1.tuple hqy
  obtain ⟨oB, hoB, _⟩ := id pB
  cases r1 with
  | cons r rr =>
    cases rr with
    | cons r' rr =>
      cases rr
      cases r
      cases r'
      have fr : ∀ c, c ∈ [s1.heap.objs.size + 4, s1.heap.objs.size + 2, s1.heap.objs.size + 3, s1.heap.objs.size, s1.heap.objs.size + 1] → FpOk X pins H1 c := fun c hc => by
        have hle : s1.heap.objs.size ≤ c := by
          rcases of_five hc with e | e | e | e | e <;> rw [e]
          · exact Nat.le_add_right _ _
          · exact Nat.le_add_right _ _
          · exact Nat.le_add_right _ _
          · exact Nat.le_refl _
          · exact Nat.le_add_right _ _
        exact I1.fpOk hle (I1.hok.fresh hle)
      refine zip_begins2 (begins_list a vsA.toArray) (begins_tuple b vsB.toArray) pA.isList pB fun h' hz hTI hTO g1 g2 hsz hk => wpAny_pyIter_zip hz ?_
      have I2 : Inv X pins σ H1 { s1 with heap := h' } := I1.kept (t' := s1.toks) hk
      exact ⟨s1.heap.objs.size + 4, [s1.heap.objs.size + 4, s1.heap.objs.size + 2, s1.heap.objs.size + 3, s1.heap.objs.size, s1.heap.objs.size + 1], _, _, H1, rfl, I2, turn_zipM (PySem.W.ktu_apart s1.heap.objs.size a b pA.lt (Heap.lt_size hoB)), ⟨hz, hTI, ⟨_, _, hTO⟩, ⟨_, g1, rfl, rfl⟩, ⟨_, g2, rfl, rfl⟩⟩, fr, q⟩
end Fm
set_option Elab.async false
set_option linter.all false
set_option maxRecDepth 100000
set_option maxHeartbeats 1000000
namespace Fm
open PySem L2
def spTaken (K : PySem.W.Frag) : Sp := fun vs H Q _ => ∃ (r s : Addr) (ns : List Int) (a b c many : Int), vs = [.ref r, .int many] ∧ H r = some (.lst [.ref s, .int a, .int b, .int c]) ∧ SqL K H s (ns.map V.int) ∧ 0 ≤ a ∧ 0 < many ∧ many < 1000000 ∧
  ∀ n a' b' c', 0 ≤ n → n < many → 0 ≤ a' → Q (.int n) (upd H r (.lst [.ref s, .int a', .int b', .int c']))
section
variable {P : Program} {w : World} {K : PySem.W.Frag} {mg : Str → Option Value} {base : Heap}
abbrev s_law_taken : Stmt := top 42
theorem sc_law_taken : FnScope ["row", "many", "found", "cell"] ["row", "many"] (defScope s_law_taken) := ⟨rfl, rfl, rfl, by decide +kernel, rfl, by decide +kernel, by decide +kernel⟩
--TY _law_taken {'row':('list','any'),'cell':'int','found':'int','many':'int'}
theorem fmod_lo {a b : Int} (h : 0 < b) : 0 ≤ a.fmod b := Int.fmod_nonneg_of_pos a h
theorem fmod_hi {a b : Int} (h : 0 < b) : a.fmod b < b := Int.fmod_lt_of_pos a h
theorem row_ne {H : Hp} {r s s' : Addr} {a b c : Int} {ns : List Int} (h1 : H r = some (.lst [.ref s', .int a, .int b, .int c])) (h : Rd H s (.lst (ns.map V.int))) : r ≠ s := fun z => by
  subst z
  rcases h with h | ⟨u, h⟩
  · rw [h1] at h
    cases ns with
    | nil => cases h
    | cons n ns => cases h
  · rw [h1] at h
    cases h
theorem SqL_upd {H : Hp} {r s s' : Addr} {o : HO} {a b c : Int} {ns : List Int} (h1 : H r = some (.lst [.ref s', .int a, .int b, .int c])) (h : SqL K H s (ns.map V.int)) : SqL K (upd H r o) s (ns.map V.int) := by
  rcases h with h | h
  · have ne := row_ne h1 h
    rcases h with h | ⟨u, h⟩
    · exact .inl (.inl (by rw [upd_ne (Ne.symm ne)]; exact h))
    · exact .inl (.inr ⟨u, by rw [upd_ne (Ne.symm ne)]; exact h⟩)
  · exact .inr h
theorem ok_taken {f : Addr} {fd : FuncData} (F : Fun K "_law_taken" "_law_taken" s_law_taken f fd) (T : Txt K mg) : FnOk P w K mg base CX0 1 f fd ["row", "many"] (spTaken K) := by
  refine F.ok sc_law_taken (fun vs H Q E h => ?_) (fun cdv A outer s H vs Q E hr h => ?_)
  · obtain ⟨_, _, _, _, _, _, _, rfl, _⟩ := h
    rfl
  · obtain ⟨r, s, ns, a, b, c, many, rfl, h1, hs, ha, hm, hm2, k⟩ := h
    refine ⟨_, (pss_cons (ps_if (pt_cmpR op_gt (pe_ix (ix_K (K := K) rfl) (pv 0) pe_int (fun _ _ => rfl)) pe_int (nomark _)) (pss_cons (ps_set (i := 2) sc_law_taken.nd rfl (Or.inl rfl) (pe_op op_modN (pe_callTy call_int1 (by rfl) T.z_int (by decide +kernel) (pa_cons (pe_ix (ix_K (K := K) rfl) (pv 0) pe_int (fun _ _ => rfl)) pa_nil)) (pv 1)))
  (pss_cons (ps_asg (pe_op op_fdivN (pe_ix (ix_K (K := K) rfl) (pv 0) pe_int (fun _ _ => rfl)) (pv 1)) (pg_sub (pv 0) pe_int set_list))
  (pss_one (ps_ret (pv 2))))) pss_nil)
  (pss_cons (ps_asg (pe_op op_add (pe_ix (ix_K (K := K) rfl) (pv 0) pe_int (fun _ _ => rfl)) pe_int) (pg_sub (pv 0) pe_int set_list))
  (pss_cons (ps_if (pt_cmpR op_gt (pe_ix (ix_K (K := K) rfl) (pv 0) pe_int (fun _ _ => rfl)) (pe_callB (len_K (K := K) rfl) (by rfl) T.z_len (by decide +kernel) (pa_cons (pe_ix (ix_K (K := K) rfl) (pv 0) pe_int (fun _ _ => rfl)) pa_nil)) (nomark _)) (pss_cons (ps_asg (pe_op op_modN (pe_callTy call_int1 (by rfl) T.z_int (by decide +kernel) (pa_cons (pe_op op_add (pe_op op_mul (pe_ix (ix_K (K := K) rfl) (pv 0) pe_int (fun _ _ => rfl)) pe_int) pe_int) pa_nil)) pe_int) (pg_sub (pv 0) pe_int set_list))
  (pss_one (ps_ret (pe_op op_modN (pe_callTy call_int1 (by rfl) T.z_int (by decide +kernel) (pa_cons (pe_op op_fdivN (pe_ix (ix_K (K := K) rfl) (pv 0) pe_int (fun _ _ => rfl)) pe_int) pa_nil)) (pv 1))))) pss_nil)
  (pss_cons (ps_set (i := 3) sc_law_taken.nd rfl (Or.inl rfl) (pe_ix (ix_K (K := K) rfl) (pe_ix (ix_K (K := K) rfl) (pv 0) pe_int (fun _ _ => rfl)) (pe_op op_sub (pe_ix (ix_K (K := K) rfl) (pv 0) pe_int (fun _ _ => rfl)) pe_int) (fun _ _ => rfl)))
  (pss_cons (ps_asg (pe_op op_modN (pe_callTy call_int1 (by rfl) T.z_int (by decide +kernel) (pa_cons (pe_op op_add (pe_op op_add (pe_op op_mul (pe_ix (ix_K (K := K) rfl) (pv 0) pe_int (fun _ _ => rfl)) pe_int) (pv 3)) pe_int) pa_nil)) pe_int) (pg_sub (pv 0) pe_int set_list))
  (pss_cons (ps_if (pt_cmpR op_ge (pv 3) (pe_op op_pow pe_int pe_int) (nomark _)) (pss_one (ps_asg (pe_op op_fdivN (pv 3) (pv 1)) (pg_sub (pv 0) pe_int set_list))) pss_nil)
  (pss_one (ps_ret (pe_op op_modN (pe_callTy call_int1 (by rfl) T.z_int (by decide +kernel) (pa_cons (pv 3) pa_nil)) (pv 1)))))))))), ?_⟩
    have nz : many ≠ 0 := by omega
    have hq := SqL.of (K := K) h1
    refine st_seq (st_if (ans_i0 (val_ixL (val_var rfl) val_c hq rfl) val_c) (fun hc => ?_) (fun hc => ?_))
    · -- a rest
      refine st_asg (val_i (val_int1 (val_ixL (val_var rfl) val_c hq rfl)) (val_var rfl) nz) ?_
      refine st_setL (val_i (val_ixL (val_var rfl) val_c hq rfl) (val_var rfl) ⟨nz, by omega⟩) (val_var rfl) val_c h1 rfl ?_
      refine st_ret (val_var rfl) ?_
      exact k _ _ _ _ (fmod_lo hm) (fmod_hi hm) ha
    · refine st_setL (val_i0 (val_ixL (val_var rfl) val_c hq rfl) val_c) (val_var rfl) val_c h1 rfl ?_
      have hq1 := SqL.of (K := K) (upd_same (H := H) (a := r) (o := .lst ([.ref s, .int a, .int b, .int c].set 1 (.int (a + 1)))))
      have hs1 := SqL_upd (K := K) (o := .lst ([.ref s, .int a, .int b, .int c].set 1 (.int (a + 1)))) h1 hs
      refine st_seq (st_if (ans_i0 (val_ixL (val_var rfl) val_c hq1 rfl) (val_lenX (val_ixL (val_var rfl) val_c hq1 rfl) (.inl ⟨_, hs1, rfl⟩))) (fun hc => ?_) (fun hc => ?_))
      · refine st_setL (val_i (val_int1 (val_i0 (val_i (val_ixL (val_var rfl) val_c hq1 rfl) val_c (.inr ⟨by decide, by decide⟩)) val_c)) val_c (by decide)) (val_var rfl) val_c upd_same rfl ?_
        rw [upd_upd]
        refine st_ret (val_i (val_int1 (val_i (val_ixL (val_var rfl) val_c (SqL.of upd_same) rfl) val_c ⟨by decide, by decide⟩)) (val_var rfl) nz) ?_
        exact k _ _ _ _ (fmod_lo hm) (fmod_hi hm) (by omega)
      · have hlt : a < (ns.length : Int) := by
          have := of_decide_eq_false hc
          rw [List.length_map] at this
          omega
        have e1 : atI (ns.map V.int) (a + 1 - 1) = some (.int (ns[a.toNat]'(by omega))) := by
          have : a + 1 - 1 = a := by omega
          rw [this]
          unfold atI ixN
          rw [if_pos ha, if_pos (by rw [List.length_map]; exact hlt)]
          simp
        refine st_asg (val_ixL (val_ixL (val_var rfl) val_c hq1 rfl) (val_i0 (val_ixL (val_var rfl) val_c hq1 rfl) val_c) hs1 e1) ?_
        refine st_setL (val_i (val_int1 (val_i0 (val_i0 (val_i (val_ixL (val_var rfl) val_c hq1 rfl) val_c (.inr ⟨by decide, by decide⟩)) (val_var rfl)) val_c)) val_c (by decide)) (val_var rfl) val_c upd_same rfl ?_
        rw [upd_upd]
        refine st_seq (st_if (ans_i0 (val_var rfl) (val_i val_c val_c ⟨by decide, by decide, by decide⟩)) (fun hc => ?_) (fun hc => ?_))
        · refine st_setL1 (val_i (val_var rfl) (val_var rfl) ⟨nz, by omega⟩) (val_var rfl) val_c upd_same rfl ?_
          rw [upd_upd]
          dsimp only
          refine st_ret (val_i (val_int1 (val_var rfl)) (val_var rfl) nz) ?_
          exact k _ _ _ _ (fmod_lo hm) (fmod_hi hm) (by omega)
        · refine st_next ?_
          dsimp only
          refine st_ret (val_i (val_int1 (val_var rfl)) (val_var rfl) nz) ?_
          exact k _ _ _ _ (fmod_lo hm) (fmod_hi hm) (by omega)
end
end Fm
set_option Elab.async false
set_option linter.all false
set_option maxRecDepth 100000
set_option maxHeartbeats 1000000
namespace Fm
open PySem L2 Evl
/-- the heap without r -/
def rem (H : Hp) (r : Addr) : Hp := fun b => if b = r then none else H b
theorem rem_ne {H : Hp} {r b : Addr} (h : b ≠ r) : rem H r b = H b := if_neg h
theorem rem_eq {H : Hp} {r : Addr} : rem H r r = none := if_pos rfl
theorem rem_ex {H : Hp} {r : Addr} : Ex (rem H r) H := fun b o h => by
  by_cases z : b = r
  · rw [z, rem_eq] at h; cases h
  · rwa [rem_ne z] at h
/-- what stands in H0, where r does not, stands behind a change of r -/
theorem Ex.past {H0 H1 H2 : Hp} {r : Addr} (e : Ex H0 H1) (h : H0 r = none) (e' : Ex (rem H1 r) H2) : Ex H0 H2 := fun b o hb => e' b o (by
  rw [rem_ne (fun z => by rw [z, h] at hb; cases hb)]
  exact e b o hb)
section
variable {K : PySem.W.Frag} {H H' : Hp} {r s a l : Addr} {xs ys : List V} {ns : List Int}
theorem sqT_rem (hr : H r = some (.lst ys)) (h : SqT K H a xs) : SqT K (rem H r) a xs := by
  have ne : ∀ o, H a = some o → o ≠ .lst ys → a ≠ r := fun o h1 h2 z => by
    rw [z, hr] at h1
    exact h2 (Option.some.inj h1).symm
  rcases h with (h | ⟨u, h⟩) | h
  · exact .inl (.inl (by rw [rem_ne (ne _ h (fun z => nomatch z))]; exact h))
  · exact .inl (.inr ⟨u, by rw [rem_ne (ne _ h (fun z => nomatch z))]; exact h⟩)
  · exact .inr h
theorem sqL_rem (hr : s ≠ r) (h : SqL K H s xs) : SqL K (rem H r) s xs := by
  rcases h with (h | ⟨u, h⟩) | h
  · exact .inl (.inl (by rw [rem_ne hr]; exact h))
  · exact .inl (.inr ⟨u, by rw [rem_ne hr]; exact h⟩)
  · exact .inr h
theorem sqT_upd {zs : List V} (hr : H r = some (.lst ys)) (h : SqT K H a xs) : SqT K (upd H r (.lst zs)) a xs := by
  have h2 := sqT_rem hr h
  exact ex_t (fun b o hb => by
    by_cases z : b = r
    · rw [z, rem_eq] at hb; cases hb
    · rw [rem_ne z] at hb
      rw [upd_ne z]
      exact hb) h2
theorem inAt_rem {v : V} {i : In} (hr : H r = some (.lst ys)) (h : InAt K H v i) : InAt K (rem H r) v i := let ⟨b, h1, h2⟩ := h; ⟨b, h1, sqT_rem hr h2⟩
theorem inAt_upd {v : V} {i : In} {zs : List V} (hr : H r = some (.lst ys)) (h : InAt K H v i) : InAt K (upd H r (.lst zs)) v i := let ⟨b, h1, h2⟩ := h; ⟨b, h1, sqT_upd hr h2⟩
theorem pg_rem {p : List In} (hr : H r = some (.lst ys)) (h : PgT K H a p) : PgT K (rem H r) a p := let ⟨xs, h1, h2⟩ := h; ⟨xs, sqT_rem hr h1, Paired.mapP h2 fun _ _ z => inAt_rem hr z⟩
def RowC (H : Hp) (r s : Addr) : Prop := ∃ a b c : Int, H r = some (.lst [.ref s, .int a, .int b, .int c]) ∧ 0 ≤ a
/-- the row at r, of the script at s -/
structure RowAt (K : PySem.W.Frag) (H : Hp) (r s : Addr) (ns : List Int) : Prop where
  c : RowC H r s
  q : SqL K H s (ns.map V.int)
theorem RowC.up (e : Ex H H') (h : RowC H r s) : RowC H' r s := let ⟨a, b, c, h1, h2⟩ := h; ⟨a, b, c, e _ _ h1, h2⟩
theorem RowAt.up (e : Ex H H') (h : RowAt K H r s ns) : RowAt K H' r s ns := ⟨h.c.up e, ex_l e h.q⟩
theorem RowAt.qr (h : RowAt K H r s ns) : SqL K (rem H r) s (ns.map V.int) := by
  obtain ⟨⟨a, b, c, h1, _⟩, h | h⟩ := h
  · have ne := row_ne h1 h
    exact sqL_rem ne.symm (.inl h)
  · exact .inr h
theorem RowAt.to (h : RowAt K H r s ns) (e : Ex (rem H r) H') (c : RowC H' r s) : RowAt K H' r s ns := ⟨c, ex_l e h.qr⟩
theorem RowAt.lst (h : RowAt K H r s ns) : ∃ ys, H r = some (.lst ys) := let ⟨_, _, _, h1, _⟩ := h.c; ⟨_, h1⟩
end
def spTak (K : PySem.W.Frag) : Sp := fun vs H Q _ => ∃ (r s : Addr) (ns : List Int) (m : Nat), vs = [.ref r, .int (m : Nat)] ∧ RowAt K H r s ns ∧ 0 < m ∧ m < 1000000 ∧ ∀ (n : Nat) H', n < m → RowAt K H' r s ns → Ex (rem H r) H' → Q (.int (n : Nat)) H'
theorem tak_imp {K : PySem.W.Frag} (vs : List V) (H : Hp) (Q : VK) (E : XK) (h : spTak K vs H Q E) : spTaken K vs H Q E := by
  obtain ⟨r, s, ns, m, rfl, R, h1, h2, k⟩ := h
  have R0 := R
  obtain ⟨⟨a, b, c, hr, ha⟩, hq⟩ := R
  refine ⟨r, s, ns, a, b, c, (m : Int), rfl, hr, hq, ha, by omega, by omega, fun n a' b' c' n0 nm a0 => ?_⟩
  have e : Ex (rem H r) (upd H r (.lst [.ref s, .int a', .int b', .int c'])) := fun x o hx => by
    by_cases z : x = r
    · rw [z, rem_eq] at hx; cases hx
    · rw [rem_ne z] at hx
      rw [upd_ne z]
      exact hx
  have := k n.toNat _ (by omega) (R0.to e ⟨a', b', c', upd_same, a0⟩) e
  rwa [show ((n.toNat : Nat) : Int) = n by omega] at this
section
variable {K : PySem.W.Frag} {σ : L2.St} {H : Hp} {ta tb te : TE} {tr tA : TA} {D : Ends} {tz : TS} {Q : VK} {x : V} {r : R2}
theorem m_op (ha : Ev ta σ H x) (k : ∀ H1, Ex H H1 → tb σ H1 fun y H2 => r x y H2 Q) : tOp r ta tb σ H Q := ha H (Ex.refl H) _ k
theorem m_cons {Q : List V → Hp → Prop} (ha : Ev ta σ H x) (k : ∀ H1, Ex H H1 → tr σ H1 fun xs H2 => Q (x :: xs) H2) : tCons ta tr σ H Q := ha H (Ex.refl H) _ k
theorem m_appQ {l : Addr} {xs : List V} (ha : Ev ta σ H (.ref l)) (hl : H l = some (.lst xs)) (k : ∀ H1, Ex H H1 → te σ H1 fun v H2 => rAppend (.ref l) [v] H2 fun _ H3 => tz D σ H3) : tSeq (tDrop (tBM K "list" rAppend ta (tCons te tNil))) tz D σ H :=
  ha H (Ex.refl H) _ fun H1 e1 => ⟨Or.inl ⟨rfl, xs, sq_of (e1 l _ hl)⟩, k H1 e1⟩
theorem m_call {sp : Sp} {E : XK} {vs : List V} (h : EvA tA σ H vs) (k : ∀ H1, Ex H H1 → sp (vs ++ []) H1 Q E) : tCall sp [] E tA σ H Q := h H (Ex.refl H) _ k
end
def spPick (K : PySem.W.Frag) : Sp := fun vs H Q _ => ∃ (r s t : Addr) (ns : List Int) (xs : List V), vs = [.ref r, .ref t] ∧ RowAt K H r s ns ∧ SqL K H t xs ∧ t ≠ r ∧ 0 < xs.length ∧ xs.length < 1000000 ∧ ∀ x H', x ∈ xs → RowAt K H' r s ns → Ex (rem H r) H' → Q x H'
section
variable {P : Program} {w : World} {K : PySem.W.Frag} {mg : Str → Option Value} {base : Heap}
theorem ok_tak {f : Addr} {fd : FuncData} (F : Fun K "_law_taken" "_law_taken" s_law_taken f fd) (T : Txt K mg) : FnOk P w K mg base CX0 1 f fd ["row", "many"] (spTak K) := (ok_taken F T).imp tak_imp
abbrev s_law_pick : Stmt := top 43
theorem sc_law_pick : FnScope ["row", "things"] ["row", "things"] (defScope s_law_pick) := ⟨rfl, rfl, rfl, by decide +kernel, rfl, by decide +kernel, by decide +kernel⟩
--TY _law_pick {'row':('list','any'),'things':('list','any')}
theorem ok_pick {f f1 : Addr} {fd fd1 : FuncData} (F : Fun K "_law_pick" "_law_pick" s_law_pick f fd) (T : Txt K mg) (C_law_taken : Cal P w K mg base CX0 1 "_law_taken" f1 fd1 ["row", "many"] (spTak K)) : FnOk P w K mg base CX0 2 f fd ["row", "things"] (spPick K) := by
  refine F.ok sc_law_pick (fun vs H Q E h => ?_) (fun cdv A outer s H vs Q E hr h => ?_)
  · obtain ⟨_, _, _, _, _, rfl, _⟩ := h
    rfl
  · obtain ⟨r, s, t, ns, xs, rfl, R, ht, hne, h0, h1, k⟩ := h
    refine ⟨_, (pss_one (ps_ret (pe_ix (ix_K (K := K) rfl) (pv 1) (pe_call C_law_taken.G (hr.mono (by first | decide | omega)) rfl C_law_taken.g C_law_taken.kp C_law_taken.b .nil pass0 (pa_cons (pv 0) (pa_cons (pe_callB (len_K (K := K) rfl) (by rfl) T.z_len (by decide +kernel) (pa_cons (pv 1) pa_nil)) pa_nil))) (fun _ _ => rfl)))), ?_⟩
    refine m_op (ev_var rfl) fun H1 e1 => m_call (ea_cons (ev_var rfl) (ea_cons (ev_lnL (ev_var rfl) (ex_l e1 ht)) ea_nil)) fun H2 e2 => ?_
    refine ⟨r, s, ns, xs.length, rfl, R.up (e1.trans e2), h0, h1, fun n H3 hn R3 e3 => ?_⟩
    have e13 : Ex (rem H r) H3 := Ex.past (rem_ex.trans (e1.trans e2)) rem_eq e3
    have ht3 := ex_l e13 (sqL_rem hne ht)
    exact .inl ⟨t, xs, (n : Int), xs[n], rfl, rfl, ht3, atI_nat' (List.getElem?_eq_getElem hn), k _ H3 (List.getElem_mem hn) R3 e13⟩
end
end Fm
set_option Elab.async false
set_option linter.all false
set_option maxRecDepth 100000
set_option maxHeartbeats 1000000
namespace Fm
open PySem L2 Evl TL
--RET {'words_of':('list','str'),'are_plain_digits':'bool','number_told':'any','numbers_behind':('tuple','int'),'lines_with_words':('list',('tuple','any')),'limits_behind':('tuple',('tuple','int'))}
/-- the lines of a text, numbered from 1, each with its words -/
def pairsOf (ls : List Str) : List (Nat × List Str) := (List.range ls.length).map fun i => (i + 1, wordsS (ls.getD i ""))
def lwOf (text : Str) : List (Nat × List Str) := (pairsOf (Txt.split text "\n")).filter fun p => !p.2.isEmpty
/-- a pair of a number and a list of words -/
def LwA (K : PySem.W.Frag) (H : Hp) (v : V) (p : Nat × List Str) : Prop := ∃ t b : Addr, v = .ref t ∧ SqT K H t [.int (p.1 : Nat), .ref b] ∧ SqL K H b (p.2.map V.str)
def LwR (K : PySem.W.Frag) (H : Hp) (l : Addr) (ps : List (Nat × List Str)) : Prop := ∃ xs, SqL K H l xs ∧ Paired (LwA K H) xs ps
theorem LwA.up {K : PySem.W.Frag} {H H' : Hp} {v : V} {p : Nat × List Str} (e : Ex H H') (h : LwA K H v p) : LwA K H' v p := let ⟨t, b, h1, h2, h3⟩ := h; ⟨t, b, h1, ex_t e h2, ex_l e h3⟩
theorem LwR.up {K : PySem.W.Frag} {H H' : Hp} {l : Addr} {ps : List (Nat × List Str)} (e : Ex H H') (h : LwR K H l ps) : LwR K H' l ps := let ⟨xs, h1, h2⟩ := h; ⟨xs, ex_l e h1, Paired.mapP h2 fun _ _ z => z.up e⟩
/-- what is new in H' -/
def newOf (H H' : Hp) : Hp := fun b => match H b with
  | none => H' b
  | some _ => none
theorem new_at {H H' : Hp} {b : Addr} (h : H b = none) : newOf H H' b = H' b := by unfold newOf; rw [h]
theorem new_off {H H' : Hp} {b : Addr} {o : HO} (h : H b = some o) : newOf H H' b = none := by unfold newOf; rw [h]
theorem new_ex {H H' : Hp} : Ex (newOf H H') H' := fun b o h => by
  cases q : H b with
  | none => rwa [new_at q] at h
  | some u => rw [new_off q] at h; cases h
theorem new_r {H A A' : Hp} (e : Ex A A') : Ex (newOf H A) (newOf H A') := fun b o h => by
  cases q : H b with
  | none => rw [new_at q] at h ⊢; exact e _ _ h
  | some u => rw [new_off q] at h; cases h
def spLw (K : PySem.W.Frag) : Sp := fun vs H Q _ => ∃ text : Str, vs = [.str text] ∧ text.length ≤ 40000 ∧ lwOf text ≠ [] ∧ ∀ l H', Ex H H' → LwR K (newOf H H') l (lwOf text) → Q (.ref l) H'
def spLwX (CBL : Addr) : Sp := fun vs H Q E => ∃ text : Str, vs = [.str text] ∧ text.length ≤ 40000 ∧ lwOf text = [] ∧ ∀ d H', Ex H H' → H' d = some (.xd [(("line" : Str), .int (((Txt.split text "\n").length + 1 : Nat) : Int)), ("place", .int 1)]) → E (.ref CBL) (some d) H'
theorem split_len (a b : Str) : (Txt.split a b).length ≤ a.length + 2 := by
  have := PyProof.Rows.split_le a b
  omega
section
variable {K : PySem.W.Frag} {σ : L2.St} {H : Hp} {ta tb te tl' : TE} {tA tr : TA} {tt : TT} {Q : VK} {D : Ends} {tz : TS}
theorem filter_take {α : Type} {p : α → Bool} {l : List α} {i : Nat} {x : α} (h : l[i]? = some x) : (l.take (i + 1)).filter p = if p x = true then (l.take i).filter p ++ [x] else (l.take i).filter p := by
  rw [List.take_add_one, h, List.filter_append]
  show _ ++ List.filter p [x] = _
  by_cases q : p x = true
  · rw [if_pos q, List.filter_cons, if_pos q]
    rfl
  · rw [if_neg q, List.filter_cons, if_neg q]
    simp
/-- [f(x) for x in a new list if t] -/
theorem el_lcNF {α : Type} {ws : List α} {g : α → V} {p : α → Bool} {f : α → V} {j : Nat} {vs : List Nat} (ha : EvL tl' σ H (ws.map g)) (hw : ∀ x, wipe ((wipe σ vs).set j x) vs = wipe σ vs) (hz : ws.length ≤ 50000)
    (ht : ∀ w H', w ∈ ws → Ex H H' → EvT tt ((wipe σ vs).set j (some (g w))) H' (p w)) (he : ∀ w H', w ∈ ws → Ex H H' → Ev te ((wipe σ vs).set j (some (g w))) H' (f w)) : EvL (tLc (iList K tl') (gName j) tt te vs) σ H ((ws.filter p).map f) := fun H1 e1 Q q =>
  ha H1 e1 _ fun l H2 hp e2 h2 => ⟨l, rfl, ⟨_, sq_of h2⟩, fun D hD => by
    have nD : l ≠ D := ne_of_none h2 hD
    refine lc_list (K := K) (fun i H' => Ex H2 H' ∧ H' D = some (.lst (((ws.take i).filter p).map f))) ⟨Ex.new hD, upd_same⟩ (fun i H' _ h => sq_of (h.1 _ _ h2)) (fun i x H3 hx h => ?_) fun H3 h => q D H3 (fresh_back e2 hD) (e2.trans h.1) (by rw [h.2, List.length_map, List.take_length])
    obtain ⟨e3, h3⟩ := h
    rw [List.getElem?_map] at hx
    cases hwi : ws[i]? with
    | none => rw [hwi] at hx; cases hx
    | some w =>
      rw [hwi] at hx
      cases hx
      have hm := List.mem_of_getElem? hwi
      refine ⟨hw _, ?_⟩
      refine ht w _ hm ((e1.trans e2).trans e3) _ (Ex.refl _) _ fun H4 e4 => ?_
      have hl : (((ws.take i).filter p).map f).length ≤ ws.length := by
        rw [List.length_map]
        refine Nat.le_trans (List.length_filter_le _ _) ?_
        rw [List.length_take]
        omega
      cases hpw : p w with
      | true =>
        rw [if_pos rfl]
        refine he w _ hm ((e1.trans e2).trans (e3.trans e4)) _ (Ex.refl _) _ fun H5 e5 => ?_
        refine ⟨_, e5 _ _ (e4 _ _ h3), sz_lt (by omega), Ex.mut ((e3.trans e4).trans e5) hD, ?_⟩
        rw [upd_same, filter_take hwi, if_pos hpw, List.map_append]
        rfl
      | false =>
        rw [if_neg (by simp)]
        refine ⟨e3.trans e4, ?_⟩
        rw [filter_take hwi, if_neg (by rw [hpw]; exact Bool.false_ne_true)]
        exact e4 _ _ h3⟩
end
theorem walk_enumSL {K : PySem.W.Frag} {a : Addr} {c : Int} {xs : List V} : Walk (IteSL K c a) xs.length (fun H => SqL K H a xs) (YPair (fun i => some (.int (c + (i : Nat)))) (fun i => xs[i]?)) := by
  refine ⟨fun i _ hi q => ⟨xs, xs[i], q, by simp [hi]⟩, fun _ q => ⟨xs, q, rfl⟩, fun i H v H' _ q y => ?_⟩
  obtain ⟨T, x, h1, h2, h3, h4⟩ := y
  exact ⟨T, .int (c + (i : Nat)), x, h1, h2, h3, rfl, h4 xs q⟩
theorem walk_enumST {K : PySem.W.Frag} {a : Addr} {c : Int} {xs : List V} : Walk (IteST K c a) xs.length (fun H => SqT K H a xs) (YPair (fun i => some (.int (c + (i : Nat)))) (fun i => xs[i]?)) := by
  refine ⟨fun i _ hi q => ⟨xs, xs[i], q, by simp [hi]⟩, fun _ q => ⟨xs, q, rfl⟩, fun i H v H' _ q y => ?_⟩
  obtain ⟨T, x, h1, h2, h3, h4⟩ := y
  exact ⟨T, .int (c + (i : Nat)), x, h1, h2, h3, rfl, h4 xs q⟩
theorem spl_mem {S : List Nat} : ∀ (l : List Nat) (k : Nat) (acc p : List Nat), p ∈ spl S k acc l → p.length ≤ acc.length + l.length
  | [], k, acc, p, h => by
    rw [spl_nil] at h
    rw [List.mem_singleton.mp h]
    simp
  | c :: r, k + 1, acc, p, h => by
    have h2 : p ∈ spl S k acc r := by
      rw [spl_pass] at h ⊢
      exact h
    have := spl_mem r k acc p h2
    simp
    omega
  | c :: r, 0, acc, p, h => by
    cases q : pre S (c :: r) with
    | true =>
      rw [spl_hit q] at h
      rcases List.mem_cons.mp h with rfl | h
      · simp
      · have := spl_mem r _ [] p h
        simp at this ⊢
        omega
    | false =>
      rw [spl_miss q] at h
      have := spl_mem r 0 (acc ++ [c]) p h
      simp at this ⊢
      omega
theorem split_mem {a y w : Str} (hy : tl y ≠ []) (hk : y.cps.all (· < 256) = true) (h : w ∈ Txt.split a y) : w.length ≤ a.length := by
  have h1 : tl w ∈ (Txt.split a y).map tl := List.mem_map.mpr ⟨w, h, rfl⟩
  rw [split_spl a y hy (kind_ok hk)] at h1
  have := spl_mem _ _ _ _ h1
  rw [len_tl, len_tl]
  simpa using this
section
variable {K : PySem.W.Frag} {σ : L2.St} {H : Hp} {ta tb te tl' : TE} {tr tA : TA} {Q : VK} {D : Ends} {tz tu : TS} {g : TG} {sp : Sp} {E : XK}
theorem m_consM {Q : List V → Hp → Prop} (h : te σ H fun x H1 => tr σ H1 fun ys H2 => Q (x :: ys) H2) : tCons te tr σ H Q := h
theorem m_consE {x : V} {Q : List V → Hp → Prop} (h : Ev te σ H x) (k : ∀ H1, Ex H H1 → tr σ H1 fun ys H2 => Q (x :: ys) H2) : tCons te tr σ H Q := h H (Ex.refl H) _ k
theorem m_callM {vs : List V} (h : EvA tA σ H vs) (k : ∀ H1, Ex H H1 → sp (vs ++ []) H1 Q E) : tCall sp [] E tA σ H Q := h H (Ex.refl H) _ k
theorem q_setMM {i : Nat} (h : te σ H fun v H1 => tz D (σ.set i (some v)) H1) : tSeq (tAsg te (gName i)) tz D σ H := h
theorem m_tupM (h : tA σ H fun xs H1 => xs.length ≤ sizeLine ∧ ∀ p, H1 p = none → Q (.ref p) (upd H1 p (.tup xs))) : tTup tA σ H Q := h
theorem m_lcLs {tl0 : TE} {a : Addr} {xs : List V} {vs : List Nat} {tt : TT} (ha : Ev tl0 σ H (.ref a)) (hx : SqL K H a xs) (k : ∀ H1, Ex H H1 → ∀ L, H1 L = none → ∃ Pv : Nat → Hp → Prop, Pv 0 (upd H1 L (.lst [])) ∧ (∀ i H, i ≤ xs.length → Pv i H → SqL K H a xs) ∧
    (∀ (i : Nat) (x : V) (H2 : Hp), xs[i]? = some x → Pv i H2 → g x (wipe σ vs) H2 fun σ2 H2 => wipe σ2 vs = wipe σ vs ∧ tt σ2 H2 fun b H3 =>
      if b = true then te σ2 H3 fun y H4 => ∃ acc, H4 L = some (.lst acc) ∧ acc.length < sizeLine ∧ Pv (i + 1) (upd H4 L (.lst (acc ++ [y]))) else Pv (i + 1) H3) ∧ ∀ H, Pv xs.length H → Q (.ref L) H) : tLc (iList K tl0) g tt te vs σ H Q :=
  ha H (Ex.refl H) _ fun H1 e1 => ⟨a, rfl, ⟨xs, ex_l e1 hx⟩, fun L hL => by
    obtain ⟨Pv, p0, p1, p2, p3⟩ := k H1 e1 L hL
    exact lc_list Pv p0 p1 p2 p3⟩
theorem rem_upd {H : Hp} {r : Addr} {o : HO} : rem (upd H r o) r = rem H r := funext fun b => by
  by_cases z : b = r
  · rw [z, rem_eq, rem_eq]
  · rw [rem_ne z, rem_ne z, upd_ne z]
theorem ex_remr {H H' : Hp} {r : Addr} (e : Ex H H') : Ex (rem H r) (rem H' r) := fun b o h => by
  by_cases z : b = r
  · rw [z, rem_eq] at h; cases h
  · rw [rem_ne z] at h ⊢
    exact e _ _ h
theorem ex_to_rem {B H : Hp} {r : Addr} (e : Ex B H) (h : B r = none) : Ex B (rem H r) := fun b o hb => by
  rw [rem_ne fun z => by rw [z, h] at hb; cases hb]
  exact e _ _ hb
theorem paired_snoc {α β : Type} {R : α → β → Prop} : ∀ {xs : List α} {ys : List β} {x : α} {y : β}, Paired R xs ys → R x y → Paired R (xs ++ [x]) (ys ++ [y])
  | _, _, _, _, .nil, h => .cons h .nil
  | _, _, _, _, .cons h t, h' => .cons h (paired_snoc t h')
theorem paired_at {α β : Type} {R : α → β → Prop} : ∀ {xs : List α} {ys : List β} {i : Nat} {x : α}, Paired R xs ys → xs[i]? = some x → ∃ y, ys[i]? = some y ∧ R x y
  | _, _, 0, _, .cons h _, e => ⟨_, rfl, by cases e; exact h⟩
  | _, _, i + 1, _, .cons _ t, e => paired_at (i := i) t e
theorem m_lcES {a : Addr} {c : Int} {xs : List V} {vs : List Nat} {tt : TT} (ha : EvA tA σ H [.ref a]) (hx : SqL K H a xs) (k : ∀ H1, Ex H H1 → ∀ L, H1 L = none → ∃ Pv : Nat → Hp → Prop, Pv 0 (upd H1 L (.lst [])) ∧ (∀ i H, i ≤ xs.length → Pv i H → SqL K H a xs) ∧
    (∀ (i : Nat) (x : V) (T : Addr) (H2 : Hp), xs[i]? = some x → Pv i H2 → H2 T = none → g (.ref T) (wipe σ vs) (upd H2 T (.tup [.int (c + (i : Nat)), x])) fun σ2 H2 => wipe σ2 vs = wipe σ vs ∧ tt σ2 H2 fun b H3 =>
      if b = true then te σ2 H3 fun y H4 => ∃ acc, H4 L = some (.lst acc) ∧ acc.length < sizeLine ∧ Pv (i + 1) (upd H4 L (.lst (acc ++ [y]))) else Pv (i + 1) H3) ∧ ∀ H, Pv xs.length H → Q (.ref L) H) : tLc (iEnumSL K c tA) g tt te vs σ H Q :=
  ha H (Ex.refl H) _ fun H1 e1 => ⟨a, xs, rfl, rfl, ex_l e1 hx, fun L hL => by
    obtain ⟨Pv, p0, p1, p2, p3⟩ := k H1 e1 L hL
    refine lc_it walk_enumSL Pv p0 p1 (fun i v H3 H4 hi h y => ?_) p3
    obtain ⟨T', x, y', rfl, hT, rfl, hx1, hy1⟩ := y
    have hx2 : x = V.int (c + (i : Nat)) := (Option.some.inj hx1).symm
    subst hx2
    exact p2 i y' T' H3 hy1 h hT⟩
end
section
variable {P : Program} {w : World} {K : PySem.W.Frag} {mg : Str → Option Value} {base : Heap}
abbrev s_words_of : Stmt := top 31
theorem sc_words_of : FnScope ["line", "word"] ["line"] (defScope s_words_of) := ⟨rfl, rfl, rfl, by decide +kernel, rfl, by decide +kernel, by decide +kernel⟩
--TY words_of {'line':'str','word':'str'}
theorem ok_words {f : Addr} {fd : FuncData} (F : Fun K "words_of" "words_of" s_words_of f fd) (T : Txt K mg) : FnOk P w K mg base CX0 1 f fd ["line"] spWords := by
  refine F.ok sc_words_of (fun vs H Q E h => ?_) (fun cdv A outer s H vs Q E hr h => ?_)
  · obtain ⟨_, rfl, _⟩ := h
    rfl
  · obtain ⟨z, rfl, hz, k⟩ := h
    refine ⟨_, (pss_one (ps_ret (pe_lc (own := [("word", 1)]) (g := gName 1) rfl sc_words_of.nd (pi_listK (K := K) rfl (pe_bmK (K := K) rfl PySem.F.plainAttrs_str PySem.F.slot_str_split PySem.F.type_str_split mt_split (pv 0) (pa_cons pe_str pa_nil))) (blkOk_by (by kernel_rfl)) (fun _ _ _ _ _ => pg_name (i := 1) sc_words_of.nd rfl (by first | exact Or.inl rfl | exact Or.inr rfl)) (fun _ _ _ _ _ => (pts_one (pt_cmpR op_ne (pv 1) pe_str (nomark _)))) (fun _ _ _ _ _ => (pv 1))))), ?_⟩
    have hsl := split_len z " "
    refine s_retL (xs := (wordsS z).map V.str) ?_ fun l H1 hl e1 h1 => k l H1 hl e1 h1
    exact el_lcNF (α := Str) (ws := Txt.split z " ") (g := V.str) (f := V.str) (q_words (ev_var rfl) ev_c (by decide) (by rw [sizeLine_eq]; omega)) (fun y => rfl) (by omega) (fun y H1 hy e1 => et_ne (ev_var rfl) ev_c rfl) fun y H1 hy e1 => ev_var rfl
abbrev s_lines_with_words : Stmt := top 35
theorem sc_lines_with_words : FnScope ["text", "lines", "pairs", "found", "number", "line", "words"] ["text"] (defScope s_lines_with_words) := ⟨rfl, rfl, rfl, by decide +kernel, rfl, by decide +kernel, by decide +kernel⟩
--TY lines_with_words {'text':'str','lines':('list','str'),'pairs':L,'found':L,'number':'int','line':'str','words':('list','str')}
theorem ok_lines {f f1 : Addr} {fd fd1 : FuncData} (F : Fun K "lines_with_words" "lines_with_words" s_lines_with_words f fd) (T : Txt K mg) (C_words_of : Cal P w K mg base CX0 1 "words_of" f1 fd1 ["line"] spWords) : FnOk P w K mg base CX0 2 f fd ["text"] (spLw K) := by
  refine F.ok sc_lines_with_words (fun vs H Q E h => ?_) (fun cdv A outer s H vs Q E hr h => ?_)
  · obtain ⟨_, rfl, _⟩ := h
    rfl
  · obtain ⟨z, rfl, hz, hne, k⟩ := h
    refine ⟨_, (pss_cons (ps_set (i := 1) sc_lines_with_words.nd rfl (Or.inl rfl) (pe_bmK (K := K) rfl PySem.F.plainAttrs_str PySem.F.slot_str_split PySem.F.type_str_split mt_split (pv 0) (pa_cons (pe_glob (v := .str "\n") rfl T.c_LINE_END.choose_spec ⟨_, rfl⟩) pa_nil)))
  (pss_cons (ps_setLc (i := 2) (own := [("number", 4), ("line", 5)]) (g := gTup K 2 (gCons (gName 4) (gCons (gName 5) gNil))) rfl sc_lines_with_words.nd rfl rfl (sw_true rfl rfl rfl (by decide +kernel)) (pi_enumSL (K := K) rfl (by decide) (by rfl) T.z_enumerate (pa_cons (pv 1) pa_nil)) (blkOk_by (by kernel_rfl)) (fun _ _ _ _ _ => pg_tupK (K := K) rfl rfl (pgs_cons (pg_name (i := 4) sc_lines_with_words.nd rfl (by first | exact Or.inl rfl | exact Or.inr rfl)) (pgs_cons (pg_name (i := 5) sc_lines_with_words.nd rfl (by first | exact Or.inl rfl | exact Or.inr rfl)) pgs_nil))) (fun _ _ _ _ _ => pts_nil) (fun _ _ _ _ _ => (pe_tup (pa_cons (pv 4) (pa_cons (pe_call C_words_of.G (hr.mono (by first | decide | omega)) rfl C_words_of.g C_words_of.kp C_words_of.b .nil pass0 (pa_cons (pv 5) pa_nil)) pa_nil)))))
  (pss_cons (ps_setLc (i := 3) (own := [("number", 4), ("words", 6)]) (g := gTup K 2 (gCons (gName 4) (gCons (gName 6) gNil))) rfl sc_lines_with_words.nd rfl rfl (sw_true rfl rfl rfl (by decide +kernel)) (pi_listK (K := K) rfl (pv 2)) (blkOk_by (by kernel_rfl)) (fun _ _ _ _ _ => pg_tupK (K := K) rfl rfl (pgs_cons (pg_name (i := 4) sc_lines_with_words.nd rfl (by first | exact Or.inl rfl | exact Or.inr rfl)) (pgs_cons (pg_name (i := 6) sc_lines_with_words.nd rfl (by first | exact Or.inl rfl | exact Or.inr rfl)) pgs_nil))) (fun _ _ _ _ _ => (pts_one (pt_truthK (K := K) rfl (pv 6) (by intro _; rfl)))) (fun _ _ _ _ _ => (pe_tup (pa_cons (pv 4) (pa_cons (pv 6) pa_nil)))))
  (pss_cons (ps_if (pt_not (pt_truthK (K := K) rfl (pv 3) (by intro _; rfl))) (pss_one ps_never) pss_nil)
  (pss_one (ps_ret (pv 3))))))), ?_⟩
    have hsl := split_len z "\n"
    have hlw : lwOf z = (pairsOf (Txt.split z "\n")).filter fun p => !p.2.isEmpty := rfl
    have hmem : ∀ w ∈ Txt.split z "\n", w.length ≤ z.length := fun w h => split_mem (by decide +kernel) (by decide +kernel) h
    generalize hls : Txt.split z "\n" = ls at hsl hlw hmem
    refine q_asgL (xs := ls.map V.str) (by rw [← hls]; exact q_words (ev_var rfl) ev_c (by decide) (by rw [sizeLine_eq]; omega)) fun l H1 hl0 e1 h1 => ?_
    -- pairs
    refine q_setMM ?_
    have hpl : (pairsOf ls).length = ls.length := by unfold pairsOf; rw [List.length_map, List.length_range]
    refine m_lcES (ea_cons (ev_var rfl) ea_nil) (sq_of h1) fun H2 e2 L hL => ⟨fun i H' => Ex H2 H' ∧ ∃ xs, H' L = some (.lst xs) ∧ Paired (LwA K (newOf H (rem H' L))) xs ((pairsOf ls).take i), ⟨Ex.new hL, [], upd_same, .nil⟩, fun i H' _ h => sq_of (h.1 _ _ (e2 _ _ h1)), fun i x T' H3 hx1 h hT => ?_, fun H3 h => ?_⟩
    · obtain ⟨e3, xs, hx, hp⟩ := h
      rw [List.getElem?_map] at hx1
      have hi : i < ls.length := by
        cases q : ls[i]? with
        | none => rw [q] at hx1; cases hx1
        | some y => exact (List.getElem?_eq_some_iff.mp q).1
      have hli : ls[i]? = some (ls.getD i "") := by rw [List.getElem?_eq_getElem hi, List.getD_eq_getElem?_getD, List.getElem?_eq_getElem hi]; rfl
      rw [hli] at hx1
      cases hx1
      rw [show (1 : Int) + (i : Nat) = ((i + 1 : Nat) : Int) by omega]
      have eT := Ex.new (o := .tup [V.int ((i + 1 : Nat) : Int), V.str (ls.getD i "")]) hT
      refine ⟨T', _, rfl, st_of upd_same, rfl, _, _, rfl, ⟨_, _, rfl, ⟨rfl, ?_⟩⟩⟩
      refine ⟨rfl, ?_⟩
      refine yes_lcT ?_
      rw [if_pos rfl]
      refine m_tupM ?_
      refine m_consE (ev_var rfl) fun H5 e5 => ?_
      refine m_consM ?_
      refine m_callM (ea_cons (ev_var rfl) ea_nil) fun H6 e6 => ?_
      have hlen := hmem _ (List.mem_of_getElem? hli)
      refine ⟨ls.getD i "", rfl, by omega, fun b H7 hb e7 h7 => ⟨by show 2 ≤ sizeLine; rw [sizeLine_eq]; decide, fun t ht => ?_⟩⟩
      have e47 := (eT.trans e5).trans (e6.trans e7)
      have en := Ex.new (o := .tup [V.int ((i + 1 : Nat) : Int), .ref b]) ht
      have hxl : xs.length = i := by rw [Paired.length hp, List.length_take, hpl]; omega
      refine ⟨xs, en _ _ (e47 _ _ hx), sz_lt (by omega), Ex.mut ((e3.trans e47).trans en) hL, xs ++ [.ref t], upd_same, ?_⟩
      rw [rem_upd]
      have hpi : (pairsOf ls)[i]? = some (i + 1, wordsS (ls.getD i "")) := by
        unfold pairsOf
        rw [List.getElem?_map, List.getElem?_range hi]
        rfl
      rw [List.take_add_one, hpi]
      have tL : t ≠ L := fun z => by
        have h6 := e47 _ _ hx
        rw [← z, ht] at h6
        cases h6
      have bL : b ≠ L := fun z => by
        have h6 := ((eT.trans e5).trans e6) _ _ hx
        rw [← z, hb] at h6
        cases h6
      have e0H : Ex H H3 := (e1.trans e2).trans e3
      have tH : H t = none := fresh_back (e0H.trans e47) ht
      have bH : H b = none := fresh_back (e0H.trans ((eT.trans e5).trans e6)) hb
      exact paired_snoc (Paired.mapP hp fun _ _ z => z.up (new_r (ex_remr (e47.trans en)))) ⟨t, b, rfl, st_of (by rw [new_at tH, rem_ne tL]; exact upd_same), sq_of (by rw [new_at bH, rem_ne bL]; exact en _ _ h7)⟩
    · obtain ⟨e3, xs, hx, hp⟩ := h
      rw [List.length_map, ← hpl, List.take_length] at hp
      have hp3 : Paired (LwA K (newOf H H3)) xs (pairsOf ls) := Paired.mapP hp fun _ _ z => z.up (new_r rem_ex)
      have hxl : xs.length = ls.length := by rw [Paired.length hp, hpl]
      have e03 : Ex H H3 := (e1.trans e2).trans e3
      clear hp e3 h1 e1 e2
      refine q_setMM ?_
      refine m_lcLs (ev_var rfl) (sq_of hx) fun H4 e4 L2 hL2 => ⟨fun i H' => Ex H4 H' ∧ ∃ ys, H' L2 = some (.lst ys) ∧ Paired (LwA K (newOf H (rem H' L2))) ys (((pairsOf ls).take i).filter fun p => !p.2.isEmpty), ⟨Ex.new hL2, [], upd_same, .nil⟩, fun i H' _ h => sq_of (h.1 _ _ (e4 _ _ hx)), fun i v H5 hv h => ?_, fun H5 h => ?_⟩
      · obtain ⟨e5, ys, hy, hpy⟩ := h
        obtain ⟨⟨no, ws⟩, hpi, hA⟩ := paired_at hp3 hv
        obtain ⟨t, b, rfl, htn, hbn⟩ := hA
        have ht := ex_t new_ex htn
        have hb := ex_l new_ex hbn
        have e45 := e4.trans e5
        refine ⟨t, _, rfl, ex_t e45 ht, rfl, _, _, rfl, ⟨_, _, rfl, ⟨rfl, ?_⟩⟩⟩
        refine ⟨rfl, ?_⟩
        refine (et_truL (ev_var rfl) (ex_l e45 hb)) _ (Ex.refl _) _ fun H6 e6 => ?_
        rw [List.isEmpty_map]
        cases hw : ws.isEmpty with
        | true =>
          rw [if_neg (by simp)]
          refine ⟨e5.trans e6, ys, e6 _ _ hy, ?_⟩
          rw [filter_take hpi, if_neg (by rw [hw]; exact Bool.false_ne_true)]
          exact Paired.mapP hpy fun _ _ z => z.up (new_r (ex_remr e6))
        | false =>
          rw [if_pos (by rfl)]
          refine m_tupM ?_
          refine m_consE (ev_var rfl) fun H7 e7 => m_consE (ev_var rfl) fun H8 e8 => ?_
          refine ⟨by show 2 ≤ sizeLine; rw [sizeLine_eq]; decide, fun t2 ht2 => ?_⟩
          have e58 := (e6.trans e7).trans e8
          have en := Ex.new (o := .tup [V.int (no : Nat), .ref b]) ht2
          have hyl : ys.length ≤ ls.length := by
            rw [Paired.length hpy]
            refine Nat.le_trans (List.length_filter_le _ _) ?_
            rw [List.length_take, hpl]
            omega
          refine ⟨ys, en _ _ (e58 _ _ hy), sz_lt (by omega), Ex.mut ((e5.trans e58).trans en) hL2, ys ++ [.ref t2], upd_same, ?_⟩
          rw [rem_upd, filter_take hpi, if_pos (by rw [hw]; rfl)]
          have tL : t2 ≠ L2 := fun z => by
            have h6 := e58 _ _ hy
            rw [← z, ht2] at h6
            cases h6
          have t2H : H t2 = none := fresh_back ((e03.trans e45).trans e58) ht2
          exact paired_snoc (Paired.mapP hpy fun _ _ z => z.up (new_r (ex_remr (e58.trans en)))) ⟨t2, b, rfl, st_of (by rw [new_at t2H, rem_ne tL]; exact upd_same), ex_l (new_r (e4.trans (ex_to_rem ((e5.trans e58).trans en) hL2))) hbn⟩
      · obtain ⟨e5, ys, hy, hpy⟩ := h
        rw [hxl, ← hpl, List.take_length, ← hlw] at hpy
        have hpy5 : Paired (LwA K (newOf H H5)) ys (lwOf z) := Paired.mapP hpy fun _ _ z => z.up (new_r rem_ex)
        refine q_when (b := false) (et_not (a := true) (et_is (et_truL (ev_var rfl) (sq_of hy)) ?_)) (fun z => nomatch z) fun _ H6 e6 => ?_
        · cases ys with
          | nil =>
            cases hq : lwOf z with
            | nil => exact absurd hq hne
            | cons a r => rw [hq] at hpy5; cases hpy5
          | cons a r => rfl
        · exact s_ret (ev_var rfl) fun H7 e7 => k L2 H7 ((e03.trans e4).trans (e5.trans (e6.trans e7))) (LwR.up (new_r (e6.trans e7)) ⟨ys, sq_of (by rw [new_at (fresh_back (e03.trans e4) hL2)]; exact hy), hpy5⟩)
end
end Fm
set_option Elab.async false
set_option linter.all false
set_option maxRecDepth 100000
set_option maxHeartbeats 1000000
namespace Fm
open PySem L2 Evl
/-- an own class that says no more than its name, under ValueError -/
structure BaseE (K : PySem.W.Frag) (mg : Str → Option Value) (x : Str) (C : Addr) : Prop where
  gC : mg x = some (.ref C)
  kC : PySem.W.keepIn K (.ref C) = true
  q : PySem.W.excIn K C [.type "ValueError", .type "Exception", .type "BaseException", .type "object"] "ValueError.__new__" = true
  ex : PySem.W.subIn K (.ref C) (.type "BaseException") = some true
  ty : PySem.W.typeIn K (.ref C) = some (.type "type")
  te : PySem.W.exmOne K (.ref C) (.ref C) = some true
def ErrB (C : Addr) (H : Hp) (E : XK) : Prop := ∀ H', Ex H H' → E (.ref C) none H'
theorem ErrB.up {C : Addr} {H H' : Hp} {E : XK} (e : Ex H H') (h : ErrB C H E) : ErrB C H' E := fun H2 e2 => h H2 (e.trans e2)
theorem log_small {i : Int} (h1 : -1000000 ≤ i) (h2 : i ≤ 1000000) : i.natAbs.log2 < 1920 := by
  have h : i.natAbs < 2 ^ 20 := by omega
  by_cases z : i.natAbs = 0
  · rw [z]; decide
  · have := (Nat.log2_lt z).mpr h
    omega
theorem text_len {i : Int} (h1 : -1000000 ≤ i) (h2 : i ≤ 1000000) : (Str.ofString (toString i)).length ≤ 10000 := by
  have e := int_text_length_le (k := 1920) (by decide) (log_small h1 h2)
  rw [PySem.ofString_length]
  omega
theorem strA (a b : Str) : (a ++ b).length = a.length + b.length := Array.size_append
theorem q_callX {sp : Sp} {W : L2.St → XK} {ta : TA} {vs : List V} {D : Ends} {tz : TS} {σ : L2.St} {H : Hp} (h : EvA ta σ H vs) (k : ∀ H1, Ex H H1 → sp vs H1 (fun _ H2 => tz D σ H2) (W σ)) : tSeq (tDrop (tCallS sp W ta)) tz D σ H := h H (Ex.refl H) _ k
theorem s_callX {sp : Sp} {W : L2.St → XK} {ta : TA} {vs : List V} {D : Ends} {σ : L2.St} {H : Hp} (h : EvA ta σ H vs) (k : ∀ H1, Ex H H1 → sp vs H1 (fun _ H2 => D.nx σ H2) (W σ)) : tDrop (tCallS sp W ta) D σ H := h H (Ex.refl H) _ k
end Fm
set_option Elab.async false
set_option linter.all false
set_option maxRecDepth 100000
set_option maxHeartbeats 1000000
namespace Fm
open PySem L2 Evl TL
--RET {'words_of':('list','str'),'are_plain_digits':'bool','number_told':'any','numbers_behind':('tuple','int'),'lines_with_words':('list',('tuple','any')),'limits_behind':('tuple',('tuple','int'))}
theorem s_raiseL {C : Addr} {W : WX} {ta : TA} {D : Ends} {σ : L2.St} {H : Hp} {v v2 : V} (h : EvA ta σ H [v, v2]) (t1 : NS_BadLine.ToldV v) (t2 : NS_BadLine.ToldV v2) (k : ∀ H1, Ex H H1 → ∀ d, H1 d = none → W (.ref C) (some d) σ (upd H1 d (.xd [(("line" : Str), v), ("place", v2)]))) : NS_BadLine.tRaise C W ta D σ H :=
  h H (Ex.refl H) _ fun H1 e1 => ⟨v, v2, rfl, t1, t2, k H1 e1⟩
section
variable {P : Program} {w : World} {K : PySem.W.Frag} {mg : Str → Option Value} {base : Heap}
--TY lines_with_words {'text':'str','lines':('list','str'),'pairs':L,'found':L,'number':'int','line':'str','words':('list','str'),'@over':{'X':1,'raise':{'BadLine':'sup'}}}
theorem okX_lines {f f1 CBL fI cc cda : Addr} {fd fd1 : FuncData} (F : Fun K "lines_with_words" "lines_with_words" s_lines_with_words f fd) (T : Txt K mg) (T_BadLine : NS_BadLine.Ty P K mg CBL fI cc cda) (C_words_of : Cal P w K mg base CX0 1 "words_of" f1 fd1 ["line"] spWords) : FnOk P w K mg base (L2.CX P w) 2 f fd ["text"] (spLwX CBL) := by
  refine F.okX sc_lines_with_words (fun vs H Q E h => ?_) (fun cdv A outer s H vs Q E hr h => ?_)
  · obtain ⟨_, rfl, _⟩ := h
    rfl
  · obtain ⟨z, rfl, hz, hne, k⟩ := h
    refine ⟨_, (pss_cons (ps_set (i := 1) sc_lines_with_words.nd rfl (Or.inl rfl) (pe_bmK (K := K) rfl PySem.F.plainAttrs_str PySem.F.slot_str_split PySem.F.type_str_split mt_split (pv 0) (pa_cons (pe_glob (v := .str "\n") rfl T.c_LINE_END.choose_spec ⟨_, rfl⟩) pa_nil)))
  (pss_cons (ps_setLc (i := 2) (own := [("number", 4), ("line", 5)]) (g := gTup K 2 (gCons (gName 4) (gCons (gName 5) gNil))) rfl sc_lines_with_words.nd rfl rfl (sw_true rfl rfl rfl (by decide +kernel)) (pi_enumSL (K := K) rfl (by decide) (by rfl) T.z_enumerate (pa_cons (pv 1) pa_nil)) (blkOk_by (by kernel_rfl)) (fun _ _ _ _ _ => pg_tupK (K := K) rfl rfl (pgs_cons (pg_name (i := 4) sc_lines_with_words.nd rfl (by first | exact Or.inl rfl | exact Or.inr rfl)) (pgs_cons (pg_name (i := 5) sc_lines_with_words.nd rfl (by first | exact Or.inl rfl | exact Or.inr rfl)) pgs_nil))) (fun _ _ _ _ _ => pts_nil) (fun _ _ _ _ _ => (pe_tup (pa_cons (pv 4) (pa_cons (pe_call C_words_of.G (hr.mono (by first | decide | omega)) rfl C_words_of.g C_words_of.kp C_words_of.b .nil pass0 (pa_cons (pv 5) pa_nil)) pa_nil)))))
  (pss_cons (ps_setLc (i := 3) (own := [("number", 4), ("words", 6)]) (g := gTup K 2 (gCons (gName 4) (gCons (gName 6) gNil))) rfl sc_lines_with_words.nd rfl rfl (sw_true rfl rfl rfl (by decide +kernel)) (pi_listK (K := K) rfl (pv 2)) (blkOk_by (by kernel_rfl)) (fun _ _ _ _ _ => pg_tupK (K := K) rfl rfl (pgs_cons (pg_name (i := 4) sc_lines_with_words.nd rfl (by first | exact Or.inl rfl | exact Or.inr rfl)) (pgs_cons (pg_name (i := 6) sc_lines_with_words.nd rfl (by first | exact Or.inl rfl | exact Or.inr rfl)) pgs_nil))) (fun _ _ _ _ _ => (pts_one (pt_truthK (K := K) rfl (pv 6) (by intro _; rfl)))) (fun _ _ _ _ _ => (pe_tup (pa_cons (pv 4) (pa_cons (pv 6) pa_nil)))))
  (pss_cons (ps_if (pt_not (pt_truthK (K := K) rfl (pv 3) (by intro _; rfl))) (pss_one (NS_BadLine.ps_raise_ rfl T_BadLine hr (takes_of rfl rfl rfl rfl) (pa_cons (pe_op op_add (pe_callB (len_K (K := K) rfl) (by rfl) T.z_len (by decide +kernel) (pa_cons (pv 1) pa_nil)) pe_int) (pa_cons pe_int pa_nil)))) pss_nil)
  (pss_one (ps_ret (pv 3))))))), ?_⟩
    have hsl := split_len z "\n"
    have hlw : lwOf z = (pairsOf (Txt.split z "\n")).filter fun p => !p.2.isEmpty := rfl
    have hmem : ∀ w ∈ Txt.split z "\n", w.length ≤ z.length := fun w h => split_mem (by decide +kernel) (by decide +kernel) h
    generalize hls : Txt.split z "\n" = ls at hsl hlw hmem
    refine q_asgL (xs := ls.map V.str) (by rw [← hls]; exact q_words (ev_var rfl) ev_c (by decide) (by rw [sizeLine_eq]; omega)) fun l H1 hl0 e1 h1 => ?_
    -- pairs
    refine q_setMM ?_
    have hpl : (pairsOf ls).length = ls.length := by unfold pairsOf; rw [List.length_map, List.length_range]
    refine m_lcES (ea_cons (ev_var rfl) ea_nil) (sq_of h1) fun H2 e2 L hL => ⟨fun i H' => Ex H2 H' ∧ ∃ xs, H' L = some (.lst xs) ∧ Paired (LwA K (rem H' L)) xs ((pairsOf ls).take i), ⟨Ex.new hL, [], upd_same, .nil⟩, fun i H' _ h => sq_of (h.1 _ _ (e2 _ _ h1)), fun i x T' H3 hx1 h hT => ?_, fun H3 h => ?_⟩
    · obtain ⟨e3, xs, hx, hp⟩ := h
      rw [List.getElem?_map] at hx1
      have hi : i < ls.length := by
        cases q : ls[i]? with
        | none => rw [q] at hx1; cases hx1
        | some y => exact (List.getElem?_eq_some_iff.mp q).1
      have hli : ls[i]? = some (ls.getD i "") := by rw [List.getElem?_eq_getElem hi, List.getD_eq_getElem?_getD, List.getElem?_eq_getElem hi]; rfl
      rw [hli] at hx1
      cases hx1
      rw [show (1 : Int) + (i : Nat) = ((i + 1 : Nat) : Int) by omega]
      have eT := Ex.new (o := .tup [V.int ((i + 1 : Nat) : Int), V.str (ls.getD i "")]) hT
      refine ⟨T', _, rfl, st_of upd_same, rfl, _, _, rfl, ⟨_, _, rfl, ⟨rfl, ?_⟩⟩⟩
      refine ⟨rfl, ?_⟩
      refine yes_lcT ?_
      rw [if_pos rfl]
      refine m_tupM ?_
      refine m_consE (ev_var rfl) fun H5 e5 => ?_
      refine m_consM ?_
      refine m_callM (ea_cons (ev_var rfl) ea_nil) fun H6 e6 => ?_
      have hlen := hmem _ (List.mem_of_getElem? hli)
      refine ⟨ls.getD i "", rfl, by omega, fun b H7 hb e7 h7 => ⟨by show 2 ≤ sizeLine; rw [sizeLine_eq]; decide, fun t ht => ?_⟩⟩
      have e47 := (eT.trans e5).trans (e6.trans e7)
      have en := Ex.new (o := .tup [V.int ((i + 1 : Nat) : Int), .ref b]) ht
      have hxl : xs.length = i := by rw [Paired.length hp, List.length_take, hpl]; omega
      refine ⟨xs, en _ _ (e47 _ _ hx), sz_lt (by omega), Ex.mut ((e3.trans e47).trans en) hL, xs ++ [.ref t], upd_same, ?_⟩
      rw [rem_upd]
      have hpi : (pairsOf ls)[i]? = some (i + 1, wordsS (ls.getD i "")) := by
        unfold pairsOf
        rw [List.getElem?_map, List.getElem?_range hi]
        rfl
      rw [List.take_add_one, hpi]
      have tL : t ≠ L := fun z => by
        have h6 := e47 _ _ hx
        rw [← z, ht] at h6
        cases h6
      have bL : b ≠ L := fun z => by
        have h6 := ((eT.trans e5).trans e6) _ _ hx
        rw [← z, hb] at h6
        cases h6
      exact paired_snoc (Paired.mapP hp fun _ _ z => z.up (ex_remr (e47.trans en))) ⟨t, b, rfl, st_of (by rw [rem_ne tL]; exact upd_same), sq_of (by rw [rem_ne bL]; exact en _ _ h7)⟩
    · obtain ⟨e3, xs, hx, hp⟩ := h
      rw [List.length_map, ← hpl, List.take_length] at hp
      have hp3 : Paired (LwA K H3) xs (pairsOf ls) := Paired.mapP hp fun _ _ z => z.up rem_ex
      have hxl : xs.length = ls.length := by rw [Paired.length hp, hpl]
      have e03 : Ex H H3 := (e1.trans e2).trans e3
      have hl1 : SqL K H1 l (ls.map V.str) := sq_of h1
      have e34 : Ex H1 H3 := e2.trans e3
      clear hp e3 h1 e1 e2
      refine q_setMM ?_
      refine m_lcLs (ev_var rfl) (sq_of hx) fun H4 e4 L2 hL2 => ⟨fun i H' => Ex H4 H' ∧ ∃ ys, H' L2 = some (.lst ys) ∧ Paired (LwA K (rem H' L2)) ys (((pairsOf ls).take i).filter fun p => !p.2.isEmpty), ⟨Ex.new hL2, [], upd_same, .nil⟩, fun i H' _ h => sq_of (h.1 _ _ (e4 _ _ hx)), fun i v H5 hv h => ?_, fun H5 h => ?_⟩
      · obtain ⟨e5, ys, hy, hpy⟩ := h
        obtain ⟨⟨no, ws⟩, hpi, hA⟩ := paired_at hp3 hv
        obtain ⟨t, b, rfl, ht, hb⟩ := hA
        have e45 := e4.trans e5
        refine ⟨t, _, rfl, ex_t e45 ht, rfl, _, _, rfl, ⟨_, _, rfl, ⟨rfl, ?_⟩⟩⟩
        refine ⟨rfl, ?_⟩
        refine (et_truL (ev_var rfl) (ex_l e45 hb)) _ (Ex.refl _) _ fun H6 e6 => ?_
        rw [List.isEmpty_map]
        cases hw : ws.isEmpty with
        | true =>
          rw [if_neg (by simp)]
          refine ⟨e5.trans e6, ys, e6 _ _ hy, ?_⟩
          rw [filter_take hpi, if_neg (by rw [hw]; exact Bool.false_ne_true)]
          exact Paired.mapP hpy fun _ _ z => z.up (ex_remr e6)
        | false =>
          rw [if_pos (by rfl)]
          refine m_tupM ?_
          refine m_consE (ev_var rfl) fun H7 e7 => m_consE (ev_var rfl) fun H8 e8 => ?_
          refine ⟨by show 2 ≤ sizeLine; rw [sizeLine_eq]; decide, fun t2 ht2 => ?_⟩
          have e58 := (e6.trans e7).trans e8
          have en := Ex.new (o := .tup [V.int (no : Nat), .ref b]) ht2
          have hyl : ys.length ≤ ls.length := by
            rw [Paired.length hpy]
            refine Nat.le_trans (List.length_filter_le _ _) ?_
            rw [List.length_take, hpl]
            omega
          refine ⟨ys, en _ _ (e58 _ _ hy), sz_lt (by omega), Ex.mut ((e5.trans e58).trans en) hL2, ys ++ [.ref t2], upd_same, ?_⟩
          rw [rem_upd, filter_take hpi, if_pos (by rw [hw]; rfl)]
          have tL : t2 ≠ L2 := fun z => by
            have h6 := e58 _ _ hy
            rw [← z, ht2] at h6
            cases h6
          exact paired_snoc (Paired.mapP hpy fun _ _ z => z.up (ex_remr (e58.trans en))) ⟨t2, b, rfl, st_of (by rw [rem_ne tL]; exact upd_same), ex_l (e4.trans (ex_to_rem ((e5.trans e58).trans en) hL2)) hb⟩
      · obtain ⟨e5, ys, hy, hpy⟩ := h
        rw [hxl, ← hpl, List.take_length, ← hlw] at hpy
        have hpy5 : Paired (LwA K H5) ys (lwOf z) := Paired.mapP hpy fun _ _ z => z.up rem_ex
        have hy0 : ys = [] := by
          rw [hne] at hpy5
          cases hpy5
          rfl
        subst hy0
        refine q_when (b := true) (et_not (a := false) (et_is (et_truL (ev_var rfl) (sq_of hy)) rfl)) (fun _ H6 e6 => ?_) fun z => nomatch z
        have hls5 : ∀ {H'}, Ex H5 H' → SqL K H' l (ls.map V.str) := fun e => ex_l ((e34.trans (e4.trans e5)).trans e) hl1
        exact s_raiseL (ea_cons (ev_succ (n := ls.length) (ev_is (ev_lnL (ev_var rfl) (hls5 e6)) (by rw [List.length_map]))) (ea_cons ev_c ea_nil)) (.inr (.inl ⟨_, rfl, log_small (by omega) (by omega)⟩)) (.inr (.inl ⟨_, rfl, by decide⟩)) fun H7 e7 d hd => k d _ ((e03.trans e4).trans (e5.trans (e6.trans (e7.trans (Ex.new hd))))) (by rw [hls]; exact upd_same)
end
end Fm
set_option Elab.async false
set_option linter.all false
set_option maxRecDepth 100000
set_option maxHeartbeats 1000000
namespace Fm
open PySem L2 Evl TL
--RET {'words_of':('list','str'),'are_plain_digits':'bool','number_told':'any','numbers_behind':('tuple','int'),'lines_with_words':('list',('tuple','any')),'limits_behind':('tuple',('tuple','int'))}
/-- the i-th number behind a line's first word -/
def numAt (ws : List Str) (lm : List (Int × Int)) (i : Nat) : Option Int := if i + 2 ≤ ws.length then numR (ws.getD (i + 1) "") (lm.getD i (0, 0)).1 (lm.getD i (0, 0)).2 else none
structure OkN (ws : List Str) (lm : List (Int × Int)) (ns : List Int) : Prop where
  l : ns.length = lm.length
  n : ∀ i, i < lm.length → numAt ws lm i = some (ns.getD i 0)
  w : ws.length ≤ lm.length + 1
/-- the place of the first word that is none of the numbers -/
def BadN (ws : List Str) (lm : List (Int × Int)) (p : Nat) : Prop := (∃ i, i < lm.length ∧ p = i + 2 ∧ numAt ws lm i = none ∧ ∀ j, j < i → numAt ws lm j ≠ none) ∨ (p = lm.length + 2 ∧ (∀ j, j < lm.length → numAt ws lm j ≠ none) ∧ lm.length + 1 < ws.length)
def LimT (K : PySem.W.Frag) (H : Hp) (a : Addr) (lm : List (Int × Int)) : Prop := ∃ xs, SqT K H a xs ∧ Paired (fun v p => ∃ b : Addr, v = .ref b ∧ SqT K H b [.int p.1, .int p.2]) xs lm
theorem LimT.up {K : PySem.W.Frag} {H H' : Hp} {a : Addr} {lm : List (Int × Int)} (e : Ex H H') (h : LimT K H a lm) : LimT K H' a lm := let ⟨xs, h1, h2⟩ := h; ⟨xs, ex_t e h1, Paired.mapP h2 fun _ _ ⟨b, q1, q2⟩ => ⟨b, q1, ex_t e q2⟩⟩
def spNb (K : PySem.W.Frag) : Sp := fun vs H Q _ => ∃ (line : Int) (wl la : Addr) (ws : List Str) (lm : List (Int × Int)) (ns : List Int), vs = [.int line, .ref wl, .ref la] ∧ SqL K H wl (ws.map V.str) ∧ LimT K H la lm ∧ (∀ w ∈ ws, w.length ≤ 49000) ∧ lm.length ≤ 10 ∧ OkN ws lm ns ∧
  ∀ u H', H u = none → Ex H H' → H' u = some (.tup (ns.map V.int)) → Q (.ref u) H'
def spNbX (K : PySem.W.Frag) (CBL : Addr) : Sp := fun vs H Q E => ∃ (line : Nat) (wl la : Addr) (ws : List Str) (lm : List (Int × Int)) (p : Nat), vs = [.int (line : Nat), .ref wl, .ref la] ∧ SqL K H wl (ws.map V.str) ∧ LimT K H la lm ∧ (∀ w ∈ ws, w.length ≤ 49000) ∧ lm.length ≤ 10 ∧ line ≤ 100000 ∧ BadN ws lm p ∧
  ∀ d H', Ex H H' → H' d = some (.xd [(("line" : Str), .int (line : Nat)), ("place", .int (p : Nat))]) → E (.ref CBL) (some d) H'
section
variable {K : PySem.W.Frag} {σ : L2.St} {H : Hp} {ta tb te tl' : TE} {tr tA : TA} {Q : VK} {D : Ends} {tz tu : TS} {g : TG} {sp : Sp} {E : XK}
theorem q_forEST {a : Addr} {c : Int} {xs : List V} (ha : EvA tA σ H [.ref a]) (hx : SqT K H a xs) (Pv : Nat → L2.St → Hp → Prop) (h0 : ∀ H1, Ex H H1 → Pv 0 σ H1) (hl : ∀ m σ' H', m ≤ xs.length → Pv m σ' H' → SqT K H' a xs)
    (hs : ∀ (m : Nat) (x : V) (T : Addr) (σ' : L2.St) (H' : Hp), xs[m]? = some x → Pv m σ' H' → H' T = none → g (.ref T) σ' (upd H' T (.tup [.int (c + (m : Nat)), x])) fun σ2 H2 => tu { D with nx := Pv (m + 1), ct := Pv (m + 1), bk := tz D } σ2 H2) (hd : ∀ σ' H', Pv xs.length σ' H' → tz D σ' H') : tSeq (tFor (iEnumST K c tA) g tu) tz D σ H :=
  ha H (Ex.refl H) _ fun H1 e1 => ⟨a, xs, rfl, rfl, ex_t e1 hx, for_it (D := { D with nx := tz D }) walk_enumST Pv (h0 H1 e1) (fun i σ' H' hi p => hl i σ' H' hi p) (fun i v σ' H' H2 hi p y => by
    obtain ⟨T', x, y', rfl, hT, rfl, hx1, hy1⟩ := y
    have hx2 : x = V.int (c + (i : Nat)) := (Option.some.inj hx1).symm
    subst hx2
    exact hs i y' T' σ' H' hy1 p hT) hd⟩
end
section
variable {P : Program} {w : World} {K : PySem.W.Frag} {mg : Str → Option Value} {base : Heap}
abbrev s_numbers_behind : Stmt := top 34
theorem sc_numbers_behind : FnScope ["line", "words", "limits", "numbers", "place", "low", "high", "number"] ["line", "words", "limits"] (defScope s_numbers_behind) := ⟨rfl, rfl, rfl, by decide +kernel, rfl, by decide +kernel, by decide +kernel⟩
--TY numbers_behind {'line':'int','words':('list','str'),'limits':T,'numbers':('list','int'),'place':'int','low':'int','high':'int','number':'any'}
theorem ok_nb {f f1 : Addr} {fd fd1 : FuncData} (F : Fun K "numbers_behind" "numbers_behind" s_numbers_behind f fd) (T : Txt K mg) (C_number_told : Cal P w K mg base CX0 2 "number_told" f1 fd1 ["word", "low", "high"] spNum) : FnOk P w K mg base CX0 3 f fd ["line", "words", "limits"] (spNb K) := by
  refine F.ok sc_numbers_behind (fun vs H Q E h => ?_) (fun cdv A outer s H vs Q E hr h => ?_)
  · obtain ⟨_, _, _, _, _, _, rfl, _⟩ := h
    rfl
  · obtain ⟨line, wl, la, ws, lm, ns, rfl, hwl, hlm, hw, h10, hok, k⟩ := h
    refine ⟨_, (pss_cons (ps_set (i := 3) sc_numbers_behind.nd rfl (Or.inl rfl) (pe_lst pa_nil))
  (pss_cons (ps_for PassesOwn.never rfl (pi_enumST (K := K) rfl (by decide) (by rfl) T.z_enumerate (pa_cons (pv 2) pa_nil)) (pg_tup rfl (pgs_cons (pg_name (i := 4) sc_numbers_behind.nd rfl (by first | exact Or.inl rfl | exact Or.inr rfl)) (pgs_cons (pg_tup rfl (pgs_cons (pg_name (i := 5) sc_numbers_behind.nd rfl (by first | exact Or.inl rfl | exact Or.inr rfl)) (pgs_cons (pg_name (i := 6) sc_numbers_behind.nd rfl (by first | exact Or.inl rfl | exact Or.inr rfl)) pgs_nil))) pgs_nil))) (pss_cons (ps_set (i := 7) sc_numbers_behind.nd rfl (Or.inl rfl) (pe_ifExp (pt_cmpR op_le (pv 4) (pe_callB (len_K (K := K) rfl) (by rfl) T.z_len (by decide +kernel) (pa_cons (pv 1) pa_nil)) (nomark _)) (pe_call C_number_told.G (hr.mono (by first | decide | omega)) rfl C_number_told.g C_number_told.kp C_number_told.b .nil pass0 (pa_cons (pe_ix (ix_K (K := K) rfl) (pv 1) (pe_op op_sub (pv 4) pe_int) (fun _ _ => rfl)) (pa_cons (pv 5) (pa_cons (pv 6) pa_nil)))) pe_non))
  (pss_cons (ps_if (pt_cmpR op_isN (pv 7) pe_non (nomark _)) (pss_one ps_never) pss_nil)
  (pss_one (ps_expr (pe_bm PySem.F.plainAttrs_list PySem.F.slot_list_append PySem.F.type_list_append mt_append (pv 3) (pa_cons (pv 7) pa_nil)))))))
  (pss_cons (ps_if (pt_cmpR op_gt (pe_callB (len_K (K := K) rfl) (by rfl) T.z_len (by decide +kernel) (pa_cons (pv 1) pa_nil)) (pe_op op_add (pe_callB (len_K (K := K) rfl) (by rfl) T.z_len (by decide +kernel) (pa_cons (pv 2) pa_nil)) pe_int) (nomark _)) (pss_one ps_never) pss_nil)
  (pss_one (ps_ret (pe_callTy (tpl_K (K := K) rfl) (by rfl) T.z_tuple (by decide +kernel) (pa_cons (pv 3) pa_nil))))))), ?_⟩
    obtain ⟨ls, hls, hpl⟩ := id hlm
    have hll : ls.length = lm.length := Paired.length hpl
    refine q_asgL (xs := []) (el_lst ea_nil (by show 0 ≤ 100000; decide)) fun nl H1 hnl e1 h1 => ?_
    refine q_forEST (ea_cons (ev_var rfl) ea_nil) (ex_t e1 hls) (fun m σ' H' => ∃ z4 z5 z6 z7 : Option V, σ' = [some (.int line), some (.ref wl), some (.ref la), some (.ref nl), z4, z5, z6, z7] ∧ Ex H H' ∧ H' nl = some (.lst ((ns.take m).map V.int))) (fun H2 e2 => ⟨_, _, _, _, rfl, e1.trans e2, e2 _ _ h1⟩) (fun m σ' H' _ ⟨_, _, _, _, _, e, _⟩ => ex_t e hls) (fun m x T' σ' H' hx hp hT => ?_) fun σ' H' hp => ?_
    · obtain ⟨z4, z5, z6, z7, rfl, e, hn⟩ := hp
      obtain ⟨⟨lo, hi⟩, hpm, b, rfl, hb⟩ := paired_at hpl hx
      have hm : m < lm.length := (List.getElem?_eq_some_iff.mp hpm).1
      have hat := hok.n m hm
      have hlmD : lm.getD m (0, 0) = (lo, hi) := by rw [List.getD_eq_getElem?_getD, hpm]; rfl
      unfold numAt at hat
      rw [hlmD] at hat
      have hmw : m + 2 ≤ ws.length := by
        by_cases q : m + 2 ≤ ws.length
        · exact q
        · rw [if_neg q] at hat; cases hat
      rw [if_pos hmw] at hat
      have eT := Ex.new (o := .tup [V.int ((2 : Int) + (m : Nat)), .ref b]) hT
      have e2 := e.trans eT
      refine ⟨T', _, rfl, st_of upd_same, rfl, _, _, rfl, ⟨_, _, rfl, ⟨b, _, rfl, ex_t e2 hb, rfl, _, _, rfl, ⟨_, _, rfl, ⟨rfl, ⟨rfl, ?_⟩⟩⟩⟩⟩⟩
      try dsimp only
      generalize upd H' T' (.tup [V.int ((2 : Int) + (m : Nat)), .ref b]) = H2 at eT e2 ⊢
      have hwi : (ws.map V.str)[m + 1]? = some (.str (ws.getD (m + 1) "")) := by
        rw [List.getElem?_map, List.getElem?_eq_getElem (by omega), List.getD_eq_getElem?_getD, List.getElem?_eq_getElem (by omega)]
        rfl
      refine q_asg (v := .int (ns.getD m 0)) (ev_if (b := decide ((2 : Int) + (m : Nat) ≤ (ws.length : Nat))) (et_i0 (ev_var rfl) (ev_is (ev_lnL (ev_var rfl) (ex_l e2 hwl)) (by rw [List.length_map]))) (fun hb => ?_) (fun hb => ?_)) fun H3 e3 => ?_
      · refine ev_callV (ea_cons (ev_ixL (ev_var rfl) (ev_is (ev_i0 (ev_var rfl) ev_c) (by show V.int _ = V.int ((m + 1 : Nat) : Int); congr 1; omega)) (ex_l e2 hwl) (atI_nat' hwi)) (ea_cons (ev_var rfl) (ea_cons (ev_var rfl) ea_nil))) fun H3 e3 Q' q => ⟨_, lo, hi, rfl, ?_, ?_⟩
        · have := hw (ws.getD (m + 1) "") (by rw [List.getD_eq_getElem?_getD, List.getElem?_eq_getElem (by omega)]; exact List.getElem_mem _)
          omega
        · rw [hat]
          exact q
      · exact absurd (of_decide_eq_false hb) (by omega)
      refine q_when (b := false) (et_is (et_isN (ev_var rfl)) rfl) (fun z => nomatch z) fun _ H4 e4 => ?_
      have e34 := e3.trans e4
      refine s_app ((eT.trans e34) _ _ hn) (ev_var rfl) (ev_var rfl) (by rw [List.length_map, List.length_take]; omega) fun H5 e5 => ?_
      refine ⟨_, _, _, _, rfl, Ex.mut ((e2.trans e34).trans e5) (fresh_back (Ex.refl H) hnl), ?_⟩
      rw [upd_same, List.take_add_one]
      have : ns[m]? = some (ns.getD m 0) := by rw [List.getElem?_eq_getElem (by rw [hok.l]; exact hm), List.getD_eq_getElem?_getD, List.getElem?_eq_getElem (by rw [hok.l]; exact hm)]; rfl
      rw [this, List.map_append]
      rfl
    · obtain ⟨z4, z5, z6, z7, rfl, e, hn⟩ := hp
      rw [hll, ← hok.l, List.take_length] at hn
      refine q_when (b := false) (et_is (et_i0 (ev_is (ev_lnL (ev_var rfl) (ex_l e hwl)) (by rw [List.length_map])) (ev_succ (n := lm.length) (ev_is (ev_lnT (ev_var rfl) (ex_t e hls)) (by rw [hll])))) ?_) (fun z => nomatch z) fun _ H3 e3 => ?_
      · have := hok.w
        exact decide_eq_false (by omega)
      · exact s_retU (eu_tpl (ev_var rfl) (sq_of (e3 _ _ hn))) fun u H4 hu e4 h4 => k u H4 (fresh_back (e.trans e3) hu) ((e.trans e3).trans e4) h4
end
end Fm
set_option Elab.async false
set_option linter.all false
set_option maxRecDepth 100000
set_option maxHeartbeats 1000000
namespace Fm
open PySem L2 Evl TL
--RET {'words_of':('list','str'),'are_plain_digits':'bool','number_told':'any','numbers_behind':('tuple','int'),'lines_with_words':('list',('tuple','any')),'limits_behind':('tuple',('tuple','int'))}
section
variable {P : Program} {w : World} {K : PySem.W.Frag} {mg : Str → Option Value} {base : Heap}
--TY numbers_behind {'line':'int','words':('list','str'),'limits':T,'numbers':('list','int'),'place':'int','low':'int','high':'int','number':'any','@over':{'X':1,'raise':{'BadLine':'sup'}}}
theorem okX_nb {f f1 CBL fI cc cda : Addr} {fd fd1 : FuncData} (F : Fun K "numbers_behind" "numbers_behind" s_numbers_behind f fd) (T : Txt K mg) (T_BadLine : NS_BadLine.Ty P K mg CBL fI cc cda) (C_number_told : Cal P w K mg base CX0 2 "number_told" f1 fd1 ["word", "low", "high"] spNum) : FnOk P w K mg base (L2.CX P w) 3 f fd ["line", "words", "limits"] (spNbX K CBL) := by
  refine F.okX sc_numbers_behind (fun vs H Q E h => ?_) (fun cdv A outer s H vs Q E hr h => ?_)
  · obtain ⟨_, _, _, _, _, _, rfl, _⟩ := h
    rfl
  · obtain ⟨line, wl, la, ws, lm, p, rfl, hwl, hlm, hw, h10, hline, hbad, k⟩ := h
    refine ⟨_, (pss_cons (ps_set (i := 3) sc_numbers_behind.nd rfl (Or.inl rfl) (pe_lst pa_nil))
  (pss_cons (ps_for (passes_of rfl) rfl (pi_enumST (K := K) rfl (by decide) (by rfl) T.z_enumerate (pa_cons (pv 2) pa_nil)) (pg_tup rfl (pgs_cons (pg_name (i := 4) sc_numbers_behind.nd rfl (by first | exact Or.inl rfl | exact Or.inr rfl)) (pgs_cons (pg_tup rfl (pgs_cons (pg_name (i := 5) sc_numbers_behind.nd rfl (by first | exact Or.inl rfl | exact Or.inr rfl)) (pgs_cons (pg_name (i := 6) sc_numbers_behind.nd rfl (by first | exact Or.inl rfl | exact Or.inr rfl)) pgs_nil))) pgs_nil))) (pss_cons (ps_set (i := 7) sc_numbers_behind.nd rfl (Or.inl rfl) (pe_ifExp (pt_cmpR op_le (pv 4) (pe_callB (len_K (K := K) rfl) (by rfl) T.z_len (by decide +kernel) (pa_cons (pv 1) pa_nil)) (nomark _)) (pe_call C_number_told.G (hr.mono (by first | decide | omega)) rfl C_number_told.g C_number_told.kp C_number_told.b .nil pass0 (pa_cons (pe_ix (ix_K (K := K) rfl) (pv 1) (pe_op op_sub (pv 4) pe_int) (fun _ _ => rfl)) (pa_cons (pv 5) (pa_cons (pv 6) pa_nil)))) pe_non))
  (pss_cons (ps_if (pt_cmpR op_isN (pv 7) pe_non (nomark _)) (pss_one (NS_BadLine.ps_raise_ rfl T_BadLine hr (takes_of rfl rfl rfl rfl) (pa_cons (pv 0) (pa_cons (pv 4) pa_nil)))) pss_nil)
  (pss_one (ps_expr (pe_bm PySem.F.plainAttrs_list PySem.F.slot_list_append PySem.F.type_list_append mt_append (pv 3) (pa_cons (pv 7) pa_nil)))))))
  (pss_cons (ps_if (pt_cmpR op_gt (pe_callB (len_K (K := K) rfl) (by rfl) T.z_len (by decide +kernel) (pa_cons (pv 1) pa_nil)) (pe_op op_add (pe_callB (len_K (K := K) rfl) (by rfl) T.z_len (by decide +kernel) (pa_cons (pv 2) pa_nil)) pe_int) (nomark _)) (pss_one (NS_BadLine.ps_raise_ rfl T_BadLine hr (takes_of rfl rfl rfl rfl) (pa_cons (pv 0) (pa_cons (pe_op op_add (pe_callB (len_K (K := K) rfl) (by rfl) T.z_len (by decide +kernel) (pa_cons (pv 2) pa_nil)) pe_int) pa_nil)))) pss_nil)
  (pss_one (ps_ret (pe_callTy (tpl_K (K := K) rfl) (by rfl) T.z_tuple (by decide +kernel) (pa_cons (pv 3) pa_nil))))))), ?_⟩
    obtain ⟨ls, hls, hpl⟩ := id hlm
    have hll : ls.length = lm.length := Paired.length hpl
    have hsz : ws.length ≤ 15000000 ∨ True := .inr trivial
    refine q_asgL (xs := []) (el_lst ea_nil (by show 0 ≤ 100000; decide)) fun nl H1 hnl e1 h1 => ?_
    refine q_forEST (ea_cons (ev_var rfl) ea_nil) (ex_t e1 hls) (fun m σ' H' => ∃ (z4 z5 z6 z7 : Option V) (acc : List Int), σ' = [some (.int (line : Nat)), some (.ref wl), some (.ref la), some (.ref nl), z4, z5, z6, z7] ∧ Ex H H' ∧ H' nl = some (.lst (acc.map V.int)) ∧ acc.length = m ∧ ∀ j, j < m → numAt ws lm j ≠ none) (fun H2 e2 => ⟨_, _, _, _, [], rfl, e1.trans e2, e2 _ _ h1, rfl, fun j hj => absurd hj (Nat.not_lt_zero _)⟩) (fun m σ' H' _ ⟨_, _, _, _, _, _, e, _⟩ => ex_t e hls) (fun m x T' σ' H' hx hp hT => ?_) fun σ' H' hp => ?_
    · obtain ⟨z4, z5, z6, z7, acc, rfl, e, hn, hal, hgood⟩ := hp
      obtain ⟨⟨lo, hi⟩, hpm, b, rfl, hb⟩ := paired_at hpl hx
      have hm : m < lm.length := (List.getElem?_eq_some_iff.mp hpm).1
      have hlmD : lm.getD m (0, 0) = (lo, hi) := by rw [List.getD_eq_getElem?_getD, hpm]; rfl
      have eT := Ex.new (o := .tup [V.int ((2 : Int) + (m : Nat)), .ref b]) hT
      have e2 := e.trans eT
      refine ⟨T', _, rfl, st_of upd_same, rfl, _, _, rfl, ⟨_, _, rfl, ⟨b, _, rfl, ex_t e2 hb, rfl, _, _, rfl, ⟨_, _, rfl, ⟨rfl, ⟨rfl, ?_⟩⟩⟩⟩⟩⟩
      try dsimp only
      generalize upd H' T' (.tup [V.int ((2 : Int) + (m : Nat)), .ref b]) = H2 at eT e2 ⊢
      have hnum : numAt ws lm m = if m + 2 ≤ ws.length then numR (ws.getD (m + 1) "") lo hi else none := by unfold numAt; rw [hlmD]
      refine q_asg (v := oNum (numAt ws lm m)) (ev_if (b := decide ((2 : Int) + (m : Nat) ≤ (ws.length : Nat))) (et_i0 (ev_var rfl) (ev_is (ev_lnL (ev_var rfl) (ex_l e2 hwl)) (by rw [List.length_map]))) (fun hb => ?_) (fun hb => ?_)) fun H3 e3 => ?_
      · have hb := of_decide_eq_true hb
        have hwi : (ws.map V.str)[m + 1]? = some (.str (ws.getD (m + 1) "")) := by
          rw [List.getElem?_map, List.getElem?_eq_getElem (by omega), List.getD_eq_getElem?_getD, List.getElem?_eq_getElem (by omega)]
          rfl
        refine ev_callV (ea_cons (ev_ixL (ev_var rfl) (ev_is (ev_i0 (ev_var rfl) ev_c) (by show V.int _ = V.int ((m + 1 : Nat) : Int); congr 1; omega)) (ex_l e2 hwl) (atI_nat' hwi)) (ea_cons (ev_var rfl) (ea_cons (ev_var rfl) ea_nil))) fun H3 e3 Q' q => ⟨_, lo, hi, rfl, ?_, ?_⟩
        · have := hw (ws.getD (m + 1) "") (by rw [List.getD_eq_getElem?_getD, List.getElem?_eq_getElem (by omega)]; exact List.getElem_mem _)
          omega
        · rw [hnum, if_pos (by omega)] at q
          exact q
      · have hb := of_decide_eq_false hb
        rw [hnum, if_neg (by omega)]
        exact ev_c
      cases hnm : numAt ws lm m with
      | none =>
        have hpm2 : p = m + 2 := by
          rcases hbad with ⟨i, hi1, hp1, hi2, hi3⟩ | ⟨_, hi3, _⟩
          · by_cases q : i < m
            · exact absurd hi2 (hgood i q)
            · by_cases q2 : m < i
              · exact absurd hnm (hi3 m q2)
              · omega
          · exact absurd hnm (hi3 m hm)
        refine q_when (b := true) (et_is (et_isN (ev_var rfl)) rfl) (fun _ H4 e4 => ?_) fun z => nomatch z
        exact s_raiseL (ea_cons (ev_var rfl) (ea_cons (ev_is (ev_var rfl) (by rw [show ((2 : Int) + (m : Nat)) = ((p : Nat) : Int) by omega])) ea_nil)) (.inr (.inl ⟨_, rfl, log_small (by omega) (by omega)⟩)) (.inr (.inl ⟨_, rfl, log_small (by omega) (by omega)⟩)) fun H5 e5 d hd => k d _ ((e2.trans e3).trans ((e4.trans e5).trans (Ex.new hd))) upd_same
      | some n =>
        refine q_when (b := false) (et_is (et_isN (ev_var rfl)) rfl) (fun z => nomatch z) fun _ H4 e4 => ?_
        have e34 := e3.trans e4
        refine s_app ((eT.trans e34) _ _ hn) (ev_var rfl) (ev_var rfl) (by rw [List.length_map]; omega) fun H5 e5 => ?_
        refine ⟨_, _, _, _, acc ++ [n], rfl, Ex.mut ((e2.trans e34).trans e5) hnl, ?_, by rw [List.length_append, hal]; rfl, fun j hj => ?_⟩
        · rw [upd_same, List.map_append]
          rfl
        · by_cases q : j < m
          · exact hgood j q
          · rw [show j = m by omega, hnm]
            exact fun z => nomatch z
    · obtain ⟨z4, z5, z6, z7, acc, rfl, e, hn, hal, hgood⟩ := hp
      rw [hll] at hal hgood
      have hend : p = lm.length + 2 ∧ lm.length + 1 < ws.length := by
        rcases hbad with ⟨i, hi1, _, hi2, _⟩ | ⟨h1, _, h2⟩
        · exact absurd hi2 (hgood i hi1)
        · exact ⟨h1, h2⟩
      refine q_when (b := true) (et_is (et_i0 (ev_is (ev_lnL (ev_var rfl) (ex_l e hwl)) (by rw [List.length_map])) (ev_succ (n := lm.length) (ev_is (ev_lnT (ev_var rfl) (ex_t e hls)) (by rw [hll])))) (decide_eq_true (by omega))) (fun _ H3 e3 => ?_) fun z => nomatch z
      refine s_raiseL (ea_cons (ev_var rfl) (ea_cons (ev_is (ev_i0 (ev_is (ev_lnT (ev_var rfl) (ex_t (e.trans e3) hls)) (by rw [hll])) ev_c) (by show V.int (((lm.length : Nat) : Int) + 2) = V.int ((p : Nat) : Int); congr 1; omega)) ea_nil)) (.inr (.inl ⟨_, rfl, log_small (by omega) (by omega)⟩)) (.inr (.inl ⟨_, rfl, log_small (by omega) (by omega)⟩)) fun H5 e5 d hd => k d _ ((e.trans e3).trans (e5.trans (Ex.new hd))) upd_same
end
end Fm
set_option Elab.async false
set_option linter.all false
set_option maxRecDepth 100000
set_option maxHeartbeats 1000000
namespace Fm
open PySem L2 Evl RZ
/-- a touch (or a reading), a setting, any other deed -/
inductive Kd where
  | touch | set | wait
def Kd.near : Kd → Bool
  | .wait => false
  | _ => true
def Kd.isSet : Kd → Bool
  | .set => true
  | _ => false
def bhL (kd : Kd) (fs rs ls : List Nat) (c : Nat) : List Nat := match kd with
  | .touch => touchL fs rs ls c
  | .set => setL fs rs ls c
  | .wait => waitL ls
def bhC (kd : Kd) (rs : List Nat) (y c i : Nat) : Bool := (kd.near && decide (rs.getD i 0 = rs.getD c 0) && decide (y > 0)) || (kd.isSet && decide (i = c))
def bh (kd : Kd) (fs rs ls : List Nat) (c i : Nat) : Nat := if bhC kd rs (ls.getD i 0) c i then fs.getD i 0 else ls.getD i 0 - 1
theorem tch_bh (fs rs ls : List Nat) (c i : Nat) : tch fs rs ls c i = bh .touch fs rs ls c i := by
  unfold tch bh bhC Kd.near Kd.isSet
  generalize ls.getD i 0 = y
  generalize rs.getD i 0 = r1
  generalize rs.getD c 0 = r2
  by_cases h : y = 0
  · subst h
    simp
  · rw [if_neg h]
    have : y > 0 := by omega
    by_cases hr : r1 = r2
    · simp [hr, this]
    · simp [hr]
theorem bhL_eq (kd : Kd) (fs rs ls : List Nat) (c : Nat) : bhL kd fs rs ls c = (List.range ls.length).map (bh kd fs rs ls c) := by
  cases kd with
  | touch =>
    unfold bhL touchL
    exact List.map_congr_left fun i _ => tch_bh fs rs ls c i
  | set =>
    show setL fs rs ls c = _
    unfold setL touchL
    refine List.ext_getElem? fun i => ?_
    rw [List.getElem?_map, List.getElem?_set]
    by_cases hi : i < ls.length
    · have hr : (List.range ls.length)[i]? = some i := List.getElem?_range hi
      by_cases hc : c = i
      · subst hc
        rw [if_pos rfl, if_pos (by rw [List.length_map, List.length_range]; exact hi), hr]
        show some _ = some _
        congr 1
        unfold bh bhC Kd.near Kd.isSet
        simp
      · rw [if_neg hc, List.getElem?_map, hr]
        show some _ = some _
        congr 1
        rw [tch_bh]
        unfold bh bhC Kd.near Kd.isSet
        have : decide (i = c) = false := decide_eq_false fun z => hc z.symm
        simp [this]
    · have hr : (List.range ls.length)[i]? = none := List.getElem?_eq_none (by rw [List.length_range]; omega)
      rw [hr]
      by_cases hc : c = i
      · subst hc
        rw [if_pos rfl, if_neg (by rw [List.length_map, List.length_range]; exact hi)]
        rfl
      · rw [if_neg hc, List.getElem?_map, hr]
        rfl
  | wait =>
    show waitL ls = _
    unfold waitL
    refine List.ext_getElem? fun i => ?_
    rw [List.getElem?_map, List.getElem?_map]
    by_cases hi : i < ls.length
    · rw [List.getElem?_range hi, List.getElem?_eq_getElem hi]
      show some _ = some _
      congr 1
      have hg : ls.getD i 0 = ls[i] := by rw [List.getD_eq_getElem?_getD, List.getElem?_eq_getElem hi]; rfl
      unfold bh
      rw [hg]
      rfl
    · rw [List.getElem?_eq_none (by omega), List.getElem?_eq_none (by rw [List.length_range]; omega)]
      rfl
abbrev W5 : List V := [.str "get", .str "set", .str "plus", .str "minus", .str "touch"]
def KdOk (kd : Kd) (wd : Str) (cv : V) (c n : Nat) : Prop := inV (.str wd) W5 = kd.near ∧ decide (V.str wd = .str "set") = kd.isSet ∧ (kd.near = true → cv = .int (c : Nat) ∧ c < n)
def spLBeh (K : PySem.W.Frag) : Sp := fun vs H Q _ => ∃ (m l : Addr) (fs rs ls : List Nat) (wd : Str) (cv : V) (kd : Kd) (c : Nat), vs = [.ref m, .ref l, .str wd, cv] ∧ MaT K H m fs rs ∧ SqT K H l (nV ls) ∧ fs.length = rs.length ∧ ls.length = rs.length ∧ rs.length ≤ 10 ∧ KdOk kd wd cv c rs.length ∧
  ∀ b H', H b = none → Ex H H' → H' b = some (.tup (nV (bhL kd fs rs ls c))) → Q (.ref b) H'
section
variable {K : PySem.W.Frag} {σ : L2.St} {H : Hp} {ta tb te : TE}
theorem ev_max2 {i j : Int} (ha : Ev ta σ H (.int i)) (hb : Ev tb σ H (.int j)) : Ev (tCB (fun vs H Q => ∃ i j, vs = [.int i, .int j] ∧ Q (.int (if i < j then j else i)) H) (tCons ta (tCons tb tNil))) σ H (.int (if i < j then j else i)) := fun H1 e Q q =>
  ha H1 e _ fun H2 e2 => hb H2 (e.trans e2) _ fun H3 e3 => ⟨i, j, rfl, q H3 (e2.trans e3)⟩
end
section
variable {P : Program} {w : World} {K : PySem.W.Frag} {mg : Str → Option Value} {base : Heap}
end
end Fm
set_option Elab.async false
set_option linter.all false
set_option maxRecDepth 100000
set_option maxHeartbeats 1000000
namespace Fm
open PySem L2 Evl RZ L2
def spLMa (K : PySem.W.Frag) : Sp := fun vs H Q _ => ∃ (r s : Addr) (ns : List Int) (mo fd : Nat), vs = [.ref r, .int (mo : Nat), .int (fd : Nat)] ∧ RowAt K H r s ns ∧ 0 < mo ∧ mo ≤ 4 ∧ 0 < fd ∧ fd ≤ 8 ∧
  ∀ m fs rs H', MaT K H' m fs rs → MaOk fs rs → fs.length ≤ mo → RowAt K H' r s ns → Ex (rem H r) H' → Q (.ref m) H'
theorem nm_app (rs : List Nat) (r : Nat) : nm (rs ++ [r]) = max (nm rs) (r + 1) := by
  unfold nm
  rw [List.foldl_append]
  rfl
theorem rowsOk_app {rs : List Nat} {r : Nat} (h : RowsOk rs) (hr : r ≤ nm rs) : RowsOk (rs ++ [r]) := fun i x hx => by
  by_cases hi : i < rs.length
  · rw [List.getElem?_append_left hi] at hx
    rw [List.take_append_of_le_length (Nat.le_of_lt hi)]
    exact h i x hx
  · have : i = rs.length := by
      have := (List.getElem?_eq_some_iff.mp hx).1
      rw [List.length_append, List.length_singleton] at this
      omega
    subst this
    rw [List.getElem?_append_right (Nat.le_refl _), Nat.sub_self] at hx
    cases hx
    rw [List.take_left']
    · exact hr
    · rfl
section
variable {P : Program} {w : World} {K : PySem.W.Frag} {mg : Str → Option Value} {base : Heap}
theorem m_retTup {σ : L2.St} {H : Hp} {D : Ends} {tA : TA} (h : tA σ H fun xs H1 => xs.length ≤ sizeLine ∧ ∀ p, H1 p = none → D.rt (.ref p) (upd H1 p (.tup xs))) : tRet (tTup tA) D σ H := h
theorem m_consTplLc {Q : List V → Hp → Prop} {σ : L2.St} {H : Hp} {te : TE} {tr : TA} (h : te σ H fun x H1 => rTpl K [x] H1 fun y H2 => tr σ H2 fun ys H3 => Q (y :: ys) H3) : tCons (tCB (rTpl K) (tCons te tNil)) tr σ H Q := h
abbrev s_law_machine : Stmt := top 45
theorem sc_law_machine : FnScope ["row", "most", "fade", "many", "rows", "least", "cell"] ["row", "most", "fade"] (defScope s_law_machine) := ⟨rfl, rfl, rfl, by decide +kernel, rfl, by decide +kernel, by decide +kernel⟩
--TY _law_machine {'row':L,'rows':('list','int'),'many':'int','least':'int','cell':'int'}
theorem ok_lmachine {f f1 : Addr} {fd fd1 : FuncData} (F : Fun K "_law_machine" "_law_machine" s_law_machine f fd) (T : Txt K mg) (C_law_taken : Cal P w K mg base CX0 1 "_law_taken" f1 fd1 ["row", "many"] (spTak K)) : FnOk P w K mg base CX0 2 f fd ["row", "most", "fade"] (spLMa K) := by
  refine F.ok sc_law_machine (fun vs H Q E h => ?_) (fun cdv A outer s H vs Q E hr h => ?_)
  · obtain ⟨_, _, _, _, _, rfl, _⟩ := h
    rfl
  · obtain ⟨r, s, ns, mo, fd, rfl, R, hm0, hm4, hf0, hf8, k⟩ := h
    refine ⟨_, (pss_cons (ps_par3 (i := 3) (j := 4) (l := 5) (by rfl) sc_law_machine.nd rfl rfl rfl (by decide) (by decide) (by decide) rfl rfl rfl (pa_cons (pe_op op_add pe_int (pe_call C_law_taken.G (hr.mono (by first | decide | omega)) rfl C_law_taken.g C_law_taken.kp C_law_taken.b .nil pass0 (pa_cons (pv 0) (pa_cons (pv 1) pa_nil)))) (pa_cons (pe_lst pa_nil) (pa_cons pe_int pa_nil))) (by rfl))
  (pss_cons (ps_for PassesOwn.never rfl (pi_range1 rfl T.z_range (pa_cons (pv 3) pa_nil)) (pg_name (i := 6) sc_law_machine.nd rfl (by first | exact Or.inl rfl | exact Or.inr rfl)) (pss_cons (ps_expr (pe_bm PySem.F.plainAttrs_list PySem.F.slot_list_append PySem.F.type_list_append mt_append (pv 4) (pa_cons (pe_call C_law_taken.G (hr.mono (by first | decide | omega)) rfl C_law_taken.g C_law_taken.kp C_law_taken.b .nil pass0 (pa_cons (pv 0) (pa_cons (pe_op op_add (pv 5) pe_int) pa_nil))) pa_nil)))
  (pss_one (ps_set (i := 5) sc_law_machine.nd rfl (Or.inl rfl) (pe_callB (call_max2 rfl) (by rfl) T.z_max (by decide +kernel) (pa_cons (pv 5) (pa_cons (pe_op op_add (pe_ix (ix_K (K := K) rfl) (pv 4) (pe_un un_neg pe_int) (fun _ _ => rfl)) pe_int) pa_nil)))))))
  (pss_one (ps_ret (pe_tup (pa_cons (pe_callTy (tpl_K (K := K) rfl) (by rfl) T.z_tuple (by decide +kernel) (pa_cons (pe_lc (own := [("cell", 6)]) (g := gName 6) rfl sc_law_machine.nd (pi_range1 rfl T.z_range (pa_cons (pv 3) pa_nil)) (blkOk_by (by kernel_rfl)) (fun _ _ _ _ _ => pg_name (i := 6) sc_law_machine.nd rfl (by first | exact Or.inl rfl | exact Or.inr rfl)) (fun _ _ _ _ _ => pts_nil) (fun _ _ _ _ _ => (pe_op op_add pe_int (pe_call C_law_taken.G (hr.mono (by first | decide | omega)) rfl C_law_taken.g C_law_taken.kp C_law_taken.b .nil pass0 (pa_cons (pv 0) (pa_cons (pv 2) pa_nil)))))) pa_nil)) (pa_cons (pe_callTy (tpl_K (K := K) rfl) (by rfl) T.z_tuple (by decide +kernel) (pa_cons (pv 4) pa_nil)) pa_nil))))))), ?_⟩
    refine m_op ev_c fun H1 e1 => m_call (ea_cons (ev_var rfl) (ea_cons (ev_var rfl) ea_nil)) fun H2 e2 => ?_
    refine ⟨r, s, ns, mo, rfl, R.up (e1.trans e2), hm0, by omega, fun n H3 hn R3 e3 => ?_⟩
    have e03 : Ex (rem H r) H3 := Ex.past (rem_ex.trans (e1.trans e2)) rem_eq e3
    refine ⟨_, _, rfl, rfl, Nat.zero_le _, fun l hl => ?_⟩
    have hlr : l ≠ r := by
      obtain ⟨ys, hys⟩ := R3.lst
      exact (ne_of_none hys hl).symm
    have hl0 : rem H r l = none := fresh_back e03 hl
    have hs0 : (1 : Int) + ((n : Nat) : Int) = ((n + 1 : Nat) : Int) := by omega
    refine ⟨.int ((n + 1 : Nat) : Int), .ref l, .int ((0 : Nat) : Int), by rw [← hs0]; rfl, ?_⟩
    dsimp only
    have R4 : RowAt K (upd H3 l (.lst [])) r s ns := R3.up (Ex.new hl)
    refine q_forR1 (n := ((n + 1 : Nat) : Int)) (ea_cons (ev_var rfl) ea_nil) ⟨by omega, by omega⟩
      (fun j σ H' => ∃ (rs : List Nat) (z : Option V), Ex (rem H r) H' ∧ RowC H' r s ∧ H' l = some (.lst (nV rs)) ∧ rs.length = j ∧ RowsOk rs ∧ σ = [some (.ref r), some (.int (mo : Nat)), some (.int (fd : Nat)), some (.int ((n + 1 : Nat) : Int)), some (.ref l), some (.int (nm rs : Nat)), z])
      (fun H4 e4 => ⟨[], _, (Ex.mut e03 hl0).trans e4, R4.c.up e4, e4 _ _ upd_same, rfl, fun i r h => by simp at h, rfl⟩) ?_ ?_
    · rintro j σ H4 hj ⟨rs, z, e4, c4, l4, hrl, hok, rfl⟩
      have R4 := R.to e4 c4
      have hnmb : nm rs ≤ rs.length := by
        have : ∀ (k : Nat), k ≤ rs.length → nm (rs.take k) ≤ k := fun k => by
          induction k with
          | zero => intro _; simp [nm]
          | succ k ih =>
            intro hk
            have h1 := ih (by omega)
            have hx : rs[k]? = some rs[k] := List.getElem?_eq_getElem (by omega)
            have h2 := hok k _ hx
            rw [nm_succ hx]
            omega
        have h := this rs.length (Nat.le_refl _)
        rwa [List.take_length] at h
      refine m_appQ (ev_var rfl) l4 fun H5 e5 => m_call (ea_cons (ev_var rfl) (ea_cons (ev_succ (n := nm rs) (ev_var rfl)) ea_nil)) fun H6 e6 => ?_
      refine ⟨r, s, ns, nm rs + 1, rfl, R4.up (e5.trans e6), by omega, by omega, fun x H7 hx R7 e7 => ?_⟩
      have l7 : H7 l = some (.lst (nV rs)) := e7 _ _ (by rw [rem_ne hlr]; exact (e5.trans e6) _ _ l4)
      refine ⟨l, nV rs, _, rfl, rfl, l7, sz_lt (by rw [nV_len]; omega), ?_⟩
      have e07 : Ex (rem H r) H7 := Ex.past (e4.trans (e5.trans e6)) rem_eq e7
      have e08 : Ex (rem H r) (upd H7 l (.lst (nV rs ++ [.int (x : Nat)]))) := Ex.mut e07 hl0
      have c8 : RowC (upd H7 l (.lst (nV rs ++ [.int (x : Nat)]))) r s := by
        obtain ⟨a', b', c', h1, h2⟩ := R7.c
        exact ⟨a', b', c', by rw [upd_ne hlr.symm]; exact h1, h2⟩
      have l8 : upd H7 l (.lst (nV rs ++ [.int (x : Nat)])) l = some (.lst (nV (rs ++ [x]))) := by rw [upd_same, nV_app]; rfl
      generalize upd H7 l (.lst (nV rs ++ [.int (x : Nat)])) = H8 at e08 c8 l8 ⊢
      have hlast : atI (nV (rs ++ [x])) (-1) = some (.int (x : Nat)) := by
        rw [nV_app]
        unfold atI ixN
        simp [nV]
        rw [if_pos (by omega)]
        show (List.map (fun (x : Nat) => V.int (x : Nat)) rs ++ [V.int (x : Nat)])[(-1 + ((rs.length : Int) + 1)).toNat]? = _
        rw [show (-1 + ((rs.length : Int) + 1)).toNat = rs.length by omega, List.getElem?_append_right (by rw [List.length_map]; exact Nat.le_refl _)]
        simp
      have hmax : ((nm (rs ++ [x]) : Nat) : Int) = (if (nm rs : Int) < (x : Int) + 1 then (x : Int) + 1 else (nm rs : Int)) := by
        rw [nm_app]
        split <;> omega
      refine s_asg (v := .int ((nm (rs ++ [x]) : Nat) : Int)) (by rw [hmax]; exact ev_max2 (ev_var rfl) (ev_i0 (ev_ixL (ev_var rfl) (ev_neg ev_c) (sq_of l8) hlast) ev_c)) fun H9 e9 => ?_
      exact ⟨rs ++ [x], some (.int (j : Int)), e08.trans e9, c8.up e9, e9 _ _ l8, by simp [hrl], rowsOk_app hok (by omega), rfl⟩
    · rintro σ H4 ⟨rs, z, e4, c4, l4, hrl, hok, rfl⟩
      have hrn : rs.length = n + 1 := by rw [hrl]; omega
      have R4 := R.to e4 c4
      -- the fades
      refine m_retTup ?_
      refine m_consTplLc ?_
      refine ⟨_, rfl, ((n + 1 : Nat) : Int), rfl, by omega, by omega, fun D hD => lc_range (lo := 0) (n := n + 1) (fun i H' => ∃ fs : List Nat, Ex (rem H4 r) H' ∧ RowC H' r s ∧ H' D = some (.lst (nV fs)) ∧ fs.length = i ∧ ∀ x ∈ fs, 1 ≤ x ∧ x ≤ fd) ⟨[], rem_ex.trans (Ex.new hD), R4.c.up (Ex.new hD), upd_same, rfl, by simp⟩ ?_ ?_⟩
      · have hDr : D ≠ r := by
          obtain ⟨ys, hys⟩ := R4.lst
          exact (ne_of_none hys hD).symm
        rintro i H5 hi ⟨fs, e5, c5, h5, hfl, hfs⟩
        have R5 := R4.to e5 c5
        refine ⟨rfl, ?_⟩
        refine yes_lc ?_
        rw [if_pos rfl]
        refine m_op ev_c fun H6 e6 => m_call (ea_cons (ev_var rfl) (ea_cons (ev_var rfl) ea_nil)) fun H7 e7 => ?_
        refine ⟨r, s, ns, fd, rfl, R5.up (e6.trans e7), hf0, by omega, fun x H8 hx R8 e8 => ?_⟩
        have h8 : H8 D = some (.lst (nV fs)) := e8 _ _ (by rw [rem_ne hDr]; exact (e6.trans e7) _ _ h5)
        have e48 : Ex (rem H4 r) H8 := Ex.past (e5.trans (e6.trans e7)) rem_eq e8
        refine ⟨_, _, rfl, rfl, nV fs, h8, sz_lt (by rw [nV_len]; omega), fs ++ [x + 1], ?_, ?_, ?_, by simp [hfl], ?_⟩
        · exact Ex.mut e48 (by rw [rem_ne hDr]; exact hD)
        · obtain ⟨a', b', c', h1, h2⟩ := R8.c
          exact ⟨a', b', c', by rw [upd_ne hDr.symm]; exact h1, h2⟩
        · rw [upd_same, nV_app]
          have : (1 : Int) + (x : Int) = ((x + 1 : Nat) : Int) := by omega
          show some (HO.lst (nV fs ++ [V.int ((1 : Int) + (x : Int))])) = _
          rw [this]
          rfl
        · intro y hy
          rcases List.mem_append.mp hy with hy | hy
          · exact hfs y hy
          · rw [List.mem_singleton.mp hy]
            omega
      · rintro H5 ⟨fs, e5, c5, h5, hfl, hfs⟩
        have R5 := R4.to e5 c5
        have l5 : H5 l = some (.lst (nV rs)) := e5 _ _ (by rw [rem_ne hlr]; exact l4)
        refine ⟨D, nV fs, rfl, .inl ⟨sq_of h5, fun a ha => ?_⟩⟩
        have ea := Ex.new (o := .tup (nV fs)) ha
        refine ⟨_, rfl, l, nV rs, rfl, .inl ⟨sq_of (ea _ _ l5), fun b hb => ?_⟩⟩
        have eb := Ex.new (o := .tup (nV rs)) hb
        refine ⟨by show 2 ≤ sizeLine; rw [sizeLine_eq]; decide, fun m hm => ?_⟩
        have em := Ex.new (o := .tup [.ref a, .ref b]) hm
        refine k m fs rs _ ⟨a, b, st_of upd_same, st_of (em _ _ (eb _ _ upd_same)), st_of (em _ _ upd_same)⟩ ⟨by omega, by omega, by omega, fun x hx => ⟨(hfs x hx).1, by have := (hfs x hx).2; omega⟩, hok⟩ (by omega) (R5.up (ea.trans (eb.trans em))) ?_
        exact (Ex.past e4 rem_eq e5).trans (ea.trans (eb.trans em))
end
end Fm
set_option Elab.async false
set_option linter.all false
set_option maxRecDepth 100000
set_option maxHeartbeats 1000000
namespace Fm
open PySem L2 Evl TL RZ
--RET {'words_of':('list','str'),'are_plain_digits':'bool','number_told':'any','numbers_behind':('tuple','int'),'lines_with_words':('list',('tuple','any')),'limits_behind':('tuple',('tuple','int'))}
section
variable {P : Program} {w : World} {K : PySem.W.Frag} {mg : Str → Option Value} {base : Heap} {k : Nat} {f : Addr} {fd : FuncData} {ps : List Str} {sp sp' : Sp}
/-- a def that raises nothing, called where something may be raised -/
theorem FnOk.lift (F : FnOk P w K mg base CX0 k f fd ps sp) : FnOk P w K mg base (L2.CX P w) k f fd ps sp :=
  ⟨F.len, fun A outer s H args us vs Q E hr e0 hb r h => codeAny_mono (F.run A outer s H args us vs Q E hr e0 hb r h) fun r s' hq => by
    cases r with
    | ok u => cases u <;> exact hq
    | error e => exact False.elim hq⟩
/-- where it raises nothing -/
theorem FnOk.low (F : FnOk P w K mg base (L2.CX P w) k f fd ps sp) : FnOk P w K mg base CX0 k f fd ps (fun vs H Q _ => sp vs H Q fun _ _ _ => False) :=
  ⟨fun vs H Q E h => F.len vs H Q _ h, fun A outer s H args us vs Q E hr e0 hb r h => codeAny_mono (F.run A outer s H args us vs Q _ hr e0 hb r h) fun r s' hq => by
    cases r with
    | ok u => cases u <;> exact hq
    | error e =>
      obtain ⟨_, _, _, _, _, _, _, _, _, _, _, _, z⟩ := hq
      exact z⟩
theorem FnOk.orX (F : FnOk P w K mg base CX0 k f fd ps sp) (F' : FnOk P w K mg base (L2.CX P w) k f fd ps sp') : FnOk P w K mg base (L2.CX P w) k f fd ps (fun vs H Q E => sp vs H Q E ∨ sp' vs H Q E) :=
  ⟨fun vs H Q E h => h.elim (F.len vs H Q E) (F'.len vs H Q E), fun A outer s H args us vs Q E hr e b v h => h.elim ((FnOk.lift F).run A outer s H args us vs Q E hr e b v) (F'.run A outer s H args us vs Q E hr e b v)⟩
end
/-! machines as texts -/
def numT (n : Nat) : Str := Str.ofString (toString ((n : Nat) : Int))
def rowLine (f r : Nat) : Str := Str.empty ++ "cell " ++ numT f ++ " " ++ numT r
def mLines (fs rs : List Nat) : List Str := (List.range fs.length).map fun i => rowLine (fs.getD i 0) (rs.getD i 0)
def mText (fs rs : List Nat) : Str := Txt.join "\n" (mLines fs rs)
def spWm (K : PySem.W.Frag) : Sp := fun vs H Q _ => ∃ (m : Addr) (fs rs : List Nat), vs = [.ref m] ∧ MaT K H m fs rs ∧ MaOk fs rs ∧ ∀ H', Ex H H' → Q (.str (mText fs rs)) H'
def spStr : Sp := fun vs H Q _ => ∃ z : Str, vs = [.str z] ∧ ∀ H', Ex H H' → Q .non H'
theorem row_lt : ∀ {rs : List Nat} {i r : Nat}, RowsOk rs → rs[i]? = some r → r ≤ i := fun {rs i r} h hi => by
  have h1 := h i r hi
  have key : ∀ l : List Nat, (∀ j x, l[j]? = some x → x ≤ nm (l.take j)) → nm l ≤ l.length := by
    intro l
    refine rev_ind (P := fun l => (∀ j x, l[j]? = some x → x ≤ nm (l.take j)) → nm l ≤ l.length) ?_ ?_ l
    · intro _; exact Nat.le_refl _
    · intro l x ih h
      rw [nm_app, List.length_append]
      have h2 := h l.length x (by rw [List.getElem?_append_right (Nat.le_refl _), Nat.sub_self]; rfl)
      rw [List.take_left'] at h2
      · have h3 := ih fun j y hy => by
          have hj : j < l.length := (List.getElem?_eq_some_iff.mp hy).1
          have := h j y (by rw [List.getElem?_append_left hj]; exact hy)
          rwa [List.take_append_of_le_length (by omega)] at this
        show max (nm l) (x + 1) ≤ l.length + 1
        omega
      · rfl
  have h3 := key (rs.take i) fun j x hx => by
    have hj : j < i := by
      have := (List.getElem?_eq_some_iff.mp hx).1
      rw [List.length_take] at this
      omega
    have := h j x (by rw [List.getElem?_take_of_lt hj] at hx; exact hx)
    rwa [List.take_take, Nat.min_eq_left (by omega)]
  rw [List.length_take] at h3
  omega
theorem numT_len {n : Nat} (h : n ≤ 1000000) : (numT n).length ≤ 10000 := text_len (by omega) (by omega)
theorem numT_len7 {n : Nat} (h : n < 10000000) : (numT n).length ≤ 7 := by
  rw [len_tl]
  show (tl (Str.ofString (toString ((n : Nat) : Int)))).length ≤ 7
  rw [tl_num]
  exact numL_len (by decide) h
theorem strLen (a b : Str) : (a ++ b).length = a.length + b.length := Array.size_append
theorem rowLine_len {f r : Nat} (h1 : f < 10000000) (h2 : r < 10000000) : (rowLine f r).length ≤ 20 := by
  unfold rowLine
  rw [strLen, strLen, strLen, strLen]
  have a := numT_len7 h1
  have b := numT_len7 h2
  have e1 : ("cell " : Str).length = 5 := by decide +kernel
  have e2 : (" " : Str).length = 1 := by decide +kernel
  have e3 : (Str.empty).length = 0 := rfl
  omega
section
variable {K : PySem.W.Frag} {σ : L2.St} {H : Hp} {ta tb te tl' : TE} {tr tA : TA} {Q : VK} {D : Ends} {tz tu : TS} {g : TG} {sp : Sp} {E : XK} {W : L2.St → XK}
theorem walk_zipTT {K : PySem.W.Frag} {a b : Addr} {xs ys : List V} (hn : xs.length = ys.length) : Walk (ItzT K a b) xs.length (fun H => SqT K H a xs ∧ SqT K H b ys) (YPair (fun i => xs[i]?) (fun i => ys[i]?)) := by
  refine ⟨fun i H hi q => ⟨xs, ys, xs[i], ys[i]'(hn ▸ hi), q.1, q.2, by simp [hi], by simp [hn ▸ hi]⟩, fun H q => ⟨xs, ys, q.1, q.2, .inl (Nat.le_refl _)⟩, fun i H v H' _ q y => ?_⟩
  obtain ⟨T, x, z, h1, h2, h3, h4, h5⟩ := y
  exact ⟨T, x, z, h1, h2, h3, h4 xs q.1, h5 ys q.2⟩
theorem el_lcZA {a b : Addr} {xs ys : List V} {i j : Nat} {vs : List Nat} {f : Nat → V} (ha : EvA tA σ H [.ref a, .ref b]) (hx : SqT K H a xs) (hy : SqT K H b ys) (hl : xs.length = ys.length) (hw : ∀ x y, wipe (((wipe σ vs).set i x).set j y) vs = wipe σ vs) (hz : xs.length ≤ 50000)
    (he : ∀ (m : Nat) (x y : V) H', xs[m]? = some x → ys[m]? = some y → Ex H H' → Ev te (((wipe σ vs).set i (some x)).set j (some y)) H' (f m)) : EvL (tLc (iZipA K tA) (gTup K 2 (gCons (gName i) (gCons (gName j) gNil))) tYes te vs) σ H ((List.range xs.length).map f) := fun H1 e1 Q q =>
  ha H1 e1 _ fun H2 e2 => ⟨a, b, xs, ys, rfl, .inr ⟨ex_t (e1.trans e2) hx, ex_t (e1.trans e2) hy, fun D hD => lc_it (walk_zipTT hl) (fun m H' => Ex H2 H' ∧ H' D = some (.lst ((List.range m).map f)))
    ⟨Ex.new hD, upd_same⟩ (fun m H' _ h => ⟨ex_t ((e1.trans e2).trans h.1) hx, ex_t ((e1.trans e2).trans h.1) hy⟩) (fun m v H3 H4 hm h y => by
      obtain ⟨e3, h3⟩ := h
      obtain ⟨T, x, y', rfl, hT, rfl, hx1, hy1⟩ := y
      have eT := Ex.new (o := .tup [x, y']) hT
      refine ⟨T, _, rfl, st_of upd_same, rfl, _, _, rfl, ⟨_, _, rfl, ⟨rfl, ?_⟩⟩⟩
      refine ⟨hw _ _, ?_⟩
      refine yes_lcT ?_
      rw [if_pos rfl]
      refine (he m x y' _ hx1 hy1 (((e1.trans e2).trans e3).trans eT)) _ (Ex.refl _) _ fun H5 e5 => ?_
      refine ⟨_, e5 _ _ (eT _ _ h3), sz_lt (by rw [List.length_map, List.length_range]; omega), Ex.mut ((e3.trans eT).trans e5) hD, ?_⟩
      rw [upd_same, List.range_succ, List.map_append]
      rfl) (fun H3 h => q D H3 (fresh_back e2 hD) (e2.trans h.1) h.2)⟩⟩
/-- sep.join(a new list of texts) -/
theorem ev_joinN {z : Str} {ys : List Str} (ha : Ev ta σ H (.str z)) (hb : EvL tb σ H (ys.map V.str)) (hz : (ys.map (·.length)).sum + ys.length * z.length ≤ 16777216) : Ev (tBM K "str" (rJoin K) ta (tCons tb tNil)) σ H (.str (Txt.join z ys)) := fun H1 e Q q =>
  ha H1 e _ fun H2 e2 => ⟨rfl, hb H2 (e.trans e2) _ fun p H3 _ e3 h3 => ⟨z, p, ys, rfl, rfl, .inl (sq_of h3), hz, q H3 (e2.trans e3)⟩⟩
theorem sum_le {c : Nat} : ∀ (l : List Nat), (∀ x ∈ l, x ≤ c) → l.sum ≤ l.length * c
  | [], _ => Nat.zero_le _
  | x :: l, h => by
    have h1 := sum_le l fun y hy => h y (List.mem_cons_of_mem _ hy)
    have h2 := h x (List.mem_cons_self ..)
    rw [List.sum_cons, List.length_cons, Nat.add_mul]
    omega
theorem ev_fmtN {n : Nat} (h : Ev te σ H (.int (n : Nat))) (hn : n ≤ 1000000) : Ev (tFmt te) σ H (.str (numT n)) := fun H1 e Q q => h H1 e _ fun H2 e2 => .inr ⟨_, rfl, log_small (by omega) (by omega), q H2 e2⟩
end
section
variable {P : Program} {w : World} {K : PySem.W.Frag} {mg : Str → Option Value} {base : Heap}
abbrev s_check_string : Stmt := top 26
theorem sc_check_string : FnScope ["value"] ["value"] (defScope s_check_string) := ⟨rfl, rfl, rfl, by decide +kernel, rfl, by decide +kernel, by decide +kernel⟩
--TY check_string {'value':'any'}
theorem ok_check_string {f : Addr} {fd : FuncData} (F : Fun K "check_string" "check_string" s_check_string f fd) (T : Txt K mg) : FnOk P w K mg base CX0 1 f fd ["value"] spStr := by
  refine F.ok sc_check_string (fun vs H Q E h => ?_) (fun cdv A outer s H vs Q E hr h => ?_)
  · obtain ⟨_, rfl, _⟩ := h
    rfl
  · obtain ⟨z, rfl, k⟩ := h
    refine ⟨_, (pss_one (ps_if (pt_not (pt_val (pe_callB (isi_K (K := K) rfl) (by rfl) T.z_isinstance (by decide +kernel) (pa_cons (pv 0) (pa_cons (pe_bltn (v := .ty "str") (by rfl) T.z_str (by decide +kernel) rfl) pa_nil))))) (pss_one ps_never) pss_nil)), ?_⟩
    exact s_when (b := false) (et_not (a := true) (et_B (ev_isi (ev_var rfl) (.base (.str z)) (by decide +kernel)))) (fun z => nomatch z) fun _ H1 e1 => k H1 e1
abbrev s_write_machine : Stmt := top 36
theorem sc_write_machine : FnScope ["machine", "fade", "row"] ["machine"] (defScope s_write_machine) := ⟨rfl, rfl, rfl, by decide +kernel, rfl, by decide +kernel, by decide +kernel⟩
--TY write_machine {'machine':('tuple',('tuple','int')),'fade':'int','row':'int'}
theorem ok_write_machine {f f1 : Addr} {fd fd1 : FuncData} (F : Fun K "write_machine" "write_machine" s_write_machine f fd) (T : Txt K mg) (C_check_machine : Cal P w K mg base CX0 4 "check_machine" f1 fd1 ["value"] (spChkMa K)) : FnOk P w K mg base CX0 5 f fd ["machine"] (spWm K) := by
  refine F.ok sc_write_machine (fun vs H Q E h => ?_) (fun cdv A outer s H vs Q E hr h => ?_)
  · obtain ⟨_, _, _, rfl, _⟩ := h
    rfl
  · obtain ⟨m, fs, rs, rfl, hm, hok, k⟩ := h
    refine ⟨_, (pss_cons (ps_expr (pe_call C_check_machine.G (hr.mono (by first | decide | omega)) rfl C_check_machine.g C_check_machine.kp C_check_machine.b .nil pass0 (pa_cons (pv 0) pa_nil)))
  (pss_one (ps_ret (pe_bmK (K := K) rfl PySem.F.plainAttrs_str PySem.F.slot_str_join PySem.F.type_str_join (mt_joinK (K := K) rfl) (pe_glob (v := .str "\n") rfl T.c_LINE_END.choose_spec ⟨_, rfl⟩) (pa_cons (pe_lc (own := [("fade", 1), ("row", 2)]) (g := gTup K 2 (gCons (gName 1) (gCons (gName 2) gNil))) rfl sc_write_machine.nd (pi_zipA (by rfl) T.z_zip (pa_cons (pe_ix (ix_K (K := K) rfl) (pv 0) pe_int (fun _ _ => rfl)) (pa_cons (pe_ix (ix_K (K := K) rfl) (pv 0) pe_int (fun _ _ => rfl)) pa_nil))) (blkOk_by (by kernel_rfl)) (fun _ _ _ _ _ => pg_tupK (K := K) rfl rfl (pgs_cons (pg_name (i := 1) sc_write_machine.nd rfl (by first | exact Or.inl rfl | exact Or.inr rfl)) (pgs_cons (pg_name (i := 2) sc_write_machine.nd rfl (by first | exact Or.inl rfl | exact Or.inr rfl)) pgs_nil))) (fun _ _ _ _ _ => pts_nil) (fun _ _ _ _ _ => (pe_joined (PJ.cons pe_str (PJ.cons (pe_fmt (pv 1)) (PJ.cons pe_str (PJ.cons (pe_fmt (pv 2)) PJ.nil))))))) pa_nil))))), ?_⟩
    refine q_call (ea_cons (ev_var rfl) ea_nil) fun H1 e1 => ⟨m, fs, rs, rfl, hm.up e1, hok, fun H2 e2 => ?_⟩
    obtain ⟨fa, ra, h0, hfa, hra⟩ := hm.up (e1.trans e2)
    have hl4 := hok.l4
    have hll := hok.ll
    have hb : ∀ i, i < fs.length → fs.getD i 0 < 10 ∧ rs.getD i 0 < 10 := fun i hi => by
      have q1 := (hok.f (fs.getD i 0) (by rw [List.getD_eq_getElem?_getD, List.getElem?_eq_getElem hi]; exact List.getElem_mem _)).2
      have q2 := row_lt hok.r (i := i) (r := rs.getD i 0) (by rw [List.getElem?_eq_getElem (by omega), List.getD_eq_getElem?_getD, List.getElem?_eq_getElem (by omega)]; rfl)
      omega
    have hlen : (mLines fs rs).length = fs.length := by unfold mLines; rw [List.length_map, List.length_range]
    refine s_ret (v := .str (mText fs rs)) (ev_joinN ev_c ?_ ?_) fun H3 e3 => k H3 ((e1.trans e2).trans e3)
    · have e : (mLines fs rs).map V.str = (List.range (nV fs).length).map fun i => V.str (rowLine (fs.getD i 0) (rs.getD i 0)) := by unfold mLines; rw [List.map_map, nV_len]; rfl
      rw [e]
      refine el_lcZA (ea_cons (ev_ixT (ev_var rfl) ev_c h0 rfl) (ea_cons (ev_ixT (ev_var rfl) ev_c h0 rfl) ea_nil)) hfa hra (by rw [nV_len, nV_len]; exact hll) (fun x y => rfl) (by rw [nV_len]; omega) (fun i x y H3 hx hy e3 => ?_)
      obtain ⟨u, hu, rfl⟩ := nV_get hx
      obtain ⟨v, hv, rfl⟩ := nV_get hy
      have hi : i < fs.length := (List.getElem?_eq_some_iff.mp hu).1
      have hq := hb i hi
      have eu : fs.getD i 0 = u := by rw [List.getD_eq_getElem?_getD, hu]; rfl
      have ev' : rs.getD i 0 = v := by rw [List.getD_eq_getElem?_getD, hv]; rfl
      rw [eu, ev'] at hq ⊢
      have a1 := numT_len (n := u) (by omega)
      have a2 := numT_len (n := v) (by omega)
      have z1 : (Str.empty ++ ("cell " : Str)).length = 5 := by decide +kernel
      have z2 : (" " : Str).length = 1 := by decide +kernel
      refine fun H4 e4 Q' q => ⟨_, rfl, by rw [z1, sizeLine_eq]; decide, ?_⟩
      refine (ev_fmtN (ev_var rfl) (by omega)) H4 e4 _ fun H5 e5 => ⟨_, rfl, by rw [strLen, z1, sizeLine_eq]; omega, ?_⟩
      refine ⟨_, rfl, by rw [strLen, strLen, z1, z2, sizeLine_eq]; omega, ?_⟩
      refine (ev_fmtN (ev_var rfl) (by omega)) H5 (e4.trans e5) _ fun H6 e6 => ⟨_, rfl, by rw [strLen, strLen, strLen, z1, z2, sizeLine_eq]; omega, ?_⟩
      exact q H6 (e5.trans e6)
    · have h1 : ((mLines fs rs).map (·.length)).sum ≤ (mLines fs rs).length * 20 := by
        have := sum_le (c := 20) ((mLines fs rs).map (·.length)) fun x hx => by
          obtain ⟨y, hy, rfl⟩ := List.mem_map.mp hx
          unfold mLines at hy
          obtain ⟨i, hi, rfl⟩ := List.mem_map.mp hy
          have := hb i (List.mem_range.mp hi)
          exact rowLine_len (by omega) (by omega)
        rwa [List.length_map] at this
      have e1 : ("\n" : Str).length = 1 := by decide +kernel
      rw [e1]
      omega
end
end Fm
set_option Elab.async false
set_option linter.all false
set_option maxRecDepth 100000
set_option maxHeartbeats 1000000
namespace Fm
open PySem L2 Evl TL RZ
--RET {'words_of':('list','str'),'are_plain_digits':'bool','number_told':'any','numbers_behind':('tuple','int'),'lines_with_words':('list',('tuple','any')),'limits_behind':('tuple',('tuple','int'))}
/-! the numbers of a line -/
def nbF (ws : List Str) (lm : List (Int × Int)) : Except Nat (List Int) := match (List.range lm.length).find? fun i => (numAt ws lm i).isNone with
  | some i => .error (i + 2)
  | none => if ws.length ≤ lm.length + 1 then .ok ((List.range lm.length).map fun i => (numAt ws lm i).getD 0) else .error (lm.length + 2)
theorem nbF_ok {ws : List Str} {lm : List (Int × Int)} {ns : List Int} (h : nbF ws lm = .ok ns) : OkN ws lm ns := by
  unfold nbF at h
  split at h
  · cases h
  · rename_i hn
    split at h
    · rename_i hw
      cases h
      refine ⟨by rw [List.length_map, List.length_range], fun i hi => ?_, hw⟩
      have := List.find?_eq_none.mp hn i (List.mem_range.mpr hi)
      rw [List.getD_eq_getElem?_getD, List.getElem?_map, List.getElem?_range hi]
      show _ = some ((numAt ws lm i).getD 0)
      cases q : numAt ws lm i with
      | none => rw [q] at this; exact absurd rfl this
      | some n => rfl
    · cases h
theorem nbF_bad {ws : List Str} {lm : List (Int × Int)} {p : Nat} (h : nbF ws lm = .error p) : BadN ws lm p := by
  unfold nbF at h
  split at h
  · rename_i i hf
    cases h
    have h1 := List.find?_some hf
    have h2 := List.mem_of_find?_eq_some hf
    refine .inl ⟨i, List.mem_range.mp h2, rfl, by simpa using h1, fun j hj => ?_⟩
    obtain ⟨_, as, bs, e, hb⟩ := List.find?_eq_some_iff_append.mp hf
    have hjm : j ∈ as := by
      have hi := List.mem_range.mp h2
      have hlen : as.length = i := by
        have e2 : (List.range lm.length)[as.length]? = some i := by rw [e, List.getElem?_append_right (Nat.le_refl _), Nat.sub_self]; rfl
        have hl : as.length < lm.length := by
          have := congrArg List.length e
          rw [List.length_range, List.length_append, List.length_cons] at this
          omega
        rw [List.getElem?_range hl] at e2
        exact Option.some.inj e2
      have e3 : (List.range lm.length)[j]? = as[j]? := by rw [e, List.getElem?_append_left (by omega)]
      rw [List.getElem?_range (by omega)] at e3
      exact List.mem_of_getElem? e3.symm
    have := hb j hjm
    intro z
    rw [z] at this
    exact absurd this (by decide)
  · rename_i hn
    split at h
    · cases h
    · rename_i hw
      cases h
      refine .inr ⟨rfl, fun j hj z => ?_, by omega⟩
      have := List.find?_eq_none.mp hn j (List.mem_range.mpr hj)
      rw [z] at this
      exact this rfl
/-- what reading a machine tells: the machine, or the line and the word -/
def rdGo : List (Nat × List Str) → List Nat → List Nat → Except (Nat × Nat) (List Nat × List Nat)
  | [], fs, rs => .ok (fs, rs)
  | (ln, ws) :: ps, fs, rs => if ws.getD 0 "" ≠ "cell" ∨ fs.length = 4 then .error (ln, 1) else match nbF ws [(1, 8), (0, (dist (rs.map fun (x : Nat) => (x : Int)) : Nat))] with
    | .error p => .error (ln, p)
    | .ok ns => rdGo ps (fs ++ [(ns.getD 0 0).toNat]) (rs ++ [(ns.getD 1 0).toNat])
def rdM (text : Str) : Except (Nat × Nat) (List Nat × List Nat) := if lwOf text = [] then .error ((Txt.split text "\n").length + 1, 1) else rdGo (lwOf text) [] []
def Told (K : PySem.W.Frag) (CBL : Addr) (R : Except (Nat × Nat) (List Nat × List Nat)) (H : Hp) (Q : VK) (E : XK) : Prop := match R with
  | .ok (fs, rs) => ∀ m H', Ex H H' → MaT K H' m fs rs → Q (.ref m) H'
  | .error (l, p) => ∀ d H', Ex H H' → H' d = some (.xd [(("line" : Str), .int (l : Nat)), ("place", .int (p : Nat))]) → E (.ref CBL) (some d) H'
def spRm (K : PySem.W.Frag) (CBL : Addr) : Sp := fun vs H Q E => ∃ text : Str, vs = [.str text] ∧ text.length ≤ 40000 ∧ Told K CBL (rdM text) H Q E
theorem numR_in {w : Str} {lo hi n : Int} (h : numR w lo hi = some n) : lo ≤ n ∧ n ≤ hi := by
  unfold numR at h
  cases q : numS w with
  | none => rw [q] at h; cases h
  | some m =>
    rw [q] at h
    have h : (if lo ≤ m ∧ m ≤ hi then some m else none) = some n := h
    split at h
    · cases h; assumption
    · cases h
theorem lw_words {text : Str} {p : Nat × List Str} (hp : p ∈ lwOf text) : (∀ w ∈ p.2, w.length ≤ text.length) ∧ p.2 ≠ [] ∧ p.1 ≤ (Txt.split text "\n").length := by
  unfold lwOf pairsOf at hp
  obtain ⟨h1, h2⟩ := List.mem_filter.mp hp
  obtain ⟨i, hi, rfl⟩ := List.mem_map.mp h1
  have hi := List.mem_range.mp hi
  refine ⟨fun w hw => ?_, fun z => ?_, by show i + 1 ≤ _; omega⟩
  · have hl : (Txt.split text "\n").getD i "" ∈ Txt.split text "\n" := by
      rw [List.getD_eq_getElem?_getD, List.getElem?_eq_getElem hi]
      exact List.getElem_mem _
    have a1 := split_mem (by decide +kernel) (by decide +kernel) hl
    have a2 := split_mem (by decide +kernel) (by decide +kernel) (List.mem_filter.mp hw).1
    omega
  · have z : wordsS ((Txt.split text "\n").getD i "") = [] := z
    have h3 : (!(wordsS ((Txt.split text "\n").getD i "")).isEmpty) = true := h2
    rw [z] at h3
    cases h3
theorem dist_le (ns : List Int) : dist ns ≤ ns.length := PyProof.Rows.firstMet_length_le _ _
section
variable {K : PySem.W.Frag} {σ : L2.St} {H : Hp} {ta tb te tl' : TE} {tr tA : TA} {Q : VK} {D : Ends} {tz tu : TS} {g : TG} {sp : Sp} {E : XK} {W : L2.St → XK}
def ForLx (K : PySem.W.Frag) (g : TG) (tu : TS) (D : Ends) (a : Addr) (σ : L2.St) (H : Hp) : Prop := ∃ W : Nat → Nat → L2.St → Hp → Prop, (∃ m, W 0 m σ H) ∧ ∀ i m σ H, W i m σ H →
  ((Itl K a).stop i H ∧ D.nx σ H) ∨ ((Itl K a).go i H ∧ ∃ N : L2.St → Hp → Prop, (∀ σ' H', N σ' H' → ∃ m', m' < m ∧ W (i + 1) m' σ' H') ∧ ∀ x H', (Itl K a).yld i H x H' → g x σ H' fun σ2 H2 => tu { D with nx := N, ct := N, bk := D.nx } σ2 H2)
theorem forLx_of {a : Addr} {xs : List V} (Pv : Nat → L2.St → Hp → Prop) (h0 : Pv 0 σ H) (hl : ∀ i σ H, i ≤ xs.length → Pv i σ H → SqL K H a xs)
    (hs : ∀ i x σ H, xs[i]? = some x → Pv i σ H → g x σ H fun σ2 H2 => tu { D with nx := Pv (i + 1), ct := Pv (i + 1), bk := D.nx } σ2 H2) (hd : ∀ σ H, Pv xs.length σ H → D.nx σ H) : ForLx K g tu D a σ H := for_list Pv h0 hl hs hd
theorem q_forCallS {vs : List V} (hA : EvA tA σ H vs) (h : ∀ H1, Ex H H1 → sp vs H1 (fun x H2 => ∃ a, x = .ref a ∧ (∃ xs, SqL K H2 a xs) ∧ ForLx K g tu { D with nx := tz D } a σ H2) (W σ)) : tSeq (tFor (iList K (tCallS sp W tA)) g tu) tz D σ H := hA H (Ex.refl H) _ h
theorem q_unpS {g : TG} (h : tA σ H fun vs H1 => sp vs H1 (fun v H2 => g v σ H2 fun σ3 H3 => tz D σ3 H3) (W σ)) : tSeq (tAsg (tCallS sp W tA) g) tz D σ H := h
theorem m_consUU {vs : List V} {Q : List V → Hp → Prop} (h : EvU te σ H vs) (k : ∀ p H1, H p = none → Ex H H1 → H1 p = some (.tup vs) → tr σ H1 fun xs H2 => Q (.ref p :: xs) H2) : tCons te tr σ H Q := h H (Ex.refl H) _ k
theorem ev_lenSet {l : Addr} {ns : List Int} (ha : Ev te σ H (.ref l)) (hl : SqL K H l (ns.map V.int)) (hz : ns.length < 64) : Ev (tLenSetF K te) σ H (.int (dist ns : Nat)) := fun H1 e Q q => ha H1 e _ fun H2 e2 => ⟨l, ns, rfl, ex_l (e.trans e2) hl, hz, q H2 e2⟩
theorem m_ret (h : te σ H D.rt) : tRet te D σ H := h
end
section
variable {P : Program} {w : World} {K : PySem.W.Frag} {mg : Str → Option Value} {base : Heap}
abbrev s_read_machine : Stmt := top 37
theorem sc_read_machine : FnScope ["text", "fades", "rows", "line", "words", "fade", "row"] ["text"] (defScope s_read_machine) := ⟨rfl, rfl, rfl, by decide +kernel, rfl, by decide +kernel, by decide +kernel⟩
--TY read_machine {'text':'str','fades':('list','int'),'rows':('list','int'),'line':'int','words':('list','str'),'fade':'int','row':'int','@over':{'X':1,'S':['lines_with_words','numbers_behind'],'raise':{'BadLine':'sup'}}}
theorem okX_read_machine {f f1 f2 f3 CBL fI cc cda : Addr} {fd fd1 fd2 fd3 : FuncData} (F : Fun K "read_machine" "read_machine" s_read_machine f fd) (T : Txt K mg) (T_BadLine : NS_BadLine.Ty P K mg CBL fI cc cda) (C_check_string : Cal P w K mg base CX0 1 "check_string" f1 fd1 ["value"] spStr)
    (C_lines_with_wordsX : Cal P w K mg base (L2.CX P w) 2 "lines_with_words" f2 fd2 ["text"] (fun vs H Q E => spLw K vs H Q E ∨ spLwX CBL vs H Q E)) (C_numbers_behindX : Cal P w K mg base (L2.CX P w) 3 "numbers_behind" f3 fd3 ["line", "words", "limits"] (fun vs H Q E => spNb K vs H Q E ∨ spNbX K CBL vs H Q E)) : FnOk P w K mg base (L2.CX P w) 4 f fd ["text"] (spRm K CBL) := by
  refine F.okX sc_read_machine (fun vs H Q E h => ?_) (fun cdv A outer s H vs Q E hr h => ?_)
  · obtain ⟨_, rfl, _⟩ := h
    rfl
  · obtain ⟨z, rfl, hz, k⟩ := h
    refine ⟨_, (pss_cons (ps_expr (pe_call C_check_string.G (hr.mono (by first | decide | omega)) rfl C_check_string.g C_check_string.kp C_check_string.b .nil pass0 (pa_cons (pv 0) pa_nil)))
  (pss_cons (ps_set (i := 1) sc_read_machine.nd rfl (Or.inl rfl) (pe_lst pa_nil))
  (pss_cons (ps_set (i := 2) sc_read_machine.nd rfl (Or.inl rfl) (pe_lst pa_nil))
  (pss_cons (ps_for (passes_of rfl) rfl (pi_listK (K := K) rfl (pe_callS C_lines_with_wordsX.G (hr.mono (by first | decide | omega)) rfl C_lines_with_wordsX.g C_lines_with_wordsX.kp C_lines_with_wordsX.b (fun σ => passAt (takes_of rfl rfl rfl rfl) σ) (pa_cons (pv 0) pa_nil))) (pg_tup rfl (pgs_cons (pg_name (i := 3) sc_read_machine.nd rfl (by first | exact Or.inl rfl | exact Or.inr rfl)) (pgs_cons (pg_name (i := 4) sc_read_machine.nd rfl (by first | exact Or.inl rfl | exact Or.inr rfl)) pgs_nil))) (pss_cons (ps_if (PW.pt (pw_or (pt_cmpR op_ne (pe_ix (ix_K (K := K) rfl) (pv 4) pe_int (fun _ _ => rfl)) pe_str (nomark _)) (pw_or1 (pt_cmpR op_eq (pe_callB (len_K (K := K) rfl) (by rfl) T.z_len (by decide +kernel) (pa_cons (pv 1) pa_nil)) (pe_glob (v := .int 4) rfl T.c_MOST_CELLS.choose_spec ⟨_, rfl⟩) (nomark _))))) (pss_one (NS_BadLine.ps_raise_ rfl T_BadLine hr (takes_of rfl rfl rfl rfl) (pa_cons (pv 3) (pa_cons pe_int pa_nil)))) pss_nil)
  (pss_cons (ps_asg (pe_callS C_numbers_behindX.G (hr.mono (by first | decide | omega)) rfl C_numbers_behindX.g C_numbers_behindX.kp C_numbers_behindX.b (fun σ => passAt (takes_of rfl rfl rfl rfl) σ) (pa_cons (pv 3) (pa_cons (pv 4) (pa_cons (pe_tup (pa_cons (pe_tup (pa_cons pe_int (pa_cons (pe_glob (v := .int 8) rfl T.c_MOST_FADE.choose_spec ⟨_, rfl⟩) pa_nil))) (pa_cons (pe_tup (pa_cons pe_int (pa_cons (pe_lenSetF (K := K) rfl rfl (by rfl) T.z_len (by rfl) T.z_set (pv 2)) pa_nil))) pa_nil))) pa_nil)))) (pg_tup rfl (pgs_cons (pg_name (i := 5) sc_read_machine.nd rfl (by first | exact Or.inl rfl | exact Or.inr rfl)) (pgs_cons (pg_name (i := 6) sc_read_machine.nd rfl (by first | exact Or.inl rfl | exact Or.inr rfl)) pgs_nil))))
  (pss_cons (ps_expr (pe_bm PySem.F.plainAttrs_list PySem.F.slot_list_append PySem.F.type_list_append mt_append (pv 1) (pa_cons (pv 5) pa_nil)))
  (pss_one (ps_expr (pe_bm PySem.F.plainAttrs_list PySem.F.slot_list_append PySem.F.type_list_append mt_append (pv 2) (pa_cons (pv 6) pa_nil))))))))
  (pss_one (ps_ret (pe_tup (pa_cons (pe_callTy (tpl_K (K := K) rfl) (by rfl) T.z_tuple (by decide +kernel) (pa_cons (pv 1) pa_nil)) (pa_cons (pe_callTy (tpl_K (K := K) rfl) (by rfl) T.z_tuple (by decide +kernel) (pa_cons (pv 2) pa_nil)) pa_nil))))))))), ?_⟩
    refine q_call (ea_cons (ev_var rfl) ea_nil) fun H1 e1 => ⟨z, rfl, fun H2 e2 => ?_⟩
    refine q_asgL (xs := []) (el_lst ea_nil (by show 0 ≤ 100000; decide)) fun fl H3 hfl e3 h3 => ?_
    refine q_asgL (xs := []) (el_lst ea_nil (by show 0 ≤ 100000; decide)) fun rl H4 hrl e4 h4 => ?_
    have e04 := (e1.trans e2).trans (e3.trans e4)
    refine q_forCallS (ea_cons (ev_var rfl) ea_nil) fun H5 e5 => ?_
    by_cases hne : lwOf z = []
    · refine .inr ⟨z, rfl, hz, hne, fun d H6 e6 hd => ?_⟩
      unfold rdM at k
      rw [if_pos hne] at k
      exact k d H6 ((e04.trans e5).trans e6) hd
    · refine .inl ⟨z, rfl, hz, hne, fun l H6 e6 hl => ?_⟩
      unfold rdM at k
      rw [if_neg hne] at k
      have hsl := split_len z "\n"
      have hps : ∀ p ∈ lwOf z, (∀ w ∈ p.2, w.length ≤ 40000) ∧ p.2 ≠ [] ∧ p.1 ≤ 50000 := fun p hp => by
        obtain ⟨q1, q2, q3⟩ := lw_words hp
        exact ⟨fun w hw => Nat.le_trans (q1 w hw) hz, q2, by omega⟩
      generalize lwOf z = ps at hl hps k
      obtain ⟨xs, hxs, hpp⟩ := hl
      have hxl : xs.length = ps.length := Paired.length hpp
      have f5 := e5 _ _ (e4 _ _ h3)
      have r5 := e5 _ _ h4
      have hB := @new_ex H5 H6
      have bf : newOf H5 H6 fl = none := new_off f5
      have br : newOf H5 H6 rl = none := new_off r5
      have hfr : fl ≠ rl := ne_of_none (h3) hrl
      have e06 : Ex H H6 := (e04.trans e5).trans e6
      have hflH : H fl = none := fresh_back (e1.trans e2) hfl
      have hrlH : H rl = none := fresh_back ((e1.trans e2).trans e3) hrl
      generalize newOf H5 H6 = B at hxs hpp hB bf br
      refine ⟨l, rfl, ⟨xs, ex_l hB hxs⟩, forLx_of (xs := xs) (fun i σ' H' => ∃ (z3 z4 z5 z6 : Option V) (fs rs : List Nat), σ' = [some (.str z), some (.ref fl), some (.ref rl), z3, z4, z5, z6] ∧ Ex H H' ∧ Ex B H' ∧ H' fl = some (.lst (nV fs)) ∧ H' rl = some (.lst (nV rs)) ∧ fs.length = rs.length ∧ fs.length ≤ 4 ∧ Told K CBL (rdGo (ps.drop i) fs rs) H Q E) ⟨_, _, _, _, [], [], rfl, e06, hB, e6 _ _ f5, e6 _ _ r5, rfl, by decide, k⟩ (fun i σ' H' _ ⟨_, _, _, _, _, _, _, _, e, _⟩ => ex_l e hxs) (fun i v σ' H' hv hp => ?_) fun σ' H' hp => ?_⟩
      · obtain ⟨z3, z4, z5, z6, fs, rs, rfl, e, eB, hf, hr', hfl', hf4, hk⟩ := hp
        obtain ⟨⟨ln, ws⟩, hpi, t, b, rfl, ht, hb⟩ := paired_at hpp hv
        obtain ⟨hw, hwne, hln⟩ := hps _ (List.mem_of_getElem? hpi)
        have hdrop : ps.drop i = (ln, ws) :: ps.drop (i + 1) := by
          have hi : i < ps.length := (List.getElem?_eq_some_iff.mp hpi).1
          rw [List.drop_eq_getElem_cons hi]
          congr 1
          have := List.getElem?_eq_getElem hi
          rw [hpi] at this
          exact (Option.some.inj this).symm
        rw [hdrop] at hk
        refine ⟨t, _, rfl, ex_t eB ht, rfl, _, _, rfl, ⟨_, _, rfl, ⟨rfl, ?_⟩⟩⟩
        try dsimp only
        have hws0 : (ws.map V.str)[0]? = some (.str (ws.getD 0 "")) := by
          cases ws with
          | nil => exact absurd rfl hwne
          | cons a r => rfl
        unfold rdGo at hk
        refine q_when (b := !decide (V.str (ws.getD 0 "") = V.str "cell") || decide (V.int (fs.length : Nat) = V.int 4)) (et_or (et_ne (ev_ixL (ev_var rfl) ev_c (ex_l eB hb) (by have := atI_nat' hws0; exact this)) ev_c rfl) fun _ => et_eq (ev_is (ev_lnL (ev_var rfl) (sq_of hf)) (by rw [nV_len])) ev_c rfl) (fun hbb H7 e7 => ?_) (fun hbb H7 e7 => ?_)
        · have hcond : ws.getD 0 "" ≠ "cell" ∨ fs.length = 4 := by
            simp only [Bool.or_eq_true, Bool.not_eq_true', decide_eq_false_iff_not, decide_eq_true_eq] at hbb
            rcases hbb with q | q
            · exact .inl fun z => q (congrArg V.str z)
            · exact .inr (by have := V.int.inj q; omega)
          rw [if_pos hcond] at hk
          exact s_raiseL (ea_cons (ev_var rfl) (ea_cons ev_c ea_nil)) (.inr (.inl ⟨_, rfl, log_small (by omega) (by omega)⟩)) (.inr (.inl ⟨_, rfl, by decide⟩)) fun H8 e8 d hd => hk d _ ((e.trans e7).trans (e8.trans (Ex.new hd))) upd_same
        · have hcond : ¬ (ws.getD 0 "" ≠ "cell" ∨ fs.length = 4) := by
            simp only [Bool.or_eq_false_iff, Bool.not_eq_false', decide_eq_false_iff_not, decide_eq_true_eq] at hbb
            rintro (q | q)
            · exact q (V.str.inj hbb.1)
            · exact hbb.2 (by rw [q]; rfl)
          rw [if_neg hcond] at hk
          have hf3 : fs.length < 4 := by
            have : fs.length ≠ 4 := fun q => hcond (.inr q)
            omega
          refine q_unpS ?_
          refine m_consE (ev_var rfl) fun H8 e8 => m_consE (ev_var rfl) fun H9 e9 => ?_
          have e79 := (e7.trans e8).trans e9
          have hrN : SqL K H9 rl ((rs.map fun (x : Nat) => (x : Int)).map V.int) := by
            have := e79 _ _ hr'
            have e0 : nV rs = (rs.map fun (x : Nat) => (x : Int)).map V.int := by unfold nV; rw [List.map_map]; rfl
            rw [← e0]
            exact sq_of this
          refine m_consM ?_
          refine m_tupM ?_
          refine m_consUU (eu_tup (ea_cons ev_c (ea_cons ev_c ea_nil)) (by show 2 ≤ 100000; decide)) fun b1 H10 hb1 e10 h10 => ?_
          refine m_consUU (eu_tup (ea_cons ev_c (ea_cons (ev_lenSet (ev_var rfl) (ex_l e10 hrN) (by rw [List.length_map]; omega)) ea_nil)) (by show 2 ≤ 100000; decide)) fun b2 H11 hb2 e11 h11 => ?_
          refine ⟨by show 2 ≤ sizeLine; rw [sizeLine_eq]; decide, fun la hla => ?_⟩
          have en := Ex.new (o := .tup [.ref b1, .ref b2]) hla
          have e712 := (e79.trans (e10.trans e11)).trans en
          have hlim : LimT K (upd H11 la (.tup [.ref b1, .ref b2])) la [(1, 8), (0, (dist (rs.map fun (x : Nat) => (x : Int)) : Nat))] := ⟨_, st_of upd_same, .cons ⟨b1, rfl, st_of ((e11.trans en) _ _ h10)⟩ (.cons ⟨b2, rfl, st_of (en _ _ h11)⟩ .nil)⟩
          generalize upd H11 la (.tup [.ref b1, .ref b2]) = H12 at hlim e712 en
          have hwl : SqL K H12 b (ws.map V.str) := ex_l (eB.trans e712) hb
          have hw49 : ∀ w ∈ ws, w.length ≤ 49000 := fun w h => by have := hw w h; omega
          cases hnb : nbF ws [(1, 8), (0, ((dist (rs.map fun (x : Nat) => (x : Int)) : Nat) : Int))] with
          | error p =>
            rw [hnb] at hk
            exact .inr ⟨ln, b, la, ws, _, p, rfl, hwl, hlim, hw49, by show 2 ≤ 10; decide, by omega, nbF_bad hnb, fun d H13 e13 hd => hk d H13 ((e.trans e712).trans e13) hd⟩
          | ok ns =>
            rw [hnb] at hk
            have hon := nbF_ok hnb
            obtain ⟨n0, n1, rfl⟩ : ∃ n0 n1, ns = [n0, n1] := by
              have hl2 := hon.l
              match ns, hl2 with
              | [a, b], _ => exact ⟨a, b, rfl⟩
            have r0 := hon.n 0 (by show 0 < 2; decide)
            have r1 := hon.n 1 (by show 1 < 2; decide)
            unfold numAt at r0 r1
            have b0 : 1 ≤ n0 ∧ n0 ≤ 8 := by
              split at r0
              · exact numR_in r0
              · cases r0
            have b1' : 0 ≤ n1 ∧ n1 ≤ ((dist (rs.map fun (x : Nat) => (x : Int)) : Nat) : Int) := by
              split at r1
              · exact numR_in r1
              · cases r1
            refine .inl ⟨_, b, la, ws, _, [n0, n1], rfl, hwl, hlim, hw49, by show 2 ≤ 10; decide, hon, fun u H13 hu e13 h13 => ?_⟩
            refine ⟨u, _, rfl, st_of h13, rfl, _, _, rfl, ⟨_, _, rfl, ⟨rfl, ?_⟩⟩⟩
            try dsimp only
            have e713 := e712.trans e13
            refine q_app (e713 _ _ hf) (ev_var rfl) (ev_var rfl) (by rw [nV_len]; omega) fun H14 e14 => ?_
            have hr14 : upd H14 fl (.lst (nV fs ++ [.int n0])) rl = some (.lst (nV rs)) := by rw [upd_ne hfr.symm]; exact (e713.trans e14) _ _ hr'
            have hf14 : upd H14 fl (.lst (nV fs ++ [.int n0])) fl = some (.lst (nV fs ++ [.int n0])) := upd_same
            have eH14 : Ex H (upd H14 fl (.lst (nV fs ++ [.int n0]))) := Ex.mut ((e.trans e713).trans e14) hflH
            have eB14 : Ex B (upd H14 fl (.lst (nV fs ++ [.int n0]))) := Ex.mut ((eB.trans e713).trans e14) bf
            generalize upd H14 fl (.lst (nV fs ++ [.int n0])) = H15 at hr14 hf14 eH14 eB14 ⊢
            refine s_app hr14 (ev_var rfl) (ev_var rfl) (by rw [nV_len]; omega) fun H16 e16 => ?_
            refine ⟨_, _, _, _, fs ++ [n0.toNat], rs ++ [n1.toNat], rfl, Ex.mut (eH14.trans e16) hrlH, Ex.mut (eB14.trans e16) br, ?_, ?_, by rw [List.length_append, List.length_append, hfl']; rfl, by rw [List.length_append]; show fs.length + 1 ≤ 4; omega, hk⟩
            · rw [upd_ne hfr, e16 _ _ hf14, nV_app]
              show some (HO.lst (nV fs ++ [V.int n0])) = some (HO.lst (nV fs ++ [V.int ((n0.toNat : Nat) : Int)]))
              rw [show ((n0.toNat : Nat) : Int) = n0 by omega]
            · rw [upd_same, nV_app]
              show some (HO.lst (nV rs ++ [V.int n1])) = some (HO.lst (nV rs ++ [V.int ((n1.toNat : Nat) : Int)]))
              rw [show ((n1.toNat : Nat) : Int) = n1 by omega]
      · obtain ⟨z3, z4, z5, z6, fs, rs, rfl, e, eB, hf, hr', hfl', hf4, hk⟩ := hp
        rw [hxl, List.drop_length] at hk
        dsimp only
        refine m_ret ?_
        refine m_tupM ?_
        refine m_consUU (eu_tpl (ev_var rfl) (sq_of hf)) fun a1 H7 ha1 e7 h7 => ?_
        refine m_consUU (eu_tpl (ev_var rfl) (sq_of (e7 _ _ hr'))) fun a2 H8 ha2 e8 h8 => ?_
        refine ⟨by show 2 ≤ sizeLine; rw [sizeLine_eq]; decide, fun m hm => ?_⟩
        have en := Ex.new (o := .tup [.ref a1, .ref a2]) hm
        exact hk m _ (((e.trans e7).trans e8).trans en) ⟨a1, a2, st_of upd_same, st_of ((e8.trans en) _ _ h7), st_of (en _ _ h8)⟩
end
end Fm
set_option Elab.async false
set_option linter.all false
set_option maxRecDepth 100000
set_option maxHeartbeats 1000000
namespace Fm
open PySem L2 Evl
def In.kd : In → Kd
  | .get _ => .touch | .plus _ => .touch | .minus _ => .touch | .touch _ => .touch | .set _ => .set
  | _ => .wait
def In.cell : In → Nat
  | .get k => k | .plus k => k | .minus k => k | .touch k => k | .set k => k
  | _ => 0
/-- what stands last in an instruction -/
def In.last (i : In) : V := match i.arg with
  | some k => .int k
  | none => .str i.w
theorem vs_last (i : In) : atI i.vs (-1) = some i.last := by
  unfold In.vs In.last
  cases i.arg <;> rfl
theorem kdOk_ok {i : In} {c n : Nat} (h : i.ok c n) : KdOk i.kd i.w i.last i.cell c := by
  refine ⟨?_, ?_, ?_⟩
  · cases i <;> kernel_rfl
  · cases i <;> kernel_rfl
  · intro hn
    cases i <;> first | exact ⟨rfl, h⟩ | exact nomatch hn
theorem rd_ok {i : In} {c n : Nat} (h : i.rd = true) (hc : i.ok c n) : i.arg = some (i.cell : Int) ∧ i.cell < c := by
  cases i <;> first | exact ⟨rfl, hc⟩ | exact nomatch h
end Fm
set_option Elab.async false
set_option linter.all false
set_option maxRecDepth 100000
set_option maxHeartbeats 1000000
namespace Fm
open PySem L2 Evl
def oV : Option Nat → V
  | none => .non
  | some j => .int (j : Int)
def plc (p : List In) : List Nat := (List.range (p.length + 1)).map (stE p)
def cnt (pl : List (Option Nat)) : Nat := pl.countP fun o => o.isNone
structure Jp (p : List In) (m : Nat) (pl : List (Option Nat)) : Prop where
  len : pl.length = p.length + 1
  val : ∀ (j v : Nat), pl[j]? = some (some v) → v = stE p j
  low : ∀ j : Nat, j < m → pl[j]? ≠ some none
  last : pl[p.length]? = some (some p.length)
structure Wl (p : List In) (m : Nat) (pl0 pl : List (Option Nat)) (ps : List Nat) (i : Nat) : Prop where
  len : pl.length = p.length + 1
  le : i ≤ p.length
  num : ps.length + cnt pl = cnt pl0
  out : ∀ j : Nat, j ∉ ps → pl[j]? = pl0[j]?
  pth : ∀ x ∈ ps, x ≤ p.length ∧ stE p x = stE p i
  run : (∀ x ∈ ps, pl[x]? = some (some p.length) ∧ Lead p x i) ∨ pl[i]? = some (some (stE p i))
  hd : m ∈ ps ∨ i = m
theorem cnt_set {pl : List (Option Nat)} {i v : Nat} (h : pl[i]? = some none) : cnt (pl.set i (some v)) + 1 = cnt pl := by
  unfold cnt
  induction pl generalizing i with
  | nil => simp at h
  | cons a l ih =>
    cases i with
    | zero =>
      simp at h
      subst h
      simp
    | succ i =>
      have := ih (i := i) (by simpa using h)
      simp only [List.set_cons_succ, List.countP_cons]
      omega
theorem cnt_pos {pl : List (Option Nat)} {i : Nat} (h : pl[i]? = some none) : 0 < cnt pl := by
  have := cnt_set (v := 0) h
  omega
theorem Wl.val {p : List In} {m : Nat} {pl0 pl : List (Option Nat)} {ps : List Nat} {i v : Nat} (W : Wl p m pl0 pl ps i) (J : Jp p m pl0) (h : pl[i]? = some (some v)) : v = stE p i := by
  rcases W.run with r | r
  · by_cases hc : i ∈ ps
    · obtain ⟨h1, h2⟩ := r i hc
      rw [h] at h1
      rw [h2.cyc]
      exact Option.some.inj (Option.some.inj h1)
    · rw [W.out i hc] at h
      exact J.val i v h
  · rw [h] at r
    exact Option.some.inj (Option.some.inj r)
theorem map_set {α β : Type} (f : α → β) (l : List α) (i : Nat) (x : α) : (l.set i x).map f = (l.map f).set i (f x) := List.map_set
def spPlaces (K : PySem.W.Frag) : Sp := fun vs H Q _ => ∃ (a : Addr) (p : List In) (c : Nat), vs = [.ref a] ∧ PgT K H a p ∧ Pok c p ∧ p.length ≤ 4000 ∧ ∀ b H', H b = none → Ex H H' → H' b = some (.tup ((plc p).map fun x => V.int (x : Nat))) → Q (.ref b) H'
section
variable {P : Program} {w : World} {K : PySem.W.Frag} {mg : Str → Option Value} {base : Heap}
end
theorem nV_atS {l : List Nat} {i x : Nat} (h : l[i]? = some x) : atI (nV l) (i : Int) = some (.int (x : Nat)) := atI_nat' (by unfold nV; rw [List.getElem?_map, h]; rfl)
theorem plc_at {p : List In} {i : Nat} (h : i ≤ p.length) : (plc p)[i]? = some (stE p i) := by
  unfold plc
  rw [List.getElem?_map, List.getElem?_range (by omega)]
  rfl
theorem ev_plc {K : PySem.W.Frag} {σ : L2.St} {H : Hp} {ta tb : TE} {b : Addr} {p : List In} {i : Nat} (hb : SqT K H b (nV (plc p))) (h : i ≤ p.length) (ea : Ev ta σ H (.ref b)) (eb : Ev tb σ H (.int (i : Nat))) : Ev (tOp (rIx K) ta tb) σ H (.int (stE p i : Nat)) := ev_ixT ea eb hb (nV_atS (plc_at h))
def In.isZero : In → Bool
  | .zero _ => true
  | _ => false
theorem w_zero (i : In) : decide (V.str i.w = V.str "zero") = i.isZero := by cases i <;> kernel_rfl
end Fm
set_option Elab.async false
set_option linter.all false
set_option maxRecDepth 100000
set_option maxHeartbeats 1000000
namespace Fm
open PySem L2 Evl RZ
/-- the fields of a run -/
def rf (p pl at_ hd ct ip ak sd : V) : List (Str × V) := [("program", p), ("places", pl), ("at", at_), ("hand", hd), ("contents", ct), ("inputs", ip), ("asked", ak), ("said", sd)]
section
variable {p pl at_ hd ct ip ak sd x : V}
theorem rf_program : (rf p pl at_ hd ct ip ak sd).lookup ("program" : Str) = some p := by kernel_rfl
theorem rf_places : (rf p pl at_ hd ct ip ak sd).lookup ("places" : Str) = some pl := by kernel_rfl
theorem rf_at : (rf p pl at_ hd ct ip ak sd).lookup ("at" : Str) = some at_ := by kernel_rfl
theorem rf_hand : (rf p pl at_ hd ct ip ak sd).lookup ("hand" : Str) = some hd := by kernel_rfl
theorem rf_contents : (rf p pl at_ hd ct ip ak sd).lookup ("contents" : Str) = some ct := by kernel_rfl
theorem rf_inputs : (rf p pl at_ hd ct ip ak sd).lookup ("inputs" : Str) = some ip := by kernel_rfl
theorem rf_asked : (rf p pl at_ hd ct ip ak sd).lookup ("asked" : Str) = some ak := by kernel_rfl
theorem rf_said : (rf p pl at_ hd ct ip ak sd).lookup ("said" : Str) = some sd := by kernel_rfl
theorem rf_set_at : putF "at" x (rf p pl at_ hd ct ip ak sd) = rf p pl x hd ct ip ak sd := by kernel_rfl
theorem rf_set_hand : putF "hand" x (rf p pl at_ hd ct ip ak sd) = rf p pl at_ x ct ip ak sd := by kernel_rfl
theorem rf_set_asked : putF "asked" x (rf p pl at_ hd ct ip ak sd) = rf p pl at_ hd ct ip x sd := by kernel_rfl
theorem rf_made : putF "said" sd (putF "asked" ak (putF "inputs" ip (putF "contents" ct (putF "hand" hd (putF "at" at_ (putF "places" pl (putF "program" p []))))))) = rf p pl at_ hd ct ip ak sd := by kernel_rfl
theorem rf_no_is_over : (rf p pl at_ hd ct ip ak sd).lookup ("is_over" : Str) = none := by kernel_rfl
theorem rf_no_instruction : (rf p pl at_ hd ct ip ak sd).lookup ("instruction" : Str) = none := by kernel_rfl
theorem rf_no_act : (rf p pl at_ hd ct ip ak sd).lookup ("act" : Str) = none := by kernel_rfl
theorem rf_no_say_or_ask : (rf p pl at_ hd ct ip ak sd).lookup ("say_or_ask" : Str) = none := by kernel_rfl
theorem rf_no_act_on_cell : (rf p pl at_ hd ct ip ak sd).lookup ("act_on_cell" : Str) = none := by kernel_rfl
end
/-- the class -/
structure RunT (K : PySem.W.Frag) (C : Addr) : Prop where
  cl : Cls K C
  n_program : NoAttr K C "program"
  n_places : NoAttr K C "places"
  n_at : NoAttr K C "at"
  n_hand : NoAttr K C "hand"
  n_contents : NoAttr K C "contents"
  n_inputs : NoAttr K C "inputs"
  n_asked : NoAttr K C "asked"
  n_said : NoAttr K C "said"
/-- what a program at work holds -/
structure Rs where
  at_ : Nat
  hand : Int
  held : List Int
  asked : Nat
  said : List Int
/-- one step of it -/
def Rs.deed (p : List In) (ins : List Int) (s : Rs) : Rs := match p[s.at_]? with
  | some .say => { s with said := s.said ++ [s.hand] }
  | some .ask => if s.asked < ins.length then { s with hand := ins.getD s.asked 0, asked := s.asked + 1 } else { s with hand := 0 }
  | some (.put k) => { s with hand := k }
  | some (.get c) => { s with hand := s.held.getD c 0 }
  | some (.plus c) => { s with hand := s.hand + s.held.getD c 0 }
  | some (.minus c) => { s with hand := s.hand - s.held.getD c 0 }
  | some (.set c) => { s with held := s.held.set c s.hand }
  | _ => s
def Rs.next (p : List In) (s : Rs) : Nat := match p[s.at_]? with
  | some (.zero t) => if s.hand = 0 then stE p t else stE p (s.at_ + 1)
  | _ => stE p (s.at_ + 1)
def Rs.step (p : List In) (ins : List Int) (s : Rs) : Rs := { s.deed p ins with at_ := s.next p }
/-- a run stands at x, made behind B; its tuple of places, its contents, what it said -/
structure RunF (K : PySem.W.Frag) (C : Addr) (B H : Hp) (x pa ia : Addr) (p : List In) (ins : List Int) (s : Rs) (dx pl ct sd : Addr) : Prop where
  ex : Ex B H
  x0 : B x = none
  pg : PgT K B pa p
  ip : SqT K B ia (ins.map V.int)
  obj : H x = some (.ins C dx (rf (.ref pa) (.ref pl) (.int (s.at_ : Nat)) (.int s.hand) (.ref ct) (.ref ia) (.int (s.asked : Nat)) (.ref sd)))
  c0 : B ct = none
  s0 : B sd = none
  cs : ct ≠ sd
  xc : x ≠ ct
  xs : x ≠ sd
  px : pl ≠ x
  pc : pl ≠ ct
  ps : pl ≠ sd
  hc : H ct = some (.lst (s.held.map V.int))
  hs : H sd = some (.lst (s.said.map V.int))
  hp : H pl = some (.tup (nV (plc p)))
section
variable {K : PySem.W.Frag} {C : Addr} {B H H' : Hp} {x pa ia : Addr} {p : List In} {ins : List Int} {s : Rs} {dx pl ct sd : Addr}
theorem RunF.up (h : RunF K C B H x pa ia p ins s dx pl ct sd) (e : Ex H H') : RunF K C B H' x pa ia p ins s dx pl ct sd :=
  { h with ex := h.ex.trans e, obj := e _ _ h.obj, hc := e _ _ h.hc, hs := e _ _ h.hs, hp := e _ _ h.hp }
theorem RunF.put (h : RunF K C B H x pa ia p ins s dx pl ct sd) (a : Nat) (hd : Int) (k : Nat) : RunF K C B (upd H x (.ins C dx (rf (.ref pa) (.ref pl) (.int (a : Nat)) (.int hd) (.ref ct) (.ref ia) (.int (k : Nat)) (.ref sd)))) x pa ia p ins { s with at_ := a, hand := hd, asked := k } dx pl ct sd :=
  { h with ex := Ex.mut h.ex h.x0, obj := upd_same, hc := by rw [upd_ne h.xc.symm]; exact h.hc, hs := by rw [upd_ne h.xs.symm]; exact h.hs, hp := by rw [upd_ne h.px]; exact h.hp }
theorem RunF.putC (h : RunF K C B H x pa ia p ins s dx pl ct sd) (hl : List Int) : RunF K C B (upd H ct (.lst (hl.map V.int))) x pa ia p ins { s with held := hl } dx pl ct sd :=
  { h with ex := Ex.mut h.ex h.c0, obj := by rw [upd_ne h.xc]; exact h.obj, hc := upd_same, hs := by rw [upd_ne h.cs.symm]; exact h.hs, hp := by rw [upd_ne h.pc]; exact h.hp }
theorem RunF.putS (h : RunF K C B H x pa ia p ins s dx pl ct sd) (sl : List Int) : RunF K C B (upd H sd (.lst (sl.map V.int))) x pa ia p ins { s with said := sl } dx pl ct sd :=
  { h with ex := Ex.mut h.ex h.s0, obj := by rw [upd_ne h.xs]; exact h.obj, hc := by rw [upd_ne h.cs]; exact h.hc, hs := upd_same, hp := by rw [upd_ne h.ps]; exact h.hp }
end
section
variable {K : PySem.W.Frag} {σ : L2.St} {H : Hp} {ta tb tv te : TE} {D : Ends} {tz : TS} {a C dx : Addr} {fs : List (Str × V)} {f : Str} {v : V}
theorem ev_fld (ha : Ev ta σ H (.ref a)) (h : H a = some (.ins C dx fs)) (cl : Cls K C) (no : NoAttr K C f) (hl : fs.lookup f = some v) : Ev (tFld K ta f) σ H v := fun H1 e Q q => ha H1 e _ fun H2 e2 => ⟨a, C, dx, fs, v, rfl, (e.trans e2) _ _ h, cl, no, hl, q H2 e2⟩
theorem s_setF (hv : Ev tv σ H v) (ha : Ev ta σ H (.ref a)) (h : H a = some (.ins C dx fs)) (cl : Cls K C) (no : NoAttr K C f) (hz : fs.length < 1000) (k : ∀ H1, Ex H H1 → D.nx σ (upd H1 a (.ins C dx (putF f v fs)))) : sFld K ta tv f D σ H :=
  hv H (Ex.refl H) _ fun H1 e1 => ha H1 e1 _ fun H2 e2 => ⟨a, C, dx, fs, rfl, (e1.trans e2) _ _ h, cl, no, hz, k H2 (e1.trans e2)⟩
theorem q_setF (hv : Ev tv σ H v) (ha : Ev ta σ H (.ref a)) (h : H a = some (.ins C dx fs)) (cl : Cls K C) (no : NoAttr K C f) (hz : fs.length < 1000) (k : ∀ H1, Ex H H1 → tz D σ (upd H1 a (.ins C dx (putF f v fs)))) : tSeq (sFld K ta tv f) tz D σ H := s_setF (D := { D with nx := tz D }) hv ha h cl no hz k
theorem s_setFL {xs : List V} (hv : EvL tv σ H xs) (ha : ∀ H1, Ex H H1 → Ev ta σ H1 (.ref a)) (h : H a = some (.ins C dx fs)) (cl : Cls K C) (no : NoAttr K C f) (hz : fs.length < 1000) (k : ∀ l H1, H l = none → Ex H H1 → H1 l = some (.lst xs) → D.nx σ (upd H1 a (.ins C dx (putF f (.ref l) fs)))) : sFld K ta tv f D σ H :=
  hv H (Ex.refl H) _ fun l H1 hl e1 h1 => ha H1 e1 H1 (Ex.refl H1) _ fun H2 e2 => ⟨a, C, dx, fs, rfl, (e1.trans e2) _ _ h, cl, no, hz, k l H2 hl (e1.trans e2) (e2 _ _ h1)⟩
theorem q_setFL {xs : List V} (hv : EvL tv σ H xs) (ha : ∀ H1, Ex H H1 → Ev ta σ H1 (.ref a)) (h : H a = some (.ins C dx fs)) (cl : Cls K C) (no : NoAttr K C f) (hz : fs.length < 1000) (k : ∀ l H1, H l = none → Ex H H1 → H1 l = some (.lst xs) → tz D σ (upd H1 a (.ins C dx (putF f (.ref l) fs)))) : tSeq (sFld K ta tv f) tz D σ H := s_setFL (D := { D with nx := tz D }) hv ha h cl no hz k
theorem s_augF {g : Int → Int → Int} {i j : Int} (ha : Ev ta σ H (.ref a)) (h : H a = some (.ins C dx fs)) (cl : Cls K C) (no : NoAttr K C f) (hl : fs.lookup f = some (.int i)) (hv : Ev tv σ H (.int j)) (hz : fs.length < 1000) (k : ∀ H1, Ex H H1 → D.nx σ (upd H1 a (.ins C dx (putF f (.int (g i j)) fs)))) : sFldAug K ta tv (fun x y H Q => ∃ i j, x = .int i ∧ y = .int j ∧ Q (.int (g i j)) H) f D σ H :=
  ha H (Ex.refl H) _ fun H1 e1 => ⟨a, C, dx, fs, .int i, rfl, e1 _ _ h, cl, no, hl, hv H1 e1 _ fun H2 e2 => ⟨i, j, rfl, rfl, dx, fs, (e1.trans e2) _ _ h, hz, k H2 (e1.trans e2)⟩⟩
end
end Fm
set_option Elab.async false
set_option linter.all false
set_option maxRecDepth 100000
set_option maxHeartbeats 1000000
namespace Fm
open PySem L2 Evl RZ
def spOver (K : PySem.W.Frag) (C : Addr) : Sp := fun vs H Q _ => ∃ (B : Hp) (x pa ia dx pl ct sd : Addr) (p : List In) (ins : List Int) (s : Rs), vs = [.ref x] ∧ RunF K C B H x pa ia p ins s dx pl ct sd ∧ ∀ H', Ex H H' → Q (.bl (decide (s.at_ = p.length))) H'
def spInst (K : PySem.W.Frag) (C : Addr) : Sp := fun vs H Q _ => ∃ (B : Hp) (x pa ia dx pl ct sd : Addr) (p : List In) (ins : List Int) (s : Rs) (i : In), vs = [.ref x] ∧ RunF K C B H x pa ia p ins s dx pl ct sd ∧ p[s.at_]? = some i ∧ ∀ u H', Ex H H' → SqT K H' u i.vs → Q (.ref u) H'
def spSayAsk (K : PySem.W.Frag) (C : Addr) : Sp := fun vs H Q _ => ∃ (B : Hp) (x pa ia dx pl ct sd : Addr) (p : List In) (ins : List Int) (s : Rs) (i : In), vs = [.ref x, .str i.w] ∧ RunF K C B H x pa ia p ins s dx pl ct sd ∧ p[s.at_]? = some i ∧ (i = .say ∨ i = .ask) ∧ s.said.length < 50000 ∧
  ∀ H', RunF K C B H' x pa ia p ins (s.deed p ins) dx pl ct sd → Q .non H'
def In.onCell (c : Nat) : In → Prop
  | .get k => k = c | .plus k => k = c | .minus k => k = c | .set k => k = c | .touch k => k = c
  | _ => False
def spOnCell (K : PySem.W.Frag) (C : Addr) : Sp := fun vs H Q _ => ∃ (B : Hp) (x pa ia dx pl ct sd : Addr) (p : List In) (ins : List Int) (s : Rs) (i : In) (c : Nat), vs = [.ref x, .str i.w, .int (c : Nat)] ∧ RunF K C B H x pa ia p ins s dx pl ct sd ∧ p[s.at_]? = some i ∧ i.onCell c ∧ c < s.held.length ∧
  ∀ H', RunF K C B H' x pa ia p ins (s.deed p ins) dx pl ct sd → Q .non H'
theorem iV_at {l : List Int} {i : Nat} (h : i < l.length) : atI (l.map V.int) (i : Int) = some (.int (l.getD i 0)) := atI_nat' (by
  rw [List.getElem?_map, List.getElem?_eq_getElem h, List.getD_eq_getElem?_getD, List.getElem?_eq_getElem h]
  rfl)
theorem w_say (i : In) : decide (V.str i.w = V.str "say") = (match i with | .say => true | _ => false) := by cases i <;> kernel_rfl
theorem w_get (i : In) : decide (V.str i.w = V.str "get") = (match i with | .get _ => true | _ => false) := by cases i <;> kernel_rfl
theorem w_plus (i : In) : decide (V.str i.w = V.str "plus") = (match i with | .plus _ => true | _ => false) := by cases i <;> kernel_rfl
theorem w_minus (i : In) : decide (V.str i.w = V.str "minus") = (match i with | .minus _ => true | _ => false) := by cases i <;> kernel_rfl
theorem w_setW (i : In) : decide (V.str i.w = V.str "set") = (match i with | .set _ => true | _ => false) := by cases i <;> kernel_rfl
theorem w_zeroW (i : In) : decide (V.str i.w = V.str "zero") = (match i with | .zero _ => true | _ => false) := by cases i <;> kernel_rfl
section
variable {P : Program} {w : World} {K : PySem.W.Frag} {mg : Str → Option Value} {base : Heap} {C : Addr}
end
end Fm
set_option Elab.async false
set_option linter.all false
set_option maxRecDepth 100000
set_option maxHeartbeats 1000000
namespace Fm
open PySem L2 Evl RZ
def In.cellLt (n : Nat) : In → Prop
  | .get k => k < n | .plus k => k < n | .minus k => k < n | .set k => k < n | .touch k => k < n
  | _ => True
def spAct (K : PySem.W.Frag) (C : Addr) : Sp := fun vs H Q _ => ∃ (B : Hp) (x pa ia dx pl ct sd : Addr) (p : List In) (ins : List Int) (s : Rs) (i : In) (c : Nat), vs = [.ref x] ∧ RunF K C B H x pa ia p ins s dx pl ct sd ∧ p[s.at_]? = some i ∧ i.isEnd = false ∧ Pok c p ∧ i.cellLt s.held.length ∧ s.said.length < 50000 ∧
  ∀ H', RunF K C B H' x pa ia p ins (s.step p ins) dx pl ct sd → Q .non H'
theorem deed_at (p : List In) (ins : List Int) (s : Rs) : (s.deed p ins).at_ = s.at_ := by
  unfold Rs.deed
  split <;> (try split) <;> rfl
section
variable {K : PySem.W.Frag} {σ : L2.St} {H : Hp} {ta tb tv te : TE} {tA : TA} {D : Ends} {tz : TS} {a C dx : Addr} {fs : List (Str × V)} {m : Str} {v : V} {sp : Sp} {E : XK}
theorem q_meth0A {i : Nat} (ha : Ev ta σ H (.ref a)) (h : H a = some (.ins C dx fs)) (hl : fs.lookup m = none) (k : ∀ H1, Ex H H1 → sp [.ref a] H1 (fun v H2 => tz D (σ.set i (some v)) H2) E) : tSeq (tAsg (tMeth C m sp [] E ta tNil) (gName i)) tz D σ H :=
  ha H (Ex.refl H) _ fun H1 e1 => ⟨a, dx, fs, rfl, e1 _ _ h, hl, k H1 e1⟩
theorem s_methD {vs : List V} (ha : Ev ta σ H (.ref a)) (h : H a = some (.ins C dx fs)) (hl : fs.lookup m = none) (hA : EvA tA σ H vs) (k : ∀ H1, Ex H H1 → sp (.ref a :: (vs ++ [])) H1 (fun _ H2 => D.nx σ H2) E) : tDrop (tMeth C m sp [] E ta tA) D σ H :=
  ha H (Ex.refl H) _ fun H1 e1 => ⟨a, dx, fs, rfl, e1 _ _ h, hl, hA H1 e1 _ fun H2 e2 => k H2 (e1.trans e2)⟩
theorem q_methD0 (ha : Ev ta σ H (.ref a)) (h : H a = some (.ins C dx fs)) (hl : fs.lookup m = none) (k : ∀ H1, Ex H H1 → sp [.ref a] H1 (fun _ H2 => tz D σ H2) E) : tSeq (tDrop (tMeth C m sp [] E ta tNil)) tz D σ H :=
  ha H (Ex.refl H) _ fun H1 e1 => ⟨a, dx, fs, rfl, e1 _ _ h, hl, k H1 e1⟩
theorem ev_meth0 {z : V} (ha : Ev ta σ H (.ref a)) (h : H a = some (.ins C dx fs)) (hl : fs.lookup m = none) (hs : ∀ H1, Ex H H1 → ∀ Q : VK, (∀ H2, Ex H1 H2 → Q z H2) → sp [.ref a] H1 Q E) : Ev (tMeth C m sp [] E ta tNil) σ H z := fun H1 e Q q =>
  ha H1 e _ fun H2 e2 => ⟨a, dx, fs, rfl, (e.trans e2) _ _ h, hl, hs H2 (e.trans e2) Q fun H3 e3 => q H3 (e2.trans e3)⟩
end
/-- a method that may be called -/
structure MCal (P : Program) (w : World) (K : PySem.W.Frag) (mg : Str → Option Value) (base : Heap) (C : Addr) (k : Nat) (x : Str) (f : Addr) (fd : FuncData) (ps : List Str) (sp : Sp) : Prop where
  G : FnOk P w K mg base CX0 k f fd ps sp
  m : Meth K C x f
  b : Binds K fd ps []
section
variable {P : Program} {w : World} {K : PySem.W.Frag} {mg : Str → Option Value} {base : Heap} {C : Addr}
end
end Fm
set_option Elab.async false
set_option linter.all false
set_option maxRecDepth 100000
set_option maxHeartbeats 1000000
namespace Fm
open PySem L2 Evl RZ
def Rs.new (p : List In) (n : Nat) : Rs := ⟨stE p 0, 0, List.replicate n 0, 0, []⟩
theorem flat_rep : ∀ n : Nat, (List.replicate n [V.int 0]).flatten = (List.replicate n (0 : Int)).map V.int
  | 0 => rfl
  | n + 1 => by rw [List.replicate_succ, List.replicate_succ, List.flatten_cons, flat_rep n]; rfl
def spInit (K : PySem.W.Frag) (C : Addr) : Sp := fun vs H Q _ => ∃ (B : Hp) (x pa ia dx : Addr) (p : List In) (ins : List Int) (c n : Nat), vs = [.ref x, .int (n : Nat), .ref pa, .ref ia] ∧ Ex B H ∧ B x = none ∧ H x = some (.ins C dx []) ∧ PgT K B pa p ∧ SqT K B ia (ins.map V.int) ∧ Pok c p ∧ p.length ≤ 4000 ∧ n ≤ 10 ∧
  ∀ H' pl ct sd, RunF K C B H' x pa ia p ins (Rs.new p n) dx pl ct sd → Q .non H'
section
variable {P : Program} {w : World} {K : PySem.W.Frag} {mg : Str → Option Value} {base : Heap} {C : Addr}
end
end Fm
set_option Elab.async false
set_option linter.all false
set_option maxRecDepth 100000
set_option maxHeartbeats 400000
namespace Fm
open PySem L2 Evl RZ
theorem FnOk_or {P : Program} {w : World} {K : PySem.W.Frag} {mg : Str → Option Value} {base : Heap} {CX : CXT} {k : Nat} {f : Addr} {fd : FuncData} {ps : List Str} {sp sp' : Sp} (F : FnOk P w K mg base CX k f fd ps sp) (F' : FnOk P w K mg base CX k f fd ps sp') : FnOk P w K mg base CX k f fd ps (fun vs H Q E => sp vs H Q E ∨ sp' vs H Q E) :=
  ⟨fun vs H Q E h => h.elim (F.len vs H Q E) (F'.len vs H Q E), fun A outer s H args us vs Q E hr e b v h => h.elim (F.run A outer s H args us vs Q E hr e b v) (F'.run A outer s H args us vs Q E hr e b v)⟩
abbrev WA : List V := [.str "say", .str "ask", .str "stop"]
abbrev WC : List V := [.str "get", .str "plus", .str "minus", .str "set"]
abbrev WP : List V := [.str "zero", .str "go"]
/-- what is no instruction of a program of c cells and n instructions -/
inductive BadIn (K : PySem.W.Frag) (H : Hp) (c n : Nat) : V → Prop where
  | no {v : V} {t : String} (ty : TyX K H v (.type t)) (h : kitB t "tuple" = some false) : BadIn K H c n v
  | one {b : Addr} {wd : Str} (h : SqT K H b [.str wd]) (hw : inV (.str wd) WA = false) : BadIn K H c n (.ref b)
  | cell {b : Addr} {wd : Str} {z : V} {o : Option Int} (h : SqT K H b [.str wd, z]) (hw : inV (.str wd) WC = true) (hz : IntV K H z o) (hr : inRange o 0 ((c : Int) - 1) = false) : BadIn K H c n (.ref b)
  | place {b : Addr} {wd : Str} {z : V} {o : Option Int} (h : SqT K H b [.str wd, z]) (hw : inV (.str wd) WC = false) (hw2 : inV (.str wd) WP = true) (hz : IntV K H z o) (hr : inRange o 0 (n : Int) = false) : BadIn K H c n (.ref b)
  | put {b : Addr} {wd : Str} {z : V} {o : Option Int} (h : SqT K H b [.str wd, z]) (hw : inV (.str wd) WC = false) (hw2 : inV (.str wd) WP = false) (hw3 : decide (V.str wd = .str "put") = true) (hz : IntV K H z o) (hr : inRange o (-1000000) 1000000 = false) : BadIn K H c n (.ref b)
  | word {b : Addr} {wd : Str} {z : V} (h : SqT K H b [.str wd, z]) (hw : inV (.str wd) WC = false) (hw2 : inV (.str wd) WP = false) (hw3 : decide (V.str wd = .str "put") = false) : BadIn K H c n (.ref b)
theorem BadIn.up {K : PySem.W.Frag} {H H' : Hp} {c n : Nat} {v : V} (e : Ex H H') (h : BadIn K H c n v) : BadIn K H' c n v := by
  cases h with
  | no ty h => exact .no (tyx_up e ty) h
  | one h hw => exact .one (ex_t e h) hw
  | cell h hw hz hr => exact .cell (ex_t e h) hw (hz.up e) hr
  | place h hw hw2 hz hr => exact .place (ex_t e h) hw hw2 (hz.up e) hr
  | put h hw hw2 hw3 hz hr => exact .put (ex_t e h) hw hw2 hw3 (hz.up e) hr
  | word h hw hw2 hw3 => exact .word (ex_t e h) hw hw2 hw3
def spIsNo (K : PySem.W.Frag) : Sp := fun vs H Q _ => ∃ (c n : Nat) (v : V), vs = [.int (c : Int), .int (n : Int), v] ∧ BadIn K H c n v ∧ ∀ H', Ex H H' → Q (.bl false) H'
theorem touch_bad {K : PySem.W.Frag} {H : Hp} {c n k : Nat} {v : V} (h : InAt K H v (.touch k)) : BadIn K H c n v := by
  obtain ⟨b, rfl, hb⟩ := h
  exact .word hb (by kernel_rfl) (by kernel_rfl) (by kernel_rfl)
section
variable {P : Program} {w : World} {K : PySem.W.Frag} {mg : Str → Option Value} {base : Heap} {C : Addr}
--TY is_instruction {'value':('tuple','any')}
theorem no_is_instruction {f f1 aA aC aP : Addr} {fd fd1 : FuncData} (F : Fun K "is_instruction" "is_instruction" s_is_instruction f fd) (T : Txt K mg) (Wd : Wds K mg aA aC aP) (C_is_integer : Cal P w K mg base CX0 2 "is_integer" f1 fd1 ["value", "low", "high"] (spIsInt K)) : FnOk P w K mg base CX0 3 f fd ["cells", "length", "value"] (spIsNo K) := by
  refine F.ok sc_is_instruction (fun vs H Q E h => ?_) (fun cdv A outer s H vs Q E hr h => ?_)
  · obtain ⟨_, _, _, rfl, _⟩ := h
    rfl
  · obtain ⟨c, n, v, rfl, hb, k⟩ := h
    refine ⟨_, (pss_cons (ps_if (PW.pt (pw_or (pt_not (pt_val (pe_callB (isi_K (K := K) rfl) (by rfl) T.z_isinstance (by decide +kernel) (pa_cons (pv 2) (pa_cons (pe_bltn (v := .ty "tuple") (by rfl) T.z_tuple (by decide +kernel) rfl) pa_nil))))) (pw_or1 (pt_cmpR (nin_K (K := K) rfl) (pe_callB (len_K (K := K) rfl) (by rfl) T.z_len (by decide +kernel) (pa_cons (pv 2) pa_nil)) (pe_tup (pa_cons pe_int (pa_cons pe_int pa_nil))) (by rfl))))) (pss_one (ps_ret pe_bl)) pss_nil)
  (pss_cons (ps_set (i := 3) sc_is_instruction.nd rfl (Or.inl rfl) (pe_ix (ix_K (K := K) rfl) (pv 2) pe_int (fun _ _ => rfl)))
  (pss_cons (ps_if (pt_cmpR op_eq (pe_callB (len_K (K := K) rfl) (by rfl) T.z_len (by decide +kernel) (pa_cons (pv 2) pa_nil)) pe_int (nomark _)) (pss_one (ps_ret (pe_cmpR (in_K (K := K) rfl) (pv 3) (pe_glob (v := .ref _) rfl Wd.g_ALONE rfl) (by rfl)))) pss_nil)
  (pss_cons (ps_if (pt_cmpR (in_K (K := K) rfl) (pv 3) (pe_glob (v := .ref _) rfl Wd.g_WITH_CELL rfl) (by rfl)) (pss_one (ps_ret (pe_call C_is_integer.G (hr.mono (by first | decide | omega)) rfl C_is_integer.g C_is_integer.kp C_is_integer.b .nil pass0 (pa_cons (pe_ix (ix_K (K := K) rfl) (pv 2) pe_int (fun _ _ => rfl)) (pa_cons pe_int (pa_cons (pe_op op_sub (pv 0) pe_int) pa_nil)))))) pss_nil)
  (pss_cons (ps_if (pt_cmpR (in_K (K := K) rfl) (pv 3) (pe_glob (v := .ref _) rfl Wd.g_WITH_PLACE rfl) (by rfl)) (pss_one (ps_ret (pe_call C_is_integer.G (hr.mono (by first | decide | omega)) rfl C_is_integer.g C_is_integer.kp C_is_integer.b .nil pass0 (pa_cons (pe_ix (ix_K (K := K) rfl) (pv 2) pe_int (fun _ _ => rfl)) (pa_cons pe_int (pa_cons (pv 1) pa_nil)))))) pss_nil)
  (pss_one (ps_ret (pe_and (pe_cmpR op_eq (pv 3) pe_str (nomark _)) (pe_one (pe_call C_is_integer.G (hr.mono (by first | decide | omega)) rfl C_is_integer.g C_is_integer.kp C_is_integer.b .nil pass0 (pa_cons (pe_ix (ix_K (K := K) rfl) (pv 2) pe_int (fun _ _ => rfl)) (pa_cons (pe_un un_neg (pe_glob (v := .int 1000000) rfl T.c_MILLION.choose_spec ⟨_, rfl⟩)) (pa_cons (pe_glob (v := .int 1000000) rfl T.c_MILLION.choose_spec ⟨_, rfl⟩) pa_nil))))))))))))), ?_⟩
    have shape : (∃ t, TyX K H v (.type t) ∧ kitB t "tuple" = some false) ∨ ∃ (b : Addr) (wd : Str) (xs : List V), v = .ref b ∧ SqT K H b xs ∧ atI xs 0 = some (.str wd) ∧
        ((xs.length = 1 ∧ inV (.str wd) WA = false) ∨ (xs.length = 2 ∧ ∃ z, atI xs 1 = some z ∧
          ((inV (.str wd) WC = true ∧ ∃ o, IntV K H z o ∧ inRange o 0 ((c : Int) - 1) = false) ∨ (inV (.str wd) WC = false ∧ inV (.str wd) WP = true ∧ ∃ o, IntV K H z o ∧ inRange o 0 (n : Int) = false) ∨
            (inV (.str wd) WC = false ∧ inV (.str wd) WP = false ∧ (decide (V.str wd = .str "put") = false ∨ ∃ o, IntV K H z o ∧ inRange o (-1000000) 1000000 = false))))) := by
      cases hb with
      | no ty h => exact .inl ⟨_, ty, h⟩
      | one h hw => exact .inr ⟨_, _, _, rfl, h, rfl, .inl ⟨rfl, hw⟩⟩
      | cell h hw hz hr => exact .inr ⟨_, _, _, rfl, h, rfl, .inr ⟨rfl, _, rfl, .inl ⟨hw, _, hz, hr⟩⟩⟩
      | place h hw hw2 hz hr => exact .inr ⟨_, _, _, rfl, h, rfl, .inr ⟨rfl, _, rfl, .inr (.inl ⟨hw, hw2, _, hz, hr⟩)⟩⟩
      | put h hw hw2 hw3 hz hr => exact .inr ⟨_, _, _, rfl, h, rfl, .inr ⟨rfl, _, rfl, .inr (.inr ⟨hw, hw2, .inr ⟨_, hz, hr⟩⟩)⟩⟩
      | word h hw hw2 hw3 => exact .inr ⟨_, _, _, rfl, h, rfl, .inr ⟨rfl, _, rfl, .inr (.inr ⟨hw, hw2, .inl hw3⟩)⟩⟩
    clear hb
    rcases shape with ⟨t, ty, hk⟩ | ⟨b, wd, xs, rfl, hq, h0, hsh⟩
    · exact q_when (b := true) (et_is (et_or (a := true) (b := true) (et_not (a := false) (et_B (ev_isi (ev_var rfl) ty hk))) fun z => nomatch z) rfl) (fun _ H1 e1 => s_ret ev_c fun H2 e2 => k H2 (e1.trans e2)) fun z => nomatch z
    · have hin : inV (V.int (xs.length : Int)) [.int 1, .int 2] = true := by
        rcases hsh with ⟨h, _⟩ | ⟨h, _⟩ <;> rw [h] <;> rfl
      refine q_when (b := false) (et_is (et_or (b := false) (et_not (a := true) (et_B (ev_isi (t := "tuple") (b := true) (ev_var rfl) (ty_tup hq) (by decide +kernel)))) fun _ => et_is (et_test (ev_niU (ev_lnT (ev_var rfl) hq) (eu_tup (ea_cons ev_c (ea_cons ev_c ea_nil)) (by decide)) rfl rfl)) (by rw [hin]; rfl)) rfl) (fun z => nomatch z) fun _ H1 e1 => ?_
      have hq1 := ex_t e1 hq
      refine q_asg (ev_ixT (ev_var rfl) ev_c hq1 h0) fun H2 e2 => ?_
      have hq2 := ex_t e2 hq1
      have e02 := e1.trans e2
      refine q_when (et_eq (ev_lnT (ev_var rfl) hq2) ev_c rfl) (fun hc H3 e3 => ?_) (fun hc H3 e3 => ?_)
      · have hw : inV (.str wd) WA = false := by
          rcases hsh with ⟨_, h⟩ | ⟨h, _⟩
          · exact h
          · rw [h] at hc
            have := V.int.inj (of_decide_eq_true hc)
            omega
        refine s_ret (ev_inK (ev_var rfl) ev_c (Wd.A _) rfl rfl) fun H4 e4 => ?_
        rw [hw]
        exact k H4 ((e02.trans e3).trans e4)
      · obtain ⟨_, z, h1, hd⟩ := hsh.resolve_left (fun hh => by rw [hh.1] at hc; exact of_decide_eq_false hc rfl)
        have e03 := e02.trans e3
        have hq3 := ex_t e03 hq
        refine q_when (et_inK (ev_var rfl) ev_c (Wd.C _) rfl rfl) (fun hc2 H4 e4 => ?_) (fun hc2 H4 e4 => ?_)
        · obtain ⟨o, hz, hr0⟩ : ∃ o, IntV K H z o ∧ inRange o 0 ((c : Int) - 1) = false := by
            rcases hd with ⟨_, h⟩ | ⟨h, _⟩ | ⟨h, _⟩
            · exact h
            · rw [h] at hc2; cases hc2
            · rw [h] at hc2; cases hc2
          refine s_callR (ea_cons (ev_ixT (ev_var rfl) ev_c (ex_t e4 hq3) h1) (ea_cons ev_c (ea_cons (ev_i0 (ev_var rfl) ev_c) ea_nil))) fun H5 e5 => ⟨_, 0, (c : Int) - 1, o, rfl, hz.up ((e03.trans e4).trans e5), fun H6 e6 => ?_⟩
          rw [hr0]
          exact k H6 (((e03.trans e4).trans e5).trans e6)
        · refine q_when (et_inK (ev_var rfl) ev_c (Wd.Pl _) rfl rfl) (fun hc3 H5 e5 => ?_) (fun hc3 H5 e5 => ?_)
          · obtain ⟨o, hz, hr0⟩ : ∃ o, IntV K H z o ∧ inRange o 0 (n : Int) = false := by
              rcases hd with ⟨h, _⟩ | ⟨_, _, h⟩ | ⟨_, h, _⟩
              · rw [h] at hc2; cases hc2
              · exact h
              · rw [h] at hc3; cases hc3
            refine s_callR (ea_cons (ev_ixT (ev_var rfl) ev_c (ex_t (e4.trans e5) hq3) h1) (ea_cons ev_c (ea_cons (ev_var rfl) ea_nil))) fun H6 e6 => ⟨_, 0, (n : Int), o, rfl, hz.up (((e03.trans e4).trans e5).trans e6), fun H7 e7 => ?_⟩
            rw [hr0]
            exact k H7 ((((e03.trans e4).trans e5).trans e6).trans e7)
          · have hd3 : decide (V.str wd = .str "put") = false ∨ ∃ o, IntV K H z o ∧ inRange o (-1000000) 1000000 = false := by
              rcases hd with ⟨h, _⟩ | ⟨_, h, _⟩ | ⟨_, _, h⟩
              · rw [h] at hc2; cases hc2
              · rw [h] at hc3; cases hc3
              · exact h
            have e05 := (e03.trans e4).trans e5
            rcases hd3 with hp | ⟨o, hz, hr0⟩
            · refine s_ret (v := .bl (false && false)) (ev_andV (b := false) (ev_is (ev_op (ev_var rfl) ev_c (rv_eq rfl)) (by rw [hp])) fun z => nomatch z) fun H6 e6 => k H6 (e05.trans e6)
            · refine s_ret (v := .bl (decide (V.str wd = .str "put") && false)) (ev_andV (ev_op (ev_var rfl) ev_c (rv_eq rfl)) fun _ => ev_callV (ea_cons (ev_ixT (ev_var rfl) ev_c (ex_t (e4.trans e5) hq3) h1) (ea_cons (ev_neg ev_c) (ea_cons ev_c ea_nil))) fun H6 e6 Q' q => ⟨_, -1000000, 1000000, o, rfl, hz.up (e05.trans e6), fun H7 e7 => by rw [hr0]; exact q H7 e7⟩) fun H6 e6 => ?_
              rw [Bool.and_false]
              exact k H6 (e05.trans e6)
end
end Fm
set_option Elab.async false
set_option linter.all false
set_option maxRecDepth 100000
set_option maxHeartbeats 1000000
namespace Fm
open PySem L2 Evl RZ
def spIsTouch (K : PySem.W.Frag) : Sp := fun vs H Q _ => ∃ (c k : Nat) (v : V), vs = [.int (c : Int), v] ∧ InAt K H v (.touch k) ∧ k < c ∧ ∀ H', Ex H H' → Q (.bl true) H'
def spChkKe (K : PySem.W.Frag) : Sp := fun vs H Q _ => ∃ (c : Nat) (a : Addr) (p : List In), vs = [.int (c : Int), .ref a] ∧ PgT K H a p ∧ Pok c p ∧ p.length ≤ 4000 ∧ ∀ H', Ex H H' → Q .non H'
def spChkInp (K : PySem.W.Frag) : Sp := fun vs H Q _ => ∃ (a : Addr) (ins : List Int), vs = [.ref a] ∧ SqT K H a (ins.map V.int) ∧ ins.length ≤ 50 ∧ (∀ x ∈ ins, -1000000 ≤ x ∧ x ≤ 1000000) ∧ ∀ H', Ex H H' → Q .non H'
def spLivB (K : PySem.W.Frag) : Sp := fun vs H Q _ => ∃ (m l u : Addr) (fs rs ls : List Nat) (i : In), vs = [.ref m, .ref l, .ref u] ∧ MaT K H m fs rs ∧ SqT K H l (nV ls) ∧ SqT K H u i.vs ∧ fs.length = rs.length ∧ ls.length = rs.length ∧ rs.length ≤ 10 ∧ i.cellLt rs.length ∧
  (i.rd = true ∧ ls.getD i.cell 0 = 0 → ∀ H', Ex H H' → Q .non H') ∧ (¬ (i.rd = true ∧ ls.getD i.cell 0 = 0) → ∀ b H', H b = none → Ex H H' → H' b = some (.tup (nV (bhL i.kd fs rs ls i.cell))) → Q (.ref b) H')
section
variable {P : Program} {w : World} {K : PySem.W.Frag} {mg : Str → Option Value} {base : Heap} {C : Addr}
abbrev s_is_touch : Stmt := top 23
theorem sc_is_touch : FnScope ["cells", "value"] ["cells", "value"] (defScope s_is_touch) := ⟨rfl, rfl, rfl, by decide +kernel, rfl, by decide +kernel, by decide +kernel⟩
--TY is_touch {'value':('tuple','any')}
theorem ok_is_touch {f f1 : Addr} {fd fd1 : FuncData} (F : Fun K "is_touch" "is_touch" s_is_touch f fd) (T : Txt K mg) (C_is_integer : Cal P w K mg base CX0 2 "is_integer" f1 fd1 ["value", "low", "high"] (spIsInt K)) : FnOk P w K mg base CX0 3 f fd ["cells", "value"] (spIsTouch K) := by
  refine F.ok sc_is_touch (fun vs H Q E h => ?_) (fun cdv A outer s H vs Q E hr h => ?_)
  · obtain ⟨_, _, _, rfl, _⟩ := h
    rfl
  · obtain ⟨c, k, v, rfl, ⟨b, rfl, hb⟩, hk, kk⟩ := h
    refine ⟨_, (pss_cons (ps_if (PW.pt (pw_or (pt_not (pt_val (pe_callB (isi_K (K := K) rfl) (by rfl) T.z_isinstance (by decide +kernel) (pa_cons (pv 1) (pa_cons (pe_bltn (v := .ty "tuple") (by rfl) T.z_tuple (by decide +kernel) rfl) pa_nil))))) (pw_or1 (pt_cmpR op_ne (pe_callB (len_K (K := K) rfl) (by rfl) T.z_len (by decide +kernel) (pa_cons (pv 1) pa_nil)) pe_int (nomark _))))) (pss_one (ps_ret pe_bl)) pss_nil)
  (pss_one (ps_ret (pe_and (pe_cmpR op_eq (pe_ix (ix_K (K := K) rfl) (pv 1) pe_int (fun _ _ => rfl)) pe_str (nomark _)) (pe_one (pe_call C_is_integer.G (hr.mono (by first | decide | omega)) rfl C_is_integer.g C_is_integer.kp C_is_integer.b .nil pass0 (pa_cons (pe_ix (ix_K (K := K) rfl) (pv 1) pe_int (fun _ _ => rfl)) (pa_cons pe_int (pa_cons (pe_op op_sub (pv 0) pe_int) pa_nil))))))))), ?_⟩
    refine q_when (b := false) (et_is (et_or (b := false) (et_not (a := true) (et_B (ev_isi (t := "tuple") (b := true) (ev_var rfl) (ty_tup hb) (by decide +kernel)))) fun _ => et_is (et_ne (ev_lnT (ev_var rfl) hb) ev_c rfl) rfl) rfl) (fun z => nomatch z) fun _ H1 e1 => ?_
    have hb1 := ex_t e1 hb
    have hw : decide (V.str (In.touch k).w = V.str "touch") = true := by kernel_rfl
    refine s_ret (v := .bl (true && true)) (ev_andV (ev_is (ev_op (ev_ixT (ev_var rfl) ev_c hb1 (vs_0 (.touch k))) ev_c (rv_eq rfl)) (by rw [hw])) fun _ => ev_callV (ea_cons (ev_ixT (ev_var rfl) ev_c hb1 (vs_1 (i := .touch k) rfl)) (ea_cons ev_c (ea_cons (ev_i0 (ev_var rfl) ev_c) ea_nil))) fun H2 e2 Q' q => ⟨_, 0, (c : Int) - 1, some (k : Int), rfl, rfl, fun H3 e3 => by
      have : inRange (some (k : Int)) 0 ((c : Int) - 1) = true := by
        simp only [inRange, Bool.and_eq_true, decide_eq_true_eq]
        omega
      rw [this]
      exact q H3 e3⟩) fun H2 e2 => kk H2 (e1.trans e2)
abbrev s_check_kept : Stmt := top 25
theorem sc_check_kept : FnScope ["cells", "value", "index", "instruction"] ["cells", "value"] (defScope s_check_kept) := ⟨rfl, rfl, rfl, by decide +kernel, rfl, by decide +kernel, by decide +kernel⟩
--TY check_kept {'value':('tuple','any')}
theorem ok_check_kept {f f1 f2 f3 : Addr} {fd fd1 fd2 fd3 : FuncData} (F : Fun K "check_kept" "check_kept" s_check_kept f fd) (T : Txt K mg) (C_check_length : Cal P w K mg base CX0 2 "check_length" f1 fd1 ["value", "most"] (spChkLen K)) (C_is_instruction : Cal P w K mg base CX0 3 "is_instruction" f2 fd2 ["cells", "length", "value"] (fun vs H Q E => spIsIn K vs H Q E ∨ spIsNo K vs H Q E)) (C_is_touch : Cal P w K mg base CX0 3 "is_touch" f3 fd3 ["cells", "value"] (spIsTouch K)) : FnOk P w K mg base CX0 4 f fd ["cells", "value"] (spChkKe K) := by
  refine F.ok sc_check_kept (fun vs H Q E h => ?_) (fun cdv A outer s H vs Q E hr h => ?_)
  · obtain ⟨_, _, _, rfl, _⟩ := h
    rfl
  · obtain ⟨c, a, p, rfl, hp, hok, hl, k⟩ := h
    refine ⟨_, (pss_cons (ps_expr (pe_call C_check_length.G (hr.mono (by first | decide | omega)) rfl C_check_length.g C_check_length.kp C_check_length.b .nil pass0 (pa_cons (pv 1) (pa_cons (pe_glob (v := .int 4000) rfl T.c_MOST_KEPT.choose_spec ⟨_, rfl⟩) pa_nil))))
  (pss_one (ps_for PassesOwn.never rfl (pi_enumT (by rfl) T.z_enumerate (pa_cons (pv 1) pa_nil)) (pg_tup rfl (pgs_cons (pg_name (i := 2) sc_check_kept.nd rfl (by first | exact Or.inl rfl | exact Or.inr rfl)) (pgs_cons (pg_name (i := 3) sc_check_kept.nd rfl (by first | exact Or.inl rfl | exact Or.inr rfl)) pgs_nil))) (pss_one (ps_if (PW.pt (pw_and (pt_not (pt_val (pe_call C_is_instruction.G (hr.mono (by first | decide | omega)) rfl C_is_instruction.g C_is_instruction.kp C_is_instruction.b .nil pass0 (pa_cons (pv 0) (pa_cons (pe_callB (len_K (K := K) rfl) (by rfl) T.z_len (by decide +kernel) (pa_cons (pv 1) pa_nil)) (pa_cons (pv 3) pa_nil)))))) (pw_and1 (pt_not (pt_val (pe_call C_is_touch.G (hr.mono (by first | decide | omega)) rfl C_is_touch.g C_is_touch.kp C_is_touch.b .nil pass0 (pa_cons (pv 0) (pa_cons (pv 3) pa_nil)))))))) (pss_one ps_never) pss_nil))))), ?_⟩
    obtain ⟨xs, hx, hpx⟩ := id hp
    have hxl : xs.length = p.length := Paired.length hpx
    refine q_call (ea_cons (ev_var rfl) (ea_cons ev_c ea_nil)) fun H1 e1 => ⟨a, xs, 4000, rfl, ex_t e1 hx, by rw [hxl]; exact hok.1, by omega, fun H2 e2 => ?_⟩
    have e02 := e1.trans e2
    refine s_forET (ev_var rfl) (ex_t e02 hx) (fun m σ H' => Ex H H' ∧ ∃ y z, σ = [some (.int (c : Int)), some (.ref a), y, z]) (fun H3 e3 => ⟨e02.trans e3, _, _, rfl⟩) (fun m σ H' _ ⟨e, _⟩ => ex_t e hx) ?_ fun σ H' ⟨e, _⟩ => k H' e
    rintro m x σ H' hm ⟨e, y, z, rfl⟩ H3 e3
    have hml : m < p.length := by
      have := (List.getElem?_eq_some_iff.mp hm).1
      omega
    obtain ⟨x', hx', hin⟩ := paired_get hpx (List.getElem?_eq_getElem hml)
    have : x' = x := by
      rw [hm] at hx'
      exact (Option.some.inj hx').symm
    subst this
    have hp3 := hp.up (e.trans e3)
    have hokm := hok.2 _ (List.getElem_mem hml)
    generalize p[m] = i at hin hokm
    cases hT : i.isTouch with
    | false =>
      refine s_when (b := false) (et_is (et_and (a := false) (b := false) (et_not (a := true) (et_B (ev_callV (ea_cons (ev_var rfl) (ea_cons (ev_lnP hp3 (ev_var rfl)) (ea_cons (ev_var rfl) ea_nil))) fun H4 e4 Q q => .inl ⟨c, p.length, _, _, rfl, hin.up ((e.trans e3).trans e4), hokm, hT, q⟩))) fun z => nomatch z) rfl) (fun z => nomatch z) fun _ H4 e4 => ⟨(e.trans e3).trans e4, _, _, rfl⟩
    | true =>
      obtain ⟨kc, rfl⟩ : ∃ kc, i = .touch kc := by cases i <;> simp [In.isTouch] at hT; exact ⟨_, rfl⟩
      refine s_when (b := false) (et_is (et_and (a := true) (b := false) (et_not (a := false) (et_B (ev_callV (ea_cons (ev_var rfl) (ea_cons (ev_lnP hp3 (ev_var rfl)) (ea_cons (ev_var rfl) ea_nil))) fun H4 e4 Q q => .inr ⟨c, p.length, _, rfl, touch_bad (hin.up ((e.trans e3).trans e4)), q⟩))) fun _ => et_not (a := true) (et_B (ev_callV (ea_cons (ev_var rfl) (ea_cons (ev_var rfl) ea_nil)) fun H4 e4 Q q => ⟨c, kc, _, rfl, hin.up ((e.trans e3).trans e4), hokm, q⟩))) rfl) (fun z => nomatch z) fun _ H4 e4 => ⟨(e.trans e3).trans e4, _, _, rfl⟩
end
end Fm
set_option Elab.async false
set_option linter.all false
set_option maxRecDepth 100000
set_option maxHeartbeats 1000000
namespace Fm
open PySem L2 Evl TL RZ
--RET {'words_of':('list','str'),'are_plain_digits':'bool','number_told':'any','numbers_behind':('tuple','int'),'lines_with_words':('list',('tuple','any')),'limits_behind':('tuple',('tuple','int'))}
/-- what may stand behind a word -/
def limF (cells : Nat) (w : Str) : Option (List (Int × Int)) :=
  if inV (.str w) WA = true then some [] else if (inV (.str w) WC || decide (V.str w = V.str "touch")) = true then some [(0, (cells : Int) - 1)] else if inV (.str w) WP = true then some [(0, 4000)] else if V.str w = V.str "put" then some [(-1000000, 1000000)] else none
def LimV (K : PySem.W.Frag) (H : Hp) (v : V) : Option (List (Int × Int)) → Prop
  | none => v = .non
  | some lm => ∃ a, v = .ref a ∧ LimT K H a lm
def spLim (K : PySem.W.Frag) : Sp := fun vs H Q _ => ∃ (c : Nat) (w : Str), vs = [.int (c : Nat), .str w] ∧ ∀ v H', Ex H H' → LimV K H' v (limF c w) → Q v H'
/-! programs as texts -/
def insW (i : In) : List Str := i.vs.map fun v => match v with
  | .str s => s
  | .int z => Str.ofString (toString z)
  | _ => ""
def insT (i : In) : Str := Txt.join " " (insW i)
def pText (p : List In) : Str := Txt.join "\n" (p.map insT)
def spWp (K : PySem.W.Frag) : Sp := fun vs H Q _ => ∃ (c : Nat) (a : Addr) (p : List In), vs = [.int (c : Int), .ref a] ∧ 1 ≤ c ∧ c ≤ 4 ∧ PgT K H a p ∧ Pok c p ∧ p.length ≤ 400 ∧ ∀ H', Ex H H' → Q (.str (pText p)) H'
section
variable {K : PySem.W.Frag} {σ : L2.St} {H : Hp} {ta tb te tl' : TE} {tr tA : TA} {Q : VK} {D : Ends} {tz tu : TS} {g : TG} {sp : Sp} {E : XK} {W : L2.St → XK}
theorem m_ifx {tt : TT} {b : Bool} (h : EvT tt σ H b) (h1 : b = true → ∀ H1, Ex H H1 → ta σ H1 Q) (h2 : b = false → ∀ H1, Ex H H1 → tb σ H1 Q) : tIf tt ta tb σ H Q := h H (Ex.refl H) _ fun H1 e1 => by
  cases b with
  | true => exact h1 rfl H1 e1
  | false => exact h2 rfl H1 e1
/-- [.. for x in a tuple] -/
theorem el_lcTu {α : Type} {a : Addr} {xs : List V} {ys : List α} {R : V → α → Prop} {f : α → V} {j : Nat} {vs : List Nat} (ha : Ev tl' σ H (.ref a)) (hx : SqT K H a xs) (hp : Paired R xs ys) (hw : ∀ x, wipe ((wipe σ vs).set j x) vs = wipe σ vs) (hz : ys.length ≤ 50000)
    (he : ∀ x y H', R x y → y ∈ ys → Ex H H' → Ev te ((wipe σ vs).set j (some x)) H' (f y)) : EvL (tLc (iTup K tl') (gName j) tYes te vs) σ H (ys.map f) := fun H1 e1 Q q =>
  ha H1 e1 _ fun H2 e2 => ⟨a, rfl, ⟨xs, ex_t (e1.trans e2) hx⟩, fun D hD => by
    have hxy : xs.length = ys.length := Paired.length hp
    refine lc_tup (K := K) (fun i H' => Ex H2 H' ∧ H' D = some (.lst ((ys.take i).map f))) ⟨Ex.new hD, upd_same⟩ (fun i H' _ h => ex_t ((e1.trans e2).trans h.1) hx) (fun i x H3 hx1 h => ?_) fun H3 h => q D H3 (fresh_back e2 hD) (e2.trans h.1) (by rw [h.2, hxy, List.take_length])
    obtain ⟨e3, h3⟩ := h
    obtain ⟨y, hy, hR⟩ := paired_at hp hx1
    refine ⟨hw _, ?_⟩
    refine yes_lcT ?_
    rw [if_pos rfl]
    refine (he x y _ hR (List.mem_of_getElem? hy) ((e1.trans e2).trans e3)) _ (Ex.refl _) _ fun H5 e5 => ?_
    refine ⟨_, e5 _ _ h3, sz_lt (by rw [List.length_map, List.length_take]; omega), Ex.mut (e3.trans e5) hD, ?_⟩
    rw [upd_same, List.take_add_one, hy, List.map_append]
    rfl⟩
end
theorem joinL_len (S : List Nat) : ∀ ps : List (List Nat), (joinL S ps).length ≤ (ps.map (·.length)).sum + ps.length * S.length
  | [] => Nat.zero_le _
  | [p] => by simp [joinL]
  | p :: q :: r => by
    have := joinL_len S (q :: r)
    simp only [joinL, List.length_append, List.map_cons, List.sum_cons, List.length_cons, Nat.add_mul] at this ⊢
    omega
theorem join_len (y : Str) (ps : List Str) : (Txt.join y ps).length ≤ (ps.map (·.length)).sum + ps.length * y.length := by
  rw [join_eq, len_tl, tl_join]
  have := joinL_len (tl y) (ps.map tl)
  rw [List.map_map, List.length_map, ← len_tl] at this
  have e : (ps.map ((·.length) ∘ tl)) = ps.map (·.length) := List.map_congr_left fun x _ => (len_tl x).symm
  rw [e] at this
  exact this
theorem insW_len {c n : Nat} {i : In} (h : i.ok c n) (hc : c ≤ 4) (hn : n ≤ 400) : ((insW i).map (·.length)).sum + (insW i).length * 1 ≤ 30000 := by
  have key : ∀ z : Int, -1000000 ≤ z → z ≤ 1000000 → (Str.ofString (toString z)).length ≤ 10000 := fun z h1 h2 => text_len h1 h2
  have kw : i.w.length ≤ 10 := by cases i <;> exact Nat.le_of_ble_eq_true (by kernel_rfl)
  unfold insW In.vs
  cases hz : i.arg with
  | none =>
    show (i.w.length + 0) + 1 * 1 ≤ _
    omega
  | some z =>
    have hb : -1000000 ≤ z ∧ z ≤ 1000000 := by
      cases i <;> simp [In.arg, In.ok] at hz h <;> omega
    have := key z hb.1 hb.2
    show (i.w.length + ((Str.ofString (toString z)).length + 0)) + 2 * 1 ≤ _
    omega
section
variable {P : Program} {w : World} {K : PySem.W.Frag} {mg : Str → Option Value} {base : Heap}
abbrev s_limits_behind : Stmt := top 39
theorem sc_limits_behind : FnScope ["cells", "word"] ["cells", "word"] (defScope s_limits_behind) := ⟨rfl, rfl, rfl, by decide +kernel, rfl, by decide +kernel, by decide +kernel⟩
--TY limits_behind {'cells':'int','word':'str'}
theorem ok_limits {f aA aC aP : Addr} {fd : FuncData} (F : Fun K "limits_behind" "limits_behind" s_limits_behind f fd) (T : Txt K mg) (Wd : Wds K mg aA aC aP) : FnOk P w K mg base CX0 1 f fd ["cells", "word"] (spLim K) := by
  refine F.ok sc_limits_behind (fun vs H Q E h => ?_) (fun cdv A outer s H vs Q E hr h => ?_)
  · obtain ⟨_, _, rfl, _⟩ := h
    rfl
  · obtain ⟨c, z, rfl, k⟩ := h
    refine ⟨_, (pss_cons (ps_if (pt_cmpR (in_K (K := K) rfl) (pv 1) (pe_glob (v := .ref _) rfl Wd.g_ALONE rfl) (by rfl)) (pss_one (ps_ret (pe_tup pa_nil))) pss_nil)
  (pss_cons (ps_if (PW.pt (pw_or (pt_cmpR (in_K (K := K) rfl) (pv 1) (pe_glob (v := .ref _) rfl Wd.g_WITH_CELL rfl) (by rfl)) (pw_or1 (pt_cmpR op_eq (pv 1) pe_str (nomark _))))) (pss_one (ps_ret (pe_tup (pa_cons (pe_tup (pa_cons pe_int (pa_cons (pe_op op_sub (pv 0) pe_int) pa_nil))) pa_nil)))) pss_nil)
  (pss_cons (ps_if (pt_cmpR (in_K (K := K) rfl) (pv 1) (pe_glob (v := .ref _) rfl Wd.g_WITH_PLACE rfl) (by rfl)) (pss_one (ps_ret (pe_tup (pa_cons (pe_tup (pa_cons pe_int (pa_cons (pe_glob (v := .int 4000) rfl T.c_MOST_KEPT.choose_spec ⟨_, rfl⟩) pa_nil))) pa_nil)))) pss_nil)
  (pss_one (ps_ret (pe_ifExp (pt_cmpR op_eq (pv 1) pe_str (nomark _)) (pe_tup (pa_cons (pe_tup (pa_cons (pe_un un_neg (pe_glob (v := .int 1000000) rfl T.c_MILLION.choose_spec ⟨_, rfl⟩)) (pa_cons (pe_glob (v := .int 1000000) rfl T.c_MILLION.choose_spec ⟨_, rfl⟩) pa_nil))) pa_nil)) pe_non)))))), ?_⟩
    unfold limF at k
    have fl : ∀ l : List Str, (l.map V.str).all flatV = true := fun l => by rw [List.all_map]; exact List.all_eq_true.mpr fun _ _ => rfl
    refine q_when (b := inV (.str z) WA) (et_test (ev_op (ev_var rfl) ev_c (rv_isT (Wd.A H) rfl rfl))) (fun hb H1 e1 => ?_) (fun hb H1 e1 => ?_)
    · rw [if_pos hb] at k
      exact s_retU (eu_tup ea_nil (by show 0 ≤ 100000; decide)) fun u H2 hu e2 h2 => k _ H2 (e1.trans e2) ⟨u, rfl, [], st_of h2, .nil⟩
    · rw [if_neg (by rw [hb]; exact Bool.false_ne_true)] at k
      have one : ∀ {lo hi : Int} {tl1 th1 : TE} {H1 : Hp} {σ : L2.St} {D : Ends}, Ex H H1 → Ev tl1 σ H1 (.int lo) → Ev th1 σ H1 (.int hi) → (∀ u H', Ex H H' → LimT K H' u [(lo, hi)] → D.rt (.ref u) H') → tRet (tTup (tCons (tTup (tCons tl1 (tCons th1 tNil))) tNil)) D σ H1 := fun {lo hi tl1 th1 H1 σ D} e h1 h2 kk => by
        refine m_ret ?_
        refine m_tupM ?_
        refine m_consUU (eu_tup (ea_cons h1 (ea_cons h2 ea_nil)) (by show 2 ≤ 100000; decide)) fun b H2 hb e2 h2 => ?_
        refine ⟨by show 1 ≤ sizeLine; rw [sizeLine_eq]; decide, fun u hu => ?_⟩
        have en := Ex.new (o := .tup [.ref b]) hu
        exact kk u _ ((e.trans e2).trans en) ⟨_, st_of upd_same, .cons ⟨b, rfl, st_of (en _ _ h2)⟩ .nil⟩
      refine q_when (b := inV (.str z) WC || decide (V.str z = V.str "touch")) (et_or (et_test (ev_op (ev_var rfl) ev_c (rv_isT (Wd.C H1) rfl rfl))) fun _ => et_eq (ev_var rfl) ev_c rfl) (fun hb2 H2 e2 => ?_) (fun hb2 H2 e2 => ?_)
      · rw [if_pos hb2] at k
        exact one (e1.trans e2) ev_c (ev_i0 (ev_var rfl) ev_c) fun u H' e hl => k _ H' e ⟨u, rfl, hl⟩
      · rw [if_neg (by rw [hb2]; exact Bool.false_ne_true)] at k
        refine q_when (b := inV (.str z) WP) (et_test (ev_op (ev_var rfl) ev_c (rv_isT (Wd.Pl H2) rfl rfl))) (fun hb3 H3 e3 => ?_) (fun hb3 H3 e3 => ?_)
        · rw [if_pos hb3] at k
          exact one ((e1.trans e2).trans e3) ev_c ev_c fun u H' e hl => k _ H' e ⟨u, rfl, hl⟩
        · rw [if_neg (by rw [hb3]; exact Bool.false_ne_true)] at k
          have e03 := (e1.trans e2).trans e3
          refine m_ret ?_
          refine m_ifx (b := decide (V.str z = V.str "put")) (et_eq (ev_var rfl) ev_c rfl) (fun hb4 H4 e4 => ?_) (fun hb4 H4 e4 => ?_)
          · rw [if_pos (of_decide_eq_true hb4)] at k
            exact one (D := { nx := fun _ H' => Q .non H', rt := Q }) (e03.trans e4) (ev_neg ev_c) ev_c fun u H' e hl => k _ H' e ⟨u, rfl, hl⟩
          · rw [if_neg (of_decide_eq_false hb4)] at k
            exact k _ H4 (e03.trans e4) rfl
abbrev s_write_program : Stmt := top 38
theorem sc_write_program : FnScope ["cells", "program", "instruction", "part"] ["cells", "program"] (defScope s_write_program) := ⟨rfl, rfl, rfl, by decide +kernel, rfl, by decide +kernel, by decide +kernel⟩
--TY write_program {'cells':'int','program':('tuple',T),'instruction':T,'part':'any'}
theorem ok_write_program {f f1 f2 : Addr} {fd fd1 fd2 : FuncData} (F : Fun K "write_program" "write_program" s_write_program f fd) (T : Txt K mg) (C_check_cells : Cal P w K mg base CX0 4 "check_cells" f1 fd1 ["value"] spChkCells) (C_check_kept : Cal P w K mg base CX0 4 "check_kept" f2 fd2 ["cells", "value"] (spChkKe K)) : FnOk P w K mg base CX0 5 f fd ["cells", "program"] (spWp K) := by
  refine F.ok sc_write_program (fun vs H Q E h => ?_) (fun cdv A outer s H vs Q E hr h => ?_)
  · obtain ⟨_, _, _, rfl, _⟩ := h
    rfl
  · obtain ⟨c, a, p, rfl, hc1, hc4, hp, hok, hl, k⟩ := h
    refine ⟨_, (pss_cons (ps_expr (pe_call C_check_cells.G (hr.mono (by first | decide | omega)) rfl C_check_cells.g C_check_cells.kp C_check_cells.b .nil pass0 (pa_cons (pv 0) pa_nil)))
  (pss_cons (ps_expr (pe_call C_check_kept.G (hr.mono (by first | decide | omega)) rfl C_check_kept.g C_check_kept.kp C_check_kept.b .nil pass0 (pa_cons (pv 0) (pa_cons (pv 1) pa_nil))))
  (pss_one (ps_ret (pe_bmK (K := K) rfl PySem.F.plainAttrs_str PySem.F.slot_str_join PySem.F.type_str_join (mt_joinK (K := K) rfl) (pe_glob (v := .str "\n") rfl T.c_LINE_END.choose_spec ⟨_, rfl⟩) (pa_cons (pe_lc (own := [("instruction", 2)]) (g := gName 2) rfl sc_write_program.nd (pi_tupK (K := K) rfl (pv 1)) (blkOk_by (by kernel_rfl)) (fun _ _ _ _ _ => pg_name (i := 2) sc_write_program.nd rfl (by first | exact Or.inl rfl | exact Or.inr rfl)) (fun _ _ _ _ _ => pts_nil) (fun _ _ _ _ _ => (pe_bmK (K := K) rfl PySem.F.plainAttrs_str PySem.F.slot_str_join PySem.F.type_str_join (mt_joinK (K := K) rfl) pe_str (pa_cons (pe_lc (own := [("part", 3)]) (g := gName 3) rfl sc_write_program.nd (pi_tupK (K := K) rfl (pv 2)) (blkOk_by (by kernel_rfl)) (fun _ _ _ _ _ => pg_name (i := 3) sc_write_program.nd rfl (by first | exact Or.inl rfl | exact Or.inr rfl)) (fun _ _ _ _ _ => pts_nil) (fun _ _ _ _ _ => (pe_callTy call_strA (by rfl) T.z_str (by decide +kernel) (pa_cons (pv 3) pa_nil)))) pa_nil)))) pa_nil)))))), ?_⟩
    refine q_call (ea_cons (ev_var rfl) ea_nil) fun H1 e1 => ⟨c, rfl, hc1, hc4, fun H2 e2 => ?_⟩
    refine q_call (ea_cons (ev_var rfl) (ea_cons (ev_var rfl) ea_nil)) fun H3 e3 => ⟨c, a, p, rfl, hp.up ((e1.trans e2).trans e3), hok, by omega, fun H4 e4 => ?_⟩
    have e04 := ((e1.trans e2).trans e3).trans e4
    obtain ⟨xs, hxs, hpp⟩ := hp.up e04
    refine s_ret (v := .str (pText p)) (ev_joinN ev_c ?_ ?_) fun H5 e5 => k H5 (e04.trans e5)
    · rw [List.map_map]
      refine el_lcTu (f := V.str ∘ insT) (ev_var rfl) hxs hpp (fun x => rfl) (by omega) fun x i H5 hx hi e5 => ?_
      obtain ⟨b, rfl, hb⟩ := hx
      have hin := insW_len (hok.2 i hi) hc4 hl
      refine ev_joinN (ys := insW i) ev_c ?_ (by
        have e1 : (" " : Str).length = 1 := by decide +kernel
        rw [e1]
        omega)
      have key : Paired (fun (v : V) (u : V) => v = u) i.vs i.vs := by
        generalize i.vs = l
        induction l with
        | nil => exact .nil
        | cons x l ih => exact .cons rfl ih
      have e2 : (insW i).map V.str = i.vs.map fun v => V.str (match v with
        | .str s => s
        | .int z => Str.ofString (toString z)
        | _ => "") := by unfold insW; rw [List.map_map]; rfl
      rw [e2]
      refine el_lcTu (ev_var rfl) (ex_t e5 hb) key (fun x => rfl) (by unfold In.vs; split <;> first | (show 1 ≤ 50000; decide) | (show 2 ≤ 50000; decide)) fun x y H6 hxy hy e6 => ?_
      subst hxy
      have hform : (∃ s, x = V.str s) ∨ ∃ z : Int, x = .int z ∧ -1000000 ≤ z ∧ z ≤ 1000000 := by
        have hiok := hok.2 i hi
        unfold In.vs at hy
        split at hy
        · exact .inl ⟨_, List.mem_singleton.mp hy⟩
        · rename_i z hz
          rcases List.mem_cons.mp hy with q | q
          · exact .inl ⟨_, q⟩
          · refine .inr ⟨z, List.mem_singleton.mp q, ?_⟩
            cases i <;> simp [In.arg, In.ok] at hz hiok <;> omega
      rcases hform with ⟨s', rfl⟩ | ⟨z, rfl, h1, h2⟩
      · exact fun H7 e7 Q' q => (ev_var rfl) H7 e7 _ fun H8 e8 => .inr ⟨s', rfl, q H8 e8⟩
      · exact fun H7 e7 Q' q => (ev_var rfl) H7 e7 _ fun H8 e8 => .inl ⟨z, rfl, log_small h1 h2, q H8 e8⟩
    · have h1 : ((p.map insT).map (·.length)).sum ≤ (p.map insT).length * 30000 := by
        have := sum_le (c := 30000) ((p.map insT).map (·.length)) fun x hx => by
          obtain ⟨y, hy, rfl⟩ := List.mem_map.mp hx
          obtain ⟨i, hi, rfl⟩ := List.mem_map.mp hy
          have h2 := insW_len (hok.2 i hi) hc4 hl
          have h3 := join_len " " (insW i)
          have e1 : (" " : Str).length = 1 := by decide +kernel
          rw [e1] at h3
          exact Nat.le_trans h3 h2
        rwa [List.length_map] at this
      have e1 : ("\n" : Str).length = 1 := by decide +kernel
      rw [e1]
      rw [List.length_map] at h1 ⊢
      omega
end
end Fm
set_option Elab.async false
set_option linter.all false
set_option maxRecDepth 100000
set_option maxHeartbeats 1000000
namespace Fm
open PySem PySem.Spec PyProof.Rows L2
theorem tuple_mul1 (l : Addr) (items : Array Value) (n : Nat) (dd : Option Addr) (sl : Array (Option Value)) (u : Tok) :
    Meets (Builtin.«tuple.__mul__» ⟨[.ref l, .int 1 u], []⟩) (fun _ R s => s.heap.get? l = some { cls := .type "tuple", dict := dd, data := .seq items n, slots := sl } ∧
      R (.ok (.ret (Value.ref l))) s) :=
  .of_wp fun prog w A R s h => by
    obtain ⟨hp, g, d, tk, os⟩ := s
    obtain ⟨hl, h⟩ := h
    have f1 := AutoSeq1.idx_int
    have c0 : (decide ((1 : Int) < -(2 ^ 63)) || decide ((1 : Int) ≥ 2 ^ 63)) = false := by decide
    have c1 : (items.isEmpty || (1 : Int) == 1) = true := by rw [show ((1 : Int) == 1) = true from rfl, Bool.or_true]
    wp_walk using wpAny_loadPart' hl
    repeat (first
      | (refine wpAny_ite_false (decide_eq_false (by rw [c0]; exact Bool.false_ne_true)) ?_; wp_walk using wpAny_loadPart' hl)
      | (refine wpAny_ite_true (decide_eq_true (by rw [c1])) ?_; wp_walk using wpAny_loadPart' hl))
    exact ⟨_, rfl, h⟩
/-- tuple * int, 1 at least: by 1 it is the tuple itself -/
def rRepA (K : PySem.W.Frag) : R2 := fun x y H Q => ∃ l k xs, x = .ref l ∧ y = .int k ∧ SqT K H l xs ∧ xs ≠ [] ∧ 1 ≤ k ∧ k ≤ 1000 ∧ xs.length ≤ 1000 ∧ (k = 1 → Q (.ref l) H) ∧ (k ≠ 1 → ∀ p, H p = none → Q (.ref p) (upd H p (.tup (List.replicate k.toNat xs).flatten)))
section
variable {X : Cx} {K : PySem.W.Frag}
theorem op_repA : OpR X (binaryOp .Mult) (rRepA X.K) := by
  intro pins s σ H x y v u Q I rx ry h
  obtain ⟨l, k, xs, rfl, rfl, hT, hne, h1, h2, hz, q1, q2⟩ := h
  by_cases hk : k = 1
  · subst hk
    cases rx
    obtain ⟨t, rfl⟩ := ry
    obtain ⟨its, r, ⟨⟨cls, dd, data, sl⟩, ho, hc, n, hd⟩, hs⟩ := I.tuple hT
    simp only at hc hd
    subst hc hd
    refine wpAny_binaryOp_repeat_ref (T := "tuple") (U := "int") (by decide) ⟨_, ho, rfl⟩ (fun s' => typeIs_int s' 1 t) noFill_tuple_mul F.fills_int_mul F.slot_int_rmul repeat_tuple F.slot_int_index.lookup
      (call_meets F.slot_int_rmul (typeIs_int s 1 t) F.entry_int_rmul (F.args_int_rmul_2 _ _) (int_rmul_tuple 1 t l its.toArray n dd sl)
        ⟨ho, rfl, ⟨_, ho, rfl⟩, call_meets F.slot_tuple_mul ⟨_, ho, rfl⟩ F.entry_tuple_mul (F.args_tuple_mul_2 _ _) (tuple_mul1 l its.toArray n dd sl t) ⟨ho, ?_⟩⟩)
    exact ⟨.ref l, H, I, rfl, q1 rfl⟩
  · exact op_repT pins s σ H _ _ v u Q I rx ry ⟨l, k, xs, rfl, rfl, hT, hne, by omega, h2, hz, q2 hk⟩
theorem catA_K (h : X.K = K) : OpR X (binaryOp .Add) (rCatA K) := h ▸ op_catA
theorem repA_K (h : X.K = K) : OpR X (binaryOp .Mult) (rRepA K) := h ▸ op_repA
theorem slA_K (h : X.K = K) : SlR X (rSlA K) := h ▸ sl_tupA
end
end Fm
set_option Elab.async false
set_option linter.all false
set_option maxRecDepth 100000
set_option maxHeartbeats 1000000
namespace Fm
open PySem L2 Evl TL RZ
--RET {'words_of':('list','str'),'are_plain_digits':'bool','number_told':'any','numbers_behind':('tuple','int'),'lines_with_words':('list',('tuple','any')),'limits_behind':('tuple',('tuple','int'))}
/-- what the lines of a program tell: words with their numbers, or the line and the word -/
def rpGo (cells : Nat) : List (Nat × List Str) → List (Str × List Int) → Except (Nat × Nat) (List (Str × List Int))
  | [], acc => .ok acc
  | (ln, ws) :: ps, acc => match limF cells (ws.getD 0 "") with
    | none => .error (ln, 1)
    | some lm => if acc.length = 4000 then .error (ln, 1) else match nbF ws lm with
      | .error p => .error (ln, p)
      | .ok ns => rpGo cells ps (acc ++ [(ws.getD 0 "", ns)])
def badPl (n : Nat) (q : Str × List Int) : Bool := inV (.str q.1) WP && decide (q.2.getD 0 0 > (n : Int))
def rdP (cells : Nat) (text : Str) : Except (Nat × Nat) (List (Str × List Int)) := if lwOf text = [] then .error ((Txt.split text "\n").length + 1, 1) else match rpGo cells (lwOf text) [] with
  | .error e => .error e
  | .ok acc => match ((lwOf text).zip acc).find? fun q => badPl acc.length q.2 with
    | some q => .error (q.1.1, 2)
    | none => .ok acc
def PrA (K : PySem.W.Frag) (H : Hp) (v : V) (q : Str × List Int) : Prop := ∃ t : Addr, v = .ref t ∧ SqT K H t (.str q.1 :: q.2.map V.int)
def PrT (K : PySem.W.Frag) (H : Hp) (m : Addr) (acc : List (Str × List Int)) : Prop := ∃ xs, SqT K H m xs ∧ Paired (PrA K H) xs acc
theorem PrA.up {K : PySem.W.Frag} {H H' : Hp} {v : V} {q : Str × List Int} (e : Ex H H') (h : PrA K H v q) : PrA K H' v q := let ⟨t, h1, h2⟩ := h; ⟨t, h1, ex_t e h2⟩
theorem PrA.upd {K : PySem.W.Frag} {H : Hp} {l : Addr} {ys zs : List V} {v : V} {q : Str × List Int} (hl : H l = some (.lst ys)) (h : PrA K H v q) : PrA K (upd H l (.lst zs)) v q := let ⟨t, h1, h2⟩ := h; ⟨t, h1, sqT_upd hl h2⟩
def ToldP (K : PySem.W.Frag) (CBL : Addr) (R : Except (Nat × Nat) (List (Str × List Int))) (H : Hp) (Q : VK) (E : XK) : Prop := match R with
  | .ok acc => ∀ m H', Ex H H' → PrT K H' m acc → Q (.ref m) H'
  | .error (l, p) => ∀ d H', Ex H H' → H' d = some (.xd [(("line" : Str), .int (l : Nat)), ("place", .int (p : Nat))]) → E (.ref CBL) (some d) H'
def spRp (K : PySem.W.Frag) (CBL : Addr) : Sp := fun vs H Q E => ∃ (c : Nat) (text : Str), vs = [.int (c : Nat), .str text] ∧ 1 ≤ c ∧ c ≤ 4 ∧ text.length ≤ 40000 ∧ ToldP K CBL (rdP c text) H Q E
section
variable {K : PySem.W.Frag} {σ : L2.St} {H : Hp} {ta tb te tl' : TE} {tr tA : TA} {Q : VK} {D : Ends} {tz tu : TS} {g : TG} {sp : Sp} {E : XK} {W : L2.St → XK}
theorem q_setS {i : Nat} {vs : List V} (hA : EvA tA σ H vs) (h : ∀ H1, Ex H H1 → sp vs H1 (fun v H2 => tz D (σ.set i (some v)) H2) (W σ)) : tSeq (tAsg (tCallS sp W tA) (gName i)) tz D σ H := hA H (Ex.refl H) _ h
theorem s_appM {l : Addr} {xs : List V} (ha : Ev ta σ H (.ref l)) (hq : SqL K H l xs) (h : ∀ H1, Ex H H1 → te σ H1 fun v H2 => rAppend (.ref l) [v] H2 fun _ H3 => D.nx σ H3) : tDrop (tBM K "list" rAppend ta (tCons te tNil)) D σ H := ha H (Ex.refl H) _ fun H1 e1 => ⟨.inl ⟨rfl, _, ex_l e1 hq⟩, h H1 e1⟩
theorem m_opU {r : R2} {xs : List V} (ha : EvU ta σ H xs) (h : ∀ p H1, H p = none → Ex H H1 → H1 p = some (.tup xs) → tb σ H1 fun y H2 => r (.ref p) y H2 Q) : tOp r ta tb σ H Q := ha H (Ex.refl H) _ h
theorem m_callSS {vs : List V} (hA : EvA tA σ H vs) (h : ∀ H1, Ex H H1 → sp vs H1 Q (W σ)) : tCallS sp W tA σ H Q := hA H (Ex.refl H) _ h
theorem catA_ex {a b : Addr} {xs ys : List V} (ha : SqT K H a xs) (hb : SqT K H b ys) (hz : xs.length + ys.length ≤ 100000) (k : ∀ p H1, Ex H H1 → SqT K H1 p (xs ++ ys) → Q (.ref p) H1) : rCatA K (.ref a) (.ref b) H Q :=
  ⟨a, b, xs, ys, rfl, rfl, ha, hb, sz_of hz, fun z => by subst z; exact k b H (Ex.refl H) hb, fun _ z => by subst z; rw [List.append_nil] at k; exact k a H (Ex.refl H) ha, fun _ _ u hu => k u _ (Ex.new hu) (st_of upd_same)⟩
/-- for .. in zip of two lists -/
theorem q_forZL {a b : Addr} {xs ys : List V} (ha : EvA tA σ H [.ref a, .ref b]) (hx : SqL K H a xs) (hy : SqL K H b ys) (hl : xs.length = ys.length) (Pv : Nat → L2.St → Hp → Prop) (h0 : ∀ H1, Ex H H1 → Pv 0 σ H1) (hG : ∀ i σ' H', i ≤ xs.length → Pv i σ' H' → SqL K H' a xs ∧ SqL K H' b ys)
    (hs : ∀ (i : Nat) (x y : V) (T : Addr) (σ' : L2.St) (H' : Hp), xs[i]? = some x → ys[i]? = some y → Pv i σ' H' → H' T = none → g (.ref T) σ' (upd H' T (.tup [x, y])) fun σ2 H2 => tu { D with nx := Pv (i + 1), ct := Pv (i + 1), bk := tz D } σ2 H2) (hd : ∀ σ' H', Pv xs.length σ' H' → tz D σ' H') : tSeq (tFor (iZip K tA) g tu) tz D σ H :=
  ha H (Ex.refl H) _ fun H1 e1 => ⟨a, b, xs, ys, rfl, ex_l e1 hx, ex_l e1 hy, for_it (D := { D with nx := tz D }) (walk_zip (n := xs.length) (by rw [hl]; simp)) Pv (h0 H1 e1) (fun i σ' H' hi p => hG i σ' H' hi p) (fun i v σ' H' H2 hi p y => by
    obtain ⟨T', x, y', rfl, hT, rfl, hx1, hy1⟩ := y
    exact hs i x y' T' σ' H' hx1 hy1 p hT) hd⟩
end
theorem nbF_len {ws : List Str} {lm : List (Int × Int)} {ns : List Int} (h : nbF ws lm = .ok ns) : ns.length = lm.length := (nbF_ok h).l
theorem inV_mem {w : Str} {l : List V} (h : inV (.str w) l = true) : V.str w ∈ l := by
  unfold inV at h
  obtain ⟨y, hy, he⟩ := List.any_eq_true.mp h
  cases y with
  | str s =>
    have : s = w := by simpa [eqV] using he
    rw [← this]
    exact hy
  | _ => simp [eqV] at he
theorem limF_len {c : Nat} {w : Str} {lm : List (Int × Int)} (h : limF c w = some lm) : lm.length ≤ 1 ∧ (inV (.str w) WP = true → lm.length = 1) := by
  unfold limF at h
  split at h
  · rename_i h1
    cases h
    refine ⟨by decide, fun h2 => ?_⟩
    have a := inV_mem h1
    have b := inV_mem h2
    simp only [List.mem_cons, List.not_mem_nil, or_false] at a b
    rcases b with b | b <;> rw [b] at a <;> exact absurd a (by decide +kernel)
  · split at h
    · cases h
      exact ⟨by show 1 ≤ 1; decide, fun _ => rfl⟩
    · split at h
      · cases h
        exact ⟨by show 1 ≤ 1; decide, fun _ => rfl⟩
      · split at h
        · cases h
          exact ⟨by show 1 ≤ 1; decide, fun _ => rfl⟩
        · cases h
section
variable {P : Program} {w : World} {K : PySem.W.Frag} {mg : Str → Option Value} {base : Heap}
abbrev s_read_program : Stmt := top 40
theorem sc_read_program : FnScope ["cells", "text", "lines", "program", "line", "words", "limits", "_", "instruction"] ["cells", "text"] (defScope s_read_program) := ⟨rfl, rfl, rfl, by decide +kernel, rfl, by decide +kernel, by decide +kernel⟩
--TY read_program {'cells':'int','text':'str','lines':L,'program':L,'line':'int','words':('list','str'),'limits':T,'instruction':T,'_':'any','@over':{'A':1,'X':1,'S':['lines_with_words','numbers_behind'],'raise':{'BadLine':'sup'}}}
theorem okX_read_program {f f0 f1 f2 f3 f4 CBL fI cc cda aA aC aP : Addr} {fd fd0 fd1 fd2 fd3 fd4 : FuncData} (F : Fun K "read_program" "read_program" s_read_program f fd) (T : Txt K mg) (T_BadLine : NS_BadLine.Ty P K mg CBL fI cc cda) (Wd : Wds K mg aA aC aP)
    (C_check_cells : Cal P w K mg base CX0 4 "check_cells" f0 fd0 ["value"] spChkCells) (C_check_string : Cal P w K mg base CX0 1 "check_string" f1 fd1 ["value"] spStr) (C_limits_behind : Cal P w K mg base CX0 1 "limits_behind" f4 fd4 ["cells", "word"] (spLim K))
    (C_lines_with_wordsX : Cal P w K mg base (L2.CX P w) 2 "lines_with_words" f2 fd2 ["text"] (fun vs H Q E => spLw K vs H Q E ∨ spLwX CBL vs H Q E)) (C_numbers_behindX : Cal P w K mg base (L2.CX P w) 3 "numbers_behind" f3 fd3 ["line", "words", "limits"] (fun vs H Q E => spNb K vs H Q E ∨ spNbX K CBL vs H Q E)) : FnOk P w K mg base (L2.CX P w) 5 f fd ["cells", "text"] (spRp K CBL) := by
  refine F.okX sc_read_program (fun vs H Q E h => ?_) (fun cdv A outer s H vs Q E hr h => ?_)
  · obtain ⟨_, _, rfl, _⟩ := h
    rfl
  · obtain ⟨c, z, rfl, hc1, hc4, hz, k⟩ := h
    refine ⟨_, (pss_cons (ps_expr (pe_call C_check_cells.G (hr.mono (by first | decide | omega)) rfl C_check_cells.g C_check_cells.kp C_check_cells.b .nil pass0 (pa_cons (pv 0) pa_nil)))
  (pss_cons (ps_expr (pe_call C_check_string.G (hr.mono (by first | decide | omega)) rfl C_check_string.g C_check_string.kp C_check_string.b .nil pass0 (pa_cons (pv 1) pa_nil)))
  (pss_cons (ps_set (i := 2) sc_read_program.nd rfl (Or.inl rfl) (pe_callS C_lines_with_wordsX.G (hr.mono (by first | decide | omega)) rfl C_lines_with_wordsX.g C_lines_with_wordsX.kp C_lines_with_wordsX.b (fun σ => passAt (takes_of rfl rfl rfl rfl) σ) (pa_cons (pv 1) pa_nil)))
  (pss_cons (ps_set (i := 3) sc_read_program.nd rfl (Or.inl rfl) (pe_lst pa_nil))
  (pss_cons (ps_for (passes_of rfl) rfl (pi_listK (K := K) rfl (pv 2)) (pg_tup rfl (pgs_cons (pg_name (i := 4) sc_read_program.nd rfl (by first | exact Or.inl rfl | exact Or.inr rfl)) (pgs_cons (pg_name (i := 5) sc_read_program.nd rfl (by first | exact Or.inl rfl | exact Or.inr rfl)) pgs_nil))) (pss_cons (ps_set (i := 6) sc_read_program.nd rfl (Or.inl rfl) (pe_call C_limits_behind.G (hr.mono (by first | decide | omega)) rfl C_limits_behind.g C_limits_behind.kp C_limits_behind.b .nil pass0 (pa_cons (pv 0) (pa_cons (pe_ix (ix_K (K := K) rfl) (pv 5) pe_int (fun _ _ => rfl)) pa_nil))))
  (pss_cons (ps_if (PW.pt (pw_or (pt_cmpR op_isN (pv 6) pe_non (nomark _)) (pw_or1 (pt_cmpR op_eq (pe_callB (len_K (K := K) rfl) (by rfl) T.z_len (by decide +kernel) (pa_cons (pv 3) pa_nil)) (pe_glob (v := .int 4000) rfl T.c_MOST_KEPT.choose_spec ⟨_, rfl⟩) (nomark _))))) (pss_one (NS_BadLine.ps_raise_ rfl T_BadLine hr (takes_of rfl rfl rfl rfl) (pa_cons (pv 4) (pa_cons pe_int pa_nil)))) pss_nil)
  (pss_one (ps_expr (pe_bm PySem.F.plainAttrs_list PySem.F.slot_list_append PySem.F.type_list_append mt_append (pv 3) (pa_cons (pe_op (catA_K (K := K) rfl) (pe_tup (pa_cons (pe_ix (ix_K (K := K) rfl) (pv 5) pe_int (fun _ _ => rfl)) pa_nil)) (pe_callS C_numbers_behindX.G (hr.mono (by first | decide | omega)) rfl C_numbers_behindX.g C_numbers_behindX.kp C_numbers_behindX.b (fun σ => passAt (takes_of rfl rfl rfl rfl) σ) (pa_cons (pv 4) (pa_cons (pv 5) (pa_cons (pv 6) pa_nil))))) pa_nil)))))))
  (pss_cons (ps_for (passes_of rfl) rfl (pi_zip (by rfl) T.z_zip (pa_cons (pv 2) (pa_cons (pv 3) pa_nil))) (pg_tup rfl (pgs_cons (pg_tup rfl (pgs_cons (pg_name (i := 4) sc_read_program.nd rfl (by first | exact Or.inl rfl | exact Or.inr rfl)) (pgs_cons (pg_name (i := 7) sc_read_program.nd rfl (by first | exact Or.inl rfl | exact Or.inr rfl)) pgs_nil))) (pgs_cons (pg_name (i := 8) sc_read_program.nd rfl (by first | exact Or.inl rfl | exact Or.inr rfl)) pgs_nil))) (pss_one (ps_if (PW.pt (pw_and (pt_cmpR (in_K (K := K) rfl) (pe_ix (ix_K (K := K) rfl) (pv 8) pe_int (fun _ _ => rfl)) (pe_glob (v := .ref _) rfl Wd.g_WITH_PLACE rfl) (by rfl)) (pw_and1 (pt_cmpR op_gt (pe_ix (ix_K (K := K) rfl) (pv 8) pe_int (fun _ _ => rfl)) (pe_callB (len_K (K := K) rfl) (by rfl) T.z_len (by decide +kernel) (pa_cons (pv 3) pa_nil)) (nomark _))))) (pss_one (NS_BadLine.ps_raise_ rfl T_BadLine hr (takes_of rfl rfl rfl rfl) (pa_cons (pv 4) (pa_cons pe_int pa_nil)))) pss_nil)))
  (pss_one (ps_ret (pe_callTy (tpl_K (K := K) rfl) (by rfl) T.z_tuple (by decide +kernel) (pa_cons (pv 3) pa_nil)))))))))), ?_⟩
    refine q_call (ea_cons (ev_var rfl) ea_nil) fun H1 e1 => ⟨c, rfl, hc1, hc4, fun H2 e2 => ?_⟩
    refine q_call (ea_cons (ev_var rfl) ea_nil) fun H3 e3 => ⟨z, rfl, fun H4 e4 => ?_⟩
    have e04 := (e1.trans e2).trans (e3.trans e4)
    refine q_setS (ea_cons (ev_var rfl) ea_nil) fun H5 e5 => ?_
    by_cases hne : lwOf z = []
    · refine .inr ⟨z, rfl, hz, hne, fun d H6 e6 hd => ?_⟩
      unfold rdP at k
      rw [if_pos hne] at k
      exact k d H6 ((e04.trans e5).trans e6) hd
    · refine .inl ⟨z, rfl, hz, hne, fun l H6 e6 hl => ?_⟩
      unfold rdP at k
      rw [if_neg hne] at k
      have hsl := split_len z "\n"
      have hps : ∀ p ∈ lwOf z, (∀ w ∈ p.2, w.length ≤ 40000) ∧ p.2 ≠ [] ∧ p.1 ≤ 50000 := fun p hp => by
        obtain ⟨q1, q2, q3⟩ := lw_words hp
        exact ⟨fun w hw => Nat.le_trans (q1 w hw) hz, q2, by omega⟩
      generalize lwOf z = ps at hl hps k
      obtain ⟨xs, hxs, hpp⟩ := hl
      have hxl : xs.length = ps.length := Paired.length hpp
      have hB := @new_ex H5 H6
      have e06 : Ex H H6 := (e04.trans e5).trans e6
      generalize newOf H5 H6 = B at hxs hpp hB
      refine q_asgL (xs := []) (el_lst ea_nil (by show 0 ≤ 100000; decide)) fun pl H7 hpl e7 h7 => ?_
      have hplH : H pl = none := fresh_back e06 hpl
      have hplB : B pl = none := fresh_back hB hpl
      generalize hres : rpGo c ps [] = res at k
      refine q_forL (xs := xs) (ev_var rfl) (ex_l (hB.trans e7) hxs) (fun i σ' H' => ∃ (z4 z5 z6 z7 z8 : Option V) (acc : List (Str × List Int)) (ys : List V), σ' = [some (.int (c : Nat)), some (.str z), some (.ref l), some (.ref pl), z4, z5, z6, z7, z8] ∧ Ex H H' ∧ Ex B H' ∧ H' pl = some (.lst ys) ∧ Paired (PrA K H') ys acc ∧ (acc.length = i ∧ acc.length ≤ 4000) ∧ (∀ q ∈ acc, inV (.str q.1) WP = true → q.2.length = 1) ∧ rpGo c (ps.drop i) acc = res) (fun H8 e8 => ⟨_, _, _, _, _, [], [], rfl, (e06.trans e7).trans e8, (hB.trans e7).trans e8, e8 _ _ h7, .nil, ⟨rfl, by show 0 ≤ 4000; decide⟩, fun _ h => (by cases h), hres⟩) (fun i σ' H' _ ⟨_, _, _, _, _, _, _, _, _, e, _⟩ => ex_l e hxs) (fun i v σ' H' hv hp => ?_) fun σ' H' hp => ?_
      · obtain ⟨z4, z5, z6, z7, z8, acc, ys, rfl, e, eB, hy, hpy, ⟨hal, hal4⟩, hone, hk⟩ := hp
        obtain ⟨⟨ln, ws⟩, hpi, t, b, rfl, ht, hb⟩ := paired_at hpp hv
        obtain ⟨hw, hwne, hln⟩ := hps _ (List.mem_of_getElem? hpi)
        have hi : i < ps.length := (List.getElem?_eq_some_iff.mp hpi).1
        have hdrop : ps.drop i = (ln, ws) :: ps.drop (i + 1) := by
          rw [List.drop_eq_getElem_cons hi]
          congr 1
          have := List.getElem?_eq_getElem hi
          rw [hpi] at this
          exact (Option.some.inj this).symm
        rw [hdrop] at hk
        refine ⟨t, _, rfl, ex_t eB ht, rfl, _, _, rfl, ⟨_, _, rfl, ⟨rfl, ?_⟩⟩⟩
        try dsimp only
        have hws0 : (ws.map V.str)[0]? = some (.str (ws.getD 0 "")) := by
          cases ws with
          | nil => exact absurd rfl hwne
          | cons a r => rfl
        have hyl : ys.length = acc.length := Paired.length hpy
        unfold rpGo at hk
        refine q_callA (ea_cons (ev_var rfl) (ea_cons (ev_ixL (ev_var rfl) ev_c (ex_l eB hb) (by have := atI_nat' hws0; exact this)) ea_nil)) fun H8 e8 => ⟨c, ws.getD 0 "", rfl, fun lv H9 e9 hlv => ?_⟩
        have e89 := e8.trans e9
        have raise1 : ∀ {H10 : Hp} {D' : Ends} {σ' : L2.St}, Ex H' H10 → σ'[4]? = some (some (.int (ln : Nat))) → res = .error (ln, 1) → NS_BadLine.tRaise CBL (fun cls d τ G => E cls d G) (tCons (tVar 4) (tCons (tC (.int 1)) tNil)) D' σ' H10 := fun {H10 D' σ'} e10 hs hr1 => by
          rw [hr1] at k
          exact s_raiseL (ea_cons (ev_var hs) (ea_cons ev_c ea_nil)) (.inr (.inl ⟨_, rfl, log_small (by omega) (by omega)⟩)) (.inr (.inl ⟨_, rfl, by decide⟩)) fun H11 e11 d hd => k d _ ((e.trans e10).trans (e11.trans (Ex.new hd))) upd_same
        cases hlm : limF c (ws.getD 0 "") with
        | none =>
          rw [hlm] at hlv hk
          subst hlv
          refine q_when (b := true) (et_or (a := true) (b := true) (et_is (et_isN (ev_var rfl)) rfl) fun z => nomatch z) (fun _ H10 e10 => ?_) fun z => nomatch z
          exact raise1 (e89.trans e10) rfl hk.symm
        | some lm =>
          rw [hlm] at hlv hk
          obtain ⟨la, rfl, hlim⟩ := hlv
          have hk : (if acc.length = 4000 then Except.error (ln, 1) else match nbF ws lm with
            | .error p => .error (ln, p)
            | .ok ns => rpGo c (ps.drop (i + 1)) (acc ++ [(ws.getD 0 "", ns)])) = res := hk
          refine q_when (b := decide (V.int (acc.length : Nat) = V.int 4000)) (et_is (et_or (a := false) (et_is (et_isN (ev_var rfl)) rfl) fun _ => et_eq (ev_is (ev_lnL (ev_var rfl) (sq_of (e89 _ _ hy))) (by rw [hyl])) ev_c rfl) rfl) (fun hbb H10 e10 => ?_) (fun hbb H10 e10 => ?_)
          · have : acc.length = 4000 := by have := V.int.inj (of_decide_eq_true hbb); omega
            rw [if_pos this] at hk
            exact raise1 (e89.trans e10) rfl hk.symm
          · have hn4 : acc.length ≠ 4000 := fun q => of_decide_eq_false hbb (by rw [q]; rfl)
            rw [if_neg hn4] at hk
            have hlm1 := limF_len hlm
            have e810 := e89.trans e10
            refine s_appM (ev_var rfl) (sq_of (e810 _ _ hy)) fun H11 e11 => ?_
            refine m_opU (eu_tup (ea_cons (ev_ixL (ev_var rfl) ev_c (ex_l ((eB.trans e810).trans e11) hb) (by have := atI_nat' hws0; exact this)) ea_nil) (by show 1 ≤ 100000; decide)) fun u1 H12 hu1 e12 h12 => ?_
            refine m_callSS (ea_cons (ev_var rfl) (ea_cons (ev_var rfl) (ea_cons (ev_var rfl) ea_nil))) fun H13 e13 => ?_
            have e813 := (e810.trans e11).trans (e12.trans e13)
            have hwl : SqL K H13 b (ws.map V.str) := ex_l (eB.trans e813) hb
            have hw49 : ∀ w ∈ ws, w.length ≤ 49000 := fun w h => by have := hw w h; omega
            have hlim13 : LimT K H13 la lm := hlim.up ((e10.trans e11).trans (e12.trans e13))
            cases hnb : nbF ws lm with
            | error p =>
              rw [hnb] at hk
              rw [← hk] at k
              exact .inr ⟨ln, b, la, ws, lm, p, rfl, hwl, hlim13, hw49, by omega, by omega, nbF_bad hnb, fun d H14 e14 hd => k d H14 ((e.trans e813).trans e14) hd⟩
            | ok ns =>
              rw [hnb] at hk
              have hon := nbF_ok hnb
              refine .inl ⟨_, b, la, ws, lm, ns, rfl, hwl, hlim13, hw49, by omega, hon, fun u H14 hu e14 h14 => ?_⟩
              have hnl := hon.l
              refine catA_ex (st_of ((e13.trans e14) _ _ h12)) (st_of h14) (by rw [List.length_map]; show 1 + ns.length ≤ 100000; omega) fun u2 H15 e15 h15 => ?_
              have e815 := (e813.trans e14).trans e15
              refine ⟨pl, ys, _, rfl, rfl, e815 _ _ hy, sz_lt (by omega), ?_⟩
              have hy15 := e815 _ _ hy
              refine ⟨_, _, _, _, _, acc ++ [(ws.getD 0 "", ns)], ys ++ [.ref u2], rfl, Ex.mut (e.trans e815) hplH, Ex.mut (eB.trans e815) hplB, upd_same, ?_, ⟨by rw [List.length_append, hal]; rfl, by rw [List.length_append]; show acc.length + 1 ≤ 4000; omega⟩, fun q hq => ?_, hk⟩
              · exact paired_snoc (Paired.mapP hpy fun _ _ z => (z.up e815).upd hy15) ⟨u2, rfl, sqT_upd hy15 h15⟩
              · rcases List.mem_append.mp hq with hq | hq
                · exact hone q hq
                · rw [List.mem_singleton.mp hq]
                  intro hwp
                  show ns.length = 1
                  rw [hnl]
                  exact hlm1.2 hwp
      · obtain ⟨z4, z5, z6, z7, z8, acc, ys, rfl, e, eB, hy, hpy, ⟨hal, hal4⟩, hone, hk⟩ := hp
        rw [hxl, List.drop_length] at hk
        rw [← hk] at k
        have k : ToldP K CBL (match (ps.zip acc).find? fun q => badPl acc.length q.2 with
          | some q => .error (q.1.1, 2)
          | none => .ok acc) H Q E := k
        generalize hr2 : ((ps.zip acc).find? fun q => badPl acc.length q.2) = r2 at k
        have hyl : ys.length = acc.length := Paired.length hpy
        rw [hxl] at hal
        refine q_forZL (xs := xs) (ys := ys) (ea_cons (ev_var rfl) (ea_cons (ev_var rfl) ea_nil)) (ex_l eB hxs) (sq_of hy) (by omega) (fun i σ2 H2 => ∃ (z4 z5 z6 z7 z8 : Option V), σ2 = [some (.int (c : Nat)), some (.str z), some (.ref l), some (.ref pl), z4, z5, z6, z7, z8] ∧ Ex H' H2 ∧ ((ps.zip acc).drop i).find? (fun q => badPl acc.length q.2) = r2) (fun H8 e8 => ⟨_, _, _, _, _, rfl, e8, hr2⟩) (fun i σ2 H2 _ ⟨_, _, _, _, _, _, e2, _⟩ => ⟨ex_l (eB.trans e2) hxs, sq_of (e2 _ _ hy)⟩) (fun i v y T' σ2 H2 hv hyi hp hT => ?_) fun σ2 H2 hp => ?_
        · obtain ⟨z4, z5, z6, z7, z8, rfl, e2, hf⟩ := hp
          obtain ⟨⟨ln, ws⟩, hpi, t, b, rfl, ht, hb⟩ := paired_at hpp hv
          obtain ⟨q, hqi, tq, rfl, htq⟩ := paired_at hpy hyi
          obtain ⟨hw, hwne, hln⟩ := hps _ (List.mem_of_getElem? hpi)
          have hzi : (ps.zip acc)[i]? = some ((ln, ws), q) := by rw [List.getElem?_zip_eq_some]; exact ⟨hpi, hqi⟩
          have hdrop : (ps.zip acc).drop i = ((ln, ws), q) :: (ps.zip acc).drop (i + 1) := by
            have hi := (List.getElem?_eq_some_iff.mp hzi).1
            rw [List.drop_eq_getElem_cons hi]
            congr 1
            have := List.getElem?_eq_getElem hi
            rw [hzi] at this
            exact (Option.some.inj this).symm
          rw [hdrop, List.find?_cons] at hf
          have eT := Ex.new (o := .tup [.ref t, .ref tq]) hT
          refine ⟨T', _, rfl, st_of upd_same, rfl, _, _, rfl, ⟨t, _, rfl, ex_t ((eB.trans e2).trans eT) ht, rfl, _, _, rfl, ⟨_, _, rfl, ⟨rfl, ⟨_, _, rfl, ⟨rfl, ?_⟩⟩⟩⟩⟩⟩
          try dsimp only
          have e3 := e2.trans eT
          generalize upd H2 T' (.tup [.ref t, .ref tq]) = H3 at eT e3 ⊢
          have hq3 := ex_t e3 htq
          have h1' : atI (V.str q.1 :: q.2.map V.int) ((0 : Nat) : Int) = some (.str q.1) := atI_nat' rfl
          have h1 : atI (V.str q.1 :: q.2.map V.int) (0 : Int) = some (.str q.1) := h1'
          refine s_when (b := badPl acc.length q) (et_and (et_test (ev_op (ev_ixT (ev_var rfl) ev_c hq3 h1) ev_c (rv_isT (Wd.Pl H3) rfl rfl))) fun hb1 => et_i0 (ev_ixT (v := .int (q.2.getD 0 0)) (ev_var rfl) ev_c hq3 ?_) (ev_is (ev_lnL (ev_var rfl) (sq_of (e3 _ _ hy))) (by rw [hyl]))) (fun hb2 H4 e4 => ?_) (fun hb2 H4 e4 => ?_)
          · have := hone q (List.mem_of_getElem? hqi) hb1
            cases hq2 : q.2 with
            | nil => rw [hq2] at this; cases this
            | cons a r =>
              have h2' : atI (V.str q.1 :: (a :: r).map V.int) ((1 : Nat) : Int) = some (.int a) := atI_nat' rfl
              exact h2'
          · have hf : some ((ln, ws), q) = r2 := by
              have e5 : badPl acc.length ((ln, ws), q).2 = true := hb2
              rw [e5] at hf
              exact hf
            rw [← hf] at k
            exact s_raiseL (ea_cons (ev_var rfl) (ea_cons ev_c ea_nil)) (.inr (.inl ⟨_, rfl, log_small (by omega) (by omega)⟩)) (.inr (.inl ⟨_, rfl, by decide⟩)) fun H5 e5 d hd => k d _ ((e.trans e3).trans ((e4.trans e5).trans (Ex.new hd))) upd_same
          · have hf : ((ps.zip acc).drop (i + 1)).find? (fun q => badPl acc.length q.2) = r2 := by
              have e5 : badPl acc.length ((ln, ws), q).2 = false := hb2
              rw [e5] at hf
              exact hf
            exact ⟨_, _, _, _, _, rfl, e3.trans e4, hf⟩
        · obtain ⟨z4, z5, z6, z7, z8, rfl, e2, hf⟩ := hp
          have hnil : (ps.zip acc).drop xs.length = [] := List.drop_eq_nil_of_le (by rw [List.length_zip]; omega)
          rw [hnil] at hf
          have hf : none = r2 := hf
          rw [← hf] at k
          exact s_retU (eu_tpl (ev_var rfl) (sq_of (e2 _ _ hy))) fun u H3 hu e3 h3 => k u H3 ((e.trans e2).trans e3) ⟨ys, st_of h3, Paired.mapP hpy fun _ _ z => z.up (e2.trans e3)⟩
end
end Fm
set_option Elab.async false
set_option linter.all false
set_option maxRecDepth 100000
set_option maxHeartbeats 1000000
namespace Fm
open PySem PySem.Spec PyProof.Rows L2 LamX
/-! lambdas as things: made, kept, called -/
/-- the function object at f -/
def FnO (f : Addr) (fd : FuncData) : HO := .ext fun g => g.get? f = some { cls := .type "function", data := .func fd }
abbrev lamFdE (en : Env) (ar : Arguments) (bd : Expr) (sc : Scope) (dV doc pm : Value) (cd : Addr) (ct : Value) : FuncData := PySem.W.kdv_fn "<lambda>" (en.qual ++ "<lambda>") ar (.expr bd) sc (cloFrom en.cells sc.names []) dV doc pm (.ref cd) ct
abbrev lamFd (X : Cx) (ar : Arguments) (bd : Expr) (sc : Scope) (dV doc pm : Value) (cd : Addr) (ct : Value) : FuncData := lamFdE X.env ar bd sc dV doc pm cd ct
theorem fnO_ne {f : Addr} {fd : FuncData} (ps : Array Value) : FnO f fd ≠ .tbl ps := fun z => by
  unfold FnO at z
  cases z
section
variable {X : Cx} {pins : List (Addr × Obj)} {σ : L2.St} {H : Hp} {s : Shared}
/-- the table's new entry -/
theorem tabs_more {T : List (Addr × Str)} {H H1 : Hp} {P c' : Addr} {q : Str} {ps : Array Value} {pos : Pos} (hT : Tabs T H) (hP : H P = some (.tbl ps)) (ht : TriplesOk ps.toList) (hu : ∀ p ∈ T, p.1 = P → p.2 = q) (hm : (P, q) ∈ T)
    (hE : ExtN H H1) (h1 : H1 P = some (.tbl (ps ++ #[rawInt pos.line, rawInt pos.col, .ref c']))) (ho : ∀ b, b ≠ P → (∃ ps, H b = some (.tbl ps)) → H1 b = H b) (hc : H1 c' = some (CodeO c' q)) : Tabs T H1 := fun p hp => by
  by_cases z : p.1 = P
  · rw [hu p hp z, z]
    obtain ⟨ps2, a1, a2, a3⟩ := hT _ hm
    rw [hP] at a1
    cases a1
    have eL : (ps ++ #[rawInt pos.line, rawInt pos.col, .ref c']).toList = ps.toList ++ [rawInt pos.line, rawInt pos.col, .ref c'] := by simp
    refine ⟨_, h1, by rw [eL]; exact PySem.TriplesOk_snoc _ _ _ _ ht, fun p2 cv hcv => ?_⟩
    rw [eL] at hcv
    rcases among_app _ ht hcv with w | w
    · obtain ⟨c0, e1, e2⟩ := a3 p2 cv w
      exact ⟨c0, e1, hE _ _ e2 codeO_ne⟩
    · exact ⟨c', w, hc⟩
  · obtain ⟨ps2, a1, a2, a3⟩ := hT p hp
    refine ⟨ps2, by rw [ho _ z ⟨_, a1⟩]; exact a1, a2, fun p2 cv hcv => ?_⟩
    obtain ⟨c0, e1, e2⟩ := a3 p2 cv hcv
    exact ⟨c0, e1, hE _ _ e2 codeO_ne⟩
/-- the lambda's function object is made and tracked -/
theorem lam_tail {T : List (Addr × Str)} {c P : Addr} {ar : Arguments} {bd : Expr} {sc : Scope} {dV : Value} {pos : Pos} {E : Value → Shared → Prop} {Q : Value → Shared → Prop} (I : Inv X pins σ H s) (TB : TabB X.base X.mg c P) (hcode : X.env.code = .ref c)
    (hm : (P, X.env.qual ++ "<lambda>") ∈ T) (hu : ∀ p ∈ T, p.1 = P → p.2 = X.env.qual ++ "<lambda>") (hT : Tabs T H) (hfree : ∀ y ∈ sc.names, y.2 = .free → ∃ c, X.env.cells.lookup y.1 = some c)
    (k : ∀ (f cd : Addr) (doc pm ct : Value) (H1 : Hp) (s' : Shared), Inv X pins σ H1 s' → ExtN H H1 → Tabs T H1 → H f = none → H1 f = some (FnO f (lamFd X ar bd sc dV doc pm cd ct)) → H1 cd = some (CodeO cd (X.env.qual ++ "<lambda>")) → Q (.ref f) s') :
    wpAny (model X.prog X.w) X.A (PySem.makeTail "<lambda>" (X.env.qual ++ "<lambda>") ar (.expr bd) sc X.env dV .none none pos pos.line) Q E s := by
  obtain ⟨ps, hP, ht, ha⟩ := hT _ hm
  have bq : s.heap.BuiltinsAt X.mg P := TB.bm.keeps I.bk
  have hP' : s.heap.get? P = some { cls := .none, data := .fields ps } := I.hok P _ hP
  cases hca : codeAmong pos ps.toList with
  | none =>
    refine PySem.W.kdv_makeTail (mg := X.mg) (c := c) (P := P) (ps := ps) (closure_ok hfree) I.ok.glob (I.mod.glob.keeps I.bk) hcode (TB.code.keeps I.bk) hP' ht hca TB.gP bq fun cd ct doc h' tk hx hge hlt hrec htb => ?_
    obtain ⟨c2, oc, vs, t, z, hoc, hd, hv⟩ := hrec
    cases z
    have hsz : s.heap.objs.size ≤ h'.objs.size := Nat.le_trans hge (Nat.le_of_lt hlt)
    have nC : H cd = none := I.hok.fresh hge
    have nF : H h'.objs.size = none := I.hok.fresh hsz
    have nPc : cd ≠ P := fun z => by rw [z, hP] at nC; cases nC
    have J1 := inv_table (t' := tk) (h' := h') (more := #[rawInt pos.line, rawInt pos.col, .ref cd]) I hP (fun b o hb z => hx b o hb z) htb hge ⟨oc, vs, t, hoc, hd, hv⟩
    have gf : (h'.push { cls := .type "function", data := .func (lamFd X ar bd sc dV doc ((X.mg "__name__").getD .none) cd ct) }).get? h'.objs.size = some { cls := .type "function", data := .func (lamFd X ar bd sc dV doc ((X.mg "__name__").getD .none) cd ct) } := Heap.get?_push_size _ rfl
    have J2 := J1.laid (a := h'.objs.size) (o := FnO h'.objs.size (lamFd X ar bd sc dV doc ((X.mg "__name__").getD .none) cd ct)) (t' := tk) (fun b u z => Heap.get?_push_of_some _ z) (Nat.le_refl _) ⟨gf, ⟨_, gf⟩, fun h1 h2 z w => w _ z⟩
    have nfc : cd ≠ h'.objs.size := Nat.ne_of_lt hlt
    have nfP : P ≠ h'.objs.size := Nat.ne_of_lt (Nat.lt_of_lt_of_le (Heap.lt_size hP') hsz)
    have at_ : ∀ b, b ≠ P → b ≠ cd → b ≠ h'.objs.size → upd (upd (upd H P (.tbl (ps ++ #[rawInt pos.line, rawInt pos.col, .ref cd]))) cd (CodeO cd (X.env.qual ++ "<lambda>"))) h'.objs.size (FnO h'.objs.size (lamFd X ar bd sc dV doc ((X.mg "__name__").getD .none) cd ct)) b = H b := fun b z1 z2 z3 => by rw [upd_ne z3, upd_ne z2, upd_ne z1]
    have eX : ExtN H (upd (upd (upd H P (.tbl (ps ++ #[rawInt pos.line, rawInt pos.col, .ref cd]))) cd (CodeO cd (X.env.qual ++ "<lambda>"))) h'.objs.size (FnO h'.objs.size (lamFd X ar bd sc dV doc ((X.mg "__name__").getD .none) cd ct))) := fun b o z n => by
      rw [at_ b (fun w => by rw [w, hP] at z; exact n _ (Option.some.inj z).symm) (ne_of_none z nC) (ne_of_none z nF)]
      exact z
    have cdA : upd (upd (upd H P (.tbl (ps ++ #[rawInt pos.line, rawInt pos.col, .ref cd]))) cd (CodeO cd (X.env.qual ++ "<lambda>"))) h'.objs.size (FnO h'.objs.size (lamFd X ar bd sc dV doc ((X.mg "__name__").getD .none) cd ct)) cd = some (CodeO cd (X.env.qual ++ "<lambda>")) := by rw [upd_ne nfc, upd_same]
    refine k h'.objs.size cd doc ((X.mg "__name__").getD .none) ct _ _ J2 eX ?_ nF upd_same cdA
    refine tabs_more (pos := pos) hT hP ht hu hm eX ?_ (fun b z ⟨ps2, w⟩ => at_ b z (ne_of_none w nC) (ne_of_none w nF)) cdA
    rw [upd_ne nfP, upd_ne nPc.symm, upd_same]
  | some cv =>
    obtain ⟨cd, z, hco⟩ := ha pos cv hca
    subst z
    refine PySem.W.kdv_makeTailHit (mg := X.mg) (c := c) (P := P) (ps := ps) (closure_ok hfree) I.ok.glob (I.mod.glob.keeps I.bk) hcode (TB.code.keeps I.bk) hP' ht hca bq fun ct doc h' tk hx hsz => ?_
    have nF : H h'.objs.size = none := I.hok.fresh hsz
    have gf : (h'.push { cls := .type "function", data := .func (lamFd X ar bd sc dV doc ((X.mg "__name__").getD .none) cd ct) }).get? h'.objs.size = some { cls := .type "function", data := .func (lamFd X ar bd sc dV doc ((X.mg "__name__").getD .none) cd ct) } := Heap.get?_push_size _ rfl
    have J2 := I.laid (a := h'.objs.size) (o := FnO h'.objs.size (lamFd X ar bd sc dV doc ((X.mg "__name__").getD .none) cd ct)) (t' := tk) (fun b u z => Heap.get?_push_of_some _ (hx b u z)) hsz ⟨gf, ⟨_, gf⟩, fun h1 h2 z w => w _ z⟩
    have eX : ∀ b o, H b = some o → upd H h'.objs.size (FnO h'.objs.size (lamFd X ar bd sc dV doc ((X.mg "__name__").getD .none) cd ct)) b = some o := fun b o z => by rw [upd_ne (ne_of_none z nF)]; exact z
    exact k h'.objs.size cd doc ((X.mg "__name__").getD .none) ct _ _ J2 (ExtN.of eX) (hT.ext eX) nF upd_same (eX _ _ hco)
end
/-! the lambda's names: captured ones, globals, its parameters ps -/
structure LamP (sc scope : Scope) (N ps : List Str) : Prop where
  kind : scope.kind = .function
  co : scope.isCoroutine = false
  gen : scope.isGenerator = false
  own : ∀ y ∈ scope.names, y.2 ≠ .cell ∧ (y.2 = .local → y.1 ∈ ps)
  par : ∀ x ∈ ps, x ∉ N ∧ scope.names.lookup x = some .local
  free : ∀ y ∈ scope.names, y.2 = .free → sc.names.lookup y.1 = some .cell ∨ sc.names.lookup y.1 = some .free
def lamPB (sc scope : Scope) (N ps : List Str) : Bool :=
  decide (scope.kind = .function) && !scope.isCoroutine && !scope.isGenerator && (scope.names.all fun y => !decide (y.2 = .cell) && (!decide (y.2 = .local) || ps.contains y.1) && (!decide (y.2 = .free) || decide (sc.names.lookup y.1 = some .cell) || decide (sc.names.lookup y.1 = some .free))) &&
    ps.all fun x => !N.contains x && decide (scope.names.lookup x = some .local)
theorem lamP_by {sc scope : Scope} {N ps : List Str} (h : lamPB sc scope N ps = true) : LamP sc scope N ps := by
  unfold lamPB at h
  simp only [Bool.and_eq_true, Bool.or_eq_true, Bool.not_eq_true', decide_eq_true_eq, decide_eq_false_iff_not, List.all_eq_true, List.contains_iff_mem, List.contains_eq_mem] at h
  obtain ⟨⟨⟨⟨h1, h2⟩, h3⟩, h4⟩, h5⟩ := h
  refine ⟨h1, h2, h3, fun y hy => ⟨(h4 y hy).1.1, fun z => ?_⟩, fun x hx => h5 x hx, fun y hy z => ?_⟩
  · rcases (h4 y hy).1.2 with w | w
    · exact absurd z w
    · exact w
  · rcases (h4 y hy).2 with (w | w) | w
    · exact absurd z w
    · exact .inl w
    · exact .inr w
theorem LamP.has {X : Cx} {scope : Scope} {N ps : List Str} (L : LamP X.env.scope scope N ps) (ok : X.Ok) : ∀ y ∈ scope.names, y.2 = .free → ∃ c, X.env.cells.lookup y.1 = some c := fun y hy z => (L.free y hy z).elim (fun w => ok.has _ (.inl w)) fun w => ok.has _ (.inr w)

section
variable {X : Cx} {pins : List (Addr × Obj)} {σ : L2.St} {H : Hp} {s : Shared}
/-- a lambda's reading: the tables stand, the new function is known from then on -/
def tLamV (X : Cx) (T : List (Addr × Str)) (ar : Arguments) (bd : Expr) (sc : Scope) : TE := fun σ H Q => Tabs T H ∧ ∀ (f cd : Addr) (doc pm ct : Value) (H1 : Hp), ExtN H H1 → Tabs T H1 → H f = none → H1 f = some (FnO f (lamFd X ar bd sc .none doc pm cd ct)) → H1 cd = some (CodeO cd (X.env.qual ++ "<lambda>")) → Q (.ref f) H1
theorem pe_lam0 {T : List (Addr × Str)} {c P : Addr} {N ps : List Str} {ar : Arguments} {bd : Expr} {sc : Scope} {pos : Pos} (TB : TabB X.base X.mg c P) (hcode : X.env.code = .ref c) (hm : (P, X.env.qual ++ "<lambda>") ∈ T) (hu : ∀ p ∈ T, p.1 = P → p.2 = X.env.qual ++ "<lambda>")
    (L : LamP X.env.scope sc N ps) (hd : defaultsOf ar X.env = ([], [])) : PE X (.Lambda ar bd sc pos) (tLamV X T ar bd sc) := by
  refine ⟨fun pins s σ H Q I h => ?_⟩
  obtain ⟨hT, k⟩ := h
  refine PySem.W.kla_eval hd ?_
  rw [makeFunction_eq]
  simp only [List.zip_nil_right, List.filterMap_nil, List.isEmpty_nil, if_true, pure_bind]
  exact lam_tail I TB hcode hm hu hT (L.has I.ok) fun f cd doc pm ct H1 s' I1 e1 T1 n1 h1 h2 => ⟨.ref f, H1, I1, rfl, k f cd doc pm ct H1 e1 T1 n1 h1 h2⟩
/-- a lambda with one default, a written number -/
def tLamD (X : Cx) (T : List (Addr × Str)) (ar : Arguments) (bd : Expr) (sc : Scope) (n : Int) : TE := fun σ H Q => Tabs T H ∧ ∀ (f cd t : Addr) (doc pm ct : Value) (H1 : Hp), ExtN H H1 → Tabs T H1 → H f = none → H1 f = some (FnO f (lamFd X ar bd sc (.ref t) doc pm cd ct)) → H1 cd = some (CodeO cd (X.env.qual ++ "<lambda>")) → H1 t = some (.tup [.int n]) → Q (.ref f) H1
theorem pe_lam1 {T : List (Addr × Str)} {c P : Addr} {N ps : List Str} {ar : Arguments} {bd : Expr} {sc : Scope} {pos p1 : Pos} {n : Int} {j : Nat} (TB : TabB X.base X.mg c P) (hcode : X.env.code = .ref c) (hm : (P, X.env.qual ++ "<lambda>") ∈ T) (hu : ∀ p ∈ T, p.1 = P → p.2 = X.env.qual ++ "<lambda>")
    (L : LamP X.env.scope sc N ps) (hd : ar.defaults = [.Constant (.int n) j p1]) (hk : ar.kw_defaults = []) : PE X (.Lambda ar bd sc pos) (tLamD X T ar bd sc n) := by
  refine ⟨fun pins s σ H Q I h => ?_⟩
  obtain ⟨hT, k⟩ := h
  refine PySem.W.kdv_lam (by rw [hd]; rfl) hk ?_
  rw [hd]
  refine PySem.W.kdv_all1 ?_
  refine wpAny_mono ((pe_int (X := X) (i := n) (j := j) (pos := p1)).run pins s σ H (fun v H1 => v = .int n ∧ H1 = H) I ⟨rfl, rfl⟩) (fun u s1 hq => ?_) fun _ _ z => z
  obtain ⟨v, H1, I1, rv, rfl, rfl⟩ := hq
  refine PySem.W.kdv_all0 ?_
  rw [makeFunction_eq]
  simp only [List.zip_nil_right, List.filterMap_nil, List.isEmpty_nil, List.isEmpty_cons, if_true, pure_bind, Bool.false_eq_true, if_false]
  refine wpAny_bind (wpAny_newTextTuple ?_)
  have nt : H1 s1.heap.objs.size = none := I1.hok.fresh (Nat.le_refl _)
  have I2 := I1.laid (a := s1.heap.objs.size) (o := .tup [.int n]) (t' := s1.toks) (h' := s1.heap.push { cls := .type "tuple", data := .seq #[u] }) (fun b w z => Heap.get?_push_of_some _ z) (Nat.le_refl _) ⟨by show 1 ≤ sizeLine; decide, [u], .cons rv .nil, ⟨_, Heap.get?_push_size _ rfl, rfl, _, rfl⟩⟩
  have e2 : ∀ b o, H1 b = some o → upd H1 s1.heap.objs.size (.tup [.int n]) b = some o := fun b o z => by rw [upd_ne (ne_of_none z nt)]; exact z
  refine lam_tail I2 TB hcode hm hu (hT.ext e2) (L.has I2.ok) fun f cd doc pm ct H3 s' I3 e3 T3 n3 h3 h4 => ⟨.ref f, H3, I3, rfl, k f cd s1.heap.objs.size doc pm ct H3 ((ExtN.of e2).trans e3) T3 ?_ h3 h4 (e3 _ _ upd_same fun _ z => by cases z)⟩
  cases q : H1 f with
  | none => rfl
  | some o => rw [e2 _ _ q] at n3; cases n3
end
/-! calling one -/
/-- what a lambda's parameters are bound to: none, or one default that stands at dV -/
inductive DflAt (H : Hp) (dV : Value) : List Str → Prop
  | no (h : dV = .none) : DflAt H dV []
  | one {x : Str} {n : Int} {t : Addr} (h : dV = .ref t) (ht : H t = some (.tup [.int n])) : DflAt H dV [x]
section
variable {X : Cx} {pins : List (Addr × Obj)} {σ : L2.St} {H : Hp} {s : Shared}
/-- the body's context, entered out of the very frame that made the lambda -/
theorem lam_in {A : Around} {outer : List Env} {E : XK} {scope : Scope} {N' ps : List Str} {f cd : Addr} {h1 : Heap} {tk : Nat} {binds : List (Str × Value)} (I : Inv X pins σ H s) (L : LamP X.env.scope scope X.N ps) (ev : Env0 X.prog X.w X.K X.mg X.base A outer s H) (hh : A.handled = none)
    (hb : ∀ y ∈ binds, y.1 ∈ ps) (hns : h1.Ns s.heap.objs.size fun y => binds.reverse.lookup y) (kp : ∀ b o, s.heap.get? b = some o → h1.get? b = some o) :
    Inv (lamCx X A outer s H E scope f cd) [] σ H { s with heap := h1, toks := tk } := by
  have fr := L.has I.ok
  have sub : ∀ {y c}, (cloFrom X.env.cells scope.names []).lookup y = some c → X.env.cells.lookup y = some c := fun {y c} z => by
    rcases cloFrom_mem (PySem.mem_of_lookup z) with w | ⟨w1, w2⟩
    · cases w
    · obtain ⟨c1, hc1⟩ := fr _ w1 rfl
      have hc1 : X.env.cells.lookup y = some c1 := hc1
      have : c = c1 := by rw [w2, hc1] <;> rfl
      rw [this]
      exact hc1
  have sup : ∀ {y}, scope.names.lookup y = some .free → ∃ c, (cloFrom X.env.cells scope.names []).lookup y = some c := fun {y} z => mem_lookup (cloFrom_has (cells := X.env.cells) (acc := []) (PySem.mem_of_lookup z))
  have cl : ∀ {c : Addr} {v : Option Value}, s.heap.IsCell c v → h1.IsCell c v := fun {c v} ⟨o, ho, hd⟩ => ⟨_, kp _ _ ho, hd⟩
  have noB : ∀ b : Addr, b ∉ (lamCx X A outer s H E scope f cd).ex := fun b z => nomatch (show b ∈ ([] : List Addr) from z)
  have cellOf : ∀ {y c}, X.env.cells.lookup y = some c → ∃ v, s.heap.IsCell c v := fun {y c} z => I.cell y c z
  constructor
  · constructor
    · exact ev.mod
    · exact L.kind
    · rfl
    · rfl
    · exact Nat.le_refl _
    · exact fun y z c e1 e2 => I.ok.inj y z c (sub e1) (sub e2)
    · intro y hy
      have hy : scope.names.lookup y = some .cell ∨ scope.names.lookup y = some .free := hy
      rcases hy with hy | hy
      · exact absurd rfl (L.own _ (PySem.mem_of_lookup hy)).1
      · exact sup hy
    · exact fun y c z _ => nomatch (show false = true from z)
    · exact fun _ => hh
    · exact Around.frames_deeper ev.frames
    · exact .inr ⟨rfl, rfl⟩
    · exact fun b z => absurd z (noB b)
    · exact ev.bs
    · exact ev.bsz
    · exact fun b _ _ => noB b
    · exact fun b z => absurd z (noB b)
    · exact ev.funs
    · exact ev.frf
  · rfl
  · exact ev.bare
  · exact Un.kept kp
  · refine ⟨_, hns, fun i y v e1 e2 e3 => ?_⟩
    have e3 : Vis scope y := e3
    have e1 : X.N[i]? = some y := e1
    rcases e3 with w | w | w
    · exact absurd (List.mem_of_getElem? e1) (L.par y ((L.own _ (PySem.mem_of_lookup w)).2 rfl)).1
    · exact absurd rfl (L.own _ (PySem.mem_of_lookup w)).1
    · obtain ⟨m, hn, hl⟩ := I.loc
      obtain ⟨u, r, q⟩ := hl i y v e1 e2 ((L.free _ (PySem.mem_of_lookup w) rfl).elim (fun z => .inr (.inl z)) fun z => .inr (.inr z))
      obtain ⟨c2, h2⟩ := sup w
      have c1 := sub h2
      refine ⟨u, r, .inr ⟨.inr w, c2, h2, ?_⟩⟩
      rcases q with ⟨z, _⟩ | ⟨_, c3, e', z⟩
      · have z : X.env.scope.names.lookup y = some .local := z
        rcases L.free _ (PySem.mem_of_lookup w) rfl with z2 | z2 <;> rw [show X.env.scope.names.lookup y = _ from z2] at z <;> cases z
      · rw [c1] at e'
        cases e'
        exact cl z
  · exact fun y c z => let ⟨v, q⟩ := cellOf (sub z); ⟨v, cl q⟩
  · exact ev.hok.fresh (Nat.le_refl _)
  · exact fun y c z => I.freeC y c (sub z)
  · exact fun q hq => nomatch (show q ∈ ([] : List (Addr × Obj)) ++ [] from hq)
  · exact ev.hok.kept kp
  · exact I.len
/-- x(): the slot i holds the lambda -/
def tWork (en : Env) (W : WX) (i : Nat) (ps : List Str) (ar : Arguments) (bd : Expr) (sc : Scope) (tb : XK → TE) : TE := fun σ H Q => ∃ (f cd : Addr) (dV doc pm ct : Value), σ[i]? = some (some (.ref f)) ∧ H f = some (FnO f (lamFdE en ar bd sc dV doc pm cd ct)) ∧ H cd = some (CodeO cd (en.qual ++ "<lambda>")) ∧ DflAt H dV ps ∧ tb (WE W σ) σ H Q
theorem pe_work {en : Env} {i k : Nat} {x : Str} {W : WX} {ps : List Str} {ar : Arguments} {bd : Expr} {sc : Scope} {tb : XK → TE} {p1 p2 : Pos} (hen : X.env = en) (L : LamP X.env.scope sc X.N ps) (hN : X.N[i]? = some x) (hv : Vis X.env.scope x) (tk : Takes X W) (hr : Room (k + 1) X.A)
    (hb0 : ∀ (dV doc pm cv ct : Value), ps = [] → dV = .none → bindArgs (PySem.W.kdv_fn "<lambda>" (X.env.qual ++ "<lambda>") ar (.expr bd) sc (cloFrom X.env.cells sc.names []) dV doc pm cv ct) ⟨[], []⟩ = pure [])
    (hb1 : ∀ (dV doc pm cv ct : Value) (x : Str), ps = [x] → ∃ kk : Option (Array Value) → Sem (List (Str × Value)), bindArgs (PySem.W.kdv_fn "<lambda>" (X.env.qual ++ "<lambda>") ar (.expr bd) sc (cloFrom X.env.cells sc.names []) dV doc pm cv ct) ⟨[], []⟩ = seqItems? dV >>= kk ∧ ∀ u, kk (some #[u]) = pure [(x, u)])
    (hbody : ∀ (s : Shared) (H : Hp) (f cd : Addr) (E : XK), Room k (X.A.deeper (lamEnv X sc s.heap.objs.size f cd)) → PE (lamCx X X.A X.stack s H E sc f cd) bd (tb E))
    (hd : (x == ("__debug__" : Str)) = false := by decide) (hcd : (x == ("__classdict__" : Str)) = false := by decide) : PE X (.Call (.Name x p1) [] [] p2) (tWork en W i ps ar bd sc tb) := by
  subst hen
  refine ⟨fun pins s σ H Q I h => ?_⟩
  obtain ⟨f, cd, dV, doc, pm, ct, hs, hf, hc, hdf, ht⟩ := h
  refine wpAny_Call_Name_kw (thn ((pe_var (pos := p1) (i := i) hN hv hd hcd).run pins s σ H (fun v H1 => v = .ref f ∧ H1 = H) I ⟨.ref f, hs, rfl, rfl⟩) fun u s1 ⟨v, H1, I1, r1, q1⟩ => ?_)
  obtain ⟨rfl, rfl⟩ := q1
  obtain rfl : u = Value.ref f := r1
  have of1 : s1.heap.get? f = some { cls := .type "function", data := .func (lamFd X ar bd sc dV doc pm cd ct) } := (I1.hok f _ hf).1
  refine PySem.W.callWith_F0 ⟨_, _, _, _, of1⟩ ?_
  obtain ⟨⟨oc, vs, t, hoc, hdc, hvc⟩, _, _⟩ := I1.hok cd _ hc
  have binds : ∃ bs : List (Str × Value), BindsTo s1 (lamFd X ar bd sc dV doc pm cd ct) ⟨[], []⟩ bs ∧ ∀ y ∈ bs, y.1 ∈ ps := by
    cases hdf with
    | no e => exact ⟨[], .of_eq (hb0 dV doc pm (.ref cd) ct rfl e), fun y hy => nomatch hy⟩
    | @one x n t e ht =>
      obtain ⟨kk, b1, b2⟩ := hb1 dV doc pm (.ref cd) ct x rfl
      obtain ⟨_, its, rv, o, ho, _, nn, hod⟩ := I1.hok t _ ht
      cases rv with
      | cons r rr =>
        cases rr
        exact ⟨_, BindsTo.of_defaults (fd := lamFd X ar bd sc dV doc pm cd ct) e ho hod b1 (b2 _), fun y hy => by rw [List.mem_singleton.mp hy]; exact List.mem_singleton.mpr rfl⟩
  obtain ⟨bs, hbs, hps⟩ := binds
  have rc : codeAny (model X.prog X.w) X.A (.call (.ref f) ⟨[], []⟩) (CR (L2.CX X.prog X.w) X.stack X.prog X.w H1 s1 Q (WE W σ)) s1 := by
    refine PySem.W.kla_callFunE hr.depth of1 rfl L.co L.gen rfl ⟨cd, oc, vs, t, rfl, hoc, hdc, hvc⟩ (hbs _ _ _ _ ?_)
    refine wpAny_newFunctionEnv (fun y hy => (L.own y hy).1) (fun y hy => (L.par _ (hps y hy)).2) (fun h1 hns hsb => ⟨I1.nolimit.fresh _ hsb, ?_⟩) L.kind
    have kp : ∀ b o, s1.heap.get? b = some o → h1.get? b = some o := fun b o z => hsb.extBut b o (Nat.ne_of_lt (Heap.lt_size z)) (Heap.get?_push_of_some _ z)
    have J : Inv (lamCx X X.A X.stack s1 H1 (WE W σ) sc f cd) [] σ H1 { s1 with heap := h1, toks := s1.toks + bs.length } := lam_in (N' := []) I1 L I1.env0 hr.hd hps hns kp
    refine PySem.W.kla_codeExpr (wpAny_mono ((hbody s1 H1 f cd (WE W σ) (hr.deeper _)).run [] _ _ H1 Q J ht) (fun v s' hq => ?_) fun _ _ z => z)
    obtain ⟨u', H', J', rv, q⟩ := hq
    exact ⟨u', H', J'.os, J'.bare, J'.base, J'.hok, rv, q⟩
  refine wpAny_call (codeAny_mono rc fun r s' hq => ?_)
  cases r with
  | error er => exact tk er s' (XE.of_call I1 (fun _ _ _ z => z) hq)
  | ok fl =>
    cases fl with
    | ret u => exact I1.after hq
    | next => exact False.elim hq
    | brk => exact False.elim hq
    | cont => exact False.elim hq
end
theorem pe_either {X : Cx} {e : Expr} {t1 t2 : TE} (h1 : PE X e t1) (h2 : PE X e t2) : PE X e (fun σ H Q => t1 σ H Q ∨ t2 σ H Q) :=
  ⟨fun pins s σ H Q I h => h.elim (h1.run pins s σ H Q I) (h2.run pins s σ H Q I)⟩
end Fm
set_option Elab.async false
set_option linter.all false
set_option maxRecDepth 100000
set_option maxHeartbeats 1000000
namespace Fm
open PySem PySem.Spec PyProof.Rows L2 LamX
/-! a lambda, with a default or not, handed to a def that calls it -/
section
variable {X : Cx} {pins : List (Addr × Obj)} {σ : L2.St} {H HZ : Hp} {s s1 : Shared}
/-- the body's context, entered out of the frames of the def that got the lambda -/
theorem lam_in2 {A : Around} {outer : List Env} {E : XK} {scope : Scope} {ps : List Str} {f cd : Addr} {h1 : Heap} {tk : Nat} {binds : List (Str × Value)} (I : Inv X pins σ H s) (L : LamP X.env.scope scope X.N ps) (ev : Env0 X.prog X.w X.K X.mg X.base A outer s1 HZ) (hh : A.handled = none)
    (un : Un (frs X.stack) [] H HZ s.heap s1.heap) (hb : ∀ y ∈ binds, y.1 ∈ ps) (hns : h1.Ns s1.heap.objs.size fun y => binds.reverse.lookup y) (kp : ∀ b o, s1.heap.get? b = some o → h1.get? b = some o) :
    Inv (lamCx X A outer s1 HZ E scope f cd) [] σ HZ { s1 with heap := h1, toks := tk } := by
  have fr := L.has I.ok
  have sub : ∀ {y c}, (cloFrom X.env.cells scope.names []).lookup y = some c → X.env.cells.lookup y = some c := fun {y c} z => by
    rcases cloFrom_mem (PySem.mem_of_lookup z) with w | ⟨w1, w2⟩
    · cases w
    · obtain ⟨c1, hc1⟩ := fr _ w1 rfl
      have hc1 : X.env.cells.lookup y = some c1 := hc1
      have : c = c1 := by rw [w2, hc1] <;> rfl
      rw [this]
      exact hc1
  have sup : ∀ {y}, scope.names.lookup y = some .free → ∃ c, (cloFrom X.env.cells scope.names []).lookup y = some c := fun {y} z => mem_lookup (cloFrom_has (cells := X.env.cells) (acc := []) (PySem.mem_of_lookup z))
  have cl : ∀ {c : Addr} {v : Option Value}, H c = none → s.heap.IsCell c v → h1.IsCell c v := fun {c v} n ⟨o, ho, hd⟩ => by
    obtain ⟨sl, q⟩ := un.any ho n (by simp)
    exact ⟨_, kp _ _ q, hd⟩
  have noB : ∀ b : Addr, b ∉ (lamCx X A outer s1 HZ E scope f cd).ex := fun b z => nomatch (show b ∈ ([] : List Addr) from z)
  have cellOf : ∀ {y c}, X.env.cells.lookup y = some c → ∃ v, s.heap.IsCell c v := fun {y c} z => I.cell y c z
  constructor
  · constructor
    · exact ev.mod
    · exact L.kind
    · rfl
    · rfl
    · exact Nat.le_refl _
    · exact fun y z c e1 e2 => I.ok.inj y z c (sub e1) (sub e2)
    · intro y hy
      have hy : scope.names.lookup y = some .cell ∨ scope.names.lookup y = some .free := hy
      rcases hy with hy | hy
      · exact absurd rfl (L.own _ (PySem.mem_of_lookup hy)).1
      · exact sup hy
    · exact fun y c z _ => nomatch (show false = true from z)
    · exact fun _ => hh
    · exact Around.frames_deeper ev.frames
    · exact .inr ⟨rfl, rfl⟩
    · exact fun b z => absurd z (noB b)
    · exact ev.bs
    · exact ev.bsz
    · exact fun b _ _ => noB b
    · exact fun b z => absurd z (noB b)
    · exact ev.funs
    · exact ev.frf
  · rfl
  · exact ev.bare
  · exact Un.kept kp
  · refine ⟨_, hns, fun i y v e1 e2 e3 => ?_⟩
    have e3 : Vis scope y := e3
    have e1 : X.N[i]? = some y := e1
    rcases e3 with w | w | w
    · exact absurd (List.mem_of_getElem? e1) (L.par y ((L.own _ (PySem.mem_of_lookup w)).2 rfl)).1
    · exact absurd rfl (L.own _ (PySem.mem_of_lookup w)).1
    · obtain ⟨m, hn, hl⟩ := I.loc
      obtain ⟨u, r, q⟩ := hl i y v e1 e2 ((L.free _ (PySem.mem_of_lookup w) rfl).elim (fun z => .inr (.inl z)) fun z => .inr (.inr z))
      obtain ⟨c2, h2⟩ := sup w
      have c1 := sub h2
      refine ⟨u, r, .inr ⟨.inr w, c2, h2, ?_⟩⟩
      rcases q with ⟨z, _⟩ | ⟨_, c3, e', z⟩
      · have z : X.env.scope.names.lookup y = some .local := z
        rcases L.free _ (PySem.mem_of_lookup w) rfl with z2 | z2 <;> rw [show X.env.scope.names.lookup y = _ from z2] at z <;> cases z
      · rw [c1] at e'
        cases e'
        exact cl (I.freeC y _ c1) z
  · exact fun y c z => let ⟨v, q⟩ := cellOf (sub z); ⟨v, cl (I.freeC y c (sub z)) q⟩
  · exact ev.hok.fresh (Nat.le_refl _)
  · intro y c z
    obtain ⟨v, o, ho, hd⟩ := cellOf (sub z)
    exact un.free c o ho (I.freeC y c (sub z)) (by simp)
  · exact fun q hq => nomatch (show q ∈ ([] : List (Addr × Obj)) ++ [] from hq)
  · exact ev.hok.kept kp
  · exact I.len
/-- how it binds -/
structure LBind (X : Cx) (ps : List Str) (ar : Arguments) (bd : Expr) (sc : Scope) : Prop where
  b0 : ∀ (dV doc pm cv ct : Value), ps = [] → dV = .none → bindArgs (PySem.W.kdv_fn "<lambda>" (X.env.qual ++ "<lambda>") ar (.expr bd) sc (cloFrom X.env.cells sc.names []) dV doc pm cv ct) ⟨[], []⟩ = pure []
  b1 : ∀ (dV doc pm cv ct : Value) (x : Str), ps = [x] → ∃ kk : Option (Array Value) → Sem (List (Str × Value)), bindArgs (PySem.W.kdv_fn "<lambda>" (X.env.qual ++ "<lambda>") ar (.expr bd) sc (cloFrom X.env.cells sc.names []) dV doc pm cv ct) ⟨[], []⟩ = seqItems? dV >>= kk ∧ ∀ u, kk (some #[u]) = pure [(x, u)]
/-- x(), in the def that got the lambda -/
theorem pe_act2 {CXg : CXT} {Eg : XK} {Ng : List Str} {qg : Str} {sg : Scope} {g f cd : Addr} {cdg dV doc pm ct : Value} {ar : Arguments} {bd : Expr} {sc : Scope} {ps : List Str} {k i : Nat} {a : Str} {pn : List (Addr × Obj)} {xe : Value → Shared → Prop} {W : WX} {tb : XK → TE} {p1 p2 : Pos}
    (I : Inv X pins σ H s) (L : LamP X.env.scope sc X.N ps) (B : LBind X ps ar bd sc)
    (tk : Takes ((cxOf CXg X.prog X.w X.K X.mg X.base Ng qg sg g cdg X.A X.stack s H Eg).tr pn xe) W) (hr : Room (k + 1) (X.A.deeper (envOfC qg sg s.heap.objs.size g cdg)))
    (hbody : ∀ (A : Around) (outer : List Env) (s : Shared) (H : Hp) (E : XK), Room k (A.deeper (lamEnv X sc s.heap.objs.size f cd)) → PE (lamCx X A outer s H E sc f cd) bd (tb E))
    (hN : Ng[i]? = some a) (hv : Vis sg a) (hd : (a == ("__debug__" : Str)) = false := by decide) (hcd : (a == ("__classdict__" : Str)) = false := by decide) :
    PE ((cxOf CXg X.prog X.w X.K X.mg X.base Ng qg sg g cdg X.A X.stack s H Eg).tr pn xe) (.Call (.Name a p1) [] [] p2)
      (fun σZ HZ Q => σZ[i]? = some (some (.ref f)) ∧ HZ cd = some (CodeO cd (X.env.qual ++ "<lambda>")) ∧ HZ f = some (FnO f (lamFd X ar bd sc dV doc pm cd ct)) ∧ DflAt HZ dV ps ∧ tb (WE W σZ) σ HZ Q) := by
  refine ⟨fun pinsZ sZ σZ HZ Q IZ h => ?_⟩
  obtain ⟨hs, hc, hf, hdf, ht⟩ := h
  refine wpAny_Call_Name_kw (thn ((pe_var (pos := p1) (i := i) hN hv hd hcd).run pinsZ sZ σZ HZ (fun v H1 => v = .ref f ∧ H1 = HZ) IZ ⟨.ref f, hs, rfl, rfl⟩) fun u s1 ⟨v, H1, I1, r1, q1⟩ => ?_)
  obtain ⟨rfl, rfl⟩ := q1
  obtain rfl : u = Value.ref f := r1
  have of1 : s1.heap.get? f = some { cls := .type "function", data := .func (lamFd X ar bd sc dV doc pm cd ct) } := (I1.hok f _ hf).1
  refine PySem.W.callWith_F0 ⟨_, _, _, _, of1⟩ ?_
  have un : Un (frs X.stack) [] H H1 s.heap s1.heap := I1.base
  obtain ⟨⟨oc, vs, t, hoc, hdc, hvc⟩, _, _⟩ := I1.hok cd _ hc
  have binds : ∃ bs : List (Str × Value), BindsTo s1 (lamFd X ar bd sc dV doc pm cd ct) ⟨[], []⟩ bs ∧ ∀ y ∈ bs, y.1 ∈ ps := by
    cases hdf with
    | no e => exact ⟨[], .of_eq (B.b0 dV doc pm (.ref cd) ct rfl e), fun y hy => nomatch hy⟩
    | @one x n t e ht =>
      obtain ⟨kk, b1, b2⟩ := B.b1 dV doc pm (.ref cd) ct x rfl
      obtain ⟨_, its, rv, o, ho, _, nn, hod⟩ := I1.hok t _ ht
      cases rv with
      | cons r rr =>
        cases rr
        exact ⟨_, BindsTo.of_defaults (fd := lamFd X ar bd sc dV doc pm cd ct) e ho hod b1 (b2 _), fun y hy => by rw [List.mem_singleton.mp hy]; exact List.mem_singleton.mpr rfl⟩
  obtain ⟨bs, hbs, hps⟩ := binds
  have rc : codeAny (model X.prog X.w) (X.A.deeper (envOfC qg sg s.heap.objs.size g cdg)) (.call (.ref f) ⟨[], []⟩) (CR (L2.CX X.prog X.w) (envOfC qg sg s.heap.objs.size g cdg :: X.stack) X.prog X.w H1 s1 Q (WE W σZ)) s1 := by
    refine PySem.W.kla_callFunE hr.depth of1 rfl L.co L.gen rfl ⟨cd, oc, vs, t, rfl, hoc, hdc, hvc⟩ (hbs _ _ _ _ ?_)
    refine wpAny_newFunctionEnv (fun y hy => (L.own y hy).1) (fun y hy => (L.par _ (hps y hy)).2) (fun h1 hns hsb => ⟨I1.nolimit.fresh _ hsb, ?_⟩) L.kind
    have kp : ∀ b o, s1.heap.get? b = some o → h1.get? b = some o := fun b o z => hsb.extBut b o (Nat.ne_of_lt (Heap.lt_size z)) (Heap.get?_push_of_some _ z)
    have J : Inv (lamCx X (X.A.deeper (envOfC qg sg s.heap.objs.size g cdg)) (envOfC qg sg s.heap.objs.size g cdg :: X.stack) s1 H1 (WE W σZ) sc f cd) [] σ H1 { s1 with heap := h1, toks := s1.toks + bs.length } := lam_in2 I L I1.env0 hr.hd un hps hns kp
    refine PySem.W.kla_codeExpr (wpAny_mono ((hbody _ _ s1 H1 _ (hr.deeper _)).run [] _ _ H1 Q J ht) (fun v s' hq => ?_) fun _ _ z => z)
    obtain ⟨u', H', J', rv, q⟩ := hq
    exact ⟨u', H', J'.os, J'.bare, J'.base, J'.hok, rv, q⟩
  refine wpAny_call (codeAny_mono rc fun r s' hq => ?_)
  cases r with
  | error er => exact tk er s' (XE.of_call I1 (fun _ _ _ z => z) hq)
  | ok fl =>
    cases fl with
    | ret u => exact I1.after hq
    | next => exact False.elim hq
    | brk => exact False.elim hq
    | cont => exact False.elim hq
end
/-- the def that calls what it got: a calls it; TT: what it makes of the lambda's reading -/
def Gives2 (X : Cx) (Ng : List Str) (x : Str) (sg : Scope) (g : Addr) (cdg : Value) (bg : List Stmt) (a : Str) (q : Str) (TT : (XK → Hp → VK → Prop) → Hp → VK → Prop) : Prop :=
  ∀ (f c' : Addr) (s : Shared) (H : Hp) (Q : VK) (tl : XK → Hp → VK → Prop),
    (∀ (W : WX) (pn : List (Addr × Obj)) (xe : Value → Shared → Prop) (p1 p2 : Pos), Takes ((cxOf C8.CX0 X.prog X.w X.K X.mg X.base Ng x sg g cdg X.A X.stack s H C8.E0).nox.tr pn xe) W →
      PE ((cxOf C8.CX0 X.prog X.w X.K X.mg X.base Ng x sg g cdg X.A X.stack s H C8.E0).nox.tr pn xe) (.Call (.Name a p1) [] [] p2) (fun σZ HZ Q => σZ[0]? = some (some (.ref f)) ∧ HZ c' = some (CodeO c' q) ∧ tl (WE W σZ) HZ Q)) →
    H c' = some (CodeO c' q) → TT tl H Q →
    ∃ t, PSs (cxOf C8.CX0 X.prog X.w X.K X.mg X.base Ng x sg g cdg X.A X.stack s H C8.E0).nox bg t ∧ t { nx := fun _ H' => Q .non H', rt := Q } (L2.start Ng [.ref f]) H
/-- x(a lambda): TT is what the def makes of the lambda's reading -/
theorem pe_handed {X : Cx} {en : Env} {TT : (XK → Hp → VK → Prop) → Hp → VK → Prop} {x a : Str} {g : Addr} {k : Nat} {pg : Arguments} {bg : List Stmt} {sg : Scope} {dV kV doc pm cdv ct oc : Value} {an od : Option Addr} {osl : Array (Option Value)} {Ng ps : List Str}
    {ar : Arguments} {bd : Expr} {sc : Scope} {e : Expr} {te : TE} {tb : XK → TE} {p pos : Pos} (hen : X.env = en) (he : PE X e te) (hg : Gl X x) (hm : X.mg x = some (.ref g)) (hk : PySem.W.keepIn X.K (.ref g) = true)
    (lk : X.K.lookup g = some ⟨oc, od, .func (PySem.W.fnOf x x pg bg sg dV kV doc pm an cdv ct), osl⟩) (hcg : PySem.W.codeIn X.K cdv x = true) (hb : L2.Binds X.K (PySem.W.fnOf x x pg bg sg dV kV doc pm an cdv ct) [a] []) (Sg : FnScope Ng [a] sg) (hNg : Ng[0]? = some a) (hva : Vis sg a)
    (hG : Gives2 X Ng x sg g cdv bg a (X.env.qual ++ "<lambda>") TT) (hr : Room (k + 2) X.A) (L : LamP X.env.scope sc X.N ps) (B : LBind X ps ar bd sc)
    (hbody : ∀ (A : Around) (outer : List Env) (s : Shared) (H : Hp) (E : XK) (f c' : Addr), Room k (A.deeper (lamEnv X sc s.heap.objs.size f c')) → PE (lamCx X A outer s H E sc f c') bd (tb E))
    (hst : starEach [e] X.env = (false, eval e X.env) :: starEach [] X.env := by rfl) (hpl : (backTo pos (starEach [] X.env)).any (·.1) = false := by rfl)
    (hdb : (x == ("__debug__" : Str)) = false := by decide) (hd : (a == ("__debug__" : Str)) = false := by decide) (hcd : (a == ("__classdict__" : Str)) = false := by decide) :
    PE X (.Call (.Name x p) [e] [] pos) (fun σ H Q => te σ H fun v H1 => ∃ (f cd : Addr) (dV doc pm ct : Value), v = .ref f ∧ H1 f = some (FnO f (lamFdE en ar bd sc dV doc pm cd ct)) ∧ H1 cd = some (CodeO cd (en.qual ++ "<lambda>")) ∧
      TT (fun E H' Q' => H' f = some (FnO f (lamFdE en ar bd sc dV doc pm cd ct)) ∧ DflAt H' dV ps ∧ tb E σ H' Q') H1 Q) := by
  subst hen
  refine ⟨fun pins s σ H Q I h => ?_⟩
  refine wpAny_Call_Name_kw (ld_glob I hg hm ?_ hdb)
  refine PySem.W.callWith_K (h₀ := X.base) I.ok.mod.kin hk ?_ hst hpl
  refine PyProof.Rows.args_cons (thn (he.run pins s σ H _ I h) fun u s1 ⟨v, H1, I1, r1, q1⟩ => PyProof.Rows.args_nil ?_) hst
  obtain ⟨f, cd, dV', doc', pm', ct', rfl, hf, hc, hTT⟩ := q1
  obtain rfl : u = Value.ref f := r1
  refine ⟨I1.kIn, ?_⟩
  have rc : codeAny (model X.prog X.w) X.A (.call (.ref g) ⟨[.ref f], []⟩) (CR C8.CX0 X.stack X.prog X.w H1 s1 Q C8.E0) s1 := by
    refine run_ofS (N := Ng) (ps := [a]) (us := [.ref f]) (vs := [.ref f]) lk hcg Sg hr I1.env0 (hb s1 [.ref f] I1.kIn rfl) (.cons rfl .nil) rfl fun hr' => ?_
    obtain ⟨t', ht', hq'⟩ := hG f cd s1 H1 Q (fun E H' Q' => H' f = some (FnO f (lamFdE X.env ar bd sc dV' doc' pm' cd ct')) ∧ DflAt H' dV' ps ∧ tb E σ H' Q') (fun W pn xe p1 p2 tk => pe_act2 (CXg := C8.CX0) (Eg := C8.E0) (i := 0) I1 L B tk hr' (fun A outer s H E hr2 => hbody A outer s H E f cd hr2) hNg hva hd hcd) hc hTT
    exact ⟨t', ht'.nox, hq'⟩
  refine wpAny_call (codeAny_mono rc fun r s2 hq => ?_)
  cases r with
  | error e => exact (show False from hq).elim
  | ok fl =>
    cases fl with
    | ret u => exact I1.after hq
    | next => exact False.elim hq
    | brk => exact False.elim hq
    | cont => exact False.elim hq
end Fm
set_option Elab.async false
set_option linter.all false
set_option maxRecDepth 100000
set_option maxHeartbeats 1000000
namespace Fm
open PySem PySem.Spec PyProof.Rows L2 Evl TL LamX
/-- an error that _law_said tells: what it answers -/
def SaidE (K : PySem.W.Frag) (CBL CBS : Addr) (Q : VK) (cls : Value) (d : Option Addr) (H' : Hp) : Prop :=
  (cls = .ref CBL ∧ ∃ (dd : Addr) (l p : V), d = some dd ∧ H' dd = some (.xd [(("line" : Str), l), ("place", p)]) ∧ ∀ u H2, Ex H' H2 → H2 u = some (.tup [l, p]) → Q (.ref u) H2) ∨
  (PySem.W.exmOne K cls (.ref CBL) = some false ∧ PySem.W.exmOne K cls (.ref CBS) = some true ∧ ∀ H2, Ex H' H2 → Q (.str "string") H2)
/-- what _law_said makes of its work: None, the line and the word, or 'string' -/
def TTsaid (K : PySem.W.Frag) (CBL CBS : Addr) : (XK → Hp → VK → Prop) → Hp → VK → Prop := fun tl H Q => ∀ (E : XK) (Q0 : VK), (∀ v H', (∀ H2, Ex H' H2 → Q .non H2) → Q0 v H') → (∀ cls d H', SaidE K CBL CBS Q cls d H' → E cls d H') → tl E H Q0
abbrev s_law_said : Stmt := top 48
theorem sc_law_said : FnScope ["work", "e"] ["work"] (defScope s_law_said) := ⟨rfl, rfl, rfl, by decide +kernel, rfl, by decide +kernel, by decide +kernel⟩
theorem said_gives {X : Cx} {CBL CBS fI cc cda g : Addr} {cdg : Value} {q : Str} (T_BadLine : NS_BadLine.Ty X.prog X.K X.mg CBL fI cc cda) (B_BadString : BaseE X.K X.mg "BadString" CBS) : Gives2 X ["work", "e"] "_law_said" (defScope s_law_said) g cdg (defBody s_law_said) "work" q (TTsaid X.K CBL CBS) := by
  intro f c' s H Q tl act hc h
  refine ⟨_, pss_cons (ps_try_manyAs (l := [⟨.ref CBL, 1, fun a cl d => tRet (tTup (tCons (NS_BadLine.tBy CBL a cl d (tVar 1)) (tCons (NS_BadLine.tByE CBL a cl d (tVar 1)) tNil)))⟩, ⟨.ref CBS, 1, fun _ _ _ => tRet (tC (.str "string"))⟩]) (Wo := fun _ _ _ _ => False) rfl rfl sc_law_said.nd takes_none5 (fun W pn xe tk _ => pss_one (ps_expr (act W pn xe _ _ tk))) ?hcl) (pss_one (ps_ret pe_non)), ?hq⟩
  case hcl =>
    refine ClsOk.cons (q := ⟨.ref CBL, 1, fun a cl d => tRet (tTup (tCons (NS_BadLine.tBy CBL a cl d (tVar 1)) (tCons (NS_BadLine.tByE CBL a cl d (tVar 1)) tNil)))⟩) ⟨rfl, by decide, Or.inl T_BadLine.gC⟩ rfl rfl ?c1
      (ClsOk.cons0 (i := 1) (c := .ref CBS) (t := tRet (tC (.str "string"))) ⟨rfl, by decide, Or.inl B_BadString.gC⟩ rfl rfl (fun a oe pn => pss_one (ps_ret pe_str)) ClsOk.nil)
    intro a ob cl d pn hz hf
    dsimp only
    refine pss_one (ps_ret (pe_tup (pa_cons ?b1 (pa_cons ?b2 pa_nil))))
    case b1 => exact NS_BadLine.pe_by (X := (cxOf C8.CX0 X.prog X.w X.K X.mg X.base ["work", "e"] "_law_said" (defScope s_law_said) g cdg X.A X.stack s H C8.E0).nox) T_BadLine hz hf (pe_var (i := 1) rfl (.inl rfl))
    case b2 => exact NS_BadLine.pe_byE (X := (cxOf C8.CX0 X.prog X.w X.K X.mg X.base ["work", "e"] "_law_said" (defScope s_law_said) g cdg X.A X.stack s H C8.E0).nox) T_BadLine hz hf (pe_var (i := 1) rfl (.inl rfl))
  case hq =>
  dsimp only
  refine ⟨rfl, hc, ?_⟩
  refine h _ _ (fun v H' hq => ?_) (fun cls d H' hE => ?_)
  · show tRet (tC V.non) { nx := fun _ H' => Q .non H', rt := Q } (L2.start ["work", "e"] [.ref f]) H'
    exact s_ret ev_c fun H2 e2 => hq H2 e2
  · rcases hE with ⟨rfl, dd, l, p, rfl, hd, hq⟩ | ⟨h1, h2, hq⟩
    · refine ⟨true, T_BadLine.te, fun _ a ha => ?_, fun z => nomatch z⟩
      show tRet (tTup (tCons (NS_BadLine.tBy CBL a (.ref CBL) (some dd) (tVar 1)) (tCons (NS_BadLine.tByE CBL a (.ref CBL) (some dd) (tVar 1)) tNil))) (outOf 1 { nx := tRet (tC V.non) { nx := fun _ H' => Q .non H', rt := Q }, rt := Q }) ((L2.start ["work", "e"] [.ref f]).set 1 (some (.ref a))) H'
      refine m_ret ?_
      refine m_tupM ?_
      refine m_consM ?_
      refine (ev_var (i := 1) (v := .ref a) rfl) H' (Ex.refl _) _ fun H2 e2 => ⟨rfl, rfl, dd, l, p, rfl, e2 _ _ hd, ?_⟩
      refine m_consM ?_
      refine (ev_var (i := 1) (v := .ref a) rfl) H2 (Ex.refl _) _ fun H3 e3 => ⟨rfl, rfl, dd, l, p, rfl, (e2.trans e3) _ _ hd, ?_⟩
      exact ⟨by show 2 ≤ sizeLine; rw [sizeLine_eq]; decide, fun u hu => hq u _ ((e2.trans e3).trans (Ex.new hu)) upd_same⟩
    · refine ⟨false, h1, (fun z => nomatch z), fun _ => ⟨true, h2, fun _ a ha => ?_, fun z => nomatch z⟩⟩
      show tRet (tC (.str "string")) (outOf 1 { nx := tRet (tC V.non) { nx := fun _ H' => Q .non H', rt := Q }, rt := Q }) ((L2.start ["work", "e"] [.ref f]).set 1 (some (.ref a))) H'
      exact s_ret ev_c fun H2 e2 => hq H2 e2
end Fm
set_option Elab.async false
set_option linter.all false
set_option maxRecDepth 100000
set_option maxHeartbeats 1000000
namespace Fm
open PySem L2 Evl TL RZ
theorem cutV_toX {xs : List V} {k : Nat} (h : k ≤ xs.length) : cutV xs none (some (k : Int)) = xs.take k := by
  unfold cutV
  rw [HT.sIx_none, HT.sIx_nat, Nat.min_eq_left h, List.drop_zero, Nat.sub_zero]
theorem cutV_fromX {xs : List V} {k : Nat} (h : k ≤ xs.length) : cutV xs (some (k : Int)) none = xs.drop k := by
  unfold cutV
  rw [HT.sIx_none, HT.sIx_nat, Nat.min_eq_left h, List.take_of_length_le (by rw [List.length_drop]; omega)]
theorem eo_noneX {σ : L2.St} {H : Hp} : EvO tNoPart σ H none := fun H1 e Q q => q H1 (Ex.refl H1)
theorem eo_someX {σ : L2.St} {H : Hp} {ta : TE} {i : Int} (h : Ev ta σ H (.int i)) : EvO (tPart ta) σ H (some i) := fun H1 e Q q => h H1 e _ fun H2 e2 => ⟨i, rfl, q H2 e2⟩
theorem spl_ne {S : List Nat} : ∀ (l : List Nat) (k : Nat) (acc : List Nat), spl S k acc l ≠ []
  | [], k, acc => by rw [spl_nil]; exact fun z => nomatch z
  | c :: r, k + 1, acc => by
    have h2 := spl_ne (S := S) r k acc
    rw [spl_pass] at h2 ⊢
    exact h2
  | c :: r, 0, acc => by
    cases q : pre S (c :: r) with
    | true =>
      rw [spl_hit q]
      exact fun z => nomatch z
    | false =>
      rw [spl_miss q]
      exact spl_ne r 0 _
theorem split_ne {a y : Str} (hy : tl y ≠ []) (hk : y.cps.all (· < 256) = true) : Txt.split a y ≠ [] := fun z => by
  have h1 := split_spl a y hy (kind_ok hk)
  rw [z] at h1
  exact spl_ne _ _ _ h1.symm
def nlS (text : Str) : List Str := Txt.split text "\n"
def spS (line : Str) : List Str := Txt.split line " "
/-- a text with a word put in the place of another one -/
def bentS (text : Str) (at' place : Nat) (w : Str) : Str := Txt.join "\n" (((nlS text).take at' ++ [Txt.join " " ((spS ((nlS text).getD at' "")).set place w)]) ++ (nlS text).drop (at' + 1))
theorem nl_mem {a w : Str} (h : w ∈ nlS a) : w.length ≤ a.length := split_mem (by decide +kernel) (by decide +kernel) h
theorem sp_mem {a w : Str} (h : w ∈ spS a) : w.length ≤ a.length := split_mem (by decide +kernel) (by decide +kernel) h
theorem nl_ne (a : Str) : 0 < (nlS a).length := List.length_pos_iff.mpr (split_ne (by decide +kernel) (by decide +kernel))
theorem sp_ne (a : Str) : 0 < (spS a).length := List.length_pos_iff.mpr (split_ne (by decide +kernel) (by decide +kernel))
theorem nl_len (a : Str) : (nlS a).length ≤ a.length + 2 := split_len a "\n"
theorem sp_len (a : Str) : (spS a).length ≤ a.length + 2 := split_len a " "
def spBent (K : PySem.W.Frag) : Sp := fun vs H Q _ => ∃ (r s t : Addr) (ns : List Int) (text : Str) (ws : List Str), vs = [.ref r, .str text, .ref t] ∧ RowAt K H r s ns ∧ text.length ≤ 1000 ∧ (nlS text).length ≤ 30 ∧ (∀ x ∈ nlS text, x.length ≤ 240) ∧ SqL K H t (ws.map V.str) ∧ t ≠ r ∧ 0 < ws.length ∧ ws.length < 1000000 ∧ (∀ w ∈ ws, w.length ≤ 250) ∧
  ∀ (at' place : Nat) (w : Str) (u : Addr) H', at' < (nlS text).length → place < (spS ((nlS text).getD at' "")).length → w ∈ ws → RowAt K H' r s ns → Ex (rem H r) H' → H' u = some (.tup [.str (bentS text at' place w), .int ((at' + 1 : Nat) : Int), .int ((place + 1 : Nat) : Int)]) → Q (.ref u) H'
section
variable {K : PySem.W.Frag} {σ : L2.St} {H : Hp} {ta tb te tl' : TE} {tr tA : TA} {Q : VK} {D : Ends} {tz tu : TS} {g : TG} {sp : Sp} {E : XK}
theorem q_callSub {vs : List V} (h : EvA tA σ H vs) (k : ∀ H1, Ex H H1 → sp (vs ++ []) H1 (fun v H2 => gSub ta tb rSetL v σ H2 fun σ3 H3 => tz D σ3 H3) E) : tSeq (tAsg (tCall sp [] E tA) (gSub ta tb rSetL)) tz D σ H := h H (Ex.refl H) _ k
theorem gSubL1 {v : V} {l : Addr} {xs : List V} {j : Nat} {Q : L2.St → Hp → Prop} (ho : Ev ta σ H (.ref l)) (hi : Ev tb σ H (.int (j : Int))) (hl : H l = some (.lst xs)) (hj : j < xs.length) (k : ∀ H1, Ex H H1 → Q σ (upd H1 l (.lst (xs.set j v)))) : gSub ta tb rSetL v σ H Q :=
  ho H (Ex.refl H) _ fun H2 e2 => hi H2 e2 _ fun H3 e3 => ⟨l, xs, (j : Int), j, rfl, rfl, (e2.trans e3) l _ hl, ixN_nat hj, k H3 (e2.trans e3)⟩
/-- sep.join(a list of texts) -/
theorem ev_joinL {z : Str} {a : Addr} {ys : List Str} (ha : Ev ta σ H (.str z)) (hb : Ev tb σ H (.ref a)) (h : SqL K H a (ys.map V.str)) (hz : (ys.map (·.length)).sum + ys.length * z.length ≤ 16777216) : Ev (tBM K "str" (rJoin K) ta (tCons tb tNil)) σ H (.str (Txt.join z ys)) := fun H1 e Q q =>
  ha H1 e _ fun H2 e2 => ⟨rfl, hb H2 (e.trans e2) _ fun H3 e3 => ⟨z, a, ys, rfl, rfl, .inl (ex_l ((e.trans e2).trans e3) h), hz, q H3 (e2.trans e3)⟩⟩
theorem el_sl {xs : List V} {a : Addr} {to1 to2 : TO} {lo hi : Option Int} (ha : Ev ta σ H (.ref a)) (h : SqL K H a xs) (h1 : EvO to1 σ H lo) (h2 : EvO to2 σ H hi) : EvL (tSl (rSlL K) ta to1 to2) σ H (cutV xs lo hi) := fun H1 e Q q =>
  ha H1 e _ fun H2 e2 => h1 H2 (e.trans e2) _ fun H3 e3 => h2 H3 ((e.trans e2).trans e3) _ fun H4 e4 => ⟨a, xs, rfl, ex_l (((e.trans e2).trans e3).trans e4) h, fun p hp => q p _ (fresh_back ((e2.trans e3).trans e4) hp) (((e2.trans e3).trans e4).trans (Ex.new hp)) upd_same⟩
end
theorem set_strs {ys : List Str} {k : Nat} {w : Str} : (ys.map V.str).set k (.str w) = (ys.set k w).map V.str := (List.map_set ..).symm
section
variable {P : Program} {w : World} {K : PySem.W.Frag} {mg : Str → Option Value} {base : Heap}
abbrev s_law_bent : Stmt := top 50
theorem sc_law_bent : FnScope ["row", "text", "words", "rows", "at", "parts", "place"] ["row", "text", "words"] (defScope s_law_bent) := ⟨rfl, rfl, rfl, by decide +kernel, rfl, by decide +kernel, by decide +kernel⟩
--TY _law_bent {'row':('list','any'),'text':'str','words':('list','str'),'rows':('list','str'),'at':'int','parts':('list','str'),'place':'int'}
theorem ok_bent {f f1 f2 : Addr} {fd fd1 fd2 : FuncData} (F : Fun K "_law_bent" "_law_bent" s_law_bent f fd) (T : Txt K mg) (C_law_taken : Cal P w K mg base CX0 1 "_law_taken" f1 fd1 ["row", "many"] (spTak K)) (C_law_pick : Cal P w K mg base CX0 2 "_law_pick" f2 fd2 ["row", "things"] (spPick K)) : FnOk P w K mg base CX0 3 f fd ["row", "text", "words"] (spBent K) := by
  refine F.ok sc_law_bent (fun vs H Q E h => ?_) (fun cdv A outer s H vs Q E hr h => ?_)
  · obtain ⟨_, _, _, _, _, _, rfl, _⟩ := h
    rfl
  · obtain ⟨r, s, t, ns, text, ws, rfl, R, hz, hl1, hlm, ht, hne, hw0, hw1, hwl, k⟩ := h
    refine ⟨_, (pss_cons (ps_set (i := 3) sc_law_bent.nd rfl (Or.inl rfl) (pe_bmK (K := K) rfl PySem.F.plainAttrs_str PySem.F.slot_str_split PySem.F.type_str_split mt_split (pv 1) (pa_cons pe_str pa_nil)))
  (pss_cons (ps_set (i := 4) sc_law_bent.nd rfl (Or.inl rfl) (pe_call C_law_taken.G (hr.mono (by first | decide | omega)) rfl C_law_taken.g C_law_taken.kp C_law_taken.b .nil pass0 (pa_cons (pv 0) (pa_cons (pe_callB (len_K (K := K) rfl) (by rfl) T.z_len (by decide +kernel) (pa_cons (pv 3) pa_nil)) pa_nil))))
  (pss_cons (ps_set (i := 5) sc_law_bent.nd rfl (Or.inl rfl) (pe_bmK (K := K) rfl PySem.F.plainAttrs_str PySem.F.slot_str_split PySem.F.type_str_split mt_split (pe_ix (ix_K (K := K) rfl) (pv 3) (pv 4) (fun _ _ => rfl)) (pa_cons pe_str pa_nil)))
  (pss_cons (ps_set (i := 6) sc_law_bent.nd rfl (Or.inl rfl) (pe_call C_law_taken.G (hr.mono (by first | decide | omega)) rfl C_law_taken.g C_law_taken.kp C_law_taken.b .nil pass0 (pa_cons (pv 0) (pa_cons (pe_callB (len_K (K := K) rfl) (by rfl) T.z_len (by decide +kernel) (pa_cons (pv 5) pa_nil)) pa_nil))))
  (pss_cons (ps_asg (pe_call C_law_pick.G (hr.mono (by first | decide | omega)) rfl C_law_pick.g C_law_pick.kp C_law_pick.b .nil pass0 (pa_cons (pv 0) (pa_cons (pv 2) pa_nil))) (pg_sub (pv 5) (pv 6) set_list))
  (pss_one (ps_ret (pe_tup (pa_cons (pe_bmK (K := K) rfl PySem.F.plainAttrs_str PySem.F.slot_str_join PySem.F.type_str_join (mt_joinK (K := K) rfl) pe_str (pa_cons (pe_op op_cat (pe_op op_cat (pe_slice (sll_K (K := K) rfl) (pv 3) po_none (po_some (pv 4))) (pe_lst (pa_cons (pe_bmK (K := K) rfl PySem.F.plainAttrs_str PySem.F.slot_str_join PySem.F.type_str_join (mt_joinK (K := K) rfl) pe_str (pa_cons (pv 5) pa_nil)) pa_nil))) (pe_slice (sll_K (K := K) rfl) (pv 3) (po_some (pe_op op_add (pv 4) pe_int)) po_none)) pa_nil)) (pa_cons (pe_op op_add (pv 4) pe_int) (pa_cons (pe_op op_add (pv 6) pe_int) pa_nil))))))))))), ?_⟩
    have hl0 := nl_ne text
    refine q_asgL (xs := (nlS text).map V.str) (q_words (ev_var rfl) ev_c (by decide) (by rw [sizeLine_eq]; omega)) fun l H1 hl e1 h1 => ?_
    refine q_callA (ea_cons (ev_var rfl) (ea_cons (ev_lnL (ev_var rfl) (sq_of h1)) ea_nil)) fun H2 e2 => ?_
    refine ⟨r, s, ns, ((nlS text).map V.str).length, rfl, R.up (e1.trans e2), by rw [List.length_map]; exact hl0, by rw [List.length_map]; omega, fun at' H3 hat R3 e3 => ?_⟩
    rw [List.length_map] at hat
    obtain ⟨yr, hyr⟩ := R.lst
    have hlr : l ≠ r := (ne_of_none hyr hl).symm
    have e03 : Ex (rem H r) H3 := Ex.past (rem_ex.trans (e1.trans e2)) rem_eq e3
    have h3 : H3 l = some (.lst ((nlS text).map V.str)) := e3 _ _ (by rw [rem_ne hlr]; exact e2 _ _ h1)
    have hget : ((nlS text).map V.str)[at']? = some (.str ((nlS text).getD at' "")) := by
      rw [List.getElem?_map, List.getElem?_eq_getElem hat, List.getD_eq_getElem?_getD, List.getElem?_eq_getElem hat]
      rfl
    have hrow : ((nlS text).getD at' "").length ≤ 240 := hlm _ (by rw [List.getD_eq_getElem?_getD, List.getElem?_eq_getElem hat]; exact List.getElem_mem hat)
    generalize hline : (nlS text).getD at' "" = line at hget hrow
    have hp0 := sp_ne line
    have hp1 := sp_len line
    have hpm : ∀ x ∈ spS line, x.length ≤ line.length := fun x hx => sp_mem hx
    refine q_asgL (xs := (spS line).map V.str) (q_words (ev_ixL (ev_var rfl) (ev_var rfl) (sq_of h3) (atI_nat' hget)) ev_c (by decide) (by rw [sizeLine_eq]; omega)) fun d H4 hd e4 h4 => ?_
    refine q_callA (ea_cons (ev_var rfl) (ea_cons (ev_lnL (ev_var rfl) (sq_of h4)) ea_nil)) fun H5 e5 => ?_
    refine ⟨r, s, ns, ((spS line).map V.str).length, rfl, R3.up (e4.trans e5), by rw [List.length_map]; exact hp0, by rw [List.length_map]; omega, fun place H6 hpl R6 e6 => ?_⟩
    rw [List.length_map] at hpl
    obtain ⟨y3, hy3⟩ := R3.lst
    have hdr : d ≠ r := (ne_of_none hy3 hd).symm
    have hdl : d ≠ l := (ne_of_none h3 hd).symm
    have e36 : Ex (rem H3 r) H6 := Ex.past (rem_ex.trans (e4.trans e5)) rem_eq e6
    have e06 : Ex (rem H r) H6 := Ex.past e03 rem_eq e36
    have h6 : H6 d = some (.lst ((spS line).map V.str)) := e6 _ _ (by rw [rem_ne hdr]; exact e5 _ _ h4)
    have hl6 : H6 l = some (.lst ((nlS text).map V.str)) := e36 _ _ (by rw [rem_ne hlr]; exact h3)
    refine q_callSub (ea_cons (ev_var rfl) (ea_cons (ev_var rfl) ea_nil)) fun H7 e7 => ?_
    refine ⟨r, s, t, ns, ws.map V.str, rfl, R6.up e7, ex_l (e06.trans e7) (sqL_rem hne ht), hne, by rw [List.length_map]; exact hw0, by rw [List.length_map]; exact hw1, fun v H8 hv R8 e8 => ?_⟩
    obtain ⟨w0, hw, rfl⟩ := List.mem_map.mp hv
    have e68 : Ex (rem H6 r) H8 := Ex.past (rem_ex.trans e7) rem_eq e8
    have e08 : Ex (rem H r) H8 := Ex.past e06 rem_eq e68
    have h8 : H8 d = some (.lst ((spS line).map V.str)) := e68 _ _ (by rw [rem_ne hdr]; exact h6)
    have hl8 : H8 l = some (.lst ((nlS text).map V.str)) := e68 _ _ (by rw [rem_ne hlr]; exact hl6)
    have hd0 : rem H r d = none := by
      cases q : rem H r d with
      | none => rfl
      | some o => exact absurd (e03 _ _ q) (by rw [hd]; exact fun z => nomatch z)
    refine gSubL1 (ev_var rfl) (ev_var rfl) h8 (by rw [List.length_map]; exact hpl) fun H9 e9 => ?_
    rw [set_strs]
    have e09 : Ex (rem H r) (upd H9 d (.lst (((spS line).set place w0).map V.str))) := Ex.mut (e08.trans e9) hd0
    have R9 : RowAt K (upd H9 d (.lst (((spS line).set place w0).map V.str))) r s ns := by
      obtain ⟨a', b', c', q1, q2⟩ := (R8.up e9).c
      exact R.to e09 ⟨a', b', c', by rw [upd_ne hdr.symm]; exact q1, q2⟩
    have hd9 : upd H9 d (.lst (((spS line).set place w0).map V.str)) d = some (.lst (((spS line).set place w0).map V.str)) := upd_same
    have hl9 : upd H9 d (.lst (((spS line).set place w0).map V.str)) l = some (.lst ((nlS text).map V.str)) := by rw [upd_ne hdl.symm]; exact e9 _ _ hl8
    generalize upd H9 d (.lst (((spS line).set place w0).map V.str)) = HA at e09 R9 hd9 hl9
    have hps : ∀ x ∈ (spS line).set place w0, x.length ≤ 250 := fun x hx => by
      rcases List.mem_or_eq_of_mem_set hx with h | rfl
      · have := hpm x h
        omega
      · exact hwl _ hw
    have hpsl : ((spS line).set place w0).length ≤ 252 := by rw [List.length_set]; omega
    have hsum1 : (((spS line).set place w0).map (·.length)).sum ≤ 252 * 250 := by
      have := sum_le (c := 250) (((spS line).set place w0).map (·.length)) fun x hx => by
        obtain ⟨y, hy, rfl⟩ := List.mem_map.mp hx
        exact hps y hy
      rw [List.length_map] at this
      exact Nat.le_trans this (Nat.mul_le_mul_right _ hpsl)
    have e1' : (" " : Str).length = 1 := by decide +kernel
    have e2' : ("\n" : Str).length = 1 := by decide +kernel
    have hjl : (Txt.join " " ((spS line).set place w0)).length ≤ 63252 := by
      have := join_len " " ((spS line).set place w0)
      rw [e1'] at this
      omega
    have hfin : ((nlS text).take at' ++ [Txt.join " " ((spS line).set place w0)]) ++ (nlS text).drop (at' + 1) = ((nlS text).take at' ++ [Txt.join " " ((spS line).set place w0)]) ++ (nlS text).drop (at' + 1) := rfl
    have hfl : (((nlS text).take at' ++ [Txt.join " " ((spS line).set place w0)]) ++ (nlS text).drop (at' + 1)).length ≤ 252 := by
      rw [List.length_append, List.length_append, List.length_take, List.length_drop, List.length_singleton]
      omega
    have hfm : ∀ x ∈ ((nlS text).take at' ++ [Txt.join " " ((spS line).set place w0)]) ++ (nlS text).drop (at' + 1), x.length ≤ 63252 := fun x hx => by
      rcases List.mem_append.mp hx with h | h
      · rcases List.mem_append.mp h with h | h
        · have := hlm x (List.mem_of_mem_take h)
          omega
        · rw [List.mem_singleton.mp h]
          exact hjl
      · have := hlm x (List.mem_of_mem_drop h)
        omega
    refine m_ret ?_
    refine m_tupM ?_
    refine m_consE (x := .str (bentS text at' place w0)) ?_ fun HB eB => ?_
    · unfold bentS
      rw [hline]
      refine ev_joinN ev_c ?_ ?_
      · rw [List.map_append, List.map_append, List.map_take, List.map_drop]
        rw [← cutV_toX (xs := (nlS text).map V.str) (k := at') (by rw [List.length_map]; omega), ← cutV_fromX (xs := (nlS text).map V.str) (k := at' + 1) (by rw [List.length_map]; omega)]
        refine el_cat (el_cat (el_sl (ev_var rfl) (sq_of hl9) eo_noneX (eo_someX (ev_var rfl))) (el_lst (ea_cons (ev_joinL ev_c (ev_var rfl) (sq_of hd9) (by rw [e1']; omega)) ea_nil) (by show 1 ≤ _; omega)) ?_) (el_sl (ev_var rfl) (sq_of hl9) (eo_someX ?_) eo_noneX) ?_
        · rw [cutV_toX (by rw [List.length_map]; omega), List.length_take, List.length_map]
          show _ + 1 ≤ _
          omega
        · rw [show ((at' + 1 : Nat) : Int) = (at' : Int) + 1 by omega]
          exact ev_i0 (ev_var rfl) ev_c
        · rw [cutV_toX (by rw [List.length_map]; omega), cutV_fromX (by rw [List.length_map]; omega), List.length_append, List.length_take, List.length_drop, List.length_map]
          show _ + 1 + _ ≤ _
          omega
      · have := sum_le (c := 63252) ((((nlS text).take at' ++ [Txt.join " " ((spS line).set place w0)]) ++ (nlS text).drop (at' + 1)).map (·.length)) fun x hx => by
          obtain ⟨y, hy, rfl⟩ := List.mem_map.mp hx
          exact hfm y hy
        rw [List.length_map] at this
        have h2 := Nat.mul_le_mul_right 63252 hfl
        rw [e2']
        omega
    refine m_consE (x := .int ((at' + 1 : Nat) : Int)) (by rw [show ((at' + 1 : Nat) : Int) = (at' : Int) + 1 by omega]; exact ev_i0 (ev_var rfl) ev_c) fun HC eC => ?_
    refine m_consE (x := .int ((place + 1 : Nat) : Int)) (by rw [show ((place + 1 : Nat) : Int) = (place : Int) + 1 by omega]; exact ev_i0 (ev_var rfl) ev_c) fun HD eD => ?_
    refine ⟨by show 3 ≤ sizeLine; rw [sizeLine_eq]; decide, fun u hu => ?_⟩
    have eT := Ex.new (o := .tup [V.str (bentS text at' place w0), V.int ((at' + 1 : Nat) : Int), V.int ((place + 1 : Nat) : Int)]) hu
    have eF := ((eB.trans eC).trans eD).trans eT
    exact k at' place w0 u _ hat (by rw [hline]; exact hpl) hw (R9.up eF) (e09.trans eF) upd_same
end
end Fm
set_option Elab.async false
set_option linter.all false
set_option maxRecDepth 100000
set_option maxHeartbeats 1000000
namespace Fm
open PySem L2 Evl
section
variable {K : PySem.W.Frag} {σ : L2.St} {H : Hp} {ta tb te : TE} {tr tA : TA} {D : Ends} {tz : TS} {Q : VK} {x : V} {r : R2}
theorem ev_ixNL {xs : List V} {i : Int} {v : V} (ha : EvL ta σ H xs) (hb : ∀ H1, Ex H H1 → Ev tb σ H1 (.int i)) (e : atI xs i = some v) : Ev (tOp (rIx K) ta tb) σ H v := fun H1 e1 Q q => ha H1 e1 _ fun p H2 hp e2 h2 => hb H2 (e1.trans e2) H2 (Ex.refl _) _ fun H3 e3 =>
  .inl ⟨p, xs, i, v, rfl, rfl, sq_of (e3 _ _ h2), e, q H3 (e2.trans e3)⟩
theorem m_consU {vs : List V} {Q : List V → Hp → Prop} (h : EvU te σ H vs) (k : ∀ p H1, H p = none → Ex H H1 → H1 p = some (.tup vs) → tr σ H1 fun xs H2 => Q (.ref p :: xs) H2) : tCons te tr σ H Q := h H (Ex.refl H) _ k
theorem m_consLst {Q : List V → Hp → Prop} (h : tA σ H fun xs H1 => xs.length ≤ sizeLine ∧ ∀ p, H1 p = none → tr σ (upd H1 p (.lst xs)) fun ys H2 => Q (.ref p :: ys) H2) : tCons (tLst tA) tr σ H Q := h
theorem m_app {l : Addr} {xs : List V} (ha : Ev ta σ H (.ref l)) (hl : H l = some (.lst xs)) (k : ∀ H1, Ex H H1 → te σ H1 fun v H2 => rAppend (.ref l) [v] H2 fun _ H3 => D.nx σ H3) : tDrop (tBM K "list" rAppend ta (tCons te tNil)) D σ H :=
  ha H (Ex.refl H) _ fun H1 e1 => ⟨Or.inl ⟨rfl, xs, sq_of (e1 l _ hl)⟩, k H1 e1⟩
end
theorem pick5 {w c len : Nat} (hw : w < 5) : ∃ s, atI [V.str "get", .str "set", .str "plus", .str "minus", .str "get"] (w : Int) = some (.str s) ∧ ∀ n, n < c → ∃ i, In.ok c len i ∧ i.isTouch = false ∧ i.vs = [.str s, .int (n : Nat)] := match w, hw with
  | 0, _ => ⟨_, rfl, fun n hn => ⟨.get n, hn, rfl, rfl⟩⟩
  | 1, _ => ⟨_, rfl, fun n hn => ⟨.set n, hn, rfl, rfl⟩⟩
  | 2, _ => ⟨_, rfl, fun n hn => ⟨.plus n, hn, rfl, rfl⟩⟩
  | 3, _ => ⟨_, rfl, fun n hn => ⟨.minus n, hn, rfl, rfl⟩⟩
  | 4, _ => ⟨_, rfl, fun n hn => ⟨.get n, hn, rfl, rfl⟩⟩
  | _ + 5, h => absurd h (by omega)
theorem pick3 {w c len : Nat} (hw : w < 3) : ∃ s, atI [V.str "zero", .str "zero", .str "go"] (w : Int) = some (.str s) ∧ ∀ n, n ≤ len → ∃ i, In.ok c len i ∧ i.isTouch = false ∧ i.vs = [.str s, .int (n : Nat)] := match w, hw with
  | 0, _ => ⟨_, rfl, fun n hn => ⟨.zero n, hn, rfl, rfl⟩⟩
  | 1, _ => ⟨_, rfl, fun n hn => ⟨.zero n, hn, rfl, rfl⟩⟩
  | 2, _ => ⟨_, rfl, fun n hn => ⟨.go n, hn, rfl, rfl⟩⟩
  | _ + 3, h => absurd h (by omega)
def spProg (K : PySem.W.Frag) : Sp := fun vs H Q _ => ∃ (r s : Addr) (ns : List Int) (c m : Nat), vs = [.ref r, .int (c : Nat), .int (m : Nat)] ∧ RowAt K H r s ns ∧ 0 < c ∧ c < 1000 ∧ 0 < m ∧ m < 1000 ∧
  ∀ b p H', H b = none → PgT K H' b p → Pok c p → NoT p → p.length ≤ m → RowAt K H' r s ns → Ex (rem H r) H' → Q (.ref b) H'
section
variable {P : Program} {w : World} {K : PySem.W.Frag} {mg : Str → Option Value} {base : Heap}
abbrev s_law_program : Stmt := top 46
theorem sc_law_program : FnScope ["row", "cells", "most", "size", "found", "turn", "way"] ["row", "cells", "most"] (defScope s_law_program) := ⟨rfl, rfl, rfl, by decide +kernel, rfl, by decide +kernel, by decide +kernel⟩
--TY _law_program {'row':('list','any'),'found':('list','any'),'way':'int','size':'int','turn':'int'}
theorem ok_program {f f1 f2 : Addr} {fd fd1 fd2 : FuncData} (F : Fun K "_law_program" "_law_program" s_law_program f fd) (T : Txt K mg) (C_law_taken : Cal P w K mg base CX0 1 "_law_taken" f1 fd1 ["row", "many"] (spTak K)) (C_law_pick : Cal P w K mg base CX0 2 "_law_pick" f2 fd2 ["row", "things"] (spPick K)) : FnOk P w K mg base CX0 3 f fd ["row", "cells", "most"] (spProg K) := by
  refine F.ok sc_law_program (fun vs H Q E h => ?_) (fun cdv A outer s H vs Q E hr h => ?_)
  · obtain ⟨_, _, _, _, _, rfl, _⟩ := h
    rfl
  · obtain ⟨r, s, ns, c, m, rfl, R, hc0, hc, hm0, hm, k⟩ := h
    refine ⟨_, (pss_cons (ps_par (i := 3) (j := 4) (by rfl) sc_law_program.nd rfl rfl (by decide) rfl rfl (pa_cons (pe_op op_add pe_int (pe_call C_law_taken.G (hr.mono (by first | decide | omega)) rfl C_law_taken.g C_law_taken.kp C_law_taken.b .nil pass0 (pa_cons (pv 0) (pa_cons (pv 2) pa_nil)))) (pa_cons (pe_lst pa_nil) pa_nil)) (by rfl))
  (pss_cons (ps_for PassesOwn.never rfl (pi_range1 rfl T.z_range (pa_cons (pv 3) pa_nil)) (pg_name (i := 5) sc_law_program.nd rfl (by first | exact Or.inl rfl | exact Or.inr rfl)) (pss_cons (ps_set (i := 6) sc_law_program.nd rfl (Or.inl rfl) (pe_call C_law_taken.G (hr.mono (by first | decide | omega)) rfl C_law_taken.g C_law_taken.kp C_law_taken.b .nil pass0 (pa_cons (pv 0) (pa_cons pe_int pa_nil))))
  (pss_one (ps_if (pt_cmpR op_lt (pv 6) pe_int (nomark _)) (pss_one (ps_expr (pe_bm PySem.F.plainAttrs_list PySem.F.slot_list_append PySem.F.type_list_append mt_append (pv 4) (pa_cons (pe_tup (pa_cons (pe_ix (ix_K (K := K) rfl) (pe_lst (pa_cons pe_str (pa_cons pe_str (pa_cons pe_str (pa_cons pe_str (pa_cons pe_str pa_nil)))))) (pv 6) (fun _ _ => rfl)) (pa_cons (pe_call C_law_taken.G (hr.mono (by first | decide | omega)) rfl C_law_taken.g C_law_taken.kp C_law_taken.b .nil pass0 (pa_cons (pv 0) (pa_cons (pv 1) pa_nil))) pa_nil))) pa_nil)))) (pss_one (ps_if (pt_cmpR op_lt (pv 6) pe_int (nomark _)) (pss_one (ps_expr (pe_bm PySem.F.plainAttrs_list PySem.F.slot_list_append PySem.F.type_list_append mt_append (pv 4) (pa_cons (pe_tup (pa_cons (pe_ix (ix_K (K := K) rfl) (pe_lst (pa_cons pe_str (pa_cons pe_str (pa_cons pe_str pa_nil)))) (pe_op op_sub (pv 6) pe_int) (fun _ _ => rfl)) (pa_cons (pe_call C_law_taken.G (hr.mono (by first | decide | omega)) rfl C_law_taken.g C_law_taken.kp C_law_taken.b .nil pass0 (pa_cons (pv 0) (pa_cons (pe_op op_add (pv 3) pe_int) pa_nil))) pa_nil))) pa_nil)))) (pss_one (ps_expr (pe_bm PySem.F.plainAttrs_list PySem.F.slot_list_append PySem.F.type_list_append mt_append (pv 4) (pa_cons (pe_call C_law_pick.G (hr.mono (by first | decide | omega)) rfl C_law_pick.g C_law_pick.kp C_law_pick.b .nil pass0 (pa_cons (pv 0) (pa_cons (pe_lst (pa_cons (pe_tup (pa_cons pe_str pa_nil)) (pa_cons (pe_tup (pa_cons pe_str pa_nil)) (pa_cons (pe_tup (pa_cons pe_str (pa_cons pe_int pa_nil))) (pa_cons (pe_tup (pa_cons pe_str (pa_cons pe_int pa_nil))) (pa_cons (pe_tup (pa_cons pe_str pa_nil)) pa_nil)))))) pa_nil))) pa_nil))))))))))
  (pss_one (ps_ret (pe_callTy (tpl_K (K := K) rfl) (by rfl) T.z_tuple (by decide +kernel) (pa_cons (pv 4) pa_nil)))))), ?_⟩
    -- size, found
    refine m_op ev_c fun H1 e1 => m_call (ea_cons (ev_var rfl) (ea_cons (ev_var rfl) ea_nil)) fun H2 e2 => ?_
    refine ⟨r, s, ns, m, rfl, R.up (e1.trans e2), hm0, by omega, fun n H3 hn R3 e3 => ?_⟩
    have e03 : Ex (rem H r) H3 := Ex.past (rem_ex.trans (e1.trans e2)) rem_eq e3
    refine ⟨_, _, rfl, rfl, Nat.zero_le _, fun l hl => ?_⟩
    have hlr : l ≠ r := by
      obtain ⟨ys, hys⟩ := R3.lst
      exact (ne_of_none hys hl).symm
    have hl0 : rem H r l = none := fresh_back e03 hl
    have hs0 : (1 : Int) + ((n : Nat) : Int) = ((n + 1 : Nat) : Int) := by omega
    refine ⟨.int ((n + 1 : Nat) : Int), .ref l, by rw [← hs0], ?_⟩
    dsimp only
    have R4 : RowAt K (upd H3 l (.lst [])) r s ns := R3.up (Ex.new hl)
    refine q_forR1 (n := ((n + 1 : Nat) : Int)) (ea_cons (ev_var rfl) ea_nil) ⟨by omega, by omega⟩
      (fun j σ H' => ∃ (xs : List V) (p : List In) (z1 z2 : Option V), Ex (rem H r) H' ∧ RowC H' r s ∧ H' l = some (.lst xs) ∧ Paired (InAt K H') xs p ∧ p.length = j ∧ (∀ i ∈ p, i.ok c (n + 1) ∧ i.isTouch = false) ∧ σ = [some (.ref r), some (.int (c : Nat)), some (.int (m : Nat)), some (.int ((n + 1 : Nat) : Int)), some (.ref l), z1, z2])
      (fun H4 e4 => ⟨[], [], _, _, (Ex.mut e03 hl0).trans e4, R4.c.up e4, e4 _ _ upd_same, .nil, rfl, by simp, rfl⟩) ?_ ?_
    · rintro j σ H4 hj ⟨xs, p, z1, z2, e4, c4, l4, hp4, hpl, hok, rfl⟩
      have R4 := R.to e4 c4
      have step : ∀ (H6 : Hp) (u : Addr) (i : In) (z : Option V), Ex (rem H4 r) H6 → RowC H6 r s → H6 u = some (.tup i.vs) ∨ SqT K H6 u i.vs → i.ok c (n + 1) ∧ i.isTouch = false → ∃ ys, H6 l = some (.lst ys) ∧ ys.length < 100000 ∧
          ∃ (xs : List V) (p : List In) (z1 z2 : Option V), Ex (rem H r) (upd H6 l (.lst (ys ++ [.ref u]))) ∧ RowC (upd H6 l (.lst (ys ++ [.ref u]))) r s ∧ (upd H6 l (.lst (ys ++ [.ref u]))) l = some (.lst xs) ∧ Paired (InAt K (upd H6 l (.lst (ys ++ [.ref u])))) xs p ∧ p.length = j + 1 ∧ (∀ i ∈ p, i.ok c (n + 1) ∧ i.isTouch = false) ∧
            ([some (.ref r), some (.int (c : Nat)), some (.int (m : Nat)), some (.int ((n + 1 : Nat) : Int)), some (.ref l), some (.int (j : Int)), z] : L2.St) = [some (.ref r), some (.int (c : Nat)), some (.int (m : Nat)), some (.int ((n + 1 : Nat) : Int)), some (.ref l), z1, z2] := by
        intro H6 u i z e6 c6 hu hi
        have hl6 : H6 l = some (.lst xs) := e6 _ _ (by rw [rem_ne hlr]; exact l4)
        have hxl : xs.length = j := (Paired.length hp4).trans hpl
        have hu6 : SqT K H6 u i.vs := by
          rcases hu with h | h
          · exact st_of h
          · exact h
        refine ⟨xs, hl6, by omega, xs ++ [.ref u], p ++ [i], _, z, ?_, ?_, upd_same, ?_, by simp [hpl], ?_, rfl⟩
        · exact Ex.mut (Ex.past e4 rem_eq e6) hl0
        · obtain ⟨a', b', c', h1, h2⟩ := c6
          exact ⟨a', b', c', by rw [upd_ne hlr.symm]; exact h1, h2⟩
        · obtain ⟨ys, hys⟩ := R4.lst
          exact paired_append (Paired.mapP hp4 fun v i hv => inAt_upd hl6 ((inAt_rem hys hv).up e6)) (.cons ⟨u, rfl, sqT_upd hl6 hu6⟩ .nil)
        · intro i' hi'
          rcases List.mem_append.mp hi' with h | h
          · exact hok i' h
          · rw [List.mem_singleton.mp h]
            exact hi
      refine q_callA (ea_cons (ev_var rfl) (ea_cons ev_c ea_nil)) fun H5 e5 => ⟨r, s, ns, 10, rfl, R4.up e5, by omega, by omega, fun way H6 hw R6 e6 => ?_⟩
      have e46 : Ex (rem H4 r) H6 := Ex.past (rem_ex.trans e5) rem_eq e6
      refine s_if (et_i0 (ev_var rfl) ev_c) (fun hc5 H7 e7 => ?_) (fun hc5 H7 e7 => ?_)
      · have hw5 : way < 5 := by have := of_decide_eq_true hc5; omega
        obtain ⟨sw, hat, hi⟩ := pick5 (c := c) (len := n + 1) hw5
        have R7 := R6.up e7
        refine m_app (ev_var rfl) (xs := xs) ((e46.trans e7) _ _ (by rw [rem_ne hlr]; exact l4)) fun H8 e8 => ?_
        refine m_cons (ev_ixNL (el_lst (ea_cons ev_c (ea_cons ev_c (ea_cons ev_c (ea_cons ev_c (ea_cons ev_c ea_nil))))) (by decide)) (fun _ _ => ev_var rfl) hat) fun H9 e9 => m_call (ea_cons (ev_var rfl) (ea_cons (ev_var rfl) ea_nil)) fun H10 e10 => ?_
        have e7a := (e8.trans e9).trans e10
        refine ⟨r, s, ns, c, rfl, R7.up e7a, hc0, by omega, fun q H11 hq R11 e11 => ⟨by show 2 ≤ sizeLine; rw [sizeLine_eq]; decide, fun u hu => ?_⟩⟩
        obtain ⟨i, hio', hiT, hiv⟩ := hi q hq
        have hio : i.ok c (n + 1) ∧ i.isTouch = false := ⟨hio', hiT⟩
        have eA : Ex (rem H4 r) H11 := Ex.past ((e46.trans e7).trans e7a) rem_eq e11
        obtain ⟨ys, h1, h2, h3⟩ := step (upd H11 u (.tup [.str sw, .int (q : Nat)])) u i (some (.int (way : Nat))) (eA.trans (Ex.new hu)) (R11.c.up (Ex.new hu)) (.inl (by rw [upd_same, hiv])) hio
        exact ⟨l, ys, _, rfl, rfl, h1, sz_lt h2, h3⟩
      · have hw5 : ¬ way < 5 := by have := of_decide_eq_false hc5; omega
        refine s_if (et_i0 (ev_var rfl) ev_c) (fun hc8 H8 e8 => ?_) (fun hc8 H8 e8 => ?_)
        · have hw8 : way < 8 := by have := of_decide_eq_true hc8; omega
          obtain ⟨sw, hat, hi⟩ := pick3 (w := way - 5) (c := c) (len := n + 1) (by omega)
          have hat2 : atI [V.str "zero", .str "zero", .str "go"] ((way : Int) - 5) = some (.str sw) := by
            rw [← hat]
            congr 1
            omega
          have R8 := R6.up (e7.trans e8)
          refine m_app (ev_var rfl) (xs := xs) ((e46.trans (e7.trans e8)) _ _ (by rw [rem_ne hlr]; exact l4)) fun H9 e9 => ?_
          refine m_cons (ev_ixNL (el_lst (ea_cons ev_c (ea_cons ev_c (ea_cons ev_c ea_nil))) (by decide)) (fun _ _ => ev_i0 (ev_var rfl) ev_c) hat2) fun H10 e10 => m_call (ea_cons (ev_var rfl) (ea_cons (ev_succ (n := n + 1) (ev_var rfl)) ea_nil)) fun H11 e11 => ?_
          have e8a := (e9.trans e10).trans e11
          refine ⟨r, s, ns, n + 1 + 1, rfl, R8.up e8a, by omega, by omega, fun q H12 hq R12 e12 => ⟨by show 2 ≤ sizeLine; rw [sizeLine_eq]; decide, fun u hu => ?_⟩⟩
          obtain ⟨i, hio', hiT, hiv⟩ := hi q (by omega)
          have hio : i.ok c (n + 1) ∧ i.isTouch = false := ⟨hio', hiT⟩
          have eA : Ex (rem H4 r) H12 := Ex.past ((e46.trans (e7.trans e8)).trans e8a) rem_eq e12
          obtain ⟨ys, h1, h2, h3⟩ := step (upd H12 u (.tup [.str sw, .int (q : Nat)])) u i (some (.int (way : Nat))) (eA.trans (Ex.new hu)) (R12.c.up (Ex.new hu)) (.inl (by rw [upd_same, hiv])) hio
          exact ⟨l, ys, _, rfl, rfl, h1, sz_lt h2, h3⟩
        · have R8 := R6.up (e7.trans e8)
          refine m_app (ev_var rfl) (xs := xs) ((e46.trans (e7.trans e8)) _ _ (by rw [rem_ne hlr]; exact l4)) fun H9 e9 => ?_
          refine m_cons (ev_var rfl) fun H10 e10 => m_consLst ?_
          refine m_consU (eu_tup (ea_cons ev_c ea_nil) (by decide)) fun u1 H11 hu1 e11 h11 => ?_
          refine m_consU (eu_tup (ea_cons ev_c ea_nil) (by decide)) fun u2 H12 hu2 e12 h12 => ?_
          refine m_consU (eu_tup (ea_cons ev_c (ea_cons ev_c ea_nil)) (by decide)) fun u3 H13 hu3 e13 h13 => ?_
          refine m_consU (eu_tup (ea_cons ev_c (ea_cons ev_c ea_nil)) (by decide)) fun u4 H14 hu4 e14 h14 => ?_
          refine m_consU (eu_tup (ea_cons ev_c ea_nil) (by decide)) fun u5 H15 hu5 e15 h15 => ?_
          refine ⟨by show 5 ≤ sizeLine; rw [sizeLine_eq]; decide, fun t ht => ?_⟩
          have e8a := (((((e9.trans e10).trans e11).trans e12).trans e13).trans e14).trans e15
          have R15 := R8.up e8a
          have htr : t ≠ r := by
            obtain ⟨ys, hys⟩ := R15.lst
            exact (ne_of_none hys ht).symm
          have R16 := R15.up (Ex.new (o := .lst [.ref u1, .ref u2, .ref u3, .ref u4, .ref u5]) ht)
          refine ⟨r, s, t, ns, _, rfl, R16, sq_of upd_same, htr, by show 0 < 5; decide, by show 5 < 1000000; decide, fun x H17 hx R17 e17 => ?_⟩
          have e15' := Ex.new (o := .lst [.ref u1, .ref u2, .ref u3, .ref u4, .ref u5]) ht
          have eA : Ex (rem H4 r) H17 := Ex.past ((e46.trans (e7.trans e8)).trans (e8a.trans e15')) rem_eq e17
          obtain ⟨ysr, hysr⟩ := R15.lst
          have old : ∀ u xs, H15 u = some (.tup xs) → H17 u = some (.tup xs) := fun u xs hu => e17 _ _ (by
            rw [rem_ne (fun z => by rw [z, hysr] at hu; cases hu)]
            exact e15' _ _ hu)
          obtain ⟨u, i, hxu, hu, hio⟩ : ∃ u i, x = V.ref u ∧ H15 u = some (.tup (In.vs i)) ∧ (In.ok c (n + 1) i ∧ i.isTouch = false) := by
            simp only [List.mem_cons, List.not_mem_nil, or_false] at hx
            rcases hx with h | h | h | h | h
            · exact ⟨u1, .say, h, (((e12.trans e13).trans e14).trans e15) _ _ h11, trivial, rfl⟩
            · exact ⟨u2, .ask, h, ((e13.trans e14).trans e15) _ _ h12, trivial, rfl⟩
            · exact ⟨u3, .put 3, h, (e14.trans e15) _ _ h13, by simp [In.ok], rfl⟩
            · exact ⟨u4, .put 0, h, e15 _ _ h14, by simp [In.ok], rfl⟩
            · exact ⟨u5, .stop, h, h15, trivial, rfl⟩
          subst hxu
          obtain ⟨ys, h1, h2, h3⟩ := step H17 u i (some (.int (way : Nat))) eA R17.c (.inl (old _ _ hu)) hio
          exact ⟨l, ys, _, rfl, rfl, h1, sz_lt h2, h3⟩
    · rintro σ H4 ⟨xs, p, z1, z2, e4, c4, l4, hp4, hpl, hok, rfl⟩
      refine s_retU (eu_tpl (ev_var rfl) (sq_of l4)) fun b H5 hb e5 h5 => ?_
      have e5' := e4.trans e5
      have hpl' : p.length = n + 1 := by rw [hpl]; omega
      refine k b p H5 ?_ ⟨xs, st_of h5, Paired.mapP hp4 fun v i hv => hv.up e5⟩ ⟨by omega, fun i hi => by rw [hpl']; exact (hok i hi).1⟩ (fun i hi => (hok i hi).2) (by omega) (R.to e5' (c4.up e5)) e5'
      · obtain ⟨ys, hys⟩ := R.lst
        by_cases hbr : b = r
        · obtain ⟨a', b', c', h1, h2⟩ := c4
          rw [hbr, h1] at hb
          cases hb
        · have := fresh_back e4 hb
          rwa [rem_ne hbr] at this
end
end Fm
set_option Elab.async false
set_option linter.all false
set_option maxRecDepth 100000
set_option maxHeartbeats 1000000
namespace Fm
open PySem L2 Evl TL RZ
def padS (n : Nat) : Str := Txt.mul " " (n : Int)
theorem pad_ok : ∀ {n : Nat}, n < 3 → MulOk " " (n : Int)
  | 0, _ => by unfold MulOk; decide +kernel
  | 1, _ => by unfold MulOk; decide +kernel
  | 2, _ => by unfold MulOk; decide +kernel
  | _ + 3, h => absurd h (by omega)
theorem pad_tl : ∀ {n : Nat}, n < 3 → tl (padS n) = List.replicate n 32
  | 0, _ => by decide +kernel
  | 1, _ => by decide +kernel
  | 2, _ => by decide +kernel
  | _ + 3, h => absurd h (by omega)
theorem pad_len {n : Nat} (h : n < 3) : (padS n).length = n := by rw [len_tl, pad_tl h, List.length_replicate]
/-- a line with more spaces -/
def looseLine (a : Nat) (line : Str) : Str := padS a ++ Txt.join "   " (spS line) ++ " "
/-- lines with more spaces and void lines -/
inductive LooseL : List Str → List Str → Prop
  | nil : LooseL [] []
  | snoc {ls gs : List Str} {line : Str} {n b a : Nat} : LooseL ls gs → n < 3 → b < 2 → a < 2 → LooseL (ls ++ [line]) ((gs ++ List.replicate b (padS n)) ++ [looseLine a line])
theorem LooseL.len {ls gs : List Str} (h : LooseL ls gs) : gs.length ≤ 2 * ls.length := by
  induction h with
  | nil => exact Nat.le_refl _
  | snoc _ _ hb _ ih =>
    simp only [List.length_append, List.length_replicate, List.length_singleton]
    omega
theorem looseLine_len {a : Nat} {line : Str} (ha : a < 2) (hl : line.length ≤ 20) : (looseLine a line).length ≤ 600 := by
  unfold looseLine
  rw [strLen, strLen, pad_len (by omega)]
  have h1 := join_len "   " (spS line)
  have h2 := sp_len line
  have h3 := sum_le (c := 20) ((spS line).map (·.length)) fun x hx => by
    obtain ⟨y, hy, rfl⟩ := List.mem_map.mp hx
    have := sp_mem hy
    show y.length ≤ 20
    omega
  rw [List.length_map] at h3
  have e1 : ("   " : Str).length = 3 := by decide +kernel
  have e2 : (" " : Str).length = 1 := by decide +kernel
  rw [e1] at h1
  have h4 : (spS line).length * 20 ≤ 22 * 20 := Nat.mul_le_mul_right _ (by omega)
  have h5 : (spS line).length * 3 ≤ 22 * 3 := Nat.mul_le_mul_right _ (by omega)
  omega
theorem LooseL.mem {ls gs : List Str} (h : LooseL ls gs) (hl : ∀ x ∈ ls, x.length ≤ 20) : ∀ g ∈ gs, g.length ≤ 600 := by
  induction h with
  | nil => exact fun g hg => nomatch hg
  | snoc _ hn hb ha ih =>
    intro g hg
    rcases List.mem_append.mp hg with h | h
    · rcases List.mem_append.mp h with h | h
      · exact ih (fun x hx => hl x (List.mem_append_left _ hx)) g h
      · rw [(List.mem_replicate.mp h).2, pad_len hn]
        omega
    · rw [List.mem_singleton.mp h]
      exact looseLine_len ha (hl _ (List.mem_append_right _ (List.mem_singleton.mpr rfl)))
def spLoose (K : PySem.W.Frag) : Sp := fun vs H Q _ => ∃ (r s : Addr) (ns : List Int) (text : Str), vs = [.ref r, .str text] ∧ RowAt K H r s ns ∧ text.length ≤ 1000 ∧ (nlS text).length ≤ 30 ∧ (∀ x ∈ nlS text, x.length ≤ 20) ∧
  ∀ (gs : List Str) H', LooseL (nlS text) gs → RowAt K H' r s ns → Ex (rem H r) H' → Q (.str (Txt.join "\n" gs)) H'
section
variable {K : PySem.W.Frag} {σ : L2.St} {H : Hp} {ta tb te tl' : TE} {tr tA : TA} {Q : VK} {D : Ends} {tz tu : TS} {g : TG} {sp : Sp} {E : XK} {r : R2}
theorem q_forNL {xs : List V} (ha : EvL te σ H xs) (h : ∀ p H1, H p = none → Ex H H1 → H1 p = some (.lst xs) → ForLx K g tu { D with nx := tz D } p σ H1) : tSeq (tFor (iList K te) g tu) tz D σ H :=
  ha H (Ex.refl H) _ fun p H1 hp e1 h1 => ⟨p, rfl, ⟨xs, sq_of h1⟩, h p H1 hp e1 h1⟩
theorem m_opM (h : ta σ H fun x H1 => tb σ H1 fun y H2 => r x y H2 Q) : tOp r ta tb σ H Q := h
theorem m_lstM (h : tA σ H fun xs H1 => xs.length ≤ sizeLine ∧ ∀ p, H1 p = none → Q (.ref p) (upd H1 p (.lst xs))) : tLst tA σ H Q := h
theorem m_evE {x : V} (h : Ev te σ H x) (k : ∀ H1, Ex H H1 → Q x H1) : te σ H Q := h H (Ex.refl H) _ k
end
section
variable {P : Program} {w : World} {K : PySem.W.Frag} {mg : Str → Option Value} {base : Heap}
abbrev s_law_loose : Stmt := top 49
theorem sc_law_loose : FnScope ["row", "text", "found", "line"] ["row", "text"] (defScope s_law_loose) := ⟨rfl, rfl, rfl, by decide +kernel, rfl, by decide +kernel, by decide +kernel⟩
--TY _law_loose {'row':('list','any'),'text':'str','found':('list','str'),'line':'str'}
theorem ok_loose {f f1 : Addr} {fd fd1 : FuncData} (F : Fun K "_law_loose" "_law_loose" s_law_loose f fd) (T : Txt K mg) (C_law_taken : Cal P w K mg base CX0 1 "_law_taken" f1 fd1 ["row", "many"] (spTak K)) : FnOk P w K mg base CX0 2 f fd ["row", "text"] (spLoose K) := by
  refine F.ok sc_law_loose (fun vs H Q E h => ?_) (fun cdv A outer s H vs Q E hr h => ?_)
  · obtain ⟨_, _, _, _, rfl, _⟩ := h
    rfl
  · obtain ⟨r, s, ns, text, rfl, R, hz, hl30, hl20, k⟩ := h
    refine ⟨_, (pss_cons (ps_set (i := 2) sc_law_loose.nd rfl (Or.inl rfl) (pe_lst pa_nil))
  (pss_cons (ps_for PassesOwn.never rfl (pi_listK (K := K) rfl (pe_bmK (K := K) rfl PySem.F.plainAttrs_str PySem.F.slot_str_split PySem.F.type_str_split mt_split (pv 1) (pa_cons pe_str pa_nil))) (pg_name (i := 3) sc_law_loose.nd rfl (by first | exact Or.inl rfl | exact Or.inr rfl)) (pss_cons (ps_set (i := 2) sc_law_loose.nd rfl (Or.inl rfl) (pe_op op_cat (pv 2) (pe_op op_rep (pe_lst (pa_cons (pe_op op_mulS pe_str (pe_call C_law_taken.G (hr.mono (by first | decide | omega)) rfl C_law_taken.g C_law_taken.kp C_law_taken.b .nil pass0 (pa_cons (pv 0) (pa_cons pe_int pa_nil)))) pa_nil)) (pe_call C_law_taken.G (hr.mono (by first | decide | omega)) rfl C_law_taken.g C_law_taken.kp C_law_taken.b .nil pass0 (pa_cons (pv 0) (pa_cons pe_int pa_nil))))))
  (pss_one (ps_expr (pe_bm PySem.F.plainAttrs_list PySem.F.slot_list_append PySem.F.type_list_append mt_append (pv 2) (pa_cons (pe_op op_add_str (pe_op op_add_str (pe_op op_mulS pe_str (pe_call C_law_taken.G (hr.mono (by first | decide | omega)) rfl C_law_taken.g C_law_taken.kp C_law_taken.b .nil pass0 (pa_cons (pv 0) (pa_cons pe_int pa_nil)))) (pe_bmK (K := K) rfl PySem.F.plainAttrs_str PySem.F.slot_str_join PySem.F.type_str_join (mt_joinK (K := K) rfl) pe_str (pa_cons (pe_bmK (K := K) rfl PySem.F.plainAttrs_str PySem.F.slot_str_split PySem.F.type_str_split mt_split (pv 3) (pa_cons pe_str pa_nil)) pa_nil))) pe_str) pa_nil))))))
  (pss_one (ps_ret (pe_bmK (K := K) rfl PySem.F.plainAttrs_str PySem.F.slot_str_join PySem.F.type_str_join (mt_joinK (K := K) rfl) pe_str (pa_cons (pv 2) pa_nil)))))), ?_⟩
    obtain ⟨yr, hyr⟩ := R.lst
    refine ⟨Nat.zero_le _, fun g0 hg0 => ?_⟩
    have en0 := Ex.new (o := .lst []) hg0
    have hg0r : g0 ≠ r := (ne_of_none hyr hg0).symm
    have hg0f : rem H r g0 = none := by rw [rem_ne hg0r]; exact hg0
    have h0 : upd H g0 (.lst []) g0 = some (.lst (([] : List Str).map V.str)) := upd_same
    have R0 := R.up en0
    generalize upd H g0 (.lst []) = H0 at en0 h0 R0
    refine q_forNL (xs := (nlS text).map V.str) (q_words (ev_var rfl) ev_c (by decide) (by rw [sizeLine_eq]; omega)) fun l H1 hl e1 h1 => ?_
    have hlr : l ≠ r := by
      obtain ⟨y0, hy0⟩ := R0.lst
      exact (ne_of_none hy0 hl).symm
    have hlg : l ≠ g0 := (ne_of_none h0 hl).symm
    refine forLx_of (xs := (nlS text).map V.str) (fun i σ H' => ∃ (g : Addr) (gs : List Str) (z3 : Option V), Ex (rem H r) H' ∧ RowC H' r s ∧ H' l = some (.lst ((nlS text).map V.str)) ∧ H' g = some (.lst (gs.map V.str)) ∧ g ≠ l ∧ g ≠ r ∧ rem H r g = none ∧ LooseL ((nlS text).take i) gs ∧ σ = [some (.ref r), some (.str text), some (.ref g), z3])
      ⟨g0, [], none, rem_ex.trans (en0.trans e1), (R0.up e1).c, h1, e1 _ _ h0, hlg.symm, hg0r, hg0f, .nil, rfl⟩ (fun i σ H' _ ⟨_, _, _, _, _, h, _⟩ => sq_of h) (fun i x σ H2 hx h => ?_) (fun σ H2 h => ?_)
    · obtain ⟨g, gs, z3, e2, c2, hl2, hg2, hgl, hgr, hgf, hL, rfl⟩ := h
      rw [List.getElem?_map] at hx
      have hi : i < (nlS text).length := by
        cases q : (nlS text)[i]? with
        | none => rw [q] at hx; cases hx
        | some y => exact (List.getElem?_eq_some_iff.mp q).1
      rw [List.getElem?_eq_getElem hi] at hx
      cases hx
      have hline : ((nlS text)[i]).length ≤ 20 := hl20 _ (List.getElem_mem hi)
      have htk : (nlS text).take (i + 1) = (nlS text).take i ++ [(nlS text)[i]] := by rw [List.take_succ, List.getElem?_eq_getElem hi]; rfl
      generalize (nlS text)[i] = line at hline htk
      have hgl2 := hL.len
      rw [List.length_take] at hgl2
      have hgm := hL.mem fun x hx => hl20 x (List.mem_of_mem_take hx)
      have R2 := R.to e2 c2
      refine q_setMM ?_
      refine m_op (ev_var rfl) fun H3 e3 => ?_
      refine m_opM ?_
      refine m_lstM ?_
      refine m_consM ?_
      refine m_op ev_c fun H4 e4 => ?_
      refine m_call (ea_cons (ev_var rfl) (ea_cons ev_c ea_nil)) fun H5 e5 => ?_
      refine ⟨r, s, ns, 3, rfl, R2.up ((e3.trans e4).trans e5), by decide, by decide, fun n H6 hn R6 e6 => ⟨_, _, rfl, rfl, pad_ok hn, ?_⟩⟩
      have e26 : Ex (rem H2 r) H6 := Ex.past (rem_ex.trans ((e3.trans e4).trans e5)) rem_eq e6
      refine ⟨by show 1 ≤ sizeLine; rw [sizeLine_eq]; decide, fun o1 ho1 => ?_⟩
      have en1 := Ex.new (o := .lst [V.str (padS n)]) ho1
      have h7 : upd H6 o1 (.lst [V.str (padS n)]) o1 = some (.lst [V.str (padS n)]) := upd_same
      have R7 := R6.up en1
      have ho1r : o1 ≠ r := by
        obtain ⟨y6, hy6⟩ := R6.lst
        exact (ne_of_none hy6 ho1).symm
      have e27 : Ex (rem H2 r) (upd H6 o1 (.lst [V.str (padS n)])) := e26.trans en1
      show tCall (spTak K) [] _ _ _ (upd H6 o1 (.lst [V.str (padS n)])) _
      generalize upd H6 o1 (.lst [V.str (padS n)]) = H7 at h7 R7 e27 ⊢
      refine m_call (ea_cons (ev_var rfl) (ea_cons ev_c ea_nil)) fun H8 e8 => ?_
      refine ⟨r, s, ns, 2, rfl, R7.up e8, by decide, by decide, fun b H9 hb R9 e9 => ?_⟩
      have e79 : Ex (rem H7 r) H9 := Ex.past (rem_ex.trans e8) rem_eq e9
      have e29 : Ex (rem H2 r) H9 := Ex.past e27 rem_eq e79
      refine ⟨o1, (b : Int), [V.str (padS n)], rfl, rfl, e79 _ _ (by rw [rem_ne ho1r]; exact h7), by omega, by omega, by rw [sizeLine_eq, Int.toNat_natCast]; show 1 * b ≤ _; omega, fun o2 ho2 => ?_⟩
      rw [Int.toNat_natCast]
      have hrep : (List.replicate b [V.str (padS n)]).flatten = (List.replicate b (padS n)).map V.str := by
        rw [List.map_replicate]
        clear hb R9 e79 e29 ho2 e9
        induction b with
        | zero => rfl
        | succ b ih => rw [List.replicate_succ, List.flatten_cons, ih, List.replicate_succ]; rfl
      rw [hrep]
      have en2 := Ex.new (o := .lst ((List.replicate b (padS n)).map V.str)) ho2
      refine ⟨g, o2, gs.map V.str, (List.replicate b (padS n)).map V.str, rfl, rfl, (e29.trans en2) _ _ (by rw [rem_ne hgr]; exact hg2), upd_same, sz_of (by rw [List.length_map, List.length_map, List.length_replicate]; omega), fun g2 hg2' => ?_⟩
      rw [← List.map_append]
      have en3 := Ex.new (o := .lst ((gs ++ List.replicate b (padS n)).map V.str)) hg2'
      have eN := en2.trans en3
      have RA := R9.up eN
      have e2A := e29.trans eN
      have hA : upd (upd H9 o2 (.lst ((List.replicate b (padS n)).map V.str))) g2 (.lst ((gs ++ List.replicate b (padS n)).map V.str)) g2 = some (.lst ((gs ++ List.replicate b (padS n)).map V.str)) := upd_same
      have hg2r : g2 ≠ r := by
        obtain ⟨y9, hy9⟩ := (R9.up en2).lst
        exact (ne_of_none hy9 hg2').symm
      have hg2l : g2 ≠ l := (ne_of_none ((e29.trans en2) _ _ (by rw [rem_ne hlr]; exact hl2)) hg2').symm
      have eHA := Ex.past e2 rem_eq e2A
      have hg2f : rem H r g2 = none := fresh_back (Ex.past e2 rem_eq (e29.trans en2)) hg2'
      generalize upd (upd H9 o2 (.lst ((List.replicate b (padS n)).map V.str))) g2 (.lst ((gs ++ List.replicate b (padS n)).map V.str)) = HA at RA e2A hA eHA
      refine m_app (l := g2) (xs := (gs ++ List.replicate b (padS n)).map V.str) (ev_var rfl) hA fun HB eB => ?_
      refine m_opM ?_
      refine m_opM ?_
      refine m_op ev_c fun HC eC => ?_
      refine m_call (ea_cons (ev_var rfl) (ea_cons ev_c ea_nil)) fun HD eD => ?_
      refine ⟨r, s, ns, 2, rfl, RA.up ((eB.trans eC).trans eD), by decide, by decide, fun a HE ha RE eE => ⟨_, _, rfl, rfl, pad_ok (by omega), ?_⟩⟩
      have eAE : Ex (rem HA r) HE := Ex.past (rem_ex.trans ((eB.trans eC).trans eD)) rem_eq eE
      have hpn : (Txt.mul " " (a : Int)).length = a := pad_len (by omega)
      have hjl : (Txt.join "   " (spS line)).length ≤ 599 := by
        have := looseLine_len (a := a) ha hline
        unfold looseLine at this
        rw [strLen, strLen] at this
        have e2 : (" " : Str).length = 1 := by decide +kernel
        omega
      refine m_evE (x := .str (Txt.join "   " (spS line))) (ev_joinN ev_c (q_words (ev_var rfl) ev_c (by decide) (by rw [sizeLine_eq]; omega)) ?_) fun HF eF => ?_
      · have h2 := sp_len line
        have h3 := sum_le (c := 20) ((spS line).map (·.length)) fun x hx => by
          obtain ⟨y, hy, rfl⟩ := List.mem_map.mp hx
          have := sp_mem hy
          show y.length ≤ 20
          omega
        rw [List.length_map] at h3
        have e1 : ("   " : Str).length = 3 := by decide +kernel
        rw [e1]
        show ((spS line).map (·.length)).sum + (spS line).length * 3 ≤ _
        omega
      refine ⟨_, _, rfl, rfl, by rw [hpn, sizeLine_eq]; omega, ?_⟩
      refine m_evE (x := .str " ") ev_c fun HG eG => ?_
      refine ⟨_, _, rfl, rfl, by rw [strLen, hpn, sizeLine_eq]; have e2 : (" " : Str).length = 1 := (by decide +kernel); omega, ?_⟩
      have eAG : Ex (rem HA r) HG := (eAE.trans eF).trans eG
      have hgG : HG g2 = some (.lst ((gs ++ List.replicate b (padS n)).map V.str)) := eAG _ _ (by rw [rem_ne hg2r]; exact hA)
      have RG := (RE.up eF).up eG
      have eHG := Ex.past eHA rem_eq eAG
      refine ⟨g2, _, _, rfl, rfl, hgG, by rw [sizeLine_eq, List.length_map, List.length_append, List.length_replicate]; omega, g2, (gs ++ List.replicate b (padS n)) ++ [looseLine a line], _, Ex.mut eHG hg2f, ?_, ?_, ?_, hg2l, hg2r, hg2f, ?_, rfl⟩
      · obtain ⟨a', b', c', q1, q2⟩ := RG.c
        exact ⟨a', b', c', by rw [upd_ne hg2r.symm]; exact q1, q2⟩
      · rw [upd_ne hg2l.symm]
        exact eAG _ _ (by rw [rem_ne hlr]; exact e2A _ _ (by rw [rem_ne hlr]; exact hl2))
      · rw [upd_same]; simp only [List.map_append]
        rfl
      · rw [htk]
        exact .snoc hL hn hb ha
    · obtain ⟨g, gs, z3, e2, c2, hl2, hg2, hgl, hgr, hgf, hL, rfl⟩ := h
      rw [List.length_map, List.take_length] at hL
      have hgl2 := hL.len
      have hgm := hL.mem hl20
      have h3 := sum_le (c := 600) (gs.map (·.length)) fun x hx => by
        obtain ⟨y, hy, rfl⟩ := List.mem_map.mp hx
        exact hgm y hy
      rw [List.length_map] at h3
      have e2' : ("\n" : Str).length = 1 := by decide +kernel
      refine s_ret (ev_joinL ev_c (ev_var rfl) (sq_of hg2) (by rw [e2']; omega)) fun H3 e3 => k gs H3 hL (R.to (e2.trans e3) (c2.up e3)) (e2.trans e3)
end
end Fm
set_option Elab.async false
set_option linter.all false
set_option maxRecDepth 100000
set_option maxHeartbeats 1000000
namespace Fm
open PySem L2 Evl TL RZ
--RET {'words_of':('list','str'),'are_plain_digits':'bool','number_told':'any','numbers_behind':('tuple','int'),'lines_with_words':('list',('tuple','any')),'limits_behind':('tuple',('tuple','int'))}
def spStrX (K : PySem.W.Frag) (CBS : Addr) : Sp := fun vs H Q E => ∃ v : V, vs = [v] ∧ (v = .int 7 ∨ v = .non) ∧ ∀ H', Ex H H' → E (.ref CBS) none H'
def spRmS (CBS : Addr) : Sp := fun vs H Q E => vs = [.int 7] ∧ ∀ H', Ex H H' → E (.ref CBS) none H'
def spRpS (CBS : Addr) : Sp := fun vs H Q E => ∃ c : Nat, vs = [.int (c : Nat), .non] ∧ 1 ≤ c ∧ c ≤ 4 ∧ ∀ H', Ex H H' → E (.ref CBS) none H'
section
variable {P : Program} {w : World} {K : PySem.W.Frag} {mg : Str → Option Value} {base : Heap} {k : Nat} {f : Addr} {fd : FuncData} {ps : List Str} {sp sp' : Sp}
theorem FnOk.orXX (F : FnOk P w K mg base (L2.CX P w) k f fd ps sp) (F' : FnOk P w K mg base (L2.CX P w) k f fd ps sp') : FnOk P w K mg base (L2.CX P w) k f fd ps (fun vs H Q E => sp vs H Q E ∨ sp' vs H Q E) :=
  ⟨fun vs H Q E h => h.elim (F.len vs H Q E) (F'.len vs H Q E), fun A outer s H args us vs Q E hr e b v h => h.elim (F.run A outer s H args us vs Q E hr e b v) (F'.run A outer s H args us vs Q E hr e b v)⟩
end
section
variable {P : Program} {w : World} {K : PySem.W.Frag} {mg : Str → Option Value} {base : Heap}
--TY check_string {'value':'any','@over':{'X':1,'raise':{'BadString':'own1'}}}
theorem okX_check_string {f CBS : Addr} {fd : FuncData} (F : Fun K "check_string" "check_string" s_check_string f fd) (T : Txt K mg) (B_BadString : BaseE K mg "BadString" CBS) : FnOk P w K mg base (L2.CX P w) 1 f fd ["value"] (spStrX K CBS) := by
  refine F.okX sc_check_string (fun vs H Q E h => ?_) (fun cdv A outer s H vs Q E hr h => ?_)
  · obtain ⟨_, rfl, _⟩ := h
    rfl
  · obtain ⟨v, rfl, hv, k⟩ := h
    refine ⟨_, (pss_one (ps_if (pt_not (pt_val (pe_callB (isi_K (K := K) rfl) (by rfl) T.z_isinstance (by decide +kernel) (pa_cons (pv 0) (pa_cons (pe_bltn (v := .ty "str") (by rfl) T.z_str (by decide +kernel) rfl) pa_nil))))) (pss_one (ps_raise rfl (takes_of rfl rfl rfl rfl) (SkE.pmk_own1 PySem.F.excBase_ValueError B_BadString.q B_BadString.gC B_BadString.kC (raises_own B_BadString.ex B_BadString.ty) rfl pe_str))) pss_nil)), ?_⟩
    rcases hv with rfl | rfl
    · exact s_when (b := true) (et_not (a := false) (et_B (ev_isi (ev_var rfl) (.base (.int 7)) (by decide +kernel)))) (fun _ H1 e1 => k H1 e1) fun z => nomatch z
    · exact s_when (b := true) (et_not (a := false) (et_B (ev_isi (ev_var rfl) (.base .non) (by decide +kernel)))) (fun _ H1 e1 => k H1 e1) fun z => nomatch z
--TY read_machine {'text':'str','fades':('list','int'),'rows':('list','int'),'line':'int','words':('list','str'),'fade':'int','row':'int','@over':{'X':1,'S':['check_string','lines_with_words','numbers_behind'],'raise':{'BadLine':'sup'}}}
theorem okS_read_machine {CBS f f1 f2 f3 CBL fI cc cda : Addr} {fd fd1 fd2 fd3 : FuncData} (F : Fun K "read_machine" "read_machine" s_read_machine f fd) (T : Txt K mg) (T_BadLine : NS_BadLine.Ty P K mg CBL fI cc cda) (C_check_stringX : Cal P w K mg base (L2.CX P w) 1 "check_string" f1 fd1 ["value"] (spStrX K CBS))
    (C_lines_with_wordsX : Cal P w K mg base (L2.CX P w) 2 "lines_with_words" f2 fd2 ["text"] (fun vs H Q E => spLw K vs H Q E ∨ spLwX CBL vs H Q E)) (C_numbers_behindX : Cal P w K mg base (L2.CX P w) 3 "numbers_behind" f3 fd3 ["line", "words", "limits"] (fun vs H Q E => spNb K vs H Q E ∨ spNbX K CBL vs H Q E)) : FnOk P w K mg base (L2.CX P w) 4 f fd ["text"] (spRmS CBS) := by
  refine F.okX sc_read_machine (fun vs H Q E h => ?_) (fun cdv A outer s H vs Q E hr h => ?_)
  · rw [h.1]
    rfl
  · obtain ⟨rfl, k⟩ := h
    refine ⟨_, (pss_cons (ps_expr (pe_callS C_check_stringX.G (hr.mono (by first | decide | omega)) rfl C_check_stringX.g C_check_stringX.kp C_check_stringX.b (fun σ => passAt (takes_of rfl rfl rfl rfl) σ) (pa_cons (pv 0) pa_nil)))
  (pss_cons (ps_set (i := 1) sc_read_machine.nd rfl (Or.inl rfl) (pe_lst pa_nil))
  (pss_cons (ps_set (i := 2) sc_read_machine.nd rfl (Or.inl rfl) (pe_lst pa_nil))
  (pss_cons (ps_for (passes_of rfl) rfl (pi_listK (K := K) rfl (pe_callS C_lines_with_wordsX.G (hr.mono (by first | decide | omega)) rfl C_lines_with_wordsX.g C_lines_with_wordsX.kp C_lines_with_wordsX.b (fun σ => passAt (takes_of rfl rfl rfl rfl) σ) (pa_cons (pv 0) pa_nil))) (pg_tup rfl (pgs_cons (pg_name (i := 3) sc_read_machine.nd rfl (by first | exact Or.inl rfl | exact Or.inr rfl)) (pgs_cons (pg_name (i := 4) sc_read_machine.nd rfl (by first | exact Or.inl rfl | exact Or.inr rfl)) pgs_nil))) (pss_cons (ps_if (PW.pt (pw_or (pt_cmpR op_ne (pe_ix (ix_K (K := K) rfl) (pv 4) pe_int (fun _ _ => rfl)) pe_str (nomark _)) (pw_or1 (pt_cmpR op_eq (pe_callB (len_K (K := K) rfl) (by rfl) T.z_len (by decide +kernel) (pa_cons (pv 1) pa_nil)) (pe_glob (v := .int 4) rfl T.c_MOST_CELLS.choose_spec ⟨_, rfl⟩) (nomark _))))) (pss_one (NS_BadLine.ps_raise_ rfl T_BadLine hr (takes_of rfl rfl rfl rfl) (pa_cons (pv 3) (pa_cons pe_int pa_nil)))) pss_nil)
  (pss_cons (ps_asg (pe_callS C_numbers_behindX.G (hr.mono (by first | decide | omega)) rfl C_numbers_behindX.g C_numbers_behindX.kp C_numbers_behindX.b (fun σ => passAt (takes_of rfl rfl rfl rfl) σ) (pa_cons (pv 3) (pa_cons (pv 4) (pa_cons (pe_tup (pa_cons (pe_tup (pa_cons pe_int (pa_cons (pe_glob (v := .int 8) rfl T.c_MOST_FADE.choose_spec ⟨_, rfl⟩) pa_nil))) (pa_cons (pe_tup (pa_cons pe_int (pa_cons (pe_lenSetF (K := K) rfl rfl (by rfl) T.z_len (by rfl) T.z_set (pv 2)) pa_nil))) pa_nil))) pa_nil)))) (pg_tup rfl (pgs_cons (pg_name (i := 5) sc_read_machine.nd rfl (by first | exact Or.inl rfl | exact Or.inr rfl)) (pgs_cons (pg_name (i := 6) sc_read_machine.nd rfl (by first | exact Or.inl rfl | exact Or.inr rfl)) pgs_nil))))
  (pss_cons (ps_expr (pe_bm PySem.F.plainAttrs_list PySem.F.slot_list_append PySem.F.type_list_append mt_append (pv 1) (pa_cons (pv 5) pa_nil)))
  (pss_one (ps_expr (pe_bm PySem.F.plainAttrs_list PySem.F.slot_list_append PySem.F.type_list_append mt_append (pv 2) (pa_cons (pv 6) pa_nil))))))))
  (pss_one (ps_ret (pe_tup (pa_cons (pe_callTy (tpl_K (K := K) rfl) (by rfl) T.z_tuple (by decide +kernel) (pa_cons (pv 1) pa_nil)) (pa_cons (pe_callTy (tpl_K (K := K) rfl) (by rfl) T.z_tuple (by decide +kernel) (pa_cons (pv 2) pa_nil)) pa_nil))))))))), ?_⟩
    exact q_callX (ea_cons (ev_var rfl) ea_nil) fun H1 e1 => ⟨_, rfl, .inl rfl, fun H2 e2 => k H2 (e1.trans e2)⟩
--TY read_program {'cells':'int','text':'str','lines':L,'program':L,'line':'int','words':('list','str'),'limits':T,'instruction':T,'_':'any','@over':{'A':1,'X':1,'S':['check_string','lines_with_words','numbers_behind'],'raise':{'BadLine':'sup'}}}
theorem okS_read_program {CBS f f0 f1 f2 f3 f4 CBL fI cc cda aA aC aP : Addr} {fd fd0 fd1 fd2 fd3 fd4 : FuncData} (F : Fun K "read_program" "read_program" s_read_program f fd) (T : Txt K mg) (T_BadLine : NS_BadLine.Ty P K mg CBL fI cc cda) (Wd : Wds K mg aA aC aP)
    (C_check_cells : Cal P w K mg base CX0 4 "check_cells" f0 fd0 ["value"] spChkCells) (C_check_stringX : Cal P w K mg base (L2.CX P w) 1 "check_string" f1 fd1 ["value"] (spStrX K CBS)) (C_limits_behind : Cal P w K mg base CX0 1 "limits_behind" f4 fd4 ["cells", "word"] (spLim K))
    (C_lines_with_wordsX : Cal P w K mg base (L2.CX P w) 2 "lines_with_words" f2 fd2 ["text"] (fun vs H Q E => spLw K vs H Q E ∨ spLwX CBL vs H Q E)) (C_numbers_behindX : Cal P w K mg base (L2.CX P w) 3 "numbers_behind" f3 fd3 ["line", "words", "limits"] (fun vs H Q E => spNb K vs H Q E ∨ spNbX K CBL vs H Q E)) : FnOk P w K mg base (L2.CX P w) 5 f fd ["cells", "text"] (spRpS CBS) := by
  refine F.okX sc_read_program (fun vs H Q E h => ?_) (fun cdv A outer s H vs Q E hr h => ?_)
  · obtain ⟨_, rfl, _⟩ := h
    rfl
  · obtain ⟨c, rfl, hc1, hc4, k⟩ := h
    refine ⟨_, (pss_cons (ps_expr (pe_call C_check_cells.G (hr.mono (by first | decide | omega)) rfl C_check_cells.g C_check_cells.kp C_check_cells.b .nil pass0 (pa_cons (pv 0) pa_nil)))
  (pss_cons (ps_expr (pe_callS C_check_stringX.G (hr.mono (by first | decide | omega)) rfl C_check_stringX.g C_check_stringX.kp C_check_stringX.b (fun σ => passAt (takes_of rfl rfl rfl rfl) σ) (pa_cons (pv 1) pa_nil)))
  (pss_cons (ps_set (i := 2) sc_read_program.nd rfl (Or.inl rfl) (pe_callS C_lines_with_wordsX.G (hr.mono (by first | decide | omega)) rfl C_lines_with_wordsX.g C_lines_with_wordsX.kp C_lines_with_wordsX.b (fun σ => passAt (takes_of rfl rfl rfl rfl) σ) (pa_cons (pv 1) pa_nil)))
  (pss_cons (ps_set (i := 3) sc_read_program.nd rfl (Or.inl rfl) (pe_lst pa_nil))
  (pss_cons (ps_for (passes_of rfl) rfl (pi_listK (K := K) rfl (pv 2)) (pg_tup rfl (pgs_cons (pg_name (i := 4) sc_read_program.nd rfl (by first | exact Or.inl rfl | exact Or.inr rfl)) (pgs_cons (pg_name (i := 5) sc_read_program.nd rfl (by first | exact Or.inl rfl | exact Or.inr rfl)) pgs_nil))) (pss_cons (ps_set (i := 6) sc_read_program.nd rfl (Or.inl rfl) (pe_call C_limits_behind.G (hr.mono (by first | decide | omega)) rfl C_limits_behind.g C_limits_behind.kp C_limits_behind.b .nil pass0 (pa_cons (pv 0) (pa_cons (pe_ix (ix_K (K := K) rfl) (pv 5) pe_int (fun _ _ => rfl)) pa_nil))))
  (pss_cons (ps_if (PW.pt (pw_or (pt_cmpR op_isN (pv 6) pe_non (nomark _)) (pw_or1 (pt_cmpR op_eq (pe_callB (len_K (K := K) rfl) (by rfl) T.z_len (by decide +kernel) (pa_cons (pv 3) pa_nil)) (pe_glob (v := .int 4000) rfl T.c_MOST_KEPT.choose_spec ⟨_, rfl⟩) (nomark _))))) (pss_one (NS_BadLine.ps_raise_ rfl T_BadLine hr (takes_of rfl rfl rfl rfl) (pa_cons (pv 4) (pa_cons pe_int pa_nil)))) pss_nil)
  (pss_one (ps_expr (pe_bm PySem.F.plainAttrs_list PySem.F.slot_list_append PySem.F.type_list_append mt_append (pv 3) (pa_cons (pe_op (catA_K (K := K) rfl) (pe_tup (pa_cons (pe_ix (ix_K (K := K) rfl) (pv 5) pe_int (fun _ _ => rfl)) pa_nil)) (pe_callS C_numbers_behindX.G (hr.mono (by first | decide | omega)) rfl C_numbers_behindX.g C_numbers_behindX.kp C_numbers_behindX.b (fun σ => passAt (takes_of rfl rfl rfl rfl) σ) (pa_cons (pv 4) (pa_cons (pv 5) (pa_cons (pv 6) pa_nil))))) pa_nil)))))))
  (pss_cons (ps_for (passes_of rfl) rfl (pi_zip (by rfl) T.z_zip (pa_cons (pv 2) (pa_cons (pv 3) pa_nil))) (pg_tup rfl (pgs_cons (pg_tup rfl (pgs_cons (pg_name (i := 4) sc_read_program.nd rfl (by first | exact Or.inl rfl | exact Or.inr rfl)) (pgs_cons (pg_name (i := 7) sc_read_program.nd rfl (by first | exact Or.inl rfl | exact Or.inr rfl)) pgs_nil))) (pgs_cons (pg_name (i := 8) sc_read_program.nd rfl (by first | exact Or.inl rfl | exact Or.inr rfl)) pgs_nil))) (pss_one (ps_if (PW.pt (pw_and (pt_cmpR (in_K (K := K) rfl) (pe_ix (ix_K (K := K) rfl) (pv 8) pe_int (fun _ _ => rfl)) (pe_glob (v := .ref _) rfl Wd.g_WITH_PLACE rfl) (by rfl)) (pw_and1 (pt_cmpR op_gt (pe_ix (ix_K (K := K) rfl) (pv 8) pe_int (fun _ _ => rfl)) (pe_callB (len_K (K := K) rfl) (by rfl) T.z_len (by decide +kernel) (pa_cons (pv 3) pa_nil)) (nomark _))))) (pss_one (NS_BadLine.ps_raise_ rfl T_BadLine hr (takes_of rfl rfl rfl rfl) (pa_cons (pv 4) (pa_cons pe_int pa_nil)))) pss_nil)))
  (pss_one (ps_ret (pe_callTy (tpl_K (K := K) rfl) (by rfl) T.z_tuple (by decide +kernel) (pa_cons (pv 3) pa_nil)))))))))), ?_⟩
    refine q_call (ea_cons (ev_var rfl) ea_nil) fun H1 e1 => ⟨c, rfl, hc1, hc4, fun H2 e2 => ?_⟩
    exact q_callX (ea_cons (ev_var rfl) ea_nil) fun H3 e3 => ⟨_, rfl, .inr rfl, fun H4 e4 => k H4 (((e1.trans e2).trans e3).trans e4)⟩
end
end Fm
set_option Elab.async false
set_option linter.all false
set_option maxRecDepth 100000
set_option maxHeartbeats 1000000
namespace Fm
open PySem L2 Evl TL RZ
/-! the theory of texts: parting by one sign -/
theorem pre_hit {s : Nat} {l : List Nat} : pre [s] (s :: l) = true := by
  unfold pre
  simp
theorem pre_miss {s c : Nat} {l : List Nat} (h : c ≠ s) : pre [s] (c :: l) = false := by
  unfold pre
  simp [h]
theorem spl_free {s : Nat} : ∀ (w acc l : List Nat), (∀ c ∈ w, c ≠ s) → spl [s] 0 acc (w ++ l) = spl [s] 0 (acc ++ w) l
  | [], acc, l, _ => by rw [List.nil_append, List.append_nil]
  | c :: w, acc, l, h => by
    rw [List.cons_append, spl_miss (pre_miss (h c (List.mem_cons_self ..))), spl_free w _ l fun d hd => h d (List.mem_cons_of_mem _ hd), List.append_assoc]
    rfl
theorem spl_sep {s : Nat} (acc l : List Nat) : spl [s] 0 acc (s :: l) = acc :: spl [s] 0 [] l := by
  rw [spl_hit pre_hit]
  rfl
/-- the words of a line -/
def wl (l : List Nat) : List (List Nat) := (spl [32] 0 [] l).filter fun w => !w.isEmpty
def one1 (w : List Nat) : List (List Nat) := if w.isEmpty then [] else [w]
theorem wl_one {w : List Nat} (h : ∀ c ∈ w, c ≠ 32) : wl w = one1 w := by
  unfold wl one1
  have := spl_free w [] [] h
  rw [List.append_nil, List.nil_append, spl_nil] at this
  rw [this]
  cases w <;> rfl
theorem wl_cons {w l : List Nat} (h : ∀ c ∈ w, c ≠ 32) : wl (w ++ 32 :: l) = one1 w ++ wl l := by
  unfold wl one1
  rw [spl_free w [] _ h, List.nil_append, spl_sep]
  cases w <;> rfl
theorem wl_sp {l : List Nat} : wl (32 :: l) = wl l := wl_cons (w := []) fun c h => nomatch h
theorem wl_pad {n : Nat} {l : List Nat} : wl (List.replicate n 32 ++ l) = wl l := by
  induction n with
  | zero => rfl
  | succ n ih => rw [List.replicate_succ, List.cons_append, wl_sp, ih]
theorem wl_nil : wl [] = [] := by
  unfold wl
  rw [spl_nil]
  rfl
def FreeS (s : Nat) (ws : List (List Nat)) : Prop := ∀ w ∈ ws, ∀ c ∈ w, c ≠ s
theorem filt_cons {w : List Nat} {l : List (List Nat)} : (w :: l).filter (fun w => !w.isEmpty) = one1 w ++ l.filter fun w => !w.isEmpty := by
  unfold one1
  cases w <;> rfl
theorem wl_join3 : ∀ (ws : List (List Nat)), FreeS 32 ws → wl (joinL [32, 32, 32] ws ++ [32]) = ws.filter fun w => !w.isEmpty
  | [], _ => by
    show wl [32] = []
    rw [wl_sp, wl_nil]
  | [w], h => by
    show wl (w ++ 32 :: []) = _
    rw [wl_cons (h w (List.mem_singleton.mpr rfl)), wl_nil, List.append_nil]
    unfold one1
    cases w <;> rfl
  | w :: v :: r, h => by
    have e : joinL [32, 32, 32] (w :: v :: r) ++ [32] = w ++ 32 :: (32 :: 32 :: (joinL [32, 32, 32] (v :: r) ++ [32])) := by
      simp only [joinL, List.append_assoc]
      rfl
    rw [e, wl_cons (h w (List.mem_cons_self ..)), wl_sp, wl_sp, wl_join3 (v :: r) fun u hu => h u (List.mem_cons_of_mem _ hu), ← filt_cons]
theorem wl_join1 : ∀ (ws : List (List Nat)), FreeS 32 ws → wl (joinL [32] ws) = ws.filter fun w => !w.isEmpty
  | [], _ => wl_nil
  | [w], h => by
    show wl w = _
    rw [wl_one (h w (List.mem_singleton.mpr rfl))]
    unfold one1
    cases w <;> rfl
  | w :: v :: r, h => by
    have e : joinL [32] (w :: v :: r) = w ++ 32 :: (joinL [32] (v :: r)) := by
      simp only [joinL, List.append_assoc]
      rfl
    rw [e, wl_cons (h w (List.mem_cons_self ..)), wl_join1 (v :: r) fun u hu => h u (List.mem_cons_of_mem _ hu), ← filt_cons]
/-- what is parted by a sign is free of it -/
theorem spl_isfree {s : Nat} : ∀ (l acc : List Nat), (∀ c ∈ acc, c ≠ s) → FreeS s (spl [s] 0 acc l)
  | [], acc, h => by
    rw [spl_nil]
    intro w hw
    rw [List.mem_singleton.mp hw]
    exact h
  | c :: l, acc, h => by
    by_cases q : c = s
    · subst q
      rw [spl_sep]
      intro w hw
      rcases List.mem_cons.mp hw with rfl | hw
      · exact h
      · exact spl_isfree l [] (fun d hd => nomatch hd) w hw
    · rw [spl_miss (pre_miss q)]
      refine spl_isfree l _ fun d hd => ?_
      rcases List.mem_append.mp hd with h2 | h2
      · exact h d h2
      · rw [List.mem_singleton.mp h2]
        exact q
theorem tl_sp : tl " " = [32] := by decide +kernel
theorem tl_nl : tl "\n" = [10] := by decide +kernel
theorem sp_tl (line : Str) : (spS line).map tl = spl [32] 0 [] (tl line) := by
  unfold spS
  rw [split_spl line " " (by decide +kernel) (kind_ok (by decide +kernel)), tl_sp]
theorem nl_tl (text : Str) : (nlS text).map tl = spl [10] 0 [] (tl text) := by
  unfold nlS
  rw [split_spl text "\n" (by decide +kernel) (kind_ok (by decide +kernel)), tl_nl]
theorem sp_free (line : Str) : FreeS 32 ((spS line).map tl) := by
  rw [sp_tl]
  exact spl_isfree _ _ fun c h => nomatch h
theorem nl_free (text : Str) : FreeS 10 ((nlS text).map tl) := by
  rw [nl_tl]
  exact spl_isfree _ _ fun c h => nomatch h
theorem ne_str {w : Str} : (!decide (V.str w = V.str "")) = !(tl w).isEmpty := by
  have : (V.str w = V.str "") ↔ tl w = [] := ⟨fun q => by rw [V.str.inj q]; decide +kernel, fun q => congrArg V.str (ext_tl (by rw [q]; decide +kernel))⟩
  rw [show decide (V.str w = V.str "") = decide (tl w = []) from decide_eq_decide.mpr this]
  cases tl w <;> rfl
theorem words_tl (line : Str) : (wordsS line).map tl = wl (tl line) := by
  unfold wordsS wl
  rw [← sp_tl, List.filter_map]
  unfold spS
  refine congrArg _ (List.filter_congr fun w _ => ?_)
  exact ne_str
theorem map_tl_inj : ∀ {xs ys : List Str}, xs.map tl = ys.map tl → xs = ys
  | [], [], _ => rfl
  | [], _ :: _, h => nomatch h
  | _ :: _, [], h => nomatch h
  | x :: xs, y :: ys, h => by
    rw [List.map_cons, List.map_cons] at h
    have h := List.cons.inj h
    rw [ext_tl h.1, map_tl_inj h.2]
theorem tl_app (x y : Str) : tl (x ++ y) = tl x ++ tl y := by
  show (x.cps ++ y.cps).toList = _
  rw [Array.toList_append]
theorem words_pad {n : Nat} (h : n < 3) : wordsS (padS n) = [] := map_tl_inj (by
  rw [words_tl, pad_tl h]
  have := wl_pad (n := n) (l := [])
  rw [List.append_nil] at this
  rw [this, wl_nil]
  rfl)
theorem words_loose {a : Nat} {line : Str} (h : a < 2) : wordsS (looseLine a line) = wordsS line := map_tl_inj (by
  rw [words_tl, words_tl]
  unfold looseLine
  rw [tl_app, tl_app, pad_tl (by omega), List.append_assoc, wl_pad, join_eq, tl_join, tl_sp, show tl "   " = [32, 32, 32] by decide +kernel, wl_join3 _ (sp_free line), sp_tl]
  rfl)
/-- words with spaces between them -/
structure Wd1 (ws : List Str) : Prop where
  ne : ws ≠ []
  w : ∀ w ∈ ws, tl w ≠ [] ∧ (∀ c ∈ tl w, c ≠ 32) ∧ ∀ c ∈ tl w, c ≠ 10
theorem Wd1.words {ws : List Str} (h : Wd1 ws) : wordsS (Txt.join " " ws) = ws := map_tl_inj (by
  rw [words_tl, join_eq, tl_join, tl_sp, wl_join1]
  · refine List.filter_eq_self.mpr fun w hw => ?_
    obtain ⟨x, hx, rfl⟩ := List.mem_map.mp hw
    have := (h.w x hx).1
    cases q : tl x with
    | nil => exact absurd q this
    | cons a b => rfl
  · intro w hw
    obtain ⟨x, hx, rfl⟩ := List.mem_map.mp hw
    exact (h.w x hx).2.1)
theorem Wd1.split {ws : List Str} (h : Wd1 ws) : spS (Txt.join " " ws) = ws := split_join (s := 32) (S := []) tl_sp (by decide +kernel) h.ne fun p hp z => (h.w p hp).2.1 32 z rfl
theorem joinL_mem {S : List Nat} {c : Nat} : ∀ {ps : List (List Nat)}, c ∈ joinL S ps → c ∈ S ∨ ∃ p ∈ ps, c ∈ p
  | [], h => nomatch h
  | [p], h => .inr ⟨p, List.mem_singleton.mpr rfl, h⟩
  | p :: q :: r, h => by
    simp only [joinL, List.mem_append] at h
    rcases h with h | h | h
    · exact .inr ⟨p, List.mem_cons_self .., h⟩
    · exact .inl h
    · rcases joinL_mem h with h | ⟨u, hu, h⟩
      · exact .inl h
      · exact .inr ⟨u, List.mem_cons_of_mem _ hu, h⟩
theorem Wd1.line {ws : List Str} (h : Wd1 ws) : ∀ c ∈ tl (Txt.join " " ws), c ≠ 10 := by
  intro c hc
  rw [join_eq, tl_join, tl_sp] at hc
  rcases joinL_mem hc with hc | ⟨p, hp, hc⟩
  · rw [List.mem_singleton.mp hc]
    decide
  · obtain ⟨x, hx, rfl⟩ := List.mem_map.mp hp
    exact (h.w x hx).2.2 c hc
theorem nl_join {ls : List Str} (h0 : ls ≠ []) (h : ∀ l ∈ ls, ∀ c ∈ tl l, c ≠ 10) : nlS (Txt.join "\n" ls) = ls := split_join (s := 10) (S := []) tl_nl (by decide +kernel) h0 fun p hp z => h p hp 10 z rfl
/-- the words of the lines that have any -/
def wsOf (text : Str) : List (List Str) := (lwOf text).map (·.2)
theorem wsOf_eq (text : Str) : wsOf text = ((nlS text).map wordsS).filter fun ws => !ws.isEmpty := by
  unfold wsOf lwOf pairsOf
  have e : (nlS text).map wordsS = (List.range (Txt.split text "\n").length).map fun i => wordsS ((Txt.split text "\n").getD i "") := by
    unfold nlS
    refine List.ext_getElem (by simp) fun i h1 h2 => ?_
    rw [List.length_map] at h1
    rw [List.getElem_map, List.getElem_map, List.getElem_range, List.getD_eq_getElem?_getD, List.getElem?_eq_getElem h1]
    rfl
  rw [e]
  generalize Txt.split text "\n" = ls
  rw [List.filter_map, List.filter_map, List.map_map]
  rfl
theorem LooseL.ws {ls gs : List Str} (h : LooseL ls gs) : (gs.map wordsS).filter (fun ws => !ws.isEmpty) = (ls.map wordsS).filter fun ws => !ws.isEmpty := by
  induction h with
  | nil => rfl
  | @snoc ls gs line n b a _ hn hb ha ih =>
    have e : ((List.replicate b (padS n)).map wordsS).filter (fun ws => !ws.isEmpty) = [] := List.filter_eq_nil_iff.mpr fun ws hws => by
      rw [List.map_replicate, words_pad hn] at hws
      rw [(List.mem_replicate.mp hws).2]
      decide
    rw [List.map_append, List.map_append, List.filter_append, List.filter_append, e, List.append_nil, ih, List.map_append, List.filter_append]
    show _ ++ List.filter _ [wordsS (looseLine a line)] = _ ++ List.filter _ [wordsS line]
    rw [words_loose ha]
theorem LooseL.free {ls gs : List Str} (h : LooseL ls gs) (hl : ∀ l ∈ ls, ∀ c ∈ tl l, c ≠ 10) : ∀ g ∈ gs, ∀ c ∈ tl g, c ≠ 10 := by
  induction h with
  | nil => exact fun g hg => nomatch hg
  | @snoc ls gs line n b a _ hn hb ha ih =>
    intro g hg
    rcases List.mem_append.mp hg with h | h
    · rcases List.mem_append.mp h with h | h
      · exact ih (fun x hx => hl x (List.mem_append_left _ hx)) g h
      · rw [(List.mem_replicate.mp h).2, pad_tl hn]
        intro c hc
        rw [(List.mem_replicate.mp hc).2]
        decide
    · rw [List.mem_singleton.mp h]
      unfold looseLine
      intro c hc
      rw [tl_app, tl_app, pad_tl (by omega), List.mem_append, List.mem_append] at hc
      rcases hc with (hc | hc) | hc
      · rw [(List.mem_replicate.mp hc).2]
        decide
      · rw [join_eq, tl_join] at hc
        rcases joinL_mem hc with hc | ⟨p, hp, hc⟩
        · have : c = 32 := by
            rw [show tl "   " = [32, 32, 32] by decide +kernel] at hc
            simpa using hc
          rw [this]
          decide
        · refine hl line (List.mem_append_right _ (List.mem_singleton.mpr rfl)) c ?_
          obtain ⟨x, hx, rfl⟩ := List.mem_map.mp hp
          have hj := congrArg tl (show line = Txt.join " " (spS line) from ?_)
          · rw [hj, join_eq, tl_join]
            have key : ∀ (ps : List (List Nat)) (p : List Nat), p ∈ ps → ∀ c ∈ p, c ∈ joinL (tl " ") ps := by
              intro ps
              induction ps with
              | nil => exact fun p hp => nomatch hp
              | cons q r ih =>
                intro p hp c hc
                cases r with
                | nil =>
                  rw [List.mem_singleton.mp hp] at hc
                  exact hc
                | cons v r =>
                  simp only [joinL, List.mem_append]
                  rcases List.mem_cons.mp hp with rfl | hp
                  · exact .inl hc
                  · exact .inr (.inr (ih p hp c hc))
            exact key _ _ (List.mem_map.mpr ⟨x, hx, rfl⟩) c hc
          · refine ext_tl ?_
            rw [join_eq, tl_join, sp_tl, tl_sp]
            have key : ∀ (l acc : List Nat), joinL [32] (spl [32] 0 acc l) = acc ++ l := by
              intro l
              induction l with
              | nil =>
                intro acc
                rw [spl_nil, List.append_nil]
                rfl
              | cons d l ih =>
                intro acc
                by_cases q : d = 32
                · subst q
                  rw [spl_sep]
                  have h1 := ih []
                  cases q2 : spl [32] 0 [] l with
                  | nil => exact absurd q2 (spl_ne _ _ _)
                  | cons v r =>
                    rw [q2] at h1
                    simp only [joinL]
                    rw [h1]
                    simp
                · rw [spl_miss (pre_miss q), ih, List.append_assoc]
                  rfl
            rw [key]
            rfl
      · rw [tl_sp, List.mem_singleton] at hc
        rw [hc]
        decide
theorem LooseL.ne {ls gs : List Str} (h : LooseL ls gs) (h0 : ls ≠ []) : gs ≠ [] := by
  cases h with
  | nil => exact absurd rfl h0
  | snoc _ _ _ _ => simp
/-- a text with more spaces and void lines has the same words in its lines -/
theorem loose_ws {ls gs : List Str} (h : LooseL ls gs) (h0 : ls ≠ []) (hl : ∀ l ∈ ls, ∀ c ∈ tl l, c ≠ 10) : wsOf (Txt.join "\n" gs) = wsOf (Txt.join "\n" ls) := by
  rw [wsOf_eq, wsOf_eq, nl_join (h.ne h0) (h.free hl), nl_join h0 hl, h.ws]
end Fm
set_option Elab.async false
set_option linter.all false
set_option maxRecDepth 100000
set_option maxHeartbeats 1000000
namespace Fm
open PySem L2 Evl TL RZ
/-! numbers as words -/
theorem starts_tl (w : Str) : Txt.startswith w "-" = true ↔ ∃ d, tl w = 45 :: d := by
  have h := TL.at_iff (x := w) (y := "-") (by decide +kernel) 0
  rw [List.drop_zero, show tl ("-" : Str) = [45] by decide +kernel] at h
  have e : Txt.startswith w "-" = true ↔ PySem.StrLaws.At w "-" w.length 0 := by
    unfold Txt.startswith PySem.StrLaws.At
    simp
  rw [e, h]
  constructor
  · intro q
    cases r : tl w with
    | nil => rw [r] at q; exact absurd q (by decide)
    | cons c d =>
      rw [r] at q
      by_cases z : c = 45
      · exact ⟨d, by rw [z]⟩
      · rw [pre_miss z] at q; cases q
  · rintro ⟨d, q⟩
    rw [q, pre_hit]
theorem cut1_tl {w : Str} {c : Nat} {d : List Nat} (h : tl w = c :: d) : tl (cutS w (some 1) none) = d := by
  have hl : w.length = d.length + 1 := by rw [len_tl, h]; rfl
  have e1 : HT.sIx w.length 0 (some 1) = 1 := by
    have := HT.sIx_nat w.length 0 1
    rw [Nat.min_eq_left (by omega)] at this
    exact this
  have e2 : HT.sIx w.length w.length none = w.length := HT.sIx_none _ _
  unfold cutS
  rw [e1, e2]
  show ((tl w).drop 1).take (w.length - 1) = d
  rw [h, hl]
  show d.take (d.length + 1 - 1) = d
  rw [Nat.add_sub_cancel, List.take_length]
theorem dg_neg {w : Str} {d : List Nat} (h : tl w = 45 :: d) : tl (dgS w) = d := by
  unfold dgS
  rw [if_pos ((starts_tl w).mpr ⟨d, h⟩), cut1_tl h]
theorem dg_pos {w : Str} (h : ∀ d, tl w ≠ 45 :: d) : dgS w = w := by
  unfold dgS
  exact if_neg fun z => let ⟨d, q⟩ := (starts_tl w).mp z; h d q
theorem zt_pos (n : Nat) : tl (Str.ofString (toString ((n : Nat) : Int))) = numL n := tl_num n
theorem zt_neg (n : Nat) : tl (Str.ofString (toString (-((n + 1 : Nat) : Int)))) = 45 :: numL (n + 1) := by
  rw [show toString (-((n + 1 : Nat) : Int)) = "-" ++ toString (n + 1) from rfl, tl_ofString, String.toList_append, List.map_append, ← tl_num, tl_ofString]
  rfl
/-- the word of a number -/
def zT (z : Int) : Str := Str.ofString (toString z)
theorem numS_canon {w : Str} {n : Int} (h : numS w = some n) : w = zT n := by
  unfold numS at h
  split at h
  · cases h
  · rename_i hc
    have hp : plainL (tl (dgS w)) = true := by
      cases q : plainL (tl (dgS w)) with
      | true => rfl
      | false => exact absurd (.inl q) hc
    have hz : w ≠ "-0" := fun z => hc (.inr z)
    have hcan := plain_canon hp
    by_cases hs : ∃ d, tl w = 45 :: d
    · obtain ⟨d, hd⟩ := hs
      have hdg := dg_neg hd
      have hne : dgS w ≠ w := fun z => by
        have := congrArg (fun x : Str => (tl x).length) z
        simp only [hdg, hd, List.length_cons] at this
        omega
      rw [if_neg hne, hdg] at h
      cases h
      rw [hdg] at hcan
      cases hv : val d with
      | zero =>
        rw [hv] at hcan
        refine absurd (ext_tl ?_) hz
        rw [hd, ← hcan]
        decide +kernel
      | succ m =>
        refine ext_tl ?_
        unfold zT
        rw [zt_neg, ← hv, hcan, hd]
    · have hdg := dg_pos (w := w) fun d q => hs ⟨d, q⟩
      rw [hdg, if_pos rfl] at h
      cases h
      rw [hdg] at hcan
      refine ext_tl ?_
      unfold zT
      rw [zt_pos, hcan]
theorem numL_h45 {n : Nat} (d : List Nat) : numL n ≠ 45 :: d := fun z => numL_free (n := n) (s := 45) (.inl (by decide)) (by rw [z]; exact List.mem_cons_self ..)
theorem numS_of {z : Int} (h1 : -10000000 < z) (h2 : z < 10000000) : numS (zT z) = some z := by
  have key : z = ((z.toNat : Nat) : Int) ∨ ∃ m : Nat, z = -((m + 1 : Nat) : Int) := by
    by_cases q : 0 ≤ z
    · exact .inl (by omega)
    · exact .inr ⟨(-z).toNat - 1, by omega⟩
  rcases key with q | ⟨m, q⟩
  · generalize z.toNat = k at q
    subst q
    have ht : tl (zT (k : Nat)) = numL k := zt_pos k
    have hdg : dgS (zT (k : Nat)) = zT (k : Nat) := dg_pos fun d => by rw [ht]; exact numL_h45 d
    unfold numS
    rw [hdg, ht, if_neg, if_pos rfl]
    · show some ((NumText.digitsVal (numL k) : Nat) : Int) = _
      rw [numL_val]
    · rintro (q | q)
      · rw [numL_plain (by omega)] at q; cases q
      · have := congrArg tl q
        rw [ht, show tl ("-0" : Str) = 45 :: [48] by decide +kernel] at this
        exact numL_h45 _ this
  · subst q
    have ht : tl (zT (-((m + 1 : Nat) : Int))) = 45 :: numL (m + 1) := zt_neg m
    have hdg := dg_neg ht
    have hne : dgS (zT (-((m + 1 : Nat) : Int))) ≠ zT (-((m + 1 : Nat) : Int)) := fun z => by
      have := congrArg (fun x : Str => (tl x).length) z
      simp only [hdg, ht, List.length_cons] at this
      omega
    unfold numS
    rw [hdg, if_neg, if_neg hne]
    · show some (-((NumText.digitsVal (numL (m + 1)) : Nat) : Int)) = _
      rw [numL_val]
    · rintro (q | q)
      · rw [numL_plain (by omega)] at q; cases q
      · have := congrArg tl q
        rw [ht, show tl ("-0" : Str) = 45 :: numL 0 by decide +kernel] at this
        have := numL_inj (List.cons.inj this).2
        omega
theorem numR_of {z lo hi : Int} (h1 : -10000000 < z) (h2 : z < 10000000) (h : lo ≤ z ∧ z ≤ hi) : numR (zT z) lo hi = some z := by
  unfold numR
  rw [numS_of h1 h2]
  exact if_pos h
theorem numR_canon {w : Str} {lo hi n : Int} (h : numR w lo hi = some n) : w = zT n ∧ lo ≤ n ∧ n ≤ hi := by
  refine ⟨?_, numR_in h⟩
  unfold numR at h
  cases q : numS w with
  | none => rw [q] at h; cases h
  | some m =>
    rw [q] at h
    have h : (if lo ≤ m ∧ m ≤ hi then some m else none) = some n := h
    split at h
    · cases h
      exact numS_canon q
    · cases h
/-- the word of a number is a word -/
theorem zT_word (z : Int) : tl (zT z) ≠ [] ∧ (∀ c ∈ tl (zT z), c ≠ 32) ∧ ∀ c ∈ tl (zT z), c ≠ 10 := by
  have hf : ∀ (n s : Nat), s < 45 → s ∉ numL n ∧ ∀ c ∈ numL n, c ≠ s := fun n s hs => ⟨numL_free (.inl (by omega)), fun c hc z => numL_free (n := n) (s := s) (.inl (by omega)) (z ▸ hc)⟩
  have key : (∃ n : Nat, z = (n : Nat)) ∨ ∃ m : Nat, z = -((m + 1 : Nat) : Int) := by
    by_cases q : 0 ≤ z
    · exact .inl ⟨z.toNat, by omega⟩
    · exact .inr ⟨(-z).toNat - 1, by omega⟩
  rcases key with ⟨n, rfl⟩ | ⟨m, rfl⟩
  · have ht : tl (zT (n : Nat)) = numL n := zt_pos n
    rw [ht]
    exact ⟨numL_ne n, (hf n 32 (by decide)).2, (hf n 10 (by decide)).2⟩
  · have ht : tl (zT (-((m + 1 : Nat) : Int))) = 45 :: numL (m + 1) := zt_neg m
    rw [ht]
    refine ⟨fun z => (nomatch z), fun c hc => ?_, fun c hc => ?_⟩
    · rcases List.mem_cons.mp hc with rfl | hc
      · decide
      · exact (hf _ 32 (by decide)).2 c hc
    · rcases List.mem_cons.mp hc with rfl | hc
      · decide
      · exact (hf _ 10 (by decide)).2 c hc
/-! how many rows there are -/
theorem dist_fold (ns : List Int) : dist ns = (ns.foldl PyProof.Rows.step_dedup []).length := by
  unfold dist PyProof.Rows.firstMet
  have : (List.range ns.length).map (fun i => ns.getD i 0) = ns := by
    refine List.ext_getElem (by simp) fun i h1 h2 => ?_
    rw [List.getElem_map, List.getElem_range, List.getD_eq_getElem?_getD, List.getElem?_eq_getElem h2]
    rfl
  rw [this]
theorem dist_rows : ∀ rs : List Nat, RowsOk rs → (∀ x : Int, x ∈ (rs.map fun (x : Nat) => (x : Int)).foldl PyProof.Rows.step_dedup [] ↔ 0 ≤ x ∧ x < nm rs) ∧ dist (rs.map fun (x : Nat) => (x : Int)) = nm rs := by
  intro rs
  refine rev_ind (P := fun rs => RowsOk rs → (∀ x : Int, x ∈ (rs.map fun (x : Nat) => (x : Int)).foldl PyProof.Rows.step_dedup [] ↔ 0 ≤ x ∧ x < nm rs) ∧ dist (rs.map fun (x : Nat) => (x : Int)) = nm rs) ?_ ?_ rs
  · intro _
    refine ⟨fun x => ⟨fun h => (nomatch h), fun h => ?_⟩, by rw [dist_fold]; rfl⟩
    have h2 : x < ((0 : Nat) : Int) := h.2
    omega
  · intro l x ih h
    have hl : RowsOk l := fun i r hi => by
      have hil : i < l.length := (List.getElem?_eq_some_iff.mp hi).1
      have := h i r (by rw [List.getElem?_append_left hil]; exact hi)
      rwa [List.take_append_of_le_length (by omega)] at this
    have hx : x ≤ nm l := by
      have := h l.length x (by rw [List.getElem?_append_right (Nat.le_refl _), Nat.sub_self]; rfl)
      rwa [List.take_left'] at this
      rfl
    obtain ⟨i1, i2⟩ := ih hl
    rw [dist_fold] at i2 ⊢
    rw [List.map_append, List.foldl_append, nm_app]
    generalize hF : (l.map fun (x : Nat) => (x : Int)).foldl PyProof.Rows.step_dedup [] = F at i1 i2
    show (∀ y : Int, y ∈ PyProof.Rows.step_dedup F (x : Int) ↔ 0 ≤ y ∧ y < (max (nm l) (x + 1) : Nat)) ∧ (PyProof.Rows.step_dedup F (x : Int)).length = max (nm l) (x + 1)
    unfold PyProof.Rows.step_dedup
    by_cases q : x < nm l
    · have hm : (x : Int) ∈ F := (i1 _).mpr (by omega)
      have ha : (F.any fun y => y == (x : Int)) = true := List.any_eq_true.mpr ⟨_, hm, by simp⟩
      rw [if_pos ha]
      refine ⟨fun y => ?_, by omega⟩
      rw [i1]
      omega
    · have hxe : x = nm l := by omega
      have ha : ¬ (F.any fun y => y == (x : Int)) = true := fun z => by
        obtain ⟨y, hy, he⟩ := List.any_eq_true.mp z
        have := (i1 y).mp hy
        have : y = (x : Int) := by simpa using he
        omega
      rw [if_neg ha]
      refine ⟨fun y => ?_, by rw [List.length_append]; show _ + 1 = _; omega⟩
      rw [List.mem_append, i1, List.mem_singleton]
      omega
end Fm
set_option Elab.async false
set_option linter.all false
set_option maxRecDepth 100000
set_option maxHeartbeats 1000000
namespace Fm
open PySem L2 Evl TL RZ
/-! machines read back -/
def enumW : Nat → List (List Str) → List (Nat × List Str)
  | _, [] => []
  | k, ws :: r => (k, ws) :: enumW (k + 1) r
theorem enumW_len : ∀ (k : Nat) (Ws : List (List Str)), (enumW k Ws).length = Ws.length
  | _, [] => rfl
  | k, ws :: r => by
    show (enumW (k + 1) r).length + 1 = r.length + 1
    rw [enumW_len]
theorem enumW_snd : ∀ (k : Nat) (Ws : List (List Str)), (enumW k Ws).map (·.2) = Ws
  | _, [] => rfl
  | k, ws :: r => by
    show ws :: (enumW (k + 1) r).map (·.2) = ws :: r
    rw [enumW_snd]
theorem enumW_app : ∀ (k : Nat) (As Bs : List (List Str)), enumW k (As ++ Bs) = enumW k As ++ enumW (k + As.length) Bs
  | k, [], Bs => rfl
  | k, a :: As, Bs => by
    show (k, a) :: enumW (k + 1) (As ++ Bs) = (k, a) :: (enumW (k + 1) As ++ enumW (k + (As.length + 1)) Bs)
    rw [enumW_app (k + 1) As Bs, show k + 1 + As.length = k + (As.length + 1) by omega]
theorem enumW_get : ∀ (k : Nat) (Ws : List (List Str)) (i : Nat) (h : i < (enumW k Ws).length) (h2 : i < Ws.length), (enumW k Ws)[i] = (k + i, Ws[i])
  | k, ws :: r, 0, _, _ => rfl
  | k, ws :: r, i + 1, h, h2 => by
    show (enumW (k + 1) r)[i]'_ = (k + (i + 1), r[i]'_)
    rw [enumW_get (k + 1) r i (Nat.lt_of_succ_lt_succ h) (Nat.lt_of_succ_lt_succ h2), show k + 1 + i = k + (i + 1) by omega]
/-- a text whose lines are words with one space between them -/
def clean (Ws : List (List Str)) : Str := Txt.join "\n" (Ws.map (Txt.join " "))
theorem clean_nl {Ws : List (List Str)} (h0 : Ws ≠ []) (h : ∀ ws ∈ Ws, Wd1 ws) : nlS (clean Ws) = Ws.map (Txt.join " ") := nl_join (fun z => h0 (List.map_eq_nil_iff.mp z)) fun l hl => by
  obtain ⟨ws, hw, rfl⟩ := List.mem_map.mp hl
  exact (h ws hw).line
theorem lwOf_clean {Ws : List (List Str)} (h0 : Ws ≠ []) (h : ∀ ws ∈ Ws, Wd1 ws) : lwOf (clean Ws) = enumW 1 Ws := by
  have hn := clean_nl h0 h
  have e : pairsOf (Ws.map (Txt.join " ")) = enumW 1 Ws := by
    unfold pairsOf
    refine List.ext_getElem (by rw [List.length_map, List.length_range, List.length_map, enumW_len]) fun i h1 h2 => ?_
    rw [enumW_len] at h2
    rw [List.getElem_map, List.getElem_range, enumW_get 1 Ws i (by rw [enumW_len]; exact h2) h2, List.getD_eq_getElem?_getD, List.getElem?_map, List.getElem?_eq_getElem h2]
    show (i + 1, wordsS (Txt.join " " Ws[i])) = _
    rw [(h _ (List.getElem_mem h2)).words, Nat.add_comm]
  show (pairsOf (nlS (clean Ws))).filter _ = _
  rw [hn, e]
  refine List.filter_eq_self.mpr fun p hp => ?_
  have hm : p.2 ∈ Ws := by
    have := List.mem_map_of_mem (f := (·.2)) hp
    rwa [enumW_snd] at this
  have := (h _ hm).ne
  cases q : p.2 with
  | nil => exact absurd q this
  | cons a b => rfl
theorem wsOf_clean {Ws : List (List Str)} (h0 : Ws ≠ []) (h : ∀ ws ∈ Ws, Wd1 ws) : wsOf (clean Ws) = Ws := by
  unfold wsOf
  rw [lwOf_clean h0 h, enumW_snd]
/-- the line numbers tell nothing but the line -/
theorem rdGo_congr : ∀ (ps qs : List (Nat × List Str)) (fs rs : List Nat) (x : List Nat × List Nat), ps.map (·.2) = qs.map (·.2) → rdGo ps fs rs = .ok x → rdGo qs fs rs = .ok x
  | [], [], _, _, _, _, h => h
  | [], _ :: _, _, _, _, e, _ => nomatch e
  | _ :: _, [], _, _, _, e, _ => nomatch e
  | (l1, w1) :: ps, (l2, w2) :: qs, fs, rs, x, e, h => by
    rw [List.map_cons, List.map_cons] at e
    obtain ⟨e1, e2⟩ := List.cons.inj e
    have e1 : w1 = w2 := e1
    subst e1
    unfold rdGo at h ⊢
    split at h
    · cases h
    · rename_i hc
      rw [if_neg hc]
      cases q : nbF w1 [(1, 8), (0, (dist (rs.map fun (x : Nat) => (x : Int)) : Nat))] with
      | error p => rw [q] at h; cases h
      | ok ns =>
        rw [q] at h
        exact rdGo_congr ps qs _ _ x e2 h
theorem lw_nil {a b : Str} (h : wsOf a = wsOf b) : lwOf a = [] ↔ lwOf b = [] := by
  unfold wsOf at h
  constructor
  · intro q
    rw [q] at h
    exact List.map_eq_nil_iff.mp h.symm
  · intro q
    rw [q] at h
    exact List.map_eq_nil_iff.mp h
theorem rdM_congr {a b : Str} {x : List Nat × List Nat} (h : wsOf a = wsOf b) (ha : rdM a = .ok x) : rdM b = .ok x := by
  unfold rdM at ha ⊢
  split at ha
  · cases ha
  · rename_i hc
    rw [if_neg fun z => hc ((lw_nil h).mpr z)]
    exact rdGo_congr _ _ _ _ _ h ha
def Wm (f r : Nat) : List Str := ["cell", zT (f : Nat), zT (r : Nat)]
theorem Wm_wd (f r : Nat) : Wd1 (Wm f r) := ⟨fun z => (nomatch z), fun w hw => by
  rcases List.mem_cons.mp hw with rfl | hw
  · decide +kernel
  · rcases List.mem_cons.mp hw with rfl | hw
    · exact zT_word _
    · rw [List.mem_singleton.mp hw]
      exact zT_word _⟩
theorem rowLine_join (f r : Nat) : rowLine f r = Txt.join " " (Wm f r) := ext_tl (by
  unfold rowLine
  rw [join_eq, tl_join, tl_app, tl_app, tl_app, tl_app, tl_sp]
  have e : tl ("cell " : Str) = tl ("cell" : Str) ++ [32] := by decide +kernel
  rw [e]
  show ((([] ++ (tl ("cell" : Str) ++ [32])) ++ tl (numT f)) ++ [32]) ++ tl (numT r) = joinL [32] [tl ("cell" : Str), tl (zT (f : Nat)), tl (zT (r : Nat))]
  simp only [joinL, List.append_assoc, List.nil_append]
  rfl)
theorem nbF_rows {f r d : Nat} (h1 : 1 ≤ f) (h8 : f ≤ 8) (hr : r ≤ d) (hd : d ≤ 1000) : nbF (Wm f r) [(1, 8), (0, (d : Nat))] = .ok [(f : Int), (r : Int)] := by
  have a0 : numAt (Wm f r) [(1, 8), (0, (d : Nat))] 0 = some (f : Int) := numR_of (z := (f : Int)) (lo := 1) (hi := 8) (by omega) (by omega) ⟨by omega, by omega⟩
  have a1 : numAt (Wm f r) [(1, 8), (0, (d : Nat))] 1 = some (r : Int) := numR_of (z := (r : Int)) (lo := 0) (hi := (d : Nat)) (by omega) (by omega) ⟨by omega, by omega⟩
  unfold nbF
  have e : (List.range ([(1, 8), (0, (d : Nat))] : List (Int × Int)).length).find? (fun i => (numAt (Wm f r) [(1, 8), (0, (d : Nat))] i).isNone) = none := by
    show List.find? _ [0, 1] = none
    rw [List.find?_cons, a0]
    show List.find? _ [1] = none
    rw [List.find?_cons, a1]
    rfl
  rw [e]
  show (if (Wm f r).length ≤ 2 + 1 then _ else _) = _
  rw [if_pos (by show 3 ≤ 3; decide)]
  show Except.ok [(numAt (Wm f r) [(1, 8), (0, (d : Nat))] 0).getD 0, (numAt (Wm f r) [(1, 8), (0, (d : Nat))] 1).getD 0] = _
  rw [a0, a1]
  rfl
theorem rows_pre {l r : List Nat} (h : RowsOk (l ++ r)) : RowsOk l := fun i x hi => by
  have hil : i < l.length := (List.getElem?_eq_some_iff.mp hi).1
  have := h i x (by rw [List.getElem?_append_left hil]; exact hi)
  rwa [List.take_append_of_le_length (by omega)] at this
theorem rows_at {l r : List Nat} {x : Nat} (h : RowsOk (l ++ x :: r)) : x ≤ nm l := by
  have := h l.length x (by rw [List.getElem?_append_right (Nat.le_refl _), Nat.sub_self]; rfl)
  rwa [List.take_left'] at this
  rfl
theorem dist_le1 {rs : List Nat} : dist (rs.map fun (x : Nat) => (x : Int)) ≤ rs.length := by
  have := dist_le (rs.map fun (x : Nat) => (x : Int))
  rwa [List.length_map] at this
theorem rdGo_rows : ∀ (qs : List (Nat × Nat)) (k : Nat) (fs rs : List Nat), fs.length + qs.length ≤ 4 → rs.length = fs.length → (∀ q ∈ qs, 1 ≤ q.1 ∧ q.1 ≤ 8) → RowsOk (rs ++ qs.map (·.2)) → rdGo (enumW k (qs.map fun q => Wm q.1 q.2)) fs rs = .ok (fs ++ qs.map (·.1), rs ++ qs.map (·.2))
  | [], k, fs, rs, _, _, _, _ => by
    show Except.ok (fs, rs) = .ok (fs ++ [], rs ++ [])
    rw [List.append_nil, List.append_nil]
  | (f, r) :: qs, k, fs, rs, hl, hle, hq, hr => by
    have hr2 : r ≤ dist (rs.map fun (x : Nat) => (x : Int)) := by
      rw [(dist_rows rs (rows_pre hr)).2]
      exact rows_at hr
    have hd := @dist_le1 rs
    have hl' : fs.length + (qs.length + 1) ≤ 4 := hl
    have hf := hq _ (List.mem_cons_self ..)
    show rdGo ((k, Wm f r) :: enumW (k + 1) (qs.map fun q => Wm q.1 q.2)) fs rs = _
    unfold rdGo
    rw [if_neg (by rintro (z | z); exact z rfl; omega), nbF_rows hf.1 hf.2 hr2 (by omega)]
    show rdGo (enumW (k + 1) (qs.map fun q => Wm q.1 q.2)) (fs ++ [f]) (rs ++ [r]) = _
    rw [rdGo_rows qs (k + 1) (fs ++ [f]) (rs ++ [r]) (by rw [List.length_append, List.length_singleton]; omega) (by rw [List.length_append, List.length_append, List.length_singleton, List.length_singleton, hle]) (fun q h => hq q (List.mem_cons_of_mem _ h)) (by rw [List.append_assoc]; exact hr), List.append_assoc, List.append_assoc]
    rfl
theorem nbF_wm {ws : List Str} {d : Nat} {ns : List Int} (h0 : ws.getD 0 "" = "cell") (h : nbF ws [(1, 8), (0, (d : Nat))] = .ok ns) : ∃ f r : Nat, ns = [(f : Int), (r : Int)] ∧ ws = Wm f r ∧ 1 ≤ f ∧ f ≤ 8 ∧ r ≤ d := by
  obtain ⟨hl, hn, hw⟩ := nbF_ok h
  have n0 := hn 0 (by show 0 < 2; decide)
  have n1 := hn 1 (by show 1 < 2; decide)
  unfold numAt at n0 n1
  split at n0
  · split at n1
    · rename_i c0 c1
      match ws, c1, hw with
      | [a, b, c], _, _ =>
        match ns, hl with
        | [x, y], _ =>
          obtain ⟨e0, l0, u0⟩ := numR_canon (w := b) (lo := 1) (hi := 8) (n := x) n0
          obtain ⟨e1, l1, u1⟩ := numR_canon (w := c) (lo := 0) (hi := (d : Nat)) (n := y) n1
          have ea : a = "cell" := h0
          refine ⟨x.toNat, y.toNat, ?_, ?_, by omega, by omega, by omega⟩
          · rw [show ((x.toNat : Nat) : Int) = x by omega, show ((y.toNat : Nat) : Int) = y by omega]
          · unfold Wm
            rw [show ((x.toNat : Nat) : Int) = x by omega, show ((y.toNat : Nat) : Int) = y by omega, ← e0, ← e1, ea]
    · cases n1
  · cases n0
theorem rdGo_back : ∀ (ps : List (Nat × List Str)) (fs rs fs' rs' : List Nat), fs.length ≤ 4 → RowsOk rs → rdGo ps fs rs = .ok (fs', rs') → ∃ qs : List (Nat × Nat), fs' = fs ++ qs.map (·.1) ∧ rs' = rs ++ qs.map (·.2) ∧ ps.map (·.2) = qs.map (fun q => Wm q.1 q.2) ∧ (∀ q ∈ qs, 1 ≤ q.1 ∧ q.1 ≤ 8) ∧ RowsOk rs' ∧ fs'.length ≤ 4
  | [], fs, rs, fs', rs', hl, hr, h => by
    cases h
    exact ⟨[], by simp, by simp, rfl, by simp, hr, hl⟩
  | (ln, ws) :: ps, fs, rs, fs', rs', hl, hr, h => by
    unfold rdGo at h
    split at h
    · cases h
    · rename_i hc
      cases q : nbF ws [(1, 8), (0, (dist (rs.map fun (x : Nat) => (x : Int)) : Nat))] with
      | error p => rw [q] at h; cases h
      | ok ns =>
        rw [q] at h
        obtain ⟨f, r, rfl, rfl, h1, h8, hrd⟩ := nbF_wm (Classical.not_not.mp fun z => hc (.inl z)) q
        have h : rdGo ps (fs ++ [f]) (rs ++ [r]) = .ok (fs', rs') := h
        rw [(dist_rows rs hr).2] at hrd
        have hr2 : RowsOk (rs ++ [r]) := fun i x hi => by
          by_cases hil : i < rs.length
          · rw [List.getElem?_append_left hil] at hi
            rw [List.take_append_of_le_length (by omega)]
            exact hr i x hi
          · have hi2 := (List.getElem?_eq_some_iff.mp hi).1
            rw [List.length_append, List.length_singleton] at hi2
            have hie : i = rs.length := by omega
            subst hie
            rw [List.getElem?_append_right (Nat.le_refl _), Nat.sub_self] at hi
            cases hi
            rw [List.take_left' rfl]
            exact hrd
        have hne : fs.length ≠ 4 := fun z => hc (.inr z)
        obtain ⟨qs, e1, e2, e3, e4, e5, e6⟩ := rdGo_back ps _ _ fs' rs' (by rw [List.length_append, List.length_singleton]; omega) hr2 h
        refine ⟨(f, r) :: qs, by rw [e1, List.append_assoc]; rfl, by rw [e2, List.append_assoc]; rfl, ?_, ?_, e5, e6⟩
        · show Wm f r :: ps.map (·.2) = Wm f r :: qs.map _
          rw [e3]
        · intro u hu
          rcases List.mem_cons.mp hu with rfl | hu
          · exact ⟨h1, h8⟩
          · exact e4 u hu
theorem rdGo_app : ∀ (ps qs : List (Nat × List Str)) (fs rs f r : List Nat), rdGo ps fs rs = .ok (f, r) → rdGo (ps ++ qs) fs rs = rdGo qs f r
  | [], qs, fs, rs, f, r, h => by cases h; rfl
  | (ln, ws) :: ps, qs, fs, rs, f, r, h => by
    have ih := fun fs rs => rdGo_app ps qs fs rs f r
    generalize rdGo qs f r = R at ih ⊢
    show rdGo ((ln, ws) :: (ps ++ qs)) fs rs = _
    unfold rdGo at h ⊢
    split at h
    · cases h
    · rename_i hc
      rw [if_neg hc]
      cases q : nbF ws [(1, 8), (0, (dist (rs.map fun (x : Nat) => (x : Int)) : Nat))] with
      | error p => rw [q] at h; cases h
      | ok ns =>
        rw [q] at h
        exact ih _ _ h
theorem rdGo_line : ∀ (Ws : List (List Str)) (k : Nat) (fs rs : List Nat) (l p : Nat), rdGo (enumW k Ws) fs rs = .error (l, p) → k ≤ l
  | [], k, fs, rs, l, p, h => nomatch h
  | ws :: Ws, k, fs, rs, l, p, h => by
    have h : rdGo ((k, ws) :: enumW (k + 1) Ws) fs rs = .error (l, p) := h
    unfold rdGo at h
    split at h
    · cases h; exact Nat.le_refl _
    · cases q : nbF ws [(1, 8), (0, (dist (rs.map fun (x : Nat) => (x : Int)) : Nat))] with
      | error p2 => rw [q] at h; cases h; exact Nat.le_refl _
      | ok ns =>
        rw [q] at h
        have := rdGo_line Ws (k + 1) _ _ l p h
        omega
/-- a word put in the place of another one: the wrong word is it, or behind it -/
theorem rdGo_bent {qa qb : List (Nat × Nat)} {f r place l p : Nat} {w : Str} (hl : qa.length + 1 ≤ 4) (hq : ∀ q ∈ qa, 1 ≤ q.1 ∧ q.1 ≤ 8) (hf : 1 ≤ f ∧ f ≤ 8) (hr : RowsOk (qa.map (·.2))) (hpl : place < 3)
    (h : rdGo (enumW 1 (qa.map (fun q => Wm q.1 q.2) ++ (Wm f r).set place w :: qb.map fun q => Wm q.1 q.2)) [] [] = .error (l, p)) : qa.length + 1 < l ∨ (l = qa.length + 1 ∧ place + 1 ≤ p) := by
  have h0 := rdGo_rows qa 1 [] [] (by show 0 + _ ≤ 4; omega) rfl hq hr
  rw [enumW_app, rdGo_app _ _ _ _ _ _ h0, List.length_map, List.nil_append, List.nil_append] at h
  have h : rdGo ((1 + qa.length, (Wm f r).set place w) :: enumW (1 + qa.length + 1) (qb.map fun q => Wm q.1 q.2)) (qa.map (·.1)) (qa.map (·.2)) = .error (l, p) := h
  unfold rdGo at h
  split at h
  · rename_i hc
    cases h
    refine .inr ⟨by omega, ?_⟩
    rcases hc with hc | hc
    · match place, hc with
      | 0, _ => exact Nat.le_refl _
      | _ + 1, hc => exact absurd rfl hc
    · rw [List.length_map] at hc
      omega
  · cases q : nbF ((Wm f r).set place w) [(1, 8), (0, (dist ((qa.map (·.2)).map fun (x : Nat) => (x : Int)) : Nat))] with
    | error p2 =>
      rw [q] at h
      cases h
      refine .inr ⟨by omega, ?_⟩
      rcases nbF_bad q with ⟨i, hi, rfl, hn, _⟩ | ⟨rfl, _, _⟩
      · match place, hpl with
        | 0, _ => omega
        | 1, _ => omega
        | 2, _ =>
          match i with
          | 0 =>
            exfalso
            have a0 : numAt ((Wm f r).set 2 w) [(1, 8), (0, (dist ((qa.map (·.2)).map fun (x : Nat) => (x : Int)) : Nat))] 0 = some (f : Int) := numR_of (z := (f : Int)) (lo := 1) (hi := 8) (by omega) (by omega) ⟨by omega, by omega⟩
            rw [a0] at hn
            cases hn
          | i + 1 => omega
      · show place + 1 ≤ 2 + 2
        omega
    | ok ns =>
      rw [q] at h
      have := rdGo_line _ _ _ _ _ _ h
      omega
end Fm
set_option Elab.async false
set_option linter.all false
set_option maxRecDepth 100000
set_option maxHeartbeats 1000000
namespace Fm
open PySem L2 Evl TL RZ
/-! what the law asks of machines as texts -/
def WsM (fs rs : List Nat) : List (List Str) := (fs.zip rs).map fun q => Wm q.1 q.2
theorem mText_clean {fs rs : List Nat} (h : fs.length = rs.length) : mText fs rs = clean (WsM fs rs) := by
  unfold mText clean WsM mLines
  rw [List.map_map]
  refine congrArg _ (List.ext_getElem (by rw [List.length_map, List.length_range, List.length_map, List.length_zip]; omega) fun i h1 h2 => ?_)
  rw [List.length_map, List.length_range] at h1
  rw [List.getElem_map, List.getElem_range, List.getElem_map, List.getElem_zip, List.getD_eq_getElem?_getD, List.getD_eq_getElem?_getD, List.getElem?_eq_getElem h1, List.getElem?_eq_getElem (by omega)]
  exact rowLine_join _ _
theorem WsM_wd {fs rs : List Nat} : ∀ ws ∈ WsM fs rs, Wd1 ws := fun ws hw => by
  obtain ⟨q, _, rfl⟩ := List.mem_map.mp hw
  exact Wm_wd _ _
theorem WsM_len {fs rs : List Nat} (h : fs.length = rs.length) : (WsM fs rs).length = fs.length := by
  unfold WsM
  rw [List.length_map, List.length_zip]
  omega
theorem zip_fst {fs rs : List Nat} (h : fs.length = rs.length) : (fs.zip rs).map (·.1) = fs := List.map_fst_zip (by omega)
theorem zip_snd {fs rs : List Nat} (h : fs.length = rs.length) : (fs.zip rs).map (·.2) = rs := List.map_snd_zip (by omega)
theorem zip_f {fs rs : List Nat} (h : MaOk fs rs) : ∀ q ∈ fs.zip rs, 1 ≤ q.1 ∧ q.1 ≤ 8 := fun q hq => h.f _ (List.of_mem_zip hq).1
theorem ne_len {α : Type} {l : List α} (h : 1 ≤ l.length) : l ≠ [] := fun z => by
  rw [z] at h
  exact Nat.not_succ_le_zero 0 h
theorem rdM_clean {Ws : List (List Str)} (h0 : Ws ≠ []) (h : ∀ ws ∈ Ws, Wd1 ws) : rdM (clean Ws) = rdGo (enumW 1 Ws) [] [] := by
  unfold rdM
  rw [lwOf_clean h0 h, if_neg]
  intro z
  have := congrArg List.length z
  rw [enumW_len] at this
  exact h0 (List.length_eq_zero_iff.mp this)
/-- a machine's text tells the machine -/
theorem rdM_text {fs rs : List Nat} (h : MaOk fs rs) : rdM (mText fs rs) = .ok (fs, rs) := by
  have hl := WsM_len h.ll
  have h1 := h.l1
  have h4 := h.l4
  have hll := h.ll
  rw [mText_clean h.ll, rdM_clean (ne_len (by omega)) WsM_wd]
  have := rdGo_rows (fs.zip rs) 1 [] [] (by rw [List.length_zip]; show 0 + _ ≤ 4; omega) rfl (zip_f h) (by rw [zip_snd h.ll]; exact h.r)
  rw [zip_fst h.ll, zip_snd h.ll] at this
  exact this
theorem mText_nl {fs rs : List Nat} (h : MaOk fs rs) : nlS (mText fs rs) = (WsM fs rs).map (Txt.join " ") := by
  have hl := WsM_len h.ll
  have h1 := h.l1
  rw [mText_clean h.ll, clean_nl (ne_len (by omega)) WsM_wd]
/-- and so does one with more spaces and void lines -/
theorem rdM_loose {fs rs : List Nat} {gs : List Str} (h : MaOk fs rs) (hL : LooseL (nlS (mText fs rs)) gs) : rdM (Txt.join "\n" gs) = .ok (fs, rs) := by
  refine rdM_congr ?_ (rdM_text h)
  have hn := mText_nl h
  have hl := WsM_len h.ll
  have h1 := h.l1
  rw [hn] at hL
  rw [loose_ws hL (fun z => absurd (congrArg List.length z) (by rw [List.length_map, hl]; show ¬ fs.length = 0; omega)) fun l hl => by
    obtain ⟨ws, hw, rfl⟩ := List.mem_map.mp hl
    exact (WsM_wd ws hw).line]
  show wsOf (mText fs rs) = wsOf (clean (WsM fs rs))
  rw [mText_clean h.ll]
/-- a word that may be put into a text -/
def WordS (w : Str) : Prop := tl w ≠ [] ∧ (∀ c ∈ tl w, c ≠ 32) ∧ ∀ c ∈ tl w, c ≠ 10
theorem Wd1.set {ws : List Str} {k : Nat} {w : Str} (h : Wd1 ws) (hw : WordS w) : Wd1 (ws.set k w) := ⟨fun z => h.ne (by
  have := congrArg List.length z
  rw [List.length_set] at this
  exact List.length_eq_zero_iff.mp this), fun x hx => by
  rcases List.mem_or_eq_of_mem_set hx with hx | rfl
  · exact h.w x hx
  · exact hw⟩
/-- a text of clean lines with a word put in the place of another one -/
theorem bent_clean {Ws : List (List Str)} {at' place : Nat} {w : Str} (h0 : Ws ≠ []) (h : ∀ ws ∈ Ws, Wd1 ws) (hat : at' < Ws.length) : bentS (clean Ws) at' place w = clean (Ws.take at' ++ (Ws.getD at' []).set place w :: Ws.drop (at' + 1)) := by
  unfold bentS
  rw [clean_nl h0 h]
  have hg : (Ws.map (Txt.join " ")).getD at' "" = Txt.join " " (Ws.getD at' []) := by
    rw [List.getD_eq_getElem?_getD, List.getElem?_map, List.getD_eq_getElem?_getD, List.getElem?_eq_getElem hat]
    rfl
  have hw : Wd1 (Ws.getD at' []) := h _ (by rw [List.getD_eq_getElem?_getD, List.getElem?_eq_getElem hat]; exact List.getElem_mem hat)
  rw [hg, hw.split]
  unfold clean
  rw [List.map_append, List.map_take, List.map_cons, List.map_drop, List.append_assoc]
  rfl
theorem bent_wd {Ws : List (List Str)} {at' place : Nat} {w : Str} (h : ∀ ws ∈ Ws, Wd1 ws) (hat : at' < Ws.length) (hw : WordS w) : ∀ ws ∈ Ws.take at' ++ (Ws.getD at' []).set place w :: Ws.drop (at' + 1), Wd1 ws := fun ws hm => by
  rcases List.mem_append.mp hm with hm | hm
  · exact h _ (List.mem_of_mem_take hm)
  · rcases List.mem_cons.mp hm with rfl | hm
    · exact (h _ (by rw [List.getD_eq_getElem?_getD, List.getElem?_eq_getElem hat]; exact List.getElem_mem hat)).set hw
    · exact h _ (List.mem_of_mem_drop hm)
/-- what is read out of clean lines is written as it stood -/
theorem rdM_back {Ws : List (List Str)} {fs rs : List Nat} (h0 : Ws ≠ []) (h : ∀ ws ∈ Ws, Wd1 ws) (hr : rdM (clean Ws) = .ok (fs, rs)) : MaOk fs rs ∧ mText fs rs = clean Ws := by
  rw [rdM_clean h0 h] at hr
  obtain ⟨qs, e1, e2, e3, e4, e5, e6⟩ := rdGo_back _ [] [] fs rs (by decide) (fun i r hi => nomatch hi) hr
  rw [enumW_snd] at e3
  rw [List.nil_append] at e1 e2
  have hz : fs.zip rs = qs := by rw [e1, e2, List.zip_map']; simp
  have hll : fs.length = rs.length := by rw [e1, e2, List.length_map, List.length_map]
  have hql : 1 ≤ qs.length := by
    cases q : qs with
    | nil => rw [q] at e3; exact absurd e3 h0
    | cons a b => show 1 ≤ b.length + 1; omega
  refine ⟨⟨by rw [e1, List.length_map]; exact hql, e6, hll, fun x hx => ?_, e5⟩, ?_⟩
  · rw [e1] at hx
    obtain ⟨q, hq, rfl⟩ := List.mem_map.mp hx
    exact e4 q hq
  · rw [mText_clean hll, e3]
    unfold WsM
    rw [hz]
/-- a machine's text with a word put in the place of another one -/
theorem rdM_bent {fs rs : List Nat} {at' place : Nat} {w : Str} (h : MaOk fs rs) (hat : at' < (nlS (mText fs rs)).length) (hpl : place < (spS ((nlS (mText fs rs)).getD at' "")).length) (hw : WordS w) :
    (∀ fs' rs', rdM (bentS (mText fs rs) at' place w) = .ok (fs', rs') → MaOk fs' rs' ∧ mText fs' rs' = bentS (mText fs rs) at' place w) ∧
    (∀ l p, rdM (bentS (mText fs rs) at' place w) = .error (l, p) → at' + 1 < l ∨ (l = at' + 1 ∧ place + 1 ≤ p)) := by
  have hl := WsM_len h.ll
  have h1 := h.l1
  have h4 := h.l4
  have hll := h.ll
  have h0 : WsM fs rs ≠ [] := ne_len (by omega)
  rw [mText_nl h] at hat hpl
  rw [List.length_map] at hat
  have hg : ((WsM fs rs).map (Txt.join " ")).getD at' "" = Txt.join " " ((WsM fs rs).getD at' []) := by
    rw [List.getD_eq_getElem?_getD, List.getElem?_map, List.getD_eq_getElem?_getD, List.getElem?_eq_getElem hat]
    rfl
  have hat2 : at' < (fs.zip rs).length := by rw [List.length_zip]; omega
  have hgw : (WsM fs rs).getD at' [] = Wm (fs.zip rs)[at'].1 (fs.zip rs)[at'].2 := by
    unfold WsM
    rw [List.getD_eq_getElem?_getD, List.getElem?_map, List.getElem?_eq_getElem hat2]
    rfl
  rw [hg, hgw, (Wm_wd _ _).split] at hpl
  have hpl : place < 3 := hpl
  rw [mText_clean h.ll, bent_clean h0 WsM_wd hat]
  have hwd := bent_wd (place := place) (w := w) (WsM_wd (fs := fs) (rs := rs)) hat hw
  have hne : (WsM fs rs).take at' ++ ((WsM fs rs).getD at' []).set place w :: (WsM fs rs).drop (at' + 1) ≠ [] := by simp
  refine ⟨fun fs' rs' hr => rdM_back hne hwd hr, fun l p hr => ?_⟩
  rw [rdM_clean hne hwd, hgw] at hr
  have hzq : fs.zip rs = (fs.zip rs).take at' ++ (fs.zip rs)[at'] :: (fs.zip rs).drop (at' + 1) := by
    rw [List.getElem_cons_drop, List.take_append_drop]
  have htl : ((fs.zip rs).take at').length = at' := by rw [List.length_take]; omega
  have hrr : RowsOk (((fs.zip rs).take at').map (·.2)) := by
    refine rows_pre (r := (((fs.zip rs)[at'] :: (fs.zip rs).drop (at' + 1)).map (·.2))) ?_
    rw [← List.map_append, ← hzq, zip_snd h.ll]
    exact h.r
  have := rdGo_bent (qa := (fs.zip rs).take at') (qb := (fs.zip rs).drop (at' + 1)) (f := (fs.zip rs)[at'].1) (r := (fs.zip rs)[at'].2) (place := place) (w := w) (l := l) (p := p) (by rw [htl]; rw [List.length_zip] at hat2; omega) (fun q hq => zip_f h q (List.mem_of_mem_take hq)) (zip_f h _ (List.getElem_mem hat2)) hrr hpl (by
    rw [List.map_take, List.map_drop]
    exact hr)
  rwa [htl] at this
end Fm
set_option Elab.async false
set_option linter.all false
set_option maxRecDepth 100000
set_option maxHeartbeats 1000000
namespace Fm
open PySem L2 Evl TL RZ
/-! programs read back -/
def insP (i : In) : Str × List Int := (i.w, i.arg.toList)
theorem vs_insP (i : In) : i.vs = V.str (insP i).1 :: (insP i).2.map V.int := by cases i <;> rfl
theorem insW_eq (i : In) : insW i = i.w :: i.arg.toList.map zT := by cases i <;> rfl
def limOf (c : Nat) : In → List (Int × Int)
  | .get _ => [(0, (c : Int) - 1)] | .plus _ => [(0, (c : Int) - 1)] | .minus _ => [(0, (c : Int) - 1)] | .set _ => [(0, (c : Int) - 1)] | .touch _ => [(0, (c : Int) - 1)]
  | .put _ => [(-1000000, 1000000)] | .say => [] | .ask => [] | .stop => [] | .zero _ => [(0, 4000)] | .go _ => [(0, 4000)]
theorem limF_in (c : Nat) (i : In) : limF c i.w = some (limOf c i) := by
  unfold limF
  cases i with
  | get n => rw [if_neg (by show ¬ inV (.str "get") WA = true; decide +kernel), if_pos (by show (inV (.str "get") WC || decide (V.str "get" = V.str "touch")) = true; decide +kernel)]; rfl
  | plus n => rw [if_neg (by show ¬ inV (.str "plus") WA = true; decide +kernel), if_pos (by show (inV (.str "plus") WC || decide (V.str "plus" = V.str "touch")) = true; decide +kernel)]; rfl
  | minus n => rw [if_neg (by show ¬ inV (.str "minus") WA = true; decide +kernel), if_pos (by show (inV (.str "minus") WC || decide (V.str "minus" = V.str "touch")) = true; decide +kernel)]; rfl
  | set n => rw [if_neg (by show ¬ inV (.str "set") WA = true; decide +kernel), if_pos (by show (inV (.str "set") WC || decide (V.str "set" = V.str "touch")) = true; decide +kernel)]; rfl
  | touch n => rw [if_neg (by show ¬ inV (.str "touch") WA = true; decide +kernel), if_pos (by show (inV (.str "touch") WC || decide (V.str "touch" = V.str "touch")) = true; decide +kernel)]; rfl
  | put k => rw [if_neg (by show ¬ inV (.str "put") WA = true; decide +kernel), if_neg (by show ¬ (inV (.str "put") WC || decide (V.str "put" = V.str "touch")) = true; decide +kernel), if_neg (by show ¬ inV (.str "put") WP = true; decide +kernel), if_pos (show V.str (In.put k).w = V.str "put" from rfl)]; rfl
  | say => rw [if_pos (by show inV (.str "say") WA = true; decide +kernel)]; rfl
  | ask => rw [if_pos (by show inV (.str "ask") WA = true; decide +kernel)]; rfl
  | stop => rw [if_pos (by show inV (.str "stop") WA = true; decide +kernel)]; rfl
  | zero t => rw [if_neg (by show ¬ inV (.str "zero") WA = true; decide +kernel), if_neg (by show ¬ (inV (.str "zero") WC || decide (V.str "zero" = V.str "touch")) = true; decide +kernel), if_pos (by show inV (.str "zero") WP = true; decide +kernel)]; rfl
  | go t => rw [if_neg (by show ¬ inV (.str "go") WA = true; decide +kernel), if_neg (by show ¬ (inV (.str "go") WC || decide (V.str "go" = V.str "touch")) = true; decide +kernel), if_pos (by show inV (.str "go") WP = true; decide +kernel)]; rfl
/-- one number behind a word, or none -/
theorem nbF_0 (w : Str) : nbF [w] [] = .ok [] := rfl
theorem nbF_1 {w : Str} {z lo hi : Int} (h1 : -10000000 < z) (h2 : z < 10000000) (h : lo ≤ z ∧ z ≤ hi) : nbF [w, zT z] [(lo, hi)] = .ok [z] := by
  have a0 : numAt [w, zT z] [(lo, hi)] 0 = some z := numR_of h1 h2 h
  unfold nbF
  have e : (List.range ([(lo, hi)] : List (Int × Int)).length).find? (fun i => (numAt [w, zT z] [(lo, hi)] i).isNone) = none := by
    show List.find? _ [0] = none
    rw [List.find?_cons, a0]
    rfl
  rw [e]
  show (if 2 ≤ 1 + 1 then _ else _) = _
  rw [if_pos (by decide)]
  show Except.ok [(numAt [w, zT z] [(lo, hi)] 0).getD 0] = _
  rw [a0]
  rfl
theorem nbF_in {c : Nat} {i : In} (hc : c ≤ 1000) (h : i.ok c 4000) : nbF (insW i) (limOf c i) = .ok (insP i).2 := by
  rw [insW_eq]
  cases i with
  | get n => have h : n < c := h; exact nbF_1 (by omega) (by omega) ⟨by omega, by omega⟩
  | plus n => have h : n < c := h; exact nbF_1 (by omega) (by omega) ⟨by omega, by omega⟩
  | minus n => have h : n < c := h; exact nbF_1 (by omega) (by omega) ⟨by omega, by omega⟩
  | set n => have h : n < c := h; exact nbF_1 (by omega) (by omega) ⟨by omega, by omega⟩
  | touch n => have h : n < c := h; exact nbF_1 (by omega) (by omega) ⟨by omega, by omega⟩
  | put k => have h : -1000000 ≤ k ∧ k ≤ 1000000 := h; exact nbF_1 (by omega) (by omega) h
  | say => exact nbF_0 _
  | ask => exact nbF_0 _
  | stop => exact nbF_0 _
  | zero t => have h : t ≤ 4000 := h; exact nbF_1 (by omega) (by omega) ⟨by omega, by omega⟩
  | go t => have h : t ≤ 4000 := h; exact nbF_1 (by omega) (by omega) ⟨by omega, by omega⟩
theorem back_0 {ws : List Str} {w : Str} {ns : List Int} (h0 : ws.getD 0 "" = w) (hw : w ≠ "") (h : nbF ws [] = .ok ns) : ns = [] ∧ ws = [w] := by
  obtain ⟨hl, _, hlen⟩ := nbF_ok h
  refine ⟨List.length_eq_zero_iff.mp hl, ?_⟩
  match ws, hlen with
  | [], _ => exact absurd h0.symm hw
  | [a], _ => rw [show a = w from h0]
theorem back_1 {ws : List Str} {w : Str} {lo hi : Int} {ns : List Int} (h0 : ws.getD 0 "" = w) (h : nbF ws [(lo, hi)] = .ok ns) : ∃ z, ns = [z] ∧ ws = [w, zT z] ∧ lo ≤ z ∧ z ≤ hi := by
  obtain ⟨hl, hn, hlen⟩ := nbF_ok h
  have n0 := hn 0 (by show 0 < 1; decide)
  unfold numAt at n0
  split at n0
  · rename_i c0
    match ws, c0, hlen with
    | [a, b], _, _ =>
      match ns, hl with
      | [x], _ =>
        obtain ⟨e0, l0, u0⟩ := numR_canon (w := b) (lo := lo) (hi := hi) (n := x) n0
        exact ⟨x, rfl, by rw [show a = w from h0, e0], l0, u0⟩
  · cases n0
theorem limF_back {c : Nat} {ws : List Str} {lm : List (Int × Int)} {ns : List Int} (hl : limF c (ws.getD 0 "") = some lm) (h : nbF ws lm = .ok ns) : ∃ i : In, insP i = (ws.getD 0 "", ns) ∧ ws = insW i ∧ i.ok c 4000 := by
  generalize hw : ws.getD 0 "" = w at hl
  unfold limF at hl
  split at hl
  · rename_i h1
    cases hl
    have a := inV_mem h1
    simp only [List.mem_cons, List.not_mem_nil, or_false, V.str.injEq] at a
    rcases a with rfl | rfl | rfl <;> obtain ⟨rfl, e⟩ := back_0 hw (by decide +kernel) h
    all_goals first | exact ⟨.say, rfl, e, trivial⟩ | exact ⟨.ask, rfl, e, trivial⟩ | exact ⟨.stop, rfl, e, trivial⟩
  · split at hl
    · rename_i h1
      cases hl
      obtain ⟨z, rfl, e, l0, u0⟩ := back_1 hw h
      have hz : z = ((z.toNat : Nat) : Int) := by omega
      have hlt : z.toNat < c := by omega
      rw [Bool.or_eq_true] at h1
      rcases h1 with h1 | h1
      · have a := inV_mem h1
        simp only [List.mem_cons, List.not_mem_nil, or_false, V.str.injEq] at a
        rw [hz] at e ⊢
        rcases a with rfl | rfl | rfl | rfl
        all_goals first | exact ⟨.get z.toNat, rfl, e, hlt⟩ | exact ⟨.set z.toNat, rfl, e, hlt⟩ | exact ⟨.plus z.toNat, rfl, e, hlt⟩ | exact ⟨.minus z.toNat, rfl, e, hlt⟩
      · have : w = "touch" := V.str.inj (of_decide_eq_true h1)
        subst this
        rw [hz] at e ⊢
        exact ⟨.touch z.toNat, rfl, e, hlt⟩
    · split at hl
      · rename_i h1
        cases hl
        obtain ⟨z, rfl, e, l0, u0⟩ := back_1 hw h
        have hz : z = ((z.toNat : Nat) : Int) := by omega
        have hlt : z.toNat ≤ 4000 := by omega
        have a := inV_mem h1
        simp only [List.mem_cons, List.not_mem_nil, or_false, V.str.injEq] at a
        rw [hz] at e ⊢
        rcases a with rfl | rfl
        all_goals first | exact ⟨.zero z.toNat, rfl, e, hlt⟩ | exact ⟨.go z.toNat, rfl, e, hlt⟩
      · split at hl
        · rename_i h1
          cases hl
          obtain ⟨z, rfl, e, l0, u0⟩ := back_1 hw h
          have : w = "put" := V.str.inj h1
          subst this
          exact ⟨.put z, rfl, e, l0, u0⟩
        · cases hl
theorem in_word (i : In) : Wd1 (insW i) := by
  rw [insW_eq]
  refine ⟨fun z => (nomatch z), fun w hw => ?_⟩
  rcases List.mem_cons.mp hw with rfl | hw
  · cases i <;> (dsimp only [In.w]; decide +kernel)
  · obtain ⟨z, _, rfl⟩ := List.mem_map.mp hw
    exact zT_word z
theorem rpGo_ins {c : Nat} (hc : c ≤ 1000) : ∀ (is : List In) (k : Nat) (acc : List (Str × List Int)), acc.length + is.length ≤ 4000 → (∀ i ∈ is, i.ok c 4000) → rpGo c (enumW k (is.map insW)) acc = .ok (acc ++ is.map insP)
  | [], k, acc, _, _ => by
    show Except.ok acc = .ok (acc ++ [])
    rw [List.append_nil]
  | i :: is, k, acc, hl, hi => by
    have hl' : acc.length + (is.length + 1) ≤ 4000 := hl
    show rpGo c ((k, insW i) :: enumW (k + 1) (is.map insW)) acc = _
    unfold rpGo
    have hw : (insW i).getD 0 "" = i.w := by rw [insW_eq]; rfl
    rw [hw, limF_in]
    show (if acc.length = 4000 then _ else _) = _
    rw [if_neg (by omega), nbF_in hc (hi i (List.mem_cons_self ..))]
    show rpGo c (enumW (k + 1) (is.map insW)) (acc ++ [insP i]) = _
    rw [rpGo_ins hc is (k + 1) (acc ++ [insP i]) (by rw [List.length_append, List.length_singleton]; omega) (fun j hj => hi j (List.mem_cons_of_mem _ hj)), List.append_assoc]
    rfl
theorem rpGo_back {c : Nat} : ∀ (ps : List (Nat × List Str)) (acc acc' : List (Str × List Int)), rpGo c ps acc = .ok acc' → ∃ is : List In, acc' = acc ++ is.map insP ∧ ps.map (·.2) = is.map insW ∧ ∀ i ∈ is, i.ok c 4000
  | [], acc, acc', h => by
    cases h
    exact ⟨[], by simp, rfl, by simp⟩
  | (ln, ws) :: ps, acc, acc', h => by
    unfold rpGo at h
    cases q : limF c (ws.getD 0 "") with
    | none => rw [q] at h; cases h
    | some lm =>
      rw [q] at h
      dsimp only at h
      split at h
      · cases h
      · cases q2 : nbF ws lm with
        | error p => rw [q2] at h; cases h
        | ok ns =>
          rw [q2] at h
          obtain ⟨i, e1, e2, e3⟩ := limF_back q q2
          have h : rpGo c ps (acc ++ [(ws.getD 0 "", ns)]) = .ok acc' := h
          rw [← e1] at h
          obtain ⟨is, f1, f2, f3⟩ := rpGo_back ps _ acc' h
          refine ⟨i :: is, by rw [f1, List.append_assoc]; rfl, ?_, ?_⟩
          · show ws :: ps.map (·.2) = insW i :: is.map insW
            rw [f2, ← e2]
          · intro j hj
            rcases List.mem_cons.mp hj with rfl | hj
            · exact e3
            · exact f3 j hj
theorem rpGo_app {c : Nat} : ∀ (ps qs : List (Nat × List Str)) (acc a : List (Str × List Int)), rpGo c ps acc = .ok a → rpGo c (ps ++ qs) acc = rpGo c qs a
  | [], qs, acc, a, h => by cases h; rfl
  | (ln, ws) :: ps, qs, acc, a, h => by
    have ih := fun acc => rpGo_app (c := c) ps qs acc a
    generalize rpGo c qs a = R at ih ⊢
    show rpGo c ((ln, ws) :: (ps ++ qs)) acc = _
    unfold rpGo at h ⊢
    cases q : limF c (ws.getD 0 "") with
    | none => rw [q] at h; cases h
    | some lm =>
      rw [q] at h
      dsimp only at h ⊢
      split at h
      · cases h
      · rename_i hc
        rw [if_neg hc]
        cases q2 : nbF ws lm with
        | error p => rw [q2] at h; cases h
        | ok ns =>
          rw [q2] at h
          exact ih _ h
theorem rpGo_congr {c : Nat} : ∀ (ps qs : List (Nat × List Str)) (acc x : List (Str × List Int)), ps.map (·.2) = qs.map (·.2) → rpGo c ps acc = .ok x → rpGo c qs acc = .ok x
  | [], [], _, _, _, h => h
  | [], _ :: _, _, _, e, _ => nomatch e
  | _ :: _, [], _, _, e, _ => nomatch e
  | (l1, w1) :: ps, (l2, w2) :: qs, acc, x, e, h => by
    rw [List.map_cons, List.map_cons] at e
    obtain ⟨e1, e2⟩ := List.cons.inj e
    have e1 : w1 = w2 := e1
    subst e1
    unfold rpGo at h ⊢
    cases q : limF c (w1.getD 0 "") with
    | none => rw [q] at h; cases h
    | some lm =>
      rw [q] at h
      dsimp only at h ⊢
      split at h
      · cases h
      · rename_i hc
        rw [if_neg hc]
        cases q2 : nbF w1 lm with
        | error p => rw [q2] at h; cases h
        | ok ns =>
          rw [q2] at h
          exact rpGo_congr ps qs _ x e2 h
end Fm
set_option Elab.async false
set_option linter.all false
set_option maxRecDepth 100000
set_option maxHeartbeats 1000000
namespace Fm
open PySem L2 Evl TL RZ
/-! what the law asks of programs as texts -/
theorem pText_clean (p : List In) : pText p = clean (p.map insW) := by
  unfold pText clean
  rw [List.map_map]
  rfl
theorem insW_wd {p : List In} : ∀ ws ∈ p.map insW, Wd1 ws := fun ws hw => by
  obtain ⟨i, _, rfl⟩ := List.mem_map.mp hw
  exact in_word i
/-- a place behind the end -/
def In.far (n : Nat) : In → Bool
  | .zero t => decide (t > n)
  | .go t => decide (t > n)
  | _ => false
theorem bad_in (n : Nat) (i : In) : badPl n (insP i) = i.far n := by
  unfold badPl
  cases i with
  | get c => rw [show inV (.str (insP (.get c)).1) WP = false by show inV (.str "get") WP = false; decide +kernel]; rfl
  | plus c => rw [show inV (.str (insP (.plus c)).1) WP = false by show inV (.str "plus") WP = false; decide +kernel]; rfl
  | minus c => rw [show inV (.str (insP (.minus c)).1) WP = false by show inV (.str "minus") WP = false; decide +kernel]; rfl
  | set c => rw [show inV (.str (insP (.set c)).1) WP = false by show inV (.str "set") WP = false; decide +kernel]; rfl
  | touch c => rw [show inV (.str (insP (.touch c)).1) WP = false by show inV (.str "touch") WP = false; decide +kernel]; rfl
  | put k => rw [show inV (.str (insP (.put k)).1) WP = false by show inV (.str "put") WP = false; decide +kernel]; rfl
  | say => rw [show inV (.str (insP .say).1) WP = false by show inV (.str "say") WP = false; decide +kernel]; rfl
  | ask => rw [show inV (.str (insP .ask).1) WP = false by show inV (.str "ask") WP = false; decide +kernel]; rfl
  | stop => rw [show inV (.str (insP .stop).1) WP = false by show inV (.str "stop") WP = false; decide +kernel]; rfl
  | zero t =>
    rw [show inV (.str (insP (.zero t)).1) WP = true by show inV (.str "zero") WP = true; decide +kernel, Bool.true_and]
    show decide ((t : Int) > (n : Int)) = decide (t > n)
    exact decide_eq_decide.mpr (by omega)
  | go t =>
    rw [show inV (.str (insP (.go t)).1) WP = true by show inV (.str "go") WP = true; decide +kernel, Bool.true_and]
    show decide ((t : Int) > (n : Int)) = decide (t > n)
    exact decide_eq_decide.mpr (by omega)
theorem ok_far {c n m : Nat} {i : In} (h : i.ok c m) (hf : i.far n = false) : i.ok c n := by
  cases i with
  | zero t => exact Nat.not_lt.mp (of_decide_eq_false hf)
  | go t => exact Nat.not_lt.mp (of_decide_eq_false hf)
  | _ => exact h
theorem far_ok {c n : Nat} {i : In} (h : i.ok c n) : i.far n = false := by
  cases i with
  | zero t => exact decide_eq_false (Nat.not_lt.mpr h)
  | go t => exact decide_eq_false (Nat.not_lt.mpr h)
  | _ => rfl
theorem ok_more {c n m : Nat} {i : In} (h : i.ok c n) (hm : n ≤ m) : i.ok c m := by
  cases i with
  | zero t => exact Nat.le_trans h hm
  | go t => exact Nat.le_trans h hm
  | _ => exact h
theorem rdP_ok {c : Nat} {t : Str} {acc : List (Str × List Int)} (h0 : lwOf t ≠ []) (h : rpGo c (lwOf t) [] = .ok acc) (hb : ∀ a ∈ acc, badPl acc.length a = false) : rdP c t = .ok acc := by
  unfold rdP
  rw [if_neg h0, h]
  dsimp only
  have : ((lwOf t).zip acc).find? (fun q => badPl acc.length q.2) = none := List.find?_eq_none.mpr fun q hq => by
    rw [hb _ (List.of_mem_zip hq).2]
    exact Bool.false_ne_true
  rw [this]
/-- what is read -/
theorem rdP_is {c : Nat} {t : Str} {acc : List (Str × List Int)} (h : rdP c t = .ok acc) : ∃ p : List In, acc = p.map insP ∧ wsOf t = p.map insW ∧ Pok c p := by
  unfold rdP at h
  split at h
  · cases h
  · rename_i h0
    cases q : rpGo c (lwOf t) [] with
    | error e => rw [q] at h; cases h
    | ok a =>
      rw [q] at h
      dsimp only at h
      split at h
      · cases h
      · rename_i hn
        cases h
        obtain ⟨is, f1, f2, f3⟩ := rpGo_back _ _ _ q
        rw [List.nil_append] at f1
        have hlen : (lwOf t).length = is.length := by
          have := congrArg List.length f2
          rwa [List.length_map, List.length_map] at this
        refine ⟨is, f1, f2, ?_, fun i hi => ?_⟩
        · cases q2 : is with
          | nil =>
            rw [q2] at hlen
            exact absurd (List.length_eq_zero_iff.mp hlen) h0
          | cons a b => exact Nat.succ_pos _
        · have hal : acc.length = is.length := by rw [f1, List.length_map]
          have hz : ((lwOf t).zip acc).map (·.2) = acc := List.map_snd_zip (by omega)
          have hm : insP i ∈ ((lwOf t).zip acc).map (·.2) := by rw [hz, f1]; exact List.mem_map_of_mem hi
          obtain ⟨q3, hq3, e3⟩ := List.mem_map.mp hm
          have := List.find?_eq_none.mp hn q3 hq3
          rw [e3, hal, bad_in] at this
          exact ok_far (f3 i hi) (by simpa using this)
theorem p_ok4 {c : Nat} {p : List In} (h : Pok c p) (hl : p.length ≤ 4000) : ∀ i ∈ p, i.ok c 4000 := fun i hi => ok_more (h.2 i hi) hl
theorem p_ne {c : Nat} {p : List In} (h : Pok c p) : p.map insW ≠ [] := fun z => by
  have := List.map_eq_nil_iff.mp z
  rw [this] at h
  exact absurd h.1 (Nat.lt_irrefl 0)
theorem rpGo_text {c : Nat} {p : List In} (hc : c ≤ 1000) (h : Pok c p) (hl : p.length ≤ 4000) : rpGo c (enumW 1 (p.map insW)) [] = .ok (p.map insP) := rpGo_ins hc p 1 [] (by show 0 + _ ≤ _; omega) (p_ok4 h hl)
theorem bad_none {c : Nat} {p : List In} (h : Pok c p) : ∀ a ∈ p.map insP, badPl (p.map insP).length a = false := fun a ha => by
  obtain ⟨i, hi, rfl⟩ := List.mem_map.mp ha
  rw [bad_in, List.length_map]
  exact far_ok (h.2 i hi)
theorem enum_ne {Ws : List (List Str)} (h : Ws ≠ []) (k : Nat) : enumW k Ws ≠ [] := fun z => by
  have := congrArg List.length z
  rw [enumW_len] at this
  exact h (List.length_eq_zero_iff.mp this)
/-- a program's text tells the program, and so does one with more spaces and void lines -/
theorem rdP_of {c : Nat} {p : List In} {t : Str} (hc : c ≤ 1000) (h : Pok c p) (hl : p.length ≤ 4000) (ht : wsOf t = p.map insW) : rdP c t = .ok (p.map insP) := by
  have e : (enumW 1 (p.map insW)).map (·.2) = (lwOf t).map (·.2) := by rw [enumW_snd]; exact ht.symm
  refine rdP_ok (fun z => ?_) (rpGo_congr _ _ _ _ e (rpGo_text hc h hl)) (bad_none h)
  rw [z, enumW_snd] at e
  exact p_ne h e
theorem rdP_loose {c : Nat} {p : List In} {gs : List Str} (hc : c ≤ 1000) (h : Pok c p) (hl : p.length ≤ 4000) (hL : LooseL (nlS (pText p)) gs) : rdP c (Txt.join "\n" gs) = .ok (p.map insP) := by
  refine rdP_of hc h hl ?_
  rw [pText_clean, clean_nl (p_ne h) insW_wd] at hL
  rw [loose_ws hL (fun z => p_ne h (List.map_eq_nil_iff.mp z)) fun l hl => by
    obtain ⟨ws, hw, rfl⟩ := List.mem_map.mp hl
    exact (insW_wd ws hw).line]
  exact wsOf_clean (p_ne h) insW_wd
/-- what is read out of clean lines is written as it stood -/
theorem rdP_back {c : Nat} {Ws : List (List Str)} {acc : List (Str × List Int)} (h0 : Ws ≠ []) (h : ∀ ws ∈ Ws, Wd1 ws) (hr : rdP c (clean Ws) = .ok acc) : ∃ p : List In, acc = p.map insP ∧ Pok c p ∧ pText p = clean Ws ∧ p.length = Ws.length := by
  obtain ⟨p, e1, e2, e3⟩ := rdP_is hr
  rw [wsOf_clean h0 h] at e2
  exact ⟨p, e1, e3, by rw [pText_clean, e2], by rw [e2, List.length_map]⟩
/-- a program's text with a word put in the place of another one -/
theorem rdP_bent {c : Nat} {p : List In} {at' place : Nat} {w : Str} (hc : c ≤ 1000) (h : Pok c p) (hl : p.length ≤ 4000) (hat : at' < (nlS (pText p)).length) (hw : WordS w) :
    (∀ acc, rdP c (bentS (pText p) at' place w) = .ok acc → ∃ p' : List In, acc = p'.map insP ∧ Pok c p' ∧ pText p' = bentS (pText p) at' place w ∧ p'.length = p.length) ∧
    (∀ l k, rdP c (bentS (pText p) at' place w) = .error (l, k) → l = at' + 1) := by
  have h0 := p_ne h
  rw [pText_clean, clean_nl h0 insW_wd, List.length_map] at hat
  have hat2 : at' < p.length := by rwa [List.length_map] at hat
  rw [pText_clean, bent_clean h0 insW_wd hat]
  have hwd := bent_wd (place := place) (w := w) (insW_wd (p := p)) hat hw
  have hne : (p.map insW).take at' ++ ((p.map insW).getD at' []).set place w :: (p.map insW).drop (at' + 1) ≠ [] := by simp
  generalize hW : ((p.map insW).getD at' []).set place w = W at hwd hne
  have hlen : ((p.map insW).take at' ++ W :: (p.map insW).drop (at' + 1)).length = p.length := by
    rw [List.length_append, List.length_cons, List.length_take, List.length_drop, List.length_map]
    omega
  refine ⟨fun acc hr => ?_, fun l k hr => ?_⟩
  · obtain ⟨p', e1, e2, e3, e4⟩ := rdP_back hne hwd hr
    exact ⟨p', e1, e2, e3, e4.trans hlen⟩
  · have hlw := lwOf_clean hne hwd
    have htake : rpGo c (enumW 1 ((p.take at').map insW)) [] = .ok ((p.take at').map insP) := rpGo_ins hc _ 1 [] (by rw [List.length_take]; show 0 + _ ≤ _; omega) fun i hi => p_ok4 h hl i (List.mem_of_mem_take hi)
    have hen : enumW 1 ((p.map insW).take at' ++ W :: (p.map insW).drop (at' + 1)) = enumW 1 ((p.take at').map insW) ++ (at' + 1, W) :: enumW (at' + 2) ((p.drop (at' + 1)).map insW) := by
      rw [enumW_app, List.map_take, List.map_drop, List.length_take, List.length_map, Nat.min_eq_left (by omega), Nat.add_comm 1 at']
      rfl
    unfold rdP at hr
    rw [hlw, if_neg (enum_ne hne 1), hen, rpGo_app _ _ _ _ htake] at hr
    have hrest : ∀ x, rpGo c (enumW (at' + 2) ((p.drop (at' + 1)).map insW)) ((p.take at').map insP ++ [x]) = .ok (((p.take at').map insP ++ [x]) ++ (p.drop (at' + 1)).map insP) := fun x => rpGo_ins hc _ _ _ (by rw [List.length_append, List.length_map, List.length_take, List.length_drop, List.length_singleton]; omega) fun i hi => p_ok4 h hl i (List.mem_of_mem_drop hi)
    have hstep : rpGo c ((at' + 1, W) :: enumW (at' + 2) ((p.drop (at' + 1)).map insW)) ((p.take at').map insP) = .error (l, k) → l = at' + 1 := fun z => by
      unfold rpGo at z
      cases q : limF c (W.getD 0 "") with
      | none => rw [q] at z; cases z; rfl
      | some lm =>
        rw [q] at z
        dsimp only at z
        split at z
        · cases z; rfl
        · cases q2 : nbF W lm with
          | error p2 => rw [q2] at z; cases z; rfl
          | ok ns =>
            rw [q2] at z
            dsimp only at z
            rw [hrest] at z
            cases z
    cases q : rpGo c ((at' + 1, W) :: enumW (at' + 2) ((p.drop (at' + 1)).map insW)) ((p.take at').map insP) with
    | error e =>
      rw [q] at hr
      cases hr
      exact hstep q
    | ok acc =>
      rw [q] at hr
      dsimp only at hr
      have hacc : ∃ x, acc = ((p.take at').map insP ++ [x]) ++ (p.drop (at' + 1)).map insP := by
        unfold rpGo at q
        cases q1 : limF c (W.getD 0 "") with
        | none => rw [q1] at q; cases q
        | some lm =>
          rw [q1] at q
          dsimp only at q
          split at q
          · cases q
          · cases q2 : nbF W lm with
            | error p2 => rw [q2] at q; cases q
            | ok ns =>
              rw [q2] at q
              dsimp only at q
              rw [hrest] at q
              cases q
              exact ⟨_, rfl⟩
      obtain ⟨x, rfl⟩ := hacc
      have hal : (((p.take at').map insP ++ [x]) ++ (p.drop (at' + 1)).map insP).length = p.length := by
        rw [List.length_append, List.length_append, List.length_map, List.length_map, List.length_take, List.length_drop, List.length_singleton]
        omega
      rw [hal] at hr
      split at hr
      · rename_i q3 hf
        cases hr
        have h1 := List.find?_some hf
        have h2 := List.mem_of_find?_eq_some hf
        have hfar : ∀ i ∈ p, badPl p.length (insP i) = false := fun i hi => by
          rw [bad_in]
          exact far_ok (h.2 i hi)
        have hzip : (enumW 1 ((p.take at').map insW) ++ (at' + 1, W) :: enumW (at' + 2) ((p.drop (at' + 1)).map insW)).zip (((p.take at').map insP ++ [x]) ++ (p.drop (at' + 1)).map insP) =
            (enumW 1 ((p.take at').map insW)).zip ((p.take at').map insP) ++ ((at' + 1, W), x) :: (enumW (at' + 2) ((p.drop (at' + 1)).map insW)).zip ((p.drop (at' + 1)).map insP) := by
          rw [List.append_assoc, List.zip_append (by rw [enumW_len, List.length_map, List.length_map])]
          rfl
        rw [hzip] at h2
        rcases List.mem_append.mp h2 with h2 | h2
        · obtain ⟨i, hi, e⟩ := List.mem_map.mp (List.of_mem_zip h2).2
          have := hfar i (List.mem_of_mem_take hi)
          rw [e] at this
          rw [this] at h1
          cases h1
        · rcases List.mem_cons.mp h2 with h2 | h2
          · rw [h2]
          · obtain ⟨i, hi, e⟩ := List.mem_map.mp (List.of_mem_zip h2).2
            have := hfar i (List.mem_of_mem_drop hi)
            rw [e] at this
            rw [this] at h1
            cases h1
      · cases hr
end Fm
set_option Elab.async false
set_option linter.all false
set_option maxRecDepth 100000
set_option maxHeartbeats 1000000
namespace Fm
open PySem L2 Evl TL RZ
def errM (t : Str) : Option (Nat × Nat) := match rdM t with
  | .error e => some e
  | .ok _ => none
def errP (c : Nat) (t : Str) : Option (Nat × Nat) := match rdP c t with
  | .error e => some e
  | .ok _ => none
def casesM : List (Str × Nat × Nat) := [("", 2, 1), ("cell", 1, 2), ("cell 9 0", 1, 2), ("cell 1 1", 1, 3), ("cell 1 0 0", 1, 4), ("row 1 0", 1, 1), ("cell 1 0\ncell 1 2", 2, 3), ("cell 1 0\n\ncell", 3, 2), (Txt.join "\n" (List.replicate 5 "cell 1 0"), 5, 1)]
def casesP : List (Str × Nat × Nat) := [("", 2, 1), ("hum", 1, 1), ("get", 1, 2), ("get 4", 1, 2), ("say 1", 1, 2), ("put 0 0", 1, 3), ("go 2", 1, 2), ("go 4001", 1, 2), ("put 1000001", 1, 2), ("put -0", 1, 2), ("say\nzero 3", 2, 2), ("put --1", 1, 2)]
theorem casesM_ok : ∀ q ∈ casesM, errM q.1 = some q.2 := by decide +kernel
theorem casesP_ok1 : ∀ q ∈ casesP, errP 1 q.1 = some q.2 := by decide +kernel
theorem casesP_ok2 : ∀ q ∈ casesP, errP 2 q.1 = some q.2 := by decide +kernel
theorem casesP_ok3 : ∀ q ∈ casesP, errP 3 q.1 = some q.2 := by decide +kernel
theorem casesP_ok4 : ∀ q ∈ casesP, errP 4 q.1 = some q.2 := by decide +kernel
theorem casesM_err {q : Str × Nat × Nat} (h : q ∈ casesM) : rdM q.1 = .error q.2 := by
  have := casesM_ok q h
  unfold errM at this
  split at this
  · rename_i e he
    rw [he, Option.some.inj this]
  · cases this
theorem casesP_err {c : Nat} (h1 : 1 ≤ c) (h4 : c ≤ 4) {q : Str × Nat × Nat} (h : q ∈ casesP) : rdP c q.1 = .error q.2 := by
  have : errP c q.1 = some q.2 := by
    match c, h1, h4 with
    | 1, _, _ => exact casesP_ok1 q h
    | 2, _, _ => exact casesP_ok2 q h
    | 3, _, _ => exact casesP_ok3 q h
    | 4, _, _ => exact casesP_ok4 q h
  unfold errP at this
  split at this
  · rename_i e he
    rw [he, Option.some.inj this]
  · cases this
theorem cases_len : (∀ q ∈ casesM, q.1.length ≤ 100) ∧ ∀ q ∈ casesP, q.1.length ≤ 100 := by decide +kernel
/-- the words that the law puts into texts -/
def wordsM : List Str := ["cell", "0", "1", "9", "3", "01", "-1", "x"]
def wordsP : List Str := ["get", "go", "say", "put", "0", "3", "-1", "99", "00", "hum"]
theorem wordsM_ok : ∀ w ∈ wordsM, WordS w ∧ w.length ≤ 250 := by
  unfold WordS
  decide +kernel
theorem wordsP_ok : ∀ w ∈ wordsP, WordS w ∧ w.length ≤ 250 := by
  unfold WordS
  decide +kernel
end Fm
set_option Elab.async false
set_option linter.all false
set_option maxRecDepth 100000
set_option maxHeartbeats 1000000
namespace Fm
open PySem L2 Evl
def iD (zs : List Int) : List PyData := zs.map PyData.int
theorem iD_lay : ∀ zs : List Int, PyData.canLayAll0 (iD zs) = true
  | [] => by simp [iD, PyData.canLayAll0]
  | z :: zs => by simpa [iD, PyData.canLayAll0, PyData.canLay0] using iD_lay zs
theorem iD_depth : ∀ zs : List Int, PyData.depthAll (iD zs) = 0
  | [] => by simp [iD, PyData.depthAll]
  | z :: zs => by simpa [iD, PyData.depthAll, PyData.depth] using iD_depth zs
theorem iD_shaped (zs : List Int) : SeqAt.shaped (.list (iD zs)) = true := by
  show (PyData.canLay0 (.list (iD zs)) && decide (PyData.depth (.list (iD zs)) ≤ 64)) = true
  rw [Bool.and_eq_true]
  exact ⟨by simp only [PyData.canLay0]; exact iD_lay zs, decide_eq_true (by simp only [PyData.depth, iD_depth]; omega)⟩
/-- data as _law_alike walks it: depth at most n -/
inductive AD : Nat → PyData → Prop where
  | non {n : Nat} : AD n .none
  | int {n : Nat} (i : Int) : AD n (.int i)
  | str {n : Nat} (s : Str) (h : PyData.strOk s = true) : AD n (.str s)
  | lst {n : Nat} {ds : List PyData} (hl : ds.length ≤ 40000) (h : ∀ d ∈ ds, AD n d) : AD (n + 1) (.list ds)
  | tup {n : Nat} {ds : List PyData} (hl : ds.length ≤ 40000) (h : ∀ d ∈ ds, AD n d) : AD (n + 1) (.tuple ds)
section
variable {K : PySem.W.Frag} {σ : L2.St} {H H' : Hp} {ta tb te : TE} {tr tA : TA} {D : Ends} {tz : TS} {Q : VK} {x : V} {r : R2} {P : Program} {w : World} {mg : Str → Option Value} {base : Heap}
mutual
theorem dp_up (e : Ex H H') : ∀ (d : PyData) (x : V), Dp K H x d → Dp K H' x d
  | .none, _, h => by cases h; exact .non
  | .bool b, _, h => by cases h; exact .bl b
  | .int i, _, h => by cases h; exact .int i
  | .str s, _, h => by cases h; exact .str s
  | .list ds, _, h => by cases h with | lst h1 h2 => exact .lst (ex_l e h1) (dpAll_up e ds _ h2)
  | .tuple ds, _, h => by cases h with | tup h1 h2 => exact .tup (ex_t e h1) (dpAll_up e ds _ h2)
  | .dict _, _, h => by cases h
theorem dpAll_up (e : Ex H H') : ∀ (ds : List PyData) (xs : List V), DpAll K H xs ds → DpAll K H' xs ds
  | [], _, h => by cases h; exact .nil
  | d :: ds, _, h => by cases h with | cons h1 h2 => exact .cons (dp_up e d _ h1) (dpAll_up e ds _ h2)
end
theorem dp_ints : ∀ zs : List Int, DpAll K H (zs.map V.int) (iD zs)
  | [] => .nil
  | z :: zs => .cons (.int z) (dp_ints zs)
theorem dpAll_len : ∀ {xs : List V} {ds : List PyData}, DpAll K H xs ds → xs.length = ds.length
  | _, _, .nil => rfl
  | _, _, .cons _ h => congrArg (· + 1) (dpAll_len h)
theorem dpAll_get : ∀ {xs : List V} {ds : List PyData} {i : Nat} {d : PyData}, DpAll K H xs ds → ds[i]? = some d → ∃ x, xs[i]? = some x ∧ Dp K H x d
  | _, _, 0, d, .cons h _, e => by cases e; exact ⟨_, rfl, h⟩
  | _, _, i + 1, d, .cons _ h, e => dpAll_get (i := i) h e
theorem eqv_nil (zs : List Int) : PyData.eqv (.list (iD zs)) (.list (iD [])) = zs.isEmpty := by
  cases zs with
  | nil => simp [iD, PyData.eqv, PyData.eqvAll]
  | cons z zs => simp [iD, PyData.eqv, PyData.eqvAll]
theorem ev_eqNil {zs : List Int} (ha : EvL ta σ H (zs.map V.int)) : Ev (tOp (rEqD K) ta (tLst tNil)) σ H (.bl zs.isEmpty) := fun H1 e Q q => ha H1 e _ fun p H2 hp e2 h2 => ⟨Nat.zero_le _, fun l hl => by
  refine ⟨_, _, .lst (sq_of (Ex.new hl _ _ h2)) (dp_ints zs), .lst (sq_of upd_same) (dp_ints []), iD_shaped _, iD_shaped _, ?_⟩
  rw [eqv_nil]
  exact q _ (e2.trans (Ex.new hl))⟩
theorem ev_neNil {zs : List Int} (ha : EvL ta σ H (zs.map V.int)) : Ev (tOp (rNeD K) ta (tLst tNil)) σ H (.bl (!zs.isEmpty)) := fun H1 e Q q => ha H1 e _ fun p H2 hp e2 h2 => ⟨Nat.zero_le _, fun l hl => by
  refine ⟨_, _, .lst (sq_of (Ex.new hl _ _ h2)) (dp_ints zs), .lst (sq_of upd_same) (dp_ints []), iD_shaped _, iD_shaped _, ?_⟩
  rw [eqv_nil]
  exact q _ (e2.trans (Ex.new hl))⟩
theorem ev_neNilV {a : Addr} {zs : List Int} (ha : Ev ta σ H (.ref a)) (hq : SqL K H a (zs.map V.int)) : Ev (tOp (rNeD K) ta (tLst tNil)) σ H (.bl (!zs.isEmpty)) := fun H1 e Q q => ha H1 e _ fun H2 e2 => ⟨Nat.zero_le _, fun l hl => by
  refine ⟨_, _, .lst (ex_l ((e.trans e2).trans (Ex.new hl)) hq) (dp_ints zs), .lst (sq_of upd_same) (dp_ints []), iD_shaped _, iD_shaped _, ?_⟩
  rw [eqv_nil]
  exact q _ (e2.trans (Ex.new hl))⟩
theorem ev_isi2 {x : V} {t n1 n2 : String} {b1 b2 : Bool} (ha : Ev ta σ H x) (ty : TyX K H x (.type t)) (h1 : kitB t n1 = some b1) (h2 : kitB t n2 = some b2) : Ev (tCB (rIsiT K) (tCons ta (tCons (tTup (tCons (tC (.ty n1)) (tCons (tC (.ty n2)) tNil))) tNil))) σ H (.bl (b1 || b2)) := fun H1 e1 _ q =>
  ha H1 e1 _ fun H2 e2 => ⟨by show 2 ≤ sizeLine; rw [sizeLine_eq]; decide, fun p hp => ⟨x, p, _, .type t, [.type n1, .type n2], b1 || b2, rfl, upd_same, .cons (.ty _) (.cons (.ty _) .nil), tyx_up ((e1.trans e2).trans (Ex.new hp)) ty, kitAny_cons (kit_ty h1) (fun hb => by
    rw [hb]
    refine kitAny_cons (kit_ty h2) (fun hb2 => by rw [hb2]; exact kitAny_nil) (fun hb2 => by rw [hb2]; rfl)) (fun hb => by rw [hb]; rfl), q _ (e2.trans (Ex.new hp))⟩⟩
theorem ev_eqDD {x y : V} {d : PyData} (ha : Ev ta σ H x) (hb : Ev tb σ H y) (h1 : Dp K H x d) (h2 : Dp K H y d) (hs : SeqAt.shaped d = true) : Ev (tOp (rEqD K) ta tb) σ H (.bl true) := ev_op ha hb fun H1 e _ q => ⟨_, _, dp_up e _ _ h1, dp_up e _ _ h2, hs, hs, by
  rw [PySem.SeqAt.eqv_refl d (SeqAt.canLay_of_shaped hs)]
  exact q H1 (Ex.refl H1)⟩
def spNone : Sp := fun _ _ _ _ => False
theorem ok_none {k : Nat} {f : Addr} {fd : FuncData} {ps : List Str} : FnOk P w K mg base CX0 k f fd ps spNone := ⟨fun _ _ _ _ h => h.elim, fun _ _ _ _ _ _ _ _ _ _ _ _ _ h => h.elim⟩
/-- one and the same data, twice -/
def spAlikeD (K : PySem.W.Frag) (n : Nat) : Sp := fun vs H Q _ => ∃ (x y : V) (d : PyData), vs = [x, y] ∧ Dp K H x d ∧ Dp K H y d ∧ AD n d ∧ ∀ H', Ex H H' → Q (.bl true) H'
def spPrev (K : PySem.W.Frag) : Nat → Sp
  | 0 => spNone
  | n + 1 => spAlikeD K n
theorem ad_cases {n : Nat} {x y : V} {d : PyData} (had : AD n d) (hx : Dp K H x d) (hy : Dp K H y d) : (x = .non ∧ y = .non) ∨ (∃ i, x = .int i ∧ y = .int i) ∨ (∃ s, PyData.strOk s = true ∧ x = .str s ∧ y = .str s) ∨
    ∃ (a b : Addr) (xs ys : List V) (ds : List PyData) (t : String) (c : Bool), x = .ref a ∧ y = .ref b ∧ TyX K H x (.type t) ∧ TyX K H y (.type t) ∧ (∀ H', Ex H H' → (SqL K H' a xs ∧ SqL K H' b ys) ∨ (SqT K H' a xs ∧ SqT K H' b ys)) ∧ kitB t "tuple" = some (!c) ∧ kitB t "list" = some c ∧ DpAll K H xs ds ∧ DpAll K H ys ds ∧ ds.length ≤ 40000 ∧
      ∀ (i : Nat) (dd : PyData) (u v : V) (H' : Hp) (Q' : VK), Ex H H' → ds[i]? = some dd → Dp K H u dd → Dp K H v dd → (∀ H2, Ex H' H2 → Q' (.bl true) H2) → spPrev K n [u, v] H' Q' E0 := by
  cases had with
  | non => cases hx; cases hy; exact .inl ⟨rfl, rfl⟩
  | int i => cases hx; cases hy; exact .inr (.inl ⟨i, rfl, rfl⟩)
  | str s hs => cases hx; cases hy; exact .inr (.inr (.inl ⟨s, hs, rfl, rfl⟩))
  | @lst m ds hl hall =>
    cases hx with
    | @lst a xs _ h1 h2 =>
      cases hy with
      | @lst b ys _ h3 h4 =>
        exact .inr (.inr (.inr ⟨a, b, xs, ys, ds, "list", true, rfl, rfl, ty_lst h1, ty_lst h3, fun H' e => .inl ⟨ex_l e h1, ex_l e h3⟩, by decide +kernel, by decide +kernel, h2, h4, hl, fun i dd u v H' Q' e hi hu hv q => ⟨u, v, dd, rfl, dp_up e _ _ hu, dp_up e _ _ hv, hall dd (List.mem_of_getElem? hi), q⟩⟩))
  | @tup m ds hl hall =>
    cases hx with
    | @tup a xs _ h1 h2 =>
      cases hy with
      | @tup b ys _ h3 h4 =>
        exact .inr (.inr (.inr ⟨a, b, xs, ys, ds, "tuple", false, rfl, rfl, ty_tup h1, ty_tup h3, fun H' e => .inr ⟨ex_t e h1, ex_t e h3⟩, by decide +kernel, by decide +kernel, h2, h4, hl, fun i dd u v H' Q' e hi hu hv q => ⟨u, v, dd, rfl, dp_up e _ _ hu, dp_up e _ _ hv, hall dd (List.mem_of_getElem? hi), q⟩⟩))
theorem ty_int {i : Int} : TyX K H (.int i) (.type "int") := .base (.int i)
theorem ty_str {s : Str} : TyX K H (.str s) (.type "str") := .base (.str s)
theorem ty_non : TyX K H .non (.type "NoneType") := .base .non
abbrev s_law_alike : Stmt := top 44
theorem sc_law_alike : FnScope ["found", "due", "k"] ["found", "due"] (defScope s_law_alike) := ⟨rfl, rfl, rfl, by decide +kernel, rfl, by decide +kernel, by decide +kernel⟩
--TY _law_alike {'found':('tuple','any'),'due':('tuple','any')}
theorem step_alike {n : Nat} {f f1 : Addr} {fd fd1 : FuncData} (F : Fun K "_law_alike" "_law_alike" s_law_alike f fd) (T : Txt K mg) (C_law_alike : Cal P w K mg base CX0 n "_law_alike" f1 fd1 ["found", "due"] (spPrev K n)) : FnOk P w K mg base CX0 (n + 1) f fd ["found", "due"] (spAlikeD K n) := by
  refine F.ok sc_law_alike (fun vs H Q E h => ?_) (fun cdv A outer s H vs Q E hr h => ?_)
  · obtain ⟨_, _, _, rfl, _⟩ := h
    rfl
  · obtain ⟨x, y, d, rfl, hx, hy, had, k⟩ := h
    refine ⟨_, (pss_cons (ps_if (pt_val (pe_callB (isiT_K (K := K) rfl) (by rfl) T.z_isinstance (by decide +kernel) (pa_cons (pv 1) (pa_cons (pe_tup (pa_cons (pe_bltn (v := .ty "tuple") (by rfl) T.z_tuple (by decide +kernel) rfl) (pa_cons (pe_bltn (v := .ty "list") (by rfl) T.z_list (by decide +kernel) rfl) pa_nil))) pa_nil)))) (pss_cons (ps_if (PW.pt (pw_or (pt_not (pt_val (pe_callB (isiT_K (K := K) rfl) (by rfl) T.z_isinstance (by decide +kernel) (pa_cons (pv 0) (pa_cons (pe_tup (pa_cons (pe_bltn (v := .ty "tuple") (by rfl) T.z_tuple (by decide +kernel) rfl) (pa_cons (pe_bltn (v := .ty "list") (by rfl) T.z_list (by decide +kernel) rfl) pa_nil))) pa_nil))))) (pw_or1 (pt_cmpR op_ne (pe_callB (isi_K (K := K) rfl) (by rfl) T.z_isinstance (by decide +kernel) (pa_cons (pv 0) (pa_cons (pe_bltn (v := .ty "list") (by rfl) T.z_list (by decide +kernel) rfl) pa_nil))) (pe_callB (isi_K (K := K) rfl) (by rfl) T.z_isinstance (by decide +kernel) (pa_cons (pv 1) (pa_cons (pe_bltn (v := .ty "list") (by rfl) T.z_list (by decide +kernel) rfl) pa_nil))) (nomark _))))) (pss_one (ps_ret pe_bl)) pss_nil)
  (pss_cons (ps_if (pt_cmpR op_ne (pe_callB (len_K (K := K) rfl) (by rfl) T.z_len (by decide +kernel) (pa_cons (pv 0) pa_nil)) (pe_callB (len_K (K := K) rfl) (by rfl) T.z_len (by decide +kernel) (pa_cons (pv 1) pa_nil)) (nomark _)) (pss_one (ps_ret pe_bl)) pss_nil)
  (pss_one (ps_ret (pe_cmpR (eqD_K (K := K) rfl hr.units) (pe_lc (own := [("k", 2)]) (g := gName 2) rfl sc_law_alike.nd (pi_range1 rfl T.z_range (pa_cons (pe_callB (len_K (K := K) rfl) (by rfl) T.z_len (by decide +kernel) (pa_cons (pv 1) pa_nil)) pa_nil)) (blkOk_by (by kernel_rfl)) (fun _ _ _ _ _ => pg_name (i := 2) sc_law_alike.nd rfl (by first | exact Or.inl rfl | exact Or.inr rfl)) (fun _ _ _ _ _ => (pts_one (pt_not (pt_val (pe_call C_law_alike.G (hr.mono (by first | decide | omega)) rfl C_law_alike.g C_law_alike.kp C_law_alike.b .nil pass0 (pa_cons (pe_ix (ix_K (K := K) rfl) (pv 0) (pv 2) (fun _ _ => rfl)) (pa_cons (pe_ix (ix_K (K := K) rfl) (pv 1) (pv 2) (fun _ _ => rfl)) pa_nil))))))) (fun _ _ _ _ _ => (pv 2))) (pe_lst pa_nil) (nomark _)))))) pss_nil)
  (pss_cons (ps_if (PW.pt (pw_or (pt_cmpR op_isN (pv 1) pe_non (nomark _)) (pw_or1 (pt_val (pe_callB (isi_K (K := K) rfl) (by rfl) T.z_isinstance (by decide +kernel) (pa_cons (pv 1) (pa_cons (pe_bltn (v := .ty "str") (by rfl) T.z_str (by decide +kernel) rfl) pa_nil))))))) (pss_one (ps_ret (pe_and (pe_cmpR (eqD_K (K := K) rfl hr.units) (pv 0) (pv 1) (nomark _)) (pe_one (pe_cmpR op_eq (pe_callB (isi_K (K := K) rfl) (by rfl) T.z_isinstance (by decide +kernel) (pa_cons (pv 0) (pa_cons (pe_bltn (v := .ty "str") (by rfl) T.z_str (by decide +kernel) rfl) pa_nil))) (pe_callB (isi_K (K := K) rfl) (by rfl) T.z_isinstance (by decide +kernel) (pa_cons (pv 1) (pa_cons (pe_bltn (v := .ty "str") (by rfl) T.z_str (by decide +kernel) rfl) pa_nil))) (nomark _)))))) pss_nil)
  (pss_one (ps_ret (pe_and (pe_callB (isi_K (K := K) rfl) (by rfl) T.z_isinstance (by decide +kernel) (pa_cons (pv 0) (pa_cons (pe_bltn (v := .ty "int") (by rfl) T.z_int (by decide +kernel) rfl) pa_nil))) (pe_and (pe_cmpR op_eq (pe_callB (isi_K (K := K) rfl) (by rfl) T.z_isinstance (by decide +kernel) (pa_cons (pv 0) (pa_cons (pe_bltn (v := .ty "bool") (by rfl) T.z_bool (by decide +kernel) rfl) pa_nil))) (pe_callB (isi_K (K := K) rfl) (by rfl) T.z_isinstance (by decide +kernel) (pa_cons (pv 1) (pa_cons (pe_bltn (v := .ty "bool") (by rfl) T.z_bool (by decide +kernel) rfl) pa_nil))) (nomark _)) (pe_one (pe_cmpR (eqD_K (K := K) rfl hr.units) (pv 0) (pv 1) (nomark _))))))))), ?_⟩
    rcases ad_cases had hx hy with ⟨rfl, rfl⟩ | ⟨i, rfl, rfl⟩ | ⟨s, hs, rfl, rfl⟩ | ⟨a, b, xs, ys, ds, t, c, rfl, rfl, tx, ty, hsq, hk1, hk2, hd1, hd2, hl, hrec⟩
    · have hx : Dp K H .non .none := .non
      refine q_when (b := false || false) (et_B (ev_isi2 (ev_var rfl) ty_non (by decide +kernel) (by decide +kernel))) (fun z => nomatch z) fun _ H1 e1 => ?_
      refine q_when (b := true) (et_is (et_or (a := true) (b := true) (et_is (et_isN (ev_var rfl)) (by simp)) fun z => nomatch z) rfl) (fun _ H2 e2 => ?_) fun z => nomatch z
      refine s_ret (v := .bl (true && decide (V.bl false = V.bl false))) (ev_andV (ev_eqDD (ev_var rfl) (ev_var rfl) .non .non rfl) fun _ => ev_op (ev_isi (t := "NoneType") (b := false) (ev_var rfl) ty_non (by decide +kernel)) (ev_isi (t := "NoneType") (b := false) (ev_var rfl) ty_non (by decide +kernel)) (rv_eq rfl)) fun H3 e3 => ?_
      rw [decide_eq_true rfl]
      exact k H3 ((e1.trans e2).trans e3)
    · have hx : Dp K H (.int i) (.int i) := .int i
      refine q_when (b := false || false) (et_B (ev_isi2 (ev_var rfl) ty_int (by decide +kernel) (by decide +kernel))) (fun z => nomatch z) fun _ H1 e1 => ?_
      refine q_when (b := false || false) (et_or (et_is (et_isN (ev_var rfl)) rfl) fun _ => et_B (ev_isi (t := "int") (ev_var rfl) ty_int (by decide +kernel))) (fun z => nomatch z) fun _ H2 e2 => ?_
      refine s_ret (v := .bl (true && (decide (V.bl false = V.bl false) && true))) (ev_andV (ev_isi (t := "int") (ev_var rfl) ty_int (by decide +kernel)) fun _ => ev_andV (ev_op (ev_isi (t := "int") (ev_var rfl) ty_int (by decide +kernel)) (ev_isi (t := "int") (ev_var rfl) ty_int (by decide +kernel)) (rv_eq rfl)) fun _ => ev_eqDD (ev_var rfl) (ev_var rfl) (.int i) (.int i) rfl) fun H3 e3 => ?_
      rw [decide_eq_true rfl]
      exact k H3 ((e1.trans e2).trans e3)
    · have hx : Dp K H (.str s) (.str s) := .str s
      refine q_when (b := false || false) (et_B (ev_isi2 (ev_var rfl) ty_str (by decide +kernel) (by decide +kernel))) (fun z => nomatch z) fun _ H1 e1 => ?_
      refine q_when (b := false || true) (et_or (et_is (et_isN (ev_var rfl)) rfl) fun _ => et_B (ev_isi (t := "str") (ev_var rfl) ty_str (by decide +kernel))) (fun _ H2 e2 => ?_) fun z => nomatch z
      have hsh : SeqAt.shaped (.str s) = true := by
        show (PyData.canLay0 (.str s) && decide (PyData.depth (.str s) ≤ 64)) = true
        simp [PyData.canLay0, PyData.depth, hs]
      refine s_ret (v := .bl (true && decide (V.bl true = V.bl true))) (ev_andV (ev_eqDD (ev_var rfl) (ev_var rfl) (.str s) (.str s) hsh) fun _ => ev_op (ev_isi (t := "str") (b := true) (ev_var rfl) ty_str (by decide +kernel)) (ev_isi (t := "str") (b := true) (ev_var rfl) ty_str (by decide +kernel)) (rv_eq rfl)) fun H3 e3 => ?_
      rw [decide_eq_true rfl]
      exact k H3 ((e1.trans e2).trans e3)
    · replace hrec := hrec
      have lx := dpAll_len hd1
      have ly := dpAll_len hd2
      have hor : (!c || c) = true := by cases c <;> rfl
      refine q_when (b := true) (et_is (et_B (ev_isi2 (ev_var rfl) ty hk1 hk2)) hor) (fun _ H1 e1 => ?_) fun z => nomatch z
      refine q_when (b := false) (et_is (et_or (b := false) (et_not (a := true) (et_is (et_B (ev_isi2 (ev_var rfl) (tyx_up e1 tx) hk1 hk2)) hor)) fun _ => et_is (et_ne (ev_isi (t := t) (b := c) (ev_var rfl) (tyx_up e1 tx) hk2) (ev_isi (t := t) (b := c) (ev_var rfl) (tyx_up e1 ty) hk2) rfl) (by simp)) rfl) (fun z => nomatch z) fun _ H2 e2 => ?_
      have e02 := e1.trans e2
      have ln : ∀ {H' : Hp} {σ : L2.St} {te : TE} {q : Addr} {zs : List V}, Ev te σ H' (.ref q) → (SqL K H' q zs ∨ SqT K H' q zs) → Ev (tCB (rLn K) (tCons te tNil)) σ H' (.int (zs.length : Int)) := fun h hq => by
        rcases hq with hq | hq
        · exact ev_lnL h hq
        · exact ev_lnT h hq
      have sx : ∀ {H'}, Ex H H' → SqL K H' a xs ∨ SqT K H' a xs := fun e => (hsq _ e).imp (fun z => z.1) fun z => z.1
      have sy : ∀ {H'}, Ex H H' → SqL K H' b ys ∨ SqT K H' b ys := fun e => (hsq _ e).imp (fun z => z.2) fun z => z.2
      refine q_when (b := false) (et_is (et_ne (ln (ev_var rfl) (sx e02)) (ln (ev_var rfl) (sy e02)) rfl) (by rw [lx, ly]; simp)) (fun z => nomatch z) fun _ H3 e3 => ?_
      have e03 := e02.trans e3
      have key := el_lcR1 (σ := [some (.ref a), some (.ref b), none]) (H := H3) (ta := tCons (tCB (rLn K) (tCons (tVar 1) tNil)) tNil) (j := 2) (vs := List.map (fun x => x.snd) [(("k" : Str), 2)]) (n := (ys.length : Int)) (t := tNot (tB (tCall (spPrev K n) [] E0 (tCons (tOp (rIx K) (tVar 0) (tVar 2)) (tCons (tOp (rIx K) (tVar 1) (tVar 2)) tNil))))) (te := tVar 2) (fun c => false) (fun c => .int (c : Nat))
        (ea_cons (ln (ev_var rfl) (sy e03)) ea_nil) ⟨by omega, by omega⟩ (fun x => rfl) (fun i H4 e4 hi => by
          have hil : i < ds.length := by omega
          obtain ⟨u, hu, hud⟩ := dpAll_get hd1 (List.getElem?_eq_getElem hil)
          obtain ⟨v, hv, hvd⟩ := dpAll_get hd2 (List.getElem?_eq_getElem hil)
          have e04 := e03.trans e4
          have ix : ∀ {σ : L2.St} {ta tb : TE} {q : Addr} {zs : List V} {z : V}, Ev ta σ H4 (.ref q) → Ev tb σ H4 (.int (i : Int)) → (SqL K H4 q zs ∨ SqT K H4 q zs) → zs[i]? = some z → Ev (tOp (rIx K) ta tb) σ H4 z := fun h1 h2 hq hz => by
            rcases hq with hq | hq
            · exact ev_ixL h1 h2 hq (atI_nat' hz)
            · exact ev_ixT h1 h2 hq (atI_nat' hz)
          exact et_not (a := true) (et_B (ev_callV (ea_cons (ix (ev_var rfl) (ev_var rfl) (sx e04) hu) (ea_cons (ix (ev_var rfl) (ev_var rfl) (sy e04) hv) ea_nil)) fun H5 e5 Q' q => hrec i _ u v H5 Q' (e04.trans e5) (List.getElem?_eq_getElem hil) hud hvd q))) (fun i H4 e4 hi z => nomatch z)
      have hg : given ((ys.length : Int)).toNat (fun _ => false) (fun c => V.int (c : Nat)) = ([] : List Int).map V.int := by simp [given]
      rw [hg] at key
      exact s_ret (v := .bl true) (ev_eqNil key) fun H4 e4 => k H4 (e03.trans e4)
theorem ok_alikeD {f : Addr} {fd : FuncData} (F : Fun K "_law_alike" "_law_alike" s_law_alike f fd) (T : Txt K mg) (g : mg "_law_alike" = some (.ref f)) (kp : PySem.W.keepIn K (.ref f) = true) (b : Binds K fd ["found", "due"] []) : ∀ n, FnOk P w K mg base CX0 (n + 1) f fd ["found", "due"] (spAlikeD K n)
  | 0 => step_alike F T ⟨ok_none, g, kp, b⟩
  | n + 1 => step_alike F T ⟨ok_alikeD F T g kp b n, g, kp, b⟩
end
end Fm
set_option Elab.async false
set_option linter.all false
set_option maxRecDepth 100000
set_option maxHeartbeats 1000000
namespace Fm
open PySem L2 Evl TL RZ
/-! what _law_alike is handed -/
theorem nV_intsW (l : List Nat) : nV l = (l.map fun (x : Nat) => (x : Int)).map V.int := by
  unfold nV
  rw [List.map_map]
  rfl
theorem ad_intsW {n : Nat} (zs : List Int) : ∀ d ∈ iD zs, AD n d := fun d hd => by
  obtain ⟨z, _, rfl⟩ := List.mem_map.mp hd
  exact .int z
def natD (l : List Nat) : PyData := .tuple (iD (l.map fun (x : Nat) => (x : Int)))
def maD (fs rs : List Nat) : PyData := .tuple [natD fs, natD rs]
def inD (i : In) : PyData := .tuple (PyData.str i.w :: iD i.arg.toList)
def pgD (p : List In) : PyData := .tuple (p.map inD)
section
variable {K : PySem.W.Frag} {H : Hp}
theorem dp_nat {a : Addr} {l : List Nat} (h : SqT K H a (nV l)) : Dp K H (.ref a) (natD l) := .tup (by rw [← nV_intsW]; exact h) (dp_ints _)
theorem dp_ma {m : Addr} {fs rs : List Nat} (h : MaT K H m fs rs) : Dp K H (.ref m) (maD fs rs) := by
  obtain ⟨fa, ra, h0, h1, h2⟩ := h
  exact .tup h0 (.cons (dp_nat h1) (.cons (dp_nat h2) .nil))
theorem ad_nat {n : Nat} {l : List Nat} (h : l.length ≤ 40000) : AD (n + 1) (natD l) := .tup (by unfold iD; rw [List.length_map, List.length_map]; exact h) (ad_intsW _)
theorem ad_ma {fs rs : List Nat} (h : MaOk fs rs) : AD 2 (maD fs rs) := .tup (by show 2 ≤ _; omega) fun d hd => by
  have h4 := h.l4
  have hll := h.ll
  rcases List.mem_cons.mp hd with rfl | hd
  · exact ad_nat (by omega)
  · rw [List.mem_singleton.mp hd]
    exact ad_nat (by omega)
theorem dp_inW {v : V} {i : In} (h : InAt K H v i) : Dp K H v (inD i) := by
  obtain ⟨b, rfl, hb⟩ := h
  refine .tup hb ?_
  rw [vs_insP]
  exact .cons (.str _) (dp_ints _)
theorem dp_pgs : ∀ {xs : List V} {p : List In}, Paired (InAt K H) xs p → DpAll K H xs (p.map inD)
  | _, _, .nil => .nil
  | _, _, .cons h t => .cons (dp_inW h) (dp_pgs t)
theorem dp_pg {a : Addr} {p : List In} (h : PgT K H a p) : Dp K H (.ref a) (pgD p) := let ⟨_, h1, h2⟩ := h; .tup h1 (dp_pgs h2)
theorem ad_in (i : In) : AD 1 (inD i) := .tup (by
  have : i.arg.toList.length ≤ 1 := by cases i.arg <;> simp
  unfold iD
  rw [List.length_cons, List.length_map]
  omega) fun d hd => by
  rcases List.mem_cons.mp hd with rfl | hd
  · refine .str _ ?_
    cases i <;> (dsimp only [In.w]; decide +kernel)
  · exact ad_intsW _ _ hd
theorem ad_pg {p : List In} (h : p.length ≤ 40000) : AD 2 (pgD p) := .tup (by rw [List.length_map]; exact h) fun d hd => by
  obtain ⟨i, _, rfl⟩ := List.mem_map.mp hd
  exact ad_in i
/-- what read_program hands back is a program -/
theorem pr_pairs : ∀ {xs : List V} {p : List In}, Paired (PrA K H) xs (p.map insP) → Paired (InAt K H) xs p
  | _, [], .nil => .nil
  | _, i :: p, .cons ⟨t, h1, h2⟩ r => .cons ⟨t, h1, by rw [vs_insP]; exact h2⟩ (pr_pairs r)
theorem pr_pg {m : Addr} {p : List In} (h : PrT K H m (p.map insP)) : PgT K H m p := let ⟨_, h1, h2⟩ := h; ⟨_, h1, pr_pairs h2⟩
end
/-! lengths -/
theorem in_len {c : Nat} {i : In} (h : i.ok c 1000) (hc : c ≤ 1000) : (insT i).length ≤ 20 := by
  unfold insT
  have h1 := join_len " " (insW i)
  have hz : ∀ z : Int, -1000000 ≤ z → z ≤ 1000000 → (zT z).length ≤ 8 := fun z l u => by
    have key : (∃ n : Nat, z = (n : Nat)) ∨ ∃ m : Nat, z = -((m + 1 : Nat) : Int) := by
      by_cases q : 0 ≤ z
      · exact .inl ⟨z.toNat, by omega⟩
      · exact .inr ⟨(-z).toNat - 1, by omega⟩
    rcases key with ⟨n, rfl⟩ | ⟨m, rfl⟩
    · rw [len_tl, show tl (zT (n : Nat)) = numL n from zt_pos n]
      exact Nat.le_trans (numL_len (k := 7) (by decide) (by omega)) (by decide)
    · rw [len_tl, show tl (zT (-((m + 1 : Nat) : Int))) = 45 :: numL (m + 1) from zt_neg m, List.length_cons]
      have := numL_len (n := m + 1) (k := 7) (by decide) (by omega)
      omega
  have e1 : (" " : Str).length = 1 := by decide +kernel
  have hw : i.w.length ≤ 5 := by cases i <;> (dsimp only [In.w]; decide +kernel)
  rw [e1, insW_eq] at h1
  have ha : i.arg = none ∨ ∃ z, i.arg = some z ∧ -1000000 ≤ z ∧ z ≤ 1000000 := by
    cases i with
    | get n => have h : n < c := h; exact .inr ⟨_, rfl, by omega, by omega⟩
    | plus n => have h : n < c := h; exact .inr ⟨_, rfl, by omega, by omega⟩
    | minus n => have h : n < c := h; exact .inr ⟨_, rfl, by omega, by omega⟩
    | set n => have h : n < c := h; exact .inr ⟨_, rfl, by omega, by omega⟩
    | touch n => have h : n < c := h; exact .inr ⟨_, rfl, by omega, by omega⟩
    | put k => exact .inr ⟨_, rfl, h.1, h.2⟩
    | zero t => have h : t ≤ 1000 := h; exact .inr ⟨_, rfl, by omega, by omega⟩
    | go t => have h : t ≤ 1000 := h; exact .inr ⟨_, rfl, by omega, by omega⟩
    | say => exact .inl rfl
    | ask => exact .inl rfl
    | stop => exact .inl rfl
  rw [insW_eq]
  rcases ha with ha | ⟨z, ha, l, u⟩
  · rw [ha] at h1 ⊢
    simp only [Option.toList_none, List.map_nil, List.map_cons, List.sum_cons, List.sum_nil, List.length_cons, List.length_nil] at h1 ⊢
    omega
  · rw [ha] at h1 ⊢
    have := hz z l u
    simp only [Option.toList_some, List.map_nil, List.map_cons, List.sum_cons, List.sum_nil, List.length_cons, List.length_nil] at h1 ⊢
    omega
/-- the lines of a machine's text, of a program's text -/
theorem mT_lines {fs rs : List Nat} (h : MaOk fs rs) : (nlS (mText fs rs)).length = fs.length ∧ ∀ x ∈ nlS (mText fs rs), x.length ≤ 20 := by
  rw [mText_nl h]
  refine ⟨by rw [List.length_map, WsM_len h.ll], fun x hx => ?_⟩
  obtain ⟨ws, hw, rfl⟩ := List.mem_map.mp hx
  obtain ⟨q, hq, rfl⟩ := List.mem_map.mp hw
  rw [← rowLine_join]
  have h1 := (zip_f h q hq).2
  have h2 : q.2 ≤ 1000 := by
    have hm := (List.of_mem_zip hq).2
    obtain ⟨i, hi, e⟩ := List.getElem_of_mem hm
    have := row_lt h.r (i := i) (r := q.2) (by rw [List.getElem?_eq_getElem hi, e])
    have := h.l4
    have := h.ll
    omega
  exact rowLine_len (by omega) (by omega)
theorem pT_lines {c : Nat} {p : List In} (h : Pok c p) (hc : c ≤ 1000) (hl : p.length ≤ 1000) : (nlS (pText p)).length = p.length ∧ ∀ x ∈ nlS (pText p), x.length ≤ 20 := by
  rw [pText_clean, clean_nl (p_ne h) insW_wd]
  refine ⟨by rw [List.length_map, List.length_map], fun x hx => ?_⟩
  obtain ⟨ws, hw, rfl⟩ := List.mem_map.mp hx
  obtain ⟨i, hi, rfl⟩ := List.mem_map.mp hw
  exact in_len (ok_more (h.2 i hi) hl) hc
theorem bent_len {t w : Str} {at' place : Nat} (hl : (nlS t).length ≤ 30) (h20 : ∀ x ∈ nlS t, x.length ≤ 20) (hat : at' < (nlS t).length) (hw : w.length ≤ 20) : (bentS t at' place w).length ≤ 14000 := by
  have hline : ((nlS t).getD at' "").length ≤ 20 := h20 _ (by rw [List.getD_eq_getElem?_getD, List.getElem?_eq_getElem hat]; exact List.getElem_mem hat)
  unfold bentS
  generalize (nlS t).getD at' "" = line at hline
  have hp1 := sp_len line
  have e1 : (" " : Str).length = 1 := by decide +kernel
  have e2 : ("\n" : Str).length = 1 := by decide +kernel
  have hj : (Txt.join " " ((spS line).set place w)).length ≤ 462 := by
    have h1 := join_len " " ((spS line).set place w)
    have h2 := sum_le (c := 20) (((spS line).set place w).map (·.length)) fun x hx => by
      obtain ⟨y, hy, rfl⟩ := List.mem_map.mp hx
      rcases List.mem_or_eq_of_mem_set hy with h | rfl
      · have := sp_mem h
        show y.length ≤ 20
        omega
      · exact hw
    rw [List.length_map, List.length_set] at h2
    rw [e1, List.length_set] at h1
    omega
  generalize Txt.join " " ((spS line).set place w) = jl at hj
  have h1 := join_len "\n" (((nlS t).take at' ++ [jl]) ++ (nlS t).drop (at' + 1))
  have h2 := sum_le (c := 462) ((((nlS t).take at' ++ [jl]) ++ (nlS t).drop (at' + 1)).map (·.length)) fun x hx => by
    obtain ⟨y, hy, rfl⟩ := List.mem_map.mp hx
    show y.length ≤ 462
    rcases List.mem_append.mp hy with h | h
    · rcases List.mem_append.mp h with h | h
      · have := h20 y (List.mem_of_mem_take h)
        omega
      · rw [List.mem_singleton.mp h]
        exact hj
    · have := h20 y (List.mem_of_mem_drop h)
      omega
  rw [e2] at h1
  rw [List.length_map] at h2
  have h3 : (((nlS t).take at' ++ [jl]) ++ (nlS t).drop (at' + 1)).length ≤ 30 := by
    rw [List.length_append, List.length_append, List.length_take, List.length_drop, List.length_singleton]
    omega
  omega
theorem words_len : (∀ w ∈ wordsM, w.length ≤ 20) ∧ ∀ w ∈ wordsP, w.length ≤ 20 := by decide +kernel
end Fm
set_option Elab.async false
set_option linter.all false
set_option maxRecDepth 100000
set_option maxHeartbeats 1000000
namespace Fm
open PySem L2 Evl RZ
def spLKe (K : PySem.W.Frag) : Sp := fun vs H Q _ => ∃ (r s b : Addr) (ns : List Int) (p : List In) (c : Nat), vs = [.ref r, .ref b, .int (c : Nat)] ∧ RowAt K H r s ns ∧ PgT K H b p ∧ Pok c p ∧ p.length ≤ 9 ∧ 1 ≤ c ∧ c ≤ 4 ∧
  ∀ u p2 H', PgT K H' u p2 → Pok c p2 → p2.length ≤ 27 → RowAt K H' r s ns → Ex (rem H r) H' → Q (.ref u) H'
theorem m_consCall {σ : L2.St} {H : Hp} {tA tr : TA} {sp : Sp} {E : XK} {vs : List V} {Q : List V → Hp → Prop} (h : EvA tA σ H vs) (k : ∀ H1, Ex H H1 → sp (vs ++ []) H1 (fun x H2 => tr σ H2 fun xs H3 => Q (x :: xs) H3) E) : tCons (tCall sp [] E tA) tr σ H Q := h H (Ex.refl H) _ k
theorem m_asgOpOp {σ : L2.St} {H : Hp} {ta tb tc : TE} {r r' : R2} {x : V} {D : Ends} {i : Nat} (ha : Ev ta σ H x) (k : ∀ H1, Ex H H1 → tb σ H1 fun y H2 => r x y H2 fun z H3 => tc σ H3 fun w H4 => r' z w H4 fun v H5 => D.nx (σ.set i (some v)) H5) : tAsg (tOp r' (tOp r ta tb) tc) (gName i) D σ H := ha H (Ex.refl H) _ k
theorem m_opop {σ : L2.St} {H : Hp} {ta tb tc : TE} {r r' : R2} {x : V} {Q : VK} (ha : Ev ta σ H x) (k : ∀ H1, Ex H H1 → tb σ H1 fun y H2 => r x y H2 fun z H3 => tc σ H3 fun w H4 => r' z w H4 Q) : tOp r' (tOp r ta tb) tc σ H Q := ha H (Ex.refl H) _ k
section
variable {P : Program} {w : World} {K : PySem.W.Frag} {mg : Str → Option Value} {base : Heap}
abbrev s_law_kept : Stmt := top 47
theorem sc_law_kept : FnScope ["row", "program", "cells", "spots", "found", "one", "turn"] ["row", "program", "cells"] (defScope s_law_kept) := ⟨rfl, rfl, rfl, by decide +kernel, rfl, by decide +kernel, by decide +kernel⟩
--TY _law_kept {'row':L,'program':T,'spots':('list','int'),'found':('list',T),'one':T,'cells':'int','turn':'int'}
theorem ok_lkept {f f1 : Addr} {fd fd1 : FuncData} (F : Fun K "_law_kept" "_law_kept" s_law_kept f fd) (T : Txt K mg) (C_law_taken : Cal P w K mg base CX0 1 "_law_taken" f1 fd1 ["row", "many"] (spTak K)) : FnOk P w K mg base CX0 2 f fd ["row", "program", "cells"] (spLKe K) := by
  refine F.ok sc_law_kept (fun vs H Q E h => ?_) (fun cdv A outer s H vs Q E hr h => ?_)
  · obtain ⟨_, _, _, _, _, _, rfl, _⟩ := h
    rfl
  · obtain ⟨r, s, b, ns, p, c, rfl, R, hp, hok, hl, hc1, hc4, k⟩ := h
    refine ⟨_, (pss_cons (ps_asg (pe_tup (pa_cons (pe_lst pa_nil) (pa_cons (pe_lst pa_nil) pa_nil))) (pg_tup rfl (pgs_cons (pg_name (i := 3) sc_law_kept.nd rfl (by first | exact Or.inl rfl | exact Or.inr rfl)) (pgs_cons (pg_name (i := 4) sc_law_kept.nd rfl (by first | exact Or.inl rfl | exact Or.inr rfl)) pgs_nil))))
  (pss_cons (ps_for PassesOwn.never rfl (pi_tupK (K := K) rfl (pv 1)) (pg_name (i := 5) sc_law_kept.nd rfl (by first | exact Or.inl rfl | exact Or.inr rfl)) (pss_cons (ps_expr (pe_bm PySem.F.plainAttrs_list PySem.F.slot_list_append PySem.F.type_list_append mt_append (pv 3) (pa_cons (pe_callB (len_K (K := K) rfl) (by rfl) T.z_len (by decide +kernel) (pa_cons (pv 4) pa_nil)) pa_nil)))
  (pss_one (ps_set (i := 4) sc_law_kept.nd rfl (Or.inl rfl) (pe_op op_cat (pe_op op_cat (pv 4) (pe_lc (own := [("turn", 6)]) (g := gName 6) rfl sc_law_kept.nd (pi_range1 rfl T.z_range (pa_cons (pe_call C_law_taken.G (hr.mono (by first | decide | omega)) rfl C_law_taken.g C_law_taken.kp C_law_taken.b .nil pass0 (pa_cons (pv 0) (pa_cons pe_int pa_nil))) pa_nil)) (blkOk_by (by kernel_rfl)) (fun _ _ _ _ _ => pg_name (i := 6) sc_law_kept.nd rfl (by first | exact Or.inl rfl | exact Or.inr rfl)) (fun _ _ _ _ _ => pts_nil) (fun _ _ _ _ _ => (pe_tup (pa_cons pe_str (pa_cons (pe_call C_law_taken.G (hr.mono (by first | decide | omega)) rfl C_law_taken.g C_law_taken.kp C_law_taken.b .nil pass0 (pa_cons (pv 0) (pa_cons (pv 2) pa_nil))) pa_nil)))))) (pe_lst (pa_cons (pv 5) pa_nil)))))))
  (pss_cons (ps_expr (pe_bm PySem.F.plainAttrs_list PySem.F.slot_list_append PySem.F.type_list_append mt_append (pv 3) (pa_cons (pe_callB (len_K (K := K) rfl) (by rfl) T.z_len (by decide +kernel) (pa_cons (pv 4) pa_nil)) pa_nil)))
  (pss_one (ps_ret (pe_callTy (tpl_K (K := K) rfl) (by rfl) T.z_tuple (by decide +kernel) (pa_cons (pe_lc (own := [("one", 5)]) (g := gName 5) rfl sc_law_kept.nd (pi_listK (K := K) rfl (pv 4)) (blkOk_by (by kernel_rfl)) (fun _ _ _ _ _ => pg_name (i := 5) sc_law_kept.nd rfl (by first | exact Or.inl rfl | exact Or.inr rfl)) (fun _ _ _ _ _ => pts_nil) (fun _ _ _ _ _ => (pe_ifExp (pt_cmpR (in_K (K := K) rfl) (pe_ix (ix_K (K := K) rfl) (pv 5) pe_int (fun _ _ => rfl)) (pe_lst (pa_cons pe_str (pa_cons pe_str pa_nil))) (by rfl)) (pe_tup (pa_cons (pe_ix (ix_K (K := K) rfl) (pv 5) pe_int (fun _ _ => rfl)) (pa_cons (pe_ix (ix_K (K := K) rfl) (pv 3) (pe_ix (ix_K (K := K) rfl) (pv 5) pe_int (fun _ _ => rfl)) (fun _ _ => rfl)) pa_nil))) (pv 5)))) pa_nil))))))), ?_⟩
    obtain ⟨yr, hyr⟩ := R.lst
    have hpB := pg_rem hyr hp
    obtain ⟨ps, hps, hpp⟩ := id hpB
    have hpsl : ps.length = p.length := Paired.length hpp
    refine ⟨Nat.zero_le _, fun sp hsp => ?_⟩
    refine ⟨Nat.zero_le _, fun g hg => ?_⟩
    refine ⟨by show 2 ≤ sizeLine; rw [sizeLine_eq]; decide, fun tt htt => ?_⟩
    refine ⟨tt, _, rfl, st_of upd_same, rfl, _, _, rfl, ⟨_, _, rfl, ⟨rfl, ?_⟩⟩⟩
    have e1 := Ex.new (o := .lst []) hsp
    have e2 := (Ex.new (o := .lst []) hg).trans (Ex.new (o := .tup [.ref sp, .ref g]) htt)
    have hg0 : upd (upd (upd H sp (.lst [])) g (.lst [])) tt (.tup [.ref sp, .ref g]) g = some (.lst []) := Ex.new (o := .tup [.ref sp, .ref g]) htt _ _ upd_same
    have hspr : sp ≠ r := (ne_of_none hyr hsp).symm
    have hsp0 : rem H r sp = none := by rw [rem_ne hspr]; exact hsp
    dsimp only
    refine q_forTn (xs := ps) (ev_var rfl) (ex_t (rem_ex.trans (e1.trans e2)) hps)
      (fun m σ H' => ∃ (ss : List Nat) (g : Addr) (xs : List V) (Fl : List In) (z5 : Option V), Ex (rem H r) H' ∧ RowC H' r s ∧ H' sp = some (.lst (nV ss)) ∧ ss.length = m ∧ (∀ x ∈ ss, x ≤ Fl.length) ∧ g ≠ sp ∧ g ≠ r ∧ H' g = some (.lst xs) ∧ Paired (InAt K H') xs Fl ∧ (∀ i ∈ Fl, i.ok c p.length) ∧ Fl.length ≤ 3 * m ∧ (0 < m → 0 < Fl.length) ∧
        σ = [some (.ref r), some (.ref b), some (.int (c : Nat)), some (.ref sp), some (.ref g), z5, none])
      (fun H3 e3 => ⟨[], g, [], [], none, rem_ex.trans ((e1.trans e2).trans e3), R.c.up ((e1.trans e2).trans e3), (e2.trans e3) _ _ upd_same, rfl, by simp, (fun z => by rw [z, upd_same] at hg; cases hg), (fun z => by rw [z, e1 _ _ hyr] at hg; cases hg), e3 _ _ hg0, .nil, by simp, Nat.zero_le _, fun z => absurd z (by omega), rfl⟩) (fun m σ H' _ ⟨_, _, _, _, _, e, _⟩ => ex_t e hps) ?_ ?_
    · rintro m x σ H3 hm ⟨ss, g, xs, Fl, z5, e3, c3, h3, hsl, hsb, hgs, hgr, hg3, hp3, hok3, hl3, hp0, rfl⟩
      have hml : m < p.length := by
        have := (List.getElem?_eq_some_iff.mp hm).1
        omega
      obtain ⟨x', hx', hin⟩ := paired_get hpp (List.getElem?_eq_getElem hml)
      rw [hm] at hx'
      cases hx'
      have hxl : xs.length = Fl.length := Paired.length hp3
      refine q_app h3 (ev_var rfl) (ev_lnL (ev_var rfl) (sq_of hg3)) (by rw [nV_len]; omega) fun H4 e4 => ?_
      have e05 : Ex (rem H r) (upd H4 sp (.lst (nV ss ++ [.int (xs.length : Int)]))) := Ex.mut (e3.trans e4) hsp0
      have c5 : RowC (upd H4 sp (.lst (nV ss ++ [.int (xs.length : Int)]))) r s := by
        obtain ⟨a', b', c', h1, h2⟩ := c3.up e4
        exact ⟨a', b', c', by rw [upd_ne hspr.symm]; exact h1, h2⟩
      have h5 : upd H4 sp (.lst (nV ss ++ [.int (xs.length : Int)])) sp = some (.lst (nV (ss ++ [xs.length]))) := by rw [upd_same, nV_app]; rfl
      have hg5 : upd H4 sp (.lst (nV ss ++ [.int (xs.length : Int)])) g = some (.lst xs) := by rw [upd_ne hgs]; exact e4 _ _ hg3
      have hp5 : Paired (InAt K (upd H4 sp (.lst (nV ss ++ [.int (xs.length : Int)])))) xs Fl := Paired.mapP hp3 fun v i hv => inAt_upd (e4 _ _ h3) (hv.up e4)
      generalize upd H4 sp (.lst (nV ss ++ [.int (xs.length : Int)])) = H5 at e05 c5 h5 hg5 hp5 ⊢
      have R5 := R.to e05 c5
      refine m_asgOpOp (ev_var rfl) fun H6 e6 => ?_
      unfold tLc iRng1
      refine m_consCall (ea_cons (ev_var rfl) (ea_cons ev_c ea_nil)) fun H7 e7 => ?_
      have e57 := e6.trans e7
      refine ⟨r, s, ns, 3, rfl, R5.up e57, by decide, by decide, fun n H8 hn R8 e8 => ?_⟩
      have e58 : Ex (rem H5 r) H8 := Ex.past (rem_ex.trans e57) rem_eq e8
      obtain ⟨y5, hy5⟩ := R5.lst
      refine ⟨(n : Int), rfl, by omega, by omega, fun D hD => lc_range (lo := 0) (n := n) (fun i H' => ∃ (ts : List V) (qs : List In), Ex (rem H8 r) H' ∧ RowC H' r s ∧ H' D = some (.lst ts) ∧ Paired (InAt K H') ts qs ∧ qs.length = i ∧ ∀ q ∈ qs, q.ok c p.length) ⟨[], [], rem_ex.trans (Ex.new hD), R8.c.up (Ex.new hD), upd_same, .nil, rfl, by simp⟩ ?_ ?_⟩
      · obtain ⟨y8, hy8⟩ := R8.lst
        have hDr : D ≠ r := (ne_of_none hy8 hD).symm
        rintro i H9 hi ⟨ts, qs, e9, c9, h9, hp9, hql, hq9⟩
        have R9 := R8.to e9 c9
        have htl : ts.length = qs.length := Paired.length hp9
        refine ⟨rfl, ?_⟩
        refine yes_lc ?_
        rw [if_pos rfl]
        refine m_cons ev_c fun H10 e10 => ?_
        refine m_consCall (ea_cons (ev_var rfl) (ea_cons (ev_var rfl) ea_nil)) fun H11 e11 => ?_
        have e911 := e10.trans e11
        refine ⟨r, s, ns, c, rfl, R9.up e911, by omega, by omega, fun kc H12 hkc R12 e12 => ⟨by show 2 ≤ sizeLine; rw [sizeLine_eq]; decide, fun u hu => ?_⟩⟩
        have e912 : Ex (rem H9 r) H12 := Ex.past (rem_ex.trans e911) rem_eq e12
        have e12u := Ex.new (o := .tup [.str "touch", .int (kc : Nat)]) hu
        obtain ⟨y9, hy9⟩ := R9.lst
        have hD13 : upd H12 u (.tup [.str "touch", .int (kc : Nat)]) D = some (.lst ts) := e12u _ _ (e912 _ _ (by rw [rem_ne hDr]; exact h9))
        have hu13 : upd H12 u (.tup [.str "touch", .int (kc : Nat)]) u = some (.tup (In.touch kc).vs) := upd_same
        have e813 : Ex (rem H8 r) (upd H12 u (.tup [.str "touch", .int (kc : Nat)])) := (Ex.past e9 rem_eq e912).trans e12u
        have c13 := R12.c.up e12u
        have hp13 : Paired (InAt K (upd H12 u (.tup [.str "touch", .int (kc : Nat)]))) ts qs := Paired.mapP hp9 fun v i hv => (inAt_rem hy9 hv).up (e912.trans e12u)
        generalize upd H12 u (.tup [.str "touch", .int (kc : Nat)]) = H13 at hD13 hu13 e813 c13 hp13 ⊢
        refine ⟨ts, hD13, sz_lt (by omega), ts ++ [.ref u], qs ++ [.touch kc], Ex.mut e813 (by rw [rem_ne hDr]; exact hD), ?_, upd_same, paired_append (Paired.mapP hp13 fun v i hv => inAt_upd hD13 hv) (.cons ⟨u, rfl, sqT_upd hD13 (st_of hu13)⟩ .nil), by simp [hql], ?_⟩
        · obtain ⟨a', b', c', h1, h2⟩ := c13
          exact ⟨a', b', c', by rw [upd_ne hDr.symm]; exact h1, h2⟩
        · intro q hq
          rcases List.mem_append.mp hq with h | h
          · exact hq9 q h
          · rw [List.mem_singleton.mp h]
            exact hkc
      · rintro H9 ⟨ts, qs, e9, c9, h9, hp9, hql, hq9⟩
        have e59 : Ex (rem H5 r) H9 := Ex.past e58 rem_eq e9
        have htl : ts.length = qs.length := Paired.length hp9
        have hg9 : H9 g = some (.lst xs) := e59 _ _ (by rw [rem_ne hgr]; exact hg5)
        refine ⟨g, D, xs, ts, rfl, rfl, hg9, h9, sz_of (by omega), fun g1 hg1 => ?_⟩
        have en1 := Ex.new (o := .lst (xs ++ ts)) hg1
        refine ⟨_, rfl, by show 1 ≤ sizeLine; rw [sizeLine_eq]; decide, fun o1 ho1 => ?_⟩
        have en2 := Ex.new (o := .lst [x]) ho1
        refine ⟨g1, o1, xs ++ ts, [x], rfl, rfl, en2 _ _ upd_same, upd_same, sz_of (by rw [List.length_append]; show _ + 1 ≤ 100000; omega), fun g2 hg2 => ?_⟩
        have en3 := Ex.new (o := .lst ((xs ++ ts) ++ [x])) hg2
        have en := (en1.trans en2).trans en3
        have e0F : Ex (rem H r) H9 := Ex.past e05 rem_eq e59
        have hspF : H9 sp = some (.lst (nV (ss ++ [xs.length]))) := e59 _ _ (by rw [rem_ne hspr]; exact h5)
        refine ⟨ss ++ [xs.length], g2, (xs ++ ts) ++ [x], (Fl ++ qs) ++ [p[m]], _, e0F.trans en, c9.up en, en _ _ hspF, by simp [hsl], ?_, ?_, ?_, upd_same, ?_, ?_, ?_, ?_, rfl⟩
        · intro y hy
          rcases List.mem_append.mp hy with h | h
          · have := hsb y h
            simp only [List.length_append, List.length_singleton]
            omega
          · rw [List.mem_singleton.mp h]
            simp only [List.length_append, List.length_singleton]
            omega
        · exact fun z => by rw [z, (en1.trans en2) _ _ hspF] at hg2; cases hg2
        · obtain ⟨a', b', c', h1, _⟩ := c9
          exact fun z => by rw [z, (en1.trans en2) _ _ h1] at hg2; cases hg2
        · refine paired_append (paired_append (Paired.mapP hp5 fun v i hv => ((inAt_rem hy5 hv).up e59).up en) (Paired.mapP hp9 fun v i hv => hv.up en)) (.cons ?_ .nil)
          exact (hin.up e0F).up en
        · intro i hi
          rcases List.mem_append.mp hi with h | h
          · rcases List.mem_append.mp h with h | h
            · exact hok3 i h
            · exact hq9 i h
          · rw [List.mem_singleton.mp h]
            exact hok.2 _ (List.getElem_mem hml)
        · simp only [List.length_append, List.length_singleton]
          omega
        · intro _
          simp only [List.length_append, List.length_singleton]
          omega
    · rintro σ H3 ⟨ss, g, xs, Fl, z5, e3, c3, h3, hsl, hsb, hgs, hgr, hg3, hp3, hok3, hl3, hp0, rfl⟩
      rw [hpsl] at hsl hl3 hp0
      have hFl : 0 < Fl.length := hp0 hok.1
      have hxl : xs.length = Fl.length := Paired.length hp3
      refine q_app h3 (ev_var rfl) (ev_lnL (ev_var rfl) (sq_of hg3)) (by rw [nV_len]; omega) fun H4 e4 => ?_
      have e05 : Ex (rem H r) (upd H4 sp (.lst (nV ss ++ [.int (xs.length : Int)]))) := Ex.mut (e3.trans e4) hsp0
      have c5 : RowC (upd H4 sp (.lst (nV ss ++ [.int (xs.length : Int)]))) r s := by
        obtain ⟨a', b', c', h1, h2⟩ := c3.up e4
        exact ⟨a', b', c', by rw [upd_ne hspr.symm]; exact h1, h2⟩
      have h5 : upd H4 sp (.lst (nV ss ++ [.int (xs.length : Int)])) sp = some (.lst (nV (ss ++ [xs.length]))) := by rw [upd_same, nV_app]; rfl
      have hg5 : upd H4 sp (.lst (nV ss ++ [.int (xs.length : Int)])) g = some (.lst xs) := by rw [upd_ne hgs]; exact e4 _ _ hg3
      have hp5 : Paired (InAt K (upd H4 sp (.lst (nV ss ++ [.int (xs.length : Int)])))) xs Fl := Paired.mapP hp3 fun v i hv => inAt_upd (e4 _ _ h3) (hv.up e4)
      generalize upd H4 sp (.lst (nV ss ++ [.int (xs.length : Int)])) = H5 at e05 c5 h5 hg5 hp5 ⊢
      have hsb2 : ∀ t, t ≤ p.length → t < (ss ++ [xs.length]).length ∧ (ss ++ [xs.length]).getD t 0 ≤ Fl.length := fun t ht => by
        have hlt : t < (ss ++ [xs.length]).length := by rw [List.length_append, List.length_singleton]; omega
        refine ⟨hlt, ?_⟩
        rw [List.getD_eq_getElem?_getD, List.getElem?_eq_getElem hlt]
        have hm := List.getElem_mem hlt
        show (ss ++ [xs.length])[t] ≤ Fl.length
        rcases List.mem_append.mp hm with h | h
        · exact hsb _ h
        · rw [List.mem_singleton.mp h]; omega
      refine ⟨_, rfl, g, rfl, ⟨_, sq_of hg5⟩, fun D hD => lc_list (xs := xs) (fun i H' => ∃ (ys : List V) (p2 : List In), H5 D = none ∧ Ex H5 H' ∧ H' D = some (.lst ys) ∧ Paired (InAt K H') ys p2 ∧ p2.length = i ∧ ∀ q ∈ p2, q.ok c Fl.length) ⟨[], [], hD, Ex.new hD, upd_same, .nil, rfl, by simp⟩ (fun i H' _ ⟨_, _, _, e, _⟩ => ex_l e (sq_of hg5)) ?_ ?_⟩
      · rintro i x H6 hx ⟨ys, p2, hD5, e6, h6, hp6, hl6, hok6⟩
        have hil : i < Fl.length := by rw [← hxl]; exact (List.getElem?_eq_some_iff.mp hx).1
        obtain ⟨x', hx', hin⟩ := paired_get hp5 (List.getElem?_eq_getElem hil)
        rw [hx] at hx'
        cases hx'
        have hokf := hok3 _ (List.getElem_mem hil)
        generalize Fl[i] = f at hin hokf
        obtain ⟨b', rfl, hb'⟩ := hin.up e6
        have hyl : ys.length = p2.length := Paired.length hp6
        refine ⟨rfl, ?_⟩
        refine yes_lc ?_
        rw [if_pos rfl]
        have hw : inV (V.str f.w) [.str "zero", .str "go"] = f.pla := by cases f <;> kernel_rfl
        refine (et_is (et_test (ev_opL (ev_ixT (ev_var rfl) ev_c hb' (vs_0 f)) (el_lst (ea_cons ev_c (ea_cons ev_c ea_nil)) (by decide)) fun _ _ h _ => rv_isL (sq_of h) rfl rfl)) hw : EvT _ _ H6 f.pla) H6 (Ex.refl _) _ fun H7 e7 => ?_
        have step : ∀ (H8 : Hp) (u : Addr) (f2 : In), Ex H7 H8 → SqT K H8 u f2.vs → f2.ok c Fl.length → ∃ acc, H8 D = some (.lst acc) ∧ acc.length < sizeLine ∧ ∃ (ys : List V) (p2 : List In), H5 D = none ∧ Ex H5 (upd H8 D (.lst (acc ++ [.ref u]))) ∧ upd H8 D (.lst (acc ++ [.ref u])) D = some (.lst ys) ∧ Paired (InAt K (upd H8 D (.lst (acc ++ [.ref u])))) ys p2 ∧ p2.length = i + 1 ∧ ∀ q ∈ p2, q.ok c Fl.length := fun H8 u f2 e8 hu hf2 => by
          have h8 : H8 D = some (.lst ys) := (e7.trans e8) _ _ h6
          refine ⟨ys, h8, sz_lt (by omega), ys ++ [.ref u], p2 ++ [f2], hD5, Ex.mut ((e6.trans e7).trans e8) hD5, upd_same, paired_append (Paired.mapP hp6 fun v i hv => inAt_upd h8 (hv.up (e7.trans e8))) (.cons ⟨u, rfl, sqT_upd h8 hu⟩ .nil), by simp [hl6], ?_⟩
          intro q hq
          rcases List.mem_append.mp hq with h | h
          · exact hok6 q h
          · rw [List.mem_singleton.mp h]
            exact hf2
        cases hpl : f.pla with
        | true =>
          rw [if_pos rfl]
          obtain ⟨t, ht, harg, mk⟩ : ∃ t : Nat, t ≤ p.length ∧ f.arg = some (t : Int) ∧ ∀ n, n ≤ Fl.length → ∃ f2 : In, f2.ok c Fl.length ∧ f2.vs = [.str f.w, .int (n : Nat)] := by
            cases f <;> simp [In.pla] at hpl
            · exact ⟨_, hokf, rfl, fun n hn => ⟨.zero n, hn, rfl⟩⟩
            · exact ⟨_, hokf, rfl, fun n hn => ⟨.go n, hn, rfl⟩⟩
          obtain ⟨h1, h2⟩ := hsb2 t ht
          obtain ⟨f2, hf2, hv2⟩ := mk _ h2
          refine (eu_tup (ea_cons (ev_ixT (ev_var rfl) ev_c (ex_t e7 hb') (vs_0 f)) (ea_cons (ev_ixL (ev_var rfl) (ev_ixT (ev_var rfl) ev_c (ex_t e7 hb') (vs_1 harg)) (sq_of ((e6.trans e7) _ _ h5)) (nV_at h1)) ea_nil)) (by show 2 ≤ 100000; decide)) H7 (Ex.refl _) _ fun u H8 hu e8 h8 => ?_
          exact step H8 u f2 e8 (st_of (by rw [h8, hv2])) hf2
        | false =>
          rw [if_neg (fun z => nomatch z)]
          refine ⟨_, rfl, ?_⟩
          exact step H7 b' f (Ex.refl _) (ex_t e7 hb') (by cases f <;> simp [In.pla] at hpl <;> exact hokf)
      · rintro H6 ⟨ys, p2, hD5, e6, h6, hp6, hl6, hok6⟩
        refine ⟨D, ys, rfl, .inl ⟨sq_of h6, fun u hu => ?_⟩⟩
        have en := Ex.new (o := .tup ys) hu
        have hl2 : p2.length = Fl.length := by rw [hl6, hxl]
        have eF := e05.trans (e6.trans en)
        refine k u p2 _ ⟨ys, st_of upd_same, Paired.mapP hp6 fun v i hv => hv.up en⟩ ⟨by omega, fun q hq => by rw [hl2]; exact hok6 q hq⟩ (by omega) (R.to eF (c5.up (e6.trans en))) eF
end
end Fm
set_option Elab.async false
set_option linter.all false
set_option maxRecDepth 100000
set_option maxHeartbeats 1000000
namespace Fm
open PySem L2 Evl TL RZ
/-! the cases that k11's law draws from: pairs of a text and the place that is told -/
theorem ite_f {a b : Prop} (h : b) : if false = true then a else b := (if_neg Bool.false_ne_true : (if false = true then a else b) = b).mpr h
theorem ite_t {a b : Prop} (h : a) : if true = true then a else b := (if_pos rfl : (if true = true then a else b) = a).mpr h
def CaseAt (K : PySem.W.Frag) (H : Hp) (v : V) (q : Str × Nat × Nat) : Prop := ∃ t u : Addr, v = .ref t ∧ SqT K H t [.str q.1, .ref u] ∧ SqT K H u [.int (q.2.1 : Nat), .int (q.2.2 : Nat)]
theorem CaseAt.up {K : PySem.W.Frag} {H H' : Hp} {v : V} {q : Str × Nat × Nat} (e : Ex H H') (h : CaseAt K H v q) : CaseAt K H' v q := let ⟨t, u, h1, h2, h3⟩ := h; ⟨t, u, h1, ex_t e h2, ex_t e h3⟩
theorem CaseAt.upd {K : PySem.W.Frag} {H : Hp} {l : Addr} {ys zs : List V} {v : V} {q : Str × Nat × Nat} (hl : H l = some (.lst ys)) (h : CaseAt K H v q) : CaseAt K (upd H l (.lst zs)) v q := let ⟨t, u, h1, h2, h3⟩ := h; ⟨t, u, h1, sqT_upd hl h2, sqT_upd hl h3⟩
theorem CaseAt.rem {K : PySem.W.Frag} {H : Hp} {l : Addr} {ys : List V} {v : V} {q : Str × Nat × Nat} (hl : H l = some (.lst ys)) (h : CaseAt K H v q) : CaseAt K (rem H l) v q := let ⟨t, u, h1, h2, h3⟩ := h; ⟨t, u, h1, sqT_rem hl h2, sqT_rem hl h3⟩
def LCs (K : PySem.W.Frag) (H : Hp) (l : Addr) (cs : List (Str × Nat × Nat)) : Prop := ∃ xs, H l = some (.lst xs) ∧ Paired (CaseAt K H) xs cs
theorem LCs.up {K : PySem.W.Frag} {H H' : Hp} {l : Addr} {cs : List (Str × Nat × Nat)} (e : Ex H H') (h : LCs K H l cs) : LCs K H' l cs := let ⟨xs, h1, h2⟩ := h; ⟨xs, e _ _ h1, Paired.mapP h2 fun _ _ z => z.up e⟩
theorem paired_len {α β : Type} {R : α → β → Prop} : ∀ {xs : List α} {ys : List β}, Paired R xs ys → xs.length = ys.length
  | _, _, .nil => rfl
  | _, _, .cons _ t => congrArg (· + 1) (paired_len t)
section
variable {K : PySem.W.Frag} {σ : L2.St} {H : Hp} {ta tb te ts : TE} {tr tA tB : TA} {Q : VK} {D : Ends} {tz tu : TS} {g : TG} {sp : Sp} {E : XK} {t1 t2 : TT}
def EvCs (K : PySem.W.Frag) (tA : TA) (σ : L2.St) (H : Hp) (cs : List (Str × Nat × Nat)) : Prop := ∀ H1, Ex H H1 → ∀ Q : List V → Hp → Prop, (∀ xs H2, Ex H1 H2 → Paired (CaseAt K H2) xs cs → Q xs H2) → tA σ H1 Q
def EvC (K : PySem.W.Frag) (te : TE) (σ : L2.St) (H : Hp) (q : Str × Nat × Nat) : Prop := ∀ H1, Ex H H1 → ∀ Q : VK, (∀ v H2, Ex H1 H2 → CaseAt K H2 v q → Q v H2) → te σ H1 Q
theorem ec_nil : EvCs K tNil σ H [] := fun H1 _ Q q => q [] H1 (Ex.refl _) .nil
theorem ec_cons {q : Str × Nat × Nat} {cs : List (Str × Nat × Nat)} (h : EvC K te σ H q) (hr : EvCs K tr σ H cs) : EvCs K (tCons te tr) σ H (q :: cs) := fun H1 e Q k =>
  h H1 e _ fun v H2 e2 hv => hr H2 (e.trans e2) _ fun xs H3 e3 hxs => k _ H3 (e2.trans e3) (.cons (hv.up e3) hxs)
theorem ec_one {s : Str} {a b : Nat} (hs : Ev ts σ H (.str s)) : EvC K (tTup (tCons ts (tCons (tTup (tCons (tC (.int (a : Nat))) (tCons (tC (.int (b : Nat))) tNil))) tNil))) σ H (s, a, b) := fun H1 e Q k =>
  hs H1 e _ fun H2 e2 => ⟨by show 2 ≤ sizeLine; rw [sizeLine_eq]; decide, fun u hu => ⟨by show 2 ≤ sizeLine; rw [sizeLine_eq]; decide, fun t ht => k _ _ ((e2.trans (Ex.new hu)).trans (Ex.new ht)) ⟨t, u, rfl, st_of upd_same, ex_t (Ex.new ht) (st_of upd_same)⟩⟩⟩
theorem q_caseL {i : Nat} {cs : List (Str × Nat × Nat)} (h : EvCs K tA σ H cs) (hl : cs.length ≤ 1000) (k : ∀ p H1, H p = none → Ex H H1 → LCs K H1 p cs → tz D (σ.set i (some (.ref p))) H1) : tSeq (tAsg (tLst tA) (gName i)) tz D σ H :=
  h H (Ex.refl _) _ fun xs H2 e2 hxs => ⟨by rw [paired_len hxs, sizeLine_eq]; omega, fun p hp => k p _ (fresh_back e2 hp) (e2.trans (Ex.new hp)) ⟨xs, upd_same, Paired.mapP hxs fun _ _ z => z.up (Ex.new hp)⟩⟩
theorem q_caseCat {i j : Nat} {l : Addr} {cs ds : List (Str × Nat × Nat)} (hv : σ[j]? = some (some (.ref l))) (hL : LCs K H l cs) (h : EvCs K tB σ H ds) (hz : cs.length + ds.length ≤ 1000) (k : ∀ p H1, H p = none → Ex H H1 → LCs K H1 p (cs ++ ds) → tz D (σ.set i (some (.ref p))) H1) :
    tSeq (tAsg (tOp rCat (tVar j) (tLst tB)) (gName i)) tz D σ H := by
  obtain ⟨xs, hl, hp⟩ := hL
  refine ⟨_, hv, h H (Ex.refl _) _ fun ys H2 e2 hys => ⟨by rw [paired_len hys, sizeLine_eq]; omega, fun b hb => ⟨l, b, xs, ys, rfl, rfl, (e2.trans (Ex.new hb)) _ _ hl, upd_same, by rw [paired_len hp, paired_len hys, sizeLine_eq]; omega, fun p hpp => ?_⟩⟩⟩
  have e3 := (e2.trans (Ex.new hb)).trans (Ex.new (o := .lst (xs ++ ys)) hpp)
  exact k p _ (fresh_back (e2.trans (Ex.new hb)) hpp) e3 ⟨xs ++ ys, upd_same, paired_append (Paired.mapP hp fun _ _ z => z.up e3) (Paired.mapP hys fun _ _ z => z.up ((Ex.new hb).trans (Ex.new hpp)))⟩
theorem q_caseApp {j : Nat} {l : Addr} {q : Str × Nat × Nat} {cs : List (Str × Nat × Nat)} (hv : σ[j]? = some (some (.ref l))) (hL : LCs K H l cs) (h : EvC K te σ H q) (hz : cs.length ≤ 1000) (k : ∀ H1, Ex (rem H l) H1 → LCs K H1 l (cs ++ [q]) → tz D σ H1) :
    tSeq (tDrop (tBM K "list" rAppend (tVar j) (tCons te tNil))) tz D σ H := by
  obtain ⟨xs, hl, hp⟩ := hL
  refine m_appQ (ev_var hv) hl fun H1 e1 => h H1 e1 _ fun v H2 e2 hc => ?_
  have e12 := e1.trans e2
  refine ⟨l, xs, v, rfl, rfl, e12 _ _ hl, by rw [paired_len hp, sizeLine_eq]; omega, k _ (Ex.mut (rem_ex.trans e12) rem_eq) ⟨xs ++ [v], upd_same, paired_append (Paired.mapP hp fun _ _ z => (z.up e12).upd (e12 _ _ hl)) (.cons (hc.upd (e12 _ _ hl)) .nil)⟩⟩
/-- case, due = one of them -/
theorem q_casePick {i j a b n : Nat} {r s l : Addr} {ns : List Int} {cs : List (Str × Nat × Nat)} (h1 : σ[a]? = some (some (.ref r))) (h2 : σ[b]? = some (some (.ref l))) (R : RowAt K H r s ns) (hL : LCs K H l cs) (hne : l ≠ r) (h0 : 0 < cs.length) (hz : cs.length ≤ 1000) (hn : 2 = n)
    (k : ∀ (q : Str × Nat × Nat) (u : Addr) H1, q ∈ cs → SqT K H1 u [.int (q.2.1 : Nat), .int (q.2.2 : Nat)] → RowAt K H1 r s ns → Ex (rem H r) H1 → tz D ((σ.set i (some (.str q.1))).set j (some (.ref u))) H1) :
    tSeq (tAsg (tCall (spPick K) [] E0 (tCons (tVar a) (tCons (tVar b) tNil))) (gTup K n (gCons (gName i) (gCons (gName j) gNil)))) tz D σ H := by
  obtain ⟨xs, hl, hp⟩ := hL
  refine ⟨_, h1, _, h2, r, s, l, ns, xs, rfl, R, sq_of hl, hne, by rw [paired_len hp]; exact h0, by rw [paired_len hp]; omega, fun x H' hx R' e' => ?_⟩
  obtain ⟨y, hy⟩ := R.lst
  obtain ⟨m, hm⟩ := List.mem_iff_getElem?.mp hx
  obtain ⟨q, hq, hc⟩ := paired_at hp hm
  obtain ⟨t, u, rfl, q1, q2⟩ := (hc.rem hy).up e'
  refine ⟨t, _, rfl, q1, hn, _, _, rfl, _, _, rfl, rfl, k q u H' (List.mem_of_getElem? hq) q2 R' e'⟩
theorem m_opLam {r : R2} (h : ta σ H fun x H1 => tb σ H1 fun y H2 => r x y H2 Q) : tOp r ta tb σ H Q := h
theorem rNeD_same {x y : V} {d : PyData} (h1 : Dp K H x d) (h2 : Dp K H y d) (hs : SeqAt.shaped d = true) (q : Q (.bl false) H) : rNeD K x y H Q := ⟨d, d, h1, h2, hs, hs, by
  rw [PySem.SeqAt.eqv_refl d (SeqAt.canLay_of_shaped hs)]
  exact q⟩
theorem rEqD_same {x y : V} {d : PyData} (h1 : Dp K H x d) (h2 : Dp K H y d) (hs : SeqAt.shaped d = true) (q : Q (.bl true) H) : rEqD K x y H Q := ⟨d, d, h1, h2, hs, hs, by
  rw [PySem.SeqAt.eqv_refl d (SeqAt.canLay_of_shaped hs)]
  exact q⟩
theorem dp_pair {u : Addr} {a b : Nat} (h : SqT K H u [.int (a : Nat), .int (b : Nat)]) : Dp K H (.ref u) (.tuple [.int (a : Nat), .int (b : Nat)]) := .tup h (.cons (.int _) (.cons (.int _) .nil))
theorem sh_pair (a b : Nat) : SeqAt.shaped (.tuple [.int (a : Nat), .int (b : Nat)]) = true := rfl
theorem dp_string : Dp K H (.str "string") (.str "string") := .str _
theorem sh_string : SeqAt.shaped (.str "string") = true := by decide +kernel
def rIsNnX : R2 := fun x y H Q => y = V.non ∧ Q (V.bl !decide (x = V.non)) H
theorem et_nN {x : V} (ha : Ev ta σ H x) : EvT (tTest (tOp rIsNnX ta (tC .non))) σ H (!decide (x = .non)) := et_test (ev_op ha ev_c fun H1 _ _ q => ⟨rfl, q H1 (Ex.refl H1)⟩)
theorem lex_no {l p a b : Int} (h : a < l ∨ (l = a ∧ b ≤ p)) : HT.lexLt [l, p] [a, b] = false := by
  rw [HT.lexLt_cons, HT.lexLt_cons, HT.lexLt_nil_nil]
  rcases h with h | ⟨rfl, h⟩
  · rw [if_neg (by omega)]
    exact decide_eq_false (by omega)
  · rw [if_pos rfl]
    by_cases e : p = b
    · rw [if_pos e]
    · rw [if_neg e]
      exact decide_eq_false (by omega)
end
/-- "\n".join([" ".join([str(part) for part in one]) for one in program]) -/
theorem ev_pText {K : PySem.W.Frag} {σ : L2.St} {H : Hp} {tl : TE} {a : Addr} {p : List In} {c i j : Nat} (hp : PgT K H a p) (hok : Pok c p) (hc4 : c ≤ 4) (hl : p.length ≤ 400) (hv : Ev tl σ H (.ref a))
    (w1 : ∀ x, wipe ((wipe σ [i]).set i x) [i] = wipe σ [i]) (w2 : ∀ x y, wipe ((wipe ((wipe σ [i]).set i x) [j]).set j y) [j] = wipe ((wipe σ [i]).set i x) [j]) (g1 : ∀ x, ((wipe σ [i]).set i (some x))[i]? = some (some x)) (g2 : ∀ x y, ((wipe ((wipe σ [i]).set i (some x)) [j]).set j (some y))[j]? = some (some y)) :
    Ev (tBM K "str" (rJoin K) (tC (V.str "\n")) (tCons (tLc (iTup K tl) (gName i) tYes (tBM K "str" (rJoin K) (tC (V.str " ")) (tCons (tLc (iTup K (tVar i)) (gName j) tYes (tCB (fun xs H Q => (∃ i, xs = [V.int i] ∧ i.natAbs.log2 < 1920 ∧ Q (V.str (Str.ofString (toString i))) H) ∨ ∃ a, xs = [V.str a] ∧ Q (V.str a) H) (tCons (tVar j) tNil)) [j]) tNil)) [i]) tNil)) σ H (.str (pText p)) := by
  obtain ⟨xs, hxs, hpp⟩ := hp
  unfold pText
  refine ev_joinN ev_c ?_ ?_
  · rw [List.map_map]
    refine el_lcTu (f := V.str ∘ insT) hv hxs hpp w1 (by omega) fun x i' H5 hx hi e5 => ?_
    obtain ⟨b, rfl, hb⟩ := hx
    have hin := insW_len (hok.2 i' hi) hc4 hl
    refine ev_joinN (ys := insW i') ev_c ?_ (by
      have e1 : (" " : Str).length = 1 := by decide +kernel
      rw [e1]
      omega)
    have key : Paired (fun (v : V) (u : V) => v = u) i'.vs i'.vs := by
      generalize i'.vs = l
      induction l with
      | nil => exact .nil
      | cons x l ih => exact .cons rfl ih
    have e2 : (insW i').map V.str = i'.vs.map fun v => V.str (match v with
      | .str s => s
      | .int z => Str.ofString (toString z)
      | _ => "") := by unfold insW; rw [List.map_map]; rfl
    rw [e2]
    refine el_lcTu (ev_var (g1 _)) (ex_t e5 hb) key (w2 _) (by unfold In.vs; split <;> first | (show 1 ≤ 50000; decide) | (show 2 ≤ 50000; decide)) fun x y H6 hxy hy e6 => ?_
    subst hxy
    have hform : (∃ s, x = V.str s) ∨ ∃ z : Int, x = .int z ∧ -1000000 ≤ z ∧ z ≤ 1000000 := by
      have hiok := hok.2 i' hi
      unfold In.vs at hy
      split at hy
      · exact .inl ⟨_, List.mem_singleton.mp hy⟩
      · rename_i z hz
        rcases List.mem_cons.mp hy with q | q
        · exact .inl ⟨_, q⟩
        · refine .inr ⟨z, List.mem_singleton.mp q, ?_⟩
          cases i' <;> simp [In.arg, In.ok] at hz hiok <;> omega
    rcases hform with ⟨s', rfl⟩ | ⟨z, rfl, h1, h2⟩
    · exact fun H7 e7 Q' q => (ev_var (g2 _ _)) H7 e7 _ fun H8 e8 => .inr ⟨s', rfl, q H8 e8⟩
    · exact fun H7 e7 Q' q => (ev_var (g2 _ _)) H7 e7 _ fun H8 e8 => .inl ⟨z, rfl, log_small h1 h2, q H8 e8⟩
  · have h1 : ((p.map insT).map (·.length)).sum ≤ (p.map insT).length * 30000 := by
      have := sum_le (c := 30000) ((p.map insT).map (·.length)) fun x hx => by
        obtain ⟨y, hy, rfl⟩ := List.mem_map.mp hx
        obtain ⟨i', hi, rfl⟩ := List.mem_map.mp hy
        have h2 := insW_len (hok.2 i' hi) hc4 hl
        have h3 := join_len " " (insW i')
        have e1 : (" " : Str).length = 1 := by decide +kernel
        rw [e1] at h3
        exact Nat.le_trans h3 h2
      rwa [List.length_map] at this
    have e1 : ("\n" : Str).length = 1 := by decide +kernel
    rw [e1]
    rw [List.length_map] at h1 ⊢
    omega
end Fm
set_option Elab.async false
set_option linter.all false
set_option maxRecDepth 100000
set_option maxHeartbeats 2000000
namespace Fm
open PySem L2 Evl TL RZ LamX PyProof.Rows
theorem ltT_K {X : Cx} {K : PySem.W.Frag} (h : X.K = K) (hu : X.A.units + 64 < cLine) : OpR X (compareOp .Lt) (rLtT K) := h ▸ op_ltT (by omega)
--RET {'_law_loose':'str','write_machine':'str','write_program':'str','read_machine':('tuple',('tuple','int')),'read_program':('tuple',('tuple','any')),'_law_bent':('tuple','any'),'_law_pick':('tuple','any'),'_law_said':('tuple','int'),'_law_machine':('tuple',('tuple','int')),'_law_kept':('tuple',('tuple','any')),'_law_program':('tuple',('tuple','any'))}
def spLawT (K : PySem.W.Frag) (Pt : Addr) : Sp := fun vs H Q _ => ∃ (s : Addr) (ns : List Int), vs = [.ref s] ∧ SqL K H s (ns.map V.int) ∧ H Pt = some (.tbl #[]) ∧ ∀ H', Q (.bl true) H'
section
variable {P : Program} {w : World} {K : PySem.W.Frag} {mg : Str → Option Value} {base : Heap} {C : Addr}
theorem q_tupW {σ : L2.St} {H : Hp} {tA : TA} {D : Ends} {tz : TS} {g : TG} (h : tA σ H fun xs H1 => xs.length ≤ sizeLine ∧ ∀ p, H1 p = none → g (.ref p) σ (upd H1 p (.tup xs)) fun σ2 H2 => tz D σ2 H2) : tSeq (tAsg (tTup tA) g) tz D σ H := h
section
variable {K : PySem.W.Frag} {σ : L2.St} {H : Hp} {ta tb te : TE} {tr tA : TA} {Q : VK} {D : Ends} {tz tu : TS} {g : TG} {sp : Sp} {E : XK} {t1 : TT}
theorem ev_addSW {a b : Str} (ha : Ev ta σ H (.str a)) (hb : Ev tb σ H (.str b)) (hz : a.length + b.length ≤ sizeLine) : Ev (tOp (fun x y H Q => ∃ i j, x = V.str i ∧ y = V.str j ∧ i.length + j.length ≤ sizeLine ∧ Q (V.str (i ++ j)) H) ta tb) σ H (.str (a ++ b)) := ev_op ha hb fun H1 e Q q => ⟨a, b, rfl, rfl, hz, q H1 (Ex.refl H1)⟩
theorem ev_strW {n : Nat} (ha : Ev te σ H (.int (n : Nat))) (hn : n ≤ 1000000) : Ev (tCB (fun xs H Q => ∃ i, xs = [V.int i] ∧ i.natAbs.log2 < 1920 ∧ Q (V.str (Str.ofString (toString i))) H) (tCons te tNil)) σ H (.str (numT n)) := fun H1 e Q q => ha H1 e _ fun H2 e2 => ⟨_, rfl, log_small (by omega) (by omega), q H2 e2⟩
theorem nextW (h : D.nx σ H) : tNext D σ H := h
theorem q_callGW (h : tA σ H fun vs H1 => sp (vs ++ []) H1 (fun v H2 => g v σ H2 fun σ3 H3 => tz D σ3 H3) E) : tSeq (tAsg (tCall sp [] E tA) g) tz D σ H := h
theorem m_consELW {xs : List V} {Q : List V → Hp → Prop} (h : EvL te σ H xs) (k : ∀ p H1, H p = none → Ex H H1 → H1 p = some (.lst xs) → tr σ H1 fun ys H2 => Q (.ref p :: ys) H2) : tCons te tr σ H Q := h H (Ex.refl H) _ k
theorem q_setKW {i : Nat} {R : V → Hp → Prop} (hk : ∀ x H', R x H' → tz D (σ.set i (some x)) H') (h : ∀ Q : VK, (∀ x H', R x H' → Q x H') → te σ H Q) : tSeq (tAsg te (gName i)) tz D σ H := h _ hk
theorem q_notC (h : tA σ H fun vs H2 => sp (vs ++ []) H2 (fun x H3 => ∃ c, x = .bl c ∧ (if (!c) = true then tu { D with nx := tz D } σ H3 else tNext { D with nx := tz D } σ H3)) E) : tSeq (tIfS (tNot (tB (tCall sp [] E tA))) tu tNext) tz D σ H := h
theorem sig_eq {σ' : L2.St} {t : TS} (e : σ = σ') (h : t D σ' H) : t D σ H := by rw [e]; exact h
theorem m_cc {v : V} (h : Q v H) : tC v σ H Q := h
theorem m_callT (h : tA σ H fun vs H1 => sp (vs ++ []) H1 Q E) : tCall sp [] E tA σ H Q := h
theorem el_is {xs ys : List V} (h : EvL te σ H xs) (e : xs = ys) : EvL te σ H ys := by rw [← e]; exact h
/-- if .. or not alike(..): neither -/
theorem q_orNot (h1 : EvT t1 σ H false) (h : ∀ H1, Ex H H1 → tA σ H1 fun vs H2 => sp (vs ++ []) H2 (fun x H3 => ∃ c, x = .bl c ∧ (if (!c) = true then tu { D with nx := tz D } σ H3 else tNext { D with nx := tz D } σ H3)) E) : tSeq (tIfS (tOr t1 (tNot (tB (tCall sp [] E tA)))) tu tNext) tz D σ H := h1 H (Ex.refl H) _ fun H1 e1 => h H1 e1
end
theorem sqT_nW {K : PySem.W.Frag} {H H' : Hp} {a : Addr} {xs : List V} (e : ExtN H H') (h : SqT K H a xs) : SqT K H' a xs := by
  rcases h with (h | ⟨o, h⟩) | h
  · exact .inl (.inl (e _ _ h fun _ z => by cases z))
  · exact .inl (.inr ⟨o, e _ _ h fun _ z => by cases z⟩)
  · exact .inr h
theorem sqL_nW {K : PySem.W.Frag} {H H' : Hp} {a : Addr} {xs : List V} (e : ExtN H H') (h : SqL K H a xs) : SqL K H' a xs := by
  rcases h with (h | ⟨o, h⟩) | h
  · exact .inl (.inl (e _ _ h fun _ z => by cases z))
  · exact .inl (.inr ⟨o, e _ _ h fun _ z => by cases z⟩)
  · exact .inr h
theorem row_nW {K : PySem.W.Frag} {H H' : Hp} {r s : Addr} {ns : List Int} (e : ExtN H H') (h : RowAt K H r s ns) : RowAt K H' r s ns := let ⟨⟨a, b, c, h1, h2⟩, q⟩ := h; ⟨⟨a, b, c, e _ _ h1 (fun _ z => by cases z), h2⟩, sqL_nW e q⟩
theorem tabs_rem {T : List (Addr × Str)} {H : Hp} {r : Addr} {ys : List V} (hr : H r = some (.lst ys)) (h : Tabs T H) : Tabs T (rem H r) := fun p hp => by
  obtain ⟨ps, h1, h2, h3⟩ := h p hp
  refine ⟨ps, by rw [rem_ne fun z => by rw [z, hr] at h1; cases h1]; exact h1, h2, fun pos cv hc => ?_⟩
  obtain ⟨c, e1, e2⟩ := h3 pos cv hc
  refine ⟨c, e1, ?_⟩
  rw [rem_ne fun z => by rw [z, hr] at e2; cases e2]
  exact e2
theorem mat_remW {K : PySem.W.Frag} {H : Hp} {r m : Addr} {ys : List V} {fs rs : List Nat} (hr : H r = some (.lst ys)) (h : MaT K H m fs rs) : MaT K (rem H r) m fs rs := let ⟨a, b, h1, h2, h3⟩ := h; ⟨a, b, sqT_rem hr h1, sqT_rem hr h2, sqT_rem hr h3⟩
theorem rowLine_cat (f r : Nat) : ("cell " : Str) ++ numT f ++ " " ++ numT r = rowLine f r := ext_tl (by
  unfold rowLine
  rw [tl_app, tl_app, tl_app, tl_app, tl_app, tl_app, tl_app]
  rfl)
abbrev s_law : Stmt := top 51
theorem sc_law : FnScope ["script", "row", "machine", "text", "rows", "at", "place", "told", "cases", "due", "program", "bent", "case", "cells", "fade", "own", "one", "part"] ["script"] (defScope s_law) := ⟨rfl, rfl, rfl, by decide +kernel, rfl, by decide +kernel, by decide +kernel⟩
--TY law {'row':L,'machine':('tuple',('tuple','int')),'cells':'int','text':'str','rows':('list','str'),'bent':'str','at':'int','place':'int','told':'any','cases':L,'case':'str','due':('tuple','int'),'program':('tuple',('tuple','any')),'fade':'int','own':'int','one':('tuple','any'),'part':'any','@over':{'en':'(envOfC "law" (defScope s_law) s0.heap.objs.size f (.ref c))','handed':{'_law_said':{'k':5,'t':'hm_said kpg lkg hcg b_said sc_law_said rfl (.inl rfl) (said_gives T_BadLine B_BadString)'}}}}
theorem ok_lawT {f f1 f2 f3 f4 f5 f6 f7 f8 f9 fA fB fC c Pt CBS CBL fI cc cda g : Addr} {fd1 fd2 fd3 fd4 fd5 fd6 fd7 fd8 fd9 fdA fdB fdC fdg : FuncData} {oc : Value} {od an : Option Addr} {osl : Array (Option Value)} {kV dc pm ct : Value}
    (lk : K.lookup f = some ⟨oc, od, .func (PySem.W.fnOf "law" "law" (defArgs s_law) (defBody s_law) (defScope s_law) .none kV dc pm an (.ref c) ct), osl⟩) (hcd0 : PySem.W.codeIn K (.ref c) "law" = true) (TB : TabB base mg c Pt) (T : Txt K mg) (nbsl : PySem.W.exmOne K (.ref CBS) (.ref CBL) = some false)
    (T_BadLine : NS_BadLine.Ty P K mg CBL fI cc cda) (B_BadString : BaseE K mg "BadString" CBS) (F_said : Fun K "_law_said" "_law_said" s_law_said g fdg) (hm_said : mg "_law_said" = some (.ref g)) (b_said : L2.Binds K fdg ["work"] [])
    (C_law_taken : Cal P w K mg base CX0 1 "_law_taken" f1 fd1 ["row", "many"] (spTak K))
    (C_law_pick : Cal P w K mg base CX0 2 "_law_pick" f2 fd2 ["row", "things"] (spPick K))
    (C_law_machine : Cal P w K mg base CX0 2 "_law_machine" f3 fd3 ["row", "most", "fade"] (spLMa K))
    (C_law_alike : Cal P w K mg base CX0 3 "_law_alike" f4 fd4 ["found", "due"] (spAlikeD K 2))
    (C_law_program : Cal P w K mg base CX0 3 "_law_program" f5 fd5 ["row", "cells", "most"] (spProg K))
    (C_law_kept : Cal P w K mg base CX0 2 "_law_kept" f6 fd6 ["row", "program", "cells"] (spLKe K))
    (C_law_loose : Cal P w K mg base CX0 2 "_law_loose" f7 fd7 ["row", "text"] (spLoose K))
    (C_law_bent : Cal P w K mg base CX0 3 "_law_bent" f8 fd8 ["row", "text", "words"] (spBent K))
    (C_write_machine : Cal P w K mg base CX0 5 "write_machine" f9 fd9 ["machine"] (spWm K))
    (C_write_program : Cal P w K mg base CX0 5 "write_program" fA fdA ["cells", "program"] (spWp K))
    (C_read_machine : Cal P w K mg base CX0 4 "read_machine" fB fdB ["text"] (fun vs H Q _ => spRm K CBL vs H Q fun _ _ _ => False))
    (C_read_program : Cal P w K mg base CX0 5 "read_program" fC fdC ["cells", "text"] (fun vs H Q _ => spRp K CBL vs H Q fun _ _ _ => False))
    (C_read_machineX : Cal P w K mg base (L2.CX P w) 4 "read_machine" fB fdB ["text"] (fun vs H Q E => spRm K CBL vs H Q E ∨ spRmS CBS vs H Q E))
    (C_read_programX : Cal P w K mg base (L2.CX P w) 5 "read_program" fC fdC ["cells", "text"] (fun vs H Q E => spRp K CBL vs H Q E ∨ spRpS CBS vs H Q E)) :
    FnOk P w K mg base CX0 8 f (PySem.W.fnOf "law" "law" (defArgs s_law) (defBody s_law) (defScope s_law) .none kV dc pm an (.ref c) ct) ["script"] (spLawT K Pt) := by
  refine fn_of lk hcd0 sc_law (fun vs H Q E h => ?_) (fun A outer s0 H vs Q E hr h => ?_)
  · obtain ⟨_, _, rfl, _⟩ := h
    rfl
  · obtain ⟨s, ns, rfl, hs, hP, k⟩ := h
    obtain ⟨⟨ocg, odg, kVg, docg, pmg, ang, cdvg, ctg, oslg, rfl, lkg, hcg⟩, kpg⟩ := F_said
    have hcd : (envOfC "law" (defScope s_law) s0.heap.objs.size f (.ref c)).code = .ref c := rfl
    obtain ⟨TT, hTT⟩ : ∃ TT : List (Addr × Str), TT = [(Pt, (envOfC "law" (defScope s_law) s0.heap.objs.size f (.ref c)).qual ++ "<lambda>")] := ⟨_, rfl⟩
    have hTm : (Pt, (envOfC "law" (defScope s_law) s0.heap.objs.size f (.ref c)).qual ++ "<lambda>") ∈ TT := by rw [hTT]; exact List.mem_singleton.mpr rfl
    have hTu : ∀ p ∈ TT, p.1 = Pt → p.2 = (envOfC "law" (defScope s_law) s0.heap.objs.size f (.ref c)).qual ++ "<lambda>" := fun p hp _ => by rw [hTT] at hp; rw [List.mem_singleton.mp hp]
    refine ⟨_, PSs.nox (pss_cons (ps_set (i := 1) sc_law.nd rfl (Or.inl rfl) (pe_lst (pa_cons (pv 0) (pa_cons pe_int (pa_cons pe_int (pa_cons pe_int pa_nil))))))
  (pss_cons (ps_set (i := 2) sc_law.nd rfl (Or.inl rfl) (pe_call C_law_machine.G (hr.mono (by first | decide | omega)) rfl C_law_machine.g C_law_machine.kp C_law_machine.b .nil pass0 (pa_cons (pv 1) (pa_cons pe_int (pa_cons pe_int pa_nil)))))
  (pss_cons (ps_asg (pe_tup (pa_cons (pe_callB (len_K (K := K) rfl) (by rfl) T.z_len (by decide +kernel) (pa_cons (pe_ix (ix_K (K := K) rfl) (pv 2) pe_int (fun _ _ => rfl)) pa_nil)) (pa_cons (pe_call C_write_machine.G (hr.mono (by first | decide | omega)) rfl C_write_machine.g C_write_machine.kp C_write_machine.b .nil pass0 (pa_cons (pv 2) pa_nil)) pa_nil))) (pg_tup rfl (pgs_cons (pg_name (i := 13) sc_law.nd rfl (by first | exact Or.inl rfl | exact Or.inr rfl)) (pgs_cons (pg_name (i := 3) sc_law.nd rfl (by first | exact Or.inl rfl | exact Or.inr rfl)) pgs_nil))))
  (pss_cons (ps_setLc (i := 4) (own := [("fade", 14), ("own", 15)]) (g := gTup K 2 (gCons (gName 14) (gCons (gName 15) gNil))) rfl sc_law.nd rfl rfl (sw_true rfl rfl rfl (by decide +kernel)) (pi_zipA (by rfl) T.z_zip (pa_cons (pe_ix (ix_K (K := K) rfl) (pv 2) pe_int (fun _ _ => rfl)) (pa_cons (pe_ix (ix_K (K := K) rfl) (pv 2) pe_int (fun _ _ => rfl)) pa_nil))) (blkOk_by (by kernel_rfl)) (fun _ _ _ _ _ => pg_tupK (K := K) rfl rfl (pgs_cons (pg_name (i := 14) sc_law.nd rfl (by first | exact Or.inl rfl | exact Or.inr rfl)) (pgs_cons (pg_name (i := 15) sc_law.nd rfl (by first | exact Or.inl rfl | exact Or.inr rfl)) pgs_nil))) (fun _ _ _ _ _ => pts_nil) (fun _ _ _ _ _ => (pe_op op_add_str (pe_op op_add_str (pe_op op_add_str pe_str (pe_callTy call_str_int (by rfl) T.z_str (by decide +kernel) (pa_cons (pv 14) pa_nil))) pe_str) (pe_callTy call_str_int (by rfl) T.z_str (by decide +kernel) (pa_cons (pv 15) pa_nil)))))
  (pss_cons (ps_if (PW.pt (pw_or (pt_cmpR op_ne (pv 3) (pe_bmK (K := K) rfl PySem.F.plainAttrs_str PySem.F.slot_str_join PySem.F.type_str_join (mt_joinK (K := K) rfl) pe_str (pa_cons (pv 4) pa_nil)) (nomark _)) (pw_or1 (pt_not (pt_val (pe_call C_law_alike.G (hr.mono (by first | decide | omega)) rfl C_law_alike.g C_law_alike.kp C_law_alike.b .nil pass0 (pa_cons (pe_call C_read_machine.G (hr.mono (by first | decide | omega)) rfl C_read_machine.g C_read_machine.kp C_read_machine.b .nil pass0 (pa_cons (pe_call C_law_loose.G (hr.mono (by first | decide | omega)) rfl C_law_loose.g C_law_loose.kp C_law_loose.b .nil pass0 (pa_cons (pv 1) (pa_cons (pv 3) pa_nil))) pa_nil)) (pa_cons (pv 2) pa_nil)))))))) (pss_one (ps_ret pe_bl)) pss_nil)
  (pss_cons (ps_asg (pe_call C_law_bent.G (hr.mono (by first | decide | omega)) rfl C_law_bent.g C_law_bent.kp C_law_bent.b .nil pass0 (pa_cons (pv 1) (pa_cons (pv 3) (pa_cons (pe_lst (pa_cons pe_str (pa_cons pe_str (pa_cons pe_str (pa_cons pe_str (pa_cons pe_str (pa_cons pe_str (pa_cons pe_str (pa_cons pe_str pa_nil))))))))) pa_nil)))) (pg_tup rfl (pgs_cons (pg_name (i := 11) sc_law.nd rfl (by first | exact Or.inl rfl | exact Or.inr rfl)) (pgs_cons (pg_name (i := 5) sc_law.nd rfl (by first | exact Or.inl rfl | exact Or.inr rfl)) (pgs_cons (pg_name (i := 6) sc_law.nd rfl (by first | exact Or.inl rfl | exact Or.inr rfl)) pgs_nil)))))
  (pss_cons (ps_set (i := 7) sc_law.nd rfl (Or.inl rfl) (pe_handed (k := 5) (ps := []) (en := (envOfC "law" (defScope s_law) s0.heap.objs.size f (.ref c))) (ar := { posonlyargs := [], args := [], vararg := none, kwonlyargs := [], kw_defaults := [], kwarg := none, defaults := [] : PySem.Arguments }) (bd := (PySem.Expr.Call (func := (PySem.Expr.Name "read_machine" ⟨242, 29, 242, 41⟩)) (args := [(PySem.Expr.Name "bent" ⟨242, 42, 242, 46⟩)]) (keywords := []) (pos := ⟨242, 29, 242, 47⟩))) (sc := { kind := PySem.ScopeKind.function, names := [((PySem.Str.ofString "bent"), PySem.NameKind.free), ((PySem.Str.ofString "read_machine"), PySem.NameKind.globalImplicit)], isGenerator := false, isCoroutine := false, more := [] : PySem.Scope }) rfl (pe_lam0 (T := TT) TB hcd hTm hTu (lamP_by (N := ["script", "row", "machine", "text", "rows", "at", "place", "told", "cases", "due", "program", "bent", "case", "cells", "fade", "own", "one", "part"]) (ps := []) (by kernel_rfl)) rfl) rfl hm_said kpg lkg hcg b_said sc_law_said rfl (.inl rfl) (said_gives T_BadLine B_BadString) (hr.mono (by first | decide | omega)) (lamP_by (by kernel_rfl)) ⟨(fun dV doc pm cv ct _ z => by subst z; rfl), (fun _ _ _ _ _ _ z => nomatch z)⟩ (fun A outer s H E f cd hr2 => (pe_callS C_read_machineX.G (hr2.mono (by first | decide | omega)) rfl C_read_machineX.g C_read_machineX.kp C_read_machineX.b (fun σ => passAt (takes_of rfl rfl rfl rfl) σ) (pa_cons (pe_var (i := 11) rfl (.inr (.inr rfl))) pa_nil)))))
  (pss_cons (ps_if (PW.pt (pw_or (PW.pt (pw_and (pt_cmpR op_isN (pv 7) pe_non (nomark _)) (pw_and1 (pt_cmpR op_ne (pe_call C_write_machine.G (hr.mono (by first | decide | omega)) rfl C_write_machine.g C_write_machine.kp C_write_machine.b .nil pass0 (pa_cons (pe_call C_read_machine.G (hr.mono (by first | decide | omega)) rfl C_read_machine.g C_read_machine.kp C_read_machine.b .nil pass0 (pa_cons (pv 11) pa_nil)) pa_nil)) (pv 11) (nomark _))))) (pw_or1 (PW.pt (pw_and (pt_cmpR op_notN (pv 7) pe_non (nomark _)) (pw_and1 (pt_cmpR (ltT_K (K := K) rfl hr.units) (pv 7) (pe_tup (pa_cons (pv 5) (pa_cons (pv 6) pa_nil))) (nomark _)))))))) (pss_one (ps_ret pe_bl)) pss_nil)
  (pss_cons (ps_set (i := 8) sc_law.nd rfl (Or.inl rfl) (pe_lst (pa_cons (pe_tup (pa_cons pe_str (pa_cons (pe_tup (pa_cons pe_int (pa_cons pe_int pa_nil))) pa_nil))) (pa_cons (pe_tup (pa_cons pe_str (pa_cons (pe_tup (pa_cons pe_int (pa_cons pe_int pa_nil))) pa_nil))) (pa_cons (pe_tup (pa_cons pe_str (pa_cons (pe_tup (pa_cons pe_int (pa_cons pe_int pa_nil))) pa_nil))) (pa_cons (pe_tup (pa_cons pe_str (pa_cons (pe_tup (pa_cons pe_int (pa_cons pe_int pa_nil))) pa_nil))) (pa_cons (pe_tup (pa_cons pe_str (pa_cons (pe_tup (pa_cons pe_int (pa_cons pe_int pa_nil))) pa_nil))) pa_nil)))))))
  (pss_cons (ps_set (i := 8) sc_law.nd rfl (Or.inl rfl) (pe_op op_cat (pv 8) (pe_lst (pa_cons (pe_tup (pa_cons pe_str (pa_cons (pe_tup (pa_cons pe_int (pa_cons pe_int pa_nil))) pa_nil))) (pa_cons (pe_tup (pa_cons pe_str (pa_cons (pe_tup (pa_cons pe_int (pa_cons pe_int pa_nil))) pa_nil))) (pa_cons (pe_tup (pa_cons pe_str (pa_cons (pe_tup (pa_cons pe_int (pa_cons pe_int pa_nil))) pa_nil))) pa_nil))))))
  (pss_cons (ps_expr (pe_bm PySem.F.plainAttrs_list PySem.F.slot_list_append PySem.F.type_list_append mt_append (pv 8) (pa_cons (pe_tup (pa_cons (pe_bmK (K := K) rfl PySem.F.plainAttrs_str PySem.F.slot_str_join PySem.F.type_str_join (mt_joinK (K := K) rfl) pe_str (pa_cons (pe_op op_rep (pe_lst (pa_cons pe_str pa_nil)) pe_int) pa_nil)) (pa_cons (pe_tup (pa_cons pe_int (pa_cons pe_int pa_nil))) pa_nil))) pa_nil)))
  (pss_cons (ps_asg (pe_call C_law_pick.G (hr.mono (by first | decide | omega)) rfl C_law_pick.g C_law_pick.kp C_law_pick.b .nil pass0 (pa_cons (pv 1) (pa_cons (pv 8) pa_nil))) (pg_tup rfl (pgs_cons (pg_name (i := 12) sc_law.nd rfl (by first | exact Or.inl rfl | exact Or.inr rfl)) (pgs_cons (pg_name (i := 9) sc_law.nd rfl (by first | exact Or.inl rfl | exact Or.inr rfl)) pgs_nil))))
  (pss_cons (ps_if (PW.pt (pw_or (pt_cmpR (neD_K (K := K) rfl hr.units) (pe_handed (k := 5) (ps := ["a"]) (en := (envOfC "law" (defScope s_law) s0.heap.objs.size f (.ref c))) (ar := { posonlyargs := [], args := [{ arg := "a", annotation := none, pos := ⟨249, 24, 249, 25⟩ : PySem.Arg }], vararg := none, kwonlyargs := [], kw_defaults := [], kwarg := none, defaults := [(PySem.Expr.Constant (PySem.Const.int 0) 0 ⟨249, 26, 249, 27⟩)] : PySem.Arguments }) (bd := (PySem.Expr.Call (func := (PySem.Expr.Name "read_machine" ⟨249, 29, 249, 41⟩)) (args := [(PySem.Expr.Name "case" ⟨249, 42, 249, 46⟩)]) (keywords := []) (pos := ⟨249, 29, 249, 47⟩))) (sc := { kind := PySem.ScopeKind.function, names := [((PySem.Str.ofString "a"), PySem.NameKind.local), ((PySem.Str.ofString "case"), PySem.NameKind.free), ((PySem.Str.ofString "read_machine"), PySem.NameKind.globalImplicit)], isGenerator := false, isCoroutine := false, more := [] : PySem.Scope }) rfl (pe_lam1 (T := TT) TB hcd hTm hTu (lamP_by (N := ["script", "row", "machine", "text", "rows", "at", "place", "told", "cases", "due", "program", "bent", "case", "cells", "fade", "own", "one", "part"]) (ps := ["a"]) (by kernel_rfl)) rfl rfl) rfl hm_said kpg lkg hcg b_said sc_law_said rfl (.inl rfl) (said_gives T_BadLine B_BadString) (hr.mono (by first | decide | omega)) (lamP_by (by kernel_rfl)) ⟨(fun _ _ _ _ _ z _ => nomatch z), (fun dV doc pm cv ct x z => by cases z; exact ⟨_, rfl, fun u => rfl⟩)⟩ (fun A outer s H E f cd hr2 => (pe_callS C_read_machineX.G (hr2.mono (by first | decide | omega)) rfl C_read_machineX.g C_read_machineX.kp C_read_machineX.b (fun σ => passAt (takes_of rfl rfl rfl rfl) σ) (pa_cons (pe_var (i := 12) rfl (.inr (.inr rfl))) pa_nil)))) (pv 9) (nomark _)) (pw_or1 (pt_cmpR (neD_K (K := K) rfl hr.units) (pe_handed (k := 5) (ps := ["b"]) (en := (envOfC "law" (defScope s_law) s0.heap.objs.size f (.ref c))) (ar := { posonlyargs := [], args := [{ arg := "b", annotation := none, pos := ⟨249, 76, 249, 77⟩ : PySem.Arg }], vararg := none, kwonlyargs := [], kw_defaults := [], kwarg := none, defaults := [(PySem.Expr.Constant (PySem.Const.int 0) 0 ⟨249, 78, 249, 79⟩)] : PySem.Arguments }) (bd := (PySem.Expr.Call (func := (PySem.Expr.Name "read_machine" ⟨249, 81, 249, 93⟩)) (args := [(PySem.Expr.Constant (PySem.Const.int 7) 0 ⟨249, 94, 249, 95⟩)]) (keywords := []) (pos := ⟨249, 81, 249, 96⟩))) (sc := { kind := PySem.ScopeKind.function, names := [((PySem.Str.ofString "b"), PySem.NameKind.local), ((PySem.Str.ofString "read_machine"), PySem.NameKind.globalImplicit)], isGenerator := false, isCoroutine := false, more := [] : PySem.Scope }) rfl (pe_lam1 (T := TT) TB hcd hTm hTu (lamP_by (N := ["script", "row", "machine", "text", "rows", "at", "place", "told", "cases", "due", "program", "bent", "case", "cells", "fade", "own", "one", "part"]) (ps := ["b"]) (by kernel_rfl)) rfl rfl) rfl hm_said kpg lkg hcg b_said sc_law_said rfl (.inl rfl) (said_gives T_BadLine B_BadString) (hr.mono (by first | decide | omega)) (lamP_by (by kernel_rfl)) ⟨(fun _ _ _ _ _ z _ => nomatch z), (fun dV doc pm cv ct x z => by cases z; exact ⟨_, rfl, fun u => rfl⟩)⟩ (fun A outer s H E f cd hr2 => (pe_callS C_read_machineX.G (hr2.mono (by first | decide | omega)) rfl C_read_machineX.g C_read_machineX.kp C_read_machineX.b (fun σ => passAt (takes_of rfl rfl rfl rfl) σ) (pa_cons pe_int pa_nil)))) pe_str (nomark _))))) (pss_one (ps_ret pe_bl)) pss_nil)
  (pss_cons (ps_set (i := 10) sc_law.nd rfl (Or.inl rfl) (pe_call C_law_kept.G (hr.mono (by first | decide | omega)) rfl C_law_kept.g C_law_kept.kp C_law_kept.b .nil pass0 (pa_cons (pv 1) (pa_cons (pe_call C_law_program.G (hr.mono (by first | decide | omega)) rfl C_law_program.g C_law_program.kp C_law_program.b .nil pass0 (pa_cons (pv 1) (pa_cons (pv 13) (pa_cons pe_int pa_nil)))) (pa_cons (pv 13) pa_nil)))))
  (pss_cons (ps_set (i := 3) sc_law.nd rfl (Or.inl rfl) (pe_call C_write_program.G (hr.mono (by first | decide | omega)) rfl C_write_program.g C_write_program.kp C_write_program.b .nil pass0 (pa_cons (pv 13) (pa_cons (pv 10) pa_nil))))
  (pss_cons (ps_if (pt_cmpR op_ne (pv 3) (pe_bmK (K := K) rfl PySem.F.plainAttrs_str PySem.F.slot_str_join PySem.F.type_str_join (mt_joinK (K := K) rfl) pe_str (pa_cons (pe_lc (own := [("one", 16)]) (g := gName 16) rfl sc_law.nd (pi_tupK (K := K) rfl (pv 10)) (blkOk_by (by kernel_rfl)) (fun _ _ _ _ _ => pg_name (i := 16) sc_law.nd rfl (by first | exact Or.inl rfl | exact Or.inr rfl)) (fun _ _ _ _ _ => pts_nil) (fun _ _ _ _ _ => (pe_bmK (K := K) rfl PySem.F.plainAttrs_str PySem.F.slot_str_join PySem.F.type_str_join (mt_joinK (K := K) rfl) pe_str (pa_cons (pe_lc (own := [("part", 17)]) (g := gName 17) rfl sc_law.nd (pi_tupK (K := K) rfl (pv 16)) (blkOk_by (by kernel_rfl)) (fun _ _ _ _ _ => pg_name (i := 17) sc_law.nd rfl (by first | exact Or.inl rfl | exact Or.inr rfl)) (fun _ _ _ _ _ => pts_nil) (fun _ _ _ _ _ => (pe_callTy call_strA (by rfl) T.z_str (by decide +kernel) (pa_cons (pv 17) pa_nil)))) pa_nil)))) pa_nil)) (nomark _)) (pss_one (ps_ret pe_bl)) pss_nil)
  (pss_cons (ps_if (pt_not (pt_val (pe_call C_law_alike.G (hr.mono (by first | decide | omega)) rfl C_law_alike.g C_law_alike.kp C_law_alike.b .nil pass0 (pa_cons (pe_call C_read_program.G (hr.mono (by first | decide | omega)) rfl C_read_program.g C_read_program.kp C_read_program.b .nil pass0 (pa_cons (pv 13) (pa_cons (pe_call C_law_loose.G (hr.mono (by first | decide | omega)) rfl C_law_loose.g C_law_loose.kp C_law_loose.b .nil pass0 (pa_cons (pv 1) (pa_cons (pv 3) pa_nil))) pa_nil))) (pa_cons (pv 10) pa_nil))))) (pss_one (ps_ret pe_bl)) pss_nil)
  (pss_cons (ps_asg (pe_call C_law_bent.G (hr.mono (by first | decide | omega)) rfl C_law_bent.g C_law_bent.kp C_law_bent.b .nil pass0 (pa_cons (pv 1) (pa_cons (pv 3) (pa_cons (pe_lst (pa_cons pe_str (pa_cons pe_str (pa_cons pe_str (pa_cons pe_str (pa_cons pe_str (pa_cons pe_str (pa_cons pe_str (pa_cons pe_str (pa_cons pe_str (pa_cons pe_str pa_nil))))))))))) pa_nil)))) (pg_tup rfl (pgs_cons (pg_name (i := 11) sc_law.nd rfl (by first | exact Or.inl rfl | exact Or.inr rfl)) (pgs_cons (pg_name (i := 5) sc_law.nd rfl (by first | exact Or.inl rfl | exact Or.inr rfl)) (pgs_cons (pg_name (i := 6) sc_law.nd rfl (by first | exact Or.inl rfl | exact Or.inr rfl)) pgs_nil)))))
  (pss_cons (ps_set (i := 7) sc_law.nd rfl (Or.inl rfl) (pe_handed (k := 5) (ps := ["c"]) (en := (envOfC "law" (defScope s_law) s0.heap.objs.size f (.ref c))) (ar := { posonlyargs := [], args := [{ arg := "c", annotation := none, pos := ⟨258, 28, 258, 29⟩ : PySem.Arg }], vararg := none, kwonlyargs := [], kw_defaults := [], kwarg := none, defaults := [(PySem.Expr.Constant (PySem.Const.int 0) 0 ⟨258, 30, 258, 31⟩)] : PySem.Arguments }) (bd := (PySem.Expr.Call (func := (PySem.Expr.Name "read_program" ⟨258, 33, 258, 45⟩)) (args := [(PySem.Expr.Name "cells" ⟨258, 46, 258, 51⟩), (PySem.Expr.Name "bent" ⟨258, 53, 258, 57⟩)]) (keywords := []) (pos := ⟨258, 33, 258, 58⟩))) (sc := { kind := PySem.ScopeKind.function, names := [((PySem.Str.ofString "c"), PySem.NameKind.local), ((PySem.Str.ofString "bent"), PySem.NameKind.free), ((PySem.Str.ofString "cells"), PySem.NameKind.free), ((PySem.Str.ofString "read_program"), PySem.NameKind.globalImplicit)], isGenerator := false, isCoroutine := false, more := [] : PySem.Scope }) rfl (pe_lam1 (T := TT) TB hcd hTm hTu (lamP_by (N := ["script", "row", "machine", "text", "rows", "at", "place", "told", "cases", "due", "program", "bent", "case", "cells", "fade", "own", "one", "part"]) (ps := ["c"]) (by kernel_rfl)) rfl rfl) rfl hm_said kpg lkg hcg b_said sc_law_said rfl (.inl rfl) (said_gives T_BadLine B_BadString) (hr.mono (by first | decide | omega)) (lamP_by (by kernel_rfl)) ⟨(fun _ _ _ _ _ z _ => nomatch z), (fun dV doc pm cv ct x z => by cases z; exact ⟨_, rfl, fun u => rfl⟩)⟩ (fun A outer s H E f cd hr2 => (pe_callS C_read_programX.G (hr2.mono (by first | decide | omega)) rfl C_read_programX.g C_read_programX.kp C_read_programX.b (fun σ => passAt (takes_of rfl rfl rfl rfl) σ) (pa_cons (pe_var (i := 13) rfl (.inr (.inr rfl))) (pa_cons (pe_var (i := 11) rfl (.inr (.inr rfl))) pa_nil))))))
  (pss_cons (ps_if (PW.pt (pw_and (pt_cmpR op_isN (pv 7) pe_non (nomark _)) (pw_and1 (pt_cmpR op_ne (pe_call C_write_program.G (hr.mono (by first | decide | omega)) rfl C_write_program.g C_write_program.kp C_write_program.b .nil pass0 (pa_cons (pv 13) (pa_cons (pe_call C_read_program.G (hr.mono (by first | decide | omega)) rfl C_read_program.g C_read_program.kp C_read_program.b .nil pass0 (pa_cons (pv 13) (pa_cons (pv 11) pa_nil))) pa_nil))) (pv 11) (nomark _))))) (pss_one (ps_ret pe_bl)) pss_nil)
  (pss_cons (ps_if (PW.pt (pw_and (pt_cmpR op_notN (pv 7) pe_non (nomark _)) (pw_and1 (pt_cmpR op_ne (pe_ix (ix_K (K := K) rfl) (pv 7) pe_int (fun _ _ => rfl)) (pv 5) (nomark _))))) (pss_one (ps_ret pe_bl)) pss_nil)
  (pss_cons (ps_set (i := 8) sc_law.nd rfl (Or.inl rfl) (pe_lst (pa_cons (pe_tup (pa_cons pe_str (pa_cons (pe_tup (pa_cons pe_int (pa_cons pe_int pa_nil))) pa_nil))) (pa_cons (pe_tup (pa_cons pe_str (pa_cons (pe_tup (pa_cons pe_int (pa_cons pe_int pa_nil))) pa_nil))) (pa_cons (pe_tup (pa_cons pe_str (pa_cons (pe_tup (pa_cons pe_int (pa_cons pe_int pa_nil))) pa_nil))) (pa_cons (pe_tup (pa_cons pe_str (pa_cons (pe_tup (pa_cons pe_int (pa_cons pe_int pa_nil))) pa_nil))) (pa_cons (pe_tup (pa_cons pe_str (pa_cons (pe_tup (pa_cons pe_int (pa_cons pe_int pa_nil))) pa_nil))) pa_nil)))))))
  (pss_cons (ps_expr (pe_bm PySem.F.plainAttrs_list PySem.F.slot_list_append PySem.F.type_list_append mt_append (pv 8) (pa_cons (pe_tup (pa_cons pe_str (pa_cons (pe_tup (pa_cons pe_int (pa_cons pe_int pa_nil))) pa_nil))) pa_nil)))
  (pss_cons (ps_set (i := 8) sc_law.nd rfl (Or.inl rfl) (pe_op op_cat (pv 8) (pe_lst (pa_cons (pe_tup (pa_cons pe_str (pa_cons (pe_tup (pa_cons pe_int (pa_cons pe_int pa_nil))) pa_nil))) (pa_cons (pe_tup (pa_cons pe_str (pa_cons (pe_tup (pa_cons pe_int (pa_cons pe_int pa_nil))) pa_nil))) (pa_cons (pe_tup (pa_cons pe_str (pa_cons (pe_tup (pa_cons pe_int (pa_cons pe_int pa_nil))) pa_nil))) (pa_cons (pe_tup (pa_cons pe_str (pa_cons (pe_tup (pa_cons pe_int (pa_cons pe_int pa_nil))) pa_nil))) pa_nil)))))))
  (pss_cons (ps_set (i := 8) sc_law.nd rfl (Or.inl rfl) (pe_op op_cat (pv 8) (pe_lst (pa_cons (pe_tup (pa_cons pe_str (pa_cons (pe_tup (pa_cons pe_int (pa_cons pe_int pa_nil))) pa_nil))) (pa_cons (pe_tup (pa_cons pe_str (pa_cons (pe_tup (pa_cons pe_int (pa_cons pe_int pa_nil))) pa_nil))) pa_nil)))))
  (pss_cons (ps_asg (pe_call C_law_pick.G (hr.mono (by first | decide | omega)) rfl C_law_pick.g C_law_pick.kp C_law_pick.b .nil pass0 (pa_cons (pv 1) (pa_cons (pv 8) pa_nil))) (pg_tup rfl (pgs_cons (pg_name (i := 12) sc_law.nd rfl (by first | exact Or.inl rfl | exact Or.inr rfl)) (pgs_cons (pg_name (i := 9) sc_law.nd rfl (by first | exact Or.inl rfl | exact Or.inr rfl)) pgs_nil))))
  (pss_cons (ps_if (pt_cmpR (neD_K (K := K) rfl hr.units) (pe_handed (k := 5) (ps := ["d"]) (en := (envOfC "law" (defScope s_law) s0.heap.objs.size f (.ref c))) (ar := { posonlyargs := [], args := [{ arg := "d", annotation := none, pos := ⟨268, 24, 268, 25⟩ : PySem.Arg }], vararg := none, kwonlyargs := [], kw_defaults := [], kwarg := none, defaults := [(PySem.Expr.Constant (PySem.Const.int 0) 0 ⟨268, 26, 268, 27⟩)] : PySem.Arguments }) (bd := (PySem.Expr.Call (func := (PySem.Expr.Name "read_program" ⟨268, 29, 268, 41⟩)) (args := [(PySem.Expr.Name "cells" ⟨268, 42, 268, 47⟩), (PySem.Expr.Name "case" ⟨268, 49, 268, 53⟩)]) (keywords := []) (pos := ⟨268, 29, 268, 54⟩))) (sc := { kind := PySem.ScopeKind.function, names := [((PySem.Str.ofString "d"), PySem.NameKind.local), ((PySem.Str.ofString "case"), PySem.NameKind.free), ((PySem.Str.ofString "cells"), PySem.NameKind.free), ((PySem.Str.ofString "read_program"), PySem.NameKind.globalImplicit)], isGenerator := false, isCoroutine := false, more := [] : PySem.Scope }) rfl (pe_lam1 (T := TT) TB hcd hTm hTu (lamP_by (N := ["script", "row", "machine", "text", "rows", "at", "place", "told", "cases", "due", "program", "bent", "case", "cells", "fade", "own", "one", "part"]) (ps := ["d"]) (by kernel_rfl)) rfl rfl) rfl hm_said kpg lkg hcg b_said sc_law_said rfl (.inl rfl) (said_gives T_BadLine B_BadString) (hr.mono (by first | decide | omega)) (lamP_by (by kernel_rfl)) ⟨(fun _ _ _ _ _ z _ => nomatch z), (fun dV doc pm cv ct x z => by cases z; exact ⟨_, rfl, fun u => rfl⟩)⟩ (fun A outer s H E f cd hr2 => (pe_callS C_read_programX.G (hr2.mono (by first | decide | omega)) rfl C_read_programX.g C_read_programX.kp C_read_programX.b (fun σ => passAt (takes_of rfl rfl rfl rfl) σ) (pa_cons (pe_var (i := 13) rfl (.inr (.inr rfl))) (pa_cons (pe_var (i := 12) rfl (.inr (.inr rfl))) pa_nil))))) (pv 9) (nomark _)) (pss_one (ps_ret pe_bl)) pss_nil)
  (pss_one (ps_ret (pe_cmpR (eqD_K (K := K) rfl hr.units) (pe_handed (k := 5) (ps := ["f"]) (en := (envOfC "law" (defScope s_law) s0.heap.objs.size f (.ref c))) (ar := { posonlyargs := [], args := [{ arg := "f", annotation := none, pos := ⟨270, 28, 270, 29⟩ : PySem.Arg }], vararg := none, kwonlyargs := [], kw_defaults := [], kwarg := none, defaults := [(PySem.Expr.Constant (PySem.Const.int 0) 0 ⟨270, 30, 270, 31⟩)] : PySem.Arguments }) (bd := (PySem.Expr.Call (func := (PySem.Expr.Name "read_program" ⟨270, 33, 270, 45⟩)) (args := [(PySem.Expr.Name "cells" ⟨270, 46, 270, 51⟩), (PySem.Expr.Constant PySem.Const.none 0 ⟨270, 53, 270, 57⟩)]) (keywords := []) (pos := ⟨270, 33, 270, 58⟩))) (sc := { kind := PySem.ScopeKind.function, names := [((PySem.Str.ofString "f"), PySem.NameKind.local), ((PySem.Str.ofString "cells"), PySem.NameKind.free), ((PySem.Str.ofString "read_program"), PySem.NameKind.globalImplicit)], isGenerator := false, isCoroutine := false, more := [] : PySem.Scope }) rfl (pe_lam1 (T := TT) TB hcd hTm hTu (lamP_by (N := ["script", "row", "machine", "text", "rows", "at", "place", "told", "cases", "due", "program", "bent", "case", "cells", "fade", "own", "one", "part"]) (ps := ["f"]) (by kernel_rfl)) rfl rfl) rfl hm_said kpg lkg hcg b_said sc_law_said rfl (.inl rfl) (said_gives T_BadLine B_BadString) (hr.mono (by first | decide | omega)) (lamP_by (by kernel_rfl)) ⟨(fun _ _ _ _ _ z _ => nomatch z), (fun dV doc pm cv ct x z => by cases z; exact ⟨_, rfl, fun u => rfl⟩)⟩ (fun A outer s H E f cd hr2 => (pe_callS C_read_programX.G (hr2.mono (by first | decide | omega)) rfl C_read_programX.g C_read_programX.kp C_read_programX.b (fun σ => passAt (takes_of rfl rfl rfl rfl) σ) (pa_cons (pe_var (i := 13) rfl (.inr (.inr rfl))) (pa_cons pe_non pa_nil))))) pe_str (nomark _))))))))))))))))))))))))))))))), ?_⟩
    -- row
    refine q_asgL (xs := [.ref s, .int 0, .int 7511, .int 0]) (el_lst (ea_cons (ev_var rfl) (ea_cons ev_c (ea_cons ev_c (ea_cons ev_c ea_nil)))) (by show 4 ≤ 100000; decide)) fun r H1 hr0 e1 hr1 => ?_
    have R1 : RowAt K H1 r s ns := ⟨⟨0, 7511, 0, hr1, Int.le_refl _⟩, ex_l e1 hs⟩
    have hPr : Pt ≠ r := ne_of_none hP hr0
    have P1 : H1 Pt = some (.tbl #[]) := e1 _ _ hP
    clear e1 hs hP
    -- machine
    refine q_callA (ea_cons (ev_var rfl) (ea_cons ev_c (ea_cons ev_c ea_nil))) fun H2 e2 => ?_
    refine ⟨r, s, ns, 4, 8, rfl, R1.up e2, by decide, by decide, by decide, by decide, fun m fs rs H3 hm hok hf3 R3 e3 => ?_⟩
    have P3 : H3 Pt = some (.tbl #[]) := e3 _ _ (by rw [rem_ne hPr]; exact e2 _ _ P1)
    obtain ⟨y3, hy3⟩ := R3.lst
    have hl1 := hok.l1
    have hll := hok.ll
    have hl4 := hok.l4
    -- cells, text
    refine q_tupW ?_
    obtain ⟨fa, ra, hm0, hfa, hra⟩ := id hm
    refine m_consE (x := .int (fs.length : Nat)) (ev_is (ev_lnT (ev_ixT (ev_var rfl) ev_c hm0 rfl) hfa) (by rw [nV_len])) fun H4 e4 => ?_
    refine m_consM ?_
    refine m_callM (ea_cons (ev_var rfl) ea_nil) fun H5 e5 => ?_
    refine ⟨m, fs, rs, rfl, hm.up (e4.trans e5), hok, fun H6 e6 => ?_⟩
    have e36 := (e4.trans e5).trans e6
    refine ⟨by show 2 ≤ sizeLine; rw [sizeLine_eq]; decide, fun pt hpt => ?_⟩
    have e7 := Ex.new (o := .tup [.int (fs.length : Nat), .str (mText fs rs)]) hpt
    have h7 : upd H6 pt (.tup [.int (fs.length : Nat), .str (mText fs rs)]) pt = some (.tup [.int (fs.length : Nat), .str (mText fs rs)]) := upd_same
    generalize upd H6 pt (.tup [.int (fs.length : Nat), .str (mText fs rs)]) = H7 at e7 h7 ⊢
    have e37 := e36.trans e7
    refine ⟨pt, _, rfl, st_of h7, rfl, _, _, rfl, ⟨_, _, rfl, ⟨rfl, ?_⟩⟩⟩
    have hm7 := hm.up e37
    have R7 := R3.up e37
    have P7 := e37 _ _ P3
    clear e37 e7 h7 hpt e36 e6 e5 e4 hy3 P3 R3 e3 e2 P1 R1 hm hm0 hfa hra
    -- rows
    obtain ⟨fa, ra, hm0, hfa, hra⟩ := id hm7
    have hml : (mLines fs rs).length = fs.length := by unfold mLines; rw [List.length_map, List.length_range]
    have hlen : ∀ i, i < fs.length → fs.getD i 0 < 10 ∧ rs.getD i 0 < 10 := fun i hi => by
      have q1 := (hok.f (fs.getD i 0) (by rw [List.getD_eq_getElem?_getD, List.getElem?_eq_getElem hi]; exact List.getElem_mem _)).2
      have q2 := row_lt hok.r (i := i) (r := rs.getD i 0) (by rw [List.getElem?_eq_getElem (by omega), List.getD_eq_getElem?_getD, List.getElem?_eq_getElem (by omega)]; rfl)
      omega
    refine q_asgL (xs := (mLines fs rs).map V.str) ?_ fun rl H8 hrl e8 h8 => ?_
    · have e : (mLines fs rs).map V.str = (List.range (nV fs).length).map fun i => V.str (rowLine (fs.getD i 0) (rs.getD i 0)) := by unfold mLines; rw [List.map_map, nV_len]; rfl
      rw [e]
      refine el_lcZA (ea_cons (ev_ixT (ev_var rfl) ev_c hm0 rfl) (ea_cons (ev_ixT (ev_var rfl) ev_c hm0 rfl) ea_nil)) hfa hra (by rw [nV_len, nV_len]; exact hll) (fun x y => rfl) (by rw [nV_len]; omega) fun i x y H' hx hy e' => ?_
      have hi : i < fs.length := by
        have := (List.getElem?_eq_some_iff.mp hx).1
        rwa [nV_len] at this
      have hx2 : x = .int (fs.getD i 0 : Nat) := by
        unfold nV at hx
        rw [List.getElem?_map, List.getElem?_eq_getElem hi] at hx
        rw [List.getD_eq_getElem?_getD, List.getElem?_eq_getElem hi]
        exact (Option.some.inj hx).symm
      have hy2 : y = .int (rs.getD i 0 : Nat) := by
        unfold nV at hy
        rw [List.getElem?_map, List.getElem?_eq_getElem (by omega)] at hy
        rw [List.getD_eq_getElem?_getD, List.getElem?_eq_getElem (by omega)]
        exact (Option.some.inj hy).symm
      subst hx2
      subst hy2
      obtain ⟨b1, b2⟩ := hlen i hi
      have n1 := numT_len7 (n := fs.getD i 0) (by omega)
      have n2 := numT_len7 (n := rs.getD i 0) (by omega)
      have c1 : ("cell " : Str).length = 5 := by decide +kernel
      have c2 : (" " : Str).length = 1 := by decide +kernel
      rw [← rowLine_cat]
      exact ev_addSW (ev_addSW (ev_addSW ev_c (ev_strW (ev_var rfl) (by omega)) (by rw [sizeLine_eq]; omega)) ev_c (by rw [strLen, sizeLine_eq]; omega)) (ev_strW (ev_var rfl) (by omega)) (by rw [strLen, strLen, sizeLine_eq]; omega)
    have hT := mT_lines hok
    have hml20 : ∀ x ∈ mLines fs rs, x.length ≤ 20 := fun x hx => by
      unfold mLines at hx
      obtain ⟨i, hi, rfl⟩ := List.mem_map.mp hx
      have := hlen i (List.mem_range.mp hi)
      exact rowLine_len (by omega) (by omega)
    have hsum := sum_le (c := 20) ((mLines fs rs).map (·.length)) fun x hx => by
      obtain ⟨y, hy, rfl⟩ := List.mem_map.mp hx
      exact hml20 y hy
    rw [List.length_map, hml] at hsum
    have c10 : ("\n" : Str).length = 1 := by decide +kernel
    have htl : (mText fs rs).length ≤ 100 := by
      have := join_len "\n" (mLines fs rs)
      rw [c10, hml] at this
      show (Txt.join "\n" (mLines fs rs)).length ≤ 100
      omega
    have R8 := R7.up e8
    have P8 := e8 _ _ P7
    have hm8 := hm7.up e8
    clear hm7 R7 P7 hm0 hfa hra
    -- text as it should be, read back
    refine q_orNot ?_ fun H9 e9 => ?_
    · have : false = !decide (V.str (mText fs rs) = V.str (mText fs rs)) := by simp
      rw [this]
      exact et_ne (ev_var rfl) (ev_joinL ev_c (ev_var rfl) (sq_of h8) (by rw [c10, hml]; omega)) rfl
    refine m_consM ?_
    refine m_consM ?_
    refine m_callM (ea_cons (ev_var rfl) (ea_cons (ev_var rfl) ea_nil)) fun H10 e10 => ?_
    have e810 := e9.trans e10
    refine ⟨r, s, ns, mText fs rs, rfl, R8.up e810, by omega, by omega, hT.2, fun gs H11 hgs R11 e11 => ?_⟩
    have hgl := hgs.len
    have hgm := hgs.mem hT.2
    have hgsum := sum_le (c := 600) (gs.map (·.length)) fun x hx => by
      obtain ⟨y, hy, rfl⟩ := List.mem_map.mp hx
      exact hgm y hy
    rw [List.length_map] at hgsum
    have hgj := join_len "\n" gs
    rw [c10] at hgj
    refine ⟨Txt.join "\n" gs, rfl, by omega, ?_⟩
    rw [rdM_loose hok hgs]
    obtain ⟨y8, hy8⟩ := R8.lst
    have hm8r : MaT K (rem H8 r) m fs rs := let ⟨a, b, q1, q2, q3⟩ := hm8; ⟨a, b, sqT_rem hy8 q1, sqT_rem hy8 q2, sqT_rem hy8 q3⟩
    have e811 : Ex (rem H8 r) H11 := Ex.past (rem_ex.trans e810) rem_eq e11
    refine fun m2 H12 e12 hm2 => ?_
    refine m_consE (ev_var rfl) fun H13 e13 => ?_
    have e813 := (e811.trans e12).trans e13
    refine ⟨.ref m2, .ref m, maD fs rs, rfl, dp_ma (hm2.up e13), dp_ma (hm8r.up e813), ad_ma hok, fun H14 e14 => ⟨true, rfl, ?_⟩⟩
    have e814 := e813.trans e14
    have hm14 := hm8r.up e814
    have R14 := ((R11.up e12).up e13).up e14
    have P14 : H14 Pt = some (.tbl #[]) := e814 _ _ (by rw [rem_ne hPr]; exact P8)
    clear e814 e813 e811 e12 e13 e14 e11 R11 hm2 e810 e10 e9 hm8 hm8r R8 P8 hy8 h8 e8 hgs hgl hgm hgsum hgj hrl
    simp only [Bool.not_true, Bool.false_eq_true, if_false]
    -- a word put in the place of another one
    refine nextW ?_
    dsimp only
    refine q_callGW ?_
    refine m_consE (ev_var rfl) fun H15 e15 => ?_
    refine m_consE (ev_var rfl) fun H16 e16 => ?_
    refine m_consELW (xs := wordsM.map V.str) (el_lst (ea_cons ev_c (ea_cons ev_c (ea_cons ev_c (ea_cons ev_c (ea_cons ev_c (ea_cons ev_c (ea_cons ev_c (ea_cons ev_c ea_nil)))))))) (by show 8 ≤ 100000; decide)) fun wl H17 hwl e17 h17 => ?_
    have e1417 := (e15.trans e16).trans e17
    obtain ⟨y16, hy16⟩ := (R14.up (e15.trans e16)).lst
    refine ⟨r, s, wl, ns, mText fs rs, wordsM, rfl, R14.up e1417, by omega, by omega, (fun x hx => Nat.le_trans (hT.2 x hx) (by decide)), sq_of h17, (ne_of_none hy16 hwl).symm, by decide, by decide, fun w h => (wordsM_ok w h).2, fun at' place wd u H18 hat hpl hwd R18 e18 hu => ?_⟩
    refine ⟨u, _, rfl, st_of hu, rfl, _, _, rfl, ⟨_, _, rfl, ⟨_, _, rfl, ⟨rfl, ?_⟩⟩⟩⟩
    obtain ⟨y14, hy14⟩ := R14.lst
    have hm18 : MaT K H18 m fs rs := (mat_remW hy14 hm14).up (Ex.past (rem_ex.trans e1417) rem_eq e18)
    have P18 : H18 Pt = some (.tbl #[]) := e18 _ _ (by rw [rem_ne hPr]; exact e1417 _ _ P14)
    have hb := rdM_bent hok hat hpl (wordsM_ok wd hwd).1
    clear hm14 P14 R14 e1417 e18 e15 e16 e17 h17 hwl hy14 hy16 hu
    generalize hbt : bentS (mText fs rs) at' place wd = bt at hb
    have hbl : bt.length ≤ 40000 := by
      rw [← hbt]
      exact Nat.le_trans (bent_len (by omega) hT.2 hat (words_len.1 _ hwd)) (by decide)
    have T18 : Tabs TT H18 := fun p hp => by
      rw [hTT] at hp
      rw [List.mem_singleton.mp hp]
      exact TabS.nil P18
    refine q_setKW (R := fun z H' => MaT K H' m fs rs ∧ RowAt K H' r s ns ∧ Tabs TT H' ∧ ((z = .non ∧ ∃ fs' rs', rdM bt = .ok (fs', rs')) ∨ ∃ (u : Addr) (l p : Nat), z = .ref u ∧ H' u = some (.tup [.int (l : Nat), .int (p : Nat)]) ∧ rdM bt = .error (l, p))) (fun z H' hR => ?_) fun Q hQ => ?_
    · obtain ⟨hmR, RR, TR, hz⟩ := hR
      clear T18 P18 hm18 R18
      refine sig_eq (σ' := [some (.ref s), some (.ref r), some (.ref m), some (.str (mText fs rs)), some (.ref rl), some (.int ((at' + 1 : Nat) : Int)), some (.int ((place + 1 : Nat) : Int)), some z, none, none, none, some (.str bt), none, some (.int (fs.length : Nat)), none, none, none, none]) rfl ?_
      -- the wrong word is told not ahead of the bent one
      refine q_when (b := false) ?_ (fun z => nomatch z) fun _ H20 e20 => ?_
      · rcases hz with ⟨rfl, fs', rs', hq⟩ | ⟨u, l, p, rfl, hu, hq⟩
        · obtain ⟨hok', htx⟩ := hb.1 _ _ hq
          refine et_or (a := false) (b := false) (et_and (a := true) (b := false) (et_is (et_isN (ev_var rfl)) (decide_eq_true rfl)) fun _ => et_test ?_) fun _ => et_and (a := false) (b := false) (et_is (et_nN (ev_var rfl)) (by rw [decide_eq_true rfl]; rfl)) (fun z => nomatch z)
          refine fun Hx ex Qx kx => ?_
          refine m_opLam ?_
          refine m_callT ?_
          refine m_consM ?_
          refine m_callM (ea_cons (ev_var rfl) ea_nil) fun Ha ea => ⟨bt, rfl, hbl, ?_⟩
          unfold Told
          rw [hq]
          refine fun m' Hb eb hm' => ⟨m', fs', rs', rfl, hm', hok', fun Hc ec => ⟨_, rfl, rfl, ?_⟩⟩
          rw [htx, decide_eq_true rfl]
          exact kx Hc ((ea.trans eb).trans ec)
        · refine et_or (a := false) (b := false) (et_and (a := false) (b := false) (et_is (et_isN (ev_var rfl)) (decide_eq_false fun z => by cases z)) (fun z => nomatch z)) fun _ => et_and (a := true) (b := false) (et_is (et_nN (ev_var rfl)) (by rw [decide_eq_false (fun z => by cases z)]; rfl)) fun _ => et_test ?_
          refine ev_opU (ev_var rfl) (eu_tup (ea_cons (ev_var rfl) (ea_cons (ev_var rfl) ea_nil)) (by show 2 ≤ 100000; decide)) fun t Hx ht ex Hy ey Qx kx => ⟨u, t, [(l : Int), (p : Int)], [((at' + 1 : Nat) : Int), ((place + 1 : Nat) : Int)], rfl, rfl, st_of (ey _ _ (ex _ _ hu)), st_of (ey _ _ ht), ?_⟩
          rw [lex_no (by have := hb.2 l p hq; omega)]
          exact kx Hy (Ex.refl _)
      have hmR := hmR.up e20
      have RR := RR.up e20
      have TR := TR.ext e20
      clear hz hb e20
      -- the cases
      obtain ⟨y20, hy20⟩ := RR.lst
      refine q_caseL (K := K) (cs := [("", 2, 1), ("cell", 1, 2), ("cell 9 0", 1, 2), ("cell 1 1", 1, 3), ("cell 1 0 0", 1, 4)]) (ec_cons (ec_one (a := 2) (b := 1) ev_c) (ec_cons (ec_one (a := 1) (b := 2) ev_c) (ec_cons (ec_one (a := 1) (b := 2) ev_c) (ec_cons (ec_one (a := 1) (b := 3) ev_c) (ec_cons (ec_one (a := 1) (b := 4) ev_c) ec_nil))))) (by decide) fun l1 H21 hl1' e21 L21 => ?_
      refine q_caseCat (l := l1) (ds := [("row 1 0", 1, 1), ("cell 1 0\ncell 1 2", 2, 3), ("cell 1 0\n\ncell", 3, 2)]) rfl L21 (ec_cons (ec_one (a := 1) (b := 1) ev_c) (ec_cons (ec_one (a := 2) (b := 3) ev_c) (ec_cons (ec_one (a := 3) (b := 2) ev_c) ec_nil))) (by decide) fun l2 H22 hl2' e22 L22 => ?_
      have hl2r : l2 ≠ r := (ne_of_none (e21 _ _ hy20) hl2').symm
      have hl20 : H20 l2 = none := fresh_back e21 hl2'
      refine q_caseApp (l := l2) (q := (Txt.join "\n" (List.replicate 5 "cell 1 0"), 5, 1)) rfl L22 (ec_one (a := 5) (b := 1) ?_) (by decide) fun H23 e23 L23 => ?_
      · refine ev_joinN (ys := List.replicate 5 "cell 1 0") ev_c ?_ (by decide +kernel)
        refine el_is (el_rep (k := 5) (el_lst (ea_cons ev_c ea_nil) (by show 1 ≤ 100000; decide)) (fun _ _ => ev_c) (by decide) (by decide)) rfl
      have e2023 : Ex H20 H23 := (ex_to_rem (e21.trans e22) hl20).trans e23
      have hmR := hmR.up e2023
      have RR := RR.up e2023
      have TR := TR.ext e2023
      clear e2023 e23 e22 e21 L22 L21 hl20 hl2' hl1' hy20
      -- one of them
      refine q_casePick (r := r) (l := l2) rfl rfl RR L23 hl2r (by decide) (by decide) rfl fun q u H24 hqm hu RR' e24 => ?_
      obtain ⟨y23, hy23⟩ := RR.lst
      have hmR := (mat_remW hy23 hmR).up e24
      have TR : Tabs TT H24 := (tabs_rem hy23 TR).ext e24
      clear e24 hy23 L23
      have RR := RR'
      clear RR'
      -- the places that are told
      have hqe := casesM_err hqm
      have hql := cases_len.1 q hqm
      refine ⟨TR, fun f1 cd1 t1 doc1 pm1 ct1 H25 e25 T25 hf25 h25 hc25 ht25 => ⟨f1, cd1, .ref t1, doc1, pm1, ct1, rfl, h25, hc25, fun E1 Q1 hQ1 hE1 => ⟨h25, .one rfl ht25, ?_⟩⟩⟩
      have hmR : MaT K H25 m fs rs := let ⟨a, b, q1, q2, q3⟩ := hmR; ⟨a, b, sqT_nW e25 q1, sqT_nW e25 q2, sqT_nW e25 q3⟩
      have RR : RowAt K H25 r s ns := row_nW e25 RR
      have hu := sqT_nW e25 hu
      clear e25 TR
      refine m_callSS (ea_cons (ev_var rfl) ea_nil) fun H26 e26 => .inl ⟨q.1, rfl, by omega, ?_⟩
      unfold Told
      rw [hqe]
      refine fun d H27 e27 hd => hE1 _ _ _ (.inl ⟨rfl, d, _, _, rfl, hd, fun u2 H28 e28 hu2 => ⟨_, rfl, rNeD_same (dp_pair (st_of hu2)) (dp_pair (ex_t ((e26.trans e27).trans e28) hu)) (sh_pair _ _) ⟨_, rfl, ite_f ?_⟩⟩⟩)
      have e2528 := (e26.trans e27).trans e28
      have hmR := hmR.up e2528
      have RR := RR.up e2528
      have TR := T25.ext e2528
      clear e2528 e26 e27 e28 hd hu2 hu h25 hc25 ht25 hf25 T25 hE1 hQ1 hqe hql hqm
      refine ⟨TR, fun f2 cd2 t2 doc2 pm2 ct2 H29 e29 T29 hf29 h29 hc29 ht29 => ⟨f2, cd2, .ref t2, doc2, pm2, ct2, rfl, h29, hc29, fun E1 Q1 hQ1 hE1 => ⟨h29, .one rfl ht29, ?_⟩⟩⟩
      have hmR : MaT K H29 m fs rs := let ⟨a, b, q1, q2, q3⟩ := hmR; ⟨a, b, sqT_nW e29 q1, sqT_nW e29 q2, sqT_nW e29 q3⟩
      have RR : RowAt K H29 r s ns := row_nW e29 RR
      clear e29 TR
      refine m_callSS (ea_cons ev_c ea_nil) fun H30 e30 => .inr ⟨rfl, fun H31 e31 => hE1 _ _ _ (.inr ⟨nbsl, B_BadString.te, fun H32 e32 => m_cc (rNeD_same (K := K) dp_string dp_string sh_string ⟨_, rfl, ite_f ?_⟩)⟩)⟩
      refine nextW ?_
      dsimp only
      have e2932 := (e30.trans e31).trans e32
      have hmR := hmR.up e2932
      have RR := RR.up e2932
      have TR := T29.ext e2932
      clear e2932 e30 e31 e32 h29 hc29 ht29 hf29 T29 hE1 hQ1
      -- a program
      refine q_callGW ?_
      refine m_consE (ev_var rfl) fun H33 e33 => ?_
      refine m_consM ?_
      refine m_callM (ea_cons (ev_var rfl) (ea_cons (ev_var rfl) (ea_cons ev_c ea_nil))) fun H34 e34 => ?_
      have e3134 := e33.trans e34
      refine ⟨r, s, ns, fs.length, 7, rfl, RR.up e3134, by omega, by omega, by decide, by decide, fun b0 p0 H35 hb0 hp0 hok0 hno0 hl0 R35 e35 => ?_⟩
      obtain ⟨y34, hy34⟩ := (RR.up e3134).lst
      have TR := (tabs_rem hy34 (TR.ext e3134)).ext e35
      clear hmR RR e3134 e33 e34 e35 hy34
      refine m_consE (ev_var rfl) fun H36 e36 => ?_
      refine ⟨r, s, b0, ns, p0, fs.length, rfl, R35.up e36, hp0.up e36, hok0, by omega, hl1, hl4, fun pg p H37 hp hpo hpl7 R37 e37 => ?_⟩
      obtain ⟨y36, hy36⟩ := (R35.up e36).lst
      have TR := (tabs_rem hy36 (TR.ext e36)).ext e37
      clear R35 hp0 hb0 hok0 hno0 hl0 e36 e37 hy36
      -- its text
      refine q_callA (ea_cons (ev_var rfl) (ea_cons (ev_var rfl) ea_nil)) fun H38 e38 => ?_
      refine ⟨fs.length, pg, p, rfl, hl1, hl4, hp.up e38, hpo, by omega, fun H39 e39 => ?_⟩
      have hp := hp.up (e38.trans e39)
      have RR := R37.up (e38.trans e39)
      have TR := TR.ext (e38.trans e39)
      clear R37 e38 e39
      have hL := pT_lines hpo (by omega) (by omega)
      have hptl : (pText p).length ≤ 1000 := by
        have h1 := join_len "\n" (nlS (pText p))
        have h2 := sum_le (c := 20) ((nlS (pText p)).map (·.length)) fun x hx => by
          obtain ⟨y, hy, rfl⟩ := List.mem_map.mp hx
          exact hL.2 y hy
        rw [List.length_map, hL.1] at h2
        rw [c10, hL.1] at h1
        have h3 : Txt.join "\n" (nlS (pText p)) = pText p := by
          rw [pText_clean, clean_nl (p_ne hpo) insW_wd]
          rfl
        rw [h3] at h1
        omega
      dsimp only
      refine sig_eq (σ' := [some (.ref s), some (.ref r), some (.ref m), some (.str (pText p)), some (.ref rl), some (.int ((at' + 1 : Nat) : Int)), some (.int ((place + 1 : Nat) : Int)), some z, some (.ref l2), some (.ref u), some (.ref pg), some (.str bt), some (.str q.1), some (.int (fs.length : Nat)), none, none, none, none]) rfl ?_
      refine q_when (b := false) ?_ (fun z => nomatch z) fun _ H40 e40 => ?_
      · have : false = !decide (V.str (pText p) = V.str (pText p)) := by simp
        rw [this]
        exact et_ne (ev_var rfl) (ev_pText hp hpo (by omega) (by omega) (ev_var rfl) (fun x => rfl) (fun x y => rfl) (fun x => rfl) (fun x y => rfl)) rfl
      have hp := hp.up e40
      have RR := RR.up e40
      have TR := TR.ext e40
      clear e40
      -- read back
      refine q_notC ?_
      refine m_consM ?_
      refine m_callT ?_
      refine m_consE (ev_var rfl) fun H41 e41 => ?_
      refine m_consM ?_
      refine m_callM (ea_cons (ev_var rfl) (ea_cons (ev_var rfl) ea_nil)) fun H42 e42 => ?_
      have e4042 := e41.trans e42
      refine ⟨r, s, ns, pText p, rfl, RR.up e4042, hptl, by omega, hL.2, fun gs H43 hgs R43 e43 => ?_⟩
      have hgl := hgs.len
      have hgm := hgs.mem hL.2
      have hgsum := sum_le (c := 600) (gs.map (·.length)) fun x hx => by
        obtain ⟨y, hy, rfl⟩ := List.mem_map.mp hx
        exact hgm y hy
      rw [List.length_map] at hgsum
      have hgj := join_len "\n" gs
      rw [c10] at hgj
      refine ⟨fs.length, Txt.join "\n" gs, rfl, hl1, hl4, by omega, ?_⟩
      rw [rdP_loose (by omega) hpo (by omega) hgs]
      obtain ⟨y40, hy40⟩ := RR.lst
      have hp40 := pg_rem hy40 hp
      have e4043 : Ex (rem H40 r) H43 := Ex.past (rem_ex.trans e4042) rem_eq e43
      refine fun pm2 H44 e44 hpm2 => ?_
      refine m_consE (ev_var rfl) fun H45 e45 => ?_
      have e4045 := (e4043.trans e44).trans e45
      refine ⟨.ref pm2, .ref pg, pgD p, rfl, dp_pg ((pr_pg hpm2).up e45), dp_pg (hp40.up e4045), ad_pg (by omega), fun H46 e46 => ⟨true, rfl, ?_⟩⟩
      refine ite_f (nextW ?_)
      have e4046 := e4045.trans e46
      have hp := hp40.up e4046
      have RR := ((R43.up e44).up e45).up e46
      have TR := (tabs_rem hy40 TR).ext e4046
      clear e4046 e4045 e4043 e4042 e41 e42 e43 e44 e45 e46 R43 hpm2 hp40 hgs hgl hgm hgsum hgj hy40
      dsimp only
      -- a word put in the place of another one
      refine q_callGW ?_
      refine m_consE (ev_var rfl) fun H47 e47 => ?_
      refine m_consE (ev_var rfl) fun H48 e48 => ?_
      refine m_consELW (xs := wordsP.map V.str) (el_lst (ea_cons ev_c (ea_cons ev_c (ea_cons ev_c (ea_cons ev_c (ea_cons ev_c (ea_cons ev_c (ea_cons ev_c (ea_cons ev_c (ea_cons ev_c (ea_cons ev_c ea_nil)))))))))) (by show 10 ≤ 100000; decide)) fun wl' H49 hwl' e49 h49 => ?_
      have e4649 := (e47.trans e48).trans e49
      obtain ⟨y48, hy48⟩ := (RR.up (e47.trans e48)).lst
      refine ⟨r, s, wl', ns, pText p, wordsP, rfl, RR.up e4649, hptl, by omega, (fun x hx => Nat.le_trans (hL.2 x hx) (by decide)), sq_of h49, (ne_of_none hy48 hwl').symm, by decide, by decide, fun w h => (wordsP_ok w h).2, fun at2 place2 wd2 u2 H50 hat2 hpl2 hwd2 R50 e50 hu2 => ?_⟩
      refine ⟨u2, _, rfl, st_of hu2, rfl, _, _, rfl, ⟨_, _, rfl, ⟨_, _, rfl, ⟨rfl, ?_⟩⟩⟩⟩
      obtain ⟨y49, hy49⟩ := (RR.up e4649).lst
      have TR := (tabs_rem hy49 (TR.ext e4649)).ext e50
      have RR := R50
      have hb := rdP_bent (place := place2) (by omega : fs.length ≤ 1000) hpo (by omega) hat2 (wordsP_ok wd2 hwd2).1
      have hbl2 : (bentS (pText p) at2 place2 wd2).length ≤ 40000 := Nat.le_trans (bent_len (by omega) hL.2 hat2 (words_len.2 _ hwd2)) (by decide)
      clear hp R50 e4649 e50 e47 e48 e49 h49 hwl' hy48 hy49 hu2
      generalize bentS (pText p) at2 place2 wd2 = bt2 at hb hbl2
      refine sig_eq (σ' := [some (.ref s), some (.ref r), some (.ref m), some (.str (pText p)), some (.ref rl), some (.int ((at2 + 1 : Nat) : Int)), some (.int ((place2 + 1 : Nat) : Int)), some z, some (.ref l2), some (.ref u), some (.ref pg), some (.str bt2), some (.str q.1), some (.int (fs.length : Nat)), none, none, none, none]) rfl ?_
      refine q_setKW (R := fun z H' => RowAt K H' r s ns ∧ Tabs TT H' ∧ ((z = .non ∧ ∃ acc, rdP fs.length bt2 = .ok acc) ∨ ∃ (u : Addr) (l p : Nat), z = .ref u ∧ H' u = some (.tup [.int (l : Nat), .int (p : Nat)]) ∧ rdP fs.length bt2 = .error (l, p))) (fun z2 H51 hR => ?_) fun Q hQ => ?_
      · obtain ⟨RR, TR, hz⟩ := hR
        refine sig_eq (σ' := [some (.ref s), some (.ref r), some (.ref m), some (.str (pText p)), some (.ref rl), some (.int ((at2 + 1 : Nat) : Int)), some (.int ((place2 + 1 : Nat) : Int)), some z2, some (.ref l2), some (.ref u), some (.ref pg), some (.str bt2), some (.str q.1), some (.int (fs.length : Nat)), none, none, none, none]) rfl ?_
        refine q_when (b := false) ?_ (fun z => nomatch z) fun _ H52 e52 => ?_
        · rcases hz with ⟨rfl, acc, hq⟩ | ⟨u, l, p, rfl, hu, hq⟩
          · obtain ⟨p', rfl, hok', htx, hlp⟩ := hb.1 _ hq
            refine et_and (a := true) (b := false) (et_is (et_isN (ev_var rfl)) (decide_eq_true rfl)) fun _ => et_test ?_
            refine fun Hx ex Qx kx => ?_
            refine m_opLam ?_
            refine m_callT ?_
            refine m_consE (ev_var rfl) fun Hy ey => ?_
            refine m_consM ?_
            refine m_callM (ea_cons (ev_var rfl) (ea_cons (ev_var rfl) ea_nil)) fun Ha ea => ⟨fs.length, bt2, rfl, hl1, hl4, hbl2, ?_⟩
            unfold ToldP
            rw [hq]
            refine fun m' Hb eb hm' => ⟨fs.length, m', p', rfl, hl1, hl4, pr_pg hm', hok', by omega, fun Hc ec => ⟨_, rfl, rfl, ?_⟩⟩
            rw [htx, decide_eq_true rfl]
            exact kx Hc (((ey.trans ea).trans eb).trans ec)
          · exact et_and (a := false) (b := false) (et_is (et_isN (ev_var rfl)) (decide_eq_false fun z => by cases z)) (fun z => nomatch z)
        have hz52 : (z2 = .non) ∨ ∃ (u : Addr) (p : Nat), z2 = .ref u ∧ H52 u = some (.tup [.int ((at2 + 1 : Nat) : Int), .int (p : Nat)]) := by
          rcases hz with ⟨rfl, acc, hq⟩ | ⟨u, l, p, rfl, hu, hq⟩
          · exact .inl rfl
          · refine .inr ⟨u, p, rfl, ?_⟩
            have := hb.2 _ _ hq
            subst this
            exact e52 _ _ hu
        have RR := RR.up e52
        have TR := TR.ext e52
        clear hz hb e52
        refine q_when (b := false) ?_ (fun z => nomatch z) fun _ H53 e53 => ?_
        · rcases hz52 with rfl | ⟨u, p, rfl, hu⟩
          · exact et_and (a := false) (b := false) (et_is (et_nN (ev_var rfl)) (by rw [decide_eq_true rfl]; rfl)) (fun z => nomatch z)
          · refine et_and (a := true) (b := false) (et_is (et_nN (ev_var rfl)) (by rw [decide_eq_false (fun z => by cases z)]; rfl)) fun _ => ?_
            refine et_is (et_ne (ev_ixT (ev_var rfl) ev_c (st_of hu) rfl) (ev_var rfl) rfl) ?_
            rw [decide_eq_true rfl]
            rfl
        have RR := RR.up e53
        have TR := TR.ext e53
        clear hz52 e53
        -- the cases
        obtain ⟨y53, hy53⟩ := RR.lst
        refine q_caseL (K := K) (cs := [("", 2, 1), ("hum", 1, 1), ("get", 1, 2), ("get 4", 1, 2), ("say 1", 1, 2)]) (ec_cons (ec_one (a := 2) (b := 1) ev_c) (ec_cons (ec_one (a := 1) (b := 1) ev_c) (ec_cons (ec_one (a := 1) (b := 2) ev_c) (ec_cons (ec_one (a := 1) (b := 2) ev_c) (ec_cons (ec_one (a := 1) (b := 2) ev_c) ec_nil))))) (by decide) fun l3 H54 hl3' e54 L54 => ?_
        have hl3r : l3 ≠ r := (ne_of_none hy53 hl3').symm
        refine q_caseApp (l := l3) (q := ("put 0 0", 1, 3)) rfl L54 (ec_one (a := 1) (b := 3) ev_c) (by decide) fun H55 e55 L55 => ?_
        have e5355 : Ex H53 H55 := (ex_to_rem e54 hl3').trans e55
        have RR := RR.up e5355
        have TR := TR.ext e5355
        clear e5355 e54 e55 L54 hy53
        obtain ⟨y55, hy55⟩ := RR.lst
        refine q_caseCat (l := l3) (ds := [("go 2", 1, 2), ("go 4001", 1, 2), ("put 1000001", 1, 2), ("put -0", 1, 2)]) rfl L55 (ec_cons (ec_one (a := 1) (b := 2) ev_c) (ec_cons (ec_one (a := 1) (b := 2) ev_c) (ec_cons (ec_one (a := 1) (b := 2) ev_c) (ec_cons (ec_one (a := 1) (b := 2) ev_c) ec_nil)))) (by decide) fun l4 H56 hl4' e56 L56 => ?_
        refine q_caseCat (l := l4) (ds := [("say\nzero 3", 2, 2), ("put --1", 1, 2)]) rfl L56 (ec_cons (ec_one (a := 2) (b := 2) ev_c) (ec_cons (ec_one (a := 1) (b := 2) ev_c) ec_nil)) (by decide) fun l5 H57 hl5' e57 L57 => ?_
        have hl5r : l5 ≠ r := (ne_of_none (e56 _ _ hy55) hl5').symm
        have RR := RR.up (e56.trans e57)
        have TR := TR.ext (e56.trans e57)
        clear L56 L55 hy55 hl4' hl5' e56 e57
        refine q_casePick (r := r) (l := l5) rfl rfl RR L57 hl5r (by decide) (by decide) rfl fun q2 u3 H58 hqm hu RR' e58 => ?_
        obtain ⟨y57, hy57⟩ := RR.lst
        have TR := (tabs_rem hy57 TR).ext e58
        clear e58 hy57 L57
        have RR := RR'
        clear RR'
        have hqe := casesP_err hl1 hl4 hqm
        have hql := cases_len.2 q2 hqm
        refine sig_eq (σ' := [some (.ref s), some (.ref r), some (.ref m), some (.str (pText p)), some (.ref rl), some (.int ((at2 + 1 : Nat) : Int)), some (.int ((place2 + 1 : Nat) : Int)), some z2, some (.ref l5), some (.ref u3), some (.ref pg), some (.str bt2), some (.str q2.1), some (.int (fs.length : Nat)), none, none, none, none]) rfl ?_
        refine ⟨TR, fun f1 cd1 t1 doc1 pm1 ct1 H59 e59 T59 hf59 h59 hc59 ht59 => ⟨f1, cd1, .ref t1, doc1, pm1, ct1, rfl, h59, hc59, fun E1 Q1 hQ1 hE1 => ⟨h59, .one rfl ht59, ?_⟩⟩⟩
        have RR : RowAt K H59 r s ns := row_nW e59 RR
        have hu := sqT_nW e59 hu
        clear e59 TR
        refine m_callSS (ea_cons (ev_var rfl) (ea_cons (ev_var rfl) ea_nil)) fun H60 e60 => .inl ⟨fs.length, q2.1, rfl, hl1, hl4, by omega, ?_⟩
        unfold ToldP
        rw [hqe]
        refine fun d H61 e61 hd => hE1 _ _ _ (.inl ⟨rfl, d, _, _, rfl, hd, fun u4 H62 e62 hu4 => ⟨_, rfl, rNeD_same (dp_pair (st_of hu4)) (dp_pair (ex_t ((e60.trans e61).trans e62) hu)) (sh_pair _ _) ⟨_, rfl, ite_f (nextW ?_)⟩⟩⟩)
        have TR := T59.ext ((e60.trans e61).trans e62)
        clear e60 e61 e62 hd hu4 hu h59 hc59 ht59 hf59 T59 hE1 hQ1 hqe hql hqm
        refine ⟨TR, fun f2 cd2 t2 doc2 pm2 ct2 H63 e63 T63 hf63 h63 hc63 ht63 => ⟨f2, cd2, .ref t2, doc2, pm2, ct2, rfl, h63, hc63, fun E1 Q1 hQ1 hE1 => ⟨h63, .one rfl ht63, ?_⟩⟩⟩
        refine m_callSS (ea_cons (ev_var rfl) (ea_cons ev_c ea_nil)) fun H64 e64 => .inr ⟨fs.length, rfl, hl1, hl4, fun H65 e65 => hE1 _ _ _ (.inr ⟨nbsl, B_BadString.te, fun H66 e66 => m_cc (rEqD_same (K := K) dp_string dp_string sh_string (k _))⟩)⟩
      · refine ⟨TR, fun f1 cd1 t1 doc1 pm1 ct1 H52 e52 T52 hf52 h52 hc52 ht52 => ⟨f1, cd1, .ref t1, doc1, pm1, ct1, rfl, h52, hc52, fun E1 Q1 hQ1 hE1 => ⟨h52, .one rfl ht52, ?_⟩⟩⟩
        have RR : RowAt K H52 r s ns := row_nW e52 RR
        have hTe : ∀ {H2 : Hp}, Ex H52 H2 → Tabs TT H2 := fun e => T52.ext e
        refine m_callSS (ea_cons (ev_var rfl) (ea_cons (ev_var rfl) ea_nil)) fun H53 e53 => .inl ⟨fs.length, bt2, rfl, hl1, hl4, hbl2, ?_⟩
        unfold ToldP
        cases hq : rdP fs.length bt2 with
        | ok acc => exact fun m' H' e' hm' => hQ1 _ _ fun H2 e2 => hQ _ _ ⟨RR.up ((e53.trans e').trans e2), hTe ((e53.trans e').trans e2), .inl ⟨rfl, acc, hq⟩⟩
        | error x =>
          obtain ⟨l, p⟩ := x
          exact fun d H' e' hd => hE1 _ _ _ (.inl ⟨rfl, d, .int (l : Nat), .int (p : Nat), rfl, hd, fun u H2 e2 hu => hQ _ _ ⟨RR.up ((e53.trans e').trans e2), hTe ((e53.trans e').trans e2), .inr ⟨u, l, p, rfl, hu, hq⟩⟩⟩)
    · refine ⟨T18, fun f1 cd1 doc1 pm1 ct1 H19 e19 T19 hf19 h19 hc19 => ⟨f1, cd1, _, doc1, pm1, ct1, rfl, h19, hc19, fun E Q0 hQ0 hE0 => ⟨h19, .no rfl, ?_⟩⟩⟩
      have hm19 : MaT K H19 m fs rs := let ⟨a, b, q1, q2, q3⟩ := hm18; ⟨a, b, sqT_nW e19 q1, sqT_nW e19 q2, sqT_nW e19 q3⟩
      have R19 : RowAt K H19 r s ns := row_nW e19 R18
      have hTe : ∀ {H2 : Hp}, Ex H19 H2 → Tabs TT H2 := fun e => T19.ext e
      refine m_callSS (ea_cons (ev_var rfl) ea_nil) fun H20 e20 => .inl ⟨bt, by rw [← hbt], hbl, ?_⟩
      unfold Told
      cases hq : rdM bt with
      | ok x =>
        obtain ⟨fs', rs'⟩ := x
        exact fun m' H' e' hm' => hQ0 _ _ fun H2 e2 => hQ _ _ ⟨hm19.up ((e20.trans e').trans e2), R19.up ((e20.trans e').trans e2), hTe ((e20.trans e').trans e2), .inl ⟨rfl, fs', rs', hq⟩⟩
      | error x =>
        obtain ⟨l, p⟩ := x
        exact fun d H' e' hd => hE0 _ _ _ (.inl ⟨rfl, d, .int (l : Nat), .int (p : Nat), rfl, hd, fun u H2 e2 hu => hQ _ _ ⟨hm19.up ((e20.trans e').trans e2), R19.up ((e20.trans e').trans e2), hTe ((e20.trans e').trans e2), .inr ⟨u, l, p, rfl, hu, hq⟩⟩⟩)
end
end Fm
set_option Elab.async false
set_option linter.all false
set_option maxRecDepth 100000
set_option maxHeartbeats 8000000
namespace Fm
open PySem PySem.W PySem.Calls PyProof.Rows PySem.HandSPX L2 Evl LamX
/-- an error of the class at S is what its name in an except takes -/
theorem exm_own {K : PySem.W.Frag} {S : Addr} (h1 : PySem.W.subIn K (.ref S) (.type "BaseException") = some true) (h2 : PySem.W.isClsIn K S = true) (h3 : PySem.W.typeIn K (.ref S) = some (.type "type")) (h4 : PySem.W.subIn K (.ref S) (.ref S) = some true) : PySem.W.exmOne K (.ref S) (.ref S) = some true := by
  have e1 : (PySem.W.subIn K (.ref S) (.type "BaseException") == some true) = true := by rw [h1]; rfl
  have h5 : (PySem.W.clsIn K S).isSome = true := h2
  have e2 : ((PySem.W.clsIn K S).isSome && PySem.W.typeIn K (.ref S) == some (.type "type")) = true := by rw [h5, h3]; rfl
  unfold PySem.W.exmOne
  rw [if_pos e1]
  show (if ((PySem.W.clsIn K S).isSome && PySem.W.typeIn K (.ref S) == some (.type "type")) = true then PySem.W.subIn K (.ref S) (.ref S) else none) = some true
  rw [if_pos e2]
  exact h4
theorem exm_no {K : PySem.W.Frag} {S T : Addr} (h1 : PySem.W.subIn K (.ref T) (.type "BaseException") = some true) (h2 : PySem.W.isClsIn K T = true) (h3 : PySem.W.typeIn K (.ref T) = some (.type "type")) (h4 : PySem.W.subIn K (.ref S) (.ref T) = some false) : PySem.W.exmOne K (.ref S) (.ref T) = some false := by
  have e1 : (PySem.W.subIn K (.ref T) (.type "BaseException") == some true) = true := by rw [h1]; rfl
  have h5 : (PySem.W.clsIn K T).isSome = true := h2
  have e2 : ((PySem.W.clsIn K T).isSome && PySem.W.typeIn K (.ref T) == some (.type "type")) = true := by rw [h5, h3]; rfl
  unfold PySem.W.exmOne
  rw [if_pos e1]
  show (if ((PySem.W.clsIn K T).isSome && PySem.W.typeIn K (.ref T) == some (.type "type")) = true then PySem.W.subIn K (.ref S) (.ref T) else none) = some false
  rw [if_pos e2]
  exact h4
theorem all_mk {l : PySem.W.OpenLaw} {w : World} {K : PySem.W.Frag} {h : Heap} {mg : Str → Option Value} {fa : Addr} (X : K.In h) (G : h.Ns mainGlobals mg) (hfa : mg "law" = some (.ref fa))
    {f0 : Addr} {od0 an0 : Option Addr} {sl0 : Array (Option Value)} {oc0 kV0 dc0 pm0 cd0 ct0 : Value}
    {f1 : Addr} {od1 an1 : Option Addr} {sl1 : Array (Option Value)} {oc1 kV1 dc1 pm1 cd1 ct1 : Value}
    {f2 : Addr} {od2 an2 : Option Addr} {sl2 : Array (Option Value)} {oc2 kV2 dc2 pm2 cd2 ct2 : Value}
    {f3 : Addr} {od3 an3 : Option Addr} {sl3 : Array (Option Value)} {oc3 kV3 dc3 pm3 cd3 ct3 : Value}
    {f4 : Addr} {od4 an4 : Option Addr} {sl4 : Array (Option Value)} {oc4 kV4 dc4 pm4 cd4 ct4 : Value}
    {f5 : Addr} {od5 an5 : Option Addr} {sl5 : Array (Option Value)} {oc5 kV5 dc5 pm5 cd5 ct5 : Value}
    {f6 : Addr} {od6 an6 : Option Addr} {sl6 : Array (Option Value)} {oc6 kV6 dc6 pm6 cd6 ct6 : Value}
    {f7 : Addr} {od7 an7 : Option Addr} {sl7 : Array (Option Value)} {oc7 kV7 dc7 pm7 cd7 ct7 : Value}
    {f8 : Addr} {od8 an8 : Option Addr} {sl8 : Array (Option Value)} {oc8 kV8 dc8 pm8 cd8 ct8 : Value}
    {f9 : Addr} {od9 an9 : Option Addr} {sl9 : Array (Option Value)} {oc9 kV9 dc9 pm9 cd9 ct9 : Value}
    {f10 : Addr} {od10 an10 : Option Addr} {sl10 : Array (Option Value)} {oc10 kV10 dc10 pm10 cd10 ct10 : Value}
    {f11 : Addr} {od11 an11 : Option Addr} {sl11 : Array (Option Value)} {oc11 kV11 dc11 pm11 cd11 ct11 : Value}
    {f12 : Addr} {od12 an12 : Option Addr} {sl12 : Array (Option Value)} {oc12 kV12 dc12 pm12 cd12 ct12 : Value}
    {f13 : Addr} {od13 an13 : Option Addr} {sl13 : Array (Option Value)} {oc13 kV13 dc13 pm13 cd13 ct13 : Value}
    {f14 : Addr} {od14 an14 : Option Addr} {sl14 : Array (Option Value)} {oc14 kV14 dc14 pm14 cd14 ct14 : Value}
    {f15 : Addr} {od15 an15 : Option Addr} {sl15 : Array (Option Value)} {oc15 kV15 dc15 pm15 cd15 ct15 : Value}
    {f16 : Addr} {od16 an16 : Option Addr} {sl16 : Array (Option Value)} {oc16 kV16 dc16 pm16 cd16 ct16 : Value}
    {f17 : Addr} {od17 an17 : Option Addr} {sl17 : Array (Option Value)} {oc17 kV17 dc17 pm17 cd17 ct17 : Value}
    {f18 : Addr} {od18 an18 : Option Addr} {sl18 : Array (Option Value)} {oc18 kV18 dc18 pm18 cd18 ct18 : Value}
    {f19 : Addr} {od19 an19 : Option Addr} {sl19 : Array (Option Value)} {oc19 kV19 dc19 pm19 cd19 ct19 : Value}
    {f20 : Addr} {od20 an20 : Option Addr} {sl20 : Array (Option Value)} {oc20 kV20 dc20 pm20 cd20 ct20 : Value}
    {f21 : Addr} {od21 an21 : Option Addr} {sl21 : Array (Option Value)} {oc21 kV21 dc21 pm21 cd21 ct21 : Value}
    {f22 : Addr} {od22 an22 : Option Addr} {sl22 : Array (Option Value)} {oc22 kV22 dc22 pm22 cd22 ct22 : Value}
    {f23 : Addr} {od23 an23 : Option Addr} {sl23 : Array (Option Value)} {oc23 kV23 dc23 pm23 cd23 ct23 : Value}
    {f24 : Addr} {od24 an24 : Option Addr} {sl24 : Array (Option Value)} {oc24 kV24 dc24 pm24 cd24 ct24 : Value}
    {f25 : Addr} {od25 an25 : Option Addr} {sl25 : Array (Option Value)} {oc25 kV25 dc25 pm25 cd25 ct25 : Value}
    {f26 : Addr} {od26 an26 : Option Addr} {sl26 : Array (Option Value)} {oc26 kV26 dc26 pm26 cd26 ct26 : Value}
    {f27 : Addr} {od27 an27 : Option Addr} {sl27 : Array (Option Value)} {oc27 kV27 dc27 pm27 cd27 ct27 : Value}
    {f28 : Addr} {od28 an28 : Option Addr} {sl28 : Array (Option Value)} {oc28 kV28 dc28 pm28 cd28 ct28 : Value}
    {f29 : Addr} {od29 an29 : Option Addr} {sl29 : Array (Option Value)} {oc29 kV29 dc29 pm29 cd29 ct29 : Value}
    {f30 : Addr} {od30 an30 : Option Addr} {sl30 : Array (Option Value)} {oc30 kV30 dc30 pm30 cd30 ct30 : Value}
    {f31 : Addr} {od31 an31 : Option Addr} {sl31 : Array (Option Value)} {oc31 kV31 dc31 pm31 ct31 : Value}
    {lc lP : Addr} {ldd : Option Addr} {lvs : Array Value} {lsl : Array (Option Value)}
    {t_MOST_CELLS : Tok}
    {t_MILLION : Tok}
    {t_MOST_FADE : Tok}
    {t_MOST_KEPT : Tok}
    {t_MOST_DIGITS : Tok}
    {t_DIGITS : Tok}
    {t_LINE_END : Tok}
    {aA : Addr} {dd_aA : Option Addr} {sl_aA : Array (Option Value)} {nn_aA : Nat} {t_aA0 : Tok} {t_aA1 : Tok} {t_aA2 : Tok}
    {aC : Addr} {dd_aC : Option Addr} {sl_aC : Array (Option Value)} {nn_aC : Nat} {t_aC0 : Tok} {t_aC1 : Tok} {t_aC2 : Tok} {t_aC3 : Tok}
    {aP : Addr} {dd_aP : Option Addr} {sl_aP : Array (Option Value)} {nn_aP : Nat} {t_aP0 : Tok} {t_aP1 : Tok}
    {bs : Addr}
    {bl blfI blcc blcda blNB : Addr} {blnmB blqB : Str} {blbsB blbmB : List Value} {blsnB : List Str} {blsubB : List Value} {blabB : Bool} {blcolB : Option Bool} {blddB : Option Addr} {blm0 blm1 blm2 blm3 blm5 : Option Value} {blccl : Value} {blcdd : Option Addr} {blvsC : Array Value} {blccs : Array (Option Value)} {blfl : Str} {bltf : Tok} {blclC : Value} {blcldC : Option Addr} {blcslC : Array (Option Value)} {blocI bldcI blpmI blctI : Value} {blodI blanI : Option Addr} {blslI : Array (Option Value)}
    (a0 : PySem.W.nsIn K mainGlobals "is_whole" = some (some (.ref f0)))
    (l0 : K.lookup f0 = some ⟨oc0, od0, .func (PySem.W.fnOf "is_whole" "is_whole" (defArgs s_is_whole) (defBody s_is_whole) (defScope s_is_whole) .none kV0 dc0 pm0 an0 cd0 ct0), sl0⟩)
    (c0 : PySem.W.codeIn K cd0 "is_whole" = true)
    (k0 : PySem.W.keepIn K (.ref f0) = true)
    (a1 : PySem.W.nsIn K mainGlobals "is_integer" = some (some (.ref f1)))
    (l1 : K.lookup f1 = some ⟨oc1, od1, .func (PySem.W.fnOf "is_integer" "is_integer" (defArgs s_is_integer) (defBody s_is_integer) (defScope s_is_integer) .none kV1 dc1 pm1 an1 cd1 ct1), sl1⟩)
    (c1 : PySem.W.codeIn K cd1 "is_integer" = true)
    (k1 : PySem.W.keepIn K (.ref f1) = true)
    (a2 : PySem.W.nsIn K mainGlobals "check_number" = some (some (.ref f2)))
    (l2 : K.lookup f2 = some ⟨oc2, od2, .func (PySem.W.fnOf "check_number" "check_number" (defArgs s_check_number) (defBody s_check_number) (defScope s_check_number) .none kV2 dc2 pm2 an2 cd2 ct2), sl2⟩)
    (c2 : PySem.W.codeIn K cd2 "check_number" = true)
    (k2 : PySem.W.keepIn K (.ref f2) = true)
    (a3 : PySem.W.nsIn K mainGlobals "check_cells" = some (some (.ref f3)))
    (l3 : K.lookup f3 = some ⟨oc3, od3, .func (PySem.W.fnOf "check_cells" "check_cells" (defArgs s_check_cells) (defBody s_check_cells) (defScope s_check_cells) .none kV3 dc3 pm3 an3 cd3 ct3), sl3⟩)
    (c3 : PySem.W.codeIn K cd3 "check_cells" = true)
    (k3 : PySem.W.keepIn K (.ref f3) = true)
    (a4 : PySem.W.nsIn K mainGlobals "are_fades" = some (some (.ref f4)))
    (l4 : K.lookup f4 = some ⟨oc4, od4, .func (PySem.W.fnOf "are_fades" "are_fades" (defArgs s_are_fades) (defBody s_are_fades) (defScope s_are_fades) .none kV4 dc4 pm4 an4 cd4 ct4), sl4⟩)
    (c4 : PySem.W.codeIn K cd4 "are_fades" = true)
    (k4 : PySem.W.keepIn K (.ref f4) = true)
    (a5 : PySem.W.nsIn K mainGlobals "are_rows" = some (some (.ref f5)))
    (l5 : K.lookup f5 = some ⟨oc5, od5, .func (PySem.W.fnOf "are_rows" "are_rows" (defArgs s_are_rows) (defBody s_are_rows) (defScope s_are_rows) .none kV5 dc5 pm5 an5 cd5 ct5), sl5⟩)
    (c5 : PySem.W.codeIn K cd5 "are_rows" = true)
    (k5 : PySem.W.keepIn K (.ref f5) = true)
    (a6 : PySem.W.nsIn K mainGlobals "check_machine" = some (some (.ref f6)))
    (l6 : K.lookup f6 = some ⟨oc6, od6, .func (PySem.W.fnOf "check_machine" "check_machine" (defArgs s_check_machine) (defBody s_check_machine) (defScope s_check_machine) .none kV6 dc6 pm6 an6 cd6 ct6), sl6⟩)
    (c6 : PySem.W.codeIn K cd6 "check_machine" = true)
    (k6 : PySem.W.keepIn K (.ref f6) = true)
    (a7 : PySem.W.nsIn K mainGlobals "is_instruction" = some (some (.ref f7)))
    (l7 : K.lookup f7 = some ⟨oc7, od7, .func (PySem.W.fnOf "is_instruction" "is_instruction" (defArgs s_is_instruction) (defBody s_is_instruction) (defScope s_is_instruction) .none kV7 dc7 pm7 an7 cd7 ct7), sl7⟩)
    (c7 : PySem.W.codeIn K cd7 "is_instruction" = true)
    (k7 : PySem.W.keepIn K (.ref f7) = true)
    (a8 : PySem.W.nsIn K mainGlobals "is_touch" = some (some (.ref f8)))
    (l8 : K.lookup f8 = some ⟨oc8, od8, .func (PySem.W.fnOf "is_touch" "is_touch" (defArgs s_is_touch) (defBody s_is_touch) (defScope s_is_touch) .none kV8 dc8 pm8 an8 cd8 ct8), sl8⟩)
    (c8 : PySem.W.codeIn K cd8 "is_touch" = true)
    (k8 : PySem.W.keepIn K (.ref f8) = true)
    (a9 : PySem.W.nsIn K mainGlobals "check_length" = some (some (.ref f9)))
    (l9 : K.lookup f9 = some ⟨oc9, od9, .func (PySem.W.fnOf "check_length" "check_length" (defArgs s_check_length) (defBody s_check_length) (defScope s_check_length) .none kV9 dc9 pm9 an9 cd9 ct9), sl9⟩)
    (c9 : PySem.W.codeIn K cd9 "check_length" = true)
    (k9 : PySem.W.keepIn K (.ref f9) = true)
    (a10 : PySem.W.nsIn K mainGlobals "check_kept" = some (some (.ref f10)))
    (l10 : K.lookup f10 = some ⟨oc10, od10, .func (PySem.W.fnOf "check_kept" "check_kept" (defArgs s_check_kept) (defBody s_check_kept) (defScope s_check_kept) .none kV10 dc10 pm10 an10 cd10 ct10), sl10⟩)
    (c10 : PySem.W.codeIn K cd10 "check_kept" = true)
    (k10 : PySem.W.keepIn K (.ref f10) = true)
    (a11 : PySem.W.nsIn K mainGlobals "check_string" = some (some (.ref f11)))
    (l11 : K.lookup f11 = some ⟨oc11, od11, .func (PySem.W.fnOf "check_string" "check_string" (defArgs s_check_string) (defBody s_check_string) (defScope s_check_string) .none kV11 dc11 pm11 an11 cd11 ct11), sl11⟩)
    (c11 : PySem.W.codeIn K cd11 "check_string" = true)
    (k11 : PySem.W.keepIn K (.ref f11) = true)
    (a12 : PySem.W.nsIn K mainGlobals "words_of" = some (some (.ref f12)))
    (l12 : K.lookup f12 = some ⟨oc12, od12, .func (PySem.W.fnOf "words_of" "words_of" (defArgs s_words_of) (defBody s_words_of) (defScope s_words_of) .none kV12 dc12 pm12 an12 cd12 ct12), sl12⟩)
    (c12 : PySem.W.codeIn K cd12 "words_of" = true)
    (k12 : PySem.W.keepIn K (.ref f12) = true)
    (a13 : PySem.W.nsIn K mainGlobals "are_plain_digits" = some (some (.ref f13)))
    (l13 : K.lookup f13 = some ⟨oc13, od13, .func (PySem.W.fnOf "are_plain_digits" "are_plain_digits" (defArgs s_are_plain_digits) (defBody s_are_plain_digits) (defScope s_are_plain_digits) .none kV13 dc13 pm13 an13 cd13 ct13), sl13⟩)
    (c13 : PySem.W.codeIn K cd13 "are_plain_digits" = true)
    (k13 : PySem.W.keepIn K (.ref f13) = true)
    (a14 : PySem.W.nsIn K mainGlobals "number_told" = some (some (.ref f14)))
    (l14 : K.lookup f14 = some ⟨oc14, od14, .func (PySem.W.fnOf "number_told" "number_told" (defArgs s_number_told) (defBody s_number_told) (defScope s_number_told) .none kV14 dc14 pm14 an14 cd14 ct14), sl14⟩)
    (c14 : PySem.W.codeIn K cd14 "number_told" = true)
    (k14 : PySem.W.keepIn K (.ref f14) = true)
    (a15 : PySem.W.nsIn K mainGlobals "numbers_behind" = some (some (.ref f15)))
    (l15 : K.lookup f15 = some ⟨oc15, od15, .func (PySem.W.fnOf "numbers_behind" "numbers_behind" (defArgs s_numbers_behind) (defBody s_numbers_behind) (defScope s_numbers_behind) .none kV15 dc15 pm15 an15 cd15 ct15), sl15⟩)
    (c15 : PySem.W.codeIn K cd15 "numbers_behind" = true)
    (k15 : PySem.W.keepIn K (.ref f15) = true)
    (a16 : PySem.W.nsIn K mainGlobals "lines_with_words" = some (some (.ref f16)))
    (l16 : K.lookup f16 = some ⟨oc16, od16, .func (PySem.W.fnOf "lines_with_words" "lines_with_words" (defArgs s_lines_with_words) (defBody s_lines_with_words) (defScope s_lines_with_words) .none kV16 dc16 pm16 an16 cd16 ct16), sl16⟩)
    (c16 : PySem.W.codeIn K cd16 "lines_with_words" = true)
    (k16 : PySem.W.keepIn K (.ref f16) = true)
    (a17 : PySem.W.nsIn K mainGlobals "write_machine" = some (some (.ref f17)))
    (l17 : K.lookup f17 = some ⟨oc17, od17, .func (PySem.W.fnOf "write_machine" "write_machine" (defArgs s_write_machine) (defBody s_write_machine) (defScope s_write_machine) .none kV17 dc17 pm17 an17 cd17 ct17), sl17⟩)
    (c17 : PySem.W.codeIn K cd17 "write_machine" = true)
    (k17 : PySem.W.keepIn K (.ref f17) = true)
    (a18 : PySem.W.nsIn K mainGlobals "read_machine" = some (some (.ref f18)))
    (l18 : K.lookup f18 = some ⟨oc18, od18, .func (PySem.W.fnOf "read_machine" "read_machine" (defArgs s_read_machine) (defBody s_read_machine) (defScope s_read_machine) .none kV18 dc18 pm18 an18 cd18 ct18), sl18⟩)
    (c18 : PySem.W.codeIn K cd18 "read_machine" = true)
    (k18 : PySem.W.keepIn K (.ref f18) = true)
    (a19 : PySem.W.nsIn K mainGlobals "write_program" = some (some (.ref f19)))
    (l19 : K.lookup f19 = some ⟨oc19, od19, .func (PySem.W.fnOf "write_program" "write_program" (defArgs s_write_program) (defBody s_write_program) (defScope s_write_program) .none kV19 dc19 pm19 an19 cd19 ct19), sl19⟩)
    (c19 : PySem.W.codeIn K cd19 "write_program" = true)
    (k19 : PySem.W.keepIn K (.ref f19) = true)
    (a20 : PySem.W.nsIn K mainGlobals "limits_behind" = some (some (.ref f20)))
    (l20 : K.lookup f20 = some ⟨oc20, od20, .func (PySem.W.fnOf "limits_behind" "limits_behind" (defArgs s_limits_behind) (defBody s_limits_behind) (defScope s_limits_behind) .none kV20 dc20 pm20 an20 cd20 ct20), sl20⟩)
    (c20 : PySem.W.codeIn K cd20 "limits_behind" = true)
    (k20 : PySem.W.keepIn K (.ref f20) = true)
    (a21 : PySem.W.nsIn K mainGlobals "read_program" = some (some (.ref f21)))
    (l21 : K.lookup f21 = some ⟨oc21, od21, .func (PySem.W.fnOf "read_program" "read_program" (defArgs s_read_program) (defBody s_read_program) (defScope s_read_program) .none kV21 dc21 pm21 an21 cd21 ct21), sl21⟩)
    (c21 : PySem.W.codeIn K cd21 "read_program" = true)
    (k21 : PySem.W.keepIn K (.ref f21) = true)
    (a22 : PySem.W.nsIn K mainGlobals "_law_taken" = some (some (.ref f22)))
    (l22 : K.lookup f22 = some ⟨oc22, od22, .func (PySem.W.fnOf "_law_taken" "_law_taken" (defArgs s_law_taken) (defBody s_law_taken) (defScope s_law_taken) .none kV22 dc22 pm22 an22 cd22 ct22), sl22⟩)
    (c22 : PySem.W.codeIn K cd22 "_law_taken" = true)
    (k22 : PySem.W.keepIn K (.ref f22) = true)
    (a23 : PySem.W.nsIn K mainGlobals "_law_pick" = some (some (.ref f23)))
    (l23 : K.lookup f23 = some ⟨oc23, od23, .func (PySem.W.fnOf "_law_pick" "_law_pick" (defArgs s_law_pick) (defBody s_law_pick) (defScope s_law_pick) .none kV23 dc23 pm23 an23 cd23 ct23), sl23⟩)
    (c23 : PySem.W.codeIn K cd23 "_law_pick" = true)
    (k23 : PySem.W.keepIn K (.ref f23) = true)
    (a24 : PySem.W.nsIn K mainGlobals "_law_alike" = some (some (.ref f24)))
    (l24 : K.lookup f24 = some ⟨oc24, od24, .func (PySem.W.fnOf "_law_alike" "_law_alike" (defArgs s_law_alike) (defBody s_law_alike) (defScope s_law_alike) .none kV24 dc24 pm24 an24 cd24 ct24), sl24⟩)
    (c24 : PySem.W.codeIn K cd24 "_law_alike" = true)
    (k24 : PySem.W.keepIn K (.ref f24) = true)
    (a25 : PySem.W.nsIn K mainGlobals "_law_machine" = some (some (.ref f25)))
    (l25 : K.lookup f25 = some ⟨oc25, od25, .func (PySem.W.fnOf "_law_machine" "_law_machine" (defArgs s_law_machine) (defBody s_law_machine) (defScope s_law_machine) .none kV25 dc25 pm25 an25 cd25 ct25), sl25⟩)
    (c25 : PySem.W.codeIn K cd25 "_law_machine" = true)
    (k25 : PySem.W.keepIn K (.ref f25) = true)
    (a26 : PySem.W.nsIn K mainGlobals "_law_program" = some (some (.ref f26)))
    (l26 : K.lookup f26 = some ⟨oc26, od26, .func (PySem.W.fnOf "_law_program" "_law_program" (defArgs s_law_program) (defBody s_law_program) (defScope s_law_program) .none kV26 dc26 pm26 an26 cd26 ct26), sl26⟩)
    (c26 : PySem.W.codeIn K cd26 "_law_program" = true)
    (k26 : PySem.W.keepIn K (.ref f26) = true)
    (a27 : PySem.W.nsIn K mainGlobals "_law_kept" = some (some (.ref f27)))
    (l27 : K.lookup f27 = some ⟨oc27, od27, .func (PySem.W.fnOf "_law_kept" "_law_kept" (defArgs s_law_kept) (defBody s_law_kept) (defScope s_law_kept) .none kV27 dc27 pm27 an27 cd27 ct27), sl27⟩)
    (c27 : PySem.W.codeIn K cd27 "_law_kept" = true)
    (k27 : PySem.W.keepIn K (.ref f27) = true)
    (a28 : PySem.W.nsIn K mainGlobals "_law_said" = some (some (.ref f28)))
    (l28 : K.lookup f28 = some ⟨oc28, od28, .func (PySem.W.fnOf "_law_said" "_law_said" (defArgs s_law_said) (defBody s_law_said) (defScope s_law_said) .none kV28 dc28 pm28 an28 cd28 ct28), sl28⟩)
    (c28 : PySem.W.codeIn K cd28 "_law_said" = true)
    (k28 : PySem.W.keepIn K (.ref f28) = true)
    (a29 : PySem.W.nsIn K mainGlobals "_law_loose" = some (some (.ref f29)))
    (l29 : K.lookup f29 = some ⟨oc29, od29, .func (PySem.W.fnOf "_law_loose" "_law_loose" (defArgs s_law_loose) (defBody s_law_loose) (defScope s_law_loose) .none kV29 dc29 pm29 an29 cd29 ct29), sl29⟩)
    (c29 : PySem.W.codeIn K cd29 "_law_loose" = true)
    (k29 : PySem.W.keepIn K (.ref f29) = true)
    (a30 : PySem.W.nsIn K mainGlobals "_law_bent" = some (some (.ref f30)))
    (l30 : K.lookup f30 = some ⟨oc30, od30, .func (PySem.W.fnOf "_law_bent" "_law_bent" (defArgs s_law_bent) (defBody s_law_bent) (defScope s_law_bent) .none kV30 dc30 pm30 an30 cd30 ct30), sl30⟩)
    (c30 : PySem.W.codeIn K cd30 "_law_bent" = true)
    (k30 : PySem.W.keepIn K (.ref f30) = true)
    (a31 : PySem.W.nsIn K mainGlobals "law" = some (some (.ref f31)))
    (l31 : K.lookup f31 = some ⟨oc31, od31, .func (PySem.W.fnOf "law" "law" (defArgs s_law) (defBody s_law) (defScope s_law) .none kV31 dc31 pm31 an31 (.ref lc) ct31), sl31⟩)
    (c31 : PySem.W.codeIn K (.ref lc) "law" = true)
    (lk : K.lookup lc = some ⟨.type "code", ldd, .fields lvs, lsl⟩)
    (lv : lvs[11]? = some (.ref lP))
    (lh : PySem.W.codeHdIn K lc lP = true)
    (ln : K.lookup lP = none)
    (lt : h.get? lP = some (PySem.W.tabObj #[]))
    (k31 : PySem.W.keepIn K (.ref f31) = true)
    (z_int : PySem.W.nsIn K mainGlobals "int" = some none)
    (z_len : PySem.W.nsIn K mainGlobals "len" = some none)
    (z_range : PySem.W.nsIn K mainGlobals "range" = some none)
    (z_isinstance : PySem.W.nsIn K mainGlobals "isinstance" = some none)
    (z_bool : PySem.W.nsIn K mainGlobals "bool" = some none)
    (z_tuple : PySem.W.nsIn K mainGlobals "tuple" = some none)
    (z_list : PySem.W.nsIn K mainGlobals "list" = some none)
    (z_str : PySem.W.nsIn K mainGlobals "str" = some none)
    (z_any : PySem.W.nsIn K mainGlobals "any" = some none)
    (z_sorted : PySem.W.nsIn K mainGlobals "sorted" = some none)
    (z_reversed : PySem.W.nsIn K mainGlobals "reversed" = some none)
    (z_enumerate : PySem.W.nsIn K mainGlobals "enumerate" = some none)
    (z_all : PySem.W.nsIn K mainGlobals "all" = some none)
    (z_zip : PySem.W.nsIn K mainGlobals "zip" = some none)
    (z_max : PySem.W.nsIn K mainGlobals "max" = some none)
    (z_min : PySem.W.nsIn K mainGlobals "min" = some none)
    (z_set : PySem.W.nsIn K mainGlobals "set" = some none)
    (n_MOST_CELLS : PySem.W.nsIn K mainGlobals "MOST_CELLS" = some (some (.int 4 t_MOST_CELLS)))
    (n_MILLION : PySem.W.nsIn K mainGlobals "MILLION" = some (some (.int 1000000 t_MILLION)))
    (n_MOST_FADE : PySem.W.nsIn K mainGlobals "MOST_FADE" = some (some (.int 8 t_MOST_FADE)))
    (n_MOST_KEPT : PySem.W.nsIn K mainGlobals "MOST_KEPT" = some (some (.int 4000 t_MOST_KEPT)))
    (n_MOST_DIGITS : PySem.W.nsIn K mainGlobals "MOST_DIGITS" = some (some (.int 7 t_MOST_DIGITS)))
    (n_DIGITS : PySem.W.nsIn K mainGlobals "DIGITS" = some (some (.str "0123456789" t_DIGITS)))
    (n_LINE_END : PySem.W.nsIn K mainGlobals "LINE_END" = some (some (.str "\n" t_LINE_END)))
    (g_aA : PySem.W.nsIn K mainGlobals "ALONE" = some (some (.ref aA)))
    (w_aA : K.lookup aA = some ⟨.type "tuple", dd_aA, .seq #[.str "say" t_aA0, .str "ask" t_aA1, .str "stop" t_aA2] nn_aA, sl_aA⟩)
    (g_aC : PySem.W.nsIn K mainGlobals "WITH_CELL" = some (some (.ref aC)))
    (w_aC : K.lookup aC = some ⟨.type "tuple", dd_aC, .seq #[.str "get" t_aC0, .str "plus" t_aC1, .str "minus" t_aC2, .str "set" t_aC3] nn_aC, sl_aC⟩)
    (g_aP : PySem.W.nsIn K mainGlobals "WITH_PLACE" = some (some (.ref aP)))
    (w_aP : K.lookup aP = some ⟨.type "tuple", dd_aP, .seq #[.str "zero" t_aP0, .str "go" t_aP1] nn_aP, sl_aP⟩)
    (bs_g : PySem.W.nsIn K mainGlobals "BadString" = some (some (.ref bs)))
    (bs_k : PySem.W.keepIn K (.ref bs) = true)
    (bs_q : PySem.W.excIn K bs [.type "ValueError", .type "Exception", .type "BaseException", .type "object"] "ValueError.__new__" = true)
    (bs_ex : PySem.W.subIn K (.ref bs) (.type "BaseException") = some true)
    (bs_ty : PySem.W.typeIn K (.ref bs) = some (.type "type"))
    (bs_c : PySem.W.isClsIn K bs = true)
    (bs_s : PySem.W.subIn K (.ref bs) (.ref bs) = some true)
    (sp_zs : PySem.W.nsIn K mainGlobals "super" = some none)
    (sp_tp : PySem.W.nsIn K cStatics "thirdparty.any" = some none)
    (sp_top : (l.prog.main.scope.names.lookup ("super" : Str)).isSome = false)
    (bl_g : PySem.W.nsIn K mainGlobals "BadLine" = some (some (.ref bl)))
    (bl_l : K.lookup bl = some (excClassObj blnmB blqB bl blNB blbsB blbmB true blsnB blsubB blabB blcolB blddB blm0 blm1 blm2 blm3 blm5 "ValueError.__new__"))
    (bl_bm : refsVE blbmB = true)
    (bl_sup : PySem.W.ks_superIn K bl bl "__init__" = some (some (.builtin "ValueError.__init__")))
    (bl_mro : PySem.W.mroIn K bl (.ref bl) = some true)
    (bl_ve : PySem.W.subIn K (.ref bl) (.type "ValueError") = some true)
    (bl_sa : PySem.W.findIn K (.ref bl) "__setattr__" = some (some (.builtin "object.__setattr__")))
    (bl_ga : PySem.W.findIn K (.ref bl) "__getattribute__" = some (some (.builtin "BaseException.__getattribute__")))
    (bl_gg : PySem.W.findIn K (.ref bl) "__getattr__" = some none)
    (bl_no : PySem.W.findIn K (.ref bl) "line" = some none)
    (bl_ne : PySem.W.findIn K (.ref bl) "place" = some none)
    (bl_iC : PySem.W.findIn K (.ref bl) "__init__" = some (some (.ref blfI)))
    (bl_tC : PySem.W.typeIn K (.ref blfI) = some (.type "function"))
    (bl_kC : PySem.W.keepIn K (.ref bl) = true)
    (bl_ex : PySem.W.subIn K (.ref bl) (.type "BaseException") = some true)
    (bl_ty : PySem.W.typeIn K (.ref bl) = some (.type "type"))
    (bl_hd : PySem.W.hasDictIn K bl = true)
    (bl_c : PySem.W.isClsIn K bl = true)
    (bl_s : PySem.W.subIn K (.ref bl) (.ref bl) = some true)
    (bl_fn : K.lookup blfI = some ⟨blocI, blodI, .func (ksFn "__init__" "BadLine.__init__" (defArgs NS_BadLine.sI) (defBody NS_BadLine.sI) (defScope NS_BadLine.sI) .none .none bldcI blpmI blanI (.ref blcda) blctI blcc), blslI⟩)
    (bl_cd : PySem.W.codeIn K (.ref blcda) "BadLine.__init__" = true)
    (bl_co : K.lookup blcda = some ⟨blccl, blcdd, .fields blvsC, blccs⟩)
    (bl_cv : blvsC[2]? = some (.str blfl bltf))
    (bl_fl : ((l.prog.main.file : Str) == blfl) = true)
    (bl_ce : K.lookup blcc = some ⟨blclC, blcldC, .cell (some (.ref bl)), blcslC⟩)
    (ns_bs_bl : PySem.W.subIn K (.ref bs) (.ref bl) = some false)
    : LawAtS l w K CX0 8 63 "script" mg fa h := by
  have e := hfa.symm.trans (PySem.W.mg_of X G a31)
  cases e
  have T : Txt K mg := { z_int := PySem.W.mg_none_of X G z_int, z_len := PySem.W.mg_none_of X G z_len, z_range := PySem.W.mg_none_of X G z_range, z_isinstance := PySem.W.mg_none_of X G z_isinstance, z_bool := PySem.W.mg_none_of X G z_bool, z_tuple := PySem.W.mg_none_of X G z_tuple, z_list := PySem.W.mg_none_of X G z_list, z_str := PySem.W.mg_none_of X G z_str, z_any := PySem.W.mg_none_of X G z_any, z_sorted := PySem.W.mg_none_of X G z_sorted, z_reversed := PySem.W.mg_none_of X G z_reversed, z_enumerate := PySem.W.mg_none_of X G z_enumerate, z_all := PySem.W.mg_none_of X G z_all, z_zip := PySem.W.mg_none_of X G z_zip, z_max := PySem.W.mg_none_of X G z_max, z_min := PySem.W.mg_none_of X G z_min, z_set := PySem.W.mg_none_of X G z_set, c_MOST_CELLS := ⟨_, PySem.W.mg_of X G n_MOST_CELLS⟩, c_MILLION := ⟨_, PySem.W.mg_of X G n_MILLION⟩, c_MOST_FADE := ⟨_, PySem.W.mg_of X G n_MOST_FADE⟩, c_MOST_KEPT := ⟨_, PySem.W.mg_of X G n_MOST_KEPT⟩, c_MOST_DIGITS := ⟨_, PySem.W.mg_of X G n_MOST_DIGITS⟩, c_DIGITS := ⟨_, PySem.W.mg_of X G n_DIGITS⟩, c_LINE_END := ⟨_, PySem.W.mg_of X G n_LINE_END⟩ }
  have Wd : Wds K mg aA aC aP := ⟨PySem.W.mg_of X G g_aA, PySem.W.mg_of X G g_aC, PySem.W.mg_of X G g_aP, fun H => .inr ⟨_, _, _, w_aA, rfl, rfl, by show 3 ≤ sizeLine; rw [sizeLine_eq]; decide, .cons ⟨t_aA0, rfl⟩ (.cons ⟨t_aA1, rfl⟩ (.cons ⟨t_aA2, rfl⟩ (.nil)))⟩, fun H => .inr ⟨_, _, _, w_aC, rfl, rfl, by show 4 ≤ sizeLine; rw [sizeLine_eq]; decide, .cons ⟨t_aC0, rfl⟩ (.cons ⟨t_aC1, rfl⟩ (.cons ⟨t_aC2, rfl⟩ (.cons ⟨t_aC3, rfl⟩ (.nil))))⟩, fun H => .inr ⟨_, _, _, w_aP, rfl, rfl, by show 2 ≤ sizeLine; rw [sizeLine_eq]; decide, .cons ⟨t_aP0, rfl⟩ (.cons ⟨t_aP1, rfl⟩ (.nil))⟩⟩
  have B_BadString : BaseE K mg "BadString" bs := ⟨PySem.W.mg_of X G bs_g, bs_k, bs_q, bs_ex, bs_ty, exm_own bs_ex bs_c bs_ty bs_s⟩
  have T_BadLine : NS_BadLine.Ty l.prog K mg bl blfI blcc blcda :=
    { gC := PySem.W.mg_of X G bl_g, zS := PySem.W.mg_none_of X G sp_zs, tp := sp_tp, cls := ⟨blnmB, blqB, blNB, blbsB, blbmB, blsnB, blsubB, blabB, blcolB, blddB, blm0, blm1, blm2, blm3, blm5, bl_l, bl_bm⟩, sup := bl_sup, mro := bl_mro, ve := bl_ve, sa := bl_sa, ga := bl_ga, gg := bl_gg, noN := bl_no, noE := bl_ne, iC := bl_iC, tC := bl_tC, kC := bl_kC, exC := bl_ex, tyC := bl_ty, hdC := bl_hd, te := exm_own bl_ex bl_c bl_ty bl_s,
      file := ⟨blccl, blcdd, blvsC, blccs, blfl, bltf, bl_co, bl_cv, bl_fl⟩, cell := ⟨blclC, blcldC, blcslC, bl_ce⟩, top_ := sp_top, fn := ⟨blocI, blodI, bldcI, blpmI, blanI, blctI, blslI, bl_fn, bl_cd⟩ }
  have F0 := fun_mk (st := s_is_whole) l0 c0 k0
  have b0 := F0.binds (ps := ["value"]) fun _ _ _ _ _ _ us hl => match us, hl with | [_], _ => rfl
  have g0 := PySem.W.mg_of X G a0
  have F1 := fun_mk (st := s_is_integer) l1 c1 k1
  have b1 := F1.binds (ps := ["value", "low", "high"]) fun _ _ _ _ _ _ us hl => match us, hl with | [_, _, _], _ => rfl
  have g1 := PySem.W.mg_of X G a1
  have F2 := fun_mk (st := s_check_number) l2 c2 k2
  have b2 := F2.binds (ps := ["value", "low", "high"]) fun _ _ _ _ _ _ us hl => match us, hl with | [_, _, _], _ => rfl
  have g2 := PySem.W.mg_of X G a2
  have F3 := fun_mk (st := s_check_cells) l3 c3 k3
  have b3 := F3.binds (ps := ["value"]) fun _ _ _ _ _ _ us hl => match us, hl with | [_], _ => rfl
  have g3 := PySem.W.mg_of X G a3
  have F4 := fun_mk (st := s_are_fades) l4 c4 k4
  have b4 := F4.binds (ps := ["value"]) fun _ _ _ _ _ _ us hl => match us, hl with | [_], _ => rfl
  have g4 := PySem.W.mg_of X G a4
  have F5 := fun_mk (st := s_are_rows) l5 c5 k5
  have b5 := F5.binds (ps := ["value"]) fun _ _ _ _ _ _ us hl => match us, hl with | [_], _ => rfl
  have g5 := PySem.W.mg_of X G a5
  have F6 := fun_mk (st := s_check_machine) l6 c6 k6
  have b6 := F6.binds (ps := ["value"]) fun _ _ _ _ _ _ us hl => match us, hl with | [_], _ => rfl
  have g6 := PySem.W.mg_of X G a6
  have F7 := fun_mk (st := s_is_instruction) l7 c7 k7
  have b7 := F7.binds (ps := ["cells", "length", "value"]) fun _ _ _ _ _ _ us hl => match us, hl with | [_, _, _], _ => rfl
  have g7 := PySem.W.mg_of X G a7
  have F8 := fun_mk (st := s_is_touch) l8 c8 k8
  have b8 := F8.binds (ps := ["cells", "value"]) fun _ _ _ _ _ _ us hl => match us, hl with | [_, _], _ => rfl
  have g8 := PySem.W.mg_of X G a8
  have F9 := fun_mk (st := s_check_length) l9 c9 k9
  have b9 := F9.binds (ps := ["value", "most"]) fun _ _ _ _ _ _ us hl => match us, hl with | [_, _], _ => rfl
  have g9 := PySem.W.mg_of X G a9
  have F10 := fun_mk (st := s_check_kept) l10 c10 k10
  have b10 := F10.binds (ps := ["cells", "value"]) fun _ _ _ _ _ _ us hl => match us, hl with | [_, _], _ => rfl
  have g10 := PySem.W.mg_of X G a10
  have F11 := fun_mk (st := s_check_string) l11 c11 k11
  have b11 := F11.binds (ps := ["value"]) fun _ _ _ _ _ _ us hl => match us, hl with | [_], _ => rfl
  have g11 := PySem.W.mg_of X G a11
  have F12 := fun_mk (st := s_words_of) l12 c12 k12
  have b12 := F12.binds (ps := ["line"]) fun _ _ _ _ _ _ us hl => match us, hl with | [_], _ => rfl
  have g12 := PySem.W.mg_of X G a12
  have F13 := fun_mk (st := s_are_plain_digits) l13 c13 k13
  have b13 := F13.binds (ps := ["word"]) fun _ _ _ _ _ _ us hl => match us, hl with | [_], _ => rfl
  have g13 := PySem.W.mg_of X G a13
  have F14 := fun_mk (st := s_number_told) l14 c14 k14
  have b14 := F14.binds (ps := ["word", "low", "high"]) fun _ _ _ _ _ _ us hl => match us, hl with | [_, _, _], _ => rfl
  have g14 := PySem.W.mg_of X G a14
  have F15 := fun_mk (st := s_numbers_behind) l15 c15 k15
  have b15 := F15.binds (ps := ["line", "words", "limits"]) fun _ _ _ _ _ _ us hl => match us, hl with | [_, _, _], _ => rfl
  have g15 := PySem.W.mg_of X G a15
  have F16 := fun_mk (st := s_lines_with_words) l16 c16 k16
  have b16 := F16.binds (ps := ["text"]) fun _ _ _ _ _ _ us hl => match us, hl with | [_], _ => rfl
  have g16 := PySem.W.mg_of X G a16
  have F17 := fun_mk (st := s_write_machine) l17 c17 k17
  have b17 := F17.binds (ps := ["machine"]) fun _ _ _ _ _ _ us hl => match us, hl with | [_], _ => rfl
  have g17 := PySem.W.mg_of X G a17
  have F18 := fun_mk (st := s_read_machine) l18 c18 k18
  have b18 := F18.binds (ps := ["text"]) fun _ _ _ _ _ _ us hl => match us, hl with | [_], _ => rfl
  have g18 := PySem.W.mg_of X G a18
  have F19 := fun_mk (st := s_write_program) l19 c19 k19
  have b19 := F19.binds (ps := ["cells", "program"]) fun _ _ _ _ _ _ us hl => match us, hl with | [_, _], _ => rfl
  have g19 := PySem.W.mg_of X G a19
  have F20 := fun_mk (st := s_limits_behind) l20 c20 k20
  have b20 := F20.binds (ps := ["cells", "word"]) fun _ _ _ _ _ _ us hl => match us, hl with | [_, _], _ => rfl
  have g20 := PySem.W.mg_of X G a20
  have F21 := fun_mk (st := s_read_program) l21 c21 k21
  have b21 := F21.binds (ps := ["cells", "text"]) fun _ _ _ _ _ _ us hl => match us, hl with | [_, _], _ => rfl
  have g21 := PySem.W.mg_of X G a21
  have F22 := fun_mk (st := s_law_taken) l22 c22 k22
  have b22 := F22.binds (ps := ["row", "many"]) fun _ _ _ _ _ _ us hl => match us, hl with | [_, _], _ => rfl
  have g22 := PySem.W.mg_of X G a22
  have F23 := fun_mk (st := s_law_pick) l23 c23 k23
  have b23 := F23.binds (ps := ["row", "things"]) fun _ _ _ _ _ _ us hl => match us, hl with | [_, _], _ => rfl
  have g23 := PySem.W.mg_of X G a23
  have F24 := fun_mk (st := s_law_alike) l24 c24 k24
  have b24 := F24.binds (ps := ["found", "due"]) fun _ _ _ _ _ _ us hl => match us, hl with | [_, _], _ => rfl
  have g24 := PySem.W.mg_of X G a24
  have F25 := fun_mk (st := s_law_machine) l25 c25 k25
  have b25 := F25.binds (ps := ["row", "most", "fade"]) fun _ _ _ _ _ _ us hl => match us, hl with | [_, _, _], _ => rfl
  have g25 := PySem.W.mg_of X G a25
  have F26 := fun_mk (st := s_law_program) l26 c26 k26
  have b26 := F26.binds (ps := ["row", "cells", "most"]) fun _ _ _ _ _ _ us hl => match us, hl with | [_, _, _], _ => rfl
  have g26 := PySem.W.mg_of X G a26
  have F27 := fun_mk (st := s_law_kept) l27 c27 k27
  have b27 := F27.binds (ps := ["row", "program", "cells"]) fun _ _ _ _ _ _ us hl => match us, hl with | [_, _, _], _ => rfl
  have g27 := PySem.W.mg_of X G a27
  have F28 := fun_mk (st := s_law_said) l28 c28 k28
  have b28 := F28.binds (ps := ["work"]) fun _ _ _ _ _ _ us hl => match us, hl with | [_], _ => rfl
  have g28 := PySem.W.mg_of X G a28
  have F29 := fun_mk (st := s_law_loose) l29 c29 k29
  have b29 := F29.binds (ps := ["row", "text"]) fun _ _ _ _ _ _ us hl => match us, hl with | [_, _], _ => rfl
  have g29 := PySem.W.mg_of X G a29
  have F30 := fun_mk (st := s_law_bent) l30 c30 k30
  have b30 := F30.binds (ps := ["row", "text", "words"]) fun _ _ _ _ _ _ us hl => match us, hl with | [_, _, _], _ => rfl
  have g30 := PySem.W.mg_of X G a30
  have F31 := fun_mk (st := s_law) l31 c31 k31
  have one : ∀ {Z : Addr × Addr → Prop}, Z (lc, lP) → ∀ p ∈ [(lc, lP)], Z p := fun z p hp => by rw [List.mem_singleton.mp hp]; exact z
  refine ⟨PySem.W.fnOf "law" "law" (defArgs s_law) (defBody s_law) (defScope s_law) .none kV31 dc31 pm31 an31 (.ref lc) ct31, [(lc, lP)], spLawT K lP, one (Z := fun p => h.get? p.2 = some { cls := .none, data := .fields #[] }) lt, one (Z := fun p => K.lookup p.2 = none) ln, one (Z := fun p => PySem.W.CodeHd h p.1 p.2) (PySem.W.codeHd_of_K X lh), fun s v => .of_eq rfl, fun H a ns _ _ hP hq => ⟨a, ns, rfl, hq, hP _ (List.mem_singleton.mpr rfl), fun _ => rfl⟩, fun base _ _ hTB => ?_⟩
  have TB := hTB _ (List.mem_singleton.mpr rfl)
  have C_is_whole : Cal l.prog w K mg base CX0 1 "is_whole" f0 _ ["value"] (spIsWhole K) := ⟨ok_is_whole F0 T, g0, k0, b0⟩
  have C_is_integer : Cal l.prog w K mg base CX0 2 "is_integer" f1 _ ["value", "low", "high"] (spIsInt K) := ⟨ok_is_integer F1 T C_is_whole, g1, k1, b1⟩
  have C_check_number : Cal l.prog w K mg base CX0 3 "check_number" f2 _ ["value", "low", "high"] spChkNum := ⟨ok_check_number F2 T C_is_integer, g2, k2, b2⟩
  have C_check_cells : Cal l.prog w K mg base CX0 4 "check_cells" f3 _ ["value"] spChkCells := ⟨ok_check_cells F3 T C_check_number, g3, k3, b3⟩
  have C_are_fades : Cal l.prog w K mg base CX0 3 "are_fades" f4 _ ["value"] (spFades K) := ⟨ok_fades F4 T C_is_integer, g4, k4, b4⟩
  have C_are_rows : Cal l.prog w K mg base CX0 3 "are_rows" f5 _ ["value"] (spRows K) := ⟨ok_rows F5 T C_is_integer, g5, k5, b5⟩
  have C_check_machine : Cal l.prog w K mg base CX0 4 "check_machine" f6 _ ["value"] (spChkMa K) := ⟨ok_check_machine F6 T C_are_fades C_are_rows, g6, k6, b6⟩
  have C_is_instructionO : Cal l.prog w K mg base CX0 3 "is_instruction" f7 _ ["cells", "length", "value"] (fun vs H Q E => spIsIn K vs H Q E ∨ spIsNo K vs H Q E) := ⟨FnOk_or (ok_is_instruction F7 T Wd C_is_integer) (no_is_instruction F7 T Wd C_is_integer), g7, k7, b7⟩
  have C_is_touch : Cal l.prog w K mg base CX0 3 "is_touch" f8 _ ["cells", "value"] (spIsTouch K) := ⟨ok_is_touch F8 T C_is_integer, g8, k8, b8⟩
  have C_check_length : Cal l.prog w K mg base CX0 2 "check_length" f9 _ ["value", "most"] (spChkLen K) := ⟨ok_check_length F9 T, g9, k9, b9⟩
  have C_check_kept : Cal l.prog w K mg base CX0 4 "check_kept" f10 _ ["cells", "value"] (spChkKe K) := ⟨ok_check_kept F10 T C_check_length C_is_instructionO C_is_touch, g10, k10, b10⟩
  have C_check_string : Cal l.prog w K mg base CX0 1 "check_string" f11 _ ["value"] spStr := ⟨ok_check_string F11 T, g11, k11, b11⟩
  have C_check_stringX : Cal l.prog w K mg base (L2.CX l.prog w) 1 "check_string" f11 _ ["value"] (spStrX K bs) := ⟨okX_check_string F11 T B_BadString, g11, k11, b11⟩
  have C_words_of : Cal l.prog w K mg base CX0 1 "words_of" f12 _ ["line"] spWords := ⟨ok_words F12 T, g12, k12, b12⟩
  have C_are_plain_digits : Cal l.prog w K mg base CX0 1 "are_plain_digits" f13 _ ["word"] spPlain := ⟨ok_plain F13 T, g13, k13, b13⟩
  have C_number_told : Cal l.prog w K mg base CX0 2 "number_told" f14 _ ["word", "low", "high"] spNum := ⟨ok_number_told F14 T C_are_plain_digits, g14, k14, b14⟩
  have C_lines_with_wordsX : Cal l.prog w K mg base (L2.CX l.prog w) 2 "lines_with_words" f16 _ ["text"] (fun vs H Q E => spLw K vs H Q E ∨ spLwX bl vs H Q E) := ⟨FnOk.orX (ok_lines F16 T C_words_of) (okX_lines F16 T T_BadLine C_words_of), g16, k16, b16⟩
  have C_numbers_behindX : Cal l.prog w K mg base (L2.CX l.prog w) 3 "numbers_behind" f15 _ ["line", "words", "limits"] (fun vs H Q E => spNb K vs H Q E ∨ spNbX K bl vs H Q E) := ⟨FnOk.orX (ok_nb F15 T C_number_told) (okX_nb F15 T T_BadLine C_number_told), g15, k15, b15⟩
  have C_write_machine : Cal l.prog w K mg base CX0 5 "write_machine" f17 _ ["machine"] (spWm K) := ⟨ok_write_machine F17 T C_check_machine, g17, k17, b17⟩
  have C_read_machine : Cal l.prog w K mg base CX0 4 "read_machine" f18 _ ["text"] (fun vs H Q _ => spRm K bl vs H Q fun _ _ _ => False) := ⟨FnOk.low (okX_read_machine F18 T T_BadLine C_check_string C_lines_with_wordsX C_numbers_behindX), g18, k18, b18⟩
  have C_read_machineX : Cal l.prog w K mg base (L2.CX l.prog w) 4 "read_machine" f18 _ ["text"] (fun vs H Q E => spRm K bl vs H Q E ∨ spRmS bs vs H Q E) := ⟨FnOk.orXX (okX_read_machine F18 T T_BadLine C_check_string C_lines_with_wordsX C_numbers_behindX) (okS_read_machine F18 T T_BadLine C_check_stringX C_lines_with_wordsX C_numbers_behindX), g18, k18, b18⟩
  have C_write_program : Cal l.prog w K mg base CX0 5 "write_program" f19 _ ["cells", "program"] (spWp K) := ⟨ok_write_program F19 T C_check_cells C_check_kept, g19, k19, b19⟩
  have C_limits_behind : Cal l.prog w K mg base CX0 1 "limits_behind" f20 _ ["cells", "word"] (spLim K) := ⟨ok_limits F20 T Wd, g20, k20, b20⟩
  have C_read_program : Cal l.prog w K mg base CX0 5 "read_program" f21 _ ["cells", "text"] (fun vs H Q _ => spRp K bl vs H Q fun _ _ _ => False) := ⟨FnOk.low (okX_read_program F21 T T_BadLine Wd C_check_cells C_check_string C_limits_behind C_lines_with_wordsX C_numbers_behindX), g21, k21, b21⟩
  have C_read_programX : Cal l.prog w K mg base (L2.CX l.prog w) 5 "read_program" f21 _ ["cells", "text"] (fun vs H Q E => spRp K bl vs H Q E ∨ spRpS bs vs H Q E) := ⟨FnOk.orXX (okX_read_program F21 T T_BadLine Wd C_check_cells C_check_string C_limits_behind C_lines_with_wordsX C_numbers_behindX) (okS_read_program F21 T T_BadLine Wd C_check_cells C_check_stringX C_limits_behind C_lines_with_wordsX C_numbers_behindX), g21, k21, b21⟩
  have C_law_taken : Cal l.prog w K mg base CX0 1 "_law_taken" f22 _ ["row", "many"] (spTak K) := ⟨ok_tak F22 T, g22, k22, b22⟩
  have C_law_pick : Cal l.prog w K mg base CX0 2 "_law_pick" f23 _ ["row", "things"] (spPick K) := ⟨ok_pick F23 T C_law_taken, g23, k23, b23⟩
  have C_law_alike : Cal l.prog w K mg base CX0 3 "_law_alike" f24 _ ["found", "due"] (spAlikeD K 2) := ⟨ok_alikeD F24 T g24 k24 b24 2, g24, k24, b24⟩
  have C_law_machine : Cal l.prog w K mg base CX0 2 "_law_machine" f25 _ ["row", "most", "fade"] (spLMa K) := ⟨ok_lmachine F25 T C_law_taken, g25, k25, b25⟩
  have C_law_program : Cal l.prog w K mg base CX0 3 "_law_program" f26 _ ["row", "cells", "most"] (spProg K) := ⟨ok_program F26 T C_law_taken C_law_pick, g26, k26, b26⟩
  have C_law_kept : Cal l.prog w K mg base CX0 2 "_law_kept" f27 _ ["row", "program", "cells"] (spLKe K) := ⟨ok_lkept F27 T C_law_taken, g27, k27, b27⟩
  have C_law_loose : Cal l.prog w K mg base CX0 2 "_law_loose" f29 _ ["row", "text"] (spLoose K) := ⟨ok_loose F29 T C_law_taken, g29, k29, b29⟩
  have C_law_bent : Cal l.prog w K mg base CX0 3 "_law_bent" f30 _ ["row", "text", "words"] (spBent K) := ⟨ok_bent F30 T C_law_taken C_law_pick, g30, k30, b30⟩
  have nb_bs_bl := exm_no bl_ex bl_c bl_ty ns_bs_bl
  exact ok_lawT l31 c31 TB T nb_bs_bl T_BadLine B_BadString F28 g28 b28 C_law_taken C_law_pick C_law_machine C_law_alike C_law_program C_law_kept C_law_loose C_law_bent C_write_machine C_write_program C_read_machine C_read_program C_read_machineX C_read_programX
theorem walk {l : PySem.W.OpenLaw} {q : Program} {loose : List Str} {XP : (Str → Option Value) → Heap → Prop} {YP : World → Heap → Prop} {d : DefRec} {K : Params → PySem.W.Frag} (hn : l.most = some 63) (hdf : d.params.defaults = [])
    (hY : ∀ (w : World) (h : Heap), YP w h → (K w.params).In h)
    (F : ∀ (w : World) (mg : Str → Option Value) (fa : Addr) (h : Heap), YP w h → (K w.params).In h → h.Ns mainGlobals mg → mg d.name = some (.ref fa) → LawAtS l w (K w.params) CX0 8 63 "script" mg fa h) :
    PySem.W.WalkO q loose XP YP l.row.toRowW d [] (fun f vs => PySem.call f vs) :=
  LamX.walk_ofTs (n := 63) (k := 8) (x := "script") (CX := fun _ => CX0) hn (by decide) hdf ⟨rfl, by decide, by decide⟩ hY F fun _ _ _ _ _ z => z
end Fm
set_option Elab.async false
set_option linter.all false
set_option maxRecDepth 100000
open PySem PySem.W PyProof.Rows in
set_option maxRecDepth 100000 in
set_option maxHeartbeats 0 in
theorem PySem.Challenge.cw_fademill_k11_whole_texts_holds : PySem.Challenge.rw_fademill_k11_whole_texts.Holds := by
  w_on; o_law; k_head; (case hw => w_witness2)
  k_fill
  refine Fm.walk (l := PySem.Challenge.rw_fademill_k11_whole_texts) rfl rfl (fun w h Y => PySem.W.km_in_of Y) ?F
  case F =>
    intro w mg fa h Y KX G hmg
    refine' Fm.all_mk KX G hmg ?a0 ?l0 ?c0 ?k0 ?a1 ?l1 ?c1 ?k1 ?a2 ?l2 ?c2 ?k2 ?a3 ?l3 ?c3 ?k3 ?a4 ?l4 ?c4 ?k4 ?a5 ?l5 ?c5 ?k5 ?a6 ?l6 ?c6 ?k6 ?a7 ?l7 ?c7 ?k7 ?a8 ?l8 ?c8 ?k8 ?a9 ?l9 ?c9 ?k9 ?a10 ?l10 ?c10 ?k10 ?a11 ?l11 ?c11 ?k11 ?a12 ?l12 ?c12 ?k12 ?a13 ?l13 ?c13 ?k13 ?a14 ?l14 ?c14 ?k14 ?a15 ?l15 ?c15 ?k15 ?a16 ?l16 ?c16 ?k16 ?a17 ?l17 ?c17 ?k17 ?a18 ?l18 ?c18 ?k18 ?a19 ?l19 ?c19 ?k19 ?a20 ?l20 ?c20 ?k20 ?a21 ?l21 ?c21 ?k21 ?a22 ?l22 ?c22 ?k22 ?a23 ?l23 ?c23 ?k23 ?a24 ?l24 ?c24 ?k24 ?a25 ?l25 ?c25 ?k25 ?a26 ?l26 ?c26 ?k26 ?a27 ?l27 ?c27 ?k27 ?a28 ?l28 ?c28 ?k28 ?a29 ?l29 ?c29 ?k29 ?a30 ?l30 ?c30 ?k30 ?a31 ?l31 ?c31 ?lk ?lv ?lh ?ln ?lt ?k31 ?z_int ?z_len ?z_range ?z_isinstance ?z_bool ?z_tuple ?z_list ?z_str ?z_any ?z_sorted ?z_reversed ?z_enumerate ?z_all ?z_zip ?z_max ?z_min ?z_set ?n_MOST_CELLS ?n_MILLION ?n_MOST_FADE ?n_MOST_KEPT ?n_MOST_DIGITS ?n_DIGITS ?n_LINE_END ?g_aA ?w_aA ?g_aC ?w_aC ?g_aP ?w_aP ?bs_g ?bs_k ?bs_q ?bs_ex ?bs_ty ?bs_c ?bs_s ?sp_zs ?sp_tp ?sp_top ?bl_g ?bl_l ?bl_bm ?bl_sup ?bl_mro ?bl_ve ?bl_sa ?bl_ga ?bl_gg ?bl_no ?bl_ne ?bl_iC ?bl_tC ?bl_kC ?bl_ex ?bl_ty ?bl_hd ?bl_c ?bl_s ?bl_fn ?bl_cd ?bl_co ?bl_cv ?bl_fl ?bl_ce ?ns_bs_bl
    (case a0 => k_is)
    (case l0 => k_is)
    (case c0 => k_is)
    (case k0 => k_is)
    (case a1 => k_is)
    (case l1 => k_is)
    (case c1 => k_is)
    (case k1 => k_is)
    (case a2 => k_is)
    (case l2 => k_is)
    (case c2 => k_is)
    (case k2 => k_is)
    (case a3 => k_is)
    (case l3 => k_is)
    (case c3 => k_is)
    (case k3 => k_is)
    (case a4 => k_is)
    (case l4 => k_is)
    (case c4 => k_is)
    (case k4 => k_is)
    (case a5 => k_is)
    (case l5 => k_is)
    (case c5 => k_is)
    (case k5 => k_is)
    (case a6 => k_is)
    (case l6 => k_is)
    (case c6 => k_is)
    (case k6 => k_is)
    (case a7 => k_is)
    (case l7 => k_is)
    (case c7 => k_is)
    (case k7 => k_is)
    (case a8 => k_is)
    (case l8 => k_is)
    (case c8 => k_is)
    (case k8 => k_is)
    (case a9 => k_is)
    (case l9 => k_is)
    (case c9 => k_is)
    (case k9 => k_is)
    (case a10 => k_is)
    (case l10 => k_is)
    (case c10 => k_is)
    (case k10 => k_is)
    (case a11 => k_is)
    (case l11 => k_is)
    (case c11 => k_is)
    (case k11 => k_is)
    (case a12 => k_is)
    (case l12 => k_is)
    (case c12 => k_is)
    (case k12 => k_is)
    (case a13 => k_is)
    (case l13 => k_is)
    (case c13 => k_is)
    (case k13 => k_is)
    (case a14 => k_is)
    (case l14 => k_is)
    (case c14 => k_is)
    (case k14 => k_is)
    (case a15 => k_is)
    (case l15 => k_is)
    (case c15 => k_is)
    (case k15 => k_is)
    (case a16 => k_is)
    (case l16 => k_is)
    (case c16 => k_is)
    (case k16 => k_is)
    (case a17 => k_is)
    (case l17 => k_is)
    (case c17 => k_is)
    (case k17 => k_is)
    (case a18 => k_is)
    (case l18 => k_is)
    (case c18 => k_is)
    (case k18 => k_is)
    (case a19 => k_is)
    (case l19 => k_is)
    (case c19 => k_is)
    (case k19 => k_is)
    (case a20 => k_is)
    (case l20 => k_is)
    (case c20 => k_is)
    (case k20 => k_is)
    (case a21 => k_is)
    (case l21 => k_is)
    (case c21 => k_is)
    (case k21 => k_is)
    (case a22 => k_is)
    (case l22 => k_is)
    (case c22 => k_is)
    (case k22 => k_is)
    (case a23 => k_is)
    (case l23 => k_is)
    (case c23 => k_is)
    (case k23 => k_is)
    (case a24 => k_is)
    (case l24 => k_is)
    (case c24 => k_is)
    (case k24 => k_is)
    (case a25 => k_is)
    (case l25 => k_is)
    (case c25 => k_is)
    (case k25 => k_is)
    (case a26 => k_is)
    (case l26 => k_is)
    (case c26 => k_is)
    (case k26 => k_is)
    (case a27 => k_is)
    (case l27 => k_is)
    (case c27 => k_is)
    (case k27 => k_is)
    (case a28 => k_is)
    (case l28 => k_is)
    (case c28 => k_is)
    (case k28 => k_is)
    (case a29 => k_is)
    (case l29 => k_is)
    (case c29 => k_is)
    (case k29 => k_is)
    (case a30 => k_is)
    (case l30 => k_is)
    (case c30 => k_is)
    (case k30 => k_is)
    (case a31 => k_is)
    (case l31 => k_is)
    (case c31 => k_is)
    (case lk => k_is)
    (case lv => rfl)
    (case lh => kernel_rfl)
    (case ln => kernel_rfl)
    (case lt => exact PySem.W.km_tabs_of Y _ (by k_mem))
    (case k31 => k_is)
    (case z_int => k_is)
    (case z_len => k_is)
    (case z_range => k_is)
    (case z_isinstance => k_is)
    (case z_bool => k_is)
    (case z_tuple => k_is)
    (case z_list => k_is)
    (case z_str => k_is)
    (case z_any => k_is)
    (case z_sorted => k_is)
    (case z_reversed => k_is)
    (case z_enumerate => k_is)
    (case z_all => k_is)
    (case z_zip => k_is)
    (case z_max => k_is)
    (case z_min => k_is)
    (case z_set => k_is)
    (case n_MOST_CELLS => k_is)
    (case n_MILLION => k_is)
    (case n_MOST_FADE => k_is)
    (case n_MOST_KEPT => k_is)
    (case n_MOST_DIGITS => k_is)
    (case n_DIGITS => k_is)
    (case n_LINE_END => k_is)
    (case g_aA => k_is)
    (case w_aA => k_is)
    (case g_aC => k_is)
    (case w_aC => k_is)
    (case g_aP => k_is)
    (case w_aP => k_is)
    (case bs_g => k_is)
    (case bs_k => k_is)
    (case bs_q => k_exc)
    (case bs_ex => k_is)
    (case bs_ty => k_is)
    (case bs_c => k_is)
    (case bs_s => first | rfl | k_is)
    (case sp_zs => k_is)
    (case sp_tp => k_is)
    (case sp_top => kernel_rfl)
    (case bl_g => k_is)
    (case bl_l => k_is)
    (case bl_bm => kernel_rfl)
    (case bl_sup => ks_is)
    (case bl_mro => k_is)
    (case bl_ve => k_is)
    (case bl_sa => k_is)
    (case bl_ga => k_is)
    (case bl_gg => k_is)
    (case bl_no => k_is)
    (case bl_ne => k_is)
    (case bl_iC => k_is)
    (case bl_tC => k_is)
    (case bl_kC => k_is)
    (case bl_ex => k_is)
    (case bl_ty => k_is)
    (case bl_hd => k_is)
    (case bl_c => k_is)
    (case bl_s => first | rfl | k_is)
    (case bl_fn => k_is)
    (case bl_cd => k_is)
    (case bl_co => k_is)
    (case bl_cv => rfl)
    (case bl_fl => kernel_rfl)
    (case bl_ce => k_is)
    (case ns_bs_bl => k_is)
#print axioms PySem.Challenge.cw_fademill_k11_whole_texts_holds
