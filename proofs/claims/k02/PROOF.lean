import PyProof.Rows.All
import Wide.All
import OpenK.AllK
import Wide.FinOn
import HandS.ForMost
import HandS.ForExc
import HandS.Steps
import HandS.IsInst
import HandS.TupMul
import HandS.RevRange
import HandS.DictComp
import HandS.FStr
import HandS.SortInts
import HandS.More
import HandS.Conv
import HandS.ListEq
import HandS.Evl
import PySem.Challenge.RW_fademill_k02_whole_needs
import KE.GoesEnum
import HandS.Iter
import HandS.Walk
import HandS.Deep
import KE.KExcSuper
import PyProof.FString2
import HandS.RaiseMore
set_option Elab.async false
set_option linter.all false
set_option maxRecDepth 100000
set_option maxHeartbeats 1000000
namespace Fm
open PySem L2
/-! own lemmas over the layer -/
theorem st_if {c : TT} {t1 t2 : TS} {D : Ends} {σ : L2.St} {H : Hp} {b : Bool} (h : Ans c σ H b) (y : b = true → t1 D σ H) (n : b = false → t2 D σ H) : tIfS c t1 t2 D σ H := by
  cases b with
  | true => exact st_yes h (y rfl)
  | false => exact st_no h (n rfl)
/-- an item of a list, a tuple, a text, none of which changes -/
theorem val_ixL {K : PySem.W.Frag} {ta tb : TE} {σ : L2.St} {H : Hp} {p : Addr} {xs : List V} {i : Int} {v : V} (ha : Val ta σ H (.ref p)) (hb : Val tb σ H (.int i)) (h : SqL K H p xs) (e : atI xs i = some v) : Val (tOp (rIx K) ta tb) σ H v :=
  val_op ha hb fun _ q => .inl ⟨p, xs, i, v, rfl, rfl, h, e, q⟩
theorem val_ixT {K : PySem.W.Frag} {ta tb : TE} {σ : L2.St} {H : Hp} {p : Addr} {xs : List V} {i : Int} {v : V} (ha : Val ta σ H (.ref p)) (hb : Val tb σ H (.int i)) (h : SqT K H p xs) (e : atI xs i = some v) : Val (tOp (rIx K) ta tb) σ H v :=
  val_op ha hb fun _ q => .inr (.inl ⟨p, xs, i, v, rfl, rfl, h, e, q⟩)
theorem val_i0 {g : Int → Int → V} {ta tb : TE} {σ : L2.St} {H : Hp} {i j : Int} (ha : Val ta σ H (.int i)) (hb : Val tb σ H (.int j)) : Val (tOp (rI0 g) ta tb) σ H (g i j) := val_op ha hb fun _ q => ⟨i, j, rfl, rfl, q⟩
theorem val_i {C : Int → Int → Prop} {g : Int → Int → V} {ta tb : TE} {σ : L2.St} {H : Hp} {i j : Int} (ha : Val ta σ H (.int i)) (hb : Val tb σ H (.int j)) (c : C i j) : Val (tOp (rI C g) ta tb) σ H (g i j) := val_op ha hb fun _ q => ⟨i, j, rfl, rfl, c, q⟩
theorem ans_i0 {g : Int → Int → Bool} {ta tb : TE} {σ : L2.St} {H : Hp} {i j : Int} (ha : Val ta σ H (.int i)) (hb : Val tb σ H (.int j)) : Ans (tTest (tOp (rI0 fun i j => .bl (g i j)) ta tb)) σ H (g i j) := fun _ q => ha _ (hb _ ⟨i, j, rfl, rfl, _, rfl, q⟩)
theorem st_asg {te : TE} {i : Nat} {v : V} {t2 : TS} {D : Ends} {σ : L2.St} {H : Hp} (h : Val te σ H v) (q : t2 D (σ.set i (some v)) H) : tSeq (tAsg te (gName i)) t2 D σ H := h _ q
theorem st_setL {te to ti : TE} {t2 : TS} {D : Ends} {σ : L2.St} {H : Hp} {v : V} {l : Addr} {xs : List V} {k : Int} {j : Nat} (h : Val te σ H v) (ho : Val to σ H (.ref l)) (hi : Val ti σ H (.int k)) (hl : H l = some (.lst xs)) (hj : ixN xs.length k = some j)
    (q : t2 D σ (upd H l (.lst (xs.set j v)))) : tSeq (tAsg te (gSub to ti rSetL)) t2 D σ H := h _ (ho _ (hi _ ⟨l, xs, k, j, rfl, rfl, hl, hj, q⟩))
theorem st_setL1 {te to ti : TE} {D : Ends} {σ : L2.St} {H : Hp} {v : V} {l : Addr} {xs : List V} {k : Int} {j : Nat} (h : Val te σ H v) (ho : Val to σ H (.ref l)) (hi : Val ti σ H (.int k)) (hl : H l = some (.lst xs)) (hj : ixN xs.length k = some j)
    (q : D.nx σ (upd H l (.lst (xs.set j v)))) : tAsg te (gSub to ti rSetL) D σ H := h _ (ho _ (hi _ ⟨l, xs, k, j, rfl, rfl, hl, hj, q⟩))
theorem val_int1 {ta : TE} {σ : L2.St} {H : Hp} {i : Int} (ha : Val ta σ H (.int i)) : Val (tCB (fun xs H Q => (∃ i, xs = [.int i] ∧ Q (.int i) H) ∨ ∃ k, xs = [.bl k] ∧ Q (.int (if k then 1 else 0)) H) (tCons ta tNil)) σ H (.int i) := fun _ q => ha _ (.inl ⟨i, rfl, q⟩)
theorem val_lenX {K : PySem.W.Frag} {ta : TE} {σ : L2.St} {H : Hp} {x : V} {n : Nat} (ha : Val ta σ H x) (h : LenV K x H n) : Val (tCB (fun xs H Q => ∃ x n, xs = [x] ∧ LenV K x H n ∧ Q (.int n) H) (tCons ta tNil)) σ H (.int n) := fun _ q => ha _ ⟨x, n, rfl, h, q⟩
theorem val_lenS {K : PySem.W.Frag} {ta : TE} {σ : L2.St} {H : Hp} {p : Addr} {xs : List V} (ha : Val ta σ H (.ref p)) (h : SqL K H p xs ∨ SqT K H p xs) : Val (tCB (fun xs H Q => ∃ p ys, xs = [.ref p] ∧ (SqL K H p ys ∨ SqT K H p ys) ∧ Q (.int ys.length) H) (tCons ta tNil)) σ H (.int xs.length) := fun _ q => ha _ ⟨p, xs, rfl, h, q⟩
end Fm
namespace Fm
open PySem L2
/-! the rules, the written part told by name (a comprehension's block has another context, the same written part) -/
section
variable {X : Cx} {K : PySem.W.Frag}
theorem ix_K (h : X.K = K) : IxR X (rIx K) := h ▸ ix_seq
theorem len_K (h : X.K = K) : CallR X (.builtin "len") (fun xs H Q => ∃ x n, xs = [x] ∧ LenV K x H n ∧ Q (.int n) H) := h ▸ call_len
theorem isi_K (h : X.K = K) : CallR X (.builtin "isinstance") (rIsi K) := h ▸ call_isi
theorem isiT_K (h : X.K = K) : CallR X (.builtin "isinstance") (rIsiT K) := h ▸ call_isiT
theorem tpl_K (h : X.K = K) : CallR X (.type "tuple") (fun xs H Q => ∃ p ys, xs = [.ref p] ∧ ((SqL K H p ys ∧ ∀ l, H l = none → Q (.ref l) (upd H l (.tup ys))) ∨ (SqT K H p ys ∧ Q (.ref p) H))) := h ▸ call_tuple_of
theorem ls_K (h : X.K = K) : CallR X (.type "list") (fun xs H Q => ∃ p ys, xs = [.ref p] ∧ (SqL K H p ys ∨ SqT K H p ys) ∧ ∀ l, H l = none → Q (.ref l) (upd H l (.lst ys))) := h ▸ call_list_of
theorem any_K (h : X.K = K) (hc : X.calm = true) : CallR X (.builtin "any") (rAny K) := h ▸ cr_any hc
theorem all_K (h : X.K = K) (hc : X.calm = true) : CallR X (.builtin "all") (rAll K) := h ▸ cr_all hc
theorem in_K (h : X.K = K) : OpR X (compareOp .In) (rIn K false) := h ▸ op_in_seq
theorem nin_K (h : X.K = K) : OpR X (compareOp .NotIn) (rIn K true) := h ▸ op_notIn_seq
theorem eqD_K (h : X.K = K) (hu : X.A.units + 64 < cLine) : OpR X (compareOp .Eq) (rEqD K) := h ▸ op_eqD hu
theorem neD_K (h : X.K = K) (hu : X.A.units + 64 < cLine) : OpR X (compareOp .NotEq) (rNeD K) := h ▸ op_neD hu
theorem sorted_K (h : X.K = K) : CallR X (.builtin "sorted") (rSortedI K) := h ▸ cr_sortedI
theorem max_K (h : X.K = K) (hc : X.calm = true) : CallR X (.builtin "max") (rMax K) := h ▸ (cr_max hc)
theorem min_K (h : X.K = K) (hc : X.calm = true) : CallR X (.builtin "min") (rMin K) := h ▸ (cr_min hc)
theorem sum_K (h : X.K = K) (hc : X.calm = true) : CallR X (.builtin "sum") (rSum K) := h ▸ (cr_sum hc)
theorem sll_K (h : X.K = K) : SlR X (rSlL K) := h ▸ sl_list
theorem slt_K (h : X.K = K) : SlR X (rSlT K) := h ▸ sl_tup
theorem catT_K (h : X.K = K) : OpR X (binaryOp .Add) (rCatT K) := h ▸ op_catT
theorem repT_K (h : X.K = K) : OpR X (binaryOp .Mult) (rRepT K) := h ▸ op_repT
theorem pi_listK {tg l : Expr} {tl : TE} (h : X.K = K) (hl : PE X l tl) : PI X tg l (iList K tl) := h ▸ pi_list hl
theorem pi_tupK {tg l : Expr} {tl : TE} (h : X.K = K) (hl : PE X l tl) : PI X tg l (iTup K tl) := h ▸ pi_tup hl
theorem pt_truthK {a : Expr} {ta : TE} (h : X.K = K) (ha : PE X a ta) (he : ∀ whole, isTrue a X.env whole = (do let v ← whole; standAt a.pos; holding [v] (truthy v))) : PT X a (fun σ H Q => ta σ H fun x H' => ∃ k, TruV K x H' k ∧ Q k H') := h ▸ pt_truth ha he
end
end Fm
set_option Elab.async false
set_option linter.all false
set_option maxRecDepth 100000
set_option maxHeartbeats 1000000
namespace Fm
open PySem L2 Evl
/-! ### instructions, programs -/
inductive In where
  | get (c : Nat) | plus (c : Nat) | minus (c : Nat) | set (c : Nat) | put (k : Int) | say | ask | zero (t : Nat) | go (t : Nat) | stop | touch (c : Nat)
  deriving DecidableEq
def In.w : In → Str
  | .get _ => "get" | .plus _ => "plus" | .minus _ => "minus" | .set _ => "set" | .put _ => "put" | .say => "say" | .ask => "ask" | .zero _ => "zero" | .go _ => "go" | .stop => "stop" | .touch _ => "touch"
def In.arg : In → Option Int
  | .get c => some c | .plus c => some c | .minus c => some c | .set c => some c | .put k => some k | .say => none | .ask => none | .zero t => some t | .go t => some t | .stop => none | .touch c => some c
def In.vs (i : In) : List V := match i.arg with
  | none => [.str i.w]
  | some k => [.str i.w, .int k]
def In.ok (cells len : Nat) : In → Prop
  | .get c => c < cells | .plus c => c < cells | .minus c => c < cells | .set c => c < cells | .put k => -1000000 ≤ k ∧ k ≤ 1000000 | .say => True | .ask => True | .zero t => t ≤ len | .go t => t ≤ len | .stop => True | .touch c => c < cells
def In.isTouch : In → Bool
  | .touch _ => true
  | _ => false
def InAt (K : PySem.W.Frag) (H : Hp) (v : V) (i : In) : Prop := ∃ b, v = .ref b ∧ SqT K H b i.vs
def PgT (K : PySem.W.Frag) (H : Hp) (a : Addr) (p : List In) : Prop := ∃ xs, SqT K H a xs ∧ Paired (InAt K H) xs p
theorem InAt.up {K : PySem.W.Frag} {H H' : Hp} {v : V} {i : In} (e : Ex H H') (h : InAt K H v i) : InAt K H' v i := let ⟨b, h1, h2⟩ := h; ⟨b, h1, ex_t e h2⟩
theorem PgT.up {K : PySem.W.Frag} {H H' : Hp} {a : Addr} {p : List In} (e : Ex H H') (h : PgT K H a p) : PgT K H' a p := let ⟨xs, h1, h2⟩ := h; ⟨xs, ex_t e h1, Paired.mapP h2 fun _ _ z => z.up e⟩
theorem paired_get {α β : Type} {R : α → β → Prop} : ∀ {xs : List α} {ys : List β} {i : Nat} {y : β}, Paired R xs ys → ys[i]? = some y → ∃ x, xs[i]? = some x ∧ R x y
  | _, _, _, _, .nil, e => by simp at e
  | _, _, 0, _, .cons r _, e => by simp at e; subst e; exact ⟨_, rfl, r⟩
  | _, _, i + 1, y, .cons _ t, e => by
    obtain ⟨u, h1, h2⟩ := paired_get (i := i) (y := y) t (by simpa using e)
    exact ⟨u, by simpa using h1, h2⟩
theorem paired_append {α β : Type} {R : α → β → Prop} : ∀ {xs xs' : List α} {ys ys' : List β}, Paired R xs ys → Paired R xs' ys' → Paired R (xs ++ xs') (ys ++ ys')
  | _, _, _, _, .nil, s => s
  | _, _, _, _, .cons r t, s => .cons r (paired_append t s)
theorem atI_nat' {α : Type} {xs : List α} {i : Nat} {v : α} (h : xs[i]? = some v) : atI xs (i : Int) = some v := by
  have hi : i < xs.length := (List.getElem?_eq_some_iff.mp h).1
  unfold atI
  rw [ixN_nat hi]
  exact h
theorem vs_0 (i : In) : atI i.vs 0 = some (.str i.w) := by
  unfold In.vs
  cases i <;> rfl
theorem vs_1 {i : In} {k : Int} (h : i.arg = some k) : atI i.vs 1 = some (.int k) := by
  unfold In.vs
  rw [h]
  rfl
section
variable {K : PySem.W.Frag} {σ : L2.St} {H : Hp} {ta tb te : TE} {a b : Addr} {p : List In} {x : In} {n : Nat}
theorem ev_ixT {xs : List V} {i : Int} {v : V} (ha : Ev ta σ H (.ref a)) (hb : Ev tb σ H (.int i)) (h : SqT K H a xs) (e : atI xs i = some v) : Ev (tOp (rIx K) ta tb) σ H v :=
  ev_op ha hb fun H1 e1 _ q => .inr (.inl ⟨a, xs, i, v, rfl, rfl, ex_t e1 h, e, q H1 (Ex.refl H1)⟩)
theorem ev_ixL {xs : List V} {i : Int} {v : V} (ha : Ev ta σ H (.ref a)) (hb : Ev tb σ H (.int i)) (h : SqL K H a xs) (e : atI xs i = some v) : Ev (tOp (rIx K) ta tb) σ H v :=
  ev_op ha hb fun H1 e1 _ q => .inl ⟨a, xs, i, v, rfl, rfl, ex_l e1 h, e, q H1 (Ex.refl H1)⟩
theorem PgT.len (h : PgT K H a p) : ∃ xs, SqT K H a xs ∧ xs.length = p.length := let ⟨xs, h1, h2⟩ := h; ⟨xs, h1, Paired.length h2⟩
theorem PgT.at_ (h : PgT K H a p) (e : p[n]? = some x) : ∃ b, ∃ xs, SqT K H a xs ∧ atI xs (n : Int) = some (.ref b) ∧ SqT K H b x.vs := by
  obtain ⟨xs, h1, h2⟩ := h
  obtain ⟨v, hv, b, rfl, hb⟩ := paired_get h2 e
  exact ⟨b, xs, h1, atI_nat' hv, hb⟩
theorem ev_pg (h : PgT K H a p) (e : p[n]? = some x) (ha : Ev ta σ H (.ref a)) (hb : Ev tb σ H (.int (n : Int))) : ∃ b, Ev (tOp (rIx K) ta tb) σ H (.ref b) ∧ SqT K H b x.vs := by
  obtain ⟨b, xs, h1, h2, h3⟩ := h.at_ e
  exact ⟨b, ev_ixT ha hb h1 h2, h3⟩
/-- program[n][0] -/
theorem ev_pg0 (h : PgT K H a p) (e : p[n]? = some x) (ha : Ev ta σ H (.ref a)) (hb : Ev tb σ H (.int (n : Int))) : Ev (tOp (rIx K) (tOp (rIx K) ta tb) (tC (.int 0))) σ H (.str x.w) := by
  obtain ⟨b, h1, h2⟩ := ev_pg h e ha hb
  exact ev_ixT h1 ev_c h2 (vs_0 x)
theorem ev_pg1 {k : Int} (h : PgT K H a p) (e : p[n]? = some x) (hk : x.arg = some k) (ha : Ev ta σ H (.ref a)) (hb : Ev tb σ H (.int (n : Int))) : Ev (tOp (rIx K) (tOp (rIx K) ta tb) (tC (.int 1))) σ H (.int k) := by
  obtain ⟨b, h1, h2⟩ := ev_pg h e ha hb
  exact ev_ixT h1 ev_c h2 (vs_1 hk)
abbrev rLn (K : PySem.W.Frag) : List V → Hp → VK → Prop := fun xs H Q => ∃ x n, xs = [x] ∧ LenV K x H n ∧ Q (.int n) H
theorem ev_lnT {xs : List V} (ha : Ev ta σ H (.ref a)) (h : SqT K H a xs) : Ev (tCB (rLn K) (tCons ta tNil)) σ H (.int (xs.length : Int)) := fun H1 e Q q =>
  ha H1 e _ fun H2 e2 => ⟨_, _, rfl, .inr ⟨xs, ex_t (e.trans e2) h, rfl⟩, q H2 e2⟩
theorem ev_lnL {xs : List V} (ha : Ev ta σ H (.ref a)) (h : SqL K H a xs) : Ev (tCB (rLn K) (tCons ta tNil)) σ H (.int (xs.length : Int)) := fun H1 e Q q =>
  ha H1 e _ fun H2 e2 => ⟨_, _, rfl, .inl ⟨xs, ex_l (e.trans e2) h, rfl⟩, q H2 e2⟩
theorem ev_lnP (h : PgT K H a p) (ha : Ev ta σ H (.ref a)) : Ev (tCB (rLn K) (tCons ta tNil)) σ H (.int (p.length : Int)) := by
  obtain ⟨xs, h1, h2⟩ := h.len
  have := ev_lnT ha h1
  rw [h2] at this
  exact this
theorem ev_i0 {g : Int → Int → V} {i j : Int} (ha : Ev ta σ H (.int i)) (hb : Ev tb σ H (.int j)) : Ev (tOp (rI0 g) ta tb) σ H (g i j) := ev_op ha hb rv_I0
theorem et_i0 {g : Int → Int → Bool} {i j : Int} (ha : Ev ta σ H (.int i)) (hb : Ev tb σ H (.int j)) : EvT (tTest (tOp (rI0 fun i j => .bl (g i j)) ta tb)) σ H (g i j) := et_test (ev_i0 ha hb)
theorem et_eq {x y : V} (ha : Ev ta σ H x) (hb : Ev tb σ H y) (h : scal x y = true) : EvT (tTest (tOp rEq ta tb)) σ H (decide (x = y)) := et_test (ev_op ha hb (rv_eq h))
theorem et_ne {x y : V} (ha : Ev ta σ H x) (hb : Ev tb σ H y) (h : scal x y = true) : EvT (tTest (tOp rNe ta tb)) σ H (!decide (x = y)) := et_test (ev_op ha hb (rv_ne h))
theorem et_inT {xs : List V} {x : V} (ha : Ev ta σ H x) (hb : EvU tb σ H xs) (hx : flatV x = true) (hf : xs.all flatV = true) : EvT (tTest (tOp (rIn K false) ta tb)) σ H (inV x xs) := et_test (ev_inU ha hb hx hf)
theorem et_inL {xs : List V} {x : V} (ha : Ev ta σ H x) (hb : EvL tb σ H xs) (hx : flatV x = true) (hf : xs.all flatV = true) : EvT (tTest (tOp (rIn K false) ta tb)) σ H (inV x xs) := et_test (ev_opL ha hb fun _ _ h _ => rv_isL (sq_of h) hx hf)
theorem et_inK {xs : List V} {x : V} (ha : Ev ta σ H x) (hb : Ev tb σ H (.ref a)) (h : SqT K H a xs) (hx : flatV x = true) (hf : xs.all flatV = true) : EvT (tTest (tOp (rIn K false) ta tb)) σ H (inV x xs) := et_test (ev_op ha hb (rv_isT h hx hf))
theorem ev_inK {xs : List V} {x : V} (ha : Ev ta σ H x) (hb : Ev tb σ H (.ref a)) (h : SqT K H a xs) (hx : flatV x = true) (hf : xs.all flatV = true) : Ev (tOp (rIn K false) ta tb) σ H (.bl (inV x xs)) := ev_op ha hb (rv_isT h hx hf)
end
/-! ### where a program stands -/
def gstep (p : List In) (j : Nat) : Nat := match p[j]? with
  | some (.go t) => t
  | _ => j
def gn (p : List In) (i : Nat) : Nat → Nat
  | 0 => i
  | k + 1 => gstep p (gn p i k)
def In.isGo : In → Bool
  | .go _ => true
  | _ => false
def In.isEnd : In → Bool
  | .go _ => true | .stop => true
  | _ => false
def ends (p : List In) (j : Nat) : Bool := match p[j]? with
  | none => true
  | some x => x.isEnd
/-- where it stands, its length for the end -/
def stE (p : List In) (i : Nat) : Nat := if ends p (gn p i (p.length + 1)) then p.length else gn p i (p.length + 1)
def toI (p : List In) (e : Nat) : Int := if e = p.length then -1 else (e : Int)
def Pok (cells : Nat) (p : List In) : Prop := 0 < p.length ∧ ∀ i ∈ p, i.ok cells p.length
/-- no touch in it -/
def NoT (p : List In) : Prop := ∀ i ∈ p, i.isTouch = false
theorem gstep_le {cells : Nat} {p : List In} (h : Pok cells p) {j : Nat} (hj : j ≤ p.length) : gstep p j ≤ p.length := by
  unfold gstep
  split
  · rename_i t e
    have := h.2 _ (List.mem_of_getElem? e)
    exact this
  · exact hj
theorem gn_le {cells : Nat} {p : List In} (h : Pok cells p) {i : Nat} (hi : i ≤ p.length) : ∀ k, gn p i k ≤ p.length
  | 0 => hi
  | k + 1 => gstep_le h (gn_le h hi k)
theorem w_go (i : In) : decide (V.str i.w = V.str "go") = i.isGo := by cases i <;> kernel_rfl
def In.isStop : In → Bool
  | .stop => true
  | _ => false
theorem w_stop (i : In) : decide (V.str i.w = V.str "stop") = i.isStop := by cases i <;> kernel_rfl
theorem w_sg (i : In) : inV (V.str i.w) [.str "stop", .str "go"] = i.isEnd := by cases i <;> kernel_rfl
def nV (l : List Nat) : List V := l.map fun x => V.int (x : Nat)
theorem nV_get {l : List Nat} {i : Nat} {x : V} (h : (nV l)[i]? = some x) : ∃ y, l[i]? = some y ∧ x = V.int (y : Nat) := by
  unfold nV at h
  rw [List.getElem?_map] at h
  cases hh : l[i]? with
  | none => rw [hh] at h; cases h
  | some z => rw [hh] at h; exact ⟨z, rfl, (Option.some.inj h).symm⟩
theorem nV_len (l : List Nat) : (nV l).length = l.length := List.length_map _
theorem inV_nV {y : Nat} : ∀ {F : List Nat}, inV (.int (y : Nat)) (nV F) = decide (y ∈ F)
  | [] => rfl
  | x :: F => by
    have ih := inV_nV (y := y) (F := F)
    show (((x : Int) == (y : Int)) || inV (.int (y : Nat)) (nV F)) = decide (y ∈ x :: F)
    rw [ih, Bool.eq_iff_iff]
    simp only [Bool.or_eq_true, decide_eq_true_eq, List.mem_cons, beq_iff_eq]
    constructor
    · rintro (h | h)
      · exact .inl (by omega)
      · exact .inr h
    · rintro (h | h)
      · exact .inl (by omega)
      · exact .inr h
theorem nV_flat (F : List Nat) : (nV F).all flatV = true := by
  rw [List.all_eq_true]
  intro x hx
  obtain ⟨y, _, rfl⟩ := List.mem_map.mp hx
  rfl
end Fm
set_option Elab.async false
set_option linter.all false
set_option maxRecDepth 100000
namespace Fm
open PySem L2
def top (i : Nat) : Stmt := PySem.Challenge.pw_fademill_k02_whole_needs.main.body.getD i (.Pass ⟨0, 0, 0, 0⟩)
structure Txt (K : PySem.W.Frag) (mg : Str → Option Value) : Prop where
  z_int : mg "int" = none
  z_len : mg "len" = none
  z_range : mg "range" = none
  z_isinstance : mg "isinstance" = none
  z_bool : mg "bool" = none
  z_tuple : mg "tuple" = none
  z_list : mg "list" = none
  z_str : mg "str" = none
  z_any : mg "any" = none
  z_sorted : mg "sorted" = none
  z_reversed : mg "reversed" = none
  z_enumerate : mg "enumerate" = none
  z_all : mg "all" = none
  z_zip : mg "zip" = none
  z_max : mg "max" = none
  z_min : mg "min" = none
  c_MOST_CELLS : ∃ t, mg "MOST_CELLS" = some (.int 4 t)
  c_MOST_INSTRUCTIONS : ∃ t, mg "MOST_INSTRUCTIONS" = some (.int 20 t)
  c_MILLION : ∃ t, mg "MILLION" = some (.int 1000000 t)
end Fm
set_option Elab.async false
set_option linter.all false
set_option maxRecDepth 100000
set_option maxHeartbeats 1000000
namespace Fm
open PySem L2 Evl
/-- a def that may be called by its name -/
structure Cal (P : Program) (w : World) (K : PySem.W.Frag) (mg : Str → Option Value) (base : Heap) (CX : CXT) (k : Nat) (x : Str) (f : Addr) (fd : FuncData) (ps : List Str) (sp : Sp) : Prop where
  G : FnOk P w K mg base CX k f fd ps sp
  g : mg x = some (.ref f)
  kp : PySem.W.keepIn K (.ref f) = true
  b : Binds K fd ps []
theorem tyx_up {K : PySem.W.Frag} {H H' : Hp} {x : V} {t : Value} (e : Ex H H') (h : TyX K H x t) : TyX K H' x t := by
  cases h with
  | base h =>
    refine .base ?_
    cases h with
    | non => exact .non
    | bl b => exact .bl b
    | int i => exact .int i
    | str s => exact .str s
    | flt s => exact .flt s
    | lst a => exact .lst (e _ _ a)
    | frz a => exact .frz (e _ _ a)
    | tup a => exact .tup (e _ _ a)
    | dK a => exact .dK (e _ _ a)
    | dT a => exact .dT (e _ _ a)
    | ins a b c d f g => exact .ins (e _ _ a) b c d f g
  | byt b => exact .byt b
  | set a => exact .set (e _ _ a)
  | kList a b => exact .kList a b
  | kTuple a b => exact .kTuple a b
  | kDict a b => exact .kDict a b
  | fTuple a => exact .fTuple (e _ _ a)
  | fDict a => exact .fDict (e _ _ a)
theorem ty_tup {K : PySem.W.Frag} {H : Hp} {a : Addr} {xs : List V} (h : SqT K H a xs) : TyX K H (.ref a) (.type "tuple") := by
  rcases h with (h | ⟨o, h⟩) | ⟨o, _, _, h, c, _⟩
  · exact .base (.tup h)
  · exact .fTuple h
  · exact .kTuple h c
theorem ty_lst {K : PySem.W.Frag} {H : Hp} {a : Addr} {xs : List V} (h : SqL K H a xs) : TyX K H (.ref a) (.type "list") := by
  rcases h with (h | ⟨o, h⟩) | ⟨o, _, _, h, c, _⟩
  · exact .base (.lst h)
  · exact .base (.frz h)
  · exact .kList h c
/-- an int, or what is none -/
def IntV (K : PySem.W.Frag) (H : Hp) (x : V) : Option Int → Prop
  | some n => x = .int n
  | none => ∃ t, TyX K H x (.type t) ∧ (kitB t "int" = some false ∨ kitB t "int" = some true ∧ kitB t "bool" = some true)
theorem IntV.non {K : PySem.W.Frag} {H : Hp} : IntV K H .non none := ⟨"NoneType", .base .non, .inl (by decide +kernel)⟩
theorem IntV.bl {K : PySem.W.Frag} {H : Hp} {b : Bool} : IntV K H (.bl b) none := ⟨"bool", .base (.bl b), .inr ⟨by decide +kernel, by decide +kernel⟩⟩
theorem IntV.tup {K : PySem.W.Frag} {H : Hp} {a : Addr} {xs : List V} (h : SqT K H a xs) : IntV K H (.ref a) none := ⟨"tuple", ty_tup h, .inl (by decide +kernel)⟩
theorem IntV.up {K : PySem.W.Frag} {H H' : Hp} {x : V} {o : Option Int} (e : Ex H H') (h : IntV K H x o) : IntV K H' x o := by
  cases o with
  | some n => exact h
  | none =>
    obtain ⟨t, a, b⟩ := h
    exact ⟨t, tyx_up e a, b⟩
section
variable {K : PySem.W.Frag} {σ : L2.St} {H : Hp} {ta tb tc te : TE} {a b : Addr}
theorem ev_isi {x : V} {t n : String} {b : Bool} (ha : Ev ta σ H x) (ty : TyX K H x (.type t)) (e : kitB t n = some b) : Ev (tCB (rIsi K) (tCons ta (tCons (tC (.ty n)) tNil))) σ H (.bl b) := fun H1 e1 _ q =>
  ha H1 e1 _ fun H2 e2 => ⟨x, _, _, _, b, rfl, .ty n, tyx_up (e1.trans e2) ty, kit_ty e, q H2 e2⟩
theorem ev_chain {g g' : Int → Int → Bool} {i j k : Int} (ha : Ev ta σ H (.int i)) (hb : Ev tb σ H (.int j)) (hc : Ev tc σ H (.int k)) : Ev (tChain (rI0 fun i j => .bl (g i j)) (rI0 fun i j => .bl (g' i j)) ta tb tc) σ H (.bl (g i j && g' j k)) := fun H1 e1 Q q =>
  ha H1 e1 _ fun H2 e2 => hb H2 (e1.trans e2) _ fun H3 e3 => ⟨i, j, rfl, rfl, g i j, rfl, by
    cases h : g i j with
    | true => exact iteT (hc H3 ((e1.trans e2).trans e3) _ fun H4 e4 => ⟨j, k, rfl, rfl, by
        have := q H4 ((e2.trans e3).trans e4)
        rw [h] at this
        exact this⟩)
    | false =>
      refine iteF ?_
      have := q H3 (e2.trans e3)
      rw [h] at this
      exact this⟩
/-- a call -/
theorem s_call {sp : Sp} {E : XK} {ta : TA} {vs : List V} {D : Ends} (h : EvA ta σ H vs) (k : ∀ H1, Ex H H1 → sp (vs ++ []) H1 (fun _ H2 => D.nx σ H2) E) : tDrop (tCall sp [] E ta) D σ H := h H (Ex.refl H) _ k
theorem q_call {sp : Sp} {E : XK} {ta : TA} {vs : List V} {D : Ends} {tz : TS} (h : EvA ta σ H vs) (k : ∀ H1, Ex H H1 → sp (vs ++ []) H1 (fun _ H2 => tz D σ H2) E) : tSeq (tDrop (tCall sp [] E ta)) tz D σ H := h H (Ex.refl H) _ k
theorem q_callA {sp : Sp} {E : XK} {ta : TA} {vs : List V} {D : Ends} {tz : TS} {i : Nat} (h : EvA ta σ H vs) (k : ∀ H1, Ex H H1 → sp (vs ++ []) H1 (fun v H2 => tz D (σ.set i (some v)) H2) E) : tSeq (tAsg (tCall sp [] E ta) (gName i)) tz D σ H := h H (Ex.refl H) _ k
theorem s_callA {sp : Sp} {E : XK} {ta : TA} {vs : List V} {D : Ends} {i : Nat} (h : EvA ta σ H vs) (k : ∀ H1, Ex H H1 → sp (vs ++ []) H1 (fun v H2 => D.nx (σ.set i (some v)) H2) E) : tAsg (tCall sp [] E ta) (gName i) D σ H := h H (Ex.refl H) _ k
theorem s_callR {sp : Sp} {E : XK} {ta : TA} {vs : List V} {D : Ends} (h : EvA ta σ H vs) (k : ∀ H1, Ex H H1 → sp (vs ++ []) H1 (fun v H2 => D.rt v H2) E) : tRet (tCall sp [] E ta) D σ H := h H (Ex.refl H) _ k
theorem ev_callV {sp : Sp} {E : XK} {ta : TA} {vs : List V} {z : V} (h : EvA ta σ H vs) (hs : ∀ H1, Ex H H1 → ∀ Q : VK, (∀ H2, Ex H1 H2 → Q z H2) → sp (vs ++ []) H1 Q E) : Ev (tCall sp [] E ta) σ H z := fun H1 e Q q =>
  h H1 e _ fun H2 e2 => hs H2 (e.trans e2) Q fun H3 e3 => q H3 (e2.trans e3)
end
end Fm
set_option Elab.async false
set_option linter.all false
set_option maxRecDepth 100000
set_option maxHeartbeats 1000000
namespace Fm
open PySem L2
def spTaken (K : PySem.W.Frag) : Sp := fun vs H Q _ => ∃ (r s : Addr) (ns : List Int) (a b c many : Int), vs = [.ref r, .int many] ∧ H r = some (.lst [.ref s, .int a, .int b, .int c]) ∧ SqL K H s (ns.map V.int) ∧ 0 ≤ a ∧ 0 < many ∧ many < 1000000 ∧
  ∀ n a' b' c', 0 ≤ n → n < many → 0 ≤ a' → Q (.int n) (upd H r (.lst [.ref s, .int a', .int b', .int c']))
section
variable {P : Program} {w : World} {K : PySem.W.Frag} {mg : Str → Option Value} {base : Heap}
abbrev s_law_taken : Stmt := top 30
theorem sc_law_taken : FnScope ["row", "many", "found", "cell"] ["row", "many"] (defScope s_law_taken) := ⟨rfl, rfl, rfl, by decide +kernel, rfl, by decide +kernel, by decide +kernel⟩
--TY _law_taken {'row':('list','any'),'cell':'int','found':'int','many':'int'}
theorem fmod_lo {a b : Int} (h : 0 < b) : 0 ≤ a.fmod b := Int.fmod_nonneg_of_pos a h
theorem fmod_hi {a b : Int} (h : 0 < b) : a.fmod b < b := Int.fmod_lt_of_pos a h
theorem row_ne {H : Hp} {r s s' : Addr} {a b c : Int} {ns : List Int} (h1 : H r = some (.lst [.ref s', .int a, .int b, .int c])) (h : Rd H s (.lst (ns.map V.int))) : r ≠ s := fun z => by
  subst z
  rcases h with h | ⟨u, h⟩
  · rw [h1] at h
    cases ns with
    | nil => cases h
    | cons n ns => cases h
  · rw [h1] at h
    cases h
theorem SqL_upd {H : Hp} {r s s' : Addr} {o : HO} {a b c : Int} {ns : List Int} (h1 : H r = some (.lst [.ref s', .int a, .int b, .int c])) (h : SqL K H s (ns.map V.int)) : SqL K (upd H r o) s (ns.map V.int) := by
  rcases h with h | h
  · have ne := row_ne h1 h
    rcases h with h | ⟨u, h⟩
    · exact .inl (.inl (by rw [upd_ne (Ne.symm ne)]; exact h))
    · exact .inl (.inr ⟨u, by rw [upd_ne (Ne.symm ne)]; exact h⟩)
  · exact .inr h
theorem ok_taken {f : Addr} {fd : FuncData} (F : Fun K "_law_taken" "_law_taken" s_law_taken f fd) (T : Txt K mg) : FnOk P w K mg base CX0 1 f fd ["row", "many"] (spTaken K) := by
  refine F.ok sc_law_taken (fun vs H Q E h => ?_) (fun cdv A outer s H vs Q E hr h => ?_)
  · obtain ⟨_, _, _, _, _, _, _, rfl, _⟩ := h
    rfl
  · obtain ⟨r, s, ns, a, b, c, many, rfl, h1, hs, ha, hm, hm2, k⟩ := h
    refine ⟨_, (pss_cons (ps_if (pt_cmpR op_gt (pe_ix (ix_K (K := K) rfl) (pv 0) pe_int (fun _ _ => rfl)) pe_int (nomark _)) (pss_cons (ps_set (i := 2) sc_law_taken.nd rfl (Or.inl rfl) (pe_op op_modN (pe_callTy call_int1 (by rfl) T.z_int (by decide +kernel) (pa_cons (pe_ix (ix_K (K := K) rfl) (pv 0) pe_int (fun _ _ => rfl)) pa_nil)) (pv 1)))
  (pss_cons (ps_asg (pe_op op_fdivN (pe_ix (ix_K (K := K) rfl) (pv 0) pe_int (fun _ _ => rfl)) (pv 1)) (pg_sub (pv 0) pe_int set_list))
  (pss_one (ps_ret (pv 2))))) pss_nil)
  (pss_cons (ps_asg (pe_op op_add (pe_ix (ix_K (K := K) rfl) (pv 0) pe_int (fun _ _ => rfl)) pe_int) (pg_sub (pv 0) pe_int set_list))
  (pss_cons (ps_if (pt_cmpR op_gt (pe_ix (ix_K (K := K) rfl) (pv 0) pe_int (fun _ _ => rfl)) (pe_callB (len_K (K := K) rfl) (by rfl) T.z_len (by decide +kernel) (pa_cons (pe_ix (ix_K (K := K) rfl) (pv 0) pe_int (fun _ _ => rfl)) pa_nil)) (nomark _)) (pss_cons (ps_asg (pe_op op_modN (pe_callTy call_int1 (by rfl) T.z_int (by decide +kernel) (pa_cons (pe_op op_add (pe_op op_mul (pe_ix (ix_K (K := K) rfl) (pv 0) pe_int (fun _ _ => rfl)) pe_int) pe_int) pa_nil)) pe_int) (pg_sub (pv 0) pe_int set_list))
  (pss_one (ps_ret (pe_op op_modN (pe_callTy call_int1 (by rfl) T.z_int (by decide +kernel) (pa_cons (pe_op op_fdivN (pe_ix (ix_K (K := K) rfl) (pv 0) pe_int (fun _ _ => rfl)) pe_int) pa_nil)) (pv 1))))) pss_nil)
  (pss_cons (ps_set (i := 3) sc_law_taken.nd rfl (Or.inl rfl) (pe_ix (ix_K (K := K) rfl) (pe_ix (ix_K (K := K) rfl) (pv 0) pe_int (fun _ _ => rfl)) (pe_op op_sub (pe_ix (ix_K (K := K) rfl) (pv 0) pe_int (fun _ _ => rfl)) pe_int) (fun _ _ => rfl)))
  (pss_cons (ps_asg (pe_op op_modN (pe_callTy call_int1 (by rfl) T.z_int (by decide +kernel) (pa_cons (pe_op op_add (pe_op op_add (pe_op op_mul (pe_ix (ix_K (K := K) rfl) (pv 0) pe_int (fun _ _ => rfl)) pe_int) (pv 3)) pe_int) pa_nil)) pe_int) (pg_sub (pv 0) pe_int set_list))
  (pss_cons (ps_if (pt_cmpR op_ge (pv 3) (pe_op op_pow pe_int pe_int) (nomark _)) (pss_one (ps_asg (pe_op op_fdivN (pv 3) (pv 1)) (pg_sub (pv 0) pe_int set_list))) pss_nil)
  (pss_one (ps_ret (pe_op op_modN (pe_callTy call_int1 (by rfl) T.z_int (by decide +kernel) (pa_cons (pv 3) pa_nil)) (pv 1)))))))))), ?_⟩
    have nz : many ≠ 0 := by omega
    have hq := SqL.of (K := K) h1
    refine st_seq (st_if (ans_i0 (val_ixL (val_var rfl) val_c hq rfl) val_c) (fun hc => ?_) (fun hc => ?_))
    · -- a rest
      refine st_asg (val_i (val_int1 (val_ixL (val_var rfl) val_c hq rfl)) (val_var rfl) nz) ?_
      refine st_setL (val_i (val_ixL (val_var rfl) val_c hq rfl) (val_var rfl) ⟨nz, by omega⟩) (val_var rfl) val_c h1 rfl ?_
      refine st_ret (val_var rfl) ?_
      exact k _ _ _ _ (fmod_lo hm) (fmod_hi hm) ha
    · refine st_setL (val_i0 (val_ixL (val_var rfl) val_c hq rfl) val_c) (val_var rfl) val_c h1 rfl ?_
      have hq1 := SqL.of (K := K) (upd_same (H := H) (a := r) (o := .lst ([.ref s, .int a, .int b, .int c].set 1 (.int (a + 1)))))
      have hs1 := SqL_upd (K := K) (o := .lst ([.ref s, .int a, .int b, .int c].set 1 (.int (a + 1)))) h1 hs
      refine st_seq (st_if (ans_i0 (val_ixL (val_var rfl) val_c hq1 rfl) (val_lenX (val_ixL (val_var rfl) val_c hq1 rfl) (.inl ⟨_, hs1, rfl⟩))) (fun hc => ?_) (fun hc => ?_))
      · refine st_setL (val_i (val_int1 (val_i0 (val_i (val_ixL (val_var rfl) val_c hq1 rfl) val_c (.inr ⟨by decide, by decide⟩)) val_c)) val_c (by decide)) (val_var rfl) val_c upd_same rfl ?_
        rw [upd_upd]
        refine st_ret (val_i (val_int1 (val_i (val_ixL (val_var rfl) val_c (SqL.of upd_same) rfl) val_c ⟨by decide, by decide⟩)) (val_var rfl) nz) ?_
        exact k _ _ _ _ (fmod_lo hm) (fmod_hi hm) (by omega)
      · have hlt : a < (ns.length : Int) := by
          have := of_decide_eq_false hc
          rw [List.length_map] at this
          omega
        have e1 : atI (ns.map V.int) (a + 1 - 1) = some (.int (ns[a.toNat]'(by omega))) := by
          have : a + 1 - 1 = a := by omega
          rw [this]
          unfold atI ixN
          rw [if_pos ha, if_pos (by rw [List.length_map]; exact hlt)]
          simp
        refine st_asg (val_ixL (val_ixL (val_var rfl) val_c hq1 rfl) (val_i0 (val_ixL (val_var rfl) val_c hq1 rfl) val_c) hs1 e1) ?_
        refine st_setL (val_i (val_int1 (val_i0 (val_i0 (val_i (val_ixL (val_var rfl) val_c hq1 rfl) val_c (.inr ⟨by decide, by decide⟩)) (val_var rfl)) val_c)) val_c (by decide)) (val_var rfl) val_c upd_same rfl ?_
        rw [upd_upd]
        refine st_seq (st_if (ans_i0 (val_var rfl) (val_i val_c val_c ⟨by decide, by decide, by decide⟩)) (fun hc => ?_) (fun hc => ?_))
        · refine st_setL1 (val_i (val_var rfl) (val_var rfl) ⟨nz, by omega⟩) (val_var rfl) val_c upd_same rfl ?_
          rw [upd_upd]
          dsimp only
          refine st_ret (val_i (val_int1 (val_var rfl)) (val_var rfl) nz) ?_
          exact k _ _ _ _ (fmod_lo hm) (fmod_hi hm) (by omega)
        · refine st_next ?_
          dsimp only
          refine st_ret (val_i (val_int1 (val_var rfl)) (val_var rfl) nz) ?_
          exact k _ _ _ _ (fmod_lo hm) (fmod_hi hm) (by omega)
end
end Fm
set_option Elab.async false
set_option linter.all false
set_option maxRecDepth 100000
set_option maxHeartbeats 1000000
namespace Fm
open PySem L2 Evl
section
variable {P : Program} {w : World} {K : PySem.W.Frag} {mg : Str → Option Value} {base : Heap}
/-! ### is_integer -/
def inRange (o : Option Int) (lo hi : Int) : Bool := match o with
  | some n => decide (lo ≤ n) && decide (n ≤ hi)
  | none => false
def spIsInt (K : PySem.W.Frag) : Sp := fun vs H Q _ => ∃ (x : V) (lo hi : Int) (o : Option Int), vs = [x, .int lo, .int hi] ∧ IntV K H x o ∧ ∀ H', Ex H H' → Q (.bl (inRange o lo hi)) H'
def spIsWhole (K : PySem.W.Frag) : Sp := fun vs H Q _ => ∃ (x : V) (o : Option Int), vs = [x] ∧ IntV K H x o ∧ ∀ H', Ex H H' → Q (.bl o.isSome) H'
abbrev s_is_whole : Stmt := top 11
theorem sc_is_whole : FnScope ["value"] ["value"] (defScope s_is_whole) := ⟨rfl, rfl, rfl, by decide +kernel, rfl, by decide +kernel, by decide +kernel⟩
theorem ok_is_whole {f : Addr} {fd : FuncData} (F : Fun K "is_whole" "is_whole" s_is_whole f fd) (T : Txt K mg) : FnOk P w K mg base CX0 1 f fd ["value"] (spIsWhole K) := by
  refine F.ok sc_is_whole (fun vs H Q E h => ?_) (fun cdv A outer s H vs Q E hr h => ?_)
  · obtain ⟨_, _, rfl, _⟩ := h
    rfl
  · obtain ⟨x, o, rfl, hx, k⟩ := h
    refine ⟨_, (pss_one (ps_ret (pe_and (pe_callB (isi_K (K := K) rfl) (by rfl) T.z_isinstance (by decide +kernel) (pa_cons (pv 0) (pa_cons (pe_bltn (v := .ty "int") (by rfl) T.z_int (by decide +kernel) rfl) pa_nil))) (pe_one (pe_not (pe_callB (isi_K (K := K) rfl) (by rfl) T.z_isinstance (by decide +kernel) (pa_cons (pv 0) (pa_cons (pe_bltn (v := .ty "bool") (by rfl) T.z_bool (by decide +kernel) rfl) pa_nil)))))))), ?_⟩
    cases o with
    | some n =>
      cases hx
      refine s_ret (v := .bl (true && !false)) (ev_andV (ev_isi (t := "int") (ev_var rfl) (.base (.int n)) (by decide +kernel)) fun _ => ev_notV (ev_isi (t := "int") (ev_var rfl) (.base (.int n)) (by decide +kernel))) fun H1 e1 => k H1 e1
    | none =>
      obtain ⟨t, ty, h | ⟨h, h2⟩⟩ := hx
      · refine s_ret (v := .bl (false && false)) (ev_andV (b := false) (ev_isi (ev_var rfl) ty h) fun z => nomatch z) fun H1 e1 => k H1 e1
      · refine s_ret (v := .bl (true && !true)) (ev_andV (ev_isi (ev_var rfl) ty h) fun _ => ev_notV (ev_isi (ev_var rfl) ty h2)) fun H1 e1 => k H1 e1
abbrev s_is_integer : Stmt := top 12
theorem sc_is_integer : FnScope ["value", "low", "high"] ["value", "low", "high"] (defScope s_is_integer) := ⟨rfl, rfl, rfl, by decide +kernel, rfl, by decide +kernel, by decide +kernel⟩
theorem ok_is_integer {f f1 : Addr} {fd fd1 : FuncData} (F : Fun K "is_integer" "is_integer" s_is_integer f fd) (T : Txt K mg) (C_is_whole : Cal P w K mg base CX0 1 "is_whole" f1 fd1 ["value"] (spIsWhole K)) : FnOk P w K mg base CX0 2 f fd ["value", "low", "high"] (spIsInt K) := by
  refine F.ok sc_is_integer (fun vs H Q E h => ?_) (fun cdv A outer s H vs Q E hr h => ?_)
  · obtain ⟨_, _, _, _, rfl, _⟩ := h
    rfl
  · obtain ⟨x, lo, hi, o, rfl, hx, k⟩ := h
    refine ⟨_, (pss_one (ps_ret (pe_and (pe_call C_is_whole.G (hr.mono (by first | decide | omega)) rfl C_is_whole.g C_is_whole.kp C_is_whole.b .nil pass0 (pa_cons (pv 0) pa_nil)) (pe_one (pe_chain op_le op_le (pv 1) (pv 0) (pv 2)))))), ?_⟩
    cases o with
    | some n =>
      cases hx
      refine s_ret (v := .bl (true && (decide (lo ≤ n) && decide (n ≤ hi)))) (ev_andV (ev_callV (ea_cons (ev_var rfl) ea_nil) fun H1 e1 Q' q => ⟨_, some n, rfl, rfl, q⟩) fun _ => ev_chain (ev_var rfl) (ev_var rfl) (ev_var rfl)) fun H1 e1 => k H1 e1
    | none =>
      refine s_ret (v := .bl (false && false)) (ev_andV (b := false) (ev_callV (ea_cons (ev_var rfl) ea_nil) fun H1 e1 Q' q => ⟨_, none, rfl, hx.up e1, q⟩) fun z => nomatch z) fun H1 e1 => k H1 e1
/-! ### check_number, all well -/
def spChkNum : Sp := fun vs H Q _ => ∃ (n lo hi : Int), vs = [.int n, .int lo, .int hi] ∧ lo ≤ n ∧ n ≤ hi ∧ ∀ H', Ex H H' → Q .non H'
abbrev s_check_number : Stmt := top 13
theorem sc_check_number : FnScope ["value", "low", "high"] ["value", "low", "high"] (defScope s_check_number) := ⟨rfl, rfl, rfl, by decide +kernel, rfl, by decide +kernel, by decide +kernel⟩
theorem ok_check_number {f f1 : Addr} {fd fd1 : FuncData} (F : Fun K "check_number" "check_number" s_check_number f fd) (T : Txt K mg) (C_is_integer : Cal P w K mg base CX0 2 "is_integer" f1 fd1 ["value", "low", "high"] (spIsInt K)) : FnOk P w K mg base CX0 3 f fd ["value", "low", "high"] spChkNum := by
  refine F.ok sc_check_number (fun vs H Q E h => ?_) (fun cdv A outer s H vs Q E hr h => ?_)
  · obtain ⟨_, _, _, rfl, _⟩ := h
    rfl
  · obtain ⟨n, lo, hi, rfl, h1, h2, k⟩ := h
    refine ⟨_, (pss_one (ps_if (pt_not (pt_val (pe_call C_is_integer.G (hr.mono (by first | decide | omega)) rfl C_is_integer.g C_is_integer.kp C_is_integer.b .nil pass0 (pa_cons (pv 0) (pa_cons (pv 1) (pa_cons (pv 2) pa_nil)))))) (pss_one ps_never) pss_nil)), ?_⟩
    refine s_when (b := false) (et_not (a := true) (et_B (ev_callV (ea_cons (ev_var rfl) (ea_cons (ev_var rfl) (ea_cons (ev_var rfl) ea_nil))) fun H1 e1 Q q => ⟨_, lo, hi, some n, rfl, rfl, fun H2 e2 => ?_⟩))) (fun z => nomatch z) fun _ H1 e1 => k H1 e1
    have : inRange (some n) lo hi = true := by simp [inRange, h1, h2]
    rw [this]
    exact q H2 e2
def spChkCells : Sp := fun vs H Q _ => ∃ (n : Nat), vs = [.int (n : Int)] ∧ 1 ≤ n ∧ n ≤ 4 ∧ ∀ H', Ex H H' → Q .non H'
abbrev s_check_cells : Stmt := top 14
theorem sc_check_cells : FnScope ["value"] ["value"] (defScope s_check_cells) := ⟨rfl, rfl, rfl, by decide +kernel, rfl, by decide +kernel, by decide +kernel⟩
theorem ok_check_cells {f f1 : Addr} {fd fd1 : FuncData} (F : Fun K "check_cells" "check_cells" s_check_cells f fd) (T : Txt K mg) (C_check_number : Cal P w K mg base CX0 3 "check_number" f1 fd1 ["value", "low", "high"] spChkNum) : FnOk P w K mg base CX0 4 f fd ["value"] spChkCells := by
  refine F.ok sc_check_cells (fun vs H Q E h => ?_) (fun cdv A outer s H vs Q E hr h => ?_)
  · obtain ⟨_, rfl, _⟩ := h
    rfl
  · obtain ⟨n, rfl, h1, h2, k⟩ := h
    refine ⟨_, (pss_one (ps_expr (pe_call C_check_number.G (hr.mono (by first | decide | omega)) rfl C_check_number.g C_check_number.kp C_check_number.b .nil pass0 (pa_cons (pv 0) (pa_cons pe_int (pa_cons (pe_glob (v := .int 4) rfl T.c_MOST_CELLS.choose_spec ⟨_, rfl⟩) pa_nil)))))), ?_⟩
    refine s_call (ea_cons (ev_var rfl) (ea_cons ev_c (ea_cons ev_c ea_nil))) fun H1 e1 => ⟨(n : Int), 1, 4, rfl, by omega, by omega, fun H2 e2 => k H2 (e1.trans e2)⟩
/-! ### is_instruction, one that is one -/
def spIsIn (K : PySem.W.Frag) : Sp := fun vs H Q _ => ∃ (c n : Nat) (v : V) (i : In), vs = [.int (c : Int), .int (n : Int), v] ∧ InAt K H v i ∧ i.ok c n ∧ i.isTouch = false ∧ ∀ H', Ex H H' → Q (.bl true) H'
/-- the words of the module's top -/
structure Wds (K : PySem.W.Frag) (mg : Str → Option Value) (aA aC aP : Addr) : Prop where
  g_ALONE : mg "ALONE" = some (.ref aA)
  g_WITH_CELL : mg "WITH_CELL" = some (.ref aC)
  g_WITH_PLACE : mg "WITH_PLACE" = some (.ref aP)
  A : ∀ H, SqT K H aA [.str "say", .str "ask", .str "stop"]
  C : ∀ H, SqT K H aC [.str "get", .str "plus", .str "minus", .str "set"]
  Pl : ∀ H, SqT K H aP [.str "zero", .str "go"]
end
end Fm
set_option Elab.async false
set_option linter.all false
set_option maxRecDepth 100000
set_option maxHeartbeats 1000000
namespace Fm
open PySem PySem.Spec PyProof.Rows L2
/-! enumerate over a tuple -/
theorem meets_enum1 {v : Value} {o : Obj} {G : Heap → Prop} (B : Begins v o G) :
    Meets (Builtin.«enumerate.__new__» ⟨[.type "enumerate", v], []⟩) (fun _ R s => G s.heap ∧
      R (.ok (.ret (.ref (s.heap.push o).objs.size))) { s with heap := (s.heap.push o).push { cls := .type "enumerate", data := .fields #[.none, .bool false, .ref s.heap.objs.size, rawInt 0, .none, .none] } }) :=
  .of_wp fun prog w A R s h => by
    obtain ⟨hp, g, d, tk, os⟩ := s; have h1 := h.1; have h2 := h.2
    have hsub := sub_enumerate
    have q1 : ∀ {A' : Around} {E : Value → Shared → Prop} {Q : Value → Shared → Prop}, Q (.ref hp.objs.size) ⟨hp.push o, g, d, tk, os⟩ → wpAny (model prog w) A' (pyIter v) Q E ⟨hp, g, d, tk, os⟩ :=
      fun q => B.iter prog w _ _ ⟨hp, g, d, tk, os⟩ _ h1 q
    wp_walk using q1
    refine wpAny_stack_any fun st => wpAny_pure ?_
    split
    · rename_i c _ _ _ _ _
      cases (c == Value.type "enumerate") <;> (wp_walk using q1; exact ⟨_, rfl, h2⟩)
    · wp_walk using q1; exact ⟨_, rfl, h2⟩
section
variable {prog : Program} {w : World} {A : Around} {E : Value → Shared → Prop} {s : Shared}
theorem call_enum_tup {a : Addr} {its : Array Value} {Q : Value → Shared → Prop} (hL : s.heap.IsTuple a its)
    (h : ∀ h', IsEnum h' (s.heap.objs.size + 1) s.heap.objs.size 0 .none → h'.IsTupleIter s.heap.objs.size a 0 → (∀ b o, s.heap.get? b = some o → h'.get? b = some o) → Q (.ref (s.heap.objs.size + 1)) { s with heap := h' }) :
    wpAny (model prog w) A (call (.type "enumerate") [.ref a]) Q E s := by
  refine callType_new F.called_enumerate (by decide) (F.typeCall_enumerate_1 _) (F.newCall_enumerate_1 _) (fun obj => F.args_object_init_2 obj _) F.entry_enumerate_new (meets_enum1 (begins_tuple a its)) ⟨hL, ?_⟩
  have hz : (s.heap.push { cls := .type "tuple_iterator", data := .fields #[.ref a, .int 0 0] }).objs.size = s.heap.objs.size + 1 := Heap.size_push ..
  rw [hz]
  have he : IsEnum ((s.heap.push { cls := .type "tuple_iterator", data := .fields #[.ref a, .int 0 0] }).push { cls := .type "enumerate", data := .fields #[.none, .bool false, .ref s.heap.objs.size, rawInt 0, .none, .none] }) (s.heap.objs.size + 1) s.heap.objs.size 0 .none := by
    have y := Heap.get?_push_size (s.heap.push { cls := .type "tuple_iterator", data := .fields #[.ref a, .int 0 0] }) (o := { cls := .type "enumerate", data := .fields #[.none, .bool false, .ref s.heap.objs.size, rawInt 0, .none, .none] }) rfl
    rw [hz] at y; exact y
  exact ⟨⟨_, he, rfl⟩, h _ he ⟨_, Heap.get?_push_of_some _ (Heap.get?_push_size _ rfl), rfl, rfl⟩ fun b o x => Heap.get?_push_of_some _ (Heap.get?_push_of_some _ x)⟩
end
def Itet (K : PySem.W.Frag) (a : Addr) : It :=
  ⟨fun i H => ∃ (xs : List V) (x : V), SqT K H a xs ∧ xs[i]? = some x, fun i H v H' => ∃ T x, v = .ref T ∧ H T = none ∧ H' = upd H T (.tup [.int (i : Nat), x]) ∧ ∀ xs, SqT K H a xs → xs[i]? = some x, fun i H => ∃ xs : List V, SqT K H a xs ∧ xs.length = i⟩
theorem turn_enumT {P : Program} {w : World} {K : PySem.W.Frag} {elts : List Expr} {kk : Nat} {tpos : Pos} (a e it : Addr) (hat : a ≠ it) :
    Turn P w K (.Tuple elts kk tpos) (Itet K a) [e, it] e (fun i h => (∃ old, IsEnum h e it ((i : Nat) : Int) old) ∧ h.IsTupleIter it a i ∧ e ≠ it ∧ e ≠ a) where
  mem := by simp
  obj := fun i h st b hb => by
    obtain ⟨⟨old, he⟩, ⟨o, ho, hc, hd⟩, _⟩ := st
    rcases (show b = e ∨ b = it by simpa using hb) with z | z
    · rw [z]; exact ⟨_, he, fun v q => nomatch q⟩
    · rw [z]; exact ⟨o, ho, fun v q => by rw [hd] at q; cases q⟩
  keep := fun i h h' st k => let ⟨⟨old, he⟩, hi, hne⟩ := st; ⟨⟨old, k e (by simp) _ he⟩, hi.at fun o q => k it (by simp) o q, hne⟩
  item := by
    intro X hP hw hK hc i pins s σ H E I hf st hg
    subst hP hw hK
    obtain ⟨⟨old, he⟩, hit, hne, hea⟩ := st
    obtain ⟨xs, x, hq, hx⟩ := hg
    obtain ⟨its, rv, p, hz⟩ := I.tuple hq
    obtain ⟨u, hu, ru⟩ := rv.get hx
    have p' : s.heap.IsTuple a its.toArray := p
    have hel : e < s.heap.objs.size := Heap.lt_size he
    have hil : it < s.heap.objs.size := by obtain ⟨_, q, _⟩ := hit; exact Heap.lt_size q
    have hil2 : i < its.toArray.size := by
      have := (List.getElem?_eq_some_iff.mp hu).1
      simpa using this
    refine wpAny_pyNext_enum_itemC (Draws.tuple (A := X.A.in1) (I.ok.hd hc) it a hat its.toArray) he ⟨hit, p'⟩ hil2 hne (by simp [hne, hea]) fun x2 h' tk hP2 ho hst' hT hsz hk => ?_
    have ex2 : x2 = u := by
      have q : its.toArray[i]? = some x2 := hP2
      rw [List.getElem?_toArray, hu] at q
      exact (Option.some.inj q).symm
    subst ex2
    refine ⟨_, rfl, wpAny_letOwnedTupleGo_enum (s := { s with heap := h', toks := tk + 1 }) ho fun h'' he' sb => ?_⟩
    have hT2 : h''.get? s.heap.objs.size = some { cls := .type "tuple", data := .seq #[.int i tk, x2] } := (sb.2 _ (Nat.ne_of_gt hel)).trans hT
    have new : ObjOk X.prog X.w (upd H s.heap.objs.size (.tup [.int (i : Nat), x])) h'' s.heap.objs.size (.tup [.int (i : Nat), x]) :=
      ⟨by show 2 ≤ sizeLine; decide, [.int i tk, x2], .cons ⟨_, rfl⟩ (.cons ru .nil), ⟨_, hT2, rfl, _, rfl⟩⟩
    have I1 : Inv X pins σ (upd H s.heap.objs.size (.tup [.int (i : Nat), x])) { s with heap := h'', toks := tk + 1 } :=
      I.turnedNew (ch := [e, it]) (fun b ob hb q => (sb.2 b (fun z => hb (by simp [z]))).trans (hk b ob (fun z => hb (by simp [z])) (fun z => hb (by simp [z])) q)) hf (Nat.le_refl _) new
    refine ⟨.ref s.heap.objs.size, _, I1, rfl, ⟨_, x, rfl, I.hok.fresh (Nat.le_refl _), rfl, fun ys hy => by rw [I.tuple_inj hy hq]; exact hx⟩, ⟨⟨x2, ?_⟩, hst'.1.at fun o q => (sb.2 it (Ne.symm hne)).trans q, hne, hea⟩, fun b hb => ?_⟩
    · have e1 : ((i + 1 : Nat) : Int) = (i : Int) + 1 := by omega
      rw [e1]; exact he'
    · have hb' : b < s.heap.objs.size := by
        rcases (show b = e ∨ b = it by simpa using hb) with z | z
        · rw [z]; exact hel
        · rw [z]; exact hil
      rw [upd_ne (Nat.ne_of_lt hb')]
      exact (hf b hb).1
  done := by
    intro X hP hw hK hc i pins s σ H E I hf st hg
    subst hP hw hK
    obtain ⟨⟨old, he⟩, hit, hne, hea⟩ := st
    obtain ⟨xs, hq, hx⟩ := hg
    obtain ⟨its, rv, p, hz⟩ := I.tuple hq
    have p' : s.heap.IsTuple a its.toArray := p
    obtain ⟨f0, f1, f2, f3, f4, f5⟩ := hf it (by simp)
    have hl := rv.length
    have hsz : its.toArray.size = i := by
      rw [List.size_toArray]
      omega
    refine wpAny_pyNext_enum_endD (Draws.tuple (A := X.A.in1) (I.ok.hd hc) it a hat its.toArray) he ⟨by rw [hsz]; exact hit, p'⟩ fun h' eb => ⟨rfl, I.turned (t' := s.toks) (fun b o hb q => eb b o hb q) f0 f1 f3 f4 f5⟩
  self := fun A i s Q E st h => let ⟨⟨_, he⟩, _⟩ := st; wpAny_pyIter_enum he h
def iEnumT (K : PySem.W.Frag) (ta : TA) : TI := fun σ H R => ta σ H fun vs H1 => ∃ a xs, vs = [.ref a] ∧ SqT K H1 a xs ∧ R (Itet K a) H1
theorem pi_enumT {X : Cx} {e : Expr} {ta : TA} {p pos tpos : Pos} {elts : List Expr} {kk : Nat} (hg : Gl X "enumerate") (hm : X.mg "enumerate" = none) (ha : PA X [e] ta) (hs : starEach [e] X.env = [(false, eval e X.env)] := by rfl) :
    PI X (.Tuple elts kk tpos) (.Call (.Name "enumerate" p) [e] [] pos) (iEnumT X.K ta) := by
  refine ⟨fun pins s σ H R I h => ?_⟩
  refine Call_ (ld_blt I hg hm boot_enumerate (PyProof.Rows.callWith_type1 (thn (ha.run pos pins s σ H _ I h) fun us s1 ⟨vs, H1, I1, r1, q1⟩ => ?_) hs rfl))
  obtain ⟨a, xs, ex, hq, q⟩ := q1
  subst ex
  cases r1 with
  | cons r rr =>
    cases rr
    cases r
    obtain ⟨its, rv, p', hz⟩ := I1.tuple hq
    have p'' : s1.heap.IsTuple a its.toArray := p'
    have hal : a < s1.heap.objs.size := p'.lt
    refine call_enum_tup p'' fun h' he hit hk => wpAny_pyIter_enum he ?_
    have I2 : Inv X pins σ H1 { s1 with heap := h' } := I1.kept (t' := s1.toks) hk
    refine ⟨s1.heap.objs.size + 1, [s1.heap.objs.size + 1, s1.heap.objs.size], _, _, H1, rfl, I2, turn_enumT a (s1.heap.objs.size + 1) s1.heap.objs.size (Nat.ne_of_lt hal), ⟨⟨.none, he⟩, hit, Nat.succ_ne_self _, Nat.ne_of_gt (Nat.lt_succ_of_lt hal)⟩, fun b hb => ?_, q⟩
    have hle : s1.heap.objs.size ≤ b := by
      rcases (show b = s1.heap.objs.size + 1 ∨ b = s1.heap.objs.size by simpa using hb) with z | z
      · rw [z]; exact Nat.le_add_right _ _
      · rw [z]; exact Nat.le_refl _
    exact I1.fpOk hle (I1.hok.fresh hle)
open Evl in
/-- for i, x in enumerate(t), t a tuple; Pv by the turn -/
theorem s_forET {K : PySem.W.Frag} {a : Addr} {xs : List V} {te : TE} {i j : Nat} {tu : TS} {D : Ends} {σ : L2.St} {H : Hp} (h : Ev te σ H (.ref a)) (hx : SqT K H a xs) (Pv : Nat → L2.St → Hp → Prop) (h0 : ∀ H1, Ex H H1 → Pv 0 σ H1)
    (hl : ∀ m σ' H', m ≤ xs.length → Pv m σ' H' → SqT K H' a xs)
    (hs : ∀ m x σ' H', xs[m]? = some x → Pv m σ' H' → ∀ H2, Ex H' H2 → tu { D with nx := Pv (m + 1), ct := Pv (m + 1), bk := D.nx } ((σ'.set i (some (.int (m : Int)))).set j (some x)) H2) (hd : ∀ σ' H', Pv xs.length σ' H' → D.nx σ' H') :
    tFor (iEnumT K (tCons te tNil)) (gTup K 2 (gCons (gName i) (gCons (gName j) gNil))) tu D σ H := h H (Ex.refl H) _ fun H1 e => by
  refine ⟨a, xs, rfl, ex_t e hx, fun m μ σ H => μ = xs.length - m ∧ m ≤ xs.length ∧ Pv m σ H, ⟨xs.length, by simp, Nat.zero_le _, h0 H1 e⟩, ?_⟩
  rintro m μ σ2 H2 ⟨rfl, hm, p⟩
  have q := hl m σ2 H2 hm p
  by_cases hlt : m < xs.length
  · refine .inr ⟨⟨xs, xs[m], q, by simp [hlt]⟩, Pv (m + 1), fun σ' H' p' => ⟨xs.length - (m + 1), by omega, rfl, hlt, p'⟩, ?_⟩
    rintro v H3 ⟨T, x, rfl, hT, rfl, hy⟩
    refine ⟨T, _, rfl, SqT.of upd_same, rfl, _, _, rfl, ?_⟩
    refine ⟨_, _, rfl, ?_⟩
    exact ⟨rfl, hs m x σ2 H2 (hy xs q) p _ (Ex.new hT)⟩
  · have e2 : m = xs.length := by omega
    subst e2
    exact .inl ⟨⟨xs, q, rfl⟩, hd σ2 H2 p⟩
open Evl in
theorem q_forET {K : PySem.W.Frag} {a : Addr} {xs : List V} {te : TE} {i j : Nat} {tu tz : TS} {D : Ends} {σ : L2.St} {H : Hp} (h : Ev te σ H (.ref a)) (hx : SqT K H a xs) (Pv : Nat → L2.St → Hp → Prop) (h0 : ∀ H1, Ex H H1 → Pv 0 σ H1)
    (hl : ∀ m σ' H', m ≤ xs.length → Pv m σ' H' → SqT K H' a xs)
    (hs : ∀ m x σ' H', xs[m]? = some x → Pv m σ' H' → ∀ H2, Ex H' H2 → tu { D with nx := Pv (m + 1), ct := Pv (m + 1), bk := tz D } ((σ'.set i (some (.int (m : Int)))).set j (some x)) H2) (hd : ∀ σ' H', Pv xs.length σ' H' → tz D σ' H') :
    tSeq (tFor (iEnumT K (tCons te tNil)) (gTup K 2 (gCons (gName i) (gCons (gName j) gNil))) tu) tz D σ H := s_forET (D := { D with nx := tz D }) h hx Pv h0 hl hs hd
end Fm
set_option Elab.async false
set_option linter.all false
set_option maxRecDepth 100000
set_option maxHeartbeats 1000000
namespace Fm
open PySem L2 Evl
section
variable {K : PySem.W.Frag} {H : Hp} {σ : L2.St} {ta tb : TE}
def In.one : In → Bool
  | .say => true | .ask => true | .stop => true
  | _ => false
def In.cel : In → Bool
  | .get _ => true | .plus _ => true | .minus _ => true | .set _ => true
  | _ => false
def In.pla : In → Bool
  | .zero _ => true | .go _ => true
  | _ => false
theorem w_one (i : In) : inV (V.str i.w) [.str "say", .str "ask", .str "stop"] = i.one := by cases i <;> kernel_rfl
theorem w_cel (i : In) : inV (V.str i.w) [.str "get", .str "plus", .str "minus", .str "set"] = i.cel := by cases i <;> kernel_rfl
theorem w_pla (i : In) : inV (V.str i.w) [.str "zero", .str "go"] = i.pla := by cases i <;> kernel_rfl
def In.isPut : In → Bool
  | .put _ => true
  | _ => false
theorem w_put (i : In) : decide (V.str i.w = V.str "put") = i.isPut := by cases i <;> kernel_rfl
theorem vs_len (i : In) : i.vs.length = (match i.arg with | none => 1 | some _ => 2) := by
  unfold In.vs
  cases i <;> rfl
theorem ev_neg {i : Int} (h : Ev ta σ H (.int i)) : Ev (tUn (rU fun i => .int (-i)) ta) σ H (.int (-i)) := ev_un h ru_neg
end
structure WdR (K : PySem.W.Frag) (mg : Str → Option Value) (aR : Addr) : Prop where
  g_READS : mg "READS" = some (.ref aR)
  R : ∀ H, SqT K H aR [.str "get", .str "plus", .str "minus"]
def In.rd : In → Bool
  | .get _ => true | .plus _ => true | .minus _ => true
  | _ => false
theorem w_rd (i : In) : inV (V.str i.w) [.str "get", .str "plus", .str "minus"] = i.rd := by cases i <;> kernel_rfl
def In.isSet : In → Bool
  | .set _ => true
  | _ => false
theorem w_set (i : In) : decide (V.str i.w = V.str "set") = i.isSet := by cases i <;> kernel_rfl
section
variable {P : Program} {w : World} {K : PySem.W.Frag} {mg : Str → Option Value} {base : Heap}
abbrev s_is_instruction : Stmt := top 15
theorem sc_is_instruction : FnScope ["cells", "length", "value", "word"] ["cells", "length", "value"] (defScope s_is_instruction) := ⟨rfl, rfl, rfl, by decide +kernel, rfl, by decide +kernel, by decide +kernel⟩
--TY is_instruction {'value':('tuple','any')}
theorem ok_is_instruction {f f1 aA aC aP : Addr} {fd fd1 : FuncData} (F : Fun K "is_instruction" "is_instruction" s_is_instruction f fd) (T : Txt K mg) (Wd : Wds K mg aA aC aP) (C_is_integer : Cal P w K mg base CX0 2 "is_integer" f1 fd1 ["value", "low", "high"] (spIsInt K)) : FnOk P w K mg base CX0 3 f fd ["cells", "length", "value"] (spIsIn K) := by
  refine F.ok sc_is_instruction (fun vs H Q E h => ?_) (fun cdv A outer s H vs Q E hr h => ?_)
  · obtain ⟨_, _, _, _, rfl, _⟩ := h
    rfl
  · obtain ⟨c, n, v, i, rfl, ⟨b, rfl, hb⟩, hok, hT, k⟩ := h
    refine ⟨_, (pss_cons (ps_if (PW.pt (pw_or (pt_not (pt_val (pe_callB (isi_K (K := K) rfl) (by rfl) T.z_isinstance (by decide +kernel) (pa_cons (pv 2) (pa_cons (pe_bltn (v := .ty "tuple") (by rfl) T.z_tuple (by decide +kernel) rfl) pa_nil))))) (pw_or1 (pt_cmpR (nin_K (K := K) rfl) (pe_callB (len_K (K := K) rfl) (by rfl) T.z_len (by decide +kernel) (pa_cons (pv 2) pa_nil)) (pe_tup (pa_cons pe_int (pa_cons pe_int pa_nil))) (by rfl))))) (pss_one (ps_ret pe_bl)) pss_nil)
  (pss_cons (ps_set (i := 3) sc_is_instruction.nd rfl (Or.inl rfl) (pe_ix (ix_K (K := K) rfl) (pv 2) pe_int (fun _ _ => rfl)))
  (pss_cons (ps_if (pt_cmpR op_eq (pe_callB (len_K (K := K) rfl) (by rfl) T.z_len (by decide +kernel) (pa_cons (pv 2) pa_nil)) pe_int (nomark _)) (pss_one (ps_ret (pe_cmpR (in_K (K := K) rfl) (pv 3) (pe_glob (v := .ref _) rfl Wd.g_ALONE rfl) (by rfl)))) pss_nil)
  (pss_cons (ps_if (pt_cmpR (in_K (K := K) rfl) (pv 3) (pe_glob (v := .ref _) rfl Wd.g_WITH_CELL rfl) (by rfl)) (pss_one (ps_ret (pe_call C_is_integer.G (hr.mono (by first | decide | omega)) rfl C_is_integer.g C_is_integer.kp C_is_integer.b .nil pass0 (pa_cons (pe_ix (ix_K (K := K) rfl) (pv 2) pe_int (fun _ _ => rfl)) (pa_cons pe_int (pa_cons (pe_op op_sub (pv 0) pe_int) pa_nil)))))) pss_nil)
  (pss_cons (ps_if (pt_cmpR (in_K (K := K) rfl) (pv 3) (pe_glob (v := .ref _) rfl Wd.g_WITH_PLACE rfl) (by rfl)) (pss_one (ps_ret (pe_call C_is_integer.G (hr.mono (by first | decide | omega)) rfl C_is_integer.g C_is_integer.kp C_is_integer.b .nil pass0 (pa_cons (pe_ix (ix_K (K := K) rfl) (pv 2) pe_int (fun _ _ => rfl)) (pa_cons pe_int (pa_cons (pv 1) pa_nil)))))) pss_nil)
  (pss_one (ps_ret (pe_and (pe_cmpR op_eq (pv 3) pe_str (nomark _)) (pe_one (pe_call C_is_integer.G (hr.mono (by first | decide | omega)) rfl C_is_integer.g C_is_integer.kp C_is_integer.b .nil pass0 (pa_cons (pe_ix (ix_K (K := K) rfl) (pv 2) pe_int (fun _ _ => rfl)) (pa_cons (pe_un un_neg (pe_glob (v := .int 1000000) rfl T.c_MILLION.choose_spec ⟨_, rfl⟩)) (pa_cons (pe_glob (v := .int 1000000) rfl T.c_MILLION.choose_spec ⟨_, rfl⟩) pa_nil))))))))))))), ?_⟩
    have hlen := vs_len i
    have hin : inV (V.int (i.vs.length : Int)) [.int 1, .int 2] = true := by
      rw [hlen]
      cases i <;> rfl
    refine q_when (b := false) (et_is (et_or (b := false) (et_not (et_B (ev_isi (t := "tuple") (b := true) (ev_var rfl) (ty_tup hb) (by decide +kernel)))) fun _ => et_is (et_test (ev_niU (ev_lnT (ev_var rfl) hb) (eu_tup (ea_cons ev_c (ea_cons ev_c ea_nil)) (by decide)) rfl rfl)) (by rw [hin]; rfl)) rfl) (fun z => nomatch z) fun _ H1 e1 => ?_
    have hb1 := ex_t e1 hb
    refine q_asg (ev_ixT (ev_var rfl) ev_c hb1 (vs_0 i)) fun H2 e2 => ?_
    have hb2 := ex_t e2 hb1
    refine q_when (et_eq (ev_lnT (ev_var rfl) hb2) ev_c rfl) (fun hc H3 e3 => ?_) (fun hc H3 e3 => ?_)
    · have ha : i.one = true := by
        have := of_decide_eq_true hc
        cases i <;> simp_all [In.isTouch, In.one, In.vs, In.arg]
      refine s_ret (ev_inK (ev_var rfl) ev_c (Wd.A _) rfl rfl) fun H4 e4 => ?_
      rw [w_one, ha]
      exact k H4 (((e1.trans e2).trans e3).trans e4)
    · obtain ⟨z, hz⟩ : ∃ z, i.arg = some z := by
        have := of_decide_eq_false hc
        cases i <;> simp_all [In.isTouch, In.vs, In.arg]
      have hb3 := ex_t e3 hb2
      refine q_when (et_inK (ev_var rfl) ev_c (Wd.C _) rfl rfl) (fun hc2 H4 e4 => ?_) (fun hc2 H4 e4 => ?_)
      · rw [w_cel] at hc2
        refine s_callR (ea_cons (ev_ixT (ev_var rfl) ev_c (ex_t e4 hb3) (vs_1 hz)) (ea_cons ev_c (ea_cons (ev_i0 (ev_var rfl) ev_c) ea_nil))) fun H5 e5 => ⟨_, 0, (c : Int) - 1, some z, rfl, rfl, fun H6 e6 => ?_⟩
        have : inRange (some z) 0 ((c : Int) - 1) = true := by
          cases i <;> simp_all [In.isTouch, In.cel, In.ok, In.arg, inRange] <;> omega
        rw [this]
        exact k H6 (((((e1.trans e2).trans e3).trans e4).trans e5).trans e6)
      · rw [w_cel] at hc2
        refine q_when (et_inK (ev_var rfl) ev_c (Wd.Pl _) rfl rfl) (fun hc3 H5 e5 => ?_) (fun hc3 H5 e5 => ?_)
        · rw [w_pla] at hc3
          refine s_callR (ea_cons (ev_ixT (ev_var rfl) ev_c (ex_t (e4.trans e5) hb3) (vs_1 hz)) (ea_cons ev_c (ea_cons (ev_var rfl) ea_nil))) fun H6 e6 => ⟨_, 0, (n : Int), some z, rfl, rfl, fun H7 e7 => ?_⟩
          have : inRange (some z) 0 (n : Int) = true := by
            cases i <;> simp_all [In.isTouch, In.pla, In.ok, In.arg, inRange] <;> omega
          rw [this]
          exact k H7 ((((((e1.trans e2).trans e3).trans e4).trans e5).trans e6).trans e7)
        · rw [w_pla] at hc3
          have hp : i.isPut = true := by cases i <;> simp_all [In.isTouch, In.pla, In.cel, In.isPut, In.ok, In.arg]
          refine s_ret (v := .bl true) (ev_is (ev_andV (ev_op (ev_var rfl) ev_c (rv_eq rfl)) (b := true) fun _ => ev_callV (ea_cons (ev_ixT (ev_var rfl) ev_c (ex_t (e4.trans e5) hb3) (vs_1 hz)) (ea_cons (ev_neg ev_c) (ea_cons ev_c ea_nil))) fun H6 e6 Q q => ⟨_, -1000000, 1000000, some z, rfl, rfl, fun H7 e7 => ?_⟩) (by rw [w_put, hp]; rfl)) fun H6 e6 => k H6 (((((e1.trans e2).trans e3).trans e4).trans e5).trans e6)
          have : inRange (some z) (-1000000) 1000000 = true := by
            cases i <;> simp_all [In.isTouch, In.isPut, In.ok, In.arg, inRange]
          rw [this]
          exact q H7 e7
/-! ### check_length, well -/
def spChkLen (K : PySem.W.Frag) : Sp := fun vs H Q _ => ∃ (a : Addr) (xs : List V) (m : Nat), vs = [.ref a, .int (m : Int)] ∧ SqT K H a xs ∧ 1 ≤ xs.length ∧ xs.length ≤ m ∧ ∀ H', Ex H H' → Q .non H'
abbrev s_check_length : Stmt := top 16
theorem sc_check_length : FnScope ["value", "most"] ["value", "most"] (defScope s_check_length) := ⟨rfl, rfl, rfl, by decide +kernel, rfl, by decide +kernel, by decide +kernel⟩
--TY check_length {'value':('tuple','any')}
theorem ok_check_length {f : Addr} {fd : FuncData} (F : Fun K "check_length" "check_length" s_check_length f fd) (T : Txt K mg) : FnOk P w K mg base CX0 2 f fd ["value", "most"] (spChkLen K) := by
  refine F.ok sc_check_length (fun vs H Q E h => ?_) (fun cdv A outer s H vs Q E hr h => ?_)
  · obtain ⟨_, _, _, rfl, _⟩ := h
    rfl
  · obtain ⟨a, xs, m, rfl, ha, h1, h2, k⟩ := h
    refine ⟨_, (pss_one (ps_if (PW.pt (pw_or (pt_not (pt_val (pe_callB (isi_K (K := K) rfl) (by rfl) T.z_isinstance (by decide +kernel) (pa_cons (pv 0) (pa_cons (pe_bltn (v := .ty "tuple") (by rfl) T.z_tuple (by decide +kernel) rfl) pa_nil))))) (pw_or1 (pt_not (pt_chain op_le op_le pe_int (pe_callB (len_K (K := K) rfl) (by rfl) T.z_len (by decide +kernel) (pa_cons (pv 0) pa_nil)) (pv 1)))))) (pss_one ps_never) pss_nil)), ?_⟩
    refine s_when (b := false) (et_is (et_or (b := false) (et_not (et_B (ev_isi (t := "tuple") (b := true) (ev_var rfl) (ty_tup ha) (by decide +kernel)))) fun _ => et_is (et_not (et_test (ev_chain ev_c (ev_lnT (ev_var rfl) ha) (ev_var rfl)))) ?_) rfl) (fun z => nomatch z) fun _ H1 e1 => k H1 e1
    have e1 : decide ((1 : Int) ≤ (xs.length : Int)) = true := decide_eq_true (by omega)
    have e2 : decide ((xs.length : Int) ≤ (m : Int)) = true := decide_eq_true (by omega)
    rw [e1, e2]
    rfl
/-! ### check_program, well -/
def spChkPg (K : PySem.W.Frag) : Sp := fun vs H Q _ => ∃ (c : Nat) (a : Addr) (p : List In), vs = [.int (c : Int), .ref a] ∧ PgT K H a p ∧ Pok c p ∧ NoT p ∧ p.length ≤ 20 ∧ ∀ H', Ex H H' → Q .non H'
abbrev s_check_program : Stmt := top 17
theorem sc_check_program : FnScope ["cells", "value", "index", "instruction"] ["cells", "value"] (defScope s_check_program) := ⟨rfl, rfl, rfl, by decide +kernel, rfl, by decide +kernel, by decide +kernel⟩
--TY check_program {'value':('tuple','any')}
theorem ok_check_program {f f1 f2 : Addr} {fd fd1 fd2 : FuncData} (F : Fun K "check_program" "check_program" s_check_program f fd) (T : Txt K mg) (C_check_length : Cal P w K mg base CX0 2 "check_length" f1 fd1 ["value", "most"] (spChkLen K)) (C_is_instruction : Cal P w K mg base CX0 3 "is_instruction" f2 fd2 ["cells", "length", "value"] (spIsIn K)) : FnOk P w K mg base CX0 4 f fd ["cells", "value"] (spChkPg K) := by
  refine F.ok sc_check_program (fun vs H Q E h => ?_) (fun cdv A outer s H vs Q E hr h => ?_)
  · obtain ⟨_, _, _, rfl, _⟩ := h
    rfl
  · obtain ⟨c, a, p, rfl, hp, hok, hT, hl, k⟩ := h
    refine ⟨_, (pss_cons (ps_expr (pe_call C_check_length.G (hr.mono (by first | decide | omega)) rfl C_check_length.g C_check_length.kp C_check_length.b .nil pass0 (pa_cons (pv 1) (pa_cons (pe_glob (v := .int 20) rfl T.c_MOST_INSTRUCTIONS.choose_spec ⟨_, rfl⟩) pa_nil))))
  (pss_one (ps_for PassesOwn.never rfl (pi_enumT (by rfl) T.z_enumerate (pa_cons (pv 1) pa_nil)) (pg_tup rfl (pgs_cons (pg_name (i := 2) sc_check_program.nd rfl (by first | exact Or.inl rfl | exact Or.inr rfl)) (pgs_cons (pg_name (i := 3) sc_check_program.nd rfl (by first | exact Or.inl rfl | exact Or.inr rfl)) pgs_nil))) (pss_one (ps_if (pt_not (pt_val (pe_call C_is_instruction.G (hr.mono (by first | decide | omega)) rfl C_is_instruction.g C_is_instruction.kp C_is_instruction.b .nil pass0 (pa_cons (pv 0) (pa_cons (pe_callB (len_K (K := K) rfl) (by rfl) T.z_len (by decide +kernel) (pa_cons (pv 1) pa_nil)) (pa_cons (pv 3) pa_nil)))))) (pss_one ps_never) pss_nil))))), ?_⟩
    obtain ⟨xs, hx, hpx⟩ := id hp
    have hxl : xs.length = p.length := Paired.length hpx
    refine q_call (ea_cons (ev_var rfl) (ea_cons ev_c ea_nil)) fun H1 e1 => ⟨a, xs, 20, rfl, ex_t e1 hx, by rw [hxl]; exact hok.1, by omega, fun H2 e2 => ?_⟩
    have e02 := e1.trans e2
    refine s_forET (ev_var rfl) (ex_t e02 hx) (fun m σ H' => Ex H H' ∧ ∃ y z, σ = [some (.int (c : Int)), some (.ref a), y, z]) (fun H3 e3 => ⟨e02.trans e3, _, _, rfl⟩) (fun m σ H' _ ⟨e, _⟩ => ex_t e hx) ?_ fun σ H' ⟨e, _⟩ => k H' e
    rintro m x σ H' hm ⟨e, y, z, rfl⟩ H3 e3
    have hml : m < p.length := by
      have := (List.getElem?_eq_some_iff.mp hm).1
      omega
    obtain ⟨x', hx', hin⟩ := paired_get hpx (List.getElem?_eq_getElem hml)
    have : x' = x := by
      rw [hm] at hx'
      exact (Option.some.inj hx').symm
    subst this
    have hp3 := hp.up (e.trans e3)
    refine s_when (b := false) (et_not (a := true) (et_B (ev_callV (ea_cons (ev_var rfl) (ea_cons (ev_lnP hp3 (ev_var rfl)) (ea_cons (ev_var rfl) ea_nil))) fun H4 e4 Q q => ⟨c, p.length, _, _, rfl, hin.up ((e.trans e3).trans e4), hok.2 _ (List.getElem_mem hml), hT _ (List.getElem_mem hml), q⟩))) (fun z => nomatch z) fun _ H4 e4 => ⟨(e.trans e3).trans e4, _, _, rfl⟩
end
end Fm
set_option Elab.async false
set_option linter.all false
set_option maxRecDepth 100000
set_option maxHeartbeats 1000000
namespace Fm
open PySem L2 Evl
section
variable {K : PySem.W.Frag} {σ : L2.St} {H : Hp} {ta tb te : TE} {D : Ends} {tz : TS}
theorem el_rep {xs : List V} {k : Nat} (ha : EvL ta σ H xs) (hb : ∀ H1, Ex H H1 → Ev tb σ H1 (.int (k : Int))) (hz : xs.length * k ≤ 100000) (hk : k ≤ 100000) : EvL (tOp rRep ta tb) σ H (List.replicate k xs).flatten := fun H1 e Q q =>
  ha H1 e _ fun p H2 hp e2 h2 => hb H2 (e.trans e2) H2 (Ex.refl H2) _ fun H3 e3 => ⟨p, (k : Int), xs, rfl, rfl, e3 _ _ h2, by omega, by omega, sz_of (by simpa using hz), fun r hr => by
    refine q r _ (fresh_back (e2.trans e3) hr) ((e2.trans e3).trans (Ex.new hr)) ?_
    rw [upd_same, Int.toNat_natCast]⟩
theorem el_cat {xs ys : List V} (ha : EvL ta σ H xs) (hb : EvL tb σ H ys) (hz : xs.length + ys.length ≤ 100000) : EvL (tOp rCat ta tb) σ H (xs ++ ys) := fun H1 e Q q =>
  ha H1 e _ fun p H2 hp e2 h2 => hb H2 (e.trans e2) _ fun r H3 hr e3 h3 => ⟨p, r, xs, ys, rfl, rfl, e3 _ _ h2, h3, sz_of hz, fun u hu =>
    q u _ (fresh_back (e2.trans e3) hu) ((e2.trans e3).trans (Ex.new hu)) upd_same⟩
/-- list + list, the left one already there -/
theorem el_cat1 {a : Addr} {xs ys : List V} (ha : Ev ta σ H (.ref a)) (h : H a = some (.lst xs)) (hb : EvL tb σ H ys) (hz : xs.length + ys.length ≤ 100000) : EvL (tOp rCat ta tb) σ H (xs ++ ys) := fun H1 e Q q =>
  ha H1 e _ fun H2 e2 => hb H2 (e.trans e2) _ fun r H3 hr e3 h3 => ⟨a, r, xs, ys, rfl, rfl, e3 _ _ (e2 _ _ (e _ _ h)), h3, sz_of hz, fun u hu =>
    q u _ (fresh_back (e2.trans e3) hu) ((e2.trans e3).trans (Ex.new hu)) upd_same⟩
/-- the left one new, the right one there -/
theorem el_cat2 {a : Addr} {xs ys : List V} (ha : EvL ta σ H xs) (hb : Ev tb σ H (.ref a)) (h : H a = some (.lst ys)) (hz : xs.length + ys.length ≤ 100000) : EvL (tOp rCat ta tb) σ H (xs ++ ys) := fun H1 e Q q =>
  ha H1 e _ fun p H2 hp e2 h2 => hb H2 (e.trans e2) _ fun H3 e3 => ⟨p, a, xs, ys, rfl, rfl, e3 _ _ h2, e3 _ _ (e2 _ _ (e _ _ h)), sz_of hz, fun u hu =>
    q u _ (fresh_back (e2.trans e3) hu) ((e2.trans e3).trans (Ex.new hu)) upd_same⟩
abbrev rTpl (K : PySem.W.Frag) : List V → Hp → VK → Prop := fun xs H Q => ∃ p ys, xs = [.ref p] ∧ ((SqL K H p ys ∧ ∀ l, H l = none → Q (.ref l) (upd H l (.tup ys))) ∨ (SqT K H p ys ∧ Q (.ref p) H))
/-- tuple(list) -/
theorem eu_tpl {a : Addr} {xs : List V} (ha : Ev ta σ H (.ref a)) (h : SqL K H a xs) : EvU (tCB (rTpl K) (tCons ta tNil)) σ H xs := fun H1 e Q q =>
  ha H1 e _ fun H2 e2 => ⟨a, xs, rfl, .inl ⟨ex_l (e.trans e2) h, fun l hl => q l _ (fresh_back e2 hl) (e2.trans (Ex.new hl)) upd_same⟩⟩
theorem eu_tplN {xs : List V} (ha : EvL ta σ H xs) : EvU (tCB (rTpl K) (tCons ta tNil)) σ H xs := fun H1 e Q q =>
  ha H1 e _ fun p H2 hp e2 h2 => ⟨p, xs, rfl, .inl ⟨sq_of h2, fun l hl => q l _ (fresh_back e2 hl) (e2.trans (Ex.new hl)) upd_same⟩⟩
abbrev rLs (K : PySem.W.Frag) : List V → Hp → VK → Prop := fun xs H Q => ∃ p ys, xs = [.ref p] ∧ (SqL K H p ys ∨ SqT K H p ys) ∧ ∀ l, H l = none → Q (.ref l) (upd H l (.lst ys))
theorem el_ls {a : Addr} {xs : List V} (ha : Ev ta σ H (.ref a)) (h : SqL K H a xs) : EvL (tCB (rLs K) (tCons ta tNil)) σ H xs := fun H1 e Q q =>
  ha H1 e _ fun H2 e2 => ⟨a, xs, rfl, .inl (ex_l (e.trans e2) h), fun l hl => q l _ (fresh_back e2 hl) (e2.trans (Ex.new hl)) upd_same⟩
abbrev rIsNn : R2 := fun x y H Q => y = .non ∧ Q (.bl (decide (x = .non))) H
theorem et_isN {x : V} (ha : Ev ta σ H x) : EvT (tTest (tOp rIsNn ta (tC .non))) σ H (decide (x = .non)) := et_test (ev_op ha ev_c fun H1 _ _ q => ⟨rfl, q H1 (Ex.refl H1)⟩)
theorem ev_isN {x : V} (ha : Ev ta σ H x) : Ev (tOp rIsNn ta (tC .non)) σ H (.bl (decide (x = .non))) := ev_op ha ev_c fun H1 _ _ q => ⟨rfl, q H1 (Ex.refl H1)⟩
/-- sorted(list of ints) -/
theorem q_sorted {P : Prop} {ns : List Int} (ha : EvL ta σ H (ns.map V.int)) (k : ∀ (ns' : List Int) p H1, ns'.Perm ns → ns'.Pairwise (· ≤ ·) → H p = none → Ex H H1 → H1 p = some (.lst (ns'.map V.int)) → D.rt (.ref p) H1) : tRet (tCB (rSortedI K) (tCons ta tNil)) D σ H :=
  ha H (Ex.refl H) _ fun q H1 hq e h1 => ⟨q, ns, rfl, sq_of h1, fun ns' p hp hs hn => k ns' p _ hp hs (fresh_back e hn) (e.trans (Ex.new hn)) upd_same⟩
theorem ev_succ {n : Nat} (ha : Ev ta σ H (.int (n : Nat))) : Ev (tOp (rI0 fun i j => .int (i + j)) ta (tC (.int 1))) σ H (.int ((n + 1 : Nat) : Int)) := by
  have := ev_i0 (g := fun i j => .int (i + j)) ha (ev_c (v := .int 1) (σ := σ) (H := H))
  exact this
theorem q_app2 {l : Addr} {xs : List V} {v : V} (hl : H l = some (.lst xs)) (ha : Ev ta σ H (.ref l)) (h : Ev te σ H v) (hz : xs.length < 100000) (k : ∀ H1, Ex H H1 → tz D σ (upd H1 l (.lst (xs ++ [v])))) :
    tSeq (tDrop (tBM K "list" rAppend ta (tCons te tNil))) tz D σ H := q_app hl ha h hz k
end
end Fm
set_option Elab.async false
set_option linter.all false
set_option maxRecDepth 100000
set_option maxHeartbeats 1000000
namespace Fm
open PySem L2 Evl
/-- the heap without r -/
def rem (H : Hp) (r : Addr) : Hp := fun b => if b = r then none else H b
theorem rem_ne {H : Hp} {r b : Addr} (h : b ≠ r) : rem H r b = H b := if_neg h
theorem rem_eq {H : Hp} {r : Addr} : rem H r r = none := if_pos rfl
theorem rem_ex {H : Hp} {r : Addr} : Ex (rem H r) H := fun b o h => by
  by_cases z : b = r
  · rw [z, rem_eq] at h; cases h
  · rwa [rem_ne z] at h
/-- what stands in H0, where r does not, stands behind a change of r -/
theorem Ex.past {H0 H1 H2 : Hp} {r : Addr} (e : Ex H0 H1) (h : H0 r = none) (e' : Ex (rem H1 r) H2) : Ex H0 H2 := fun b o hb => e' b o (by
  rw [rem_ne (fun z => by rw [z, h] at hb; cases hb)]
  exact e b o hb)
section
variable {K : PySem.W.Frag} {H H' : Hp} {r s a l : Addr} {xs ys : List V} {ns : List Int}
theorem sqT_rem (hr : H r = some (.lst ys)) (h : SqT K H a xs) : SqT K (rem H r) a xs := by
  have ne : ∀ o, H a = some o → o ≠ .lst ys → a ≠ r := fun o h1 h2 z => by
    rw [z, hr] at h1
    exact h2 (Option.some.inj h1).symm
  rcases h with (h | ⟨u, h⟩) | h
  · exact .inl (.inl (by rw [rem_ne (ne _ h (fun z => nomatch z))]; exact h))
  · exact .inl (.inr ⟨u, by rw [rem_ne (ne _ h (fun z => nomatch z))]; exact h⟩)
  · exact .inr h
theorem sqL_rem (hr : s ≠ r) (h : SqL K H s xs) : SqL K (rem H r) s xs := by
  rcases h with (h | ⟨u, h⟩) | h
  · exact .inl (.inl (by rw [rem_ne hr]; exact h))
  · exact .inl (.inr ⟨u, by rw [rem_ne hr]; exact h⟩)
  · exact .inr h
theorem sqT_upd {zs : List V} (hr : H r = some (.lst ys)) (h : SqT K H a xs) : SqT K (upd H r (.lst zs)) a xs := by
  have h2 := sqT_rem hr h
  exact ex_t (fun b o hb => by
    by_cases z : b = r
    · rw [z, rem_eq] at hb; cases hb
    · rw [rem_ne z] at hb
      rw [upd_ne z]
      exact hb) h2
theorem inAt_rem {v : V} {i : In} (hr : H r = some (.lst ys)) (h : InAt K H v i) : InAt K (rem H r) v i := let ⟨b, h1, h2⟩ := h; ⟨b, h1, sqT_rem hr h2⟩
theorem inAt_upd {v : V} {i : In} {zs : List V} (hr : H r = some (.lst ys)) (h : InAt K H v i) : InAt K (upd H r (.lst zs)) v i := let ⟨b, h1, h2⟩ := h; ⟨b, h1, sqT_upd hr h2⟩
theorem pg_rem {p : List In} (hr : H r = some (.lst ys)) (h : PgT K H a p) : PgT K (rem H r) a p := let ⟨xs, h1, h2⟩ := h; ⟨xs, sqT_rem hr h1, Paired.mapP h2 fun _ _ z => inAt_rem hr z⟩
def RowC (H : Hp) (r s : Addr) : Prop := ∃ a b c : Int, H r = some (.lst [.ref s, .int a, .int b, .int c]) ∧ 0 ≤ a
/-- the row at r, of the script at s -/
structure RowAt (K : PySem.W.Frag) (H : Hp) (r s : Addr) (ns : List Int) : Prop where
  c : RowC H r s
  q : SqL K H s (ns.map V.int)
theorem RowC.up (e : Ex H H') (h : RowC H r s) : RowC H' r s := let ⟨a, b, c, h1, h2⟩ := h; ⟨a, b, c, e _ _ h1, h2⟩
theorem RowAt.up (e : Ex H H') (h : RowAt K H r s ns) : RowAt K H' r s ns := ⟨h.c.up e, ex_l e h.q⟩
theorem RowAt.qr (h : RowAt K H r s ns) : SqL K (rem H r) s (ns.map V.int) := by
  obtain ⟨⟨a, b, c, h1, _⟩, h | h⟩ := h
  · have ne := row_ne h1 h
    exact sqL_rem ne.symm (.inl h)
  · exact .inr h
theorem RowAt.to (h : RowAt K H r s ns) (e : Ex (rem H r) H') (c : RowC H' r s) : RowAt K H' r s ns := ⟨c, ex_l e h.qr⟩
theorem RowAt.lst (h : RowAt K H r s ns) : ∃ ys, H r = some (.lst ys) := let ⟨_, _, _, h1, _⟩ := h.c; ⟨_, h1⟩
end
def spTak (K : PySem.W.Frag) : Sp := fun vs H Q _ => ∃ (r s : Addr) (ns : List Int) (m : Nat), vs = [.ref r, .int (m : Nat)] ∧ RowAt K H r s ns ∧ 0 < m ∧ m < 1000000 ∧ ∀ (n : Nat) H', n < m → RowAt K H' r s ns → Ex (rem H r) H' → Q (.int (n : Nat)) H'
theorem tak_imp {K : PySem.W.Frag} (vs : List V) (H : Hp) (Q : VK) (E : XK) (h : spTak K vs H Q E) : spTaken K vs H Q E := by
  obtain ⟨r, s, ns, m, rfl, R, h1, h2, k⟩ := h
  have R0 := R
  obtain ⟨⟨a, b, c, hr, ha⟩, hq⟩ := R
  refine ⟨r, s, ns, a, b, c, (m : Int), rfl, hr, hq, ha, by omega, by omega, fun n a' b' c' n0 nm a0 => ?_⟩
  have e : Ex (rem H r) (upd H r (.lst [.ref s, .int a', .int b', .int c'])) := fun x o hx => by
    by_cases z : x = r
    · rw [z, rem_eq] at hx; cases hx
    · rw [rem_ne z] at hx
      rw [upd_ne z]
      exact hx
  have := k n.toNat _ (by omega) (R0.to e ⟨a', b', c', upd_same, a0⟩) e
  rwa [show ((n.toNat : Nat) : Int) = n by omega] at this
section
variable {K : PySem.W.Frag} {σ : L2.St} {H : Hp} {ta tb te : TE} {tr tA : TA} {D : Ends} {tz : TS} {Q : VK} {x : V} {r : R2}
theorem m_op (ha : Ev ta σ H x) (k : ∀ H1, Ex H H1 → tb σ H1 fun y H2 => r x y H2 Q) : tOp r ta tb σ H Q := ha H (Ex.refl H) _ k
theorem m_cons {Q : List V → Hp → Prop} (ha : Ev ta σ H x) (k : ∀ H1, Ex H H1 → tr σ H1 fun xs H2 => Q (x :: xs) H2) : tCons ta tr σ H Q := ha H (Ex.refl H) _ k
theorem m_appQ {l : Addr} {xs : List V} (ha : Ev ta σ H (.ref l)) (hl : H l = some (.lst xs)) (k : ∀ H1, Ex H H1 → te σ H1 fun v H2 => rAppend (.ref l) [v] H2 fun _ H3 => tz D σ H3) : tSeq (tDrop (tBM K "list" rAppend ta (tCons te tNil))) tz D σ H :=
  ha H (Ex.refl H) _ fun H1 e1 => ⟨Or.inl ⟨rfl, xs, sq_of (e1 l _ hl)⟩, k H1 e1⟩
theorem m_call {sp : Sp} {E : XK} {vs : List V} (h : EvA tA σ H vs) (k : ∀ H1, Ex H H1 → sp (vs ++ []) H1 Q E) : tCall sp [] E tA σ H Q := h H (Ex.refl H) _ k
end
def spPick (K : PySem.W.Frag) : Sp := fun vs H Q _ => ∃ (r s t : Addr) (ns : List Int) (xs : List V), vs = [.ref r, .ref t] ∧ RowAt K H r s ns ∧ SqL K H t xs ∧ t ≠ r ∧ 0 < xs.length ∧ xs.length < 1000000 ∧ ∀ x H', x ∈ xs → RowAt K H' r s ns → Ex (rem H r) H' → Q x H'
section
variable {P : Program} {w : World} {K : PySem.W.Frag} {mg : Str → Option Value} {base : Heap}
theorem ok_tak {f : Addr} {fd : FuncData} (F : Fun K "_law_taken" "_law_taken" s_law_taken f fd) (T : Txt K mg) : FnOk P w K mg base CX0 1 f fd ["row", "many"] (spTak K) := (ok_taken F T).imp tak_imp
abbrev s_law_pick : Stmt := top 31
theorem sc_law_pick : FnScope ["row", "things"] ["row", "things"] (defScope s_law_pick) := ⟨rfl, rfl, rfl, by decide +kernel, rfl, by decide +kernel, by decide +kernel⟩
--TY _law_pick {'row':('list','any'),'things':('list','any')}
theorem ok_pick {f f1 : Addr} {fd fd1 : FuncData} (F : Fun K "_law_pick" "_law_pick" s_law_pick f fd) (T : Txt K mg) (C_law_taken : Cal P w K mg base CX0 1 "_law_taken" f1 fd1 ["row", "many"] (spTak K)) : FnOk P w K mg base CX0 2 f fd ["row", "things"] (spPick K) := by
  refine F.ok sc_law_pick (fun vs H Q E h => ?_) (fun cdv A outer s H vs Q E hr h => ?_)
  · obtain ⟨_, _, _, _, _, rfl, _⟩ := h
    rfl
  · obtain ⟨r, s, t, ns, xs, rfl, R, ht, hne, h0, h1, k⟩ := h
    refine ⟨_, (pss_one (ps_ret (pe_ix (ix_K (K := K) rfl) (pv 1) (pe_call C_law_taken.G (hr.mono (by first | decide | omega)) rfl C_law_taken.g C_law_taken.kp C_law_taken.b .nil pass0 (pa_cons (pv 0) (pa_cons (pe_callB (len_K (K := K) rfl) (by rfl) T.z_len (by decide +kernel) (pa_cons (pv 1) pa_nil)) pa_nil))) (fun _ _ => rfl)))), ?_⟩
    refine m_op (ev_var rfl) fun H1 e1 => m_call (ea_cons (ev_var rfl) (ea_cons (ev_lnL (ev_var rfl) (ex_l e1 ht)) ea_nil)) fun H2 e2 => ?_
    refine ⟨r, s, ns, xs.length, rfl, R.up (e1.trans e2), h0, h1, fun n H3 hn R3 e3 => ?_⟩
    have e13 : Ex (rem H r) H3 := Ex.past (rem_ex.trans (e1.trans e2)) rem_eq e3
    have ht3 := ex_l e13 (sqL_rem hne ht)
    exact .inl ⟨t, xs, (n : Int), xs[n], rfl, rfl, ht3, atI_nat' (List.getElem?_eq_getElem hn), k _ H3 (List.getElem_mem hn) R3 e13⟩
end
end Fm
set_option Elab.async false
set_option linter.all false
set_option maxRecDepth 100000
set_option maxHeartbeats 1000000
namespace Fm
open PySem L2 Evl
section
variable {K : PySem.W.Frag} {σ : L2.St} {H : Hp} {ta tb te : TE} {tr tA : TA} {D : Ends} {tz : TS} {Q : VK} {x : V} {r : R2}
theorem ev_ixNL {xs : List V} {i : Int} {v : V} (ha : EvL ta σ H xs) (hb : ∀ H1, Ex H H1 → Ev tb σ H1 (.int i)) (e : atI xs i = some v) : Ev (tOp (rIx K) ta tb) σ H v := fun H1 e1 Q q => ha H1 e1 _ fun p H2 hp e2 h2 => hb H2 (e1.trans e2) H2 (Ex.refl _) _ fun H3 e3 =>
  .inl ⟨p, xs, i, v, rfl, rfl, sq_of (e3 _ _ h2), e, q H3 (e2.trans e3)⟩
theorem m_consU {vs : List V} {Q : List V → Hp → Prop} (h : EvU te σ H vs) (k : ∀ p H1, H p = none → Ex H H1 → H1 p = some (.tup vs) → tr σ H1 fun xs H2 => Q (.ref p :: xs) H2) : tCons te tr σ H Q := h H (Ex.refl H) _ k
theorem m_consLst {Q : List V → Hp → Prop} (h : tA σ H fun xs H1 => xs.length ≤ sizeLine ∧ ∀ p, H1 p = none → tr σ (upd H1 p (.lst xs)) fun ys H2 => Q (.ref p :: ys) H2) : tCons (tLst tA) tr σ H Q := h
theorem m_app {l : Addr} {xs : List V} (ha : Ev ta σ H (.ref l)) (hl : H l = some (.lst xs)) (k : ∀ H1, Ex H H1 → te σ H1 fun v H2 => rAppend (.ref l) [v] H2 fun _ H3 => D.nx σ H3) : tDrop (tBM K "list" rAppend ta (tCons te tNil)) D σ H :=
  ha H (Ex.refl H) _ fun H1 e1 => ⟨Or.inl ⟨rfl, xs, sq_of (e1 l _ hl)⟩, k H1 e1⟩
end
theorem pick5 {w c len : Nat} (hw : w < 5) : ∃ s, atI [V.str "get", .str "set", .str "plus", .str "minus", .str "get"] (w : Int) = some (.str s) ∧ ∀ n, n < c → ∃ i, In.ok c len i ∧ i.isTouch = false ∧ i.vs = [.str s, .int (n : Nat)] := match w, hw with
  | 0, _ => ⟨_, rfl, fun n hn => ⟨.get n, hn, rfl, rfl⟩⟩
  | 1, _ => ⟨_, rfl, fun n hn => ⟨.set n, hn, rfl, rfl⟩⟩
  | 2, _ => ⟨_, rfl, fun n hn => ⟨.plus n, hn, rfl, rfl⟩⟩
  | 3, _ => ⟨_, rfl, fun n hn => ⟨.minus n, hn, rfl, rfl⟩⟩
  | 4, _ => ⟨_, rfl, fun n hn => ⟨.get n, hn, rfl, rfl⟩⟩
  | _ + 5, h => absurd h (by omega)
theorem pick3 {w c len : Nat} (hw : w < 3) : ∃ s, atI [V.str "zero", .str "zero", .str "go"] (w : Int) = some (.str s) ∧ ∀ n, n ≤ len → ∃ i, In.ok c len i ∧ i.isTouch = false ∧ i.vs = [.str s, .int (n : Nat)] := match w, hw with
  | 0, _ => ⟨_, rfl, fun n hn => ⟨.zero n, hn, rfl, rfl⟩⟩
  | 1, _ => ⟨_, rfl, fun n hn => ⟨.zero n, hn, rfl, rfl⟩⟩
  | 2, _ => ⟨_, rfl, fun n hn => ⟨.go n, hn, rfl, rfl⟩⟩
  | _ + 3, h => absurd h (by omega)
def spProg (K : PySem.W.Frag) : Sp := fun vs H Q _ => ∃ (r s : Addr) (ns : List Int) (c m : Nat), vs = [.ref r, .int (c : Nat), .int (m : Nat)] ∧ RowAt K H r s ns ∧ 0 < c ∧ c < 1000 ∧ 0 < m ∧ m < 1000 ∧
  ∀ b p H', H b = none → PgT K H' b p → Pok c p → NoT p → p.length ≤ m → RowAt K H' r s ns → Ex (rem H r) H' → Q (.ref b) H'
section
variable {P : Program} {w : World} {K : PySem.W.Frag} {mg : Str → Option Value} {base : Heap}
abbrev s_law_program : Stmt := top 34
theorem sc_law_program : FnScope ["row", "cells", "most", "size", "found", "turn", "way"] ["row", "cells", "most"] (defScope s_law_program) := ⟨rfl, rfl, rfl, by decide +kernel, rfl, by decide +kernel, by decide +kernel⟩
--TY _law_program {'row':('list','any'),'found':('list','any'),'way':'int','size':'int','turn':'int'}
theorem ok_program {f f1 f2 : Addr} {fd fd1 fd2 : FuncData} (F : Fun K "_law_program" "_law_program" s_law_program f fd) (T : Txt K mg) (C_law_taken : Cal P w K mg base CX0 1 "_law_taken" f1 fd1 ["row", "many"] (spTak K)) (C_law_pick : Cal P w K mg base CX0 2 "_law_pick" f2 fd2 ["row", "things"] (spPick K)) : FnOk P w K mg base CX0 3 f fd ["row", "cells", "most"] (spProg K) := by
  refine F.ok sc_law_program (fun vs H Q E h => ?_) (fun cdv A outer s H vs Q E hr h => ?_)
  · obtain ⟨_, _, _, _, _, rfl, _⟩ := h
    rfl
  · obtain ⟨r, s, ns, c, m, rfl, R, hc0, hc, hm0, hm, k⟩ := h
    refine ⟨_, (pss_cons (ps_par (i := 3) (j := 4) (by rfl) sc_law_program.nd rfl rfl (by decide) rfl rfl (pa_cons (pe_op op_add pe_int (pe_call C_law_taken.G (hr.mono (by first | decide | omega)) rfl C_law_taken.g C_law_taken.kp C_law_taken.b .nil pass0 (pa_cons (pv 0) (pa_cons (pv 2) pa_nil)))) (pa_cons (pe_lst pa_nil) pa_nil)) (by rfl))
  (pss_cons (ps_for PassesOwn.never rfl (pi_range1 rfl T.z_range (pa_cons (pv 3) pa_nil)) (pg_name (i := 5) sc_law_program.nd rfl (by first | exact Or.inl rfl | exact Or.inr rfl)) (pss_cons (ps_set (i := 6) sc_law_program.nd rfl (Or.inl rfl) (pe_call C_law_taken.G (hr.mono (by first | decide | omega)) rfl C_law_taken.g C_law_taken.kp C_law_taken.b .nil pass0 (pa_cons (pv 0) (pa_cons pe_int pa_nil))))
  (pss_one (ps_if (pt_cmpR op_lt (pv 6) pe_int (nomark _)) (pss_one (ps_expr (pe_bm PySem.F.plainAttrs_list PySem.F.slot_list_append PySem.F.type_list_append mt_append (pv 4) (pa_cons (pe_tup (pa_cons (pe_ix (ix_K (K := K) rfl) (pe_lst (pa_cons pe_str (pa_cons pe_str (pa_cons pe_str (pa_cons pe_str (pa_cons pe_str pa_nil)))))) (pv 6) (fun _ _ => rfl)) (pa_cons (pe_call C_law_taken.G (hr.mono (by first | decide | omega)) rfl C_law_taken.g C_law_taken.kp C_law_taken.b .nil pass0 (pa_cons (pv 0) (pa_cons (pv 1) pa_nil))) pa_nil))) pa_nil)))) (pss_one (ps_if (pt_cmpR op_lt (pv 6) pe_int (nomark _)) (pss_one (ps_expr (pe_bm PySem.F.plainAttrs_list PySem.F.slot_list_append PySem.F.type_list_append mt_append (pv 4) (pa_cons (pe_tup (pa_cons (pe_ix (ix_K (K := K) rfl) (pe_lst (pa_cons pe_str (pa_cons pe_str (pa_cons pe_str pa_nil)))) (pe_op op_sub (pv 6) pe_int) (fun _ _ => rfl)) (pa_cons (pe_call C_law_taken.G (hr.mono (by first | decide | omega)) rfl C_law_taken.g C_law_taken.kp C_law_taken.b .nil pass0 (pa_cons (pv 0) (pa_cons (pe_op op_add (pv 3) pe_int) pa_nil))) pa_nil))) pa_nil)))) (pss_one (ps_expr (pe_bm PySem.F.plainAttrs_list PySem.F.slot_list_append PySem.F.type_list_append mt_append (pv 4) (pa_cons (pe_call C_law_pick.G (hr.mono (by first | decide | omega)) rfl C_law_pick.g C_law_pick.kp C_law_pick.b .nil pass0 (pa_cons (pv 0) (pa_cons (pe_lst (pa_cons (pe_tup (pa_cons pe_str pa_nil)) (pa_cons (pe_tup (pa_cons pe_str pa_nil)) (pa_cons (pe_tup (pa_cons pe_str (pa_cons pe_int pa_nil))) (pa_cons (pe_tup (pa_cons pe_str (pa_cons pe_int pa_nil))) (pa_cons (pe_tup (pa_cons pe_str pa_nil)) pa_nil)))))) pa_nil))) pa_nil))))))))))
  (pss_one (ps_ret (pe_callTy (tpl_K (K := K) rfl) (by rfl) T.z_tuple (by decide +kernel) (pa_cons (pv 4) pa_nil)))))), ?_⟩
    -- size, found
    refine m_op ev_c fun H1 e1 => m_call (ea_cons (ev_var rfl) (ea_cons (ev_var rfl) ea_nil)) fun H2 e2 => ?_
    refine ⟨r, s, ns, m, rfl, R.up (e1.trans e2), hm0, by omega, fun n H3 hn R3 e3 => ?_⟩
    have e03 : Ex (rem H r) H3 := Ex.past (rem_ex.trans (e1.trans e2)) rem_eq e3
    refine ⟨_, _, rfl, rfl, Nat.zero_le _, fun l hl => ?_⟩
    have hlr : l ≠ r := by
      obtain ⟨ys, hys⟩ := R3.lst
      exact (ne_of_none hys hl).symm
    have hl0 : rem H r l = none := fresh_back e03 hl
    have hs0 : (1 : Int) + ((n : Nat) : Int) = ((n + 1 : Nat) : Int) := by omega
    refine ⟨.int ((n + 1 : Nat) : Int), .ref l, by rw [← hs0], ?_⟩
    dsimp only
    have R4 : RowAt K (upd H3 l (.lst [])) r s ns := R3.up (Ex.new hl)
    refine q_forR1 (n := ((n + 1 : Nat) : Int)) (ea_cons (ev_var rfl) ea_nil) ⟨by omega, by omega⟩
      (fun j σ H' => ∃ (xs : List V) (p : List In) (z1 z2 : Option V), Ex (rem H r) H' ∧ RowC H' r s ∧ H' l = some (.lst xs) ∧ Paired (InAt K H') xs p ∧ p.length = j ∧ (∀ i ∈ p, i.ok c (n + 1) ∧ i.isTouch = false) ∧ σ = [some (.ref r), some (.int (c : Nat)), some (.int (m : Nat)), some (.int ((n + 1 : Nat) : Int)), some (.ref l), z1, z2])
      (fun H4 e4 => ⟨[], [], _, _, (Ex.mut e03 hl0).trans e4, R4.c.up e4, e4 _ _ upd_same, .nil, rfl, by simp, rfl⟩) ?_ ?_
    · rintro j σ H4 hj ⟨xs, p, z1, z2, e4, c4, l4, hp4, hpl, hok, rfl⟩
      have R4 := R.to e4 c4
      have step : ∀ (H6 : Hp) (u : Addr) (i : In) (z : Option V), Ex (rem H4 r) H6 → RowC H6 r s → H6 u = some (.tup i.vs) ∨ SqT K H6 u i.vs → i.ok c (n + 1) ∧ i.isTouch = false → ∃ ys, H6 l = some (.lst ys) ∧ ys.length < 100000 ∧
          ∃ (xs : List V) (p : List In) (z1 z2 : Option V), Ex (rem H r) (upd H6 l (.lst (ys ++ [.ref u]))) ∧ RowC (upd H6 l (.lst (ys ++ [.ref u]))) r s ∧ (upd H6 l (.lst (ys ++ [.ref u]))) l = some (.lst xs) ∧ Paired (InAt K (upd H6 l (.lst (ys ++ [.ref u])))) xs p ∧ p.length = j + 1 ∧ (∀ i ∈ p, i.ok c (n + 1) ∧ i.isTouch = false) ∧
            ([some (.ref r), some (.int (c : Nat)), some (.int (m : Nat)), some (.int ((n + 1 : Nat) : Int)), some (.ref l), some (.int (j : Int)), z] : L2.St) = [some (.ref r), some (.int (c : Nat)), some (.int (m : Nat)), some (.int ((n + 1 : Nat) : Int)), some (.ref l), z1, z2] := by
        intro H6 u i z e6 c6 hu hi
        have hl6 : H6 l = some (.lst xs) := e6 _ _ (by rw [rem_ne hlr]; exact l4)
        have hxl : xs.length = j := (Paired.length hp4).trans hpl
        have hu6 : SqT K H6 u i.vs := by
          rcases hu with h | h
          · exact st_of h
          · exact h
        refine ⟨xs, hl6, by omega, xs ++ [.ref u], p ++ [i], _, z, ?_, ?_, upd_same, ?_, by simp [hpl], ?_, rfl⟩
        · exact Ex.mut (Ex.past e4 rem_eq e6) hl0
        · obtain ⟨a', b', c', h1, h2⟩ := c6
          exact ⟨a', b', c', by rw [upd_ne hlr.symm]; exact h1, h2⟩
        · obtain ⟨ys, hys⟩ := R4.lst
          exact paired_append (Paired.mapP hp4 fun v i hv => inAt_upd hl6 ((inAt_rem hys hv).up e6)) (.cons ⟨u, rfl, sqT_upd hl6 hu6⟩ .nil)
        · intro i' hi'
          rcases List.mem_append.mp hi' with h | h
          · exact hok i' h
          · rw [List.mem_singleton.mp h]
            exact hi
      refine q_callA (ea_cons (ev_var rfl) (ea_cons ev_c ea_nil)) fun H5 e5 => ⟨r, s, ns, 10, rfl, R4.up e5, by omega, by omega, fun way H6 hw R6 e6 => ?_⟩
      have e46 : Ex (rem H4 r) H6 := Ex.past (rem_ex.trans e5) rem_eq e6
      refine s_if (et_i0 (ev_var rfl) ev_c) (fun hc5 H7 e7 => ?_) (fun hc5 H7 e7 => ?_)
      · have hw5 : way < 5 := by have := of_decide_eq_true hc5; omega
        obtain ⟨sw, hat, hi⟩ := pick5 (c := c) (len := n + 1) hw5
        have R7 := R6.up e7
        refine m_app (ev_var rfl) (xs := xs) ((e46.trans e7) _ _ (by rw [rem_ne hlr]; exact l4)) fun H8 e8 => ?_
        refine m_cons (ev_ixNL (el_lst (ea_cons ev_c (ea_cons ev_c (ea_cons ev_c (ea_cons ev_c (ea_cons ev_c ea_nil))))) (by decide)) (fun _ _ => ev_var rfl) hat) fun H9 e9 => m_call (ea_cons (ev_var rfl) (ea_cons (ev_var rfl) ea_nil)) fun H10 e10 => ?_
        have e7a := (e8.trans e9).trans e10
        refine ⟨r, s, ns, c, rfl, R7.up e7a, hc0, by omega, fun q H11 hq R11 e11 => ⟨by show 2 ≤ sizeLine; rw [sizeLine_eq]; decide, fun u hu => ?_⟩⟩
        obtain ⟨i, hio', hiT, hiv⟩ := hi q hq
        have hio : i.ok c (n + 1) ∧ i.isTouch = false := ⟨hio', hiT⟩
        have eA : Ex (rem H4 r) H11 := Ex.past ((e46.trans e7).trans e7a) rem_eq e11
        obtain ⟨ys, h1, h2, h3⟩ := step (upd H11 u (.tup [.str sw, .int (q : Nat)])) u i (some (.int (way : Nat))) (eA.trans (Ex.new hu)) (R11.c.up (Ex.new hu)) (.inl (by rw [upd_same, hiv])) hio
        exact ⟨l, ys, _, rfl, rfl, h1, sz_lt h2, h3⟩
      · have hw5 : ¬ way < 5 := by have := of_decide_eq_false hc5; omega
        refine s_if (et_i0 (ev_var rfl) ev_c) (fun hc8 H8 e8 => ?_) (fun hc8 H8 e8 => ?_)
        · have hw8 : way < 8 := by have := of_decide_eq_true hc8; omega
          obtain ⟨sw, hat, hi⟩ := pick3 (w := way - 5) (c := c) (len := n + 1) (by omega)
          have hat2 : atI [V.str "zero", .str "zero", .str "go"] ((way : Int) - 5) = some (.str sw) := by
            rw [← hat]
            congr 1
            omega
          have R8 := R6.up (e7.trans e8)
          refine m_app (ev_var rfl) (xs := xs) ((e46.trans (e7.trans e8)) _ _ (by rw [rem_ne hlr]; exact l4)) fun H9 e9 => ?_
          refine m_cons (ev_ixNL (el_lst (ea_cons ev_c (ea_cons ev_c (ea_cons ev_c ea_nil))) (by decide)) (fun _ _ => ev_i0 (ev_var rfl) ev_c) hat2) fun H10 e10 => m_call (ea_cons (ev_var rfl) (ea_cons (ev_succ (n := n + 1) (ev_var rfl)) ea_nil)) fun H11 e11 => ?_
          have e8a := (e9.trans e10).trans e11
          refine ⟨r, s, ns, n + 1 + 1, rfl, R8.up e8a, by omega, by omega, fun q H12 hq R12 e12 => ⟨by show 2 ≤ sizeLine; rw [sizeLine_eq]; decide, fun u hu => ?_⟩⟩
          obtain ⟨i, hio', hiT, hiv⟩ := hi q (by omega)
          have hio : i.ok c (n + 1) ∧ i.isTouch = false := ⟨hio', hiT⟩
          have eA : Ex (rem H4 r) H12 := Ex.past ((e46.trans (e7.trans e8)).trans e8a) rem_eq e12
          obtain ⟨ys, h1, h2, h3⟩ := step (upd H12 u (.tup [.str sw, .int (q : Nat)])) u i (some (.int (way : Nat))) (eA.trans (Ex.new hu)) (R12.c.up (Ex.new hu)) (.inl (by rw [upd_same, hiv])) hio
          exact ⟨l, ys, _, rfl, rfl, h1, sz_lt h2, h3⟩
        · have R8 := R6.up (e7.trans e8)
          refine m_app (ev_var rfl) (xs := xs) ((e46.trans (e7.trans e8)) _ _ (by rw [rem_ne hlr]; exact l4)) fun H9 e9 => ?_
          refine m_cons (ev_var rfl) fun H10 e10 => m_consLst ?_
          refine m_consU (eu_tup (ea_cons ev_c ea_nil) (by decide)) fun u1 H11 hu1 e11 h11 => ?_
          refine m_consU (eu_tup (ea_cons ev_c ea_nil) (by decide)) fun u2 H12 hu2 e12 h12 => ?_
          refine m_consU (eu_tup (ea_cons ev_c (ea_cons ev_c ea_nil)) (by decide)) fun u3 H13 hu3 e13 h13 => ?_
          refine m_consU (eu_tup (ea_cons ev_c (ea_cons ev_c ea_nil)) (by decide)) fun u4 H14 hu4 e14 h14 => ?_
          refine m_consU (eu_tup (ea_cons ev_c ea_nil) (by decide)) fun u5 H15 hu5 e15 h15 => ?_
          refine ⟨by show 5 ≤ sizeLine; rw [sizeLine_eq]; decide, fun t ht => ?_⟩
          have e8a := (((((e9.trans e10).trans e11).trans e12).trans e13).trans e14).trans e15
          have R15 := R8.up e8a
          have htr : t ≠ r := by
            obtain ⟨ys, hys⟩ := R15.lst
            exact (ne_of_none hys ht).symm
          have R16 := R15.up (Ex.new (o := .lst [.ref u1, .ref u2, .ref u3, .ref u4, .ref u5]) ht)
          refine ⟨r, s, t, ns, _, rfl, R16, sq_of upd_same, htr, by show 0 < 5; decide, by show 5 < 1000000; decide, fun x H17 hx R17 e17 => ?_⟩
          have e15' := Ex.new (o := .lst [.ref u1, .ref u2, .ref u3, .ref u4, .ref u5]) ht
          have eA : Ex (rem H4 r) H17 := Ex.past ((e46.trans (e7.trans e8)).trans (e8a.trans e15')) rem_eq e17
          obtain ⟨ysr, hysr⟩ := R15.lst
          have old : ∀ u xs, H15 u = some (.tup xs) → H17 u = some (.tup xs) := fun u xs hu => e17 _ _ (by
            rw [rem_ne (fun z => by rw [z, hysr] at hu; cases hu)]
            exact e15' _ _ hu)
          obtain ⟨u, i, hxu, hu, hio⟩ : ∃ u i, x = V.ref u ∧ H15 u = some (.tup (In.vs i)) ∧ (In.ok c (n + 1) i ∧ i.isTouch = false) := by
            simp only [List.mem_cons, List.not_mem_nil, or_false] at hx
            rcases hx with h | h | h | h | h
            · exact ⟨u1, .say, h, (((e12.trans e13).trans e14).trans e15) _ _ h11, trivial, rfl⟩
            · exact ⟨u2, .ask, h, ((e13.trans e14).trans e15) _ _ h12, trivial, rfl⟩
            · exact ⟨u3, .put 3, h, (e14.trans e15) _ _ h13, by simp [In.ok], rfl⟩
            · exact ⟨u4, .put 0, h, e15 _ _ h14, by simp [In.ok], rfl⟩
            · exact ⟨u5, .stop, h, h15, trivial, rfl⟩
          subst hxu
          obtain ⟨ys, h1, h2, h3⟩ := step H17 u i (some (.int (way : Nat))) eA R17.c (.inl (old _ _ hu)) hio
          exact ⟨l, ys, _, rfl, rfl, h1, sz_lt h2, h3⟩
    · rintro σ H4 ⟨xs, p, z1, z2, e4, c4, l4, hp4, hpl, hok, rfl⟩
      refine s_retU (eu_tpl (ev_var rfl) (sq_of l4)) fun b H5 hb e5 h5 => ?_
      have e5' := e4.trans e5
      have hpl' : p.length = n + 1 := by rw [hpl]; omega
      refine k b p H5 ?_ ⟨xs, st_of h5, Paired.mapP hp4 fun v i hv => hv.up e5⟩ ⟨by omega, fun i hi => by rw [hpl']; exact (hok i hi).1⟩ (fun i hi => (hok i hi).2) (by omega) (R.to e5' (c4.up e5)) e5'
      · obtain ⟨ys, hys⟩ := R.lst
        by_cases hbr : b = r
        · obtain ⟨a', b', c', h1, h2⟩ := c4
          rw [hbr, h1] at hb
          cases hb
        · have := fresh_back e4 hb
          rwa [rem_ne hbr] at this
end
end Fm
set_option Elab.async false
set_option linter.all false
set_option maxRecDepth 100000
set_option maxHeartbeats 1000000
namespace Fm
open PySem L2 Evl
def iD (zs : List Int) : List PyData := zs.map PyData.int
theorem iD_lay : ∀ zs : List Int, PyData.canLayAll0 (iD zs) = true
  | [] => by simp [iD, PyData.canLayAll0]
  | z :: zs => by simpa [iD, PyData.canLayAll0, PyData.canLay0] using iD_lay zs
theorem iD_depth : ∀ zs : List Int, PyData.depthAll (iD zs) = 0
  | [] => by simp [iD, PyData.depthAll]
  | z :: zs => by simpa [iD, PyData.depthAll, PyData.depth] using iD_depth zs
theorem iD_shaped (zs : List Int) : SeqAt.shaped (.list (iD zs)) = true := by
  show (PyData.canLay0 (.list (iD zs)) && decide (PyData.depth (.list (iD zs)) ≤ 64)) = true
  rw [Bool.and_eq_true]
  exact ⟨by simp only [PyData.canLay0]; exact iD_lay zs, decide_eq_true (by simp only [PyData.depth, iD_depth]; omega)⟩
section
variable {K : PySem.W.Frag} {σ : L2.St} {H : Hp} {ta tb te : TE} {tr tA : TA} {D : Ends} {tz : TS} {Q : VK} {x : V} {r : R2} {P : Program} {w : World} {mg : Str → Option Value} {base : Heap}
theorem dp_ints : ∀ zs : List Int, DpAll K H (zs.map V.int) (iD zs)
  | [] => .nil
  | z :: zs => .cons (.int z) (dp_ints zs)
theorem eqv_nil (zs : List Int) : PyData.eqv (.list (iD zs)) (.list (iD [])) = zs.isEmpty := by
  cases zs with
  | nil => simp [iD, PyData.eqv, PyData.eqvAll]
  | cons z zs => simp [iD, PyData.eqv, PyData.eqvAll]
theorem ev_eqNil {zs : List Int} (ha : EvL ta σ H (zs.map V.int)) : Ev (tOp (rEqD K) ta (tLst tNil)) σ H (.bl zs.isEmpty) := fun H1 e Q q => ha H1 e _ fun p H2 hp e2 h2 => ⟨Nat.zero_le _, fun l hl => by
  refine ⟨_, _, .lst (sq_of (Ex.new hl _ _ h2)) (dp_ints zs), .lst (sq_of upd_same) (dp_ints []), iD_shaped _, iD_shaped _, ?_⟩
  rw [eqv_nil]
  exact q _ (e2.trans (Ex.new hl))⟩
theorem ev_neNil {zs : List Int} (ha : EvL ta σ H (zs.map V.int)) : Ev (tOp (rNeD K) ta (tLst tNil)) σ H (.bl (!zs.isEmpty)) := fun H1 e Q q => ha H1 e _ fun p H2 hp e2 h2 => ⟨Nat.zero_le _, fun l hl => by
  refine ⟨_, _, .lst (sq_of (Ex.new hl _ _ h2)) (dp_ints zs), .lst (sq_of upd_same) (dp_ints []), iD_shaped _, iD_shaped _, ?_⟩
  rw [eqv_nil]
  exact q _ (e2.trans (Ex.new hl))⟩
theorem ev_eqI {i j : Int} (ha : Ev ta σ H (.int i)) (hb : Ev tb σ H (.int j)) : Ev (tOp (rEqD K) ta tb) σ H (.bl (decide (i = j))) := ev_op ha hb fun H1 _ _ q => ⟨_, _, .int i, .int j, rfl, rfl, by
  have : PyData.eqv (.int i) (.int j) = decide (i = j) := by
    simp only [PyData.eqv]
    by_cases h : i = j
    · simp [h]
    · rw [decide_eq_false h]
      simpa using h
  rw [this]
  exact q H1 (Ex.refl H1)⟩
theorem ev_isi2 {x : V} {t n1 n2 : String} {b1 b2 : Bool} (ha : Ev ta σ H x) (ty : TyX K H x (.type t)) (h1 : kitB t n1 = some b1) (h2 : kitB t n2 = some b2) : Ev (tCB (rIsiT K) (tCons ta (tCons (tTup (tCons (tC (.ty n1)) (tCons (tC (.ty n2)) tNil))) tNil))) σ H (.bl (b1 || b2)) := fun H1 e1 _ q =>
  ha H1 e1 _ fun H2 e2 => ⟨by show 2 ≤ sizeLine; rw [sizeLine_eq]; decide, fun p hp => ⟨x, p, _, .type t, [.type n1, .type n2], b1 || b2, rfl, upd_same, .cons (.ty _) (.cons (.ty _) .nil), tyx_up ((e1.trans e2).trans (Ex.new hp)) ty, kitAny_cons (kit_ty h1) (fun hb => by
    rw [hb]
    refine kitAny_cons (kit_ty h2) (fun hb2 => by rw [hb2]; exact kitAny_nil) (fun hb2 => by rw [hb2]; rfl)) (fun hb => by rw [hb]; rfl), q _ (e2.trans (Ex.new hp))⟩⟩
/-- two numbers, one and the same -/
def spAlike1 : Sp := fun vs H Q _ => ∃ i : Int, vs = [.int i, .int i] ∧ ∀ H', Ex H H' → Q (.bl true) H'
def spAlike2 (K : PySem.W.Frag) : Sp := fun vs H Q _ => ∃ (a b : Addr) (zs : List Int), vs = [.ref a, .ref b] ∧ SqT K H a (zs.map V.int) ∧ SqT K H b (zs.map V.int) ∧ zs.length ≤ 40000 ∧ ∀ H', Ex H H' → Q (.bl true) H'
def spNone : Sp := fun _ _ _ _ => False
theorem ok_none {k : Nat} {f : Addr} {fd : FuncData} {ps : List Str} : FnOk P w K mg base CX0 k f fd ps spNone := ⟨fun _ _ _ _ h => h.elim, fun _ _ _ _ _ _ _ _ _ _ _ _ _ h => h.elim⟩
theorem ty_int {i : Int} : TyX K H (.int i) (.type "int") := .base (.int i)
abbrev s_law_alike : Stmt := top 32
theorem sc_law_alike : FnScope ["found", "due", "k"] ["found", "due"] (defScope s_law_alike) := ⟨rfl, rfl, rfl, by decide +kernel, rfl, by decide +kernel, by decide +kernel⟩
--TY _law_alike {'found':('tuple','any'),'due':('tuple','any')}
theorem ok_alike1 {f f1 : Addr} {fd fd1 : FuncData} (F : Fun K "_law_alike" "_law_alike" s_law_alike f fd) (T : Txt K mg) (C_law_alike : Cal P w K mg base CX0 0 "_law_alike" f1 fd1 ["found", "due"] spNone) : FnOk P w K mg base CX0 1 f fd ["found", "due"] spAlike1 := by
  refine F.ok sc_law_alike (fun vs H Q E h => ?_) (fun cdv A outer s H vs Q E hr h => ?_)
  · obtain ⟨_, rfl, _⟩ := h
    rfl
  · obtain ⟨i, rfl, k⟩ := h
    refine ⟨_, (pss_cons (ps_if (pt_val (pe_callB (isiT_K (K := K) rfl) (by rfl) T.z_isinstance (by decide +kernel) (pa_cons (pv 1) (pa_cons (pe_tup (pa_cons (pe_bltn (v := .ty "tuple") (by rfl) T.z_tuple (by decide +kernel) rfl) (pa_cons (pe_bltn (v := .ty "list") (by rfl) T.z_list (by decide +kernel) rfl) pa_nil))) pa_nil)))) (pss_cons (ps_if (PW.pt (pw_or (pt_not (pt_val (pe_callB (isiT_K (K := K) rfl) (by rfl) T.z_isinstance (by decide +kernel) (pa_cons (pv 0) (pa_cons (pe_tup (pa_cons (pe_bltn (v := .ty "tuple") (by rfl) T.z_tuple (by decide +kernel) rfl) (pa_cons (pe_bltn (v := .ty "list") (by rfl) T.z_list (by decide +kernel) rfl) pa_nil))) pa_nil))))) (pw_or1 (pt_cmpR op_ne (pe_callB (isi_K (K := K) rfl) (by rfl) T.z_isinstance (by decide +kernel) (pa_cons (pv 0) (pa_cons (pe_bltn (v := .ty "list") (by rfl) T.z_list (by decide +kernel) rfl) pa_nil))) (pe_callB (isi_K (K := K) rfl) (by rfl) T.z_isinstance (by decide +kernel) (pa_cons (pv 1) (pa_cons (pe_bltn (v := .ty "list") (by rfl) T.z_list (by decide +kernel) rfl) pa_nil))) (nomark _))))) (pss_one (ps_ret pe_bl)) pss_nil)
  (pss_cons (ps_if (pt_cmpR op_ne (pe_callB (len_K (K := K) rfl) (by rfl) T.z_len (by decide +kernel) (pa_cons (pv 0) pa_nil)) (pe_callB (len_K (K := K) rfl) (by rfl) T.z_len (by decide +kernel) (pa_cons (pv 1) pa_nil)) (nomark _)) (pss_one (ps_ret pe_bl)) pss_nil)
  (pss_one (ps_ret (pe_cmpR (eqD_K (K := K) rfl hr.units) (pe_lc (own := [("k", 2)]) (g := gName 2) rfl sc_law_alike.nd (pi_range1 rfl T.z_range (pa_cons (pe_callB (len_K (K := K) rfl) (by rfl) T.z_len (by decide +kernel) (pa_cons (pv 1) pa_nil)) pa_nil)) (blkOk_by (by kernel_rfl)) (fun _ _ _ _ _ => pg_name (i := 2) sc_law_alike.nd rfl (by first | exact Or.inl rfl | exact Or.inr rfl)) (fun _ _ _ _ _ => (pts_one (pt_not (pt_val (pe_call C_law_alike.G (hr.mono (by first | decide | omega)) rfl C_law_alike.g C_law_alike.kp C_law_alike.b .nil pass0 (pa_cons (pe_ix (ix_K (K := K) rfl) (pv 0) (pv 2) (fun _ _ => rfl)) (pa_cons (pe_ix (ix_K (K := K) rfl) (pv 1) (pv 2) (fun _ _ => rfl)) pa_nil))))))) (fun _ _ _ _ _ => (pv 2))) (pe_lst pa_nil) (nomark _)))))) pss_nil)
  (pss_cons (ps_if (PW.pt (pw_or (pt_cmpR op_isN (pv 1) pe_non (nomark _)) (pw_or1 (pt_val (pe_callB (isi_K (K := K) rfl) (by rfl) T.z_isinstance (by decide +kernel) (pa_cons (pv 1) (pa_cons (pe_bltn (v := .ty "str") (by rfl) T.z_str (by decide +kernel) rfl) pa_nil))))))) (pss_one (ps_ret (pe_and (pe_cmpR (eqD_K (K := K) rfl hr.units) (pv 0) (pv 1) (nomark _)) (pe_one (pe_cmpR op_eq (pe_callB (isi_K (K := K) rfl) (by rfl) T.z_isinstance (by decide +kernel) (pa_cons (pv 0) (pa_cons (pe_bltn (v := .ty "str") (by rfl) T.z_str (by decide +kernel) rfl) pa_nil))) (pe_callB (isi_K (K := K) rfl) (by rfl) T.z_isinstance (by decide +kernel) (pa_cons (pv 1) (pa_cons (pe_bltn (v := .ty "str") (by rfl) T.z_str (by decide +kernel) rfl) pa_nil))) (nomark _)))))) pss_nil)
  (pss_one (ps_ret (pe_and (pe_callB (isi_K (K := K) rfl) (by rfl) T.z_isinstance (by decide +kernel) (pa_cons (pv 0) (pa_cons (pe_bltn (v := .ty "int") (by rfl) T.z_int (by decide +kernel) rfl) pa_nil))) (pe_and (pe_cmpR op_eq (pe_callB (isi_K (K := K) rfl) (by rfl) T.z_isinstance (by decide +kernel) (pa_cons (pv 0) (pa_cons (pe_bltn (v := .ty "bool") (by rfl) T.z_bool (by decide +kernel) rfl) pa_nil))) (pe_callB (isi_K (K := K) rfl) (by rfl) T.z_isinstance (by decide +kernel) (pa_cons (pv 1) (pa_cons (pe_bltn (v := .ty "bool") (by rfl) T.z_bool (by decide +kernel) rfl) pa_nil))) (nomark _)) (pe_one (pe_cmpR (eqD_K (K := K) rfl hr.units) (pv 0) (pv 1) (nomark _))))))))), ?_⟩
    refine q_when (b := false || false) (et_B (ev_isi2 (ev_var rfl) ty_int (by decide +kernel) (by decide +kernel))) (fun z => nomatch z) fun _ H1 e1 => ?_
    refine q_when (b := false || false) (et_or (et_is (et_isN (ev_var rfl)) rfl) fun _ => et_B (ev_isi (t := "int") (ev_var rfl) ty_int (by decide +kernel))) (fun z => nomatch z) fun _ H2 e2 => ?_
    refine s_ret (v := .bl (true && (decide (V.bl false = V.bl false) && decide (i = i)))) (ev_andV (ev_isi (t := "int") (ev_var rfl) ty_int (by decide +kernel)) fun _ => ev_andV (ev_op (ev_isi (t := "int") (ev_var rfl) ty_int (by decide +kernel)) (ev_isi (t := "int") (ev_var rfl) ty_int (by decide +kernel)) (rv_eq rfl)) fun _ => ev_eqI (ev_var rfl) (ev_var rfl)) fun H3 e3 => ?_
    have : (true && (decide (V.bl false = V.bl false) && decide (i = i))) = true := by simp
    rw [this]
    exact k H3 ((e1.trans e2).trans e3)
theorem ok_alike2 {f f1 : Addr} {fd fd1 : FuncData} (F : Fun K "_law_alike" "_law_alike" s_law_alike f fd) (T : Txt K mg) (C_law_alike : Cal P w K mg base CX0 1 "_law_alike" f1 fd1 ["found", "due"] spAlike1) : FnOk P w K mg base CX0 2 f fd ["found", "due"] (spAlike2 K) := by
  refine F.ok sc_law_alike (fun vs H Q E h => ?_) (fun cdv A outer s H vs Q E hr h => ?_)
  · obtain ⟨_, _, _, rfl, _⟩ := h
    rfl
  · obtain ⟨a, b, zs, rfl, ha, hb, hl, k⟩ := h
    refine ⟨_, (pss_cons (ps_if (pt_val (pe_callB (isiT_K (K := K) rfl) (by rfl) T.z_isinstance (by decide +kernel) (pa_cons (pv 1) (pa_cons (pe_tup (pa_cons (pe_bltn (v := .ty "tuple") (by rfl) T.z_tuple (by decide +kernel) rfl) (pa_cons (pe_bltn (v := .ty "list") (by rfl) T.z_list (by decide +kernel) rfl) pa_nil))) pa_nil)))) (pss_cons (ps_if (PW.pt (pw_or (pt_not (pt_val (pe_callB (isiT_K (K := K) rfl) (by rfl) T.z_isinstance (by decide +kernel) (pa_cons (pv 0) (pa_cons (pe_tup (pa_cons (pe_bltn (v := .ty "tuple") (by rfl) T.z_tuple (by decide +kernel) rfl) (pa_cons (pe_bltn (v := .ty "list") (by rfl) T.z_list (by decide +kernel) rfl) pa_nil))) pa_nil))))) (pw_or1 (pt_cmpR op_ne (pe_callB (isi_K (K := K) rfl) (by rfl) T.z_isinstance (by decide +kernel) (pa_cons (pv 0) (pa_cons (pe_bltn (v := .ty "list") (by rfl) T.z_list (by decide +kernel) rfl) pa_nil))) (pe_callB (isi_K (K := K) rfl) (by rfl) T.z_isinstance (by decide +kernel) (pa_cons (pv 1) (pa_cons (pe_bltn (v := .ty "list") (by rfl) T.z_list (by decide +kernel) rfl) pa_nil))) (nomark _))))) (pss_one (ps_ret pe_bl)) pss_nil)
  (pss_cons (ps_if (pt_cmpR op_ne (pe_callB (len_K (K := K) rfl) (by rfl) T.z_len (by decide +kernel) (pa_cons (pv 0) pa_nil)) (pe_callB (len_K (K := K) rfl) (by rfl) T.z_len (by decide +kernel) (pa_cons (pv 1) pa_nil)) (nomark _)) (pss_one (ps_ret pe_bl)) pss_nil)
  (pss_one (ps_ret (pe_cmpR (eqD_K (K := K) rfl hr.units) (pe_lc (own := [("k", 2)]) (g := gName 2) rfl sc_law_alike.nd (pi_range1 rfl T.z_range (pa_cons (pe_callB (len_K (K := K) rfl) (by rfl) T.z_len (by decide +kernel) (pa_cons (pv 1) pa_nil)) pa_nil)) (blkOk_by (by kernel_rfl)) (fun _ _ _ _ _ => pg_name (i := 2) sc_law_alike.nd rfl (by first | exact Or.inl rfl | exact Or.inr rfl)) (fun _ _ _ _ _ => (pts_one (pt_not (pt_val (pe_call C_law_alike.G (hr.mono (by first | decide | omega)) rfl C_law_alike.g C_law_alike.kp C_law_alike.b .nil pass0 (pa_cons (pe_ix (ix_K (K := K) rfl) (pv 0) (pv 2) (fun _ _ => rfl)) (pa_cons (pe_ix (ix_K (K := K) rfl) (pv 1) (pv 2) (fun _ _ => rfl)) pa_nil))))))) (fun _ _ _ _ _ => (pv 2))) (pe_lst pa_nil) (nomark _)))))) pss_nil)
  (pss_cons (ps_if (PW.pt (pw_or (pt_cmpR op_isN (pv 1) pe_non (nomark _)) (pw_or1 (pt_val (pe_callB (isi_K (K := K) rfl) (by rfl) T.z_isinstance (by decide +kernel) (pa_cons (pv 1) (pa_cons (pe_bltn (v := .ty "str") (by rfl) T.z_str (by decide +kernel) rfl) pa_nil))))))) (pss_one (ps_ret (pe_and (pe_cmpR (eqD_K (K := K) rfl hr.units) (pv 0) (pv 1) (nomark _)) (pe_one (pe_cmpR op_eq (pe_callB (isi_K (K := K) rfl) (by rfl) T.z_isinstance (by decide +kernel) (pa_cons (pv 0) (pa_cons (pe_bltn (v := .ty "str") (by rfl) T.z_str (by decide +kernel) rfl) pa_nil))) (pe_callB (isi_K (K := K) rfl) (by rfl) T.z_isinstance (by decide +kernel) (pa_cons (pv 1) (pa_cons (pe_bltn (v := .ty "str") (by rfl) T.z_str (by decide +kernel) rfl) pa_nil))) (nomark _)))))) pss_nil)
  (pss_one (ps_ret (pe_and (pe_callB (isi_K (K := K) rfl) (by rfl) T.z_isinstance (by decide +kernel) (pa_cons (pv 0) (pa_cons (pe_bltn (v := .ty "int") (by rfl) T.z_int (by decide +kernel) rfl) pa_nil))) (pe_and (pe_cmpR op_eq (pe_callB (isi_K (K := K) rfl) (by rfl) T.z_isinstance (by decide +kernel) (pa_cons (pv 0) (pa_cons (pe_bltn (v := .ty "bool") (by rfl) T.z_bool (by decide +kernel) rfl) pa_nil))) (pe_callB (isi_K (K := K) rfl) (by rfl) T.z_isinstance (by decide +kernel) (pa_cons (pv 1) (pa_cons (pe_bltn (v := .ty "bool") (by rfl) T.z_bool (by decide +kernel) rfl) pa_nil))) (nomark _)) (pe_one (pe_cmpR (eqD_K (K := K) rfl hr.units) (pv 0) (pv 1) (nomark _))))))))), ?_⟩
    have hlm : (zs.map V.int).length = zs.length := List.length_map _
    refine q_when (b := true || false) (et_B (ev_isi2 (t := "tuple") (ev_var rfl) (ty_tup hb) (by decide +kernel) (by decide +kernel))) (fun _ H1 e1 => ?_) fun z => nomatch z
    have ha1 := ex_t e1 ha
    have hb1 := ex_t e1 hb
    refine q_when (b := false) (et_is (et_or (et_not (et_B (ev_isi2 (t := "tuple") (ev_var rfl) (ty_tup ha1) (b1 := true) (b2 := false) (by decide +kernel) (by decide +kernel)))) fun _ => et_ne (ev_isi (t := "tuple") (b := false) (ev_var rfl) (ty_tup ha1) (by decide +kernel)) (ev_isi (t := "tuple") (b := false) (ev_var rfl) (ty_tup hb1) (by decide +kernel)) rfl) (by simp)) (fun z => nomatch z) fun _ H2 e2 => ?_
    have ha2 := ex_t e2 ha1
    have hb2 := ex_t e2 hb1
    refine q_when (b := false) (et_is (et_ne (ev_lnT (ev_var rfl) ha2) (ev_lnT (ev_var rfl) hb2) rfl) (by simp)) (fun z => nomatch z) fun _ H3 e3 => ?_
    have ha3 := ex_t e3 ha2
    have hb3 := ex_t e3 hb2
    have key := el_lcR1 (σ := [some (.ref a), some (.ref b), none]) (H := H3) (ta := tCons (tCB (rLn K) (tCons (tVar 1) tNil)) tNil) (j := 2) (vs := List.map (fun x => x.snd) [(("k" : Str), 2)]) (n := ((zs.map V.int).length : Int)) (t := tNot (tB (tCall spAlike1 [] E0 (tCons (tOp (rIx K) (tVar 0) (tVar 2)) (tCons (tOp (rIx K) (tVar 1) (tVar 2)) tNil))))) (te := tVar 2) (fun c => false) (fun c => .int (c : Nat))
      (ea_cons (ev_lnT (ev_var rfl) hb3) ea_nil) ⟨by omega, by omega⟩ (fun x => rfl) (fun i H4 e4 hi => by
        have hil : i < zs.length := by omega
        have hz : atI (zs.map V.int) (i : Int) = some (.int zs[i]) := atI_nat' (by rw [List.getElem?_map, List.getElem?_eq_getElem hil]; rfl)
        exact et_not (a := true) (et_B (ev_callV (ea_cons (ev_ixT (ev_var rfl) (ev_var rfl) (ex_t e4 ha3) hz) (ea_cons (ev_ixT (ev_var rfl) (ev_var rfl) (ex_t e4 hb3) hz) ea_nil)) fun H5 e5 Q q => ⟨zs[i], rfl, q⟩))) (fun i H4 e4 hi z => nomatch z)
    have hg : given (((zs.map V.int).length : Int)).toNat (fun _ => false) (fun c => V.int (c : Nat)) = ([] : List Int).map V.int := by simp [given]
    rw [hg] at key
    exact s_ret (v := .bl true) (ev_eqNil key) fun H4 e4 => k H4 (((e1.trans e2).trans e3).trans e4)
abbrev s_law_is : Stmt := top 33
theorem sc_law_is : FnScope ["found", "due"] ["found", "due"] (defScope s_law_is) := ⟨rfl, rfl, rfl, by decide +kernel, rfl, by decide +kernel, by decide +kernel⟩
theorem ok_is {f : Addr} {fd : FuncData} (F : Fun K "_law_is" "_law_is" s_law_is f fd) (T : Txt K mg) : FnOk P w K mg base CX0 1 f fd ["found", "due"] (fun vs H Q _ => ∃ b : Bool, vs = [.bl b, .bl b] ∧ ∀ H', Ex H H' → Q (.bl true) H') := by
  refine F.ok sc_law_is (fun vs H Q E h => ?_) (fun cdv A outer s H vs Q E hr h => ?_)
  · obtain ⟨_, rfl, _⟩ := h
    rfl
  · obtain ⟨b, rfl, k⟩ := h
    refine ⟨_, (pss_one (ps_ret (pe_and (pe_callB (isi_K (K := K) rfl) (by rfl) T.z_isinstance (by decide +kernel) (pa_cons (pv 0) (pa_cons (pe_bltn (v := .ty "bool") (by rfl) T.z_bool (by decide +kernel) rfl) pa_nil))) (pe_one (pe_cmpR op_eq (pv 0) (pv 1) (nomark _)))))), ?_⟩
    refine s_ret (v := .bl (true && decide (V.bl b = V.bl b))) (ev_andV (ev_isi (t := "bool") (ev_var rfl) (.base (.bl b)) (by decide +kernel)) fun _ => ev_op (ev_var rfl) (ev_var rfl) (rv_eq rfl)) fun H1 e1 => ?_
    rw [decide_eq_true rfl]
    exact k H1 e1
end
end Fm
set_option Elab.async false
set_option linter.all false
set_option maxRecDepth 100000
set_option maxHeartbeats 1000000
namespace Fm
open PySem L2 Evl
def spStands (K : PySem.W.Frag) : Sp := fun vs H Q _ => ∃ (a : Addr) (p : List In) (cells i : Nat), vs = [.ref a, .int (i : Int)] ∧ PgT K H a p ∧ Pok cells p ∧ i ≤ p.length ∧ p.length ≤ 1000 ∧ ∀ H', Ex H H' → Q (.int (toI p (stE p i))) H'
section
variable {P : Program} {w : World} {K : PySem.W.Frag} {mg : Str → Option Value} {base : Heap}
abbrev s_law_stands : Stmt := top 35
theorem sc_law_stands : FnScope ["program", "index", "turn"] ["program", "index"] (defScope s_law_stands) := ⟨rfl, rfl, rfl, by decide +kernel, rfl, by decide +kernel, by decide +kernel⟩
--TY _law_stands {'program':('tuple','any')}
theorem ok_stands {f : Addr} {fd : FuncData} (F : Fun K "_law_stands" "_law_stands" s_law_stands f fd) (T : Txt K mg) : FnOk P w K mg base CX0 1 f fd ["program", "index"] (spStands K) := by
  refine F.ok sc_law_stands (fun vs H Q E h => ?_) (fun cdv A outer s H vs Q E hr h => ?_)
  · obtain ⟨_, _, _, _, rfl, _⟩ := h
    rfl
  · obtain ⟨a, p, cells, i, rfl, hp, hok, hi, hl, k⟩ := h
    refine ⟨_, (pss_cons (ps_for PassesOwn.never rfl (pi_range1 rfl T.z_range (pa_cons (pe_op op_add (pe_callB (len_K (K := K) rfl) (by rfl) T.z_len (by decide +kernel) (pa_cons (pv 0) pa_nil)) pe_int) pa_nil)) (pg_name (i := 2) sc_law_stands.nd rfl (by first | exact Or.inl rfl | exact Or.inr rfl)) (pss_one (ps_if (PW.pt (pw_and (pt_cmpR op_lt (pv 1) (pe_callB (len_K (K := K) rfl) (by rfl) T.z_len (by decide +kernel) (pa_cons (pv 0) pa_nil)) (nomark _)) (pw_and1 (pt_cmpR op_eq (pe_ix (ix_K (K := K) rfl) (pe_ix (ix_K (K := K) rfl) (pv 0) (pv 1) (fun _ _ => rfl)) pe_int (fun _ _ => rfl)) pe_str (nomark _))))) (pss_one (ps_set (i := 1) sc_law_stands.nd rfl (Or.inl rfl) (pe_ix (ix_K (K := K) rfl) (pe_ix (ix_K (K := K) rfl) (pv 0) (pv 1) (fun _ _ => rfl)) pe_int (fun _ _ => rfl)))) pss_nil)))
  (pss_cons (ps_if (PW.pt (pw_or (pt_cmpR op_eq (pv 1) (pe_callB (len_K (K := K) rfl) (by rfl) T.z_len (by decide +kernel) (pa_cons (pv 0) pa_nil)) (nomark _)) (pw_or1 (pt_cmpR (in_K (K := K) rfl) (pe_ix (ix_K (K := K) rfl) (pe_ix (ix_K (K := K) rfl) (pv 0) (pv 1) (fun _ _ => rfl)) pe_int (fun _ _ => rfl)) (pe_lst (pa_cons pe_str (pa_cons pe_str pa_nil))) (by rfl))))) (pss_one (ps_ret (pe_op op_sub pe_int pe_int))) pss_nil)
  (pss_one (ps_ret (pv 1))))), ?_⟩
    have hn : (p.length : Int) + 1 ≤ 100000 := by omega
    refine q_forR1 (n := (p.length : Int) + 1) (ea_cons (ev_i0 (ev_lnP hp (ev_var rfl)) ev_c) ea_nil) ⟨by omega, hn⟩
      (fun m σ H' => Ex H H' ∧ ∃ z, σ = [some (.ref a), some (.int (gn p i m : Nat)), z]) (fun H1 e => ⟨e, _, rfl⟩) ?_ ?_
    · rintro m σ H1 hm ⟨e, z, rfl⟩
      have hp1 := hp.up e
      by_cases hc : gn p i m < p.length
      · obtain ⟨x, hx⟩ : ∃ x, p[gn p i m]? = some x := ⟨_, List.getElem?_eq_getElem hc⟩
        refine s_when (et_and (et_i0 (ev_var rfl) (ev_lnP hp1 (ev_var rfl))) fun _ => et_eq (ev_pg0 hp1 hx (ev_var rfl) (ev_var rfl)) ev_c rfl) (fun hb H2 e2 => ?_) (fun hb H2 e2 => ?_)
        · rw [w_go, Bool.and_eq_true] at hb
          cases x <;> simp [In.isGo] at hb
          rename_i t
          refine s_asg (ev_pg1 (hp1.up e2) hx rfl (ev_var rfl) (ev_var rfl)) fun H3 e3 => ⟨(e.trans e2).trans e3, some (.int m), ?_⟩
          show [some (V.ref a), some (V.int (t : Nat)), _] = _
          show _ = [some (V.ref a), some (V.int (gstep p (gn p i m) : Nat)), _]
          unfold gstep
          rw [hx]
        · refine ⟨e.trans e2, some (.int m), ?_⟩
          show _ = [some (V.ref a), some (V.int (gstep p (gn p i m) : Nat)), _]
          have : gstep p (gn p i m) = gn p i m := by
            unfold gstep
            rw [hx]
            rw [w_go] at hb
            have hc' : ((gn p i m : Nat) : Int) < p.length := by omega
            cases x <;> simp [hc', In.isGo] at hb ⊢
          rw [this]
          rfl
      · refine s_when (et_and (b := true) (et_i0 (ev_var rfl) (ev_lnP hp1 (ev_var rfl))) fun hb => ?_) (fun hb H2 e2 => ?_) (fun hb H2 e2 => ?_)
        · have := of_decide_eq_true hb
          omega
        · rw [Bool.and_eq_true] at hb
          have := of_decide_eq_true hb.1
          omega
        · refine ⟨e.trans e2, some (.int m), ?_⟩
          show _ = [some (V.ref a), some (V.int (gstep p (gn p i m) : Nat)), _]
          have : gstep p (gn p i m) = gn p i m := by
            unfold gstep
            rw [List.getElem?_eq_none (by omega)]
          rw [this]
          rfl
    · rintro σ H1 ⟨e, z, rfl⟩
      have hp1 := hp.up e
      have e0 : ((p.length : Int) + 1).toNat = p.length + 1 := by omega
      rw [e0]
      have hj := gn_le hok hi (p.length + 1)
      have fin : ∀ b : Bool, ends p (gn p i (p.length + 1)) = b → toI p (stE p i) = if b then -1 else (gn p i (p.length + 1) : Int) := fun b hb => by
        unfold toI stE
        rw [hb]
        cases b with
        | true => simp
        | false =>
          have : gn p i (p.length + 1) ≠ p.length := fun z => by
            rw [z] at hb
            unfold ends at hb
            simp at hb
          simp [this]
      by_cases hc : gn p i (p.length + 1) = p.length
      · have he : ends p (gn p i (p.length + 1)) = true := by
          unfold ends
          rw [hc]
          simp
        refine q_when (b := true) (et_is (et_or (b := true) (et_eq (ev_var rfl) (ev_lnP hp1 (ev_var rfl)) rfl) fun hb => ?_) (by rw [Bool.or_true])) (fun _ H2 e2 => ?_) (fun hb => nomatch hb)
        · have := of_decide_eq_false hb
          rw [hc] at this
          exact absurd rfl this
        · refine s_ret (ev_i0 ev_c ev_c) fun H3 e3 => ?_
          have := k H3 ((e.trans e2).trans e3)
          rw [fin true he] at this
          exact this
      · obtain ⟨x, hx⟩ : ∃ x, p[gn p i (p.length + 1)]? = some x := ⟨_, List.getElem?_eq_getElem (by omega)⟩
        have he : ends p (gn p i (p.length + 1)) = x.isEnd := by
          unfold ends
          rw [hx]
        have hne : decide (V.int (gn p i (p.length + 1) : Nat) = V.int (p.length : Nat)) = false := decide_eq_false fun z => hc (by have := V.int.inj z; omega)
        refine q_when (et_is (et_or (et_is (et_eq (ev_var rfl) (ev_lnP hp1 (ev_var rfl)) rfl) hne) fun _ => et_inL (ev_pg0 hp1 hx (ev_var rfl) (ev_var rfl)) (el_lst (ea_cons ev_c (ea_cons ev_c ea_nil)) (by decide)) rfl rfl) (by rw [w_sg, Bool.false_or])) (fun hb H2 e2 => ?_) (fun hb H2 e2 => ?_)
        · refine s_ret (ev_i0 ev_c ev_c) fun H3 e3 => ?_
          have := k H3 ((e.trans e2).trans e3)
          rw [fin true (he.trans hb)] at this
          exact this
        · refine s_ret (ev_var rfl) fun H3 e3 => ?_
          have := k H3 ((e.trans e2).trans e3)
          rw [fin false (he.trans hb)] at this
          exact this
end
end Fm
set_option Elab.async false
set_option linter.all false
set_option maxRecDepth 100000
namespace Fm
/-! ### arithmetic of lists -/
theorem nodup_le : ∀ (n : Nat) (l : List Nat), l.Nodup → (∀ x ∈ l, x < n) → l.length ≤ n
  | 0, l, _, h => by
    cases l with
    | nil => simp
    | cons a l => exact absurd (h a (by simp)) (by omega)
  | n + 1, l, hd, h => by
    by_cases hm : n ∈ l
    · have h1 := List.length_erase_of_mem hm
      have h2 := nodup_le n (l.erase n) (hd.erase n) fun x hx => by
        have h3 := h x (List.mem_of_mem_erase hx)
        have h4 : x ≠ n := fun e => by
          subst e
          exact (List.Nodup.not_mem_erase hd) hx
        omega
      have := List.length_pos_of_mem hm
      omega
    · have := nodup_le n l hd fun x hx => by
        have h3 := h x hx
        have h4 : x ≠ n := fun e => hm (e ▸ hx)
        omega
      omega
theorem pigeon {n : Nat} (f : Nat → Nat) (h : ∀ i, i ≤ n → f i < n) : ∃ a b, a < b ∧ b ≤ n ∧ f a = f b := by
  refine Classical.byContradiction fun hn => ?_
  have inj : ∀ a b, a ≤ n → b ≤ n → f a = f b → a = b := fun a b ha hb e => by
    rcases Nat.lt_trichotomy a b with z | z | z
    · exact absurd ⟨a, b, z, hb, e⟩ hn
    · exact z
    · exact absurd ⟨b, a, z, ha, e.symm⟩ hn
  have hd : ((List.range (n + 1)).map f).Nodup := by
    refine List.nodup_iff_pairwise_ne.mpr ?_
    rw [List.pairwise_map]
    refine List.Pairwise.imp_of_mem ?_ List.nodup_range
    intro a b ha hb hab e
    rw [List.mem_range] at ha hb
    exact hab (inj a b (by omega) (by omega) e)
  have := nodup_le n _ hd fun x hx => by
    obtain ⟨i, hi, rfl⟩ := List.mem_map.mp hx
    rw [List.mem_range] at hi
    exact h i (by omega)
  rw [List.length_map, List.length_range] at this
  omega
/-! ### where a program stands, its laws -/
def isgo (p : List In) (j : Nat) : Prop := ∃ t, p[j]? = some (.go t)
theorem gstep_not {p : List In} {j : Nat} (h : ¬ isgo p j) : gstep p j = j := by
  unfold gstep
  split
  · rename_i t e
    exact absurd ⟨t, e⟩ h
  · rfl
theorem gn_add (p : List In) (i a : Nat) : ∀ b, gn p (gn p i a) b = gn p i (a + b)
  | 0 => rfl
  | b + 1 => by
    show gstep p (gn p (gn p i a) b) = gstep p (gn p i (a + b))
    rw [gn_add p i a b]
theorem gn_stay {p : List In} {i k : Nat} (h : ¬ isgo p (gn p i k)) : ∀ b, gn p i (k + b) = gn p i k
  | 0 => rfl
  | b + 1 => by
    show gstep p (gn p i (k + b)) = _
    rw [gn_stay h b, gstep_not h]
theorem go_before {p : List In} {i k m : Nat} (h : isgo p (gn p i k)) (hm : m ≤ k) : isgo p (gn p i m) := by
  refine Classical.byContradiction fun hn => hn ?_
  have := gn_stay hn (k - m)
  rw [show m + (k - m) = k by omega] at this
  rw [← this]
  exact h
theorem isgo_lt {p : List In} {j : Nat} (h : isgo p j) : j < p.length := by
  obtain ⟨t, e⟩ := h
  exact (List.getElem?_eq_some_iff.mp e).1
theorem go_all {p : List In} {i : Nat} (h : isgo p (gn p i (p.length + 1))) : isgo p (gn p i (p.length + 2)) := by
  obtain ⟨a, b, hab, hb, e⟩ := pigeon (n := p.length) (gn p i) fun m hm => isgo_lt (go_before h (by omega))
  have e2 : gn p i (p.length + 2) = gn p i (p.length + 2 - (b - a)) := by
    have h1 := gn_add p i b (p.length + 2 - b)
    have h2 := gn_add p i a (p.length + 2 - b)
    rw [show b + (p.length + 2 - b) = p.length + 2 by omega] at h1
    rw [show a + (p.length + 2 - b) = p.length + 2 - (b - a) by omega] at h2
    rw [← h1, ← h2, e]
  rw [e2]
  exact go_before h (by omega)
theorem ends_go {p : List In} {j : Nat} (h : isgo p j) : ends p j = true := by
  obtain ⟨t, e⟩ := h
  unfold ends
  rw [e]
  rfl
/-- behind a go -/
theorem stE_go {p : List In} {i t : Nat} (h : p[i]? = some (.go t)) : stE p i = stE p t := by
  have e1 : gn p i 1 = t := by
    show gstep p i = t
    unfold gstep
    rw [h]
  have e2 : gn p t (p.length + 1) = gn p i (p.length + 2) := by
    rw [← e1, gn_add p i 1 (p.length + 1)]
    congr 1
    omega
  by_cases hg : isgo p (gn p i (p.length + 1))
  · have h1 := ends_go hg
    have h2 := ends_go (go_all hg)
    unfold stE
    rw [e2, h1, h2]
    simp
  · have := gn_stay hg 1
    unfold stE
    rw [e2, show p.length + 2 = p.length + 1 + 1 by omega, this]
theorem gn_fix {p : List In} {i : Nat} (h : ¬ isgo p i) (k : Nat) : gn p i k = i := by
  have := gn_stay (p := p) (i := i) (k := 0) h k
  rw [Nat.zero_add] at this
  exact this
theorem stE_end {p : List In} : stE p p.length = p.length := by
  have hn : ¬ isgo p p.length := fun h => absurd (isgo_lt h) (by omega)
  unfold stE
  rw [gn_fix hn]
  split <;> rfl
theorem stE_stop {p : List In} {i : Nat} (h : p[i]? = some .stop) : stE p i = p.length := by
  have hn : ¬ isgo p i := fun ⟨t, e⟩ => by rw [h] at e; cases e
  unfold stE
  rw [gn_fix hn]
  have : ends p i = true := by
    unfold ends
    rw [h]
    rfl
  rw [this]
  simp
theorem stE_self {p : List In} {i : Nat} {x : In} (h : p[i]? = some x) (hx : x.isEnd = false) : stE p i = i := by
  have hn : ¬ isgo p i := fun ⟨t, e⟩ => by
    rw [h] at e
    cases e
    cases hx
  unfold stE
  rw [gn_fix hn]
  have : ends p i = false := by
    unfold ends
    rw [h]
    exact hx
  rw [this]
  simp
/-- it comes from x to y by gos, one at least -/
def Lead (p : List In) (x y : Nat) : Prop := ∃ k, 1 ≤ k ∧ gn p x k = y ∧ ∀ i, i < k → isgo p (gn p x i)
theorem Lead.one {p : List In} {x t : Nat} (h : p[x]? = some (.go t)) : Lead p x t := ⟨1, Nat.le_refl _, by
  show gstep p x = t
  unfold gstep
  rw [h], fun i hi => by
  have : i = 0 := by omega
  subst this
  exact ⟨t, h⟩⟩
theorem Lead.step {p : List In} {x y t : Nat} (h : Lead p x y) (hy : p[y]? = some (.go t)) : Lead p x t := by
  obtain ⟨k, hk, e, hg⟩ := h
  refine ⟨k + 1, by omega, ?_, fun i hi => ?_⟩
  · show gstep p (gn p x k) = t
    rw [e]
    unfold gstep
    rw [hy]
  · by_cases hc : i < k
    · exact hg i hc
    · have : i = k := by omega
      subst this
      rw [e]
      exact ⟨t, hy⟩
theorem Lead.st {p : List In} {x y : Nat} (h : Lead p x y) : stE p x = stE p y := by
  obtain ⟨k, _, e, hg⟩ := h
  have key : ∀ m, m ≤ k → stE p x = stE p (gn p x m) := by
    intro m
    induction m with
    | zero => intro _; rfl
    | succ m ih =>
      intro hm
      obtain ⟨t, ht⟩ := hg m (by omega)
      rw [ih (by omega), stE_go ht]
      congr 1
      show t = gstep p (gn p x m)
      unfold gstep
      rw [ht]
  rw [key k (Nat.le_refl _), e]
theorem Lead.cyc {p : List In} {x : Nat} (h : Lead p x x) : stE p x = p.length := by
  obtain ⟨k, hk, e, hg⟩ := h
  have key : ∀ i, isgo p (gn p x i) := by
    intro i
    induction i using Nat.strongRecOn with
    | _ i ih =>
      by_cases hc : i < k
      · exact hg i hc
      · have h1 := gn_add p x k (i - k)
        rw [e, show k + (i - k) = i by omega] at h1
        rw [← h1]
        exact ih (i - k) (by omega)
  unfold stE
  rw [ends_go (key _)]
  simp
theorem stE_le {cells : Nat} {p : List In} (h : Pok cells p) {i : Nat} (hi : i ≤ p.length) : stE p i ≤ p.length := by
  unfold stE
  split
  · omega
  · exact gn_le h hi _
end Fm
set_option Elab.async false
set_option linter.all false
set_option maxRecDepth 100000
namespace Fm
/-- where it may stand behind an instruction -/
def brs (p : List In) (i : Nat) : List Nat := match p[i]? with
  | some (.zero t) => [stE p t, stE p (i + 1)]
  | _ => [stE p (i + 1)]
inductive Reach (p : List In) : Nat → Prop where
  | start : Reach p (stE p 0)
  | step {i j : Nat} : Reach p i → i < p.length → j ∈ brs p i → Reach p j
/-- it stands at i -/
def Sta (p : List In) (i : Nat) : Prop := ∃ x, p[i]? = some x ∧ x.isEnd = false
theorem Sta.lt {p : List In} {i : Nat} (h : Sta p i) : i < p.length := by
  obtain ⟨x, e, _⟩ := h
  exact (List.getElem?_eq_some_iff.mp e).1
theorem Sta.self {p : List In} {i : Nat} (h : Sta p i) : stE p i = i := by
  obtain ⟨x, e, hx⟩ := h
  exact stE_self e hx
theorem stE_sta {c : Nat} {p : List In} (h : Pok c p) {i : Nat} (hi : i ≤ p.length) : stE p i = p.length ∨ Sta p (stE p i) := by
  unfold stE
  by_cases he : ends p (gn p i (p.length + 1)) = true
  · rw [if_pos he]
    exact .inl rfl
  · rw [if_neg he]
    refine .inr ?_
    unfold ends at he
    cases hx : p[gn p i (p.length + 1)]? with
    | none => rw [hx] at he; exact absurd rfl he
    | some x =>
      rw [hx] at he
      exact ⟨x, hx, by simpa using he⟩
theorem brs_sta {c : Nat} {p : List In} (h : Pok c p) {i j : Nat} (hi : i < p.length) (hj : j ∈ brs p i) : j = p.length ∨ Sta p j := by
  unfold brs at hj
  split at hj
  · rename_i t e
    have ht : t ≤ p.length := h.2 _ (List.mem_of_getElem? e)
    rcases List.mem_cons.mp hj with rfl | hj
    · exact stE_sta h ht
    · rw [List.mem_singleton.mp hj]
      exact stE_sta h hi
  · rw [List.mem_singleton.mp hj]
    exact stE_sta h hi
theorem Reach.sta {c : Nat} {p : List In} (h : Pok c p) {i : Nat} (r : Reach p i) : i = p.length ∨ Sta p i := by
  cases r with
  | start => exact stE_sta h (Nat.zero_le _)
  | step _ hi hj => exact brs_sta h hi hj
theorem Reach.le {c : Nat} {p : List In} (h : Pok c p) {i : Nat} (r : Reach p i) : i ≤ p.length := by
  rcases r.sta h with z | z
  · omega
  · exact Nat.le_of_lt z.lt
/-! ### ascending lists -/
abbrev Asc (l : List Nat) : Prop := l.Pairwise (· < ·)
theorem asc_eq : ∀ {xs ys : List Nat}, Asc xs → Asc ys → (∀ z, z ∈ xs ↔ z ∈ ys) → xs = ys
  | [], [], _, _, _ => rfl
  | [], y :: ys, _, _, h => absurd ((h y).mpr (by simp)) (by simp)
  | x :: xs, [], _, _, h => absurd ((h x).mp (by simp)) (by simp)
  | x :: xs, y :: ys, hx, hy, h => by
    obtain ⟨hx1, hx2⟩ := List.pairwise_cons.mp hx
    obtain ⟨hy1, hy2⟩ := List.pairwise_cons.mp hy
    have e : x = y := by
      have h1 := (h x).mp (by simp)
      have h2 := (h y).mpr (by simp)
      rcases List.mem_cons.mp h1 with z | z
      · exact z
      rcases List.mem_cons.mp h2 with z2 | z2
      · exact z2.symm
      have := hy1 x z
      have := hx1 y z2
      omega
    subst e
    congr 1
    refine asc_eq hx2 hy2 fun z => ⟨fun hz => ?_, fun hz => ?_⟩
    · have := (h z).mp (List.mem_cons_of_mem _ hz)
      rcases List.mem_cons.mp this with q | q
      · subst q
        exact absurd (hx1 _ hz) (by omega)
      · exact q
    · have := (h z).mpr (List.mem_cons_of_mem _ hz)
      rcases List.mem_cons.mp this with q | q
      · subst q
        exact absurd (hy1 _ hz) (by omega)
      · exact q
/-- a rising arrangement of numbers none of which stands twice -/
theorem asc_of {ys : List Int} {l : List Nat} (hp : ys.Perm (l.map fun (x : Nat) => (x : Int))) (hs : ys.Pairwise (· ≤ ·)) (hd : l.Nodup) : ∃ zs : List Nat, ys = zs.map (fun (x : Nat) => (x : Int)) ∧ Asc zs ∧ zs.Perm l := by
  refine ⟨ys.map Int.toNat, ?_, ?_, ?_⟩
  · rw [List.map_map]
    have : ∀ y ∈ ys, (y.toNat : Int) = y := fun y hy => by
      obtain ⟨x, _, e⟩ := List.mem_map.mp (hp.mem_iff.mp hy)
      omega
    exact ((List.map_congr_left (f := (fun (x : Nat) => (x : Int)) ∘ Int.toNat) (g := id) this).trans (List.map_id _)).symm
  · have hnd : ys.Nodup := (hp.nodup_iff).mpr (by
      refine List.nodup_iff_pairwise_ne.mpr ?_
      rw [List.pairwise_map]
      refine List.Pairwise.imp ?_ (List.nodup_iff_pairwise_ne.mp hd)
      intro a b h e
      exact h (by omega))
    have h2 : ys.Pairwise (· < ·) := by
      have := hs.and (List.nodup_iff_pairwise_ne.mp hnd)
      exact this.imp fun ⟨a, b⟩ => by omega
    rw [Asc, List.pairwise_map]
    refine h2.imp_of_mem fun {a b} ha hb hab => ?_
    obtain ⟨x, _, e⟩ := List.mem_map.mp (hp.mem_iff.mp ha)
    obtain ⟨y, _, e2⟩ := List.mem_map.mp (hp.mem_iff.mp hb)
    have e : (x : Int) = a := e
    have e2 : (y : Int) = b := e2
    omega
  · have := hp.map Int.toNat
    rw [List.map_map] at this
    rw [show (Int.toNat ∘ fun (x : Nat) => (x : Int)) = id from by funext x; simp, List.map_id] at this
    exact this
theorem sub_le {l m : List Nat} (hd : l.Nodup) (h : ∀ x ∈ l, x ∈ m) : l.length ≤ m.length := by
  induction l generalizing m with
  | nil => simp
  | cons a l ih =>
    obtain ⟨h1, h2⟩ := List.nodup_cons.mp hd
    have ha := h a (by simp)
    have := ih (m := m.erase a) h2 fun x hx => by
      have hne : x ≠ a := fun e => h1 (e ▸ hx)
      exact (List.mem_erase_of_ne hne).mpr (h x (List.mem_cons_of_mem _ hx))
    have e := List.length_erase_of_mem ha
    have := List.length_pos_of_mem ha
    simp only [List.length_cons]
    omega
end Fm
set_option Elab.async false
set_option linter.all false
set_option maxRecDepth 100000
set_option maxHeartbeats 1000000
namespace Fm
open PySem L2 Evl
def kD (F : List Nat) : List (Key × V) := F.map fun (x : Nat) => (Sum.inl (x : Int), V.bl true)
theorem kD_val (F : List Nat) (x : Nat) : valV (kD F) (Sum.inl (x : Int)) = if x ∈ F then some (.bl true) else none := by
  induction F with
  | nil => simp [kD, valV_nil]
  | cons a l ih =>
    show valV ((Sum.inl (a : Int), V.bl true) :: kD l) _ = _
    by_cases h : a = x
    · subst h
      rw [valV_pos rfl]
      simp
    · rw [valV_neg (by intro z; exact h (by have := Sum.inl.inj z; omega)), ih]
      have : x ≠ a := fun e => h e.symm
      simp [this]
theorem kD_put {F : List Nat} {x : Nat} (h : x ∉ F) : putK (kD F) (Sum.inl (x : Int)) (.bl true) = kD (F ++ [x]) := by
  rw [putK_new _ (by rw [kD_val, if_neg h])]
  simp [kD]
section
variable {K : PySem.W.Frag} {σ : L2.St} {H : Hp} {ta tb te tt' : TE} {D : Ends} {tz tu : TS} {tt : TT} {tA : TA}
/-- the rest of a comprehension over a list that stands -/
theorem lc_tail {a : Addr} {xs : List V} {j : Nat} {vs : List Nat} {Qd : Addr → Hp → Prop} (f : Nat → Bool) (v : Nat → V) (hx : SqL K H a xs) (hz : xs.length ≤ 40000) (hw : ∀ x, wipe ((wipe σ vs).set j (some x)) vs = wipe σ vs)
    (ht : ∀ (i : Nat) (x : V) H1, Ex H H1 → xs[i]? = some x → EvT tt ((wipe σ vs).set j (some x)) H1 (f i)) (he : ∀ (i : Nat) (x : V) H1, Ex H H1 → xs[i]? = some x → f i = true → Ev te ((wipe σ vs).set j (some x)) H1 (v i))
    (q : ∀ Dl H2, H Dl = none → Ex H H2 → H2 Dl = some (.lst (given xs.length f v)) → Qd Dl H2) :
    ∀ Dl, H Dl = none → ∃ W : Nat → Nat → Hp → Prop, (∃ m, W 0 m (upd H Dl (.lst []))) ∧ ∀ i m H', W i m H' →
      ((Itl K a).stop i H' ∧ Qd Dl H') ∨ ((Itl K a).go i H' ∧ ∃ Nx : Hp → Prop, (∀ H'', Nx H'' → ∃ m', m' < m ∧ W (i + 1) m' H'') ∧ ∀ x H'', (Itl K a).yld i H' x H'' → gName j x (wipe σ vs) H'' fun σ2 H2 => wipe σ2 vs = wipe σ vs ∧ tt σ2 H2 fun b H3 =>
        if b = true then te σ2 H3 fun y H4 => ∃ acc, H4 Dl = some (.lst acc) ∧ acc.length < sizeLine ∧ Nx (upd H4 Dl (.lst (acc ++ [y]))) else Nx H3) := fun Dl hD =>
  lc_list (xs := xs) (Cw H f v Dl) ⟨hD, Ex.new hD, upd_same⟩ (fun i H' _ p => ex_l p.2.1 hx) (fun i x H' hi p => ⟨hw x, cw_turn p (by have := (List.getElem?_eq_some_iff.mp hi).1; omega) (ht i x H (Ex.refl H) hi) (fun hf => he i x H (Ex.refl H) hi hf)⟩) (fun H' p => q Dl H' p.1 p.2.1 p.2.2)
theorem lc_tailT {a : Addr} {xs : List V} {j : Nat} {vs : List Nat} {Qd : Addr → Hp → Prop} (f : Nat → Bool) (v : Nat → V) (hx : SqT K H a xs) (hz : xs.length ≤ 40000) (hw : ∀ x, wipe ((wipe σ vs).set j (some x)) vs = wipe σ vs)
    (ht : ∀ (i : Nat) (x : V) H1, Ex H H1 → xs[i]? = some x → EvT tt ((wipe σ vs).set j (some x)) H1 (f i)) (he : ∀ (i : Nat) (x : V) H1, Ex H H1 → xs[i]? = some x → f i = true → Ev te ((wipe σ vs).set j (some x)) H1 (v i))
    (q : ∀ Dl H2, H Dl = none → Ex H H2 → H2 Dl = some (.lst (given xs.length f v)) → Qd Dl H2) :
    ∀ Dl, H Dl = none → ∃ W : Nat → Nat → Hp → Prop, (∃ m, W 0 m (upd H Dl (.lst []))) ∧ ∀ i m H', W i m H' →
      ((Itt K a).stop i H' ∧ Qd Dl H') ∨ ((Itt K a).go i H' ∧ ∃ Nx : Hp → Prop, (∀ H'', Nx H'' → ∃ m', m' < m ∧ W (i + 1) m' H'') ∧ ∀ x H'', (Itt K a).yld i H' x H'' → gName j x (wipe σ vs) H'' fun σ2 H2 => wipe σ2 vs = wipe σ vs ∧ tt σ2 H2 fun b H3 =>
        if b = true then te σ2 H3 fun y H4 => ∃ acc, H4 Dl = some (.lst acc) ∧ acc.length < sizeLine ∧ Nx (upd H4 Dl (.lst (acc ++ [y]))) else Nx H3) := fun Dl hD =>
  lc_tup (xs := xs) (Cw H f v Dl) ⟨hD, Ex.new hD, upd_same⟩ (fun i H' _ p => ex_t p.2.1 hx) (fun i x H' hi p => ⟨hw x, cw_turn p (by have := (List.getElem?_eq_some_iff.mp hi).1; omega) (ht i x H (Ex.refl H) hi) (fun hf => he i x H (Ex.refl H) hi hf)⟩) (fun H' p => q Dl H' p.1 p.2.1 p.2.2)
theorem m_callC {sp : Sp} {E : XK} {vs : List V} {Q : VK} {r : List V → Hp → VK → Prop} (h : EvA tA σ H vs) (k : ∀ H1, Ex H H1 → sp (vs ++ []) H1 (fun x H2 => r [x] H2 Q) E) : tCB r (tCons (tCall sp [] E tA) tNil) σ H Q := h H (Ex.refl H) _ k
/-- a new list, one of some -/
def EvLP (te : TE) (σ : L2.St) (H : Hp) (R : List V → Prop) : Prop := ∀ H1, Ex H H1 → ∀ Q : VK, (∀ xs p H2, R xs → H1 p = none → Ex H1 H2 → H2 p = some (.lst xs) → Q (.ref p) H2) → te σ H1 Q
theorem elp_lc {tl : TE} {j : Nat} {vs : List Nat} {R R' : List V → Prop} (h : EvLP tl σ H R) (hw : ∀ x, wipe ((wipe σ vs).set j (some x)) vs = wipe σ vs)
    (hf : ∀ xs, R xs → xs.length ≤ 40000 ∧ ∃ (f : Nat → Bool) (v : Nat → V), (∀ (i : Nat) (x : V) H1, Ex H H1 → xs[i]? = some x → EvT tt ((wipe σ vs).set j (some x)) H1 (f i)) ∧ (∀ (i : Nat) (x : V) H1, Ex H H1 → xs[i]? = some x → f i = true → Ev te ((wipe σ vs).set j (some x)) H1 (v i)) ∧ R' (given xs.length f v)) :
    EvLP (tLc (iList K tl) (gName j) tt te vs) σ H R' := fun H0 e Q q => h H0 e _ fun xs a H1 hR ha e1 hx => by
  obtain ⟨hz, f, v, ht, he, hr⟩ := hf xs hR
  refine ⟨a, rfl, ⟨xs, sq_of hx⟩, ?_⟩
  exact lc_tail (Qd := fun Dl H2 => Q (.ref Dl) H2) f v (sq_of hx) hz hw (fun i x H2 e2 => ht i x H2 ((e.trans e1).trans e2)) (fun i x H2 e2 => he i x H2 ((e.trans e1).trans e2)) fun Dl H2 hD e2 h2 => q _ Dl H2 hr (fresh_back e1 hD) (e1.trans e2) h2
theorem s_retTP {R : List V → Prop} (h : EvLP ta σ H R) (k : ∀ xs p H1, R xs → H p = none → Ex H H1 → H1 p = some (.tup xs) → D.rt (.ref p) H1) : tRet (tCB (rTpl K) (tCons ta tNil)) D σ H :=
  h H (Ex.refl H) _ fun xs p H1 hR hp e1 h1 => ⟨p, xs, rfl, .inl ⟨sq_of h1, fun l hl => k xs l _ hR (fresh_back e1 hl) (e1.trans (Ex.new hl)) upd_same⟩⟩
abbrev rSortedDI : List V → Hp → VK → Prop := fun xs H Q => ∃ (a : Addr) (kvs : List (Key × V)) (ks : List Int), xs = [.ref a] ∧ Rd H a (.dK kvs) ∧ kvs.map (·.1) = ks.map Sum.inl ∧ ks.length < 64 ∧
    ∀ (ys : List Int) (p : Addr), ys.Perm ks → ys.Pairwise (· ≤ ·) → H p = none → Q (.ref p) (upd H p (.lst (ys.map V.int)))
theorem elp_sortedD {d : Addr} {F : List Nat} (ha : Ev ta σ H (.ref d)) (hd : H d = some (.dK (kD F))) (hn : F.Nodup) (hl : F.length < 64) : EvLP (tCB rSortedDI (tCons ta tNil)) σ H (fun xs => ∃ zs, xs = nV zs ∧ Asc zs ∧ zs.Perm F) := fun H1 e Q q =>
  ha H1 e _ fun H2 e2 => by
    have hks : (kD F).map (·.1) = (F.map fun (x : Nat) => (x : Int)).map Sum.inl := by
      unfold kD
      rw [List.map_map, List.map_map]
      rfl
    refine ⟨d, kD F, F.map fun (x : Nat) => (x : Int), rfl, .inl (e2 _ _ (e _ _ hd)), hks, by rw [List.length_map]; omega, fun ys p hperm hsort hp => ?_⟩
    obtain ⟨zs, rfl, hasc, hpz⟩ := asc_of hperm hsort hn
    refine q _ p _ ⟨zs, ?_, hasc, hpz⟩ (fresh_back e2 hp) (e2.trans (Ex.new hp)) upd_same
    unfold nV
    rw [List.map_map]
    rfl
theorem elp_sorted {ns : List Nat} (ha : EvL ta σ H (nV ns)) (hn : ns.Nodup) : EvLP (tCB (rSortedI K) (tCons ta tNil)) σ H (fun xs => ∃ zs, xs = nV zs ∧ Asc zs ∧ zs.Perm ns) := fun H1 e Q q =>
  ha H1 e _ fun r H2 hr e2 h2 => by
    refine ⟨r, ns.map fun (x : Nat) => (x : Int), rfl, ?_, fun ys p hperm hsort hp => ?_⟩
    · rw [List.map_map]
      exact sq_of h2
    obtain ⟨zs, rfl, hasc, hpz⟩ := asc_of hperm hsort hn
    refine q _ p _ ⟨zs, ?_, hasc, hpz⟩ (fresh_back e2 hp) (e2.trans (Ex.new hp)) upd_same
    unfold nV
    rw [List.map_map]
    rfl
theorem yes_lc {Q : Bool → Hp → Prop} (h : Q true H) : tYes σ H Q := h
theorem et_yes : EvT tYes σ H true := fun H1 _ _ q => q H1 (Ex.refl H1)
theorem given_map {α : Type} (l : List α) (f : α → Bool) (v : α → V) (f' : Nat → Bool) (v' : Nat → V) (hf : ∀ i x, l[i]? = some x → f' i = f x) (hv : ∀ i x, l[i]? = some x → v' i = v x) : given l.length f' v' = (l.filter f).map v := by
  have key : ∀ n, n ≤ l.length → given n f' v' = ((l.take n).filter f).map v := by
    intro n
    induction n with
    | zero => intro _; rfl
    | succ n ih =>
      intro hn
      obtain ⟨x, hx⟩ : ∃ x, l[n]? = some x := ⟨_, List.getElem?_eq_getElem (by omega)⟩
      have e : l.take (n + 1) = l.take n ++ [x] := by
        rw [List.take_add_one, hx]
        rfl
      cases h : f' n with
      | true =>
        have h2 : f x = true := (hf n x hx).symm.trans h
        rw [given_yes h, ih (by omega), e, List.filter_append, List.map_append, hv n x hx]
        simp [h2]
      | false =>
        have h2 : f x = false := (hf n x hx).symm.trans h
        rw [given_no h, ih (by omega), e, List.filter_append]
        simp [h2]
  rw [key _ (Nat.le_refl _), List.take_length]
/-- a comprehension over numbers -/
theorem elp_lcN {tl : TE} {j : Nat} {vs : List Nat} {R : List Nat → Prop} (f : Nat → Bool) (v : Nat → V) (h : EvLP tl σ H (fun xs => ∃ zs, xs = nV zs ∧ R zs)) (hw : ∀ x, wipe ((wipe σ vs).set j (some x)) vs = wipe σ vs) (hz : ∀ zs, R zs → zs.length ≤ 40000)
    (ht : ∀ zs, R zs → ∀ (y : Nat) H1, y ∈ zs → Ex H H1 → EvT tt ((wipe σ vs).set j (some (.int (y : Nat)))) H1 (f y)) (he : ∀ zs, R zs → ∀ (y : Nat) H1, y ∈ zs → Ex H H1 → f y = true → Ev te ((wipe σ vs).set j (some (.int (y : Nat)))) H1 (v y)) :
    EvLP (tLc (iList K tl) (gName j) tt te vs) σ H (fun xs => ∃ zs : List Nat, xs = (zs.filter f).map v ∧ R zs) := by
  refine elp_lc h hw ?_
  rintro xs ⟨zs, rfl, hR⟩
  refine ⟨by rw [nV_len]; exact hz zs hR, fun i => f (zs[i]?.getD 0), fun i => v (zs[i]?.getD 0), fun i x H1 e hx => ?_, fun i x H1 e hx hf => ?_, zs, ?_, hR⟩
  · obtain ⟨y, hy, rfl⟩ := nV_get hx
    have := ht zs hR y H1 (List.mem_of_getElem? hy) e
    simp only [hy, Option.getD_some]
    exact this
  · obtain ⟨y, hy, rfl⟩ := nV_get hx
    simp only [hy, Option.getD_some] at hf ⊢
    exact he zs hR y H1 (List.mem_of_getElem? hy) e hf
  · rw [nV_len]
    refine given_map zs f v _ _ (fun i x hx => ?_) (fun i x hx => ?_)
    · simp only [hx, Option.getD_some]
    · simp only [hx, Option.getD_some]
theorem EvL.p {xs : List V} (h : EvL te σ H xs) : EvLP te σ H (fun ys => ys = xs) := fun H1 e Q q => h H1 e Q fun p H2 hp e2 h2 => q xs p H2 rfl hp e2 h2
theorem EvLP.l {xs : List V} (h : EvLP te σ H (fun ys => ys = xs)) : EvL te σ H xs := fun H1 e Q q => h H1 e Q fun ys p H2 hy hp e2 h2 => q p H2 hp e2 (by rw [h2, hy])
/-- over a list of numbers that stands -/
theorem el_lcN {a : Addr} {tl : TE} {j : Nat} {vs : List Nat} {zs : List Nat} (f : Nat → Bool) (v : Nat → V) (h : Ev tl σ H (.ref a)) (hx : SqL K H a (nV zs)) (hw : ∀ x, wipe ((wipe σ vs).set j (some x)) vs = wipe σ vs) (hz : zs.length ≤ 40000)
    (ht : ∀ (y : Nat) H1, y ∈ zs → Ex H H1 → EvT tt ((wipe σ vs).set j (some (.int (y : Nat)))) H1 (f y)) (he : ∀ (y : Nat) H1, y ∈ zs → Ex H H1 → f y = true → Ev te ((wipe σ vs).set j (some (.int (y : Nat)))) H1 (v y)) :
    EvL (tLc (iList K tl) (gName j) tt te vs) σ H ((zs.filter f).map v) := by
  have := el_lcL (K := K) (t := tt) (te := te) (fun i => f (zs[i]?.getD 0)) (fun i => v (zs[i]?.getD 0)) h hx (by rw [nV_len]; exact hz) hw (fun i x H1 e hx => by
    obtain ⟨y, hy, rfl⟩ := nV_get hx
    have := ht y H1 (List.mem_of_getElem? hy) e
    simp only [hy, Option.getD_some]
    exact this) (fun i x H1 e hx hf => by
    obtain ⟨y, hy, rfl⟩ := nV_get hx
    simp only [hy, Option.getD_some] at hf ⊢
    exact he y H1 (List.mem_of_getElem? hy) e hf)
  rw [nV_len] at this
  rw [given_map zs f v _ _ (fun i x hx => by simp only [hx, Option.getD_some]) (fun i x hx => by simp only [hx, Option.getD_some])] at this
  exact this
/-- over the tuple of numbers that a call hands back -/
theorem el_lcTc {sp : Sp} {E : XK} {ws : List V} {tA : TA} {j : Nat} {vs : List Nat} {zs : List Nat} (f : Nat → Bool) (v : Nat → V) (h : EvA tA σ H ws) (hs : ∀ H1, Ex H H1 → ∀ Q : VK, (∀ p H2, H1 p = none → Ex H1 H2 → H2 p = some (.tup (nV zs)) → Q (.ref p) H2) → sp (ws ++ []) H1 Q E)
    (hw : ∀ x, wipe ((wipe σ vs).set j (some x)) vs = wipe σ vs) (hz : zs.length ≤ 40000)
    (ht : ∀ (y : Nat) H1, y ∈ zs → Ex H H1 → EvT tt ((wipe σ vs).set j (some (.int (y : Nat)))) H1 (f y)) (he : ∀ (y : Nat) H1, y ∈ zs → Ex H H1 → f y = true → Ev te ((wipe σ vs).set j (some (.int (y : Nat)))) H1 (v y)) :
    EvL (tLc (iTup K (tCall sp [] E tA)) (gName j) tt te vs) σ H ((zs.filter f).map v) := fun H0 e0 Q q => h H0 e0 _ fun H1 e1 => hs H1 (e0.trans e1) _ fun a H2 ha e2 h2 => by
  refine ⟨a, rfl, ⟨nV zs, st_of h2⟩, ?_⟩
  have e02 := (e0.trans e1).trans e2
  have key := given_map zs f v (fun i => f (zs[i]?.getD 0)) (fun i => v (zs[i]?.getD 0)) (fun i x hx => by simp only [hx, Option.getD_some]) (fun i x hx => by simp only [hx, Option.getD_some])
  exact lc_tailT (Qd := fun Dl H2 => Q (.ref Dl) H2) (fun i => f (zs[i]?.getD 0)) (fun i => v (zs[i]?.getD 0)) (st_of h2) (by rw [nV_len]; exact hz) hw (fun i x H3 e3 hx => by
    obtain ⟨y, hy, rfl⟩ := nV_get hx
    have := ht y H3 (List.mem_of_getElem? hy) (e02.trans e3)
    simp only [hy, Option.getD_some]
    exact this) (fun i x H3 e3 hx hf => by
    obtain ⟨y, hy, rfl⟩ := nV_get hx
    simp only [hy, Option.getD_some] at hf ⊢
    exact he y H3 (List.mem_of_getElem? hy) (e02.trans e3) hf) fun Dl H3 hD e3 h3 => q Dl H3 (fresh_back (e1.trans e2) hD) ((e1.trans e2).trans e3) (by
    rw [nV_len, key] at h3
    exact h3)
/-- {k: v}, one pair -/
theorem q_disp1 {i : Nat} {k : Nat} {tk tv : TE} (hk : ∀ H1, Ex H H1 → Ev tk σ H1 (.int (k : Nat))) (hv : ∀ H1, Ex H H1 → Ev tv σ H1 (.bl true)) (q : ∀ p H1, H p = none → Ex H H1 → H1 p = some (.dK (kD [k])) → tz D (σ.set i (some (.ref p))) H1) : tSeq (tAsg (tDisp [(tk, tv)]) (gName i)) tz D σ H := by
  intro p hp
  refine hk _ (Ex.new hp) _ (Ex.refl _) _ fun H2 e2 => hv _ ((Ex.new hp).trans e2) _ (Ex.refl _) _ fun H3 e3 => ?_
  refine ⟨e3 _ _ (e2 _ _ upd_same), [(Sum.inl (k : Int), .bl true)], rfl, (by show 1 ≤ 15; decide), ?_⟩
  refine q p _ hp (Ex.mut (((Ex.new hp).trans e2).trans e3) hp) ?_
  rw [upd_same]
  rfl
theorem et_inD {d : Addr} {F : List Nat} {x : Nat} (ha : Ev ta σ H (.int (x : Nat))) (hb : Ev tb σ H (.ref d)) (h : H d = some (.dK (kD F))) : EvT (tB (tDIn ta tb)) σ H (decide (x ∈ F)) := fun H1 e Q q =>
  ha H1 e _ fun H2 e2 => hb H2 (e.trans e2) _ fun H3 e3 => ⟨d, _, rfl, DGet.k (k := Sum.inl (x : Int)) (((e.trans e2).trans e3) _ _ h), _, rfl, by
    have := q H3 (e2.trans e3)
    rw [kD_val]
    by_cases hx : x ∈ F
    · rw [if_pos hx]; rw [decide_eq_true hx] at this; exact this
    · rw [if_neg hx]; rw [decide_eq_false hx] at this; exact this⟩
theorem et_ninD {d : Addr} {F : List Nat} {x : Nat} (ha : Ev ta σ H (.int (x : Nat))) (hb : Ev tb σ H (.ref d)) (h : H d = some (.dK (kD F))) : EvT (tB (tDNotIn ta tb)) σ H (!decide (x ∈ F)) := fun H1 e Q q =>
  ha H1 e _ fun H2 e2 => hb H2 (e.trans e2) _ fun H3 e3 => ⟨d, _, rfl, DGet.k (k := Sum.inl (x : Int)) (((e.trans e2).trans e3) _ _ h), _, rfl, by
    have := q H3 (e2.trans e3)
    rw [kD_val]
    by_cases hx : x ∈ F
    · rw [if_pos hx]; rw [decide_eq_true hx] at this; exact this
    · rw [if_neg hx]; rw [decide_eq_false hx] at this; exact this⟩
/-- d[x] = True, x new -/
theorem q_putD {d : Addr} {F : List Nat} {x : Nat} {td ty tv : TE} (h : H d = some (.dK (kD F))) (hx : x ∉ F) (hz : F.length < 100000) (hd : Ev td σ H (.ref d)) (hy : Ev ty σ H (.int (x : Nat))) (hv : Ev tv σ H (.bl true)) (k : ∀ H1, Ex H H1 → tz D σ (upd H1 d (.dK (kD (F ++ [x]))))) : tSeq (sDPut td ty tv) tz D σ H :=
  hv H (Ex.refl H) _ fun H1 e1 => hd H1 e1 _ fun H2 e2 => hy H2 (e1.trans e2) _ fun H3 e3 => ⟨d, _, rfl, DPut.k (k := Sum.inl (x : Int)) (((e1.trans e2).trans e3) _ _ h) (sz_lt (by unfold kD; rw [List.length_map]; exact hz)), by
    rw [kD_put hx]
    exact k H3 ((e1.trans e2).trans e3)⟩
/-- x = list.pop() -/
theorem q_pop {l : Addr} {xs : List V} {y : V} {i : Nat} (hl : H l = some (.lst (xs ++ [y]))) (ha : Ev ta σ H (.ref l)) (k : ∀ H1, Ex H H1 → tz D (σ.set i (some y)) (upd H1 l (.lst xs))) : tSeq (tAsg (tBM0 K "list" rPop ta) (gName i)) tz D σ H :=
  ha H (Ex.refl H) _ fun H1 e1 => ⟨.inl ⟨rfl, _, sq_of (e1 _ _ hl)⟩, l, _, y, rfl, rfl, e1 _ _ hl, by simp, by rw [List.dropLast_concat]; exact k H1 e1⟩
/-- a list's truth -/
theorem et_truL {l : Addr} {xs : List V} (ha : Ev ta σ H (.ref l)) (hl : SqL K H l xs) : EvT (fun σ H Q => ta σ H fun x H' => ∃ k, TruV K x H' k ∧ Q k H') σ H (!xs.isEmpty) := fun H1 e Q q =>
  ha H1 e _ fun H2 e2 => ⟨_, .inl ⟨xs, ex_l (e.trans e2) hl, rfl⟩, q H2 e2⟩
/-- a for over the tuple that a call hands back -/
theorem s_forTc {sp : Sp} {E : XK} {vs : List V} {tA : TA} {j : Nat} {xs : List V} (h : EvA tA σ H vs) (hs : ∀ H1, Ex H H1 → ∀ Q : VK, (∀ p H2, H1 p = none → Ex H1 H2 → H2 p = some (.tup xs) → Q (.ref p) H2) → sp (vs ++ []) H1 Q E) (PT : Addr → Nat → L2.St → Hp → Prop) (hP0 : ∀ p H1, H p = none → Ex H H1 → H1 p = some (.tup xs) → PT p 0 σ H1) (hl : ∀ p i σ' H', i ≤ xs.length → PT p i σ' H' → SqT K H' p xs)
    (hs2 : ∀ p i x σ' H', xs[i]? = some x → PT p i σ' H' → tu { D with nx := PT p (i + 1), ct := PT p (i + 1), bk := D.nx } (σ'.set j (some x)) H') (hd : ∀ p σ' H', PT p xs.length σ' H' → D.nx σ' H') : tFor (iTup K (tCall sp [] E tA)) (gName j) tu D σ H :=
  h H (Ex.refl H) _ fun H1 e1 => hs H1 e1 _ fun p H2 hp e2 h2 => ⟨p, rfl, ⟨xs, st_of h2⟩, for_tup (PT p) (hP0 p H2 (fresh_back e1 hp) (e1.trans e2) h2) (hl p) (hs2 p) (hd p)⟩
theorem et_niK {a : Addr} {xs : List V} {x : V} (ha : Ev ta σ H x) (hb : Ev tb σ H (.ref a)) (h : SqL K H a xs) (hx : flatV x = true) (hf : xs.all flatV = true) : EvT (tTest (tOp (rIn K true) ta tb)) σ H (!inV x xs) := et_test (ev_op ha hb (rv_niL h hx hf))
theorem s_forNLn {tl : TE} {tu : TS} {xs : List V} {j : Nat} (h : EvL tl σ H xs) (Pv : Addr → Nat → L2.St → Hp → Prop) (h0 : ∀ p H1, H p = none → Ex H H1 → H1 p = some (.lst xs) → Pv p 0 σ H1) (hl : ∀ p i σ' H', i ≤ xs.length → Pv p i σ' H' → SqL K H' p xs)
    (hs : ∀ p i x σ' H', xs[i]? = some x → Pv p i σ' H' → tu { D with nx := Pv p (i + 1), ct := Pv p (i + 1), bk := D.nx } (σ'.set j (some x)) H') (hd : ∀ p σ' H', Pv p xs.length σ' H' → D.nx σ' H') : tFor (iList K tl) (gName j) tu D σ H := s_forNL h Pv h0 hl hs hd
/-- over the list that a call hands back -/
theorem el_lcCall {sp : Sp} {E : XK} {ws : List V} {j : Nat} {vs : List Nat} {zs : List Nat} (enc : Nat → V) (f : Nat → Bool) (v : Nat → V) (h : EvA tA σ H ws) (hs : ∀ H1, Ex H H1 → ∀ Q : VK, (∀ p H2, H1 p = none → Ex H1 H2 → H2 p = some (.lst (zs.map enc)) → Q (.ref p) H2) → sp (ws ++ []) H1 Q E)
    (hw : ∀ x, wipe ((wipe σ vs).set j (some x)) vs = wipe σ vs) (hz : zs.length ≤ 40000)
    (ht : ∀ (y : Nat) H1, y ∈ zs → Ex H H1 → EvT tt ((wipe σ vs).set j (some (enc y))) H1 (f y)) (he : ∀ (y : Nat) H1, y ∈ zs → Ex H H1 → f y = true → Ev te ((wipe σ vs).set j (some (enc y))) H1 (v y)) :
    EvL (tLc (iList K (tCall sp [] E tA)) (gName j) tt te vs) σ H ((zs.filter f).map v) := fun H0 e0 Q q => h H0 e0 _ fun H1 e1 => hs H1 (e0.trans e1) _ fun a H2 ha e2 h2 => by
  refine ⟨a, rfl, ⟨zs.map enc, sq_of h2⟩, ?_⟩
  have e02 := (e0.trans e1).trans e2
  have get : ∀ {i : Nat} {x : V}, (zs.map enc)[i]? = some x → ∃ y, zs[i]? = some y ∧ x = enc y := fun {i x} hx => by
    rw [List.getElem?_map] at hx
    cases hy : zs[i]? with
    | none => rw [hy] at hx; cases hx
    | some y => rw [hy] at hx; cases hx; exact ⟨y, rfl, rfl⟩
  have key := given_map zs f v (fun i => f (zs[i]?.getD 0)) (fun i => v (zs[i]?.getD 0)) (fun i x hx => by simp only [hx, Option.getD_some]) (fun i x hx => by simp only [hx, Option.getD_some])
  exact lc_tail (Qd := fun Dl H2 => Q (.ref Dl) H2) (fun i => f (zs[i]?.getD 0)) (fun i => v (zs[i]?.getD 0)) (sq_of h2) (by rw [List.length_map]; exact hz) hw (fun i x H3 e3 hx => by
    obtain ⟨y, hy, rfl⟩ := get hx
    have := ht y H3 (List.mem_of_getElem? hy) (e02.trans e3)
    simp only [hy, Option.getD_some]
    exact this) (fun i x H3 e3 hx hf => by
    obtain ⟨y, hy, rfl⟩ := get hx
    simp only [hy, Option.getD_some] at hf ⊢
    exact he y H3 (List.mem_of_getElem? hy) (e02.trans e3) hf) fun Dl H3 hD e3 h3 => q Dl H3 (fresh_back (e1.trans e2) hD) ((e1.trans e2).trans e3) (by
    rw [List.length_map, key] at h3
    exact h3)
/-- over a list that stands, of numbers told by enc -/
theorem el_lcE {a : Addr} {tl : TE} {j : Nat} {vs : List Nat} {zs : List Nat} (enc : Nat → V) (f : Nat → Bool) (v : Nat → V) (h : Ev tl σ H (.ref a)) (hx : SqL K H a (zs.map enc)) (hw : ∀ x, wipe ((wipe σ vs).set j (some x)) vs = wipe σ vs) (hz : zs.length ≤ 40000)
    (ht : ∀ (y : Nat) H1, y ∈ zs → Ex H H1 → EvT tt ((wipe σ vs).set j (some (enc y))) H1 (f y)) (he : ∀ (y : Nat) H1, y ∈ zs → Ex H H1 → f y = true → Ev te ((wipe σ vs).set j (some (enc y))) H1 (v y)) :
    EvL (tLc (iList K tl) (gName j) tt te vs) σ H ((zs.filter f).map v) := by
  have get : ∀ {i : Nat} {x : V}, (zs.map enc)[i]? = some x → ∃ y, zs[i]? = some y ∧ x = enc y := fun {i x} hx => by
    rw [List.getElem?_map] at hx
    cases hy : zs[i]? with
    | none => rw [hy] at hx; cases hx
    | some y => rw [hy] at hx; cases hx; exact ⟨y, rfl, rfl⟩
  have := el_lcL (K := K) (t := tt) (te := te) (fun i => f (zs[i]?.getD 0)) (fun i => v (zs[i]?.getD 0)) h hx (by rw [List.length_map]; exact hz) hw (fun i x H1 e hx => by
    obtain ⟨y, hy, rfl⟩ := get hx
    have := ht y H1 (List.mem_of_getElem? hy) e
    simp only [hy, Option.getD_some]
    exact this) (fun i x H1 e hx hf => by
    obtain ⟨y, hy, rfl⟩ := get hx
    simp only [hy, Option.getD_some] at hf ⊢
    exact he y H1 (List.mem_of_getElem? hy) e hf)
  rw [List.length_map] at this
  rw [given_map zs f v _ _ (fun i x hx => by simp only [hx, Option.getD_some]) (fun i x hx => by simp only [hx, Option.getD_some])] at this
  exact this
end
end Fm
set_option Elab.async false
set_option linter.all false
set_option maxRecDepth 100000
set_option maxHeartbeats 1000000
namespace Fm
open PySem L2 Evl
def oV : Option Nat → V
  | none => .non
  | some j => .int (j : Int)
def plc (p : List In) : List Nat := (List.range (p.length + 1)).map (stE p)
def cnt (pl : List (Option Nat)) : Nat := pl.countP fun o => o.isNone
structure Jp (p : List In) (m : Nat) (pl : List (Option Nat)) : Prop where
  len : pl.length = p.length + 1
  val : ∀ (j v : Nat), pl[j]? = some (some v) → v = stE p j
  low : ∀ j : Nat, j < m → pl[j]? ≠ some none
  last : pl[p.length]? = some (some p.length)
structure Wl (p : List In) (m : Nat) (pl0 pl : List (Option Nat)) (ps : List Nat) (i : Nat) : Prop where
  len : pl.length = p.length + 1
  le : i ≤ p.length
  num : ps.length + cnt pl = cnt pl0
  out : ∀ j : Nat, j ∉ ps → pl[j]? = pl0[j]?
  pth : ∀ x ∈ ps, x ≤ p.length ∧ stE p x = stE p i
  run : (∀ x ∈ ps, pl[x]? = some (some p.length) ∧ Lead p x i) ∨ pl[i]? = some (some (stE p i))
  hd : m ∈ ps ∨ i = m
theorem cnt_set {pl : List (Option Nat)} {i v : Nat} (h : pl[i]? = some none) : cnt (pl.set i (some v)) + 1 = cnt pl := by
  unfold cnt
  induction pl generalizing i with
  | nil => simp at h
  | cons a l ih =>
    cases i with
    | zero =>
      simp at h
      subst h
      simp
    | succ i =>
      have := ih (i := i) (by simpa using h)
      simp only [List.set_cons_succ, List.countP_cons]
      omega
theorem cnt_pos {pl : List (Option Nat)} {i : Nat} (h : pl[i]? = some none) : 0 < cnt pl := by
  have := cnt_set (v := 0) h
  omega
theorem Wl.val {p : List In} {m : Nat} {pl0 pl : List (Option Nat)} {ps : List Nat} {i v : Nat} (W : Wl p m pl0 pl ps i) (J : Jp p m pl0) (h : pl[i]? = some (some v)) : v = stE p i := by
  rcases W.run with r | r
  · by_cases hc : i ∈ ps
    · obtain ⟨h1, h2⟩ := r i hc
      rw [h] at h1
      rw [h2.cyc]
      exact Option.some.inj (Option.some.inj h1)
    · rw [W.out i hc] at h
      exact J.val i v h
  · rw [h] at r
    exact Option.some.inj (Option.some.inj r)
theorem map_set {α β : Type} (f : α → β) (l : List α) (i : Nat) (x : α) : (l.set i x).map f = (l.map f).set i (f x) := List.map_set
def spPlaces (K : PySem.W.Frag) : Sp := fun vs H Q _ => ∃ (a : Addr) (p : List In) (c : Nat), vs = [.ref a] ∧ PgT K H a p ∧ Pok c p ∧ p.length ≤ 4000 ∧ ∀ b H', H b = none → Ex H H' → H' b = some (.tup ((plc p).map fun x => V.int (x : Nat))) → Q (.ref b) H'
section
variable {P : Program} {w : World} {K : PySem.W.Frag} {mg : Str → Option Value} {base : Heap}
abbrev s_places_of : Stmt := top 20
theorem sc_places_of : FnScope ["program", "end", "places", "index", "passed", "at", "word", "one"] ["program"] (defScope s_places_of) := ⟨rfl, rfl, rfl, by decide +kernel, rfl, by decide +kernel, by decide +kernel⟩
--TY places_of {'program':T,'places':L,'passed':L,'end':'int','index':'int','at':'int','word':'str','one':'int'}
theorem ok_places_of {f : Addr} {fd : FuncData} (F : Fun K "places_of" "places_of" s_places_of f fd) (T : Txt K mg) : FnOk P w K mg base CX0 2 f fd ["program"] (spPlaces K) := by
  refine F.ok sc_places_of (fun vs H Q E h => ?_) (fun cdv A outer s H vs Q E hr h => ?_)
  · obtain ⟨_, _, _, rfl, _⟩ := h
    rfl
  · obtain ⟨a, p, c, rfl, hp, hok, hl, k⟩ := h
    refine ⟨_, (pss_cons (ps_set (i := 1) sc_places_of.nd rfl (Or.inl rfl) (pe_callB (len_K (K := K) rfl) (by rfl) T.z_len (by decide +kernel) (pa_cons (pv 0) pa_nil)))
  (pss_cons (ps_set (i := 2) sc_places_of.nd rfl (Or.inl rfl) (pe_op op_cat (pe_op op_rep (pe_lst (pa_cons pe_non pa_nil)) (pv 1)) (pe_lst (pa_cons (pv 1) pa_nil))))
  (pss_cons (ps_for PassesOwn.never rfl (pi_range1 rfl T.z_range (pa_cons (pv 1) pa_nil)) (pg_name (i := 3) sc_places_of.nd rfl (by first | exact Or.inl rfl | exact Or.inr rfl)) (pss_cons (ps_set (i := 4) sc_places_of.nd rfl (Or.inl rfl) (pe_lst pa_nil))
  (pss_cons (ps_set (i := 5) sc_places_of.nd rfl (Or.inl rfl) (pv 3))
  (pss_cons (ps_while PassesOwn.never (pt_cmpR op_isN (pe_ix (ix_K (K := K) rfl) (pv 2) (pv 5) (fun _ _ => rfl)) pe_non (nomark _)) (pss_cons (ps_expr (pe_bm PySem.F.plainAttrs_list PySem.F.slot_list_append PySem.F.type_list_append mt_append (pv 4) (pa_cons (pv 5) pa_nil)))
  (pss_cons (ps_set (i := 6) sc_places_of.nd rfl (Or.inl rfl) (pe_ix (ix_K (K := K) rfl) (pe_ix (ix_K (K := K) rfl) (pv 0) (pv 5) (fun _ _ => rfl)) pe_int (fun _ _ => rfl)))
  (pss_one (ps_if (pt_cmpR op_eq (pv 6) pe_str (nomark _)) (pss_cons (ps_asg (pv 1) (pg_sub (pv 2) (pv 5) set_list))
  (pss_one (ps_set (i := 5) sc_places_of.nd rfl (Or.inl rfl) (pe_ix (ix_K (K := K) rfl) (pe_ix (ix_K (K := K) rfl) (pv 0) (pv 5) (fun _ _ => rfl)) pe_int (fun _ _ => rfl))))) (pss_one (ps_asg (pe_ifExp (pt_cmpR op_eq (pv 6) pe_str (nomark _)) (pv 1) (pv 5)) (pg_sub (pv 2) (pv 5) set_list))))))))
  (pss_one (ps_for PassesOwn.never rfl (pi_listK (K := K) rfl (pv 4)) (pg_name (i := 7) sc_places_of.nd rfl (by first | exact Or.inl rfl | exact Or.inr rfl)) (pss_one (ps_asg (pe_ix (ix_K (K := K) rfl) (pv 2) (pv 5) (fun _ _ => rfl)) (pg_sub (pv 2) (pv 7) set_list)))))))))
  (pss_one (ps_ret (pe_callTy (tpl_K (K := K) rfl) (by rfl) T.z_tuple (by decide +kernel) (pa_cons (pv 2) pa_nil))))))), ?_⟩
    refine q_asg (ev_lnP hp (ev_var rfl)) fun H1 e1 => ?_
    refine q_asgL (el_cat (el_rep (k := p.length) (el_lst (ea_cons ev_c ea_nil) (by decide)) (fun _ _ => ev_var rfl) (by simp; omega) (by omega)) (el_lst (ea_cons (ev_var rfl) ea_nil) (by simp)) (by simp; omega)) fun l H2 hl0 e2 hl2 => ?_
    have hlH : H l = none := fresh_back e1 hl0
    have e02 := e1.trans e2
    refine q_forR1 (n := (p.length : Int)) (ea_cons (ev_var rfl) ea_nil) ⟨by omega, by omega⟩
      (fun m σ H' => ∃ pl, Ex H H' ∧ H' l = some (.lst (pl.map oV)) ∧ Jp p m pl ∧ ∃ x1 x2 x3 x4 x5, σ = [some (.ref a), some (.int (p.length : Nat)), some (.ref l), x1, x2, x3, x4, x5])
      (fun H3 e3 => ⟨List.replicate p.length none ++ [some p.length], e02.trans e3, ?_, ?_, _, _, _, _, _, rfl⟩) ?_ ?_
    · rw [e3 _ _ hl2]
      simp [oV, List.flatten_replicate_singleton, List.map_replicate]
    · refine ⟨by simp, fun j v hv => ?_, fun j hj => absurd hj (by omega), by simp⟩
      by_cases hj : j < p.length
      · rw [List.getElem?_append_left (by simpa using hj), List.getElem?_replicate] at hv
        simp [hj] at hv
      · rw [List.getElem?_append_right (by simp; omega)] at hv
        simp only [List.length_replicate] at hv
        by_cases hj2 : j - p.length = 0
        · have ej : j = p.length := by omega
          subst ej
          simp at hv
          rw [← hv, stE_end]
        · rw [List.getElem?_eq_none (by simp; omega)] at hv
          cases hv
    · rintro m σ H' hm ⟨pl0, e, hL, J, x1, x2, x3, x4, x5, rfl⟩
      have hm' : m < p.length := by omega
      refine q_asgL (el_lst ea_nil (by decide)) fun q H3 hq0 e3 hq3 => ?_
      have hqH : H q = none := fresh_back e hq0
      have hql : q ≠ l := fun z => by rw [z, hL] at hq0; cases hq0
      refine q_asg (ev_var rfl) fun H4 e4 => ?_
      have e34 := e3.trans e4
      refine q_while (fun μ σ' H' => ∃ (pl : List (Option Nat)) (ps : List Nat) (i : Nat) (y1 y2 : Option V), Ex H H' ∧ H' l = some (.lst (pl.map oV)) ∧ H' q = some (.lst (ps.map fun x => V.int (x : Nat))) ∧ Wl p m pl0 pl ps i ∧ μ = cnt pl ∧
          σ' = [some (.ref a), some (.int (p.length : Nat)), some (.ref l), some (.int (m : Nat)), some (.ref q), some (.int (i : Nat)), y1, y2]) (cnt pl0)
        ⟨pl0, [], m, _, _, e.trans e34, e34 _ _ hL, e4 _ _ hq3, ⟨J.len, by omega, by simp, fun _ _ => rfl, by simp, .inl (by simp), .inr rfl⟩, rfl, rfl⟩ ?_
      rintro μ σ' H5 ⟨pl, ps, i, y1, y2, e5, hl5, hq5, W, rfl, rfl⟩
      have hil : i < pl.length := by have := W.le; have := W.len; omega
      obtain ⟨o, ho⟩ : ∃ o, pl[i]? = some o := ⟨_, List.getElem?_eq_getElem hil⟩
      have hat : atI (pl.map oV) ((i : Nat) : Int) = some (oV o) := atI_nat' (by rw [List.getElem?_map, ho]; rfl)
      refine ⟨decide (oV o = .non), et_isN (ev_ixL (ev_var rfl) (ev_var rfl) (sq_of hl5) hat), fun hb H6 e6 => ?_, fun hb H6 e6 => ?_⟩
      · -- places[at] is None
        have hon : o = none := by
          cases o with
          | none => rfl
          | some v => cases of_decide_eq_true hb
        subst hon
        have hin : i ∉ ps := fun hc => by
          rcases W.run with r | r
          · rw [(r i hc).1] at ho
            cases ho
          · rw [r] at ho
            cases ho
        have hip : i < p.length := by
          have h1 := W.le
          have h2 : i ≠ p.length := fun z => by
            rw [W.out i hin, z, J.last] at ho
            cases ho
          omega
        have hrun : ∀ x ∈ ps, pl[x]? = some (some p.length) ∧ Lead p x i := by
          rcases W.run with r | r
          · exact r
          · rw [r] at ho
            cases ho
        obtain ⟨x, hx⟩ : ∃ x, p[i]? = some x := ⟨_, List.getElem?_eq_getElem hip⟩
        refine ⟨_, fun _ _ z => z, ?_⟩
        have hq6 := e6 _ _ hq5
        have hps : ps.length < 100000 := by
          have h1 := W.num
          have h2 : cnt pl0 ≤ pl0.length := List.countP_le_length
          have h3 := J.len
          omega
        refine q_app2 hq6 (ev_var rfl) (ev_var rfl) (by simpa using hps) fun H7 e7 => ?_
        have ex7 : Ex H (upd H7 q (.lst (ps.map (fun x => V.int (x : Nat)) ++ [.int (i : Nat)]))) := Ex.mut ((e5.trans e6).trans e7) hqH
        have hl7 : upd H7 q (.lst (ps.map (fun x => V.int (x : Nat)) ++ [.int (i : Nat)])) l = some (.lst (pl.map oV)) := by
          rw [upd_ne (Ne.symm hql)]
          exact e7 _ _ (e6 _ _ hl5)
        have hq7 : upd H7 q (.lst (ps.map (fun x => V.int (x : Nat)) ++ [.int (i : Nat)])) q = some (.lst ((ps ++ [i]).map fun x => V.int (x : Nat))) := by
          rw [upd_same]
          simp
        generalize upd H7 q (.lst (ps.map (fun x => V.int (x : Nat)) ++ [.int (i : Nat)])) = H8 at ex7 hl7 hq7 ⊢
        have hp8 := hp.up ex7
        refine q_asg (ev_pg0 hp8 hx (ev_var rfl) (ev_var rfl)) fun H9 e9 => ?_
        have hmap : i < (pl.map oV).length := by simpa using hil
        have hnum := cnt_set (v := p.length) ho
        have nin : ∀ y ∈ ps, y ≠ i := fun y hy z => hin (z ▸ hy)
        refine s_if (et_eq (ev_var rfl) ev_c rfl) (fun hc H10 e10 => ?_) (fun hc H10 e10 => ?_)
        · rw [w_go] at hc
          obtain ⟨t, rfl⟩ : ∃ t, x = .go t := by cases x <;> simp [In.isGo] at hc; exact ⟨_, rfl⟩
          have e710 := e9.trans e10
          refine q_setL (e710 _ _ hl7) (ev_var rfl) (ev_var rfl) (ev_var rfl) hmap fun H11 e11 => ?_
          have e711 := e710.trans e11
          have e12 : Ex H (upd H11 l (.lst ((pl.map oV).set i (.int (p.length : Nat))))) := Ex.mut (ex7.trans e711) hlH
          refine s_asg (ev_pg1 (hp.up e12) hx rfl (ev_var rfl) (ev_var rfl)) fun H13 e13 => ?_
          refine ⟨cnt (pl.set i (some p.length)), by omega, pl.set i (some p.length), ps ++ [i], t, _, _, e12.trans e13, ?_, ?_, ⟨by simpa using W.len, ?_, ?_, ?_, ?_, .inl ?_, ?_⟩, rfl, rfl⟩
          · refine e13 _ _ ?_
            rw [upd_same, map_set]
            rfl
          · refine e13 _ _ ?_
            rw [upd_ne hql]
            exact e711 _ _ hq7
          · exact hok.2 _ (List.mem_of_getElem? hx)
          · have := W.num
            simp only [List.length_append, List.length_singleton]
            omega
          · intro j hj
            simp at hj
            rw [List.getElem?_set_ne (fun z => hj.2 z.symm)]
            exact W.out j hj.1
          · intro y hy
            rcases List.mem_append.mp hy with hy | hy
            · exact ⟨(W.pth y hy).1, (W.pth y hy).2.trans (stE_go hx)⟩
            · rw [List.mem_singleton.mp hy]
              exact ⟨W.le, stE_go hx⟩
          · intro y hy
            rcases List.mem_append.mp hy with hy | hy
            · rw [List.getElem?_set_ne (fun z => nin y hy z.symm)]
              exact ⟨(hrun y hy).1, (hrun y hy).2.step hx⟩
            · rw [List.mem_singleton.mp hy]
              exact ⟨by simp [hil], .one hx⟩
          · rcases W.hd with z | z
            · exact .inl (List.mem_append_left _ z)
            · exact .inl (by rw [z]; simp)
        · rw [w_go] at hc
          have hst : (if x = .stop then p.length else i) = stE p i := by
            by_cases hs : x = .stop
            · rw [if_pos hs]
              subst hs
              rw [stE_stop hx]
            · rw [if_neg hs]
              refine (stE_self hx ?_).symm
              cases x <;> simp_all [In.isEnd, In.isGo]
          have e710 := e9.trans e10
          have hnum2 := cnt_set (v := stE p i) ho
          refine s_setL (v := .int (stE p i : Nat)) (e710 _ _ hl7) (ev_if (et_eq (ev_var rfl) ev_c rfl) (fun hb => ?_) (fun hb => ?_)) (ev_var rfl) (ev_var rfl) hmap fun H11 e11 => ?_
          · have : x = .stop := by
              rw [w_stop] at hb
              cases x <;> simp_all [In.isStop]
            rw [if_pos this] at hst
            rw [← hst]
            exact ev_var rfl
          · have : x ≠ .stop := fun z => by
              subst z
              rw [w_stop] at hb
              cases hb
            rw [if_neg this] at hst
            rw [← hst]
            exact ev_var rfl
          have e711 := e710.trans e11
          refine ⟨cnt (pl.set i (some (stE p i))), by omega, pl.set i (some (stE p i)), ps ++ [i], i, _, _, Ex.mut (ex7.trans e711) hlH, ?_, ?_, ⟨by simpa using W.len, W.le, ?_, ?_, ?_, .inr ?_, ?_⟩, rfl, rfl⟩
          · rw [upd_same, map_set]
            rfl
          · rw [upd_ne hql]
            exact e711 _ _ hq7
          · have := W.num
            simp only [List.length_append, List.length_singleton]
            omega
          · intro j hj
            simp at hj
            rw [List.getElem?_set_ne (fun z => hj.2 z.symm)]
            exact W.out j hj.1
          · intro y hy
            rcases List.mem_append.mp hy with hy | hy
            · exact W.pth y hy
            · rw [List.mem_singleton.mp hy]
              exact ⟨W.le, rfl⟩
          · simp [hil]
          · rcases W.hd with z | z
            · exact .inl (List.mem_append_left _ z)
            · exact .inl (by rw [z]; simp)
      · -- places[at] is told
        obtain ⟨v, rfl⟩ : ∃ v, o = some v := by
          cases o with
          | none => exact absurd rfl (of_decide_eq_false hb)
          | some v => exact ⟨v, rfl⟩
        have hv := W.val J ho
        subst hv
        refine s_forLn (xs := ps.map fun x => V.int (x : Nat)) (ev_var rfl) (sq_of (e6 _ _ hq5))
          (fun n σ' H' => ∃ (pl' : List (Option Nat)) (y : Option V), Ex H H' ∧ H' l = some (.lst (pl'.map oV)) ∧ H' q = some (.lst (ps.map fun x => V.int (x : Nat))) ∧ pl'.length = p.length + 1 ∧ (∀ j : Nat, j ∉ ps → pl'[j]? = pl0[j]?) ∧ (∀ x ∈ ps.take n, pl'[x]? = some (some (stE p i))) ∧ pl'[i]? = some (some (stE p i)) ∧
            σ' = [some (.ref a), some (.int (p.length : Nat)), some (.ref l), some (.int (m : Nat)), some (.ref q), some (.int (i : Nat)), y1, y])
          (fun H7 e7 => ⟨pl, y2, (e5.trans e6).trans e7, e7 _ _ (e6 _ _ hl5), e7 _ _ (e6 _ _ hq5), W.len, W.out, by simp, ho, rfl⟩)
          (fun n σ' H' _ ⟨_, _, _, _, h, _⟩ => sq_of h) ?_ ?_
        · rintro n x σ' H7 hn ⟨pl', y, e7, hl7, hq7, hlen, hout, hin, hi, rfl⟩
          obtain ⟨z, hz, rfl⟩ : ∃ z, ps[n]? = some z ∧ x = V.int (z : Nat) := by
            rw [List.getElem?_map] at hn
            cases hh : ps[n]? with
            | none => rw [hh] at hn; cases hn
            | some z => rw [hh] at hn; exact ⟨z, rfl, (Option.some.inj hn).symm⟩
          have hzm : z ∈ ps := List.mem_of_getElem? hz
          have hzl : z < pl'.length := by have := (W.pth z hzm).1; omega
          refine s_setL hl7 (ev_ixL (ev_var rfl) (ev_var rfl) (sq_of hl7) (atI_nat' (v := oV (some (stE p i))) (by rw [List.getElem?_map, hi]; rfl))) (ev_var rfl) (ev_var rfl) (by simpa using hzl) fun H8 e8 => ?_
          refine ⟨pl'.set z (some (stE p i)), _, Ex.mut (e7.trans e8) hlH, ?_, ?_, by simpa using hlen, fun j hj => ?_, fun x hx => ?_, ?_, rfl⟩
          · rw [upd_same, map_set]
            first | done | rfl
          · rw [upd_ne hql]
            exact e8 _ _ hq7
          · have hne : z ≠ j := fun e => hj (by rw [← e]; exact hzm)
            rw [List.getElem?_set_ne hne]
            exact hout j hj
          · by_cases hxz : z = x
            · subst hxz
              simp [hzl]
            · rw [List.getElem?_set_ne hxz]
              refine hin x ?_
              rw [List.take_add_one, hz] at hx
              rcases List.mem_append.mp hx with hx | hx
              · exact hx
              · exact absurd (List.mem_singleton.mp hx).symm hxz
          · by_cases hiz : z = i
            · subst hiz
              simp [hzl]
            · rw [List.getElem?_set_ne hiz]
              exact hi
        · rintro σ' H7 ⟨pl', y, e7, hl7, hq7, hlen, hout, hin, hi, rfl⟩
          rw [List.length_map, List.take_length] at hin
          refine ⟨pl', e7, hl7, ⟨hlen, fun j v hv => ?_, fun j hj => ?_, ?_⟩, _, _, _, _, _, rfl⟩
          · by_cases hc : j ∈ ps
            · rw [hin j hc] at hv
              rw [(W.pth j hc).2]
              exact (Option.some.inj (Option.some.inj hv)).symm
            · rw [hout j hc] at hv
              exact J.val j v hv
          · by_cases hc : j ∈ ps
            · rw [hin j hc]
              simp
            · rw [hout j hc]
              by_cases hjm : j < m
              · exact J.low j hjm
              · have ej : j = m := by omega
                subst ej
                rcases W.hd with z | z
                · exact absurd z hc
                · rw [← hout j hc, ← z, hi]
                  simp
          · by_cases hc : p.length ∈ ps
            · rw [hin _ hc, ← (W.pth _ hc).2, stE_end]
            · rw [hout _ hc]
              exact J.last
    · rintro σ H' ⟨pl, e, hL, J, x1, x2, x3, x4, x5, rfl⟩
      have epl : pl = (plc p).map some := by
        apply List.ext_getElem?
        intro j
        unfold plc
        rw [List.getElem?_map, List.getElem?_map]
        by_cases hj : j < p.length + 1
        · rw [List.getElem?_range hj]
          have hj2 : j < pl.length := by rw [J.len]; exact hj
          obtain ⟨o, ho⟩ : ∃ o, pl[j]? = some o := ⟨_, List.getElem?_eq_getElem hj2⟩
          rw [ho]
          cases o with
          | none =>
            by_cases hjn : j < p.length
            · exact absurd ho (J.low j (by omega))
            · have : j = p.length := by omega
              subst this
              rw [J.last] at ho
              cases ho
          | some v =>
            rw [J.val j v ho]
            rfl
        · rw [List.getElem?_eq_none (by rw [J.len]; omega), List.getElem?_eq_none (by simp; omega)]
          rfl
      refine s_retU (eu_tpl (ev_var rfl) (sq_of hL)) fun b H5 hb e5 h5 => ?_
      refine k b H5 (fresh_back e hb) (e.trans e5) ?_
      rw [h5, epl, List.map_map]
      rfl
end
theorem nV_atS {l : List Nat} {i x : Nat} (h : l[i]? = some x) : atI (nV l) (i : Int) = some (.int (x : Nat)) := atI_nat' (by unfold nV; rw [List.getElem?_map, h]; rfl)
theorem plc_at {p : List In} {i : Nat} (h : i ≤ p.length) : (plc p)[i]? = some (stE p i) := by
  unfold plc
  rw [List.getElem?_map, List.getElem?_range (by omega)]
  rfl
theorem ev_plc {K : PySem.W.Frag} {σ : L2.St} {H : Hp} {ta tb : TE} {b : Addr} {p : List In} {i : Nat} (hb : SqT K H b (nV (plc p))) (h : i ≤ p.length) (ea : Ev ta σ H (.ref b)) (eb : Ev tb σ H (.int (i : Nat))) : Ev (tOp (rIx K) ta tb) σ H (.int (stE p i : Nat)) := ev_ixT ea eb hb (nV_atS (plc_at h))
def In.isZero : In → Bool
  | .zero _ => true
  | _ => false
theorem w_zero (i : In) : decide (V.str i.w = V.str "zero") = i.isZero := by cases i <;> kernel_rfl
end Fm
set_option Elab.async false
set_option linter.all false
set_option maxRecDepth 100000
set_option maxHeartbeats 1000000
namespace Fm
open PySem L2 Evl
def spBranches (K : PySem.W.Frag) : Sp := fun vs H Q _ => ∃ (a b : Addr) (p : List In) (c i : Nat), vs = [.ref a, .ref b, .int (i : Nat)] ∧ PgT K H a p ∧ Pok c p ∧ i < p.length ∧ SqT K H b (nV (plc p)) ∧ ∀ d H', H d = none → Ex H H' → H' d = some (.tup (nV (brs p i))) → Q (.ref d) H'
section
variable {P : Program} {w : World} {K : PySem.W.Frag} {mg : Str → Option Value} {base : Heap}
abbrev s_branches : Stmt := top 21
theorem sc_branches : FnScope ["program", "places", "at", "instruction"] ["program", "places", "at"] (defScope s_branches) := ⟨rfl, rfl, rfl, by decide +kernel, rfl, by decide +kernel, by decide +kernel⟩
--TY branches {'program':T,'places':T,'at':'int','instruction':T}
theorem ok_branches {f : Addr} {fd : FuncData} (F : Fun K "branches" "branches" s_branches f fd) (T : Txt K mg) : FnOk P w K mg base CX0 2 f fd ["program", "places", "at"] (spBranches K) := by
  refine F.ok sc_branches (fun vs H Q E h => ?_) (fun cdv A outer s H vs Q E hr h => ?_)
  · obtain ⟨_, _, _, _, _, rfl, _⟩ := h
    rfl
  · obtain ⟨a, b, p, c, i, rfl, hp, hok, hi, hb, k⟩ := h
    refine ⟨_, (pss_cons (ps_set (i := 3) sc_branches.nd rfl (Or.inl rfl) (pe_ix (ix_K (K := K) rfl) (pv 0) (pv 2) (fun _ _ => rfl)))
  (pss_cons (ps_if (pt_cmpR op_eq (pe_ix (ix_K (K := K) rfl) (pv 3) pe_int (fun _ _ => rfl)) pe_str (nomark _)) (pss_one (ps_ret (pe_tup (pa_cons (pe_ix (ix_K (K := K) rfl) (pv 1) (pe_ix (ix_K (K := K) rfl) (pv 3) pe_int (fun _ _ => rfl)) (fun _ _ => rfl)) (pa_cons (pe_ix (ix_K (K := K) rfl) (pv 1) (pe_op op_add (pv 2) pe_int) (fun _ _ => rfl)) pa_nil))))) pss_nil)
  (pss_one (ps_ret (pe_tup (pa_cons (pe_ix (ix_K (K := K) rfl) (pv 1) (pe_op op_add (pv 2) pe_int) (fun _ _ => rfl)) pa_nil)))))), ?_⟩
    obtain ⟨x, hx⟩ : ∃ x, p[i]? = some x := ⟨_, List.getElem?_eq_getElem hi⟩
    obtain ⟨u, hu, hu2⟩ := ev_pg (σ := L2.start ["program", "places", "at", "instruction"] [.ref a, .ref b, .int (i : Nat)]) (ta := tVar 0) (tb := tVar 2) hp hx (ev_var rfl) (ev_var rfl)
    refine q_asg hu fun H1 e1 => ?_
    refine q_when (et_eq (ev_ixT (ev_var rfl) ev_c (ex_t e1 hu2) (vs_0 x)) ev_c rfl) (fun hc H2 e2 => ?_) (fun hc H2 e2 => ?_)
    · rw [w_zero] at hc
      obtain ⟨t, rfl⟩ : ∃ t, x = .zero t := by cases x <;> simp [In.isZero] at hc; exact ⟨_, rfl⟩
      have ht : t ≤ p.length := hok.2 _ (List.mem_of_getElem? hx)
      have e12 := e1.trans e2
      refine s_retU (eu_tup (ea_cons (ev_plc (ex_t e12 hb) ht (ev_var rfl) (ev_ixT (ev_var rfl) ev_c (ex_t e12 hu2) (vs_1 rfl))) (ea_cons (ev_plc (i := i + 1) (ex_t e12 hb) (by omega) (ev_var rfl) (ev_succ (ev_var rfl))) ea_nil)) (by simp)) fun d H3 hd e3 h3 => ?_
      refine k d H3 (fresh_back e12 hd) (e12.trans e3) ?_
      rw [h3]
      unfold brs
      rw [hx]
      rfl
    · rw [w_zero] at hc
      have e12 := e1.trans e2
      refine s_retU (eu_tup (ea_cons (ev_plc (i := i + 1) (ex_t e12 hb) (by omega) (ev_var rfl) (ev_succ (ev_var rfl))) ea_nil) (by simp)) fun d H3 hd e3 h3 => ?_
      refine k d H3 (fresh_back e12 hd) (e12.trans e3) ?_
      rw [h3]
      unfold brs
      rw [hx]
      cases x <;> first | rfl | cases hc
end
end Fm
set_option Elab.async false
set_option linter.all false
set_option maxRecDepth 100000
set_option maxHeartbeats 1000000
namespace Fm
open PySem L2 Evl
structure Rw (p : List In) (F O : List Nat) (ex : Nat → Prop) : Prop where
  nd : F.Nodup
  ond : O.Nodup
  re : ∀ x ∈ F, Reach p x
  sub : ∀ x ∈ O, x ∈ F
  st : stE p 0 ∈ F
  cl : ∀ x ∈ F, x ∈ O ∨ x = p.length ∨ ex x ∨ ∀ y ∈ brs p x, y ∈ F
theorem Rw.len {c : Nat} {p : List In} {F O : List Nat} {ex : Nat → Prop} (h : Rw p F O ex) (hok : Pok c p) : F.length ≤ p.length + 1 := nodup_le _ _ h.nd fun x hx => by
  have := (h.re x hx).le hok
  omega
theorem Rw.len2 {c : Nat} {p : List In} {F O : List Nat} {ex : Nat → Prop} (h : Rw p F O ex) (hok : Pok c p) : O.length ≤ p.length + 1 := Nat.le_trans (sub_le h.ond h.sub) (h.len hok)
theorem Rw.all {p : List In} {F : List Nat} (h : Rw p F [] fun _ => False) {x : Nat} (r : Reach p x) : x ∈ F := by
  induction r with
  | start => exact h.st
  | step _ hi hj ih =>
    rcases h.cl _ ih with z | z | z | z
    · cases z
    · omega
    · exact z.elim
    · exact z _ hj
theorem Rw.add {c : Nat} {p : List In} {F O : List Nat} {i y : Nat} (h : Rw p F O fun x => x = i) (hi : Reach p i) (hil : i < p.length) (hy : y ∈ brs p i) (hn : y ∉ F) : Rw p (F ++ [y]) (O ++ [y]) fun x => x = i := by
  refine ⟨?_, ?_, fun x hx => ?_, fun x hx => ?_, List.mem_append_left _ h.st, fun x hx => ?_⟩
  · exact List.nodup_append.mpr ⟨h.nd, by simp, fun a ha b hb => by
      rw [List.mem_singleton.mp hb]
      exact fun e => hn (e ▸ ha)⟩
  · exact List.nodup_append.mpr ⟨h.ond, by simp, fun a ha b hb => by
      rw [List.mem_singleton.mp hb]
      exact fun e => hn (e ▸ h.sub a ha)⟩
  · rcases List.mem_append.mp hx with hx | hx
    · exact h.re x hx
    · rw [List.mem_singleton.mp hx]
      exact .step hi hil hy
  · rcases List.mem_append.mp hx with hx | hx
    · exact List.mem_append_left _ (h.sub x hx)
    · exact List.mem_append_right _ hx
  · rcases List.mem_append.mp hx with hx | hx
    · rcases h.cl x hx with z | z | z | z
      · exact .inl (List.mem_append_left _ z)
      · exact .inr (.inl z)
      · exact .inr (.inr (.inl z))
      · exact .inr (.inr (.inr fun y hy => List.mem_append_left _ (z y hy)))
    · exact .inl (List.mem_append_right _ hx)
def spReached (K : PySem.W.Frag) : Sp := fun vs H Q _ => ∃ (a : Addr) (p : List In) (c : Nat), vs = [.int (c : Nat), .ref a] ∧ PgT K H a p ∧ Pok c p ∧ NoT p ∧ p.length ≤ 20 ∧ 1 ≤ c ∧ c ≤ 4 ∧
  ∀ b rs H', H b = none → Ex H H' → Asc rs → (∀ x, x ∈ rs ↔ Reach p x ∧ x < p.length) → H' b = some (.tup (nV rs)) → Q (.ref b) H'
section
variable {P : Program} {w : World} {K : PySem.W.Frag} {mg : Str → Option Value} {base : Heap}
abbrev s_reached : Stmt := top 22
theorem sc_reached : FnScope ["cells", "program", "places", "found", "open_ones", "at", "place"] ["cells", "program"] (defScope s_reached) := ⟨rfl, rfl, rfl, by decide +kernel, rfl, by decide +kernel, by decide +kernel⟩
--TY reached {'program':T,'places':T,'found':DI,'open_ones':L,'at':'int','place':'int','cells':'int'}
theorem ok_reached {f f1 f2 f3 f4 : Addr} {fd fd1 fd2 fd3 fd4 : FuncData} (F : Fun K "reached" "reached" s_reached f fd) (T : Txt K mg) (C_check_cells : Cal P w K mg base CX0 4 "check_cells" f1 fd1 ["value"] spChkCells) (C_check_program : Cal P w K mg base CX0 4 "check_program" f2 fd2 ["cells", "value"] (spChkPg K))
    (C_places_of : Cal P w K mg base CX0 2 "places_of" f3 fd3 ["program"] (spPlaces K)) (C_branches : Cal P w K mg base CX0 2 "branches" f4 fd4 ["program", "places", "at"] (spBranches K)) : FnOk P w K mg base CX0 5 f fd ["cells", "program"] (spReached K) := by
  refine F.ok sc_reached (fun vs H Q E h => ?_) (fun cdv A outer s H vs Q E hr h => ?_)
  · obtain ⟨_, _, _, rfl, _⟩ := h
    rfl
  · obtain ⟨a, p, c, rfl, hp, hok, hT, hl, hc1, hc2, k⟩ := h
    refine ⟨_, (pss_cons (ps_expr (pe_call C_check_cells.G (hr.mono (by first | decide | omega)) rfl C_check_cells.g C_check_cells.kp C_check_cells.b .nil pass0 (pa_cons (pv 0) pa_nil)))
  (pss_cons (ps_expr (pe_call C_check_program.G (hr.mono (by first | decide | omega)) rfl C_check_program.g C_check_program.kp C_check_program.b .nil pass0 (pa_cons (pv 0) (pa_cons (pv 1) pa_nil))))
  (pss_cons (ps_set (i := 2) sc_reached.nd rfl (Or.inl rfl) (pe_call C_places_of.G (hr.mono (by first | decide | omega)) rfl C_places_of.g C_places_of.kp C_places_of.b .nil pass0 (pa_cons (pv 1) pa_nil)))
  (pss_cons (ps_set (i := 3) sc_reached.nd rfl (Or.inl rfl) (pe_disp (pps_cons (pe_ix (ix_K (K := K) rfl) (pv 2) pe_int (fun _ _ => rfl)) pe_bl pps_nil) (by rfl) (by rfl) (fun z => by cases z) (by decide)))
  (pss_cons (ps_set (i := 4) sc_reached.nd rfl (Or.inl rfl) (pe_lst (pa_cons (pe_ix (ix_K (K := K) rfl) (pv 2) pe_int (fun _ _ => rfl)) pa_nil)))
  (pss_cons (ps_while PassesOwn.never (pt_truthK (K := K) rfl (pv 4) (by intro _; rfl)) (pss_cons (ps_set (i := 5) sc_reached.nd rfl (Or.inl rfl) (pe_bm0 PySem.F.plainAttrs_list PySem.F.slot_list_pop PySem.F.type_list_pop mt_pop (pv 4)))
  (pss_cons (ps_if (pt_cmpR op_eq (pv 5) (pe_callB (len_K (K := K) rfl) (by rfl) T.z_len (by decide +kernel) (pa_cons (pv 1) pa_nil)) (nomark _)) (pss_one ps_continue) pss_nil)
  (pss_one (ps_for PassesOwn.never rfl (pi_tupK (K := K) rfl (pe_call C_branches.G (hr.mono (by first | decide | omega)) rfl C_branches.g C_branches.kp C_branches.b .nil pass0 (pa_cons (pv 1) (pa_cons (pv 2) (pa_cons (pv 5) pa_nil))))) (pg_name (i := 6) sc_reached.nd rfl (by first | exact Or.inl rfl | exact Or.inr rfl)) (pss_one (ps_if (pt_cmp (pc_dnotin (hu_of hr) (pv 6) (pv 3)) rfl) (pss_cons (ps_dput (hu_of hr) (pv 3) (pv 6) pe_bl rfl)
  (pss_one (ps_expr (pe_bm PySem.F.plainAttrs_list PySem.F.slot_list_append PySem.F.type_list_append mt_append (pv 4) (pa_cons (pv 6) pa_nil))))) pss_nil)))))))
  (pss_one (ps_ret (pe_callTy (tpl_K (K := K) rfl) (by rfl) T.z_tuple (by decide +kernel) (pa_cons (pe_lc (own := [("at", 5)]) (g := gName 5) rfl sc_reached.nd (pi_listK (K := K) rfl (pe_callB (call_sortedDI rfl) (by rfl) T.z_sorted (by decide +kernel) (pa_cons (pv 3) pa_nil))) (blkOk_by (by kernel_rfl)) (fun _ _ _ _ _ => pg_name (i := 5) sc_reached.nd rfl (by first | exact Or.inl rfl | exact Or.inr rfl)) (fun _ _ _ _ _ => (pts_one (pt_cmpR op_ne (pv 5) (pe_callB (len_K (K := K) rfl) (by rfl) T.z_len (by decide +kernel) (pa_cons (pv 1) pa_nil)) (nomark _)))) (fun _ _ _ _ _ => (pv 5))) pa_nil)))))))))), ?_⟩
    refine q_call (ea_cons (ev_var rfl) ea_nil) fun H1 e1 => ⟨c, rfl, hc1, hc2, fun H2 e2 => ?_⟩
    have e02 := e1.trans e2
    refine q_call (ea_cons (ev_var rfl) (ea_cons (ev_var rfl) ea_nil)) fun H3 e3 => ⟨c, a, p, rfl, hp.up (e02.trans e3), hok, hT, hl, fun H4 e4 => ?_⟩
    have e04 := (e02.trans e3).trans e4
    refine q_callA (ea_cons (ev_var rfl) ea_nil) fun H5 e5 => ⟨a, p, c, rfl, hp.up (e04.trans e5), hok, by omega, fun b H6 hb5 e6 hb6 => ?_⟩
    have e06 := (e04.trans e5).trans e6
    have hb : ∀ H', Ex H6 H' → SqT K H' b (nV (plc p)) := fun H' e => ex_t e (st_of hb6)
    refine q_disp1 (k := stE p 0) (fun H7 e7 => ev_plc (i := 0) (hb _ e7) (Nat.zero_le _) (ev_var rfl) ev_c) (fun _ _ => ev_c) fun d H7 hd6 e7 hd7 => ?_
    refine q_asgL (xs := nV [stE p 0]) (el_lst (ea_cons (ev_plc (i := 0) (hb _ e7) (Nat.zero_le _) (ev_var rfl) ev_c) ea_nil) (by simp [nV])) fun o H8 ho7 e8 ho8 => ?_
    have hdo : d ≠ o := ne_of_none hd7 ho7
    have hd0 : H6 d = none := hd6
    have ho0 : H6 o = none := fresh_back e7 ho7
    have e68 := e7.trans e8
    refine q_while (fun μ σ' H' => ∃ (F O : List Nat) (x1 x2 : Option V), Ex H6 H' ∧ H' d = some (.dK (kD F)) ∧ H' o = some (.lst (nV O)) ∧ Rw p F O (fun _ => False) ∧ μ = 2 * (p.length + 1 - F.length) + O.length ∧
        σ' = [some (.int (c : Nat)), some (.ref a), some (.ref b), some (.ref d), some (.ref o), x1, x2]) _
      ⟨[stE p 0], [stE p 0], _, _, e68, e8 _ _ hd7, ho8, ⟨by simp, by simp, fun x hx => by rw [List.mem_singleton.mp hx]; exact .start, fun x hx => hx, by simp, fun x hx => .inl hx⟩, rfl, rfl⟩ ?_
    rintro μ σ' H' ⟨F, O, x1, x2, e, hd, ho, R, rfl, rfl⟩
    refine ⟨_, et_truL (ev_var rfl) (sq_of ho), fun hb9 H9 e9 => ?_, fun hb9 H9 e9 => ?_⟩
    · obtain ⟨O', i, rfl⟩ : ∃ O' i, O = O' ++ [i] := by
        rcases List.eq_nil_or_concat O with z | ⟨O', i, z⟩
        · subst z
          cases hb9
        · exact ⟨O', i, by rw [z, List.concat_eq_append]⟩
      refine ⟨_, fun _ _ z => z, ?_⟩
      have hi : i ∈ F := R.sub i (by simp)
      have hO'nd : O'.Nodup := (List.nodup_append.mp R.ond).1
      have hri := R.re i hi
      have ho9 : H9 o = some (.lst (nV O' ++ [.int (i : Nat)])) := by
        rw [e9 _ _ ho]
        simp [nV]
      refine q_pop ho9 (ev_var rfl) fun H10 e10 => ?_
      have ex10 : Ex H6 (upd H10 o (.lst (nV O'))) := Ex.mut ((e.trans e9).trans e10) ho0
      have hd10 : upd H10 o (.lst (nV O')) d = some (.dK (kD F)) := by
        rw [upd_ne hdo]
        exact e10 _ _ (e9 _ _ hd)
      have ho10 : upd H10 o (.lst (nV O')) o = some (.lst (nV O')) := upd_same
      generalize upd H10 o (.lst (nV O')) = H11 at ex10 hd10 ho10 ⊢
      have hp11 := hp.up (e06.trans ex10)
      have hlF := R.len hok
      refine q_when (et_eq (ev_var rfl) (ev_lnP hp11 (ev_var rfl)) rfl) (fun hc H12 e12 => ?_) (fun hc H12 e12 => ?_)
      · have hin : i = p.length := by
          have := V.int.inj (of_decide_eq_true hc)
          omega
        refine ⟨2 * (p.length + 1 - F.length) + O'.length, by simp, F, O', _, _, ex10.trans e12, e12 _ _ hd10, e12 _ _ ho10, ⟨R.nd, hO'nd, R.re, fun x hx => R.sub x (List.mem_append_left _ hx), R.st, fun x hx => ?_⟩, rfl, rfl⟩
        rcases R.cl x hx with z | z | z | z
        · rcases List.mem_append.mp z with z | z
          · exact .inl z
          · rw [List.mem_singleton.mp z]
            exact .inr (.inl hin)
        · exact .inr (.inl z)
        · exact z.elim
        · exact .inr (.inr (.inr z))
      · have hin : i ≠ p.length := fun z => of_decide_eq_false hc (by rw [z])
        have hil : i < p.length := by have := hri.le hok; omega
        have ex12 := ex10.trans e12
        refine s_forTc (xs := nV (brs p i)) (ea_cons (ev_var rfl) (ea_cons (ev_var rfl) (ea_cons (ev_var rfl) ea_nil))) (fun H13 e13 Q q => ⟨a, b, p, c, i, rfl, hp.up (e06.trans (ex12.trans e13)), hok, hil, hb _ (ex12.trans e13), q⟩)
          (fun q m σ' H' => ∃ (F2 O2 : List Nat) (x3 : Option V), H6 q = none ∧ H12 q = none ∧ Ex H6 H' ∧ H' q = some (.tup (nV (brs p i))) ∧ H' d = some (.dK (kD F2)) ∧ H' o = some (.lst (nV O2)) ∧ Rw p F2 O2 (fun x => x = i) ∧ (∀ y ∈ (brs p i).take m, y ∈ F2) ∧
            2 * (p.length + 1 - F2.length) + O2.length ≤ 2 * (p.length + 1 - F.length) + O'.length ∧ σ' = [some (.int (c : Nat)), some (.ref a), some (.ref b), some (.ref d), some (.ref o), some (.int (i : Nat)), x3])
          (fun q H13 hq e13 hq13 => ⟨F, O', _, fresh_back ex12 hq, hq, ex12.trans e13, hq13, e13 _ _ (e12 _ _ hd10), e13 _ _ (e12 _ _ ho10), ⟨R.nd, hO'nd, R.re, fun x hx => R.sub x (List.mem_append_left _ hx), R.st, fun x hx => ?_⟩, by simp, Nat.le_refl _, rfl⟩)
          (fun q m σ' H' _ ⟨_, _, _, _, _, _, z, _⟩ => st_of z) ?_ ?_
        · rcases R.cl x hx with z | z | z | z
          · rcases List.mem_append.mp z with z | z
            · exact .inl z
            · exact .inr (.inr (.inl (List.mem_singleton.mp z)))
          · exact .inr (.inl z)
          · exact z.elim
          · exact .inr (.inr (.inr z))
        · rintro q m x σ' H14 hm ⟨F2, O2, x3, hq6, hq12, ex14, hq14, hd14, ho14, R2, hin2, hms, rfl⟩
          obtain ⟨y, hy, rfl⟩ : ∃ y, (brs p i)[m]? = some y ∧ x = V.int (y : Nat) := by
            unfold nV at hm
            rw [List.getElem?_map] at hm
            cases hh : (brs p i)[m]? with
            | none => rw [hh] at hm; cases hm
            | some z => rw [hh] at hm; exact ⟨z, rfl, (Option.some.inj hm).symm⟩
          have hyb : y ∈ brs p i := List.mem_of_getElem? hy
          have htk : ∀ z ∈ (brs p i).take (m + 1), z ∈ (brs p i).take m ∨ z = y := fun z hz => by
            rw [List.take_add_one, hy] at hz
            rcases List.mem_append.mp hz with hz | hz
            · exact .inl hz
            · exact .inr (List.mem_singleton.mp hz)
          have hqd : q ≠ d := ne_of hq14 hd14 (by intro z; cases z)
          have hqo : q ≠ o := ne_of hq14 ho14 (by intro z; cases z)
          refine s_when (et_ninD (ev_var rfl) (ev_var rfl) hd14) (fun hc H15 e15 => ?_) (fun hc H15 e15 => ?_)
          · have hyn : y ∉ F2 := by simpa using hc
            have hlF2 := R2.len hok
            refine q_putD (e15 _ _ hd14) hyn (by omega) (ev_var rfl) (ev_var rfl) ev_c fun H16 e16 => ?_
            have hl2 := R2.len2 hok
            have ho16 : upd H16 d (.dK (kD (F2 ++ [y]))) o = some (.lst (nV O2)) := by
              rw [upd_ne (Ne.symm hdo)]
              exact e16 _ _ (e15 _ _ ho14)
            refine s_app ho16 (ev_var rfl) (ev_var rfl) (by unfold nV; rw [List.length_map]; omega) fun H17 e17 => ?_
            have ex16 : Ex H6 (upd H16 d (.dK (kD (F2 ++ [y])))) := Ex.mut ((ex14.trans e15).trans e16) hd0
            have R3 := R2.add (c := c) hri hil hyb hyn
            have hl3 := R3.len hok
            refine ⟨F2 ++ [y], O2 ++ [y], _, hq6, hq12, Ex.mut (ex16.trans e17) ho0, ?_, ?_, ?_, R3, fun z hz => ?_, ?_, rfl⟩
            · rw [upd_ne hqo]
              refine e17 _ _ ?_
              rw [upd_ne hqd]
              exact e16 _ _ (e15 _ _ hq14)
            · rw [upd_ne hdo]
              exact e17 _ _ upd_same
            · rw [upd_same]
              simp [nV]
            · rcases htk z hz with z2 | z2
              · exact List.mem_append_left _ (hin2 z z2)
              · rw [z2]
                simp
            · rw [List.length_append] at hl3
              simp only [List.length_append, List.length_singleton] at *
              omega
          · have hyn : y ∈ F2 := by simpa using hc
            refine ⟨F2, O2, _, hq6, hq12, ex14.trans e15, e15 _ _ hq14, e15 _ _ hd14, e15 _ _ ho14, R2, fun z hz => ?_, hms, rfl⟩
            rcases htk z hz with z2 | z2
            · exact hin2 z z2
            · rw [z2]
              exact hyn
        · rintro q σ' H14 ⟨F2, O2, x3, hq6, hq12, ex14, hq14, hd14, ho14, R2, hin2, hms, rfl⟩
          unfold nV at hin2
          rw [List.length_map, List.take_length] at hin2
          refine ⟨2 * (p.length + 1 - F2.length) + O2.length, by simp; omega, F2, O2, _, _, ex14, hd14, ho14, ⟨R2.nd, R2.ond, R2.re, R2.sub, R2.st, fun x hx => ?_⟩, rfl, rfl⟩
          rcases R2.cl x hx with z | z | z | z
          · exact .inl z
          · exact .inr (.inl z)
          · subst z
            exact .inr (.inr (.inr hin2))
          · exact .inr (.inr (.inr z))
    · -- the end
      obtain rfl : O = [] := by
        cases O with
        | nil => rfl
        | cons a l => cases hb9
      have ex9 := e.trans e9
      have hlF := R.len hok
      refine s_retTP (elp_lcN (fun x => !decide (x = p.length)) (fun x => .int (x : Nat)) (elp_sortedD (ev_var rfl) (e9 _ _ hd) R.nd (by omega)) (fun x => rfl) (fun zs hz => by have := hz.2.length_eq; omega) (fun zs _ y H10 _ e10 => ?_) (fun zs _ y H10 _ e10 _ => ev_var rfl)) ?_
      · refine et_is (et_ne (ev_var rfl) (ev_lnP (hp.up (e06.trans (ex9.trans e10))) (ev_var rfl)) rfl) ?_
        congr 1
        by_cases hxe : y = p.length
        · rw [hxe]; simp
        · rw [decide_eq_false hxe, decide_eq_false (fun z => hxe (by have := V.int.inj z; omega))]
      · rintro xs u H10 ⟨zs, rfl, hasc, hpz⟩ hu e10 h10
        refine k u (zs.filter fun x => !decide (x = p.length)) _ (fresh_back (e06.trans ex9) hu) ((e06.trans ex9).trans e10) (hasc.filter _) (fun x => ?_) h10
        rw [List.mem_filter, hpz.mem_iff]
        constructor
        · rintro ⟨h1, h2⟩
          have h3 := R.re x h1
          have h4 := h3.le hok
          have h5 : x ≠ p.length := by simpa using h2
          exact ⟨h3, by omega⟩
        · rintro ⟨h1, h2⟩
          exact ⟨R.all h1, by simp; omega⟩
end
end Fm
set_option Elab.async false
set_option linter.all false
set_option maxRecDepth 100000
set_option maxHeartbeats 1000000
namespace Fm
open PySem L2 Evl
def In.reads (c : Nat) : In → Bool
  | .get k => decide (k = c) | .plus k => decide (k = c) | .minus k => decide (k = c)
  | _ => false
def In.sets (c : Nat) : In → Bool
  | .set k => decide (k = c)
  | _ => false
/-- some course from i reads the cell before it sets it -/
inductive Need (p : List In) (c : Nat) : Nat → Prop where
  | read {i : Nat} {x : In} : p[i]? = some x → x.reads c = true → Need p c i
  | on {i j : Nat} {x : In} : p[i]? = some x → x.sets c = false → j ∈ brs p i → Need p c j → Need p c i
def asks (p : List In) (F : List Nat) (c i : Nat) : Bool := match p[i]? with
  | some x => if x.reads c then true else if x.sets c then false else (brs p i).any fun j => decide (j ∈ F)
  | none => false
theorem asks_need {p : List In} {F : List Nat} {c i : Nat} (hF : ∀ x ∈ F, Need p c x) (h : asks p F c i = true) : Need p c i := by
  unfold asks at h
  cases hx : p[i]? with
  | none => rw [hx] at h; cases h
  | some x =>
    rw [hx] at h
    simp only at h
    by_cases hr : x.reads c = true
    · exact .read hx hr
    · rw [if_neg hr] at h
      by_cases hs : x.sets c = true
      · rw [if_pos hs] at h
        cases h
      · rw [if_neg hs] at h
        obtain ⟨j, hj, hjF⟩ := List.any_eq_true.mp h
        exact .on hx (by simpa using hs) hj (hF j (of_decide_eq_true hjF))
theorem need_all {cc : Nat} {p : List In} {F : List Nat} {c : Nat} (hok : Pok cc p) (hcl : ∀ i, Sta p i → i ∉ F → asks p F c i = false) {i : Nat} (hi : Sta p i) (h : Need p c i) : i ∈ F := by
  induction h with
  | @read i x hx hr =>
    refine Classical.byContradiction fun hn => ?_
    have := hcl i hi hn
    unfold asks at this
    rw [hx] at this
    simp [hr] at this
  | @on i j x hx hs hj hN ih =>
    refine Classical.byContradiction fun hn => ?_
    have h1 := hcl i hi hn
    have hjs : Sta p j := by
      rcases brs_sta hok hi.lt hj with z | z
      · subst z
        cases hN with
        | read e _ => rw [List.getElem?_eq_none (Nat.le_refl _)] at e; cases e
        | on e _ _ _ => rw [List.getElem?_eq_none (Nat.le_refl _)] at e; cases e
      · exact z
    have hjF := ih hjs
    unfold asks at h1
    rw [hx] at h1
    simp only [hs] at h1
    have : (brs p i).any (fun j => decide (j ∈ F)) = true := List.any_eq_true.mpr ⟨j, hj, decide_eq_true hjF⟩
    rw [this] at h1
    split at h1 <;> simp at h1
def spAsks (K : PySem.W.Frag) : Sp := fun vs H Q _ => ∃ (a b d : Addr) (p : List In) (cc i c : Nat) (F : List Nat), vs = [.ref a, .ref b, .ref d, .int (i : Nat), .int (c : Nat)] ∧ PgT K H a p ∧ Pok cc p ∧ i < p.length ∧ SqT K H b (nV (plc p)) ∧ H d = some (.dK (kD F)) ∧ ∀ H', Ex H H' → Q (.bl (asks p F c i)) H'
def argIs (o : Option Int) (c : Nat) : Bool := match o with
  | some z => decide (V.int z = V.int (c : Nat))
  | none => false
theorem reads_of {x : In} {c : Nat} (h : x.arg = some (c : Int)) (hr : x.rd = true) : x.reads c = true := by
  cases x <;> simp [In.rd] at hr <;> simp only [In.arg, Option.some.injEq] at h <;> simp only [In.reads, decide_eq_true_eq] <;> omega
theorem sets_of {x : In} {c : Nat} (h : x.arg = some (c : Int)) (hr : x.isSet = true) : x.reads c = false ∧ x.sets c = true := by
  cases x <;> simp [In.isSet] at hr
  simp only [In.arg, Option.some.injEq] at h
  exact ⟨rfl, by simp only [In.sets, decide_eq_true_eq]; omega⟩
theorem not_arg {x : In} {c : Nat} (h : ¬ x.arg = some (c : Int)) : x.reads c = false ∧ x.sets c = false := by
  cases x <;> simp only [In.arg, Option.some.injEq] at h <;> simp only [In.reads, In.sets, decide_eq_false_iff_not] <;> (first | exact ⟨trivial, trivial⟩ | (constructor <;> first | trivial | omega))
section
variable {K : PySem.W.Frag} {σ : L2.St} {H : Hp} {ta tb te : TE}
theorem ev_any {bs : List Bool} (h : EvL te σ H (bs.map V.bl)) : Ev (tCB (rAny K) (tCons te tNil)) σ H (.bl (bs.any id)) := fun H1 e Q q => h H1 e _ fun p H2 hp e2 h2 => ⟨p, bs, rfl, sq_of h2, q H2 e2⟩
theorem ev_inD {d : Addr} {F : List Nat} {x : Nat} (ha : Ev ta σ H (.int (x : Nat))) (hb : Ev tb σ H (.ref d)) (h : DGet H d (.int (x : Nat)) (valV (kD F) (Sum.inl (x : Int))) → DGet H d (.int (x : Nat)) (valV (kD F) (Sum.inl (x : Int)))) (hd : ∀ H1, Ex H H1 → ∃ o, H1 d = some (.dK (kD F)) ∨ H1 d = some (.frz o (.dK (kD F)))) : Ev (tDIn ta tb) σ H (.bl (decide (x ∈ F))) := fun H1 e Q q =>
  ha H1 e _ fun H2 e2 => hb H2 (e.trans e2) _ fun H3 e3 => by
    have hq := q H3 (e2.trans e3)
    refine ⟨d, valV (kD F) (Sum.inl (x : Int)), rfl, .inl ⟨kD F, Sum.inl (x : Int), ?_, rfl, rfl⟩, ?_⟩
    · obtain ⟨o, h1 | h1⟩ := hd H3 ((e.trans e2).trans e3)
      · exact .inl h1
      · exact .inr ⟨o, h1⟩
    · rw [kD_val]
      by_cases hx : x ∈ F
      · rw [if_pos hx]; rw [decide_eq_true hx] at hq; exact hq
      · rw [if_neg hx]; rw [decide_eq_false hx] at hq; exact hq
end
section
variable {P : Program} {w : World} {K : PySem.W.Frag} {mg : Str → Option Value} {base : Heap}
abbrev s_asks_for : Stmt := top 26
theorem sc_asks_for : FnScope ["program", "places", "found", "at", "cell", "instruction", "place"] ["program", "places", "found", "at", "cell"] (defScope s_asks_for) := ⟨rfl, rfl, rfl, by decide +kernel, rfl, by decide +kernel, by decide +kernel⟩
--TY asks_for {'program':T,'places':T,'found':DI,'at':'int','cell':'int','instruction':T,'place':'int'}
theorem ok_asks_for {f f1 aR : Addr} {fd fd1 : FuncData} (F : Fun K "asks_for" "asks_for" s_asks_for f fd) (T : Txt K mg) (Wd : WdR K mg aR) (C_branches : Cal P w K mg base CX0 2 "branches" f1 fd1 ["program", "places", "at"] (spBranches K)) : FnOk P w K mg base CX0 3 f fd ["program", "places", "found", "at", "cell"] (spAsks K) := by
  refine F.ok sc_asks_for (fun vs H Q E h => ?_) (fun cdv A outer s H vs Q E hr h => ?_)
  · obtain ⟨_, _, _, _, _, _, _, _, rfl, _⟩ := h
    rfl
  · obtain ⟨a, b, d, p, cc, i, c, Fd, rfl, hp, hok, hi, hb, hd, k⟩ := h
    refine ⟨_, (pss_cons (ps_set (i := 5) sc_asks_for.nd rfl (Or.inl rfl) (pe_ix (ix_K (K := K) rfl) (pv 0) (pv 3) (fun _ _ => rfl)))
  (pss_cons (ps_if (PW.pt (pw_and (pt_cmpR op_eq (pe_callB (len_K (K := K) rfl) (by rfl) T.z_len (by decide +kernel) (pa_cons (pv 5) pa_nil)) pe_int (nomark _)) (pw_and1 (pt_cmpR op_eq (pe_ix (ix_K (K := K) rfl) (pv 5) pe_int (fun _ _ => rfl)) (pv 4) (nomark _))))) (pss_cons (ps_if (pt_cmpR (in_K (K := K) rfl) (pe_ix (ix_K (K := K) rfl) (pv 5) pe_int (fun _ _ => rfl)) (pe_glob (v := .ref _) rfl Wd.g_READS rfl) (by rfl)) (pss_one (ps_ret pe_bl)) pss_nil)
  (pss_one (ps_if (pt_cmpR op_eq (pe_ix (ix_K (K := K) rfl) (pv 5) pe_int (fun _ _ => rfl)) pe_str (nomark _)) (pss_one (ps_ret pe_bl)) pss_nil))) pss_nil)
  (pss_one (ps_ret (pe_callB (any_K (K := K) rfl rfl) (by rfl) T.z_any (by decide +kernel) (pa_cons (pe_lc (own := [("place", 6)]) (g := gName 6) rfl sc_asks_for.nd (pi_tupK (K := K) rfl (pe_call C_branches.G (hr.mono (by first | decide | omega)) rfl C_branches.g C_branches.kp C_branches.b .nil pass0 (pa_cons (pv 0) (pa_cons (pv 1) (pa_cons (pv 3) pa_nil))))) (blkOk_by (by kernel_rfl)) (fun _ _ _ _ _ => pg_name (i := 6) sc_asks_for.nd rfl (by first | exact Or.inl rfl | exact Or.inr rfl)) (fun _ _ _ _ _ => pts_nil) (fun _ _ _ _ _ => (pe_cmp (pc_din (hu_of hr) (pv 6) (pv 2)) rfl))) pa_nil)))))), ?_⟩
    obtain ⟨x, hx⟩ : ∃ x, p[i]? = some x := ⟨_, List.getElem?_eq_getElem hi⟩
    obtain ⟨u, hu, hu2⟩ := ev_pg (σ := L2.start ["program", "places", "found", "at", "cell", "instruction", "place"] [.ref a, .ref b, .ref d, .int (i : Nat), .int (c : Nat)]) (ta := tVar 0) (tb := tVar 3) hp hx (ev_var rfl) (ev_var rfl)
    refine q_asg hu fun H1 e1 => ?_
    have hu1 := ex_t e1 hu2
    have fin : x.reads c = false → x.sets c = false → ∀ H2, Ex H H2 → (tRet (tCB (rAny K) (tCons (tLc (iTup K (tCall (spBranches K) [] E0 (tCons (tVar 0) (tCons (tVar 1) (tCons (tVar 3) tNil))))) (gName 6) tYes (tDIn (tVar 6) (tVar 2)) (List.map (fun x => x.snd) [(("place" : Str), 6)])) tNil))) { nx := fun _ H' => Q .non H', rt := Q } (List.set (L2.start ["program", "places", "found", "at", "cell", "instruction", "place"] [.ref a, .ref b, .ref d, .int (i : Nat), .int (c : Nat)]) 5 (some (.ref u))) H2 := fun hr hs H2 e02 => by
      have hval : asks p Fd c i = ((brs p i).map fun j => decide (j ∈ Fd)).any id := by
        unfold asks
        rw [hx]
        simp [hr, hs]
      refine s_ret (v := .bl (asks p Fd c i)) ?_ fun H3 e3 => k H3 (e02.trans e3)
      rw [hval]
      refine ev_any ?_
      have := el_lcTc (K := K) (σ := List.set (L2.start ["program", "places", "found", "at", "cell", "instruction", "place"] [.ref a, .ref b, .ref d, .int (i : Nat), .int (c : Nat)]) 5 (some (.ref u))) (H := H2) (sp := spBranches K) (E := E0) (tA := tCons (tVar 0) (tCons (tVar 1) (tCons (tVar 3) tNil))) (j := 6) (vs := List.map (fun x => x.snd) [(("place" : Str), 6)]) (tt := tYes) (te := tDIn (tVar 6) (tVar 2)) (zs := brs p i) (fun _ => true) (fun j => .bl (decide (j ∈ Fd)))
        (ea_cons (ev_var rfl) (ea_cons (ev_var rfl) (ea_cons (ev_var rfl) ea_nil))) (fun H3 e3 Q q => ⟨a, b, p, cc, i, rfl, hp.up (e02.trans e3), hok, hi, ex_t (e02.trans e3) hb, q⟩) (fun x => rfl) (by unfold brs; split <;> simp) (fun y H3 _ _ => et_yes)
        (fun y H3 _ e3 _ => ev_inD (F := Fd) (ev_var rfl) (ev_var rfl) (fun z => z) fun H4 e4 => ⟨⟨.none, none, .fields #[], #[]⟩, .inl (((e02.trans e3).trans e4) _ _ hd)⟩)
      rw [show (brs p i).filter (fun _ => true) = brs p i from List.filter_eq_self.mpr (fun _ _ => rfl)] at this
      rw [List.map_map]
      exact this
    have hlen := vs_len x
    refine q_when (b := decide (x.vs.length = 2) && (match x.arg with | some z => decide (z = (c : Int)) | none => false)) (et_is (et_and (b := argIs x.arg c) (et_eq (ev_lnT (ev_var rfl) hu1) ev_c rfl) fun h2 => ?_) ?_) (fun hc H2 e2 => ?_) (fun hc H2 e2 => ?_)
    · obtain ⟨z, hz⟩ : ∃ z, x.arg = some z := by
        have := of_decide_eq_true h2
        rw [hlen] at this
        cases ha : x.arg with
        | none => rw [ha] at this; simp at this
        | some z => exact ⟨z, rfl⟩
      rw [hz]
      show EvT _ _ _ (decide (V.int z = V.int (c : Nat)))
      exact et_eq (ev_ixT (ev_var rfl) ev_c hu1 (vs_1 hz)) (ev_var rfl) rfl
    · rw [hlen]
      cases ha : x.arg with
      | none => simp [argIs]
      | some z =>
        show (decide (V.int ((2 : Nat) : Int) = V.int 2) && decide (V.int z = V.int (c : Nat))) = _
        by_cases hzc : z = (c : Int)
        · simp [hzc]
        · simp [hzc]
    · obtain ⟨z, hz, hzc⟩ : ∃ z, x.arg = some z ∧ z = (c : Int) := by
        rw [Bool.and_eq_true] at hc
        cases ha : x.arg with
        | none => rw [ha] at hc; simp at hc
        | some z => rw [ha] at hc; exact ⟨z, rfl, by simpa using hc.2⟩
      subst hzc
      have hu2' := ex_t e2 hu1
      refine q_when (et_inK (ev_ixT (ev_var rfl) ev_c hu2' (vs_0 x)) ev_c (Wd.R _) rfl rfl) (fun hc2 H3 e3 => ?_) (fun hc2 H3 e3 => ?_)
      · rw [w_rd] at hc2
        refine s_ret ev_c fun H4 e4 => ?_
        have : asks p Fd c i = true := by
          unfold asks
          rw [hx]
          have : x.reads c = true := reads_of hz hc2
          simp [this]
        have h3 := k H4 (((e1.trans e2).trans e3).trans e4)
        rw [this] at h3
        exact h3
      · rw [w_rd] at hc2
        refine q_when (et_eq (ev_ixT (ev_var rfl) ev_c (ex_t e3 hu2') (vs_0 x)) ev_c rfl) (fun hc3 H4 e4 => ?_) (fun hc3 H4 e4 => ?_)
        · rw [w_set] at hc3
          refine s_ret ev_c fun H5 e5 => ?_
          have : asks p Fd c i = false := by
            unfold asks
            rw [hx]
            simp [sets_of hz hc3]
          have h3 := k H5 ((((e1.trans e2).trans e3).trans e4).trans e5)
          rw [this] at h3
          exact h3
        · rw [w_set] at hc3
          exact fin (by cases x <;> simp_all [In.rd, In.reads]) (by cases x <;> simp_all [In.isSet, In.sets]) H4 (((e1.trans e2).trans e3).trans e4)
    · have hne : x.reads c = false ∧ x.sets c = false := not_arg fun ha => by
        rw [hlen, ha] at hc
        simp at hc
      exact fin hne.1 hne.2 H2 (e1.trans e2)
end
end Fm
set_option Elab.async false
set_option linter.all false
set_option maxRecDepth 100000
set_option maxHeartbeats 1000000
namespace Fm
open PySem L2 Evl
/-- the readers of a cell, as a dict -/
structure Rd_ (p : List In) (c : Nat) (F : List Nat) : Prop where
  nd : F.Nodup
  re : ∀ x, x ∈ F ↔ Sta p x ∧ Need p c x
def spReaders (K : PySem.W.Frag) : Sp := fun vs H Q _ => ∃ (a b : Addr) (p : List In) (cc c : Nat), vs = [.ref a, .ref b, .int (c : Nat)] ∧ PgT K H a p ∧ Pok cc p ∧ p.length ≤ 100 ∧ SqT K H b (nV (plc p)) ∧
  ∀ d F H', H d = none → Ex H H' → H' d = some (.dK (kD F)) → Rd_ p c F → Q (.ref d) H'
section
variable {P : Program} {w : World} {K : PySem.W.Frag} {mg : Str → Option Value} {base : Heap}
/-- for i in reversed(range(n)) -/
theorem s_forRev {te : TE} {n j : Nat} {tu : TS} {D : Ends} {σ : L2.St} {H : Hp} (h : Ev te σ H (.int (n : Nat))) (hn : n ≤ 100000) (Pv : Nat → L2.St → Hp → Prop) (h0 : ∀ H1, Ex H H1 → Pv 0 σ H1)
    (hs : ∀ (m : Nat) σ' H', m < n → Pv m σ' H' → tu { D with nx := Pv (m + 1), ct := Pv (m + 1), bk := D.nx } (σ'.set j (some (.int ((n - 1 - m : Nat) : Int)))) H') (hd : ∀ σ' H', Pv n σ' H' → D.nx σ' H') : tFor (iRevR (tRg1 te)) (gName j) tu D σ H :=
  h H (Ex.refl H) _ fun H1 e => by
    refine ⟨(n : Int), rfl, ?_⟩
    refine ⟨by omega, by omega, by omega, by omega, ?_⟩
    have e0 : ((n : Int) - 0).toNat = n := by omega
    rw [e0]
    exact for_rangeC Pv (h0 H1 e) (fun m σ' H' hm p => by
      have e1 : (0 : Int) + (n : Int) - 1 + ((m : Nat) : Int) * (-1) = ((n - 1 - m : Nat) : Int) := by omega
      rw [e1]
      exact hs m σ' H' hm p) hd
abbrev s_readers : Stmt := top 25
theorem sc_readers : FnScope ["program", "places", "cell", "found", "growing", "at"] ["program", "places", "cell"] (defScope s_readers) := ⟨rfl, rfl, rfl, by decide +kernel, rfl, by decide +kernel, by decide +kernel⟩
--TY readers {'program':T,'places':T,'found':DI,'at':'int','cell':'int','growing':'bool'}
theorem ok_readers {f f1 : Addr} {fd fd1 : FuncData} (F : Fun K "readers" "readers" s_readers f fd) (T : Txt K mg) (C_asks_for : Cal P w K mg base CX0 3 "asks_for" f1 fd1 ["program", "places", "found", "at", "cell"] (spAsks K)) : FnOk P w K mg base CX0 4 f fd ["program", "places", "cell"] (spReaders K) := by
  refine F.ok sc_readers (fun vs H Q E h => ?_) (fun cdv A outer s H vs Q E hr h => ?_)
  · obtain ⟨_, _, _, _, _, rfl, _⟩ := h
    rfl
  · obtain ⟨a, b, p, cc, c, rfl, hp, hok, hl, hb, k⟩ := h
    refine ⟨_, (pss_cons (ps_set (i := 3) sc_readers.nd rfl (Or.inl rfl) pe_dnewK)
  (pss_cons (ps_set (i := 4) sc_readers.nd rfl (Or.inl rfl) pe_bl)
  (pss_cons (ps_while PassesOwn.never (pt_val (pv 4)) (pss_cons (ps_set (i := 4) sc_readers.nd rfl (Or.inl rfl) pe_bl)
  (pss_one (ps_for PassesOwn.never rfl (pi_revR rfl T.z_reversed (prg_1 rfl T.z_range (pe_callB (len_K (K := K) rfl) (by rfl) T.z_len (by decide +kernel) (pa_cons (pv 0) pa_nil)))) (pg_name (i := 5) sc_readers.nd rfl (by first | exact Or.inl rfl | exact Or.inr rfl)) (pss_one (ps_if (PW.pt (pw_and (pt_cmpR op_eq (pe_ix (ix_K (K := K) rfl) (pv 1) (pv 5) (fun _ _ => rfl)) (pv 5) (nomark _)) (pw_and (pt_cmp (pc_dnotin (hu_of hr) (pv 5) (pv 3)) rfl) (pw_and1 (pt_val (pe_call C_asks_for.G (hr.mono (by first | decide | omega)) rfl C_asks_for.g C_asks_for.kp C_asks_for.b .nil pass0 (pa_cons (pv 0) (pa_cons (pv 1) (pa_cons (pv 3) (pa_cons (pv 5) (pa_cons (pv 2) pa_nil))))))))))) (pss_cons (ps_dput (hu_of hr) (pv 3) (pv 5) pe_bl rfl)
  (pss_one (ps_set (i := 4) sc_readers.nd rfl (Or.inl rfl) pe_bl))) pss_nil))))))
  (pss_one (ps_ret (pv 3)))))), ?_⟩
    intro d hd0
    have exd : Ex H (upd H d (.dK [])) := Ex.new hd0
    have hdd : upd H d (.dK []) d = some (.dK (kD [])) := upd_same
    generalize upd H d (.dK []) = H1 at exd hdd ⊢
    refine q_asg ev_c fun H2 e2 => ?_
    refine q_while (fun μ σ' H' => ∃ (F : List Nat) (g : Bool) (x1 : Option V), Ex H H' ∧ H' d = some (.dK (kD F)) ∧ F.Nodup ∧ (∀ x ∈ F, Sta p x ∧ Need p c x) ∧ (g = false → ∀ i, Sta p i → i ∉ F → asks p F c i = false) ∧ μ = 2 * (p.length - F.length) + g.toNat ∧
        σ' = [some (.ref a), some (.ref b), some (.int (c : Nat)), some (.ref d), some (.bl g), x1]) _
      ⟨[], true, _, exd.trans e2, e2 _ _ hdd, by simp, by simp, (fun z => nomatch z), rfl, rfl⟩ ?_
    rintro μ σ' H' ⟨Fd, g, x1, e, hd, hn, hre, hcl, rfl, rfl⟩
    have lenF : ∀ F : List Nat, F.Nodup → (∀ x ∈ F, Sta p x ∧ Need p c x) → F.length ≤ p.length := fun F h1 h2 => nodup_le _ _ h1 fun x hx => (h2 x hx).1.lt
    refine ⟨g, et_B (ev_var rfl), fun hg H3 e3 => ?_, fun hg H3 e3 => ?_⟩
    · subst hg
      refine ⟨_, fun _ _ z => z, ?_⟩
      refine q_asg ev_c fun H4 e4 => ?_
      have e34 := (e.trans e3).trans e4
      refine s_forRev (n := p.length) (ev_lnP (hp.up e34) (ev_var rfl)) (by omega)
        (fun m σ' H' => ∃ (F2 : List Nat) (g2 : Bool) (x : Option V), Ex H H' ∧ H' d = some (.dK (kD F2)) ∧ F2.Nodup ∧ (∀ x ∈ F2, Sta p x ∧ Need p c x) ∧ Fd.length ≤ F2.length ∧ (g2 = true → Fd.length < F2.length) ∧ (g2 = false → ∀ i, p.length - m ≤ i → Sta p i → i ∉ F2 → asks p F2 c i = false) ∧
          σ' = [some (.ref a), some (.ref b), some (.int (c : Nat)), some (.ref d), some (.bl g2), x])
        (fun H5 e5 => ⟨Fd, false, _, e34.trans e5, e5 _ _ (e4 _ _ (e3 _ _ hd)), hn, hre, Nat.le_refl _, fun z => (nomatch z), fun _ i hi hs _ => absurd hs.lt (by omega), rfl⟩) ?_ ?_
      · rintro m σ' H5 hm ⟨F2, g2, x, e5, hd5, hn2, hre2, hle, hgr, hcl2, rfl⟩
        have hp5 := hp.up e5
        have hb5 := ex_t e5 hb
        have hil : p.length - 1 - m < p.length := by omega
        have hll := lenF F2 hn2 hre2
        -- places[at] == at and at not in found and asks_for(..)
        have hst : stE p (p.length - 1 - m) = p.length - 1 - m ↔ Sta p (p.length - 1 - m) := by
          constructor
          · intro h
            rcases stE_sta hok (i := p.length - 1 - m) (by omega) with z | z
            · omega
            · rw [h] at z
              exact z
          · exact fun h => h.self
        refine s_when (b := decide (stE p (p.length - 1 - m) = p.length - 1 - m) && (!decide (p.length - 1 - m ∈ F2) && asks p F2 c (p.length - 1 - m)))
          (et_and (et_is (et_eq (ev_plc hb5 (by omega) (ev_var rfl) (ev_var rfl)) (ev_var rfl) rfl) ?_) fun _ => et_and (et_ninD (ev_var rfl) (ev_var rfl) hd5) fun _ => et_B (ev_callV (ea_cons (ev_var rfl) (ea_cons (ev_var rfl) (ea_cons (ev_var rfl) (ea_cons (ev_var rfl) (ea_cons (ev_var rfl) ea_nil))))) fun H6 e6 Q q => ⟨a, b, d, p, cc, _, c, F2, rfl, hp5.up e6, hok, hil, ex_t e6 hb5, e6 _ _ hd5, q⟩)) (fun hc H6 e6 => ?_) (fun hc H6 e6 => ?_)
        · by_cases z : stE p (p.length - 1 - m) = p.length - 1 - m
          · rw [z]; simp
          · rw [decide_eq_false z, decide_eq_false (fun y => z (by have := V.int.inj y; omega))]
        · rw [Bool.and_eq_true, Bool.and_eq_true] at hc
          have h1 := hst.mp (of_decide_eq_true hc.1)
          have h2 : p.length - 1 - m ∉ F2 := by simpa using hc.2.1
          have h3 := asks_need (fun x hx => (hre2 x hx).2) hc.2.2
          refine q_putD (e6 _ _ hd5) h2 (by omega) (ev_var rfl) (ev_var rfl) ev_c fun H7 e7 => ?_
          have ex7 : Ex H (upd H7 d (.dK (kD (F2 ++ [p.length - 1 - m])))) := Ex.mut ((e5.trans e6).trans e7) hd0
          refine s_asg ev_c fun H8 e8 => ?_
          refine ⟨F2 ++ [p.length - 1 - m], true, _, ex7.trans e8, e8 _ _ upd_same, ?_, ?_, by simp; omega, fun _ => by simp; omega, fun z => (nomatch z), rfl⟩
          · exact List.nodup_append.mpr ⟨hn2, by simp, fun x hx y hy => by
              rw [List.mem_singleton.mp hy]
              exact fun z => h2 (z ▸ hx)⟩
          · intro x hx
            rcases List.mem_append.mp hx with hx | hx
            · exact hre2 x hx
            · rw [List.mem_singleton.mp hx]
              exact ⟨h1, h3⟩
        · refine ⟨F2, g2, _, e5.trans e6, e6 _ _ hd5, hn2, hre2, hle, hgr, fun z i hi hs hni => ?_, rfl⟩
          by_cases hie : i = p.length - 1 - m
          · subst hie
            rw [decide_eq_true (hst.mpr hs), decide_eq_false hni] at hc
            simpa using hc
          · exact hcl2 z i (by omega) hs hni
      · rintro σ' H5 ⟨F2, g2, x, e5, hd5, hn2, hre2, hle, hgr, hcl2, rfl⟩
        have hll := lenF F2 hn2 hre2
        refine ⟨2 * (p.length - F2.length) + g2.toNat, ?_, F2, g2, _, e5, hd5, hn2, hre2, fun z i hs hni => hcl2 z i (by omega) hs hni, rfl, rfl⟩
        cases g2 with
        | true =>
          have := hgr rfl
          simp
          omega
        | false =>
          simp
          omega
    · subst hg
      refine s_ret (ev_var rfl) fun H4 e4 => ?_
      exact k d Fd H4 hd0 ((e.trans e3).trans e4) (e4 _ _ (e3 _ _ hd)) ⟨hn, fun x => ⟨hre x, fun hx => need_all hok (hcl rfl) hx.1 hx.2⟩⟩
end
end Fm
set_option Elab.async false
set_option linter.all false
set_option maxRecDepth 100000
set_option maxHeartbeats 1000000
namespace Fm
open PySem L2 Evl
/-- whether a cell is needed from where the index leads -/
noncomputable def needB (p : List In) (i c : Nat) : Bool := by
  classical
  exact decide (Need p c (stE p i))
theorem needB_iff {p : List In} {i c : Nat} : needB p i c = true ↔ Need p c (stE p i) := by
  unfold needB
  simp
theorem need_mem {cc : Nat} {p : List In} {c i : Nat} {F : List Nat} (h : Rd_ p c F) (hok : Pok cc p) (hi : i ≤ p.length) : decide (stE p i ∈ F) = needB p i c := by
  rw [Bool.eq_iff_iff, decide_eq_true_iff, needB_iff, h.re]
  constructor
  · exact fun z => z.2
  · intro z
    refine ⟨?_, z⟩
    rcases stE_sta hok hi with e | e
    · rw [e] at z
      cases z with
      | read e _ => rw [List.getElem?_eq_none (Nat.le_refl _)] at e; cases e
      | on e _ _ _ => rw [List.getElem?_eq_none (Nat.le_refl _)] at e; cases e
    · exact e
noncomputable def bV (p : List In) (n i : Nat) : List V := (List.range n).map fun c => V.bl (needB p i c)
def MkT (K : PySem.W.Frag) (H : Hp) (b : Addr) (p : List In) (n : Nat) : Prop := ∃ us : List Addr, SqT K H b (us.map V.ref) ∧ us.length = p.length + 1 ∧ ∀ (i : Nat) u, us[i]? = some u → SqT K H u (bV p n i)
theorem MkT.up {K : PySem.W.Frag} {H H' : Hp} {b : Addr} {p : List In} {n : Nat} (e : Ex H H') (h : MkT K H b p n) : MkT K H' b p n := let ⟨us, h1, h2, h3⟩ := h; ⟨us, ex_t e h1, h2, fun i u hu => ex_t e (h3 i u hu)⟩
def spMarks (K : PySem.W.Frag) : Sp := fun vs H Q _ => ∃ (a : Addr) (p : List In) (cc n : Nat), vs = [.int (n : Nat), .ref a] ∧ PgT K H a p ∧ Pok cc p ∧ p.length ≤ 100 ∧ n ≤ 10 ∧ ∀ b H', Ex H H' → MkT K H' b p n → Q (.ref b) H'
section
variable {P : Program} {w : World} {K : PySem.W.Frag} {mg : Str → Option Value} {base : Heap}
abbrev s_marks_of : Stmt := top 27
theorem sc_marks_of : FnScope ["cells", "program", "places", "found", "cell", "place", "of_cell"] ["cells", "program"] (defScope s_marks_of) := ⟨rfl, rfl, rfl, by decide +kernel, rfl, by decide +kernel, by decide +kernel⟩
--TY marks_of {'program':T,'places':T,'found':('list',DI),'cell':'int','place':'int','of_cell':DI,'cells':'int'}
theorem ok_marks_of {f f1 f2 : Addr} {fd fd1 fd2 : FuncData} (F : Fun K "marks_of" "marks_of" s_marks_of f fd) (T : Txt K mg) (C_places_of : Cal P w K mg base CX0 2 "places_of" f1 fd1 ["program"] (spPlaces K)) (C_readers : Cal P w K mg base CX0 4 "readers" f2 fd2 ["program", "places", "cell"] (spReaders K)) : FnOk P w K mg base CX0 5 f fd ["cells", "program"] (spMarks K) := by
  refine F.ok sc_marks_of (fun vs H Q E h => ?_) (fun cdv A outer s H vs Q E hr h => ?_)
  · obtain ⟨_, _, _, _, rfl, _⟩ := h
    rfl
  · obtain ⟨a, p, cc, n, rfl, hp, hok, hl, hn, k⟩ := h
    refine ⟨_, (pss_cons (ps_set (i := 2) sc_marks_of.nd rfl (Or.inr rfl) (pe_call C_places_of.G (hr.mono (by first | decide | omega)) rfl C_places_of.g C_places_of.kp C_places_of.b .nil pass0 (pa_cons (pv 1) pa_nil)))
  (pss_cons (ps_set (i := 3) sc_marks_of.nd rfl (Or.inr rfl) (pe_lc (own := [("cell", 4)]) (g := gName 4) rfl sc_marks_of.nd (pi_range1 rfl T.z_range (pa_cons (pv 0) pa_nil)) (blkOk_by (by kernel_rfl)) (fun _ _ _ _ _ => pg_name (i := 4) sc_marks_of.nd rfl (by first | exact Or.inl rfl | exact Or.inr rfl)) (fun _ _ _ _ _ => pts_nil) (fun _ _ _ _ _ => (pe_call C_readers.G (hr.mono (by first | decide | omega)) rfl C_readers.g C_readers.kp C_readers.b .nil pass0 (pa_cons (pv 1) (pa_cons (pv 2) (pa_cons (pv 4) pa_nil)))))))
  (pss_one (ps_ret (pe_callTy (tpl_K (K := K) rfl) (by rfl) T.z_tuple (by decide +kernel) (pa_cons (pe_lc (own := [("place", 5)]) (g := gName 5) rfl sc_marks_of.nd (pi_tupK (K := K) rfl (pv 2)) (blkOk_by (by kernel_rfl)) (fun _ _ _ _ _ => pg_name (i := 5) sc_marks_of.nd rfl (by first | exact Or.inl rfl | exact Or.inr rfl)) (fun _ _ _ _ _ => pts_nil) (fun _ _ _ _ _ => (pe_callTy (tpl_K (K := K) rfl) (by rfl) T.z_tuple (by decide +kernel) (pa_cons (pe_lc (own := [("of_cell", 6)]) (g := gName 6) rfl sc_marks_of.nd (pi_listK (K := K) rfl (pv 3)) (blkOk_by (by kernel_rfl)) (fun _ _ _ _ _ => pg_name (i := 6) sc_marks_of.nd rfl (by first | exact Or.inl rfl | exact Or.inr rfl)) (fun _ _ _ _ _ => pts_nil) (fun _ _ _ _ _ => (pe_cmp (pc_din (hu_of hr) (pv 5) (pv 6)) rfl))) pa_nil)))) pa_nil)))))), ?_⟩
    refine q_callA (ea_cons (ev_var rfl) ea_nil) fun H1 e1 => ⟨a, p, cc, rfl, hp.up e1, hok, by omega, fun b H2 hb1 e2 hb2 => ?_⟩
    have e02 := e1.trans e2
    have hb : ∀ H', Ex H2 H' → SqT K H' b (nV (plc p)) := fun H' e => ex_t e (st_of hb2)
    -- found = [readers(..) for cell in range(cells)]
    refine ⟨_, rfl, (n : Int), rfl, by omega, by omega, fun D hD => lc_range (lo := 0) (n := n) (fun m H' => ∃ ds : List Addr, H2 D = none ∧ Ex H2 H' ∧ H' D = some (.lst (ds.map V.ref)) ∧ ds.length = m ∧ (∀ d ∈ ds, d ≠ D) ∧ ∀ (j : Nat) d, ds[j]? = some d → ∃ Fd, H' d = some (.dK (kD Fd)) ∧ Rd_ p j Fd)
      ⟨[], hD, Ex.new hD, upd_same, rfl, by simp, by simp⟩ ?_ ?_⟩
    · rintro m H' hm ⟨ds, hD2, e, hl', hlen, hdD, hds⟩
      refine ⟨rfl, ?_⟩
      have e0 : (0 : Int) + (m : Nat) = ((m : Nat) : Int) := Int.zero_add _
      rw [e0]
      refine yes_lc ?_
      rw [if_pos rfl]
      refine ⟨_, rfl, _, rfl, _, rfl, ?_⟩
      refine ⟨a, b, p, cc, m, rfl, hp.up (e02.trans e), hok, hl, hb _ e, fun d Fd H3 hd0 e3 hd3 hr3 => ?_⟩
      refine ⟨ds.map V.ref, e3 _ _ hl', sz_lt (by rw [List.length_map]; omega), ds ++ [d], hD2, Ex.mut (e.trans e3) hD2, ?_, by simp [hlen], ?_, ?_⟩
      · rw [upd_same]
        simp
      · intro x hx
        rcases List.mem_append.mp hx with hx | hx
        · exact hdD x hx
        · rw [List.mem_singleton.mp hx]
          exact fun z => by rw [z, hl'] at hd0; cases hd0
      · intro j x hx
        have hxD : x ≠ D := by
          have := List.mem_of_getElem? hx
          rcases List.mem_append.mp this with hy | hy
          · exact hdD x hy
          · rw [List.mem_singleton.mp hy]
            exact fun z => by rw [z, hl'] at hd0; cases hd0
        rw [upd_ne hxD]
        by_cases hj : j < ds.length
        · rw [List.getElem?_append_left hj] at hx
          obtain ⟨F1, h1, h2⟩ := hds j x hx
          exact ⟨F1, e3 _ _ h1, h2⟩
        · have hjm : j = m := by
            have := (List.getElem?_eq_some_iff.mp hx).1
            rw [List.length_append, List.length_singleton] at this
            omega
          subst hjm
          rw [List.getElem?_append_right (by omega), hlen, Nat.sub_self] at hx
          cases hx
          exact ⟨Fd, hd3, hr3⟩
    · rintro H3 ⟨ds, hD2, e3, hl3, hlen, hdD, hds⟩
      have hb3 := hb _ e3
      -- the tuples
      refine ⟨_, rfl, b, rfl, ⟨_, hb3⟩, fun D2 hD3 => lc_tup (xs := nV (plc p)) (fun m H' => ∃ us : List Addr, H3 D2 = none ∧ Ex H3 H' ∧ H' D2 = some (.lst (us.map V.ref)) ∧ us.length = m ∧ (∀ u ∈ us, u ≠ D2) ∧ ∀ (i : Nat) u, us[i]? = some u → H' u = some (.tup (bV p n i)))
        ⟨[], hD3, Ex.new hD3, upd_same, rfl, by simp, by simp⟩ (fun m H' _ ⟨_, _, e, _⟩ => ex_t e hb3) ?_ ?_⟩
      · rintro m x H' hm ⟨us, hD4, e4, hl4, hlen4, huD, hus⟩
        obtain ⟨y, hy, rfl⟩ := nV_get hm
        have hmp : m < p.length + 1 := by
          have := (List.getElem?_eq_some_iff.mp hy).1
          unfold plc at this
          simpa using this
        have hy2 : y = stE p m := by
          rw [plc_at (by omega)] at hy
          exact (Option.some.inj hy).symm
        subst hy2
        refine ⟨rfl, ?_⟩
        refine yes_lc ?_
        rw [if_pos rfl]
        have hdl : ∀ (j : Nat) d, ds[j]? = some d → ∃ Fd, H' d = some (.dK (kD Fd)) ∧ Rd_ p j Fd := fun j d hj => let ⟨Fd, h1, h2⟩ := hds j d hj; ⟨Fd, e4 _ _ h1, h2⟩
        have key : EvU (tCB (rTpl K) (tCons (tLc (iList K (tVar 3)) (gName 6) tYes (tDIn (tVar 5) (tVar 6)) (List.map (fun x => x.snd) [(("of_cell" : Str), 6)])) tNil)) ((wipe [some (.int (n : Nat)), some (.ref a), some (.ref b), some (.ref D), none, none, none] [5]).set 5 (some (.int (stE p m : Nat)))) H' (bV p n m) := by
          refine eu_tplN ?_
          have := el_lcL (K := K) (σ := (wipe [some (.int (n : Nat)), some (.ref a), some (.ref b), some (.ref D), none, none, none] [5]).set 5 (some (.int (stE p m : Nat)))) (H := H') (j := 6) (vs := List.map (fun x => x.snd) [(("of_cell" : Str), 6)]) (t := tYes) (te := tDIn (tVar 5) (tVar 6)) (xs := ds.map V.ref) (tl := tVar 3) (a := D) (fun _ => true) (fun j => .bl (needB p m j)) (ev_var rfl) (sq_of (e4 _ _ hl3)) (by rw [List.length_map]; omega) (fun x => rfl) (fun i x H5 e5 _ => et_yes) (fun j x H5 e5 hx _ => by
            rw [List.getElem?_map] at hx
            cases hj : ds[j]? with
            | none => rw [hj] at hx; cases hx
            | some d =>
              rw [hj] at hx
              cases hx
              obtain ⟨Fd, h1, h2⟩ := hdl j d hj
              rw [← need_mem h2 hok (by omega)]
              exact ev_inD (F := Fd) (ev_var rfl) (ev_var rfl) (fun z => z) fun H6 e6 => ⟨⟨.none, none, .fields #[], #[]⟩, .inl ((e5.trans e6) _ _ h1)⟩)
          have e0 : given (ds.map V.ref).length (fun _ => true) (fun j => V.bl (needB p m j)) = bV p n m := by
            unfold given bV
            rw [List.length_map, hlen, List.filter_eq_self.mpr (fun _ _ => rfl)]
          rw [e0] at this
          exact this
        refine key H' (Ex.refl _) _ fun u H5 hu0 e5 hu5 => ?_
        refine ⟨us.map V.ref, e5 _ _ hl4, sz_lt (by rw [List.length_map]; omega), us ++ [u], hD4, Ex.mut (e4.trans e5) hD4, ?_, by simp [hlen4], ?_, ?_⟩
        · rw [upd_same]
          simp
        · intro x hx
          rcases List.mem_append.mp hx with hx | hx
          · exact huD x hx
          · rw [List.mem_singleton.mp hx]
            exact fun z => by rw [z, hl4] at hu0; cases hu0
        · intro i x hx
          have hxD : x ≠ D2 := by
            have := List.mem_of_getElem? hx
            rcases List.mem_append.mp this with hy | hy
            · exact huD x hy
            · rw [List.mem_singleton.mp hy]
              exact fun z => by rw [z, hl4] at hu0; cases hu0
          rw [upd_ne hxD]
          by_cases hj : i < us.length
          · rw [List.getElem?_append_left hj] at hx
            exact e5 _ _ (hus i x hx)
          · have hjm : i = m := by
              have := (List.getElem?_eq_some_iff.mp hx).1
              rw [List.length_append, List.length_singleton] at this
              omega
            subst hjm
            rw [List.getElem?_append_right (by omega), hlen4, Nat.sub_self] at hx
            cases hx
            exact hu5
      · rintro H4 ⟨us, hD4, e4, hl4, hlen4, huD, hus⟩
        refine ⟨D2, _, rfl, .inl ⟨sq_of hl4, fun r hr0 => ?_⟩⟩
        have er := Ex.new (o := .tup (us.map V.ref)) hr0
        refine k r _ (((e02.trans e3).trans e4).trans er) ⟨us, st_of upd_same, ?_, fun i u hu => st_of (er _ _ (hus i u hu))⟩
        rw [hlen4, nV_len]
        simp [plc]
end
end Fm
set_option Elab.async false
set_option linter.all false
set_option maxRecDepth 100000
set_option maxHeartbeats 1000000
namespace Fm
open PySem L2 Evl
def spNeeded (K : PySem.W.Frag) : Sp := fun vs H Q _ => ∃ (a : Addr) (p : List In) (n i : Nat), vs = [.int (n : Nat), .ref a, .int (i : Nat)] ∧ PgT K H a p ∧ Pok n p ∧ NoT p ∧ p.length ≤ 20 ∧ 1 ≤ n ∧ n ≤ 4 ∧ i ≤ p.length ∧
  ∀ b H', H b = none → Ex H H' → H' b = some (.tup (nV ((List.range n).filter (needB p i)))) → Q (.ref b) H'
section
variable {P : Program} {w : World} {K : PySem.W.Frag} {mg : Str → Option Value} {base : Heap}
abbrev s_needed : Stmt := top 28
theorem sc_needed : FnScope ["cells", "program", "index", "marks", "cell"] ["cells", "program", "index"] (defScope s_needed) := ⟨rfl, rfl, rfl, by decide +kernel, rfl, by decide +kernel, by decide +kernel⟩
--TY needed {'program':T,'cells':'int','index':'int','marks':('tuple','bool'),'cell':'int'}
theorem ok_needed {f f1 f2 f3 f4 : Addr} {fd fd1 fd2 fd3 fd4 : FuncData} (F : Fun K "needed" "needed" s_needed f fd) (T : Txt K mg) (C_check_cells : Cal P w K mg base CX0 4 "check_cells" f1 fd1 ["value"] spChkCells) (C_check_program : Cal P w K mg base CX0 4 "check_program" f2 fd2 ["cells", "value"] (spChkPg K))
    (C_check_number : Cal P w K mg base CX0 3 "check_number" f3 fd3 ["value", "low", "high"] spChkNum) (C_marks_of : Cal P w K mg base CX0 5 "marks_of" f4 fd4 ["cells", "program"] (spMarks K)) : FnOk P w K mg base CX0 6 f fd ["cells", "program", "index"] (spNeeded K) := by
  refine F.ok sc_needed (fun vs H Q E h => ?_) (fun cdv A outer s H vs Q E hr h => ?_)
  · obtain ⟨_, _, _, _, rfl, _⟩ := h
    rfl
  · obtain ⟨a, p, n, i, rfl, hp, hok, hT, hl, hn1, hn2, hi, k⟩ := h
    refine ⟨_, (pss_cons (ps_expr (pe_call C_check_cells.G (hr.mono (by first | decide | omega)) rfl C_check_cells.g C_check_cells.kp C_check_cells.b .nil pass0 (pa_cons (pv 0) pa_nil)))
  (pss_cons (ps_expr (pe_call C_check_program.G (hr.mono (by first | decide | omega)) rfl C_check_program.g C_check_program.kp C_check_program.b .nil pass0 (pa_cons (pv 0) (pa_cons (pv 1) pa_nil))))
  (pss_cons (ps_expr (pe_call C_check_number.G (hr.mono (by first | decide | omega)) rfl C_check_number.g C_check_number.kp C_check_number.b .nil pass0 (pa_cons (pv 2) (pa_cons pe_int (pa_cons (pe_callB (len_K (K := K) rfl) (by rfl) T.z_len (by decide +kernel) (pa_cons (pv 1) pa_nil)) pa_nil)))))
  (pss_cons (ps_set (i := 3) sc_needed.nd rfl (Or.inr rfl) (pe_ix (ix_K (K := K) rfl) (pe_call C_marks_of.G (hr.mono (by first | decide | omega)) rfl C_marks_of.g C_marks_of.kp C_marks_of.b .nil pass0 (pa_cons (pv 0) (pa_cons (pv 1) pa_nil))) (pv 2) (fun _ _ => rfl)))
  (pss_one (ps_ret (pe_callTy (tpl_K (K := K) rfl) (by rfl) T.z_tuple (by decide +kernel) (pa_cons (pe_lc (own := [("cell", 4)]) (g := gName 4) rfl sc_needed.nd (pi_range1 rfl T.z_range (pa_cons (pv 0) pa_nil)) (blkOk_by (by kernel_rfl)) (fun _ _ _ _ _ => pg_name (i := 4) sc_needed.nd rfl (by first | exact Or.inl rfl | exact Or.inr rfl)) (fun _ _ _ _ _ => (pts_one (pt_val (pe_ix (ix_K (K := K) rfl) (pv 3) (pv 4) (fun _ _ => rfl))))) (fun _ _ _ _ _ => (pv 4))) pa_nil)))))))), ?_⟩
    refine q_call (ea_cons (ev_var rfl) ea_nil) fun H1 e1 => ⟨n, rfl, hn1, hn2, fun H2 e2 => ?_⟩
    have e02 := e1.trans e2
    refine q_call (ea_cons (ev_var rfl) (ea_cons (ev_var rfl) ea_nil)) fun H3 e3 => ⟨n, a, p, rfl, hp.up (e02.trans e3), hok, hT, hl, fun H4 e4 => ?_⟩
    have e04 := (e02.trans e3).trans e4
    refine q_call (ea_cons (ev_var rfl) (ea_cons ev_c (ea_cons (ev_lnP (hp.up e04) (ev_var rfl)) ea_nil))) fun H5 e5 => ⟨(i : Int), 0, (p.length : Int), rfl, by omega, by omega, fun H6 e6 => ?_⟩
    have e06 := (e04.trans e5).trans e6
    refine ⟨_, rfl, _, rfl, ?_⟩
    refine ⟨a, p, n, n, rfl, hp.up e06, hok, by omega, by omega, fun b H7 e7 hM => ?_⟩
    obtain ⟨us, hus, hul, hum⟩ := hM
    have hil : i < us.length := by omega
    obtain ⟨u, hu⟩ : ∃ u, us[i]? = some u := ⟨_, List.getElem?_eq_getElem hil⟩
    refine ⟨_, rfl, .inr (.inl ⟨b, _, (i : Int), .ref u, rfl, rfl, hus, atI_nat' (by rw [List.getElem?_map, hu]; rfl), ?_⟩)⟩
    have e07 := e06.trans e7
    have hmu := hum i u hu
    show tRet (tCB (rTpl K) (tCons (tLc (iRng1 (tCons (tVar 0) tNil)) (gName 4) (tB (tOp (rIx K) (tVar 3) (tVar 4))) (tVar 4) _) tNil)) { nx := fun _ H' => Q .non H', rt := Q } [some (.int (n : Nat)), some (.ref a), some (.int (i : Nat)), some (.ref u), none] H7
    refine s_retU (xs := nV ((List.range n).filter (needB p i))) (eu_tplN ?_) fun r H8 hr8 e8 h8 => k r H8 (fresh_back e07 hr8) (e07.trans e8) h8
    have := el_lcR1 (σ := [some (.int (n : Nat)), some (.ref a), some (.int (i : Nat)), some (.ref u), none]) (H := H7) (ta := tCons (tVar 0) tNil) (j := 4) (vs := List.map (fun x => x.snd) [(("cell" : Str), 4)]) (n := (n : Int)) (t := tB (tOp (rIx K) (tVar 3) (tVar 4))) (te := tVar 4) (fun c => needB p i c) (fun c => .int (c : Nat)) (ea_cons (ev_var rfl) ea_nil) ⟨by omega, by omega⟩ (fun x => rfl)
      (fun c H8 e8 hc => et_B (ev_ixT (ev_var rfl) (ev_var rfl) (ex_t e8 hmu) (atI_nat' (by
        unfold bV
        rw [List.getElem?_map, List.getElem?_range (by omega)]
        rfl)))) (fun c H8 e8 hc _ => ev_var rfl)
    exact this
end
end Fm
set_option Elab.async false
set_option linter.all false
set_option maxRecDepth 100000
set_option maxHeartbeats 1000000
namespace Fm
open PySem L2 Evl
/-- some course from i never ends -/
def GoOn (p : List In) (i : Nat) : Prop := ∃ S : Nat → Prop, S i ∧ ∀ x, S x → Sta p x ∧ ∃ y, y ∈ brs p x ∧ S y
noncomputable def goB (p : List In) : Bool := by
  classical
  exact decide (GoOn p (stE p 0))
theorem goB_iff {p : List In} : goB p = true ↔ GoOn p (stE p 0) := by
  unfold goB
  simp
theorem kD_drop (F : List Nat) (x : Nat) : dropK (kD F) (Sum.inl (x : Int)) = kD (F.filter fun y => decide (y ≠ x)) := by
  unfold dropK kD
  rw [List.filter_map]
  congr 1
  refine List.filter_congr fun y _ => ?_
  show decide ((Sum.inl (y : Int) : Key) ≠ Sum.inl (x : Int)) = decide (y ≠ x)
  by_cases h : y = x
  · subst h; simp
  · rw [decide_eq_true h, decide_eq_true]
    exact fun z => h (by have := Sum.inl.inj z; omega)
def EvDN (te : TE) (σ : L2.St) (H : Hp) (F : List Nat) : Prop := ∀ H1, Ex H H1 → ∀ Q : VK, (∀ p H2, H1 p = none → Ex H1 H2 → H2 p = some (.dK (kD F)) → Q (.ref p) H2) → te σ H1 Q
section
variable {K : PySem.W.Frag} {σ : L2.St} {H : Hp} {ta tb te tk tv : TE} {D : Ends} {tz tu : TS} {tt : TT}
theorem ed_dcR {tl : TA} {j n : Nat} {vs : List Nat} (f : Nat → Bool) (h : EvA tl σ H [.int (n : Nat)]) (hn : n ≤ 40000) (hw : ∀ x, wipe ((wipe σ vs).set j (some x)) vs = wipe σ vs)
    (ht : ∀ (i : Nat) H1, Ex H H1 → i < n → EvT tt ((wipe σ vs).set j (some (.int (i : Nat)))) H1 (f i)) (hk : ∀ (i : Nat) H1, Ex H H1 → i < n → Ev tk ((wipe σ vs).set j (some (.int (i : Nat)))) H1 (.int (i : Nat))) (hv : ∀ (i : Nat) H1, Ev tv ((wipe σ vs).set j (some (.int (i : Nat)))) H1 (.bl true)) :
    EvDN (tDc (iRng1 tl) (gName j) tt tk tv vs) σ H ((List.range n).filter f) := fun H0 e Q q => h H0 e _ fun H1 e1 => by
  refine ⟨(n : Int), rfl, by omega, by omega, fun Dl hD => ?_⟩
  have e0 : (n : Int).toNat = n := by omega
  rw [e0]
  refine ⟨fun i m H' => m = n - i ∧ i ≤ n ∧ H1 Dl = none ∧ Ex H1 H' ∧ H' Dl = some (.dK (kD ((List.range i).filter f))), ⟨n, by simp, Nat.zero_le _, hD, Ex.new hD, upd_same⟩, ?_⟩
  rintro i m H' ⟨rfl, hi, p1, p2, p3⟩
  by_cases hlt : i < n
  · refine .inr ⟨hlt, fun H' => H1 Dl = none ∧ Ex H1 H' ∧ H' Dl = some (.dK (kD ((List.range (i + 1)).filter f))), fun H'' p' => ⟨n - (i + 1), by omega, rfl, hlt, p'⟩, fun x H'' y => ?_⟩
    obtain ⟨hH, hx⟩ := y
    subst hH hx
    have e1' : (0 : Int) + ((i : Nat) : Int) = ((i : Nat) : Int) := Int.zero_add _
    rw [e1']
    refine ⟨hw _, ht i H1 (e.trans e1) hlt _ p2 _ fun H3 e3 => ?_⟩
    have fl : (List.range i).filter f = (List.range i).filter f := rfl
    cases hf : f i with
    | true =>
      rw [if_pos rfl]
      refine hk i H1 (e.trans e1) hlt _ (p2.trans e3) _ fun H4 e4 => hv i H4 _ (Ex.refl _) _ fun H5 e5 => ?_
      refine ⟨_, Sum.inl (i : Int), rfl, e5 _ _ (e4 _ _ (e3 _ _ p3)), sz_lt ?_, p1, Ex.mut (((p2.trans e3).trans e4).trans e5) p1, ?_⟩
      · unfold kD
        rw [List.length_map]
        have := List.length_filter_le f (List.range i)
        rw [List.length_range] at this
        omega
      · rw [upd_same, kD_put (fun z => by have := List.mem_range.mp (List.mem_filter.mp z).1; omega), List.range_succ, List.filter_append, List.filter_cons, if_pos hf]
        rfl
    | false =>
      rw [if_neg (fun z => nomatch z)]
      refine ⟨p1, p2.trans e3, ?_⟩
      rw [e3 _ _ p3, List.range_succ, List.filter_append, List.filter_cons, if_neg (by rw [hf]; exact fun z => nomatch z)]
      simp
  · have e : i = n := by omega
    subst e
    exact .inl ⟨Nat.le_refl _, q Dl H' (fresh_back e1 p1) (e1.trans p2) p3⟩
theorem q_asgDN {i : Nat} {F : List Nat} (h : EvDN te σ H F) (k : ∀ p H1, H p = none → Ex H H1 → H1 p = some (.dK (kD F)) → tz D (σ.set i (some (.ref p))) H1) : tSeq (tAsg te (gName i)) tz D σ H := h H (Ex.refl H) _ k
/-- [y for y in d if ..], kept -/
theorem q_lcKeys {d : Addr} {F : List Nat} {tl : TE} {i j : Nat} {vs : List Nat} (f : Nat → Bool) (hd : H d = some (.dK (kD F))) (hl : ∀ H', Ev tl σ H' (.ref d)) (hz : F.length ≤ 40000) (hw : ∀ x, wipe ((wipe σ vs).set j (some x)) vs = wipe σ vs)
    (ht : ∀ (y : Nat) od H1, y ∈ F → Ex (upd H d (.frz od (.dK (kD F)))) H1 → EvT tt ((wipe σ vs).set j (some (.int (y : Nat)))) H1 (f y)) (he : ∀ (y : Nat) H1, Ev te ((wipe σ vs).set j (some (.int (y : Nat)))) H1 (.int (y : Nat)))
    (k : ∀ l H1, H l = none → Ex H H1 → H1 l = some (.lst (nV (F.filter f))) → tz D (σ.set i (some (.ref l))) H1) : tSeq (tLock (tAsg (tLc (iKeys tl) (gName j) tt te vs) (gName i))) tz D σ H := by
  refine ⟨d, _, hd, trivial, fun od => ?_⟩
  refine hl _ _ (Ex.refl _) _ fun H2 e2 => ⟨d, od, rfl, .inl ⟨kD F, e2 _ _ upd_same, fun Dl hD => ?_⟩⟩
  have hlen : (kD F).length = F.length := by unfold kD; rw [List.length_map]
  refine lc_it walk_keys (fun i H' => H2 Dl = none ∧ Ex H2 H' ∧ H' Dl = some (.lst (nV ((F.take i).filter f)))) ⟨hD, Ex.new hD, upd_same⟩ (fun i H' _ p => p.2.1 _ _ (e2 _ _ upd_same)) ?_ ?_
  · rintro i x H' H'' hi ⟨p1, p2, p3⟩ ⟨rfl, kk, v, hkv, rfl⟩
    obtain ⟨y, hy, hky⟩ : ∃ y, F[i]? = some y ∧ kk = Sum.inl (y : Int) := by
      unfold kD at hkv
      rw [List.getElem?_map] at hkv
      cases hF : F[i]? with
      | none => rw [hF] at hkv; cases hkv
      | some y => rw [hF] at hkv; cases hkv; exact ⟨y, rfl, rfl⟩
    subst hky
    have tk : F.take (i + 1) = F.take i ++ [y] := by
      rw [List.take_succ, hy]
      rfl
    refine ⟨hw _, ht y od H2 (List.mem_of_getElem? hy) e2 _ p2 _ fun H3 e3 => ?_⟩
    cases hf : f y with
    | true =>
      rw [if_pos rfl]
      refine he y H3 _ (Ex.refl _) _ fun H4 e4 => ⟨_, e4 _ _ (e3 _ _ p3), sz_lt ?_, p1, Ex.mut ((p2.trans e3).trans e4) p1, ?_⟩
      · rw [nV_len]
        have := List.length_filter_le f (F.take i)
        rw [List.length_take] at this
        omega
      · rw [upd_same, tk, List.filter_append, List.filter_cons, if_pos hf]
        simp [nV]
    | false =>
      rw [if_neg (fun z => nomatch z)]
      refine ⟨p1, p2.trans e3, ?_⟩
      rw [e3 _ _ p3, tk, List.filter_append, List.filter_cons, if_neg (by rw [hf]; exact fun z => nomatch z)]
      simp [nV]
  · rintro H' ⟨p1, p2, p3⟩
    have hfz : H' d = some (.frz od (.dK (kD F))) := p2 _ _ (e2 _ _ upd_same)
    refine ⟨hfz, ?_⟩
    have hne : Dl ≠ d := fun z => by
      rw [z] at p1
      rw [e2 _ _ upd_same] at p1
      cases p1
    have hH : H Dl = none := by
      have := fresh_back e2 p1
      rwa [upd_ne hne] at this
    refine k Dl _ hH (fun b o hb => ?_) ?_
    · by_cases z : b = d
      · rw [z] at hb ⊢
        rw [upd_same, ← hd, hb]
      · rw [upd_ne z]
        exact p2 _ _ (e2 _ _ (by rw [upd_ne z]; exact hb))
    · rw [upd_ne hne, p3, hlen, List.take_length]
theorem s_delD {d : Addr} {F : List Nat} {x : Nat} {td ty : TE} (h : H d = some (.dK (kD F))) (hx : x ∈ F) (hd : Ev td σ H (.ref d)) (hy : Ev ty σ H (.int (x : Nat))) (k : ∀ H1, Ex H H1 → D.nx σ (upd H1 d (.dK (kD (F.filter fun y => decide (y ≠ x)))))) : sDDel td ty D σ H :=
  hd H (Ex.refl _) _ fun H1 e1 => hy H1 e1 _ fun H2 e2 => by
    refine ⟨d, _, Sum.inl (x : Int), rfl, (e1.trans e2) _ _ h, rfl, ?_, ?_⟩
    · rw [kD_val, if_pos hx]
      rfl
    · rw [kD_drop]
      exact k H2 (e1.trans e2)
end
def spMayGo (K : PySem.W.Frag) : Sp := fun vs H Q _ => ∃ (a : Addr) (p : List In) (c : Nat), vs = [.int (c : Nat), .ref a] ∧ PgT K H a p ∧ Pok c p ∧ NoT p ∧ p.length ≤ 20 ∧ 1 ≤ c ∧ c ≤ 4 ∧ ∀ H', Ex H H' → Q (.bl (goB p)) H'
/-- what is to be struck -/
def deadB (p : List In) (F : List Nat) (y : Nat) : Bool := !((brs p y).map fun j => decide (j ∈ F)).any id
structure Gw (p : List In) (F : List Nat) : Prop where
  nd : F.Nodup
  st : ∀ x ∈ F, Sta p x
  go : ∀ x, GoOn p x → x ∈ F
theorem Gw.cut {p : List In} {F : List Nat} (h : Gw p F) : Gw p (F.filter fun y => !deadB p F y) := by
  refine ⟨h.nd.filter _, fun x hx => h.st x (List.mem_filter.mp hx).1, fun x hx => List.mem_filter.mpr ⟨h.go x hx, ?_⟩⟩
  obtain ⟨S, hS, hc⟩ := hx
  obtain ⟨_, y, hy, hSy⟩ := hc x hS
  unfold deadB
  rw [Bool.not_not, List.any_map]
  exact List.any_eq_true.mpr ⟨y, hy, decide_eq_true (h.go y ⟨S, hSy, hc⟩)⟩
theorem Gw.done {p : List In} {F : List Nat} (h : Gw p F) (hd : F.filter (deadB p F) = []) (x : Nat) : x ∈ F ↔ GoOn p x := by
  refine ⟨fun hx => ⟨fun y => y ∈ F, hx, fun y hy => ⟨h.st y hy, ?_⟩⟩, h.go x⟩
  have hn : ¬ deadB p F y = true := fun z => by
    have := List.mem_filter.mpr ⟨hy, z⟩
    rw [hd] at this
    cases this
  unfold deadB at hn
  simp only [Bool.not_eq_true', Bool.not_eq_false, List.any_map] at hn
  obtain ⟨j, hj, hjF⟩ := List.any_eq_true.mp hn
  exact ⟨j, hj, of_decide_eq_true hjF⟩
theorem nodup_at : ∀ {l : List Nat} {i j : Nat} {x : Nat}, l.Nodup → l[i]? = some x → l[j]? = some x → i = j
  | [], _, _, _, _, h, _ => by cases h
  | y :: l, 0, 0, _, _, _, _ => rfl
  | y :: l, 0, j + 1, x, n, h, h' => by
    cases h
    exact absurd (List.mem_of_getElem? (l := l) h') (List.nodup_cons.mp n).1
  | y :: l, i + 1, 0, x, n, h, h' => by
    cases h'
    exact absurd (List.mem_of_getElem? (l := l) h) (List.nodup_cons.mp n).1
  | y :: l, i + 1, j + 1, x, n, h, h' => congrArg (· + 1) (nodup_at (List.nodup_cons.mp n).2 h h')
theorem len_parts (f : Nat → Bool) : ∀ l : List Nat, (l.filter fun y => !f y).length + (l.filter f).length = l.length
  | [] => rfl
  | x :: l => by
    have := len_parts f l
    cases h : f x <;> simp [List.filter_cons, h] <;> omega
theorem filter_take {F E : List Nat} {m : Nat} {x : Nat} (h : E[m]? = some x) : (F.filter fun y => decide (y ∉ E.take m)).filter (fun y => decide (y ≠ x)) = F.filter fun y => decide (y ∉ E.take (m + 1)) := by
  rw [List.filter_filter]
  refine List.filter_congr fun y _ => ?_
  rw [List.take_succ, h]
  simp only [Option.toList, List.mem_append, List.mem_singleton, not_or]
  rw [Bool.decide_and, Bool.and_comm]
theorem filter_all {F : List Nat} {f : Nat → Bool} : (F.filter fun y => decide (y ∉ F.filter f)) = F.filter fun y => !f y := by
  refine List.filter_congr fun y hy => ?_
  rw [Bool.eq_iff_iff, decide_eq_true_iff, List.mem_filter]
  simp [hy]
section
variable {P : Program} {w : World} {K : PySem.W.Frag} {mg : Str → Option Value} {base : Heap}
abbrev s_may_go_on : Stmt := top 23
theorem sc_may_go_on : FnScope ["cells", "program", "places", "at", "endless", "shrinking", "ending", "place"] ["cells", "program"] (defScope s_may_go_on) := ⟨rfl, rfl, rfl, by decide +kernel, rfl, by decide +kernel, by decide +kernel⟩
--TY may_go_on {'program':T,'places':T,'endless':DI,'ending':L,'at':'int','place':'int','cells':'int','shrinking':'bool'}
theorem ok_may_go_on {f f1 f2 f3 f4 : Addr} {fd fd1 fd2 fd3 fd4 : FuncData} (F : Fun K "may_go_on" "may_go_on" s_may_go_on f fd) (T : Txt K mg) (C_check_cells : Cal P w K mg base CX0 4 "check_cells" f1 fd1 ["value"] spChkCells) (C_check_program : Cal P w K mg base CX0 4 "check_program" f2 fd2 ["cells", "value"] (spChkPg K))
    (C_places_of : Cal P w K mg base CX0 2 "places_of" f3 fd3 ["program"] (spPlaces K)) (C_branches : Cal P w K mg base CX0 2 "branches" f4 fd4 ["program", "places", "at"] (spBranches K)) : FnOk P w K mg base CX0 5 f fd ["cells", "program"] (spMayGo K) := by
  refine F.ok sc_may_go_on (fun vs H Q E h => ?_) (fun cdv A outer s H vs Q E hr h => ?_)
  · obtain ⟨_, _, _, rfl, _⟩ := h
    rfl
  · obtain ⟨a, p, c, rfl, hp, hok, hT, hl, hc1, hc2, k⟩ := h
    refine ⟨_, (pss_cons (ps_expr (pe_call C_check_cells.G (hr.mono (by first | decide | omega)) rfl C_check_cells.g C_check_cells.kp C_check_cells.b .nil pass0 (pa_cons (pv 0) pa_nil)))
  (pss_cons (ps_expr (pe_call C_check_program.G (hr.mono (by first | decide | omega)) rfl C_check_program.g C_check_program.kp C_check_program.b .nil pass0 (pa_cons (pv 0) (pa_cons (pv 1) pa_nil))))
  (pss_cons (ps_set (i := 2) sc_may_go_on.nd rfl (Or.inr rfl) (pe_call C_places_of.G (hr.mono (by first | decide | omega)) rfl C_places_of.g C_places_of.kp C_places_of.b .nil pass0 (pa_cons (pv 1) pa_nil)))
  (pss_cons (ps_set (i := 4) sc_may_go_on.nd rfl (Or.inr rfl) (pe_dc (own := [("at", 3)]) (g := gName 3) rfl sc_may_go_on.nd (pi_range1 rfl T.z_range (pa_cons (pe_callB (len_K (K := K) rfl) (by rfl) T.z_len (by decide +kernel) (pa_cons (pv 1) pa_nil)) pa_nil)) (blkOk_by (by kernel_rfl)) (fun _ _ _ _ _ => pg_name (i := 3) sc_may_go_on.nd rfl (by first | exact Or.inl rfl | exact Or.inr rfl)) (fun _ _ _ _ _ => (pts_one (pt_cmpR op_eq (pe_ix (ix_K (K := K) rfl) (pv 2) (pv 3) (fun _ _ => rfl)) (pv 3) (nomark _)))) (fun _ _ _ _ _ => (pv 3)) (fun _ _ _ _ _ => pe_bl)))
  (pss_cons (ps_set (i := 5) sc_may_go_on.nd rfl (Or.inl rfl) pe_bl)
  (pss_cons (ps_while PassesOwn.never (pt_val (pv 5)) (pss_cons (ps_lock (ps_setLc (i := 6) (own := [("at", 3)]) (g := gName 3) rfl sc_may_go_on.nd rfl rfl (sw_true rfl rfl rfl (by decide +kernel)) (pi_keys (pv 4)) (blkOk_by (by kernel_rfl)) (fun _ _ _ _ _ => pg_name (i := 3) sc_may_go_on.nd rfl (by first | exact Or.inl rfl | exact Or.inr rfl)) (fun _ _ _ _ _ => (pts_one (pt_not (pt_val (pe_callB (any_K (K := K) rfl rfl) (by rfl) T.z_any (by decide +kernel) (pa_cons (pe_lc (own := [("place", 7)]) (g := gName 7) rfl sc_may_go_on.nd (pi_tupK (K := K) rfl (pe_call C_branches.G (hr.mono (by first | decide | omega)) rfl C_branches.g C_branches.kp C_branches.b .nil pass0 (pa_cons (pv 1) (pa_cons (pv 2) (pa_cons (pv 3) pa_nil))))) (blkOk_by (by kernel_rfl)) (fun _ _ _ _ _ => pg_name (i := 7) sc_may_go_on.nd rfl (by first | exact Or.inl rfl | exact Or.inr rfl)) (fun _ _ _ _ _ => pts_nil) (fun _ _ _ _ _ => (pe_cmp (pc_din (hu_of hr) (pv 7) (pv 4)) rfl))) pa_nil)))))) (fun _ _ _ _ _ => (pv 3))))
  (pss_cons (ps_for PassesOwn.never rfl (pi_listK (K := K) rfl (pv 6)) (pg_name (i := 3) sc_may_go_on.nd rfl (by first | exact Or.inl rfl | exact Or.inr rfl)) (pss_one (ps_ddel (pv 4) (pv 3))))
  (pss_one (ps_set (i := 5) sc_may_go_on.nd rfl (Or.inl rfl) (pe_cmpR op_gt (pe_callB (len_K (K := K) rfl) (by rfl) T.z_len (by decide +kernel) (pa_cons (pv 6) pa_nil)) pe_int (nomark _)))))))
  (pss_one (ps_ret (pe_cmp (pc_din (hu_of hr) (pe_ix (ix_K (K := K) rfl) (pv 2) pe_int (fun _ _ => rfl)) (pv 4)) rfl))))))))), ?_⟩
    refine q_call (ea_cons (ev_var rfl) ea_nil) fun H1 e1 => ⟨c, rfl, hc1, hc2, fun H2 e2 => ?_⟩
    have e02 := e1.trans e2
    refine q_call (ea_cons (ev_var rfl) (ea_cons (ev_var rfl) ea_nil)) fun H3 e3 => ⟨c, a, p, rfl, hp.up (e02.trans e3), hok, hT, hl, fun H4 e4 => ?_⟩
    have e04 := (e02.trans e3).trans e4
    refine q_callA (ea_cons (ev_var rfl) ea_nil) fun H5 e5 => ⟨a, p, c, rfl, hp.up (e04.trans e5), hok, by omega, fun b H6 hb5 e6 hb6 => ?_⟩
    have e06 := (e04.trans e5).trans e6
    have hb : ∀ H', Ex H6 H' → SqT K H' b (nV (plc p)) := fun H' e => ex_t e (st_of hb6)
    have hp6 := hp.up e06
    refine q_asgDN (F := (List.range p.length).filter fun i => decide (stE p i = i)) (ed_dcR (n := p.length) (fun i => decide (stE p i = i)) (ea_cons (ev_lnP hp6 (ev_var rfl)) ea_nil) (by omega) (fun x => rfl)
      (fun i H7 e7 hi => et_is (et_eq (ev_plc (hb _ e7) (by omega) (ev_var rfl) (ev_var rfl)) (ev_var rfl) rfl) (by
        by_cases z : stE p i = i
        · rw [z]; simp
        · rw [decide_eq_false z, decide_eq_false (fun y => z (by have := V.int.inj y; omega))])) (fun i H7 _ _ => ev_var rfl) (fun i H7 => ev_c)) fun d H7 hd6 e7 hd7 => ?_
    refine q_asg ev_c fun H8 e8 => ?_
    have e68 := e7.trans e8
    have start : Gw p ((List.range p.length).filter fun i => decide (stE p i = i)) := by
      have hst : ∀ i, i < p.length → stE p i = i → Sta p i := fun i hi h => by
        rcases stE_sta hok (i := i) (by omega) with z | z
        · omega
        · rwa [h] at z
      refine ⟨List.nodup_range.filter _, fun x hx => ?_, fun x hx => ?_⟩
      · have := List.mem_filter.mp hx
        exact hst x (List.mem_range.mp this.1) (of_decide_eq_true this.2)
      · obtain ⟨S, hS, hc⟩ := hx
        have := (hc x hS).1
        exact List.mem_filter.mpr ⟨List.mem_range.mpr this.lt, decide_eq_true this.self⟩
    refine q_while (fun μ σ' H' => ∃ (F : List Nat) (g : Bool) (x1 x2 : Option V), Ex H6 H' ∧ H' d = some (.dK (kD F)) ∧ F.length ≤ p.length ∧ Gw p F ∧ (g = false → F.filter (deadB p F) = []) ∧ μ = 2 * F.length + g.toNat ∧
        σ' = [some (.int (c : Nat)), some (.ref a), some (.ref b), x1, some (.ref d), some (.bl g), x2, none]) _
      ⟨_, true, _, _, e68, e8 _ _ hd7, ?_, start, (fun z => nomatch z), rfl, rfl⟩ ?_
    · have := List.length_filter_le (fun i => decide (stE p i = i)) (List.range p.length)
      rwa [List.length_range] at this
    rintro μ σ' H' ⟨Fd, g, x1, x2, e, hd, hFl, G, hg0, rfl, rfl⟩
    refine ⟨g, et_B (ev_var rfl), fun hg H9 e9 => ?_, fun hg H9 e9 => ?_⟩
    · subst hg
      refine ⟨_, fun _ _ z => z, ?_⟩
      have e09 := e.trans e9
      refine q_lcKeys (F := Fd) (deadB p Fd) (e9 _ _ hd) (fun H' => ev_var rfl) (by omega) (fun x => rfl) (fun y od HA hy eA => ?_) (fun y HA => ev_var rfl) fun l H10 hl9 e10 hl10 => ?_
      · have e6A : Ex H6 HA := (Ex.mut e09 hd6).trans eA
        have hfz : HA d = some (.frz od (.dK (kD Fd))) := eA _ _ upd_same
        have key := ev_any (K := K) (te := tLc (iTup K (tCall (spBranches K) [] E0 (tCons (tVar 1) (tCons (tVar 2) (tCons (tVar 3) tNil))))) (gName 7) tYes (tDIn (tVar 7) (tVar 4)) (List.map (fun x => x.snd) [(("place" : Str), 7)])) (bs := (brs p y).map fun j => decide (j ∈ Fd))
          (σ := (wipe [some (.int (c : Nat)), some (.ref a), some (.ref b), x1, some (.ref d), some (.bl true), x2, none] [3]).set 3 (some (.int (y : Nat)))) (H := HA) (by
          have := el_lcTc (K := K) (σ := (wipe [some (.int (c : Nat)), some (.ref a), some (.ref b), x1, some (.ref d), some (.bl true), x2, none] [3]).set 3 (some (.int (y : Nat)))) (H := HA) (sp := spBranches K) (E := E0) (tA := tCons (tVar 1) (tCons (tVar 2) (tCons (tVar 3) tNil))) (j := 7) (vs := List.map (fun x => x.snd) [(("place" : Str), 7)]) (tt := tYes) (te := tDIn (tVar 7) (tVar 4)) (zs := brs p y) (fun _ => true) (fun j => .bl (decide (j ∈ Fd)))
            (ea_cons (ev_var rfl) (ea_cons (ev_var rfl) (ea_cons (ev_var rfl) ea_nil))) (fun H3 e3 Q q => ⟨a, b, p, c, y, rfl, hp6.up (e6A.trans e3), hok, (G.st y hy).lt, hb _ (e6A.trans e3), q⟩) (fun x => rfl) (by unfold brs; split <;> simp) (fun y H3 _ _ => et_yes)
            (fun y H3 _ e3 _ => ev_inD (F := Fd) (ev_var rfl) (ev_var rfl) (fun z => z) fun H4 e4 => ⟨od, .inr ((e3.trans e4) _ _ hfz)⟩)
          rw [show (brs p y).filter (fun _ => true) = brs p y from List.filter_eq_self.mpr (fun _ _ => rfl)] at this
          rw [List.map_map]
          exact this)
        exact et_not (et_B key)
      · have hdl : l ≠ d := (ne_of_none (e9 _ _ hd) hl9).symm
        have hl6 : H6 l = none := fresh_back e09 hl9
        have ex10 := e09.trans e10
        have hd10 := e10 _ _ (e9 _ _ hd)
        refine q_forLn (xs := nV (Fd.filter (deadB p Fd))) (ev_var rfl) (sq_of hl10)
          (fun m σ' H' => ∃ x3 : Option V, Ex H6 H' ∧ H' l = some (.lst (nV (Fd.filter (deadB p Fd)))) ∧ H' d = some (.dK (kD (Fd.filter fun y => decide (y ∉ (Fd.filter (deadB p Fd)).take m)))) ∧
            σ' = [some (.int (c : Nat)), some (.ref a), some (.ref b), x3, some (.ref d), some (.bl true), some (.ref l), none])
          (fun H11 e11 => ⟨_, ex10.trans e11, e11 _ _ hl10, by
            have : (Fd.filter fun y => decide (y ∉ (Fd.filter (deadB p Fd)).take 0)) = Fd := List.filter_eq_self.mpr (by simp)
            rw [this]
            exact e11 _ _ hd10, rfl⟩) (fun m σ' H' _ ⟨_, _, h, _⟩ => sq_of h) ?_ ?_
        · rintro m x σ' H11 hm ⟨x3, e11, hl11, hd11, rfl⟩
          obtain ⟨y, hy, rfl⟩ := nV_get hm
          have hyF := List.mem_of_getElem? hy
          refine s_delD (x := y) hd11 ?_ (ev_var rfl) (ev_var rfl) fun H12 e12 => ?_
          · refine List.mem_filter.mpr ⟨(List.mem_filter.mp hyF).1, decide_eq_true fun z => ?_⟩
            obtain ⟨i, hi, hiy⟩ := List.mem_iff_getElem.mp z
            rw [List.length_take] at hi
            rw [List.getElem_take] at hiy
            have hml := (List.getElem?_eq_some_iff.mp hy).1
            have hmy := (List.getElem?_eq_some_iff.mp hy).2
            have := nodup_at (G.nd.filter _) (List.getElem?_eq_some_iff.mpr ⟨by omega, hiy⟩) hy
            omega
          · rw [filter_take hy]
            exact ⟨_, Ex.mut (e11.trans e12) hd6, by rw [upd_ne hdl]; exact e12 _ _ hl11, upd_same, rfl⟩
        · rintro σ' H11 ⟨x3, e11, hl11, hd11, rfl⟩
          rw [nV_len, List.take_length, filter_all] at hd11
          refine s_asg (ev_op (ev_lnL (ev_var rfl) (sq_of hl11)) ev_c rv_I0) fun H12 e12 => ?_
          have hlen : (Fd.filter fun y => !deadB p Fd y).length + (Fd.filter (deadB p Fd)).length = Fd.length := by
            exact len_parts _ _
          refine ⟨2 * (Fd.filter fun y => !deadB p Fd y).length + (decide ((Fd.filter (deadB p Fd)).length > 0)).toNat, ?_, _, decide ((Fd.filter (deadB p Fd)).length > 0), x3, some (.ref l), e11.trans e12, e12 _ _ hd11, by omega, G.cut, fun z => ?_, rfl, ?_⟩
          · by_cases z : (Fd.filter (deadB p Fd)).length > 0
            · rw [decide_eq_true z]
              simp only [Bool.toNat_true]
              omega
            · rw [decide_eq_false z]
              simp only [Bool.toNat_true, Bool.toNat_false]
              omega
          · have z0 : Fd.filter (deadB p Fd) = [] := List.length_eq_zero_iff.mp (by have := of_decide_eq_false z; omega)
            have zF : (Fd.filter fun y => !deadB p Fd y) = Fd := by
              refine List.filter_eq_self.mpr fun y hy => ?_
              cases hb : deadB p Fd y with
              | false => rfl
              | true =>
                have := List.mem_filter.mpr ⟨hy, hb⟩
                rw [z0] at this
                cases this
            rw [zF]
            exact z0
          · have : decide (0 < ((nV (Fd.filter (deadB p Fd))).length : Int)) = decide ((Fd.filter (deadB p Fd)).length > 0) := by
              rw [nV_len]
              by_cases z : (Fd.filter (deadB p Fd)).length > 0
              · rw [decide_eq_true z, decide_eq_true (by omega)]
              · rw [decide_eq_false z, decide_eq_false (by omega)]
            rw [← this]
            rfl
    · subst hg
      have hk := k H9 (e06.trans (e.trans e9))
      refine s_ret (ev_inD (F := Fd) (x := stE p 0) (ev_plc (i := 0) (hb _ (e.trans e9)) (Nat.zero_le _) (ev_var rfl) ev_c) (ev_var rfl) (fun z => z) fun H10 e10 => ⟨⟨.none, none, .fields #[], #[]⟩, .inl (e10 _ _ (e9 _ _ hd))⟩) fun H10 e10 => ?_
      have : decide (stE p 0 ∈ Fd) = goB p := by
        rw [Bool.eq_iff_iff, decide_eq_true_iff, goB_iff]
        exact G.done (hg0 rfl) _
      rw [this]
      exact k H10 ((e06.trans (e.trans e9)).trans e10)
end
end Fm
set_option Elab.async false
set_option linter.all false
set_option maxRecDepth 100000
set_option maxHeartbeats 1000000
namespace Fm
open PySem L2 Evl
theorem toI_inj {p : List In} {a b : Nat} (h : toI p a = toI p b) : a = b := by
  unfold toI at h
  split at h <;> split at h <;> omega
def raw (p : List In) (i : Nat) : List Nat := match p[i]? with
  | some (.zero t) => [stE p t, stE p (i + 1)]
  | _ => [stE p (i + 1)]
def lnx (p : List In) (i : Nat) : List Nat := match p[i]? with
  | some (.zero t) => if stE p t = stE p (i + 1) then [stE p t] else [stE p t, stE p (i + 1)]
  | _ => [stE p (i + 1)]
theorem lnx_mem {p : List In} {i y : Nat} (hi : i < p.length) : y ∈ lnx p i ↔ y ∈ brs p i := by
  unfold lnx brs
  rw [List.getElem?_eq_getElem hi]
  cases p[i] <;> simp
  rename_i t
  by_cases h : stE p t = stE p (i + 1)
  · simp [h]
  · simp [h]
theorem lnx_nodup (p : List In) (i : Nat) : (lnx p i).Nodup := by
  unfold lnx
  split
  · split
    · simp
    · rename_i h; simp [h]
  · simp
def tI (p : List In) (F : List Nat) : List V := F.map fun y => V.int (toI p y)
def spNexts (K : PySem.W.Frag) : Sp := fun vs H Q _ => ∃ (a : Addr) (p : List In) (c i : Nat), vs = [.ref a, .int (i : Nat)] ∧ PgT K H a p ∧ Pok c p ∧ i < p.length ∧ p.length ≤ 100 ∧ ∀ l H', H l = none → Ex H H' → H' l = some (.lst (tI p (lnx p i))) → Q (.ref l) H'
section
variable {P : Program} {w : World} {K : PySem.W.Frag} {mg : Str → Option Value} {base : Heap}
abbrev s_law_nexts : Stmt := top 36
theorem sc_law_nexts : FnScope ["program", "index", "found"] ["program", "index"] (defScope s_law_nexts) := ⟨rfl, rfl, rfl, by decide +kernel, rfl, by decide +kernel, by decide +kernel⟩
--TY _law_nexts {'program':('tuple',('tuple','any')),'found':('list','any'),'index':'int'}
theorem ok_nexts {f f1 : Addr} {fd fd1 : FuncData} (F : Fun K "_law_nexts" "_law_nexts" s_law_nexts f fd) (T : Txt K mg) (C_law_stands : Cal P w K mg base CX0 1 "_law_stands" f1 fd1 ["program", "index"] (spStands K)) : FnOk P w K mg base CX0 2 f fd ["program", "index"] (spNexts K) := by
  refine F.ok sc_law_nexts (fun vs H Q E h => ?_) (fun cdv A outer s H vs Q E hr h => ?_)
  · obtain ⟨_, _, _, _, rfl, _⟩ := h
    rfl
  · obtain ⟨a, p, c, i, rfl, hp, hok, hi, hl, k⟩ := h
    refine ⟨_, (pss_cons (ps_set (i := 2) sc_law_nexts.nd rfl (Or.inl rfl) (pe_lst (pa_cons (pe_call C_law_stands.G (hr.mono (by first | decide | omega)) rfl C_law_stands.g C_law_stands.kp C_law_stands.b .nil pass0 (pa_cons (pv 0) (pa_cons (pe_op op_add (pv 1) pe_int) pa_nil))) pa_nil)))
  (pss_cons (ps_if (pt_cmpR op_eq (pe_ix (ix_K (K := K) rfl) (pe_ix (ix_K (K := K) rfl) (pv 0) (pv 1) (fun _ _ => rfl)) pe_int (fun _ _ => rfl)) pe_str (nomark _)) (pss_one (ps_set (i := 2) sc_law_nexts.nd rfl (Or.inl rfl) (pe_op op_cat (pe_lst (pa_cons (pe_call C_law_stands.G (hr.mono (by first | decide | omega)) rfl C_law_stands.g C_law_stands.kp C_law_stands.b .nil pass0 (pa_cons (pv 0) (pa_cons (pe_ix (ix_K (K := K) rfl) (pe_ix (ix_K (K := K) rfl) (pv 0) (pv 1) (fun _ _ => rfl)) pe_int (fun _ _ => rfl)) pa_nil))) pa_nil)) (pv 2)))) pss_nil)
  (pss_one (ps_ret (pe_ifExp (pt_cmpR op_eq (pe_ix (ix_K (K := K) rfl) (pv 2) pe_int (fun _ _ => rfl)) (pe_ix (ix_K (K := K) rfl) (pv 2) (pe_un un_neg pe_int) (fun _ _ => rfl)) (nomark _)) (pe_slice (sll_K (K := K) rfl) (pv 2) po_none (po_some pe_int)) (pv 2)))))), ?_⟩
    obtain ⟨x, hx⟩ : ∃ x, p[i]? = some x := ⟨_, List.getElem?_eq_getElem hi⟩
    refine q_asgL (xs := [.int (toI p (stE p (i + 1)))]) (el_lst (ea_cons (ev_callV (ea_cons (ev_var rfl) (ea_cons (ev_succ (ev_var rfl)) ea_nil)) fun H1 e1 Q q => ⟨a, p, c, i + 1, rfl, hp.up e1, hok, by omega, by omega, q⟩) ea_nil) (by show 1 ≤ 100000; decide)) fun g H1 hg e1 hg1 => ?_
    have hp1 := hp.up e1
    have same : ∀ {x y : Nat}, decide (V.int (toI p x) = V.int (toI p y)) = decide (x = y) := fun {x y} => by
      by_cases h : x = y
      · rw [h]; simp
      · rw [decide_eq_false h, decide_eq_false fun z => h (toI_inj (V.int.inj z))]
    refine q_when (et_is (et_eq (ev_pg0 hp1 hx (ev_var rfl) (ev_var rfl)) ev_c rfl) (w_zero x)) (fun hz H2 e2 => ?_) (fun hz H2 e2 => ?_)
    · obtain ⟨t, rfl⟩ : ∃ t, x = .zero t := by cases x <;> simp [In.isZero] at hz; exact ⟨_, rfl⟩
      have ht : t ≤ p.length := hok.2 _ (List.mem_of_getElem? hx)
      refine q_asgL (xs := [.int (toI p (stE p t))] ++ [.int (toI p (stE p (i + 1)))]) (el_cat2 (a := g) (el_lst (ea_cons (ev_callV (ea_cons (ev_var rfl) (ea_cons (ev_pg1 (k := (t : Int)) (hp1.up e2) hx rfl (ev_var rfl) (ev_var rfl)) ea_nil)) fun H3 e3 Q q => ⟨a, p, c, t, rfl, (hp1.up e2).up e3, hok, ht, by omega, q⟩) ea_nil) (by show 1 ≤ 100000; decide)) (ev_var rfl) (e2 _ _ hg1) (by show 1 + 1 ≤ 100000; decide)) fun l H3 hl3 e3 hl3' => ?_
      have hq : SqL K H3 l [.int (toI p (stE p t)), .int (toI p (stE p (i + 1)))] := sq_of hl3'
      have e03 := (e1.trans e2).trans e3
      refine (et_eq (ev_ixL (ev_var rfl) ev_c hq rfl) (ev_ixL (ev_var rfl) (ev_neg ev_c) hq rfl) rfl : EvT _ _ H3 _) H3 (Ex.refl _) _ fun H4 e4 => ?_
      rw [same]
      by_cases h : stE p t = stE p (i + 1)
      · rw [decide_eq_true h, if_pos rfl]
        refine (el_sl (a := l) (lo := none) (hi := some 1) (xs := [.int (toI p (stE p t)), .int (toI p (stE p (i + 1)))]) (ev_var rfl) eo_none (eo_some ev_c) (ex_l e4 hq)) H4 (Ex.refl _) _ fun g2 H5 hg2 e5 h5 => ?_
        refine k g2 H5 (fresh_back (e03.trans e4) hg2) ((e03.trans e4).trans e5) ?_
        rw [h5]
        unfold lnx
        rw [hx]
        simp only [h, if_true]
        rfl
      · rw [decide_eq_false h, if_neg (fun z => nomatch z)]
        refine ⟨_, rfl, ?_⟩
        refine k l H4 (fresh_back (e1.trans e2) hl3) (e03.trans e4) ?_
        rw [e4 _ _ hl3']
        unfold lnx
        rw [hx]
        simp only [h, if_false]
        rfl
    · have hlx : lnx p i = [stE p (i + 1)] := by
        unfold lnx
        rw [hx]
        cases x <;> simp [In.isZero] at hz ⊢
      have hq : SqL K H2 g [.int (toI p (stE p (i + 1)))] := sq_of (e2 _ _ hg1)
      refine (et_eq (ev_ixL (ev_var rfl) ev_c hq rfl) (ev_ixL (ev_var rfl) (ev_neg ev_c) hq rfl) rfl : EvT _ _ H2 _) H2 (Ex.refl _) _ fun H4 e4 => ?_
      rw [decide_eq_true rfl, if_pos rfl]
      refine (el_sl (a := g) (lo := none) (hi := some 1) (xs := [.int (toI p (stE p (i + 1)))]) (ev_var rfl) eo_none (eo_some ev_c) (ex_l e4 hq)) H4 (Ex.refl _) _ fun g2 H5 hg2 e5 h5 => ?_
      have e04 := (e1.trans e2).trans e4
      refine k g2 H5 (fresh_back e04 hg2) (e04.trans e5) ?_
      rw [h5, hlx]
      rfl
end
end Fm
set_option Elab.async false
set_option linter.all false
set_option maxRecDepth 100000
set_option maxHeartbeats 1000000
namespace Fm
open PySem L2 Evl
theorem inV_tI {p : List In} {y : Nat} : ∀ {F : List Nat}, inV (.int (toI p y)) (tI p F) = decide (y ∈ F)
  | [] => rfl
  | x :: F => by
    have ih := inV_tI (p := p) (y := y) (F := F)
    show (eqV (.int (toI p x)) (.int (toI p y)) || inV (.int (toI p y)) (tI p F)) = decide (y ∈ x :: F)
    rw [ih]
    have : eqV (.int (toI p x)) (.int (toI p y)) = decide (x = y) := by
      show decide (toI p x = toI p y) = decide (x = y)
      by_cases h : x = y
      · rw [h]; simp
      · rw [decide_eq_false h, decide_eq_false fun z => h (toI_inj z)]
    rw [this, Bool.eq_iff_iff]
    simp only [Bool.or_eq_true, decide_eq_true_eq, List.mem_cons]
    constructor
    · rintro (h | h)
      · exact .inl h.symm
      · exact .inr h
    · rintro (h | h)
      · exact .inl h.symm
      · exact .inr h
theorem tI_flat {p : List In} (F : List Nat) : (tI p F).all flatV = true := by
  rw [List.all_eq_true]
  intro x hx
  obtain ⟨y, _, rfl⟩ := List.mem_map.mp hx
  rfl
theorem tI_len {p : List In} (F : List Nat) : (tI p F).length = F.length := List.length_map _
theorem tI_app {p : List In} (F G : List Nat) : tI p (F ++ G) = tI p F ++ tI p G := List.map_append
section
variable {K : PySem.W.Frag} {σ : L2.St} {H : Hp} {ta tb te : TE} {tr tA : TA} {D : Ends} {tz : TS} {tt : TT} {Q : VK} {x : V} {r : R2}
end
def Full (p : List In) (F : List Nat) : Prop := ∀ x, Reach p x → x ∈ F
structure Ax (p : List In) (F : List Nat) : Prop where
  nd : F.Nodup
  re : ∀ x ∈ F, Reach p x
  st : stE p 0 ∈ F
def news (p : List In) (F : List Nat) (y : Nat) : List Nat := (lnx p y).filter fun z => !decide (z ∈ F)
theorem Ax.add {p : List In} {F : List Nat} {y : Nat} (h : Ax p F) (hy : y ∈ F) (hl : y < p.length) : Ax p (F ++ news p F y) := by
  refine ⟨?_, fun x hx => ?_, List.mem_append_left _ h.st⟩
  · refine List.nodup_append.mpr ⟨h.nd, (lnx_nodup p y).filter _, fun a ha b hb e => ?_⟩
    have := (List.mem_filter.mp hb).2
    rw [← e] at this
    simp [ha] at this
  · rcases List.mem_append.mp hx with hx | hx
    · exact h.re x hx
    · exact .step (h.re y hy) hl ((lnx_mem hl).mp (List.mem_filter.mp hx).1)
theorem news_all {p : List In} {F : List Nat} {y z : Nat} (hl : y < p.length) (hz : z ∈ brs p y) : z ∈ F ++ news p F y := by
  by_cases h : z ∈ F
  · exact List.mem_append_left _ h
  · exact List.mem_append_right _ (List.mem_filter.mpr ⟨(lnx_mem hl).mpr hz, by simp [h]⟩)
theorem Ax.len {c : Nat} {p : List In} {F : List Nat} (h : Ax p F) (hok : Pok c p) : F.length ≤ p.length + 1 := nodup_le _ _ h.nd fun x hx => by
  have := (h.re x hx).le hok
  omega
theorem full_of {p : List In} {F : List Nat} (h : stE p 0 ∈ F) (hc : ∀ x ∈ F, x < p.length → ∀ y ∈ brs p x, y ∈ F) : Full p F := fun x r => by
  induction r with
  | start => exact h
  | step _ hl hj ih => exact hc _ ih hl _ hj
theorem round {p : List In} {F G : List Nat} {t : Nat} (h : Ax p F) (hc : ∀ x ∈ F, x < p.length → ∀ y ∈ brs p x, y ∈ F ++ G) (hi : Full p F ∨ t + 1 ≤ F.length) : Full p (F ++ G) ∨ t + 1 + 1 ≤ (F ++ G).length := by
  rcases hi with hi | hi
  · exact .inl fun x r => List.mem_append_left _ (hi x r)
  · cases G with
    | nil =>
      rw [List.append_nil] at hc ⊢
      exact .inl (full_of h.st hc)
    | cons g G =>
      refine .inr ?_
      rw [List.length_append, List.length_cons]
      omega
def spAll (K : PySem.W.Frag) : Sp := fun vs H Q _ => ∃ (a : Addr) (p : List In) (c : Nat), vs = [.ref a] ∧ PgT K H a p ∧ Pok c p ∧ p.length ≤ 20 ∧
  ∀ l rs H', H l = none → Ex H H' → Asc rs → (∀ x, x ∈ rs ↔ Reach p x ∧ x < p.length) → H' l = some (.lst (nV rs)) → Q (.ref l) H'
theorem toI_ge {p : List In} {y : Nat} (h : y ≤ p.length) : decide (toI p y ≥ 0) = decide (y < p.length) := by
  unfold toI
  by_cases z : y = p.length
  · rw [if_pos z, decide_eq_false (show ¬ y < p.length by omega)]
    rfl
  · rw [if_neg z, decide_eq_true (show y < p.length by omega), decide_eq_true (by omega)]
theorem toI_lt {p : List In} {y : Nat} (h : y < p.length) : toI p y = (y : Int) := by
  unfold toI
  rw [if_neg (by omega)]
section
variable {P : Program} {w : World} {K : PySem.W.Frag} {mg : Str → Option Value} {base : Heap}
abbrev s_law_all : Stmt := top 37
theorem sc_law_all : FnScope ["program", "found", "turn", "index", "other"] ["program"] (defScope s_law_all) := ⟨rfl, rfl, rfl, by decide +kernel, rfl, by decide +kernel, by decide +kernel⟩
--TY _law_all {'program':('tuple',('tuple','any')),'found':('list','any'),'index':'int','other':'int'}
theorem ok_all {f f1 f2 : Addr} {fd fd1 fd2 : FuncData} (F : Fun K "_law_all" "_law_all" s_law_all f fd) (T : Txt K mg) (C_law_stands : Cal P w K mg base CX0 1 "_law_stands" f1 fd1 ["program", "index"] (spStands K)) (C_law_nexts : Cal P w K mg base CX0 2 "_law_nexts" f2 fd2 ["program", "index"] (spNexts K)) : FnOk P w K mg base CX0 3 f fd ["program"] (spAll K) := by
  refine F.ok sc_law_all (fun vs H Q E h => ?_) (fun cdv A outer s H vs Q E hr h => ?_)
  · obtain ⟨_, _, _, rfl, _⟩ := h
    rfl
  · obtain ⟨a, p, c, rfl, hp, hok, hl, k⟩ := h
    refine ⟨_, (pss_cons (ps_set (i := 1) sc_law_all.nd rfl (Or.inr rfl) (pe_lst (pa_cons (pe_call C_law_stands.G (hr.mono (by first | decide | omega)) rfl C_law_stands.g C_law_stands.kp C_law_stands.b .nil pass0 (pa_cons (pv 0) (pa_cons pe_int pa_nil))) pa_nil)))
  (pss_cons (ps_for PassesOwn.never rfl (pi_range1 rfl T.z_range (pa_cons (pe_op op_add (pe_callB (len_K (K := K) rfl) (by rfl) T.z_len (by decide +kernel) (pa_cons (pv 0) pa_nil)) pe_int) pa_nil)) (pg_name (i := 2) sc_law_all.nd rfl (by first | exact Or.inl rfl | exact Or.inr rfl)) (pss_one (ps_for PassesOwn.never rfl (pi_listK (K := K) rfl (pe_callTy (ls_K (K := K) rfl) (by rfl) T.z_list (by decide +kernel) (pa_cons (pv 1) pa_nil))) (pg_name (i := 3) sc_law_all.nd rfl (by first | exact Or.inl rfl | exact Or.inr rfl)) (pss_one (ps_if (pt_cmpR op_ge (pv 3) pe_int (nomark _)) (pss_one (ps_set (i := 1) sc_law_all.nd rfl (Or.inr rfl) (pe_op op_cat (pv 1) (pe_lc (own := [("other", 4)]) (g := gName 4) rfl sc_law_all.nd (pi_listK (K := K) rfl (pe_call C_law_nexts.G (hr.mono (by first | decide | omega)) rfl C_law_nexts.g C_law_nexts.kp C_law_nexts.b .nil pass0 (pa_cons (pv 0) (pa_cons (pv 3) pa_nil)))) (blkOk_by (by kernel_rfl)) (fun _ _ _ _ _ => pg_name (i := 4) sc_law_all.nd rfl (by first | exact Or.inl rfl | exact Or.inr rfl)) (fun _ _ _ _ _ => (pts_one (pt_cmpR (nin_K (K := K) rfl) (pv 4) (pv 1) (by rfl)))) (fun _ _ _ _ _ => (pv 4)))))) pss_nil)))))
  (pss_one (ps_ret (pe_callB (sorted_K (K := K) rfl) (by rfl) T.z_sorted (by decide +kernel) (pa_cons (pe_lc (own := [("index", 3)]) (g := gName 3) rfl sc_law_all.nd (pi_listK (K := K) rfl (pv 1)) (blkOk_by (by kernel_rfl)) (fun _ _ _ _ _ => pg_name (i := 3) sc_law_all.nd rfl (by first | exact Or.inl rfl | exact Or.inr rfl)) (fun _ _ _ _ _ => (pts_one (pt_cmpR op_ge (pv 3) pe_int (nomark _)))) (fun _ _ _ _ _ => (pv 3))) pa_nil)))))), ?_⟩
    refine q_asgL (xs := tI p [stE p 0]) (el_lst (ea_cons (ev_callV (ea_cons (ev_var rfl) (ea_cons ev_c ea_nil)) fun H1 e1 Q q => ⟨a, p, c, 0, rfl, hp.up e1, hok, Nat.zero_le _, by omega, q⟩) ea_nil) (by show 1 ≤ 100000; decide)) fun g H1 hg e1 hg1 => ?_
    refine q_forR1 (n := (p.length : Int) + 1) (ea_cons (ev_i0 (ev_lnP (hp.up e1) (ev_var rfl)) ev_c) ea_nil) ⟨by omega, by omega⟩
      (fun t σ H' => ∃ (F : List Nat) (g : Addr) (z2 z3 : Option V), Ex H H' ∧ H' g = some (.lst (tI p F)) ∧ Ax p F ∧ (Full p F ∨ t + 1 ≤ F.length) ∧ σ = [some (.ref a), some (.ref g), z2, z3, none])
      (fun H2 e2 => ⟨[stE p 0], g, _, _, e1.trans e2, e2 _ _ hg1, ⟨by simp, fun x hx => by rw [List.mem_singleton.mp hx]; exact .start, by simp⟩, .inr (Nat.le_refl _), rfl⟩) ?_ ?_
    · rintro t σ H2 ht ⟨F, g, z2, z3, e2, hg2, A, hF, rfl⟩
      refine s_forNLn (xs := tI p F) (el_ls (ev_var rfl) (sq_of hg2))
        (fun q m σ' H' => ∃ (G : List Nat) (g : Addr) (z3 : Option V), Ex H H' ∧ H' g = some (.lst (tI p (F ++ G))) ∧ H' q = some (.lst (tI p F)) ∧ Ax p (F ++ G) ∧ (∀ x ∈ F.take m, x < p.length → ∀ y ∈ brs p x, y ∈ F ++ G) ∧ σ' = [some (.ref a), some (.ref g), some (.int (t : Int)), z3, none])
        (fun q H3 hq e3 hq3 => ⟨[], g, _, e2.trans e3, by rw [List.append_nil]; exact e3 _ _ hg2, hq3, by rw [List.append_nil]; exact A, by simp, rfl⟩) (fun q m σ' H' _ ⟨_, _, _, _, _, h, _⟩ => sq_of h) ?_ ?_
      · rintro q m x σ' H3 hm ⟨G, g, z3, e3, hg3, hq3, A3, hc3, rfl⟩
        obtain ⟨y, hy, rfl⟩ : ∃ y, F[m]? = some y ∧ x = V.int (toI p y) := by
          unfold tI at hm
          rw [List.getElem?_map] at hm
          cases hy : F[m]? with
          | none => rw [hy] at hm; cases hm
          | some y => rw [hy] at hm; cases hm; exact ⟨y, rfl, rfl⟩
        have hyF := List.mem_of_getElem? hy
        have hyn := (A.re y hyF).le hok
        have tk : F.take (m + 1) = F.take m ++ [y] := by
          rw [List.take_succ, hy]
          rfl
        refine s_when (et_is (et_i0 (ev_var rfl) ev_c) (toI_ge hyn)) (fun hc H4 e4 => ?_) (fun hc H4 e4 => ?_)
        · have hyl := of_decide_eq_true hc
          have hcomp := el_lcCall (K := K) (σ := [some (.ref a), some (.ref g), some (.int (t : Int)), some (.int (toI p y)), none]) (H := H4) (sp := spNexts K) (E := E0) (tA := tCons (tVar 0) (tCons (tVar 3) tNil)) (ws := [.ref a, .int (toI p y)]) (j := 4) (vs := List.map (fun x => x.snd) [(("other" : Str), 4)]) (tt := tTest (tOp (rIn K true) (tVar 4) (tVar 1))) (te := tVar 4) (zs := lnx p y) (fun z => .int (toI p z)) (fun z => !decide (z ∈ F ++ G)) (fun z => .int (toI p z))
            (ea_cons (ev_var rfl) (ea_cons (ev_var rfl) ea_nil)) (fun H5 e5 Q q => ⟨a, p, c, y, by rw [toI_lt hyl]; rfl, hp.up ((e3.trans e4).trans e5), hok, hyl, by omega, q⟩) (fun x => rfl) (by unfold lnx; split <;> (try split) <;> simp)
            (fun z H5 hz e5 => et_is (et_niK (ev_var rfl) (ev_var rfl) (sq_of (e5 _ _ (e4 _ _ hg3))) rfl (tI_flat _)) (by rw [inV_tI])) (fun z H5 hz e5 _ => ev_var rfl)
          refine s_asgL (xs := tI p (F ++ G) ++ tI p (news p (F ++ G) y)) (el_cat1 (a := g) (ev_var rfl) (e4 _ _ hg3) hcomp ?_) fun l H5 hl4 e5 hl5 => ?_
          · have h1 := (A3.add (List.mem_append_left G hyF) hyl).len hok
            rw [List.length_append] at h1
            rw [tI_len]
            show _ + ((news p (F ++ G) y).map _).length ≤ 100000
            rw [List.length_map]
            omega
          · rw [← tI_app, List.append_assoc] at hl5
            refine ⟨G ++ news p (F ++ G) y, l, some (.int (toI p y)), (e3.trans e4).trans e5, hl5, (e4.trans e5) _ _ hq3, by rw [← List.append_assoc]; exact A3.add (List.mem_append_left G hyF) hyl, ?_, rfl⟩
            rw [tk, ← List.append_assoc]
            intro x hx hxl z hz
            rcases List.mem_append.mp hx with h | h
            · exact List.mem_append_left _ (hc3 x h hxl z hz)
            · rw [List.mem_singleton.mp h] at hz
              exact news_all hyl hz
        · have hyl := of_decide_eq_false hc
          refine ⟨G, g, some (.int (toI p y)), e3.trans e4, e4 _ _ hg3, e4 _ _ hq3, A3, ?_, rfl⟩
          rw [tk]
          intro x hx hxl z hz
          rcases List.mem_append.mp hx with h | h
          · exact hc3 x h hxl z hz
          · rw [List.mem_singleton.mp h] at hxl
            exact absurd hxl hyl
      · rintro q σ' H3 ⟨G, g, z3, e3, hg3, hq3, A3, hc3, rfl⟩
        rw [tI_len, List.take_length] at hc3
        exact ⟨F ++ G, g, _, _, e3, hg3, A3, round A hc3 hF, rfl⟩
    · rintro σ H2 ⟨F, g, z2, z3, e2, hg2, A, hF, rfl⟩
      have hfull : Full p F := by
        rcases hF with h | h
        · exact h
        · have := A.len hok
          omega
      have hcomp := el_lcE (K := K) (σ := [some (.ref a), some (.ref g), z2, z3, none]) (H := H2) (a := g) (tl := tVar 1) (j := 3) (vs := List.map (fun x => x.snd) [(("index" : Str), 3)]) (tt := tTest (tOp (rI0 fun i j => .bl (decide (i ≥ j))) (tVar 3) (tC (.int 0)))) (te := tVar 3) (zs := F) (fun z => .int (toI p z)) (fun z => decide (z < p.length)) (fun z => .int (z : Nat))
        (ev_var rfl) (sq_of hg2) (fun x => rfl) (by have := A.len hok; omega) (fun y H3 hy e3 => et_is (et_i0 (ev_var rfl) ev_c) (toI_ge ((A.re y hy).le hok))) (fun y H3 hy e3 hf => by
          rw [← toI_lt (of_decide_eq_true hf)]
          exact ev_var rfl)
      refine (elp_sorted hcomp (A.nd.filter _)) H2 (Ex.refl _) _ fun xs l H3 hR hl2 e3 hl3 => ?_
      obtain ⟨zs, rfl, hA, hP⟩ := hR
      refine k l zs H3 (fresh_back e2 hl2) (e2.trans e3) hA (fun x => ?_) hl3
      rw [hP.mem_iff, List.mem_filter, decide_eq_true_iff]
      exact ⟨fun h => ⟨A.re x h.1, h.2⟩, fun h => ⟨hfull x h.1, h.2⟩⟩
end
end Fm
set_option Elab.async false
set_option linter.all false
set_option maxRecDepth 100000
set_option maxHeartbeats 1000000
namespace Fm
open PySem L2 Evl
theorem room65 {k : Nat} {A : Around} (r : Room k A) : A.units + 65 < cLine := by have := r.un; omega
theorem inD_K {X : Cx} {K : PySem.W.Frag} (h : X.K = K) (hu : X.A.units + 65 < cLine) : OpR X (compareOp .In) (rInD K) := h ▸ op_inD hu
inductive Via (p : List In) (c s : Nat) : Nat → Prop where
  | start : s < p.length → Via p c s s
  | step {x y : Nat} {i : In} : Via p c s x → p[x]? = some i → i.sets c = false → y ∈ brs p x → y < p.length → Via p c s y
theorem Via.lt {p : List In} {c s x : Nat} (h : Via p c s x) : x < p.length := by cases h <;> assumption
theorem need_lt {p : List In} {c x : Nat} (h : Need p c x) : x < p.length := by
  cases h with
  | read e _ => exact (List.getElem?_eq_some_iff.mp e).1
  | on e _ _ _ => exact (List.getElem?_eq_some_iff.mp e).1
theorem need_of_via {p : List In} {c s x : Nat} (h : Via p c s x) (hn : Need p c x) : Need p c s := by
  induction h with
  | start _ => exact hn
  | step _ e hs hy _ ih => exact ih (.on e hs hy hn)
theorem via_of_need {p : List In} {c s i : Nat} (hn : Need p c i) (h : Via p c s i) : ∃ x ins, Via p c s x ∧ p[x]? = some ins ∧ ins.reads c = true := by
  induction hn with
  | read e hr => exact ⟨_, _, h, e, hr⟩
  | on e hs hy hn ih => exact ih (.step h e hs hy (need_lt hn))
theorem need_via {p : List In} {c s : Nat} : Need p c s ↔ ∃ x ins, Via p c s x ∧ p[x]? = some ins ∧ ins.reads c = true :=
  ⟨fun h => via_of_need h (.start (need_lt h)), fun ⟨_, _, h, e, hr⟩ => need_of_via h (.read e hr)⟩
structure Mx (p : List In) (c s : Nat) (M : List Nat) : Prop where
  nd : M.Nodup
  re : ∀ x ∈ M, Via p c s x
  st : s < p.length → s ∈ M
def FullV (p : List In) (c s : Nat) (M : List Nat) : Prop := ∀ x, Via p c s x → x ∈ M
def setsAt (p : List In) (c x : Nat) : Bool := match p[x]? with
  | some i => i.sets c
  | none => false
def readsAt (p : List In) (c x : Nat) : Bool := match p[x]? with
  | some i => i.reads c
  | none => false
def newsM (p : List In) (M : List Nat) (y : Nat) : List Nat := (lnx p y).filter fun z => decide (z < p.length) && !decide (z ∈ M)
theorem Mx.add {p : List In} {c s : Nat} {M : List Nat} {y : Nat} (h : Mx p c s M) (hy : y ∈ M) (hs : setsAt p c y = false) : Mx p c s (M ++ newsM p M y) := by
  have hl := (h.re y hy).lt
  refine ⟨?_, fun x hx => ?_, fun z => List.mem_append_left _ (h.st z)⟩
  · refine List.nodup_append.mpr ⟨h.nd, (lnx_nodup p y).filter _, fun a ha b hb e => ?_⟩
    have := (List.mem_filter.mp hb).2
    rw [← e] at this
    simp [ha] at this
  · rcases List.mem_append.mp hx with hx | hx
    · exact h.re x hx
    · have h2 := List.mem_filter.mp hx
      rw [Bool.and_eq_true] at h2
      unfold setsAt at hs
      rw [List.getElem?_eq_getElem hl] at hs
      exact .step (h.re y hy) (List.getElem?_eq_getElem hl) hs ((lnx_mem hl).mp h2.1) (of_decide_eq_true h2.2.1)
theorem newsM_all {p : List In} {M : List Nat} {y z : Nat} (hl : y < p.length) (hz : z ∈ brs p y) (hzl : z < p.length) : z ∈ M ++ newsM p M y := by
  by_cases h : z ∈ M
  · exact List.mem_append_left _ h
  · exact List.mem_append_right _ (List.mem_filter.mpr ⟨(lnx_mem hl).mpr hz, by simp [h, hzl]⟩)
theorem Mx.len {p : List In} {c s : Nat} {M : List Nat} (h : Mx p c s M) : M.length ≤ p.length := nodup_le _ _ h.nd fun x hx => (h.re x hx).lt
theorem fullV_of {p : List In} {c s : Nat} {M : List Nat} (h : Mx p c s M) (hc : ∀ x ∈ M, setsAt p c x = false → ∀ y ∈ brs p x, y < p.length → y ∈ M) : FullV p c s M := fun x r => by
  induction r with
  | start hs => exact h.st hs
  | step _ e hs hy hl ih => exact hc _ ih (by unfold setsAt; rw [e]; exact hs) _ hy hl
theorem roundM {p : List In} {c s : Nat} {M G : List Nat} {t : Nat} (h : Mx p c s M) (hc : ∀ x ∈ M, setsAt p c x = false → ∀ y ∈ brs p x, y < p.length → y ∈ M ++ G) (hi : FullV p c s M ∨ t + 1 ≤ M.length) : FullV p c s (M ++ G) ∨ t + 1 + 1 ≤ (M ++ G).length := by
  rcases hi with hi | hi
  · exact .inl fun x r => List.mem_append_left _ (hi x r)
  · cases G with
    | nil =>
      rw [List.append_nil] at hc ⊢
      exact .inl (fullV_of h hc)
    | cons g G =>
      refine .inr ?_
      rw [List.length_append, List.length_cons]
      omega
/-! ### instructions as data -/
def In.d (i : In) : PyData := match i.arg with
  | none => .tuple [.str i.w]
  | some k => .tuple [.str i.w, .int k]
theorem dp_in {K : PySem.W.Frag} {H : Hp} {a : Addr} {i : In} (h : SqT K H a i.vs) : Dp K H (.ref a) i.d := by
  unfold In.vs at h
  unfold In.d
  cases hi : i.arg with
  | none => rw [hi] at h; exact .tup h (.cons (.str _) .nil)
  | some k => rw [hi] at h; exact .tup h (.cons (.str _) (.cons (.int _) .nil))
theorem w_ok (i : In) : PyData.strOk i.w = true := by cases i <;> kernel_rfl
theorem d_shaped (i : In) : SeqAt.shaped i.d = true := by
  have h := w_ok i
  unfold In.d
  cases hi : i.arg with
  | none => simp [SeqAt.shaped, PyData.canLay0, PyData.canLayAll0, PyData.depth, PyData.depthAll, h]
  | some k => simp [SeqAt.shaped, PyData.canLay0, PyData.canLayAll0, PyData.depth, PyData.depthAll, h]
theorem eqv_in (i j : In) : PyData.eqv i.d j.d = (decide (i.w = j.w) && decide (i.arg = j.arg)) := by
  have hs : ∀ a b : Str, (a == b) = decide (a = b) := fun a b => by
    by_cases h : a = b
    · simp [h]
    · rw [decide_eq_false h]
      simpa using h
  unfold In.d
  cases hi : i.arg with
  | none =>
    cases hj : j.arg with
    | none => simp [PyData.eqv, PyData.eqvAll, hs]
    | some l => simp [PyData.eqv, PyData.eqvAll, hs]
  | some k =>
    cases hj : j.arg with
    | none => simp [PyData.eqv, PyData.eqvAll, hs]
    | some l =>
      simp only [PyData.eqv, PyData.eqvAll, hs, Bool.and_true, Option.some.injEq]
      congr 1
theorem d_list3 (c : Nat) : SeqAt.shaped (.list [(In.get c).d, (In.plus c).d, (In.minus c).d]) = true := by
  have h1 := w_ok (.get c)
  have h2 := w_ok (.plus c)
  have h3 := w_ok (.minus c)
  simp [In.d, In.arg, SeqAt.shaped, PyData.canLay0, PyData.canLayAll0, PyData.depth, PyData.depthAll, h1, h2, h3]
def In.isGet : In → Bool | .get _ => true | _ => false
def In.isPlus : In → Bool | .plus _ => true | _ => false
def In.isMinus : In → Bool | .minus _ => true | _ => false
theorem key_c (k c : Nat) : decide (some (k : Int) = some (c : Int)) = decide (k = c) := by
  by_cases h : k = c
  · simp [h]
  · rw [decide_eq_false h, decide_eq_false (fun z => h (by have := Option.some.inj z; omega))]
theorem sets_eqv (i : In) (c : Nat) : PyData.eqv i.d (In.set c).d = i.sets c := by
  rw [eqv_in]
  have h : decide (i.w = (In.set c).w) = i.isSet := by cases i <;> kernel_rfl
  rw [h]
  cases i <;> first | rfl | exact (Bool.true_and _).trans (key_c _ _)
theorem reads_eqv (i : In) (c : Nat) : ([(In.get c).d, (In.plus c).d, (In.minus c).d].any fun z => PyData.eqv z i.d) = i.reads c := by
  simp only [List.any_cons, List.any_nil, Bool.or_false, eqv_in]
  have h1 : decide ((In.get c).w = i.w) = i.isGet := by cases i <;> kernel_rfl
  have h2 : decide ((In.plus c).w = i.w) = i.isPlus := by cases i <;> kernel_rfl
  have h3 : decide ((In.minus c).w = i.w) = i.isMinus := by cases i <;> kernel_rfl
  rw [h1, h2, h3]
  have key : ∀ k : Nat, decide (some (c : Int) = some (k : Int)) = decide (k = c) := fun k => by
    rw [key_c]
    by_cases h : k = c
    · simp [h]
    · rw [decide_eq_false h, decide_eq_false fun z => h z.symm]
  cases i <;> simp only [In.isGet, In.isPlus, In.isMinus, In.arg, In.reads, Bool.true_and, Bool.false_and, Bool.or_false, Bool.false_or] <;> exact key _
end Fm
set_option Elab.async false
set_option linter.all false
set_option maxRecDepth 100000
set_option maxHeartbeats 1000000
namespace Fm
open PySem L2 Evl
noncomputable def needS (p : List In) (s c : Nat) : Bool := by
  classical
  exact decide (Need p c s)
theorem needS_iff {p : List In} {s c : Nat} : needS p s c = true ↔ Need p c s := by
  unfold needS
  simp
def spLNeeds (K : PySem.W.Frag) : Sp := fun vs H Q _ => ∃ (a : Addr) (p : List In) (cc s n : Nat), vs = [.ref a, .int (toI p s), .int (n : Nat)] ∧ PgT K H a p ∧ Pok cc p ∧ p.length ≤ 20 ∧ n ≤ 10 ∧ (s = p.length ∨ Sta p s) ∧
  ∀ l H', H l = none → Ex H H' → H' l = some (.lst (nV ((List.range n).filter (needS p s)))) → Q (.ref l) H'
section
variable {K : PySem.W.Frag} {σ : L2.St} {H : Hp} {ta tb te : TE} {tr tA : TA} {D : Ends} {tz tu : TS} {t : TT} {tt : TT} {Q : VK} {x : V} {r : R2}
theorem el_if {b : Bool} {xs : List V} (h : EvT t σ H b) (h1 : b = true → EvL ta σ H xs) (h2 : b = false → EvL tb σ H xs) : EvL (tIf t ta tb) σ H xs := fun H1 e Q q => h H1 e _ fun H2 e2 => by
  cases b with
  | true =>
    rw [if_pos rfl]
    exact h1 rfl H2 (e.trans e2) _ fun p H3 hp e3 h3 => q p H3 (fresh_back e2 hp) (e2.trans e3) h3
  | false =>
    rw [if_neg (fun z => nomatch z)]
    exact h2 rfl H2 (e.trans e2) _ fun p H3 hp e3 h3 => q p H3 (fresh_back e2 hp) (e2.trans e3) h3
theorem q_forTn {a : Addr} {xs : List V} {tl : TE} {j : Nat} (h : Ev tl σ H (.ref a)) (hx : SqT K H a xs) (Pv : Nat → L2.St → Hp → Prop) (h0 : ∀ H1, Ex H H1 → Pv 0 σ H1) (hl : ∀ i σ' H', i ≤ xs.length → Pv i σ' H' → SqT K H' a xs)
    (hs : ∀ i x σ' H', xs[i]? = some x → Pv i σ' H' → tu { D with nx := Pv (i + 1), ct := Pv (i + 1), bk := tz D } (σ'.set j (some x)) H') (hd : ∀ σ' H', Pv xs.length σ' H' → tz D σ' H') : tSeq (tFor (iTup K tl) (gName j) tu) tz D σ H :=
  q_forT h hx Pv h0 hl hs hd
theorem m_asgLst {i : Nat} (h : tA σ H fun xs H1 => xs.length ≤ sizeLine ∧ ∀ p, H1 p = none → tz D (σ.set i (some (.ref p))) (upd H1 p (.lst xs))) : tSeq (tAsg (tLst tA) (gName i)) tz D σ H := h
end
section
variable {P : Program} {w : World} {K : PySem.W.Frag} {mg : Str → Option Value} {base : Heap}
abbrev s_law_needs : Stmt := top 38
theorem sc_law_needs : FnScope ["program", "index", "cells", "found", "cell", "met", "turn", "one", "reads", "own", "other"] ["program", "index", "cells"] (defScope s_law_needs) := ⟨rfl, rfl, rfl, by decide +kernel, rfl, by decide +kernel, by decide +kernel⟩
--TY _law_needs {'program':('tuple',('tuple','any')),'found':('list','any'),'met':('list','any'),'index':'int','one':'int','own':'int','other':'int','cell':'int','reads':('list',('tuple','any'))}
theorem ok_lneeds {f f1 : Addr} {fd fd1 : FuncData} (F : Fun K "_law_needs" "_law_needs" s_law_needs f fd) (T : Txt K mg) (C_law_nexts : Cal P w K mg base CX0 2 "_law_nexts" f1 fd1 ["program", "index"] (spNexts K)) : FnOk P w K mg base CX0 3 f fd ["program", "index", "cells"] (spLNeeds K) := by
  refine F.ok sc_law_needs (fun vs H Q E h => ?_) (fun cdv A outer s H vs Q E hr h => ?_)
  · obtain ⟨_, _, _, _, _, rfl, _⟩ := h
    rfl
  · obtain ⟨a, p, cc, s, n, rfl, hp, hok, hl, hn, hst, k⟩ := h
    refine ⟨_, (pss_cons (ps_set (i := 3) sc_law_needs.nd rfl (Or.inl rfl) (pe_lst pa_nil))
  (pss_cons (ps_for PassesOwn.never rfl (pi_range1 rfl T.z_range (pa_cons (pv 2) pa_nil)) (pg_name (i := 4) sc_law_needs.nd rfl (by first | exact Or.inl rfl | exact Or.inr rfl)) (pss_cons (ps_set (i := 5) sc_law_needs.nd rfl (Or.inr rfl) (pe_ifExp (pt_cmpR op_ge (pv 1) pe_int (nomark _)) (pe_lst (pa_cons (pv 1) pa_nil)) (pe_lst pa_nil)))
  (pss_cons (ps_for PassesOwn.never rfl (pi_tupK (K := K) rfl (pv 0)) (pg_name (i := 6) sc_law_needs.nd rfl (by first | exact Or.inl rfl | exact Or.inr rfl)) (pss_one (ps_for PassesOwn.never rfl (pi_listK (K := K) rfl (pe_lc (own := [("own", 9)]) (g := gName 9) rfl sc_law_needs.nd (pi_listK (K := K) rfl (pv 5)) (blkOk_by (by kernel_rfl)) (fun _ _ _ _ _ => pg_name (i := 9) sc_law_needs.nd rfl (by first | exact Or.inl rfl | exact Or.inr rfl)) (fun _ _ _ _ _ => (pts_one (pt_cmpR (neD_K (K := K) rfl hr.units) (pe_ix (ix_K (K := K) rfl) (pv 0) (pv 9) (fun _ _ => rfl)) (pe_tup (pa_cons pe_str (pa_cons (pv 4) pa_nil))) (nomark _)))) (fun _ _ _ _ _ => (pv 9)))) (pg_name (i := 7) sc_law_needs.nd rfl (by first | exact Or.inl rfl | exact Or.inr rfl)) (pss_one (ps_set (i := 5) sc_law_needs.nd rfl (Or.inr rfl) (pe_op op_cat (pv 5) (pe_lc (own := [("other", 10)]) (g := gName 10) rfl sc_law_needs.nd (pi_listK (K := K) rfl (pe_call C_law_nexts.G (hr.mono (by first | decide | omega)) rfl C_law_nexts.g C_law_nexts.kp C_law_nexts.b .nil pass0 (pa_cons (pv 0) (pa_cons (pv 7) pa_nil)))) (blkOk_by (by kernel_rfl)) (fun _ _ _ _ _ => pg_name (i := 10) sc_law_needs.nd rfl (by first | exact Or.inl rfl | exact Or.inr rfl)) (fun _ _ _ _ _ => (pts_one (PW.pt (pw_and (pt_cmpR op_ge (pv 10) pe_int (nomark _)) (pw_and1 (pt_cmpR (nin_K (K := K) rfl) (pv 10) (pv 5) (by rfl))))))) (fun _ _ _ _ _ => (pv 10)))))))))
  (pss_cons (ps_set (i := 8) sc_law_needs.nd rfl (Or.inr rfl) (pe_lst (pa_cons (pe_tup (pa_cons pe_str (pa_cons (pv 4) pa_nil))) (pa_cons (pe_tup (pa_cons pe_str (pa_cons (pv 4) pa_nil))) (pa_cons (pe_tup (pa_cons pe_str (pa_cons (pv 4) pa_nil))) pa_nil)))))
  (pss_one (ps_if (pt_cmpR (neD_K (K := K) rfl hr.units) (pe_lc (own := [("one", 7)]) (g := gName 7) rfl sc_law_needs.nd (pi_listK (K := K) rfl (pv 5)) (blkOk_by (by kernel_rfl)) (fun _ _ _ _ _ => pg_name (i := 7) sc_law_needs.nd rfl (by first | exact Or.inl rfl | exact Or.inr rfl)) (fun _ _ _ _ _ => (pts_one (pt_cmpR (inD_K (K := K) rfl (room65 hr)) (pe_ix (ix_K (K := K) rfl) (pv 0) (pv 7) (fun _ _ => rfl)) (pv 8) (by rfl)))) (fun _ _ _ _ _ => (pv 7))) (pe_lst pa_nil) (nomark _)) (pss_one (ps_expr (pe_bm PySem.F.plainAttrs_list PySem.F.slot_list_append PySem.F.type_list_append mt_append (pv 3) (pa_cons (pv 4) pa_nil)))) pss_nil))))))
  (pss_one (ps_ret (pv 3))))), ?_⟩
    have hsl : s ≤ p.length := by
      rcases hst with h | h
      · omega
      · exact Nat.le_of_lt h.lt
    refine q_asgL (xs := []) (el_lst ea_nil (Nat.zero_le _)) fun d H1 hd e1 hd1 => ?_
    refine q_forR1 (n := (n : Nat)) (ea_cons (ev_var rfl) ea_nil) ⟨by omega, by omega⟩
      (fun j σ H' => ∃ z4 z5 z6 z7 z8 : Option V, Ex H H' ∧ H' d = some (.lst (nV ((List.range j).filter (needS p s)))) ∧ σ = [some (.ref a), some (.int (toI p s)), some (.int (n : Nat)), some (.ref d), z4, z5, z6, z7, z8, none, none])
      (fun H2 e2 => ⟨_, _, _, _, _, e1.trans e2, e2 _ _ hd1, rfl⟩) ?_ ?_
    · rintro c σ H2 hc ⟨z4, z5, z6, z7, z8, e2, hd2, rfl⟩
      have hp2 := hp.up e2
      -- met
      refine q_asgL (xs := nV (if s < p.length then [s] else [])) (el_if (et_is (et_i0 (ev_var rfl) ev_c) (toI_ge hsl)) (fun h => by
        have := of_decide_eq_true h
        rw [if_pos this]
        refine el_lst (ea_cons ?_ ea_nil) (by show 1 ≤ 100000; decide)
        show Ev _ _ _ (V.int (s : Nat))
        rw [← toI_lt this]
        exact ev_var rfl) (fun h => by
        rw [if_neg (of_decide_eq_false h)]
        exact el_lst ea_nil (Nat.zero_le _))) fun m0 H3 hm0 e3 hm3 => ?_
      have M0 : Mx p c s (if s < p.length then [s] else []) := by
        by_cases h : s < p.length
        · rw [if_pos h]
          exact ⟨by simp, fun x hx => by rw [List.mem_singleton.mp hx]; exact .start h, fun _ => by simp⟩
        · rw [if_neg h]
          exact ⟨by simp, by simp, fun z => absurd z h⟩
      have F0 : FullV p c s (if s < p.length then [s] else []) ∨ 0 + 1 ≤ (if s < p.length then [s] else []).length := by
        by_cases h : s < p.length
        · rw [if_pos h]
          exact .inr (Nat.le_refl _)
        · rw [if_neg h]
          refine .inl fun x r => ?_
          induction r with
          | start z => exact absurd z h
          | step _ _ _ _ _ ih => cases ih
      obtain ⟨ps, hps, hpp⟩ := id hp2
      have hpsl : ps.length = p.length := Paired.length hpp
      refine q_forTn (xs := ps) (ev_var rfl) (ex_t e3 hps)
        (fun t σ H' => ∃ (M : List Nat) (g : Addr) (z6 z7 : Option V), Ex H2 H' ∧ H' g = some (.lst (nV M)) ∧ Mx p c s M ∧ (FullV p c s M ∨ t + 1 ≤ M.length) ∧ σ = [some (.ref a), some (.int (toI p s)), some (.int (n : Nat)), some (.ref d), some (.int (c : Int)), some (.ref g), z6, z7, z8, none, none])
        (fun H4 e4 => ⟨_, m0, _, _, e3.trans e4, e4 _ _ hm3, M0, F0, rfl⟩) (fun t σ H' _ ⟨_, _, _, _, e, _⟩ => ex_t e hps) ?_ ?_
      · rintro t x σ H4 ht ⟨M, g, z6, z7, e4, hg4, A, hF, rfl⟩
        have hfil := el_lcE (K := K) (σ := [some (.ref a), some (.int (toI p s)), some (.int (n : Nat)), some (.ref d), some (.int (c : Int)), some (.ref g), some x, z7, z8, none, none]) (H := H4) (a := g) (tl := tVar 5) (j := 9) (vs := List.map (fun x => x.snd) [(("own" : Str), 9)]) (tt := tTest (tOp (rNeD K) (tOp (rIx K) (tVar 0) (tVar 9)) (tTup (tCons (tC (.str "set")) (tCons (tVar 4) tNil))))) (te := tVar 9) (zs := M) (fun z => .int (z : Nat)) (fun z => !setsAt p c z) (fun z => .int (z : Nat))
          (ev_var rfl) (sq_of hg4) (fun x => rfl) (by have := A.len; omega) (fun y H5 hy e5 => by
            have hyl := (A.re y hy).lt
            have hyx : p[y]? = some p[y] := List.getElem?_eq_getElem hyl
            obtain ⟨u, hu, hu2⟩ := ev_pg (K := K) (σ := [some (.ref a), some (.int (toI p s)), some (.int (n : Nat)), some (.ref d), some (.int (c : Int)), some (.ref g), some x, z7, z8, some (.int (y : Nat)), none]) (ta := tVar 0) (tb := tVar 9) (hp2.up (e4.trans e5)) hyx (ev_var rfl) (ev_var rfl)
            have hsa : setsAt p c y = p[y].sets c := by unfold setsAt; rw [hyx]
            rw [hsa]
            refine et_test (ev_opU hu (eu_tup (vs := (In.set c).vs) (ea_cons ev_c (ea_cons (ev_var rfl) ea_nil)) (by show 2 ≤ 100000; decide)) fun l H6 h6 e6 => ?_)
            intro H7 e7 Q q
            refine ⟨_, _, dp_in (ex_t (e6.trans e7) hu2), dp_in (i := .set c) (st_of (e7 _ _ h6)), d_shaped _, d_shaped _, ?_⟩
            rw [sets_eqv]
            exact q _ (Ex.refl _)) (fun y H5 hy e5 hf => ev_var rfl)
        refine s_forNLn (xs := nV (M.filter fun z => !setsAt p c z)) hfil
          (fun q m σ' H' => ∃ (G : List Nat) (g : Addr) (z7 : Option V), Ex H2 H' ∧ H' g = some (.lst (nV (M ++ G))) ∧ H' q = some (.lst (nV (M.filter fun z => !setsAt p c z))) ∧ Mx p c s (M ++ G) ∧ (∀ x ∈ (M.filter fun z => !setsAt p c z).take m, ∀ y ∈ brs p x, y < p.length → y ∈ M ++ G) ∧ σ' = [some (.ref a), some (.int (toI p s)), some (.int (n : Nat)), some (.ref d), some (.int (c : Int)), some (.ref g), some x, z7, z8, none, none])
          (fun q H5 hq e5 hq5 => ⟨[], g, _, e4.trans e5, by rw [List.append_nil]; exact e5 _ _ hg4, hq5, by rw [List.append_nil]; exact A, by simp, rfl⟩) (fun q m σ' H' _ ⟨_, _, _, _, _, h, _⟩ => sq_of h) ?_ ?_
        · rintro q m x2 σ' H5 hm ⟨G, g, z7, e5, hg5, hq5, A5, hc5, rfl⟩
          obtain ⟨y, hy, rfl⟩ := nV_get hm
          have hyM := List.mem_filter.mp (List.mem_of_getElem? hy)
          have hys : setsAt p c y = false := by simpa using hyM.2
          have hyl := (A.re y hyM.1).lt
          have hyMG := List.mem_append_left G hyM.1
          have hcomp := el_lcCall (K := K) (σ := [some (.ref a), some (.int (toI p s)), some (.int (n : Nat)), some (.ref d), some (.int (c : Int)), some (.ref g), some x, some (.int (y : Nat)), z8, none, none]) (H := H5) (sp := spNexts K) (E := E0) (tA := tCons (tVar 0) (tCons (tVar 7) tNil)) (ws := [.ref a, .int (y : Nat)]) (j := 10) (vs := List.map (fun x => x.snd) [(("other" : Str), 10)]) (tt := tAnd (tTest (tOp (rI0 fun i j => .bl (decide (i ≥ j))) (tVar 10) (tC (.int 0)))) (tTest (tOp (rIn K true) (tVar 10) (tVar 5)))) (te := tVar 10) (zs := lnx p y) (fun z => .int (toI p z)) (fun z => decide (z < p.length) && !decide (z ∈ M ++ G)) (fun z => .int (z : Nat))
            (ea_cons (ev_var rfl) (ea_cons (ev_var rfl) ea_nil)) (fun H6 e6 Q q => ⟨a, p, cc, y, rfl, hp2.up (e5.trans e6), hok, hyl, by omega, q⟩) (fun x => rfl) (by unfold lnx; split <;> (try split) <;> simp)
            (fun z H6 hz e6 => by
              have hzl : z ≤ p.length := by
                rcases brs_sta hok hyl ((lnx_mem hyl).mp hz) with h | h
                · omega
                · exact Nat.le_of_lt h.lt
              refine et_and (et_is (et_i0 (ev_var rfl) ev_c) (toI_ge hzl)) fun h => ?_
              have := et_niK (K := K) (ta := tVar 10) (tb := tVar 5) (σ := [some (.ref a), some (.int (toI p s)), some (.int (n : Nat)), some (.ref d), some (.int (c : Int)), some (.ref g), some x, some (.int (y : Nat)), z8, none, some (.int (toI p z))]) (H := H6) (a := g) (xs := nV (M ++ G)) (x := .int (toI p z)) (ev_var rfl) (ev_var rfl) (sq_of (e6 _ _ hg5)) rfl (nV_flat _)
              rw [toI_lt (of_decide_eq_true h), inV_nV] at this
              rw [toI_lt (of_decide_eq_true h)]
              exact this) (fun z H6 hz e6 hf => by
              rw [Bool.and_eq_true] at hf
              rw [← toI_lt (of_decide_eq_true hf.1)]
              exact ev_var rfl)
          refine s_asgL (xs := nV (M ++ G) ++ nV (newsM p (M ++ G) y)) (el_cat1 (a := g) (ev_var rfl) hg5 hcomp ?_) fun l H6 hl5 e6 hl6 => ?_
          · have h1 := (A5.add hyMG hys).len
            rw [List.length_append] at h1
            rw [nV_len]
            show _ + ((newsM p (M ++ G) y).map _).length ≤ 100000
            rw [List.length_map]
            omega
          · have hap : nV (M ++ G) ++ nV (newsM p (M ++ G) y) = nV (M ++ (G ++ newsM p (M ++ G) y)) := by
              unfold nV
              rw [← List.map_append, List.append_assoc]
            rw [hap] at hl6
            refine ⟨G ++ newsM p (M ++ G) y, l, some (.int (y : Nat)), e5.trans e6, hl6, e6 _ _ hq5, by rw [← List.append_assoc]; exact A5.add hyMG hys, ?_, rfl⟩
            have tk : (M.filter fun z => !setsAt p c z).take (m + 1) = (M.filter fun z => !setsAt p c z).take m ++ [y] := by
              rw [List.take_succ, hy]
              rfl
            rw [tk, ← List.append_assoc]
            intro x hx z hz hzl
            rcases List.mem_append.mp hx with h | h
            · exact List.mem_append_left _ (hc5 x h z hz hzl)
            · rw [List.mem_singleton.mp h] at hz
              exact newsM_all hyl hz hzl
        · rintro q σ' H5 ⟨G, g, z7, e5, hg5, hq5, A5, hc5, rfl⟩
          rw [nV_len, List.take_length] at hc5
          exact ⟨M ++ G, g, _, _, e5, hg5, A5, roundM A (fun x hx hs => hc5 x (List.mem_filter.mpr ⟨hx, by rw [hs]; rfl⟩)) hF, rfl⟩
      · rintro σ H4 ⟨M, g, z6, z7, e4, hg4, A, hF, rfl⟩
        have hfull : FullV p c s M := by
          rcases hF with h | h
          · exact h
          · have := A.len
            omega
        refine m_asgLst ?_
        refine m_consU (eu_tup (vs := (In.get c).vs) (ea_cons ev_c (ea_cons (ev_var rfl) ea_nil)) (by show 2 ≤ 100000; decide)) fun u1 H5 hu1 e5 h5 => ?_
        refine m_consU (eu_tup (vs := (In.plus c).vs) (ea_cons ev_c (ea_cons (ev_var rfl) ea_nil)) (by show 2 ≤ 100000; decide)) fun u2 H6 hu2 e6 h6 => ?_
        refine m_consU (eu_tup (vs := (In.minus c).vs) (ea_cons ev_c (ea_cons (ev_var rfl) ea_nil)) (by show 2 ≤ 100000; decide)) fun u3 H7 hu3 e7 h7 => ?_
        refine ⟨by show 3 ≤ sizeLine; rw [sizeLine_eq]; decide, fun rl hrl => ?_⟩
        have er := Ex.new (o := .lst [.ref u1, .ref u2, .ref u3]) hrl
        have e48 := ((e5.trans e6).trans e7).trans er
        have hrl8 : upd H7 rl (.lst [.ref u1, .ref u2, .ref u3]) rl = some (.lst [.ref u1, .ref u2, .ref u3]) := upd_same
        have h58 := er _ _ (e7 _ _ (e6 _ _ h5))
        have h68 := er _ _ (e7 _ _ h6)
        have h78 := er _ _ h7
        generalize upd H7 rl (.lst [.ref u1, .ref u2, .ref u3]) = H8 at er e48 hrl8 h58 h68 h78 ⊢
        have hfil := el_lcE (K := K) (σ := [some (.ref a), some (.int (toI p s)), some (.int (n : Nat)), some (.ref d), some (.int (c : Int)), some (.ref g), z6, z7, some (.ref rl), none, none]) (H := H8) (a := g) (tl := tVar 5) (j := 7) (vs := List.map (fun x => x.snd) [(("one" : Str), 7)]) (tt := tTest (tOp (rInD K) (tOp (rIx K) (tVar 0) (tVar 7)) (tVar 8))) (te := tVar 7) (zs := M) (fun z => .int (z : Nat)) (fun z => readsAt p c z) (fun z => .int (z : Nat))
          (ev_var rfl) (sq_of (e48 _ _ hg4)) (fun x => rfl) (by have := A.len; omega) (fun y H5 hy e5 => by
            have hyl := (A.re y hy).lt
            have hyx : p[y]? = some p[y] := List.getElem?_eq_getElem hyl
            obtain ⟨u, hu, hu2⟩ := ev_pg (K := K) (σ := [some (.ref a), some (.int (toI p s)), some (.int (n : Nat)), some (.ref d), some (.int (c : Int)), some (.ref g), z6, some (.int (y : Nat)), some (.ref rl), none, none]) (ta := tVar 0) (tb := tVar 7) (hp2.up ((e4.trans e48).trans e5)) hyx (ev_var rfl) (ev_var rfl)
            have hsa : readsAt p c y = p[y].reads c := by unfold readsAt; rw [hyx]
            rw [hsa]
            refine et_test (ev_op hu (ev_var rfl) ?_)
            intro H7 e7 Q q
            refine ⟨_, [(In.get c).d, (In.plus c).d, (In.minus c).d], dp_in (ex_t e7 hu2), .lst (sq_of ((e5.trans e7) _ _ hrl8)) (.cons (dp_in (st_of ((e5.trans e7) _ _ h58))) (.cons (dp_in (st_of ((e5.trans e7) _ _ h68))) (.cons (dp_in (st_of ((e5.trans e7) _ _ h78))) .nil))), d_shaped _, d_list3 c, ?_⟩
            rw [reads_eqv]
            exact q _ (Ex.refl _)) (fun y H5 hy e5 hf => ev_var rfl)
        have hnl : (M.filter fun z => readsAt p c z).map (fun z => V.int (z : Nat)) = ((M.filter fun z => readsAt p c z).map fun (z : Nat) => (z : Int)).map V.int := by
          rw [List.map_map]
          rfl
        rw [hnl] at hfil
        have hneed : (!((M.filter fun z => readsAt p c z).map fun (z : Nat) => (z : Int)).isEmpty) = needS p s c := by
          rw [Bool.eq_iff_iff]
          rw [needS_iff, need_via]
          constructor
          · intro h
            cases hf : M.filter fun z => readsAt p c z with
            | nil => rw [hf] at h; cases h
            | cons y ys =>
              have := List.mem_filter.mp (hf ▸ List.mem_cons_self : y ∈ M.filter fun z => readsAt p c z)
              have hyl := (A.re y this.1).lt
              refine ⟨y, p[y], A.re y this.1, List.getElem?_eq_getElem hyl, ?_⟩
              have h2 := this.2
              unfold readsAt at h2
              rw [List.getElem?_eq_getElem hyl] at h2
              exact h2
          · rintro ⟨x, i, hv, hx, hi⟩
            have : x ∈ M.filter fun z => readsAt p c z := List.mem_filter.mpr ⟨hfull x hv, by unfold readsAt; rw [hx]; exact hi⟩
            cases hf : M.filter fun z => readsAt p c z with
            | nil => rw [hf] at this; cases this
            | cons y ys => rfl
        have hd8 := e48 _ _ (e4 _ _ hd2)
        have rng : List.range (c + 1) = List.range c ++ [c] := List.range_succ
        refine s_when (et_test (ev_neNil hfil)) (fun hb H9 e9 => ?_) (fun hb H9 e9 => ?_)
        · rw [hneed] at hb
          refine s_app (e9 _ _ hd8) (ev_var rfl) (ev_var rfl) (by rw [nV_len]; have := List.length_filter_le (needS p s) (List.range c); rw [List.length_range] at this; omega) fun H10 e10 => ?_
          refine ⟨_, _, _, _, _, Ex.mut (((e2.trans (e4.trans e48)).trans e9).trans e10) hd, ?_, rfl⟩
          rw [upd_same, rng, List.filter_append, List.filter_cons, if_pos hb]
          simp [nV]
        · rw [hneed] at hb
          refine ⟨_, _, _, _, _, (e2.trans (e4.trans e48)).trans e9, ?_, rfl⟩
          rw [e9 _ _ hd8, rng, List.filter_append, List.filter_cons, if_neg (by rw [hb]; exact fun z => nomatch z)]
          simp [nV]
    · rintro σ H2 ⟨z4, z5, z6, z7, z8, e2, hd2, rfl⟩
      refine s_ret (ev_var rfl) fun H3 e3 => ?_
      exact k d H3 hd (e2.trans e3) (e3 _ _ hd2)
end
end Fm
set_option Elab.async false
set_option linter.all false
set_option maxRecDepth 100000
set_option maxHeartbeats 1000000
open L2
namespace Fm
namespace NS_BadProgram
open PySem PySem.W PySem.Calls PyProof.Rows PySem.HandSPX
def iA (p1 p2 : Pos) : Arguments := { posonlyargs := [], args := [{ arg := "self", annotation := none, pos := p1 }, { arg := "index", annotation := none, pos := p2 }], vararg := none, kwonlyargs := [], kw_defaults := [], kwarg := none, defaults := [] }
def iS : Scope := { kind := .function, names := [(PySem.Str.ofString "self", .local), (PySem.Str.ofString "index", .local), (PySem.Str.ofString "__class__", .free), (PySem.Str.ofString "super", .globalImplicit)], isGenerator := false, isCoroutine := false, more := [] }
abbrev sI : Stmt := inClass (top 2) 0
/-- what the written part says of BadProgram, at C, of its __init__, at fI, of the cell of its class, at cc, of the code, at cda -/
structure Ty (P : Program) (K : Frag) (mg : Str → Option Value) (C fI cc cda : Addr) : Prop where
  gC : mg "BadProgram" = some (.ref C)
  zS : mg "super" = none
  tp : nsIn K cStatics "thirdparty.any" = some none
  cls : ∃ nm q N bs bm sn sub ab col dd k0 k1 k2 k3 k5, K.lookup C = some (excClassObj nm q C N bs bm true sn sub ab col dd k0 k1 k2 k3 k5 "ValueError.__new__") ∧ refsVE bm = true
  sup : ks_superIn K C C "__init__" = some (some (.builtin "ValueError.__init__"))
  mro : mroIn K C (.ref C) = some true
  ve : subIn K (.ref C) (.type "ValueError") = some true
  sa : findIn K (.ref C) "__setattr__" = some (some (.builtin "object.__setattr__"))
  ga : findIn K (.ref C) "__getattribute__" = some (some (.builtin "BaseException.__getattribute__"))
  gg : findIn K (.ref C) "__getattr__" = some none
  noN : findIn K (.ref C) "index" = some none
  iC : findIn K (.ref C) "__init__" = some (some (.ref fI))
  tC : typeIn K (.ref fI) = some (.type "function")
  kC : keepIn K (.ref C) = true
  exC : subIn K (.ref C) (.type "BaseException") = some true
  tyC : typeIn K (.ref C) = some (.type "type")
  hdC : hasDictIn K C = true
  te : exmOne K (.ref C) (.ref C) = some true
  file : ∃ (ccl : Value) (cdd : Option Addr) (vs : Array Value) (ccs : Array (Option Value)) (fl : Str) (tf : Tok), K.lookup cda = some ⟨ccl, cdd, .fields vs, ccs⟩ ∧ vs[2]? = some (.str fl tf) ∧ ((P.main.file : Str) == fl) = true
  cell : ∃ (cl : Value) (cld : Option Addr) (csl : Array (Option Value)), K.lookup cc = some ⟨cl, cld, .cell (some (.ref C)), csl⟩
  top_ : (P.main.scope.names.lookup ("super" : Str)).isSome = false
  fn : ∃ (oc : Value) (od : Option Addr) (doc pm : Value) (an : Option Addr) (ct : Value) (osl : Array (Option Value)),
    K.lookup fI = some ⟨oc, od, .func (ksFn "__init__" "BadProgram.__init__" (defArgs sI) (defBody sI) (defScope sI) .none .none doc pm an (.ref cda) ct cc), osl⟩ ∧ codeIn K (.ref cda) "BadProgram.__init__" = true
/-- a value that is told well in a text -/
def Told (v : Value) : Prop := v = .none ∨ (∃ i t, v = .int i t ∧ i.natAbs.log2 < 1920) ∨ ∃ y t, v = .str y t ∧ y.length ≤ 1000
structure InitEnd (h h' : Heap) (x C dx t1 : Addr) (v : Value) : Prop where
  keep : ∀ b o, b ≠ x → h.get? b = some o → h'.get? b = some o
  obj : h'.get? x = some { cls := .ref C, dict := some dx, data := .fields #[.ref t1, .none, .none, .none, .bool false, .none] }
  dbig : h.objs.size ≤ dx
  dne : dx ≠ x
  ns : h'.Ns1 dx (fun y => if y = "index" then some v else none)
section
variable {prog : Program} {w : World} {A : Around} {E : Value → Shared → Prop} {R : Result → Shared → Prop} {s : Shared} {K : Frag} {mg : Str → Option Value} {base : Heap} {C fI cc cda : Addr}
theorem str_len (a b : Str) : (a ++ b).length = a.length + b.length := Array.size_append
theorem told_field {v : Value} (V : Told v) {s : Shared} {Q : Value → Shared → Prop} (h : ∀ y t tk, y.length ≤ 10000 → Q (.str y t) { s with toks := tk }) : wpAny (model prog w) A (formatField v Str.empty) Q E s := by
  rcases V with rfl | ⟨i, t, rfl, hi⟩ | ⟨y, t, rfl, hy⟩
  · exact wpAny_formatField_none (h _ _ _ (by decide))
  · refine wpAny_formatField_int hi (h _ _ _ ?_)
    have e := int_text_length_le (k := 1920) (by decide) hi
    show (Str.ofString (toString i)).length ≤ 10000
    rw [PySem.ofString_length]
    omega
  · exact wpAny_formatField_str (by obtain ⟨_, _, _, _, _⟩ := s; exact h _ _ _ (by omega)) (h _ _ _ (by omega)) (by rw [sizeLine_eq]; omega)
theorem init_call {h : Heap} {g : Array GenState} {d : Drawn} {t : Nat} {os : OsState} {nm q : Str} {N u e t0 : Addr} {bs bm : List Value} {hdct : Bool} {sn : List Str} {sub : List Value} {ab : Bool} {col : Option Bool} {dd : Option Addr} {k0 k1 k2 k3 k5 : Option Value} {rest : List Value} {Q : Value → Shared → Prop}
    (hC : h.get? C = some (excClassObj nm q C N bs bm hdct sn sub ab col dd k0 k1 k2 k3 k5 "ValueError.__new__")) (he : h.get? e = some (excO C t0)) (hu : h.get? u = some (kxs_mw "ValueError.__init__" e)) (hrest : rest.length ≤ sizeLine)
    (hq : ∀ h', (∀ b o, b ≠ e → h.get? b = some o → h'.get? b = some o) → h'.get? e = some (excO C h.objs.size) → Q .none ⟨h', g, d, t, os⟩) : wpAny (model prog w) A (call (.ref u) rest) Q E ⟨h, g, d, t, os⟩ := by
  refine wpAny_call (codeAny_of_tree (show wpAny (model prog w) A.in1 (callAny (.ref u) ⟨rest, []⟩) _ _ _ from ?_))
  have yes : (Value.type "method-wrapper" == Value.type "method" || Value.type "method-wrapper" == Value.type "builtin_function_or_method" || Value.type "method-wrapper" == Value.type "method-wrapper") = true := by decide
  simp only [callAny]; refine wpAny_bind (wpAny_load hu ?_); simp only [kxs_mw, yes, if_true]
  refine KFB.if_so (by decide) (wpAny_bind (check_bound_init F.excBase_ValueError.toExcCallFacts hC he rfl (wpAny_bind (wpAny_pure (wpAny_pure ⟨plainId_quiet F.excBase_ValueError.init.plain _, codeAny_builtin F.excBase_ValueError.initEntry ?_⟩)))))
  exact exc_init_tree (cls := .ref C) (t0 := t0) (dv := none) (c2 := .none) (c3 := .none) (b4 := .bool false) he hrest fun h' a b _ => hq h' a b
theorem init_ok (T : Ty prog K mg C fI cc cda) {x t0 : Addr} {v : Value} (V : Told v) (Md : L2.Mod K mg base) (bk : ∀ b o, base.get? b = some o → s.heap.get? b = some o) (hx : s.heap.get? x = some (excO C t0)) (hnx : K.lookup x = none) (hroom : A.depth < recursionLimit)
    (hq : ∀ h' tk dx t1, InitEnd s.heap h' x C dx t1 v → R (.ok (.ret .none)) { s with heap := h', toks := tk }) : codeAny (model prog w) A (.call (.ref fI) ⟨[.ref x, v], []⟩) R s := by
  obtain ⟨oc, od, doc, pm, an, ct, osl, ho, hcd⟩ := T.fn
  obtain ⟨ccl, cdd, vs, ccs, fl, tf, hcode, hvs, hfile⟩ := T.file
  obtain ⟨cl, cld, csl, hcell⟩ := T.cell
  obtain ⟨nm, q, N, bs, bm, sn, sub, ab, col, dd, k0, k1, k2, k3, k5, hC, hbm⟩ := T.cls
  have hcl : clsIn K C = some { name := nm, bases := bs, mro := .ref C :: bm, ns := N, qualname := q, hasDict := true, slotNames := sn, subclasses := sub, abstract := ab, collection := col, hasDel := false } := by unfold clsIn; rw [hC] <;> rfl
  have X : K.In s.heap := fun a o e => bk _ _ (Md.kin a o e)
  have nocell : ∀ y ∈ (defScope sI).names, y.2 ≠ .cell := by decide +kernel
  have loc : ∀ y ∈ [(("self" : Str), Value.ref x), ("index", v)], (defScope sI).names.lookup y.1 = some .local := fun y hy => by
    rcases List.mem_cons.mp hy with rfl | hy
    · show (defScope sI).names.lookup ("self" : Str) = some .local
      decide +kernel
    · rcases List.mem_cons.mp hy with rfl | hy
      · show (defScope sI).names.lookup ("index" : Str) = some .local
        decide +kernel
      · cases hy
  refine ks_codeAny_call_defAt (a := fI) (args := ⟨[.ref x, v], []⟩) (binds := [("self", .ref x), ("index", v)]) hroom (X _ _ ho) rfl (Md.nolimit.keeps bk) (codeRec_of X hcd) rfl (BindsTo.of_eq (by first | rfl | with_unfolding_all rfl)) nocell loc (fun h₁ hns hk₁ => ?_) rfl rfl rfl
  have X₁ : K.In h₁ := X.keeps hk₁
  have bk₁ : ∀ b o, base.get? b = some o → h₁.get? b = some o := fun b o e => hk₁ _ _ (bk _ _ e)
  have hx₁ := hk₁ _ _ hx
  have hxL : s.heap.objs.size ≠ x := Nat.ne_of_gt (Heap.lt_size hx)
  have hxC : x ≠ C := fun z => by
    rw [z, hC] at hnx
    cases hnx
  obtain ⟨oD, hD1, hD2⟩ : ∃ oD, h₁.get? C = some oD ∧ ∃ cd, oD.data = .cls cd := ⟨_, X₁ _ _ hC, _, rfl⟩
  obtain ⟨cd, hD2⟩ := hD2
  obtain ⟨mb, hb1, hb2⟩ := Md.blt
  refine ks_wpAt_execs_cons (ks_wpAt_Expr_any (ks_wpAt_MethodCall ?_))
  refine ks_wpAt_super_base (by rfl) (by rfl) (by decide) rfl (X₁ _ _ ho) rfl rfl rfl (X₁ _ _ hcode) rfl hvs hfile T.top_ ?_
  refine ks_loadName_global rfl (by rfl) (loadGlobal_builtin (Md.glob.keeps bk₁) T.zS (hb1.keeps bk₁) ((hb2 _ (by decide)).trans PyProof.Rows.Boot.«super») ⟨rfl, ?_⟩)
  refine wpAny_loadName_free rfl (by rfl) rfl ⟨_, X₁ _ _ hcell, rfl⟩ ?_
  refine wpAny_loadName_local rfl (by rfl) hns (by rfl) ?_
  refine ks_wpAny_isType_cls hD1 hD2 ⟨rfl, ?_⟩
  refine ks_wpAny_call_super hD1 hD2 hx₁ rfl (fun c e => nomatch e) (looks_mroIn X₁ T.mro) (fun h₂ e₂ k₂ => ?_)
  have X₂ : K.In h₂ := X₁.keeps k₂
  have hx₂ := k₂ _ _ hx₁
  have I₂ : InstAt h₂ x (excO C t0) C none := ⟨hx₂, rfl, rfl, trivial⟩
  have sup := T.sup
  unfold ks_superIn at sup
  rw [hcl] at sup
  refine kxs_getMethod kxs_ValueError e₂ (looks_opaque X₂ T.tp) (l₀ := .ref C :: bm) ((looks_clsIn X₂ hcl).andThen .now) rfl X₂ sup (I₂.type.andThen (looks_subIn X₂ T.ve)) hxC (by decide) ?_
  -- the call: its one argument
  have hlt : s.heap.objs.size < h₁.objs.size := hns.lt
  refine kxs_callWith (i := "ValueError.__init__") (x := x) (first := []) (by rfl) (evalArgs_plain ?_)
  have up₂ : ∀ b o, h₁.get? b = some o → (h₂.push (kxs_mw "ValueError.__init__" x)).get? b = some o := fun b o e => Heap.get?_push_of_some _ (k₂ _ _ e)
  refine spliced_cons (wpAny_JoinedStr (pos := ⟨0, 0, 0, 0⟩) ?_)
  refine Calls.Constant_str ⟨_, _, rfl, by decide, ?_⟩
  show wpAny _ _ (eval (.FormattedValue (.Name "index" _) (-1) none _) _) _ _ _
  refine wpAny_FormattedValue_plain (wpAny_Name ?_ (by decide))
  refine wpAny_loadName_local rfl (by rfl) (hns.keeps up₂) (by rfl) ?_
  refine told_field V fun y t tk hy => ⟨y, t, rfl, ?len, ?len2, ?_⟩
  case len =>
    rw [str_len, str_len, sizeLine_eq]
    have : (Str.empty.length : Nat) + ("no program: " : Str).length ≤ 1000 := by decide +kernel
    omega
  case len2 =>
    rw [str_len, str_len, sizeLine_eq]
    have : (Str.empty.length : Nat) + ("no program: " : Str).length ≤ 1000 := by decide +kernel
    omega
  refine spliced_nil ⟨Heap.get?_push_at rfl rfl, ?_⟩
  -- ValueError.__init__ bound
  have hu : (h₂.push (kxs_mw "ValueError.__init__" x)).get? h₂.objs.size = some (kxs_mw "ValueError.__init__" x) := Heap.get?_push_at rfl rfl
  have hx₃ := up₂ _ _ hx₁
  have hC₃ := up₂ _ _ (X₁ _ _ hC)
  generalize h₂.push (kxs_mw "ValueError.__init__" x) = h₃ at up₂ hu hx₃ hC₃ ⊢
  refine init_call hC₃ hx₃ hu (by show 1 ≤ sizeLine; rw [sizeLine_eq]; decide) fun h₄ k₄ hx₄ => ?_
  have hL₃ := hns.keeps up₂
  have hns₄ : h₄.Ns s.heap.objs.size (fun y => List.lookup y [(("self" : Str), Value.ref x), ("index", v)].reverse) := by
    obtain ⟨oL, es, ep, hL, r⟩ := hL₃
    exact ⟨oL, es, ep, k₄ _ _ hxL hL, r⟩
  have k0 : ∀ b o, b ≠ x → s.heap.get? b = some o → h₄.get? b = some o := fun b o hb e => k₄ b o hb (up₂ _ _ (hk₁ _ _ e))
  have X₄ : K.In h₄ := fun a o e => k0 a o (fun z => by rw [z, hnx] at e; cases e) (X a o e)
  -- self.index = index
  refine wpAt_of_wpAny (wpAny_execs_cons (plainObj_wpAny_Assign_Attribute ?_))
  refine wpAny_Name (wpAny_loadName_local rfl (by rfl) hns₄ (by rfl) ?_) (by decide)
  refine wpAny_Name (wpAny_loadName_local rfl (by rfl) hns₄ (by rfl) ?_) (by decide)
  refine set_plain X₄ (ox := excO C h₃.objs.size) (od := none) ⟨hx₄, rfl, rfl, trivial⟩ T.sa ?_
  refine exc_osa X₄ hx₄ hcl (show refsVE (.ref C :: bm) = true from hbm) rfl T.noN (fun h₅ tk₅ dx k₅ dn dne hx₅ hn₅ => ?_)
  show wpAny _ _ (execs _ _) _ _ _
  have zz : s.heap.objs.size ≤ h₄.objs.size := Nat.le_of_lt hns₄.lt
  exact wpAny_execs_nil (hq h₅ tk₅ dx _ ⟨fun b o hb e => k₅ b o hb (k0 b o hb e), hx₅, Nat.le_trans zz dn, dne, hn₅⟩)
/-- a made BadProgram -/
structure OwnMade (h h' : Heap) (e C d : Addr) (v : Value) : Prop where
  keep : ∀ b o, h.get? b = some o → h'.get? b = some o
  new : h.objs.size ≤ e
  obj : ∃ oe vs, h'.get? e = some oe ∧ oe.cls = .ref C ∧ oe.dict = some d ∧ oe.data = .fields vs ∧ vs[1]? = some .none
  dbig : h.objs.size ≤ d
  dne : d ≠ e
  ns : h'.Ns1 d (fun y => if y = "index" then some v else none)
theorem made (T : Ty prog K mg C fI cc cda) {v : Value} (V : Told v) (Md : L2.Mod K mg base) (bk : ∀ b o, base.get? b = some o → s.heap.get? b = some o) (hroom : A.depth + 1 < recursionLimit)
    (hq : ∀ h' tk e d, OwnMade s.heap h' e C d v → R (.ok (.ret (.ref e))) { s with heap := h', toks := tk }) : codeAny (model prog w) A (.call (.ref C) ⟨[v], []⟩) R s := by
  obtain ⟨nm, q, N, bs, bm, sn, sub, ab, col, dd, k0, k1, k2, k3, k5, hC, hbm⟩ := T.cls
  obtain ⟨hp, g, dr, tk, os⟩ := s
  have X : K.In hp := fun a o e => bk _ _ (Md.kin a o e)
  have k : ∀ b o, hp.get? b = some o → ((hp.push (kdv_tup [v])).push (excO C hp.objs.size)).get? b = some o := fun b o e => Heap.get?_push_of_some _ (Heap.get?_push_of_some _ e)
  have hget : ((hp.push (kdv_tup [v])).push (excO C hp.objs.size)).get? (hp.objs.size + 1) = some (excO C hp.objs.size) := by heap_get
  have hnx : K.lookup (hp.objs.size + 1) = none := by
    cases e : K.lookup (hp.objs.size + 1) with
    | none => rfl
    | some o =>
      have z : hp.get? (hp.objs.size + 1) = some o := X _ _ e
      exact absurd (Nat.lt_of_succ_lt (Heap.lt_size z)) (Nat.lt_irrefl _)
  have one : [v].length ≤ sizeLine := by
    rw [sizeLine_eq]
    exact (by decide : 1 ≤ 16777216)
  refine call_own F.excBase_ValueError (fun Y => refsVE_contains Y bm hbm) (X _ _ hC) (looks_findIn X T.iC) (fun self => bind_fn X self T.tC) one ?_
  refine init_ok (s := ⟨(hp.push (kdv_tup [v])).push (excO C hp.objs.size), g, dr, tk, os⟩) T V Md (fun b o e => k b o (bk b o e)) hget hnx ?_ fun h' tk' dx t1 ⟨k', hx, dn, dne, hns⟩ => ?_
  · show A.depth + 1 < recursionLimit
    exact hroom
  · have old : ∀ b o, hp.get? b = some o → h'.get? b = some o := fun b o e => k' b o (Nat.ne_of_lt (Nat.lt_succ_of_lt (Heap.lt_size e))) (k b o e)
    have z : hp.objs.size + 1 + 1 ≤ dx := by
      first
        | (simpa only [Heap.size_push] using dn)
        | exact dn
        | (have q := dn; rw [Heap.size_push, Heap.size_push] at q; exact q)
    exact ⟨rfl, hq h' tk' (hp.objs.size + 1) dx ⟨old, Nat.le_succ _, ⟨_, _, hx, rfl, rfl, rfl, rfl⟩, Nat.le_trans (Nat.le_trans (Nat.le_succ _) (Nat.le_succ _)) z, dne, hns⟩⟩
end
open L2
theorem relO_fld {v : V} {v' : Value} (r : RelV v v') (f : Str) : RelO (List.lookup f [(("index" : Str), v)]) (if f = "index" then some v' else none) := by
  by_cases hw : f = "index"
  · subst hw
    rw [if_pos rfl]
    have q : List.lookup ("index" : Str) [(("index" : Str), v)] = some v := by simp [List.lookup]
    rw [q]
    exact r
  · rw [if_neg hw]
    have qw : (f == ("index" : Str)) = false := by simpa using hw
    have q2 : List.lookup f [(("index" : Str), v)] = none := by simp [List.lookup, qw]
    rw [q2]
    trivial
/-- a value that may be told -/
def ToldV (v : V) : Prop := v = .non ∨ (∃ i, v = .int i ∧ i.natAbs.log2 < 1920) ∨ ∃ y, v = .str y ∧ y.length ≤ 1000
theorem ToldV.told {v : V} {u : Value} (h : ToldV v) (r : RelV v u) : Told u := by
  rcases h with rfl | ⟨i, rfl, hi⟩ | ⟨y, rfl, hy⟩
  · exact .inl r
  · obtain ⟨t, rfl⟩ := r
    exact .inr (.inl ⟨i, t, rfl, hi⟩)
  · obtain ⟨t, rfl⟩ := r
    exact .inr (.inr ⟨y, t, rfl, hy⟩)
section
variable {X : Cx} {C fI cc cda : Addr}
/-- BadProgram(e) -/
def tMk (C : Addr) (ta : TA) : L2.St → Hp → XK → Prop := fun σ H Q => ta σ H fun vs H1 => ∃ v, vs = [v] ∧ ToldV v ∧ ∀ d, H1 d = none → Q (.ref C) (some d) (upd H1 d (.xd [(("index" : Str), v)]))
theorem pmk {a : Expr} {ta : TA} {p pos : Pos} {k : Nat} (T : Ty X.prog X.K X.mg C fI cc cda) (hr : Room k X.A) (ha : PA X [a] ta) (hg : Gl X "BadProgram" := by rfl)
    (he : starEach (a :: []) X.env = (false, eval a X.env) :: starEach [] X.env := by rfl) (hpl : (backTo pos (starEach [] X.env)).any (·.1) = false := by rfl) :
    PMk X (.Call (.Name "BadProgram" p) [a] [] pos) (tMk C ta) := by
  intro pins s σ H Q I h
  refine wpAny_Call_Name_kw (ld_glob I hg T.gC ?_)
  refine PySem.W.callWith_K (h₀ := X.base) I.ok.mod.kin T.kC (thn (ha.run pos pins s σ H _ I h) fun us s1 hh => ?_) he hpl
  obtain ⟨vs, H1, I1, r1, v, ev, tv, q1⟩ := hh
  subst ev
  refine ⟨I1.kIn, ?_⟩
  cases r1 with
  | cons rv rn =>
    rename_i v' us'
    cases rn
    show wpAny _ _ (call (.ref C) [v']) _ _ _
    have bk1 := I1.bk
    obtain ⟨hp, g, dr, tk, os⟩ := s1
    refine wpAny_call (made T (tv.told rv) I1.ok.mod bk1 (by have := hr.dp; omega) fun h' tk' e d M => ?_)
    show MkP X pins σ Q (.ref e) ⟨h', g, dr, tk', os⟩
    obtain ⟨oe, fv, hoe, hc, hd, hdat, h1⟩ := M.obj
    have hns := M.ns
    obtain ⟨G', g1, g2⟩ := restrict h' fun b => decide (b ≠ e)
    have gk : ∀ b, b ≠ e → G'.get? b = h'.get? b := fun b hb => g1 b (decide_eq_true hb)
    have ge : G'.get? e = none := g2 e (by simp)
    have old : ∀ b o, hp.get? b = some o → G'.get? b = some o := fun b o q => (gk b (Nat.ne_of_lt (Nat.lt_of_lt_of_le (Heap.lt_size q) M.new))).trans (M.keep b o q)
    have ob : ObjOk X.prog X.w (upd H1 d (.xd [(("index" : Str), v)])) G' d (.xd [(("index" : Str), v)]) :=
      ⟨_, hns.at (fun o q => (gk d M.dne).trans q), fun f => relO_fld rv f⟩
    have J : Inv X pins σ (upd H1 d (.xd [(("index" : Str), v)])) ⟨G', g, dr, tk', os⟩ := I1.laid (t' := tk') old M.dbig ob
    refine ⟨e, oe, fv, ⟨G', g, dr, tk', os⟩, _, .ref C, some d, rfl, J, fun b o q => ?_, ge, hoe, ⟨hc, hd⟩, hdat, h1, ?_, rfl, I1.bare, raises_own T.exC T.tyC, q1 d (I1.hok.fresh M.dbig)⟩
    · by_cases hb : b = e
      · have q' : G'.get? b = some o := q
        rw [hb, ge] at q'; cases q'
      · exact (gk b hb).symm.trans q
    · rw [upd_ne (Ne.symm M.dne)]
      exact I1.hok.fresh M.new
/-- raise BadProgram(e) -/
def tRaise (C : Addr) (W : WX) (ta : TA) : TS := fun _ σ H => tMk C ta σ H fun cls d H' => W cls d σ H'
theorem ps_raise_ {a : Expr} {ta : TA} {W : WX} {p pos pos2 : Pos} {k : Nat} (hc : X.calm = true) (T : Ty X.prog X.K X.mg C fI cc cda) (hr : Room k X.A) (tk : Takes X W) (ha : PA X [a] ta) (hg : Gl X "BadProgram" := by rfl)
    (he : starEach (a :: []) X.env = (false, eval a X.env) :: starEach [] X.env := by rfl) (hpl : (backTo pos (starEach [] X.env)).any (·.1) = false := by rfl) :
    PS X (.Raise (some (.Call (.Name "BadProgram" p) [a] [] pos)) none pos2) (tRaise C W ta) := ps_raise hc tk (pmk T hr ha hg he hpl)
/-- e.index, e the exception that the suite holds -/
def tBy (C : Addr) (a : Addr) (cls : Value) (d : Option Addr) (te : TE) : TE := fun σ H Q => te σ H fun x H1 => x = .ref a ∧ cls = .ref C ∧ ∃ (dd : Addr) (v : V), d = some dd ∧ H1 dd = some (.xd [(("index" : Str), v)]) ∧ Q v H1
theorem pe_by {a : Addr} {oe : Obj} {cls : Value} {d : Option Addr} {pn : List (Addr × Obj)} {e : Expr} {te : TE} {pos : Pos} (T : Ty X.prog X.K X.mg C fI cc cda) (hz : Zc cls d oe) (hf : ∃ vs, oe.data = .fields vs) (he : PE (X.suite a ((a, oe) :: pn)) e te)
    (hb : attributeBase e "index" X.env (eval e X.env) = eval e X.env := by rfl) :
    PE (X.suite a ((a, oe) :: pn)) (.Attribute e "index" pos) (tBy C a cls d te) := by
  refine ⟨fun pins s σ H Q I h => ?_⟩
  refine attr_of hb (thn (he.run pins s σ H _ I h) fun u s1 hh => ?_)
  obtain ⟨x, H1, I1, rx, ex, ec, dd, v, ed, ea, q⟩ := hh
  subst ex
  obtain rfl : u = Value.ref a := rx
  subst ec
  subst ed
  obtain ⟨ha, _⟩ := I1.pin (a, oe) (List.mem_append_left _ List.mem_cons_self)
  obtain ⟨vs, hd⟩ := hf
  have hx : ObjOk X.prog X.w H1 s1.heap dd (.xd [(("index" : Str), v)]) := I1.hok dd _ ea
  obtain ⟨mA, hns, hr⟩ := hx
  obtain ⟨od, ho, hl⟩ := lookIn_ns hns
  have l : List.lookup ("index" : Str) [(("index" : Str), v)] = some v := by simp [List.lookup]
  obtain ⟨u, hu, ru⟩ := RelO.some_of (v := v) (o := mA "index") (by rw [← l]; exact hr "index")
  have J : PySem.W.InstAt s1.heap a oe C (some od) := ⟨ha, hz.1, by unfold PySem.W.notCls; rw [hd] <;> rfl, by rw [hz.2]; exact ho⟩
  exact HandSPX.exc_get I1.kIn J T.ga T.gg T.exC (PySem.W.findObj_own T.hdC T.noN rfl (by rw [hl, hu])) (handed_of ru) ⟨v, H1, I1.tok _, ru, q⟩
end
end NS_BadProgram
end Fm
set_option Elab.async false
set_option linter.all false
set_option maxRecDepth 100000
set_option maxHeartbeats 1000000
namespace Fm
open PySem L2 Evl
/-- an own class that says no more than its name, under ValueError -/
structure BaseE (K : PySem.W.Frag) (mg : Str → Option Value) (x : Str) (C : Addr) : Prop where
  gC : mg x = some (.ref C)
  kC : PySem.W.keepIn K (.ref C) = true
  q : PySem.W.excIn K C [.type "ValueError", .type "Exception", .type "BaseException", .type "object"] "ValueError.__new__" = true
  ex : PySem.W.subIn K (.ref C) (.type "BaseException") = some true
  ty : PySem.W.typeIn K (.ref C) = some (.type "type")
  te : PySem.W.exmOne K (.ref C) (.ref C) = some true
theorem log_small {i : Int} (h1 : -1000000 ≤ i) (h2 : i ≤ 1000000) : i.natAbs.log2 < 1920 := by
  have h : i.natAbs < 2 ^ 20 := by omega
  by_cases z : i.natAbs = 0
  · rw [z]; decide
  · have := (Nat.log2_lt z).mpr h
    omega
theorem text_len {i : Int} (h1 : -1000000 ≤ i) (h2 : i ≤ 1000000) : (Str.ofString (toString i)).length ≤ 10000 := by
  have e := int_text_length_le (k := 1920) (by decide) (log_small h1 h2)
  rw [PySem.ofString_length]
  omega
theorem strA (a b : Str) : (a ++ b).length = a.length + b.length := Array.size_append
def spChkNumX (K : PySem.W.Frag) (C : Addr) : Sp := fun vs H _ E => ∃ (v : V) (lo hi : Int) (o : Option Int), vs = [v, .int lo, .int hi] ∧ IntV K H v o ∧ inRange o lo hi = false ∧ -1000000 ≤ lo ∧ lo ≤ 1000000 ∧ -1000000 ≤ hi ∧ hi ≤ 1000000 ∧ ∀ H', Ex H H' → E (.ref C) none H'
section
variable {P : Program} {w : World} {K : PySem.W.Frag} {mg : Str → Option Value} {base : Heap}

--TY check_number {'@over':{'raise':{'BadNumber':'own1'}}}
theorem okX_check_number {f f1 CBN : Addr} {fd fd1 : FuncData} (F : Fun K "check_number" "check_number" s_check_number f fd) (T : Txt K mg) (B_BadNumber : BaseE K mg "BadNumber" CBN) (C_is_integer : Cal P w K mg base CX0 2 "is_integer" f1 fd1 ["value", "low", "high"] (spIsInt K)) : FnOk P w K mg base (L2.CX P w) 3 f fd ["value", "low", "high"] (spChkNumX K CBN) := by
  refine F.okX sc_check_number (fun vs H Q E h => ?_) (fun cdv A outer s H vs Q E hr h => ?_)
  · obtain ⟨_, _, _, _, rfl, _⟩ := h
    rfl
  · obtain ⟨v, lo, hi, o, rfl, hv, ho, h1, h2, h3, h4, k⟩ := h
    refine ⟨_, (pss_one (ps_if (pt_not (pt_val (pe_call C_is_integer.G (hr.mono (by first | decide | omega)) rfl C_is_integer.g C_is_integer.kp C_is_integer.b .nil pass0 (pa_cons (pv 0) (pa_cons (pv 1) (pa_cons (pv 2) pa_nil)))))) (pss_one (ps_raise rfl (takes_of rfl rfl rfl rfl) (SkE.pmk_own1 PySem.F.excBase_ValueError B_BadNumber.q B_BadNumber.gC B_BadNumber.kC (raises_own B_BadNumber.ex B_BadNumber.ty) rfl (pe_joined (PJ.cons pe_str (PJ.cons (pe_fmt (pv 1)) (PJ.cons pe_str (PJ.cons (pe_fmt (pv 2)) PJ.nil)))))))) pss_nil)), ?_⟩
    refine s_when (b := true) (et_not (a := false) (et_B (ev_callV (ea_cons (ev_var rfl) (ea_cons (ev_var rfl) (ea_cons (ev_var rfl) ea_nil))) fun H1 e1 Q q => ⟨_, lo, hi, o, rfl, hv.up e1, fun H2 e2 => ?_⟩))) (fun _ H1 e1 => ?_) fun z => nomatch z
    · rw [ho]
      exact q H2 e2
    · have l1 := text_len h1 h2
      have l2 := text_len h3 h4
      refine ⟨_, rfl, ?_, ?_⟩
      · rw [strA, sizeLine_eq]
        decide +kernel
      refine ⟨_, rfl, .inr ⟨lo, rfl, log_small h1 h2, _, rfl, ?_, ?_⟩⟩
      · rw [strA, strA, sizeLine_eq]
        have : (Str.empty.length : Nat) + ("no integer from " : Str).length ≤ 1000 := by decide +kernel
        omega
      refine ⟨_, rfl, ?_, ?_⟩
      · rw [strA, strA, strA, sizeLine_eq]
        have : (Str.empty.length : Nat) + ("no integer from " : Str).length + (" to " : Str).length ≤ 1000 := by decide +kernel
        omega
      refine ⟨_, rfl, .inr ⟨hi, rfl, log_small h3 h4, _, rfl, ?_, ?_⟩⟩
      · rw [strA, strA, strA, strA, sizeLine_eq]
        have : (Str.empty.length : Nat) + ("no integer from " : Str).length + (" to " : Str).length ≤ 1000 := by decide +kernel
        omega
      exact k H1 e1
end
/-- what is no tuple of so many -/
def BadLen (K : PySem.W.Frag) (H : Hp) (v : V) (m : Nat) : Prop := (∃ t, TyX K H v (.type t) ∧ kitB t "tuple" = some false) ∨ ∃ a xs, v = .ref a ∧ SqT K H a xs ∧ ¬ (1 ≤ xs.length ∧ xs.length ≤ m)
theorem BadLen.up {K : PySem.W.Frag} {H H' : Hp} {v : V} {m : Nat} (e : Ex H H') (h : BadLen K H v m) : BadLen K H' v m := by
  rcases h with ⟨t, h, z⟩ | ⟨a, xs, h, h2, z⟩
  · exact .inl ⟨t, tyx_up e h, z⟩
  · exact .inr ⟨a, xs, h, ex_t e h2, z⟩
def ErrIx (CBP : Addr) (H : Hp) (E : XK) : Prop := ∀ d H', Ex H H' → H' d = none → E (.ref CBP) (some d) (upd H' d (.xd [(("index" : Str), .non)]))
def spChkLenX (K : PySem.W.Frag) (C : Addr) : Sp := fun vs H _ E => ∃ (v : V) (m : Nat), vs = [v, .int (m : Nat)] ∧ BadLen K H v m ∧ ErrIx C H E
def spChkPgX (K : PySem.W.Frag) (C : Addr) : Sp := fun vs H _ E => ∃ (c : Int) (v : V), vs = [.int c, v] ∧ BadLen K H v 20 ∧ ErrIx C H E
theorem ErrIx.up {C : Addr} {H H' : Hp} {E : XK} (e : Ex H H') (h : ErrIx C H E) : ErrIx C H' E := fun d H2 e2 hd => h d H2 (e.trans e2) hd
section
variable {P : Program} {w : World} {K : PySem.W.Frag} {mg : Str → Option Value} {base : Heap}
theorem q_callX {sp : Sp} {W : L2.St → XK} {ta : TA} {vs : List V} {D : Ends} {tz : TS} {σ : L2.St} {H : Hp} (h : EvA ta σ H vs) (k : ∀ H1, Ex H H1 → sp vs H1 (fun _ H2 => tz D σ H2) (W σ)) : tSeq (tDrop (tCallS sp W ta)) tz D σ H := h H (Ex.refl H) _ k
theorem s_callX {sp : Sp} {W : L2.St → XK} {ta : TA} {vs : List V} {D : Ends} {σ : L2.St} {H : Hp} (h : EvA ta σ H vs) (k : ∀ H1, Ex H H1 → sp vs H1 (fun _ H2 => D.nx σ H2) (W σ)) : tDrop (tCallS sp W ta) D σ H := h H (Ex.refl H) _ k
--TY check_length {'value':('tuple','any'),'@over':{'raise':{'BadProgram':'sup'}}}
theorem okX_check_length {f CBP fI cc cda : Addr} {fd : FuncData} (F : Fun K "check_length" "check_length" s_check_length f fd) (T : Txt K mg) (T_BadProgram : NS_BadProgram.Ty P K mg CBP fI cc cda) : FnOk P w K mg base (L2.CX P w) 3 f fd ["value", "most"] (spChkLenX K CBP) := by
  refine F.okX sc_check_length (fun vs H Q E h => ?_) (fun cdv A outer s H vs Q E hr h => ?_)
  · obtain ⟨_, _, rfl, _⟩ := h
    rfl
  · obtain ⟨v, m, rfl, hb, k⟩ := h
    refine ⟨_, (pss_one (ps_if (PW.pt (pw_or (pt_not (pt_val (pe_callB (isi_K (K := K) rfl) (by rfl) T.z_isinstance (by decide +kernel) (pa_cons (pv 0) (pa_cons (pe_bltn (v := .ty "tuple") (by rfl) T.z_tuple (by decide +kernel) rfl) pa_nil))))) (pw_or1 (pt_not (pt_chain op_le op_le pe_int (pe_callB (len_K (K := K) rfl) (by rfl) T.z_len (by decide +kernel) (pa_cons (pv 0) pa_nil)) (pv 1)))))) (pss_one (NS_BadProgram.ps_raise_ rfl T_BadProgram hr (takes_of rfl rfl rfl rfl) (pa_cons pe_non pa_nil))) pss_nil)), ?_⟩
    refine s_when (b := true) ?_ (fun _ H1 e1 => ⟨.non, rfl, .inl rfl, fun d hd => k d H1 e1 hd⟩) fun z => nomatch z
    rcases hb with ⟨t, ty, hk⟩ | ⟨a, xs, rfl, ha, hn⟩
    · exact et_is (et_or (b := true) (et_not (et_B (ev_isi (ev_var rfl) ty hk))) fun z => nomatch z) rfl
    · refine et_is (et_or (b := true) (et_not (et_B (ev_isi (t := "tuple") (b := true) (ev_var rfl) (ty_tup ha) (by decide +kernel)))) fun _ => et_is (et_not (et_test (ev_chain ev_c (ev_lnT (ev_var rfl) ha) (ev_var rfl)))) ?_) rfl
      by_cases h1 : 1 ≤ xs.length
      · rw [decide_eq_true (show (1 : Int) ≤ (xs.length : Int) by omega), decide_eq_false (show ¬ (xs.length : Int) ≤ (m : Int) from fun z => hn ⟨h1, by omega⟩)]
        rfl
      · rw [decide_eq_false (show ¬ (1 : Int) ≤ (xs.length : Int) by omega)]
        rfl
--TY check_program {'value':('tuple','any'),'@over':{'X':1,'S':['check_length']}}
theorem okX_check_program {f f1 f2 CBP : Addr} {fd fd1 fd2 : FuncData} (F : Fun K "check_program" "check_program" s_check_program f fd) (T : Txt K mg) (C_check_lengthX : Cal P w K mg base (L2.CX P w) 3 "check_length" f1 fd1 ["value", "most"] (spChkLenX K CBP)) (C_is_instruction : Cal P w K mg base CX0 3 "is_instruction" f2 fd2 ["cells", "length", "value"] (spIsIn K)) : FnOk P w K mg base (L2.CX P w) 4 f fd ["cells", "value"] (spChkPgX K CBP) := by
  refine F.okX sc_check_program (fun vs H Q E h => ?_) (fun cdv A outer s H vs Q E hr h => ?_)
  · obtain ⟨_, _, rfl, _⟩ := h
    rfl
  · obtain ⟨c, v, rfl, hb, k⟩ := h
    refine ⟨_, (pss_cons (ps_expr (pe_callS C_check_lengthX.G (hr.mono (by first | decide | omega)) rfl C_check_lengthX.g C_check_lengthX.kp C_check_lengthX.b (fun σ => passAt (takes_of rfl rfl rfl rfl) σ) (pa_cons (pv 1) (pa_cons (pe_glob (v := .int 20) rfl T.c_MOST_INSTRUCTIONS.choose_spec ⟨_, rfl⟩) pa_nil))))
  (pss_one (ps_for (passes_of rfl) rfl (pi_enumT (by rfl) T.z_enumerate (pa_cons (pv 1) pa_nil)) (pg_tup rfl (pgs_cons (pg_name (i := 2) sc_check_program.nd rfl (by first | exact Or.inl rfl | exact Or.inr rfl)) (pgs_cons (pg_name (i := 3) sc_check_program.nd rfl (by first | exact Or.inl rfl | exact Or.inr rfl)) pgs_nil))) (pss_one (ps_if (pt_not (pt_val (pe_call C_is_instruction.G (hr.mono (by first | decide | omega)) rfl C_is_instruction.g C_is_instruction.kp C_is_instruction.b .nil pass0 (pa_cons (pv 0) (pa_cons (pe_callB (len_K (K := K) rfl) (by rfl) T.z_len (by decide +kernel) (pa_cons (pv 1) pa_nil)) (pa_cons (pv 3) pa_nil)))))) (pss_one ps_never) pss_nil))))), ?_⟩
    exact q_callX (ea_cons (ev_var rfl) (ea_cons ev_c ea_nil)) fun H1 e1 => ⟨v, 20, rfl, hb.up e1, k.up e1⟩
end
end Fm
set_option Elab.async false
set_option linter.all false
set_option maxRecDepth 100000
set_option maxHeartbeats 1000000
namespace Fm
open PySem L2 Evl
def spReachedX (K : PySem.W.Frag) (C : Addr) : Sp := fun vs H _ E => ∃ (c : Nat) (v : V), vs = [.int (c : Nat), v] ∧ 1 ≤ c ∧ c ≤ 4 ∧ BadLen K H v 20 ∧ ErrIx C H E
def spNeededX (K : PySem.W.Frag) (C : Addr) : Sp := fun vs H _ E => ∃ (a : Addr) (p : List In) (n : Nat) (v : V) (o : Option Int), vs = [.int (n : Nat), .ref a, v] ∧ PgT K H a p ∧ Pok n p ∧ NoT p ∧ p.length ≤ 20 ∧ 1 ≤ n ∧ n ≤ 4 ∧ IntV K H v o ∧ inRange o 0 p.length = false ∧
  ∀ H', Ex H H' → E (.ref C) none H'
section
variable {P : Program} {w : World} {K : PySem.W.Frag} {mg : Str → Option Value} {base : Heap}
--TY reached {'program':T,'places':T,'found':DI,'open_ones':L,'at':'int','place':'int','cells':'int','@over':{'X':1,'S':['check_program']}}
theorem okX_reached {f f1 f2 f3 f4 CBP : Addr} {fd fd1 fd2 fd3 fd4 : FuncData} (F : Fun K "reached" "reached" s_reached f fd) (T : Txt K mg) (C_check_cells : Cal P w K mg base CX0 4 "check_cells" f1 fd1 ["value"] spChkCells) (C_check_programX : Cal P w K mg base (L2.CX P w) 4 "check_program" f2 fd2 ["cells", "value"] (spChkPgX K CBP))
    (C_places_of : Cal P w K mg base CX0 2 "places_of" f3 fd3 ["program"] (spPlaces K)) (C_branches : Cal P w K mg base CX0 2 "branches" f4 fd4 ["program", "places", "at"] (spBranches K)) : FnOk P w K mg base (L2.CX P w) 5 f fd ["cells", "program"] (spReachedX K CBP) := by
  refine F.okX sc_reached (fun vs H Q E h => ?_) (fun cdv A outer s H vs Q E hr h => ?_)
  · obtain ⟨_, _, rfl, _⟩ := h
    rfl
  · obtain ⟨c, v, rfl, hc1, hc2, hb, k⟩ := h
    refine ⟨_, (pss_cons (ps_expr (pe_call C_check_cells.G (hr.mono (by first | decide | omega)) rfl C_check_cells.g C_check_cells.kp C_check_cells.b .nil pass0 (pa_cons (pv 0) pa_nil)))
  (pss_cons (ps_expr (pe_callS C_check_programX.G (hr.mono (by first | decide | omega)) rfl C_check_programX.g C_check_programX.kp C_check_programX.b (fun σ => passAt (takes_of rfl rfl rfl rfl) σ) (pa_cons (pv 0) (pa_cons (pv 1) pa_nil))))
  (pss_cons (ps_set (i := 2) sc_reached.nd rfl (Or.inl rfl) (pe_call C_places_of.G (hr.mono (by first | decide | omega)) rfl C_places_of.g C_places_of.kp C_places_of.b .nil pass0 (pa_cons (pv 1) pa_nil)))
  (pss_cons (ps_set (i := 3) sc_reached.nd rfl (Or.inl rfl) (pe_disp (pps_cons (pe_ix (ix_K (K := K) rfl) (pv 2) pe_int (fun _ _ => rfl)) pe_bl pps_nil) (by rfl) (by rfl) (fun z => by cases z) (by decide)))
  (pss_cons (ps_set (i := 4) sc_reached.nd rfl (Or.inl rfl) (pe_lst (pa_cons (pe_ix (ix_K (K := K) rfl) (pv 2) pe_int (fun _ _ => rfl)) pa_nil)))
  (pss_cons (ps_while (passes_of rfl) (pt_truthK (K := K) rfl (pv 4) (by intro _; rfl)) (pss_cons (ps_set (i := 5) sc_reached.nd rfl (Or.inl rfl) (pe_bm0 PySem.F.plainAttrs_list PySem.F.slot_list_pop PySem.F.type_list_pop mt_pop (pv 4)))
  (pss_cons (ps_if (pt_cmpR op_eq (pv 5) (pe_callB (len_K (K := K) rfl) (by rfl) T.z_len (by decide +kernel) (pa_cons (pv 1) pa_nil)) (nomark _)) (pss_one ps_continue) pss_nil)
  (pss_one (ps_for (passes_of rfl) rfl (pi_tupK (K := K) rfl (pe_call C_branches.G (hr.mono (by first | decide | omega)) rfl C_branches.g C_branches.kp C_branches.b .nil pass0 (pa_cons (pv 1) (pa_cons (pv 2) (pa_cons (pv 5) pa_nil))))) (pg_name (i := 6) sc_reached.nd rfl (by first | exact Or.inl rfl | exact Or.inr rfl)) (pss_one (ps_if (pt_cmp (pc_dnotin (hu_of hr) (pv 6) (pv 3)) rfl) (pss_cons (ps_dput (hu_of hr) (pv 3) (pv 6) pe_bl rfl)
  (pss_one (ps_expr (pe_bm PySem.F.plainAttrs_list PySem.F.slot_list_append PySem.F.type_list_append mt_append (pv 4) (pa_cons (pv 6) pa_nil))))) pss_nil)))))))
  (pss_one (ps_ret (pe_callTy (tpl_K (K := K) rfl) (by rfl) T.z_tuple (by decide +kernel) (pa_cons (pe_lc (own := [("at", 5)]) (g := gName 5) rfl sc_reached.nd (pi_listK (K := K) rfl (pe_callB (call_sortedDI rfl) (by rfl) T.z_sorted (by decide +kernel) (pa_cons (pv 3) pa_nil))) (blkOk_by (by kernel_rfl)) (fun _ _ _ _ _ => pg_name (i := 5) sc_reached.nd rfl (by first | exact Or.inl rfl | exact Or.inr rfl)) (fun _ _ _ _ _ => (pts_one (pt_cmpR op_ne (pv 5) (pe_callB (len_K (K := K) rfl) (by rfl) T.z_len (by decide +kernel) (pa_cons (pv 1) pa_nil)) (nomark _)))) (fun _ _ _ _ _ => (pv 5))) pa_nil)))))))))), ?_⟩
    refine q_call (ea_cons (ev_var rfl) ea_nil) fun H1 e1 => ⟨c, rfl, hc1, hc2, fun H2 e2 => ?_⟩
    have e02 := e1.trans e2
    exact q_callX (ea_cons (ev_var rfl) (ea_cons (ev_var rfl) ea_nil)) fun H3 e3 => ⟨(c : Int), v, rfl, hb.up (e02.trans e3), k.up (e02.trans e3)⟩
--TY needed {'program':T,'cells':'int','index':'int','marks':('tuple','bool'),'cell':'int','@over':{'X':1,'S':['check_number']}}
theorem okX_needed {f f1 f2 f3 f4 CBN : Addr} {fd fd1 fd2 fd3 fd4 : FuncData} (F : Fun K "needed" "needed" s_needed f fd) (T : Txt K mg) (C_check_cells : Cal P w K mg base CX0 4 "check_cells" f1 fd1 ["value"] spChkCells) (C_check_program : Cal P w K mg base CX0 4 "check_program" f2 fd2 ["cells", "value"] (spChkPg K))
    (C_check_numberX : Cal P w K mg base (L2.CX P w) 3 "check_number" f3 fd3 ["value", "low", "high"] (spChkNumX K CBN)) (C_marks_of : Cal P w K mg base CX0 5 "marks_of" f4 fd4 ["cells", "program"] (spMarks K)) : FnOk P w K mg base (L2.CX P w) 6 f fd ["cells", "program", "index"] (spNeededX K CBN) := by
  refine F.okX sc_needed (fun vs H Q E h => ?_) (fun cdv A outer s H vs Q E hr h => ?_)
  · obtain ⟨_, _, _, _, _, rfl, _⟩ := h
    rfl
  · obtain ⟨a, p, n, v, o, rfl, hp, hok, hT, hl, hn1, hn2, hv, ho, k⟩ := h
    refine ⟨_, (pss_cons (ps_expr (pe_call C_check_cells.G (hr.mono (by first | decide | omega)) rfl C_check_cells.g C_check_cells.kp C_check_cells.b .nil pass0 (pa_cons (pv 0) pa_nil)))
  (pss_cons (ps_expr (pe_call C_check_program.G (hr.mono (by first | decide | omega)) rfl C_check_program.g C_check_program.kp C_check_program.b .nil pass0 (pa_cons (pv 0) (pa_cons (pv 1) pa_nil))))
  (pss_cons (ps_expr (pe_callS C_check_numberX.G (hr.mono (by first | decide | omega)) rfl C_check_numberX.g C_check_numberX.kp C_check_numberX.b (fun σ => passAt (takes_of rfl rfl rfl rfl) σ) (pa_cons (pv 2) (pa_cons pe_int (pa_cons (pe_callB (len_K (K := K) rfl) (by rfl) T.z_len (by decide +kernel) (pa_cons (pv 1) pa_nil)) pa_nil)))))
  (pss_cons (ps_set (i := 3) sc_needed.nd rfl (Or.inr rfl) (pe_ix (ix_K (K := K) rfl) (pe_call C_marks_of.G (hr.mono (by first | decide | omega)) rfl C_marks_of.g C_marks_of.kp C_marks_of.b .nil pass0 (pa_cons (pv 0) (pa_cons (pv 1) pa_nil))) (pv 2) (fun _ _ => rfl)))
  (pss_one (ps_ret (pe_callTy (tpl_K (K := K) rfl) (by rfl) T.z_tuple (by decide +kernel) (pa_cons (pe_lc (own := [("cell", 4)]) (g := gName 4) rfl sc_needed.nd (pi_range1 rfl T.z_range (pa_cons (pv 0) pa_nil)) (blkOk_by (by kernel_rfl)) (fun _ _ _ _ _ => pg_name (i := 4) sc_needed.nd rfl (by first | exact Or.inl rfl | exact Or.inr rfl)) (fun _ _ _ _ _ => (pts_one (pt_val (pe_ix (ix_K (K := K) rfl) (pv 3) (pv 4) (fun _ _ => rfl))))) (fun _ _ _ _ _ => (pv 4))) pa_nil)))))))), ?_⟩
    refine q_call (ea_cons (ev_var rfl) ea_nil) fun H1 e1 => ⟨n, rfl, hn1, hn2, fun H2 e2 => ?_⟩
    have e02 := e1.trans e2
    refine q_call (ea_cons (ev_var rfl) (ea_cons (ev_var rfl) ea_nil)) fun H3 e3 => ⟨n, a, p, rfl, hp.up (e02.trans e3), hok, hT, hl, fun H4 e4 => ?_⟩
    have e04 := (e02.trans e3).trans e4
    exact q_callX (ea_cons (ev_var rfl) (ea_cons ev_c (ea_cons (ev_lnP (hp.up e04) (ev_var rfl)) ea_nil))) fun H5 e5 => ⟨v, 0, (p.length : Int), o, rfl, hv.up (e04.trans e5), ho, by omega, by omega, by omega, by omega, fun H6 e6 => k H6 ((e04.trans e5).trans e6)⟩
end
end Fm
set_option Elab.async false
set_option linter.all false
set_option maxRecDepth 100000
set_option maxHeartbeats 1000000
namespace Fm
open PySem L2 Evl
def keepB (p : List In) (L : List Nat) (x : Nat) : Bool := !((lnx p x).filter fun z => decide (z ∈ L)).isEmpty
theorem keepB_iff {p : List In} {L : List Nat} {x : Nat} (hx : x < p.length) : keepB p L x = true ↔ ∃ z, z ∈ brs p x ∧ z ∈ L := by
  unfold keepB
  cases h : (lnx p x).filter fun z => decide (z ∈ L) with
  | nil =>
    constructor
    · intro z; cases z
    · rintro ⟨z, h1, h2⟩
      have : z ∈ (lnx p x).filter fun z => decide (z ∈ L) := List.mem_filter.mpr ⟨(lnx_mem hx).mpr h1, decide_eq_true h2⟩
      rw [h] at this
      cases this
  | cons z zs =>
    have : z ∈ (lnx p x).filter fun z => decide (z ∈ L) := h ▸ List.mem_cons_self
    have h2 := List.mem_filter.mp this
    exact ⟨fun _ => ⟨z, (lnx_mem hx).mp h2.1, of_decide_eq_true h2.2⟩, fun _ => rfl⟩
structure Lw (p : List In) (L : List Nat) : Prop where
  nd : L.Nodup
  re : ∀ x ∈ L, Reach p x ∧ x < p.length
  go : ∀ x, Reach p x → GoOn p x → x ∈ L
def Stab (p : List In) (L : List Nat) : Prop := ∀ x ∈ L, keepB p L x = true
theorem Lw.len {p : List In} {L : List Nat} (h : Lw p L) : L.length ≤ p.length := nodup_le _ _ h.nd fun x hx => (h.re x hx).2
theorem Lw.cut {p : List In} {L : List Nat} (h : Lw p L) : Lw p (L.filter (keepB p L)) := by
  refine ⟨h.nd.filter _, fun x hx => h.re x (List.mem_filter.mp hx).1, fun x r g => List.mem_filter.mpr ⟨h.go x r g, ?_⟩⟩
  have hl := (h.re x (h.go x r g)).2
  obtain ⟨S, hS, hc⟩ := g
  obtain ⟨_, y, hy, hSy⟩ := hc x hS
  exact (keepB_iff hl).mpr ⟨y, hy, h.go y (.step r hl hy) ⟨S, hSy, hc⟩⟩
theorem Lw.round {p : List In} {L : List Nat} {t : Nat} (hi : Stab p L ∨ L.length + t ≤ p.length) : Stab p (L.filter (keepB p L)) ∨ (L.filter (keepB p L)).length + (t + 1) ≤ p.length := by
  by_cases hs : Stab p L
  · have : L.filter (keepB p L) = L := List.filter_eq_self.mpr hs
    rw [this]
    exact .inl hs
  · have h1 : (L.filter (keepB p L)).length < L.length := by
      have h2 := List.length_filter_le (keepB p L) L
      by_cases z : (L.filter (keepB p L)).length = L.length
      · exact absurd (fun x hx => (List.length_filter_eq_length_iff.mp z) x hx) hs
      · omega
    rcases hi with h | h
    · exact absurd h hs
    · exact .inr (by omega)
theorem goOn_back {c : Nat} {p : List In} (hok : Pok c p) {x : Nat} (r : Reach p x) (g : GoOn p x) : GoOn p (stE p 0) := by
  induction r with
  | start => exact g
  | @step i j ri hi hj ih =>
    refine ih ?_
    obtain ⟨S, hS, hc⟩ := g
    have hst : Sta p i := by
      rcases ri.sta hok with z | z
      · omega
      · exact z
    refine ⟨fun z => S z ∨ z = i, .inr rfl, ?_⟩
    rintro z (hz | rfl)
    · obtain ⟨h1, y, h2, h3⟩ := hc z hz
      exact ⟨h1, y, h2, .inl h3⟩
    · exact ⟨hst, j, hj, .inl hS⟩
theorem left_go {c : Nat} {p : List In} {L : List Nat} (hok : Pok c p) (h : Lw p L) (hi : Stab p L ∨ L.length + p.length ≤ p.length) : goB p = !L.isEmpty := by
  rw [Bool.eq_iff_iff, goB_iff]
  constructor
  · intro g
    have := h.go _ .start g
    cases L with
    | nil => cases this
    | cons y ys => rfl
  · intro hn
    cases L with
    | nil => cases hn
    | cons y ys =>
      have hs : Stab p (y :: ys) := by
        rcases hi with h | h
        · exact h
        · rw [List.length_cons] at h
          omega
      have hy := h.re y List.mem_cons_self
      refine goOn_back hok hy.1 ⟨fun z => z ∈ y :: ys, List.mem_cons_self, fun z hz => ?_⟩
      have hz2 := h.re z hz
      refine ⟨?_, ?_⟩
      · rcases hz2.1.sta hok with e | e
        · omega
        · exact e
      · obtain ⟨w, h1, h2⟩ := (keepB_iff hz2.2).mp (hs z hz)
        exact ⟨w, h1, h2⟩
theorem inV_toI {p : List In} {z : Nat} {L : List Nat} (hz : z ≤ p.length) (hL : ∀ x ∈ L, x < p.length) : inV (.int (toI p z)) (nV L) = decide (z ∈ L) := by
  by_cases h : z < p.length
  · rw [toI_lt h, inV_nV]
  · have hzn : z = p.length := by omega
    have hn : z ∉ L := fun q => by have := hL z q; omega
    rw [decide_eq_false hn]
    have : toI p z = -1 := by unfold toI; rw [if_pos hzn]
    rw [this]
    unfold inV nV
    rw [List.any_map, Bool.eq_false_iff]
    intro q
    obtain ⟨x, _, hx⟩ := List.any_eq_true.mp q
    have : ((x : Int) == (-1 : Int)) = true := hx
    have := eq_of_beq this
    omega
section
variable {K : PySem.W.Frag} {σ : L2.St} {H : Hp} {ta tb te : TE} {tr tA : TA} {D : Ends} {tz tu : TS} {t : TT} {tt : TT} {Q : VK} {x : V} {r : R2}
theorem q_unless {sp : Sp} {E : XK} (h : tA σ H fun vs H1 => sp (vs ++ []) H1 (fun x H2 => ∃ c, x = .bl c ∧ (if (!c) = true then tu { D with nx := tz D } σ H2 else tNext { D with nx := tz D } σ H2)) E) : tSeq (tIfS (tNot (tB (tCall sp [] E tA))) tu tNext) tz D σ H := h
theorem m_consCall {sp : Sp} {E : XK} {vs : List V} {Q : List V → Hp → Prop} (h : EvA tA σ H vs) (k : ∀ H1, Ex H H1 → sp (vs ++ []) H1 (fun x H2 => tr σ H2 fun xs H3 => Q (x :: xs) H3) E) : tCons (tCall sp [] E tA) tr σ H Q := h H (Ex.refl H) _ k
theorem m_consCallR {sp : Sp} {E : XK} {Q : List V → Hp → Prop} (h : tA σ H fun vs H1 => sp (vs ++ []) H1 (fun x H2 => tr σ H2 fun xs H3 => Q (x :: xs) H3) E) : tCons (tCall sp [] E tA) tr σ H Q := h
theorem m_consTpl {tr' : TA} {Q : List V → Hp → Prop} (h : tr' σ H fun xs H1 => rTpl K xs H1 fun x H2 => tr σ H2 fun ys H3 => Q (x :: ys) H3) : tCons (tCB (rTpl K) tr') tr σ H Q := h
theorem ev_neNilV {a : Addr} {zs : List Int} (ha : Ev ta σ H (.ref a)) (hq : SqL K H a (zs.map V.int)) : Ev (tOp (rNeD K) ta (tLst tNil)) σ H (.bl (!zs.isEmpty)) := fun H1 e Q q => ha H1 e _ fun H2 e2 => ⟨Nat.zero_le _, fun l hl => by
  refine ⟨_, _, .lst (ex_l ((e.trans e2).trans (Ex.new hl)) hq) (dp_ints zs), .lst (sq_of upd_same) (dp_ints []), iD_shaped _, iD_shaped _, ?_⟩
  rw [eqv_nil]
  exact q _ (e2.trans (Ex.new hl))⟩
end
end Fm
set_option Elab.async false
set_option linter.all false
set_option maxRecDepth 100000
set_option maxHeartbeats 8000000
namespace Fm
open PySem L2 Evl
section
variable {K : PySem.W.Frag} {σ : L2.St} {H : Hp} {ta tb te : TE} {tr tA : TA} {D : Ends} {tz tu : TS} {t : TT} {tt : TT} {Q : VK} {x : V} {r : R2}
theorem q_try2 {sp : Sp} {Wf : Ends → L2.St → XK} (h : tA σ H fun vs H1 => sp vs H1 (fun _ H2 => tu { D with nx := tz D } σ H2) (Wf { D with nx := tz D } σ)) : tSeq (fun D σ H => tSeq (tDrop (tCallS sp (Wf D) tA)) tu D σ H) tz D σ H := h
theorem q_try1 {sp : Sp} {Wf : Ends → L2.St → XK} (h : tA σ H fun vs H1 => sp vs H1 (fun _ H2 => tz D σ H2) (Wf { D with nx := tz D } σ)) : tSeq (fun D σ H => tDrop (tCallS sp (Wf D) tA) D σ H) tz D σ H := h
theorem m_consRep {k : Int} {Q : List V → Hp → Prop} (h : tA σ H fun xs H1 => xs.length ≤ sizeLine ∧ ∀ p, H1 p = none → rRepT K (.ref p) (.int k) (upd H1 p (.tup xs)) fun x H2 => tr σ H2 fun ys H3 => Q (x :: ys) H3) : tCons (tOp (rRepT K) (tTup tA) (tC (.int k))) tr σ H Q := h
theorem m_tupU {vs : List V} {Q : List V → Hp → Prop} (h : EvU te σ H vs) (k : ∀ p H1, H p = none → Ex H H1 → H1 p = some (.tup vs) → Q [.ref p] H1) : tCons te tNil σ H Q := h H (Ex.refl H) _ k
end
def spLaw (K : PySem.W.Frag) : Sp := fun vs H Q _ => ∃ (s : Addr) (ns : List Int), vs = [.ref s] ∧ SqL K H s (ns.map V.int) ∧ ∀ H', Q (.bl true) H'
section
variable {P : Program} {w : World} {K : PySem.W.Frag} {mg : Str → Option Value} {base : Heap}
abbrev s_law : Stmt := top 39
theorem sc_law : FnScope ["script", "row", "cells", "program", "index", "due", "left", "turn", "e", "one", "other"] ["script"] (defScope s_law) := ⟨rfl, rfl, rfl, by decide +kernel, rfl, by decide +kernel, by decide +kernel⟩
--TY law {'row':L,'program':T,'left':L,'due':L,'index':'int','cells':'int','one':'int','other':'int','@over':{'tryS':['needed','reached'],'exc':{'BadNumber':'B_BadNumber.gC','BadProgram':'T_BadProgram.gC'}}}
theorem ok_law {f f1 f2 f3 f4 f5 f6 f7 f8 f9 f10 f11 f12 CBN CBP fI cc cda : Addr} {fd fd1 fd2 fd3 fd4 fd5 fd6 fd7 fd8 fd9 fd10 fd11 fd12 : FuncData} (F : Fun K "law" "law" s_law f fd) (T : Txt K mg)
    (C_law_taken : Cal P w K mg base CX0 1 "_law_taken" f1 fd1 ["row", "many"] (spTak K))
    (C_law_pick : Cal P w K mg base CX0 2 "_law_pick" f2 fd2 ["row", "things"] (spPick K))
    (C_law_program : Cal P w K mg base CX0 3 "_law_program" f3 fd3 ["row", "cells", "most"] (spProg K))
    (C_law_stands : Cal P w K mg base CX0 1 "_law_stands" f4 fd4 ["program", "index"] (spStands K))
    (C_law_nexts : Cal P w K mg base CX0 2 "_law_nexts" f5 fd5 ["program", "index"] (spNexts K))
    (C_law_all : Cal P w K mg base CX0 3 "_law_all" f6 fd6 ["program"] (spAll K))
    (C_law_needs : Cal P w K mg base CX0 3 "_law_needs" f7 fd7 ["program", "index", "cells"] (spLNeeds K))
    (C_law_alike : Cal P w K mg base CX0 2 "_law_alike" f8 fd8 ["found", "due"] (spAlike2 K))
    (C_law_is : Cal P w K mg base CX0 1 "_law_is" f9 fd9 ["found", "due"] (fun vs H Q _ => ∃ b : Bool, vs = [.bl b, .bl b] ∧ ∀ H', Ex H H' → Q (.bl true) H'))
    (C_reached : Cal P w K mg base CX0 5 "reached" f10 fd10 ["cells", "program"] (spReached K))
    (C_reachedX : Cal P w K mg base (L2.CX P w) 5 "reached" f10 fd10 ["cells", "program"] (spReachedX K CBP))
    (C_needed : Cal P w K mg base CX0 6 "needed" f11 fd11 ["cells", "program", "index"] (spNeeded K))
    (C_neededX : Cal P w K mg base (L2.CX P w) 6 "needed" f11 fd11 ["cells", "program", "index"] (spNeededX K CBN))
    (C_may_go_on : Cal P w K mg base CX0 5 "may_go_on" f12 fd12 ["cells", "program"] (spMayGo K))
    (B_BadNumber : BaseE K mg "BadNumber" CBN) (T_BadProgram : NS_BadProgram.Ty P K mg CBP fI cc cda) : FnOk P w K mg base CX0 7 f fd ["script"] (spLaw K) := by
  refine F.ok sc_law (fun vs H Q E h => ?_) (fun cdv A outer s H vs Q E hr h => ?_)
  · obtain ⟨_, _, rfl, _⟩ := h
    rfl
  · obtain ⟨s, ns, rfl, hs, k⟩ := h
    refine ⟨_, (pss_cons (ps_set (i := 1) sc_law.nd rfl (Or.inl rfl) (pe_lst (pa_cons (pv 0) (pa_cons pe_int (pa_cons pe_int (pa_cons pe_int pa_nil))))))
  (pss_cons (ps_set (i := 2) sc_law.nd rfl (Or.inl rfl) (pe_op op_add pe_int (pe_call C_law_taken.G (hr.mono (by first | decide | omega)) rfl C_law_taken.g C_law_taken.kp C_law_taken.b .nil pass0 (pa_cons (pv 1) (pa_cons pe_int pa_nil)))))
  (pss_cons (ps_set (i := 3) sc_law.nd rfl (Or.inr rfl) (pe_call C_law_program.G (hr.mono (by first | decide | omega)) rfl C_law_program.g C_law_program.kp C_law_program.b .nil pass0 (pa_cons (pv 1) (pa_cons (pv 2) (pa_cons pe_int pa_nil)))))
  (pss_cons (ps_if (pt_not (pt_val (pe_call C_law_alike.G (hr.mono (by first | decide | omega)) rfl C_law_alike.g C_law_alike.kp C_law_alike.b .nil pass0 (pa_cons (pe_call C_reached.G (hr.mono (by first | decide | omega)) rfl C_reached.g C_reached.kp C_reached.b .nil pass0 (pa_cons (pv 2) (pa_cons (pv 3) pa_nil))) (pa_cons (pe_callTy (tpl_K (K := K) rfl) (by rfl) T.z_tuple (by decide +kernel) (pa_cons (pe_call C_law_all.G (hr.mono (by first | decide | omega)) rfl C_law_all.g C_law_all.kp C_law_all.b .nil pass0 (pa_cons (pv 3) pa_nil)) pa_nil)) pa_nil))))) (pss_one (ps_ret pe_bl)) pss_nil)
  (pss_cons (ps_set (i := 4) sc_law.nd rfl (Or.inl rfl) (pe_call C_law_taken.G (hr.mono (by first | decide | omega)) rfl C_law_taken.g C_law_taken.kp C_law_taken.b .nil pass0 (pa_cons (pv 1) (pa_cons (pe_op op_add (pe_callB (len_K (K := K) rfl) (by rfl) T.z_len (by decide +kernel) (pa_cons (pv 3) pa_nil)) pe_int) pa_nil))))
  (pss_cons (ps_set (i := 5) sc_law.nd rfl (Or.inl rfl) (pe_call C_law_needs.G (hr.mono (by first | decide | omega)) rfl C_law_needs.g C_law_needs.kp C_law_needs.b .nil pass0 (pa_cons (pv 3) (pa_cons (pe_call C_law_stands.G (hr.mono (by first | decide | omega)) rfl C_law_stands.g C_law_stands.kp C_law_stands.b .nil pass0 (pa_cons (pv 3) (pa_cons (pv 4) pa_nil))) (pa_cons (pv 2) pa_nil)))))
  (pss_cons (ps_if (pt_not (pt_val (pe_call C_law_alike.G (hr.mono (by first | decide | omega)) rfl C_law_alike.g C_law_alike.kp C_law_alike.b .nil pass0 (pa_cons (pe_call C_needed.G (hr.mono (by first | decide | omega)) rfl C_needed.g C_needed.kp C_needed.b .nil pass0 (pa_cons (pv 2) (pa_cons (pv 3) (pa_cons (pv 4) pa_nil)))) (pa_cons (pe_callTy (tpl_K (K := K) rfl) (by rfl) T.z_tuple (by decide +kernel) (pa_cons (pv 5) pa_nil)) pa_nil))))) (pss_one (ps_ret pe_bl)) pss_nil)
  (pss_cons (ps_set (i := 6) sc_law.nd rfl (Or.inr rfl) (pe_call C_law_all.G (hr.mono (by first | decide | omega)) rfl C_law_all.g C_law_all.kp C_law_all.b .nil pass0 (pa_cons (pv 3) pa_nil)))
  (pss_cons (ps_for PassesOwn.never rfl (pi_tupK (K := K) rfl (pv 3)) (pg_name (i := 7) sc_law.nd rfl (by first | exact Or.inl rfl | exact Or.inr rfl)) (pss_one (ps_set (i := 6) sc_law.nd rfl (Or.inr rfl) (pe_lc (own := [("one", 9)]) (g := gName 9) rfl sc_law.nd (pi_listK (K := K) rfl (pv 6)) (blkOk_by (by kernel_rfl)) (fun _ _ _ _ _ => pg_name (i := 9) sc_law.nd rfl (by first | exact Or.inl rfl | exact Or.inr rfl)) (fun _ _ _ _ _ => (pts_one (pt_cmpR (neD_K (K := K) rfl hr.units) (pe_lc (own := [("other", 10)]) (g := gName 10) rfl sc_law.nd (pi_listK (K := K) rfl (pe_call C_law_nexts.G (hr.mono (by first | decide | omega)) rfl C_law_nexts.g C_law_nexts.kp C_law_nexts.b .nil pass0 (pa_cons (pv 3) (pa_cons (pv 9) pa_nil)))) (blkOk_by (by kernel_rfl)) (fun _ _ _ _ _ => pg_name (i := 10) sc_law.nd rfl (by first | exact Or.inl rfl | exact Or.inr rfl)) (fun _ _ _ _ _ => (pts_one (pt_cmpR (in_K (K := K) rfl) (pv 10) (pv 6) (by rfl)))) (fun _ _ _ _ _ => (pv 10))) (pe_lst pa_nil) (nomark _)))) (fun _ _ _ _ _ => (pv 9))))))
  (pss_cons (ps_if (pt_not (pt_val (pe_call C_law_is.G (hr.mono (by first | decide | omega)) rfl C_law_is.g C_law_is.kp C_law_is.b .nil pass0 (pa_cons (pe_call C_may_go_on.G (hr.mono (by first | decide | omega)) rfl C_may_go_on.g C_may_go_on.kp C_may_go_on.b .nil pass0 (pa_cons (pv 2) (pa_cons (pv 3) pa_nil))) (pa_cons (pe_cmpR (neD_K (K := K) rfl hr.units) (pv 6) (pe_lst pa_nil) (nomark _)) pa_nil))))) (pss_one (ps_ret pe_bl)) pss_nil)
  (pss_cons (ps_try_as (i := 8) (Wout := fun _ _ _ _ => False) rfl rfl sc_law.nd rfl rfl ⟨rfl, by decide, Or.inl B_BadNumber.gC⟩ takes0
  (fun W pn xe tk _ => (pss_cons (ps_expr (pe_callS C_neededX.G (hr.mono (by first | decide | omega)) rfl C_neededX.g C_neededX.kp C_neededX.b (fun σ => passAt tk σ) (pa_cons (pv 2) (pa_cons (pv 3) (pa_cons (pe_call C_law_pick.G (hr.mono (by first | decide | omega)) rfl C_law_pick.g C_law_pick.kp C_law_pick.b .nil pass0 (pa_cons (pv 1) (pa_cons (pe_lst (pa_cons (pe_op op_add (pe_callB (len_K (K := K) rfl) (by rfl) T.z_len (by decide +kernel) (pa_cons (pv 3) pa_nil)) pe_int) (pa_cons (pe_op op_sub pe_int pe_int) (pa_cons pe_non (pa_cons pe_bl pa_nil))))) pa_nil))) pa_nil)))))
  (pss_one (ps_ret pe_bl))))
  (fun a oe cls d pn hz hf => (pss_one (ps_set (i := 6) sc_law.nd rfl (Or.inr rfl) (pe_lst pa_nil)))))
  (pss_cons (ps_try_as (i := 8) (Wout := fun _ _ _ _ => False) rfl rfl sc_law.nd rfl rfl ⟨rfl, by decide, Or.inl T_BadProgram.gC⟩ takes0
  (fun W pn xe tk _ => (pss_one (ps_expr (pe_callS C_reachedX.G (hr.mono (by first | decide | omega)) rfl C_reachedX.g C_reachedX.kp C_reachedX.b (fun σ => passAt tk σ) (pa_cons (pv 2) (pa_cons (pe_call C_law_pick.G (hr.mono (by first | decide | omega)) rfl C_law_pick.g C_law_pick.kp C_law_pick.b .nil pass0 (pa_cons (pv 1) (pa_cons (pe_lst (pa_cons pe_non (pa_cons (pe_tup pa_nil) (pa_cons (pe_lst (pa_cons (pe_tup (pa_cons pe_str pa_nil)) pa_nil)) (pa_cons (pe_op (repT_K (K := K) rfl) (pe_tup (pa_cons (pe_tup (pa_cons pe_str pa_nil)) pa_nil)) pe_int) pa_nil))))) pa_nil))) pa_nil))))))
  (fun a oe cls d pn hz hf => (pss_one (ps_ret (pe_cmpR op_isN (NS_BadProgram.pe_by T_BadProgram hz hf (pv 8)) pe_non (nomark _))))))
  (pss_one (ps_ret pe_bl)))))))))))))), ?_⟩
    -- row
    refine q_asgL (xs := [.ref s, .int 0, .int 7502, .int 0]) (el_lst (ea_cons (ev_var rfl) (ea_cons ev_c (ea_cons ev_c (ea_cons ev_c ea_nil)))) (by show 4 ≤ 100000; decide)) fun r H1 hr0 e1 hr1 => ?_
    have R1 : RowAt K H1 r s ns := ⟨⟨0, 7502, 0, hr1, Int.le_refl _⟩, ex_l e1 hs⟩
    -- cells
    refine m_op ev_c fun H2 e2 => m_call (ea_cons (ev_var rfl) (ea_cons ev_c ea_nil)) fun H3 e3 => ?_
    refine ⟨r, s, ns, 4, rfl, R1.up (e2.trans e3), by decide, by decide, fun n H4 hn R4 _ => ?_⟩
    refine ⟨1, (n : Nat), rfl, rfl, ?_⟩
    have hs0 : (1 : Int) + ((n : Nat) : Int) = ((n + 1 : Nat) : Int) := by omega
    dsimp only
    rw [hs0]
    -- program
    refine q_callA (ea_cons (ev_var rfl) (ea_cons (ev_var rfl) (ea_cons ev_c ea_nil))) fun H5 e5 => ?_
    refine ⟨r, s, ns, n + 1, 9, rfl, R4.up e5, by omega, by omega, by decide, by decide, fun b p H6 hb0 hp hok hT hlen R6 _ => ?_⟩
    obtain ⟨yr, hyr⟩ := R6.lst
    have hpB := pg_rem hyr hp
    have eB : Ex (rem H6 r) H6 := rem_ex
    have hBr : rem H6 r r = none := rem_eq
    generalize rem H6 r = B at hpB eB hBr
    have RA : ∀ {H'}, Ex H6 H' → RowAt K H' r s ns := fun e => R6.up e
    -- reached
    refine q_unless ?_
    refine m_consCall (ea_cons (ev_var rfl) (ea_cons (ev_var rfl) ea_nil)) fun H7 e7 => ?_
    refine ⟨b, p, n + 1, rfl, hpB.up (eB.trans e7), hok, hT, by omega, by omega, by omega, fun t1 rs H8 ht1 e8 hA hmem ht1' => ?_⟩
    refine m_consTpl ?_
    refine m_consCall (ea_cons (ev_var rfl) ea_nil) fun H9 e9 => ?_
    have e69 := (e7.trans e8).trans e9
    refine ⟨b, p, n + 1, rfl, hpB.up (eB.trans e69), hok, by omega, fun l rs2 H10 hl e10 hA2 hmem2 hl' => ?_⟩
    have hrs : rs2 = rs := asc_eq hA2 hA fun z => by rw [hmem2, hmem]
    subst hrs
    refine ⟨l, nV rs2, rfl, .inl ⟨sq_of hl', fun t2 ht2 => ?_⟩⟩
    have e10' := e10.trans (Ex.new (o := .tup (nV rs2)) ht2)
    have hnv : nV rs2 = (rs2.map fun (x : Nat) => (x : Int)).map V.int := by unfold nV; rw [List.map_map]; rfl
    refine ⟨t1, t2, rs2.map fun (x : Nat) => (x : Int), rfl, by rw [← hnv]; exact ex_t (e9.trans e10') (st_of ht1'), by rw [← hnv]; exact st_of upd_same, ?_, fun H11 e11 => ?_⟩
    · rw [List.length_map]
      have := nodup_le p.length rs2 (hA.imp fun h => Nat.ne_of_lt h) fun x hx => ((hmem x).mp hx).2
      omega
    refine ⟨true, rfl, ?_⟩
    rw [if_neg (by decide)]
    have e6b := (e69.trans e10').trans e11
    have eB11 := eB.trans e6b
    have R11 := R6.up e6b
    -- index
    refine q_callA (ea_cons (ev_var rfl) (ea_cons (ev_succ (n := p.length) (ev_lnP (hpB.up eB11) (ev_var rfl))) ea_nil)) fun H12 e12 => ?_
    refine ⟨r, s, ns, p.length + 1, rfl, R11.up e12, by omega, by omega, fun i H13 hi R13 e13 => ?_⟩
    have eB13 : Ex B H13 := Ex.past (eB11.trans e12) hBr e13
    -- due
    refine q_callA (vs := [.ref b, .int (toI p (stE p i)), .int ((n + 1 : Nat) : Int)]) (ea_cons (ev_var rfl) (ea_cons (ev_callV (ea_cons (ev_var rfl) (ea_cons (ev_var rfl) ea_nil)) fun H14 e14 Q q => ⟨b, p, n + 1, i, rfl, hpB.up (eB13.trans e14), hok, by omega, by omega, q⟩) (ea_cons (ev_var rfl) ea_nil))) fun H14 e14 => ?_
    refine ⟨b, p, n + 1, stE p i, n + 1, rfl, hpB.up (eB13.trans e14), hok, by omega, by omega, stE_sta hok (by omega), fun du H15 hdu e15 hdu' => ?_⟩
    have eB15 := (eB13.trans e14).trans e15
    have R15 := R13.up (e14.trans e15)
    -- needed
    refine q_unless ?_
    refine m_consCall (ea_cons (ev_var rfl) (ea_cons (ev_var rfl) (ea_cons (ev_var rfl) ea_nil))) fun H16 e16 => ?_
    refine ⟨b, p, n + 1, i, rfl, hpB.up (eB15.trans e16), hok, hT, by omega, by omega, by omega, by omega, fun t1 H17 ht1 e17 ht1' => ?_⟩
    refine m_consTpl ?_
    refine m_cons (ev_var rfl) fun H18 e18 => ?_
    have e1518 := (e16.trans e17).trans e18
    refine ⟨du, _, rfl, .inl ⟨sq_of (e1518 _ _ hdu'), fun t2 ht2 => ?_⟩⟩
    have e18' := Ex.new (o := .tup (nV ((List.range (n + 1)).filter (needS p (stE p i))))) ht2
    have hnv : nV ((List.range (n + 1)).filter (needS p (stE p i))) = (((List.range (n + 1)).filter (needS p (stE p i))).map fun (x : Nat) => (x : Int)).map V.int := by unfold nV; rw [List.map_map]; rfl
    have hsame : (List.range (n + 1)).filter (needB p i) = (List.range (n + 1)).filter (needS p (stE p i)) := rfl
    rw [hsame] at ht1'
    refine ⟨t1, t2, _, rfl, by rw [← hnv]; exact ex_t (e18.trans e18') (st_of ht1'), by rw [← hnv]; exact st_of upd_same, ?_, fun H19 e19 => ?_⟩
    · rw [List.length_map]
      have := List.length_filter_le (needS p (stE p i)) (List.range (n + 1))
      rw [List.length_range] at this
      omega
    refine ⟨true, rfl, ?_⟩
    rw [if_neg (by decide)]
    have e1519 := (e1518.trans e18').trans e19
    have eB19 := eB15.trans e1519
    have R19 := R15.up e1519
    -- left
    refine q_callA (ea_cons (ev_var rfl) ea_nil) fun H20 e20 => ?_
    refine ⟨b, p, n + 1, rfl, hpB.up (eB19.trans e20), hok, by omega, fun l0 rs H21 hl e21 hA hmem hl0 => ?_⟩
    have eB21 := (eB19.trans e20).trans e21
    have R21 := R19.up (e20.trans e21)
    have L0 : Lw p rs := ⟨hA.imp fun h => Nat.ne_of_lt h, fun x hx => (hmem x).mp hx, fun x r g => (hmem x).mpr ⟨r, by
      obtain ⟨S, hS, hc⟩ := g
      exact (hc x hS).1.lt⟩⟩
    obtain ⟨ps, hps, hpp⟩ := id hpB
    have hpsl : ps.length = p.length := Paired.length hpp
    refine q_forTn (xs := ps) (ev_var rfl) (ex_t eB21 hps)
      (fun t σ H' => ∃ (L : List Nat) (g : Addr) (z7 : Option V), Ex H21 H' ∧ H' g = some (.lst (nV L)) ∧ Lw p L ∧ (Stab p L ∨ L.length + t ≤ p.length) ∧ σ = [some (.ref s), some (.ref r), some (.int ((n + 1 : Nat) : Int)), some (.ref b), some (.int (i : Nat)), some (.ref du), some (.ref g), z7, none, none, none])
      (fun H22 e22 => ⟨rs, l0, none, e22, e22 _ _ hl0, L0, .inr L0.len, rfl⟩) (fun t σ H' _ ⟨_, _, _, e, _⟩ => ex_t (eB21.trans e) hps) ?_ ?_
    · rintro t x σ H22 ht ⟨L, g, z7, e22, hg, A, hi, rfl⟩
      have hcomp := el_lcE (K := K) (σ := [some (.ref s), some (.ref r), some (.int ((n + 1 : Nat) : Int)), some (.ref b), some (.int (i : Nat)), some (.ref du), some (.ref g), some x, none, none, none]) (H := H22) (a := g) (tl := tVar 6) (j := 9) (vs := List.map (fun x => x.snd) [(("one" : Str), 9)]) (tt := tTest (tOp (rNeD K) (tLc (iList K (tCall (spNexts K) [] E0 (tCons (tVar 3) (tCons (tVar 9) tNil)))) (gName 10) (tTest (tOp (rIn K false) (tVar 10) (tVar 6))) (tVar 10) (List.map (fun x => x.snd) [(("other" : Str), 10)])) (tLst tNil))) (te := tVar 9) (zs := L) (fun z => .int (z : Nat)) (fun z => keepB p L z) (fun z => .int (z : Nat))
        (ev_var rfl) (sq_of hg) (fun x => rfl) (by have := A.len; omega) (fun y H23 hy e23 => by
          have hyl := (A.re y hy).2
          have hin := el_lcCall (K := K) (σ := [some (.ref s), some (.ref r), some (.int ((n + 1 : Nat) : Int)), some (.ref b), some (.int (i : Nat)), some (.ref du), some (.ref g), some x, none, some (.int (y : Nat)), none]) (H := H23) (sp := spNexts K) (E := E0) (tA := tCons (tVar 3) (tCons (tVar 9) tNil)) (ws := [.ref b, .int (y : Nat)]) (j := 10) (vs := List.map (fun x => x.snd) [(("other" : Str), 10)]) (tt := tTest (tOp (rIn K false) (tVar 10) (tVar 6))) (te := tVar 10) (zs := lnx p y) (fun z => .int (toI p z)) (fun z => decide (z ∈ L)) (fun z => .int (toI p z))
            (ea_cons (ev_var rfl) (ea_cons (ev_var rfl) ea_nil)) (fun H24 e24 Q q => ⟨b, p, n + 1, y, rfl, hpB.up (eB21.trans ((e22.trans e23).trans e24)), hok, hyl, by omega, q⟩) (fun x => rfl) (by unfold lnx; split <;> (try split) <;> simp)
            (fun z H24 hz e24 => by
              have hzl : z ≤ p.length := by
                rcases brs_sta hok hyl ((lnx_mem hyl).mp hz) with h | h
                · omega
                · exact Nat.le_of_lt h.lt
              exact et_is (et_test (ev_op (ev_var rfl) (ev_var rfl) (rv_isL (sq_of ((e23.trans e24) _ _ hg)) rfl (nV_flat _)))) (inV_toI hzl fun x hx => (A.re x hx).2)) (fun z H24 hz e24 _ => ev_var rfl)
          have hnl : ((lnx p y).filter fun z => decide (z ∈ L)).map (fun z => V.int (toI p z)) = (((lnx p y).filter fun z => decide (z ∈ L)).map fun z => toI p z).map V.int := by
            rw [List.map_map]
            rfl
          rw [hnl] at hin
          refine et_is (et_test (ev_neNil hin)) ?_
          unfold keepB
          rw [List.isEmpty_map]) (fun y H23 hy e23 _ => ev_var rfl)
      refine s_asgL (xs := nV (L.filter (keepB p L))) hcomp fun g2 H23 hg2 e23 h23 => ?_
      exact ⟨L.filter (keepB p L), g2, some x, e22.trans e23, h23, A.cut, Lw.round hi, rfl⟩
    rintro σ H22 ⟨L, g, z7, e22, hg, A, hi2, rfl⟩
    rw [hpsl] at hi2
    have hgo := left_go hok A hi2
    have eB22 := eB21.trans e22
    have R22 := R21.up e22
    -- may_go_on
    refine q_unless ?_
    refine m_consCall (ea_cons (ev_var rfl) (ea_cons (ev_var rfl) ea_nil)) fun H23 e23 => ?_
    refine ⟨b, p, n + 1, rfl, hpB.up (eB22.trans e23), hok, hT, by omega, by omega, by omega, fun H24 e24 => ?_⟩
    have hnl : nV L = (L.map fun (z : Nat) => (z : Int)).map V.int := by unfold nV; rw [List.map_map]; rfl
    have e224 := e23.trans e24
    refine m_cons (ev_neNilV (zs := L.map fun (z : Nat) => (z : Int)) (ev_var rfl) (by rw [← hnl]; exact sq_of (e224 _ _ hg))) fun H25 e25 => ?_
    refine ⟨goB p, by rw [hgo, List.isEmpty_map]; rfl, fun H26 e26 => ?_⟩
    refine ⟨true, rfl, ?_⟩
    rw [if_neg (by decide)]
    have e226 := (e224.trans e25).trans e26
    have eB26 := eB22.trans e226
    have R26 := R22.up e226
    -- the first try
    dsimp only [tNext]
    refine q_try2 ?_
    refine m_cons (x := V.int ((n + 1 : Nat) : Int)) (ev_var rfl) fun H27 e27 => ?_
    refine m_cons (x := V.ref b) (ev_var rfl) fun H28 e28 => ?_
    refine m_consCallR ?_
    refine m_cons (ev_var rfl) fun H29 e29 => m_consLst ?_
    have e269 := (e27.trans e28).trans e29
    refine (ea_cons (ev_succ (n := p.length) (ev_lnP (hpB.up (eB26.trans e269)) (ev_var rfl))) (ea_cons (ev_i0 ev_c ev_c) (ea_cons ev_c (ea_cons ev_c ea_nil))) : EvA _ _ H29 [.int ((p.length + 1 : Nat) : Int), .int (0 - 1), .non, .bl true]) H29 (Ex.refl _) _ fun H30 e30 => ?_
    refine ⟨by show 4 ≤ sizeLine; rw [sizeLine_eq]; decide, fun th hth => ?_⟩
    have e2630 := e269.trans e30
    have R30 := R26.up e2630
    obtain ⟨yr30, hyr30⟩ := R30.lst
    have hthr : th ≠ r := (ne_of_none hyr30 hth).symm
    have en30 := Ex.new (o := .lst [.int ((p.length + 1 : Nat) : Int), .int (0 - 1), .non, .bl true]) hth
    refine ⟨r, s, th, ns, _, rfl, R30.up en30, sq_of upd_same, hthr, by show 0 < 4; decide, by show 4 < 1000000; decide, fun x H31 hx R31 e31 => ?_⟩
    have eB31 : Ex B H31 := Ex.past ((eB26.trans e2630).trans en30) hBr e31
    obtain ⟨o, hv, ho⟩ : ∃ o, IntV K H31 x o ∧ inRange o 0 p.length = false := by
      simp only [List.mem_cons, List.not_mem_nil, or_false] at hx
      rcases hx with rfl | rfl | rfl | rfl
      · refine ⟨some ((p.length + 1 : Nat) : Int), rfl, ?_⟩
        show (decide ((0 : Int) ≤ ((p.length + 1 : Nat) : Int)) && decide (((p.length + 1 : Nat) : Int) ≤ (p.length : Int))) = false
        rw [decide_eq_false (show ¬ ((p.length + 1 : Nat) : Int) ≤ (p.length : Int) by omega), Bool.and_false]
      · exact ⟨some (0 - 1), rfl, rfl⟩
      · exact ⟨none, .non, rfl⟩
      · exact ⟨none, .bl, rfl⟩
    refine ⟨b, p, n + 1, x, o, rfl, hpB.up eB31, hok, hT, by omega, by omega, by omega, hv, ho, fun H32 e32 => ?_⟩
    refine ⟨true, B_BadNumber.te, fun _ a0 ha0 => ?_, fun z => nomatch z⟩
    refine s_asgL (xs := []) (el_lst ea_nil (Nat.zero_le _)) fun lf H33 hlf e33 hlf' => ?_
    have eB33 := (eB31.trans e32).trans e33
    have R33 := R31.up (e32.trans e33)
    -- the second try
    dsimp only
    refine q_try1 ?_
    refine m_cons (ev_var rfl) fun H34 e34 => ?_
    refine m_consCallR ?_
    refine m_cons (ev_var rfl) fun H35 e35 => m_consLst ?_
    refine m_cons ev_c fun H36 e36 => ?_
    refine m_consU (eu_tup ea_nil (Nat.zero_le _)) fun u1 H37 hu1 e37 h37 => ?_
    refine m_consLst ?_
    refine m_consU (eu_tup (ea_cons ev_c ea_nil) (by show 1 ≤ 100000; decide)) fun u2 H38 hu2 e38 h38 => ?_
    refine ⟨by show 1 ≤ sizeLine; rw [sizeLine_eq]; decide, fun u3 hu3 => ?_⟩
    have e39 := Ex.new (o := .lst [.ref u2]) hu3
    have h39 : upd H38 u3 (.lst [.ref u2]) u3 = some (.lst [.ref u2]) := upd_same
    generalize upd H38 u3 (.lst [.ref u2]) = H39 at e39 h39 ⊢
    refine m_consRep ?_
    refine m_tupU (eu_tup (ea_cons ev_c ea_nil) (by show 1 ≤ 100000; decide)) fun u4 H40 hu4 e40 h40 => ?_
    refine ⟨by show 1 ≤ sizeLine; rw [sizeLine_eq]; decide, fun u5 hu5 => ?_⟩
    have e41 := Ex.new (o := .tup [.ref u4]) hu5
    have h41 : upd H40 u5 (.tup [.ref u4]) u5 = some (.tup [.ref u4]) := upd_same
    generalize upd H40 u5 (.tup [.ref u4]) = H41 at e41 h41 ⊢
    refine ⟨u5, 21, [.ref u4], rfl, rfl, st_of h41, (fun z => nomatch z), by decide, by decide, by show 1 ≤ 1000; decide, fun u6 hu6 => ?_⟩
    have e42 := Ex.new (o := .tup (List.replicate (21 : Int).toNat [V.ref u4]).flatten) hu6
    have h42 : upd H41 u6 (.tup (List.replicate (21 : Int).toNat [V.ref u4]).flatten) u6 = some (.tup (List.replicate (21 : Int).toNat [V.ref u4]).flatten) := upd_same
    generalize upd H41 u6 (.tup (List.replicate (21 : Int).toNat [V.ref u4]).flatten) = H42 at e42 h42 ⊢
    refine ⟨by show 4 ≤ sizeLine; rw [sizeLine_eq]; decide, fun th2 hth2 => ?_⟩
    have e3342 := (((((((e34.trans e35).trans e36).trans e37).trans e38).trans e39).trans e40).trans e41).trans e42
    have R42 := R33.up e3342
    obtain ⟨yr42, hyr42⟩ := R42.lst
    have hth2r : th2 ≠ r := (ne_of_none hyr42 hth2).symm
    have en42 := Ex.new (o := .lst [.non, .ref u1, .ref u3, .ref u6]) hth2
    refine ⟨r, s, th2, ns, _, rfl, R42.up en42, sq_of upd_same, hth2r, by show 0 < 4; decide, by show 4 < 1000000; decide, fun x H43 hx R43 e43 => ?_⟩
    have keep : ∀ a ob, a ≠ r → H42 a = some ob → H43 a = some ob := fun a ob ha hob => e43 _ _ (by
      rw [rem_ne ha]
      exact en42 _ _ hob)
    have keepT : ∀ a xs, H42 a = some (.tup xs) → H43 a = some (.tup xs) := fun a xs h => keep a _ (fun z => by rw [z, hyr42] at h; cases h) h
    have hu3r : u3 ≠ r := by
      obtain ⟨yr38, hyr38⟩ := (R33.up ((((e34.trans e35).trans e36).trans e37).trans e38)).lst
      exact (ne_of_none hyr38 hu3).symm
    have hbad : BadLen K H43 x 20 := by
      simp only [List.mem_cons, List.not_mem_nil, or_false] at hx
      rcases hx with rfl | rfl | rfl | rfl
      · exact .inl ⟨_, .base .non, by decide +kernel⟩
      · exact .inr ⟨u1, [], rfl, st_of (keepT _ _ (((((e38.trans e39).trans e40).trans e41).trans e42) _ _ h37)), fun z => by have := z.1; simp at this⟩
      · exact .inl ⟨_, ty_lst (sq_of (keep _ _ hu3r (((e40.trans e41).trans e42) _ _ h39))), by decide +kernel⟩
      · exact .inr ⟨u6, _, rfl, st_of (keepT _ _ h42), fun z => by have := z.2; simp at this⟩
    refine ⟨n + 1, x, rfl, by omega, by omega, hbad, fun d H44 e44 hd => ?_⟩
    refine ⟨true, T_BadProgram.te, fun _ a0 ha0 => ?_, fun z => nomatch z⟩
    refine ⟨_, rfl, rfl, rfl, d, .non, rfl, upd_same, rfl, ?_⟩
    exact k _
end
end Fm
set_option Elab.async false
set_option linter.all false
set_option maxRecDepth 100000
set_option maxHeartbeats 8000000
namespace Fm
open PySem PySem.W PySem.Calls PyProof.Rows PySem.HandSPX L2 Evl
/-- an error of the class at S is what its name in an except takes -/
theorem exm_own {K : PySem.W.Frag} {S : Addr} (h1 : PySem.W.subIn K (.ref S) (.type "BaseException") = some true) (h2 : PySem.W.isClsIn K S = true) (h3 : PySem.W.typeIn K (.ref S) = some (.type "type")) (h4 : PySem.W.subIn K (.ref S) (.ref S) = some true) : PySem.W.exmOne K (.ref S) (.ref S) = some true := by
  have e1 : (PySem.W.subIn K (.ref S) (.type "BaseException") == some true) = true := by rw [h1]; rfl
  have h5 : (PySem.W.clsIn K S).isSome = true := h2
  have e2 : ((PySem.W.clsIn K S).isSome && PySem.W.typeIn K (.ref S) == some (.type "type")) = true := by rw [h5, h3]; rfl
  unfold PySem.W.exmOne
  rw [if_pos e1]
  show (if ((PySem.W.clsIn K S).isSome && PySem.W.typeIn K (.ref S) == some (.type "type")) = true then PySem.W.subIn K (.ref S) (.ref S) else none) = some true
  rw [if_pos e2]
  exact h4
theorem all_mk {l : PySem.W.OpenLaw} {w : World} {K : PySem.W.Frag} {h : Heap} {mg : Str → Option Value} {fa : Addr} (X : K.In h) (G : h.Ns mainGlobals mg) (hfa : mg "law" = some (.ref fa))
    {f0 : Addr} {od0 an0 : Option Addr} {sl0 : Array (Option Value)} {oc0 kV0 dc0 pm0 cd0 ct0 : Value}
    {f1 : Addr} {od1 an1 : Option Addr} {sl1 : Array (Option Value)} {oc1 kV1 dc1 pm1 cd1 ct1 : Value}
    {f2 : Addr} {od2 an2 : Option Addr} {sl2 : Array (Option Value)} {oc2 kV2 dc2 pm2 cd2 ct2 : Value}
    {f3 : Addr} {od3 an3 : Option Addr} {sl3 : Array (Option Value)} {oc3 kV3 dc3 pm3 cd3 ct3 : Value}
    {f4 : Addr} {od4 an4 : Option Addr} {sl4 : Array (Option Value)} {oc4 kV4 dc4 pm4 cd4 ct4 : Value}
    {f5 : Addr} {od5 an5 : Option Addr} {sl5 : Array (Option Value)} {oc5 kV5 dc5 pm5 cd5 ct5 : Value}
    {f6 : Addr} {od6 an6 : Option Addr} {sl6 : Array (Option Value)} {oc6 kV6 dc6 pm6 cd6 ct6 : Value}
    {f7 : Addr} {od7 an7 : Option Addr} {sl7 : Array (Option Value)} {oc7 kV7 dc7 pm7 cd7 ct7 : Value}
    {f8 : Addr} {od8 an8 : Option Addr} {sl8 : Array (Option Value)} {oc8 kV8 dc8 pm8 cd8 ct8 : Value}
    {f9 : Addr} {od9 an9 : Option Addr} {sl9 : Array (Option Value)} {oc9 kV9 dc9 pm9 cd9 ct9 : Value}
    {f10 : Addr} {od10 an10 : Option Addr} {sl10 : Array (Option Value)} {oc10 kV10 dc10 pm10 cd10 ct10 : Value}
    {f11 : Addr} {od11 an11 : Option Addr} {sl11 : Array (Option Value)} {oc11 kV11 dc11 pm11 cd11 ct11 : Value}
    {f12 : Addr} {od12 an12 : Option Addr} {sl12 : Array (Option Value)} {oc12 kV12 dc12 pm12 cd12 ct12 : Value}
    {f13 : Addr} {od13 an13 : Option Addr} {sl13 : Array (Option Value)} {oc13 kV13 dc13 pm13 cd13 ct13 : Value}
    {f14 : Addr} {od14 an14 : Option Addr} {sl14 : Array (Option Value)} {oc14 kV14 dc14 pm14 cd14 ct14 : Value}
    {f15 : Addr} {od15 an15 : Option Addr} {sl15 : Array (Option Value)} {oc15 kV15 dc15 pm15 cd15 ct15 : Value}
    {f16 : Addr} {od16 an16 : Option Addr} {sl16 : Array (Option Value)} {oc16 kV16 dc16 pm16 cd16 ct16 : Value}
    {f17 : Addr} {od17 an17 : Option Addr} {sl17 : Array (Option Value)} {oc17 kV17 dc17 pm17 cd17 ct17 : Value}
    {f18 : Addr} {od18 an18 : Option Addr} {sl18 : Array (Option Value)} {oc18 kV18 dc18 pm18 cd18 ct18 : Value}
    {f19 : Addr} {od19 an19 : Option Addr} {sl19 : Array (Option Value)} {oc19 kV19 dc19 pm19 cd19 ct19 : Value}
    {f20 : Addr} {od20 an20 : Option Addr} {sl20 : Array (Option Value)} {oc20 kV20 dc20 pm20 cd20 ct20 : Value}
    {f21 : Addr} {od21 an21 : Option Addr} {sl21 : Array (Option Value)} {oc21 kV21 dc21 pm21 cd21 ct21 : Value}
    {f22 : Addr} {od22 an22 : Option Addr} {sl22 : Array (Option Value)} {oc22 kV22 dc22 pm22 cd22 ct22 : Value}
    {f23 : Addr} {od23 an23 : Option Addr} {sl23 : Array (Option Value)} {oc23 kV23 dc23 pm23 cd23 ct23 : Value}
    {f24 : Addr} {od24 an24 : Option Addr} {sl24 : Array (Option Value)} {oc24 kV24 dc24 pm24 cd24 ct24 : Value}
    {t_MOST_CELLS : Tok}
    {t_MOST_INSTRUCTIONS : Tok}
    {t_MILLION : Tok}
    {aA : Addr} {dd_aA : Option Addr} {sl_aA : Array (Option Value)} {nn_aA : Nat} {t_aA0 : Tok} {t_aA1 : Tok} {t_aA2 : Tok}
    {aC : Addr} {dd_aC : Option Addr} {sl_aC : Array (Option Value)} {nn_aC : Nat} {t_aC0 : Tok} {t_aC1 : Tok} {t_aC2 : Tok} {t_aC3 : Tok}
    {aP : Addr} {dd_aP : Option Addr} {sl_aP : Array (Option Value)} {nn_aP : Nat} {t_aP0 : Tok} {t_aP1 : Tok}
    {aR : Addr} {dd_aR : Option Addr} {sl_aR : Array (Option Value)} {nn_aR : Nat} {t_aR0 : Tok} {t_aR1 : Tok} {t_aR2 : Tok}
    {CBN : Addr}
    {CBP fI cc cda NB : Addr} {nmB qB : Str} {bsB bmB : List Value} {snB : List Str} {subB : List Value} {abB : Bool} {colB : Option Bool} {ddB : Option Addr} {m0 m1 m2 m3 m5 : Option Value} {ccl : Value} {cdd : Option Addr} {vsC : Array Value} {ccs : Array (Option Value)} {fl : Str} {tf : Tok} {clC : Value} {cldC : Option Addr} {cslC : Array (Option Value)} {ocI dcI pmI ctI : Value} {odI anI : Option Addr} {slI : Array (Option Value)}
    (a0 : PySem.W.nsIn K mainGlobals "is_whole" = some (some (.ref f0)))
    (l0 : K.lookup f0 = some ⟨oc0, od0, .func (PySem.W.fnOf "is_whole" "is_whole" (defArgs s_is_whole) (defBody s_is_whole) (defScope s_is_whole) .none kV0 dc0 pm0 an0 cd0 ct0), sl0⟩)
    (c0 : PySem.W.codeIn K cd0 "is_whole" = true)
    (k0 : PySem.W.keepIn K (.ref f0) = true)
    (a1 : PySem.W.nsIn K mainGlobals "is_integer" = some (some (.ref f1)))
    (l1 : K.lookup f1 = some ⟨oc1, od1, .func (PySem.W.fnOf "is_integer" "is_integer" (defArgs s_is_integer) (defBody s_is_integer) (defScope s_is_integer) .none kV1 dc1 pm1 an1 cd1 ct1), sl1⟩)
    (c1 : PySem.W.codeIn K cd1 "is_integer" = true)
    (k1 : PySem.W.keepIn K (.ref f1) = true)
    (a2 : PySem.W.nsIn K mainGlobals "check_number" = some (some (.ref f2)))
    (l2 : K.lookup f2 = some ⟨oc2, od2, .func (PySem.W.fnOf "check_number" "check_number" (defArgs s_check_number) (defBody s_check_number) (defScope s_check_number) .none kV2 dc2 pm2 an2 cd2 ct2), sl2⟩)
    (c2 : PySem.W.codeIn K cd2 "check_number" = true)
    (k2 : PySem.W.keepIn K (.ref f2) = true)
    (a3 : PySem.W.nsIn K mainGlobals "check_cells" = some (some (.ref f3)))
    (l3 : K.lookup f3 = some ⟨oc3, od3, .func (PySem.W.fnOf "check_cells" "check_cells" (defArgs s_check_cells) (defBody s_check_cells) (defScope s_check_cells) .none kV3 dc3 pm3 an3 cd3 ct3), sl3⟩)
    (c3 : PySem.W.codeIn K cd3 "check_cells" = true)
    (k3 : PySem.W.keepIn K (.ref f3) = true)
    (a4 : PySem.W.nsIn K mainGlobals "is_instruction" = some (some (.ref f4)))
    (l4 : K.lookup f4 = some ⟨oc4, od4, .func (PySem.W.fnOf "is_instruction" "is_instruction" (defArgs s_is_instruction) (defBody s_is_instruction) (defScope s_is_instruction) .none kV4 dc4 pm4 an4 cd4 ct4), sl4⟩)
    (c4 : PySem.W.codeIn K cd4 "is_instruction" = true)
    (k4 : PySem.W.keepIn K (.ref f4) = true)
    (a5 : PySem.W.nsIn K mainGlobals "check_length" = some (some (.ref f5)))
    (l5 : K.lookup f5 = some ⟨oc5, od5, .func (PySem.W.fnOf "check_length" "check_length" (defArgs s_check_length) (defBody s_check_length) (defScope s_check_length) .none kV5 dc5 pm5 an5 cd5 ct5), sl5⟩)
    (c5 : PySem.W.codeIn K cd5 "check_length" = true)
    (k5 : PySem.W.keepIn K (.ref f5) = true)
    (a6 : PySem.W.nsIn K mainGlobals "check_program" = some (some (.ref f6)))
    (l6 : K.lookup f6 = some ⟨oc6, od6, .func (PySem.W.fnOf "check_program" "check_program" (defArgs s_check_program) (defBody s_check_program) (defScope s_check_program) .none kV6 dc6 pm6 an6 cd6 ct6), sl6⟩)
    (c6 : PySem.W.codeIn K cd6 "check_program" = true)
    (k6 : PySem.W.keepIn K (.ref f6) = true)
    (a7 : PySem.W.nsIn K mainGlobals "places_of" = some (some (.ref f7)))
    (l7 : K.lookup f7 = some ⟨oc7, od7, .func (PySem.W.fnOf "places_of" "places_of" (defArgs s_places_of) (defBody s_places_of) (defScope s_places_of) .none kV7 dc7 pm7 an7 cd7 ct7), sl7⟩)
    (c7 : PySem.W.codeIn K cd7 "places_of" = true)
    (k7 : PySem.W.keepIn K (.ref f7) = true)
    (a8 : PySem.W.nsIn K mainGlobals "branches" = some (some (.ref f8)))
    (l8 : K.lookup f8 = some ⟨oc8, od8, .func (PySem.W.fnOf "branches" "branches" (defArgs s_branches) (defBody s_branches) (defScope s_branches) .none kV8 dc8 pm8 an8 cd8 ct8), sl8⟩)
    (c8 : PySem.W.codeIn K cd8 "branches" = true)
    (k8 : PySem.W.keepIn K (.ref f8) = true)
    (a9 : PySem.W.nsIn K mainGlobals "reached" = some (some (.ref f9)))
    (l9 : K.lookup f9 = some ⟨oc9, od9, .func (PySem.W.fnOf "reached" "reached" (defArgs s_reached) (defBody s_reached) (defScope s_reached) .none kV9 dc9 pm9 an9 cd9 ct9), sl9⟩)
    (c9 : PySem.W.codeIn K cd9 "reached" = true)
    (k9 : PySem.W.keepIn K (.ref f9) = true)
    (a10 : PySem.W.nsIn K mainGlobals "may_go_on" = some (some (.ref f10)))
    (l10 : K.lookup f10 = some ⟨oc10, od10, .func (PySem.W.fnOf "may_go_on" "may_go_on" (defArgs s_may_go_on) (defBody s_may_go_on) (defScope s_may_go_on) .none kV10 dc10 pm10 an10 cd10 ct10), sl10⟩)
    (c10 : PySem.W.codeIn K cd10 "may_go_on" = true)
    (k10 : PySem.W.keepIn K (.ref f10) = true)
    (a11 : PySem.W.nsIn K mainGlobals "asks_for" = some (some (.ref f11)))
    (l11 : K.lookup f11 = some ⟨oc11, od11, .func (PySem.W.fnOf "asks_for" "asks_for" (defArgs s_asks_for) (defBody s_asks_for) (defScope s_asks_for) .none kV11 dc11 pm11 an11 cd11 ct11), sl11⟩)
    (c11 : PySem.W.codeIn K cd11 "asks_for" = true)
    (k11 : PySem.W.keepIn K (.ref f11) = true)
    (a12 : PySem.W.nsIn K mainGlobals "readers" = some (some (.ref f12)))
    (l12 : K.lookup f12 = some ⟨oc12, od12, .func (PySem.W.fnOf "readers" "readers" (defArgs s_readers) (defBody s_readers) (defScope s_readers) .none kV12 dc12 pm12 an12 cd12 ct12), sl12⟩)
    (c12 : PySem.W.codeIn K cd12 "readers" = true)
    (k12 : PySem.W.keepIn K (.ref f12) = true)
    (a13 : PySem.W.nsIn K mainGlobals "marks_of" = some (some (.ref f13)))
    (l13 : K.lookup f13 = some ⟨oc13, od13, .func (PySem.W.fnOf "marks_of" "marks_of" (defArgs s_marks_of) (defBody s_marks_of) (defScope s_marks_of) .none kV13 dc13 pm13 an13 cd13 ct13), sl13⟩)
    (c13 : PySem.W.codeIn K cd13 "marks_of" = true)
    (k13 : PySem.W.keepIn K (.ref f13) = true)
    (a14 : PySem.W.nsIn K mainGlobals "needed" = some (some (.ref f14)))
    (l14 : K.lookup f14 = some ⟨oc14, od14, .func (PySem.W.fnOf "needed" "needed" (defArgs s_needed) (defBody s_needed) (defScope s_needed) .none kV14 dc14 pm14 an14 cd14 ct14), sl14⟩)
    (c14 : PySem.W.codeIn K cd14 "needed" = true)
    (k14 : PySem.W.keepIn K (.ref f14) = true)
    (a15 : PySem.W.nsIn K mainGlobals "_law_taken" = some (some (.ref f15)))
    (l15 : K.lookup f15 = some ⟨oc15, od15, .func (PySem.W.fnOf "_law_taken" "_law_taken" (defArgs s_law_taken) (defBody s_law_taken) (defScope s_law_taken) .none kV15 dc15 pm15 an15 cd15 ct15), sl15⟩)
    (c15 : PySem.W.codeIn K cd15 "_law_taken" = true)
    (k15 : PySem.W.keepIn K (.ref f15) = true)
    (a16 : PySem.W.nsIn K mainGlobals "_law_pick" = some (some (.ref f16)))
    (l16 : K.lookup f16 = some ⟨oc16, od16, .func (PySem.W.fnOf "_law_pick" "_law_pick" (defArgs s_law_pick) (defBody s_law_pick) (defScope s_law_pick) .none kV16 dc16 pm16 an16 cd16 ct16), sl16⟩)
    (c16 : PySem.W.codeIn K cd16 "_law_pick" = true)
    (k16 : PySem.W.keepIn K (.ref f16) = true)
    (a17 : PySem.W.nsIn K mainGlobals "_law_program" = some (some (.ref f17)))
    (l17 : K.lookup f17 = some ⟨oc17, od17, .func (PySem.W.fnOf "_law_program" "_law_program" (defArgs s_law_program) (defBody s_law_program) (defScope s_law_program) .none kV17 dc17 pm17 an17 cd17 ct17), sl17⟩)
    (c17 : PySem.W.codeIn K cd17 "_law_program" = true)
    (k17 : PySem.W.keepIn K (.ref f17) = true)
    (a18 : PySem.W.nsIn K mainGlobals "_law_stands" = some (some (.ref f18)))
    (l18 : K.lookup f18 = some ⟨oc18, od18, .func (PySem.W.fnOf "_law_stands" "_law_stands" (defArgs s_law_stands) (defBody s_law_stands) (defScope s_law_stands) .none kV18 dc18 pm18 an18 cd18 ct18), sl18⟩)
    (c18 : PySem.W.codeIn K cd18 "_law_stands" = true)
    (k18 : PySem.W.keepIn K (.ref f18) = true)
    (a19 : PySem.W.nsIn K mainGlobals "_law_nexts" = some (some (.ref f19)))
    (l19 : K.lookup f19 = some ⟨oc19, od19, .func (PySem.W.fnOf "_law_nexts" "_law_nexts" (defArgs s_law_nexts) (defBody s_law_nexts) (defScope s_law_nexts) .none kV19 dc19 pm19 an19 cd19 ct19), sl19⟩)
    (c19 : PySem.W.codeIn K cd19 "_law_nexts" = true)
    (k19 : PySem.W.keepIn K (.ref f19) = true)
    (a20 : PySem.W.nsIn K mainGlobals "_law_all" = some (some (.ref f20)))
    (l20 : K.lookup f20 = some ⟨oc20, od20, .func (PySem.W.fnOf "_law_all" "_law_all" (defArgs s_law_all) (defBody s_law_all) (defScope s_law_all) .none kV20 dc20 pm20 an20 cd20 ct20), sl20⟩)
    (c20 : PySem.W.codeIn K cd20 "_law_all" = true)
    (k20 : PySem.W.keepIn K (.ref f20) = true)
    (a21 : PySem.W.nsIn K mainGlobals "_law_needs" = some (some (.ref f21)))
    (l21 : K.lookup f21 = some ⟨oc21, od21, .func (PySem.W.fnOf "_law_needs" "_law_needs" (defArgs s_law_needs) (defBody s_law_needs) (defScope s_law_needs) .none kV21 dc21 pm21 an21 cd21 ct21), sl21⟩)
    (c21 : PySem.W.codeIn K cd21 "_law_needs" = true)
    (k21 : PySem.W.keepIn K (.ref f21) = true)
    (a22 : PySem.W.nsIn K mainGlobals "_law_alike" = some (some (.ref f22)))
    (l22 : K.lookup f22 = some ⟨oc22, od22, .func (PySem.W.fnOf "_law_alike" "_law_alike" (defArgs s_law_alike) (defBody s_law_alike) (defScope s_law_alike) .none kV22 dc22 pm22 an22 cd22 ct22), sl22⟩)
    (c22 : PySem.W.codeIn K cd22 "_law_alike" = true)
    (k22 : PySem.W.keepIn K (.ref f22) = true)
    (a23 : PySem.W.nsIn K mainGlobals "_law_is" = some (some (.ref f23)))
    (l23 : K.lookup f23 = some ⟨oc23, od23, .func (PySem.W.fnOf "_law_is" "_law_is" (defArgs s_law_is) (defBody s_law_is) (defScope s_law_is) .none kV23 dc23 pm23 an23 cd23 ct23), sl23⟩)
    (c23 : PySem.W.codeIn K cd23 "_law_is" = true)
    (k23 : PySem.W.keepIn K (.ref f23) = true)
    (a24 : PySem.W.nsIn K mainGlobals "law" = some (some (.ref f24)))
    (l24 : K.lookup f24 = some ⟨oc24, od24, .func (PySem.W.fnOf "law" "law" (defArgs s_law) (defBody s_law) (defScope s_law) .none kV24 dc24 pm24 an24 cd24 ct24), sl24⟩)
    (c24 : PySem.W.codeIn K cd24 "law" = true)
    (k24 : PySem.W.keepIn K (.ref f24) = true)
    (z_int : PySem.W.nsIn K mainGlobals "int" = some none)
    (z_len : PySem.W.nsIn K mainGlobals "len" = some none)
    (z_range : PySem.W.nsIn K mainGlobals "range" = some none)
    (z_isinstance : PySem.W.nsIn K mainGlobals "isinstance" = some none)
    (z_bool : PySem.W.nsIn K mainGlobals "bool" = some none)
    (z_tuple : PySem.W.nsIn K mainGlobals "tuple" = some none)
    (z_list : PySem.W.nsIn K mainGlobals "list" = some none)
    (z_str : PySem.W.nsIn K mainGlobals "str" = some none)
    (z_any : PySem.W.nsIn K mainGlobals "any" = some none)
    (z_sorted : PySem.W.nsIn K mainGlobals "sorted" = some none)
    (z_reversed : PySem.W.nsIn K mainGlobals "reversed" = some none)
    (z_enumerate : PySem.W.nsIn K mainGlobals "enumerate" = some none)
    (z_all : PySem.W.nsIn K mainGlobals "all" = some none)
    (z_zip : PySem.W.nsIn K mainGlobals "zip" = some none)
    (z_max : PySem.W.nsIn K mainGlobals "max" = some none)
    (z_min : PySem.W.nsIn K mainGlobals "min" = some none)
    (n_MOST_CELLS : PySem.W.nsIn K mainGlobals "MOST_CELLS" = some (some (.int 4 t_MOST_CELLS)))
    (n_MOST_INSTRUCTIONS : PySem.W.nsIn K mainGlobals "MOST_INSTRUCTIONS" = some (some (.int 20 t_MOST_INSTRUCTIONS)))
    (n_MILLION : PySem.W.nsIn K mainGlobals "MILLION" = some (some (.int 1000000 t_MILLION)))
    (g_aA : PySem.W.nsIn K mainGlobals "ALONE" = some (some (.ref aA)))
    (w_aA : K.lookup aA = some ⟨.type "tuple", dd_aA, .seq #[.str "say" t_aA0, .str "ask" t_aA1, .str "stop" t_aA2] nn_aA, sl_aA⟩)
    (g_aC : PySem.W.nsIn K mainGlobals "WITH_CELL" = some (some (.ref aC)))
    (w_aC : K.lookup aC = some ⟨.type "tuple", dd_aC, .seq #[.str "get" t_aC0, .str "plus" t_aC1, .str "minus" t_aC2, .str "set" t_aC3] nn_aC, sl_aC⟩)
    (g_aP : PySem.W.nsIn K mainGlobals "WITH_PLACE" = some (some (.ref aP)))
    (w_aP : K.lookup aP = some ⟨.type "tuple", dd_aP, .seq #[.str "zero" t_aP0, .str "go" t_aP1] nn_aP, sl_aP⟩)
    (g_aR : PySem.W.nsIn K mainGlobals "READS" = some (some (.ref aR)))
    (w_aR : K.lookup aR = some ⟨.type "tuple", dd_aR, .seq #[.str "get" t_aR0, .str "plus" t_aR1, .str "minus" t_aR2] nn_aR, sl_aR⟩)
    (bn_g : PySem.W.nsIn K mainGlobals "BadNumber" = some (some (.ref CBN)))
    (bn_k : PySem.W.keepIn K (.ref CBN) = true)
    (bn_q : PySem.W.excIn K CBN [.type "ValueError", .type "Exception", .type "BaseException", .type "object"] "ValueError.__new__" = true)
    (bn_ex : PySem.W.subIn K (.ref CBN) (.type "BaseException") = some true)
    (bn_ty : PySem.W.typeIn K (.ref CBN) = some (.type "type"))
    (bn_c : PySem.W.isClsIn K CBN = true)
    (bn_s : PySem.W.subIn K (.ref CBN) (.ref CBN) = some true)
    (bp_g : PySem.W.nsIn K mainGlobals "BadProgram" = some (some (.ref CBP)))
    (bp_zs : PySem.W.nsIn K mainGlobals "super" = some none)
    (bp_tp : PySem.W.nsIn K cStatics "thirdparty.any" = some none)
    (bp_l : K.lookup CBP = some (excClassObj nmB qB CBP NB bsB bmB true snB subB abB colB ddB m0 m1 m2 m3 m5 "ValueError.__new__"))
    (bp_bm : refsVE bmB = true)
    (bp_sup : PySem.W.ks_superIn K CBP CBP "__init__" = some (some (.builtin "ValueError.__init__")))
    (bp_mro : PySem.W.mroIn K CBP (.ref CBP) = some true)
    (bp_ve : PySem.W.subIn K (.ref CBP) (.type "ValueError") = some true)
    (bp_sa : PySem.W.findIn K (.ref CBP) "__setattr__" = some (some (.builtin "object.__setattr__")))
    (bp_ga : PySem.W.findIn K (.ref CBP) "__getattribute__" = some (some (.builtin "BaseException.__getattribute__")))
    (bp_gg : PySem.W.findIn K (.ref CBP) "__getattr__" = some none)
    (bp_no : PySem.W.findIn K (.ref CBP) "index" = some none)
    (bp_iC : PySem.W.findIn K (.ref CBP) "__init__" = some (some (.ref fI)))
    (bp_tC : PySem.W.typeIn K (.ref fI) = some (.type "function"))
    (bp_kC : PySem.W.keepIn K (.ref CBP) = true)
    (bp_ex : PySem.W.subIn K (.ref CBP) (.type "BaseException") = some true)
    (bp_ty : PySem.W.typeIn K (.ref CBP) = some (.type "type"))
    (bp_hd : PySem.W.hasDictIn K CBP = true)
    (bp_c : PySem.W.isClsIn K CBP = true)
    (bp_s : PySem.W.subIn K (.ref CBP) (.ref CBP) = some true)
    (bp_fn : K.lookup fI = some ⟨ocI, odI, .func (ksFn "__init__" "BadProgram.__init__" (defArgs NS_BadProgram.sI) (defBody NS_BadProgram.sI) (defScope NS_BadProgram.sI) .none .none dcI pmI anI (.ref cda) ctI cc), slI⟩)
    (bp_cd : PySem.W.codeIn K (.ref cda) "BadProgram.__init__" = true)
    (bp_co : K.lookup cda = some ⟨ccl, cdd, .fields vsC, ccs⟩)
    (bp_cv : vsC[2]? = some (.str fl tf))
    (bp_fl : ((l.prog.main.file : Str) == fl) = true)
    (bp_ce : K.lookup cc = some ⟨clC, cldC, .cell (some (.ref CBP)), cslC⟩)
    (bp_top : (l.prog.main.scope.names.lookup ("super" : Str)).isSome = false)
    : ∃ fd : FuncData, (∀ (s : Shared) (v : Value), BindsTo s fd ⟨[v], []⟩ [("script", v)]) ∧ ∀ base : Heap, K.In base → base.Ns mainGlobals mg → FnOk l.prog w K mg base CX0 7 fa fd ["script"] (spLaw K) := by
  have e := hfa.symm.trans (PySem.W.mg_of X G a24)
  cases e
  have T : Txt K mg := { z_int := PySem.W.mg_none_of X G z_int, z_len := PySem.W.mg_none_of X G z_len, z_range := PySem.W.mg_none_of X G z_range, z_isinstance := PySem.W.mg_none_of X G z_isinstance, z_bool := PySem.W.mg_none_of X G z_bool, z_tuple := PySem.W.mg_none_of X G z_tuple, z_list := PySem.W.mg_none_of X G z_list, z_str := PySem.W.mg_none_of X G z_str, z_any := PySem.W.mg_none_of X G z_any, z_sorted := PySem.W.mg_none_of X G z_sorted, z_reversed := PySem.W.mg_none_of X G z_reversed, z_enumerate := PySem.W.mg_none_of X G z_enumerate, z_all := PySem.W.mg_none_of X G z_all, z_zip := PySem.W.mg_none_of X G z_zip, z_max := PySem.W.mg_none_of X G z_max, z_min := PySem.W.mg_none_of X G z_min, c_MOST_CELLS := ⟨_, PySem.W.mg_of X G n_MOST_CELLS⟩, c_MOST_INSTRUCTIONS := ⟨_, PySem.W.mg_of X G n_MOST_INSTRUCTIONS⟩, c_MILLION := ⟨_, PySem.W.mg_of X G n_MILLION⟩ }
  have Wd : Wds K mg aA aC aP := ⟨PySem.W.mg_of X G g_aA, PySem.W.mg_of X G g_aC, PySem.W.mg_of X G g_aP, fun H => .inr ⟨_, _, _, w_aA, rfl, rfl, by show 3 ≤ sizeLine; rw [sizeLine_eq]; decide, .cons ⟨t_aA0, rfl⟩ (.cons ⟨t_aA1, rfl⟩ (.cons ⟨t_aA2, rfl⟩ (.nil)))⟩, fun H => .inr ⟨_, _, _, w_aC, rfl, rfl, by show 4 ≤ sizeLine; rw [sizeLine_eq]; decide, .cons ⟨t_aC0, rfl⟩ (.cons ⟨t_aC1, rfl⟩ (.cons ⟨t_aC2, rfl⟩ (.cons ⟨t_aC3, rfl⟩ (.nil))))⟩, fun H => .inr ⟨_, _, _, w_aP, rfl, rfl, by show 2 ≤ sizeLine; rw [sizeLine_eq]; decide, .cons ⟨t_aP0, rfl⟩ (.cons ⟨t_aP1, rfl⟩ (.nil))⟩⟩
  have WdR : WdR K mg aR := ⟨PySem.W.mg_of X G g_aR, fun H => .inr ⟨_, _, _, w_aR, rfl, rfl, by show 3 ≤ sizeLine; rw [sizeLine_eq]; decide, .cons ⟨t_aR0, rfl⟩ (.cons ⟨t_aR1, rfl⟩ (.cons ⟨t_aR2, rfl⟩ (.nil)))⟩⟩
  have BN : BaseE K mg "BadNumber" CBN := ⟨PySem.W.mg_of X G bn_g, bn_k, bn_q, bn_ex, bn_ty, exm_own bn_ex bn_c bn_ty bn_s⟩
  have BP : NS_BadProgram.Ty l.prog K mg CBP fI cc cda :=
    { gC := PySem.W.mg_of X G bp_g, zS := PySem.W.mg_none_of X G bp_zs, tp := bp_tp, cls := ⟨nmB, qB, NB, bsB, bmB, snB, subB, abB, colB, ddB, m0, m1, m2, m3, m5, bp_l, bp_bm⟩, sup := bp_sup, mro := bp_mro, ve := bp_ve, sa := bp_sa, ga := bp_ga, gg := bp_gg, noN := bp_no, iC := bp_iC, tC := bp_tC, kC := bp_kC, exC := bp_ex, tyC := bp_ty, hdC := bp_hd, te := exm_own bp_ex bp_c bp_ty bp_s,
      file := ⟨ccl, cdd, vsC, ccs, fl, tf, bp_co, bp_cv, bp_fl⟩, cell := ⟨clC, cldC, cslC, bp_ce⟩, top_ := bp_top, fn := ⟨ocI, odI, dcI, pmI, anI, ctI, slI, bp_fn, bp_cd⟩ }
  have F0 := fun_mk (st := s_is_whole) l0 c0 k0
  have b0 := F0.binds (ps := ["value"]) fun _ _ _ _ _ _ us hl => match us, hl with | [_], _ => rfl
  have g0 := PySem.W.mg_of X G a0
  have F1 := fun_mk (st := s_is_integer) l1 c1 k1
  have b1 := F1.binds (ps := ["value", "low", "high"]) fun _ _ _ _ _ _ us hl => match us, hl with | [_, _, _], _ => rfl
  have g1 := PySem.W.mg_of X G a1
  have F2 := fun_mk (st := s_check_number) l2 c2 k2
  have b2 := F2.binds (ps := ["value", "low", "high"]) fun _ _ _ _ _ _ us hl => match us, hl with | [_, _, _], _ => rfl
  have g2 := PySem.W.mg_of X G a2
  have F3 := fun_mk (st := s_check_cells) l3 c3 k3
  have b3 := F3.binds (ps := ["value"]) fun _ _ _ _ _ _ us hl => match us, hl with | [_], _ => rfl
  have g3 := PySem.W.mg_of X G a3
  have F4 := fun_mk (st := s_is_instruction) l4 c4 k4
  have b4 := F4.binds (ps := ["cells", "length", "value"]) fun _ _ _ _ _ _ us hl => match us, hl with | [_, _, _], _ => rfl
  have g4 := PySem.W.mg_of X G a4
  have F5 := fun_mk (st := s_check_length) l5 c5 k5
  have b5 := F5.binds (ps := ["value", "most"]) fun _ _ _ _ _ _ us hl => match us, hl with | [_, _], _ => rfl
  have g5 := PySem.W.mg_of X G a5
  have F6 := fun_mk (st := s_check_program) l6 c6 k6
  have b6 := F6.binds (ps := ["cells", "value"]) fun _ _ _ _ _ _ us hl => match us, hl with | [_, _], _ => rfl
  have g6 := PySem.W.mg_of X G a6
  have F7 := fun_mk (st := s_places_of) l7 c7 k7
  have b7 := F7.binds (ps := ["program"]) fun _ _ _ _ _ _ us hl => match us, hl with | [_], _ => rfl
  have g7 := PySem.W.mg_of X G a7
  have F8 := fun_mk (st := s_branches) l8 c8 k8
  have b8 := F8.binds (ps := ["program", "places", "at"]) fun _ _ _ _ _ _ us hl => match us, hl with | [_, _, _], _ => rfl
  have g8 := PySem.W.mg_of X G a8
  have F9 := fun_mk (st := s_reached) l9 c9 k9
  have b9 := F9.binds (ps := ["cells", "program"]) fun _ _ _ _ _ _ us hl => match us, hl with | [_, _], _ => rfl
  have g9 := PySem.W.mg_of X G a9
  have F10 := fun_mk (st := s_may_go_on) l10 c10 k10
  have b10 := F10.binds (ps := ["cells", "program"]) fun _ _ _ _ _ _ us hl => match us, hl with | [_, _], _ => rfl
  have g10 := PySem.W.mg_of X G a10
  have F11 := fun_mk (st := s_asks_for) l11 c11 k11
  have b11 := F11.binds (ps := ["program", "places", "found", "at", "cell"]) fun _ _ _ _ _ _ us hl => match us, hl with | [_, _, _, _, _], _ => rfl
  have g11 := PySem.W.mg_of X G a11
  have F12 := fun_mk (st := s_readers) l12 c12 k12
  have b12 := F12.binds (ps := ["program", "places", "cell"]) fun _ _ _ _ _ _ us hl => match us, hl with | [_, _, _], _ => rfl
  have g12 := PySem.W.mg_of X G a12
  have F13 := fun_mk (st := s_marks_of) l13 c13 k13
  have b13 := F13.binds (ps := ["cells", "program"]) fun _ _ _ _ _ _ us hl => match us, hl with | [_, _], _ => rfl
  have g13 := PySem.W.mg_of X G a13
  have F14 := fun_mk (st := s_needed) l14 c14 k14
  have b14 := F14.binds (ps := ["cells", "program", "index"]) fun _ _ _ _ _ _ us hl => match us, hl with | [_, _, _], _ => rfl
  have g14 := PySem.W.mg_of X G a14
  have F15 := fun_mk (st := s_law_taken) l15 c15 k15
  have b15 := F15.binds (ps := ["row", "many"]) fun _ _ _ _ _ _ us hl => match us, hl with | [_, _], _ => rfl
  have g15 := PySem.W.mg_of X G a15
  have F16 := fun_mk (st := s_law_pick) l16 c16 k16
  have b16 := F16.binds (ps := ["row", "things"]) fun _ _ _ _ _ _ us hl => match us, hl with | [_, _], _ => rfl
  have g16 := PySem.W.mg_of X G a16
  have F17 := fun_mk (st := s_law_program) l17 c17 k17
  have b17 := F17.binds (ps := ["row", "cells", "most"]) fun _ _ _ _ _ _ us hl => match us, hl with | [_, _, _], _ => rfl
  have g17 := PySem.W.mg_of X G a17
  have F18 := fun_mk (st := s_law_stands) l18 c18 k18
  have b18 := F18.binds (ps := ["program", "index"]) fun _ _ _ _ _ _ us hl => match us, hl with | [_, _], _ => rfl
  have g18 := PySem.W.mg_of X G a18
  have F19 := fun_mk (st := s_law_nexts) l19 c19 k19
  have b19 := F19.binds (ps := ["program", "index"]) fun _ _ _ _ _ _ us hl => match us, hl with | [_, _], _ => rfl
  have g19 := PySem.W.mg_of X G a19
  have F20 := fun_mk (st := s_law_all) l20 c20 k20
  have b20 := F20.binds (ps := ["program"]) fun _ _ _ _ _ _ us hl => match us, hl with | [_], _ => rfl
  have g20 := PySem.W.mg_of X G a20
  have F21 := fun_mk (st := s_law_needs) l21 c21 k21
  have b21 := F21.binds (ps := ["program", "index", "cells"]) fun _ _ _ _ _ _ us hl => match us, hl with | [_, _, _], _ => rfl
  have g21 := PySem.W.mg_of X G a21
  have F22 := fun_mk (st := s_law_alike) l22 c22 k22
  have b22 := F22.binds (ps := ["found", "due"]) fun _ _ _ _ _ _ us hl => match us, hl with | [_, _], _ => rfl
  have g22 := PySem.W.mg_of X G a22
  have F23 := fun_mk (st := s_law_is) l23 c23 k23
  have b23 := F23.binds (ps := ["found", "due"]) fun _ _ _ _ _ _ us hl => match us, hl with | [_, _], _ => rfl
  have g23 := PySem.W.mg_of X G a23
  have F24 := fun_mk (st := s_law) l24 c24 k24
  refine ⟨PySem.W.fnOf "law" "law" (defArgs s_law) (defBody s_law) (defScope s_law) .none kV24 dc24 pm24 an24 cd24 ct24, fun s v => .of_eq rfl, fun base _ _ => ?_⟩
  have C_is_whole : Cal l.prog w K mg base CX0 1 "is_whole" f0 _ ["value"] (spIsWhole K) := ⟨ok_is_whole F0 T, g0, k0, b0⟩
  have C_is_integer : Cal l.prog w K mg base CX0 2 "is_integer" f1 _ ["value", "low", "high"] (spIsInt K) := ⟨ok_is_integer F1 T C_is_whole, g1, k1, b1⟩
  have C_check_number : Cal l.prog w K mg base CX0 3 "check_number" f2 _ ["value", "low", "high"] spChkNum := ⟨ok_check_number F2 T C_is_integer, g2, k2, b2⟩
  have C_check_numberX : Cal l.prog w K mg base (L2.CX l.prog w) 3 "check_number" f2 _ ["value", "low", "high"] (spChkNumX K CBN) := ⟨okX_check_number F2 T BN C_is_integer, g2, k2, b2⟩
  have C_check_cells : Cal l.prog w K mg base CX0 4 "check_cells" f3 _ ["value"] spChkCells := ⟨ok_check_cells F3 T C_check_number, g3, k3, b3⟩
  have C_is_instruction : Cal l.prog w K mg base CX0 3 "is_instruction" f4 _ ["cells", "length", "value"] (spIsIn K) := ⟨ok_is_instruction F4 T Wd C_is_integer, g4, k4, b4⟩
  have C_check_length : Cal l.prog w K mg base CX0 2 "check_length" f5 _ ["value", "most"] (spChkLen K) := ⟨ok_check_length F5 T, g5, k5, b5⟩
  have C_check_lengthX : Cal l.prog w K mg base (L2.CX l.prog w) 3 "check_length" f5 _ ["value", "most"] (spChkLenX K CBP) := ⟨okX_check_length F5 T BP, g5, k5, b5⟩
  have C_check_program : Cal l.prog w K mg base CX0 4 "check_program" f6 _ ["cells", "value"] (spChkPg K) := ⟨ok_check_program F6 T C_check_length C_is_instruction, g6, k6, b6⟩
  have C_check_programX : Cal l.prog w K mg base (L2.CX l.prog w) 4 "check_program" f6 _ ["cells", "value"] (spChkPgX K CBP) := ⟨okX_check_program F6 T C_check_lengthX C_is_instruction, g6, k6, b6⟩
  have C_places_of : Cal l.prog w K mg base CX0 2 "places_of" f7 _ ["program"] (spPlaces K) := ⟨ok_places_of F7 T, g7, k7, b7⟩
  have C_branches : Cal l.prog w K mg base CX0 2 "branches" f8 _ ["program", "places", "at"] (spBranches K) := ⟨ok_branches F8 T, g8, k8, b8⟩
  have C_reached : Cal l.prog w K mg base CX0 5 "reached" f9 _ ["cells", "program"] (spReached K) := ⟨ok_reached F9 T C_check_cells C_check_program C_places_of C_branches, g9, k9, b9⟩
  have C_reachedX : Cal l.prog w K mg base (L2.CX l.prog w) 5 "reached" f9 _ ["cells", "program"] (spReachedX K CBP) := ⟨okX_reached F9 T C_check_cells C_check_programX C_places_of C_branches, g9, k9, b9⟩
  have C_may_go_on : Cal l.prog w K mg base CX0 5 "may_go_on" f10 _ ["cells", "program"] (spMayGo K) := ⟨ok_may_go_on F10 T C_check_cells C_check_program C_places_of C_branches, g10, k10, b10⟩
  have C_asks_for : Cal l.prog w K mg base CX0 3 "asks_for" f11 _ ["program", "places", "found", "at", "cell"] (spAsks K) := ⟨ok_asks_for F11 T WdR C_branches, g11, k11, b11⟩
  have C_readers : Cal l.prog w K mg base CX0 4 "readers" f12 _ ["program", "places", "cell"] (spReaders K) := ⟨ok_readers F12 T C_asks_for, g12, k12, b12⟩
  have C_marks_of : Cal l.prog w K mg base CX0 5 "marks_of" f13 _ ["cells", "program"] (spMarks K) := ⟨ok_marks_of F13 T C_places_of C_readers, g13, k13, b13⟩
  have C_needed : Cal l.prog w K mg base CX0 6 "needed" f14 _ ["cells", "program", "index"] (spNeeded K) := ⟨ok_needed F14 T C_check_cells C_check_program C_check_number C_marks_of, g14, k14, b14⟩
  have C_neededX : Cal l.prog w K mg base (L2.CX l.prog w) 6 "needed" f14 _ ["cells", "program", "index"] (spNeededX K CBN) := ⟨okX_needed F14 T C_check_cells C_check_program C_check_numberX C_marks_of, g14, k14, b14⟩
  have C_law_taken : Cal l.prog w K mg base CX0 1 "_law_taken" f15 _ ["row", "many"] (spTak K) := ⟨ok_tak F15 T, g15, k15, b15⟩
  have C_law_pick : Cal l.prog w K mg base CX0 2 "_law_pick" f16 _ ["row", "things"] (spPick K) := ⟨ok_pick F16 T C_law_taken, g16, k16, b16⟩
  have C_law_program : Cal l.prog w K mg base CX0 3 "_law_program" f17 _ ["row", "cells", "most"] (spProg K) := ⟨ok_program F17 T C_law_taken C_law_pick, g17, k17, b17⟩
  have C_law_stands : Cal l.prog w K mg base CX0 1 "_law_stands" f18 _ ["program", "index"] (spStands K) := ⟨ok_stands F18 T, g18, k18, b18⟩
  have C_law_nexts : Cal l.prog w K mg base CX0 2 "_law_nexts" f19 _ ["program", "index"] (spNexts K) := ⟨ok_nexts F19 T C_law_stands, g19, k19, b19⟩
  have C_law_all : Cal l.prog w K mg base CX0 3 "_law_all" f20 _ ["program"] (spAll K) := ⟨ok_all F20 T C_law_stands C_law_nexts, g20, k20, b20⟩
  have C_law_needs : Cal l.prog w K mg base CX0 3 "_law_needs" f21 _ ["program", "index", "cells"] (spLNeeds K) := ⟨ok_lneeds F21 T C_law_nexts, g21, k21, b21⟩
  have C_law_alike0 : Cal l.prog w K mg base CX0 0 "_law_alike" f22 _ ["found", "due"] spNone := ⟨ok_none, g22, k22, b22⟩
  have C_law_alike1 : Cal l.prog w K mg base CX0 1 "_law_alike" f22 _ ["found", "due"] spAlike1 := ⟨ok_alike1 F22 T C_law_alike0, g22, k22, b22⟩
  have C_law_alike : Cal l.prog w K mg base CX0 2 "_law_alike" f22 _ ["found", "due"] (spAlike2 K) := ⟨ok_alike2 F22 T C_law_alike1, g22, k22, b22⟩
  have C_law_is : Cal l.prog w K mg base CX0 1 "_law_is" f23 _ ["found", "due"] (fun vs H Q _ => ∃ b : Bool, vs = [.bl b, .bl b] ∧ ∀ H', Ex H H' → Q (.bl true) H') := ⟨ok_is F23 T, g23, k23, b23⟩
  exact ok_law F24 T C_law_taken C_law_pick C_law_program C_law_stands C_law_nexts C_law_all C_law_needs C_law_alike C_law_is C_reached C_reachedX C_needed C_neededX C_may_go_on BN BP
theorem walk {l : PySem.W.OpenLaw} {q : Program} {loose : List Str} {XP : (Str → Option Value) → Heap → Prop} {YP : World → Heap → Prop} {d : DefRec} {K : Params → PySem.W.Frag} (hn : l.most = some 63) (hdf : d.params.defaults = [])
    (hY : ∀ (w : World) (h : Heap), YP w h → (K w.params).In h)
    (F : ∀ (w : World) (mg : Str → Option Value) (fa : Addr) (h : Heap), (K w.params).In h → h.Ns mainGlobals mg → mg d.name = some (.ref fa) →
      ∃ fd : FuncData, (∀ (s : Shared) (u : Value), BindsTo s fd ⟨[u], []⟩ [("script", u)]) ∧ ∀ base : Heap, (K w.params).In base → base.Ns mainGlobals mg → FnOk l.prog w (K w.params) mg base CX0 7 fa fd ["script"] (spLaw (K w.params))) :
    PySem.W.WalkO q loose XP YP l.row.toRowW d [] (fun f vs => PySem.call f vs) :=
  L2.walk_of (n := 63) (k := 7) (x := "script") (CX := fun _ => CX0) (sp := fun w => spLaw (K w.params)) hn (by decide) hdf ⟨rfl, by decide, by decide⟩ hY F (fun _ _ a ns hl _ hS => ⟨a, ns, rfl, hS, fun _ => rfl⟩) fun _ _ _ _ _ z => z
end Fm
set_option Elab.async false
set_option linter.all false
set_option maxRecDepth 100000
open PySem PySem.W PyProof.Rows in
set_option maxRecDepth 100000 in
set_option maxHeartbeats 0 in
theorem PySem.Challenge.cw_fademill_k02_whole_needs_holds : PySem.Challenge.rw_fademill_k02_whole_needs.Holds := by
  w_on; o_law; k_head; (case hw => w_witness2)
  k_fill
  refine Fm.walk (l := PySem.Challenge.rw_fademill_k02_whole_needs) rfl rfl (fun w h Y => PySem.W.kIn_of Y) ?F
  case F =>
    intro w mg fa h KX G hmg
    refine' Fm.all_mk KX G hmg ?a0 ?l0 ?c0 ?k0 ?a1 ?l1 ?c1 ?k1 ?a2 ?l2 ?c2 ?k2 ?a3 ?l3 ?c3 ?k3 ?a4 ?l4 ?c4 ?k4 ?a5 ?l5 ?c5 ?k5 ?a6 ?l6 ?c6 ?k6 ?a7 ?l7 ?c7 ?k7 ?a8 ?l8 ?c8 ?k8 ?a9 ?l9 ?c9 ?k9 ?a10 ?l10 ?c10 ?k10 ?a11 ?l11 ?c11 ?k11 ?a12 ?l12 ?c12 ?k12 ?a13 ?l13 ?c13 ?k13 ?a14 ?l14 ?c14 ?k14 ?a15 ?l15 ?c15 ?k15 ?a16 ?l16 ?c16 ?k16 ?a17 ?l17 ?c17 ?k17 ?a18 ?l18 ?c18 ?k18 ?a19 ?l19 ?c19 ?k19 ?a20 ?l20 ?c20 ?k20 ?a21 ?l21 ?c21 ?k21 ?a22 ?l22 ?c22 ?k22 ?a23 ?l23 ?c23 ?k23 ?a24 ?l24 ?c24 ?k24 ?z_int ?z_len ?z_range ?z_isinstance ?z_bool ?z_tuple ?z_list ?z_str ?z_any ?z_sorted ?z_reversed ?z_enumerate ?z_all ?z_zip ?z_max ?z_min ?n_MOST_CELLS ?n_MOST_INSTRUCTIONS ?n_MILLION ?g_aA ?w_aA ?g_aC ?w_aC ?g_aP ?w_aP ?g_aR ?w_aR ?bn_g ?bn_k ?bn_q ?bn_ex ?bn_ty ?bn_c ?bn_s ?bp_g ?bp_zs ?bp_tp ?bp_l ?bp_bm ?bp_sup ?bp_mro ?bp_ve ?bp_sa ?bp_ga ?bp_gg ?bp_no ?bp_iC ?bp_tC ?bp_kC ?bp_ex ?bp_ty ?bp_hd ?bp_c ?bp_s ?bp_fn ?bp_cd ?bp_co ?bp_cv ?bp_fl ?bp_ce ?bp_top
    (case a0 => k_is)
    (case l0 => k_is)
    (case c0 => k_is)
    (case k0 => k_is)
    (case a1 => k_is)
    (case l1 => k_is)
    (case c1 => k_is)
    (case k1 => k_is)
    (case a2 => k_is)
    (case l2 => k_is)
    (case c2 => k_is)
    (case k2 => k_is)
    (case a3 => k_is)
    (case l3 => k_is)
    (case c3 => k_is)
    (case k3 => k_is)
    (case a4 => k_is)
    (case l4 => k_is)
    (case c4 => k_is)
    (case k4 => k_is)
    (case a5 => k_is)
    (case l5 => k_is)
    (case c5 => k_is)
    (case k5 => k_is)
    (case a6 => k_is)
    (case l6 => k_is)
    (case c6 => k_is)
    (case k6 => k_is)
    (case a7 => k_is)
    (case l7 => k_is)
    (case c7 => k_is)
    (case k7 => k_is)
    (case a8 => k_is)
    (case l8 => k_is)
    (case c8 => k_is)
    (case k8 => k_is)
    (case a9 => k_is)
    (case l9 => k_is)
    (case c9 => k_is)
    (case k9 => k_is)
    (case a10 => k_is)
    (case l10 => k_is)
    (case c10 => k_is)
    (case k10 => k_is)
    (case a11 => k_is)
    (case l11 => k_is)
    (case c11 => k_is)
    (case k11 => k_is)
    (case a12 => k_is)
    (case l12 => k_is)
    (case c12 => k_is)
    (case k12 => k_is)
    (case a13 => k_is)
    (case l13 => k_is)
    (case c13 => k_is)
    (case k13 => k_is)
    (case a14 => k_is)
    (case l14 => k_is)
    (case c14 => k_is)
    (case k14 => k_is)
    (case a15 => k_is)
    (case l15 => k_is)
    (case c15 => k_is)
    (case k15 => k_is)
    (case a16 => k_is)
    (case l16 => k_is)
    (case c16 => k_is)
    (case k16 => k_is)
    (case a17 => k_is)
    (case l17 => k_is)
    (case c17 => k_is)
    (case k17 => k_is)
    (case a18 => k_is)
    (case l18 => k_is)
    (case c18 => k_is)
    (case k18 => k_is)
    (case a19 => k_is)
    (case l19 => k_is)
    (case c19 => k_is)
    (case k19 => k_is)
    (case a20 => k_is)
    (case l20 => k_is)
    (case c20 => k_is)
    (case k20 => k_is)
    (case a21 => k_is)
    (case l21 => k_is)
    (case c21 => k_is)
    (case k21 => k_is)
    (case a22 => k_is)
    (case l22 => k_is)
    (case c22 => k_is)
    (case k22 => k_is)
    (case a23 => k_is)
    (case l23 => k_is)
    (case c23 => k_is)
    (case k23 => k_is)
    (case a24 => k_is)
    (case l24 => k_is)
    (case c24 => k_is)
    (case k24 => k_is)
    (case z_int => k_is)
    (case z_len => k_is)
    (case z_range => k_is)
    (case z_isinstance => k_is)
    (case z_bool => k_is)
    (case z_tuple => k_is)
    (case z_list => k_is)
    (case z_str => k_is)
    (case z_any => k_is)
    (case z_sorted => k_is)
    (case z_reversed => k_is)
    (case z_enumerate => k_is)
    (case z_all => k_is)
    (case z_zip => k_is)
    (case z_max => k_is)
    (case z_min => k_is)
    (case n_MOST_CELLS => k_is)
    (case n_MOST_INSTRUCTIONS => k_is)
    (case n_MILLION => k_is)
    (case g_aA => k_is)
    (case w_aA => k_is)
    (case g_aC => k_is)
    (case w_aC => k_is)
    (case g_aP => k_is)
    (case w_aP => k_is)
    (case g_aR => k_is)
    (case w_aR => k_is)
    (case bn_g => k_is)
    (case bn_k => k_is)
    (case bn_q => k_exc)
    (case bn_ex => k_is)
    (case bn_ty => k_is)
    (case bn_c => k_is)
    (case bn_s => first | rfl | k_is)
    (case bp_g => k_is)
    (case bp_zs => k_is)
    (case bp_tp => k_is)
    (case bp_l => k_is)
    (case bp_bm => kernel_rfl)
    (case bp_sup => ks_is)
    (case bp_mro => k_is)
    (case bp_ve => k_is)
    (case bp_sa => k_is)
    (case bp_ga => k_is)
    (case bp_gg => k_is)
    (case bp_no => k_is)
    (case bp_iC => k_is)
    (case bp_tC => k_is)
    (case bp_kC => k_is)
    (case bp_ex => k_is)
    (case bp_ty => k_is)
    (case bp_hd => k_is)
    (case bp_c => k_is)
    (case bp_s => first | rfl | k_is)
    (case bp_fn => k_is)
    (case bp_cd => k_is)
    (case bp_co => k_is)
    (case bp_cv => rfl)
    (case bp_fl => kernel_rfl)
    (case bp_ce => k_is)
    (case bp_top => kernel_rfl)
#print axioms PySem.Challenge.cw_fademill_k02_whole_needs_holds
