import PyProof.Rows.All
import Wide.All
import OpenK.AllK
import Wide.FinOn
import HandS.ForMost
import HandS.ForExc
import HandS.Steps
import HandS.IsInst
import HandS.TupMul
import HandS.RevRange
import HandS.DictComp
import HandS.FStr
import HandS.SortInts
import HandS.More
import HandS.Conv
import HandS.ListEq
import HandS.Evl
import PySem.Challenge.RW_fademill_k12_whole_benches
import KE.GoesEnum
import HandS.Iter
import HandS.Walk
import HandS.Zip
import HandS.Style
import KE.GoesMore
import HandS.Property
import HandS.RaiseMore
import HandS.Lambda
import KE.KDflt
import KE.KNestM
import HandS.TryMany
import HandS.ExcOwn
import HandS.Deep
import HandS.EndTab
set_option Elab.async false
set_option linter.all false
set_option maxRecDepth 100000
set_option maxHeartbeats 1000000
namespace Fm
open PySem L2
/-! own lemmas over the layer -/
theorem st_if {c : TT} {t1 t2 : TS} {D : Ends} {σ : L2.St} {H : Hp} {b : Bool} (h : Ans c σ H b) (y : b = true → t1 D σ H) (n : b = false → t2 D σ H) : tIfS c t1 t2 D σ H := by
  cases b with
  | true => exact st_yes h (y rfl)
  | false => exact st_no h (n rfl)
/-- an item of a list, a tuple, a text, none of which changes -/
theorem val_ixL {K : PySem.W.Frag} {ta tb : TE} {σ : L2.St} {H : Hp} {p : Addr} {xs : List V} {i : Int} {v : V} (ha : Val ta σ H (.ref p)) (hb : Val tb σ H (.int i)) (h : SqL K H p xs) (e : atI xs i = some v) : Val (tOp (rIx K) ta tb) σ H v :=
  val_op ha hb fun _ q => .inl ⟨p, xs, i, v, rfl, rfl, h, e, q⟩
theorem val_ixT {K : PySem.W.Frag} {ta tb : TE} {σ : L2.St} {H : Hp} {p : Addr} {xs : List V} {i : Int} {v : V} (ha : Val ta σ H (.ref p)) (hb : Val tb σ H (.int i)) (h : SqT K H p xs) (e : atI xs i = some v) : Val (tOp (rIx K) ta tb) σ H v :=
  val_op ha hb fun _ q => .inr (.inl ⟨p, xs, i, v, rfl, rfl, h, e, q⟩)
theorem val_i0 {g : Int → Int → V} {ta tb : TE} {σ : L2.St} {H : Hp} {i j : Int} (ha : Val ta σ H (.int i)) (hb : Val tb σ H (.int j)) : Val (tOp (rI0 g) ta tb) σ H (g i j) := val_op ha hb fun _ q => ⟨i, j, rfl, rfl, q⟩
theorem val_i {C : Int → Int → Prop} {g : Int → Int → V} {ta tb : TE} {σ : L2.St} {H : Hp} {i j : Int} (ha : Val ta σ H (.int i)) (hb : Val tb σ H (.int j)) (c : C i j) : Val (tOp (rI C g) ta tb) σ H (g i j) := val_op ha hb fun _ q => ⟨i, j, rfl, rfl, c, q⟩
theorem ans_i0 {g : Int → Int → Bool} {ta tb : TE} {σ : L2.St} {H : Hp} {i j : Int} (ha : Val ta σ H (.int i)) (hb : Val tb σ H (.int j)) : Ans (tTest (tOp (rI0 fun i j => .bl (g i j)) ta tb)) σ H (g i j) := fun _ q => ha _ (hb _ ⟨i, j, rfl, rfl, _, rfl, q⟩)
theorem st_asg {te : TE} {i : Nat} {v : V} {t2 : TS} {D : Ends} {σ : L2.St} {H : Hp} (h : Val te σ H v) (q : t2 D (σ.set i (some v)) H) : tSeq (tAsg te (gName i)) t2 D σ H := h _ q
theorem st_setL {te to ti : TE} {t2 : TS} {D : Ends} {σ : L2.St} {H : Hp} {v : V} {l : Addr} {xs : List V} {k : Int} {j : Nat} (h : Val te σ H v) (ho : Val to σ H (.ref l)) (hi : Val ti σ H (.int k)) (hl : H l = some (.lst xs)) (hj : ixN xs.length k = some j)
    (q : t2 D σ (upd H l (.lst (xs.set j v)))) : tSeq (tAsg te (gSub to ti rSetL)) t2 D σ H := h _ (ho _ (hi _ ⟨l, xs, k, j, rfl, rfl, hl, hj, q⟩))
theorem st_setL1 {te to ti : TE} {D : Ends} {σ : L2.St} {H : Hp} {v : V} {l : Addr} {xs : List V} {k : Int} {j : Nat} (h : Val te σ H v) (ho : Val to σ H (.ref l)) (hi : Val ti σ H (.int k)) (hl : H l = some (.lst xs)) (hj : ixN xs.length k = some j)
    (q : D.nx σ (upd H l (.lst (xs.set j v)))) : tAsg te (gSub to ti rSetL) D σ H := h _ (ho _ (hi _ ⟨l, xs, k, j, rfl, rfl, hl, hj, q⟩))
theorem val_int1 {ta : TE} {σ : L2.St} {H : Hp} {i : Int} (ha : Val ta σ H (.int i)) : Val (tCB (fun xs H Q => (∃ i, xs = [.int i] ∧ Q (.int i) H) ∨ ∃ k, xs = [.bl k] ∧ Q (.int (if k then 1 else 0)) H) (tCons ta tNil)) σ H (.int i) := fun _ q => ha _ (.inl ⟨i, rfl, q⟩)
theorem val_lenX {K : PySem.W.Frag} {ta : TE} {σ : L2.St} {H : Hp} {x : V} {n : Nat} (ha : Val ta σ H x) (h : LenV K x H n) : Val (tCB (fun xs H Q => ∃ x n, xs = [x] ∧ LenV K x H n ∧ Q (.int n) H) (tCons ta tNil)) σ H (.int n) := fun _ q => ha _ ⟨x, n, rfl, h, q⟩
theorem val_lenS {K : PySem.W.Frag} {ta : TE} {σ : L2.St} {H : Hp} {p : Addr} {xs : List V} (ha : Val ta σ H (.ref p)) (h : SqL K H p xs ∨ SqT K H p xs) : Val (tCB (fun xs H Q => ∃ p ys, xs = [.ref p] ∧ (SqL K H p ys ∨ SqT K H p ys) ∧ Q (.int ys.length) H) (tCons ta tNil)) σ H (.int xs.length) := fun _ q => ha _ ⟨p, xs, rfl, h, q⟩
end Fm
namespace Fm
open PySem L2
/-! the rules, the written part told by name (a comprehension's block has another context, the same written part) -/
section
variable {X : Cx} {K : PySem.W.Frag}
theorem ix_K (h : X.K = K) : IxR X (rIx K) := h ▸ ix_seq
theorem len_K (h : X.K = K) : CallR X (.builtin "len") (fun xs H Q => ∃ x n, xs = [x] ∧ LenV K x H n ∧ Q (.int n) H) := h ▸ call_len
theorem isi_K (h : X.K = K) : CallR X (.builtin "isinstance") (rIsi K) := h ▸ call_isi
theorem isiT_K (h : X.K = K) : CallR X (.builtin "isinstance") (rIsiT K) := h ▸ call_isiT
theorem tpl_K (h : X.K = K) : CallR X (.type "tuple") (fun xs H Q => ∃ p ys, xs = [.ref p] ∧ ((SqL K H p ys ∧ ∀ l, H l = none → Q (.ref l) (upd H l (.tup ys))) ∨ (SqT K H p ys ∧ Q (.ref p) H))) := h ▸ call_tuple_of
theorem ls_K (h : X.K = K) : CallR X (.type "list") (fun xs H Q => ∃ p ys, xs = [.ref p] ∧ (SqL K H p ys ∨ SqT K H p ys) ∧ ∀ l, H l = none → Q (.ref l) (upd H l (.lst ys))) := h ▸ call_list_of
theorem any_K (h : X.K = K) (hc : X.calm = true) : CallR X (.builtin "any") (rAny K) := h ▸ cr_any hc
theorem all_K (h : X.K = K) (hc : X.calm = true) : CallR X (.builtin "all") (rAll K) := h ▸ cr_all hc
theorem in_K (h : X.K = K) : OpR X (compareOp .In) (rIn K false) := h ▸ op_in_seq
theorem nin_K (h : X.K = K) : OpR X (compareOp .NotIn) (rIn K true) := h ▸ op_notIn_seq
theorem eqD_K (h : X.K = K) (hu : X.A.units + 64 < cLine) : OpR X (compareOp .Eq) (rEqD K) := h ▸ op_eqD hu
theorem neD_K (h : X.K = K) (hu : X.A.units + 64 < cLine) : OpR X (compareOp .NotEq) (rNeD K) := h ▸ op_neD hu
theorem sorted_K (h : X.K = K) : CallR X (.builtin "sorted") (rSortedI K) := h ▸ cr_sortedI
theorem max_K (h : X.K = K) (hc : X.calm = true) : CallR X (.builtin "max") (rMax K) := h ▸ (cr_max hc)
theorem min_K (h : X.K = K) (hc : X.calm = true) : CallR X (.builtin "min") (rMin K) := h ▸ (cr_min hc)
theorem sum_K (h : X.K = K) (hc : X.calm = true) : CallR X (.builtin "sum") (rSum K) := h ▸ (cr_sum hc)
theorem sll_K (h : X.K = K) : SlR X (rSlL K) := h ▸ sl_list
theorem slt_K (h : X.K = K) : SlR X (rSlT K) := h ▸ sl_tup
theorem catT_K (h : X.K = K) : OpR X (binaryOp .Add) (rCatT K) := h ▸ op_catT
theorem repT_K (h : X.K = K) : OpR X (binaryOp .Mult) (rRepT K) := h ▸ op_repT
theorem pi_listK {tg l : Expr} {tl : TE} (h : X.K = K) (hl : PE X l tl) : PI X tg l (iList K tl) := h ▸ pi_list hl
theorem pi_tupK {tg l : Expr} {tl : TE} (h : X.K = K) (hl : PE X l tl) : PI X tg l (iTup K tl) := h ▸ pi_tup hl
theorem pt_truthK {a : Expr} {ta : TE} (h : X.K = K) (ha : PE X a ta) (he : ∀ whole, isTrue a X.env whole = (do let v ← whole; standAt a.pos; holding [v] (truthy v))) : PT X a (fun σ H Q => ta σ H fun x H' => ∃ k, TruV K x H' k ∧ Q k H') := h ▸ pt_truth ha he
end
end Fm
set_option Elab.async false
set_option linter.all false
set_option maxRecDepth 100000
set_option maxHeartbeats 1000000
namespace Fm
open PySem L2 Evl
/-! ### instructions, programs -/
inductive In where
  | get (c : Nat) | plus (c : Nat) | minus (c : Nat) | set (c : Nat) | put (k : Int) | say | ask | zero (t : Nat) | go (t : Nat) | stop | touch (c : Nat)
  deriving DecidableEq
def In.w : In → Str
  | .get _ => "get" | .plus _ => "plus" | .minus _ => "minus" | .set _ => "set" | .put _ => "put" | .say => "say" | .ask => "ask" | .zero _ => "zero" | .go _ => "go" | .stop => "stop" | .touch _ => "touch"
def In.arg : In → Option Int
  | .get c => some c | .plus c => some c | .minus c => some c | .set c => some c | .put k => some k | .say => none | .ask => none | .zero t => some t | .go t => some t | .stop => none | .touch c => some c
def In.vs (i : In) : List V := match i.arg with
  | none => [.str i.w]
  | some k => [.str i.w, .int k]
def In.ok (cells len : Nat) : In → Prop
  | .get c => c < cells | .plus c => c < cells | .minus c => c < cells | .set c => c < cells | .put k => -1000000 ≤ k ∧ k ≤ 1000000 | .say => True | .ask => True | .zero t => t ≤ len | .go t => t ≤ len | .stop => True | .touch c => c < cells
def In.isTouch : In → Bool
  | .touch _ => true
  | _ => false
def InAt (K : PySem.W.Frag) (H : Hp) (v : V) (i : In) : Prop := ∃ b, v = .ref b ∧ SqT K H b i.vs
def PgT (K : PySem.W.Frag) (H : Hp) (a : Addr) (p : List In) : Prop := ∃ xs, SqT K H a xs ∧ Paired (InAt K H) xs p
theorem InAt.up {K : PySem.W.Frag} {H H' : Hp} {v : V} {i : In} (e : Ex H H') (h : InAt K H v i) : InAt K H' v i := let ⟨b, h1, h2⟩ := h; ⟨b, h1, ex_t e h2⟩
theorem PgT.up {K : PySem.W.Frag} {H H' : Hp} {a : Addr} {p : List In} (e : Ex H H') (h : PgT K H a p) : PgT K H' a p := let ⟨xs, h1, h2⟩ := h; ⟨xs, ex_t e h1, Paired.mapP h2 fun _ _ z => z.up e⟩
theorem paired_get {α β : Type} {R : α → β → Prop} : ∀ {xs : List α} {ys : List β} {i : Nat} {y : β}, Paired R xs ys → ys[i]? = some y → ∃ x, xs[i]? = some x ∧ R x y
  | _, _, _, _, .nil, e => by simp at e
  | _, _, 0, _, .cons r _, e => by simp at e; subst e; exact ⟨_, rfl, r⟩
  | _, _, i + 1, y, .cons _ t, e => by
    obtain ⟨u, h1, h2⟩ := paired_get (i := i) (y := y) t (by simpa using e)
    exact ⟨u, by simpa using h1, h2⟩
theorem paired_append {α β : Type} {R : α → β → Prop} : ∀ {xs xs' : List α} {ys ys' : List β}, Paired R xs ys → Paired R xs' ys' → Paired R (xs ++ xs') (ys ++ ys')
  | _, _, _, _, .nil, s => s
  | _, _, _, _, .cons r t, s => .cons r (paired_append t s)
theorem atI_nat' {α : Type} {xs : List α} {i : Nat} {v : α} (h : xs[i]? = some v) : atI xs (i : Int) = some v := by
  have hi : i < xs.length := (List.getElem?_eq_some_iff.mp h).1
  unfold atI
  rw [ixN_nat hi]
  exact h
theorem vs_0 (i : In) : atI i.vs 0 = some (.str i.w) := by
  unfold In.vs
  cases i <;> rfl
theorem vs_1 {i : In} {k : Int} (h : i.arg = some k) : atI i.vs 1 = some (.int k) := by
  unfold In.vs
  rw [h]
  rfl
section
variable {K : PySem.W.Frag} {σ : L2.St} {H : Hp} {ta tb te : TE} {a b : Addr} {p : List In} {x : In} {n : Nat}
theorem ev_ixT {xs : List V} {i : Int} {v : V} (ha : Ev ta σ H (.ref a)) (hb : Ev tb σ H (.int i)) (h : SqT K H a xs) (e : atI xs i = some v) : Ev (tOp (rIx K) ta tb) σ H v :=
  ev_op ha hb fun H1 e1 _ q => .inr (.inl ⟨a, xs, i, v, rfl, rfl, ex_t e1 h, e, q H1 (Ex.refl H1)⟩)
theorem ev_ixL {xs : List V} {i : Int} {v : V} (ha : Ev ta σ H (.ref a)) (hb : Ev tb σ H (.int i)) (h : SqL K H a xs) (e : atI xs i = some v) : Ev (tOp (rIx K) ta tb) σ H v :=
  ev_op ha hb fun H1 e1 _ q => .inl ⟨a, xs, i, v, rfl, rfl, ex_l e1 h, e, q H1 (Ex.refl H1)⟩
theorem PgT.len (h : PgT K H a p) : ∃ xs, SqT K H a xs ∧ xs.length = p.length := let ⟨xs, h1, h2⟩ := h; ⟨xs, h1, Paired.length h2⟩
theorem PgT.at_ (h : PgT K H a p) (e : p[n]? = some x) : ∃ b, ∃ xs, SqT K H a xs ∧ atI xs (n : Int) = some (.ref b) ∧ SqT K H b x.vs := by
  obtain ⟨xs, h1, h2⟩ := h
  obtain ⟨v, hv, b, rfl, hb⟩ := paired_get h2 e
  exact ⟨b, xs, h1, atI_nat' hv, hb⟩
theorem ev_pg (h : PgT K H a p) (e : p[n]? = some x) (ha : Ev ta σ H (.ref a)) (hb : Ev tb σ H (.int (n : Int))) : ∃ b, Ev (tOp (rIx K) ta tb) σ H (.ref b) ∧ SqT K H b x.vs := by
  obtain ⟨b, xs, h1, h2, h3⟩ := h.at_ e
  exact ⟨b, ev_ixT ha hb h1 h2, h3⟩
/-- program[n][0] -/
theorem ev_pg0 (h : PgT K H a p) (e : p[n]? = some x) (ha : Ev ta σ H (.ref a)) (hb : Ev tb σ H (.int (n : Int))) : Ev (tOp (rIx K) (tOp (rIx K) ta tb) (tC (.int 0))) σ H (.str x.w) := by
  obtain ⟨b, h1, h2⟩ := ev_pg h e ha hb
  exact ev_ixT h1 ev_c h2 (vs_0 x)
theorem ev_pg1 {k : Int} (h : PgT K H a p) (e : p[n]? = some x) (hk : x.arg = some k) (ha : Ev ta σ H (.ref a)) (hb : Ev tb σ H (.int (n : Int))) : Ev (tOp (rIx K) (tOp (rIx K) ta tb) (tC (.int 1))) σ H (.int k) := by
  obtain ⟨b, h1, h2⟩ := ev_pg h e ha hb
  exact ev_ixT h1 ev_c h2 (vs_1 hk)
abbrev rLn (K : PySem.W.Frag) : List V → Hp → VK → Prop := fun xs H Q => ∃ x n, xs = [x] ∧ LenV K x H n ∧ Q (.int n) H
theorem ev_lnT {xs : List V} (ha : Ev ta σ H (.ref a)) (h : SqT K H a xs) : Ev (tCB (rLn K) (tCons ta tNil)) σ H (.int (xs.length : Int)) := fun H1 e Q q =>
  ha H1 e _ fun H2 e2 => ⟨_, _, rfl, .inr ⟨xs, ex_t (e.trans e2) h, rfl⟩, q H2 e2⟩
theorem ev_lnL {xs : List V} (ha : Ev ta σ H (.ref a)) (h : SqL K H a xs) : Ev (tCB (rLn K) (tCons ta tNil)) σ H (.int (xs.length : Int)) := fun H1 e Q q =>
  ha H1 e _ fun H2 e2 => ⟨_, _, rfl, .inl ⟨xs, ex_l (e.trans e2) h, rfl⟩, q H2 e2⟩
theorem ev_lnP (h : PgT K H a p) (ha : Ev ta σ H (.ref a)) : Ev (tCB (rLn K) (tCons ta tNil)) σ H (.int (p.length : Int)) := by
  obtain ⟨xs, h1, h2⟩ := h.len
  have := ev_lnT ha h1
  rw [h2] at this
  exact this
theorem ev_i0 {g : Int → Int → V} {i j : Int} (ha : Ev ta σ H (.int i)) (hb : Ev tb σ H (.int j)) : Ev (tOp (rI0 g) ta tb) σ H (g i j) := ev_op ha hb rv_I0
theorem et_i0 {g : Int → Int → Bool} {i j : Int} (ha : Ev ta σ H (.int i)) (hb : Ev tb σ H (.int j)) : EvT (tTest (tOp (rI0 fun i j => .bl (g i j)) ta tb)) σ H (g i j) := et_test (ev_i0 ha hb)
theorem et_eq {x y : V} (ha : Ev ta σ H x) (hb : Ev tb σ H y) (h : scal x y = true) : EvT (tTest (tOp rEq ta tb)) σ H (decide (x = y)) := et_test (ev_op ha hb (rv_eq h))
theorem et_ne {x y : V} (ha : Ev ta σ H x) (hb : Ev tb σ H y) (h : scal x y = true) : EvT (tTest (tOp rNe ta tb)) σ H (!decide (x = y)) := et_test (ev_op ha hb (rv_ne h))
theorem et_inT {xs : List V} {x : V} (ha : Ev ta σ H x) (hb : EvU tb σ H xs) (hx : flatV x = true) (hf : xs.all flatV = true) : EvT (tTest (tOp (rIn K false) ta tb)) σ H (inV x xs) := et_test (ev_inU ha hb hx hf)
theorem et_inL {xs : List V} {x : V} (ha : Ev ta σ H x) (hb : EvL tb σ H xs) (hx : flatV x = true) (hf : xs.all flatV = true) : EvT (tTest (tOp (rIn K false) ta tb)) σ H (inV x xs) := et_test (ev_opL ha hb fun _ _ h _ => rv_isL (sq_of h) hx hf)
theorem et_inK {xs : List V} {x : V} (ha : Ev ta σ H x) (hb : Ev tb σ H (.ref a)) (h : SqT K H a xs) (hx : flatV x = true) (hf : xs.all flatV = true) : EvT (tTest (tOp (rIn K false) ta tb)) σ H (inV x xs) := et_test (ev_op ha hb (rv_isT h hx hf))
theorem ev_inK {xs : List V} {x : V} (ha : Ev ta σ H x) (hb : Ev tb σ H (.ref a)) (h : SqT K H a xs) (hx : flatV x = true) (hf : xs.all flatV = true) : Ev (tOp (rIn K false) ta tb) σ H (.bl (inV x xs)) := ev_op ha hb (rv_isT h hx hf)
end
/-! ### where a program stands -/
def gstep (p : List In) (j : Nat) : Nat := match p[j]? with
  | some (.go t) => t
  | _ => j
def gn (p : List In) (i : Nat) : Nat → Nat
  | 0 => i
  | k + 1 => gstep p (gn p i k)
def In.isGo : In → Bool
  | .go _ => true
  | _ => false
def In.isEnd : In → Bool
  | .go _ => true | .stop => true
  | _ => false
def ends (p : List In) (j : Nat) : Bool := match p[j]? with
  | none => true
  | some x => x.isEnd
/-- where it stands, its length for the end -/
def stE (p : List In) (i : Nat) : Nat := if ends p (gn p i (p.length + 1)) then p.length else gn p i (p.length + 1)
def toI (p : List In) (e : Nat) : Int := if e = p.length then -1 else (e : Int)
def Pok (cells : Nat) (p : List In) : Prop := 0 < p.length ∧ ∀ i ∈ p, i.ok cells p.length
/-- no touch in it -/
def NoT (p : List In) : Prop := ∀ i ∈ p, i.isTouch = false
theorem gstep_le {cells : Nat} {p : List In} (h : Pok cells p) {j : Nat} (hj : j ≤ p.length) : gstep p j ≤ p.length := by
  unfold gstep
  split
  · rename_i t e
    have := h.2 _ (List.mem_of_getElem? e)
    exact this
  · exact hj
theorem gn_le {cells : Nat} {p : List In} (h : Pok cells p) {i : Nat} (hi : i ≤ p.length) : ∀ k, gn p i k ≤ p.length
  | 0 => hi
  | k + 1 => gstep_le h (gn_le h hi k)
theorem w_go (i : In) : decide (V.str i.w = V.str "go") = i.isGo := by cases i <;> kernel_rfl
def In.isStop : In → Bool
  | .stop => true
  | _ => false
theorem w_stop (i : In) : decide (V.str i.w = V.str "stop") = i.isStop := by cases i <;> kernel_rfl
theorem w_sg (i : In) : inV (V.str i.w) [.str "stop", .str "go"] = i.isEnd := by cases i <;> kernel_rfl
def nV (l : List Nat) : List V := l.map fun x => V.int (x : Nat)
theorem nV_get {l : List Nat} {i : Nat} {x : V} (h : (nV l)[i]? = some x) : ∃ y, l[i]? = some y ∧ x = V.int (y : Nat) := by
  unfold nV at h
  rw [List.getElem?_map] at h
  cases hh : l[i]? with
  | none => rw [hh] at h; cases h
  | some z => rw [hh] at h; exact ⟨z, rfl, (Option.some.inj h).symm⟩
theorem nV_len (l : List Nat) : (nV l).length = l.length := List.length_map _
theorem inV_nV {y : Nat} : ∀ {F : List Nat}, inV (.int (y : Nat)) (nV F) = decide (y ∈ F)
  | [] => rfl
  | x :: F => by
    have ih := inV_nV (y := y) (F := F)
    show (((x : Int) == (y : Int)) || inV (.int (y : Nat)) (nV F)) = decide (y ∈ x :: F)
    rw [ih, Bool.eq_iff_iff]
    simp only [Bool.or_eq_true, decide_eq_true_eq, List.mem_cons, beq_iff_eq]
    constructor
    · rintro (h | h)
      · exact .inl (by omega)
      · exact .inr h
    · rintro (h | h)
      · exact .inl (by omega)
      · exact .inr h
theorem nV_flat (F : List Nat) : (nV F).all flatV = true := by
  rw [List.all_eq_true]
  intro x hx
  obtain ⟨y, _, rfl⟩ := List.mem_map.mp hx
  rfl
end Fm
set_option Elab.async false
set_option linter.all false
set_option maxRecDepth 100000
namespace Fm
open PySem L2
def top (i : Nat) : Stmt := PySem.Challenge.pw_fademill_k12_whole_benches.main.body.getD i (.Pass ⟨0, 0, 0, 0⟩)
structure Txt (K : PySem.W.Frag) (mg : Str → Option Value) : Prop where
  z_int : mg "int" = none
  z_len : mg "len" = none
  z_range : mg "range" = none
  z_isinstance : mg "isinstance" = none
  z_bool : mg "bool" = none
  z_tuple : mg "tuple" = none
  z_list : mg "list" = none
  z_str : mg "str" = none
  z_any : mg "any" = none
  z_sorted : mg "sorted" = none
  z_reversed : mg "reversed" = none
  z_enumerate : mg "enumerate" = none
  z_all : mg "all" = none
  z_zip : mg "zip" = none
  z_max : mg "max" = none
  z_min : mg "min" = none
  c_MOST_CELLS : ∃ t, mg "MOST_CELLS" = some (.int 4 t)
  c_MOST_FADE : ∃ t, mg "MOST_FADE" = some (.int 8 t)
end Fm
set_option Elab.async false
set_option linter.all false
set_option maxRecDepth 100000
set_option maxHeartbeats 1000000
namespace Fm
open PySem L2 Evl
/-- a def that may be called by its name -/
structure Cal (P : Program) (w : World) (K : PySem.W.Frag) (mg : Str → Option Value) (base : Heap) (CX : CXT) (k : Nat) (x : Str) (f : Addr) (fd : FuncData) (ps : List Str) (sp : Sp) : Prop where
  G : FnOk P w K mg base CX k f fd ps sp
  g : mg x = some (.ref f)
  kp : PySem.W.keepIn K (.ref f) = true
  b : Binds K fd ps []
theorem tyx_up {K : PySem.W.Frag} {H H' : Hp} {x : V} {t : Value} (e : Ex H H') (h : TyX K H x t) : TyX K H' x t := by
  cases h with
  | base h =>
    refine .base ?_
    cases h with
    | non => exact .non
    | bl b => exact .bl b
    | int i => exact .int i
    | str s => exact .str s
    | flt s => exact .flt s
    | lst a => exact .lst (e _ _ a)
    | frz a => exact .frz (e _ _ a)
    | tup a => exact .tup (e _ _ a)
    | dK a => exact .dK (e _ _ a)
    | dT a => exact .dT (e _ _ a)
    | ins a b c d f g => exact .ins (e _ _ a) b c d f g
  | byt b => exact .byt b
  | set a => exact .set (e _ _ a)
  | kList a b => exact .kList a b
  | kTuple a b => exact .kTuple a b
  | kDict a b => exact .kDict a b
  | fTuple a => exact .fTuple (e _ _ a)
  | fDict a => exact .fDict (e _ _ a)
theorem ty_tup {K : PySem.W.Frag} {H : Hp} {a : Addr} {xs : List V} (h : SqT K H a xs) : TyX K H (.ref a) (.type "tuple") := by
  rcases h with (h | ⟨o, h⟩) | ⟨o, _, _, h, c, _⟩
  · exact .base (.tup h)
  · exact .fTuple h
  · exact .kTuple h c
theorem ty_lst {K : PySem.W.Frag} {H : Hp} {a : Addr} {xs : List V} (h : SqL K H a xs) : TyX K H (.ref a) (.type "list") := by
  rcases h with (h | ⟨o, h⟩) | ⟨o, _, _, h, c, _⟩
  · exact .base (.lst h)
  · exact .base (.frz h)
  · exact .kList h c
/-- an int, or what is none -/
def IntV (K : PySem.W.Frag) (H : Hp) (x : V) : Option Int → Prop
  | some n => x = .int n
  | none => ∃ t, TyX K H x (.type t) ∧ (kitB t "int" = some false ∨ kitB t "int" = some true ∧ kitB t "bool" = some true)
theorem IntV.non {K : PySem.W.Frag} {H : Hp} : IntV K H .non none := ⟨"NoneType", .base .non, .inl (by decide +kernel)⟩
theorem IntV.bl {K : PySem.W.Frag} {H : Hp} {b : Bool} : IntV K H (.bl b) none := ⟨"bool", .base (.bl b), .inr ⟨by decide +kernel, by decide +kernel⟩⟩
theorem IntV.tup {K : PySem.W.Frag} {H : Hp} {a : Addr} {xs : List V} (h : SqT K H a xs) : IntV K H (.ref a) none := ⟨"tuple", ty_tup h, .inl (by decide +kernel)⟩
theorem IntV.up {K : PySem.W.Frag} {H H' : Hp} {x : V} {o : Option Int} (e : Ex H H') (h : IntV K H x o) : IntV K H' x o := by
  cases o with
  | some n => exact h
  | none =>
    obtain ⟨t, a, b⟩ := h
    exact ⟨t, tyx_up e a, b⟩
section
variable {K : PySem.W.Frag} {σ : L2.St} {H : Hp} {ta tb tc te : TE} {a b : Addr}
theorem ev_isi {x : V} {t n : String} {b : Bool} (ha : Ev ta σ H x) (ty : TyX K H x (.type t)) (e : kitB t n = some b) : Ev (tCB (rIsi K) (tCons ta (tCons (tC (.ty n)) tNil))) σ H (.bl b) := fun H1 e1 _ q =>
  ha H1 e1 _ fun H2 e2 => ⟨x, _, _, _, b, rfl, .ty n, tyx_up (e1.trans e2) ty, kit_ty e, q H2 e2⟩
theorem ev_chain {g g' : Int → Int → Bool} {i j k : Int} (ha : Ev ta σ H (.int i)) (hb : Ev tb σ H (.int j)) (hc : Ev tc σ H (.int k)) : Ev (tChain (rI0 fun i j => .bl (g i j)) (rI0 fun i j => .bl (g' i j)) ta tb tc) σ H (.bl (g i j && g' j k)) := fun H1 e1 Q q =>
  ha H1 e1 _ fun H2 e2 => hb H2 (e1.trans e2) _ fun H3 e3 => ⟨i, j, rfl, rfl, g i j, rfl, by
    cases h : g i j with
    | true => exact iteT (hc H3 ((e1.trans e2).trans e3) _ fun H4 e4 => ⟨j, k, rfl, rfl, by
        have := q H4 ((e2.trans e3).trans e4)
        rw [h] at this
        exact this⟩)
    | false =>
      refine iteF ?_
      have := q H3 (e2.trans e3)
      rw [h] at this
      exact this⟩
/-- a call -/
theorem s_call {sp : Sp} {E : XK} {ta : TA} {vs : List V} {D : Ends} (h : EvA ta σ H vs) (k : ∀ H1, Ex H H1 → sp (vs ++ []) H1 (fun _ H2 => D.nx σ H2) E) : tDrop (tCall sp [] E ta) D σ H := h H (Ex.refl H) _ k
theorem q_call {sp : Sp} {E : XK} {ta : TA} {vs : List V} {D : Ends} {tz : TS} (h : EvA ta σ H vs) (k : ∀ H1, Ex H H1 → sp (vs ++ []) H1 (fun _ H2 => tz D σ H2) E) : tSeq (tDrop (tCall sp [] E ta)) tz D σ H := h H (Ex.refl H) _ k
theorem q_callA {sp : Sp} {E : XK} {ta : TA} {vs : List V} {D : Ends} {tz : TS} {i : Nat} (h : EvA ta σ H vs) (k : ∀ H1, Ex H H1 → sp (vs ++ []) H1 (fun v H2 => tz D (σ.set i (some v)) H2) E) : tSeq (tAsg (tCall sp [] E ta) (gName i)) tz D σ H := h H (Ex.refl H) _ k
theorem s_callA {sp : Sp} {E : XK} {ta : TA} {vs : List V} {D : Ends} {i : Nat} (h : EvA ta σ H vs) (k : ∀ H1, Ex H H1 → sp (vs ++ []) H1 (fun v H2 => D.nx (σ.set i (some v)) H2) E) : tAsg (tCall sp [] E ta) (gName i) D σ H := h H (Ex.refl H) _ k
theorem s_callR {sp : Sp} {E : XK} {ta : TA} {vs : List V} {D : Ends} (h : EvA ta σ H vs) (k : ∀ H1, Ex H H1 → sp (vs ++ []) H1 (fun v H2 => D.rt v H2) E) : tRet (tCall sp [] E ta) D σ H := h H (Ex.refl H) _ k
theorem ev_callV {sp : Sp} {E : XK} {ta : TA} {vs : List V} {z : V} (h : EvA ta σ H vs) (hs : ∀ H1, Ex H H1 → ∀ Q : VK, (∀ H2, Ex H1 H2 → Q z H2) → sp (vs ++ []) H1 Q E) : Ev (tCall sp [] E ta) σ H z := fun H1 e Q q =>
  h H1 e _ fun H2 e2 => hs H2 (e.trans e2) Q fun H3 e3 => q H3 (e2.trans e3)
end
end Fm
set_option Elab.async false
set_option linter.all false
set_option maxRecDepth 100000
set_option maxHeartbeats 1000000
namespace Fm
open PySem L2 Evl
section
variable {K : PySem.W.Frag} {σ : L2.St} {H : Hp} {ta tb te : TE} {D : Ends} {tz : TS}
theorem el_rep {xs : List V} {k : Nat} (ha : EvL ta σ H xs) (hb : ∀ H1, Ex H H1 → Ev tb σ H1 (.int (k : Int))) (hz : xs.length * k ≤ 100000) (hk : k ≤ 100000) : EvL (tOp rRep ta tb) σ H (List.replicate k xs).flatten := fun H1 e Q q =>
  ha H1 e _ fun p H2 hp e2 h2 => hb H2 (e.trans e2) H2 (Ex.refl H2) _ fun H3 e3 => ⟨p, (k : Int), xs, rfl, rfl, e3 _ _ h2, by omega, by omega, sz_of (by simpa using hz), fun r hr => by
    refine q r _ (fresh_back (e2.trans e3) hr) ((e2.trans e3).trans (Ex.new hr)) ?_
    rw [upd_same, Int.toNat_natCast]⟩
theorem el_cat {xs ys : List V} (ha : EvL ta σ H xs) (hb : EvL tb σ H ys) (hz : xs.length + ys.length ≤ 100000) : EvL (tOp rCat ta tb) σ H (xs ++ ys) := fun H1 e Q q =>
  ha H1 e _ fun p H2 hp e2 h2 => hb H2 (e.trans e2) _ fun r H3 hr e3 h3 => ⟨p, r, xs, ys, rfl, rfl, e3 _ _ h2, h3, sz_of hz, fun u hu =>
    q u _ (fresh_back (e2.trans e3) hu) ((e2.trans e3).trans (Ex.new hu)) upd_same⟩
/-- list + list, the left one already there -/
theorem el_cat1 {a : Addr} {xs ys : List V} (ha : Ev ta σ H (.ref a)) (h : H a = some (.lst xs)) (hb : EvL tb σ H ys) (hz : xs.length + ys.length ≤ 100000) : EvL (tOp rCat ta tb) σ H (xs ++ ys) := fun H1 e Q q =>
  ha H1 e _ fun H2 e2 => hb H2 (e.trans e2) _ fun r H3 hr e3 h3 => ⟨a, r, xs, ys, rfl, rfl, e3 _ _ (e2 _ _ (e _ _ h)), h3, sz_of hz, fun u hu =>
    q u _ (fresh_back (e2.trans e3) hu) ((e2.trans e3).trans (Ex.new hu)) upd_same⟩
/-- the left one new, the right one there -/
theorem el_cat2 {a : Addr} {xs ys : List V} (ha : EvL ta σ H xs) (hb : Ev tb σ H (.ref a)) (h : H a = some (.lst ys)) (hz : xs.length + ys.length ≤ 100000) : EvL (tOp rCat ta tb) σ H (xs ++ ys) := fun H1 e Q q =>
  ha H1 e _ fun p H2 hp e2 h2 => hb H2 (e.trans e2) _ fun H3 e3 => ⟨p, a, xs, ys, rfl, rfl, e3 _ _ h2, e3 _ _ (e2 _ _ (e _ _ h)), sz_of hz, fun u hu =>
    q u _ (fresh_back (e2.trans e3) hu) ((e2.trans e3).trans (Ex.new hu)) upd_same⟩
abbrev rTpl (K : PySem.W.Frag) : List V → Hp → VK → Prop := fun xs H Q => ∃ p ys, xs = [.ref p] ∧ ((SqL K H p ys ∧ ∀ l, H l = none → Q (.ref l) (upd H l (.tup ys))) ∨ (SqT K H p ys ∧ Q (.ref p) H))
/-- tuple(list) -/
theorem eu_tpl {a : Addr} {xs : List V} (ha : Ev ta σ H (.ref a)) (h : SqL K H a xs) : EvU (tCB (rTpl K) (tCons ta tNil)) σ H xs := fun H1 e Q q =>
  ha H1 e _ fun H2 e2 => ⟨a, xs, rfl, .inl ⟨ex_l (e.trans e2) h, fun l hl => q l _ (fresh_back e2 hl) (e2.trans (Ex.new hl)) upd_same⟩⟩
theorem eu_tplN {xs : List V} (ha : EvL ta σ H xs) : EvU (tCB (rTpl K) (tCons ta tNil)) σ H xs := fun H1 e Q q =>
  ha H1 e _ fun p H2 hp e2 h2 => ⟨p, xs, rfl, .inl ⟨sq_of h2, fun l hl => q l _ (fresh_back e2 hl) (e2.trans (Ex.new hl)) upd_same⟩⟩
abbrev rLs (K : PySem.W.Frag) : List V → Hp → VK → Prop := fun xs H Q => ∃ p ys, xs = [.ref p] ∧ (SqL K H p ys ∨ SqT K H p ys) ∧ ∀ l, H l = none → Q (.ref l) (upd H l (.lst ys))
theorem el_ls {a : Addr} {xs : List V} (ha : Ev ta σ H (.ref a)) (h : SqL K H a xs) : EvL (tCB (rLs K) (tCons ta tNil)) σ H xs := fun H1 e Q q =>
  ha H1 e _ fun H2 e2 => ⟨a, xs, rfl, .inl (ex_l (e.trans e2) h), fun l hl => q l _ (fresh_back e2 hl) (e2.trans (Ex.new hl)) upd_same⟩
abbrev rIsNn : R2 := fun x y H Q => y = .non ∧ Q (.bl (decide (x = .non))) H
theorem et_isN {x : V} (ha : Ev ta σ H x) : EvT (tTest (tOp rIsNn ta (tC .non))) σ H (decide (x = .non)) := et_test (ev_op ha ev_c fun H1 _ _ q => ⟨rfl, q H1 (Ex.refl H1)⟩)
theorem ev_isN {x : V} (ha : Ev ta σ H x) : Ev (tOp rIsNn ta (tC .non)) σ H (.bl (decide (x = .non))) := ev_op ha ev_c fun H1 _ _ q => ⟨rfl, q H1 (Ex.refl H1)⟩
/-- sorted(list of ints) -/
theorem q_sorted {P : Prop} {ns : List Int} (ha : EvL ta σ H (ns.map V.int)) (k : ∀ (ns' : List Int) p H1, ns'.Perm ns → ns'.Pairwise (· ≤ ·) → H p = none → Ex H H1 → H1 p = some (.lst (ns'.map V.int)) → D.rt (.ref p) H1) : tRet (tCB (rSortedI K) (tCons ta tNil)) D σ H :=
  ha H (Ex.refl H) _ fun q H1 hq e h1 => ⟨q, ns, rfl, sq_of h1, fun ns' p hp hs hn => k ns' p _ hp hs (fresh_back e hn) (e.trans (Ex.new hn)) upd_same⟩
theorem ev_succ {n : Nat} (ha : Ev ta σ H (.int (n : Nat))) : Ev (tOp (rI0 fun i j => .int (i + j)) ta (tC (.int 1))) σ H (.int ((n + 1 : Nat) : Int)) := by
  have := ev_i0 (g := fun i j => .int (i + j)) ha (ev_c (v := .int 1) (σ := σ) (H := H))
  exact this
theorem q_app2 {l : Addr} {xs : List V} {v : V} (hl : H l = some (.lst xs)) (ha : Ev ta σ H (.ref l)) (h : Ev te σ H v) (hz : xs.length < 100000) (k : ∀ H1, Ex H H1 → tz D σ (upd H1 l (.lst (xs ++ [v])))) :
    tSeq (tDrop (tBM K "list" rAppend ta (tCons te tNil))) tz D σ H := q_app hl ha h hz k
end
end Fm
set_option Elab.async false
set_option linter.all false
set_option maxRecDepth 100000
namespace Fm
/-! ### arithmetic of lists -/
theorem nodup_le : ∀ (n : Nat) (l : List Nat), l.Nodup → (∀ x ∈ l, x < n) → l.length ≤ n
  | 0, l, _, h => by
    cases l with
    | nil => simp
    | cons a l => exact absurd (h a (by simp)) (by omega)
  | n + 1, l, hd, h => by
    by_cases hm : n ∈ l
    · have h1 := List.length_erase_of_mem hm
      have h2 := nodup_le n (l.erase n) (hd.erase n) fun x hx => by
        have h3 := h x (List.mem_of_mem_erase hx)
        have h4 : x ≠ n := fun e => by
          subst e
          exact (List.Nodup.not_mem_erase hd) hx
        omega
      have := List.length_pos_of_mem hm
      omega
    · have := nodup_le n l hd fun x hx => by
        have h3 := h x hx
        have h4 : x ≠ n := fun e => hm (e ▸ hx)
        omega
      omega
theorem pigeon {n : Nat} (f : Nat → Nat) (h : ∀ i, i ≤ n → f i < n) : ∃ a b, a < b ∧ b ≤ n ∧ f a = f b := by
  refine Classical.byContradiction fun hn => ?_
  have inj : ∀ a b, a ≤ n → b ≤ n → f a = f b → a = b := fun a b ha hb e => by
    rcases Nat.lt_trichotomy a b with z | z | z
    · exact absurd ⟨a, b, z, hb, e⟩ hn
    · exact z
    · exact absurd ⟨b, a, z, ha, e.symm⟩ hn
  have hd : ((List.range (n + 1)).map f).Nodup := by
    refine List.nodup_iff_pairwise_ne.mpr ?_
    rw [List.pairwise_map]
    refine List.Pairwise.imp_of_mem ?_ List.nodup_range
    intro a b ha hb hab e
    rw [List.mem_range] at ha hb
    exact hab (inj a b (by omega) (by omega) e)
  have := nodup_le n _ hd fun x hx => by
    obtain ⟨i, hi, rfl⟩ := List.mem_map.mp hx
    rw [List.mem_range] at hi
    exact h i (by omega)
  rw [List.length_map, List.length_range] at this
  omega
/-! ### where a program stands, its laws -/
def isgo (p : List In) (j : Nat) : Prop := ∃ t, p[j]? = some (.go t)
theorem gstep_not {p : List In} {j : Nat} (h : ¬ isgo p j) : gstep p j = j := by
  unfold gstep
  split
  · rename_i t e
    exact absurd ⟨t, e⟩ h
  · rfl
theorem gn_add (p : List In) (i a : Nat) : ∀ b, gn p (gn p i a) b = gn p i (a + b)
  | 0 => rfl
  | b + 1 => by
    show gstep p (gn p (gn p i a) b) = gstep p (gn p i (a + b))
    rw [gn_add p i a b]
theorem gn_stay {p : List In} {i k : Nat} (h : ¬ isgo p (gn p i k)) : ∀ b, gn p i (k + b) = gn p i k
  | 0 => rfl
  | b + 1 => by
    show gstep p (gn p i (k + b)) = _
    rw [gn_stay h b, gstep_not h]
theorem go_before {p : List In} {i k m : Nat} (h : isgo p (gn p i k)) (hm : m ≤ k) : isgo p (gn p i m) := by
  refine Classical.byContradiction fun hn => hn ?_
  have := gn_stay hn (k - m)
  rw [show m + (k - m) = k by omega] at this
  rw [← this]
  exact h
theorem isgo_lt {p : List In} {j : Nat} (h : isgo p j) : j < p.length := by
  obtain ⟨t, e⟩ := h
  exact (List.getElem?_eq_some_iff.mp e).1
theorem go_all {p : List In} {i : Nat} (h : isgo p (gn p i (p.length + 1))) : isgo p (gn p i (p.length + 2)) := by
  obtain ⟨a, b, hab, hb, e⟩ := pigeon (n := p.length) (gn p i) fun m hm => isgo_lt (go_before h (by omega))
  have e2 : gn p i (p.length + 2) = gn p i (p.length + 2 - (b - a)) := by
    have h1 := gn_add p i b (p.length + 2 - b)
    have h2 := gn_add p i a (p.length + 2 - b)
    rw [show b + (p.length + 2 - b) = p.length + 2 by omega] at h1
    rw [show a + (p.length + 2 - b) = p.length + 2 - (b - a) by omega] at h2
    rw [← h1, ← h2, e]
  rw [e2]
  exact go_before h (by omega)
theorem ends_go {p : List In} {j : Nat} (h : isgo p j) : ends p j = true := by
  obtain ⟨t, e⟩ := h
  unfold ends
  rw [e]
  rfl
/-- behind a go -/
theorem stE_go {p : List In} {i t : Nat} (h : p[i]? = some (.go t)) : stE p i = stE p t := by
  have e1 : gn p i 1 = t := by
    show gstep p i = t
    unfold gstep
    rw [h]
  have e2 : gn p t (p.length + 1) = gn p i (p.length + 2) := by
    rw [← e1, gn_add p i 1 (p.length + 1)]
    congr 1
    omega
  by_cases hg : isgo p (gn p i (p.length + 1))
  · have h1 := ends_go hg
    have h2 := ends_go (go_all hg)
    unfold stE
    rw [e2, h1, h2]
    simp
  · have := gn_stay hg 1
    unfold stE
    rw [e2, show p.length + 2 = p.length + 1 + 1 by omega, this]
theorem gn_fix {p : List In} {i : Nat} (h : ¬ isgo p i) (k : Nat) : gn p i k = i := by
  have := gn_stay (p := p) (i := i) (k := 0) h k
  rw [Nat.zero_add] at this
  exact this
theorem stE_end {p : List In} : stE p p.length = p.length := by
  have hn : ¬ isgo p p.length := fun h => absurd (isgo_lt h) (by omega)
  unfold stE
  rw [gn_fix hn]
  split <;> rfl
theorem stE_stop {p : List In} {i : Nat} (h : p[i]? = some .stop) : stE p i = p.length := by
  have hn : ¬ isgo p i := fun ⟨t, e⟩ => by rw [h] at e; cases e
  unfold stE
  rw [gn_fix hn]
  have : ends p i = true := by
    unfold ends
    rw [h]
    rfl
  rw [this]
  simp
theorem stE_self {p : List In} {i : Nat} {x : In} (h : p[i]? = some x) (hx : x.isEnd = false) : stE p i = i := by
  have hn : ¬ isgo p i := fun ⟨t, e⟩ => by
    rw [h] at e
    cases e
    cases hx
  unfold stE
  rw [gn_fix hn]
  have : ends p i = false := by
    unfold ends
    rw [h]
    exact hx
  rw [this]
  simp
/-- it comes from x to y by gos, one at least -/
def Lead (p : List In) (x y : Nat) : Prop := ∃ k, 1 ≤ k ∧ gn p x k = y ∧ ∀ i, i < k → isgo p (gn p x i)
theorem Lead.one {p : List In} {x t : Nat} (h : p[x]? = some (.go t)) : Lead p x t := ⟨1, Nat.le_refl _, by
  show gstep p x = t
  unfold gstep
  rw [h], fun i hi => by
  have : i = 0 := by omega
  subst this
  exact ⟨t, h⟩⟩
theorem Lead.step {p : List In} {x y t : Nat} (h : Lead p x y) (hy : p[y]? = some (.go t)) : Lead p x t := by
  obtain ⟨k, hk, e, hg⟩ := h
  refine ⟨k + 1, by omega, ?_, fun i hi => ?_⟩
  · show gstep p (gn p x k) = t
    rw [e]
    unfold gstep
    rw [hy]
  · by_cases hc : i < k
    · exact hg i hc
    · have : i = k := by omega
      subst this
      rw [e]
      exact ⟨t, hy⟩
theorem Lead.st {p : List In} {x y : Nat} (h : Lead p x y) : stE p x = stE p y := by
  obtain ⟨k, _, e, hg⟩ := h
  have key : ∀ m, m ≤ k → stE p x = stE p (gn p x m) := by
    intro m
    induction m with
    | zero => intro _; rfl
    | succ m ih =>
      intro hm
      obtain ⟨t, ht⟩ := hg m (by omega)
      rw [ih (by omega), stE_go ht]
      congr 1
      show t = gstep p (gn p x m)
      unfold gstep
      rw [ht]
  rw [key k (Nat.le_refl _), e]
theorem Lead.cyc {p : List In} {x : Nat} (h : Lead p x x) : stE p x = p.length := by
  obtain ⟨k, hk, e, hg⟩ := h
  have key : ∀ i, isgo p (gn p x i) := by
    intro i
    induction i using Nat.strongRecOn with
    | _ i ih =>
      by_cases hc : i < k
      · exact hg i hc
      · have h1 := gn_add p x k (i - k)
        rw [e, show k + (i - k) = i by omega] at h1
        rw [← h1]
        exact ih (i - k) (by omega)
  unfold stE
  rw [ends_go (key _)]
  simp
theorem stE_le {cells : Nat} {p : List In} (h : Pok cells p) {i : Nat} (hi : i ≤ p.length) : stE p i ≤ p.length := by
  unfold stE
  split
  · omega
  · exact gn_le h hi _
end Fm
set_option Elab.async false
set_option linter.all false
set_option maxRecDepth 100000
namespace Fm
/-- where it may stand behind an instruction -/
def brs (p : List In) (i : Nat) : List Nat := match p[i]? with
  | some (.zero t) => [stE p t, stE p (i + 1)]
  | _ => [stE p (i + 1)]
inductive Reach (p : List In) : Nat → Prop where
  | start : Reach p (stE p 0)
  | step {i j : Nat} : Reach p i → i < p.length → j ∈ brs p i → Reach p j
/-- it stands at i -/
def Sta (p : List In) (i : Nat) : Prop := ∃ x, p[i]? = some x ∧ x.isEnd = false
theorem Sta.lt {p : List In} {i : Nat} (h : Sta p i) : i < p.length := by
  obtain ⟨x, e, _⟩ := h
  exact (List.getElem?_eq_some_iff.mp e).1
theorem Sta.self {p : List In} {i : Nat} (h : Sta p i) : stE p i = i := by
  obtain ⟨x, e, hx⟩ := h
  exact stE_self e hx
theorem stE_sta {c : Nat} {p : List In} (h : Pok c p) {i : Nat} (hi : i ≤ p.length) : stE p i = p.length ∨ Sta p (stE p i) := by
  unfold stE
  by_cases he : ends p (gn p i (p.length + 1)) = true
  · rw [if_pos he]
    exact .inl rfl
  · rw [if_neg he]
    refine .inr ?_
    unfold ends at he
    cases hx : p[gn p i (p.length + 1)]? with
    | none => rw [hx] at he; exact absurd rfl he
    | some x =>
      rw [hx] at he
      exact ⟨x, hx, by simpa using he⟩
theorem brs_sta {c : Nat} {p : List In} (h : Pok c p) {i j : Nat} (hi : i < p.length) (hj : j ∈ brs p i) : j = p.length ∨ Sta p j := by
  unfold brs at hj
  split at hj
  · rename_i t e
    have ht : t ≤ p.length := h.2 _ (List.mem_of_getElem? e)
    rcases List.mem_cons.mp hj with rfl | hj
    · exact stE_sta h ht
    · rw [List.mem_singleton.mp hj]
      exact stE_sta h hi
  · rw [List.mem_singleton.mp hj]
    exact stE_sta h hi
theorem Reach.sta {c : Nat} {p : List In} (h : Pok c p) {i : Nat} (r : Reach p i) : i = p.length ∨ Sta p i := by
  cases r with
  | start => exact stE_sta h (Nat.zero_le _)
  | step _ hi hj => exact brs_sta h hi hj
theorem Reach.le {c : Nat} {p : List In} (h : Pok c p) {i : Nat} (r : Reach p i) : i ≤ p.length := by
  rcases r.sta h with z | z
  · omega
  · exact Nat.le_of_lt z.lt
/-! ### ascending lists -/
abbrev Asc (l : List Nat) : Prop := l.Pairwise (· < ·)
theorem asc_eq : ∀ {xs ys : List Nat}, Asc xs → Asc ys → (∀ z, z ∈ xs ↔ z ∈ ys) → xs = ys
  | [], [], _, _, _ => rfl
  | [], y :: ys, _, _, h => absurd ((h y).mpr (by simp)) (by simp)
  | x :: xs, [], _, _, h => absurd ((h x).mp (by simp)) (by simp)
  | x :: xs, y :: ys, hx, hy, h => by
    obtain ⟨hx1, hx2⟩ := List.pairwise_cons.mp hx
    obtain ⟨hy1, hy2⟩ := List.pairwise_cons.mp hy
    have e : x = y := by
      have h1 := (h x).mp (by simp)
      have h2 := (h y).mpr (by simp)
      rcases List.mem_cons.mp h1 with z | z
      · exact z
      rcases List.mem_cons.mp h2 with z2 | z2
      · exact z2.symm
      have := hy1 x z
      have := hx1 y z2
      omega
    subst e
    congr 1
    refine asc_eq hx2 hy2 fun z => ⟨fun hz => ?_, fun hz => ?_⟩
    · have := (h z).mp (List.mem_cons_of_mem _ hz)
      rcases List.mem_cons.mp this with q | q
      · subst q
        exact absurd (hx1 _ hz) (by omega)
      · exact q
    · have := (h z).mpr (List.mem_cons_of_mem _ hz)
      rcases List.mem_cons.mp this with q | q
      · subst q
        exact absurd (hy1 _ hz) (by omega)
      · exact q
/-- a rising arrangement of numbers none of which stands twice -/
theorem asc_of {ys : List Int} {l : List Nat} (hp : ys.Perm (l.map fun (x : Nat) => (x : Int))) (hs : ys.Pairwise (· ≤ ·)) (hd : l.Nodup) : ∃ zs : List Nat, ys = zs.map (fun (x : Nat) => (x : Int)) ∧ Asc zs ∧ zs.Perm l := by
  refine ⟨ys.map Int.toNat, ?_, ?_, ?_⟩
  · rw [List.map_map]
    have : ∀ y ∈ ys, (y.toNat : Int) = y := fun y hy => by
      obtain ⟨x, _, e⟩ := List.mem_map.mp (hp.mem_iff.mp hy)
      omega
    exact ((List.map_congr_left (f := (fun (x : Nat) => (x : Int)) ∘ Int.toNat) (g := id) this).trans (List.map_id _)).symm
  · have hnd : ys.Nodup := (hp.nodup_iff).mpr (by
      refine List.nodup_iff_pairwise_ne.mpr ?_
      rw [List.pairwise_map]
      refine List.Pairwise.imp ?_ (List.nodup_iff_pairwise_ne.mp hd)
      intro a b h e
      exact h (by omega))
    have h2 : ys.Pairwise (· < ·) := by
      have := hs.and (List.nodup_iff_pairwise_ne.mp hnd)
      exact this.imp fun ⟨a, b⟩ => by omega
    rw [Asc, List.pairwise_map]
    refine h2.imp_of_mem fun {a b} ha hb hab => ?_
    obtain ⟨x, _, e⟩ := List.mem_map.mp (hp.mem_iff.mp ha)
    obtain ⟨y, _, e2⟩ := List.mem_map.mp (hp.mem_iff.mp hb)
    have e : (x : Int) = a := e
    have e2 : (y : Int) = b := e2
    omega
  · have := hp.map Int.toNat
    rw [List.map_map] at this
    rw [show (Int.toNat ∘ fun (x : Nat) => (x : Int)) = id from by funext x; simp, List.map_id] at this
    exact this
theorem sub_le {l m : List Nat} (hd : l.Nodup) (h : ∀ x ∈ l, x ∈ m) : l.length ≤ m.length := by
  induction l generalizing m with
  | nil => simp
  | cons a l ih =>
    obtain ⟨h1, h2⟩ := List.nodup_cons.mp hd
    have ha := h a (by simp)
    have := ih (m := m.erase a) h2 fun x hx => by
      have hne : x ≠ a := fun e => h1 (e ▸ hx)
      exact (List.mem_erase_of_ne hne).mpr (h x (List.mem_cons_of_mem _ hx))
    have e := List.length_erase_of_mem ha
    have := List.length_pos_of_mem ha
    simp only [List.length_cons]
    omega
end Fm
set_option Elab.async false
set_option linter.all false
set_option maxRecDepth 100000
set_option maxHeartbeats 1000000
namespace Fm
open PySem L2 Evl
def kD (F : List Nat) : List (Key × V) := F.map fun (x : Nat) => (Sum.inl (x : Int), V.bl true)
theorem kD_val (F : List Nat) (x : Nat) : valV (kD F) (Sum.inl (x : Int)) = if x ∈ F then some (.bl true) else none := by
  induction F with
  | nil => simp [kD, valV_nil]
  | cons a l ih =>
    show valV ((Sum.inl (a : Int), V.bl true) :: kD l) _ = _
    by_cases h : a = x
    · subst h
      rw [valV_pos rfl]
      simp
    · rw [valV_neg (by intro z; exact h (by have := Sum.inl.inj z; omega)), ih]
      have : x ≠ a := fun e => h e.symm
      simp [this]
theorem kD_put {F : List Nat} {x : Nat} (h : x ∉ F) : putK (kD F) (Sum.inl (x : Int)) (.bl true) = kD (F ++ [x]) := by
  rw [putK_new _ (by rw [kD_val, if_neg h])]
  simp [kD]
section
variable {K : PySem.W.Frag} {σ : L2.St} {H : Hp} {ta tb te tt' : TE} {D : Ends} {tz tu : TS} {tt : TT} {tA : TA}
/-- the rest of a comprehension over a list that stands -/
theorem lc_tail {a : Addr} {xs : List V} {j : Nat} {vs : List Nat} {Qd : Addr → Hp → Prop} (f : Nat → Bool) (v : Nat → V) (hx : SqL K H a xs) (hz : xs.length ≤ 40000) (hw : ∀ x, wipe ((wipe σ vs).set j (some x)) vs = wipe σ vs)
    (ht : ∀ (i : Nat) (x : V) H1, Ex H H1 → xs[i]? = some x → EvT tt ((wipe σ vs).set j (some x)) H1 (f i)) (he : ∀ (i : Nat) (x : V) H1, Ex H H1 → xs[i]? = some x → f i = true → Ev te ((wipe σ vs).set j (some x)) H1 (v i))
    (q : ∀ Dl H2, H Dl = none → Ex H H2 → H2 Dl = some (.lst (given xs.length f v)) → Qd Dl H2) :
    ∀ Dl, H Dl = none → ∃ W : Nat → Nat → Hp → Prop, (∃ m, W 0 m (upd H Dl (.lst []))) ∧ ∀ i m H', W i m H' →
      ((Itl K a).stop i H' ∧ Qd Dl H') ∨ ((Itl K a).go i H' ∧ ∃ Nx : Hp → Prop, (∀ H'', Nx H'' → ∃ m', m' < m ∧ W (i + 1) m' H'') ∧ ∀ x H'', (Itl K a).yld i H' x H'' → gName j x (wipe σ vs) H'' fun σ2 H2 => wipe σ2 vs = wipe σ vs ∧ tt σ2 H2 fun b H3 =>
        if b = true then te σ2 H3 fun y H4 => ∃ acc, H4 Dl = some (.lst acc) ∧ acc.length < sizeLine ∧ Nx (upd H4 Dl (.lst (acc ++ [y]))) else Nx H3) := fun Dl hD =>
  lc_list (xs := xs) (Cw H f v Dl) ⟨hD, Ex.new hD, upd_same⟩ (fun i H' _ p => ex_l p.2.1 hx) (fun i x H' hi p => ⟨hw x, cw_turn p (by have := (List.getElem?_eq_some_iff.mp hi).1; omega) (ht i x H (Ex.refl H) hi) (fun hf => he i x H (Ex.refl H) hi hf)⟩) (fun H' p => q Dl H' p.1 p.2.1 p.2.2)
theorem lc_tailT {a : Addr} {xs : List V} {j : Nat} {vs : List Nat} {Qd : Addr → Hp → Prop} (f : Nat → Bool) (v : Nat → V) (hx : SqT K H a xs) (hz : xs.length ≤ 40000) (hw : ∀ x, wipe ((wipe σ vs).set j (some x)) vs = wipe σ vs)
    (ht : ∀ (i : Nat) (x : V) H1, Ex H H1 → xs[i]? = some x → EvT tt ((wipe σ vs).set j (some x)) H1 (f i)) (he : ∀ (i : Nat) (x : V) H1, Ex H H1 → xs[i]? = some x → f i = true → Ev te ((wipe σ vs).set j (some x)) H1 (v i))
    (q : ∀ Dl H2, H Dl = none → Ex H H2 → H2 Dl = some (.lst (given xs.length f v)) → Qd Dl H2) :
    ∀ Dl, H Dl = none → ∃ W : Nat → Nat → Hp → Prop, (∃ m, W 0 m (upd H Dl (.lst []))) ∧ ∀ i m H', W i m H' →
      ((Itt K a).stop i H' ∧ Qd Dl H') ∨ ((Itt K a).go i H' ∧ ∃ Nx : Hp → Prop, (∀ H'', Nx H'' → ∃ m', m' < m ∧ W (i + 1) m' H'') ∧ ∀ x H'', (Itt K a).yld i H' x H'' → gName j x (wipe σ vs) H'' fun σ2 H2 => wipe σ2 vs = wipe σ vs ∧ tt σ2 H2 fun b H3 =>
        if b = true then te σ2 H3 fun y H4 => ∃ acc, H4 Dl = some (.lst acc) ∧ acc.length < sizeLine ∧ Nx (upd H4 Dl (.lst (acc ++ [y]))) else Nx H3) := fun Dl hD =>
  lc_tup (xs := xs) (Cw H f v Dl) ⟨hD, Ex.new hD, upd_same⟩ (fun i H' _ p => ex_t p.2.1 hx) (fun i x H' hi p => ⟨hw x, cw_turn p (by have := (List.getElem?_eq_some_iff.mp hi).1; omega) (ht i x H (Ex.refl H) hi) (fun hf => he i x H (Ex.refl H) hi hf)⟩) (fun H' p => q Dl H' p.1 p.2.1 p.2.2)
theorem m_callC {sp : Sp} {E : XK} {vs : List V} {Q : VK} {r : List V → Hp → VK → Prop} (h : EvA tA σ H vs) (k : ∀ H1, Ex H H1 → sp (vs ++ []) H1 (fun x H2 => r [x] H2 Q) E) : tCB r (tCons (tCall sp [] E tA) tNil) σ H Q := h H (Ex.refl H) _ k
/-- a new list, one of some -/
def EvLP (te : TE) (σ : L2.St) (H : Hp) (R : List V → Prop) : Prop := ∀ H1, Ex H H1 → ∀ Q : VK, (∀ xs p H2, R xs → H1 p = none → Ex H1 H2 → H2 p = some (.lst xs) → Q (.ref p) H2) → te σ H1 Q
theorem elp_lc {tl : TE} {j : Nat} {vs : List Nat} {R R' : List V → Prop} (h : EvLP tl σ H R) (hw : ∀ x, wipe ((wipe σ vs).set j (some x)) vs = wipe σ vs)
    (hf : ∀ xs, R xs → xs.length ≤ 40000 ∧ ∃ (f : Nat → Bool) (v : Nat → V), (∀ (i : Nat) (x : V) H1, Ex H H1 → xs[i]? = some x → EvT tt ((wipe σ vs).set j (some x)) H1 (f i)) ∧ (∀ (i : Nat) (x : V) H1, Ex H H1 → xs[i]? = some x → f i = true → Ev te ((wipe σ vs).set j (some x)) H1 (v i)) ∧ R' (given xs.length f v)) :
    EvLP (tLc (iList K tl) (gName j) tt te vs) σ H R' := fun H0 e Q q => h H0 e _ fun xs a H1 hR ha e1 hx => by
  obtain ⟨hz, f, v, ht, he, hr⟩ := hf xs hR
  refine ⟨a, rfl, ⟨xs, sq_of hx⟩, ?_⟩
  exact lc_tail (Qd := fun Dl H2 => Q (.ref Dl) H2) f v (sq_of hx) hz hw (fun i x H2 e2 => ht i x H2 ((e.trans e1).trans e2)) (fun i x H2 e2 => he i x H2 ((e.trans e1).trans e2)) fun Dl H2 hD e2 h2 => q _ Dl H2 hr (fresh_back e1 hD) (e1.trans e2) h2
theorem s_retTP {R : List V → Prop} (h : EvLP ta σ H R) (k : ∀ xs p H1, R xs → H p = none → Ex H H1 → H1 p = some (.tup xs) → D.rt (.ref p) H1) : tRet (tCB (rTpl K) (tCons ta tNil)) D σ H :=
  h H (Ex.refl H) _ fun xs p H1 hR hp e1 h1 => ⟨p, xs, rfl, .inl ⟨sq_of h1, fun l hl => k xs l _ hR (fresh_back e1 hl) (e1.trans (Ex.new hl)) upd_same⟩⟩
abbrev rSortedDI : List V → Hp → VK → Prop := fun xs H Q => ∃ (a : Addr) (kvs : List (Key × V)) (ks : List Int), xs = [.ref a] ∧ Rd H a (.dK kvs) ∧ kvs.map (·.1) = ks.map Sum.inl ∧ ks.length < 64 ∧
    ∀ (ys : List Int) (p : Addr), ys.Perm ks → ys.Pairwise (· ≤ ·) → H p = none → Q (.ref p) (upd H p (.lst (ys.map V.int)))
theorem elp_sortedD {d : Addr} {F : List Nat} (ha : Ev ta σ H (.ref d)) (hd : H d = some (.dK (kD F))) (hn : F.Nodup) (hl : F.length < 64) : EvLP (tCB rSortedDI (tCons ta tNil)) σ H (fun xs => ∃ zs, xs = nV zs ∧ Asc zs ∧ zs.Perm F) := fun H1 e Q q =>
  ha H1 e _ fun H2 e2 => by
    have hks : (kD F).map (·.1) = (F.map fun (x : Nat) => (x : Int)).map Sum.inl := by
      unfold kD
      rw [List.map_map, List.map_map]
      rfl
    refine ⟨d, kD F, F.map fun (x : Nat) => (x : Int), rfl, .inl (e2 _ _ (e _ _ hd)), hks, by rw [List.length_map]; omega, fun ys p hperm hsort hp => ?_⟩
    obtain ⟨zs, rfl, hasc, hpz⟩ := asc_of hperm hsort hn
    refine q _ p _ ⟨zs, ?_, hasc, hpz⟩ (fresh_back e2 hp) (e2.trans (Ex.new hp)) upd_same
    unfold nV
    rw [List.map_map]
    rfl
theorem elp_sorted {ns : List Nat} (ha : EvL ta σ H (nV ns)) (hn : ns.Nodup) : EvLP (tCB (rSortedI K) (tCons ta tNil)) σ H (fun xs => ∃ zs, xs = nV zs ∧ Asc zs ∧ zs.Perm ns) := fun H1 e Q q =>
  ha H1 e _ fun r H2 hr e2 h2 => by
    refine ⟨r, ns.map fun (x : Nat) => (x : Int), rfl, ?_, fun ys p hperm hsort hp => ?_⟩
    · rw [List.map_map]
      exact sq_of h2
    obtain ⟨zs, rfl, hasc, hpz⟩ := asc_of hperm hsort hn
    refine q _ p _ ⟨zs, ?_, hasc, hpz⟩ (fresh_back e2 hp) (e2.trans (Ex.new hp)) upd_same
    unfold nV
    rw [List.map_map]
    rfl
theorem yes_lc {Q : Bool → Hp → Prop} (h : Q true H) : tYes σ H Q := h
theorem et_yes : EvT tYes σ H true := fun H1 _ _ q => q H1 (Ex.refl H1)
theorem given_map {α : Type} (l : List α) (f : α → Bool) (v : α → V) (f' : Nat → Bool) (v' : Nat → V) (hf : ∀ i x, l[i]? = some x → f' i = f x) (hv : ∀ i x, l[i]? = some x → v' i = v x) : given l.length f' v' = (l.filter f).map v := by
  have key : ∀ n, n ≤ l.length → given n f' v' = ((l.take n).filter f).map v := by
    intro n
    induction n with
    | zero => intro _; rfl
    | succ n ih =>
      intro hn
      obtain ⟨x, hx⟩ : ∃ x, l[n]? = some x := ⟨_, List.getElem?_eq_getElem (by omega)⟩
      have e : l.take (n + 1) = l.take n ++ [x] := by
        rw [List.take_add_one, hx]
        rfl
      cases h : f' n with
      | true =>
        have h2 : f x = true := (hf n x hx).symm.trans h
        rw [given_yes h, ih (by omega), e, List.filter_append, List.map_append, hv n x hx]
        simp [h2]
      | false =>
        have h2 : f x = false := (hf n x hx).symm.trans h
        rw [given_no h, ih (by omega), e, List.filter_append]
        simp [h2]
  rw [key _ (Nat.le_refl _), List.take_length]
/-- a comprehension over numbers -/
theorem elp_lcN {tl : TE} {j : Nat} {vs : List Nat} {R : List Nat → Prop} (f : Nat → Bool) (v : Nat → V) (h : EvLP tl σ H (fun xs => ∃ zs, xs = nV zs ∧ R zs)) (hw : ∀ x, wipe ((wipe σ vs).set j (some x)) vs = wipe σ vs) (hz : ∀ zs, R zs → zs.length ≤ 40000)
    (ht : ∀ zs, R zs → ∀ (y : Nat) H1, y ∈ zs → Ex H H1 → EvT tt ((wipe σ vs).set j (some (.int (y : Nat)))) H1 (f y)) (he : ∀ zs, R zs → ∀ (y : Nat) H1, y ∈ zs → Ex H H1 → f y = true → Ev te ((wipe σ vs).set j (some (.int (y : Nat)))) H1 (v y)) :
    EvLP (tLc (iList K tl) (gName j) tt te vs) σ H (fun xs => ∃ zs : List Nat, xs = (zs.filter f).map v ∧ R zs) := by
  refine elp_lc h hw ?_
  rintro xs ⟨zs, rfl, hR⟩
  refine ⟨by rw [nV_len]; exact hz zs hR, fun i => f (zs[i]?.getD 0), fun i => v (zs[i]?.getD 0), fun i x H1 e hx => ?_, fun i x H1 e hx hf => ?_, zs, ?_, hR⟩
  · obtain ⟨y, hy, rfl⟩ := nV_get hx
    have := ht zs hR y H1 (List.mem_of_getElem? hy) e
    simp only [hy, Option.getD_some]
    exact this
  · obtain ⟨y, hy, rfl⟩ := nV_get hx
    simp only [hy, Option.getD_some] at hf ⊢
    exact he zs hR y H1 (List.mem_of_getElem? hy) e hf
  · rw [nV_len]
    refine given_map zs f v _ _ (fun i x hx => ?_) (fun i x hx => ?_)
    · simp only [hx, Option.getD_some]
    · simp only [hx, Option.getD_some]
theorem EvL.p {xs : List V} (h : EvL te σ H xs) : EvLP te σ H (fun ys => ys = xs) := fun H1 e Q q => h H1 e Q fun p H2 hp e2 h2 => q xs p H2 rfl hp e2 h2
theorem EvLP.l {xs : List V} (h : EvLP te σ H (fun ys => ys = xs)) : EvL te σ H xs := fun H1 e Q q => h H1 e Q fun ys p H2 hy hp e2 h2 => q p H2 hp e2 (by rw [h2, hy])
/-- over a list of numbers that stands -/
theorem el_lcN {a : Addr} {tl : TE} {j : Nat} {vs : List Nat} {zs : List Nat} (f : Nat → Bool) (v : Nat → V) (h : Ev tl σ H (.ref a)) (hx : SqL K H a (nV zs)) (hw : ∀ x, wipe ((wipe σ vs).set j (some x)) vs = wipe σ vs) (hz : zs.length ≤ 40000)
    (ht : ∀ (y : Nat) H1, y ∈ zs → Ex H H1 → EvT tt ((wipe σ vs).set j (some (.int (y : Nat)))) H1 (f y)) (he : ∀ (y : Nat) H1, y ∈ zs → Ex H H1 → f y = true → Ev te ((wipe σ vs).set j (some (.int (y : Nat)))) H1 (v y)) :
    EvL (tLc (iList K tl) (gName j) tt te vs) σ H ((zs.filter f).map v) := by
  have := el_lcL (K := K) (t := tt) (te := te) (fun i => f (zs[i]?.getD 0)) (fun i => v (zs[i]?.getD 0)) h hx (by rw [nV_len]; exact hz) hw (fun i x H1 e hx => by
    obtain ⟨y, hy, rfl⟩ := nV_get hx
    have := ht y H1 (List.mem_of_getElem? hy) e
    simp only [hy, Option.getD_some]
    exact this) (fun i x H1 e hx hf => by
    obtain ⟨y, hy, rfl⟩ := nV_get hx
    simp only [hy, Option.getD_some] at hf ⊢
    exact he y H1 (List.mem_of_getElem? hy) e hf)
  rw [nV_len] at this
  rw [given_map zs f v _ _ (fun i x hx => by simp only [hx, Option.getD_some]) (fun i x hx => by simp only [hx, Option.getD_some])] at this
  exact this
/-- over the tuple of numbers that a call hands back -/
theorem el_lcTc {sp : Sp} {E : XK} {ws : List V} {tA : TA} {j : Nat} {vs : List Nat} {zs : List Nat} (f : Nat → Bool) (v : Nat → V) (h : EvA tA σ H ws) (hs : ∀ H1, Ex H H1 → ∀ Q : VK, (∀ p H2, H1 p = none → Ex H1 H2 → H2 p = some (.tup (nV zs)) → Q (.ref p) H2) → sp (ws ++ []) H1 Q E)
    (hw : ∀ x, wipe ((wipe σ vs).set j (some x)) vs = wipe σ vs) (hz : zs.length ≤ 40000)
    (ht : ∀ (y : Nat) H1, y ∈ zs → Ex H H1 → EvT tt ((wipe σ vs).set j (some (.int (y : Nat)))) H1 (f y)) (he : ∀ (y : Nat) H1, y ∈ zs → Ex H H1 → f y = true → Ev te ((wipe σ vs).set j (some (.int (y : Nat)))) H1 (v y)) :
    EvL (tLc (iTup K (tCall sp [] E tA)) (gName j) tt te vs) σ H ((zs.filter f).map v) := fun H0 e0 Q q => h H0 e0 _ fun H1 e1 => hs H1 (e0.trans e1) _ fun a H2 ha e2 h2 => by
  refine ⟨a, rfl, ⟨nV zs, st_of h2⟩, ?_⟩
  have e02 := (e0.trans e1).trans e2
  have key := given_map zs f v (fun i => f (zs[i]?.getD 0)) (fun i => v (zs[i]?.getD 0)) (fun i x hx => by simp only [hx, Option.getD_some]) (fun i x hx => by simp only [hx, Option.getD_some])
  exact lc_tailT (Qd := fun Dl H2 => Q (.ref Dl) H2) (fun i => f (zs[i]?.getD 0)) (fun i => v (zs[i]?.getD 0)) (st_of h2) (by rw [nV_len]; exact hz) hw (fun i x H3 e3 hx => by
    obtain ⟨y, hy, rfl⟩ := nV_get hx
    have := ht y H3 (List.mem_of_getElem? hy) (e02.trans e3)
    simp only [hy, Option.getD_some]
    exact this) (fun i x H3 e3 hx hf => by
    obtain ⟨y, hy, rfl⟩ := nV_get hx
    simp only [hy, Option.getD_some] at hf ⊢
    exact he y H3 (List.mem_of_getElem? hy) (e02.trans e3) hf) fun Dl H3 hD e3 h3 => q Dl H3 (fresh_back (e1.trans e2) hD) ((e1.trans e2).trans e3) (by
    rw [nV_len, key] at h3
    exact h3)
/-- {k: v}, one pair -/
theorem q_disp1 {i : Nat} {k : Nat} {tk tv : TE} (hk : ∀ H1, Ex H H1 → Ev tk σ H1 (.int (k : Nat))) (hv : ∀ H1, Ex H H1 → Ev tv σ H1 (.bl true)) (q : ∀ p H1, H p = none → Ex H H1 → H1 p = some (.dK (kD [k])) → tz D (σ.set i (some (.ref p))) H1) : tSeq (tAsg (tDisp [(tk, tv)]) (gName i)) tz D σ H := by
  intro p hp
  refine hk _ (Ex.new hp) _ (Ex.refl _) _ fun H2 e2 => hv _ ((Ex.new hp).trans e2) _ (Ex.refl _) _ fun H3 e3 => ?_
  refine ⟨e3 _ _ (e2 _ _ upd_same), [(Sum.inl (k : Int), .bl true)], rfl, (by show 1 ≤ 15; decide), ?_⟩
  refine q p _ hp (Ex.mut (((Ex.new hp).trans e2).trans e3) hp) ?_
  rw [upd_same]
  rfl
theorem et_inD {d : Addr} {F : List Nat} {x : Nat} (ha : Ev ta σ H (.int (x : Nat))) (hb : Ev tb σ H (.ref d)) (h : H d = some (.dK (kD F))) : EvT (tB (tDIn ta tb)) σ H (decide (x ∈ F)) := fun H1 e Q q =>
  ha H1 e _ fun H2 e2 => hb H2 (e.trans e2) _ fun H3 e3 => ⟨d, _, rfl, DGet.k (k := Sum.inl (x : Int)) (((e.trans e2).trans e3) _ _ h), _, rfl, by
    have := q H3 (e2.trans e3)
    rw [kD_val]
    by_cases hx : x ∈ F
    · rw [if_pos hx]; rw [decide_eq_true hx] at this; exact this
    · rw [if_neg hx]; rw [decide_eq_false hx] at this; exact this⟩
theorem et_ninD {d : Addr} {F : List Nat} {x : Nat} (ha : Ev ta σ H (.int (x : Nat))) (hb : Ev tb σ H (.ref d)) (h : H d = some (.dK (kD F))) : EvT (tB (tDNotIn ta tb)) σ H (!decide (x ∈ F)) := fun H1 e Q q =>
  ha H1 e _ fun H2 e2 => hb H2 (e.trans e2) _ fun H3 e3 => ⟨d, _, rfl, DGet.k (k := Sum.inl (x : Int)) (((e.trans e2).trans e3) _ _ h), _, rfl, by
    have := q H3 (e2.trans e3)
    rw [kD_val]
    by_cases hx : x ∈ F
    · rw [if_pos hx]; rw [decide_eq_true hx] at this; exact this
    · rw [if_neg hx]; rw [decide_eq_false hx] at this; exact this⟩
/-- d[x] = True, x new -/
theorem q_putD {d : Addr} {F : List Nat} {x : Nat} {td ty tv : TE} (h : H d = some (.dK (kD F))) (hx : x ∉ F) (hz : F.length < 100000) (hd : Ev td σ H (.ref d)) (hy : Ev ty σ H (.int (x : Nat))) (hv : Ev tv σ H (.bl true)) (k : ∀ H1, Ex H H1 → tz D σ (upd H1 d (.dK (kD (F ++ [x]))))) : tSeq (sDPut td ty tv) tz D σ H :=
  hv H (Ex.refl H) _ fun H1 e1 => hd H1 e1 _ fun H2 e2 => hy H2 (e1.trans e2) _ fun H3 e3 => ⟨d, _, rfl, DPut.k (k := Sum.inl (x : Int)) (((e1.trans e2).trans e3) _ _ h) (sz_lt (by unfold kD; rw [List.length_map]; exact hz)), by
    rw [kD_put hx]
    exact k H3 ((e1.trans e2).trans e3)⟩
/-- x = list.pop() -/
theorem q_pop {l : Addr} {xs : List V} {y : V} {i : Nat} (hl : H l = some (.lst (xs ++ [y]))) (ha : Ev ta σ H (.ref l)) (k : ∀ H1, Ex H H1 → tz D (σ.set i (some y)) (upd H1 l (.lst xs))) : tSeq (tAsg (tBM0 K "list" rPop ta) (gName i)) tz D σ H :=
  ha H (Ex.refl H) _ fun H1 e1 => ⟨.inl ⟨rfl, _, sq_of (e1 _ _ hl)⟩, l, _, y, rfl, rfl, e1 _ _ hl, by simp, by rw [List.dropLast_concat]; exact k H1 e1⟩
/-- a list's truth -/
theorem et_truL {l : Addr} {xs : List V} (ha : Ev ta σ H (.ref l)) (hl : SqL K H l xs) : EvT (fun σ H Q => ta σ H fun x H' => ∃ k, TruV K x H' k ∧ Q k H') σ H (!xs.isEmpty) := fun H1 e Q q =>
  ha H1 e _ fun H2 e2 => ⟨_, .inl ⟨xs, ex_l (e.trans e2) hl, rfl⟩, q H2 e2⟩
/-- a for over the tuple that a call hands back -/
theorem s_forTc {sp : Sp} {E : XK} {vs : List V} {tA : TA} {j : Nat} {xs : List V} (h : EvA tA σ H vs) (hs : ∀ H1, Ex H H1 → ∀ Q : VK, (∀ p H2, H1 p = none → Ex H1 H2 → H2 p = some (.tup xs) → Q (.ref p) H2) → sp (vs ++ []) H1 Q E) (PT : Addr → Nat → L2.St → Hp → Prop) (hP0 : ∀ p H1, H p = none → Ex H H1 → H1 p = some (.tup xs) → PT p 0 σ H1) (hl : ∀ p i σ' H', i ≤ xs.length → PT p i σ' H' → SqT K H' p xs)
    (hs2 : ∀ p i x σ' H', xs[i]? = some x → PT p i σ' H' → tu { D with nx := PT p (i + 1), ct := PT p (i + 1), bk := D.nx } (σ'.set j (some x)) H') (hd : ∀ p σ' H', PT p xs.length σ' H' → D.nx σ' H') : tFor (iTup K (tCall sp [] E tA)) (gName j) tu D σ H :=
  h H (Ex.refl H) _ fun H1 e1 => hs H1 e1 _ fun p H2 hp e2 h2 => ⟨p, rfl, ⟨xs, st_of h2⟩, for_tup (PT p) (hP0 p H2 (fresh_back e1 hp) (e1.trans e2) h2) (hl p) (hs2 p) (hd p)⟩
theorem et_niK {a : Addr} {xs : List V} {x : V} (ha : Ev ta σ H x) (hb : Ev tb σ H (.ref a)) (h : SqL K H a xs) (hx : flatV x = true) (hf : xs.all flatV = true) : EvT (tTest (tOp (rIn K true) ta tb)) σ H (!inV x xs) := et_test (ev_op ha hb (rv_niL h hx hf))
theorem s_forNLn {tl : TE} {tu : TS} {xs : List V} {j : Nat} (h : EvL tl σ H xs) (Pv : Addr → Nat → L2.St → Hp → Prop) (h0 : ∀ p H1, H p = none → Ex H H1 → H1 p = some (.lst xs) → Pv p 0 σ H1) (hl : ∀ p i σ' H', i ≤ xs.length → Pv p i σ' H' → SqL K H' p xs)
    (hs : ∀ p i x σ' H', xs[i]? = some x → Pv p i σ' H' → tu { D with nx := Pv p (i + 1), ct := Pv p (i + 1), bk := D.nx } (σ'.set j (some x)) H') (hd : ∀ p σ' H', Pv p xs.length σ' H' → D.nx σ' H') : tFor (iList K tl) (gName j) tu D σ H := s_forNL h Pv h0 hl hs hd
/-- over the list that a call hands back -/
theorem el_lcCall {sp : Sp} {E : XK} {ws : List V} {j : Nat} {vs : List Nat} {zs : List Nat} (enc : Nat → V) (f : Nat → Bool) (v : Nat → V) (h : EvA tA σ H ws) (hs : ∀ H1, Ex H H1 → ∀ Q : VK, (∀ p H2, H1 p = none → Ex H1 H2 → H2 p = some (.lst (zs.map enc)) → Q (.ref p) H2) → sp (ws ++ []) H1 Q E)
    (hw : ∀ x, wipe ((wipe σ vs).set j (some x)) vs = wipe σ vs) (hz : zs.length ≤ 40000)
    (ht : ∀ (y : Nat) H1, y ∈ zs → Ex H H1 → EvT tt ((wipe σ vs).set j (some (enc y))) H1 (f y)) (he : ∀ (y : Nat) H1, y ∈ zs → Ex H H1 → f y = true → Ev te ((wipe σ vs).set j (some (enc y))) H1 (v y)) :
    EvL (tLc (iList K (tCall sp [] E tA)) (gName j) tt te vs) σ H ((zs.filter f).map v) := fun H0 e0 Q q => h H0 e0 _ fun H1 e1 => hs H1 (e0.trans e1) _ fun a H2 ha e2 h2 => by
  refine ⟨a, rfl, ⟨zs.map enc, sq_of h2⟩, ?_⟩
  have e02 := (e0.trans e1).trans e2
  have get : ∀ {i : Nat} {x : V}, (zs.map enc)[i]? = some x → ∃ y, zs[i]? = some y ∧ x = enc y := fun {i x} hx => by
    rw [List.getElem?_map] at hx
    cases hy : zs[i]? with
    | none => rw [hy] at hx; cases hx
    | some y => rw [hy] at hx; cases hx; exact ⟨y, rfl, rfl⟩
  have key := given_map zs f v (fun i => f (zs[i]?.getD 0)) (fun i => v (zs[i]?.getD 0)) (fun i x hx => by simp only [hx, Option.getD_some]) (fun i x hx => by simp only [hx, Option.getD_some])
  exact lc_tail (Qd := fun Dl H2 => Q (.ref Dl) H2) (fun i => f (zs[i]?.getD 0)) (fun i => v (zs[i]?.getD 0)) (sq_of h2) (by rw [List.length_map]; exact hz) hw (fun i x H3 e3 hx => by
    obtain ⟨y, hy, rfl⟩ := get hx
    have := ht y H3 (List.mem_of_getElem? hy) (e02.trans e3)
    simp only [hy, Option.getD_some]
    exact this) (fun i x H3 e3 hx hf => by
    obtain ⟨y, hy, rfl⟩ := get hx
    simp only [hy, Option.getD_some] at hf ⊢
    exact he y H3 (List.mem_of_getElem? hy) (e02.trans e3) hf) fun Dl H3 hD e3 h3 => q Dl H3 (fresh_back (e1.trans e2) hD) ((e1.trans e2).trans e3) (by
    rw [List.length_map, key] at h3
    exact h3)
/-- over a list that stands, of numbers told by enc -/
theorem el_lcE {a : Addr} {tl : TE} {j : Nat} {vs : List Nat} {zs : List Nat} (enc : Nat → V) (f : Nat → Bool) (v : Nat → V) (h : Ev tl σ H (.ref a)) (hx : SqL K H a (zs.map enc)) (hw : ∀ x, wipe ((wipe σ vs).set j (some x)) vs = wipe σ vs) (hz : zs.length ≤ 40000)
    (ht : ∀ (y : Nat) H1, y ∈ zs → Ex H H1 → EvT tt ((wipe σ vs).set j (some (enc y))) H1 (f y)) (he : ∀ (y : Nat) H1, y ∈ zs → Ex H H1 → f y = true → Ev te ((wipe σ vs).set j (some (enc y))) H1 (v y)) :
    EvL (tLc (iList K tl) (gName j) tt te vs) σ H ((zs.filter f).map v) := by
  have get : ∀ {i : Nat} {x : V}, (zs.map enc)[i]? = some x → ∃ y, zs[i]? = some y ∧ x = enc y := fun {i x} hx => by
    rw [List.getElem?_map] at hx
    cases hy : zs[i]? with
    | none => rw [hy] at hx; cases hx
    | some y => rw [hy] at hx; cases hx; exact ⟨y, rfl, rfl⟩
  have := el_lcL (K := K) (t := tt) (te := te) (fun i => f (zs[i]?.getD 0)) (fun i => v (zs[i]?.getD 0)) h hx (by rw [List.length_map]; exact hz) hw (fun i x H1 e hx => by
    obtain ⟨y, hy, rfl⟩ := get hx
    have := ht y H1 (List.mem_of_getElem? hy) e
    simp only [hy, Option.getD_some]
    exact this) (fun i x H1 e hx hf => by
    obtain ⟨y, hy, rfl⟩ := get hx
    simp only [hy, Option.getD_some] at hf ⊢
    exact he y H1 (List.mem_of_getElem? hy) e hf)
  rw [List.length_map] at this
  rw [given_map zs f v _ _ (fun i x hx => by simp only [hx, Option.getD_some]) (fun i x hx => by simp only [hx, Option.getD_some])] at this
  exact this
end
end Fm
set_option Elab.async false
set_option linter.all false
set_option maxRecDepth 100000
set_option maxHeartbeats 1000000
namespace Fm
open PySem L2 Evl
section
variable {P : Program} {w : World} {K : PySem.W.Frag} {mg : Str → Option Value} {base : Heap}
/-! ### is_integer -/
def inRange (o : Option Int) (lo hi : Int) : Bool := match o with
  | some n => decide (lo ≤ n) && decide (n ≤ hi)
  | none => false
def spIsInt (K : PySem.W.Frag) : Sp := fun vs H Q _ => ∃ (x : V) (lo hi : Int) (o : Option Int), vs = [x, .int lo, .int hi] ∧ IntV K H x o ∧ ∀ H', Ex H H' → Q (.bl (inRange o lo hi)) H'
def spIsWhole (K : PySem.W.Frag) : Sp := fun vs H Q _ => ∃ (x : V) (o : Option Int), vs = [x] ∧ IntV K H x o ∧ ∀ H', Ex H H' → Q (.bl o.isSome) H'
abbrev s_is_whole : Stmt := top 8
theorem sc_is_whole : FnScope ["value"] ["value"] (defScope s_is_whole) := ⟨rfl, rfl, rfl, by decide +kernel, rfl, by decide +kernel, by decide +kernel⟩
theorem ok_is_whole {f : Addr} {fd : FuncData} (F : Fun K "is_whole" "is_whole" s_is_whole f fd) (T : Txt K mg) : FnOk P w K mg base CX0 1 f fd ["value"] (spIsWhole K) := by
  refine F.ok sc_is_whole (fun vs H Q E h => ?_) (fun cdv A outer s H vs Q E hr h => ?_)
  · obtain ⟨_, _, rfl, _⟩ := h
    rfl
  · obtain ⟨x, o, rfl, hx, k⟩ := h
    refine ⟨_, (pss_one (ps_ret (pe_and (pe_callB (isi_K (K := K) rfl) (by rfl) T.z_isinstance (by decide +kernel) (pa_cons (pv 0) (pa_cons (pe_bltn (v := .ty "int") (by rfl) T.z_int (by decide +kernel) rfl) pa_nil))) (pe_one (pe_not (pe_callB (isi_K (K := K) rfl) (by rfl) T.z_isinstance (by decide +kernel) (pa_cons (pv 0) (pa_cons (pe_bltn (v := .ty "bool") (by rfl) T.z_bool (by decide +kernel) rfl) pa_nil)))))))), ?_⟩
    cases o with
    | some n =>
      cases hx
      refine s_ret (v := .bl (true && !false)) (ev_andV (ev_isi (t := "int") (ev_var rfl) (.base (.int n)) (by decide +kernel)) fun _ => ev_notV (ev_isi (t := "int") (ev_var rfl) (.base (.int n)) (by decide +kernel))) fun H1 e1 => k H1 e1
    | none =>
      obtain ⟨t, ty, h | ⟨h, h2⟩⟩ := hx
      · refine s_ret (v := .bl (false && false)) (ev_andV (b := false) (ev_isi (ev_var rfl) ty h) fun z => nomatch z) fun H1 e1 => k H1 e1
      · refine s_ret (v := .bl (true && !true)) (ev_andV (ev_isi (ev_var rfl) ty h) fun _ => ev_notV (ev_isi (ev_var rfl) ty h2)) fun H1 e1 => k H1 e1
abbrev s_is_integer : Stmt := top 9
theorem sc_is_integer : FnScope ["value", "low", "high"] ["value", "low", "high"] (defScope s_is_integer) := ⟨rfl, rfl, rfl, by decide +kernel, rfl, by decide +kernel, by decide +kernel⟩
theorem ok_is_integer {f f1 : Addr} {fd fd1 : FuncData} (F : Fun K "is_integer" "is_integer" s_is_integer f fd) (T : Txt K mg) (C_is_whole : Cal P w K mg base CX0 1 "is_whole" f1 fd1 ["value"] (spIsWhole K)) : FnOk P w K mg base CX0 2 f fd ["value", "low", "high"] (spIsInt K) := by
  refine F.ok sc_is_integer (fun vs H Q E h => ?_) (fun cdv A outer s H vs Q E hr h => ?_)
  · obtain ⟨_, _, _, _, rfl, _⟩ := h
    rfl
  · obtain ⟨x, lo, hi, o, rfl, hx, k⟩ := h
    refine ⟨_, (pss_one (ps_ret (pe_and (pe_call C_is_whole.G (hr.mono (by first | decide | omega)) rfl C_is_whole.g C_is_whole.kp C_is_whole.b .nil pass0 (pa_cons (pv 0) pa_nil)) (pe_one (pe_chain op_le op_le (pv 1) (pv 0) (pv 2)))))), ?_⟩
    cases o with
    | some n =>
      cases hx
      refine s_ret (v := .bl (true && (decide (lo ≤ n) && decide (n ≤ hi)))) (ev_andV (ev_callV (ea_cons (ev_var rfl) ea_nil) fun H1 e1 Q' q => ⟨_, some n, rfl, rfl, q⟩) fun _ => ev_chain (ev_var rfl) (ev_var rfl) (ev_var rfl)) fun H1 e1 => k H1 e1
    | none =>
      refine s_ret (v := .bl (false && false)) (ev_andV (b := false) (ev_callV (ea_cons (ev_var rfl) ea_nil) fun H1 e1 Q' q => ⟨_, none, rfl, hx.up e1, q⟩) fun z => nomatch z) fun H1 e1 => k H1 e1
/-! ### check_number, all well -/
def spChkNum : Sp := fun vs H Q _ => ∃ (n lo hi : Int), vs = [.int n, .int lo, .int hi] ∧ lo ≤ n ∧ n ≤ hi ∧ ∀ H', Ex H H' → Q .non H'
def spChkCells : Sp := fun vs H Q _ => ∃ (n : Nat), vs = [.int (n : Int)] ∧ 1 ≤ n ∧ n ≤ 4 ∧ ∀ H', Ex H H' → Q .non H'
def spIsIn (K : PySem.W.Frag) : Sp := fun vs H Q _ => ∃ (c n : Nat) (v : V) (i : In), vs = [.int (c : Int), .int (n : Int), v] ∧ InAt K H v i ∧ i.ok c n ∧ i.isTouch = false ∧ ∀ H', Ex H H' → Q (.bl true) H'
/-- the words of the module's top -/
structure Wds (K : PySem.W.Frag) (mg : Str → Option Value) (aA aC aP : Addr) : Prop where
  g_ALONE : mg "ALONE" = some (.ref aA)
  g_WITH_CELL : mg "WITH_CELL" = some (.ref aC)
  g_WITH_PLACE : mg "WITH_PLACE" = some (.ref aP)
  A : ∀ H, SqT K H aA [.str "say", .str "ask", .str "stop"]
  C : ∀ H, SqT K H aC [.str "get", .str "plus", .str "minus", .str "set"]
  Pl : ∀ H, SqT K H aP [.str "zero", .str "go"]
end
end Fm
set_option Elab.async false
set_option linter.all false
set_option maxRecDepth 100000
set_option maxHeartbeats 1000000
namespace Fm
open PySem PySem.Spec PyProof.Rows L2
/-! enumerate over a tuple -/
theorem meets_enum1 {v : Value} {o : Obj} {G : Heap → Prop} (B : Begins v o G) :
    Meets (Builtin.«enumerate.__new__» ⟨[.type "enumerate", v], []⟩) (fun _ R s => G s.heap ∧
      R (.ok (.ret (.ref (s.heap.push o).objs.size))) { s with heap := (s.heap.push o).push { cls := .type "enumerate", data := .fields #[.none, .bool false, .ref s.heap.objs.size, rawInt 0, .none, .none] } }) :=
  .of_wp fun prog w A R s h => by
    obtain ⟨hp, g, d, tk, os⟩ := s; have h1 := h.1; have h2 := h.2
    have hsub := sub_enumerate
    have q1 : ∀ {A' : Around} {E : Value → Shared → Prop} {Q : Value → Shared → Prop}, Q (.ref hp.objs.size) ⟨hp.push o, g, d, tk, os⟩ → wpAny (model prog w) A' (pyIter v) Q E ⟨hp, g, d, tk, os⟩ :=
      fun q => B.iter prog w _ _ ⟨hp, g, d, tk, os⟩ _ h1 q
    wp_walk using q1
    refine wpAny_stack_any fun st => wpAny_pure ?_
    split
    · rename_i c _ _ _ _ _
      cases (c == Value.type "enumerate") <;> (wp_walk using q1; exact ⟨_, rfl, h2⟩)
    · wp_walk using q1; exact ⟨_, rfl, h2⟩
section
variable {prog : Program} {w : World} {A : Around} {E : Value → Shared → Prop} {s : Shared}
theorem call_enum_tup {a : Addr} {its : Array Value} {Q : Value → Shared → Prop} (hL : s.heap.IsTuple a its)
    (h : ∀ h', IsEnum h' (s.heap.objs.size + 1) s.heap.objs.size 0 .none → h'.IsTupleIter s.heap.objs.size a 0 → (∀ b o, s.heap.get? b = some o → h'.get? b = some o) → Q (.ref (s.heap.objs.size + 1)) { s with heap := h' }) :
    wpAny (model prog w) A (call (.type "enumerate") [.ref a]) Q E s := by
  refine callType_new F.called_enumerate (by decide) (F.typeCall_enumerate_1 _) (F.newCall_enumerate_1 _) (fun obj => F.args_object_init_2 obj _) F.entry_enumerate_new (meets_enum1 (begins_tuple a its)) ⟨hL, ?_⟩
  have hz : (s.heap.push { cls := .type "tuple_iterator", data := .fields #[.ref a, .int 0 0] }).objs.size = s.heap.objs.size + 1 := Heap.size_push ..
  rw [hz]
  have he : IsEnum ((s.heap.push { cls := .type "tuple_iterator", data := .fields #[.ref a, .int 0 0] }).push { cls := .type "enumerate", data := .fields #[.none, .bool false, .ref s.heap.objs.size, rawInt 0, .none, .none] }) (s.heap.objs.size + 1) s.heap.objs.size 0 .none := by
    have y := Heap.get?_push_size (s.heap.push { cls := .type "tuple_iterator", data := .fields #[.ref a, .int 0 0] }) (o := { cls := .type "enumerate", data := .fields #[.none, .bool false, .ref s.heap.objs.size, rawInt 0, .none, .none] }) rfl
    rw [hz] at y; exact y
  exact ⟨⟨_, he, rfl⟩, h _ he ⟨_, Heap.get?_push_of_some _ (Heap.get?_push_size _ rfl), rfl, rfl⟩ fun b o x => Heap.get?_push_of_some _ (Heap.get?_push_of_some _ x)⟩
end
def Itet (K : PySem.W.Frag) (a : Addr) : It :=
  ⟨fun i H => ∃ (xs : List V) (x : V), SqT K H a xs ∧ xs[i]? = some x, fun i H v H' => ∃ T x, v = .ref T ∧ H T = none ∧ H' = upd H T (.tup [.int (i : Nat), x]) ∧ ∀ xs, SqT K H a xs → xs[i]? = some x, fun i H => ∃ xs : List V, SqT K H a xs ∧ xs.length = i⟩
theorem turn_enumT {P : Program} {w : World} {K : PySem.W.Frag} {elts : List Expr} {kk : Nat} {tpos : Pos} (a e it : Addr) (hat : a ≠ it) :
    Turn P w K (.Tuple elts kk tpos) (Itet K a) [e, it] e (fun i h => (∃ old, IsEnum h e it ((i : Nat) : Int) old) ∧ h.IsTupleIter it a i ∧ e ≠ it ∧ e ≠ a) where
  mem := by simp
  obj := fun i h st b hb => by
    obtain ⟨⟨old, he⟩, ⟨o, ho, hc, hd⟩, _⟩ := st
    rcases (show b = e ∨ b = it by simpa using hb) with z | z
    · rw [z]; exact ⟨_, he, fun v q => nomatch q⟩
    · rw [z]; exact ⟨o, ho, fun v q => by rw [hd] at q; cases q⟩
  keep := fun i h h' st k => let ⟨⟨old, he⟩, hi, hne⟩ := st; ⟨⟨old, k e (by simp) _ he⟩, hi.at fun o q => k it (by simp) o q, hne⟩
  item := by
    intro X hP hw hK hc i pins s σ H E I hf st hg
    subst hP hw hK
    obtain ⟨⟨old, he⟩, hit, hne, hea⟩ := st
    obtain ⟨xs, x, hq, hx⟩ := hg
    obtain ⟨its, rv, p, hz⟩ := I.tuple hq
    obtain ⟨u, hu, ru⟩ := rv.get hx
    have p' : s.heap.IsTuple a its.toArray := p
    have hel : e < s.heap.objs.size := Heap.lt_size he
    have hil : it < s.heap.objs.size := by obtain ⟨_, q, _⟩ := hit; exact Heap.lt_size q
    have hil2 : i < its.toArray.size := by
      have := (List.getElem?_eq_some_iff.mp hu).1
      simpa using this
    refine wpAny_pyNext_enum_itemC (Draws.tuple (A := X.A.in1) (I.ok.hd hc) it a hat its.toArray) he ⟨hit, p'⟩ hil2 hne (by simp [hne, hea]) fun x2 h' tk hP2 ho hst' hT hsz hk => ?_
    have ex2 : x2 = u := by
      have q : its.toArray[i]? = some x2 := hP2
      rw [List.getElem?_toArray, hu] at q
      exact (Option.some.inj q).symm
    subst ex2
    refine ⟨_, rfl, wpAny_letOwnedTupleGo_enum (s := { s with heap := h', toks := tk + 1 }) ho fun h'' he' sb => ?_⟩
    have hT2 : h''.get? s.heap.objs.size = some { cls := .type "tuple", data := .seq #[.int i tk, x2] } := (sb.2 _ (Nat.ne_of_gt hel)).trans hT
    have new : ObjOk X.prog X.w (upd H s.heap.objs.size (.tup [.int (i : Nat), x])) h'' s.heap.objs.size (.tup [.int (i : Nat), x]) :=
      ⟨by show 2 ≤ sizeLine; decide, [.int i tk, x2], .cons ⟨_, rfl⟩ (.cons ru .nil), ⟨_, hT2, rfl, _, rfl⟩⟩
    have I1 : Inv X pins σ (upd H s.heap.objs.size (.tup [.int (i : Nat), x])) { s with heap := h'', toks := tk + 1 } :=
      I.turnedNew (ch := [e, it]) (fun b ob hb q => (sb.2 b (fun z => hb (by simp [z]))).trans (hk b ob (fun z => hb (by simp [z])) (fun z => hb (by simp [z])) q)) hf (Nat.le_refl _) new
    refine ⟨.ref s.heap.objs.size, _, I1, rfl, ⟨_, x, rfl, I.hok.fresh (Nat.le_refl _), rfl, fun ys hy => by rw [I.tuple_inj hy hq]; exact hx⟩, ⟨⟨x2, ?_⟩, hst'.1.at fun o q => (sb.2 it (Ne.symm hne)).trans q, hne, hea⟩, fun b hb => ?_⟩
    · have e1 : ((i + 1 : Nat) : Int) = (i : Int) + 1 := by omega
      rw [e1]; exact he'
    · have hb' : b < s.heap.objs.size := by
        rcases (show b = e ∨ b = it by simpa using hb) with z | z
        · rw [z]; exact hel
        · rw [z]; exact hil
      rw [upd_ne (Nat.ne_of_lt hb')]
      exact (hf b hb).1
  done := by
    intro X hP hw hK hc i pins s σ H E I hf st hg
    subst hP hw hK
    obtain ⟨⟨old, he⟩, hit, hne, hea⟩ := st
    obtain ⟨xs, hq, hx⟩ := hg
    obtain ⟨its, rv, p, hz⟩ := I.tuple hq
    have p' : s.heap.IsTuple a its.toArray := p
    obtain ⟨f0, f1, f2, f3, f4, f5⟩ := hf it (by simp)
    have hl := rv.length
    have hsz : its.toArray.size = i := by
      rw [List.size_toArray]
      omega
    refine wpAny_pyNext_enum_endD (Draws.tuple (A := X.A.in1) (I.ok.hd hc) it a hat its.toArray) he ⟨by rw [hsz]; exact hit, p'⟩ fun h' eb => ⟨rfl, I.turned (t' := s.toks) (fun b o hb q => eb b o hb q) f0 f1 f3 f4 f5⟩
  self := fun A i s Q E st h => let ⟨⟨_, he⟩, _⟩ := st; wpAny_pyIter_enum he h
def iEnumT (K : PySem.W.Frag) (ta : TA) : TI := fun σ H R => ta σ H fun vs H1 => ∃ a xs, vs = [.ref a] ∧ SqT K H1 a xs ∧ R (Itet K a) H1
theorem pi_enumT {X : Cx} {e : Expr} {ta : TA} {p pos tpos : Pos} {elts : List Expr} {kk : Nat} (hg : Gl X "enumerate") (hm : X.mg "enumerate" = none) (ha : PA X [e] ta) (hs : starEach [e] X.env = [(false, eval e X.env)] := by rfl) :
    PI X (.Tuple elts kk tpos) (.Call (.Name "enumerate" p) [e] [] pos) (iEnumT X.K ta) := by
  refine ⟨fun pins s σ H R I h => ?_⟩
  refine Call_ (ld_blt I hg hm boot_enumerate (PyProof.Rows.callWith_type1 (thn (ha.run pos pins s σ H _ I h) fun us s1 ⟨vs, H1, I1, r1, q1⟩ => ?_) hs rfl))
  obtain ⟨a, xs, ex, hq, q⟩ := q1
  subst ex
  cases r1 with
  | cons r rr =>
    cases rr
    cases r
    obtain ⟨its, rv, p', hz⟩ := I1.tuple hq
    have p'' : s1.heap.IsTuple a its.toArray := p'
    have hal : a < s1.heap.objs.size := p'.lt
    refine call_enum_tup p'' fun h' he hit hk => wpAny_pyIter_enum he ?_
    have I2 : Inv X pins σ H1 { s1 with heap := h' } := I1.kept (t' := s1.toks) hk
    refine ⟨s1.heap.objs.size + 1, [s1.heap.objs.size + 1, s1.heap.objs.size], _, _, H1, rfl, I2, turn_enumT a (s1.heap.objs.size + 1) s1.heap.objs.size (Nat.ne_of_lt hal), ⟨⟨.none, he⟩, hit, Nat.succ_ne_self _, Nat.ne_of_gt (Nat.lt_succ_of_lt hal)⟩, fun b hb => ?_, q⟩
    have hle : s1.heap.objs.size ≤ b := by
      rcases (show b = s1.heap.objs.size + 1 ∨ b = s1.heap.objs.size by simpa using hb) with z | z
      · rw [z]; exact Nat.le_add_right _ _
      · rw [z]; exact Nat.le_refl _
    exact I1.fpOk hle (I1.hok.fresh hle)
open Evl in
/-- for i, x in enumerate(t), t a tuple; Pv by the turn -/
theorem s_forET {K : PySem.W.Frag} {a : Addr} {xs : List V} {te : TE} {i j : Nat} {tu : TS} {D : Ends} {σ : L2.St} {H : Hp} (h : Ev te σ H (.ref a)) (hx : SqT K H a xs) (Pv : Nat → L2.St → Hp → Prop) (h0 : ∀ H1, Ex H H1 → Pv 0 σ H1)
    (hl : ∀ m σ' H', m ≤ xs.length → Pv m σ' H' → SqT K H' a xs)
    (hs : ∀ m x σ' H', xs[m]? = some x → Pv m σ' H' → ∀ H2, Ex H' H2 → tu { D with nx := Pv (m + 1), ct := Pv (m + 1), bk := D.nx } ((σ'.set i (some (.int (m : Int)))).set j (some x)) H2) (hd : ∀ σ' H', Pv xs.length σ' H' → D.nx σ' H') :
    tFor (iEnumT K (tCons te tNil)) (gTup K 2 (gCons (gName i) (gCons (gName j) gNil))) tu D σ H := h H (Ex.refl H) _ fun H1 e => by
  refine ⟨a, xs, rfl, ex_t e hx, fun m μ σ H => μ = xs.length - m ∧ m ≤ xs.length ∧ Pv m σ H, ⟨xs.length, by simp, Nat.zero_le _, h0 H1 e⟩, ?_⟩
  rintro m μ σ2 H2 ⟨rfl, hm, p⟩
  have q := hl m σ2 H2 hm p
  by_cases hlt : m < xs.length
  · refine .inr ⟨⟨xs, xs[m], q, by simp [hlt]⟩, Pv (m + 1), fun σ' H' p' => ⟨xs.length - (m + 1), by omega, rfl, hlt, p'⟩, ?_⟩
    rintro v H3 ⟨T, x, rfl, hT, rfl, hy⟩
    refine ⟨T, _, rfl, SqT.of upd_same, rfl, _, _, rfl, ?_⟩
    refine ⟨_, _, rfl, ?_⟩
    exact ⟨rfl, hs m x σ2 H2 (hy xs q) p _ (Ex.new hT)⟩
  · have e2 : m = xs.length := by omega
    subst e2
    exact .inl ⟨⟨xs, q, rfl⟩, hd σ2 H2 p⟩
open Evl in
theorem q_forET {K : PySem.W.Frag} {a : Addr} {xs : List V} {te : TE} {i j : Nat} {tu tz : TS} {D : Ends} {σ : L2.St} {H : Hp} (h : Ev te σ H (.ref a)) (hx : SqT K H a xs) (Pv : Nat → L2.St → Hp → Prop) (h0 : ∀ H1, Ex H H1 → Pv 0 σ H1)
    (hl : ∀ m σ' H', m ≤ xs.length → Pv m σ' H' → SqT K H' a xs)
    (hs : ∀ m x σ' H', xs[m]? = some x → Pv m σ' H' → ∀ H2, Ex H' H2 → tu { D with nx := Pv (m + 1), ct := Pv (m + 1), bk := tz D } ((σ'.set i (some (.int (m : Int)))).set j (some x)) H2) (hd : ∀ σ' H', Pv xs.length σ' H' → tz D σ' H') :
    tSeq (tFor (iEnumT K (tCons te tNil)) (gTup K 2 (gCons (gName i) (gCons (gName j) gNil))) tu) tz D σ H := s_forET (D := { D with nx := tz D }) h hx Pv h0 hl hs hd
end Fm
set_option Elab.async false
set_option linter.all false
set_option maxRecDepth 100000
set_option maxHeartbeats 1000000
namespace Fm
open PySem L2 Evl
section
variable {K : PySem.W.Frag} {H : Hp} {σ : L2.St} {ta tb : TE}
def In.one : In → Bool
  | .say => true | .ask => true | .stop => true
  | _ => false
def In.cel : In → Bool
  | .get _ => true | .plus _ => true | .minus _ => true | .set _ => true
  | _ => false
def In.pla : In → Bool
  | .zero _ => true | .go _ => true
  | _ => false
theorem w_one (i : In) : inV (V.str i.w) [.str "say", .str "ask", .str "stop"] = i.one := by cases i <;> kernel_rfl
theorem w_cel (i : In) : inV (V.str i.w) [.str "get", .str "plus", .str "minus", .str "set"] = i.cel := by cases i <;> kernel_rfl
theorem w_pla (i : In) : inV (V.str i.w) [.str "zero", .str "go"] = i.pla := by cases i <;> kernel_rfl
def In.isPut : In → Bool
  | .put _ => true
  | _ => false
theorem w_put (i : In) : decide (V.str i.w = V.str "put") = i.isPut := by cases i <;> kernel_rfl
theorem vs_len (i : In) : i.vs.length = (match i.arg with | none => 1 | some _ => 2) := by
  unfold In.vs
  cases i <;> rfl
theorem ev_neg {i : Int} (h : Ev ta σ H (.int i)) : Ev (tUn (rU fun i => .int (-i)) ta) σ H (.int (-i)) := ev_un h ru_neg
end
structure WdR (K : PySem.W.Frag) (mg : Str → Option Value) (aR : Addr) : Prop where
  g_READS : mg "READS" = some (.ref aR)
  R : ∀ H, SqT K H aR [.str "get", .str "plus", .str "minus"]
def In.rd : In → Bool
  | .get _ => true | .plus _ => true | .minus _ => true
  | _ => false
theorem w_rd (i : In) : inV (V.str i.w) [.str "get", .str "plus", .str "minus"] = i.rd := by cases i <;> kernel_rfl
def In.isSet : In → Bool
  | .set _ => true
  | _ => false
theorem w_set (i : In) : decide (V.str i.w = V.str "set") = i.isSet := by cases i <;> kernel_rfl
section
variable {P : Program} {w : World} {K : PySem.W.Frag} {mg : Str → Option Value} {base : Heap}
def spChkLen (K : PySem.W.Frag) : Sp := fun vs H Q _ => ∃ (a : Addr) (xs : List V) (m : Nat), vs = [.ref a, .int (m : Int)] ∧ SqT K H a xs ∧ 1 ≤ xs.length ∧ xs.length ≤ m ∧ ∀ H', Ex H H' → Q .non H'
def spChkPg (K : PySem.W.Frag) : Sp := fun vs H Q _ => ∃ (c : Nat) (a : Addr) (p : List In), vs = [.int (c : Int), .ref a] ∧ PgT K H a p ∧ Pok c p ∧ NoT p ∧ p.length ≤ 20 ∧ ∀ H', Ex H H' → Q .non H'
end
end Fm
set_option Elab.async false
set_option linter.all false
set_option maxRecDepth 100000
set_option maxHeartbeats 1000000
namespace Fm
open PySem L2 Evl
/-- a machine of these fades and rows stands at m -/
def MaT (K : PySem.W.Frag) (H : Hp) (m : Addr) (fs rs : List Nat) : Prop := ∃ a b : Addr, SqT K H m [.ref a, .ref b] ∧ SqT K H a (nV fs) ∧ SqT K H b (nV rs)
theorem MaT.up {K : PySem.W.Frag} {H H' : Hp} {m : Addr} {fs rs : List Nat} (e : Ex H H') (h : MaT K H m fs rs) : MaT K H' m fs rs := let ⟨a, b, h1, h2, h3⟩ := h; ⟨a, b, ex_t e h1, ex_t e h2, ex_t e h3⟩
/-- what a touch makes of a life -/
def tch (fs rs ls : List Nat) (c i : Nat) : Nat := if ls.getD i 0 = 0 then 0 else if rs.getD i 0 = rs.getD c 0 then fs.getD i 0 else ls.getD i 0 - 1
def touchL (fs rs ls : List Nat) (c : Nat) : List Nat := (List.range ls.length).map (tch fs rs ls c)
def setL (fs rs ls : List Nat) (c : Nat) : List Nat := (touchL fs rs ls c).set c (fs.getD c 0)
def waitL (ls : List Nat) : List Nat := ls.map (· - 1)
theorem nV_app (a b : List Nat) : nV (a ++ b) = nV a ++ nV b := List.map_append
theorem nV_at {l : List Nat} {i : Nat} (h : i < l.length) : atI (nV l) (i : Int) = some (.int (l.getD i 0 : Nat)) := atI_nat' (by
  unfold nV
  rw [List.getElem?_map, List.getElem?_eq_getElem h, List.getD_eq_getElem?_getD, List.getElem?_eq_getElem h]
  rfl)
section
variable {K : PySem.W.Frag} {σ : L2.St} {H : Hp} {ta tb te tt' : TE} {D : Ends} {tz tu : TS} {tt : TT} {tA : TA}
/-- over a tuple that stands, of numbers told by enc -/
theorem el_lcT {a : Addr} {tl : TE} {j : Nat} {vs : List Nat} {zs : List Nat} (enc : Nat → V) (f : Nat → Bool) (v : Nat → V) (h : Ev tl σ H (.ref a)) (hx : SqT K H a (zs.map enc)) (hw : ∀ x, wipe ((wipe σ vs).set j (some x)) vs = wipe σ vs) (hz : zs.length ≤ 40000)
    (ht : ∀ (y : Nat) H1, y ∈ zs → Ex H H1 → EvT tt ((wipe σ vs).set j (some (enc y))) H1 (f y)) (he : ∀ (y : Nat) H1, y ∈ zs → Ex H H1 → f y = true → Ev te ((wipe σ vs).set j (some (enc y))) H1 (v y)) :
    EvL (tLc (iTup K tl) (gName j) tt te vs) σ H ((zs.filter f).map v) := fun H0 e0 Q q => h H0 e0 _ fun H2 e2 => by
  have e02 := e0.trans e2
  refine ⟨a, rfl, ⟨zs.map enc, ex_t e02 hx⟩, ?_⟩
  have get : ∀ {i : Nat} {x : V}, (zs.map enc)[i]? = some x → ∃ y, zs[i]? = some y ∧ x = enc y := fun {i x} hx => by
    rw [List.getElem?_map] at hx
    cases hy : zs[i]? with
    | none => rw [hy] at hx; cases hx
    | some y => rw [hy] at hx; cases hx; exact ⟨y, rfl, rfl⟩
  have key := given_map zs f v (fun i => f (zs[i]?.getD 0)) (fun i => v (zs[i]?.getD 0)) (fun i x hx => by simp only [hx, Option.getD_some]) (fun i x hx => by simp only [hx, Option.getD_some])
  exact lc_tailT (Qd := fun Dl H2 => Q (.ref Dl) H2) (fun i => f (zs[i]?.getD 0)) (fun i => v (zs[i]?.getD 0)) (ex_t e02 hx) (by rw [List.length_map]; exact hz) hw (fun i x H3 e3 hx => by
    obtain ⟨y, hy, rfl⟩ := get hx
    have := ht y H3 (List.mem_of_getElem? hy) (e02.trans e3)
    simp only [hy, Option.getD_some]
    exact this) (fun i x H3 e3 hx hf => by
    obtain ⟨y, hy, rfl⟩ := get hx
    simp only [hy, Option.getD_some] at hf ⊢
    exact he y H3 (List.mem_of_getElem? hy) (e02.trans e3) hf) fun Dl H3 hD e3 h3 => q Dl H3 (fresh_back e2 hD) (e2.trans e3) (by
    rw [List.length_map, key] at h3
    exact h3)
/-- over any tuple that stands, each turn giving one and the same value -/
theorem el_lcTv {a : Addr} {tl : TE} {j : Nat} {vs : List Nat} {xs : List V} (v : V) (h : Ev tl σ H (.ref a)) (hx : SqT K H a xs) (hw : ∀ x, wipe ((wipe σ vs).set j (some x)) vs = wipe σ vs) (hz : xs.length ≤ 40000)
    (he : ∀ (y : V) H1, y ∈ xs → Ex H H1 → Ev te ((wipe σ vs).set j (some y)) H1 v) :
    EvL (tLc (iTup K tl) (gName j) tYes te vs) σ H (xs.map fun _ => v) := fun H0 e0 Q q => h H0 e0 _ fun H2 e2 => by
  have e02 := e0.trans e2
  refine ⟨a, rfl, ⟨xs, ex_t e02 hx⟩, ?_⟩
  have hg : given xs.length (fun _ => true) (fun _ => v) = xs.map fun _ => v := by
    unfold given
    rw [List.filter_eq_self.mpr fun _ _ => rfl]
    refine List.ext_getElem (by simp) fun i h1 h2 => by simp
  exact lc_tailT (Qd := fun Dl H2 => Q (.ref Dl) H2) (fun _ => true) (fun _ => v) (ex_t e02 hx) hz hw (fun i x H3 e3 hx => et_yes) (fun i x H3 e3 hx hf => he x H3 (List.mem_of_getElem? hx) (e02.trans e3)) fun Dl H3 hD e3 h3 => q Dl H3 (fresh_back e2 hD) (e2.trans e3) (by
    rw [hg] at h3
    exact h3)
theorem q_unpack {a : Addr} {x y : V} {i j : Nat} (h : Ev te σ H (.ref a)) (ha : SqT K H a [x, y]) (k : ∀ H1, Ex H H1 → tz D ((σ.set i (some x)).set j (some y)) H1) : tSeq (tAsg te (gTup K 2 (gCons (gName i) (gCons (gName j) gNil)))) tz D σ H :=
  h H (Ex.refl H) _ fun H1 e1 => ⟨a, _, rfl, ex_t e1 ha, rfl, _, _, rfl, ⟨_, _, rfl, ⟨rfl, k H1 e1⟩⟩⟩
end
def spWaited (K : PySem.W.Frag) : Sp := fun vs H Q _ => ∃ (l : Addr) (ls : List Nat), vs = [.ref l] ∧ SqT K H l (nV ls) ∧ ls.length ≤ 10 ∧ ∀ b H', H b = none → Ex H H' → H' b = some (.tup (nV (waitL ls))) → Q (.ref b) H'
def spTouched (K : PySem.W.Frag) : Sp := fun vs H Q _ => ∃ (m l : Addr) (fs rs ls : List Nat) (c : Nat), vs = [.ref m, .ref l, .int (c : Nat)] ∧ MaT K H m fs rs ∧ SqT K H l (nV ls) ∧ fs.length = rs.length ∧ ls.length = rs.length ∧ c < rs.length ∧ rs.length ≤ 10 ∧
  ∀ b H', H b = none → Ex H H' → H' b = some (.tup (nV (touchL fs rs ls c))) → Q (.ref b) H'
def spSet (K : PySem.W.Frag) : Sp := fun vs H Q _ => ∃ (m l : Addr) (fs rs ls : List Nat) (c : Nat), vs = [.ref m, .ref l, .int (c : Nat)] ∧ MaT K H m fs rs ∧ SqT K H l (nV ls) ∧ fs.length = rs.length ∧ ls.length = rs.length ∧ c < rs.length ∧ rs.length ≤ 10 ∧
  ∀ b H', H b = none → Ex H H' → H' b = some (.tup (nV (setL fs rs ls c))) → Q (.ref b) H'
section
variable {P : Program} {w : World} {K : PySem.W.Frag} {mg : Str → Option Value} {base : Heap}
abbrev s_lives_waited : Stmt := top 17
theorem sc_lives_waited : FnScope ["lives", "life"] ["lives"] (defScope s_lives_waited) := ⟨rfl, rfl, rfl, by decide +kernel, rfl, by decide +kernel, by decide +kernel⟩
--TY lives_waited {'lives':T,'life':'int'}
theorem ok_waited {f : Addr} {fd : FuncData} (F : Fun K "lives_waited" "lives_waited" s_lives_waited f fd) (T : Txt K mg) : FnOk P w K mg base CX0 2 f fd ["lives"] (spWaited K) := by
  refine F.ok sc_lives_waited (fun vs H Q E h => ?_) (fun cdv A outer s H vs Q E hr h => ?_)
  · obtain ⟨_, _, rfl, _⟩ := h
    rfl
  · obtain ⟨l, ls, rfl, hl, hz, k⟩ := h
    refine ⟨_, (pss_one (ps_ret (pe_callTy (tpl_K (K := K) rfl) (by rfl) T.z_tuple (by decide +kernel) (pa_cons (pe_lc (own := [("life", 1)]) (g := gName 1) rfl sc_lives_waited.nd (pi_tupK (K := K) rfl (pv 0)) (blkOk_by (by kernel_rfl)) (fun _ _ _ _ _ => pg_name (i := 1) sc_lives_waited.nd rfl (by first | exact Or.inl rfl | exact Or.inr rfl)) (fun _ _ _ _ _ => pts_nil) (fun _ _ _ _ _ => (pe_ifExp (pt_cmpR op_gt (pv 1) pe_int (nomark _)) (pe_op op_sub (pv 1) pe_int) pe_int))) pa_nil)))), ?_⟩
    have key := el_lcT (K := K) (σ := [some (.ref l), none]) (H := H) (a := l) (tl := tVar 0) (j := 1) (vs := List.map (fun x => x.snd) [(("life" : Str), 1)]) (tt := tYes) (te := tIf (tTest (tOp (rI0 fun i j => .bl (decide (i > j))) (tVar 1) (tC (.int 0)))) (tOp (rI0 fun i j => .int (i - j)) (tVar 1) (tC (.int 1))) (tC (.int 0))) (zs := ls) (fun z => .int (z : Nat)) (fun _ => true) (fun z => .int (z - 1 : Nat))
      (ev_var rfl) hl (fun x => rfl) (by omega) (fun y H1 _ _ => et_yes) (fun y H1 _ _ _ => ev_if (et_i0 (ev_var rfl) ev_c) (fun hc => by
        have := of_decide_eq_true hc
        rw [show ((y - 1 : Nat) : Int) = (y : Int) - 1 by omega]
        exact ev_i0 (ev_var rfl) ev_c) (fun hc => by
        have := of_decide_eq_false hc
        rw [show ((y - 1 : Nat) : Int) = 0 by omega]
        exact ev_c))
    rw [show ls.filter (fun _ => true) = ls from List.filter_eq_self.mpr fun _ _ => rfl] at key
    refine s_retU (xs := nV (waitL ls)) (eu_tplN ?_) fun b H1 hb e1 h1 => k b H1 hb e1 h1
    have : nV (waitL ls) = ls.map fun z => V.int (z - 1 : Nat) := by unfold nV waitL; rw [List.map_map]; rfl
    rw [this]
    exact key
abbrev s_lives_touched : Stmt := top 18
theorem sc_lives_touched : FnScope ["machine", "lives", "cell", "fades", "rows", "row", "behind", "at", "life"] ["machine", "lives", "cell"] (defScope s_lives_touched) := ⟨rfl, rfl, rfl, by decide +kernel, rfl, by decide +kernel, by decide +kernel⟩
--TY lives_touched {'lives':T,'machine':T,'fades':T,'rows':T,'behind':L,'life':'int','at':'int','row':'int','cell':'int'}
theorem ok_touched {f : Addr} {fd : FuncData} (F : Fun K "lives_touched" "lives_touched" s_lives_touched f fd) (T : Txt K mg) : FnOk P w K mg base CX0 2 f fd ["machine", "lives", "cell"] (spTouched K) := by
  refine F.ok sc_lives_touched (fun vs H Q E h => ?_) (fun cdv A outer s H vs Q E hr h => ?_)
  · obtain ⟨_, _, _, _, _, _, rfl, _⟩ := h
    rfl
  · obtain ⟨m, l, fs, rs, ls, c, rfl, ⟨a, b, hm, ha, hb⟩, hl, hf, hls, hc, hz, k⟩ := h
    refine ⟨_, (pss_cons (ps_asg (pv 0) (pg_tup rfl (pgs_cons (pg_name (i := 3) sc_lives_touched.nd rfl (by first | exact Or.inl rfl | exact Or.inr rfl)) (pgs_cons (pg_name (i := 4) sc_lives_touched.nd rfl (by first | exact Or.inl rfl | exact Or.inr rfl)) pgs_nil))))
  (pss_cons (ps_set (i := 5) sc_lives_touched.nd rfl (Or.inl rfl) (pe_ix (ix_K (K := K) rfl) (pv 4) (pv 2) (fun _ _ => rfl)))
  (pss_cons (ps_set (i := 6) sc_lives_touched.nd rfl (Or.inl rfl) (pe_lst pa_nil))
  (pss_cons (ps_for PassesOwn.never rfl (pi_enumT (by rfl) T.z_enumerate (pa_cons (pv 1) pa_nil)) (pg_tup rfl (pgs_cons (pg_name (i := 7) sc_lives_touched.nd rfl (by first | exact Or.inl rfl | exact Or.inr rfl)) (pgs_cons (pg_name (i := 8) sc_lives_touched.nd rfl (by first | exact Or.inl rfl | exact Or.inr rfl)) pgs_nil))) (pss_one (ps_if (pt_cmpR op_eq (pv 8) pe_int (nomark _)) (pss_one (ps_expr (pe_bm PySem.F.plainAttrs_list PySem.F.slot_list_append PySem.F.type_list_append mt_append (pv 6) (pa_cons pe_int pa_nil)))) (pss_one (ps_if (pt_cmpR op_eq (pe_ix (ix_K (K := K) rfl) (pv 4) (pv 7) (fun _ _ => rfl)) (pv 5) (nomark _)) (pss_one (ps_expr (pe_bm PySem.F.plainAttrs_list PySem.F.slot_list_append PySem.F.type_list_append mt_append (pv 6) (pa_cons (pe_ix (ix_K (K := K) rfl) (pv 3) (pv 7) (fun _ _ => rfl)) pa_nil)))) (pss_one (ps_expr (pe_bm PySem.F.plainAttrs_list PySem.F.slot_list_append PySem.F.type_list_append mt_append (pv 6) (pa_cons (pe_op op_sub (pv 8) pe_int) pa_nil)))))))))
  (pss_one (ps_ret (pe_callTy (tpl_K (K := K) rfl) (by rfl) T.z_tuple (by decide +kernel) (pa_cons (pv 6) pa_nil)))))))), ?_⟩
    refine q_unpack (ev_var rfl) hm fun H1 e1 => ?_
    have ha1 := ex_t e1 ha
    have hb1 := ex_t e1 hb
    refine q_asg (ev_ixT (ev_var rfl) (ev_var rfl) hb1 (nV_at hc)) fun H2 e2 => ?_
    refine q_asgL (xs := nV []) (el_lst ea_nil (Nat.zero_le _)) fun d H3 hd e3 hd3 => ?_
    have e03 := (e1.trans e2).trans e3
    have hd0 : H d = none := fresh_back (e1.trans e2) hd
    refine q_forET (xs := nV ls) (ev_var rfl) (ex_t e03 hl) (fun i σ H' => ∃ z7 z8 : Option V, Ex H H' ∧ H' d = some (.lst (nV ((List.range i).map (tch fs rs ls c)))) ∧ σ = [some (.ref m), some (.ref l), some (.int (c : Nat)), some (.ref a), some (.ref b), some (.int (rs.getD c 0 : Nat)), some (.ref d), z7, z8])
      (fun H4 e4 => ⟨_, _, e03.trans e4, e4 _ _ hd3, rfl⟩) (fun i σ H' _ ⟨_, _, e, _⟩ => ex_t e hl) ?_ ?_
    · rintro i x σ H4 hi ⟨z7, z8, e4, hd4, rfl⟩ H5 e5
      obtain ⟨y, hy, rfl⟩ := nV_get hi
      have hil : i < ls.length := (List.getElem?_eq_some_iff.mp hy).1
      have hyd : ls.getD i 0 = y := by rw [List.getD_eq_getElem?_getD, hy]; rfl
      have e05 := e4.trans e5
      have hd5 := e5 _ _ hd4
      have hlen : (nV ((List.range i).map (tch fs rs ls c))).length < 100000 := by rw [nV_len, List.length_map, List.length_range]; omega
      have fin : ∀ H6, Ex H5 H6 → ∀ z : Nat, z = tch fs rs ls c i → ∃ z7 z8 : Option V, Ex H (upd H6 d (.lst (nV ((List.range i).map (tch fs rs ls c)) ++ [.int (z : Nat)]))) ∧ upd H6 d (.lst (nV ((List.range i).map (tch fs rs ls c)) ++ [.int (z : Nat)])) d = some (.lst (nV ((List.range (i + 1)).map (tch fs rs ls c)))) ∧
          ([some (.ref m), some (.ref l), some (.int (c : Nat)), some (.ref a), some (.ref b), some (.int (rs.getD c 0 : Nat)), some (.ref d), some (.int (i : Int)), some (.int (y : Nat))] : L2.St) = [some (.ref m), some (.ref l), some (.int (c : Nat)), some (.ref a), some (.ref b), some (.int (rs.getD c 0 : Nat)), some (.ref d), z7, z8] := fun H6 e6 z hz => by
        refine ⟨_, _, Ex.mut (e05.trans e6) hd0, ?_, rfl⟩
        rw [upd_same, List.range_succ, List.map_append, nV_app, hz]
        rfl
      refine s_if (et_eq (ev_var rfl) ev_c rfl) (fun hc1 H6 e6 => ?_) (fun hc1 H6 e6 => ?_)
      · have : y = 0 := by have := V.int.inj (of_decide_eq_true hc1); omega
        refine s_app (e6 _ _ hd5) (ev_var rfl) (v := .int ((0 : Nat) : Int)) ev_c hlen fun H7 e7 => fin H7 (e6.trans e7) 0 ?_
        unfold tch
        rw [hyd, if_pos this]
      · have hy0 : ¬ y = 0 := fun z => of_decide_eq_false hc1 (by rw [z]; rfl)
        have hb6 := ex_t (e05.trans e6) hb
        have ha6 := ex_t (e05.trans e6) ha
        refine s_if (et_eq (ev_ixT (ev_var rfl) (ev_var rfl) hb6 (nV_at (by omega))) (ev_var rfl) rfl) (fun hc2 H7 e7 => ?_) (fun hc2 H7 e7 => ?_)
        · have hr : rs.getD i 0 = rs.getD c 0 := by have := V.int.inj (of_decide_eq_true hc2); omega
          refine s_app ((e6.trans e7) _ _ hd5) (ev_var rfl) (ev_ixT (ev_var rfl) (ev_var rfl) (ex_t e7 ha6) (nV_at (by omega))) hlen fun H8 e8 => fin H8 ((e6.trans e7).trans e8) _ ?_
          unfold tch
          rw [hyd, if_neg hy0, if_pos hr]
        · have hr : ¬ rs.getD i 0 = rs.getD c 0 := fun z => of_decide_eq_false hc2 (by rw [z])
          refine s_app ((e6.trans e7) _ _ hd5) (ev_var rfl) (v := .int ((y - 1 : Nat) : Int)) ?_ hlen fun H8 e8 => fin H8 ((e6.trans e7).trans e8) (y - 1) ?_
          · rw [show ((y - 1 : Nat) : Int) = (y : Int) - 1 by omega]
            exact ev_i0 (ev_var rfl) ev_c
          · unfold tch
            rw [hyd, if_neg hy0, if_neg hr]
    · rintro σ H4 ⟨z7, z8, e4, hd4, rfl⟩
      rw [nV_len] at hd4
      refine s_retU (eu_tpl (ev_var rfl) (sq_of hd4)) fun q H5 hq e5 h5 => k q H5 (fresh_back e4 hq) (e4.trans e5) h5
abbrev s_lives_set : Stmt := top 19
theorem sc_lives_set : FnScope ["machine", "lives", "cell", "behind"] ["machine", "lives", "cell"] (defScope s_lives_set) := ⟨rfl, rfl, rfl, by decide +kernel, rfl, by decide +kernel, by decide +kernel⟩
--TY lives_set {'lives':T,'machine':('tuple',('tuple','int')),'behind':L,'cell':'int'}
theorem ok_set {f f1 : Addr} {fd fd1 : FuncData} (F : Fun K "lives_set" "lives_set" s_lives_set f fd) (T : Txt K mg) (C_lives_touched : Cal P w K mg base CX0 2 "lives_touched" f1 fd1 ["machine", "lives", "cell"] (spTouched K)) : FnOk P w K mg base CX0 3 f fd ["machine", "lives", "cell"] (spSet K) := by
  refine F.ok sc_lives_set (fun vs H Q E h => ?_) (fun cdv A outer s H vs Q E hr h => ?_)
  · obtain ⟨_, _, _, _, _, _, rfl, _⟩ := h
    rfl
  · obtain ⟨m, l, fs, rs, ls, c, rfl, hM, hl, hf, hls, hc, hz, k⟩ := h
    refine ⟨_, (pss_cons (ps_set (i := 3) sc_lives_set.nd rfl (Or.inl rfl) (pe_callTy (ls_K (K := K) rfl) (by rfl) T.z_list (by decide +kernel) (pa_cons (pe_call C_lives_touched.G (hr.mono (by first | decide | omega)) rfl C_lives_touched.g C_lives_touched.kp C_lives_touched.b .nil pass0 (pa_cons (pv 0) (pa_cons (pv 1) (pa_cons (pv 2) pa_nil)))) pa_nil)))
  (pss_cons (ps_asg (pe_ix (ix_K (K := K) rfl) (pe_ix (ix_K (K := K) rfl) (pv 0) pe_int (fun _ _ => rfl)) (pv 2) (fun _ _ => rfl)) (pg_sub (pv 3) (pv 2) set_list))
  (pss_one (ps_ret (pe_callTy (tpl_K (K := K) rfl) (by rfl) T.z_tuple (by decide +kernel) (pa_cons (pv 3) pa_nil)))))), ?_⟩
    refine q_asgL (xs := nV (touchL fs rs ls c)) ?_ fun d H1 hd e1 hd1 => ?_
    · intro H1 e1 Q' q
      refine m_callC (ea_cons (ev_var rfl) (ea_cons (ev_var rfl) (ea_cons (ev_var rfl) ea_nil))) fun H2 e2 => ?_
      refine ⟨m, l, fs, rs, ls, c, rfl, hM.up (e1.trans e2), ex_t (e1.trans e2) hl, hf, hls, hc, hz, fun b H3 hb e3 h3 => ?_⟩
      exact ⟨b, _, rfl, .inr (st_of h3), fun p hp => q p _ (fresh_back (e2.trans e3) hp) ((e2.trans e3).trans (Ex.new hp)) upd_same⟩
    obtain ⟨a, b, hm, ha, hb⟩ := hM.up e1
    have hlen : c < (nV (touchL fs rs ls c)).length := by rw [nV_len]; unfold touchL; rw [List.length_map, List.length_range]; omega
    refine q_setL hd1 (v := .int (fs.getD c 0 : Nat)) (ev_ixT (ev_ixT (ev_var rfl) ev_c hm rfl) (ev_var rfl) ha (nV_at (by omega))) (ev_var rfl) (ev_var rfl) hlen fun H2 e2 => ?_
    have hset : (nV (touchL fs rs ls c)).set c (.int (fs.getD c 0 : Nat)) = nV (setL fs rs ls c) := by
      unfold setL nV
      rw [List.map_set]
    rw [hset]
    have ex2 : Ex H (upd H2 d (.lst (nV (setL fs rs ls c)))) := Ex.mut (e1.trans e2) hd
    refine s_retU (eu_tpl (ev_var rfl) (sq_of upd_same)) fun q H3 hq e3 h3 => k q H3 (fresh_back ex2 hq) (ex2.trans e3) h3
end
end Fm
set_option Elab.async false
set_option linter.all false
set_option maxRecDepth 100000
set_option maxHeartbeats 1000000
namespace Fm
open PySem L2 Evl RZ
def nm (rs : List Nat) : Nat := rs.foldl (fun n r => max n (r + 1)) 0
def RowsOk (rs : List Nat) : Prop := ∀ i r, rs[i]? = some r → r ≤ nm (rs.take i)
theorem nm_succ {rs : List Nat} {i r : Nat} (h : rs[i]? = some r) : nm (rs.take (i + 1)) = max (nm (rs.take i)) (r + 1) := by
  have : rs.take (i + 1) = rs.take i ++ [r] := by rw [List.take_succ, h]; rfl
  unfold nm
  rw [this, List.foldl_append]
  rfl
structure MaOk (fs rs : List Nat) : Prop where
  l1 : 1 ≤ fs.length
  l4 : fs.length ≤ 4
  ll : fs.length = rs.length
  f : ∀ x ∈ fs, 1 ≤ x ∧ x ≤ 8
  r : RowsOk rs
def LiOk (fs ls : List Nat) : Prop := ls.length = fs.length ∧ ∀ i, i < fs.length → ls.getD i 0 ≤ fs.getD i 0
def spFades (K : PySem.W.Frag) : Sp := fun vs H Q _ => ∃ (a : Addr) (fs : List Nat), vs = [.ref a] ∧ SqT K H a (nV fs) ∧ 1 ≤ fs.length ∧ fs.length ≤ 4 ∧ (∀ x ∈ fs, 1 ≤ x ∧ x ≤ 8) ∧ ∀ H', Ex H H' → Q (.bl true) H'
def spRows (K : PySem.W.Frag) : Sp := fun vs H Q _ => ∃ (a : Addr) (rs : List Nat), vs = [.ref a] ∧ SqT K H a (nV rs) ∧ RowsOk rs ∧ rs.length ≤ 100 ∧ ∀ H', Ex H H' → Q (.bl true) H'
def spChkMa (K : PySem.W.Frag) : Sp := fun vs H Q _ => ∃ (m : Addr) (fs rs : List Nat), vs = [.ref m] ∧ MaT K H m fs rs ∧ MaOk fs rs ∧ ∀ H', Ex H H' → Q .non H'
def spChkLi (K : PySem.W.Frag) : Sp := fun vs H Q _ => ∃ (m l : Addr) (fs rs ls : List Nat), vs = [.ref m, .ref l] ∧ MaT K H m fs rs ∧ MaOk fs rs ∧ SqT K H l (nV ls) ∧ LiOk fs ls ∧ ∀ H', Ex H H' → Q .non H'
def spChkCe (K : PySem.W.Frag) : Sp := fun vs H Q _ => ∃ (m : Addr) (fs rs : List Nat) (c : Nat), vs = [.ref m, .int (c : Nat)] ∧ MaT K H m fs rs ∧ MaOk fs rs ∧ c < rs.length ∧ ∀ H', Ex H H' → Q .non H'
section
variable {K : PySem.W.Frag} {σ : L2.St} {H : Hp} {ta tb te tt' : TE} {D : Ends} {tz tu : TS} {tt : TT} {tA : TA}
theorem ev_all {bs : List Bool} (h : EvL te σ H (bs.map V.bl)) : Ev (tCB (rAll K) (tCons te tNil)) σ H (.bl (bs.all id)) := fun H1 e Q q => h H1 e _ fun p H2 hp e2 h2 => ⟨p, bs, rfl, sq_of h2, q H2 e2⟩
/-- for x, y in zip(s, t), tuples of one length -/
theorem s_forZT {a b : Addr} {xs ys : List V} {i j : Nat} (h : EvA tA σ H [.ref a, .ref b]) (hx : SqT K H a xs) (hy : SqT K H b ys) (hl : xs.length = ys.length) (Pv : Nat → L2.St → Hp → Prop) (h0 : ∀ H1, Ex H H1 → Pv 0 σ H1) (hq : ∀ m σ' H', Pv m σ' H' → Ex H H')
    (hs : ∀ m x y σ' H', xs[m]? = some x → ys[m]? = some y → Pv m σ' H' → ∀ H2, Ex H' H2 → tu { D with nx := Pv (m + 1), ct := Pv (m + 1), bk := D.nx } ((σ'.set i (some x)).set j (some y)) H2) (hd : ∀ σ' H', Pv xs.length σ' H' → D.nx σ' H') :
    tFor (iZipA K tA) (gTup K 2 (gCons (gName i) (gCons (gName j) gNil))) tu D σ H := h H (Ex.refl H) _ fun H1 e => by
  refine ⟨a, b, xs, ys, rfl, .inr ⟨ex_t e hx, ex_t e hy, ?_⟩⟩
  refine for_zipT hl Pv (h0 H1 e) (fun m σ' H' p => ⟨ex_t (hq m σ' H' p) hx, ex_t (hq m σ' H' p) hy⟩) ?_ hd
  intro m x y T σ' H' h1 h2 p hT
  exact ⟨T, _, rfl, st_of upd_same, rfl, _, _, rfl, ⟨_, _, rfl, ⟨rfl, hs m x y σ' H' h1 h2 p _ (Ex.new hT)⟩⟩⟩
/-- for x in t: .. -/
theorem q_forTn {a : Addr} {xs : List V} {tl : TE} {j : Nat} (h : Ev tl σ H (.ref a)) (hx : SqT K H a xs) (Pv : Nat → L2.St → Hp → Prop) (h0 : ∀ H1, Ex H H1 → Pv 0 σ H1) (hl : ∀ i σ' H', i ≤ xs.length → Pv i σ' H' → SqT K H' a xs)
    (hs : ∀ i x σ' H', xs[i]? = some x → Pv i σ' H' → tu { D with nx := Pv (i + 1), ct := Pv (i + 1), bk := tz D } (σ'.set j (some x)) H') (hd : ∀ σ' H', Pv xs.length σ' H' → tz D σ' H') : tSeq (tFor (iTup K tl) (gName j) tu) tz D σ H :=
  q_forT h hx Pv h0 hl hs hd
end
section
variable {P : Program} {w : World} {K : PySem.W.Frag} {mg : Str → Option Value} {base : Heap}
abbrev s_are_fades : Stmt := top 11
theorem sc_are_fades : FnScope ["value", "fade"] ["value"] (defScope s_are_fades) := ⟨rfl, rfl, rfl, by decide +kernel, rfl, by decide +kernel, by decide +kernel⟩
--TY are_fades {'value':T,'fade':'any'}
theorem ok_fades {f f1 : Addr} {fd fd1 : FuncData} (F : Fun K "are_fades" "are_fades" s_are_fades f fd) (T : Txt K mg) (C_is_integer : Cal P w K mg base CX0 2 "is_integer" f1 fd1 ["value", "low", "high"] (spIsInt K)) : FnOk P w K mg base CX0 3 f fd ["value"] (spFades K) := by
  refine F.ok sc_are_fades (fun vs H Q E h => ?_) (fun cdv A outer s H vs Q E hr h => ?_)
  · obtain ⟨_, _, rfl, _⟩ := h
    rfl
  · obtain ⟨a, fs, rfl, ha, h1, h4, hf, k⟩ := h
    refine ⟨_, (pss_cons (ps_if (PW.pt (pw_or (pt_not (pt_val (pe_callB (isi_K (K := K) rfl) (by rfl) T.z_isinstance (by decide +kernel) (pa_cons (pv 0) (pa_cons (pe_bltn (v := .ty "tuple") (by rfl) T.z_tuple (by decide +kernel) rfl) pa_nil))))) (pw_or1 (pt_not (pt_chain op_le op_le pe_int (pe_callB (len_K (K := K) rfl) (by rfl) T.z_len (by decide +kernel) (pa_cons (pv 0) pa_nil)) (pe_glob (v := .int 4) rfl T.c_MOST_CELLS.choose_spec ⟨_, rfl⟩)))))) (pss_one (ps_ret pe_bl)) pss_nil)
  (pss_one (ps_ret (pe_callB (all_K (K := K) rfl rfl) (by rfl) T.z_all (by decide +kernel) (pa_cons (pe_lc (own := [("fade", 1)]) (g := gName 1) rfl sc_are_fades.nd (pi_tupK (K := K) rfl (pv 0)) (blkOk_by (by kernel_rfl)) (fun _ _ _ _ _ => pg_name (i := 1) sc_are_fades.nd rfl (by first | exact Or.inl rfl | exact Or.inr rfl)) (fun _ _ _ _ _ => pts_nil) (fun _ _ _ _ _ => (pe_call C_is_integer.G (hr.mono (by first | decide | omega)) rfl C_is_integer.g C_is_integer.kp C_is_integer.b .nil pass0 (pa_cons (pv 1) (pa_cons pe_int (pa_cons (pe_glob (v := .int 8) rfl T.c_MOST_FADE.choose_spec ⟨_, rfl⟩) pa_nil)))))) pa_nil))))), ?_⟩
    have hl : (nV fs).length = fs.length := nV_len fs
    have hch : (decide ((1 : Int) ≤ ((nV fs).length : Int)) && decide (((nV fs).length : Int) ≤ 4)) = true := by
      rw [hl, decide_eq_true (show (1 : Int) ≤ (fs.length : Int) by omega), decide_eq_true (show (fs.length : Int) ≤ 4 by omega)]
      rfl
    refine q_when (b := false) (et_is (et_or (b := false) (et_not (a := true) (et_B (ev_isi (t := "tuple") (b := true) (ev_var rfl) (ty_tup ha) (by decide +kernel)))) fun _ => et_not (a := true) (et_is (et_test (ev_chain ev_c (ev_lnT (ev_var rfl) ha) ev_c)) hch)) rfl) (fun z => nomatch z) fun _ H1 e1 => ?_
    have key := el_lcT (K := K) (σ := [some (.ref a), none]) (H := H1) (a := a) (tl := tVar 0) (j := 1) (vs := List.map (fun x => x.snd) [(("fade" : Str), 1)]) (tt := tYes) (te := tCall (spIsInt K) [] E0 (tCons (tVar 1) (tCons (tC (.int 1)) (tCons (tC (.int 8)) tNil)))) (zs := fs) (fun z => .int (z : Nat)) (fun _ => true) (fun z => .bl true)
      (ev_var rfl) (ex_t e1 ha) (fun x => rfl) (by omega) (fun y H2 _ _ => et_yes) (fun y H2 hy _ _ => ev_callV (ea_cons (ev_var rfl) (ea_cons ev_c (ea_cons ev_c ea_nil))) fun H3 e3 Q' q => ⟨_, 1, 8, some (y : Int), rfl, rfl, fun H4 e4 => by
        have : inRange (some (y : Int)) 1 8 = true := by
          have := hf y hy
          simp only [inRange, Bool.and_eq_true, decide_eq_true_eq]
          omega
        rw [this]
        exact q H4 e4⟩)
    rw [show fs.filter (fun _ => true) = fs from List.filter_eq_self.mpr fun _ _ => rfl] at key
    have hm : (fs.map fun _ => V.bl true) = (fs.map fun _ => true).map V.bl := by rw [List.map_map]; rfl
    rw [hm] at key
    refine s_ret (ev_all key) fun H2 e2 => ?_
    have : (fs.map fun _ => true).all id = true := by rw [List.all_map]; exact List.all_eq_true.mpr fun _ _ => rfl
    rw [this]
    exact k H2 (e1.trans e2)
abbrev s_are_rows : Stmt := top 12
theorem sc_are_rows : FnScope ["value", "named", "row"] ["value"] (defScope s_are_rows) := ⟨rfl, rfl, rfl, by decide +kernel, rfl, by decide +kernel, by decide +kernel⟩
--TY are_rows {'value':T,'row':'any','named':'int'}
theorem ok_rows {f f1 : Addr} {fd fd1 : FuncData} (F : Fun K "are_rows" "are_rows" s_are_rows f fd) (T : Txt K mg) (C_is_integer : Cal P w K mg base CX0 2 "is_integer" f1 fd1 ["value", "low", "high"] (spIsInt K)) : FnOk P w K mg base CX0 3 f fd ["value"] (spRows K) := by
  refine F.ok sc_are_rows (fun vs H Q E h => ?_) (fun cdv A outer s H vs Q E hr h => ?_)
  · obtain ⟨_, _, rfl, _⟩ := h
    rfl
  · obtain ⟨a, rs, rfl, ha, hr1, hl, k⟩ := h
    refine ⟨_, (pss_cons (ps_if (pt_not (pt_val (pe_callB (isi_K (K := K) rfl) (by rfl) T.z_isinstance (by decide +kernel) (pa_cons (pv 0) (pa_cons (pe_bltn (v := .ty "tuple") (by rfl) T.z_tuple (by decide +kernel) rfl) pa_nil))))) (pss_one (ps_ret pe_bl)) pss_nil)
  (pss_cons (ps_set (i := 1) sc_are_rows.nd rfl (Or.inl rfl) pe_int)
  (pss_cons (ps_for PassesOwn.never rfl (pi_tupK (K := K) rfl (pv 0)) (pg_name (i := 2) sc_are_rows.nd rfl (by first | exact Or.inl rfl | exact Or.inr rfl)) (pss_cons (ps_if (pt_not (pt_val (pe_call C_is_integer.G (hr.mono (by first | decide | omega)) rfl C_is_integer.g C_is_integer.kp C_is_integer.b .nil pass0 (pa_cons (pv 2) (pa_cons pe_int (pa_cons (pv 1) pa_nil)))))) (pss_one (ps_ret pe_bl)) pss_nil)
  (pss_one (ps_if (pt_cmpR op_eq (pv 2) (pv 1) (nomark _)) (pss_one (ps_aug (i := 1) sc_are_rows.nd rfl (Or.inl rfl) pe_int ip_add)) pss_nil))))
  (pss_one (ps_ret pe_bl))))), ?_⟩
    refine q_when (b := false) (et_not (a := true) (et_B (ev_isi (t := "tuple") (b := true) (ev_var rfl) (ty_tup ha) (by decide +kernel)))) (fun z => nomatch z) fun _ H1 e1 => ?_
    refine q_asg ev_c fun H2 e2 => ?_
    have e02 := e1.trans e2
    refine q_forTn (xs := nV rs) (ev_var rfl) (ex_t e02 ha) (fun i σ H' => ∃ z : Option V, Ex H H' ∧ σ = [some (.ref a), some (.int (nm (rs.take i) : Nat)), z]) (fun H3 e3 => ⟨_, e02.trans e3, rfl⟩) (fun i σ H' _ ⟨_, e, _⟩ => ex_t e ha) ?_ ?_
    · rintro i x σ H3 hi ⟨z, e3, rfl⟩
      obtain ⟨y, hy, rfl⟩ := nV_get hi
      have hyn := hr1 i y hy
      refine q_when (b := false) (et_not (a := true) (et_B (ev_callV (ea_cons (ev_var rfl) (ea_cons ev_c (ea_cons (ev_var rfl) ea_nil))) fun H4 e4 Q' q => ⟨_, 0, (nm (rs.take i) : Nat), some (y : Int), rfl, rfl, fun H5 e5 => by
        have : inRange (some (y : Int)) 0 (nm (rs.take i) : Nat) = true := by
          simp only [inRange, Bool.and_eq_true, decide_eq_true_eq]
          omega
        rw [this]
        exact q H5 e5⟩))) (fun z => nomatch z) fun _ H4 e4 => ?_
      refine s_when (et_eq (ev_var rfl) (ev_var rfl) rfl) (fun hc H5 e5 => ?_) (fun hc H5 e5 => ?_)
      · have : y = nm (rs.take i) := by have := V.int.inj (of_decide_eq_true hc); omega
        refine s_aug rfl ev_c fun H6 e6 => ?_
        refine ⟨some (.int (y : Nat)), ((e3.trans e4).trans e5).trans e6, ?_⟩
        rw [nm_succ hy, show (max (nm (rs.take i)) (y + 1) : Nat) = nm (rs.take i) + 1 by omega]
        rfl
      · have : y ≠ nm (rs.take i) := fun z => of_decide_eq_false hc (by rw [z])
        refine ⟨some (.int (y : Nat)), (e3.trans e4).trans e5, ?_⟩
        rw [nm_succ hy, show (max (nm (rs.take i)) (y + 1) : Nat) = nm (rs.take i) by omega]
        rfl
    · rintro σ H3 ⟨z, e3, rfl⟩
      exact s_ret ev_c fun H4 e4 => k H4 (e3.trans e4)
abbrev s_check_machine : Stmt := top 13
theorem sc_check_machine : FnScope ["value", "fades", "rows"] ["value"] (defScope s_check_machine) := ⟨rfl, rfl, rfl, by decide +kernel, rfl, by decide +kernel, by decide +kernel⟩
--TY check_machine {'value':T,'fades':T,'rows':T}
theorem ok_check_machine {f f1 f2 : Addr} {fd fd1 fd2 : FuncData} (F : Fun K "check_machine" "check_machine" s_check_machine f fd) (T : Txt K mg) (C_are_fades : Cal P w K mg base CX0 3 "are_fades" f1 fd1 ["value"] (spFades K)) (C_are_rows : Cal P w K mg base CX0 3 "are_rows" f2 fd2 ["value"] (spRows K)) : FnOk P w K mg base CX0 4 f fd ["value"] (spChkMa K) := by
  refine F.ok sc_check_machine (fun vs H Q E h => ?_) (fun cdv A outer s H vs Q E hr h => ?_)
  · obtain ⟨_, _, _, rfl, _⟩ := h
    rfl
  · obtain ⟨m, fs, rs, rfl, ⟨a, b, hm, ha, hb⟩, ok, k⟩ := h
    refine ⟨_, (pss_cons (ps_if (PW.pt (pw_or (pt_not (pt_val (pe_callB (isi_K (K := K) rfl) (by rfl) T.z_isinstance (by decide +kernel) (pa_cons (pv 0) (pa_cons (pe_bltn (v := .ty "tuple") (by rfl) T.z_tuple (by decide +kernel) rfl) pa_nil))))) (pw_or1 (pt_cmpR op_ne (pe_callB (len_K (K := K) rfl) (by rfl) T.z_len (by decide +kernel) (pa_cons (pv 0) pa_nil)) pe_int (nomark _))))) (pss_one ps_never) pss_nil)
  (pss_cons (ps_asg (pv 0) (pg_tup rfl (pgs_cons (pg_name (i := 1) sc_check_machine.nd rfl (by first | exact Or.inl rfl | exact Or.inr rfl)) (pgs_cons (pg_name (i := 2) sc_check_machine.nd rfl (by first | exact Or.inl rfl | exact Or.inr rfl)) pgs_nil))))
  (pss_cons (ps_if (pt_not (pt_val (pe_call C_are_fades.G (hr.mono (by first | decide | omega)) rfl C_are_fades.g C_are_fades.kp C_are_fades.b .nil pass0 (pa_cons (pv 1) pa_nil)))) (pss_one ps_never) pss_nil)
  (pss_one (ps_if (PW.pt (pw_or (pt_not (pt_val (pe_call C_are_rows.G (hr.mono (by first | decide | omega)) rfl C_are_rows.g C_are_rows.kp C_are_rows.b .nil pass0 (pa_cons (pv 2) pa_nil)))) (pw_or1 (pt_cmpR op_ne (pe_callB (len_K (K := K) rfl) (by rfl) T.z_len (by decide +kernel) (pa_cons (pv 2) pa_nil)) (pe_callB (len_K (K := K) rfl) (by rfl) T.z_len (by decide +kernel) (pa_cons (pv 1) pa_nil)) (nomark _))))) (pss_one ps_never) pss_nil))))), ?_⟩
    refine q_when (b := false) (et_is (et_or (b := false) (et_not (a := true) (et_B (ev_isi (t := "tuple") (b := true) (ev_var rfl) (ty_tup hm) (by decide +kernel)))) fun _ => et_is (et_ne (ev_lnT (ev_var rfl) hm) ev_c rfl) rfl) rfl) (fun z => nomatch z) fun _ H1 e1 => ?_
    refine q_unpack (ev_var rfl) (ex_t e1 hm) fun H2 e2 => ?_
    have e02 := e1.trans e2
    have ha2 := ex_t e02 ha
    have hb2 := ex_t e02 hb
    refine q_when (b := false) (et_not (a := true) (et_B (ev_callV (ea_cons (ev_var rfl) ea_nil) fun H3 e3 Q' q => ⟨a, fs, rfl, ex_t e3 ha2, ok.l1, ok.l4, ok.f, q⟩))) (fun z => nomatch z) fun _ H3 e3 => ?_
    have ha3 := ex_t e3 ha2
    have hb3 := ex_t e3 hb2
    have hll := ok.ll
    have hl4 := ok.l4
    refine s_when (b := false) (et_is (et_or (b := false) (et_not (a := true) (et_B (ev_callV (ea_cons (ev_var rfl) ea_nil) fun H4 e4 Q' q => ⟨b, rs, rfl, ex_t e4 hb3, ok.r, by omega, q⟩))) fun _ => et_is (et_ne (ev_lnT (ev_var rfl) hb3) (ev_lnT (ev_var rfl) ha3) rfl) (by rw [nV_len, nV_len, hll]; simp)) rfl) (fun z => nomatch z) fun _ H4 e4 => k H4 ((e02.trans e3).trans e4)
def spChkCeOf : Sp := fun vs H Q _ => ∃ (n c : Nat), vs = [.int (n : Nat), .int (c : Nat)] ∧ c < n ∧ ∀ H', Ex H H' → Q .non H'
abbrev s_check_cell_of : Stmt := top 14
theorem sc_check_cell_of : FnScope ["cells", "value"] ["cells", "value"] (defScope s_check_cell_of) := ⟨rfl, rfl, rfl, by decide +kernel, rfl, by decide +kernel, by decide +kernel⟩
theorem ok_check_cell_of {f f1 : Addr} {fd fd1 : FuncData} (F : Fun K "check_cell_of" "check_cell_of" s_check_cell_of f fd) (T : Txt K mg) (C_is_integer : Cal P w K mg base CX0 2 "is_integer" f1 fd1 ["value", "low", "high"] (spIsInt K)) : FnOk P w K mg base CX0 3 f fd ["cells", "value"] spChkCeOf := by
  refine F.ok sc_check_cell_of (fun vs H Q E h => ?_) (fun cdv A outer s H vs Q E hr h => ?_)
  · obtain ⟨_, _, rfl, _⟩ := h
    rfl
  · obtain ⟨n, c, rfl, hc, k⟩ := h
    refine ⟨_, (pss_one (ps_if (pt_not (pt_val (pe_call C_is_integer.G (hr.mono (by first | decide | omega)) rfl C_is_integer.g C_is_integer.kp C_is_integer.b .nil pass0 (pa_cons (pv 1) (pa_cons pe_int (pa_cons (pe_op op_sub (pv 0) pe_int) pa_nil)))))) (pss_one ps_never) pss_nil)), ?_⟩
    refine s_when (b := false) (et_not (a := true) (et_B (ev_callV (ea_cons (ev_var rfl) (ea_cons ev_c (ea_cons (ev_i0 (ev_var rfl) ev_c) ea_nil))) fun H1 e1 Q' q => ⟨_, 0, (n : Int) - 1, some (c : Int), rfl, rfl, fun H2 e2 => by
      have : inRange (some (c : Int)) 0 ((n : Int) - 1) = true := by
        simp only [inRange, Bool.and_eq_true, decide_eq_true_eq]
        omega
      rw [this]
      exact q H2 e2⟩))) (fun z => nomatch z) fun _ H1 e1 => k H1 e1
abbrev s_check_cell : Stmt := top 15
theorem sc_check_cell : FnScope ["machine", "value"] ["machine", "value"] (defScope s_check_cell) := ⟨rfl, rfl, rfl, by decide +kernel, rfl, by decide +kernel, by decide +kernel⟩
--TY check_cell {'machine':('tuple',T)}
theorem ok_check_cell {f f1 : Addr} {fd fd1 : FuncData} (F : Fun K "check_cell" "check_cell" s_check_cell f fd) (T : Txt K mg) (C_check_cell_of : Cal P w K mg base CX0 3 "check_cell_of" f1 fd1 ["cells", "value"] spChkCeOf) : FnOk P w K mg base CX0 4 f fd ["machine", "value"] (spChkCe K) := by
  refine F.ok sc_check_cell (fun vs H Q E h => ?_) (fun cdv A outer s H vs Q E hr h => ?_)
  · obtain ⟨_, _, _, _, rfl, _⟩ := h
    rfl
  · obtain ⟨m, fs, rs, c, rfl, ⟨a, b, hm, ha, hb⟩, ok, hc, k⟩ := h
    refine ⟨_, (pss_one (ps_expr (pe_call C_check_cell_of.G (hr.mono (by first | decide | omega)) rfl C_check_cell_of.g C_check_cell_of.kp C_check_cell_of.b .nil pass0 (pa_cons (pe_callB (len_K (K := K) rfl) (by rfl) T.z_len (by decide +kernel) (pa_cons (pe_ix (ix_K (K := K) rfl) (pv 0) pe_int (fun _ _ => rfl)) pa_nil)) (pa_cons (pv 1) pa_nil))))), ?_⟩
    have hll := ok.ll
    refine s_call (ea_cons (ev_lnT (ev_ixT (ev_var rfl) ev_c hm rfl) ha) (ea_cons (ev_var rfl) ea_nil)) fun H1 e1 => ⟨(nV fs).length, c, rfl, by rw [nV_len]; omega, fun H2 e2 => k H2 (e1.trans e2)⟩
def spBeh (K : PySem.W.Frag) (g : List Nat → List Nat → List Nat → Nat → List Nat) : Sp := fun vs H Q _ => ∃ (m l : Addr) (fs rs ls : List Nat) (c : Nat), vs = [.ref m, .ref l, .int (c : Nat)] ∧ MaT K H m fs rs ∧ MaOk fs rs ∧ SqT K H l (nV ls) ∧ LiOk fs ls ∧ c < rs.length ∧
  ∀ b H', H b = none → Ex H H' → H' b = some (.tup (nV (g fs rs ls c))) → Q (.ref b) H'
def spBehW (K : PySem.W.Frag) : Sp := fun vs H Q _ => ∃ (m l : Addr) (fs rs ls : List Nat), vs = [.ref m, .ref l] ∧ MaT K H m fs rs ∧ MaOk fs rs ∧ SqT K H l (nV ls) ∧ LiOk fs ls ∧
  ∀ b H', H b = none → Ex H H' → H' b = some (.tup (nV (waitL ls))) → Q (.ref b) H'
end
end Fm
set_option Elab.async false
set_option linter.all false
set_option maxRecDepth 100000
set_option maxHeartbeats 1000000
namespace Fm
open PySem L2 Evl RZ
/-- a touch (or a reading), a setting, any other deed -/
inductive Kd where
  | touch | set | wait
def Kd.near : Kd → Bool
  | .wait => false
  | _ => true
def Kd.isSet : Kd → Bool
  | .set => true
  | _ => false
def bhL (kd : Kd) (fs rs ls : List Nat) (c : Nat) : List Nat := match kd with
  | .touch => touchL fs rs ls c
  | .set => setL fs rs ls c
  | .wait => waitL ls
def bhC (kd : Kd) (rs : List Nat) (y c i : Nat) : Bool := (kd.near && decide (rs.getD i 0 = rs.getD c 0) && decide (y > 0)) || (kd.isSet && decide (i = c))
def bh (kd : Kd) (fs rs ls : List Nat) (c i : Nat) : Nat := if bhC kd rs (ls.getD i 0) c i then fs.getD i 0 else ls.getD i 0 - 1
theorem tch_bh (fs rs ls : List Nat) (c i : Nat) : tch fs rs ls c i = bh .touch fs rs ls c i := by
  unfold tch bh bhC Kd.near Kd.isSet
  generalize ls.getD i 0 = y
  generalize rs.getD i 0 = r1
  generalize rs.getD c 0 = r2
  by_cases h : y = 0
  · subst h
    simp
  · rw [if_neg h]
    have : y > 0 := by omega
    by_cases hr : r1 = r2
    · simp [hr, this]
    · simp [hr]
theorem bhL_eq (kd : Kd) (fs rs ls : List Nat) (c : Nat) : bhL kd fs rs ls c = (List.range ls.length).map (bh kd fs rs ls c) := by
  cases kd with
  | touch =>
    unfold bhL touchL
    exact List.map_congr_left fun i _ => tch_bh fs rs ls c i
  | set =>
    show setL fs rs ls c = _
    unfold setL touchL
    refine List.ext_getElem? fun i => ?_
    rw [List.getElem?_map, List.getElem?_set]
    by_cases hi : i < ls.length
    · have hr : (List.range ls.length)[i]? = some i := List.getElem?_range hi
      by_cases hc : c = i
      · subst hc
        rw [if_pos rfl, if_pos (by rw [List.length_map, List.length_range]; exact hi), hr]
        show some _ = some _
        congr 1
        unfold bh bhC Kd.near Kd.isSet
        simp
      · rw [if_neg hc, List.getElem?_map, hr]
        show some _ = some _
        congr 1
        rw [tch_bh]
        unfold bh bhC Kd.near Kd.isSet
        have : decide (i = c) = false := decide_eq_false fun z => hc z.symm
        simp [this]
    · have hr : (List.range ls.length)[i]? = none := List.getElem?_eq_none (by rw [List.length_range]; omega)
      rw [hr]
      by_cases hc : c = i
      · subst hc
        rw [if_pos rfl, if_neg (by rw [List.length_map, List.length_range]; exact hi)]
        rfl
      · rw [if_neg hc, List.getElem?_map, hr]
        rfl
  | wait =>
    show waitL ls = _
    unfold waitL
    refine List.ext_getElem? fun i => ?_
    rw [List.getElem?_map, List.getElem?_map]
    by_cases hi : i < ls.length
    · rw [List.getElem?_range hi, List.getElem?_eq_getElem hi]
      show some _ = some _
      congr 1
      have hg : ls.getD i 0 = ls[i] := by rw [List.getD_eq_getElem?_getD, List.getElem?_eq_getElem hi]; rfl
      unfold bh
      rw [hg]
      rfl
    · rw [List.getElem?_eq_none (by omega), List.getElem?_eq_none (by rw [List.length_range]; omega)]
      rfl
abbrev W5 : List V := [.str "get", .str "set", .str "plus", .str "minus", .str "touch"]
def KdOk (kd : Kd) (wd : Str) (cv : V) (c n : Nat) : Prop := inV (.str wd) W5 = kd.near ∧ decide (V.str wd = .str "set") = kd.isSet ∧ (kd.near = true → cv = .int (c : Nat) ∧ c < n)
def spLBeh (K : PySem.W.Frag) : Sp := fun vs H Q _ => ∃ (m l : Addr) (fs rs ls : List Nat) (wd : Str) (cv : V) (kd : Kd) (c : Nat), vs = [.ref m, .ref l, .str wd, cv] ∧ MaT K H m fs rs ∧ SqT K H l (nV ls) ∧ fs.length = rs.length ∧ ls.length = rs.length ∧ rs.length ≤ 10 ∧ KdOk kd wd cv c rs.length ∧
  ∀ b H', H b = none → Ex H H' → H' b = some (.tup (nV (bhL kd fs rs ls c))) → Q (.ref b) H'
section
variable {K : PySem.W.Frag} {σ : L2.St} {H : Hp} {ta tb te : TE}
theorem ev_max2 {i j : Int} (ha : Ev ta σ H (.int i)) (hb : Ev tb σ H (.int j)) : Ev (tCB (fun vs H Q => ∃ i j, vs = [.int i, .int j] ∧ Q (.int (if i < j then j else i)) H) (tCons ta (tCons tb tNil))) σ H (.int (if i < j then j else i)) := fun H1 e Q q =>
  ha H1 e _ fun H2 e2 => hb H2 (e.trans e2) _ fun H3 e3 => ⟨i, j, rfl, q H3 (e2.trans e3)⟩
end
section
variable {P : Program} {w : World} {K : PySem.W.Frag} {mg : Str → Option Value} {base : Heap}
abbrev s_law_behind : Stmt := top 26
theorem sc_law_behind : FnScope ["machine", "lives", "word", "cell", "found", "own", "left", "near"] ["machine", "lives", "word", "cell"] (defScope s_law_behind) := ⟨rfl, rfl, rfl, by decide +kernel, rfl, by decide +kernel, by decide +kernel⟩
--TY _law_behind {'lives':T,'machine':('tuple',('tuple','int')),'found':L,'left':'int','own':'int','word':'str','cell':'int','near':'bool'}
theorem ok_lbehind {f : Addr} {fd : FuncData} (F : Fun K "_law_behind" "_law_behind" s_law_behind f fd) (T : Txt K mg) : FnOk P w K mg base CX0 1 f fd ["machine", "lives", "word", "cell"] (spLBeh K) := by
  refine F.ok sc_law_behind (fun vs H Q E h => ?_) (fun cdv A outer s H vs Q E hr h => ?_)
  · obtain ⟨_, _, _, _, _, _, _, _, _, rfl, _⟩ := h
    rfl
  · obtain ⟨m, l, fs, rs, ls, wd, cv, kd, c, rfl, ⟨a, b, hm, ha, hb⟩, hl, hf, hls, hz, ⟨k1, k2, k3⟩, k⟩ := h
    refine ⟨_, (pss_cons (ps_set (i := 4) sc_law_behind.nd rfl (Or.inl rfl) (pe_lst pa_nil))
  (pss_cons (ps_for PassesOwn.never rfl (pi_enumT (by rfl) T.z_enumerate (pa_cons (pv 1) pa_nil)) (pg_tup rfl (pgs_cons (pg_name (i := 5) sc_law_behind.nd rfl (by first | exact Or.inl rfl | exact Or.inr rfl)) (pgs_cons (pg_name (i := 6) sc_law_behind.nd rfl (by first | exact Or.inl rfl | exact Or.inr rfl)) pgs_nil))) (pss_cons (ps_set (i := 7) sc_law_behind.nd rfl (Or.inl rfl) (pe_and (pe_cmpR (in_K (K := K) rfl) (pv 2) (pe_lst (pa_cons pe_str (pa_cons pe_str (pa_cons pe_str (pa_cons pe_str (pa_cons pe_str pa_nil)))))) (by rfl)) (pe_one (pe_cmpR op_eq (pe_ix (ix_K (K := K) rfl) (pe_ix (ix_K (K := K) rfl) (pv 0) pe_int (fun _ _ => rfl)) (pv 5) (fun _ _ => rfl)) (pe_ix (ix_K (K := K) rfl) (pe_ix (ix_K (K := K) rfl) (pv 0) pe_int (fun _ _ => rfl)) (pv 3) (fun _ _ => rfl)) (nomark _)))))
  (pss_one (ps_expr (pe_bm PySem.F.plainAttrs_list PySem.F.slot_list_append PySem.F.type_list_append mt_append (pv 4) (pa_cons (pe_ifExp (PW.pt (pw_or (PW.pt (pw_and (pt_val (pv 7)) (pw_and1 (pt_cmpR op_gt (pv 6) pe_int (nomark _))))) (pw_or1 (PW.pt (pw_and (pt_cmpR op_eq (pv 2) pe_str (nomark _)) (pw_and1 (pt_cmpR op_eq (pv 5) (pv 3) (nomark _)))))))) (pe_ix (ix_K (K := K) rfl) (pe_ix (ix_K (K := K) rfl) (pv 0) pe_int (fun _ _ => rfl)) (pv 5) (fun _ _ => rfl)) (pe_callB (call_max2 rfl) (by rfl) T.z_max (by decide +kernel) (pa_cons pe_int (pa_cons (pe_op op_sub (pv 6) pe_int) pa_nil)))) pa_nil))))))
  (pss_one (ps_ret (pe_callTy (tpl_K (K := K) rfl) (by rfl) T.z_tuple (by decide +kernel) (pa_cons (pv 4) pa_nil)))))), ?_⟩
    refine q_asgL (xs := nV []) (el_lst ea_nil (Nat.zero_le _)) fun d H1 hd e1 hd1 => ?_
    refine q_forET (xs := nV ls) (ev_var rfl) (ex_t e1 hl) (fun i σ H' => ∃ z5 z6 z7 : Option V, Ex H H' ∧ H' d = some (.lst (nV ((List.range i).map (bh kd fs rs ls c)))) ∧ σ = [some (.ref m), some (.ref l), some (.str wd), some cv, some (.ref d), z5, z6, z7])
      (fun H2 e2 => ⟨_, _, _, e1.trans e2, e2 _ _ hd1, rfl⟩) (fun i σ H' _ ⟨_, _, _, e, _⟩ => ex_t e hl) ?_ ?_
    · rintro i x σ H2 hi ⟨z5, z6, z7, e2, hd2, rfl⟩ H3 e3
      obtain ⟨y, hy, rfl⟩ := nV_get hi
      have hil : i < ls.length := (List.getElem?_eq_some_iff.mp hy).1
      have hyd : ls.getD i 0 = y := by rw [List.getD_eq_getElem?_getD, hy]; rfl
      have e03 := e2.trans e3
      have hm3 := ex_t e03 hm
      have ha3 := ex_t e03 ha
      have hb3 := ex_t e03 hb
      refine q_asg (v := .bl (kd.near && decide (rs.getD i 0 = rs.getD c 0))) (ev_andV (by rw [← k1]; exact ev_opL (ev_var rfl) (el_lst (ea_cons ev_c (ea_cons ev_c (ea_cons ev_c (ea_cons ev_c (ea_cons ev_c ea_nil))))) (by decide)) fun _ _ h _ => rv_isL (sq_of h) rfl rfl) fun hn => ?_) fun H4 e4 => ?_
      · obtain ⟨rfl, hc⟩ := k3 hn
        refine ev_is (ev_op (ev_ixT (ev_ixT (ev_var rfl) ev_c hm3 rfl) (ev_var rfl) hb3 (nV_at (by omega))) (ev_ixT (ev_ixT (ev_var rfl) ev_c hm3 rfl) (ev_var rfl) hb3 (nV_at hc)) (rv_eq rfl)) ?_
        congr 1
        by_cases h : rs.getD i 0 = rs.getD c 0
        · rw [h]; simp
        · rw [decide_eq_false h, decide_eq_false fun z => h (by have := V.int.inj z; omega)]
      have hd4 := (e3.trans e4) _ _ hd2
      have hval : Ev (tIf (tOr (tAnd (tB (tVar 7)) (tTest (tOp (rI0 fun i j => .bl (decide (i > j))) (tVar 6) (tC (.int 0))))) (tAnd (tTest (tOp rEq (tVar 2) (tC (.str "set")))) (tTest (tOp rEq (tVar 5) (tVar 3))))) (tOp (rIx K) (tOp (rIx K) (tVar 0) (tC (.int 0))) (tVar 5)) (tCB (fun vs H Q => ∃ i j, vs = [.int i, .int j] ∧ Q (.int (if i < j then j else i)) H) (tCons (tC (.int 0)) (tCons (tOp (rI0 fun i j => .int (i - j)) (tVar 6) (tC (.int 1))) tNil))))
          [some (.ref m), some (.ref l), some (.str wd), some cv, some (.ref d), some (.int (i : Int)), some (.int (y : Nat)), some (.bl (kd.near && decide (rs.getD i 0 = rs.getD c 0)))] H4 (.int (bh kd fs rs ls c i : Nat)) := by
        have hbc : bhC kd rs y c i = (((kd.near && decide (rs.getD i 0 = rs.getD c 0)) && decide ((y : Int) > 0)) || (kd.isSet && decide (i = c))) := by
          unfold bhC
          have : decide (y > 0) = decide ((y : Int) > 0) := by
            by_cases h : y > 0
            · rw [decide_eq_true h, decide_eq_true (by omega)]
            · rw [decide_eq_false h, decide_eq_false (by omega)]
          rw [this]
        refine ev_if (b := bhC kd rs y c i) (et_is (et_or (et_and (et_B (ev_var rfl)) fun _ => et_i0 (ev_var rfl) ev_c) fun _ => et_and (et_is (et_eq (ev_var rfl) ev_c rfl) k2) fun hs => ?_) hbc.symm) (fun hb => ?_) (fun hb => ?_)
        · have hn : kd.near = true := by cases kd <;> simp [Kd.isSet] at hs <;> rfl
          obtain ⟨rfl, hc⟩ := k3 hn
          refine et_is (et_eq (ev_var rfl) (ev_var rfl) rfl) ?_
          by_cases h : i = c
          · rw [h]; simp
          · rw [decide_eq_false h, decide_eq_false fun z => h (by have := V.int.inj z; omega)]
        · have : bh kd fs rs ls c i = fs.getD i 0 := by unfold bh; rw [hyd, if_pos hb]
          rw [this]
          exact ev_ixT (ev_ixT (ev_var rfl) ev_c (ex_t e4 hm3) rfl) (ev_var rfl) (ex_t e4 ha3) (nV_at (by omega))
        · have : bh kd fs rs ls c i = y - 1 := by unfold bh; rw [hyd, if_neg (by rw [hb]; exact fun z => nomatch z)]
          rw [this]
          have h2 : ((y - 1 : Nat) : Int) = (if (0 : Int) < (y : Int) - 1 then (y : Int) - 1 else 0) := by split <;> omega
          rw [h2]
          exact ev_max2 ev_c (ev_i0 (ev_var rfl) ev_c)
      refine s_app hd4 (ev_var rfl) hval (by rw [nV_len, List.length_map, List.length_range]; omega) fun H5 e5 => ?_
      refine ⟨_, _, _, Ex.mut ((e03.trans e4).trans e5) hd, ?_, rfl⟩
      rw [upd_same, List.range_succ, List.map_append, nV_app]
      rfl
    · rintro σ H2 ⟨z5, z6, z7, e2, hd2, rfl⟩
      rw [nV_len, ← bhL_eq] at hd2
      exact s_retU (eu_tpl (ev_var rfl) (sq_of hd2)) fun q H3 hq e3 h3 => k q H3 (fresh_back e2 hq) (e2.trans e3) h3
end
end Fm
set_option Elab.async false
set_option linter.all false
set_option maxRecDepth 100000
set_option maxHeartbeats 1000000
namespace Fm
open PySem L2
def spTaken (K : PySem.W.Frag) : Sp := fun vs H Q _ => ∃ (r s : Addr) (ns : List Int) (a b c many : Int), vs = [.ref r, .int many] ∧ H r = some (.lst [.ref s, .int a, .int b, .int c]) ∧ SqL K H s (ns.map V.int) ∧ 0 ≤ a ∧ 0 < many ∧ many < 1000000 ∧
  ∀ n a' b' c', 0 ≤ n → n < many → 0 ≤ a' → Q (.int n) (upd H r (.lst [.ref s, .int a', .int b', .int c']))
section
variable {P : Program} {w : World} {K : PySem.W.Frag} {mg : Str → Option Value} {base : Heap}
abbrev s_law_taken : Stmt := top 23
theorem sc_law_taken : FnScope ["row", "many", "found", "cell"] ["row", "many"] (defScope s_law_taken) := ⟨rfl, rfl, rfl, by decide +kernel, rfl, by decide +kernel, by decide +kernel⟩
--TY _law_taken {'row':('list','any'),'cell':'int','found':'int','many':'int'}
theorem fmod_lo {a b : Int} (h : 0 < b) : 0 ≤ a.fmod b := Int.fmod_nonneg_of_pos a h
theorem fmod_hi {a b : Int} (h : 0 < b) : a.fmod b < b := Int.fmod_lt_of_pos a h
theorem row_ne {H : Hp} {r s s' : Addr} {a b c : Int} {ns : List Int} (h1 : H r = some (.lst [.ref s', .int a, .int b, .int c])) (h : Rd H s (.lst (ns.map V.int))) : r ≠ s := fun z => by
  subst z
  rcases h with h | ⟨u, h⟩
  · rw [h1] at h
    cases ns with
    | nil => cases h
    | cons n ns => cases h
  · rw [h1] at h
    cases h
theorem SqL_upd {H : Hp} {r s s' : Addr} {o : HO} {a b c : Int} {ns : List Int} (h1 : H r = some (.lst [.ref s', .int a, .int b, .int c])) (h : SqL K H s (ns.map V.int)) : SqL K (upd H r o) s (ns.map V.int) := by
  rcases h with h | h
  · have ne := row_ne h1 h
    rcases h with h | ⟨u, h⟩
    · exact .inl (.inl (by rw [upd_ne (Ne.symm ne)]; exact h))
    · exact .inl (.inr ⟨u, by rw [upd_ne (Ne.symm ne)]; exact h⟩)
  · exact .inr h
theorem ok_taken {f : Addr} {fd : FuncData} (F : Fun K "_law_taken" "_law_taken" s_law_taken f fd) (T : Txt K mg) : FnOk P w K mg base CX0 1 f fd ["row", "many"] (spTaken K) := by
  refine F.ok sc_law_taken (fun vs H Q E h => ?_) (fun cdv A outer s H vs Q E hr h => ?_)
  · obtain ⟨_, _, _, _, _, _, _, rfl, _⟩ := h
    rfl
  · obtain ⟨r, s, ns, a, b, c, many, rfl, h1, hs, ha, hm, hm2, k⟩ := h
    refine ⟨_, (pss_cons (ps_if (pt_cmpR op_gt (pe_ix (ix_K (K := K) rfl) (pv 0) pe_int (fun _ _ => rfl)) pe_int (nomark _)) (pss_cons (ps_set (i := 2) sc_law_taken.nd rfl (Or.inl rfl) (pe_op op_modN (pe_callTy call_int1 (by rfl) T.z_int (by decide +kernel) (pa_cons (pe_ix (ix_K (K := K) rfl) (pv 0) pe_int (fun _ _ => rfl)) pa_nil)) (pv 1)))
  (pss_cons (ps_asg (pe_op op_fdivN (pe_ix (ix_K (K := K) rfl) (pv 0) pe_int (fun _ _ => rfl)) (pv 1)) (pg_sub (pv 0) pe_int set_list))
  (pss_one (ps_ret (pv 2))))) pss_nil)
  (pss_cons (ps_asg (pe_op op_add (pe_ix (ix_K (K := K) rfl) (pv 0) pe_int (fun _ _ => rfl)) pe_int) (pg_sub (pv 0) pe_int set_list))
  (pss_cons (ps_if (pt_cmpR op_gt (pe_ix (ix_K (K := K) rfl) (pv 0) pe_int (fun _ _ => rfl)) (pe_callB (len_K (K := K) rfl) (by rfl) T.z_len (by decide +kernel) (pa_cons (pe_ix (ix_K (K := K) rfl) (pv 0) pe_int (fun _ _ => rfl)) pa_nil)) (nomark _)) (pss_cons (ps_asg (pe_op op_modN (pe_callTy call_int1 (by rfl) T.z_int (by decide +kernel) (pa_cons (pe_op op_add (pe_op op_mul (pe_ix (ix_K (K := K) rfl) (pv 0) pe_int (fun _ _ => rfl)) pe_int) pe_int) pa_nil)) pe_int) (pg_sub (pv 0) pe_int set_list))
  (pss_one (ps_ret (pe_op op_modN (pe_callTy call_int1 (by rfl) T.z_int (by decide +kernel) (pa_cons (pe_op op_fdivN (pe_ix (ix_K (K := K) rfl) (pv 0) pe_int (fun _ _ => rfl)) pe_int) pa_nil)) (pv 1))))) pss_nil)
  (pss_cons (ps_set (i := 3) sc_law_taken.nd rfl (Or.inl rfl) (pe_ix (ix_K (K := K) rfl) (pe_ix (ix_K (K := K) rfl) (pv 0) pe_int (fun _ _ => rfl)) (pe_op op_sub (pe_ix (ix_K (K := K) rfl) (pv 0) pe_int (fun _ _ => rfl)) pe_int) (fun _ _ => rfl)))
  (pss_cons (ps_asg (pe_op op_modN (pe_callTy call_int1 (by rfl) T.z_int (by decide +kernel) (pa_cons (pe_op op_add (pe_op op_add (pe_op op_mul (pe_ix (ix_K (K := K) rfl) (pv 0) pe_int (fun _ _ => rfl)) pe_int) (pv 3)) pe_int) pa_nil)) pe_int) (pg_sub (pv 0) pe_int set_list))
  (pss_cons (ps_if (pt_cmpR op_ge (pv 3) (pe_op op_pow pe_int pe_int) (nomark _)) (pss_one (ps_asg (pe_op op_fdivN (pv 3) (pv 1)) (pg_sub (pv 0) pe_int set_list))) pss_nil)
  (pss_one (ps_ret (pe_op op_modN (pe_callTy call_int1 (by rfl) T.z_int (by decide +kernel) (pa_cons (pv 3) pa_nil)) (pv 1)))))))))), ?_⟩
    have nz : many ≠ 0 := by omega
    have hq := SqL.of (K := K) h1
    refine st_seq (st_if (ans_i0 (val_ixL (val_var rfl) val_c hq rfl) val_c) (fun hc => ?_) (fun hc => ?_))
    · -- a rest
      refine st_asg (val_i (val_int1 (val_ixL (val_var rfl) val_c hq rfl)) (val_var rfl) nz) ?_
      refine st_setL (val_i (val_ixL (val_var rfl) val_c hq rfl) (val_var rfl) ⟨nz, by omega⟩) (val_var rfl) val_c h1 rfl ?_
      refine st_ret (val_var rfl) ?_
      exact k _ _ _ _ (fmod_lo hm) (fmod_hi hm) ha
    · refine st_setL (val_i0 (val_ixL (val_var rfl) val_c hq rfl) val_c) (val_var rfl) val_c h1 rfl ?_
      have hq1 := SqL.of (K := K) (upd_same (H := H) (a := r) (o := .lst ([.ref s, .int a, .int b, .int c].set 1 (.int (a + 1)))))
      have hs1 := SqL_upd (K := K) (o := .lst ([.ref s, .int a, .int b, .int c].set 1 (.int (a + 1)))) h1 hs
      refine st_seq (st_if (ans_i0 (val_ixL (val_var rfl) val_c hq1 rfl) (val_lenX (val_ixL (val_var rfl) val_c hq1 rfl) (.inl ⟨_, hs1, rfl⟩))) (fun hc => ?_) (fun hc => ?_))
      · refine st_setL (val_i (val_int1 (val_i0 (val_i (val_ixL (val_var rfl) val_c hq1 rfl) val_c (.inr ⟨by decide, by decide⟩)) val_c)) val_c (by decide)) (val_var rfl) val_c upd_same rfl ?_
        rw [upd_upd]
        refine st_ret (val_i (val_int1 (val_i (val_ixL (val_var rfl) val_c (SqL.of upd_same) rfl) val_c ⟨by decide, by decide⟩)) (val_var rfl) nz) ?_
        exact k _ _ _ _ (fmod_lo hm) (fmod_hi hm) (by omega)
      · have hlt : a < (ns.length : Int) := by
          have := of_decide_eq_false hc
          rw [List.length_map] at this
          omega
        have e1 : atI (ns.map V.int) (a + 1 - 1) = some (.int (ns[a.toNat]'(by omega))) := by
          have : a + 1 - 1 = a := by omega
          rw [this]
          unfold atI ixN
          rw [if_pos ha, if_pos (by rw [List.length_map]; exact hlt)]
          simp
        refine st_asg (val_ixL (val_ixL (val_var rfl) val_c hq1 rfl) (val_i0 (val_ixL (val_var rfl) val_c hq1 rfl) val_c) hs1 e1) ?_
        refine st_setL (val_i (val_int1 (val_i0 (val_i0 (val_i (val_ixL (val_var rfl) val_c hq1 rfl) val_c (.inr ⟨by decide, by decide⟩)) (val_var rfl)) val_c)) val_c (by decide)) (val_var rfl) val_c upd_same rfl ?_
        rw [upd_upd]
        refine st_seq (st_if (ans_i0 (val_var rfl) (val_i val_c val_c ⟨by decide, by decide, by decide⟩)) (fun hc => ?_) (fun hc => ?_))
        · refine st_setL1 (val_i (val_var rfl) (val_var rfl) ⟨nz, by omega⟩) (val_var rfl) val_c upd_same rfl ?_
          rw [upd_upd]
          dsimp only
          refine st_ret (val_i (val_int1 (val_var rfl)) (val_var rfl) nz) ?_
          exact k _ _ _ _ (fmod_lo hm) (fmod_hi hm) (by omega)
        · refine st_next ?_
          dsimp only
          refine st_ret (val_i (val_int1 (val_var rfl)) (val_var rfl) nz) ?_
          exact k _ _ _ _ (fmod_lo hm) (fmod_hi hm) (by omega)
end
end Fm
set_option Elab.async false
set_option linter.all false
set_option maxRecDepth 100000
set_option maxHeartbeats 1000000
namespace Fm
open PySem L2 Evl
/-- the heap without r -/
def rem (H : Hp) (r : Addr) : Hp := fun b => if b = r then none else H b
theorem rem_ne {H : Hp} {r b : Addr} (h : b ≠ r) : rem H r b = H b := if_neg h
theorem rem_eq {H : Hp} {r : Addr} : rem H r r = none := if_pos rfl
theorem rem_ex {H : Hp} {r : Addr} : Ex (rem H r) H := fun b o h => by
  by_cases z : b = r
  · rw [z, rem_eq] at h; cases h
  · rwa [rem_ne z] at h
/-- what stands in H0, where r does not, stands behind a change of r -/
theorem Ex.past {H0 H1 H2 : Hp} {r : Addr} (e : Ex H0 H1) (h : H0 r = none) (e' : Ex (rem H1 r) H2) : Ex H0 H2 := fun b o hb => e' b o (by
  rw [rem_ne (fun z => by rw [z, h] at hb; cases hb)]
  exact e b o hb)
section
variable {K : PySem.W.Frag} {H H' : Hp} {r s a l : Addr} {xs ys : List V} {ns : List Int}
theorem sqT_rem (hr : H r = some (.lst ys)) (h : SqT K H a xs) : SqT K (rem H r) a xs := by
  have ne : ∀ o, H a = some o → o ≠ .lst ys → a ≠ r := fun o h1 h2 z => by
    rw [z, hr] at h1
    exact h2 (Option.some.inj h1).symm
  rcases h with (h | ⟨u, h⟩) | h
  · exact .inl (.inl (by rw [rem_ne (ne _ h (fun z => nomatch z))]; exact h))
  · exact .inl (.inr ⟨u, by rw [rem_ne (ne _ h (fun z => nomatch z))]; exact h⟩)
  · exact .inr h
theorem sqL_rem (hr : s ≠ r) (h : SqL K H s xs) : SqL K (rem H r) s xs := by
  rcases h with (h | ⟨u, h⟩) | h
  · exact .inl (.inl (by rw [rem_ne hr]; exact h))
  · exact .inl (.inr ⟨u, by rw [rem_ne hr]; exact h⟩)
  · exact .inr h
theorem sqT_upd {zs : List V} (hr : H r = some (.lst ys)) (h : SqT K H a xs) : SqT K (upd H r (.lst zs)) a xs := by
  have h2 := sqT_rem hr h
  exact ex_t (fun b o hb => by
    by_cases z : b = r
    · rw [z, rem_eq] at hb; cases hb
    · rw [rem_ne z] at hb
      rw [upd_ne z]
      exact hb) h2
theorem inAt_rem {v : V} {i : In} (hr : H r = some (.lst ys)) (h : InAt K H v i) : InAt K (rem H r) v i := let ⟨b, h1, h2⟩ := h; ⟨b, h1, sqT_rem hr h2⟩
theorem inAt_upd {v : V} {i : In} {zs : List V} (hr : H r = some (.lst ys)) (h : InAt K H v i) : InAt K (upd H r (.lst zs)) v i := let ⟨b, h1, h2⟩ := h; ⟨b, h1, sqT_upd hr h2⟩
theorem pg_rem {p : List In} (hr : H r = some (.lst ys)) (h : PgT K H a p) : PgT K (rem H r) a p := let ⟨xs, h1, h2⟩ := h; ⟨xs, sqT_rem hr h1, Paired.mapP h2 fun _ _ z => inAt_rem hr z⟩
def RowC (H : Hp) (r s : Addr) : Prop := ∃ a b c : Int, H r = some (.lst [.ref s, .int a, .int b, .int c]) ∧ 0 ≤ a
/-- the row at r, of the script at s -/
structure RowAt (K : PySem.W.Frag) (H : Hp) (r s : Addr) (ns : List Int) : Prop where
  c : RowC H r s
  q : SqL K H s (ns.map V.int)
theorem RowC.up (e : Ex H H') (h : RowC H r s) : RowC H' r s := let ⟨a, b, c, h1, h2⟩ := h; ⟨a, b, c, e _ _ h1, h2⟩
theorem RowAt.up (e : Ex H H') (h : RowAt K H r s ns) : RowAt K H' r s ns := ⟨h.c.up e, ex_l e h.q⟩
theorem RowAt.qr (h : RowAt K H r s ns) : SqL K (rem H r) s (ns.map V.int) := by
  obtain ⟨⟨a, b, c, h1, _⟩, h | h⟩ := h
  · have ne := row_ne h1 h
    exact sqL_rem ne.symm (.inl h)
  · exact .inr h
theorem RowAt.to (h : RowAt K H r s ns) (e : Ex (rem H r) H') (c : RowC H' r s) : RowAt K H' r s ns := ⟨c, ex_l e h.qr⟩
theorem RowAt.lst (h : RowAt K H r s ns) : ∃ ys, H r = some (.lst ys) := let ⟨_, _, _, h1, _⟩ := h.c; ⟨_, h1⟩
end
def spTak (K : PySem.W.Frag) : Sp := fun vs H Q _ => ∃ (r s : Addr) (ns : List Int) (m : Nat), vs = [.ref r, .int (m : Nat)] ∧ RowAt K H r s ns ∧ 0 < m ∧ m < 1000000 ∧ ∀ (n : Nat) H', n < m → RowAt K H' r s ns → Ex (rem H r) H' → Q (.int (n : Nat)) H'
theorem tak_imp {K : PySem.W.Frag} (vs : List V) (H : Hp) (Q : VK) (E : XK) (h : spTak K vs H Q E) : spTaken K vs H Q E := by
  obtain ⟨r, s, ns, m, rfl, R, h1, h2, k⟩ := h
  have R0 := R
  obtain ⟨⟨a, b, c, hr, ha⟩, hq⟩ := R
  refine ⟨r, s, ns, a, b, c, (m : Int), rfl, hr, hq, ha, by omega, by omega, fun n a' b' c' n0 nm a0 => ?_⟩
  have e : Ex (rem H r) (upd H r (.lst [.ref s, .int a', .int b', .int c'])) := fun x o hx => by
    by_cases z : x = r
    · rw [z, rem_eq] at hx; cases hx
    · rw [rem_ne z] at hx
      rw [upd_ne z]
      exact hx
  have := k n.toNat _ (by omega) (R0.to e ⟨a', b', c', upd_same, a0⟩) e
  rwa [show ((n.toNat : Nat) : Int) = n by omega] at this
section
variable {K : PySem.W.Frag} {σ : L2.St} {H : Hp} {ta tb te : TE} {tr tA : TA} {D : Ends} {tz : TS} {Q : VK} {x : V} {r : R2}
theorem m_op (ha : Ev ta σ H x) (k : ∀ H1, Ex H H1 → tb σ H1 fun y H2 => r x y H2 Q) : tOp r ta tb σ H Q := ha H (Ex.refl H) _ k
theorem m_cons {Q : List V → Hp → Prop} (ha : Ev ta σ H x) (k : ∀ H1, Ex H H1 → tr σ H1 fun xs H2 => Q (x :: xs) H2) : tCons ta tr σ H Q := ha H (Ex.refl H) _ k
theorem m_appQ {l : Addr} {xs : List V} (ha : Ev ta σ H (.ref l)) (hl : H l = some (.lst xs)) (k : ∀ H1, Ex H H1 → te σ H1 fun v H2 => rAppend (.ref l) [v] H2 fun _ H3 => tz D σ H3) : tSeq (tDrop (tBM K "list" rAppend ta (tCons te tNil))) tz D σ H :=
  ha H (Ex.refl H) _ fun H1 e1 => ⟨Or.inl ⟨rfl, xs, sq_of (e1 l _ hl)⟩, k H1 e1⟩
theorem m_call {sp : Sp} {E : XK} {vs : List V} (h : EvA tA σ H vs) (k : ∀ H1, Ex H H1 → sp (vs ++ []) H1 Q E) : tCall sp [] E tA σ H Q := h H (Ex.refl H) _ k
end
def spPick (K : PySem.W.Frag) : Sp := fun vs H Q _ => ∃ (r s t : Addr) (ns : List Int) (xs : List V), vs = [.ref r, .ref t] ∧ RowAt K H r s ns ∧ SqL K H t xs ∧ t ≠ r ∧ 0 < xs.length ∧ xs.length < 1000000 ∧ ∀ x H', x ∈ xs → RowAt K H' r s ns → Ex (rem H r) H' → Q x H'
section
variable {P : Program} {w : World} {K : PySem.W.Frag} {mg : Str → Option Value} {base : Heap}
theorem ok_tak {f : Addr} {fd : FuncData} (F : Fun K "_law_taken" "_law_taken" s_law_taken f fd) (T : Txt K mg) : FnOk P w K mg base CX0 1 f fd ["row", "many"] (spTak K) := (ok_taken F T).imp tak_imp
end
end Fm
set_option Elab.async false
set_option linter.all false
set_option maxRecDepth 100000
set_option maxHeartbeats 1000000
namespace Fm
open PySem L2 Evl RZ L2
def spLMa (K : PySem.W.Frag) : Sp := fun vs H Q _ => ∃ (r s : Addr) (ns : List Int) (mo fd : Nat), vs = [.ref r, .int (mo : Nat), .int (fd : Nat)] ∧ RowAt K H r s ns ∧ 0 < mo ∧ mo ≤ 4 ∧ 0 < fd ∧ fd ≤ 8 ∧
  ∀ m fs rs H', MaT K H' m fs rs → MaOk fs rs → fs.length ≤ mo → RowAt K H' r s ns → Ex (rem H r) H' → Q (.ref m) H'
theorem nm_app (rs : List Nat) (r : Nat) : nm (rs ++ [r]) = max (nm rs) (r + 1) := by
  unfold nm
  rw [List.foldl_append]
  rfl
theorem rowsOk_app {rs : List Nat} {r : Nat} (h : RowsOk rs) (hr : r ≤ nm rs) : RowsOk (rs ++ [r]) := fun i x hx => by
  by_cases hi : i < rs.length
  · rw [List.getElem?_append_left hi] at hx
    rw [List.take_append_of_le_length (Nat.le_of_lt hi)]
    exact h i x hx
  · have : i = rs.length := by
      have := (List.getElem?_eq_some_iff.mp hx).1
      rw [List.length_append, List.length_singleton] at this
      omega
    subst this
    rw [List.getElem?_append_right (Nat.le_refl _), Nat.sub_self] at hx
    cases hx
    rw [List.take_left']
    · exact hr
    · rfl
section
variable {P : Program} {w : World} {K : PySem.W.Frag} {mg : Str → Option Value} {base : Heap}
theorem m_retTup {σ : L2.St} {H : Hp} {D : Ends} {tA : TA} (h : tA σ H fun xs H1 => xs.length ≤ sizeLine ∧ ∀ p, H1 p = none → D.rt (.ref p) (upd H1 p (.tup xs))) : tRet (tTup tA) D σ H := h
theorem m_consTplLc {Q : List V → Hp → Prop} {σ : L2.St} {H : Hp} {te : TE} {tr : TA} (h : te σ H fun x H1 => rTpl K [x] H1 fun y H2 => tr σ H2 fun ys H3 => Q (y :: ys) H3) : tCons (tCB (rTpl K) (tCons te tNil)) tr σ H Q := h
abbrev s_law_machine : Stmt := top 25
theorem sc_law_machine : FnScope ["row", "most", "fade", "many", "rows", "least", "cell"] ["row", "most", "fade"] (defScope s_law_machine) := ⟨rfl, rfl, rfl, by decide +kernel, rfl, by decide +kernel, by decide +kernel⟩
--TY _law_machine {'row':L,'rows':('list','int'),'many':'int','least':'int','cell':'int'}
theorem ok_lmachine {f f1 : Addr} {fd fd1 : FuncData} (F : Fun K "_law_machine" "_law_machine" s_law_machine f fd) (T : Txt K mg) (C_law_taken : Cal P w K mg base CX0 1 "_law_taken" f1 fd1 ["row", "many"] (spTak K)) : FnOk P w K mg base CX0 2 f fd ["row", "most", "fade"] (spLMa K) := by
  refine F.ok sc_law_machine (fun vs H Q E h => ?_) (fun cdv A outer s H vs Q E hr h => ?_)
  · obtain ⟨_, _, _, _, _, rfl, _⟩ := h
    rfl
  · obtain ⟨r, s, ns, mo, fd, rfl, R, hm0, hm4, hf0, hf8, k⟩ := h
    refine ⟨_, (pss_cons (ps_par3 (i := 3) (j := 4) (l := 5) (by rfl) sc_law_machine.nd rfl rfl rfl (by decide) (by decide) (by decide) rfl rfl rfl (pa_cons (pe_op op_add pe_int (pe_call C_law_taken.G (hr.mono (by first | decide | omega)) rfl C_law_taken.g C_law_taken.kp C_law_taken.b .nil pass0 (pa_cons (pv 0) (pa_cons (pv 1) pa_nil)))) (pa_cons (pe_lst pa_nil) (pa_cons pe_int pa_nil))) (by rfl))
  (pss_cons (ps_for PassesOwn.never rfl (pi_range1 rfl T.z_range (pa_cons (pv 3) pa_nil)) (pg_name (i := 6) sc_law_machine.nd rfl (by first | exact Or.inl rfl | exact Or.inr rfl)) (pss_cons (ps_expr (pe_bm PySem.F.plainAttrs_list PySem.F.slot_list_append PySem.F.type_list_append mt_append (pv 4) (pa_cons (pe_call C_law_taken.G (hr.mono (by first | decide | omega)) rfl C_law_taken.g C_law_taken.kp C_law_taken.b .nil pass0 (pa_cons (pv 0) (pa_cons (pe_op op_add (pv 5) pe_int) pa_nil))) pa_nil)))
  (pss_one (ps_set (i := 5) sc_law_machine.nd rfl (Or.inl rfl) (pe_callB (call_max2 rfl) (by rfl) T.z_max (by decide +kernel) (pa_cons (pv 5) (pa_cons (pe_op op_add (pe_ix (ix_K (K := K) rfl) (pv 4) (pe_un un_neg pe_int) (fun _ _ => rfl)) pe_int) pa_nil)))))))
  (pss_one (ps_ret (pe_tup (pa_cons (pe_callTy (tpl_K (K := K) rfl) (by rfl) T.z_tuple (by decide +kernel) (pa_cons (pe_lc (own := [("cell", 6)]) (g := gName 6) rfl sc_law_machine.nd (pi_range1 rfl T.z_range (pa_cons (pv 3) pa_nil)) (blkOk_by (by kernel_rfl)) (fun _ _ _ _ _ => pg_name (i := 6) sc_law_machine.nd rfl (by first | exact Or.inl rfl | exact Or.inr rfl)) (fun _ _ _ _ _ => pts_nil) (fun _ _ _ _ _ => (pe_op op_add pe_int (pe_call C_law_taken.G (hr.mono (by first | decide | omega)) rfl C_law_taken.g C_law_taken.kp C_law_taken.b .nil pass0 (pa_cons (pv 0) (pa_cons (pv 2) pa_nil)))))) pa_nil)) (pa_cons (pe_callTy (tpl_K (K := K) rfl) (by rfl) T.z_tuple (by decide +kernel) (pa_cons (pv 4) pa_nil)) pa_nil))))))), ?_⟩
    refine m_op ev_c fun H1 e1 => m_call (ea_cons (ev_var rfl) (ea_cons (ev_var rfl) ea_nil)) fun H2 e2 => ?_
    refine ⟨r, s, ns, mo, rfl, R.up (e1.trans e2), hm0, by omega, fun n H3 hn R3 e3 => ?_⟩
    have e03 : Ex (rem H r) H3 := Ex.past (rem_ex.trans (e1.trans e2)) rem_eq e3
    refine ⟨_, _, rfl, rfl, Nat.zero_le _, fun l hl => ?_⟩
    have hlr : l ≠ r := by
      obtain ⟨ys, hys⟩ := R3.lst
      exact (ne_of_none hys hl).symm
    have hl0 : rem H r l = none := fresh_back e03 hl
    have hs0 : (1 : Int) + ((n : Nat) : Int) = ((n + 1 : Nat) : Int) := by omega
    refine ⟨.int ((n + 1 : Nat) : Int), .ref l, .int ((0 : Nat) : Int), by rw [← hs0]; rfl, ?_⟩
    dsimp only
    have R4 : RowAt K (upd H3 l (.lst [])) r s ns := R3.up (Ex.new hl)
    refine q_forR1 (n := ((n + 1 : Nat) : Int)) (ea_cons (ev_var rfl) ea_nil) ⟨by omega, by omega⟩
      (fun j σ H' => ∃ (rs : List Nat) (z : Option V), Ex (rem H r) H' ∧ RowC H' r s ∧ H' l = some (.lst (nV rs)) ∧ rs.length = j ∧ RowsOk rs ∧ σ = [some (.ref r), some (.int (mo : Nat)), some (.int (fd : Nat)), some (.int ((n + 1 : Nat) : Int)), some (.ref l), some (.int (nm rs : Nat)), z])
      (fun H4 e4 => ⟨[], _, (Ex.mut e03 hl0).trans e4, R4.c.up e4, e4 _ _ upd_same, rfl, fun i r h => by simp at h, rfl⟩) ?_ ?_
    · rintro j σ H4 hj ⟨rs, z, e4, c4, l4, hrl, hok, rfl⟩
      have R4 := R.to e4 c4
      have hnmb : nm rs ≤ rs.length := by
        have : ∀ (k : Nat), k ≤ rs.length → nm (rs.take k) ≤ k := fun k => by
          induction k with
          | zero => intro _; simp [nm]
          | succ k ih =>
            intro hk
            have h1 := ih (by omega)
            have hx : rs[k]? = some rs[k] := List.getElem?_eq_getElem (by omega)
            have h2 := hok k _ hx
            rw [nm_succ hx]
            omega
        have h := this rs.length (Nat.le_refl _)
        rwa [List.take_length] at h
      refine m_appQ (ev_var rfl) l4 fun H5 e5 => m_call (ea_cons (ev_var rfl) (ea_cons (ev_succ (n := nm rs) (ev_var rfl)) ea_nil)) fun H6 e6 => ?_
      refine ⟨r, s, ns, nm rs + 1, rfl, R4.up (e5.trans e6), by omega, by omega, fun x H7 hx R7 e7 => ?_⟩
      have l7 : H7 l = some (.lst (nV rs)) := e7 _ _ (by rw [rem_ne hlr]; exact (e5.trans e6) _ _ l4)
      refine ⟨l, nV rs, _, rfl, rfl, l7, sz_lt (by rw [nV_len]; omega), ?_⟩
      have e07 : Ex (rem H r) H7 := Ex.past (e4.trans (e5.trans e6)) rem_eq e7
      have e08 : Ex (rem H r) (upd H7 l (.lst (nV rs ++ [.int (x : Nat)]))) := Ex.mut e07 hl0
      have c8 : RowC (upd H7 l (.lst (nV rs ++ [.int (x : Nat)]))) r s := by
        obtain ⟨a', b', c', h1, h2⟩ := R7.c
        exact ⟨a', b', c', by rw [upd_ne hlr.symm]; exact h1, h2⟩
      have l8 : upd H7 l (.lst (nV rs ++ [.int (x : Nat)])) l = some (.lst (nV (rs ++ [x]))) := by rw [upd_same, nV_app]; rfl
      generalize upd H7 l (.lst (nV rs ++ [.int (x : Nat)])) = H8 at e08 c8 l8 ⊢
      have hlast : atI (nV (rs ++ [x])) (-1) = some (.int (x : Nat)) := by
        rw [nV_app]
        unfold atI ixN
        simp [nV]
        rw [if_pos (by omega)]
        show (List.map (fun (x : Nat) => V.int (x : Nat)) rs ++ [V.int (x : Nat)])[(-1 + ((rs.length : Int) + 1)).toNat]? = _
        rw [show (-1 + ((rs.length : Int) + 1)).toNat = rs.length by omega, List.getElem?_append_right (by rw [List.length_map]; exact Nat.le_refl _)]
        simp
      have hmax : ((nm (rs ++ [x]) : Nat) : Int) = (if (nm rs : Int) < (x : Int) + 1 then (x : Int) + 1 else (nm rs : Int)) := by
        rw [nm_app]
        split <;> omega
      refine s_asg (v := .int ((nm (rs ++ [x]) : Nat) : Int)) (by rw [hmax]; exact ev_max2 (ev_var rfl) (ev_i0 (ev_ixL (ev_var rfl) (ev_neg ev_c) (sq_of l8) hlast) ev_c)) fun H9 e9 => ?_
      exact ⟨rs ++ [x], some (.int (j : Int)), e08.trans e9, c8.up e9, e9 _ _ l8, by simp [hrl], rowsOk_app hok (by omega), rfl⟩
    · rintro σ H4 ⟨rs, z, e4, c4, l4, hrl, hok, rfl⟩
      have hrn : rs.length = n + 1 := by rw [hrl]; omega
      have R4 := R.to e4 c4
      -- the fades
      refine m_retTup ?_
      refine m_consTplLc ?_
      refine ⟨_, rfl, ((n + 1 : Nat) : Int), rfl, by omega, by omega, fun D hD => lc_range (lo := 0) (n := n + 1) (fun i H' => ∃ fs : List Nat, Ex (rem H4 r) H' ∧ RowC H' r s ∧ H' D = some (.lst (nV fs)) ∧ fs.length = i ∧ ∀ x ∈ fs, 1 ≤ x ∧ x ≤ fd) ⟨[], rem_ex.trans (Ex.new hD), R4.c.up (Ex.new hD), upd_same, rfl, by simp⟩ ?_ ?_⟩
      · have hDr : D ≠ r := by
          obtain ⟨ys, hys⟩ := R4.lst
          exact (ne_of_none hys hD).symm
        rintro i H5 hi ⟨fs, e5, c5, h5, hfl, hfs⟩
        have R5 := R4.to e5 c5
        refine ⟨rfl, ?_⟩
        refine yes_lc ?_
        rw [if_pos rfl]
        refine m_op ev_c fun H6 e6 => m_call (ea_cons (ev_var rfl) (ea_cons (ev_var rfl) ea_nil)) fun H7 e7 => ?_
        refine ⟨r, s, ns, fd, rfl, R5.up (e6.trans e7), hf0, by omega, fun x H8 hx R8 e8 => ?_⟩
        have h8 : H8 D = some (.lst (nV fs)) := e8 _ _ (by rw [rem_ne hDr]; exact (e6.trans e7) _ _ h5)
        have e48 : Ex (rem H4 r) H8 := Ex.past (e5.trans (e6.trans e7)) rem_eq e8
        refine ⟨_, _, rfl, rfl, nV fs, h8, sz_lt (by rw [nV_len]; omega), fs ++ [x + 1], ?_, ?_, ?_, by simp [hfl], ?_⟩
        · exact Ex.mut e48 (by rw [rem_ne hDr]; exact hD)
        · obtain ⟨a', b', c', h1, h2⟩ := R8.c
          exact ⟨a', b', c', by rw [upd_ne hDr.symm]; exact h1, h2⟩
        · rw [upd_same, nV_app]
          have : (1 : Int) + (x : Int) = ((x + 1 : Nat) : Int) := by omega
          show some (HO.lst (nV fs ++ [V.int ((1 : Int) + (x : Int))])) = _
          rw [this]
          rfl
        · intro y hy
          rcases List.mem_append.mp hy with hy | hy
          · exact hfs y hy
          · rw [List.mem_singleton.mp hy]
            omega
      · rintro H5 ⟨fs, e5, c5, h5, hfl, hfs⟩
        have R5 := R4.to e5 c5
        have l5 : H5 l = some (.lst (nV rs)) := e5 _ _ (by rw [rem_ne hlr]; exact l4)
        refine ⟨D, nV fs, rfl, .inl ⟨sq_of h5, fun a ha => ?_⟩⟩
        have ea := Ex.new (o := .tup (nV fs)) ha
        refine ⟨_, rfl, l, nV rs, rfl, .inl ⟨sq_of (ea _ _ l5), fun b hb => ?_⟩⟩
        have eb := Ex.new (o := .tup (nV rs)) hb
        refine ⟨by show 2 ≤ sizeLine; rw [sizeLine_eq]; decide, fun m hm => ?_⟩
        have em := Ex.new (o := .tup [.ref a, .ref b]) hm
        refine k m fs rs _ ⟨a, b, st_of upd_same, st_of (em _ _ (eb _ _ upd_same)), st_of (em _ _ upd_same)⟩ ⟨by omega, by omega, by omega, fun x hx => ⟨(hfs x hx).1, by have := (hfs x hx).2; omega⟩, hok⟩ (by omega) (R5.up (ea.trans (eb.trans em))) ?_
        exact (Ex.past e4 rem_eq e5).trans (ea.trans (eb.trans em))
end
end Fm
set_option Elab.async false
set_option linter.all false
set_option maxRecDepth 100000
set_option maxHeartbeats 1000000
namespace Fm
open PySem L2 Evl
def oV : Option Nat → V
  | none => .non
  | some j => .int (j : Int)
def plc (p : List In) : List Nat := (List.range (p.length + 1)).map (stE p)
def cnt (pl : List (Option Nat)) : Nat := pl.countP fun o => o.isNone
structure Jp (p : List In) (m : Nat) (pl : List (Option Nat)) : Prop where
  len : pl.length = p.length + 1
  val : ∀ (j v : Nat), pl[j]? = some (some v) → v = stE p j
  low : ∀ j : Nat, j < m → pl[j]? ≠ some none
  last : pl[p.length]? = some (some p.length)
structure Wl (p : List In) (m : Nat) (pl0 pl : List (Option Nat)) (ps : List Nat) (i : Nat) : Prop where
  len : pl.length = p.length + 1
  le : i ≤ p.length
  num : ps.length + cnt pl = cnt pl0
  out : ∀ j : Nat, j ∉ ps → pl[j]? = pl0[j]?
  pth : ∀ x ∈ ps, x ≤ p.length ∧ stE p x = stE p i
  run : (∀ x ∈ ps, pl[x]? = some (some p.length) ∧ Lead p x i) ∨ pl[i]? = some (some (stE p i))
  hd : m ∈ ps ∨ i = m
theorem cnt_set {pl : List (Option Nat)} {i v : Nat} (h : pl[i]? = some none) : cnt (pl.set i (some v)) + 1 = cnt pl := by
  unfold cnt
  induction pl generalizing i with
  | nil => simp at h
  | cons a l ih =>
    cases i with
    | zero =>
      simp at h
      subst h
      simp
    | succ i =>
      have := ih (i := i) (by simpa using h)
      simp only [List.set_cons_succ, List.countP_cons]
      omega
theorem cnt_pos {pl : List (Option Nat)} {i : Nat} (h : pl[i]? = some none) : 0 < cnt pl := by
  have := cnt_set (v := 0) h
  omega
theorem Wl.val {p : List In} {m : Nat} {pl0 pl : List (Option Nat)} {ps : List Nat} {i v : Nat} (W : Wl p m pl0 pl ps i) (J : Jp p m pl0) (h : pl[i]? = some (some v)) : v = stE p i := by
  rcases W.run with r | r
  · by_cases hc : i ∈ ps
    · obtain ⟨h1, h2⟩ := r i hc
      rw [h] at h1
      rw [h2.cyc]
      exact Option.some.inj (Option.some.inj h1)
    · rw [W.out i hc] at h
      exact J.val i v h
  · rw [h] at r
    exact Option.some.inj (Option.some.inj r)
theorem map_set {α β : Type} (f : α → β) (l : List α) (i : Nat) (x : α) : (l.set i x).map f = (l.map f).set i (f x) := List.map_set
def spPlaces (K : PySem.W.Frag) : Sp := fun vs H Q _ => ∃ (a : Addr) (p : List In) (c : Nat), vs = [.ref a] ∧ PgT K H a p ∧ Pok c p ∧ p.length ≤ 4000 ∧ ∀ b H', H b = none → Ex H H' → H' b = some (.tup ((plc p).map fun x => V.int (x : Nat))) → Q (.ref b) H'
section
variable {P : Program} {w : World} {K : PySem.W.Frag} {mg : Str → Option Value} {base : Heap}
end
theorem nV_atS {l : List Nat} {i x : Nat} (h : l[i]? = some x) : atI (nV l) (i : Int) = some (.int (x : Nat)) := atI_nat' (by unfold nV; rw [List.getElem?_map, h]; rfl)
theorem plc_at {p : List In} {i : Nat} (h : i ≤ p.length) : (plc p)[i]? = some (stE p i) := by
  unfold plc
  rw [List.getElem?_map, List.getElem?_range (by omega)]
  rfl
theorem ev_plc {K : PySem.W.Frag} {σ : L2.St} {H : Hp} {ta tb : TE} {b : Addr} {p : List In} {i : Nat} (hb : SqT K H b (nV (plc p))) (h : i ≤ p.length) (ea : Ev ta σ H (.ref b)) (eb : Ev tb σ H (.int (i : Nat))) : Ev (tOp (rIx K) ta tb) σ H (.int (stE p i : Nat)) := ev_ixT ea eb hb (nV_atS (plc_at h))
def In.isZero : In → Bool
  | .zero _ => true
  | _ => false
theorem w_zero (i : In) : decide (V.str i.w = V.str "zero") = i.isZero := by cases i <;> kernel_rfl
end Fm
set_option Elab.async false
set_option linter.all false
set_option maxRecDepth 100000
set_option maxHeartbeats 1000000
namespace Fm
open PySem L2 Evl RZ
/-- the fields of a run -/
def rf (p pl at_ hd ct ip ak sd : V) : List (Str × V) := [("program", p), ("places", pl), ("at", at_), ("hand", hd), ("contents", ct), ("inputs", ip), ("asked", ak), ("said", sd)]
section
variable {p pl at_ hd ct ip ak sd x : V}
theorem rf_program : (rf p pl at_ hd ct ip ak sd).lookup ("program" : Str) = some p := by kernel_rfl
theorem rf_places : (rf p pl at_ hd ct ip ak sd).lookup ("places" : Str) = some pl := by kernel_rfl
theorem rf_at : (rf p pl at_ hd ct ip ak sd).lookup ("at" : Str) = some at_ := by kernel_rfl
theorem rf_hand : (rf p pl at_ hd ct ip ak sd).lookup ("hand" : Str) = some hd := by kernel_rfl
theorem rf_contents : (rf p pl at_ hd ct ip ak sd).lookup ("contents" : Str) = some ct := by kernel_rfl
theorem rf_inputs : (rf p pl at_ hd ct ip ak sd).lookup ("inputs" : Str) = some ip := by kernel_rfl
theorem rf_asked : (rf p pl at_ hd ct ip ak sd).lookup ("asked" : Str) = some ak := by kernel_rfl
theorem rf_said : (rf p pl at_ hd ct ip ak sd).lookup ("said" : Str) = some sd := by kernel_rfl
theorem rf_set_at : putF "at" x (rf p pl at_ hd ct ip ak sd) = rf p pl x hd ct ip ak sd := by kernel_rfl
theorem rf_set_hand : putF "hand" x (rf p pl at_ hd ct ip ak sd) = rf p pl at_ x ct ip ak sd := by kernel_rfl
theorem rf_set_asked : putF "asked" x (rf p pl at_ hd ct ip ak sd) = rf p pl at_ hd ct ip x sd := by kernel_rfl
theorem rf_made : putF "said" sd (putF "asked" ak (putF "inputs" ip (putF "contents" ct (putF "hand" hd (putF "at" at_ (putF "places" pl (putF "program" p []))))))) = rf p pl at_ hd ct ip ak sd := by kernel_rfl
theorem rf_no_is_over : (rf p pl at_ hd ct ip ak sd).lookup ("is_over" : Str) = none := by kernel_rfl
theorem rf_no_instruction : (rf p pl at_ hd ct ip ak sd).lookup ("instruction" : Str) = none := by kernel_rfl
theorem rf_no_act : (rf p pl at_ hd ct ip ak sd).lookup ("act" : Str) = none := by kernel_rfl
theorem rf_no_say_or_ask : (rf p pl at_ hd ct ip ak sd).lookup ("say_or_ask" : Str) = none := by kernel_rfl
theorem rf_no_act_on_cell : (rf p pl at_ hd ct ip ak sd).lookup ("act_on_cell" : Str) = none := by kernel_rfl
end
/-- the class -/
structure RunT (K : PySem.W.Frag) (C : Addr) : Prop where
  cl : Cls K C
  n_program : NoAttr K C "program"
  n_places : NoAttr K C "places"
  n_at : NoAttr K C "at"
  n_hand : NoAttr K C "hand"
  n_contents : NoAttr K C "contents"
  n_inputs : NoAttr K C "inputs"
  n_asked : NoAttr K C "asked"
  n_said : NoAttr K C "said"
/-- what a program at work holds -/
structure Rs where
  at_ : Nat
  hand : Int
  held : List Int
  asked : Nat
  said : List Int
/-- one step of it -/
def Rs.deed (p : List In) (ins : List Int) (s : Rs) : Rs := match p[s.at_]? with
  | some .say => { s with said := s.said ++ [s.hand] }
  | some .ask => if s.asked < ins.length then { s with hand := ins.getD s.asked 0, asked := s.asked + 1 } else { s with hand := 0 }
  | some (.put k) => { s with hand := k }
  | some (.get c) => { s with hand := s.held.getD c 0 }
  | some (.plus c) => { s with hand := s.hand + s.held.getD c 0 }
  | some (.minus c) => { s with hand := s.hand - s.held.getD c 0 }
  | some (.set c) => { s with held := s.held.set c s.hand }
  | _ => s
def Rs.next (p : List In) (s : Rs) : Nat := match p[s.at_]? with
  | some (.zero t) => if s.hand = 0 then stE p t else stE p (s.at_ + 1)
  | _ => stE p (s.at_ + 1)
def Rs.step (p : List In) (ins : List Int) (s : Rs) : Rs := { s.deed p ins with at_ := s.next p }
/-- a run stands at x, made behind B; its tuple of places, its contents, what it said -/
structure RunF (K : PySem.W.Frag) (C : Addr) (B H : Hp) (x pa ia : Addr) (p : List In) (ins : List Int) (s : Rs) (dx pl ct sd : Addr) : Prop where
  ex : Ex B H
  x0 : B x = none
  pg : PgT K B pa p
  ip : SqT K B ia (ins.map V.int)
  obj : H x = some (.ins C dx (rf (.ref pa) (.ref pl) (.int (s.at_ : Nat)) (.int s.hand) (.ref ct) (.ref ia) (.int (s.asked : Nat)) (.ref sd)))
  c0 : B ct = none
  s0 : B sd = none
  cs : ct ≠ sd
  xc : x ≠ ct
  xs : x ≠ sd
  px : pl ≠ x
  pc : pl ≠ ct
  ps : pl ≠ sd
  hc : H ct = some (.lst (s.held.map V.int))
  hs : H sd = some (.lst (s.said.map V.int))
  hp : H pl = some (.tup (nV (plc p)))
section
variable {K : PySem.W.Frag} {C : Addr} {B H H' : Hp} {x pa ia : Addr} {p : List In} {ins : List Int} {s : Rs} {dx pl ct sd : Addr}
theorem RunF.up (h : RunF K C B H x pa ia p ins s dx pl ct sd) (e : Ex H H') : RunF K C B H' x pa ia p ins s dx pl ct sd :=
  { h with ex := h.ex.trans e, obj := e _ _ h.obj, hc := e _ _ h.hc, hs := e _ _ h.hs, hp := e _ _ h.hp }
theorem RunF.put (h : RunF K C B H x pa ia p ins s dx pl ct sd) (a : Nat) (hd : Int) (k : Nat) : RunF K C B (upd H x (.ins C dx (rf (.ref pa) (.ref pl) (.int (a : Nat)) (.int hd) (.ref ct) (.ref ia) (.int (k : Nat)) (.ref sd)))) x pa ia p ins { s with at_ := a, hand := hd, asked := k } dx pl ct sd :=
  { h with ex := Ex.mut h.ex h.x0, obj := upd_same, hc := by rw [upd_ne h.xc.symm]; exact h.hc, hs := by rw [upd_ne h.xs.symm]; exact h.hs, hp := by rw [upd_ne h.px]; exact h.hp }
theorem RunF.putC (h : RunF K C B H x pa ia p ins s dx pl ct sd) (hl : List Int) : RunF K C B (upd H ct (.lst (hl.map V.int))) x pa ia p ins { s with held := hl } dx pl ct sd :=
  { h with ex := Ex.mut h.ex h.c0, obj := by rw [upd_ne h.xc]; exact h.obj, hc := upd_same, hs := by rw [upd_ne h.cs.symm]; exact h.hs, hp := by rw [upd_ne h.pc]; exact h.hp }
theorem RunF.putS (h : RunF K C B H x pa ia p ins s dx pl ct sd) (sl : List Int) : RunF K C B (upd H sd (.lst (sl.map V.int))) x pa ia p ins { s with said := sl } dx pl ct sd :=
  { h with ex := Ex.mut h.ex h.s0, obj := by rw [upd_ne h.xs]; exact h.obj, hc := by rw [upd_ne h.cs]; exact h.hc, hs := upd_same, hp := by rw [upd_ne h.ps]; exact h.hp }
end
section
variable {K : PySem.W.Frag} {σ : L2.St} {H : Hp} {ta tb tv te : TE} {D : Ends} {tz : TS} {a C dx : Addr} {fs : List (Str × V)} {f : Str} {v : V}
theorem ev_fld (ha : Ev ta σ H (.ref a)) (h : H a = some (.ins C dx fs)) (cl : Cls K C) (no : NoAttr K C f) (hl : fs.lookup f = some v) : Ev (tFld K ta f) σ H v := fun H1 e Q q => ha H1 e _ fun H2 e2 => ⟨a, C, dx, fs, v, rfl, (e.trans e2) _ _ h, cl, no, hl, q H2 e2⟩
theorem s_setF (hv : Ev tv σ H v) (ha : Ev ta σ H (.ref a)) (h : H a = some (.ins C dx fs)) (cl : Cls K C) (no : NoAttr K C f) (hz : fs.length < 1000) (k : ∀ H1, Ex H H1 → D.nx σ (upd H1 a (.ins C dx (putF f v fs)))) : sFld K ta tv f D σ H :=
  hv H (Ex.refl H) _ fun H1 e1 => ha H1 e1 _ fun H2 e2 => ⟨a, C, dx, fs, rfl, (e1.trans e2) _ _ h, cl, no, hz, k H2 (e1.trans e2)⟩
theorem q_setF (hv : Ev tv σ H v) (ha : Ev ta σ H (.ref a)) (h : H a = some (.ins C dx fs)) (cl : Cls K C) (no : NoAttr K C f) (hz : fs.length < 1000) (k : ∀ H1, Ex H H1 → tz D σ (upd H1 a (.ins C dx (putF f v fs)))) : tSeq (sFld K ta tv f) tz D σ H := s_setF (D := { D with nx := tz D }) hv ha h cl no hz k
theorem s_setFL {xs : List V} (hv : EvL tv σ H xs) (ha : ∀ H1, Ex H H1 → Ev ta σ H1 (.ref a)) (h : H a = some (.ins C dx fs)) (cl : Cls K C) (no : NoAttr K C f) (hz : fs.length < 1000) (k : ∀ l H1, H l = none → Ex H H1 → H1 l = some (.lst xs) → D.nx σ (upd H1 a (.ins C dx (putF f (.ref l) fs)))) : sFld K ta tv f D σ H :=
  hv H (Ex.refl H) _ fun l H1 hl e1 h1 => ha H1 e1 H1 (Ex.refl H1) _ fun H2 e2 => ⟨a, C, dx, fs, rfl, (e1.trans e2) _ _ h, cl, no, hz, k l H2 hl (e1.trans e2) (e2 _ _ h1)⟩
theorem q_setFL {xs : List V} (hv : EvL tv σ H xs) (ha : ∀ H1, Ex H H1 → Ev ta σ H1 (.ref a)) (h : H a = some (.ins C dx fs)) (cl : Cls K C) (no : NoAttr K C f) (hz : fs.length < 1000) (k : ∀ l H1, H l = none → Ex H H1 → H1 l = some (.lst xs) → tz D σ (upd H1 a (.ins C dx (putF f (.ref l) fs)))) : tSeq (sFld K ta tv f) tz D σ H := s_setFL (D := { D with nx := tz D }) hv ha h cl no hz k
theorem s_augF {g : Int → Int → Int} {i j : Int} (ha : Ev ta σ H (.ref a)) (h : H a = some (.ins C dx fs)) (cl : Cls K C) (no : NoAttr K C f) (hl : fs.lookup f = some (.int i)) (hv : Ev tv σ H (.int j)) (hz : fs.length < 1000) (k : ∀ H1, Ex H H1 → D.nx σ (upd H1 a (.ins C dx (putF f (.int (g i j)) fs)))) : sFldAug K ta tv (fun x y H Q => ∃ i j, x = .int i ∧ y = .int j ∧ Q (.int (g i j)) H) f D σ H :=
  ha H (Ex.refl H) _ fun H1 e1 => ⟨a, C, dx, fs, .int i, rfl, e1 _ _ h, cl, no, hl, hv H1 e1 _ fun H2 e2 => ⟨i, j, rfl, rfl, dx, fs, (e1.trans e2) _ _ h, hz, k H2 (e1.trans e2)⟩⟩
end
end Fm
set_option Elab.async false
set_option linter.all false
set_option maxRecDepth 100000
set_option maxHeartbeats 1000000
namespace Fm
open PySem L2 Evl RZ
def spOver (K : PySem.W.Frag) (C : Addr) : Sp := fun vs H Q _ => ∃ (B : Hp) (x pa ia dx pl ct sd : Addr) (p : List In) (ins : List Int) (s : Rs), vs = [.ref x] ∧ RunF K C B H x pa ia p ins s dx pl ct sd ∧ ∀ H', Ex H H' → Q (.bl (decide (s.at_ = p.length))) H'
def spInst (K : PySem.W.Frag) (C : Addr) : Sp := fun vs H Q _ => ∃ (B : Hp) (x pa ia dx pl ct sd : Addr) (p : List In) (ins : List Int) (s : Rs) (i : In), vs = [.ref x] ∧ RunF K C B H x pa ia p ins s dx pl ct sd ∧ p[s.at_]? = some i ∧ ∀ u H', Ex H H' → SqT K H' u i.vs → Q (.ref u) H'
def spSayAsk (K : PySem.W.Frag) (C : Addr) : Sp := fun vs H Q _ => ∃ (B : Hp) (x pa ia dx pl ct sd : Addr) (p : List In) (ins : List Int) (s : Rs) (i : In), vs = [.ref x, .str i.w] ∧ RunF K C B H x pa ia p ins s dx pl ct sd ∧ p[s.at_]? = some i ∧ (i = .say ∨ i = .ask) ∧ s.said.length < 50000 ∧
  ∀ H', RunF K C B H' x pa ia p ins (s.deed p ins) dx pl ct sd → Q .non H'
def In.onCell (c : Nat) : In → Prop
  | .get k => k = c | .plus k => k = c | .minus k => k = c | .set k => k = c | .touch k => k = c
  | _ => False
def spOnCell (K : PySem.W.Frag) (C : Addr) : Sp := fun vs H Q _ => ∃ (B : Hp) (x pa ia dx pl ct sd : Addr) (p : List In) (ins : List Int) (s : Rs) (i : In) (c : Nat), vs = [.ref x, .str i.w, .int (c : Nat)] ∧ RunF K C B H x pa ia p ins s dx pl ct sd ∧ p[s.at_]? = some i ∧ i.onCell c ∧ c < s.held.length ∧
  ∀ H', RunF K C B H' x pa ia p ins (s.deed p ins) dx pl ct sd → Q .non H'
theorem iV_at {l : List Int} {i : Nat} (h : i < l.length) : atI (l.map V.int) (i : Int) = some (.int (l.getD i 0)) := atI_nat' (by
  rw [List.getElem?_map, List.getElem?_eq_getElem h, List.getD_eq_getElem?_getD, List.getElem?_eq_getElem h]
  rfl)
theorem w_say (i : In) : decide (V.str i.w = V.str "say") = (match i with | .say => true | _ => false) := by cases i <;> kernel_rfl
theorem w_get (i : In) : decide (V.str i.w = V.str "get") = (match i with | .get _ => true | _ => false) := by cases i <;> kernel_rfl
theorem w_plus (i : In) : decide (V.str i.w = V.str "plus") = (match i with | .plus _ => true | _ => false) := by cases i <;> kernel_rfl
theorem w_minus (i : In) : decide (V.str i.w = V.str "minus") = (match i with | .minus _ => true | _ => false) := by cases i <;> kernel_rfl
theorem w_setW (i : In) : decide (V.str i.w = V.str "set") = (match i with | .set _ => true | _ => false) := by cases i <;> kernel_rfl
theorem w_zeroW (i : In) : decide (V.str i.w = V.str "zero") = (match i with | .zero _ => true | _ => false) := by cases i <;> kernel_rfl
section
variable {P : Program} {w : World} {K : PySem.W.Frag} {mg : Str → Option Value} {base : Heap} {C : Addr}
end
end Fm
set_option Elab.async false
set_option linter.all false
set_option maxRecDepth 100000
set_option maxHeartbeats 1000000
namespace Fm
open PySem L2 Evl RZ
def In.cellLt (n : Nat) : In → Prop
  | .get k => k < n | .plus k => k < n | .minus k => k < n | .set k => k < n | .touch k => k < n
  | _ => True
def spAct (K : PySem.W.Frag) (C : Addr) : Sp := fun vs H Q _ => ∃ (B : Hp) (x pa ia dx pl ct sd : Addr) (p : List In) (ins : List Int) (s : Rs) (i : In) (c : Nat), vs = [.ref x] ∧ RunF K C B H x pa ia p ins s dx pl ct sd ∧ p[s.at_]? = some i ∧ i.isEnd = false ∧ Pok c p ∧ i.cellLt s.held.length ∧ s.said.length < 50000 ∧
  ∀ H', RunF K C B H' x pa ia p ins (s.step p ins) dx pl ct sd → Q .non H'
theorem deed_at (p : List In) (ins : List Int) (s : Rs) : (s.deed p ins).at_ = s.at_ := by
  unfold Rs.deed
  split <;> (try split) <;> rfl
section
variable {K : PySem.W.Frag} {σ : L2.St} {H : Hp} {ta tb tv te : TE} {tA : TA} {D : Ends} {tz : TS} {a C dx : Addr} {fs : List (Str × V)} {m : Str} {v : V} {sp : Sp} {E : XK}
theorem q_meth0A {i : Nat} (ha : Ev ta σ H (.ref a)) (h : H a = some (.ins C dx fs)) (hl : fs.lookup m = none) (k : ∀ H1, Ex H H1 → sp [.ref a] H1 (fun v H2 => tz D (σ.set i (some v)) H2) E) : tSeq (tAsg (tMeth C m sp [] E ta tNil) (gName i)) tz D σ H :=
  ha H (Ex.refl H) _ fun H1 e1 => ⟨a, dx, fs, rfl, e1 _ _ h, hl, k H1 e1⟩
theorem s_methD {vs : List V} (ha : Ev ta σ H (.ref a)) (h : H a = some (.ins C dx fs)) (hl : fs.lookup m = none) (hA : EvA tA σ H vs) (k : ∀ H1, Ex H H1 → sp (.ref a :: (vs ++ [])) H1 (fun _ H2 => D.nx σ H2) E) : tDrop (tMeth C m sp [] E ta tA) D σ H :=
  ha H (Ex.refl H) _ fun H1 e1 => ⟨a, dx, fs, rfl, e1 _ _ h, hl, hA H1 e1 _ fun H2 e2 => k H2 (e1.trans e2)⟩
theorem q_methD0 (ha : Ev ta σ H (.ref a)) (h : H a = some (.ins C dx fs)) (hl : fs.lookup m = none) (k : ∀ H1, Ex H H1 → sp [.ref a] H1 (fun _ H2 => tz D σ H2) E) : tSeq (tDrop (tMeth C m sp [] E ta tNil)) tz D σ H :=
  ha H (Ex.refl H) _ fun H1 e1 => ⟨a, dx, fs, rfl, e1 _ _ h, hl, k H1 e1⟩
theorem ev_meth0 {z : V} (ha : Ev ta σ H (.ref a)) (h : H a = some (.ins C dx fs)) (hl : fs.lookup m = none) (hs : ∀ H1, Ex H H1 → ∀ Q : VK, (∀ H2, Ex H1 H2 → Q z H2) → sp [.ref a] H1 Q E) : Ev (tMeth C m sp [] E ta tNil) σ H z := fun H1 e Q q =>
  ha H1 e _ fun H2 e2 => ⟨a, dx, fs, rfl, (e.trans e2) _ _ h, hl, hs H2 (e.trans e2) Q fun H3 e3 => q H3 (e2.trans e3)⟩
end
/-- a method that may be called -/
structure MCal (P : Program) (w : World) (K : PySem.W.Frag) (mg : Str → Option Value) (base : Heap) (C : Addr) (k : Nat) (x : Str) (f : Addr) (fd : FuncData) (ps : List Str) (sp : Sp) : Prop where
  G : FnOk P w K mg base CX0 k f fd ps sp
  m : Meth K C x f
  b : Binds K fd ps []
section
variable {P : Program} {w : World} {K : PySem.W.Frag} {mg : Str → Option Value} {base : Heap} {C : Addr}
end
end Fm
set_option Elab.async false
set_option linter.all false
set_option maxRecDepth 100000
set_option maxHeartbeats 1000000
namespace Fm
open PySem L2 Evl RZ
def Rs.new (p : List In) (n : Nat) : Rs := ⟨stE p 0, 0, List.replicate n 0, 0, []⟩
theorem flat_rep : ∀ n : Nat, (List.replicate n [V.int 0]).flatten = (List.replicate n (0 : Int)).map V.int
  | 0 => rfl
  | n + 1 => by rw [List.replicate_succ, List.replicate_succ, List.flatten_cons, flat_rep n]; rfl
def spInit (K : PySem.W.Frag) (C : Addr) : Sp := fun vs H Q _ => ∃ (B : Hp) (x pa ia dx : Addr) (p : List In) (ins : List Int) (c n : Nat), vs = [.ref x, .int (n : Nat), .ref pa, .ref ia] ∧ Ex B H ∧ B x = none ∧ H x = some (.ins C dx []) ∧ PgT K B pa p ∧ SqT K B ia (ins.map V.int) ∧ Pok c p ∧ p.length ≤ 4000 ∧ n ≤ 10 ∧
  ∀ H' pl ct sd, RunF K C B H' x pa ia p ins (Rs.new p n) dx pl ct sd → Q .non H'
section
variable {P : Program} {w : World} {K : PySem.W.Frag} {mg : Str → Option Value} {base : Heap} {C : Addr}
end
end Fm
set_option Elab.async false
set_option linter.all false
set_option maxRecDepth 100000
set_option maxHeartbeats 1000000
namespace Fm
open PySem PySem.Spec PyProof.Rows L2
theorem pg_tupK {X : Cx} {K : PySem.W.Frag} {es : List Expr} {k : Nat} {t : TGs} {n : Nat} {pos : Pos} (h : X.K = K) (hc : X.calm = true) (hp : PGs X es t)
    (hn : (assignEach es X.env).length = n := by rfl) (hst : (assignEach es X.env).findIdx? (·.1) = none := by rfl) : PG X (.Tuple es k pos) (gTup K n t) := h ▸ pg_tup hc hp hn hst
/-! zip of a list and a tuple -/
/-- the list at a, the tuple at b as they stand at each turn -/
def ItzM (K : PySem.W.Frag) (a b : Addr) : It where
  go := fun i H => ∃ (xs ys : List V) (x y : V), SqL K H a xs ∧ SqT K H b ys ∧ xs[i]? = some x ∧ ys[i]? = some y
  yld := fun i H v H' => ∃ T x y, v = .ref T ∧ H T = none ∧ H' = upd H T (.tup [x, y]) ∧ (∀ xs, SqL K H a xs → xs[i]? = some x) ∧ ∀ ys, SqT K H b ys → ys[i]? = some y
  stop := fun i H => ∃ xs ys : List V, SqL K H a xs ∧ SqT K H b ys ∧ xs.length = i ∧ ys.length = i
theorem of_five {c z TI TO i1 i2 : Addr} (h : c ∈ [z, TI, TO, i1, i2]) : c = z ∨ c = TI ∨ c = TO ∨ c = i1 ∨ c = i2 := by simpa using h
theorem sep_of {z TI TO i1 i2 a b : Addr} (D : ZipApart z TI TO i1 i2 a b) : ZipSep2 z TI TO i1 i2 [i1, a] [i2, b] where
  TIz := D.TIz
  TOz := D.TOz
  TITO := D.TITO
  TIi1 := D.TIi1
  mem1 := List.mem_cons_self
  zf1 := fun h => by simp only [List.mem_cons, List.not_mem_nil, or_false] at h; exact h.elim (fun e => D.i1z e.symm) fun e => D.l1z e.symm
  Tf1 := fun h => by simp only [List.mem_cons, List.not_mem_nil, or_false] at h; exact h.elim (fun e => D.TOi1 e) fun e => D.l1TO e.symm
  TIi2 := D.TIi2
  mem2 := List.mem_cons_self
  zf2 := fun h => by simp only [List.mem_cons, List.not_mem_nil, or_false] at h; exact h.elim (fun e => D.i2z e.symm) fun e => D.l2z e.symm
  Tf2 := fun h => by simp only [List.mem_cons, List.not_mem_nil, or_false] at h; exact h.elim (fun e => D.TOi2 e) fun e => D.l2TO e.symm
  sep1_2 := fun h => by simp only [List.mem_cons, List.not_mem_nil, or_false] at h; exact h.elim (fun e => D.i12 e) fun e => D.l2i1 e.symm
  sep2_1 := fun h => by simp only [List.mem_cons, List.not_mem_nil, or_false] at h; exact h.elim (fun e => D.i12 e.symm) fun e => D.l1i2 e.symm
theorem turn_zipM {P : Program} {w : World} {K : PySem.W.Frag} {elts : List Expr} {kk : Nat} {tpos : Pos} {a b z TI TO i1 i2 : Addr} (D : ZipApart z TI TO i1 i2 a b) :
    Turn P w K (.Tuple elts kk tpos) (ItzM K a b) [z, TI, TO, i1, i2] z (fun i h => IsZip h z TI TO .none ∧ IsTupOf2 h TI (.ref i1) (.ref i2) ∧ (∃ x y, IsTupOf2 h TO x y) ∧ h.IsListIter i1 a i ∧ h.IsTupleIter i2 b i) := by
  have old : ∀ {h : Heap} {i : Nat}, (IsZip h z TI TO .none ∧ IsTupOf2 h TI (.ref i1) (.ref i2) ∧ (∃ x y, IsTupOf2 h TO x y) ∧ h.IsListIter i1 a i ∧ h.IsTupleIter i2 b i) → ∀ c ∈ [z, TI, TO, i1, i2], ∃ o, h.get? c = some o ∧ ∀ v, o.data ≠ .cell v := fun {h i} st c hc => by
    obtain ⟨g1, g2, ⟨x, y, g3⟩, ⟨o4, g4, _, d4⟩, ⟨o5, g5, _, d5⟩⟩ := st
    rcases of_five hc with e | e | e | e | e <;> subst e
    · exact ⟨_, g1, fun v => by intro q; cases q⟩
    · exact ⟨_, g2, fun v => by intro q; cases q⟩
    · exact ⟨_, g3, fun v => by intro q; cases q⟩
    · exact ⟨o4, g4, fun v => by rw [d4]; intro q; cases q⟩
    · exact ⟨o5, g5, fun v => by rw [d5]; intro q; cases q⟩
  refine ⟨List.mem_cons_self, fun i h st => old st, fun i h h' st k => ?_, ?_, ?_, fun A i s Q E st q => wpAny_pyIter_zip st.1 q⟩
  · obtain ⟨g1, g2, ⟨x, y, g3⟩, g4, g5⟩ := st
    exact ⟨k _ (by simp) _ g1, k _ (by simp) _ g2, ⟨x, y, k _ (by simp) _ g3⟩, g4.at fun o => k i1 (by simp) o, g5.at fun o => k i2 (by simp) o⟩
  · rintro X rfl rfl rfl hc i pins s σ H E I hf st ⟨xs, ys, x, y, hqx, hqy, hx, hy⟩
    have lt5 : ∀ c ∈ [z, TI, TO, i1, i2], c < s.heap.objs.size := fun c hm => let ⟨o, ho, _⟩ := old st c hm; Heap.lt_size ho
    obtain ⟨g1, g2, ⟨x0, y0, g3⟩, g4, g5⟩ := st
    obtain ⟨us, rv, p, _⟩ := I.list hqx
    obtain ⟨us2, rv2, p2, _⟩ := I.tuple hqy
    obtain ⟨u, hu, ru⟩ := rv.get hx
    obtain ⟨u2, hu2, ru2⟩ := rv2.get hy
    have hh : X.A.in1.handled = none := I.ok.hd hc
    have n1 : i < us.toArray.size := by rw [List.size_toArray]; exact (List.getElem?_eq_some_iff.mp hu).1
    have n2 : i < us2.toArray.size := by rw [List.size_toArray]; exact (List.getElem?_eq_some_iff.mp hu2).1
    refine wpAny_pyNext_zipD2_item (sep_of D) (Draws.list hh i1 a D.l1i1 us.toArray) (Draws.tuple hh i2 b D.l2i2 us2.toArray) g1 g2 g3 ⟨g4, p.isList⟩ ⟨g5, p2⟩ n1 n2 fun v1 v2 h' tk e1 e2 hz' hTO' q1 q2 hT hsz hk => ?_
    have ev1 : v1 = u := by
      rw [List.getElem?_toArray, hu] at e1
      exact (Option.some.inj e1).symm
    have ev2 : v2 = u2 := by
      rw [List.getElem?_toArray, hu2] at e2
      exact (Option.some.inj e2).symm
    subst ev1
    subst ev2
    refine ⟨_, rfl, wpAny_letOwnedTupleGo_zip (s := { s with heap := h', toks := tk }) hz' fun h2 hz2 sb => ?_⟩
    have nz := fun c hm => Nat.ne_of_gt (lt5 c hm)
    have hT2 : IsTupOf2 h2 s.heap.objs.size v1 v2 := (sb.2 _ (nz z (by simp))).trans hT
    have new : ObjOk X.prog X.w (upd H s.heap.objs.size (.tup [x, y])) h2 s.heap.objs.size (.tup [x, y]) := ⟨by show 2 ≤ sizeLine; decide, [v1, v2], .cons ru (.cons ru2 .nil), ⟨_, hT2, rfl, _, rfl⟩⟩
    have I1 : Inv X pins σ (upd H s.heap.objs.size (.tup [x, y])) { s with heap := h2, toks := tk } := I.turnedNew (ch := [z, TI, TO, i1, i2]) (fun c o hb q => by
      simp only [List.mem_cons, List.not_mem_nil, or_false, not_or] at hb
      exact (sb.2 c hb.1).trans (hk c o hb.1 hb.2.2.1 hb.2.2.2.1 hb.2.2.2.2 q)) hf (Nat.le_refl _) new
    refine ⟨.ref s.heap.objs.size, _, I1, rfl, ⟨_, x, y, rfl, I.hok.fresh (Nat.le_refl _), rfl, fun l hl => ?_, fun l hl => ?_⟩, ⟨hz2, ?_, ⟨v1, v2, ?_⟩, ?_, ?_⟩, fun c hm => ?_⟩
    · rw [I.list_inj hl hqx]; exact hx
    · rw [I.tuple_inj hl hqy]; exact hy
    · exact (sb.2 _ D.TIz).trans (hk _ _ D.TIz D.TITO D.TIi1 D.TIi2 g2)
    · exact (sb.2 _ D.TOz).trans hTO'
    · exact q1.1.at fun o q => (sb.2 _ D.i1z).trans q
    · exact q2.1.at fun o q => (sb.2 _ D.i2z).trans q
    · rw [upd_ne (nz c hm).symm]
      exact (hf c hm).1
  · rintro X rfl rfl rfl hc i pins s σ H E I hf ⟨g1, g2, ⟨x0, y0, g3⟩, g4, g5⟩ ⟨xs, ys, hqx, hqy, l1, l2⟩
    obtain ⟨us, rv, p, _⟩ := I.list hqx
    obtain ⟨us2, rv2, p2, _⟩ := I.tuple hqy
    have n1 : us.toArray.size = i := by rw [List.size_toArray]; have := rv.length; omega
    have n2 : us2.toArray.size = i := by rw [List.size_toArray]; have := rv2.length; omega
    have hh : X.A.in1.handled = none := I.ok.hd hc
    exact wpAny_pyNext_zipD2_end (sep_of D) (Draws.list hh i1 a D.l1i1 us.toArray) (Draws.tuple hh i2 b D.l2i2 us2.toArray) g1 g2 g3 ⟨g4, p.isList⟩ ⟨g5, p2⟩ (Nat.le_of_eq n1.symm) (Nat.le_of_eq n2.symm) (.inl n1.symm) fun h' tk hk => ⟨rfl, I.turnedL (ch := [z, TI, TO, i1, i2]) (fun c o hb q => by
      simp only [List.mem_cons, List.not_mem_nil, or_false, not_or] at hb
      exact hk c o hb.1 hb.2.2.1 hb.2.2.2.1 hb.2.2.2.2 q) hf⟩
def iZipM (K : PySem.W.Frag) (ta : TA) : TI := fun σ H R => ta σ H fun vs H1 => ∃ a b xs ys, vs = [.ref a, .ref b] ∧ SqL K H1 a xs ∧ SqT K H1 b ys ∧ R (ItzM K a b) H1
theorem pi_zipM {X : Cx} {e e2 : Expr} {ta : TA} {p pos tpos : Pos} {elts : List Expr} {kk : Nat} (hg : Gl X "zip") (hm : X.mg "zip" = none) (ha : PA X [e, e2] ta)
    (hs : starEach [e, e2] X.env = (false, eval e X.env) :: starEach [e2] X.env := by rfl) (hpl : (backTo pos (starEach [e2] X.env)).any (·.1) = false := by rfl) :
    PI X (.Tuple elts kk tpos) (.Call (.Name "zip" p) [e, e2] [] pos) (iZipM X.K ta) := by
  refine ⟨fun pins s σ H R I h => Call_ (ld_blt I hg hm PyProof.Rows.boot_zip (PyProof.Rows.callWith_type1 (thn (ha.run pos pins s σ H _ I h) fun us s1 ⟨vs, H1, I1, r1, q1⟩ => ?_) hs hpl))⟩
  obtain ⟨a, b, xs, ys, rfl, hqx, hqy, q⟩ := q1
  obtain ⟨vsA, rvA, pA, _⟩ := I1.list hqx
  obtain ⟨vsB, rvB, pB, _⟩ := I1.tuple hqy
  obtain ⟨oB, hoB, _⟩ := id pB
  cases r1 with
  | cons r rr =>
    cases rr with
    | cons r' rr =>
      cases rr
      cases r
      cases r'
      have fr : ∀ c, c ∈ [s1.heap.objs.size + 4, s1.heap.objs.size + 2, s1.heap.objs.size + 3, s1.heap.objs.size, s1.heap.objs.size + 1] → FpOk X pins H1 c := fun c hc => by
        have hle : s1.heap.objs.size ≤ c := by
          rcases of_five hc with e | e | e | e | e <;> rw [e]
          · exact Nat.le_add_right _ _
          · exact Nat.le_add_right _ _
          · exact Nat.le_add_right _ _
          · exact Nat.le_refl _
          · exact Nat.le_add_right _ _
        exact I1.fpOk hle (I1.hok.fresh hle)
      refine zip_begins2 (begins_list a vsA.toArray) (begins_tuple b vsB.toArray) pA.isList pB fun h' hz hTI hTO g1 g2 hsz hk => wpAny_pyIter_zip hz ?_
      have I2 : Inv X pins σ H1 { s1 with heap := h' } := I1.kept (t' := s1.toks) hk
      exact ⟨s1.heap.objs.size + 4, [s1.heap.objs.size + 4, s1.heap.objs.size + 2, s1.heap.objs.size + 3, s1.heap.objs.size, s1.heap.objs.size + 1], _, _, H1, rfl, I2, turn_zipM (PySem.W.ktu_apart s1.heap.objs.size a b pA.lt (Heap.lt_size hoB)), ⟨hz, hTI, ⟨_, _, hTO⟩, ⟨_, g1, rfl, rfl⟩, ⟨_, g2, rfl, rfl⟩⟩, fr, q⟩
end Fm
set_option Elab.async false
set_option linter.all false
set_option maxRecDepth 100000
set_option maxHeartbeats 1000000
namespace Fm
open PySem L2 Evl RZ
/-! a machine at work: what it holds -/
def mlf (ma li ct tk : V) : List (Str × V) := [("machine", ma), ("lives", li), ("contents", ct), ("ticks", tk)]
section
variable {ma li ct tk x : V}
theorem mlf_machine : (mlf ma li ct tk).lookup ("machine" : Str) = some ma := by kernel_rfl
theorem mlf_lives : (mlf ma li ct tk).lookup ("lives" : Str) = some li := by kernel_rfl
theorem mlf_contents : (mlf ma li ct tk).lookup ("contents" : Str) = some ct := by kernel_rfl
theorem mlf_ticks : (mlf ma li ct tk).lookup ("ticks" : Str) = some tk := by kernel_rfl
theorem mlf_set_lives : putF "lives" x (mlf ma li ct tk) = mlf ma x ct tk := by kernel_rfl
theorem mlf_set_ticks : putF "ticks" x (mlf ma li ct tk) = mlf ma li ct x := by kernel_rfl
theorem mlf_made : putF "ticks" tk (putF "contents" ct (putF "lives" li (putF "machine" ma []))) = mlf ma li ct tk := by kernel_rfl
theorem mlf_no_go_on : (mlf ma li ct tk).lookup ("go_on" : Str) = none := by kernel_rfl
theorem mlf_no_read : (mlf ma li ct tk).lookup ("read" : Str) = none := by kernel_rfl
theorem mlf_no_write : (mlf ma li ct tk).lookup ("write" : Str) = none := by kernel_rfl
theorem mlf_no_touch : (mlf ma li ct tk).lookup ("touch" : Str) = none := by kernel_rfl
theorem mlf_no_wait : (mlf ma li ct tk).lookup ("wait" : Str) = none := by kernel_rfl
end
structure MillT (K : PySem.W.Frag) (C : Addr) : Prop where
  cl : Cls K C
  n_machine : NoAttr K C "machine"
  n_lives : NoAttr K C "lives"
  n_contents : NoAttr K C "contents"
  n_ticks : NoAttr K C "ticks"
/-- a property's getter -/
structure PCal (P : Program) (w : World) (K : PySem.W.Frag) (mg : Str → Option Value) (base : Heap) (C : Addr) (k : Nat) (x : Str) (pa f : Addr) (fd : FuncData) (ps : List Str) (sp : Sp) : Prop where
  G : FnOk P w K mg base CX0 k f fd ps sp
  p : PropOf K C x pa f
  b : Binds K fd ps []
/-- a mill stands at x, made behind B -/
structure MillF (K : PySem.W.Frag) (C : Addr) (B H : Hp) (x ma dx la ct : Addr) (fs rs ls : List Nat) (hs : List Int) (t : Nat) : Prop where
  ex : Ex B H
  x0 : B x = none
  c0 : B ct = none
  xc : x ≠ ct
  mt : MaT K B ma fs rs
  obj : H x = some (.ins C dx (mlf (.ref ma) (.ref la) (.ref ct) (.int (t : Nat))))
  hl : SqT K H la (nV ls)
  hc : H ct = some (.lst (hs.map V.int))
theorem sqT_ins {K : PySem.W.Frag} {H : Hp} {x C dx a : Addr} {fl : List (Str × V)} {o : HO} {xs : List V} (hx : H x = some (.ins C dx fl)) (h : SqT K H a xs) : SqT K (upd H x o) a xs := by
  have key : ∀ q, H a = some q → (∀ C dx fl, q ≠ .ins C dx fl) → upd H x o a = some q := fun q hq hn => by
    rw [upd_ne fun z => by rw [z, hx] at hq; exact hn _ _ _ (Option.some.inj hq).symm]
    exact hq
  rcases h with (h | ⟨o', h⟩) | h
  · exact .inl (.inl (key _ h fun _ _ _ z => by cases z))
  · exact .inl (.inr ⟨o', key _ h fun _ _ _ z => by cases z⟩)
  · exact .inr h
theorem sqT_lst {K : PySem.W.Frag} {H : Hp} {x a : Addr} {l : List V} {o : HO} {xs : List V} (hx : H x = some (.lst l)) (h : SqT K H a xs) : SqT K (upd H x o) a xs := by
  have key : ∀ q, H a = some q → (∀ l, q ≠ .lst l) → upd H x o a = some q := fun q hq hn => by
    rw [upd_ne fun z => by rw [z, hx] at hq; exact hn _ (Option.some.inj hq).symm]
    exact hq
  rcases h with (h | ⟨o', h⟩) | h
  · exact .inl (.inl (key _ h fun _ z => by cases z))
  · exact .inl (.inr ⟨o', key _ h fun _ z => by cases z⟩)
  · exact .inr h
section
variable {K : PySem.W.Frag} {C : Addr} {B H H' : Hp} {x ma dx la ct : Addr} {fs rs ls : List Nat} {hs : List Int} {t : Nat}
theorem MillF.up (h : MillF K C B H x ma dx la ct fs rs ls hs t) (e : Ex H H') : MillF K C B H' x ma dx la ct fs rs ls hs t :=
  { h with ex := h.ex.trans e, obj := e _ _ h.obj, hl := ex_t e h.hl, hc := e _ _ h.hc }
theorem MillF.put (h : MillF K C B H x ma dx la ct fs rs ls hs t) {la' : Addr} {ls' : List Nat} (h' : SqT K H la' (nV ls')) (t' : Nat) : MillF K C B (upd H x (.ins C dx (mlf (.ref ma) (.ref la') (.ref ct) (.int (t' : Nat))))) x ma dx la' ct fs rs ls' hs t' :=
  { h with ex := Ex.mut h.ex h.x0, obj := upd_same, hl := sqT_ins h.obj h', hc := by rw [upd_ne h.xc.symm]; exact h.hc }
theorem MillF.putC (h : MillF K C B H x ma dx la ct fs rs ls hs t) (hs' : List Int) : MillF K C B (upd H ct (.lst (hs'.map V.int))) x ma dx la ct fs rs ls hs' t :=
  { h with ex := Ex.mut h.ex h.c0, obj := by rw [upd_ne h.xc]; exact h.obj, hl := sqT_lst h.hc h.hl, hc := upd_same }
theorem MillF.mm (h : MillF K C B H x ma dx la ct fs rs ls hs t) : MaT K H ma fs rs := h.mt.up h.ex
end
/-- what a cell holds, None for a lost one -/
def hV1 (n l : V) : V := match l with
  | .int i => if i > 0 then n else .non
  | _ => .non
def hV (hs : List Int) (ls : List Nat) : List V := (List.range hs.length).map fun i => if ls.getD i 0 > 0 then .int (hs.getD i 0) else .non
theorem hV_zip {hs : List Int} {ls : List Nat} (h : hs.length = ls.length) : ((List.range (hs.map V.int).length).map fun m => hV1 ((hs.map V.int).getD m .non) ((nV ls).getD m .non)) = hV hs ls := by
  unfold hV
  rw [List.length_map]
  refine List.map_congr_left fun i hi => ?_
  have hi := List.mem_range.mp hi
  have h1 : (hs.map V.int).getD i .non = .int (hs.getD i 0) := by
    rw [List.getD_eq_getElem?_getD, List.getElem?_map, List.getD_eq_getElem?_getD, List.getElem?_eq_getElem hi]
    rfl
  have h2 : (nV ls).getD i .non = .int (ls.getD i 0 : Nat) := by
    unfold nV
    rw [List.getD_eq_getElem?_getD, List.getElem?_map, List.getD_eq_getElem?_getD, List.getElem?_eq_getElem (by omega)]
    rfl
  rw [h1, h2]
  show (if ((ls.getD i 0 : Nat) : Int) > 0 then _ else _) = _
  by_cases q : ls.getD i 0 > 0
  · rw [if_pos q, if_pos (by omega)]
  · rw [if_neg q, if_neg (by omega)]
theorem hV_at {hs : List Int} {ls : List Nat} {c : Nat} (h : c < hs.length) : atI (hV hs ls) (c : Int) = some (if ls.getD c 0 > 0 then .int (hs.getD c 0) else .non) := atI_nat' (by
  unfold hV
  rw [List.getElem?_map, List.getElem?_range h]
  rfl)
theorem walk_zipM {K : PySem.W.Frag} {a b : Addr} {xs ys : List V} (hn : xs.length = ys.length) : Walk (ItzM K a b) xs.length (fun H => SqL K H a xs ∧ SqT K H b ys) (YPair (fun i => xs[i]?) (fun i => ys[i]?)) := by
  refine ⟨fun i H hi q => ⟨xs, ys, xs[i], ys[i]'(hn ▸ hi), q.1, q.2, by simp [hi], by simp [hn ▸ hi]⟩, fun H q => ⟨xs, ys, q.1, q.2, rfl, hn.symm⟩, fun i H v H' _ q y => ?_⟩
  obtain ⟨T, x, z, h1, h2, h3, h4, h5⟩ := y
  exact ⟨T, x, z, h1, h2, h3, h4 xs q.1, h5 ys q.2⟩
section
variable {K : PySem.W.Frag} {σ : L2.St} {H : Hp} {tl te tp : TE} {ta : TA} {C : Addr} {sp : Sp} {E : XK} {tz : TS} {D : Ends}
theorem el_lcZM {a b : Addr} {xs ys : List V} {i j : Nat} {vs : List Nat} {f : V → V → V} (ha : EvA ta σ H [.ref a, .ref b]) (hx : SqL K H a xs) (hy : SqT K H b ys) (hl : xs.length = ys.length) (hw : ∀ x y, wipe (((wipe σ vs).set i x).set j y) vs = wipe σ vs) (hz : xs.length ≤ 50000)
    (he : ∀ (m : Nat) (x y : V) H', xs[m]? = some x → ys[m]? = some y → Ex H H' → Ev te (((wipe σ vs).set i (some x)).set j (some y)) H' (f x y)) : EvL (tLc (iZipM K ta) (gTup K 2 (gCons (gName i) (gCons (gName j) gNil))) tYes te vs) σ H ((List.range xs.length).map fun m => f (xs.getD m .non) (ys.getD m .non)) := fun H1 e1 Q q =>
  ha H1 e1 _ fun H2 e2 => ⟨a, b, xs, ys, rfl, ex_l (e1.trans e2) hx, ex_t (e1.trans e2) hy, fun D hD => lc_it (walk_zipM hl) (fun m H' => Ex H2 H' ∧ H' D = some (.lst ((List.range m).map fun m => f (xs.getD m .non) (ys.getD m .non))))
    ⟨Ex.new hD, upd_same⟩ (fun m H' _ h => ⟨ex_l ((e1.trans e2).trans h.1) hx, ex_t ((e1.trans e2).trans h.1) hy⟩) (fun m v H3 H4 hm h y => by
      obtain ⟨e3, h3⟩ := h
      obtain ⟨T, x, y', rfl, hT, rfl, hx1, hy1⟩ := y
      have eT := Ex.new (o := .tup [x, y']) hT
      refine ⟨T, _, rfl, st_of upd_same, rfl, _, _, rfl, ⟨_, _, rfl, ⟨rfl, ?_⟩⟩⟩
      refine ⟨hw _ _, ?_⟩
      refine yes_lc ?_
      rw [if_pos rfl]
      refine (he m x y' _ hx1 hy1 (((e1.trans e2).trans e3).trans eT)) _ (Ex.refl _) _ fun H5 e5 => ?_
      refine ⟨_, e5 _ _ (eT _ _ h3), sz_lt (by rw [List.length_map, List.length_range]; omega), Ex.mut ((e3.trans eT).trans e5) hD, ?_⟩
      have hxd : xs.getD m .non = x := by
        have : xs[m]? = some x := hx1
        rw [List.getD_eq_getElem?_getD, this]
        rfl
      have hyd : ys.getD m .non = y' := by
        have : ys[m]? = some y' := hy1
        rw [List.getD_eq_getElem?_getD, this]
        rfl
      rw [upd_same, List.range_succ, List.map_append]
      show some (HO.lst (_ ++ [f x y'])) = some (HO.lst (_ ++ [f (xs.getD m .non) (ys.getD m .non)]))
      rw [hxd, hyd]) (fun H3 h => q D H3 (fresh_back e2 hD) (e2.trans h.1) h.2)⟩
theorem q_asgR' {i : Nat} (h : te σ H fun v H1 => tz D (σ.set i (some v)) H1) : tSeq (tAsg te (gName i)) tz D σ H := h
theorem q_dropR' {te : TE} (h : te σ H fun _ H1 => tz D σ H1) : tSeq (tDrop te) tz D σ H := h
theorem m_meth' {tA : TA} {a dx : Addr} {fl : List (Str × V)} {m : Str} {Q : VK} (ha : Ev te σ H (.ref a)) (h : H a = some (.ins C dx fl)) (hl : fl.lookup m = none) (k : ∀ H1, Ex H H1 → tA σ H1 fun vs H2 => sp (.ref a :: (vs ++ [])) H2 Q E) : tMeth C m sp [] E te tA σ H Q := ha H (Ex.refl H) _ fun H1 e1 => ⟨a, dx, fl, rfl, e1 _ _ h, hl, k H1 e1⟩
theorem s_methD0' {tA : TA} {a dx : Addr} {fl : List (Str × V)} {m : Str} (ha : Ev te σ H (.ref a)) (h : H a = some (.ins C dx fl)) (hl : fl.lookup m = none) (k : ∀ H1, Ex H H1 → tA σ H1 fun vs H2 => sp (.ref a :: (vs ++ [])) H2 (fun _ H3 => D.nx σ H3) E) : tDrop (tMeth C m sp [] E te tA) D σ H := ha H (Ex.refl H) _ fun H1 e1 => ⟨a, dx, fl, rfl, e1 _ _ h, hl, k H1 e1⟩
theorem m_consCall2' {tA tr : TA} {sp : Sp} {E : XK} {ws : List V} {Q : List V → Hp → Prop} (h : EvA tA σ H ws) (k : ∀ H1, Ex H H1 → sp (ws ++ []) H1 (fun x H2 => tr σ H2 fun xs H3 => Q (x :: xs) H3) E) : tCons (tCall sp [] E tA) tr σ H Q := h H (Ex.refl H) _ k
theorem m_prop {a dx : Addr} {fl : List (Str × V)} {Q : VK} (ha : Ev te σ H (.ref a)) (h : H a = some (.ins C dx fl)) (k : ∀ H1, Ex H H1 → sp [.ref a] H1 Q E) : tProp C sp [] E te σ H Q := ha H (Ex.refl H) _ fun H1 e1 => ⟨a, dx, fl, rfl, e1 _ _ h, k H1 e1⟩
theorem ev_prop {a dx : Addr} {fl : List (Str × V)} {v : V} (ha : Ev te σ H (.ref a)) (h : H a = some (.ins C dx fl)) (k : ∀ H1, Ex H H1 → ∀ Q : VK, (∀ H2, Ex H1 H2 → Q v H2) → sp [.ref a] H1 Q E) : Ev (tProp C sp [] E te) σ H v := fun H1 e Q q => ha H1 e _ fun H2 e2 => ⟨a, dx, fl, rfl, (e.trans e2) _ _ h, k H2 (e.trans e2) Q fun H3 e3 => q H3 (e2.trans e3)⟩
end
def spMInit (K : PySem.W.Frag) (C : Addr) : Sp := fun vs H Q _ => ∃ (B : Hp) (x ma dx : Addr) (fs rs : List Nat), vs = [.ref x, .ref ma] ∧ Ex B H ∧ B x = none ∧ H x = some (.ins C dx []) ∧ MaT K B ma fs rs ∧ MaOk fs rs ∧
  ∀ H' la ct, MillF K C B H' x ma dx la ct fs rs fs (List.replicate fs.length 0) 0 → Q .non H'
def spGoOn (K : PySem.W.Frag) (C : Addr) : Sp := fun vs H Q _ => ∃ (B : Hp) (x ma dx la ct la' : Addr) (fs rs ls ls' : List Nat) (hs : List Int) (t : Nat), vs = [.ref x, .ref la'] ∧ MillF K C B H x ma dx la ct fs rs ls hs t ∧ SqT K H la' (nV ls') ∧
  ∀ H', MillF K C B H' x ma dx la' ct fs rs ls' hs (t + 1) → Q .non H'
def spTick (K : PySem.W.Frag) (C : Addr) : Sp := fun vs H Q _ => ∃ (B : Hp) (x ma dx la ct : Addr) (fs rs ls : List Nat) (hs : List Int) (t : Nat), vs = [.ref x] ∧ MillF K C B H x ma dx la ct fs rs ls hs t ∧ ∀ H', Ex H H' → Q (.int (t : Nat)) H'
def spFresh (K : PySem.W.Frag) (C : Addr) : Sp := fun vs H Q _ => ∃ (B : Hp) (x ma dx la ct : Addr) (fs rs ls : List Nat) (hs : List Int) (t : Nat), vs = [.ref x] ∧ MillF K C B H x ma dx la ct fs rs ls hs t ∧ ∀ H', Ex H H' → Q (.ref la) H'
def spHeld (K : PySem.W.Frag) (C : Addr) : Sp := fun vs H Q _ => ∃ (B : Hp) (x ma dx la ct : Addr) (fs rs ls : List Nat) (hs : List Int) (t : Nat), vs = [.ref x] ∧ MillF K C B H x ma dx la ct fs rs ls hs t ∧ hs.length = ls.length ∧ hs.length ≤ 10 ∧ ∀ u H', H u = none → Ex H H' → H' u = some (.tup (hV hs ls)) → Q (.ref u) H'
def spRead (K : PySem.W.Frag) (C : Addr) : Sp := fun vs H Q _ => ∃ (B : Hp) (x ma dx la ct : Addr) (fs rs ls : List Nat) (hs : List Int) (t c : Nat), vs = [.ref x, .int (c : Nat)] ∧ MillF K C B H x ma dx la ct fs rs ls hs t ∧ MaOk fs rs ∧ hs.length = fs.length ∧ ls.length = fs.length ∧ c < fs.length ∧
  ∀ H' la', MillF K C B H' x ma dx la' ct fs rs (touchL fs rs ls c) hs (t + 1) → Q (if ls.getD c 0 > 0 then .int (hs.getD c 0) else .non) H'
def spWrite (K : PySem.W.Frag) (C : Addr) : Sp := fun vs H Q _ => ∃ (B : Hp) (x ma dx la ct : Addr) (fs rs ls : List Nat) (hs : List Int) (t c : Nat) (v : Int), vs = [.ref x, .int (c : Nat), .int v] ∧ MillF K C B H x ma dx la ct fs rs ls hs t ∧ MaOk fs rs ∧ hs.length = fs.length ∧ ls.length = fs.length ∧ c < fs.length ∧
  ∀ H' la', MillF K C B H' x ma dx la' ct fs rs (setL fs rs ls c) (hs.set c v) (t + 1) → Q .non H'
def spTouch (K : PySem.W.Frag) (C : Addr) : Sp := fun vs H Q _ => ∃ (B : Hp) (x ma dx la ct : Addr) (fs rs ls : List Nat) (hs : List Int) (t c : Nat), vs = [.ref x, .int (c : Nat)] ∧ MillF K C B H x ma dx la ct fs rs ls hs t ∧ MaOk fs rs ∧ ls.length = fs.length ∧ c < fs.length ∧
  ∀ H' la', MillF K C B H' x ma dx la' ct fs rs (touchL fs rs ls c) hs (t + 1) → Q .non H'
def spWait (K : PySem.W.Frag) (C : Addr) : Sp := fun vs H Q _ => ∃ (B : Hp) (x ma dx la ct : Addr) (fs rs ls : List Nat) (hs : List Int) (t : Nat), vs = [.ref x] ∧ MillF K C B H x ma dx la ct fs rs ls hs t ∧ ls.length ≤ 10 ∧
  ∀ H' la', MillF K C B H' x ma dx la' ct fs rs (waitL ls) hs (t + 1) → Q .non H'
def spWhole (K : PySem.W.Frag) : Sp := fun vs H Q _ => ∃ n : Int, vs = [.int n] ∧ ∀ H', Ex H H' → Q .non H'
section
variable {P : Program} {w : World} {K : PySem.W.Frag} {mg : Str → Option Value} {base : Heap} {C : Addr}
abbrev s_check_whole : Stmt := top 10
theorem sc_check_whole : FnScope ["value"] ["value"] (defScope s_check_whole) := ⟨rfl, rfl, rfl, by decide +kernel, rfl, by decide +kernel, by decide +kernel⟩
theorem ok_check_whole {f f1 : Addr} {fd fd1 : FuncData} (F : Fun K "check_whole" "check_whole" s_check_whole f fd) (T : Txt K mg) (C_is_whole : Cal P w K mg base CX0 1 "is_whole" f1 fd1 ["value"] (spIsWhole K)) : FnOk P w K mg base CX0 2 f fd ["value"] (spWhole K) := by
  refine F.ok sc_check_whole (fun vs H Q E h => ?_) (fun cdv A outer s H vs Q E hr h => ?_)
  · obtain ⟨_, rfl, _⟩ := h
    rfl
  · obtain ⟨n, rfl, k⟩ := h
    refine ⟨_, (pss_one (ps_if (pt_not (pt_val (pe_call C_is_whole.G (hr.mono (by first | decide | omega)) rfl C_is_whole.g C_is_whole.kp C_is_whole.b .nil pass0 (pa_cons (pv 0) pa_nil)))) (pss_one ps_never) pss_nil)), ?_⟩
    exact s_when (b := false) (et_not (a := true) (et_B (ev_callV (ea_cons (ev_var rfl) ea_nil) fun H1 e1 Q' q => ⟨_, some n, rfl, rfl, q⟩))) (fun z => nomatch z) fun _ H1 e1 => k H1 e1
abbrev s_Mill___init__ : Stmt := inClass (top 21) 0
theorem sc_Mill___init__ : FnScope ["self", "machine"] ["self", "machine"] (defScope s_Mill___init__) := ⟨rfl, rfl, rfl, by decide +kernel, rfl, by decide +kernel, by decide +kernel⟩
--TY Mill.__init__ {'self':('inst','Mill'),'machine':('tuple',('tuple','int'))}
theorem ok_minit {f f1 : Addr} {fd fd1 : FuncData} (F : Fun K "__init__" "Mill.__init__" s_Mill___init__ f fd) (T : Txt K mg) (T_Mill : MillT K C) (C_check_machine : Cal P w K mg base CX0 4 "check_machine" f1 fd1 ["value"] (spChkMa K)) : FnOk P w K mg base CX0 5 f fd ["self", "machine"] (spMInit K C) := by
  refine F.ok sc_Mill___init__ (fun vs H Q E h => ?_) (fun cdv A outer s H vs Q E hr h => ?_)
  · obtain ⟨_, _, _, _, _, _, rfl, _⟩ := h
    rfl
  · obtain ⟨B, x, ma, dx, fs, rs, rfl, eB, x0, hx, hm, hok, k⟩ := h
    refine ⟨_, (pss_cons (ps_expr (pe_call C_check_machine.G (hr.mono (by first | decide | omega)) rfl C_check_machine.g C_check_machine.kp C_check_machine.b .nil pass0 (pa_cons (pv 1) pa_nil)))
  (pss_cons (ps_fld (pv 0) (pv 1) rfl)
  (pss_cons (ps_fld (pv 0) (pe_ix (ix_K (K := K) rfl) (pv 1) pe_int (fun _ _ => rfl)) rfl)
  (pss_cons (ps_fld (pv 0) (pe_op op_rep (pe_lst (pa_cons pe_int pa_nil)) (pe_callB (len_K (K := K) rfl) (by rfl) T.z_len (by decide +kernel) (pa_cons (pe_ix (ix_K (K := K) rfl) (pv 1) pe_int (fun _ _ => rfl)) pa_nil))) rfl)
  (pss_one (ps_fld (pv 0) pe_int rfl)))))), ?_⟩
    have hl4 := hok.l4
    refine q_call (ea_cons (ev_var rfl) ea_nil) fun H1 e1 => ⟨ma, fs, rs, rfl, hm.up (eB.trans e1), hok, fun H2 e2 => ?_⟩
    have e02 := e1.trans e2
    refine q_setF (ev_var rfl) (ev_var rfl) (e02 _ _ hx) T_Mill.cl T_Mill.n_machine (by show 0 < 1000; decide) fun H3 e3 => ?_
    have x3 : upd H3 x (.ins C dx (putF "machine" (.ref ma) [])) x = some (.ins C dx (putF "machine" (.ref ma) [])) := upd_same
    have eB3 : Ex B (upd H3 x (.ins C dx (putF "machine" (.ref ma) []))) := Ex.mut ((eB.trans e02).trans e3) x0
    generalize upd H3 x (.ins C dx (putF "machine" (.ref ma) [])) = H4 at x3 eB3 ⊢
    obtain ⟨a, b, hm1, ha, hb⟩ := hm
    refine q_setF (v := .ref a) (ev_ixT (ev_var rfl) ev_c (ex_t eB3 hm1) rfl) (ev_var rfl) x3 T_Mill.cl T_Mill.n_lives (by show 1 < 1000; decide) fun H5 e5 => ?_
    generalize hF2 : putF "lives" (.ref a) (putF "machine" (.ref ma) []) = F2
    have l2 : F2.length = 2 := by rw [← hF2]; kernel_rfl
    have x6 : upd H5 x (.ins C dx F2) x = some (.ins C dx F2) := upd_same
    have eB6 : Ex B (upd H5 x (.ins C dx F2)) := Ex.mut (eB3.trans e5) x0
    generalize upd H5 x (.ins C dx F2) = H6 at x6 eB6 ⊢
    refine q_setFL (xs := (List.replicate fs.length [V.int 0]).flatten) (el_rep (xs := [.int 0]) (k := fs.length) (el_lst (ea_cons ev_c ea_nil) (by show 1 ≤ 100000; decide)) (fun H1 e1 => by
      have := ev_lnT (ev_ixT (ev_var rfl) ev_c (ex_t (eB6.trans e1) hm1) rfl) (ex_t (eB6.trans e1) ha) (σ := L2.start ["self", "machine"] [.ref x, .ref ma]) (ta := tOp (rIx K) (tVar 1) (tC (.int 0)))
      rw [nV_len] at this
      exact this) (by show 1 * fs.length ≤ 100000; omega) (by omega)) (fun H1 e1 => ev_var rfl) x6 T_Mill.cl T_Mill.n_contents (by rw [l2]; decide) fun ct H7 hct e7 h7 => ?_
    rw [flat_rep] at h7
    generalize hF3 : putF "contents" (.ref ct) F2 = F3
    have l3 : F3.length = 3 := by rw [← hF3, ← hF2]; kernel_rfl
    have xct : x ≠ ct := fun z => by rw [← z, x6] at hct; cases hct
    have x8 : upd H7 x (.ins C dx F3) x = some (.ins C dx F3) := upd_same
    have eB8 : Ex B (upd H7 x (.ins C dx F3)) := Ex.mut (eB6.trans e7) x0
    have h8 : upd H7 x (.ins C dx F3) ct = some (.lst ((List.replicate fs.length (0 : Int)).map V.int)) := by rw [upd_ne xct.symm]; exact h7
    generalize upd H7 x (.ins C dx F3) = H8 at x8 eB8 h8 ⊢
    refine s_setF ev_c (ev_var rfl) x8 T_Mill.cl T_Mill.n_ticks (by rw [l3]; decide) fun H9 e9 => ?_
    have eB9 : Ex B (upd H9 x (.ins C dx (putF "ticks" (.int 0) F3))) := Ex.mut (eB8.trans e9) x0
    refine k _ a ct ⟨eB9, x0, fresh_back eB6 hct, xct, ⟨a, b, hm1, ha, hb⟩, ?_, ex_t eB9 ha, ?_⟩
    · rw [upd_same, ← hF3, ← hF2]
      exact congrArg (fun z => some (HO.ins C dx z)) mlf_made
    · rw [upd_ne xct.symm]
      exact e9 _ _ h8
abbrev s_Mill_tick : Stmt := inClass (top 21) 1
theorem sc_Mill_tick : FnScope ["self"] ["self"] (defScope s_Mill_tick) := ⟨rfl, rfl, rfl, by decide +kernel, rfl, by decide +kernel, by decide +kernel⟩
--TY Mill.tick {'self':('inst','Mill')}
theorem ok_mtick {f : Addr} {fd : FuncData} (F : Fun K "tick" "Mill.tick" s_Mill_tick f fd) (T : Txt K mg) (T_Mill : MillT K C) : FnOk P w K mg base CX0 1 f fd ["self"] (spTick K C) := by
  refine F.ok sc_Mill_tick (fun vs H Q E h => ?_) (fun cdv A outer s H vs Q E hr h => ?_)
  · obtain ⟨_, _, _, _, _, _, _, _, _, _, _, rfl, _⟩ := h
    rfl
  · obtain ⟨B, x, ma, dx, la, ct, fs, rs, ls, hs, t, rfl, M, k⟩ := h
    exact ⟨_, (pss_one (ps_ret (pe_fld (pv 0) rfl))), s_ret (ev_fld (ev_var rfl) M.obj T_Mill.cl T_Mill.n_ticks mlf_ticks) fun H1 e1 => k H1 e1⟩
abbrev s_Mill_fresh : Stmt := inClass (top 21) 2
theorem sc_Mill_fresh : FnScope ["self"] ["self"] (defScope s_Mill_fresh) := ⟨rfl, rfl, rfl, by decide +kernel, rfl, by decide +kernel, by decide +kernel⟩
--TY Mill.fresh {'self':('inst','Mill')}
theorem ok_mfresh {f : Addr} {fd : FuncData} (F : Fun K "fresh" "Mill.fresh" s_Mill_fresh f fd) (T : Txt K mg) (T_Mill : MillT K C) : FnOk P w K mg base CX0 1 f fd ["self"] (spFresh K C) := by
  refine F.ok sc_Mill_fresh (fun vs H Q E h => ?_) (fun cdv A outer s H vs Q E hr h => ?_)
  · obtain ⟨_, _, _, _, _, _, _, _, _, _, _, rfl, _⟩ := h
    rfl
  · obtain ⟨B, x, ma, dx, la, ct, fs, rs, ls, hs, t, rfl, M, k⟩ := h
    exact ⟨_, (pss_one (ps_ret (pe_fld (pv 0) rfl))), s_ret (ev_fld (ev_var rfl) M.obj T_Mill.cl T_Mill.n_lives mlf_lives) fun H1 e1 => k H1 e1⟩
abbrev s_Mill_held : Stmt := inClass (top 21) 3
theorem sc_Mill_held : FnScope ["self", "number", "life"] ["self"] (defScope s_Mill_held) := ⟨rfl, rfl, rfl, by decide +kernel, rfl, by decide +kernel, by decide +kernel⟩
--TY Mill.held {'self':('inst','Mill'),'.contents':('list','int'),'.lives':('tuple','int'),'number':'int','life':'int'}
theorem ok_mheld {f : Addr} {fd : FuncData} (F : Fun K "held" "Mill.held" s_Mill_held f fd) (T : Txt K mg) (T_Mill : MillT K C) : FnOk P w K mg base CX0 1 f fd ["self"] (spHeld K C) := by
  refine F.ok sc_Mill_held (fun vs H Q E h => ?_) (fun cdv A outer s H vs Q E hr h => ?_)
  · obtain ⟨_, _, _, _, _, _, _, _, _, _, _, rfl, _⟩ := h
    rfl
  · obtain ⟨B, x, ma, dx, la, ct, fs, rs, ls, hs, t, rfl, M, hlen, h10, k⟩ := h
    refine ⟨_, (pss_one (ps_ret (pe_callTy (tpl_K (K := K) rfl) (by rfl) T.z_tuple (by decide +kernel) (pa_cons (pe_lc (own := [("number", 1), ("life", 2)]) (g := gTup K 2 (gCons (gName 1) (gCons (gName 2) gNil))) rfl sc_Mill_held.nd (pi_zipM (by rfl) T.z_zip (pa_cons (pe_fld (pv 0) rfl) (pa_cons (pe_fld (pv 0) rfl) pa_nil))) (blkOk_by (by kernel_rfl)) (fun _ _ _ _ _ => pg_tupK (K := K) rfl rfl (pgs_cons (pg_name (i := 1) sc_Mill_held.nd rfl (by first | exact Or.inl rfl | exact Or.inr rfl)) (pgs_cons (pg_name (i := 2) sc_Mill_held.nd rfl (by first | exact Or.inl rfl | exact Or.inr rfl)) pgs_nil))) (fun _ _ _ _ _ => pts_nil) (fun _ _ _ _ _ => (pe_ifExp (pt_cmpR op_gt (pv 2) pe_int (nomark _)) (pv 1) pe_non))) pa_nil)))), ?_⟩
    refine s_retU (xs := hV hs ls) (eu_tplN ?_) fun u H1 hu e1 h1 => k u H1 hu e1 h1
    rw [← hV_zip hlen]
    refine el_lcZM (ea_cons (ev_fld (ev_var rfl) M.obj T_Mill.cl T_Mill.n_contents mlf_contents) (ea_cons (ev_fld (ev_var rfl) M.obj T_Mill.cl T_Mill.n_lives mlf_lives) ea_nil)) (sq_of M.hc) M.hl (by rw [List.length_map, nV_len]; exact hlen) (fun y z => rfl) (by rw [List.length_map]; omega) (fun m y z H1 hy hz e1 => ?_)
    obtain ⟨u, hu, rfl⟩ := nV_get hz
    refine ev_if (b := decide ((u : Int) > 0)) (et_i0 (ev_var rfl) ev_c) (fun hb => ?_) (fun hb => ?_)
    · show Ev _ _ _ (if ((u : Nat) : Int) > 0 then y else .non)
      rw [if_pos (of_decide_eq_true hb)]
      exact ev_var rfl
    · show Ev _ _ _ (if ((u : Nat) : Int) > 0 then y else .non)
      rw [if_neg (of_decide_eq_false hb)]
      exact ev_c
abbrev s_Mill_go_on : Stmt := inClass (top 21) 4
theorem sc_Mill_go_on : FnScope ["self", "lives"] ["self", "lives"] (defScope s_Mill_go_on) := ⟨rfl, rfl, rfl, by decide +kernel, rfl, by decide +kernel, by decide +kernel⟩
--TY Mill.go_on {'self':('inst','Mill'),'lives':T}
theorem ok_mgo {f : Addr} {fd : FuncData} (F : Fun K "go_on" "Mill.go_on" s_Mill_go_on f fd) (T : Txt K mg) (T_Mill : MillT K C) : FnOk P w K mg base CX0 1 f fd ["self", "lives"] (spGoOn K C) := by
  refine F.ok sc_Mill_go_on (fun vs H Q E h => ?_) (fun cdv A outer s H vs Q E hr h => ?_)
  · obtain ⟨_, _, _, _, _, _, _, _, _, _, _, _, _, rfl, _⟩ := h
    rfl
  · obtain ⟨B, x, ma, dx, la, ct, la', fs, rs, ls, ls', hs, t, rfl, M, hl', k⟩ := h
    refine ⟨_, (pss_cons (ps_fld (pv 0) (pv 1) rfl)
  (pss_one (ps_fldaug (pv 0) pe_int in_add))), ?_⟩
    refine q_setF (ev_var rfl) (ev_var rfl) M.obj T_Mill.cl T_Mill.n_lives (by show 4 < 1000; decide) fun H1 e1 => ?_
    rw [mlf_set_lives]
    have M1 := (M.up e1).put (ex_t e1 hl') t
    refine s_augF (g := fun i j => i + j) (ev_var rfl) M1.obj T_Mill.cl T_Mill.n_ticks mlf_ticks ev_c (by show 4 < 1000; decide) fun H2 e2 => ?_
    rw [mlf_set_ticks]
    exact k _ ((M1.up e2).put (M1.up e2).hl (t + 1))
abbrev s_Mill_read : Stmt := inClass (top 21) 5
theorem sc_Mill_read : FnScope ["self", "cell", "number"] ["self", "cell"] (defScope s_Mill_read) := ⟨rfl, rfl, rfl, by decide +kernel, rfl, by decide +kernel, by decide +kernel⟩
--TY Mill.read {'self':('inst','Mill'),'.machine':T,'.held':T,'.lives':T,'cell':'int'}
theorem ok_mread {f f1 f2 f3 f4 pa : Addr} {fd fd1 fd2 fd3 fd4 : FuncData} (F : Fun K "read" "Mill.read" s_Mill_read f fd) (T : Txt K mg) (T_Mill : MillT K C) (C_check_cell : Cal P w K mg base CX0 4 "check_cell" f1 fd1 ["machine", "value"] (spChkCe K)) (M_Mill_held : PCal P w K mg base C 1 "held" pa f2 fd2 ["self"] (spHeld K C)) (M_Mill_go_on : MCal P w K mg base C 1 "go_on" f3 fd3 ["self", "lives"] (spGoOn K C)) (C_lives_touched : Cal P w K mg base CX0 2 "lives_touched" f4 fd4 ["machine", "lives", "cell"] (spTouched K)) : FnOk P w K mg base CX0 5 f fd ["self", "cell"] (spRead K C) := by
  refine F.ok sc_Mill_read (fun vs H Q E h => ?_) (fun cdv A outer s H vs Q E hr h => ?_)
  · obtain ⟨_, _, _, _, _, _, _, _, _, _, _, _, rfl, _⟩ := h
    rfl
  · obtain ⟨B, x, ma, dx, la, ct, fs, rs, ls, hs, t, c, rfl, M, hok, hhs, hls, hc, k⟩ := h
    refine ⟨_, (pss_cons (ps_expr (pe_call C_check_cell.G (hr.mono (by first | decide | omega)) rfl C_check_cell.g C_check_cell.kp C_check_cell.b .nil pass0 (pa_cons (pe_fld (pv 0) rfl) (pa_cons (pv 1) pa_nil))))
  (pss_cons (ps_set (i := 2) sc_Mill_read.nd rfl (Or.inl rfl) (pe_ix (ix_K (K := K) rfl) (pe_prop (pv 0) T_Mill.cl M_Mill_held.p M_Mill_held.G (hr.mono (by first | decide | omega)) M_Mill_held.b .nil pass0 rfl) (pv 1) (fun _ _ => rfl)))
  (pss_cons (ps_expr (pe_meth (pv 0) T_Mill.cl M_Mill_go_on.m M_Mill_go_on.G (hr.mono (by first | decide | omega)) M_Mill_go_on.b .nil pass0 (pa_cons (pe_call C_lives_touched.G (hr.mono (by first | decide | omega)) rfl C_lives_touched.g C_lives_touched.kp C_lives_touched.b .nil pass0 (pa_cons (pe_fld (pv 0) rfl) (pa_cons (pe_fld (pv 0) rfl) (pa_cons (pv 1) pa_nil)))) pa_nil)))
  (pss_one (ps_ret (pv 2)))))), ?_⟩
    have hll := hok.ll
    have hl4 := hok.l4
    refine q_call (ea_cons (ev_fld (ev_var rfl) M.obj T_Mill.cl T_Mill.n_machine mlf_machine) (ea_cons (ev_var rfl) ea_nil)) fun H1 e1 => ⟨ma, fs, rs, c, rfl, (M.up e1).mm, hok, by omega, fun H2 e2 => ?_⟩
    have M2 := M.up (e1.trans e2)
    refine q_asgR' ?_
    refine m_prop (ev_var rfl) M2.obj fun H3 e3 => ⟨B, x, ma, dx, la, ct, fs, rs, ls, hs, t, rfl, M2.up e3, by omega, by omega, fun u H4 hu e4 h4 => ?_⟩
    have M4 := M2.up (e3.trans e4)
    refine (ev_var rfl) H4 (Ex.refl _) _ fun H5 e5 => .inr (.inl ⟨u, _, _, _, rfl, rfl, st_of (e5 _ _ h4), hV_at (by omega), ?_⟩)
    have M5 := M4.up e5
    refine q_dropR' ?_
    refine m_meth' (ev_var rfl) M5.obj mlf_no_go_on fun H6 e6 => ?_
    refine m_consCall2' (ea_cons (ev_fld (ev_var rfl) (M5.up e6).obj T_Mill.cl T_Mill.n_machine mlf_machine) (ea_cons (ev_fld (ev_var rfl) (M5.up e6).obj T_Mill.cl T_Mill.n_lives mlf_lives) (ea_cons (ev_var rfl) ea_nil))) fun H7 e7 => ?_
    have M7 := (M5.up e6).up e7
    refine ⟨ma, la, fs, rs, ls, c, rfl, M7.mm, M7.hl, hll, by omega, by omega, by omega, fun b H8 hb e8 h8 => ?_⟩
    refine ⟨B, x, ma, dx, la, ct, b, fs, rs, ls, touchL fs rs ls c, hs, t, rfl, M7.up e8, st_of h8, fun H9 M9 => ?_⟩
    exact s_ret (ev_var rfl) fun H10 e10 => k H10 b (M9.up e10)
abbrev s_Mill_write : Stmt := inClass (top 21) 6
theorem sc_Mill_write : FnScope ["self", "cell", "value"] ["self", "cell", "value"] (defScope s_Mill_write) := ⟨rfl, rfl, rfl, by decide +kernel, rfl, by decide +kernel, by decide +kernel⟩
--TY Mill.write {'self':('inst','Mill'),'.machine':T,'.contents':('list','int'),'.lives':T,'cell':'int','value':'int'}
theorem ok_mwrite {f f1 f2 f3 f4 : Addr} {fd fd1 fd2 fd3 fd4 : FuncData} (F : Fun K "write" "Mill.write" s_Mill_write f fd) (T : Txt K mg) (T_Mill : MillT K C) (C_check_cell : Cal P w K mg base CX0 4 "check_cell" f1 fd1 ["machine", "value"] (spChkCe K)) (C_check_whole : Cal P w K mg base CX0 2 "check_whole" f2 fd2 ["value"] (spWhole K)) (M_Mill_go_on : MCal P w K mg base C 1 "go_on" f3 fd3 ["self", "lives"] (spGoOn K C)) (C_lives_set : Cal P w K mg base CX0 3 "lives_set" f4 fd4 ["machine", "lives", "cell"] (spSet K)) : FnOk P w K mg base CX0 5 f fd ["self", "cell", "value"] (spWrite K C) := by
  refine F.ok sc_Mill_write (fun vs H Q E h => ?_) (fun cdv A outer s H vs Q E hr h => ?_)
  · obtain ⟨_, _, _, _, _, _, _, _, _, _, _, _, _, rfl, _⟩ := h
    rfl
  · obtain ⟨B, x, ma, dx, la, ct, fs, rs, ls, hs, t, c, v, rfl, M, hok, hhs, hls, hc, k⟩ := h
    refine ⟨_, (pss_cons (ps_expr (pe_call C_check_cell.G (hr.mono (by first | decide | omega)) rfl C_check_cell.g C_check_cell.kp C_check_cell.b .nil pass0 (pa_cons (pe_fld (pv 0) rfl) (pa_cons (pv 1) pa_nil))))
  (pss_cons (ps_expr (pe_call C_check_whole.G (hr.mono (by first | decide | omega)) rfl C_check_whole.g C_check_whole.kp C_check_whole.b .nil pass0 (pa_cons (pv 2) pa_nil)))
  (pss_cons (ps_asg (pv 2) (pg_sub (pe_fld (pv 0) rfl) (pv 1) set_list))
  (pss_one (ps_expr (pe_meth (pv 0) T_Mill.cl M_Mill_go_on.m M_Mill_go_on.G (hr.mono (by first | decide | omega)) M_Mill_go_on.b .nil pass0 (pa_cons (pe_call C_lives_set.G (hr.mono (by first | decide | omega)) rfl C_lives_set.g C_lives_set.kp C_lives_set.b .nil pass0 (pa_cons (pe_fld (pv 0) rfl) (pa_cons (pe_fld (pv 0) rfl) (pa_cons (pv 1) pa_nil)))) pa_nil))))))), ?_⟩
    have hll := hok.ll
    have hl4 := hok.l4
    refine q_call (ea_cons (ev_fld (ev_var rfl) M.obj T_Mill.cl T_Mill.n_machine mlf_machine) (ea_cons (ev_var rfl) ea_nil)) fun H1 e1 => ⟨ma, fs, rs, c, rfl, (M.up e1).mm, hok, by omega, fun H2 e2 => ?_⟩
    have M2 := M.up (e1.trans e2)
    refine q_call (ea_cons (ev_var rfl) ea_nil) fun H3 e3 => ⟨v, rfl, fun H4 e4 => ?_⟩
    have M4 := M2.up (e3.trans e4)
    refine q_setL M4.hc (ev_var rfl) (ev_fld (ev_var rfl) M4.obj T_Mill.cl T_Mill.n_contents mlf_contents) (ev_var rfl) (by rw [List.length_map]; omega) fun H5 e5 => ?_
    have M5 := (M4.up e5).putC (hs.set c v)
    rw [List.map_set] at M5
    generalize upd H5 ct (.lst ((hs.map V.int).set c (.int v))) = H6 at M5 ⊢
    refine s_methD0' (ev_var rfl) M5.obj mlf_no_go_on fun H7 e7 => ?_
    refine m_consCall2' (ea_cons (ev_fld (ev_var rfl) (M5.up e7).obj T_Mill.cl T_Mill.n_machine mlf_machine) (ea_cons (ev_fld (ev_var rfl) (M5.up e7).obj T_Mill.cl T_Mill.n_lives mlf_lives) (ea_cons (ev_var rfl) ea_nil))) fun H8 e8 => ?_
    have M8 := (M5.up e7).up e8
    refine ⟨ma, la, fs, rs, ls, c, rfl, M8.mm, M8.hl, hll, by omega, by omega, by omega, fun b H9 hb e9 h9 => ?_⟩
    refine ⟨B, x, ma, dx, la, ct, b, fs, rs, ls, setL fs rs ls c, _, t, rfl, M8.up e9, st_of h9, fun H10 M10 => k H10 b M10⟩
abbrev s_Mill_touch : Stmt := inClass (top 21) 7
theorem sc_Mill_touch : FnScope ["self", "cell"] ["self", "cell"] (defScope s_Mill_touch) := ⟨rfl, rfl, rfl, by decide +kernel, rfl, by decide +kernel, by decide +kernel⟩
--TY Mill.touch {'self':('inst','Mill'),'.machine':T,'.lives':T,'cell':'int'}
theorem ok_mtouch {f f1 f3 f4 : Addr} {fd fd1 fd3 fd4 : FuncData} (F : Fun K "touch" "Mill.touch" s_Mill_touch f fd) (T : Txt K mg) (T_Mill : MillT K C) (C_check_cell : Cal P w K mg base CX0 4 "check_cell" f1 fd1 ["machine", "value"] (spChkCe K)) (M_Mill_go_on : MCal P w K mg base C 1 "go_on" f3 fd3 ["self", "lives"] (spGoOn K C)) (C_lives_touched : Cal P w K mg base CX0 2 "lives_touched" f4 fd4 ["machine", "lives", "cell"] (spTouched K)) : FnOk P w K mg base CX0 5 f fd ["self", "cell"] (spTouch K C) := by
  refine F.ok sc_Mill_touch (fun vs H Q E h => ?_) (fun cdv A outer s H vs Q E hr h => ?_)
  · obtain ⟨_, _, _, _, _, _, _, _, _, _, _, _, rfl, _⟩ := h
    rfl
  · obtain ⟨B, x, ma, dx, la, ct, fs, rs, ls, hs, t, c, rfl, M, hok, hls, hc, k⟩ := h
    refine ⟨_, (pss_cons (ps_expr (pe_call C_check_cell.G (hr.mono (by first | decide | omega)) rfl C_check_cell.g C_check_cell.kp C_check_cell.b .nil pass0 (pa_cons (pe_fld (pv 0) rfl) (pa_cons (pv 1) pa_nil))))
  (pss_one (ps_expr (pe_meth (pv 0) T_Mill.cl M_Mill_go_on.m M_Mill_go_on.G (hr.mono (by first | decide | omega)) M_Mill_go_on.b .nil pass0 (pa_cons (pe_call C_lives_touched.G (hr.mono (by first | decide | omega)) rfl C_lives_touched.g C_lives_touched.kp C_lives_touched.b .nil pass0 (pa_cons (pe_fld (pv 0) rfl) (pa_cons (pe_fld (pv 0) rfl) (pa_cons (pv 1) pa_nil)))) pa_nil))))), ?_⟩
    have hll := hok.ll
    have hl4 := hok.l4
    refine q_call (ea_cons (ev_fld (ev_var rfl) M.obj T_Mill.cl T_Mill.n_machine mlf_machine) (ea_cons (ev_var rfl) ea_nil)) fun H1 e1 => ⟨ma, fs, rs, c, rfl, (M.up e1).mm, hok, by omega, fun H2 e2 => ?_⟩
    have M2 := M.up (e1.trans e2)
    refine s_methD0' (ev_var rfl) M2.obj mlf_no_go_on fun H3 e3 => ?_
    refine m_consCall2' (ea_cons (ev_fld (ev_var rfl) (M2.up e3).obj T_Mill.cl T_Mill.n_machine mlf_machine) (ea_cons (ev_fld (ev_var rfl) (M2.up e3).obj T_Mill.cl T_Mill.n_lives mlf_lives) (ea_cons (ev_var rfl) ea_nil))) fun H4 e4 => ?_
    have M4 := (M2.up e3).up e4
    refine ⟨ma, la, fs, rs, ls, c, rfl, M4.mm, M4.hl, hll, by omega, by omega, by omega, fun b H5 hb e5 h5 => ?_⟩
    exact ⟨B, x, ma, dx, la, ct, b, fs, rs, ls, touchL fs rs ls c, hs, t, rfl, M4.up e5, st_of h5, fun H6 M6 => k H6 b M6⟩
abbrev s_Mill_wait : Stmt := inClass (top 21) 8
theorem sc_Mill_wait : FnScope ["self"] ["self"] (defScope s_Mill_wait) := ⟨rfl, rfl, rfl, by decide +kernel, rfl, by decide +kernel, by decide +kernel⟩
--TY Mill.wait {'self':('inst','Mill'),'.lives':T}
theorem ok_mwait {f f3 f4 : Addr} {fd fd3 fd4 : FuncData} (F : Fun K "wait" "Mill.wait" s_Mill_wait f fd) (T : Txt K mg) (T_Mill : MillT K C) (M_Mill_go_on : MCal P w K mg base C 1 "go_on" f3 fd3 ["self", "lives"] (spGoOn K C)) (C_lives_waited : Cal P w K mg base CX0 2 "lives_waited" f4 fd4 ["lives"] (spWaited K)) : FnOk P w K mg base CX0 5 f fd ["self"] (spWait K C) := by
  refine F.ok sc_Mill_wait (fun vs H Q E h => ?_) (fun cdv A outer s H vs Q E hr h => ?_)
  · obtain ⟨_, _, _, _, _, _, _, _, _, _, _, rfl, _⟩ := h
    rfl
  · obtain ⟨B, x, ma, dx, la, ct, fs, rs, ls, hs, t, rfl, M, hls, k⟩ := h
    refine ⟨_, (pss_one (ps_expr (pe_meth (pv 0) T_Mill.cl M_Mill_go_on.m M_Mill_go_on.G (hr.mono (by first | decide | omega)) M_Mill_go_on.b .nil pass0 (pa_cons (pe_call C_lives_waited.G (hr.mono (by first | decide | omega)) rfl C_lives_waited.g C_lives_waited.kp C_lives_waited.b .nil pass0 (pa_cons (pe_fld (pv 0) rfl) pa_nil)) pa_nil)))), ?_⟩
    refine s_methD0' (ev_var rfl) M.obj mlf_no_go_on fun H3 e3 => ?_
    refine m_consCall2' (ea_cons (ev_fld (ev_var rfl) (M.up e3).obj T_Mill.cl T_Mill.n_lives mlf_lives) ea_nil) fun H4 e4 => ?_
    have M4 := (M.up e3).up e4
    refine ⟨la, ls, rfl, M4.hl, hls, fun b H5 hb e5 h5 => ?_⟩
    exact ⟨B, x, ma, dx, la, ct, b, fs, rs, ls, waitL ls, hs, t, rfl, M4.up e5, st_of h5, fun H6 M6 => k H6 b M6⟩
end
end Fm
set_option Elab.async false
set_option linter.all false
set_option maxRecDepth 100000
set_option maxHeartbeats 1000000
namespace Fm
open PySem L2 Evl
/-- an own class that says no more than its name, under ValueError -/
structure BaseE (K : PySem.W.Frag) (mg : Str → Option Value) (x : Str) (C : Addr) : Prop where
  gC : mg x = some (.ref C)
  kC : PySem.W.keepIn K (.ref C) = true
  q : PySem.W.excIn K C [.type "ValueError", .type "Exception", .type "BaseException", .type "object"] "ValueError.__new__" = true
  ex : PySem.W.subIn K (.ref C) (.type "BaseException") = some true
  ty : PySem.W.typeIn K (.ref C) = some (.type "type")
  te : PySem.W.exmOne K (.ref C) (.ref C) = some true
def ErrB (C : Addr) (H : Hp) (E : XK) : Prop := ∀ H', Ex H H' → E (.ref C) none H'
theorem ErrB.up {C : Addr} {H H' : Hp} {E : XK} (e : Ex H H') (h : ErrB C H E) : ErrB C H' E := fun H2 e2 => h H2 (e.trans e2)
theorem log_small {i : Int} (h1 : -1000000 ≤ i) (h2 : i ≤ 1000000) : i.natAbs.log2 < 1920 := by
  have h : i.natAbs < 2 ^ 20 := by omega
  by_cases z : i.natAbs = 0
  · rw [z]; decide
  · have := (Nat.log2_lt z).mpr h
    omega
theorem text_len {i : Int} (h1 : -1000000 ≤ i) (h2 : i ≤ 1000000) : (Str.ofString (toString i)).length ≤ 10000 := by
  have e := int_text_length_le (k := 1920) (by decide) (log_small h1 h2)
  rw [PySem.ofString_length]
  omega
theorem strA (a b : Str) : (a ++ b).length = a.length + b.length := Array.size_append
theorem q_callX {sp : Sp} {W : L2.St → XK} {ta : TA} {vs : List V} {D : Ends} {tz : TS} {σ : L2.St} {H : Hp} (h : EvA ta σ H vs) (k : ∀ H1, Ex H H1 → sp vs H1 (fun _ H2 => tz D σ H2) (W σ)) : tSeq (tDrop (tCallS sp W ta)) tz D σ H := h H (Ex.refl H) _ k
theorem s_callX {sp : Sp} {W : L2.St → XK} {ta : TA} {vs : List V} {D : Ends} {σ : L2.St} {H : Hp} (h : EvA ta σ H vs) (k : ∀ H1, Ex H H1 → sp vs H1 (fun _ H2 => D.nx σ H2) (W σ)) : tDrop (tCallS sp W ta) D σ H := h H (Ex.refl H) _ k
end Fm
set_option Elab.async false
set_option linter.all false
set_option maxRecDepth 100000
set_option maxHeartbeats 1000000
namespace Fm
open PySem L2 Evl RZ
def spChkCeX (K : PySem.W.Frag) (C : Addr) : Sp := fun vs H _ E => ∃ (m : Addr) (fs rs : List Nat) (v : V) (o : Option Int), vs = [.ref m, v] ∧ MaT K H m fs rs ∧ MaOk fs rs ∧ IntV K H v o ∧ inRange o 0 ((fs.length : Int) - 1) = false ∧ ErrB C H E
section
variable {P : Program} {w : World} {K : PySem.W.Frag} {mg : Str → Option Value} {base : Heap}
def spChkCeOfX (K : PySem.W.Frag) (CBC : Addr) : Sp := fun vs H Q E => ∃ (n : Nat) (v : V) (o : Option Int), vs = [.int (n : Nat), v] ∧ n ≤ 1000 ∧ IntV K H v o ∧ inRange o 0 ((n : Int) - 1) = false ∧ ∀ H', Ex H H' → E (.ref CBC) none H'
--TY check_cell_of {'cells':'int','@over':{'X':1,'raise':{'BadCell':'own1'}}}
theorem okX_check_cell_of {f f1 CBC : Addr} {fd fd1 : FuncData} (F : Fun K "check_cell_of" "check_cell_of" s_check_cell_of f fd) (T : Txt K mg) (B_BadCell : BaseE K mg "BadCell" CBC) (C_is_integer : Cal P w K mg base CX0 2 "is_integer" f1 fd1 ["value", "low", "high"] (spIsInt K)) : FnOk P w K mg base (L2.CX P w) 3 f fd ["cells", "value"] (spChkCeOfX K CBC) := by
  refine F.okX sc_check_cell_of (fun vs H Q E h => ?_) (fun cdv A outer s H vs Q E hr h => ?_)
  · obtain ⟨_, _, _, rfl, _⟩ := h
    rfl
  · obtain ⟨n, v, o, rfl, hn, hv, ho, k⟩ := h
    refine ⟨_, (pss_one (ps_if (pt_not (pt_val (pe_call C_is_integer.G (hr.mono (by first | decide | omega)) rfl C_is_integer.g C_is_integer.kp C_is_integer.b .nil pass0 (pa_cons (pv 1) (pa_cons pe_int (pa_cons (pe_op op_sub (pv 0) pe_int) pa_nil)))))) (pss_one (ps_raise rfl (takes_of rfl rfl rfl rfl) (SkE.pmk_own1 PySem.F.excBase_ValueError B_BadCell.q B_BadCell.gC B_BadCell.kC (raises_own B_BadCell.ex B_BadCell.ty) rfl (pe_joined (PJ.cons pe_str (PJ.cons (pe_fmt (pv 0)) PJ.nil)))))) pss_nil)), ?_⟩
    refine s_when (b := true) (et_not (a := false) (et_B (ev_callV (ea_cons (ev_var rfl) (ea_cons ev_c (ea_cons (ev_i0 (ev_var rfl) ev_c) ea_nil))) fun H1 e1 Q' q => ⟨_, 0, (n : Int) - 1, o, rfl, hv.up e1, fun H2 e2 => by
      rw [ho]
      exact q H2 e2⟩))) (fun _ H1 e1 => ?_) fun z => nomatch z
    have l1 := text_len (i := (n : Int)) (by omega) (by omega)
    refine ⟨_, rfl, ?_, ?_⟩
    · rw [strA, sizeLine_eq]
      decide +kernel
    refine ⟨_, rfl, .inr ⟨(n : Int), rfl, log_small (by omega) (by omega), _, rfl, ?_, ?_⟩⟩
    · rw [strA, strA, sizeLine_eq]
      have : (Str.empty.length : Nat) + ("no cell of " : Str).length ≤ 1000 := by decide +kernel
      omega
    exact k H1 e1
--TY check_cell {'machine':('tuple',T),'@over':{'X':1,'S':['check_cell_of']}}
theorem okX_check_cell {f f1 CBC : Addr} {fd fd1 : FuncData} (F : Fun K "check_cell" "check_cell" s_check_cell f fd) (T : Txt K mg) (C_check_cell_ofX : Cal P w K mg base (L2.CX P w) 3 "check_cell_of" f1 fd1 ["cells", "value"] (spChkCeOfX K CBC)) : FnOk P w K mg base (L2.CX P w) 4 f fd ["machine", "value"] (spChkCeX K CBC) := by
  refine F.okX sc_check_cell (fun vs H Q E h => ?_) (fun cdv A outer s H vs Q E hr h => ?_)
  · obtain ⟨_, _, _, _, _, rfl, _⟩ := h
    rfl
  · obtain ⟨m, fs, rs, v, o, rfl, ⟨a, b, hm, ha, hb⟩, ok, hv, ho, k⟩ := h
    refine ⟨_, (pss_one (ps_expr (pe_callS C_check_cell_ofX.G (hr.mono (by first | decide | omega)) rfl C_check_cell_ofX.g C_check_cell_ofX.kp C_check_cell_ofX.b (fun σ => passAt (takes_of rfl rfl rfl rfl) σ) (pa_cons (pe_callB (len_K (K := K) rfl) (by rfl) T.z_len (by decide +kernel) (pa_cons (pe_ix (ix_K (K := K) rfl) (pv 0) pe_int (fun _ _ => rfl)) pa_nil)) (pa_cons (pv 1) pa_nil))))), ?_⟩
    have hll := ok.ll
    have hl4 := ok.l4
    exact s_callX (ea_cons (ev_lnT (ev_ixT (ev_var rfl) ev_c hm rfl) ha) (ea_cons (ev_var rfl) ea_nil)) fun H1 e1 => ⟨(nV fs).length, v, o, rfl, by rw [nV_len]; omega, hv.up e1, by rw [nV_len]; exact ho, fun H2 e2 => k H2 (e1.trans e2)⟩
end
end Fm
set_option Elab.async false
set_option linter.all false
set_option maxRecDepth 100000
set_option maxHeartbeats 1000000
namespace Fm
open PySem L2 Evl RZ
/-! a machine at work: what it refuses -/
def spWholeX (K : PySem.W.Frag) (CBN : Addr) : Sp := fun vs H Q E => ∃ v, vs = [v] ∧ IntV K H v none ∧ ∀ H', Ex H H' → E (.ref CBN) none H'
def spReadX (K : PySem.W.Frag) (C CBC : Addr) : Sp := fun vs H Q E => ∃ (B : Hp) (x ma dx la ct : Addr) (fs rs ls : List Nat) (hs : List Int) (t : Nat) (v : V) (o : Option Int), vs = [.ref x, v] ∧ MillF K C B H x ma dx la ct fs rs ls hs t ∧ MaOk fs rs ∧ IntV K H v o ∧ inRange o 0 ((fs.length : Int) - 1) = false ∧
  ∀ H', Ex H H' → E (.ref CBC) none H'
def spWriteX (K : PySem.W.Frag) (C CBC : Addr) : Sp := fun vs H Q E => ∃ (B : Hp) (x ma dx la ct : Addr) (fs rs ls : List Nat) (hs : List Int) (t : Nat) (v z : V) (o : Option Int), vs = [.ref x, v, z] ∧ MillF K C B H x ma dx la ct fs rs ls hs t ∧ MaOk fs rs ∧ IntV K H v o ∧ inRange o 0 ((fs.length : Int) - 1) = false ∧
  ∀ H', Ex H H' → E (.ref CBC) none H'
def spWriteY (K : PySem.W.Frag) (C CBN : Addr) : Sp := fun vs H Q E => ∃ (B : Hp) (x ma dx la ct : Addr) (fs rs ls : List Nat) (hs : List Int) (t c : Nat) (z : V), vs = [.ref x, .int (c : Nat), z] ∧ MillF K C B H x ma dx la ct fs rs ls hs t ∧ MaOk fs rs ∧ c < fs.length ∧ IntV K H z none ∧
  ∀ H', Ex H H' → E (.ref CBN) none H'
section
variable {P : Program} {w : World} {K : PySem.W.Frag} {mg : Str → Option Value} {base : Heap} {C : Addr}
--TY check_whole {'@over':{'X':1,'raise':{'BadNumber':'own1'}}}
theorem okX_check_whole {f f1 CBN : Addr} {fd fd1 : FuncData} (F : Fun K "check_whole" "check_whole" s_check_whole f fd) (T : Txt K mg) (B_BadNumber : BaseE K mg "BadNumber" CBN) (C_is_whole : Cal P w K mg base CX0 1 "is_whole" f1 fd1 ["value"] (spIsWhole K)) : FnOk P w K mg base (L2.CX P w) 2 f fd ["value"] (spWholeX K CBN) := by
  refine F.okX sc_check_whole (fun vs H Q E h => ?_) (fun cdv A outer s H vs Q E hr h => ?_)
  · obtain ⟨_, rfl, _⟩ := h
    rfl
  · obtain ⟨v, rfl, hv, k⟩ := h
    refine ⟨_, (pss_one (ps_if (pt_not (pt_val (pe_call C_is_whole.G (hr.mono (by first | decide | omega)) rfl C_is_whole.g C_is_whole.kp C_is_whole.b .nil pass0 (pa_cons (pv 0) pa_nil)))) (pss_one (ps_raise rfl (takes_of rfl rfl rfl rfl) (SkE.pmk_own1 PySem.F.excBase_ValueError B_BadNumber.q B_BadNumber.gC B_BadNumber.kC (raises_own B_BadNumber.ex B_BadNumber.ty) rfl pe_str))) pss_nil)), ?_⟩
    exact s_when (b := true) (et_not (a := false) (et_B (ev_callV (ea_cons (ev_var rfl) ea_nil) fun H1 e1 Q' q => ⟨_, none, rfl, hv.up e1, q⟩))) (fun _ H1 e1 => k H1 e1) fun z => nomatch z
--TY Mill.read {'self':('inst','Mill'),'.machine':T,'.held':T,'.lives':T,'cell':'int','@over':{'X':1,'S':['check_cell']}}
theorem okX_mread {f f1 f2 f3 f4 pa CBC : Addr} {fd fd1 fd2 fd3 fd4 : FuncData} (F : Fun K "read" "Mill.read" s_Mill_read f fd) (T : Txt K mg) (T_Mill : MillT K C) (C_check_cellX : Cal P w K mg base (L2.CX P w) 4 "check_cell" f1 fd1 ["machine", "value"] (spChkCeX K CBC)) (M_Mill_held : PCal P w K mg base C 1 "held" pa f2 fd2 ["self"] (spHeld K C)) (M_Mill_go_on : MCal P w K mg base C 1 "go_on" f3 fd3 ["self", "lives"] (spGoOn K C)) (C_lives_touched : Cal P w K mg base CX0 2 "lives_touched" f4 fd4 ["machine", "lives", "cell"] (spTouched K)) : FnOk P w K mg base (L2.CX P w) 5 f fd ["self", "cell"] (spReadX K C CBC) := by
  refine F.okX sc_Mill_read (fun vs H Q E h => ?_) (fun cdv A outer s H vs Q E hr h => ?_)
  · obtain ⟨_, _, _, _, _, _, _, _, _, _, _, _, _, rfl, _⟩ := h
    rfl
  · obtain ⟨B, x, ma, dx, la, ct, fs, rs, ls, hs, t, v, o, rfl, M, hok, hv, ho, k⟩ := h
    refine ⟨_, (pss_cons (ps_expr (pe_callS C_check_cellX.G (hr.mono (by first | decide | omega)) rfl C_check_cellX.g C_check_cellX.kp C_check_cellX.b (fun σ => passAt (takes_of rfl rfl rfl rfl) σ) (pa_cons (pe_fld (pv 0) rfl) (pa_cons (pv 1) pa_nil))))
  (pss_cons (ps_set (i := 2) sc_Mill_read.nd rfl (Or.inl rfl) (pe_ix (ix_K (K := K) rfl) (pe_prop (pv 0) T_Mill.cl M_Mill_held.p M_Mill_held.G (hr.mono (by first | decide | omega)) M_Mill_held.b .nil pass0 rfl) (pv 1) (fun _ _ => rfl)))
  (pss_cons (ps_expr (pe_meth (pv 0) T_Mill.cl M_Mill_go_on.m M_Mill_go_on.G (hr.mono (by first | decide | omega)) M_Mill_go_on.b .nil pass0 (pa_cons (pe_call C_lives_touched.G (hr.mono (by first | decide | omega)) rfl C_lives_touched.g C_lives_touched.kp C_lives_touched.b .nil pass0 (pa_cons (pe_fld (pv 0) rfl) (pa_cons (pe_fld (pv 0) rfl) (pa_cons (pv 1) pa_nil)))) pa_nil)))
  (pss_one (ps_ret (pv 2)))))), ?_⟩
    exact q_callX (ea_cons (ev_fld (ev_var rfl) M.obj T_Mill.cl T_Mill.n_machine mlf_machine) (ea_cons (ev_var rfl) ea_nil)) fun H1 e1 => ⟨ma, fs, rs, v, o, rfl, (M.up e1).mm, hok, hv.up e1, ho, fun H2 e2 => k H2 (e1.trans e2)⟩
--TY Mill.write {'self':('inst','Mill'),'.machine':T,'.contents':('list','int'),'.lives':T,'cell':'int','value':'int','@over':{'X':1,'S':['check_cell']}}
theorem okX_mwrite {f f1 f2 f3 f4 CBC : Addr} {fd fd1 fd2 fd3 fd4 : FuncData} (F : Fun K "write" "Mill.write" s_Mill_write f fd) (T : Txt K mg) (T_Mill : MillT K C) (C_check_cellX : Cal P w K mg base (L2.CX P w) 4 "check_cell" f1 fd1 ["machine", "value"] (spChkCeX K CBC)) (C_check_whole : Cal P w K mg base CX0 2 "check_whole" f2 fd2 ["value"] (spWhole K)) (M_Mill_go_on : MCal P w K mg base C 1 "go_on" f3 fd3 ["self", "lives"] (spGoOn K C)) (C_lives_set : Cal P w K mg base CX0 3 "lives_set" f4 fd4 ["machine", "lives", "cell"] (spSet K)) : FnOk P w K mg base (L2.CX P w) 5 f fd ["self", "cell", "value"] (spWriteX K C CBC) := by
  refine F.okX sc_Mill_write (fun vs H Q E h => ?_) (fun cdv A outer s H vs Q E hr h => ?_)
  · obtain ⟨_, _, _, _, _, _, _, _, _, _, _, _, _, _, rfl, _⟩ := h
    rfl
  · obtain ⟨B, x, ma, dx, la, ct, fs, rs, ls, hs, t, v, z, o, rfl, M, hok, hv, ho, k⟩ := h
    refine ⟨_, (pss_cons (ps_expr (pe_callS C_check_cellX.G (hr.mono (by first | decide | omega)) rfl C_check_cellX.g C_check_cellX.kp C_check_cellX.b (fun σ => passAt (takes_of rfl rfl rfl rfl) σ) (pa_cons (pe_fld (pv 0) rfl) (pa_cons (pv 1) pa_nil))))
  (pss_cons (ps_expr (pe_call C_check_whole.G (hr.mono (by first | decide | omega)) rfl C_check_whole.g C_check_whole.kp C_check_whole.b .nil pass0 (pa_cons (pv 2) pa_nil)))
  (pss_cons (ps_asg (pv 2) (pg_sub (pe_fld (pv 0) rfl) (pv 1) set_list))
  (pss_one (ps_expr (pe_meth (pv 0) T_Mill.cl M_Mill_go_on.m M_Mill_go_on.G (hr.mono (by first | decide | omega)) M_Mill_go_on.b .nil pass0 (pa_cons (pe_call C_lives_set.G (hr.mono (by first | decide | omega)) rfl C_lives_set.g C_lives_set.kp C_lives_set.b .nil pass0 (pa_cons (pe_fld (pv 0) rfl) (pa_cons (pe_fld (pv 0) rfl) (pa_cons (pv 1) pa_nil)))) pa_nil))))))), ?_⟩
    exact q_callX (ea_cons (ev_fld (ev_var rfl) M.obj T_Mill.cl T_Mill.n_machine mlf_machine) (ea_cons (ev_var rfl) ea_nil)) fun H1 e1 => ⟨ma, fs, rs, v, o, rfl, (M.up e1).mm, hok, hv.up e1, ho, fun H2 e2 => k H2 (e1.trans e2)⟩
--TY Mill.touch {'self':('inst','Mill'),'.machine':T,'.lives':T,'cell':'int','@over':{'X':1,'S':['check_cell']}}
theorem okX_mtouch {f f1 f3 f4 CBC : Addr} {fd fd1 fd3 fd4 : FuncData} (F : Fun K "touch" "Mill.touch" s_Mill_touch f fd) (T : Txt K mg) (T_Mill : MillT K C) (C_check_cellX : Cal P w K mg base (L2.CX P w) 4 "check_cell" f1 fd1 ["machine", "value"] (spChkCeX K CBC)) (M_Mill_go_on : MCal P w K mg base C 1 "go_on" f3 fd3 ["self", "lives"] (spGoOn K C)) (C_lives_touched : Cal P w K mg base CX0 2 "lives_touched" f4 fd4 ["machine", "lives", "cell"] (spTouched K)) : FnOk P w K mg base (L2.CX P w) 5 f fd ["self", "cell"] (spReadX K C CBC) := by
  refine F.okX sc_Mill_touch (fun vs H Q E h => ?_) (fun cdv A outer s H vs Q E hr h => ?_)
  · obtain ⟨_, _, _, _, _, _, _, _, _, _, _, _, _, rfl, _⟩ := h
    rfl
  · obtain ⟨B, x, ma, dx, la, ct, fs, rs, ls, hs, t, v, o, rfl, M, hok, hv, ho, k⟩ := h
    refine ⟨_, (pss_cons (ps_expr (pe_callS C_check_cellX.G (hr.mono (by first | decide | omega)) rfl C_check_cellX.g C_check_cellX.kp C_check_cellX.b (fun σ => passAt (takes_of rfl rfl rfl rfl) σ) (pa_cons (pe_fld (pv 0) rfl) (pa_cons (pv 1) pa_nil))))
  (pss_one (ps_expr (pe_meth (pv 0) T_Mill.cl M_Mill_go_on.m M_Mill_go_on.G (hr.mono (by first | decide | omega)) M_Mill_go_on.b .nil pass0 (pa_cons (pe_call C_lives_touched.G (hr.mono (by first | decide | omega)) rfl C_lives_touched.g C_lives_touched.kp C_lives_touched.b .nil pass0 (pa_cons (pe_fld (pv 0) rfl) (pa_cons (pe_fld (pv 0) rfl) (pa_cons (pv 1) pa_nil)))) pa_nil))))), ?_⟩
    exact q_callX (ea_cons (ev_fld (ev_var rfl) M.obj T_Mill.cl T_Mill.n_machine mlf_machine) (ea_cons (ev_var rfl) ea_nil)) fun H1 e1 => ⟨ma, fs, rs, v, o, rfl, (M.up e1).mm, hok, hv.up e1, ho, fun H2 e2 => k H2 (e1.trans e2)⟩
end
end Fm
set_option Elab.async false
set_option linter.all false
set_option maxRecDepth 100000
set_option maxHeartbeats 1000000
namespace Fm
open PySem L2 Evl RZ
section
variable {P : Program} {w : World} {K : PySem.W.Frag} {mg : Str → Option Value} {base : Heap} {C : Addr}
--TY Mill.write {'self':('inst','Mill'),'.machine':T,'.contents':('list','int'),'.lives':T,'cell':'int','value':'int','@over':{'X':1,'S':['check_whole']}}
theorem okY_mwrite {f f1 f2 f3 f4 CBN : Addr} {fd fd1 fd2 fd3 fd4 : FuncData} (F : Fun K "write" "Mill.write" s_Mill_write f fd) (T : Txt K mg) (T_Mill : MillT K C) (C_check_cell : Cal P w K mg base CX0 4 "check_cell" f1 fd1 ["machine", "value"] (spChkCe K)) (C_check_wholeX : Cal P w K mg base (L2.CX P w) 2 "check_whole" f2 fd2 ["value"] (spWholeX K CBN)) (M_Mill_go_on : MCal P w K mg base C 1 "go_on" f3 fd3 ["self", "lives"] (spGoOn K C)) (C_lives_set : Cal P w K mg base CX0 3 "lives_set" f4 fd4 ["machine", "lives", "cell"] (spSet K)) : FnOk P w K mg base (L2.CX P w) 5 f fd ["self", "cell", "value"] (spWriteY K C CBN) := by
  refine F.okX sc_Mill_write (fun vs H Q E h => ?_) (fun cdv A outer s H vs Q E hr h => ?_)
  · obtain ⟨_, _, _, _, _, _, _, _, _, _, _, _, _, rfl, _⟩ := h
    rfl
  · obtain ⟨B, x, ma, dx, la, ct, fs, rs, ls, hs, t, c, z, rfl, M, hok, hc, hz, k⟩ := h
    refine ⟨_, (pss_cons (ps_expr (pe_call C_check_cell.G (hr.mono (by first | decide | omega)) rfl C_check_cell.g C_check_cell.kp C_check_cell.b .nil pass0 (pa_cons (pe_fld (pv 0) rfl) (pa_cons (pv 1) pa_nil))))
  (pss_cons (ps_expr (pe_callS C_check_wholeX.G (hr.mono (by first | decide | omega)) rfl C_check_wholeX.g C_check_wholeX.kp C_check_wholeX.b (fun σ => passAt (takes_of rfl rfl rfl rfl) σ) (pa_cons (pv 2) pa_nil)))
  (pss_cons (ps_asg (pv 2) (pg_sub (pe_fld (pv 0) rfl) (pv 1) set_list))
  (pss_one (ps_expr (pe_meth (pv 0) T_Mill.cl M_Mill_go_on.m M_Mill_go_on.G (hr.mono (by first | decide | omega)) M_Mill_go_on.b .nil pass0 (pa_cons (pe_call C_lives_set.G (hr.mono (by first | decide | omega)) rfl C_lives_set.g C_lives_set.kp C_lives_set.b .nil pass0 (pa_cons (pe_fld (pv 0) rfl) (pa_cons (pe_fld (pv 0) rfl) (pa_cons (pv 1) pa_nil)))) pa_nil))))))), ?_⟩
    have hll := hok.ll
    refine q_call (ea_cons (ev_fld (ev_var rfl) M.obj T_Mill.cl T_Mill.n_machine mlf_machine) (ea_cons (ev_var rfl) ea_nil)) fun H1 e1 => ⟨ma, fs, rs, c, rfl, (M.up e1).mm, hok, by omega, fun H2 e2 => ?_⟩
    exact q_callX (ea_cons (ev_var rfl) ea_nil) fun H3 e3 => ⟨z, rfl, hz.up ((e1.trans e2).trans e3), fun H4 e4 => k H4 (((e1.trans e2).trans e3).trans e4)⟩
end
end Fm
set_option Elab.async false
set_option linter.all false
set_option maxRecDepth 100000
set_option maxHeartbeats 1000000
namespace Fm
open PySem PySem.Spec PyProof.Rows L2 LamX
/-! lambdas as things: made, kept, called -/
/-- the function object at f -/
def FnO (f : Addr) (fd : FuncData) : HO := .ext fun g => g.get? f = some { cls := .type "function", data := .func fd }
abbrev lamFdE (en : Env) (ar : Arguments) (bd : Expr) (sc : Scope) (dV doc pm : Value) (cd : Addr) (ct : Value) : FuncData := PySem.W.kdv_fn "<lambda>" (en.qual ++ "<lambda>") ar (.expr bd) sc (cloFrom en.cells sc.names []) dV doc pm (.ref cd) ct
abbrev lamFd (X : Cx) (ar : Arguments) (bd : Expr) (sc : Scope) (dV doc pm : Value) (cd : Addr) (ct : Value) : FuncData := lamFdE X.env ar bd sc dV doc pm cd ct
theorem fnO_ne {f : Addr} {fd : FuncData} (ps : Array Value) : FnO f fd ≠ .tbl ps := fun z => by
  unfold FnO at z
  cases z
section
variable {X : Cx} {pins : List (Addr × Obj)} {σ : L2.St} {H : Hp} {s : Shared}
/-- the table's new entry -/
theorem tabs_more {T : List (Addr × Str)} {H H1 : Hp} {P c' : Addr} {q : Str} {ps : Array Value} {pos : Pos} (hT : Tabs T H) (hP : H P = some (.tbl ps)) (ht : TriplesOk ps.toList) (hu : ∀ p ∈ T, p.1 = P → p.2 = q) (hm : (P, q) ∈ T)
    (hE : ExtN H H1) (h1 : H1 P = some (.tbl (ps ++ #[rawInt pos.line, rawInt pos.col, .ref c']))) (ho : ∀ b, b ≠ P → (∃ ps, H b = some (.tbl ps)) → H1 b = H b) (hc : H1 c' = some (CodeO c' q)) : Tabs T H1 := fun p hp => by
  by_cases z : p.1 = P
  · rw [hu p hp z, z]
    obtain ⟨ps2, a1, a2, a3⟩ := hT _ hm
    rw [hP] at a1
    cases a1
    have eL : (ps ++ #[rawInt pos.line, rawInt pos.col, .ref c']).toList = ps.toList ++ [rawInt pos.line, rawInt pos.col, .ref c'] := by simp
    refine ⟨_, h1, by rw [eL]; exact PySem.TriplesOk_snoc _ _ _ _ ht, fun p2 cv hcv => ?_⟩
    rw [eL] at hcv
    rcases among_app _ ht hcv with w | w
    · obtain ⟨c0, e1, e2⟩ := a3 p2 cv w
      exact ⟨c0, e1, hE _ _ e2 codeO_ne⟩
    · exact ⟨c', w, hc⟩
  · obtain ⟨ps2, a1, a2, a3⟩ := hT p hp
    refine ⟨ps2, by rw [ho _ z ⟨_, a1⟩]; exact a1, a2, fun p2 cv hcv => ?_⟩
    obtain ⟨c0, e1, e2⟩ := a3 p2 cv hcv
    exact ⟨c0, e1, hE _ _ e2 codeO_ne⟩
/-- the lambda's function object is made and tracked -/
theorem lam_tail {T : List (Addr × Str)} {c P : Addr} {ar : Arguments} {bd : Expr} {sc : Scope} {dV : Value} {pos : Pos} {E : Value → Shared → Prop} {Q : Value → Shared → Prop} (I : Inv X pins σ H s) (TB : TabB X.base X.mg c P) (hcode : X.env.code = .ref c)
    (hm : (P, X.env.qual ++ "<lambda>") ∈ T) (hu : ∀ p ∈ T, p.1 = P → p.2 = X.env.qual ++ "<lambda>") (hT : Tabs T H) (hfree : ∀ y ∈ sc.names, y.2 = .free → ∃ c, X.env.cells.lookup y.1 = some c)
    (k : ∀ (f cd : Addr) (doc pm ct : Value) (H1 : Hp) (s' : Shared), Inv X pins σ H1 s' → ExtN H H1 → Tabs T H1 → H f = none → H1 f = some (FnO f (lamFd X ar bd sc dV doc pm cd ct)) → H1 cd = some (CodeO cd (X.env.qual ++ "<lambda>")) → Q (.ref f) s') :
    wpAny (model X.prog X.w) X.A (PySem.makeTail "<lambda>" (X.env.qual ++ "<lambda>") ar (.expr bd) sc X.env dV .none none pos pos.line) Q E s := by
  obtain ⟨ps, hP, ht, ha⟩ := hT _ hm
  have bq : s.heap.BuiltinsAt X.mg P := TB.bm.keeps I.bk
  have hP' : s.heap.get? P = some { cls := .none, data := .fields ps } := I.hok P _ hP
  cases hca : codeAmong pos ps.toList with
  | none =>
    refine PySem.W.kdv_makeTail (mg := X.mg) (c := c) (P := P) (ps := ps) (closure_ok hfree) I.ok.glob (I.mod.glob.keeps I.bk) hcode (TB.code.keeps I.bk) hP' ht hca TB.gP bq fun cd ct doc h' tk hx hge hlt hrec htb => ?_
    obtain ⟨c2, oc, vs, t, z, hoc, hd, hv⟩ := hrec
    cases z
    have hsz : s.heap.objs.size ≤ h'.objs.size := Nat.le_trans hge (Nat.le_of_lt hlt)
    have nC : H cd = none := I.hok.fresh hge
    have nF : H h'.objs.size = none := I.hok.fresh hsz
    have nPc : cd ≠ P := fun z => by rw [z, hP] at nC; cases nC
    have J1 := inv_table (t' := tk) (h' := h') (more := #[rawInt pos.line, rawInt pos.col, .ref cd]) I hP (fun b o hb z => hx b o hb z) htb hge ⟨oc, vs, t, hoc, hd, hv⟩
    have gf : (h'.push { cls := .type "function", data := .func (lamFd X ar bd sc dV doc ((X.mg "__name__").getD .none) cd ct) }).get? h'.objs.size = some { cls := .type "function", data := .func (lamFd X ar bd sc dV doc ((X.mg "__name__").getD .none) cd ct) } := Heap.get?_push_size _ rfl
    have J2 := J1.laid (a := h'.objs.size) (o := FnO h'.objs.size (lamFd X ar bd sc dV doc ((X.mg "__name__").getD .none) cd ct)) (t' := tk) (fun b u z => Heap.get?_push_of_some _ z) (Nat.le_refl _) ⟨gf, ⟨_, gf⟩, fun h1 h2 z w => w _ z⟩
    have nfc : cd ≠ h'.objs.size := Nat.ne_of_lt hlt
    have nfP : P ≠ h'.objs.size := Nat.ne_of_lt (Nat.lt_of_lt_of_le (Heap.lt_size hP') hsz)
    have at_ : ∀ b, b ≠ P → b ≠ cd → b ≠ h'.objs.size → upd (upd (upd H P (.tbl (ps ++ #[rawInt pos.line, rawInt pos.col, .ref cd]))) cd (CodeO cd (X.env.qual ++ "<lambda>"))) h'.objs.size (FnO h'.objs.size (lamFd X ar bd sc dV doc ((X.mg "__name__").getD .none) cd ct)) b = H b := fun b z1 z2 z3 => by rw [upd_ne z3, upd_ne z2, upd_ne z1]
    have eX : ExtN H (upd (upd (upd H P (.tbl (ps ++ #[rawInt pos.line, rawInt pos.col, .ref cd]))) cd (CodeO cd (X.env.qual ++ "<lambda>"))) h'.objs.size (FnO h'.objs.size (lamFd X ar bd sc dV doc ((X.mg "__name__").getD .none) cd ct))) := fun b o z n => by
      rw [at_ b (fun w => by rw [w, hP] at z; exact n _ (Option.some.inj z).symm) (ne_of_none z nC) (ne_of_none z nF)]
      exact z
    have cdA : upd (upd (upd H P (.tbl (ps ++ #[rawInt pos.line, rawInt pos.col, .ref cd]))) cd (CodeO cd (X.env.qual ++ "<lambda>"))) h'.objs.size (FnO h'.objs.size (lamFd X ar bd sc dV doc ((X.mg "__name__").getD .none) cd ct)) cd = some (CodeO cd (X.env.qual ++ "<lambda>")) := by rw [upd_ne nfc, upd_same]
    refine k h'.objs.size cd doc ((X.mg "__name__").getD .none) ct _ _ J2 eX ?_ nF upd_same cdA
    refine tabs_more (pos := pos) hT hP ht hu hm eX ?_ (fun b z ⟨ps2, w⟩ => at_ b z (ne_of_none w nC) (ne_of_none w nF)) cdA
    rw [upd_ne nfP, upd_ne nPc.symm, upd_same]
  | some cv =>
    obtain ⟨cd, z, hco⟩ := ha pos cv hca
    subst z
    refine PySem.W.kdv_makeTailHit (mg := X.mg) (c := c) (P := P) (ps := ps) (closure_ok hfree) I.ok.glob (I.mod.glob.keeps I.bk) hcode (TB.code.keeps I.bk) hP' ht hca bq fun ct doc h' tk hx hsz => ?_
    have nF : H h'.objs.size = none := I.hok.fresh hsz
    have gf : (h'.push { cls := .type "function", data := .func (lamFd X ar bd sc dV doc ((X.mg "__name__").getD .none) cd ct) }).get? h'.objs.size = some { cls := .type "function", data := .func (lamFd X ar bd sc dV doc ((X.mg "__name__").getD .none) cd ct) } := Heap.get?_push_size _ rfl
    have J2 := I.laid (a := h'.objs.size) (o := FnO h'.objs.size (lamFd X ar bd sc dV doc ((X.mg "__name__").getD .none) cd ct)) (t' := tk) (fun b u z => Heap.get?_push_of_some _ (hx b u z)) hsz ⟨gf, ⟨_, gf⟩, fun h1 h2 z w => w _ z⟩
    have eX : ∀ b o, H b = some o → upd H h'.objs.size (FnO h'.objs.size (lamFd X ar bd sc dV doc ((X.mg "__name__").getD .none) cd ct)) b = some o := fun b o z => by rw [upd_ne (ne_of_none z nF)]; exact z
    exact k h'.objs.size cd doc ((X.mg "__name__").getD .none) ct _ _ J2 (ExtN.of eX) (hT.ext eX) nF upd_same (eX _ _ hco)
end
/-! the lambda's names: captured ones, globals, its parameters ps -/
structure LamP (sc scope : Scope) (N ps : List Str) : Prop where
  kind : scope.kind = .function
  co : scope.isCoroutine = false
  gen : scope.isGenerator = false
  own : ∀ y ∈ scope.names, y.2 ≠ .cell ∧ (y.2 = .local → y.1 ∈ ps)
  par : ∀ x ∈ ps, x ∉ N ∧ scope.names.lookup x = some .local
  free : ∀ y ∈ scope.names, y.2 = .free → sc.names.lookup y.1 = some .cell ∨ sc.names.lookup y.1 = some .free
def lamPB (sc scope : Scope) (N ps : List Str) : Bool :=
  decide (scope.kind = .function) && !scope.isCoroutine && !scope.isGenerator && (scope.names.all fun y => !decide (y.2 = .cell) && (!decide (y.2 = .local) || ps.contains y.1) && (!decide (y.2 = .free) || decide (sc.names.lookup y.1 = some .cell) || decide (sc.names.lookup y.1 = some .free))) &&
    ps.all fun x => !N.contains x && decide (scope.names.lookup x = some .local)
theorem lamP_by {sc scope : Scope} {N ps : List Str} (h : lamPB sc scope N ps = true) : LamP sc scope N ps := by
  unfold lamPB at h
  simp only [Bool.and_eq_true, Bool.or_eq_true, Bool.not_eq_true', decide_eq_true_eq, decide_eq_false_iff_not, List.all_eq_true, List.contains_iff_mem, List.contains_eq_mem] at h
  obtain ⟨⟨⟨⟨h1, h2⟩, h3⟩, h4⟩, h5⟩ := h
  refine ⟨h1, h2, h3, fun y hy => ⟨(h4 y hy).1.1, fun z => ?_⟩, fun x hx => h5 x hx, fun y hy z => ?_⟩
  · rcases (h4 y hy).1.2 with w | w
    · exact absurd z w
    · exact w
  · rcases (h4 y hy).2 with (w | w) | w
    · exact absurd z w
    · exact .inl w
    · exact .inr w
theorem LamP.has {X : Cx} {scope : Scope} {N ps : List Str} (L : LamP X.env.scope scope N ps) (ok : X.Ok) : ∀ y ∈ scope.names, y.2 = .free → ∃ c, X.env.cells.lookup y.1 = some c := fun y hy z => (L.free y hy z).elim (fun w => ok.has _ (.inl w)) fun w => ok.has _ (.inr w)

section
variable {X : Cx} {pins : List (Addr × Obj)} {σ : L2.St} {H : Hp} {s : Shared}
/-- a lambda's reading: the tables stand, the new function is known from then on -/
def tLamV (X : Cx) (T : List (Addr × Str)) (ar : Arguments) (bd : Expr) (sc : Scope) : TE := fun σ H Q => Tabs T H ∧ ∀ (f cd : Addr) (doc pm ct : Value) (H1 : Hp), ExtN H H1 → Tabs T H1 → H f = none → H1 f = some (FnO f (lamFd X ar bd sc .none doc pm cd ct)) → H1 cd = some (CodeO cd (X.env.qual ++ "<lambda>")) → Q (.ref f) H1
theorem pe_lam0 {T : List (Addr × Str)} {c P : Addr} {N ps : List Str} {ar : Arguments} {bd : Expr} {sc : Scope} {pos : Pos} (TB : TabB X.base X.mg c P) (hcode : X.env.code = .ref c) (hm : (P, X.env.qual ++ "<lambda>") ∈ T) (hu : ∀ p ∈ T, p.1 = P → p.2 = X.env.qual ++ "<lambda>")
    (L : LamP X.env.scope sc N ps) (hd : defaultsOf ar X.env = ([], [])) : PE X (.Lambda ar bd sc pos) (tLamV X T ar bd sc) := by
  refine ⟨fun pins s σ H Q I h => ?_⟩
  obtain ⟨hT, k⟩ := h
  refine PySem.W.kla_eval hd ?_
  rw [makeFunction_eq]
  simp only [List.zip_nil_right, List.filterMap_nil, List.isEmpty_nil, if_true, pure_bind]
  exact lam_tail I TB hcode hm hu hT (L.has I.ok) fun f cd doc pm ct H1 s' I1 e1 T1 n1 h1 h2 => ⟨.ref f, H1, I1, rfl, k f cd doc pm ct H1 e1 T1 n1 h1 h2⟩
/-- a lambda with one default, a written number -/
def tLamD (X : Cx) (T : List (Addr × Str)) (ar : Arguments) (bd : Expr) (sc : Scope) (n : Int) : TE := fun σ H Q => Tabs T H ∧ ∀ (f cd t : Addr) (doc pm ct : Value) (H1 : Hp), ExtN H H1 → Tabs T H1 → H f = none → H1 f = some (FnO f (lamFd X ar bd sc (.ref t) doc pm cd ct)) → H1 cd = some (CodeO cd (X.env.qual ++ "<lambda>")) → H1 t = some (.tup [.int n]) → Q (.ref f) H1
theorem pe_lam1 {T : List (Addr × Str)} {c P : Addr} {N ps : List Str} {ar : Arguments} {bd : Expr} {sc : Scope} {pos p1 : Pos} {n : Int} {j : Nat} (TB : TabB X.base X.mg c P) (hcode : X.env.code = .ref c) (hm : (P, X.env.qual ++ "<lambda>") ∈ T) (hu : ∀ p ∈ T, p.1 = P → p.2 = X.env.qual ++ "<lambda>")
    (L : LamP X.env.scope sc N ps) (hd : ar.defaults = [.Constant (.int n) j p1]) (hk : ar.kw_defaults = []) : PE X (.Lambda ar bd sc pos) (tLamD X T ar bd sc n) := by
  refine ⟨fun pins s σ H Q I h => ?_⟩
  obtain ⟨hT, k⟩ := h
  refine PySem.W.kdv_lam (by rw [hd]; rfl) hk ?_
  rw [hd]
  refine PySem.W.kdv_all1 ?_
  refine wpAny_mono ((pe_int (X := X) (i := n) (j := j) (pos := p1)).run pins s σ H (fun v H1 => v = .int n ∧ H1 = H) I ⟨rfl, rfl⟩) (fun u s1 hq => ?_) fun _ _ z => z
  obtain ⟨v, H1, I1, rv, rfl, rfl⟩ := hq
  refine PySem.W.kdv_all0 ?_
  rw [makeFunction_eq]
  simp only [List.zip_nil_right, List.filterMap_nil, List.isEmpty_nil, List.isEmpty_cons, if_true, pure_bind, Bool.false_eq_true, if_false]
  refine wpAny_bind (wpAny_newTextTuple ?_)
  have nt : H1 s1.heap.objs.size = none := I1.hok.fresh (Nat.le_refl _)
  have I2 := I1.laid (a := s1.heap.objs.size) (o := .tup [.int n]) (t' := s1.toks) (h' := s1.heap.push { cls := .type "tuple", data := .seq #[u] }) (fun b w z => Heap.get?_push_of_some _ z) (Nat.le_refl _) ⟨by show 1 ≤ sizeLine; decide, [u], .cons rv .nil, ⟨_, Heap.get?_push_size _ rfl, rfl, _, rfl⟩⟩
  have e2 : ∀ b o, H1 b = some o → upd H1 s1.heap.objs.size (.tup [.int n]) b = some o := fun b o z => by rw [upd_ne (ne_of_none z nt)]; exact z
  refine lam_tail I2 TB hcode hm hu (hT.ext e2) (L.has I2.ok) fun f cd doc pm ct H3 s' I3 e3 T3 n3 h3 h4 => ⟨.ref f, H3, I3, rfl, k f cd s1.heap.objs.size doc pm ct H3 ((ExtN.of e2).trans e3) T3 ?_ h3 h4 (e3 _ _ upd_same fun _ z => by cases z)⟩
  cases q : H1 f with
  | none => rfl
  | some o => rw [e2 _ _ q] at n3; cases n3
end
/-! calling one -/
/-- what a lambda's parameters are bound to: none, or one default that stands at dV -/
inductive DflAt (H : Hp) (dV : Value) : List Str → Prop
  | no (h : dV = .none) : DflAt H dV []
  | one {x : Str} {n : Int} {t : Addr} (h : dV = .ref t) (ht : H t = some (.tup [.int n])) : DflAt H dV [x]
section
variable {X : Cx} {pins : List (Addr × Obj)} {σ : L2.St} {H : Hp} {s : Shared}
/-- the body's context, entered out of the very frame that made the lambda -/
theorem lam_in {A : Around} {outer : List Env} {E : XK} {scope : Scope} {N' ps : List Str} {f cd : Addr} {h1 : Heap} {tk : Nat} {binds : List (Str × Value)} (I : Inv X pins σ H s) (L : LamP X.env.scope scope X.N ps) (ev : Env0 X.prog X.w X.K X.mg X.base A outer s H) (hh : A.handled = none)
    (hb : ∀ y ∈ binds, y.1 ∈ ps) (hns : h1.Ns s.heap.objs.size fun y => binds.reverse.lookup y) (kp : ∀ b o, s.heap.get? b = some o → h1.get? b = some o) :
    Inv (lamCx X A outer s H E scope f cd) [] σ H { s with heap := h1, toks := tk } := by
  have fr := L.has I.ok
  have sub : ∀ {y c}, (cloFrom X.env.cells scope.names []).lookup y = some c → X.env.cells.lookup y = some c := fun {y c} z => by
    rcases cloFrom_mem (PySem.mem_of_lookup z) with w | ⟨w1, w2⟩
    · cases w
    · obtain ⟨c1, hc1⟩ := fr _ w1 rfl
      have hc1 : X.env.cells.lookup y = some c1 := hc1
      have : c = c1 := by rw [w2, hc1] <;> rfl
      rw [this]
      exact hc1
  have sup : ∀ {y}, scope.names.lookup y = some .free → ∃ c, (cloFrom X.env.cells scope.names []).lookup y = some c := fun {y} z => mem_lookup (cloFrom_has (cells := X.env.cells) (acc := []) (PySem.mem_of_lookup z))
  have cl : ∀ {c : Addr} {v : Option Value}, s.heap.IsCell c v → h1.IsCell c v := fun {c v} ⟨o, ho, hd⟩ => ⟨_, kp _ _ ho, hd⟩
  have noB : ∀ b : Addr, b ∉ (lamCx X A outer s H E scope f cd).ex := fun b z => nomatch (show b ∈ ([] : List Addr) from z)
  have cellOf : ∀ {y c}, X.env.cells.lookup y = some c → ∃ v, s.heap.IsCell c v := fun {y c} z => I.cell y c z
  constructor
  · constructor
    · exact ev.mod
    · exact L.kind
    · rfl
    · rfl
    · exact Nat.le_refl _
    · exact fun y z c e1 e2 => I.ok.inj y z c (sub e1) (sub e2)
    · intro y hy
      have hy : scope.names.lookup y = some .cell ∨ scope.names.lookup y = some .free := hy
      rcases hy with hy | hy
      · exact absurd rfl (L.own _ (PySem.mem_of_lookup hy)).1
      · exact sup hy
    · exact fun y c z _ => nomatch (show false = true from z)
    · exact fun _ => hh
    · exact Around.frames_deeper ev.frames
    · exact .inr ⟨rfl, rfl⟩
    · exact fun b z => absurd z (noB b)
    · exact ev.bs
    · exact ev.bsz
    · exact fun b _ _ => noB b
    · exact fun b z => absurd z (noB b)
    · exact ev.funs
    · exact ev.frf
  · rfl
  · exact ev.bare
  · exact Un.kept kp
  · refine ⟨_, hns, fun i y v e1 e2 e3 => ?_⟩
    have e3 : Vis scope y := e3
    have e1 : X.N[i]? = some y := e1
    rcases e3 with w | w | w
    · exact absurd (List.mem_of_getElem? e1) (L.par y ((L.own _ (PySem.mem_of_lookup w)).2 rfl)).1
    · exact absurd rfl (L.own _ (PySem.mem_of_lookup w)).1
    · obtain ⟨m, hn, hl⟩ := I.loc
      obtain ⟨u, r, q⟩ := hl i y v e1 e2 ((L.free _ (PySem.mem_of_lookup w) rfl).elim (fun z => .inr (.inl z)) fun z => .inr (.inr z))
      obtain ⟨c2, h2⟩ := sup w
      have c1 := sub h2
      refine ⟨u, r, .inr ⟨.inr w, c2, h2, ?_⟩⟩
      rcases q with ⟨z, _⟩ | ⟨_, c3, e', z⟩
      · have z : X.env.scope.names.lookup y = some .local := z
        rcases L.free _ (PySem.mem_of_lookup w) rfl with z2 | z2 <;> rw [show X.env.scope.names.lookup y = _ from z2] at z <;> cases z
      · rw [c1] at e'
        cases e'
        exact cl z
  · exact fun y c z => let ⟨v, q⟩ := cellOf (sub z); ⟨v, cl q⟩
  · exact ev.hok.fresh (Nat.le_refl _)
  · exact fun y c z => I.freeC y c (sub z)
  · exact fun q hq => nomatch (show q ∈ ([] : List (Addr × Obj)) ++ [] from hq)
  · exact ev.hok.kept kp
  · exact I.len
/-- x(): the slot i holds the lambda -/
def tWork (en : Env) (W : WX) (i : Nat) (ps : List Str) (ar : Arguments) (bd : Expr) (sc : Scope) (tb : XK → TE) : TE := fun σ H Q => ∃ (f cd : Addr) (dV doc pm ct : Value), σ[i]? = some (some (.ref f)) ∧ H f = some (FnO f (lamFdE en ar bd sc dV doc pm cd ct)) ∧ H cd = some (CodeO cd (en.qual ++ "<lambda>")) ∧ DflAt H dV ps ∧ tb (WE W σ) σ H Q
theorem pe_work {en : Env} {i k : Nat} {x : Str} {W : WX} {ps : List Str} {ar : Arguments} {bd : Expr} {sc : Scope} {tb : XK → TE} {p1 p2 : Pos} (hen : X.env = en) (L : LamP X.env.scope sc X.N ps) (hN : X.N[i]? = some x) (hv : Vis X.env.scope x) (tk : Takes X W) (hr : Room (k + 1) X.A)
    (hb0 : ∀ (dV doc pm cv ct : Value), ps = [] → dV = .none → bindArgs (PySem.W.kdv_fn "<lambda>" (X.env.qual ++ "<lambda>") ar (.expr bd) sc (cloFrom X.env.cells sc.names []) dV doc pm cv ct) ⟨[], []⟩ = pure [])
    (hb1 : ∀ (dV doc pm cv ct : Value) (x : Str), ps = [x] → ∃ kk : Option (Array Value) → Sem (List (Str × Value)), bindArgs (PySem.W.kdv_fn "<lambda>" (X.env.qual ++ "<lambda>") ar (.expr bd) sc (cloFrom X.env.cells sc.names []) dV doc pm cv ct) ⟨[], []⟩ = seqItems? dV >>= kk ∧ ∀ u, kk (some #[u]) = pure [(x, u)])
    (hbody : ∀ (s : Shared) (H : Hp) (f cd : Addr) (E : XK), Room k (X.A.deeper (lamEnv X sc s.heap.objs.size f cd)) → PE (lamCx X X.A X.stack s H E sc f cd) bd (tb E))
    (hd : (x == ("__debug__" : Str)) = false := by decide) (hcd : (x == ("__classdict__" : Str)) = false := by decide) : PE X (.Call (.Name x p1) [] [] p2) (tWork en W i ps ar bd sc tb) := by
  subst hen
  refine ⟨fun pins s σ H Q I h => ?_⟩
  obtain ⟨f, cd, dV, doc, pm, ct, hs, hf, hc, hdf, ht⟩ := h
  refine wpAny_Call_Name_kw (thn ((pe_var (pos := p1) (i := i) hN hv hd hcd).run pins s σ H (fun v H1 => v = .ref f ∧ H1 = H) I ⟨.ref f, hs, rfl, rfl⟩) fun u s1 ⟨v, H1, I1, r1, q1⟩ => ?_)
  obtain ⟨rfl, rfl⟩ := q1
  obtain rfl : u = Value.ref f := r1
  have of1 : s1.heap.get? f = some { cls := .type "function", data := .func (lamFd X ar bd sc dV doc pm cd ct) } := (I1.hok f _ hf).1
  refine PySem.W.callWith_F0 ⟨_, _, _, _, of1⟩ ?_
  obtain ⟨⟨oc, vs, t, hoc, hdc, hvc⟩, _, _⟩ := I1.hok cd _ hc
  have binds : ∃ bs : List (Str × Value), BindsTo s1 (lamFd X ar bd sc dV doc pm cd ct) ⟨[], []⟩ bs ∧ ∀ y ∈ bs, y.1 ∈ ps := by
    cases hdf with
    | no e => exact ⟨[], .of_eq (hb0 dV doc pm (.ref cd) ct rfl e), fun y hy => nomatch hy⟩
    | @one x n t e ht =>
      obtain ⟨kk, b1, b2⟩ := hb1 dV doc pm (.ref cd) ct x rfl
      obtain ⟨_, its, rv, o, ho, _, nn, hod⟩ := I1.hok t _ ht
      cases rv with
      | cons r rr =>
        cases rr
        exact ⟨_, BindsTo.of_defaults (fd := lamFd X ar bd sc dV doc pm cd ct) e ho hod b1 (b2 _), fun y hy => by rw [List.mem_singleton.mp hy]; exact List.mem_singleton.mpr rfl⟩
  obtain ⟨bs, hbs, hps⟩ := binds
  have rc : codeAny (model X.prog X.w) X.A (.call (.ref f) ⟨[], []⟩) (CR (L2.CX X.prog X.w) X.stack X.prog X.w H1 s1 Q (WE W σ)) s1 := by
    refine PySem.W.kla_callFunE hr.depth of1 rfl L.co L.gen rfl ⟨cd, oc, vs, t, rfl, hoc, hdc, hvc⟩ (hbs _ _ _ _ ?_)
    refine wpAny_newFunctionEnv (fun y hy => (L.own y hy).1) (fun y hy => (L.par _ (hps y hy)).2) (fun h1 hns hsb => ⟨I1.nolimit.fresh _ hsb, ?_⟩) L.kind
    have kp : ∀ b o, s1.heap.get? b = some o → h1.get? b = some o := fun b o z => hsb.extBut b o (Nat.ne_of_lt (Heap.lt_size z)) (Heap.get?_push_of_some _ z)
    have J : Inv (lamCx X X.A X.stack s1 H1 (WE W σ) sc f cd) [] σ H1 { s1 with heap := h1, toks := s1.toks + bs.length } := lam_in (N' := []) I1 L I1.env0 hr.hd hps hns kp
    refine PySem.W.kla_codeExpr (wpAny_mono ((hbody s1 H1 f cd (WE W σ) (hr.deeper _)).run [] _ _ H1 Q J ht) (fun v s' hq => ?_) fun _ _ z => z)
    obtain ⟨u', H', J', rv, q⟩ := hq
    exact ⟨u', H', J'.os, J'.bare, J'.base, J'.hok, rv, q⟩
  refine wpAny_call (codeAny_mono rc fun r s' hq => ?_)
  cases r with
  | error er => exact tk er s' (XE.of_call I1 (fun _ _ _ z => z) hq)
  | ok fl =>
    cases fl with
    | ret u => exact I1.after hq
    | next => exact False.elim hq
    | brk => exact False.elim hq
    | cont => exact False.elim hq
end
theorem pe_either {X : Cx} {e : Expr} {t1 t2 : TE} (h1 : PE X e t1) (h2 : PE X e t2) : PE X e (fun σ H Q => t1 σ H Q ∨ t2 σ H Q) :=
  ⟨fun pins s σ H Q I h => h.elim (h1.run pins s σ H Q I) (h2.run pins s σ H Q I)⟩
end Fm
set_option Elab.async false
set_option linter.all false
set_option maxRecDepth 100000
set_option maxHeartbeats 1000000
namespace Fm
open PySem PySem.Spec PyProof.Rows L2
/-! try with several clauses, each with a name -/
/-- one clause: its class, the slot of its name, its suite -/
structure Cl1 where
  c : Value
  i : Nat
  ts : Addr → Value → Option Addr → TS
def outOf (i : Nat) (D : Ends) : Ends := { nx := fun τ G => D.nx (τ.set i none) G, rt := D.rt, bk := fun τ G => D.bk (τ.set i none) G, ct := fun τ G => D.ct (τ.set i none) G }
def wManyAs (K : PySem.W.Frag) (Wo : WX) (D : Ends) : List Cl1 → WX
  | [] => Wo
  | q :: r => fun cl d τ G => ∃ b, PySem.W.exmOne K cl q.c = some b ∧ (b = true → ∀ a, G a = none → q.ts a cl d (outOf q.i D) (τ.set q.i (some (.ref a))) G) ∧ (b = false → wManyAs K Wo D r cl d τ G)
inductive ClsOk (X : Cx) : List ExceptHandler → List Cl1 → Prop
  | nil : ClsOk X [] []
  | cons {x n : Str} {q : Cl1} {b1 : Stmt} {su : List Stmt} {p1 p2 : Pos} {hs : List ExceptHandler} {l : List Cl1} (nm : Names X x q.c) (hi : X.N[q.i]? = some n) (hl : X.env.kindOf n = some .local)
      (hsu : ∀ (a : Addr) (ob : Obj) (cl : Value) (d : Option Addr) (pn : List (Addr × Obj)), Zc cl d ob → (∃ us, ob.data = .fields us) → PSs (X.suite a ((a, ob) :: pn)) (b1 :: su) (q.ts a cl d)) (r : ClsOk X hs l) :
      ClsOk X (.ExceptHandler (some (.Name x p1)) (some n) (b1 :: su) p2 :: hs) (q :: l)
/-- a clause that does not look at its error -/
theorem ClsOk.cons0 {X : Cx} {x n : Str} {c : Value} {i : Nat} {t : TS} {b1 : Stmt} {su : List Stmt} {p1 p2 : Pos} {hs : List ExceptHandler} {l : List Cl1} (nm : Names X x c) (hi : X.N[i]? = some n) (hl : X.env.kindOf n = some .local)
    (hsu : ∀ (a : Addr) (ob : Obj) (pn : List (Addr × Obj)), PSs (X.suite a ((a, ob) :: pn)) (b1 :: su) t) (r : ClsOk X hs l) : ClsOk X (.ExceptHandler (some (.Name x p1)) (some n) (b1 :: su) p2 :: hs) (⟨c, i, fun _ _ _ => t⟩ :: l) :=
  .cons (q := ⟨c, i, fun _ _ _ => t⟩) nm hi hl (fun a ob _ _ pn _ _ => hsu a ob pn) r
section
variable {X : Cx} {bd : List Stmt} {k0 : ExceptHandler} {ks : List ExceptHandler} {l : List Cl1} {pos : Pos} {tb : WX → TS} {Wo : WX}
theorem ps_try_manyAs (hst : X.stack = X.env :: X.outer) (hfe : X.env.frame = some X.env.locals) (nd : X.N.Nodup) (tk : Takes X Wo)
    (hb : ∀ (W : WX) (pn : List (Addr × Obj)) (xe : Value → Shared → Prop), Takes (X.tr pn xe) W → PassesOwn (model X.prog X.w) X.A X.env xe → PSs (X.tr pn xe) bd (tb W))
    (hh : ClsOk X (k0 :: ks) l) : PS X (.Try bd (k0 :: ks) [] [] pos) (fun D τ G => tb (wManyAs X.K Wo D l) D τ G) := by
  refine ⟨fun ps st τ G D J0 hw => ?_⟩
  have okX := J0.ok
  have frX : X.A.frames = some (X.env :: X.outer) := okX.frames.trans (congrArg some hst)
  refine wpAny_Try_except ?_
  refine wpAny_mono ((hb (wManyAs X.K Wo D l) (X.pn ++ ps) (fun er t1 => wpAny (model X.prog X.w) X.A (noteFrame er X.env) (fun _ t2 => wpAny (model X.prog X.w) X.A (setFlight er none) (fun _ t3 =>
    wpAny (model X.prog X.w) X.A (handleBy er X.env (k0 :: ks)) (SP X ps D) X.xe t3) X.xe t2) X.xe t1) ?_ PassesOwn.looking).run [] st τ G D (J0.toTry _) hw) (fun fw t1 hsp => ?_) fun _ _ z => z
  · rintro u st' ⟨a, B, sJ, ps', τ1, G1, cl, d, rfl, J', nb, up, sky, na, osq, ag, wq⟩
    have J : Inv X ps τ1 G1 sJ := J'.ofTry okX
    have sk : Sky B (X.env :: X.outer) a (Zc cl d) X.env.locals st'.heap := hst ▸ sky
    show wpAny (model X.prog X.w) X.A (noteFrame (.ref a) X.env) _ _ _
    refine Sky.land Zc.steady frX hfe sk fun g3 fl up3 => ?_
    have J3 : Inv X ps τ1 G1 { st' with heap := g3 } := J.landed nb fl.1 (up.trans up3) osq ag
    obtain ⟨ob, us, hob, hz, hdat⟩ := fl.there
    have notIn : a ∉ frs (X.env :: X.outer) := fun hm => by
      obtain ⟨_, o2, h2, hn⟩ := fl.2.2.1.mem hm
      rw [hob] at h2
      exact hn us (by rw [← Option.some.inj h2]; exact hdat)
    have n1 : a ≠ X.env.locals := fun z => notIn (List.mem_filterMap.mpr ⟨X.env, List.mem_cons_self, hfe.trans (congrArg some z.symm)⟩)
    have n2 : a ∉ X.fs := fun hm => by
      obtain ⟨ev, hev, q⟩ := List.mem_filterMap.mp hm
      exact notIn (List.mem_filterMap.mpr ⟨ev, List.mem_cons_of_mem _ hev, q⟩)
    have S3 := J3.suite hob hdat na n1 n2
    have each : ∀ {ks' : List ExceptHandler} {l' : List Cl1}, ClsOk X ks' l' → wManyAs X.K Wo D l' cl d τ1 G1 → wpAny (model X.prog X.w) X.A (handleBy (.ref a) X.env ks') (SP X ps D) X.xe { st' with heap := g3 } := by
      intro ks' l' hk
      induction hk with
      | nil =>
        intro wz
        refine wpAny_handleBy_nil ?_
        obtain ⟨c1, c2, c3, oe, vz, T, oT, tz, q1, q2, q3, q4, q5⟩ := id fl
        unfold PySem.passOn
        refine wpAny_bind (wpAny_field q1 q3 q4 ?_)
        rw [if_neg (fun z : (Value.ref T == Value.none) = true => Bool.noConfusion z)]
        have out : wpAny (model X.prog X.w) X.A (setFlight (.ref a) X.env.frame) (fun _ t4 => wpAny (model X.prog X.w) X.A (throw (.ref a) : Sem Flow) (SP X ps D) X.xe t4) X.xe { st' with heap := g3 } := by
          rw [hfe]
          refine HandSPX.setFlight_upZ fl fun g4 hg4 up4 => wpAny_throw (tk _ _ ⟨a, B, sJ, ps, τ1, G1, cl, d, rfl, J, nb, (up.trans up3).trans up4, .inr (.inr ?_), na, osq, ag, wz⟩)
          rw [hst]
          exact hg4
        first
          | exact wpAny_bind (wpAny_pure (wpAny_bind out))
          | exact wpAny_bind out
      | @cons x n q b1 su p1 p2 hs2 l2 nm hi hl hsu r ih =>
        rintro ⟨b, hb1, hy, hn⟩
        refine wpAny_handleBy_cons (codeAny_handlers_test ?_) (fun z => by cases z)
        have LT : PySem.W.Looks (model X.prog X.w) g3 (typeOf (.ref a)) cl := fun A' Q' E' s' k' z => wpAny_typeOf_ref (k' _ _ hob) (by rw [hz.1]; exact z)
        have LM := PySem.W.exm_one (M := model X.prog X.w) J3.kIn LT hb1
        have look : ∀ {Q' : Value → Shared → Prop} {E' : Value → Shared → Prop}, Q' q.c { st' with heap := g3 } → wpAny (model X.prog X.w) (X.A.mark (some (.ref a))) (eval (.Name x p1) X.env) Q' E' { st' with heap := g3 } := fun {Q' E'} z => by
          obtain ⟨m1, m2, m3 | ⟨m3, m4, m5⟩⟩ := nm
          · exact ld_glob (X := X.suite a ((a, ob) :: (X.pn ++ ps))) S3 m1 m3 z m2
          · exact ld_blt (X := X.suite a ((a, ob) :: (X.pn ++ ps))) S3 m1 m3 m4 z m5 m2
        refine look (LM.here ?_)
        cases b with
        | true =>
          refine codeAny_handlers_suite_as (HandSPX.lands_againZ fl fun g4 fl4 up4 => ?_)
          have J4 : Inv X ps τ1 G1 { st' with heap := g4 } := J.landed nb fl4.1 ((up.trans up3).trans up4) osq ag
          obtain ⟨ob4, us4, hob4, hz4, hdat4⟩ := fl4.there
          refine store_ok (X := X.suite a ((a, ob4) :: (X.pn ++ ps))) (v := .ref a) (J4.suite hob4 hdat4 na n1 n2) nd hi (.inl hl) rfl (fun t5 S5 => ?_) (.inr hl)
          refine wpAny_mono ((hsu a ob4 cl d (X.pn ++ ps) hz4 ⟨_, hdat4⟩).run [] t5 _ G1 _ S5 (hy rfl a na)) (fun fw t6 hsp => ?_) (fun _ _ z => False.elim z)
          have fin : ∀ {τ6 : L2.St} {G6 : Hp} {R : Shared → Prop}, Inv (X.suite a ((a, ob4) :: (X.pn ++ ps))) [] τ6 G6 t6 → (∀ t7, Inv X ps (τ6.set q.i none) G6 t7 → R t7) →
              wpAny (model X.prog X.w) X.A (do bindName X.env n .none; unbindBehindTheSuite X.env n p2) (fun _ t7 => R t7) X.xe t6 := fun {τ6 G6 R} S6 hR => gone_ok (S6.unsuite okX) nd hi hl hR
          cases fw with
          | next =>
            obtain ⟨τ6, G6, S6, z⟩ := hsp
            exact fin S6 fun t7 J7 => ⟨_, _, J7, z⟩
          | brk =>
            obtain ⟨τ6, G6, S6, z⟩ := hsp
            exact fin S6 fun t7 J7 => ⟨_, _, J7, z⟩
          | cont =>
            obtain ⟨τ6, G6, S6, z⟩ := hsp
            exact fin S6 fun t7 J7 => ⟨_, _, J7, z⟩
          | ret u6 =>
            obtain ⟨v6, τ6, G6, S6, r6, z⟩ := hsp
            exact fin S6 fun t7 J7 => ⟨_, _, _, J7, r6, z⟩
        | false =>
          show wpAny _ X.A (handleBy (.ref a) X.env hs2) _ _ _
          exact ih (hn rfl)
    exact each hh wq
  · cases fw with
    | next =>
      obtain ⟨τ1, G1, J', z⟩ := hsp
      exact wpAny_execs_nil ⟨τ1, G1, J'.ofTry okX, z⟩
    | brk =>
      obtain ⟨τ1, G1, J', z⟩ := hsp
      exact ⟨τ1, G1, J'.ofTry okX, z⟩
    | cont =>
      obtain ⟨τ1, G1, J', z⟩ := hsp
      exact ⟨τ1, G1, J'.ofTry okX, z⟩
    | ret u1 =>
      obtain ⟨v1, τ1, G1, J', r1, z⟩ := hsp
      exact ⟨v1, τ1, G1, J'.ofTry okX, r1, z⟩
end
section
variable {X : Cx} {o e : Expr} {es : List Expr} {to : TE} {t : TA} {name : Str} {apos cpos : Pos} {T id : String} {r : V → List V → Hp → VK → Prop}
/-- pe_bm, its K told -/
theorem pe_bmK {K : PySem.W.Frag} (hK : X.K = K) (pa : PlainAttrs T) (slot : Slot T name id) (hty : typeOf (.builtin id) = pure (.type "method_descriptor")) (hm : MtR X id r) (ho : PE X o to) (ha : PA X (e :: es) t)
    (hbase : attributeBase o name X.env (eval o X.env) = eval o X.env := by rfl)
    (hfew : ((backTo cpos (starEach (e :: es) X.env)).all (fun x => !x.1) && (backToKw cpos (keywordEach [] X.env)).all (fun x => x.1.isSome)
      && decide ((e :: es).length + ([] : List Keyword).length + (if ([] : List Keyword).isEmpty then 0 else 1) < 30)) = true := by rfl)
    (hline : (apos.endLine == cpos.line) = true := by rfl) (hs : starEach (e :: es) X.env = (false, eval e X.env) :: starEach es X.env := by rfl) (hplain : (backTo cpos (starEach es X.env)).any (·.1) = false := by rfl) :
    PE X (.Call (.Attribute o name apos) (e :: es) [] cpos) (tBM K T r to t) := hK ▸ pe_bm pa slot hty hm ho ha hbase hfew hline hs hplain
end
end Fm
set_option Elab.async false
set_option linter.all false
set_option maxRecDepth 100000
set_option maxHeartbeats 1000000
namespace Fm
open PySem L2 Evl
section
variable {K : PySem.W.Frag} {σ : L2.St} {H : Hp} {ta tb te : TE} {tr tA : TA} {D : Ends} {tz : TS} {Q : VK} {x : V} {r : R2}
theorem ev_ixNL {xs : List V} {i : Int} {v : V} (ha : EvL ta σ H xs) (hb : ∀ H1, Ex H H1 → Ev tb σ H1 (.int i)) (e : atI xs i = some v) : Ev (tOp (rIx K) ta tb) σ H v := fun H1 e1 Q q => ha H1 e1 _ fun p H2 hp e2 h2 => hb H2 (e1.trans e2) H2 (Ex.refl _) _ fun H3 e3 =>
  .inl ⟨p, xs, i, v, rfl, rfl, sq_of (e3 _ _ h2), e, q H3 (e2.trans e3)⟩
theorem m_consU {vs : List V} {Q : List V → Hp → Prop} (h : EvU te σ H vs) (k : ∀ p H1, H p = none → Ex H H1 → H1 p = some (.tup vs) → tr σ H1 fun xs H2 => Q (.ref p :: xs) H2) : tCons te tr σ H Q := h H (Ex.refl H) _ k
theorem m_consLst {Q : List V → Hp → Prop} (h : tA σ H fun xs H1 => xs.length ≤ sizeLine ∧ ∀ p, H1 p = none → tr σ (upd H1 p (.lst xs)) fun ys H2 => Q (.ref p :: ys) H2) : tCons (tLst tA) tr σ H Q := h
theorem m_app {l : Addr} {xs : List V} (ha : Ev ta σ H (.ref l)) (hl : H l = some (.lst xs)) (k : ∀ H1, Ex H H1 → te σ H1 fun v H2 => rAppend (.ref l) [v] H2 fun _ H3 => D.nx σ H3) : tDrop (tBM K "list" rAppend ta (tCons te tNil)) D σ H :=
  ha H (Ex.refl H) _ fun H1 e1 => ⟨Or.inl ⟨rfl, xs, sq_of (e1 l _ hl)⟩, k H1 e1⟩
end
theorem pick5 {w c len : Nat} (hw : w < 5) : ∃ s, atI [V.str "get", .str "set", .str "plus", .str "minus", .str "get"] (w : Int) = some (.str s) ∧ ∀ n, n < c → ∃ i, In.ok c len i ∧ i.isTouch = false ∧ i.vs = [.str s, .int (n : Nat)] := match w, hw with
  | 0, _ => ⟨_, rfl, fun n hn => ⟨.get n, hn, rfl, rfl⟩⟩
  | 1, _ => ⟨_, rfl, fun n hn => ⟨.set n, hn, rfl, rfl⟩⟩
  | 2, _ => ⟨_, rfl, fun n hn => ⟨.plus n, hn, rfl, rfl⟩⟩
  | 3, _ => ⟨_, rfl, fun n hn => ⟨.minus n, hn, rfl, rfl⟩⟩
  | 4, _ => ⟨_, rfl, fun n hn => ⟨.get n, hn, rfl, rfl⟩⟩
  | _ + 5, h => absurd h (by omega)
theorem pick3 {w c len : Nat} (hw : w < 3) : ∃ s, atI [V.str "zero", .str "zero", .str "go"] (w : Int) = some (.str s) ∧ ∀ n, n ≤ len → ∃ i, In.ok c len i ∧ i.isTouch = false ∧ i.vs = [.str s, .int (n : Nat)] := match w, hw with
  | 0, _ => ⟨_, rfl, fun n hn => ⟨.zero n, hn, rfl, rfl⟩⟩
  | 1, _ => ⟨_, rfl, fun n hn => ⟨.zero n, hn, rfl, rfl⟩⟩
  | 2, _ => ⟨_, rfl, fun n hn => ⟨.go n, hn, rfl, rfl⟩⟩
  | _ + 3, h => absurd h (by omega)
def spProg (K : PySem.W.Frag) : Sp := fun vs H Q _ => ∃ (r s : Addr) (ns : List Int) (c m : Nat), vs = [.ref r, .int (c : Nat), .int (m : Nat)] ∧ RowAt K H r s ns ∧ 0 < c ∧ c < 1000 ∧ 0 < m ∧ m < 1000 ∧
  ∀ b p H', H b = none → PgT K H' b p → Pok c p → NoT p → p.length ≤ m → RowAt K H' r s ns → Ex (rem H r) H' → Q (.ref b) H'
section
variable {P : Program} {w : World} {K : PySem.W.Frag} {mg : Str → Option Value} {base : Heap}
end
end Fm
set_option Elab.async false
set_option linter.all false
set_option maxRecDepth 100000
set_option maxHeartbeats 1000000
namespace Fm
open PySem L2 Evl
def iD (zs : List Int) : List PyData := zs.map PyData.int
theorem iD_lay : ∀ zs : List Int, PyData.canLayAll0 (iD zs) = true
  | [] => by simp [iD, PyData.canLayAll0]
  | z :: zs => by simpa [iD, PyData.canLayAll0, PyData.canLay0] using iD_lay zs
theorem iD_depth : ∀ zs : List Int, PyData.depthAll (iD zs) = 0
  | [] => by simp [iD, PyData.depthAll]
  | z :: zs => by simpa [iD, PyData.depthAll, PyData.depth] using iD_depth zs
theorem iD_shaped (zs : List Int) : SeqAt.shaped (.list (iD zs)) = true := by
  show (PyData.canLay0 (.list (iD zs)) && decide (PyData.depth (.list (iD zs)) ≤ 64)) = true
  rw [Bool.and_eq_true]
  exact ⟨by simp only [PyData.canLay0]; exact iD_lay zs, decide_eq_true (by simp only [PyData.depth, iD_depth]; omega)⟩
/-- data as _law_alike walks it: depth at most n -/
inductive AD : Nat → PyData → Prop where
  | non {n : Nat} : AD n .none
  | int {n : Nat} (i : Int) : AD n (.int i)
  | str {n : Nat} (s : Str) (h : PyData.strOk s = true) : AD n (.str s)
  | lst {n : Nat} {ds : List PyData} (hl : ds.length ≤ 40000) (h : ∀ d ∈ ds, AD n d) : AD (n + 1) (.list ds)
  | tup {n : Nat} {ds : List PyData} (hl : ds.length ≤ 40000) (h : ∀ d ∈ ds, AD n d) : AD (n + 1) (.tuple ds)
section
variable {K : PySem.W.Frag} {σ : L2.St} {H H' : Hp} {ta tb te : TE} {tr tA : TA} {D : Ends} {tz : TS} {Q : VK} {x : V} {r : R2} {P : Program} {w : World} {mg : Str → Option Value} {base : Heap}
mutual
theorem dp_up (e : Ex H H') : ∀ (d : PyData) (x : V), Dp K H x d → Dp K H' x d
  | .none, _, h => by cases h; exact .non
  | .bool b, _, h => by cases h; exact .bl b
  | .int i, _, h => by cases h; exact .int i
  | .str s, _, h => by cases h; exact .str s
  | .list ds, _, h => by cases h with | lst h1 h2 => exact .lst (ex_l e h1) (dpAll_up e ds _ h2)
  | .tuple ds, _, h => by cases h with | tup h1 h2 => exact .tup (ex_t e h1) (dpAll_up e ds _ h2)
  | .dict _, _, h => by cases h
theorem dpAll_up (e : Ex H H') : ∀ (ds : List PyData) (xs : List V), DpAll K H xs ds → DpAll K H' xs ds
  | [], _, h => by cases h; exact .nil
  | d :: ds, _, h => by cases h with | cons h1 h2 => exact .cons (dp_up e d _ h1) (dpAll_up e ds _ h2)
end
theorem dp_ints : ∀ zs : List Int, DpAll K H (zs.map V.int) (iD zs)
  | [] => .nil
  | z :: zs => .cons (.int z) (dp_ints zs)
theorem dpAll_len : ∀ {xs : List V} {ds : List PyData}, DpAll K H xs ds → xs.length = ds.length
  | _, _, .nil => rfl
  | _, _, .cons _ h => congrArg (· + 1) (dpAll_len h)
theorem dpAll_get : ∀ {xs : List V} {ds : List PyData} {i : Nat} {d : PyData}, DpAll K H xs ds → ds[i]? = some d → ∃ x, xs[i]? = some x ∧ Dp K H x d
  | _, _, 0, d, .cons h _, e => by cases e; exact ⟨_, rfl, h⟩
  | _, _, i + 1, d, .cons _ h, e => dpAll_get (i := i) h e
theorem eqv_nil (zs : List Int) : PyData.eqv (.list (iD zs)) (.list (iD [])) = zs.isEmpty := by
  cases zs with
  | nil => simp [iD, PyData.eqv, PyData.eqvAll]
  | cons z zs => simp [iD, PyData.eqv, PyData.eqvAll]
theorem ev_eqNil {zs : List Int} (ha : EvL ta σ H (zs.map V.int)) : Ev (tOp (rEqD K) ta (tLst tNil)) σ H (.bl zs.isEmpty) := fun H1 e Q q => ha H1 e _ fun p H2 hp e2 h2 => ⟨Nat.zero_le _, fun l hl => by
  refine ⟨_, _, .lst (sq_of (Ex.new hl _ _ h2)) (dp_ints zs), .lst (sq_of upd_same) (dp_ints []), iD_shaped _, iD_shaped _, ?_⟩
  rw [eqv_nil]
  exact q _ (e2.trans (Ex.new hl))⟩
theorem ev_neNil {zs : List Int} (ha : EvL ta σ H (zs.map V.int)) : Ev (tOp (rNeD K) ta (tLst tNil)) σ H (.bl (!zs.isEmpty)) := fun H1 e Q q => ha H1 e _ fun p H2 hp e2 h2 => ⟨Nat.zero_le _, fun l hl => by
  refine ⟨_, _, .lst (sq_of (Ex.new hl _ _ h2)) (dp_ints zs), .lst (sq_of upd_same) (dp_ints []), iD_shaped _, iD_shaped _, ?_⟩
  rw [eqv_nil]
  exact q _ (e2.trans (Ex.new hl))⟩
theorem ev_neNilV {a : Addr} {zs : List Int} (ha : Ev ta σ H (.ref a)) (hq : SqL K H a (zs.map V.int)) : Ev (tOp (rNeD K) ta (tLst tNil)) σ H (.bl (!zs.isEmpty)) := fun H1 e Q q => ha H1 e _ fun H2 e2 => ⟨Nat.zero_le _, fun l hl => by
  refine ⟨_, _, .lst (ex_l ((e.trans e2).trans (Ex.new hl)) hq) (dp_ints zs), .lst (sq_of upd_same) (dp_ints []), iD_shaped _, iD_shaped _, ?_⟩
  rw [eqv_nil]
  exact q _ (e2.trans (Ex.new hl))⟩
theorem ev_isi2 {x : V} {t n1 n2 : String} {b1 b2 : Bool} (ha : Ev ta σ H x) (ty : TyX K H x (.type t)) (h1 : kitB t n1 = some b1) (h2 : kitB t n2 = some b2) : Ev (tCB (rIsiT K) (tCons ta (tCons (tTup (tCons (tC (.ty n1)) (tCons (tC (.ty n2)) tNil))) tNil))) σ H (.bl (b1 || b2)) := fun H1 e1 _ q =>
  ha H1 e1 _ fun H2 e2 => ⟨by show 2 ≤ sizeLine; rw [sizeLine_eq]; decide, fun p hp => ⟨x, p, _, .type t, [.type n1, .type n2], b1 || b2, rfl, upd_same, .cons (.ty _) (.cons (.ty _) .nil), tyx_up ((e1.trans e2).trans (Ex.new hp)) ty, kitAny_cons (kit_ty h1) (fun hb => by
    rw [hb]
    refine kitAny_cons (kit_ty h2) (fun hb2 => by rw [hb2]; exact kitAny_nil) (fun hb2 => by rw [hb2]; rfl)) (fun hb => by rw [hb]; rfl), q _ (e2.trans (Ex.new hp))⟩⟩
theorem ev_eqDD {x y : V} {d : PyData} (ha : Ev ta σ H x) (hb : Ev tb σ H y) (h1 : Dp K H x d) (h2 : Dp K H y d) (hs : SeqAt.shaped d = true) : Ev (tOp (rEqD K) ta tb) σ H (.bl true) := ev_op ha hb fun H1 e _ q => ⟨_, _, dp_up e _ _ h1, dp_up e _ _ h2, hs, hs, by
  rw [PySem.SeqAt.eqv_refl d (SeqAt.canLay_of_shaped hs)]
  exact q H1 (Ex.refl H1)⟩
def spNone : Sp := fun _ _ _ _ => False
theorem ok_none {k : Nat} {f : Addr} {fd : FuncData} {ps : List Str} : FnOk P w K mg base CX0 k f fd ps spNone := ⟨fun _ _ _ _ h => h.elim, fun _ _ _ _ _ _ _ _ _ _ _ _ _ h => h.elim⟩
/-- one and the same data, twice -/
def spAlikeD (K : PySem.W.Frag) (n : Nat) : Sp := fun vs H Q _ => ∃ (x y : V) (d : PyData), vs = [x, y] ∧ Dp K H x d ∧ Dp K H y d ∧ AD n d ∧ ∀ H', Ex H H' → Q (.bl true) H'
def spPrev (K : PySem.W.Frag) : Nat → Sp
  | 0 => spNone
  | n + 1 => spAlikeD K n
theorem ad_cases {n : Nat} {x y : V} {d : PyData} (had : AD n d) (hx : Dp K H x d) (hy : Dp K H y d) : (x = .non ∧ y = .non) ∨ (∃ i, x = .int i ∧ y = .int i) ∨ (∃ s, PyData.strOk s = true ∧ x = .str s ∧ y = .str s) ∨
    ∃ (a b : Addr) (xs ys : List V) (ds : List PyData) (t : String) (c : Bool), x = .ref a ∧ y = .ref b ∧ TyX K H x (.type t) ∧ TyX K H y (.type t) ∧ (∀ H', Ex H H' → (SqL K H' a xs ∧ SqL K H' b ys) ∨ (SqT K H' a xs ∧ SqT K H' b ys)) ∧ kitB t "tuple" = some (!c) ∧ kitB t "list" = some c ∧ DpAll K H xs ds ∧ DpAll K H ys ds ∧ ds.length ≤ 40000 ∧
      ∀ (i : Nat) (dd : PyData) (u v : V) (H' : Hp) (Q' : VK), Ex H H' → ds[i]? = some dd → Dp K H u dd → Dp K H v dd → (∀ H2, Ex H' H2 → Q' (.bl true) H2) → spPrev K n [u, v] H' Q' E0 := by
  cases had with
  | non => cases hx; cases hy; exact .inl ⟨rfl, rfl⟩
  | int i => cases hx; cases hy; exact .inr (.inl ⟨i, rfl, rfl⟩)
  | str s hs => cases hx; cases hy; exact .inr (.inr (.inl ⟨s, hs, rfl, rfl⟩))
  | @lst m ds hl hall =>
    cases hx with
    | @lst a xs _ h1 h2 =>
      cases hy with
      | @lst b ys _ h3 h4 =>
        exact .inr (.inr (.inr ⟨a, b, xs, ys, ds, "list", true, rfl, rfl, ty_lst h1, ty_lst h3, fun H' e => .inl ⟨ex_l e h1, ex_l e h3⟩, by decide +kernel, by decide +kernel, h2, h4, hl, fun i dd u v H' Q' e hi hu hv q => ⟨u, v, dd, rfl, dp_up e _ _ hu, dp_up e _ _ hv, hall dd (List.mem_of_getElem? hi), q⟩⟩))
  | @tup m ds hl hall =>
    cases hx with
    | @tup a xs _ h1 h2 =>
      cases hy with
      | @tup b ys _ h3 h4 =>
        exact .inr (.inr (.inr ⟨a, b, xs, ys, ds, "tuple", false, rfl, rfl, ty_tup h1, ty_tup h3, fun H' e => .inr ⟨ex_t e h1, ex_t e h3⟩, by decide +kernel, by decide +kernel, h2, h4, hl, fun i dd u v H' Q' e hi hu hv q => ⟨u, v, dd, rfl, dp_up e _ _ hu, dp_up e _ _ hv, hall dd (List.mem_of_getElem? hi), q⟩⟩))
theorem ty_int {i : Int} : TyX K H (.int i) (.type "int") := .base (.int i)
theorem ty_str {s : Str} : TyX K H (.str s) (.type "str") := .base (.str s)
theorem ty_non : TyX K H .non (.type "NoneType") := .base .non
abbrev s_law_alike : Stmt := top 24
theorem sc_law_alike : FnScope ["found", "due", "k"] ["found", "due"] (defScope s_law_alike) := ⟨rfl, rfl, rfl, by decide +kernel, rfl, by decide +kernel, by decide +kernel⟩
--TY _law_alike {'found':('tuple','any'),'due':('tuple','any')}
theorem step_alike {n : Nat} {f f1 : Addr} {fd fd1 : FuncData} (F : Fun K "_law_alike" "_law_alike" s_law_alike f fd) (T : Txt K mg) (C_law_alike : Cal P w K mg base CX0 n "_law_alike" f1 fd1 ["found", "due"] (spPrev K n)) : FnOk P w K mg base CX0 (n + 1) f fd ["found", "due"] (spAlikeD K n) := by
  refine F.ok sc_law_alike (fun vs H Q E h => ?_) (fun cdv A outer s H vs Q E hr h => ?_)
  · obtain ⟨_, _, _, rfl, _⟩ := h
    rfl
  · obtain ⟨x, y, d, rfl, hx, hy, had, k⟩ := h
    refine ⟨_, (pss_cons (ps_if (pt_val (pe_callB (isiT_K (K := K) rfl) (by rfl) T.z_isinstance (by decide +kernel) (pa_cons (pv 1) (pa_cons (pe_tup (pa_cons (pe_bltn (v := .ty "tuple") (by rfl) T.z_tuple (by decide +kernel) rfl) (pa_cons (pe_bltn (v := .ty "list") (by rfl) T.z_list (by decide +kernel) rfl) pa_nil))) pa_nil)))) (pss_cons (ps_if (PW.pt (pw_or (pt_not (pt_val (pe_callB (isiT_K (K := K) rfl) (by rfl) T.z_isinstance (by decide +kernel) (pa_cons (pv 0) (pa_cons (pe_tup (pa_cons (pe_bltn (v := .ty "tuple") (by rfl) T.z_tuple (by decide +kernel) rfl) (pa_cons (pe_bltn (v := .ty "list") (by rfl) T.z_list (by decide +kernel) rfl) pa_nil))) pa_nil))))) (pw_or1 (pt_cmpR op_ne (pe_callB (isi_K (K := K) rfl) (by rfl) T.z_isinstance (by decide +kernel) (pa_cons (pv 0) (pa_cons (pe_bltn (v := .ty "list") (by rfl) T.z_list (by decide +kernel) rfl) pa_nil))) (pe_callB (isi_K (K := K) rfl) (by rfl) T.z_isinstance (by decide +kernel) (pa_cons (pv 1) (pa_cons (pe_bltn (v := .ty "list") (by rfl) T.z_list (by decide +kernel) rfl) pa_nil))) (nomark _))))) (pss_one (ps_ret pe_bl)) pss_nil)
  (pss_cons (ps_if (pt_cmpR op_ne (pe_callB (len_K (K := K) rfl) (by rfl) T.z_len (by decide +kernel) (pa_cons (pv 0) pa_nil)) (pe_callB (len_K (K := K) rfl) (by rfl) T.z_len (by decide +kernel) (pa_cons (pv 1) pa_nil)) (nomark _)) (pss_one (ps_ret pe_bl)) pss_nil)
  (pss_one (ps_ret (pe_cmpR (eqD_K (K := K) rfl hr.units) (pe_lc (own := [("k", 2)]) (g := gName 2) rfl sc_law_alike.nd (pi_range1 rfl T.z_range (pa_cons (pe_callB (len_K (K := K) rfl) (by rfl) T.z_len (by decide +kernel) (pa_cons (pv 1) pa_nil)) pa_nil)) (blkOk_by (by kernel_rfl)) (fun _ _ _ _ _ => pg_name (i := 2) sc_law_alike.nd rfl (by first | exact Or.inl rfl | exact Or.inr rfl)) (fun _ _ _ _ _ => (pts_one (pt_not (pt_val (pe_call C_law_alike.G (hr.mono (by first | decide | omega)) rfl C_law_alike.g C_law_alike.kp C_law_alike.b .nil pass0 (pa_cons (pe_ix (ix_K (K := K) rfl) (pv 0) (pv 2) (fun _ _ => rfl)) (pa_cons (pe_ix (ix_K (K := K) rfl) (pv 1) (pv 2) (fun _ _ => rfl)) pa_nil))))))) (fun _ _ _ _ _ => (pv 2))) (pe_lst pa_nil) (nomark _)))))) pss_nil)
  (pss_cons (ps_if (PW.pt (pw_or (pt_cmpR op_isN (pv 1) pe_non (nomark _)) (pw_or1 (pt_val (pe_callB (isi_K (K := K) rfl) (by rfl) T.z_isinstance (by decide +kernel) (pa_cons (pv 1) (pa_cons (pe_bltn (v := .ty "str") (by rfl) T.z_str (by decide +kernel) rfl) pa_nil))))))) (pss_one (ps_ret (pe_and (pe_cmpR (eqD_K (K := K) rfl hr.units) (pv 0) (pv 1) (nomark _)) (pe_one (pe_cmpR op_eq (pe_callB (isi_K (K := K) rfl) (by rfl) T.z_isinstance (by decide +kernel) (pa_cons (pv 0) (pa_cons (pe_bltn (v := .ty "str") (by rfl) T.z_str (by decide +kernel) rfl) pa_nil))) (pe_callB (isi_K (K := K) rfl) (by rfl) T.z_isinstance (by decide +kernel) (pa_cons (pv 1) (pa_cons (pe_bltn (v := .ty "str") (by rfl) T.z_str (by decide +kernel) rfl) pa_nil))) (nomark _)))))) pss_nil)
  (pss_one (ps_ret (pe_and (pe_callB (isi_K (K := K) rfl) (by rfl) T.z_isinstance (by decide +kernel) (pa_cons (pv 0) (pa_cons (pe_bltn (v := .ty "int") (by rfl) T.z_int (by decide +kernel) rfl) pa_nil))) (pe_and (pe_cmpR op_eq (pe_callB (isi_K (K := K) rfl) (by rfl) T.z_isinstance (by decide +kernel) (pa_cons (pv 0) (pa_cons (pe_bltn (v := .ty "bool") (by rfl) T.z_bool (by decide +kernel) rfl) pa_nil))) (pe_callB (isi_K (K := K) rfl) (by rfl) T.z_isinstance (by decide +kernel) (pa_cons (pv 1) (pa_cons (pe_bltn (v := .ty "bool") (by rfl) T.z_bool (by decide +kernel) rfl) pa_nil))) (nomark _)) (pe_one (pe_cmpR (eqD_K (K := K) rfl hr.units) (pv 0) (pv 1) (nomark _))))))))), ?_⟩
    rcases ad_cases had hx hy with ⟨rfl, rfl⟩ | ⟨i, rfl, rfl⟩ | ⟨s, hs, rfl, rfl⟩ | ⟨a, b, xs, ys, ds, t, c, rfl, rfl, tx, ty, hsq, hk1, hk2, hd1, hd2, hl, hrec⟩
    · have hx : Dp K H .non .none := .non
      refine q_when (b := false || false) (et_B (ev_isi2 (ev_var rfl) ty_non (by decide +kernel) (by decide +kernel))) (fun z => nomatch z) fun _ H1 e1 => ?_
      refine q_when (b := true) (et_is (et_or (a := true) (b := true) (et_is (et_isN (ev_var rfl)) (by simp)) fun z => nomatch z) rfl) (fun _ H2 e2 => ?_) fun z => nomatch z
      refine s_ret (v := .bl (true && decide (V.bl false = V.bl false))) (ev_andV (ev_eqDD (ev_var rfl) (ev_var rfl) .non .non rfl) fun _ => ev_op (ev_isi (t := "NoneType") (b := false) (ev_var rfl) ty_non (by decide +kernel)) (ev_isi (t := "NoneType") (b := false) (ev_var rfl) ty_non (by decide +kernel)) (rv_eq rfl)) fun H3 e3 => ?_
      rw [decide_eq_true rfl]
      exact k H3 ((e1.trans e2).trans e3)
    · have hx : Dp K H (.int i) (.int i) := .int i
      refine q_when (b := false || false) (et_B (ev_isi2 (ev_var rfl) ty_int (by decide +kernel) (by decide +kernel))) (fun z => nomatch z) fun _ H1 e1 => ?_
      refine q_when (b := false || false) (et_or (et_is (et_isN (ev_var rfl)) rfl) fun _ => et_B (ev_isi (t := "int") (ev_var rfl) ty_int (by decide +kernel))) (fun z => nomatch z) fun _ H2 e2 => ?_
      refine s_ret (v := .bl (true && (decide (V.bl false = V.bl false) && true))) (ev_andV (ev_isi (t := "int") (ev_var rfl) ty_int (by decide +kernel)) fun _ => ev_andV (ev_op (ev_isi (t := "int") (ev_var rfl) ty_int (by decide +kernel)) (ev_isi (t := "int") (ev_var rfl) ty_int (by decide +kernel)) (rv_eq rfl)) fun _ => ev_eqDD (ev_var rfl) (ev_var rfl) (.int i) (.int i) rfl) fun H3 e3 => ?_
      rw [decide_eq_true rfl]
      exact k H3 ((e1.trans e2).trans e3)
    · have hx : Dp K H (.str s) (.str s) := .str s
      refine q_when (b := false || false) (et_B (ev_isi2 (ev_var rfl) ty_str (by decide +kernel) (by decide +kernel))) (fun z => nomatch z) fun _ H1 e1 => ?_
      refine q_when (b := false || true) (et_or (et_is (et_isN (ev_var rfl)) rfl) fun _ => et_B (ev_isi (t := "str") (ev_var rfl) ty_str (by decide +kernel))) (fun _ H2 e2 => ?_) fun z => nomatch z
      have hsh : SeqAt.shaped (.str s) = true := by
        show (PyData.canLay0 (.str s) && decide (PyData.depth (.str s) ≤ 64)) = true
        simp [PyData.canLay0, PyData.depth, hs]
      refine s_ret (v := .bl (true && decide (V.bl true = V.bl true))) (ev_andV (ev_eqDD (ev_var rfl) (ev_var rfl) (.str s) (.str s) hsh) fun _ => ev_op (ev_isi (t := "str") (b := true) (ev_var rfl) ty_str (by decide +kernel)) (ev_isi (t := "str") (b := true) (ev_var rfl) ty_str (by decide +kernel)) (rv_eq rfl)) fun H3 e3 => ?_
      rw [decide_eq_true rfl]
      exact k H3 ((e1.trans e2).trans e3)
    · replace hrec := hrec
      have lx := dpAll_len hd1
      have ly := dpAll_len hd2
      have hor : (!c || c) = true := by cases c <;> rfl
      refine q_when (b := true) (et_is (et_B (ev_isi2 (ev_var rfl) ty hk1 hk2)) hor) (fun _ H1 e1 => ?_) fun z => nomatch z
      refine q_when (b := false) (et_is (et_or (b := false) (et_not (a := true) (et_is (et_B (ev_isi2 (ev_var rfl) (tyx_up e1 tx) hk1 hk2)) hor)) fun _ => et_is (et_ne (ev_isi (t := t) (b := c) (ev_var rfl) (tyx_up e1 tx) hk2) (ev_isi (t := t) (b := c) (ev_var rfl) (tyx_up e1 ty) hk2) rfl) (by simp)) rfl) (fun z => nomatch z) fun _ H2 e2 => ?_
      have e02 := e1.trans e2
      have ln : ∀ {H' : Hp} {σ : L2.St} {te : TE} {q : Addr} {zs : List V}, Ev te σ H' (.ref q) → (SqL K H' q zs ∨ SqT K H' q zs) → Ev (tCB (rLn K) (tCons te tNil)) σ H' (.int (zs.length : Int)) := fun h hq => by
        rcases hq with hq | hq
        · exact ev_lnL h hq
        · exact ev_lnT h hq
      have sx : ∀ {H'}, Ex H H' → SqL K H' a xs ∨ SqT K H' a xs := fun e => (hsq _ e).imp (fun z => z.1) fun z => z.1
      have sy : ∀ {H'}, Ex H H' → SqL K H' b ys ∨ SqT K H' b ys := fun e => (hsq _ e).imp (fun z => z.2) fun z => z.2
      refine q_when (b := false) (et_is (et_ne (ln (ev_var rfl) (sx e02)) (ln (ev_var rfl) (sy e02)) rfl) (by rw [lx, ly]; simp)) (fun z => nomatch z) fun _ H3 e3 => ?_
      have e03 := e02.trans e3
      have key := el_lcR1 (σ := [some (.ref a), some (.ref b), none]) (H := H3) (ta := tCons (tCB (rLn K) (tCons (tVar 1) tNil)) tNil) (j := 2) (vs := List.map (fun x => x.snd) [(("k" : Str), 2)]) (n := (ys.length : Int)) (t := tNot (tB (tCall (spPrev K n) [] E0 (tCons (tOp (rIx K) (tVar 0) (tVar 2)) (tCons (tOp (rIx K) (tVar 1) (tVar 2)) tNil))))) (te := tVar 2) (fun c => false) (fun c => .int (c : Nat))
        (ea_cons (ln (ev_var rfl) (sy e03)) ea_nil) ⟨by omega, by omega⟩ (fun x => rfl) (fun i H4 e4 hi => by
          have hil : i < ds.length := by omega
          obtain ⟨u, hu, hud⟩ := dpAll_get hd1 (List.getElem?_eq_getElem hil)
          obtain ⟨v, hv, hvd⟩ := dpAll_get hd2 (List.getElem?_eq_getElem hil)
          have e04 := e03.trans e4
          have ix : ∀ {σ : L2.St} {ta tb : TE} {q : Addr} {zs : List V} {z : V}, Ev ta σ H4 (.ref q) → Ev tb σ H4 (.int (i : Int)) → (SqL K H4 q zs ∨ SqT K H4 q zs) → zs[i]? = some z → Ev (tOp (rIx K) ta tb) σ H4 z := fun h1 h2 hq hz => by
            rcases hq with hq | hq
            · exact ev_ixL h1 h2 hq (atI_nat' hz)
            · exact ev_ixT h1 h2 hq (atI_nat' hz)
          exact et_not (a := true) (et_B (ev_callV (ea_cons (ix (ev_var rfl) (ev_var rfl) (sx e04) hu) (ea_cons (ix (ev_var rfl) (ev_var rfl) (sy e04) hv) ea_nil)) fun H5 e5 Q' q => hrec i _ u v H5 Q' (e04.trans e5) (List.getElem?_eq_getElem hil) hud hvd q))) (fun i H4 e4 hi z => nomatch z)
      have hg : given ((ys.length : Int)).toNat (fun _ => false) (fun c => V.int (c : Nat)) = ([] : List Int).map V.int := by simp [given]
      rw [hg] at key
      exact s_ret (v := .bl true) (ev_eqNil key) fun H4 e4 => k H4 (e03.trans e4)
theorem ok_alikeD {f : Addr} {fd : FuncData} (F : Fun K "_law_alike" "_law_alike" s_law_alike f fd) (T : Txt K mg) (g : mg "_law_alike" = some (.ref f)) (kp : PySem.W.keepIn K (.ref f) = true) (b : Binds K fd ["found", "due"] []) : ∀ n, FnOk P w K mg base CX0 (n + 1) f fd ["found", "due"] (spAlikeD K n)
  | 0 => step_alike F T ⟨ok_none, g, kp, b⟩
  | n + 1 => step_alike F T ⟨ok_alikeD F T g kp b n, g, kp, b⟩
end
end Fm
set_option Elab.async false
set_option linter.all false
set_option maxRecDepth 100000
set_option maxHeartbeats 1000000
namespace Fm
open PySem L2 Evl RZ LamX
/-! the law of a machine at work: what stands where -/
theorem ex_remM {B H : Hp} {r : Addr} (e : Ex B H) (h : B r = none) : Ex B (rem H r) := fun b o hb => by
  rw [rem_ne fun z => by rw [z, h] at hb; cases hb]
  exact e _ _ hb
theorem mat_remM {K : PySem.W.Frag} {H : Hp} {r m : Addr} {ys : List V} {fs rs : List Nat} (hr : H r = some (.lst ys)) (h : MaT K H m fs rs) : MaT K (rem H r) m fs rs := let ⟨a, b, h1, h2, h3⟩ := h; ⟨a, b, sqT_rem hr h1, sqT_rem hr h2, sqT_rem hr h3⟩
theorem sqT_remI {K : PySem.W.Frag} {H : Hp} {x C dx a : Addr} {fl : List (Str × V)} {xs : List V} (hx : H x = some (.ins C dx fl)) (h : SqT K H a xs) : SqT K (rem H x) a xs := by
  have key : ∀ q, H a = some q → (∀ C dx fl, q ≠ .ins C dx fl) → rem H x a = some q := fun q hq hn => by
    rw [rem_ne fun z => by rw [z, hx] at hq; exact hn _ _ _ (Option.some.inj hq).symm]
    exact hq
  rcases h with (h | ⟨o', h⟩) | h
  · exact .inl (.inl (key _ h fun _ _ _ z => by cases z))
  · exact .inl (.inr ⟨o', key _ h fun _ _ _ z => by cases z⟩)
  · exact .inr h
/-- the law's things and its mill: lives and contents as the mill has them (ls, hs, t), as the law has them (ls2, hs2) -/
structure LwF (K : PySem.W.Frag) (C : Addr) (B H : Hp) (s r x ma dx la ct hl lv : Addr) (fs rs ls : List Nat) (hs : List Int) (t : Nat) (ls2 : List Nat) (hs2 ns : List Int) : Prop where
  m : MillF K C B H x ma dx la ct fs rs ls hs t
  r0 : B r = none
  h0 : B hl = none
  q : SqL K B s (ns.map V.int)
  c : RowC H r s
  hh : H hl = some (.lst (hs2.map V.int))
  lv : SqT K H lv (nV ls2)
  rc : r ≠ ct
  rh : r ≠ hl
  ch : ct ≠ hl
section
variable {K : PySem.W.Frag} {C : Addr} {B H H' : Hp} {s r x ma dx la la' ct hl lv : Addr} {fs rs ls ls' ls2 : List Nat} {hs hs' hs2 ns : List Int} {t t' : Nat}
theorem LwF.rx (h : LwF K C B H s r x ma dx la ct hl lv fs rs ls hs t ls2 hs2 ns) : r ≠ x := fun z => by
  obtain ⟨a, b, c, h1, _⟩ := h.c
  rw [z, h.m.obj] at h1
  cases h1
theorem LwF.xh (h : LwF K C B H s r x ma dx la ct hl lv fs rs ls hs t ls2 hs2 ns) : x ≠ hl := fun z => by
  have h1 := h.hh
  rw [← z, h.m.obj] at h1
  cases h1
theorem LwF.up (h : LwF K C B H s r x ma dx la ct hl lv fs rs ls hs t ls2 hs2 ns) (e : Ex H H') : LwF K C B H' s r x ma dx la ct hl lv fs rs ls hs t ls2 hs2 ns :=
  { h with m := h.m.up e, c := h.c.up e, hh := e _ _ h.hh, lv := ex_t e h.lv }
theorem LwF.rowAt (h : LwF K C B H s r x ma dx la ct hl lv fs rs ls hs t ls2 hs2 ns) : RowAt K H r s ns := ⟨h.c, ex_l h.m.ex h.q⟩
theorem LwF.row (h : LwF K C B H s r x ma dx la ct hl lv fs rs ls hs t ls2 hs2 ns) (e : Ex (rem H r) H') (c : RowC H' r s) : LwF K C B H' s r x ma dx la ct hl lv fs rs ls hs t ls2 hs2 ns := by
  have hrx := h.rx
  obtain ⟨y, hy⟩ : ∃ y, H r = some (.lst y) := let ⟨_, _, _, h1, _⟩ := h.c; ⟨_, h1⟩
  exact { h with
    m := { h.m with ex := (ex_remM h.m.ex h.r0).trans e, obj := e _ _ (by rw [rem_ne hrx.symm]; exact h.m.obj), hl := ex_t e (sqT_rem hy h.m.hl), hc := e _ _ (by rw [rem_ne h.rc.symm]; exact h.m.hc) }
    c := c
    hh := e _ _ (by rw [rem_ne h.rh.symm]; exact h.hh)
    lv := ex_t e (sqT_rem hy h.lv) }
/-- all but the mill and its contents -/
theorem LwF.bb (h : LwF K C B H s r x ma dx la ct hl lv fs rs ls hs t ls2 hs2 ns) : Ex B (rem (rem H x) ct) := ex_remM (ex_remM h.m.ex h.m.x0) h.m.c0
theorem LwF.base (h : LwF K C B H s r x ma dx la ct hl lv fs rs ls hs t ls2 hs2 ns) : MillF K C (rem (rem H x) ct) H x ma dx la ct fs rs ls hs t :=
  { h.m with ex := rem_ex.trans rem_ex, x0 := by rw [rem_ne h.m.xc, rem_eq], c0 := rem_eq, mt := h.m.mt.up h.bb }
theorem LwF.back (h : LwF K C B H s r x ma dx la ct hl lv fs rs ls hs t ls2 hs2 ns) (M : MillF K C (rem (rem H x) ct) H' x ma dx la' ct fs rs ls' hs' t') : LwF K C B H' s r x ma dx la' ct hl lv fs rs ls' hs' t' ls2 hs2 ns :=
  { h with
    m := { M with ex := h.bb.trans M.ex, x0 := h.m.x0, c0 := h.m.c0, mt := h.m.mt }
    c := let ⟨a, b, c, h1, h2⟩ := h.c; ⟨a, b, c, M.ex _ _ (by rw [rem_ne h.rc, rem_ne h.rx]; exact h1), h2⟩
    hh := M.ex _ _ (by rw [rem_ne h.ch.symm, rem_ne h.xh.symm]; exact h.hh)
    lv := ex_t M.ex (sqT_rem (by rw [rem_ne h.m.xc.symm]; exact h.m.hc) (sqT_remI h.m.obj h.lv)) }
theorem LwF.putH (h : LwF K C B H s r x ma dx la ct hl lv fs rs ls hs t ls2 hs2 ns) (hs3 : List Int) : LwF K C B (upd H hl (.lst (hs3.map V.int))) s r x ma dx la ct hl lv fs rs ls hs t ls2 hs3 ns :=
  { h with
    m := { h.m with ex := Ex.mut h.m.ex h.h0, obj := by rw [upd_ne h.xh]; exact h.m.obj, hl := sqT_lst h.hh h.m.hl, hc := by rw [upd_ne h.ch]; exact h.m.hc }
    c := let ⟨a, b, c, h1, h2⟩ := h.c; ⟨a, b, c, by rw [upd_ne h.rh]; exact h1, h2⟩
    hh := upd_same
    lv := sqT_lst h.hh h.lv }
theorem LwF.to {lv' : Addr} {ls3 : List Nat} (h : LwF K C B H s r x ma dx la ct hl lv fs rs ls hs t ls2 hs2 ns) (q : SqT K H lv' (nV ls3)) : LwF K C B H s r x ma dx la ct hl lv' fs rs ls hs t ls3 hs2 ns := { h with lv := q }
end
/-! what no table touches -/
def noT (H : Hp) : Hp := fun b => match H b with
  | some (.tbl _) => none
  | o => o
theorem noT_ex {H : Hp} : Ex (noT H) H := fun b o h => by
  unfold noT at h
  split at h
  · cases h
  · exact h
theorem noT_of {H : Hp} {b : Addr} {o : HO} (h : H b = some o) (hn : ∀ ps, o ≠ .tbl ps) : noT H b = some o := by
  unfold noT
  rw [h]
  split
  · rename_i q
    cases q
    exact absurd rfl (hn _)
  · rfl
theorem noT_none {H : Hp} {b : Addr} (h : H b = none) : noT H b = none := by
  unfold noT
  rw [h]
theorem noT_step {B H H' : Hp} (e : Ex B H) (hB : ∀ b o, B b = some o → ∀ ps, o ≠ .tbl ps) (n : ExtN H H') : Ex B H' := fun b o h => n b o (e b o h) (hB b o h)
theorem noT_not {H : Hp} : ∀ b o, noT H b = some o → ∀ ps, o ≠ .tbl ps := fun b o h ps z => by
  subst z
  unfold noT at h
  split at h
  · cases h
  · rename_i hn
    exact hn _ h
section
variable {K : PySem.W.Frag} {C : Addr} {B H H' : Hp} {s r x ma dx la la' ct hl lv a : Addr} {fs rs ls ls' ls2 : List Nat} {hs hs' hs2 ns : List Int} {t t' : Nat} {xs : List V}
theorem sqT_n (e : ExtN H H') (h : SqT K H a xs) : SqT K H' a xs := by
  rcases h with (h | ⟨o, h⟩) | h
  · exact .inl (.inl (e _ _ h fun _ z => by cases z))
  · exact .inl (.inr ⟨o, e _ _ h fun _ z => by cases z⟩)
  · exact .inr h
theorem sqT_noT (h : SqT K H a xs) : SqT K (noT H) a xs := by
  rcases h with (h | ⟨o, h⟩) | h
  · exact .inl (.inl (noT_of h fun _ z => by cases z))
  · exact .inl (.inr ⟨o, noT_of h fun _ z => by cases z⟩)
  · exact .inr h
theorem mat_noT {m : Addr} (h : MaT K H m fs rs) : MaT K (noT H) m fs rs := let ⟨a, b, h1, h2, h3⟩ := h; ⟨a, b, sqT_noT h1, sqT_noT h2, sqT_noT h3⟩
theorem MillF.noT (M : MillF K C B H x ma dx la ct fs rs ls hs t) : MillF K C (noT B) H x ma dx la ct fs rs ls hs t :=
  { M with ex := noT_ex.trans M.ex, x0 := noT_none M.x0, c0 := noT_none M.c0, mt := mat_noT M.mt }
theorem MillF.upN (M : MillF K C (Fm.noT B) H x ma dx la ct fs rs ls hs t) (e : ExtN H H') : MillF K C (Fm.noT B) H' x ma dx la ct fs rs ls hs t :=
  { M with ex := noT_step M.ex noT_not e, obj := e _ _ M.obj fun _ z => (by cases z), hl := sqT_n e M.hl, hc := e _ _ M.hc fun _ z => (by cases z) }
end
section
variable {K : PySem.W.Frag} {σ : L2.St} {H : Hp} {ta tb te tl : TE} {tr tA : TA} {Q : VK} {D : Ends} {tz tu : TS} {g : TG} {sp : Sp} {E : XK}
/-- for .. in range(a call) -/
theorem q_forRc {j : Nat} {ws : List V} {R : Nat → Hp → Hp → Prop} (hA : EvA tA σ H ws) (h : ∀ H1, Ex H H1 → ∀ Q' : VK, (∀ (n : Nat) H2, R n H1 H2 → Q' (.int (n : Nat)) H2) → sp (ws ++ []) H1 Q' E)
    (k : ∀ (n : Nat) H1 H2, Ex H H1 → R n H1 H2 → n ≤ 100000 ∧ ∃ Pv : Nat → L2.St → Hp → Prop, Pv 0 σ H2 ∧ (∀ (i : Nat) σ' H', i < n → Pv i σ' H' → tu { D with nx := Pv (i + 1), ct := Pv (i + 1), bk := tz D } (σ'.set j (some (.int (i : Nat)))) H') ∧ ∀ σ' H', Pv n σ' H' → tz D σ' H') : tSeq (tFor (iRng1 (tCons (tCall sp [] E tA) tNil)) (gName j) tu) tz D σ H :=
  hA H (Ex.refl H) _ fun H1 e1 => h H1 e1 _ fun n H2 r => by
    obtain ⟨k1, Pv, p0, p1, p2⟩ := k n H1 H2 e1 r
    refine ⟨(n : Int), rfl, by omega, by omega, for_range (lo := 0) (n := n) Pv p0 (fun i σ' H' hi p => ?_) p2⟩
    have e0 : (0 : Int) + (i : Int) = (i : Int) := Int.zero_add _
    show tu { D with nx := Pv (i + 1), ct := Pv (i + 1), bk := tz D } (σ'.set j (some (.int ((0 : Int) + (i : Int))))) H'
    rw [e0]
    exact p1 i σ' H' hi p
/-- what a loop over the list at a asks -/
def ForL (K : PySem.W.Frag) (g : TG) (tu : TS) (D : Ends) (a : Addr) (σ : L2.St) (H : Hp) : Prop := ∃ W : Nat → Nat → L2.St → Hp → Prop, (∃ m, W 0 m σ H) ∧ ∀ i m σ H, W i m σ H →
  ((Itl K a).stop i H ∧ D.nx σ H) ∨ ((Itl K a).go i H ∧ ∃ N : L2.St → Hp → Prop, (∀ σ' H', N σ' H' → ∃ m', m' < m ∧ W (i + 1) m' σ' H') ∧ ∀ x H', (Itl K a).yld i H x H' → g x σ H' fun σ2 H2 => tu { D with nx := N, ct := N, bk := D.nx } σ2 H2)
/-- for .. in a list and a new one of many steps -/
theorem q_forCat {a : Addr} (ha : Ev ta σ H (.ref a)) (h : ∀ H1, Ex H H1 → tA σ H1 fun ys H2 => ys.length ≤ sizeLine ∧ ∀ p, H2 p = none → rCat (.ref a) (.ref p) (upd H2 p (.lst ys)) fun x H3 => ∃ a, x = .ref a ∧ (∃ xs, SqL K H3 a xs) ∧ ForL K g tu { D with nx := tz D } a σ H3) : tSeq (tFor (iList K (tOp rCat ta (tLst tA))) g tu) tz D σ H := ha H (Ex.refl H) _ h
theorem forCat_end {a : Addr} {xs ys : List V} {D2 : Ends} (hx : H a = some (.lst xs)) (hz : xs.length + ys.length ≤ 100000) (k : ∀ q H3, Ex H H3 → H3 q = some (.lst (xs ++ ys)) → ForL K g tu D2 q σ H3) : ys.length ≤ sizeLine ∧ ∀ p, H p = none → rCat (.ref a) (.ref p) (upd H p (.lst ys)) fun x H3 => ∃ a, x = .ref a ∧ (∃ xs, SqL K H3 a xs) ∧ ForL K g tu D2 a σ H3 :=
  ⟨sz_of (by omega), fun p hp => ⟨a, p, xs, ys, rfl, rfl, (Ex.new hp) _ _ hx, upd_same, sz_of hz, fun q hq => ⟨q, rfl, ⟨_, sq_of upd_same⟩, k q _ ((Ex.new hp).trans (Ex.new hq)) upd_same⟩⟩⟩
theorem m_consEL {xs : List V} {Q : List V → Hp → Prop} (h : EvL te σ H xs) (k : ∀ p H1, H p = none → Ex H H1 → H1 p = some (.lst xs) → tr σ H1 fun ys H2 => Q (.ref p :: ys) H2) : tCons te tr σ H Q := h H (Ex.refl H) _ k
theorem m_asgTupM {g : TG} (h : tA σ H fun xs H1 => xs.length ≤ sizeLine ∧ ∀ p, H1 p = none → g (.ref p) σ (upd H1 p (.tup xs)) fun σ2 H2 => tz D σ2 H2) : tSeq (tAsg (tTup tA) g) tz D σ H := h
theorem m_consM {Q : List V → Hp → Prop} (h : te σ H fun x H1 => tr σ H1 fun ys H2 => Q (x :: ys) H2) : tCons te tr σ H Q := h
theorem m_consE {x : V} {Q : List V → Hp → Prop} (h : Ev te σ H x) (k : ∀ H1, Ex H H1 → tr σ H1 fun ys H2 => Q (x :: ys) H2) : tCons te tr σ H Q := h H (Ex.refl H) _ k
theorem m_makeM {C : Addr} {vs : List V} (h : EvA tA σ H vs) (k : ∀ x dx H1, Ex H H1 → H1 x = none → H1 dx = none → dx ≠ x → sp (.ref x :: (vs ++ [])) (upd (upd H1 dx (.own x)) x (.ins C dx [])) (fun v H2 => v = .non ∧ Q (.ref x) H2) E) : tMake C sp [] E tA σ H Q := h H (Ex.refl H) _ fun H1 e1 x dx hx hdx hne => k x dx H1 e1 hx hdx hne
theorem q_parM {i j : Nat} (h : tA σ H fun xs H1 => ∃ v w, xs = [v, w] ∧ tz D ((σ.set i (some v)).set j (some w)) H1) : tSeq (tPar i j tA) tz D σ H := h
theorem q_setMM {i : Nat} (h : te σ H fun v H1 => tz D (σ.set i (some v)) H1) : tSeq (tAsg te (gName i)) tz D σ H := h
theorem m_callM {vs : List V} (h : EvA tA σ H vs) (k : ∀ H1, Ex H H1 → sp (vs ++ []) H1 Q E) : tCall sp [] E tA σ H Q := h H (Ex.refl H) _ k
/-- if not f(..) -/
theorem s_notCall (h : tA σ H fun vs H1 => sp (vs ++ []) H1 (fun x H2 => ∃ c, x = .bl c ∧ if (!c) = true then tu D σ H2 else D.nx σ H2) E) : tIfS (tNot (tB (tCall sp [] E tA))) tu tNext D σ H := h
theorem et_notCallM (h : ∀ H1, Ex H H1 → ∀ Q : Bool → Hp → Prop, (∀ H2, Ex H1 H2 → Q false H2) → tA σ H1 fun vs H2 => sp (vs ++ []) H2 (fun x H3 => ∃ c, x = .bl c ∧ Q (!c) H3) E) : EvT (tNot (tB (tCall sp [] E tA))) σ H false := h
theorem q_setLC {f : Int → Int → V} {kk : V} (h : tA σ H fun vs H1 => sp (vs ++ []) H1 (fun v H2 => ∃ i j, v = .int i ∧ kk = .int j ∧ gSub ta tb rSetL (f i j) σ H2 fun σ3 H3 => tz D σ3 H3) E) : tSeq (tAsg (tOp (rI0 f) (tCall sp [] E tA) (tC kk)) (gSub ta tb rSetL)) tz D σ H := h
theorem gSubL {v : V} {l : Addr} {xs : List V} {j : Nat} {Q : L2.St → Hp → Prop} (ho : Ev ta σ H (.ref l)) (hi : Ev tb σ H (.int (j : Int))) (hl : H l = some (.lst xs)) (hj : j < xs.length) (k : ∀ H1, Ex H H1 → Q σ (upd H1 l (.lst (xs.set j v)))) : gSub ta tb rSetL v σ H Q :=
  ho H (Ex.refl H) _ fun H2 e2 => hi H2 e2 _ fun H3 e3 => ⟨l, xs, (j : Int), j, rfl, rfl, (e2.trans e3) l _ hl, ixN_nat hj, k H3 (e2.trans e3)⟩
theorem q_ifK {tI : TS} {M : L2.St → Hp → Prop} (hk : ∀ σ' H', M σ' H' → tz D σ' H') (h : ∀ D' : Ends, D'.rt = D.rt → (∀ σ' H', M σ' H' → D'.nx σ' H') → tI D' σ H) : tSeq tI tz D σ H := h _ rfl hk
end
/-! data that the law compares -/
def hD (b : Bool) (z : Int) : PyData := if b = true then .int z else .none
def hvD (hs : List Int) (ls : List Nat) : List PyData := (List.range hs.length).map fun i => hD (decide (ls.getD i 0 > 0)) (hs.getD i 0)
section
variable {K : PySem.W.Frag} {H : Hp}
theorem hD_dp (n : Nat) (z : Int) : Dp K H (if n > 0 then .int z else .non) (hD (decide (n > 0)) z) := by
  unfold hD
  by_cases h : n > 0
  · rw [if_pos h, decide_eq_true h]
    exact .int z
  · rw [if_neg h, decide_eq_false h]
    exact .non
theorem hD_ad (n : Nat) (b : Bool) (z : Int) : AD n (hD b z) := by
  unfold hD
  cases b
  · exact .non
  · exact .int z
theorem dpAll_map {α : Type} {f : α → V} {g : α → PyData} : ∀ (l : List α), (∀ x, Dp K H (f x) (g x)) → DpAll K H (l.map f) (l.map g)
  | [], _ => .nil
  | x :: l, h => .cons (h x) (dpAll_map l h)
theorem hv_dp {hs : List Int} {ls : List Nat} {a : Addr} (h : SqT K H a (hV hs ls)) : Dp K H (.ref a) (.tuple (hvD hs ls)) := .tup h (dpAll_map _ fun i => hD_dp _ _)
theorem hv_ad {hs : List Int} {ls : List Nat} (h : hs.length ≤ 40000) : AD 1 (.tuple (hvD hs ls)) := .tup (by unfold hvD; rw [List.length_map, List.length_range]; exact h) fun d hd => by
  unfold hvD at hd
  obtain ⟨i, _, rfl⟩ := List.mem_map.mp hd
  exact hD_ad _ _ _
end
def lD (l : List Nat) : PyData := .tuple (iD (l.map fun (x : Nat) => (x : Int)))
theorem nV_intsM (l : List Nat) : nV l = (l.map fun (x : Nat) => (x : Int)).map V.int := by unfold nV; rw [List.map_map]; rfl
theorem lD_dp {K : PySem.W.Frag} {H : Hp} {a : Addr} {l : List Nat} (h : SqT K H a (nV l)) : Dp K H (.ref a) (lD l) := .tup (by rw [← nV_intsM]; exact h) (dp_ints _)
theorem lD_ad {n : Nat} {l : List Nat} (h : l.length ≤ 40000) : AD (n + 1) (lD l) := .tup (by unfold iD; rw [List.length_map, List.length_map]; exact h) fun d hd => by
  unfold iD at hd
  obtain ⟨z, _, rfl⟩ := List.mem_map.mp hd
  exact .int z
theorem ad_up {n : Nat} {d : PyData} (h : AD n d) : AD (n + 1) d := by
  induction h with
  | non => exact .non
  | int i => exact .int i
  | str s h => exact .str s h
  | lst hl _ ih => exact .lst hl ih
  | tup hl _ ih => exact .tup hl ih
theorem lD_shaped (l : List Nat) : SeqAt.shaped (lD l) = true := by
  show (PyData.canLay0 (.tuple (iD _)) && decide (PyData.depth (.tuple (iD _)) ≤ 64)) = true
  rw [Bool.and_eq_true]
  exact ⟨by simp only [PyData.canLay0]; exact iD_lay _, decide_eq_true (by simp only [PyData.depth, iD_depth]; omega)⟩
def sD (ws : List Str) : PyData := .list (ws.map PyData.str)
section
variable {K : PySem.W.Frag} {σ : L2.St} {H : Hp} {ta tb te tl : TE} {tr tA : TA} {Q : VK} {D : Ends} {tz tu : TS} {g : TG} {sp : Sp} {E : XK}
theorem dp_strs : ∀ ws : List Str, DpAll K H (ws.map V.str) (ws.map PyData.str)
  | [] => .nil
  | w :: ws => .cons (.str w) (dp_strs ws)
theorem ev_eqStrs {a : Addr} {ws : List Str} (ha : Ev ta σ H (.ref a)) (hq : SqL K H a (ws.map V.str)) (hA : EvA tA σ H (ws.map V.str)) (hz : ws.length ≤ 100000) (sh : SeqAt.shaped (sD ws) = true) : Ev (tOp (rEqD K) ta (tLst tA)) σ H (.bl true) := fun H1 e Q q => ha H1 e _ fun H2 e2 => hA H2 (e.trans e2) _ fun H3 e3 =>
  ⟨sz_of (by rw [List.length_map]; exact hz), fun l hl => ⟨sD ws, sD ws, .lst (ex_l (((e.trans e2).trans e3).trans (Ex.new hl)) hq) (dp_strs ws), .lst (sq_of upd_same) (dp_strs ws), sh, sh, by
    rw [PySem.SeqAt.eqv_refl _ (SeqAt.canLay_of_shaped sh)]
    exact q _ ((e2.trans e3).trans (Ex.new hl))⟩⟩
theorem m_asgLstM {i : Nat} (h : tA σ H fun xs H1 => xs.length ≤ sizeLine ∧ ∀ p, H1 p = none → tz D (σ.set i (some (.ref p))) (upd H1 p (.lst xs))) : tSeq (tAsg (tLst tA) (gName i)) tz D σ H := h
theorem s_dropOr {t1 t2 : TE} (h : t1 σ H (fun _ H1 => D.nx σ H1) ∨ t2 σ H fun _ H1 => D.nx σ H1) : tDrop (fun σ H Q => t1 σ H Q ∨ t2 σ H Q) D σ H := h
theorem forLn_of {a : Addr} {xs : List V} {k : Nat} (Pv : Nat → L2.St → Hp → Prop) (h0 : Pv 0 σ H) (hl : ∀ i σ H, i ≤ xs.length → Pv i σ H → SqL K H a xs)
    (hs : ∀ i x σ H, xs[i]? = some x → Pv i σ H → tu { D with nx := Pv (i + 1), ct := Pv (i + 1), bk := D.nx } (σ.set k (some x)) H) (hd : ∀ σ H, Pv xs.length σ H → D.nx σ H) : ForL K (gName k) tu D a σ H := for_list Pv h0 hl hs hd
theorem forL_of {a : Addr} {xs : List V} (Pv : Nat → L2.St → Hp → Prop) (h0 : Pv 0 σ H) (hl : ∀ i σ H, i ≤ xs.length → Pv i σ H → SqL K H a xs)
    (hs : ∀ i x σ H, xs[i]? = some x → Pv i σ H → g x σ H fun σ2 H2 => tu { D with nx := Pv (i + 1), ct := Pv (i + 1), bk := D.nx } σ2 H2) (hd : ∀ σ H, Pv xs.length σ H → D.nx σ H) : ForL K g tu D a σ H := for_list Pv h0 hl hs hd
end
/-- the mill with the list at b out of sight -/
theorem MillF.rem {K : PySem.W.Frag} {C : Addr} {B H : Hp} {x ma dx la ct b : Addr} {fs rs ls : List Nat} {hs : List Int} {t : Nat} {ys : List V} (M : MillF K C B H x ma dx la ct fs rs ls hs t) (hb : H b = some (.lst ys)) (h0 : B b = none) (hc : ct ≠ b) : MillF K C B (Fm.rem H b) x ma dx la ct fs rs ls hs t :=
  { M with ex := ex_remM M.ex h0, obj := by rw [rem_ne fun z => by rw [← z, M.obj] at hb; cases hb]; exact M.obj, hl := sqT_rem hb M.hl, hc := by rw [rem_ne hc]; exact M.hc }
structure MkMill (P : Program) (w : World) (K : PySem.W.Frag) (mg : Str → Option Value) (base : Heap) (C : Addr) (f : Addr) (fd : FuncData) : Prop where
  M : Mk K C f
  G : FnOk P w K mg base CX0 5 f fd ["self", "machine"] (spMInit K C)
  g : mg "Mill" = some (.ref C)
  b : Binds K fd ["self", "machine"] []
/-- a method that raises -/
structure MCalX (P : Program) (w : World) (K : PySem.W.Frag) (mg : Str → Option Value) (base : Heap) (C : Addr) (k : Nat) (x : Str) (f : Addr) (fd : FuncData) (ps : List Str) (sp : Sp) : Prop where
  G : FnOk P w K mg base (L2.CX P w) k f fd ps sp
  m : Meth K C x f
  b : Binds K fd ps []
end Fm
set_option Elab.async false
set_option linter.all false
set_option maxRecDepth 100000
set_option maxHeartbeats 2000000
namespace Fm
open PySem L2 Evl RZ LamX PyProof.Rows
def spLawM (K : PySem.W.Frag) (Pt : Addr) : Sp := fun vs H Q _ => ∃ (s : Addr) (ns : List Int), vs = [.ref s] ∧ SqL K H s (ns.map V.int) ∧ H Pt = some (.tbl #[]) ∧ ∀ H', Q (.bl true) H'
abbrev lwS (s r m lv hl x : Addr) (n : Nat) (z5 z6 z7 z8 z9 : Option V) : L2.St := [some (.ref s), some (.ref r), some (.ref m), some (.ref lv), some (.ref hl), z5, z6, z7, z8, z9, none, none, none, none, some (.int (n : Nat)), some (.ref x), none, none]
abbrev W4 : List Str := ["cell", "cell", "cell", "number"]
/-- what a turn's way is -/
def wayK : Nat → Kd
  | 1 => .set
  | 0 => .touch
  | 2 => .touch
  | _ => .wait
def wayW : Nat → Str
  | 0 => "get"
  | 1 => "set"
  | 2 => "touch"
  | _ => "say"
theorem way_ok {w c n : Nat} (h : c < n) : KdOk (wayK w) (wayW w) (.int (c : Nat)) c n := by
  unfold wayK wayW
  match w with
  | 0 => exact ⟨by kernel_rfl, by kernel_rfl, fun _ => ⟨rfl, h⟩⟩
  | 1 => exact ⟨by kernel_rfl, by kernel_rfl, fun _ => ⟨rfl, h⟩⟩
  | 2 => exact ⟨by kernel_rfl, by kernel_rfl, fun _ => ⟨rfl, h⟩⟩
  | _ + 3 => exact ⟨by kernel_rfl, by kernel_rfl, fun z => nomatch z⟩
theorem way_at {w : Nat} (h : w < 5) : atI [V.str "get", .str "set", .str "touch", .str "say", .str "say"] (w : Int) = some (.str (wayW w)) := by
  refine atI_nat' ?_
  match w, h with
  | 0, _ => rfl
  | 1, _ => rfl
  | 2, _ => rfl
  | 3, _ => rfl
  | 4, _ => rfl
theorem bhL_len (kd : Kd) (fs rs ls : List Nat) (c : Nat) : (bhL kd fs rs ls c).length = ls.length := by
  rw [bhL_eq, List.length_map, List.length_range]
section
variable {P : Program} {w : World} {K : PySem.W.Frag} {mg : Str → Option Value} {base : Heap} {C : Addr}
abbrev s_law : Stmt := top 27
theorem sc_law : FnScope ["script", "row", "machine", "lives", "held", "turn", "way", "cell", "due", "shown", "words", "works", "work", "e", "cells", "mill", "value", "left"] ["script"] (defScope s_law) := ⟨rfl, rfl, rfl, by decide +kernel, rfl, by decide +kernel, by decide +kernel⟩
--TY law {'row':L,'machine':('tuple',('tuple','int')),'lives':('tuple','int'),'held':('list','int'),'mill':('inst','Mill'),'cells':'int','cell':'int','way':'int','turn':'int','shown':L,'words':('list','str'),'works':L,'@over':{'work':['work'],'lamM':['M_touchX','M_readX','M_writeY','M_writeX'],'lamK':5,'en':'(envOfC "law" (defScope s_law) s0.heap.objs.size f (.ref c))','exc':{'BadCell':'B_BadCell.gC','BadNumber':'B_BadNumber.gC'}}}
theorem ok_lawM {f f1 f2 f3 f4 f5 f6 f7 f8 f9 f10 f11 f12 p10 p11 p12 c Pt CBC CBN : Addr} {fd1 fd2 fd3 fd4 fd5 fd6 fd7 fd8 fd9 fd10 fd11 fd12 : FuncData} {oc : Value} {od an : Option Addr} {osl : Array (Option Value)} {kV dc pm ct : Value}
    (lk : K.lookup f = some ⟨oc, od, .func (PySem.W.fnOf "law" "law" (defArgs s_law) (defBody s_law) (defScope s_law) .none kV dc pm an (.ref c) ct), osl⟩) (hcd0 : PySem.W.codeIn K (.ref c) "law" = true) (TB : TabB base mg c Pt) (T : Txt K mg) (T_Mill : MillT K C)
    (C_law_taken : Cal P w K mg base CX0 1 "_law_taken" f1 fd1 ["row", "many"] (spTak K))
    (C_law_machine : Cal P w K mg base CX0 2 "_law_machine" f2 fd2 ["row", "most", "fade"] (spLMa K))
    (C_law_alike : Cal P w K mg base CX0 3 "_law_alike" f3 fd3 ["found", "due"] (spAlikeD K 2))
    (C_law_behind : Cal P w K mg base CX0 1 "_law_behind" f4 fd4 ["machine", "lives", "word", "cell"] (spLBeh K))
    (M_Mill : MkMill P w K mg base C f5 fd5)
    (M_Mill_read : MCal P w K mg base C 5 "read" f6 fd6 ["self", "cell"] (spRead K C))
    (M_readX : MCalX P w K mg base C 5 "read" f6 fd6 ["self", "cell"] (spReadX K C CBC))
    (M_Mill_write : MCal P w K mg base C 5 "write" f7 fd7 ["self", "cell", "value"] (spWrite K C))
    (M_writeX : MCalX P w K mg base C 5 "write" f7 fd7 ["self", "cell", "value"] (spWriteX K C CBC))
    (M_writeY : MCalX P w K mg base C 5 "write" f7 fd7 ["self", "cell", "value"] (spWriteY K C CBN))
    (M_Mill_touch : MCal P w K mg base C 5 "touch" f8 fd8 ["self", "cell"] (spTouch K C))
    (M_touchX : MCalX P w K mg base C 5 "touch" f8 fd8 ["self", "cell"] (spReadX K C CBC))
    (M_Mill_wait : MCal P w K mg base C 5 "wait" f9 fd9 ["self"] (spWait K C))
    (M_Mill_tick : PCal P w K mg base C 1 "tick" p10 f10 fd10 ["self"] (spTick K C))
    (M_Mill_fresh : PCal P w K mg base C 1 "fresh" p11 f11 fd11 ["self"] (spFresh K C))
    (M_Mill_held : PCal P w K mg base C 1 "held" p12 f12 fd12 ["self"] (spHeld K C))
    (B_BadCell : BaseE K mg "BadCell" CBC) (B_BadNumber : BaseE K mg "BadNumber" CBN) (nbc : PySem.W.exmOne K (.ref CBN) (.ref CBC) = some false) :
    FnOk P w K mg base CX0 7 f (PySem.W.fnOf "law" "law" (defArgs s_law) (defBody s_law) (defScope s_law) .none kV dc pm an (.ref c) ct) ["script"] (spLawM K Pt) := by
  refine fn_of lk hcd0 sc_law (fun vs H Q E h => ?_) (fun A outer s0 H vs Q E hr h => ?_)
  · obtain ⟨_, _, rfl, _⟩ := h
    rfl
  · obtain ⟨s, ns, rfl, hs, hP, k⟩ := h
    have hcd : (envOfC "law" (defScope s_law) s0.heap.objs.size f (.ref c)).code = .ref c := rfl
    obtain ⟨TT, hTT⟩ : ∃ TT : List (Addr × Str), TT = [(Pt, (envOfC "law" (defScope s_law) s0.heap.objs.size f (.ref c)).qual ++ "<lambda>")] := ⟨_, rfl⟩
    have hTm : (Pt, (envOfC "law" (defScope s_law) s0.heap.objs.size f (.ref c)).qual ++ "<lambda>") ∈ TT := by rw [hTT]; exact List.mem_singleton.mpr rfl
    have hTu : ∀ p ∈ TT, p.1 = Pt → p.2 = (envOfC "law" (defScope s_law) s0.heap.objs.size f (.ref c)).qual ++ "<lambda>" := fun p hp _ => by rw [hTT] at hp; rw [List.mem_singleton.mp hp]
    refine ⟨_, PSs.nox (pss_cons (ps_set (i := 1) sc_law.nd rfl (Or.inl rfl) (pe_lst (pa_cons (pv 0) (pa_cons pe_int (pa_cons pe_int (pa_cons pe_int pa_nil))))))
  (pss_cons (ps_set (i := 2) sc_law.nd rfl (Or.inl rfl) (pe_call C_law_machine.G (hr.mono (by first | decide | omega)) rfl C_law_machine.g C_law_machine.kp C_law_machine.b .nil pass0 (pa_cons (pv 1) (pa_cons pe_int (pa_cons pe_int pa_nil)))))
  (pss_cons (ps_set (i := 14) sc_law.nd rfl (Or.inr rfl) (pe_callB (len_K (K := K) rfl) (by rfl) T.z_len (by decide +kernel) (pa_cons (pe_ix (ix_K (K := K) rfl) (pv 2) pe_int (fun _ _ => rfl)) pa_nil)))
  (pss_cons (ps_asg (pe_tup (pa_cons (pe_make M_Mill.M M_Mill.G (hr.mono (by first | decide | omega)) rfl M_Mill.g M_Mill.b .nil pass0 (pa_cons (pv 2) pa_nil)) (pa_cons (pe_ix (ix_K (K := K) rfl) (pv 2) pe_int (fun _ _ => rfl)) (pa_cons (pe_op op_rep (pe_lst (pa_cons pe_int pa_nil)) (pv 14)) pa_nil)))) (pg_tup rfl (pgs_cons (pg_name (i := 15) sc_law.nd rfl (by first | exact Or.inl rfl | exact Or.inr rfl)) (pgs_cons (pg_name (i := 3) sc_law.nd rfl (by first | exact Or.inl rfl | exact Or.inr rfl)) (pgs_cons (pg_name (i := 4) sc_law.nd rfl (by first | exact Or.inl rfl | exact Or.inr rfl)) pgs_nil)))))
  (pss_cons (ps_for PassesOwn.never rfl (pi_range1 rfl T.z_range (pa_cons (pe_call C_law_taken.G (hr.mono (by first | decide | omega)) rfl C_law_taken.g C_law_taken.kp C_law_taken.b .nil pass0 (pa_cons (pv 1) (pa_cons pe_int pa_nil))) pa_nil)) (pg_name (i := 5) sc_law.nd rfl (by first | exact Or.inl rfl | exact Or.inr rfl)) (pss_cons (ps_par (i := 6) (j := 7) (by rfl) sc_law.nd rfl rfl (by decide) rfl rfl (pa_cons (pe_call C_law_taken.G (hr.mono (by first | decide | omega)) rfl C_law_taken.g C_law_taken.kp C_law_taken.b .nil pass0 (pa_cons (pv 1) (pa_cons pe_int pa_nil))) (pa_cons (pe_call C_law_taken.G (hr.mono (by first | decide | omega)) rfl C_law_taken.g C_law_taken.kp C_law_taken.b .nil pass0 (pa_cons (pv 1) (pa_cons (pv 14) pa_nil))) pa_nil)) (by rfl))
  (pss_cons (ps_if (pt_cmpR op_eq (pv 6) pe_int (nomark _)) (pss_cons (ps_set (i := 8) sc_law.nd rfl (Or.inl rfl) (pe_ifExp (pt_cmpR op_gt (pe_ix (ix_K (K := K) rfl) (pv 3) (pv 7) (fun _ _ => rfl)) pe_int (nomark _)) (pe_ix (ix_K (K := K) rfl) (pv 4) (pv 7) (fun _ _ => rfl)) pe_non))
  (pss_one (ps_if (pt_not (pt_val (pe_call C_law_alike.G (hr.mono (by first | decide | omega)) rfl C_law_alike.g C_law_alike.kp C_law_alike.b .nil pass0 (pa_cons (pe_meth (pv 15) T_Mill.cl M_Mill_read.m M_Mill_read.G (hr.mono (by first | decide | omega)) M_Mill_read.b .nil pass0 (pa_cons (pv 7) pa_nil)) (pa_cons (pv 8) pa_nil))))) (pss_one (ps_ret pe_bl)) pss_nil))) (pss_one (ps_if (pt_cmpR op_eq (pv 6) pe_int (nomark _)) (pss_cons (ps_asg (pe_op op_sub (pe_call C_law_taken.G (hr.mono (by first | decide | omega)) rfl C_law_taken.g C_law_taken.kp C_law_taken.b .nil pass0 (pa_cons (pv 1) (pa_cons pe_int pa_nil))) pe_int) (pg_sub (pv 4) (pv 7) set_list))
  (pss_one (ps_expr (pe_meth (pv 15) T_Mill.cl M_Mill_write.m M_Mill_write.G (hr.mono (by first | decide | omega)) M_Mill_write.b .nil pass0 (pa_cons (pv 7) (pa_cons (pe_ix (ix_K (K := K) rfl) (pv 4) (pv 7) (fun _ _ => rfl)) pa_nil)))))) (pss_one (ps_if (pt_cmpR op_eq (pv 6) pe_int (nomark _)) (pss_one (ps_expr (pe_meth (pv 15) T_Mill.cl M_Mill_touch.m M_Mill_touch.G (hr.mono (by first | decide | omega)) M_Mill_touch.b .nil pass0 (pa_cons (pv 7) pa_nil)))) (pss_one (ps_expr (pe_meth0 (pv 15) T_Mill.cl M_Mill_wait.m M_Mill_wait.G (hr.mono (by first | decide | omega)) M_Mill_wait.b .nil pass0))))))))
  (pss_cons (ps_set (i := 3) sc_law.nd rfl (Or.inl rfl) (pe_call C_law_behind.G (hr.mono (by first | decide | omega)) rfl C_law_behind.g C_law_behind.kp C_law_behind.b .nil pass0 (pa_cons (pv 2) (pa_cons (pv 3) (pa_cons (pe_ix (ix_K (K := K) rfl) (pe_lst (pa_cons pe_str (pa_cons pe_str (pa_cons pe_str (pa_cons pe_str (pa_cons pe_str pa_nil)))))) (pv 6) (fun _ _ => rfl)) (pa_cons (pv 7) pa_nil))))))
  (pss_cons (ps_setLc (i := 9) (own := [("value", 16), ("left", 17)]) (g := gTup K 2 (gCons (gName 16) (gCons (gName 17) gNil))) rfl sc_law.nd rfl rfl (sw_true rfl rfl rfl (by decide +kernel)) (pi_zipM (by rfl) T.z_zip (pa_cons (pv 4) (pa_cons (pv 3) pa_nil))) (blkOk_by (by kernel_rfl)) (fun _ _ _ _ _ => pg_tupK (K := K) rfl rfl (pgs_cons (pg_name (i := 16) sc_law.nd rfl (by first | exact Or.inl rfl | exact Or.inr rfl)) (pgs_cons (pg_name (i := 17) sc_law.nd rfl (by first | exact Or.inl rfl | exact Or.inr rfl)) pgs_nil))) (fun _ _ _ _ _ => pts_nil) (fun _ _ _ _ _ => (pe_ifExp (pt_cmpR op_gt (pv 17) pe_int (nomark _)) (pv 16) pe_non)))
  (pss_one (ps_if (PW.pt (pw_or (pt_cmpR op_ne (pe_prop (pv 15) T_Mill.cl M_Mill_tick.p M_Mill_tick.G (hr.mono (by first | decide | omega)) M_Mill_tick.b .nil pass0 rfl) (pe_op op_add (pv 5) pe_int) (nomark _)) (pw_or (pt_not (pt_val (pe_call C_law_alike.G (hr.mono (by first | decide | omega)) rfl C_law_alike.g C_law_alike.kp C_law_alike.b .nil pass0 (pa_cons (pe_prop (pv 15) T_Mill.cl M_Mill_fresh.p M_Mill_fresh.G (hr.mono (by first | decide | omega)) M_Mill_fresh.b .nil pass0 rfl) (pa_cons (pv 3) pa_nil))))) (pw_or1 (pt_not (pt_val (pe_call C_law_alike.G (hr.mono (by first | decide | omega)) rfl C_law_alike.g C_law_alike.kp C_law_alike.b .nil pass0 (pa_cons (pe_prop (pv 15) T_Mill.cl M_Mill_held.p M_Mill_held.G (hr.mono (by first | decide | omega)) M_Mill_held.b .nil pass0 rfl) (pa_cons (pe_callTy (tpl_K (K := K) rfl) (by rfl) T.z_tuple (by decide +kernel) (pa_cons (pv 9) pa_nil)) pa_nil))))))))) (pss_one (ps_ret pe_bl)) pss_nil)))))))
  (pss_cons (ps_set (i := 10) sc_law.nd rfl (Or.inl rfl) (pe_lst pa_nil))
  (pss_cons (ps_set (i := 11) sc_law.nd rfl (Or.inl rfl) (pe_lst (pa_cons (pe_lam0 (T := TT) TB hcd hTm hTu (lamP_by (N := ["script", "row", "machine", "lives", "held", "turn", "way", "cell", "due", "shown", "words", "works", "work", "e", "cells", "mill", "value", "left"]) (ps := []) (by kernel_rfl)) rfl) (pa_cons (pe_lam1 (T := TT) TB hcd hTm hTu (lamP_by (N := ["script", "row", "machine", "lives", "held", "turn", "way", "cell", "due", "shown", "words", "works", "work", "e", "cells", "mill", "value", "left"]) (ps := ["a"]) (by kernel_rfl)) rfl rfl) pa_nil))))
  (pss_cons (ps_for PassesOwn.never rfl (pi_listK (K := K) rfl (pe_op op_cat (pv 11) (pe_lst (pa_cons (pe_lam1 (T := TT) TB hcd hTm hTu (lamP_by (N := ["script", "row", "machine", "lives", "held", "turn", "way", "cell", "due", "shown", "words", "works", "work", "e", "cells", "mill", "value", "left"]) (ps := ["b"]) (by kernel_rfl)) rfl rfl) (pa_cons (pe_lam1 (T := TT) TB hcd hTm hTu (lamP_by (N := ["script", "row", "machine", "lives", "held", "turn", "way", "cell", "due", "shown", "words", "works", "work", "e", "cells", "mill", "value", "left"]) (ps := ["c"]) (by kernel_rfl)) rfl rfl) pa_nil))))) (pg_name (i := 12) sc_law.nd rfl (by first | exact Or.inl rfl | exact Or.inr rfl)) (pss_one (ps_try_manyAs (Wo := fun _ _ _ _ => False) rfl rfl sc_law.nd takes_none5
  (fun W pn xe tk _ => (pss_one (ps_expr (pe_either (pe_work (i := 12) (k := 5) (ps := ["a"]) (en := (envOfC "law" (defScope s_law) s0.heap.objs.size f (.ref c))) (ar := { posonlyargs := [], args := [{ arg := "a", annotation := none, pos := ⟨173, 46, 173, 47⟩ : PySem.Arg }], vararg := none, kwonlyargs := [], kw_defaults := [], kwarg := none, defaults := [(PySem.Expr.Constant (PySem.Const.int 0) 0 ⟨173, 48, 173, 49⟩)] : PySem.Arguments }) (bd := (PySem.Expr.Call (func := (PySem.Expr.Attribute (PySem.Expr.Name "mill" ⟨173, 51, 173, 55⟩) "touch" ⟨173, 51, 173, 61⟩)) (args := [(PySem.Expr.Constant PySem.Const.none 0 ⟨173, 62, 173, 66⟩)]) (keywords := []) (pos := ⟨173, 51, 173, 67⟩))) (sc := { kind := PySem.ScopeKind.function, names := [((PySem.Str.ofString "a"), PySem.NameKind.local), ((PySem.Str.ofString "mill"), PySem.NameKind.free)], isGenerator := false, isCoroutine := false, more := [] : PySem.Scope }) rfl (lamP_by (by kernel_rfl)) rfl (.inl rfl) tk hr (fun _ _ _ _ _ z _ => nomatch z) (fun dV doc pm cv ct x z => by cases z; exact ⟨_, rfl, fun u => rfl⟩) (fun s H f cd E hr2 => (pe_meth (pe_var (i := 15) rfl (.inr (.inr rfl))) T_Mill.cl M_touchX.m M_touchX.G hr2 M_touchX.b .nil (passes_call (takes_of rfl rfl rfl rfl) fun _ _ _ _ z => z) (pa_cons pe_non pa_nil)))) (pe_either (pe_work (i := 12) (k := 5) (ps := []) (en := (envOfC "law" (defScope s_law) s0.heap.objs.size f (.ref c))) (ar := { posonlyargs := [], args := [], vararg := none, kwonlyargs := [], kw_defaults := [], kwarg := none, defaults := [] : PySem.Arguments }) (bd := (PySem.Expr.Call (func := (PySem.Expr.Attribute (PySem.Expr.Name "mill" ⟨173, 21, 173, 25⟩) "read" ⟨173, 21, 173, 30⟩)) (args := [(PySem.Expr.Name "cells" ⟨173, 31, 173, 36⟩)]) (keywords := []) (pos := ⟨173, 21, 173, 37⟩))) (sc := { kind := PySem.ScopeKind.function, names := [((PySem.Str.ofString "cells"), PySem.NameKind.free), ((PySem.Str.ofString "mill"), PySem.NameKind.free)], isGenerator := false, isCoroutine := false, more := [] : PySem.Scope }) rfl (lamP_by (by kernel_rfl)) rfl (.inl rfl) tk hr (fun dV doc pm cv ct _ z => by subst z; rfl) (fun _ _ _ _ _ _ z => nomatch z) (fun s H f cd E hr2 => (pe_meth (pe_var (i := 15) rfl (.inr (.inr rfl))) T_Mill.cl M_readX.m M_readX.G hr2 M_readX.b .nil (passes_call (takes_of rfl rfl rfl rfl) fun _ _ _ _ z => z) (pa_cons (pe_var (i := 14) rfl (.inr (.inr rfl))) pa_nil)))) (pe_either (pe_work (i := 12) (k := 5) (ps := ["c"]) (en := (envOfC "law" (defScope s_law) s0.heap.objs.size f (.ref c))) (ar := { posonlyargs := [], args := [{ arg := "c", annotation := none, pos := ⟨174, 65, 174, 66⟩ : PySem.Arg }], vararg := none, kwonlyargs := [], kw_defaults := [], kwarg := none, defaults := [(PySem.Expr.Constant (PySem.Const.int 0) 0 ⟨174, 67, 174, 68⟩)] : PySem.Arguments }) (bd := (PySem.Expr.Call (func := (PySem.Expr.Attribute (PySem.Expr.Name "mill" ⟨174, 70, 174, 74⟩) "write" ⟨174, 70, 174, 80⟩)) (args := [(PySem.Expr.Constant (PySem.Const.int 0) 0 ⟨174, 81, 174, 82⟩), (PySem.Expr.Constant PySem.Const.none 0 ⟨174, 84, 174, 88⟩)]) (keywords := []) (pos := ⟨174, 70, 174, 89⟩))) (sc := { kind := PySem.ScopeKind.function, names := [((PySem.Str.ofString "c"), PySem.NameKind.local), ((PySem.Str.ofString "mill"), PySem.NameKind.free)], isGenerator := false, isCoroutine := false, more := [] : PySem.Scope }) rfl (lamP_by (by kernel_rfl)) rfl (.inl rfl) tk hr (fun _ _ _ _ _ z _ => nomatch z) (fun dV doc pm cv ct x z => by cases z; exact ⟨_, rfl, fun u => rfl⟩) (fun s H f cd E hr2 => (pe_meth (pe_var (i := 15) rfl (.inr (.inr rfl))) T_Mill.cl M_writeY.m M_writeY.G hr2 M_writeY.b .nil (passes_call (takes_of rfl rfl rfl rfl) fun _ _ _ _ z => z) (pa_cons pe_int (pa_cons pe_non pa_nil))))) (pe_work (i := 12) (k := 5) (ps := ["b"]) (en := (envOfC "law" (defScope s_law) s0.heap.objs.size f (.ref c))) (ar := { posonlyargs := [], args := [{ arg := "b", annotation := none, pos := ⟨174, 32, 174, 33⟩ : PySem.Arg }], vararg := none, kwonlyargs := [], kw_defaults := [], kwarg := none, defaults := [(PySem.Expr.Constant (PySem.Const.int 0) 0 ⟨174, 34, 174, 35⟩)] : PySem.Arguments }) (bd := (PySem.Expr.Call (func := (PySem.Expr.Attribute (PySem.Expr.Name "mill" ⟨174, 37, 174, 41⟩) "write" ⟨174, 37, 174, 47⟩)) (args := [(PySem.Expr.Constant (PySem.Const.bool true) 0 ⟨174, 48, 174, 52⟩), (PySem.Expr.Constant (PySem.Const.int 1) 0 ⟨174, 54, 174, 55⟩)]) (keywords := []) (pos := ⟨174, 37, 174, 56⟩))) (sc := { kind := PySem.ScopeKind.function, names := [((PySem.Str.ofString "b"), PySem.NameKind.local), ((PySem.Str.ofString "mill"), PySem.NameKind.free)], isGenerator := false, isCoroutine := false, more := [] : PySem.Scope }) rfl (lamP_by (by kernel_rfl)) rfl (.inl rfl) tk hr (fun _ _ _ _ _ z _ => nomatch z) (fun dV doc pm cv ct x z => by cases z; exact ⟨_, rfl, fun u => rfl⟩) (fun s H f cd E hr2 => (pe_meth (pe_var (i := 15) rfl (.inr (.inr rfl))) T_Mill.cl M_writeX.m M_writeX.G hr2 M_writeX.b .nil (passes_call (takes_of rfl rfl rfl rfl) fun _ _ _ _ z => z) (pa_cons pe_bl (pa_cons pe_int pa_nil)))))))))))
  (by (exact ClsOk.cons0 (i := 13) ⟨rfl, by decide, Or.inl B_BadCell.gC⟩ rfl rfl (fun a oe pn => (pss_one (ps_expr (pe_bmK (K := K) rfl PySem.F.plainAttrs_list PySem.F.slot_list_append PySem.F.type_list_append mt_append (pv 10) (pa_cons pe_str pa_nil))))) (by (exact ClsOk.cons0 (i := 13) ⟨rfl, by decide, Or.inl B_BadNumber.gC⟩ rfl rfl (fun a oe pn => (pss_one (ps_expr (pe_bmK (K := K) rfl PySem.F.plainAttrs_list PySem.F.slot_list_append PySem.F.type_list_append mt_append (pv 10) (pa_cons pe_str pa_nil))))) (by exact ClsOk.nil))))))))
  (pss_one (ps_ret (pe_and (pe_cmpR (eqD_K (K := K) rfl hr.units) (pv 10) (pe_lst (pa_cons pe_str (pa_cons pe_str (pa_cons pe_str (pa_cons pe_str pa_nil))))) (nomark _)) (pe_one (pe_cmpR (eqD_K (K := K) rfl hr.units) (pe_prop (pv 15) T_Mill.cl M_Mill_fresh.p M_Mill_fresh.G (hr.mono (by first | decide | omega)) M_Mill_fresh.b .nil pass0 rfl) (pv 3) (nomark _)))))))))))))), ?_⟩
    have qP : Tabs TT H := fun p hp => by
      rw [hTT] at hp
      rw [List.mem_singleton.mp hp]
      exact TabS.nil hP
    -- row
    refine q_asgL (xs := [.ref s, .int 0, .int 7512, .int 0]) (el_lst (ea_cons (ev_var rfl) (ea_cons ev_c (ea_cons ev_c (ea_cons ev_c ea_nil)))) (by show 4 ≤ 100000; decide)) fun r H1 hr0 e1 hr1 => ?_
    have R1 : RowAt K H1 r s ns := ⟨⟨0, 7512, 0, hr1, Int.le_refl _⟩, ex_l e1 hs⟩
    have hPr : Pt ≠ r := ne_of_none hP hr0
    -- machine
    refine q_callA (ea_cons (ev_var rfl) (ea_cons ev_c (ea_cons ev_c ea_nil))) fun H2 e2 => ?_
    refine ⟨r, s, ns, 4, 6, rfl, R1.up e2, by decide, by decide, by decide, by decide, fun m fs rs H3 hm hok hf3 R3 e3 => ?_⟩
    obtain ⟨y3, hy3⟩ := R3.lst
    have mB := mat_remM hy3 hm
    have eB : Ex (rem H3 r) H3 := rem_ex
    have hBr : rem H3 r r = none := rem_eq
    have sB := R3.qr
    have PB : rem H3 r Pt = some (.tbl #[]) := by rw [rem_ne hPr]; exact e3 _ _ (by rw [rem_ne hPr]; exact e2 _ _ (e1 _ _ hP))
    generalize rem H3 r = B at mB eB hBr sB PB
    obtain ⟨fa, ra, hm0, hfa, hra⟩ := id mB
    have hl1 := hok.l1
    have hll := hok.ll
    have hl4 := hok.l4
    have hf8 := hok.f
    -- cells
    refine q_asg (v := .int (fs.length : Nat)) (ev_is (ev_lnT (ev_ixT (ev_var rfl) ev_c (ex_t eB hm0) rfl) (ex_t eB hfa)) (by rw [nV_len])) fun H4 e4 => ?_
    have eB4 := eB.trans e4
    have R4 := R3.up e4
    -- mill, lives, held
    refine m_asgTupM ?_
    refine m_consM ?_
    refine m_makeM (ea_cons (ev_var rfl) ea_nil) fun x dx H5 e5 hx hdx hne => ?_
    have eB5 := eB4.trans e5
    have e5x : Ex H5 (upd (upd H5 dx (.own x)) x (.ins C dx [])) := (Ex.new hdx).trans (Ex.new (by rw [upd_ne hne.symm]; exact hx))
    refine ⟨H5, x, m, dx, fs, rs, rfl, e5x, hx, upd_same, mB.up eB5, hok, fun H6 la ct M6 => ⟨rfl, ?_⟩⟩
    have R6 := (R4.up e5).up M6.ex
    obtain ⟨y5, hy5⟩ := (R4.up e5).lst
    have hrct : r ≠ ct := ne_of_none hy5 M6.c0
    refine m_consE (ev_ixT (ev_var rfl) ev_c (ex_t (eB5.trans M6.ex) hm0) rfl) fun H7 e7 => ?_
    refine m_consEL (el_rep (el_lst (ea_cons ev_c ea_nil) (by show 1 ≤ 100000; decide)) (fun H8 e8 => ev_var rfl) (by show 1 * fs.length ≤ 100000; omega) (by omega)) fun hl H8 hhl e8 h8 => ?_
    refine ⟨by show 3 ≤ sizeLine; rw [sizeLine_eq]; decide, fun pt hpt => ?_⟩
    have e9 := Ex.new (o := .tup [.ref x, .ref fa, .ref hl]) hpt
    have h9 : upd H8 pt (.tup [.ref x, .ref fa, .ref hl]) pt = some (.tup [.ref x, .ref fa, .ref hl]) := upd_same
    generalize upd H8 pt (.tup [.ref x, .ref fa, .ref hl]) = H9 at e9 h9 ⊢
    have e69 := (e7.trans e8).trans e9
    have M9 := M6.up e69
    have R9 := R6.up e69
    rw [flat_rep] at h8
    have h8' := e9 _ _ h8
    have hBhl : B hl = none := fresh_back ((eB5.trans M6.ex).trans e7) hhl
    obtain ⟨y7, hy7⟩ := (R6.up e7).lst
    have LL : LwF K C B H9 s r x m dx la ct hl fa fs rs fs (List.replicate fs.length 0) 0 fs (List.replicate fs.length 0) ns :=
      { m := { M9 with ex := eB5.trans M9.ex, x0 := fresh_back eB5 M9.x0, c0 := fresh_back eB5 M9.c0, mt := mB }
        r0 := hBr, h0 := hBhl, q := sB, c := R9.c, hh := h8', lv := ex_t ((eB5.trans M6.ex).trans e69) hfa, rc := hrct, rh := ne_of_none hy7 hhl, ch := ne_of_none (e7 _ _ M6.hc) hhl }
    refine ⟨pt, _, rfl, st_of h9, rfl, _, _, rfl, ⟨_, _, rfl, ⟨_, _, rfl, ⟨rfl, ?_⟩⟩⟩⟩
    clear h9 h8 h8' M9 R9 M6 R6 e69 e9 e8 e7 e5x e5 e4 eB4 eB5 R4 R3 R1
    -- the turns
    refine q_forRc (R := fun n H1 H2 => LwF K C B H2 s r x m dx la ct hl fa fs rs fs (List.replicate fs.length 0) 0 fs (List.replicate fs.length 0) ns ∧ n ≤ 25) (ea_cons (ev_var rfl) (ea_cons ev_c ea_nil)) (fun H1 e1 Q' q' => ⟨r, s, ns, 25, rfl, (LL.up e1).rowAt, by decide, by decide, fun n H2 hn R2 e2 => q' n H2 ⟨(LL.up e1).row e2 R2.c, by omega⟩⟩) (fun n H1 H2 e1 hL => ?_)
    obtain ⟨L2, hn25⟩ := hL
    refine ⟨by omega, fun i σ' H' => ∃ (lv la : Addr) (ls : List Nat) (hs : List Int) (z5 z6 z7 z8 z9 : Option V), σ' = lwS s r m lv hl x fs.length z5 z6 z7 z8 z9 ∧ LwF K C B H' s r x m dx la ct hl lv fs rs ls hs i ls hs ns ∧ ls.length = fs.length ∧ hs.length = fs.length, ⟨fa, la, fs, _, none, none, none, none, none, rfl, L2, rfl, List.length_replicate⟩, ?_, ?_⟩
    · clear LL L2
      rintro i σ' H3 hi ⟨lv, la, ls, hs, z5, z6, z7, z8, z9, rfl, L3, hlsl, hhsl⟩
      refine q_parM ?_
      refine m_consM ?_
      refine m_callM (ea_cons (ev_var rfl) (ea_cons ev_c ea_nil)) fun H4 e4 => ?_
      refine ⟨r, s, ns, 5, rfl, (L3.up e4).rowAt, by decide, by decide, fun w H5 hw R5 e5 => ?_⟩
      have L5 := (L3.up e4).row e5 R5.c
      refine m_consM ?_
      refine m_callM (ea_cons (ev_var rfl) (ea_cons (ev_var rfl) ea_nil)) fun H6 e6 => ?_
      refine ⟨r, s, ns, fs.length, rfl, (L5.up e6).rowAt, by omega, by omega, fun c H7 hc R7 e7 => ?_⟩
      have L7 := (L5.up e6).row e7 R7.c
      refine ⟨_, _, rfl, ?_⟩
      clear L3 L5 R5 R7 e4 e5 e6 e7
      try dsimp only
      refine q_ifK (M := fun σ' H' => ∃ (la : Addr) (hs2 : List Int) (z8 : Option V), σ' = lwS s r m lv hl x fs.length (some (.int (i : Nat))) (some (.int (w : Nat))) (some (.int (c : Nat))) z8 z9 ∧ LwF K C B H' s r x m dx la ct hl lv fs rs (bhL (wayK w) fs rs ls c) hs2 (i + 1) ls hs2 ns ∧ hs2.length = fs.length) (fun σ' H8 hM => ?_) (fun D' hrt hnx => ?_)
      · obtain ⟨la2, hs2, z8', rfl, L8, hh2⟩ := hM
        refine q_callA (ea_cons (ev_var rfl) (ea_cons (ev_var rfl) (ea_cons (ev_ixNL (el_lst (ea_cons ev_c (ea_cons ev_c (ea_cons ev_c (ea_cons ev_c (ea_cons ev_c ea_nil))))) (by show 5 ≤ 100000; decide)) (fun _ _ => ev_var rfl) (way_at hw)) (ea_cons (ev_var rfl) ea_nil)))) fun H9 e9 => ?_
        have L9 := L8.up e9
        refine ⟨m, lv, fs, rs, ls, wayW w, _, wayK w, c, rfl, L9.m.mm, L9.lv, hll, by omega, by omega, way_ok (by omega), fun b H10 hb e10 h10 => ?_⟩
        have L10 := (L9.up e10).to (st_of h10)
        generalize hl2 : bhL (wayK w) fs rs ls c = ls2 at L10 ⊢
        have hl2l : ls2.length = fs.length := by rw [← hl2, bhL_len]; exact hlsl
        clear L8 L9 h10 L7
        -- shown
        refine q_asgL (xs := hV hs2 ls2) ?_ fun sh H11 hsh e11 h11 => ?_
        · rw [← hV_zip (by omega)]
          refine el_lcZM (ea_cons (ev_var rfl) (ea_cons (ev_var rfl) ea_nil)) (sq_of L10.hh) L10.lv (by rw [List.length_map, nV_len]; omega) (fun y z => rfl) (by rw [List.length_map]; omega) (fun j y z H12 hy hz e12 => ?_)
          obtain ⟨u, hu, rfl⟩ := nV_get hz
          refine ev_if (b := decide ((u : Int) > 0)) (et_i0 (ev_var rfl) ev_c) (fun hb => ?_) (fun hb => ?_)
          · show Ev _ _ _ (if ((u : Nat) : Int) > 0 then y else .non)
            rw [if_pos (of_decide_eq_true hb)]
            exact ev_var rfl
          · show Ev _ _ _ (if ((u : Nat) : Int) > 0 then y else .non)
            rw [if_neg (of_decide_eq_false hb)]
            exact ev_c
        have L11 := L10.up e11
        -- what the mill tells
        refine s_when (b := false) (et_or (a := false) (b := false) ?_ fun _ => et_or (a := false) (b := false) ?_ fun _ => ?_) (fun z => nomatch z) fun _ H12 e12 => ?_
        · exact et_is (et_ne (ev_prop (ev_var rfl) L11.m.obj fun H12 e12 Q q => ⟨_, x, m, dx, la2, ct, fs, rs, _, hs2, i + 1, rfl, (L11.up e12).m, q⟩) (ev_succ (ev_var rfl)) rfl) (by simp)
        · exact et_not (a := true) (et_B (ev_callV (ea_cons (ev_prop (ev_var rfl) L11.m.obj fun H12 e12 Q q => ⟨_, x, m, dx, la2, ct, fs, rs, _, hs2, i + 1, rfl, (L11.up e12).m, q⟩) (ea_cons (ev_var rfl) ea_nil)) fun H12 e12 Q q => ⟨_, _, lD ls2, rfl, lD_dp (L11.up e12).m.hl, lD_dp (L11.up e12).lv, lD_ad (by omega), q⟩))
        · refine et_notCallM fun H12 e12 Q q => ?_
          refine m_consM ?_
          refine m_prop (ev_var rfl) (L11.up e12).m.obj fun H13 e13 => ⟨_, x, m, dx, la2, ct, fs, rs, ls2, hs2, i + 1, rfl, ((L11.up e12).up e13).m, by omega, by omega, fun u H14 hu e14 h14 => ?_⟩
          refine m_consU (eu_tpl (ev_var rfl) (sq_of ((e12.trans (e13.trans e14)) _ _ h11))) fun u2 H15 hu2 e15 h15 => ?_
          exact ⟨_, _, .tuple (hvD hs2 ls2), rfl, hv_dp (st_of (e15 _ _ h14)), hv_dp (st_of h15), ad_up (hv_ad (by omega)), fun H16 e16 => ⟨true, rfl, q _ ((e13.trans e14).trans (e15.trans e16))⟩⟩
        exact ⟨b, la2, ls2, hs2, _, _, _, _, _, rfl, L11.up e12, hl2l, hh2⟩
      · refine s_if (et_eq (ev_var rfl) ev_c rfl) (fun hb H8 e8 => ?_) (fun hb H8 e8 => ?_)
        · -- read
          have hw0 : w = 0 := by have := V.int.inj (of_decide_eq_true hb); omega
          subst hw0
          have L8 := L7.up e8
          refine q_asg (v := if ls.getD c 0 > 0 then .int (hs.getD c 0) else .non) (ev_if (b := decide (((ls.getD c 0 : Nat) : Int) > 0)) (et_i0 (ev_ixT (ev_var rfl) (ev_var rfl) L8.lv (nV_at (by omega))) ev_c) (fun hb => ?_) (fun hb => ?_)) fun H9 e9 => ?_
          · rw [if_pos (by have := of_decide_eq_true hb; omega)]
            exact ev_ixL (ev_var rfl) (ev_var rfl) (sq_of L8.hh) (iV_at (by omega))
          · rw [if_neg (by have := of_decide_eq_false hb; omega)]
            exact ev_c
          have L9 := L8.up e9
          refine s_notCall ?_
          refine m_consM ?_
          refine m_meth' (ev_var rfl) L9.m.obj mlf_no_read fun H10 e10 => ?_
          refine (ea_cons (ev_var rfl) ea_nil) H10 (Ex.refl _) _ fun H11 e11 => ?_
          have L11 := L9.up (e10.trans e11)
          refine ⟨_, x, m, dx, la, ct, fs, rs, ls, hs, i, c, rfl, L11.base, hok, hhsl, hlsl, hc, fun H12 la' M12 => ?_⟩
          have L12 := L11.back M12
          refine m_consE (ev_var rfl) fun H13 e13 => ?_
          refine ⟨_, _, hD (decide (ls.getD c 0 > 0)) (hs.getD c 0), rfl, hD_dp _ _, hD_dp _ _, hD_ad _ _ _, fun H14 e14 => ⟨true, rfl, ?_⟩⟩
          exact hnx _ _ ⟨la', hs, _, rfl, L12.up (e13.trans e14), hhsl⟩
        · refine s_if (et_eq (ev_var rfl) ev_c rfl) (fun hb1 H9 e9 => ?_) (fun hb1 H9 e9 => ?_)
          · -- write
            have hw1 : w = 1 := by have := V.int.inj (of_decide_eq_true hb1); omega
            subst hw1
            have L9 := L7.up (e8.trans e9)
            refine q_setLC ?_
            refine (ea_cons (ev_var rfl) (ea_cons ev_c ea_nil)) H9 (Ex.refl _) _ fun H10 e10 => ⟨r, s, ns, 9, rfl, (L9.up e10).rowAt, by decide, by decide, fun z H11 hz R11 e11 => ⟨_, _, rfl, rfl, ?_⟩⟩
            have L11 := (L9.up e10).row e11 R11.c
            refine gSubL (ev_var rfl) (ev_var rfl) L11.hh (by rw [List.length_map]; omega) fun H12 e12 => ?_
            have L12 := (L11.up e12).putH (hs.set c ((z : Int) - 4))
            rw [List.map_set] at L12
            generalize hH13 : upd H12 hl (.lst ((hs.map V.int).set c (.int ((z : Int) - 4)))) = H13 at L12 ⊢
            have hgv : (hs.set c ((z : Int) - 4)).getD c 0 = (z : Int) - 4 := by
              rw [List.getD_eq_getElem?_getD, List.getElem?_set, if_pos rfl, if_pos (by omega)]
              rfl
            have hat := iV_at (l := hs.set c ((z : Int) - 4)) (i := c) (by rw [List.length_set]; omega)
            rw [hgv] at hat
            refine s_methD (ev_var rfl) L12.m.obj mlf_no_write (ea_cons (ev_var rfl) (ea_cons (ev_ixL (ev_var rfl) (ev_var rfl) (sq_of L12.hh) hat) ea_nil)) fun H14 e14 => ?_
            refine ⟨_, x, m, dx, la, ct, fs, rs, ls, hs, i, c, (z : Int) - 4, rfl, (L12.up e14).base, hok, hhsl, hlsl, hc, fun H15 la' M15 => ?_⟩
            exact hnx _ _ ⟨la', _, _, rfl, (L12.up e14).back M15, by rw [List.length_set]; exact hhsl⟩
          · refine s_if (et_eq (ev_var rfl) ev_c rfl) (fun hb2 H10 e10 => ?_) (fun hb2 H10 e10 => ?_)
            · -- touch
              have hw2 : w = 2 := by have := V.int.inj (of_decide_eq_true hb2); omega
              subst hw2
              have L10 := L7.up ((e8.trans e9).trans e10)
              refine s_methD (ev_var rfl) L10.m.obj mlf_no_touch (ea_cons (ev_var rfl) ea_nil) fun H11 e11 => ?_
              refine ⟨_, x, m, dx, la, ct, fs, rs, ls, hs, i, c, rfl, (L10.up e11).base, hok, hlsl, hc, fun H12 la' M12 => ?_⟩
              exact hnx _ _ ⟨la', hs, _, rfl, (L10.up e11).back M12, hhsl⟩
            · -- wait
              have L10 := L7.up ((e8.trans e9).trans e10)
              have hwK : wayK w = .wait := by
                have h0 : w ≠ 0 := fun z => of_decide_eq_false hb (by rw [z]; rfl)
                have h1 : w ≠ 1 := fun z => of_decide_eq_false hb1 (by rw [z]; rfl)
                have h2 : w ≠ 2 := fun z => of_decide_eq_false hb2 (by rw [z]; rfl)
                obtain ⟨w', rfl⟩ : ∃ w', w = w' + 3 := ⟨w - 3, by omega⟩
                rfl
              refine s_methD (ev_var rfl) L10.m.obj mlf_no_wait ea_nil fun H11 e11 => ?_
              refine ⟨_, x, m, dx, la, ct, fs, rs, ls, hs, i, rfl, (L10.up e11).base, by omega, fun H12 la' M12 => ?_⟩
              rw [hwK] at hnx
              exact hnx _ _ ⟨la', hs, _, rfl, (L10.up e11).back M12, hhsl⟩
    · rintro σ' H3 ⟨lv, la, ls, hs, z5, z6, z7, z8, z9, rfl, L3, hlsl, hhsl⟩
      have hT3 : Tabs TT H3 := fun p hp => by
        rw [hTT] at hp
        rw [List.mem_singleton.mp hp]
        exact TabS.nil (L3.m.ex _ _ PB)
      refine q_asgL (xs := []) (el_lst ea_nil (by show 0 ≤ 100000; decide)) fun wd H4 hwd e4 h4 => ?_
      have L4 := L3.up e4
      have hT4 := hT3.ext e4
      have M4 := L4.m.noT
      have lv4 := L4.lv
      have hBwd : noT B wd = none := noT_none (fresh_back L3.m.ex hwd)
      have hcwd : ct ≠ wd := ne_of_none L3.m.hc hwd
      clear L3 L4 hT3 LL L2
      try dsimp only
      -- works
      refine m_asgLstM ?_
      refine m_consM ?_
      refine ⟨hT4, fun g1 k1 doc1 pm1 ct1 H5 n5 T5 hg1 hg1' hk1 => ?_⟩
      refine m_consM ?_
      refine ⟨T5, fun g2 k2 t2 doc2 pm2 ct2 H6 n6 T6 hg2 hg2' hk2 ht2 => ?_⟩
      refine ⟨by show 2 ≤ sizeLine; rw [sizeLine_eq]; decide, fun wk hwk => ?_⟩
      have e7 := Ex.new (o := .lst [.ref g1, .ref g2]) hwk
      have h7 : upd H6 wk (.lst [.ref g1, .ref g2]) wk = some (.lst [.ref g1, .ref g2]) := upd_same
      generalize upd H6 wk (.lst [.ref g1, .ref g2]) = H7 at e7 h7 ⊢
      have n46 := n5.trans n6
      have M7 := (M4.upN n46).up e7
      have w7 := e7 _ _ (n46 _ _ h4 fun _ z => by cases z)
      have lv7 := ex_t e7 (sqT_n n46 lv4)
      have a1 := e7 _ _ (n6 _ _ hg1' fun ps => fnO_ne ps)
      have b1 := e7 _ _ (n6 _ _ hk1 fun ps => codeO_ne ps)
      have a2 := e7 _ _ hg2'
      have b2 := e7 _ _ hk2
      have c2 := e7 _ _ ht2
      have T7 := T6.ext e7
      clear hg1' hk1 hg2' hk2 ht2 hT4 T5 T6 n5 n6 n46 M4 lv4 h4 e4
      try dsimp only
      refine q_forCat (ev_var rfl) fun H8 e8 => ?_
      refine m_consM ?_
      refine ⟨T7.ext e8, fun g3 k3 t3 doc3 pm3 ct3 H9 n9 T9 hg3 hg3' hk3 ht3 => ?_⟩
      refine m_consM ?_
      refine ⟨T9, fun g4 k4 t4 doc4 pm4 ct4 H10 n10 T10 hg4 hg4' hk4 ht4 => ?_⟩
      have n80 := (ExtN.of e8).trans (n9.trans n10)
      have nt : ∀ {b : Addr} {xs : List V}, H7 b = some (.lst xs) → H10 b = some (.lst xs) := fun h => n80 _ _ h fun _ z => by cases z
      refine forCat_end (xs := [.ref g1, .ref g2]) (nt h7) (by show 2 + 2 ≤ 100000; decide) fun q H11 e11 hq => ?_
      have M11 := (M7.upN n80).up e11
      have w11 := e11 _ _ (nt w7)
      have lv11 := ex_t e11 (sqT_n n80 lv7)
      have a1 := e11 _ _ (n80 _ _ a1 fun ps => fnO_ne ps)
      have b1 := e11 _ _ (n80 _ _ b1 fun ps => codeO_ne ps)
      have a2 := e11 _ _ (n80 _ _ a2 fun ps => fnO_ne ps)
      have b2 := e11 _ _ (n80 _ _ b2 fun ps => codeO_ne ps)
      have c2 := e11 _ _ (n80 _ _ c2 fun _ z => by cases z)
      have a3 := e11 _ _ (n10 _ _ hg3' fun ps => fnO_ne ps)
      have b3 := e11 _ _ (n10 _ _ hk3 fun ps => codeO_ne ps)
      have c3 := e11 _ _ (n10 _ _ ht3 fun _ z => by cases z)
      have a4 := e11 _ _ hg4'
      have b4 := e11 _ _ hk4
      have c4 := e11 _ _ ht4
      clear hg3' hk3 ht3 hg4' hk4 ht4 T7 T9 T10 n80 n9 n10 M7 lv7 w7 h7 nt
      -- what stands behind words
      have ne : ∀ {b : Addr} {o : HO}, H11 b = some o → (∀ l, o ≠ .lst l) → b ≠ wd := fun {b o} hb hn z => by
        rw [z, w11] at hb
        exact hn _ (Option.some.inj hb).symm
      have rm : ∀ {b : Addr} {o : HO}, H11 b = some o → (∀ l, o ≠ .lst l) → rem H11 wd b = some o := fun hb hn => by rw [rem_ne (ne hb hn)]; exact hb
      have MR := M11.rem w11 hBwd hcwd
      have lvR := sqT_rem w11 lv11
      have fo : ∀ {f : Addr} {fd : FuncData} (l : List V), FnO f fd ≠ .lst l := fun l z => by unfold FnO at z; cases z
      have co : ∀ {c : Addr} {q : Str} (l : List V), CodeO c q ≠ .lst l := fun l z => by unfold CodeO at z; cases z
      have a1 := rm a1 fo
      have b1 := rm b1 co
      have a2 := rm a2 fo
      have b2 := rm b2 co
      have c2 := rm c2 fun _ z => by cases z
      have a3 := rm a3 fo
      have b3 := rm b3 co
      have c3 := rm c3 fun _ z => by cases z
      have a4 := rm a4 fo
      have b4 := rm b4 co
      have c4 := rm c4 fun _ z => by cases z
      have hqw : q ≠ wd := fun z => by
        rw [z, w11] at hq
        cases hq
      have hqR : rem H11 wd q = some (.lst ([.ref g1, .ref g2] ++ [.ref g3, .ref g4])) := by rw [rem_ne hqw]; exact hq
      have hw0 : rem H11 wd wd = none := rem_eq
      have eR : Ex (rem H11 wd) H11 := rem_ex
      generalize rem H11 wd = BR at MR lvR a1 b1 a2 b2 c2 a3 b3 c3 a4 b4 c4 hqR hw0 eR
      clear M11 lv11 hq ne rm
      refine forLn_of (xs := [.ref g1, .ref g2, .ref g3, .ref g4]) (fun j σ' H' => ∃ z12 : Option V, σ' = [some (.ref s), some (.ref r), some (.ref m), some (.ref lv), some (.ref hl), z5, z6, z7, z8, z9, some (.ref wd), some (.ref wk), z12, none, some (.int (fs.length : Nat)), some (.ref x), none, none] ∧ Ex BR H' ∧ H' wd = some (.lst ((W4.take j).map V.str))) ⟨_, rfl, eR, w11⟩ (fun i σ' H' _ ⟨_, _, e, _⟩ => sq_of (e _ _ hqR)) ?_ ?_
      · rintro i v σ' H' hv ⟨z12, rfl, e, hw⟩
        have MM := MR.up e
        match i, hv with
        | 0, hv =>
          obtain rfl : V.ref g1 = v := Option.some.inj hv
          refine s_dropOr (.inr ?_)
          refine Or.inl ?_
          refine ⟨g1, k1, .none, doc1, pm1, ct1, rfl, e _ _ a1, e _ _ b1, .no rfl, ?_⟩
          refine m_meth' (ev_var rfl) MM.obj mlf_no_read fun H12 e12 => ?_
          refine (ea_cons (ev_var rfl) ea_nil) H12 (Ex.refl _) _ fun H13 e13 => ?_
          refine ⟨_, x, m, dx, la, ct, fs, rs, ls, hs, n, _, some ((fs.length : Nat) : Int), rfl, MM.up (e12.trans e13), hok, rfl, ?_, fun H14 e14 => ?_⟩
          · show (decide ((0 : Int) ≤ ((fs.length : Nat) : Int)) && decide (((fs.length : Nat) : Int) ≤ (fs.length : Int) - 1)) = false
            rw [decide_eq_false (show ¬ ((fs.length : Nat) : Int) ≤ (fs.length : Int) - 1 by omega), Bool.and_false]
          refine ⟨true, B_BadCell.te, fun _ a0 ha0 => ?_, fun z => nomatch z⟩
          have eo := (e12.trans e13).trans e14
          refine s_app (eo _ _ hw) (ev_var rfl) ev_c (by decide) fun H15 e15 => ?_
          exact ⟨_, rfl, Ex.mut ((e.trans eo).trans e15) hw0, upd_same⟩
        | 1, hv =>
          obtain rfl : V.ref g2 = v := Option.some.inj hv
          refine s_dropOr (.inl ?_)
          refine ⟨g2, k2, .ref t2, doc2, pm2, ct2, rfl, e _ _ a2, e _ _ b2, .one rfl (e _ _ c2), ?_⟩
          refine m_meth' (ev_var rfl) MM.obj mlf_no_touch fun H12 e12 => ?_
          refine (ea_cons ev_c ea_nil) H12 (Ex.refl _) _ fun H13 e13 => ?_
          refine ⟨_, x, m, dx, la, ct, fs, rs, ls, hs, n, _, none, rfl, MM.up (e12.trans e13), hok, .non, rfl, fun H14 e14 => ?_⟩
          refine ⟨true, B_BadCell.te, fun _ a0 ha0 => ?_, fun z => nomatch z⟩
          have eo := (e12.trans e13).trans e14
          refine s_app (eo _ _ hw) (ev_var rfl) ev_c (by decide) fun H15 e15 => ?_
          exact ⟨_, rfl, Ex.mut ((e.trans eo).trans e15) hw0, upd_same⟩
        | 2, hv =>
          obtain rfl : V.ref g3 = v := Option.some.inj hv
          refine s_dropOr (.inr ?_)
          refine Or.inr (Or.inr ?_)
          refine ⟨g3, k3, .ref t3, doc3, pm3, ct3, rfl, e _ _ a3, e _ _ b3, .one rfl (e _ _ c3), ?_⟩
          refine m_meth' (ev_var rfl) MM.obj mlf_no_write fun H12 e12 => ?_
          refine (ea_cons ev_c (ea_cons ev_c ea_nil)) H12 (Ex.refl _) _ fun H13 e13 => ?_
          refine ⟨_, x, m, dx, la, ct, fs, rs, ls, hs, n, _, _, none, rfl, MM.up (e12.trans e13), hok, .bl, rfl, fun H14 e14 => ?_⟩
          refine ⟨true, B_BadCell.te, fun _ a0 ha0 => ?_, fun z => nomatch z⟩
          have eo := (e12.trans e13).trans e14
          refine s_app (eo _ _ hw) (ev_var rfl) ev_c (by decide) fun H15 e15 => ?_
          exact ⟨_, rfl, Ex.mut ((e.trans eo).trans e15) hw0, upd_same⟩
        | 3, hv =>
          obtain rfl : V.ref g4 = v := Option.some.inj hv
          refine s_dropOr (.inr ?_)
          refine Or.inr (Or.inl ?_)
          refine ⟨g4, k4, .ref t4, doc4, pm4, ct4, rfl, e _ _ a4, e _ _ b4, .one rfl (e _ _ c4), ?_⟩
          refine m_meth' (ev_var rfl) MM.obj mlf_no_write fun H12 e12 => ?_
          refine (ea_cons ev_c (ea_cons ev_c ea_nil)) H12 (Ex.refl _) _ fun H13 e13 => ?_
          refine ⟨_, x, m, dx, la, ct, fs, rs, ls, hs, n, 0, _, rfl, MM.up (e12.trans e13), hok, by omega, .non, fun H14 e14 => ?_⟩
          refine ⟨false, nbc, (fun z => nomatch z), fun _ => ⟨true, B_BadNumber.te, fun _ a0 ha0 => ?_, fun z => nomatch z⟩⟩
          have eo := (e12.trans e13).trans e14
          refine s_app (eo _ _ hw) (ev_var rfl) ev_c (by decide) fun H15 e15 => ?_
          exact ⟨_, rfl, Ex.mut ((e.trans eo).trans e15) hw0, upd_same⟩
        | i + 4, hv => exact nomatch hv
      · rintro σ' H' ⟨z12, rfl, e, hw⟩
        have MM := MR.up e
        refine s_ret (v := .bl true) (ev_andV (a := true) (b := true) (ev_eqStrs (ws := W4) (ev_var rfl) (sq_of hw) (ea_cons ev_c (ea_cons ev_c (ea_cons ev_c (ea_cons ev_c ea_nil)))) (by decide) (by decide +kernel)) fun _ => ?_) fun H12 e12 => k H12
        exact ev_eqDD (ev_prop (ev_var rfl) MM.obj fun H12 e12 Q q => ⟨_, x, m, dx, la, ct, fs, rs, ls, hs, n, rfl, MM.up e12, q⟩) (ev_var rfl) (lD_dp MM.hl) (lD_dp (ex_t e lvR)) (lD_shaped ls)
end
end Fm
set_option Elab.async false
set_option linter.all false
set_option maxRecDepth 100000
set_option maxHeartbeats 8000000
namespace Fm
open PySem PySem.W PySem.Calls PyProof.Rows PySem.HandSPX L2 Evl LamX
/-- an error of the class at S is what its name in an except takes -/
theorem exm_own {K : PySem.W.Frag} {S : Addr} (h1 : PySem.W.subIn K (.ref S) (.type "BaseException") = some true) (h2 : PySem.W.isClsIn K S = true) (h3 : PySem.W.typeIn K (.ref S) = some (.type "type")) (h4 : PySem.W.subIn K (.ref S) (.ref S) = some true) : PySem.W.exmOne K (.ref S) (.ref S) = some true := by
  have e1 : (PySem.W.subIn K (.ref S) (.type "BaseException") == some true) = true := by rw [h1]; rfl
  have h5 : (PySem.W.clsIn K S).isSome = true := h2
  have e2 : ((PySem.W.clsIn K S).isSome && PySem.W.typeIn K (.ref S) == some (.type "type")) = true := by rw [h5, h3]; rfl
  unfold PySem.W.exmOne
  rw [if_pos e1]
  show (if ((PySem.W.clsIn K S).isSome && PySem.W.typeIn K (.ref S) == some (.type "type")) = true then PySem.W.subIn K (.ref S) (.ref S) else none) = some true
  rw [if_pos e2]
  exact h4
theorem exm_no {K : PySem.W.Frag} {S T : Addr} (h1 : PySem.W.subIn K (.ref T) (.type "BaseException") = some true) (h2 : PySem.W.isClsIn K T = true) (h3 : PySem.W.typeIn K (.ref T) = some (.type "type")) (h4 : PySem.W.subIn K (.ref S) (.ref T) = some false) : PySem.W.exmOne K (.ref S) (.ref T) = some false := by
  have e1 : (PySem.W.subIn K (.ref T) (.type "BaseException") == some true) = true := by rw [h1]; rfl
  have h5 : (PySem.W.clsIn K T).isSome = true := h2
  have e2 : ((PySem.W.clsIn K T).isSome && PySem.W.typeIn K (.ref T) == some (.type "type")) = true := by rw [h5, h3]; rfl
  unfold PySem.W.exmOne
  rw [if_pos e1]
  show (if ((PySem.W.clsIn K T).isSome && PySem.W.typeIn K (.ref T) == some (.type "type")) = true then PySem.W.subIn K (.ref S) (.ref T) else none) = some false
  rw [if_pos e2]
  exact h4
theorem all_mk {l : PySem.W.OpenLaw} {w : World} {K : PySem.W.Frag} {h : Heap} {mg : Str → Option Value} {fa : Addr} (X : K.In h) (G : h.Ns mainGlobals mg) (hfa : mg "law" = some (.ref fa))
    {X_Mill : Addr}
    {f0 : Addr} {od0 an0 : Option Addr} {sl0 : Array (Option Value)} {oc0 kV0 dc0 pm0 cd0 ct0 : Value}
    {f1 : Addr} {od1 an1 : Option Addr} {sl1 : Array (Option Value)} {oc1 kV1 dc1 pm1 cd1 ct1 : Value}
    {f2 : Addr} {od2 an2 : Option Addr} {sl2 : Array (Option Value)} {oc2 kV2 dc2 pm2 cd2 ct2 : Value}
    {f3 : Addr} {od3 an3 : Option Addr} {sl3 : Array (Option Value)} {oc3 kV3 dc3 pm3 cd3 ct3 : Value}
    {f4 : Addr} {od4 an4 : Option Addr} {sl4 : Array (Option Value)} {oc4 kV4 dc4 pm4 cd4 ct4 : Value}
    {f5 : Addr} {od5 an5 : Option Addr} {sl5 : Array (Option Value)} {oc5 kV5 dc5 pm5 cd5 ct5 : Value}
    {f6 : Addr} {od6 an6 : Option Addr} {sl6 : Array (Option Value)} {oc6 kV6 dc6 pm6 cd6 ct6 : Value}
    {f7 : Addr} {od7 an7 : Option Addr} {sl7 : Array (Option Value)} {oc7 kV7 dc7 pm7 cd7 ct7 : Value}
    {f8 : Addr} {od8 an8 : Option Addr} {sl8 : Array (Option Value)} {oc8 kV8 dc8 pm8 cd8 ct8 : Value}
    {f9 : Addr} {od9 an9 : Option Addr} {sl9 : Array (Option Value)} {oc9 kV9 dc9 pm9 cd9 ct9 : Value}
    {f10 : Addr} {od10 an10 : Option Addr} {sl10 : Array (Option Value)} {oc10 kV10 dc10 pm10 cd10 ct10 : Value}
    {f11 : Addr} {od11 an11 : Option Addr} {sl11 : Array (Option Value)} {oc11 kV11 dc11 pm11 cd11 ct11 : Value}
    {f12 : Addr} {od12 an12 : Option Addr} {sl12 : Array (Option Value)} {oc12 kV12 dc12 pm12 cd12 ct12 : Value}
    {pp12 : Addr} {pr12 : List Value}
    {f13 : Addr} {od13 an13 : Option Addr} {sl13 : Array (Option Value)} {oc13 kV13 dc13 pm13 cd13 ct13 : Value}
    {pp13 : Addr} {pr13 : List Value}
    {f14 : Addr} {od14 an14 : Option Addr} {sl14 : Array (Option Value)} {oc14 kV14 dc14 pm14 cd14 ct14 : Value}
    {pp14 : Addr} {pr14 : List Value}
    {f15 : Addr} {od15 an15 : Option Addr} {sl15 : Array (Option Value)} {oc15 kV15 dc15 pm15 cd15 ct15 : Value}
    {f16 : Addr} {od16 an16 : Option Addr} {sl16 : Array (Option Value)} {oc16 kV16 dc16 pm16 cd16 ct16 : Value}
    {f17 : Addr} {od17 an17 : Option Addr} {sl17 : Array (Option Value)} {oc17 kV17 dc17 pm17 cd17 ct17 : Value}
    {f18 : Addr} {od18 an18 : Option Addr} {sl18 : Array (Option Value)} {oc18 kV18 dc18 pm18 cd18 ct18 : Value}
    {f19 : Addr} {od19 an19 : Option Addr} {sl19 : Array (Option Value)} {oc19 kV19 dc19 pm19 cd19 ct19 : Value}
    {f20 : Addr} {od20 an20 : Option Addr} {sl20 : Array (Option Value)} {oc20 kV20 dc20 pm20 cd20 ct20 : Value}
    {f21 : Addr} {od21 an21 : Option Addr} {sl21 : Array (Option Value)} {oc21 kV21 dc21 pm21 cd21 ct21 : Value}
    {f22 : Addr} {od22 an22 : Option Addr} {sl22 : Array (Option Value)} {oc22 kV22 dc22 pm22 cd22 ct22 : Value}
    {f23 : Addr} {od23 an23 : Option Addr} {sl23 : Array (Option Value)} {oc23 kV23 dc23 pm23 cd23 ct23 : Value}
    {f24 : Addr} {od24 an24 : Option Addr} {sl24 : Array (Option Value)} {oc24 kV24 dc24 pm24 ct24 : Value}
    {lc lP : Addr} {ldd : Option Addr} {lvs : Array Value} {lsl : Array (Option Value)}
    {t_MOST_CELLS : Tok}
    {t_MOST_FADE : Tok}
    {bc : Addr}
    {bn : Addr}
    (xg_Mill : PySem.W.nsIn K mainGlobals "Mill" = some (some (.ref X_Mill)))
    (xp_Mill : PySem.W.plainGet K X_Mill Str.empty = true)
    (xh_Mill : PySem.W.hasDictIn K X_Mill = true)
    (xo_Mill : PySem.W.plainOver K X_Mill = true)
    (xs_Mill : PySem.W.findIn K (.ref X_Mill) "__setattr__" = some (some (.builtin "object.__setattr__")))
    (xm_Mill : PySem.W.makesIn K X_Mill = true)
    (xk_Mill : PySem.W.keepIn K (.ref X_Mill) = true)
    (xn_Mill_machine : PySem.W.findIn K (.ref X_Mill) "machine" = some none)
    (xn_Mill_lives : PySem.W.findIn K (.ref X_Mill) "lives" = some none)
    (xn_Mill_contents : PySem.W.findIn K (.ref X_Mill) "contents" = some none)
    (xn_Mill_ticks : PySem.W.findIn K (.ref X_Mill) "ticks" = some none)
    (a0 : PySem.W.nsIn K mainGlobals "is_whole" = some (some (.ref f0)))
    (l0 : K.lookup f0 = some ⟨oc0, od0, .func (PySem.W.fnOf "is_whole" "is_whole" (defArgs s_is_whole) (defBody s_is_whole) (defScope s_is_whole) .none kV0 dc0 pm0 an0 cd0 ct0), sl0⟩)
    (c0 : PySem.W.codeIn K cd0 "is_whole" = true)
    (k0 : PySem.W.keepIn K (.ref f0) = true)
    (a1 : PySem.W.nsIn K mainGlobals "is_integer" = some (some (.ref f1)))
    (l1 : K.lookup f1 = some ⟨oc1, od1, .func (PySem.W.fnOf "is_integer" "is_integer" (defArgs s_is_integer) (defBody s_is_integer) (defScope s_is_integer) .none kV1 dc1 pm1 an1 cd1 ct1), sl1⟩)
    (c1 : PySem.W.codeIn K cd1 "is_integer" = true)
    (k1 : PySem.W.keepIn K (.ref f1) = true)
    (a2 : PySem.W.nsIn K mainGlobals "check_whole" = some (some (.ref f2)))
    (l2 : K.lookup f2 = some ⟨oc2, od2, .func (PySem.W.fnOf "check_whole" "check_whole" (defArgs s_check_whole) (defBody s_check_whole) (defScope s_check_whole) .none kV2 dc2 pm2 an2 cd2 ct2), sl2⟩)
    (c2 : PySem.W.codeIn K cd2 "check_whole" = true)
    (k2 : PySem.W.keepIn K (.ref f2) = true)
    (a3 : PySem.W.nsIn K mainGlobals "are_fades" = some (some (.ref f3)))
    (l3 : K.lookup f3 = some ⟨oc3, od3, .func (PySem.W.fnOf "are_fades" "are_fades" (defArgs s_are_fades) (defBody s_are_fades) (defScope s_are_fades) .none kV3 dc3 pm3 an3 cd3 ct3), sl3⟩)
    (c3 : PySem.W.codeIn K cd3 "are_fades" = true)
    (k3 : PySem.W.keepIn K (.ref f3) = true)
    (a4 : PySem.W.nsIn K mainGlobals "are_rows" = some (some (.ref f4)))
    (l4 : K.lookup f4 = some ⟨oc4, od4, .func (PySem.W.fnOf "are_rows" "are_rows" (defArgs s_are_rows) (defBody s_are_rows) (defScope s_are_rows) .none kV4 dc4 pm4 an4 cd4 ct4), sl4⟩)
    (c4 : PySem.W.codeIn K cd4 "are_rows" = true)
    (k4 : PySem.W.keepIn K (.ref f4) = true)
    (a5 : PySem.W.nsIn K mainGlobals "check_machine" = some (some (.ref f5)))
    (l5 : K.lookup f5 = some ⟨oc5, od5, .func (PySem.W.fnOf "check_machine" "check_machine" (defArgs s_check_machine) (defBody s_check_machine) (defScope s_check_machine) .none kV5 dc5 pm5 an5 cd5 ct5), sl5⟩)
    (c5 : PySem.W.codeIn K cd5 "check_machine" = true)
    (k5 : PySem.W.keepIn K (.ref f5) = true)
    (a6 : PySem.W.nsIn K mainGlobals "check_cell_of" = some (some (.ref f6)))
    (l6 : K.lookup f6 = some ⟨oc6, od6, .func (PySem.W.fnOf "check_cell_of" "check_cell_of" (defArgs s_check_cell_of) (defBody s_check_cell_of) (defScope s_check_cell_of) .none kV6 dc6 pm6 an6 cd6 ct6), sl6⟩)
    (c6 : PySem.W.codeIn K cd6 "check_cell_of" = true)
    (k6 : PySem.W.keepIn K (.ref f6) = true)
    (a7 : PySem.W.nsIn K mainGlobals "check_cell" = some (some (.ref f7)))
    (l7 : K.lookup f7 = some ⟨oc7, od7, .func (PySem.W.fnOf "check_cell" "check_cell" (defArgs s_check_cell) (defBody s_check_cell) (defScope s_check_cell) .none kV7 dc7 pm7 an7 cd7 ct7), sl7⟩)
    (c7 : PySem.W.codeIn K cd7 "check_cell" = true)
    (k7 : PySem.W.keepIn K (.ref f7) = true)
    (a8 : PySem.W.nsIn K mainGlobals "lives_waited" = some (some (.ref f8)))
    (l8 : K.lookup f8 = some ⟨oc8, od8, .func (PySem.W.fnOf "lives_waited" "lives_waited" (defArgs s_lives_waited) (defBody s_lives_waited) (defScope s_lives_waited) .none kV8 dc8 pm8 an8 cd8 ct8), sl8⟩)
    (c8 : PySem.W.codeIn K cd8 "lives_waited" = true)
    (k8 : PySem.W.keepIn K (.ref f8) = true)
    (a9 : PySem.W.nsIn K mainGlobals "lives_touched" = some (some (.ref f9)))
    (l9 : K.lookup f9 = some ⟨oc9, od9, .func (PySem.W.fnOf "lives_touched" "lives_touched" (defArgs s_lives_touched) (defBody s_lives_touched) (defScope s_lives_touched) .none kV9 dc9 pm9 an9 cd9 ct9), sl9⟩)
    (c9 : PySem.W.codeIn K cd9 "lives_touched" = true)
    (k9 : PySem.W.keepIn K (.ref f9) = true)
    (a10 : PySem.W.nsIn K mainGlobals "lives_set" = some (some (.ref f10)))
    (l10 : K.lookup f10 = some ⟨oc10, od10, .func (PySem.W.fnOf "lives_set" "lives_set" (defArgs s_lives_set) (defBody s_lives_set) (defScope s_lives_set) .none kV10 dc10 pm10 an10 cd10 ct10), sl10⟩)
    (c10 : PySem.W.codeIn K cd10 "lives_set" = true)
    (k10 : PySem.W.keepIn K (.ref f10) = true)
    (a11 : PySem.W.findIn K (.ref X_Mill) "__init__" = some (some (.ref f11)))
    (i11 : PySem.W.isFn K (.ref f11) = true)
    (l11 : K.lookup f11 = some ⟨oc11, od11, .func (PySem.W.fnOf "__init__" "Mill.__init__" (defArgs s_Mill___init__) (defBody s_Mill___init__) (defScope s_Mill___init__) .none kV11 dc11 pm11 an11 cd11 ct11), sl11⟩)
    (c11 : PySem.W.codeIn K cd11 "Mill.__init__" = true)
    (k11 : PySem.W.keepIn K (.ref f11) = true)
    (a12 : PySem.W.findIn K (.ref X_Mill) "tick" = some (some (.ref pp12)))
    (pg12 : PySem.W.specialIn K (.ref pp12) "__get__" = some (some (.builtin "property.__get__")))
    (pt12 : PySem.W.takesIn K (.ref pp12) = some true)
    (px12 : PySem.W.recIn K pp12 "property" = some (.ref f12 :: pr12))
    (l12 : K.lookup f12 = some ⟨oc12, od12, .func (PySem.W.fnOf "tick" "Mill.tick" (defArgs s_Mill_tick) (defBody s_Mill_tick) (defScope s_Mill_tick) .none kV12 dc12 pm12 an12 cd12 ct12), sl12⟩)
    (c12 : PySem.W.codeIn K cd12 "Mill.tick" = true)
    (k12 : PySem.W.keepIn K (.ref f12) = true)
    (a13 : PySem.W.findIn K (.ref X_Mill) "fresh" = some (some (.ref pp13)))
    (pg13 : PySem.W.specialIn K (.ref pp13) "__get__" = some (some (.builtin "property.__get__")))
    (pt13 : PySem.W.takesIn K (.ref pp13) = some true)
    (px13 : PySem.W.recIn K pp13 "property" = some (.ref f13 :: pr13))
    (l13 : K.lookup f13 = some ⟨oc13, od13, .func (PySem.W.fnOf "fresh" "Mill.fresh" (defArgs s_Mill_fresh) (defBody s_Mill_fresh) (defScope s_Mill_fresh) .none kV13 dc13 pm13 an13 cd13 ct13), sl13⟩)
    (c13 : PySem.W.codeIn K cd13 "Mill.fresh" = true)
    (k13 : PySem.W.keepIn K (.ref f13) = true)
    (a14 : PySem.W.findIn K (.ref X_Mill) "held" = some (some (.ref pp14)))
    (pg14 : PySem.W.specialIn K (.ref pp14) "__get__" = some (some (.builtin "property.__get__")))
    (pt14 : PySem.W.takesIn K (.ref pp14) = some true)
    (px14 : PySem.W.recIn K pp14 "property" = some (.ref f14 :: pr14))
    (l14 : K.lookup f14 = some ⟨oc14, od14, .func (PySem.W.fnOf "held" "Mill.held" (defArgs s_Mill_held) (defBody s_Mill_held) (defScope s_Mill_held) .none kV14 dc14 pm14 an14 cd14 ct14), sl14⟩)
    (c14 : PySem.W.codeIn K cd14 "Mill.held" = true)
    (k14 : PySem.W.keepIn K (.ref f14) = true)
    (a15 : PySem.W.findIn K (.ref X_Mill) "go_on" = some (some (.ref f15)))
    (i15 : PySem.W.isFn K (.ref f15) = true)
    (l15 : K.lookup f15 = some ⟨oc15, od15, .func (PySem.W.fnOf "go_on" "Mill.go_on" (defArgs s_Mill_go_on) (defBody s_Mill_go_on) (defScope s_Mill_go_on) .none kV15 dc15 pm15 an15 cd15 ct15), sl15⟩)
    (c15 : PySem.W.codeIn K cd15 "Mill.go_on" = true)
    (k15 : PySem.W.keepIn K (.ref f15) = true)
    (a16 : PySem.W.findIn K (.ref X_Mill) "read" = some (some (.ref f16)))
    (i16 : PySem.W.isFn K (.ref f16) = true)
    (l16 : K.lookup f16 = some ⟨oc16, od16, .func (PySem.W.fnOf "read" "Mill.read" (defArgs s_Mill_read) (defBody s_Mill_read) (defScope s_Mill_read) .none kV16 dc16 pm16 an16 cd16 ct16), sl16⟩)
    (c16 : PySem.W.codeIn K cd16 "Mill.read" = true)
    (k16 : PySem.W.keepIn K (.ref f16) = true)
    (a17 : PySem.W.findIn K (.ref X_Mill) "write" = some (some (.ref f17)))
    (i17 : PySem.W.isFn K (.ref f17) = true)
    (l17 : K.lookup f17 = some ⟨oc17, od17, .func (PySem.W.fnOf "write" "Mill.write" (defArgs s_Mill_write) (defBody s_Mill_write) (defScope s_Mill_write) .none kV17 dc17 pm17 an17 cd17 ct17), sl17⟩)
    (c17 : PySem.W.codeIn K cd17 "Mill.write" = true)
    (k17 : PySem.W.keepIn K (.ref f17) = true)
    (a18 : PySem.W.findIn K (.ref X_Mill) "touch" = some (some (.ref f18)))
    (i18 : PySem.W.isFn K (.ref f18) = true)
    (l18 : K.lookup f18 = some ⟨oc18, od18, .func (PySem.W.fnOf "touch" "Mill.touch" (defArgs s_Mill_touch) (defBody s_Mill_touch) (defScope s_Mill_touch) .none kV18 dc18 pm18 an18 cd18 ct18), sl18⟩)
    (c18 : PySem.W.codeIn K cd18 "Mill.touch" = true)
    (k18 : PySem.W.keepIn K (.ref f18) = true)
    (a19 : PySem.W.findIn K (.ref X_Mill) "wait" = some (some (.ref f19)))
    (i19 : PySem.W.isFn K (.ref f19) = true)
    (l19 : K.lookup f19 = some ⟨oc19, od19, .func (PySem.W.fnOf "wait" "Mill.wait" (defArgs s_Mill_wait) (defBody s_Mill_wait) (defScope s_Mill_wait) .none kV19 dc19 pm19 an19 cd19 ct19), sl19⟩)
    (c19 : PySem.W.codeIn K cd19 "Mill.wait" = true)
    (k19 : PySem.W.keepIn K (.ref f19) = true)
    (a20 : PySem.W.nsIn K mainGlobals "_law_taken" = some (some (.ref f20)))
    (l20 : K.lookup f20 = some ⟨oc20, od20, .func (PySem.W.fnOf "_law_taken" "_law_taken" (defArgs s_law_taken) (defBody s_law_taken) (defScope s_law_taken) .none kV20 dc20 pm20 an20 cd20 ct20), sl20⟩)
    (c20 : PySem.W.codeIn K cd20 "_law_taken" = true)
    (k20 : PySem.W.keepIn K (.ref f20) = true)
    (a21 : PySem.W.nsIn K mainGlobals "_law_alike" = some (some (.ref f21)))
    (l21 : K.lookup f21 = some ⟨oc21, od21, .func (PySem.W.fnOf "_law_alike" "_law_alike" (defArgs s_law_alike) (defBody s_law_alike) (defScope s_law_alike) .none kV21 dc21 pm21 an21 cd21 ct21), sl21⟩)
    (c21 : PySem.W.codeIn K cd21 "_law_alike" = true)
    (k21 : PySem.W.keepIn K (.ref f21) = true)
    (a22 : PySem.W.nsIn K mainGlobals "_law_machine" = some (some (.ref f22)))
    (l22 : K.lookup f22 = some ⟨oc22, od22, .func (PySem.W.fnOf "_law_machine" "_law_machine" (defArgs s_law_machine) (defBody s_law_machine) (defScope s_law_machine) .none kV22 dc22 pm22 an22 cd22 ct22), sl22⟩)
    (c22 : PySem.W.codeIn K cd22 "_law_machine" = true)
    (k22 : PySem.W.keepIn K (.ref f22) = true)
    (a23 : PySem.W.nsIn K mainGlobals "_law_behind" = some (some (.ref f23)))
    (l23 : K.lookup f23 = some ⟨oc23, od23, .func (PySem.W.fnOf "_law_behind" "_law_behind" (defArgs s_law_behind) (defBody s_law_behind) (defScope s_law_behind) .none kV23 dc23 pm23 an23 cd23 ct23), sl23⟩)
    (c23 : PySem.W.codeIn K cd23 "_law_behind" = true)
    (k23 : PySem.W.keepIn K (.ref f23) = true)
    (a24 : PySem.W.nsIn K mainGlobals "law" = some (some (.ref f24)))
    (l24 : K.lookup f24 = some ⟨oc24, od24, .func (PySem.W.fnOf "law" "law" (defArgs s_law) (defBody s_law) (defScope s_law) .none kV24 dc24 pm24 an24 (.ref lc) ct24), sl24⟩)
    (c24 : PySem.W.codeIn K (.ref lc) "law" = true)
    (lk : K.lookup lc = some ⟨.type "code", ldd, .fields lvs, lsl⟩)
    (lv : lvs[11]? = some (.ref lP))
    (lh : PySem.W.codeHdIn K lc lP = true)
    (ln : K.lookup lP = none)
    (lt : h.get? lP = some (PySem.W.tabObj #[]))
    (k24 : PySem.W.keepIn K (.ref f24) = true)
    (z_int : PySem.W.nsIn K mainGlobals "int" = some none)
    (z_len : PySem.W.nsIn K mainGlobals "len" = some none)
    (z_range : PySem.W.nsIn K mainGlobals "range" = some none)
    (z_isinstance : PySem.W.nsIn K mainGlobals "isinstance" = some none)
    (z_bool : PySem.W.nsIn K mainGlobals "bool" = some none)
    (z_tuple : PySem.W.nsIn K mainGlobals "tuple" = some none)
    (z_list : PySem.W.nsIn K mainGlobals "list" = some none)
    (z_str : PySem.W.nsIn K mainGlobals "str" = some none)
    (z_any : PySem.W.nsIn K mainGlobals "any" = some none)
    (z_sorted : PySem.W.nsIn K mainGlobals "sorted" = some none)
    (z_reversed : PySem.W.nsIn K mainGlobals "reversed" = some none)
    (z_enumerate : PySem.W.nsIn K mainGlobals "enumerate" = some none)
    (z_all : PySem.W.nsIn K mainGlobals "all" = some none)
    (z_zip : PySem.W.nsIn K mainGlobals "zip" = some none)
    (z_max : PySem.W.nsIn K mainGlobals "max" = some none)
    (z_min : PySem.W.nsIn K mainGlobals "min" = some none)
    (n_MOST_CELLS : PySem.W.nsIn K mainGlobals "MOST_CELLS" = some (some (.int 4 t_MOST_CELLS)))
    (n_MOST_FADE : PySem.W.nsIn K mainGlobals "MOST_FADE" = some (some (.int 8 t_MOST_FADE)))
    (bc_g : PySem.W.nsIn K mainGlobals "BadCell" = some (some (.ref bc)))
    (bc_k : PySem.W.keepIn K (.ref bc) = true)
    (bc_q : PySem.W.excIn K bc [.type "ValueError", .type "Exception", .type "BaseException", .type "object"] "ValueError.__new__" = true)
    (bc_ex : PySem.W.subIn K (.ref bc) (.type "BaseException") = some true)
    (bc_ty : PySem.W.typeIn K (.ref bc) = some (.type "type"))
    (bc_c : PySem.W.isClsIn K bc = true)
    (bc_s : PySem.W.subIn K (.ref bc) (.ref bc) = some true)
    (bn_g : PySem.W.nsIn K mainGlobals "BadNumber" = some (some (.ref bn)))
    (bn_k : PySem.W.keepIn K (.ref bn) = true)
    (bn_q : PySem.W.excIn K bn [.type "ValueError", .type "Exception", .type "BaseException", .type "object"] "ValueError.__new__" = true)
    (bn_ex : PySem.W.subIn K (.ref bn) (.type "BaseException") = some true)
    (bn_ty : PySem.W.typeIn K (.ref bn) = some (.type "type"))
    (bn_c : PySem.W.isClsIn K bn = true)
    (bn_s : PySem.W.subIn K (.ref bn) (.ref bn) = some true)
    (ns_bn_bc : PySem.W.subIn K (.ref bn) (.ref bc) = some false)
    : LawAtS l w K CX0 7 63 "script" mg fa h := by
  have e := hfa.symm.trans (PySem.W.mg_of X G a24)
  cases e
  have T : Txt K mg := { z_int := PySem.W.mg_none_of X G z_int, z_len := PySem.W.mg_none_of X G z_len, z_range := PySem.W.mg_none_of X G z_range, z_isinstance := PySem.W.mg_none_of X G z_isinstance, z_bool := PySem.W.mg_none_of X G z_bool, z_tuple := PySem.W.mg_none_of X G z_tuple, z_list := PySem.W.mg_none_of X G z_list, z_str := PySem.W.mg_none_of X G z_str, z_any := PySem.W.mg_none_of X G z_any, z_sorted := PySem.W.mg_none_of X G z_sorted, z_reversed := PySem.W.mg_none_of X G z_reversed, z_enumerate := PySem.W.mg_none_of X G z_enumerate, z_all := PySem.W.mg_none_of X G z_all, z_zip := PySem.W.mg_none_of X G z_zip, z_max := PySem.W.mg_none_of X G z_max, z_min := PySem.W.mg_none_of X G z_min, c_MOST_CELLS := ⟨_, PySem.W.mg_of X G n_MOST_CELLS⟩, c_MOST_FADE := ⟨_, PySem.W.mg_of X G n_MOST_FADE⟩ }
  have B_BadCell : BaseE K mg "BadCell" bc := ⟨PySem.W.mg_of X G bc_g, bc_k, bc_q, bc_ex, bc_ty, exm_own bc_ex bc_c bc_ty bc_s⟩
  have B_BadNumber : BaseE K mg "BadNumber" bn := ⟨PySem.W.mg_of X G bn_g, bn_k, bn_q, bn_ex, bn_ty, exm_own bn_ex bn_c bn_ty bn_s⟩
  have Cl_Mill : Cls K X_Mill := ⟨xp_Mill, xh_Mill, xo_Mill, xs_Mill⟩
  have T_Mill : MillT K X_Mill := { cl := Cl_Mill, n_machine := xn_Mill_machine, n_lives := xn_Mill_lives, n_contents := xn_Mill_contents, n_ticks := xn_Mill_ticks }
  have F0 := fun_mk (st := s_is_whole) l0 c0 k0
  have b0 := F0.binds (ps := ["value"]) fun _ _ _ _ _ _ us hl => match us, hl with | [_], _ => rfl
  have g0 := PySem.W.mg_of X G a0
  have F1 := fun_mk (st := s_is_integer) l1 c1 k1
  have b1 := F1.binds (ps := ["value", "low", "high"]) fun _ _ _ _ _ _ us hl => match us, hl with | [_, _, _], _ => rfl
  have g1 := PySem.W.mg_of X G a1
  have F2 := fun_mk (st := s_check_whole) l2 c2 k2
  have b2 := F2.binds (ps := ["value"]) fun _ _ _ _ _ _ us hl => match us, hl with | [_], _ => rfl
  have g2 := PySem.W.mg_of X G a2
  have F3 := fun_mk (st := s_are_fades) l3 c3 k3
  have b3 := F3.binds (ps := ["value"]) fun _ _ _ _ _ _ us hl => match us, hl with | [_], _ => rfl
  have g3 := PySem.W.mg_of X G a3
  have F4 := fun_mk (st := s_are_rows) l4 c4 k4
  have b4 := F4.binds (ps := ["value"]) fun _ _ _ _ _ _ us hl => match us, hl with | [_], _ => rfl
  have g4 := PySem.W.mg_of X G a4
  have F5 := fun_mk (st := s_check_machine) l5 c5 k5
  have b5 := F5.binds (ps := ["value"]) fun _ _ _ _ _ _ us hl => match us, hl with | [_], _ => rfl
  have g5 := PySem.W.mg_of X G a5
  have F6 := fun_mk (st := s_check_cell_of) l6 c6 k6
  have b6 := F6.binds (ps := ["cells", "value"]) fun _ _ _ _ _ _ us hl => match us, hl with | [_, _], _ => rfl
  have g6 := PySem.W.mg_of X G a6
  have F7 := fun_mk (st := s_check_cell) l7 c7 k7
  have b7 := F7.binds (ps := ["machine", "value"]) fun _ _ _ _ _ _ us hl => match us, hl with | [_, _], _ => rfl
  have g7 := PySem.W.mg_of X G a7
  have F8 := fun_mk (st := s_lives_waited) l8 c8 k8
  have b8 := F8.binds (ps := ["lives"]) fun _ _ _ _ _ _ us hl => match us, hl with | [_], _ => rfl
  have g8 := PySem.W.mg_of X G a8
  have F9 := fun_mk (st := s_lives_touched) l9 c9 k9
  have b9 := F9.binds (ps := ["machine", "lives", "cell"]) fun _ _ _ _ _ _ us hl => match us, hl with | [_, _, _], _ => rfl
  have g9 := PySem.W.mg_of X G a9
  have F10 := fun_mk (st := s_lives_set) l10 c10 k10
  have b10 := F10.binds (ps := ["machine", "lives", "cell"]) fun _ _ _ _ _ _ us hl => match us, hl with | [_, _, _], _ => rfl
  have g10 := PySem.W.mg_of X G a10
  have F11 := fun_mk (st := s_Mill___init__) l11 c11 k11
  have b11 := F11.binds (ps := ["self", "machine"]) fun _ _ _ _ _ _ us hl => match us, hl with | [_, _], _ => rfl
  have F12 := fun_mk (st := s_Mill_tick) l12 c12 k12
  have b12 := F12.binds (ps := ["self"]) fun _ _ _ _ _ _ us hl => match us, hl with | [_], _ => rfl
  have F13 := fun_mk (st := s_Mill_fresh) l13 c13 k13
  have b13 := F13.binds (ps := ["self"]) fun _ _ _ _ _ _ us hl => match us, hl with | [_], _ => rfl
  have F14 := fun_mk (st := s_Mill_held) l14 c14 k14
  have b14 := F14.binds (ps := ["self"]) fun _ _ _ _ _ _ us hl => match us, hl with | [_], _ => rfl
  have F15 := fun_mk (st := s_Mill_go_on) l15 c15 k15
  have b15 := F15.binds (ps := ["self", "lives"]) fun _ _ _ _ _ _ us hl => match us, hl with | [_, _], _ => rfl
  have F16 := fun_mk (st := s_Mill_read) l16 c16 k16
  have b16 := F16.binds (ps := ["self", "cell"]) fun _ _ _ _ _ _ us hl => match us, hl with | [_, _], _ => rfl
  have F17 := fun_mk (st := s_Mill_write) l17 c17 k17
  have b17 := F17.binds (ps := ["self", "cell", "value"]) fun _ _ _ _ _ _ us hl => match us, hl with | [_, _, _], _ => rfl
  have F18 := fun_mk (st := s_Mill_touch) l18 c18 k18
  have b18 := F18.binds (ps := ["self", "cell"]) fun _ _ _ _ _ _ us hl => match us, hl with | [_, _], _ => rfl
  have F19 := fun_mk (st := s_Mill_wait) l19 c19 k19
  have b19 := F19.binds (ps := ["self"]) fun _ _ _ _ _ _ us hl => match us, hl with | [_], _ => rfl
  have F20 := fun_mk (st := s_law_taken) l20 c20 k20
  have b20 := F20.binds (ps := ["row", "many"]) fun _ _ _ _ _ _ us hl => match us, hl with | [_, _], _ => rfl
  have g20 := PySem.W.mg_of X G a20
  have F21 := fun_mk (st := s_law_alike) l21 c21 k21
  have b21 := F21.binds (ps := ["found", "due"]) fun _ _ _ _ _ _ us hl => match us, hl with | [_, _], _ => rfl
  have g21 := PySem.W.mg_of X G a21
  have F22 := fun_mk (st := s_law_machine) l22 c22 k22
  have b22 := F22.binds (ps := ["row", "most", "fade"]) fun _ _ _ _ _ _ us hl => match us, hl with | [_, _, _], _ => rfl
  have g22 := PySem.W.mg_of X G a22
  have F23 := fun_mk (st := s_law_behind) l23 c23 k23
  have b23 := F23.binds (ps := ["machine", "lives", "word", "cell"]) fun _ _ _ _ _ _ us hl => match us, hl with | [_, _, _, _], _ => rfl
  have g23 := PySem.W.mg_of X G a23
  have F24 := fun_mk (st := s_law) l24 c24 k24
  have one : ∀ {Z : Addr × Addr → Prop}, Z (lc, lP) → ∀ p ∈ [(lc, lP)], Z p := fun z p hp => by rw [List.mem_singleton.mp hp]; exact z
  refine ⟨PySem.W.fnOf "law" "law" (defArgs s_law) (defBody s_law) (defScope s_law) .none kV24 dc24 pm24 an24 (.ref lc) ct24, [(lc, lP)], spLawM K lP, one (Z := fun p => h.get? p.2 = some { cls := .none, data := .fields #[] }) lt, one (Z := fun p => K.lookup p.2 = none) ln, one (Z := fun p => PySem.W.CodeHd h p.1 p.2) (PySem.W.codeHd_of_K X lh), fun s v => .of_eq rfl, fun H a ns _ _ hP hq => ⟨a, ns, rfl, hq, hP _ (List.mem_singleton.mpr rfl), fun _ => rfl⟩, fun base _ _ hTB => ?_⟩
  have TB := hTB _ (List.mem_singleton.mpr rfl)
  have C_is_whole : Cal l.prog w K mg base CX0 1 "is_whole" f0 _ ["value"] (spIsWhole K) := ⟨ok_is_whole F0 T, g0, k0, b0⟩
  have C_is_integer : Cal l.prog w K mg base CX0 2 "is_integer" f1 _ ["value", "low", "high"] (spIsInt K) := ⟨ok_is_integer F1 T C_is_whole, g1, k1, b1⟩
  have C_check_whole : Cal l.prog w K mg base CX0 2 "check_whole" f2 _ ["value"] (spWhole K) := ⟨ok_check_whole F2 T C_is_whole, g2, k2, b2⟩
  have C_check_wholeX : Cal l.prog w K mg base (L2.CX l.prog w) 2 "check_whole" f2 _ ["value"] (spWholeX K bn) := ⟨okX_check_whole F2 T B_BadNumber C_is_whole, g2, k2, b2⟩
  have C_are_fades : Cal l.prog w K mg base CX0 3 "are_fades" f3 _ ["value"] (spFades K) := ⟨ok_fades F3 T C_is_integer, g3, k3, b3⟩
  have C_are_rows : Cal l.prog w K mg base CX0 3 "are_rows" f4 _ ["value"] (spRows K) := ⟨ok_rows F4 T C_is_integer, g4, k4, b4⟩
  have C_check_machine : Cal l.prog w K mg base CX0 4 "check_machine" f5 _ ["value"] (spChkMa K) := ⟨ok_check_machine F5 T C_are_fades C_are_rows, g5, k5, b5⟩
  have C_check_cell_of : Cal l.prog w K mg base CX0 3 "check_cell_of" f6 _ ["cells", "value"] spChkCeOf := ⟨ok_check_cell_of F6 T C_is_integer, g6, k6, b6⟩
  have C_check_cell_ofX : Cal l.prog w K mg base (L2.CX l.prog w) 3 "check_cell_of" f6 _ ["cells", "value"] (spChkCeOfX K bc) := ⟨okX_check_cell_of F6 T B_BadCell C_is_integer, g6, k6, b6⟩
  have C_check_cell : Cal l.prog w K mg base CX0 4 "check_cell" f7 _ ["machine", "value"] (spChkCe K) := ⟨ok_check_cell F7 T C_check_cell_of, g7, k7, b7⟩
  have C_check_cellX : Cal l.prog w K mg base (L2.CX l.prog w) 4 "check_cell" f7 _ ["machine", "value"] (spChkCeX K bc) := ⟨okX_check_cell F7 T C_check_cell_ofX, g7, k7, b7⟩
  have C_lives_waited : Cal l.prog w K mg base CX0 2 "lives_waited" f8 _ ["lives"] (spWaited K) := ⟨ok_waited F8 T, g8, k8, b8⟩
  have C_lives_touched : Cal l.prog w K mg base CX0 2 "lives_touched" f9 _ ["machine", "lives", "cell"] (spTouched K) := ⟨ok_touched F9 T, g9, k9, b9⟩
  have C_lives_set : Cal l.prog w K mg base CX0 3 "lives_set" f10 _ ["machine", "lives", "cell"] (spSet K) := ⟨ok_set F10 T C_lives_touched, g10, k10, b10⟩
  have M_Mill : MkMill l.prog w K mg base X_Mill f11 _ := ⟨⟨xm_Mill, a11, i11, xk_Mill⟩, ok_minit F11 T T_Mill C_check_machine, PySem.W.mg_of X G xg_Mill, b11⟩
  have M_Mill_tick : PCal l.prog w K mg base X_Mill 1 "tick" pp12 f12 _ ["self"] (spTick K X_Mill) := ⟨ok_mtick F12 T T_Mill, ⟨a12, pg12, pt12, ⟨_, px12⟩⟩, b12⟩
  have M_Mill_fresh : PCal l.prog w K mg base X_Mill 1 "fresh" pp13 f13 _ ["self"] (spFresh K X_Mill) := ⟨ok_mfresh F13 T T_Mill, ⟨a13, pg13, pt13, ⟨_, px13⟩⟩, b13⟩
  have M_Mill_held : PCal l.prog w K mg base X_Mill 1 "held" pp14 f14 _ ["self"] (spHeld K X_Mill) := ⟨ok_mheld F14 T T_Mill, ⟨a14, pg14, pt14, ⟨_, px14⟩⟩, b14⟩
  have M_Mill_go_on : MCal l.prog w K mg base X_Mill 1 "go_on" f15 _ ["self", "lives"] (spGoOn K X_Mill) := ⟨ok_mgo F15 T T_Mill, ⟨a15, i15, k15⟩, b15⟩
  have M_Mill_read : MCal l.prog w K mg base X_Mill 5 "read" f16 _ ["self", "cell"] (spRead K X_Mill) := ⟨ok_mread F16 T T_Mill C_check_cell M_Mill_held M_Mill_go_on C_lives_touched, ⟨a16, i16, k16⟩, b16⟩
  have M_readX : MCalX l.prog w K mg base X_Mill 5 "read" f16 _ ["self", "cell"] (spReadX K X_Mill bc) := ⟨okX_mread F16 T T_Mill C_check_cellX M_Mill_held M_Mill_go_on C_lives_touched, ⟨a16, i16, k16⟩, b16⟩
  have M_Mill_write : MCal l.prog w K mg base X_Mill 5 "write" f17 _ ["self", "cell", "value"] (spWrite K X_Mill) := ⟨ok_mwrite F17 T T_Mill C_check_cell C_check_whole M_Mill_go_on C_lives_set, ⟨a17, i17, k17⟩, b17⟩
  have M_writeX : MCalX l.prog w K mg base X_Mill 5 "write" f17 _ ["self", "cell", "value"] (spWriteX K X_Mill bc) := ⟨okX_mwrite F17 T T_Mill C_check_cellX C_check_whole M_Mill_go_on C_lives_set, ⟨a17, i17, k17⟩, b17⟩
  have M_writeY : MCalX l.prog w K mg base X_Mill 5 "write" f17 _ ["self", "cell", "value"] (spWriteY K X_Mill bn) := ⟨okY_mwrite F17 T T_Mill C_check_cell C_check_wholeX M_Mill_go_on C_lives_set, ⟨a17, i17, k17⟩, b17⟩
  have M_Mill_touch : MCal l.prog w K mg base X_Mill 5 "touch" f18 _ ["self", "cell"] (spTouch K X_Mill) := ⟨ok_mtouch F18 T T_Mill C_check_cell M_Mill_go_on C_lives_touched, ⟨a18, i18, k18⟩, b18⟩
  have M_touchX : MCalX l.prog w K mg base X_Mill 5 "touch" f18 _ ["self", "cell"] (spReadX K X_Mill bc) := ⟨okX_mtouch F18 T T_Mill C_check_cellX M_Mill_go_on C_lives_touched, ⟨a18, i18, k18⟩, b18⟩
  have M_Mill_wait : MCal l.prog w K mg base X_Mill 5 "wait" f19 _ ["self"] (spWait K X_Mill) := ⟨ok_mwait F19 T T_Mill M_Mill_go_on C_lives_waited, ⟨a19, i19, k19⟩, b19⟩
  have C_law_taken : Cal l.prog w K mg base CX0 1 "_law_taken" f20 _ ["row", "many"] (spTak K) := ⟨ok_tak F20 T, g20, k20, b20⟩
  have C_law_alike : Cal l.prog w K mg base CX0 3 "_law_alike" f21 _ ["found", "due"] (spAlikeD K 2) := ⟨ok_alikeD F21 T g21 k21 b21 2, g21, k21, b21⟩
  have C_law_machine : Cal l.prog w K mg base CX0 2 "_law_machine" f22 _ ["row", "most", "fade"] (spLMa K) := ⟨ok_lmachine F22 T C_law_taken, g22, k22, b22⟩
  have C_law_behind : Cal l.prog w K mg base CX0 1 "_law_behind" f23 _ ["machine", "lives", "word", "cell"] (spLBeh K) := ⟨ok_lbehind F23 T, g23, k23, b23⟩
  have nb_bn_bc := exm_no bc_ex bc_c bc_ty ns_bn_bc
  exact ok_lawM l24 c24 TB T T_Mill C_law_taken C_law_machine C_law_alike C_law_behind M_Mill M_Mill_read M_readX M_Mill_write M_writeX M_writeY M_Mill_touch M_touchX M_Mill_wait M_Mill_tick M_Mill_fresh M_Mill_held B_BadCell B_BadNumber nb_bn_bc
theorem walk {l : PySem.W.OpenLaw} {q : Program} {loose : List Str} {XP : (Str → Option Value) → Heap → Prop} {YP : World → Heap → Prop} {d : DefRec} {K : Params → PySem.W.Frag} (hn : l.most = some 63) (hdf : d.params.defaults = [])
    (hY : ∀ (w : World) (h : Heap), YP w h → (K w.params).In h)
    (F : ∀ (w : World) (mg : Str → Option Value) (fa : Addr) (h : Heap), YP w h → (K w.params).In h → h.Ns mainGlobals mg → mg d.name = some (.ref fa) → LawAtS l w (K w.params) CX0 7 63 "script" mg fa h) :
    PySem.W.WalkO q loose XP YP l.row.toRowW d [] (fun f vs => PySem.call f vs) :=
  LamX.walk_ofTs (n := 63) (k := 7) (x := "script") (CX := fun _ => CX0) hn (by decide) hdf ⟨rfl, by decide, by decide⟩ hY F fun _ _ _ _ _ z => z
end Fm
set_option Elab.async false
set_option linter.all false
set_option maxRecDepth 100000
open PySem PySem.W PyProof.Rows in
set_option maxRecDepth 100000 in
set_option maxHeartbeats 0 in
theorem PySem.Challenge.cw_fademill_k12_whole_benches_holds : PySem.Challenge.rw_fademill_k12_whole_benches.Holds := by
  w_on; o_law; k_head; (case hw => w_witness2)
  k_fill
  refine Fm.walk (l := PySem.Challenge.rw_fademill_k12_whole_benches) rfl rfl (fun w h Y => PySem.W.km_in_of Y) ?F
  case F =>
    intro w mg fa h Y KX G hmg
    refine' Fm.all_mk KX G hmg ?xg_Mill ?xp_Mill ?xh_Mill ?xo_Mill ?xs_Mill ?xm_Mill ?xk_Mill ?xn_Mill_machine ?xn_Mill_lives ?xn_Mill_contents ?xn_Mill_ticks ?a0 ?l0 ?c0 ?k0 ?a1 ?l1 ?c1 ?k1 ?a2 ?l2 ?c2 ?k2 ?a3 ?l3 ?c3 ?k3 ?a4 ?l4 ?c4 ?k4 ?a5 ?l5 ?c5 ?k5 ?a6 ?l6 ?c6 ?k6 ?a7 ?l7 ?c7 ?k7 ?a8 ?l8 ?c8 ?k8 ?a9 ?l9 ?c9 ?k9 ?a10 ?l10 ?c10 ?k10 ?a11 ?i11 ?l11 ?c11 ?k11 ?a12 ?pg12 ?pt12 ?px12 ?l12 ?c12 ?k12 ?a13 ?pg13 ?pt13 ?px13 ?l13 ?c13 ?k13 ?a14 ?pg14 ?pt14 ?px14 ?l14 ?c14 ?k14 ?a15 ?i15 ?l15 ?c15 ?k15 ?a16 ?i16 ?l16 ?c16 ?k16 ?a17 ?i17 ?l17 ?c17 ?k17 ?a18 ?i18 ?l18 ?c18 ?k18 ?a19 ?i19 ?l19 ?c19 ?k19 ?a20 ?l20 ?c20 ?k20 ?a21 ?l21 ?c21 ?k21 ?a22 ?l22 ?c22 ?k22 ?a23 ?l23 ?c23 ?k23 ?a24 ?l24 ?c24 ?lk ?lv ?lh ?ln ?lt ?k24 ?z_int ?z_len ?z_range ?z_isinstance ?z_bool ?z_tuple ?z_list ?z_str ?z_any ?z_sorted ?z_reversed ?z_enumerate ?z_all ?z_zip ?z_max ?z_min ?n_MOST_CELLS ?n_MOST_FADE ?bc_g ?bc_k ?bc_q ?bc_ex ?bc_ty ?bc_c ?bc_s ?bn_g ?bn_k ?bn_q ?bn_ex ?bn_ty ?bn_c ?bn_s ?ns_bn_bc
    (case xg_Mill => k_is)
    (case xp_Mill => k_is)
    (case xh_Mill => k_is)
    (case xo_Mill => k_is)
    (case xs_Mill => k_is)
    (case xm_Mill => k_is)
    (case xk_Mill => k_is)
    (case xn_Mill_machine => k_is)
    (case xn_Mill_lives => k_is)
    (case xn_Mill_contents => k_is)
    (case xn_Mill_ticks => k_is)
    (case a0 => k_is)
    (case l0 => k_is)
    (case c0 => k_is)
    (case k0 => k_is)
    (case a1 => k_is)
    (case l1 => k_is)
    (case c1 => k_is)
    (case k1 => k_is)
    (case a2 => k_is)
    (case l2 => k_is)
    (case c2 => k_is)
    (case k2 => k_is)
    (case a3 => k_is)
    (case l3 => k_is)
    (case c3 => k_is)
    (case k3 => k_is)
    (case a4 => k_is)
    (case l4 => k_is)
    (case c4 => k_is)
    (case k4 => k_is)
    (case a5 => k_is)
    (case l5 => k_is)
    (case c5 => k_is)
    (case k5 => k_is)
    (case a6 => k_is)
    (case l6 => k_is)
    (case c6 => k_is)
    (case k6 => k_is)
    (case a7 => k_is)
    (case l7 => k_is)
    (case c7 => k_is)
    (case k7 => k_is)
    (case a8 => k_is)
    (case l8 => k_is)
    (case c8 => k_is)
    (case k8 => k_is)
    (case a9 => k_is)
    (case l9 => k_is)
    (case c9 => k_is)
    (case k9 => k_is)
    (case a10 => k_is)
    (case l10 => k_is)
    (case c10 => k_is)
    (case k10 => k_is)
    (case a11 => k_is)
    (case i11 => k_is)
    (case l11 => k_is)
    (case c11 => k_is)
    (case k11 => k_is)
    (case a12 => k_is)
    (case pg12 => k_is)
    (case pt12 => k_is)
    (case px12 => k_is)
    (case l12 => k_is)
    (case c12 => k_is)
    (case k12 => k_is)
    (case a13 => k_is)
    (case pg13 => k_is)
    (case pt13 => k_is)
    (case px13 => k_is)
    (case l13 => k_is)
    (case c13 => k_is)
    (case k13 => k_is)
    (case a14 => k_is)
    (case pg14 => k_is)
    (case pt14 => k_is)
    (case px14 => k_is)
    (case l14 => k_is)
    (case c14 => k_is)
    (case k14 => k_is)
    (case a15 => k_is)
    (case i15 => k_is)
    (case l15 => k_is)
    (case c15 => k_is)
    (case k15 => k_is)
    (case a16 => k_is)
    (case i16 => k_is)
    (case l16 => k_is)
    (case c16 => k_is)
    (case k16 => k_is)
    (case a17 => k_is)
    (case i17 => k_is)
    (case l17 => k_is)
    (case c17 => k_is)
    (case k17 => k_is)
    (case a18 => k_is)
    (case i18 => k_is)
    (case l18 => k_is)
    (case c18 => k_is)
    (case k18 => k_is)
    (case a19 => k_is)
    (case i19 => k_is)
    (case l19 => k_is)
    (case c19 => k_is)
    (case k19 => k_is)
    (case a20 => k_is)
    (case l20 => k_is)
    (case c20 => k_is)
    (case k20 => k_is)
    (case a21 => k_is)
    (case l21 => k_is)
    (case c21 => k_is)
    (case k21 => k_is)
    (case a22 => k_is)
    (case l22 => k_is)
    (case c22 => k_is)
    (case k22 => k_is)
    (case a23 => k_is)
    (case l23 => k_is)
    (case c23 => k_is)
    (case k23 => k_is)
    (case a24 => k_is)
    (case l24 => k_is)
    (case c24 => k_is)
    (case lk => k_is)
    (case lv => rfl)
    (case lh => kernel_rfl)
    (case ln => kernel_rfl)
    (case lt => exact PySem.W.km_tabs_of Y _ (by k_mem))
    (case k24 => k_is)
    (case z_int => k_is)
    (case z_len => k_is)
    (case z_range => k_is)
    (case z_isinstance => k_is)
    (case z_bool => k_is)
    (case z_tuple => k_is)
    (case z_list => k_is)
    (case z_str => k_is)
    (case z_any => k_is)
    (case z_sorted => k_is)
    (case z_reversed => k_is)
    (case z_enumerate => k_is)
    (case z_all => k_is)
    (case z_zip => k_is)
    (case z_max => k_is)
    (case z_min => k_is)
    (case n_MOST_CELLS => k_is)
    (case n_MOST_FADE => k_is)
    (case bc_g => k_is)
    (case bc_k => k_is)
    (case bc_q => k_exc)
    (case bc_ex => k_is)
    (case bc_ty => k_is)
    (case bc_c => k_is)
    (case bc_s => first | rfl | k_is)
    (case bn_g => k_is)
    (case bn_k => k_is)
    (case bn_q => k_exc)
    (case bn_ex => k_is)
    (case bn_ty => k_is)
    (case bn_c => k_is)
    (case bn_s => first | rfl | k_is)
    (case ns_bn_bc => k_is)
#print axioms PySem.Challenge.cw_fademill_k12_whole_benches_holds
