import PyProof.Rows.All
import Wide.All
import OpenK.AllK
import Wide.FinOn
import HandS.ForMost
import HandS.ForExc
import HandS.Steps
import HandS.IsInst
import HandS.TupMul
import HandS.RevRange
import HandS.DictComp
import HandS.FStr
import HandS.SortInts
import HandS.More
import HandS.Conv
import HandS.ListEq
import HandS.Evl
import PySem.Challenge.RW_fademill_k01_whole_runs
import KE.GoesEnum
import HandS.Iter
import HandS.Walk
import HandS.Zip
import HandS.Style
import HandS.Deep
import HandS.TupAny
import KE.KExcSuper
import PyProof.FString2
import HandS.RaiseMore
set_option Elab.async false
set_option linter.all false
set_option maxRecDepth 100000
set_option maxHeartbeats 1000000
namespace Fm
open PySem L2
/-! own lemmas over the layer -/
theorem st_if {c : TT} {t1 t2 : TS} {D : Ends} {σ : L2.St} {H : Hp} {b : Bool} (h : Ans c σ H b) (y : b = true → t1 D σ H) (n : b = false → t2 D σ H) : tIfS c t1 t2 D σ H := by
  cases b with
  | true => exact st_yes h (y rfl)
  | false => exact st_no h (n rfl)
/-- an item of a list, a tuple, a text, none of which changes -/
theorem val_ixL {K : PySem.W.Frag} {ta tb : TE} {σ : L2.St} {H : Hp} {p : Addr} {xs : List V} {i : Int} {v : V} (ha : Val ta σ H (.ref p)) (hb : Val tb σ H (.int i)) (h : SqL K H p xs) (e : atI xs i = some v) : Val (tOp (rIx K) ta tb) σ H v :=
  val_op ha hb fun _ q => .inl ⟨p, xs, i, v, rfl, rfl, h, e, q⟩
theorem val_ixT {K : PySem.W.Frag} {ta tb : TE} {σ : L2.St} {H : Hp} {p : Addr} {xs : List V} {i : Int} {v : V} (ha : Val ta σ H (.ref p)) (hb : Val tb σ H (.int i)) (h : SqT K H p xs) (e : atI xs i = some v) : Val (tOp (rIx K) ta tb) σ H v :=
  val_op ha hb fun _ q => .inr (.inl ⟨p, xs, i, v, rfl, rfl, h, e, q⟩)
theorem val_i0 {g : Int → Int → V} {ta tb : TE} {σ : L2.St} {H : Hp} {i j : Int} (ha : Val ta σ H (.int i)) (hb : Val tb σ H (.int j)) : Val (tOp (rI0 g) ta tb) σ H (g i j) := val_op ha hb fun _ q => ⟨i, j, rfl, rfl, q⟩
theorem val_i {C : Int → Int → Prop} {g : Int → Int → V} {ta tb : TE} {σ : L2.St} {H : Hp} {i j : Int} (ha : Val ta σ H (.int i)) (hb : Val tb σ H (.int j)) (c : C i j) : Val (tOp (rI C g) ta tb) σ H (g i j) := val_op ha hb fun _ q => ⟨i, j, rfl, rfl, c, q⟩
theorem ans_i0 {g : Int → Int → Bool} {ta tb : TE} {σ : L2.St} {H : Hp} {i j : Int} (ha : Val ta σ H (.int i)) (hb : Val tb σ H (.int j)) : Ans (tTest (tOp (rI0 fun i j => .bl (g i j)) ta tb)) σ H (g i j) := fun _ q => ha _ (hb _ ⟨i, j, rfl, rfl, _, rfl, q⟩)
theorem st_asg {te : TE} {i : Nat} {v : V} {t2 : TS} {D : Ends} {σ : L2.St} {H : Hp} (h : Val te σ H v) (q : t2 D (σ.set i (some v)) H) : tSeq (tAsg te (gName i)) t2 D σ H := h _ q
theorem st_setL {te to ti : TE} {t2 : TS} {D : Ends} {σ : L2.St} {H : Hp} {v : V} {l : Addr} {xs : List V} {k : Int} {j : Nat} (h : Val te σ H v) (ho : Val to σ H (.ref l)) (hi : Val ti σ H (.int k)) (hl : H l = some (.lst xs)) (hj : ixN xs.length k = some j)
    (q : t2 D σ (upd H l (.lst (xs.set j v)))) : tSeq (tAsg te (gSub to ti rSetL)) t2 D σ H := h _ (ho _ (hi _ ⟨l, xs, k, j, rfl, rfl, hl, hj, q⟩))
theorem st_setL1 {te to ti : TE} {D : Ends} {σ : L2.St} {H : Hp} {v : V} {l : Addr} {xs : List V} {k : Int} {j : Nat} (h : Val te σ H v) (ho : Val to σ H (.ref l)) (hi : Val ti σ H (.int k)) (hl : H l = some (.lst xs)) (hj : ixN xs.length k = some j)
    (q : D.nx σ (upd H l (.lst (xs.set j v)))) : tAsg te (gSub to ti rSetL) D σ H := h _ (ho _ (hi _ ⟨l, xs, k, j, rfl, rfl, hl, hj, q⟩))
theorem val_int1 {ta : TE} {σ : L2.St} {H : Hp} {i : Int} (ha : Val ta σ H (.int i)) : Val (tCB (fun xs H Q => (∃ i, xs = [.int i] ∧ Q (.int i) H) ∨ ∃ k, xs = [.bl k] ∧ Q (.int (if k then 1 else 0)) H) (tCons ta tNil)) σ H (.int i) := fun _ q => ha _ (.inl ⟨i, rfl, q⟩)
theorem val_lenX {K : PySem.W.Frag} {ta : TE} {σ : L2.St} {H : Hp} {x : V} {n : Nat} (ha : Val ta σ H x) (h : LenV K x H n) : Val (tCB (fun xs H Q => ∃ x n, xs = [x] ∧ LenV K x H n ∧ Q (.int n) H) (tCons ta tNil)) σ H (.int n) := fun _ q => ha _ ⟨x, n, rfl, h, q⟩
theorem val_lenS {K : PySem.W.Frag} {ta : TE} {σ : L2.St} {H : Hp} {p : Addr} {xs : List V} (ha : Val ta σ H (.ref p)) (h : SqL K H p xs ∨ SqT K H p xs) : Val (tCB (fun xs H Q => ∃ p ys, xs = [.ref p] ∧ (SqL K H p ys ∨ SqT K H p ys) ∧ Q (.int ys.length) H) (tCons ta tNil)) σ H (.int xs.length) := fun _ q => ha _ ⟨p, xs, rfl, h, q⟩
end Fm
namespace Fm
open PySem L2
/-! the rules, the written part told by name (a comprehension's block has another context, the same written part) -/
section
variable {X : Cx} {K : PySem.W.Frag}
theorem ix_K (h : X.K = K) : IxR X (rIx K) := h ▸ ix_seq
theorem len_K (h : X.K = K) : CallR X (.builtin "len") (fun xs H Q => ∃ x n, xs = [x] ∧ LenV K x H n ∧ Q (.int n) H) := h ▸ call_len
theorem isi_K (h : X.K = K) : CallR X (.builtin "isinstance") (rIsi K) := h ▸ call_isi
theorem isiT_K (h : X.K = K) : CallR X (.builtin "isinstance") (rIsiT K) := h ▸ call_isiT
theorem tpl_K (h : X.K = K) : CallR X (.type "tuple") (fun xs H Q => ∃ p ys, xs = [.ref p] ∧ ((SqL K H p ys ∧ ∀ l, H l = none → Q (.ref l) (upd H l (.tup ys))) ∨ (SqT K H p ys ∧ Q (.ref p) H))) := h ▸ call_tuple_of
theorem ls_K (h : X.K = K) : CallR X (.type "list") (fun xs H Q => ∃ p ys, xs = [.ref p] ∧ (SqL K H p ys ∨ SqT K H p ys) ∧ ∀ l, H l = none → Q (.ref l) (upd H l (.lst ys))) := h ▸ call_list_of
theorem any_K (h : X.K = K) (hc : X.calm = true) : CallR X (.builtin "any") (rAny K) := h ▸ cr_any hc
theorem all_K (h : X.K = K) (hc : X.calm = true) : CallR X (.builtin "all") (rAll K) := h ▸ cr_all hc
theorem in_K (h : X.K = K) : OpR X (compareOp .In) (rIn K false) := h ▸ op_in_seq
theorem nin_K (h : X.K = K) : OpR X (compareOp .NotIn) (rIn K true) := h ▸ op_notIn_seq
theorem eqD_K (h : X.K = K) (hu : X.A.units + 64 < cLine) : OpR X (compareOp .Eq) (rEqD K) := h ▸ op_eqD hu
theorem neD_K (h : X.K = K) (hu : X.A.units + 64 < cLine) : OpR X (compareOp .NotEq) (rNeD K) := h ▸ op_neD hu
theorem sorted_K (h : X.K = K) : CallR X (.builtin "sorted") (rSortedI K) := h ▸ cr_sortedI
theorem max_K (h : X.K = K) (hc : X.calm = true) : CallR X (.builtin "max") (rMax K) := h ▸ (cr_max hc)
theorem min_K (h : X.K = K) (hc : X.calm = true) : CallR X (.builtin "min") (rMin K) := h ▸ (cr_min hc)
theorem sum_K (h : X.K = K) (hc : X.calm = true) : CallR X (.builtin "sum") (rSum K) := h ▸ (cr_sum hc)
theorem sll_K (h : X.K = K) : SlR X (rSlL K) := h ▸ sl_list
theorem slt_K (h : X.K = K) : SlR X (rSlT K) := h ▸ sl_tup
theorem catT_K (h : X.K = K) : OpR X (binaryOp .Add) (rCatT K) := h ▸ op_catT
theorem repT_K (h : X.K = K) : OpR X (binaryOp .Mult) (rRepT K) := h ▸ op_repT
theorem pi_listK {tg l : Expr} {tl : TE} (h : X.K = K) (hl : PE X l tl) : PI X tg l (iList K tl) := h ▸ pi_list hl
theorem pi_tupK {tg l : Expr} {tl : TE} (h : X.K = K) (hl : PE X l tl) : PI X tg l (iTup K tl) := h ▸ pi_tup hl
theorem pt_truthK {a : Expr} {ta : TE} (h : X.K = K) (ha : PE X a ta) (he : ∀ whole, isTrue a X.env whole = (do let v ← whole; standAt a.pos; holding [v] (truthy v))) : PT X a (fun σ H Q => ta σ H fun x H' => ∃ k, TruV K x H' k ∧ Q k H') := h ▸ pt_truth ha he
end
end Fm
set_option Elab.async false
set_option linter.all false
set_option maxRecDepth 100000
set_option maxHeartbeats 1000000
namespace Fm
open PySem L2 Evl
/-! ### instructions, programs -/
inductive In where
  | get (c : Nat) | plus (c : Nat) | minus (c : Nat) | set (c : Nat) | put (k : Int) | say | ask | zero (t : Nat) | go (t : Nat) | stop | touch (c : Nat)
  deriving DecidableEq
def In.w : In → Str
  | .get _ => "get" | .plus _ => "plus" | .minus _ => "minus" | .set _ => "set" | .put _ => "put" | .say => "say" | .ask => "ask" | .zero _ => "zero" | .go _ => "go" | .stop => "stop" | .touch _ => "touch"
def In.arg : In → Option Int
  | .get c => some c | .plus c => some c | .minus c => some c | .set c => some c | .put k => some k | .say => none | .ask => none | .zero t => some t | .go t => some t | .stop => none | .touch c => some c
def In.vs (i : In) : List V := match i.arg with
  | none => [.str i.w]
  | some k => [.str i.w, .int k]
def In.ok (cells len : Nat) : In → Prop
  | .get c => c < cells | .plus c => c < cells | .minus c => c < cells | .set c => c < cells | .put k => -1000000 ≤ k ∧ k ≤ 1000000 | .say => True | .ask => True | .zero t => t ≤ len | .go t => t ≤ len | .stop => True | .touch c => c < cells
def In.isTouch : In → Bool
  | .touch _ => true
  | _ => false
def InAt (K : PySem.W.Frag) (H : Hp) (v : V) (i : In) : Prop := ∃ b, v = .ref b ∧ SqT K H b i.vs
def PgT (K : PySem.W.Frag) (H : Hp) (a : Addr) (p : List In) : Prop := ∃ xs, SqT K H a xs ∧ Paired (InAt K H) xs p
theorem InAt.up {K : PySem.W.Frag} {H H' : Hp} {v : V} {i : In} (e : Ex H H') (h : InAt K H v i) : InAt K H' v i := let ⟨b, h1, h2⟩ := h; ⟨b, h1, ex_t e h2⟩
theorem PgT.up {K : PySem.W.Frag} {H H' : Hp} {a : Addr} {p : List In} (e : Ex H H') (h : PgT K H a p) : PgT K H' a p := let ⟨xs, h1, h2⟩ := h; ⟨xs, ex_t e h1, Paired.mapP h2 fun _ _ z => z.up e⟩
theorem paired_get {α β : Type} {R : α → β → Prop} : ∀ {xs : List α} {ys : List β} {i : Nat} {y : β}, Paired R xs ys → ys[i]? = some y → ∃ x, xs[i]? = some x ∧ R x y
  | _, _, _, _, .nil, e => by simp at e
  | _, _, 0, _, .cons r _, e => by simp at e; subst e; exact ⟨_, rfl, r⟩
  | _, _, i + 1, y, .cons _ t, e => by
    obtain ⟨u, h1, h2⟩ := paired_get (i := i) (y := y) t (by simpa using e)
    exact ⟨u, by simpa using h1, h2⟩
theorem paired_append {α β : Type} {R : α → β → Prop} : ∀ {xs xs' : List α} {ys ys' : List β}, Paired R xs ys → Paired R xs' ys' → Paired R (xs ++ xs') (ys ++ ys')
  | _, _, _, _, .nil, s => s
  | _, _, _, _, .cons r t, s => .cons r (paired_append t s)
theorem atI_nat' {α : Type} {xs : List α} {i : Nat} {v : α} (h : xs[i]? = some v) : atI xs (i : Int) = some v := by
  have hi : i < xs.length := (List.getElem?_eq_some_iff.mp h).1
  unfold atI
  rw [ixN_nat hi]
  exact h
theorem vs_0 (i : In) : atI i.vs 0 = some (.str i.w) := by
  unfold In.vs
  cases i <;> rfl
theorem vs_1 {i : In} {k : Int} (h : i.arg = some k) : atI i.vs 1 = some (.int k) := by
  unfold In.vs
  rw [h]
  rfl
section
variable {K : PySem.W.Frag} {σ : L2.St} {H : Hp} {ta tb te : TE} {a b : Addr} {p : List In} {x : In} {n : Nat}
theorem ev_ixT {xs : List V} {i : Int} {v : V} (ha : Ev ta σ H (.ref a)) (hb : Ev tb σ H (.int i)) (h : SqT K H a xs) (e : atI xs i = some v) : Ev (tOp (rIx K) ta tb) σ H v :=
  ev_op ha hb fun H1 e1 _ q => .inr (.inl ⟨a, xs, i, v, rfl, rfl, ex_t e1 h, e, q H1 (Ex.refl H1)⟩)
theorem ev_ixL {xs : List V} {i : Int} {v : V} (ha : Ev ta σ H (.ref a)) (hb : Ev tb σ H (.int i)) (h : SqL K H a xs) (e : atI xs i = some v) : Ev (tOp (rIx K) ta tb) σ H v :=
  ev_op ha hb fun H1 e1 _ q => .inl ⟨a, xs, i, v, rfl, rfl, ex_l e1 h, e, q H1 (Ex.refl H1)⟩
theorem PgT.len (h : PgT K H a p) : ∃ xs, SqT K H a xs ∧ xs.length = p.length := let ⟨xs, h1, h2⟩ := h; ⟨xs, h1, Paired.length h2⟩
theorem PgT.at_ (h : PgT K H a p) (e : p[n]? = some x) : ∃ b, ∃ xs, SqT K H a xs ∧ atI xs (n : Int) = some (.ref b) ∧ SqT K H b x.vs := by
  obtain ⟨xs, h1, h2⟩ := h
  obtain ⟨v, hv, b, rfl, hb⟩ := paired_get h2 e
  exact ⟨b, xs, h1, atI_nat' hv, hb⟩
theorem ev_pg (h : PgT K H a p) (e : p[n]? = some x) (ha : Ev ta σ H (.ref a)) (hb : Ev tb σ H (.int (n : Int))) : ∃ b, Ev (tOp (rIx K) ta tb) σ H (.ref b) ∧ SqT K H b x.vs := by
  obtain ⟨b, xs, h1, h2, h3⟩ := h.at_ e
  exact ⟨b, ev_ixT ha hb h1 h2, h3⟩
/-- program[n][0] -/
theorem ev_pg0 (h : PgT K H a p) (e : p[n]? = some x) (ha : Ev ta σ H (.ref a)) (hb : Ev tb σ H (.int (n : Int))) : Ev (tOp (rIx K) (tOp (rIx K) ta tb) (tC (.int 0))) σ H (.str x.w) := by
  obtain ⟨b, h1, h2⟩ := ev_pg h e ha hb
  exact ev_ixT h1 ev_c h2 (vs_0 x)
theorem ev_pg1 {k : Int} (h : PgT K H a p) (e : p[n]? = some x) (hk : x.arg = some k) (ha : Ev ta σ H (.ref a)) (hb : Ev tb σ H (.int (n : Int))) : Ev (tOp (rIx K) (tOp (rIx K) ta tb) (tC (.int 1))) σ H (.int k) := by
  obtain ⟨b, h1, h2⟩ := ev_pg h e ha hb
  exact ev_ixT h1 ev_c h2 (vs_1 hk)
abbrev rLn (K : PySem.W.Frag) : List V → Hp → VK → Prop := fun xs H Q => ∃ x n, xs = [x] ∧ LenV K x H n ∧ Q (.int n) H
theorem ev_lnT {xs : List V} (ha : Ev ta σ H (.ref a)) (h : SqT K H a xs) : Ev (tCB (rLn K) (tCons ta tNil)) σ H (.int (xs.length : Int)) := fun H1 e Q q =>
  ha H1 e _ fun H2 e2 => ⟨_, _, rfl, .inr ⟨xs, ex_t (e.trans e2) h, rfl⟩, q H2 e2⟩
theorem ev_lnL {xs : List V} (ha : Ev ta σ H (.ref a)) (h : SqL K H a xs) : Ev (tCB (rLn K) (tCons ta tNil)) σ H (.int (xs.length : Int)) := fun H1 e Q q =>
  ha H1 e _ fun H2 e2 => ⟨_, _, rfl, .inl ⟨xs, ex_l (e.trans e2) h, rfl⟩, q H2 e2⟩
theorem ev_lnP (h : PgT K H a p) (ha : Ev ta σ H (.ref a)) : Ev (tCB (rLn K) (tCons ta tNil)) σ H (.int (p.length : Int)) := by
  obtain ⟨xs, h1, h2⟩ := h.len
  have := ev_lnT ha h1
  rw [h2] at this
  exact this
theorem ev_i0 {g : Int → Int → V} {i j : Int} (ha : Ev ta σ H (.int i)) (hb : Ev tb σ H (.int j)) : Ev (tOp (rI0 g) ta tb) σ H (g i j) := ev_op ha hb rv_I0
theorem et_i0 {g : Int → Int → Bool} {i j : Int} (ha : Ev ta σ H (.int i)) (hb : Ev tb σ H (.int j)) : EvT (tTest (tOp (rI0 fun i j => .bl (g i j)) ta tb)) σ H (g i j) := et_test (ev_i0 ha hb)
theorem et_eq {x y : V} (ha : Ev ta σ H x) (hb : Ev tb σ H y) (h : scal x y = true) : EvT (tTest (tOp rEq ta tb)) σ H (decide (x = y)) := et_test (ev_op ha hb (rv_eq h))
theorem et_ne {x y : V} (ha : Ev ta σ H x) (hb : Ev tb σ H y) (h : scal x y = true) : EvT (tTest (tOp rNe ta tb)) σ H (!decide (x = y)) := et_test (ev_op ha hb (rv_ne h))
theorem et_inT {xs : List V} {x : V} (ha : Ev ta σ H x) (hb : EvU tb σ H xs) (hx : flatV x = true) (hf : xs.all flatV = true) : EvT (tTest (tOp (rIn K false) ta tb)) σ H (inV x xs) := et_test (ev_inU ha hb hx hf)
theorem et_inL {xs : List V} {x : V} (ha : Ev ta σ H x) (hb : EvL tb σ H xs) (hx : flatV x = true) (hf : xs.all flatV = true) : EvT (tTest (tOp (rIn K false) ta tb)) σ H (inV x xs) := et_test (ev_opL ha hb fun _ _ h _ => rv_isL (sq_of h) hx hf)
theorem et_inK {xs : List V} {x : V} (ha : Ev ta σ H x) (hb : Ev tb σ H (.ref a)) (h : SqT K H a xs) (hx : flatV x = true) (hf : xs.all flatV = true) : EvT (tTest (tOp (rIn K false) ta tb)) σ H (inV x xs) := et_test (ev_op ha hb (rv_isT h hx hf))
theorem ev_inK {xs : List V} {x : V} (ha : Ev ta σ H x) (hb : Ev tb σ H (.ref a)) (h : SqT K H a xs) (hx : flatV x = true) (hf : xs.all flatV = true) : Ev (tOp (rIn K false) ta tb) σ H (.bl (inV x xs)) := ev_op ha hb (rv_isT h hx hf)
end
/-! ### where a program stands -/
def gstep (p : List In) (j : Nat) : Nat := match p[j]? with
  | some (.go t) => t
  | _ => j
def gn (p : List In) (i : Nat) : Nat → Nat
  | 0 => i
  | k + 1 => gstep p (gn p i k)
def In.isGo : In → Bool
  | .go _ => true
  | _ => false
def In.isEnd : In → Bool
  | .go _ => true | .stop => true
  | _ => false
def ends (p : List In) (j : Nat) : Bool := match p[j]? with
  | none => true
  | some x => x.isEnd
/-- where it stands, its length for the end -/
def stE (p : List In) (i : Nat) : Nat := if ends p (gn p i (p.length + 1)) then p.length else gn p i (p.length + 1)
def toI (p : List In) (e : Nat) : Int := if e = p.length then -1 else (e : Int)
def Pok (cells : Nat) (p : List In) : Prop := 0 < p.length ∧ ∀ i ∈ p, i.ok cells p.length
/-- no touch in it -/
def NoT (p : List In) : Prop := ∀ i ∈ p, i.isTouch = false
theorem gstep_le {cells : Nat} {p : List In} (h : Pok cells p) {j : Nat} (hj : j ≤ p.length) : gstep p j ≤ p.length := by
  unfold gstep
  split
  · rename_i t e
    have := h.2 _ (List.mem_of_getElem? e)
    exact this
  · exact hj
theorem gn_le {cells : Nat} {p : List In} (h : Pok cells p) {i : Nat} (hi : i ≤ p.length) : ∀ k, gn p i k ≤ p.length
  | 0 => hi
  | k + 1 => gstep_le h (gn_le h hi k)
theorem w_go (i : In) : decide (V.str i.w = V.str "go") = i.isGo := by cases i <;> kernel_rfl
def In.isStop : In → Bool
  | .stop => true
  | _ => false
theorem w_stop (i : In) : decide (V.str i.w = V.str "stop") = i.isStop := by cases i <;> kernel_rfl
theorem w_sg (i : In) : inV (V.str i.w) [.str "stop", .str "go"] = i.isEnd := by cases i <;> kernel_rfl
def nV (l : List Nat) : List V := l.map fun x => V.int (x : Nat)
theorem nV_get {l : List Nat} {i : Nat} {x : V} (h : (nV l)[i]? = some x) : ∃ y, l[i]? = some y ∧ x = V.int (y : Nat) := by
  unfold nV at h
  rw [List.getElem?_map] at h
  cases hh : l[i]? with
  | none => rw [hh] at h; cases h
  | some z => rw [hh] at h; exact ⟨z, rfl, (Option.some.inj h).symm⟩
theorem nV_len (l : List Nat) : (nV l).length = l.length := List.length_map _
theorem inV_nV {y : Nat} : ∀ {F : List Nat}, inV (.int (y : Nat)) (nV F) = decide (y ∈ F)
  | [] => rfl
  | x :: F => by
    have ih := inV_nV (y := y) (F := F)
    show (((x : Int) == (y : Int)) || inV (.int (y : Nat)) (nV F)) = decide (y ∈ x :: F)
    rw [ih, Bool.eq_iff_iff]
    simp only [Bool.or_eq_true, decide_eq_true_eq, List.mem_cons, beq_iff_eq]
    constructor
    · rintro (h | h)
      · exact .inl (by omega)
      · exact .inr h
    · rintro (h | h)
      · exact .inl (by omega)
      · exact .inr h
theorem nV_flat (F : List Nat) : (nV F).all flatV = true := by
  rw [List.all_eq_true]
  intro x hx
  obtain ⟨y, _, rfl⟩ := List.mem_map.mp hx
  rfl
end Fm
set_option Elab.async false
set_option linter.all false
set_option maxRecDepth 100000
namespace Fm
open PySem L2
def top (i : Nat) : Stmt := PySem.Challenge.pw_fademill_k01_whole_runs.main.body.getD i (.Pass ⟨0, 0, 0, 0⟩)
structure Txt (K : PySem.W.Frag) (mg : Str → Option Value) : Prop where
  z_int : mg "int" = none
  z_len : mg "len" = none
  z_range : mg "range" = none
  z_isinstance : mg "isinstance" = none
  z_bool : mg "bool" = none
  z_tuple : mg "tuple" = none
  z_list : mg "list" = none
  z_str : mg "str" = none
  z_any : mg "any" = none
  z_sorted : mg "sorted" = none
  z_reversed : mg "reversed" = none
  z_enumerate : mg "enumerate" = none
  z_all : mg "all" = none
  z_zip : mg "zip" = none
  z_max : mg "max" = none
  z_min : mg "min" = none
  c_MOST_CELLS : ∃ t, mg "MOST_CELLS" = some (.int 4 t)
  c_MOST_INSTRUCTIONS : ∃ t, mg "MOST_INSTRUCTIONS" = some (.int 20 t)
  c_MILLION : ∃ t, mg "MILLION" = some (.int 1000000 t)
  c_MOST_FADE : ∃ t, mg "MOST_FADE" = some (.int 8 t)
  c_MOST_KEPT : ∃ t, mg "MOST_KEPT" = some (.int 4000 t)
  c_MOST_INPUTS : ∃ t, mg "MOST_INPUTS" = some (.int 50 t)
  c_MOST_TICKS : ∃ t, mg "MOST_TICKS" = some (.int 20000 t)
end Fm
set_option Elab.async false
set_option linter.all false
set_option maxRecDepth 100000
set_option maxHeartbeats 1000000
namespace Fm
open PySem L2 Evl
/-- a def that may be called by its name -/
structure Cal (P : Program) (w : World) (K : PySem.W.Frag) (mg : Str → Option Value) (base : Heap) (CX : CXT) (k : Nat) (x : Str) (f : Addr) (fd : FuncData) (ps : List Str) (sp : Sp) : Prop where
  G : FnOk P w K mg base CX k f fd ps sp
  g : mg x = some (.ref f)
  kp : PySem.W.keepIn K (.ref f) = true
  b : Binds K fd ps []
theorem tyx_up {K : PySem.W.Frag} {H H' : Hp} {x : V} {t : Value} (e : Ex H H') (h : TyX K H x t) : TyX K H' x t := by
  cases h with
  | base h =>
    refine .base ?_
    cases h with
    | non => exact .non
    | bl b => exact .bl b
    | int i => exact .int i
    | str s => exact .str s
    | flt s => exact .flt s
    | lst a => exact .lst (e _ _ a)
    | frz a => exact .frz (e _ _ a)
    | tup a => exact .tup (e _ _ a)
    | dK a => exact .dK (e _ _ a)
    | dT a => exact .dT (e _ _ a)
    | ins a b c d f g => exact .ins (e _ _ a) b c d f g
  | byt b => exact .byt b
  | set a => exact .set (e _ _ a)
  | kList a b => exact .kList a b
  | kTuple a b => exact .kTuple a b
  | kDict a b => exact .kDict a b
  | fTuple a => exact .fTuple (e _ _ a)
  | fDict a => exact .fDict (e _ _ a)
theorem ty_tup {K : PySem.W.Frag} {H : Hp} {a : Addr} {xs : List V} (h : SqT K H a xs) : TyX K H (.ref a) (.type "tuple") := by
  rcases h with (h | ⟨o, h⟩) | ⟨o, _, _, h, c, _⟩
  · exact .base (.tup h)
  · exact .fTuple h
  · exact .kTuple h c
theorem ty_lst {K : PySem.W.Frag} {H : Hp} {a : Addr} {xs : List V} (h : SqL K H a xs) : TyX K H (.ref a) (.type "list") := by
  rcases h with (h | ⟨o, h⟩) | ⟨o, _, _, h, c, _⟩
  · exact .base (.lst h)
  · exact .base (.frz h)
  · exact .kList h c
/-- an int, or what is none -/
def IntV (K : PySem.W.Frag) (H : Hp) (x : V) : Option Int → Prop
  | some n => x = .int n
  | none => ∃ t, TyX K H x (.type t) ∧ (kitB t "int" = some false ∨ kitB t "int" = some true ∧ kitB t "bool" = some true)
theorem IntV.non {K : PySem.W.Frag} {H : Hp} : IntV K H .non none := ⟨"NoneType", .base .non, .inl (by decide +kernel)⟩
theorem IntV.bl {K : PySem.W.Frag} {H : Hp} {b : Bool} : IntV K H (.bl b) none := ⟨"bool", .base (.bl b), .inr ⟨by decide +kernel, by decide +kernel⟩⟩
theorem IntV.tup {K : PySem.W.Frag} {H : Hp} {a : Addr} {xs : List V} (h : SqT K H a xs) : IntV K H (.ref a) none := ⟨"tuple", ty_tup h, .inl (by decide +kernel)⟩
theorem IntV.up {K : PySem.W.Frag} {H H' : Hp} {x : V} {o : Option Int} (e : Ex H H') (h : IntV K H x o) : IntV K H' x o := by
  cases o with
  | some n => exact h
  | none =>
    obtain ⟨t, a, b⟩ := h
    exact ⟨t, tyx_up e a, b⟩
section
variable {K : PySem.W.Frag} {σ : L2.St} {H : Hp} {ta tb tc te : TE} {a b : Addr}
theorem ev_isi {x : V} {t n : String} {b : Bool} (ha : Ev ta σ H x) (ty : TyX K H x (.type t)) (e : kitB t n = some b) : Ev (tCB (rIsi K) (tCons ta (tCons (tC (.ty n)) tNil))) σ H (.bl b) := fun H1 e1 _ q =>
  ha H1 e1 _ fun H2 e2 => ⟨x, _, _, _, b, rfl, .ty n, tyx_up (e1.trans e2) ty, kit_ty e, q H2 e2⟩
theorem ev_chain {g g' : Int → Int → Bool} {i j k : Int} (ha : Ev ta σ H (.int i)) (hb : Ev tb σ H (.int j)) (hc : Ev tc σ H (.int k)) : Ev (tChain (rI0 fun i j => .bl (g i j)) (rI0 fun i j => .bl (g' i j)) ta tb tc) σ H (.bl (g i j && g' j k)) := fun H1 e1 Q q =>
  ha H1 e1 _ fun H2 e2 => hb H2 (e1.trans e2) _ fun H3 e3 => ⟨i, j, rfl, rfl, g i j, rfl, by
    cases h : g i j with
    | true => exact iteT (hc H3 ((e1.trans e2).trans e3) _ fun H4 e4 => ⟨j, k, rfl, rfl, by
        have := q H4 ((e2.trans e3).trans e4)
        rw [h] at this
        exact this⟩)
    | false =>
      refine iteF ?_
      have := q H3 (e2.trans e3)
      rw [h] at this
      exact this⟩
/-- a call -/
theorem s_call {sp : Sp} {E : XK} {ta : TA} {vs : List V} {D : Ends} (h : EvA ta σ H vs) (k : ∀ H1, Ex H H1 → sp (vs ++ []) H1 (fun _ H2 => D.nx σ H2) E) : tDrop (tCall sp [] E ta) D σ H := h H (Ex.refl H) _ k
theorem q_call {sp : Sp} {E : XK} {ta : TA} {vs : List V} {D : Ends} {tz : TS} (h : EvA ta σ H vs) (k : ∀ H1, Ex H H1 → sp (vs ++ []) H1 (fun _ H2 => tz D σ H2) E) : tSeq (tDrop (tCall sp [] E ta)) tz D σ H := h H (Ex.refl H) _ k
theorem q_callA {sp : Sp} {E : XK} {ta : TA} {vs : List V} {D : Ends} {tz : TS} {i : Nat} (h : EvA ta σ H vs) (k : ∀ H1, Ex H H1 → sp (vs ++ []) H1 (fun v H2 => tz D (σ.set i (some v)) H2) E) : tSeq (tAsg (tCall sp [] E ta) (gName i)) tz D σ H := h H (Ex.refl H) _ k
theorem s_callA {sp : Sp} {E : XK} {ta : TA} {vs : List V} {D : Ends} {i : Nat} (h : EvA ta σ H vs) (k : ∀ H1, Ex H H1 → sp (vs ++ []) H1 (fun v H2 => D.nx (σ.set i (some v)) H2) E) : tAsg (tCall sp [] E ta) (gName i) D σ H := h H (Ex.refl H) _ k
theorem s_callR {sp : Sp} {E : XK} {ta : TA} {vs : List V} {D : Ends} (h : EvA ta σ H vs) (k : ∀ H1, Ex H H1 → sp (vs ++ []) H1 (fun v H2 => D.rt v H2) E) : tRet (tCall sp [] E ta) D σ H := h H (Ex.refl H) _ k
theorem ev_callV {sp : Sp} {E : XK} {ta : TA} {vs : List V} {z : V} (h : EvA ta σ H vs) (hs : ∀ H1, Ex H H1 → ∀ Q : VK, (∀ H2, Ex H1 H2 → Q z H2) → sp (vs ++ []) H1 Q E) : Ev (tCall sp [] E ta) σ H z := fun H1 e Q q =>
  h H1 e _ fun H2 e2 => hs H2 (e.trans e2) Q fun H3 e3 => q H3 (e2.trans e3)
end
end Fm
set_option Elab.async false
set_option linter.all false
set_option maxRecDepth 100000
set_option maxHeartbeats 1000000
namespace Fm
open PySem L2 Evl
section
variable {K : PySem.W.Frag} {σ : L2.St} {H : Hp} {ta tb te : TE} {D : Ends} {tz : TS}
theorem el_rep {xs : List V} {k : Nat} (ha : EvL ta σ H xs) (hb : ∀ H1, Ex H H1 → Ev tb σ H1 (.int (k : Int))) (hz : xs.length * k ≤ 100000) (hk : k ≤ 100000) : EvL (tOp rRep ta tb) σ H (List.replicate k xs).flatten := fun H1 e Q q =>
  ha H1 e _ fun p H2 hp e2 h2 => hb H2 (e.trans e2) H2 (Ex.refl H2) _ fun H3 e3 => ⟨p, (k : Int), xs, rfl, rfl, e3 _ _ h2, by omega, by omega, sz_of (by simpa using hz), fun r hr => by
    refine q r _ (fresh_back (e2.trans e3) hr) ((e2.trans e3).trans (Ex.new hr)) ?_
    rw [upd_same, Int.toNat_natCast]⟩
theorem el_cat {xs ys : List V} (ha : EvL ta σ H xs) (hb : EvL tb σ H ys) (hz : xs.length + ys.length ≤ 100000) : EvL (tOp rCat ta tb) σ H (xs ++ ys) := fun H1 e Q q =>
  ha H1 e _ fun p H2 hp e2 h2 => hb H2 (e.trans e2) _ fun r H3 hr e3 h3 => ⟨p, r, xs, ys, rfl, rfl, e3 _ _ h2, h3, sz_of hz, fun u hu =>
    q u _ (fresh_back (e2.trans e3) hu) ((e2.trans e3).trans (Ex.new hu)) upd_same⟩
/-- list + list, the left one already there -/
theorem el_cat1 {a : Addr} {xs ys : List V} (ha : Ev ta σ H (.ref a)) (h : H a = some (.lst xs)) (hb : EvL tb σ H ys) (hz : xs.length + ys.length ≤ 100000) : EvL (tOp rCat ta tb) σ H (xs ++ ys) := fun H1 e Q q =>
  ha H1 e _ fun H2 e2 => hb H2 (e.trans e2) _ fun r H3 hr e3 h3 => ⟨a, r, xs, ys, rfl, rfl, e3 _ _ (e2 _ _ (e _ _ h)), h3, sz_of hz, fun u hu =>
    q u _ (fresh_back (e2.trans e3) hu) ((e2.trans e3).trans (Ex.new hu)) upd_same⟩
/-- the left one new, the right one there -/
theorem el_cat2 {a : Addr} {xs ys : List V} (ha : EvL ta σ H xs) (hb : Ev tb σ H (.ref a)) (h : H a = some (.lst ys)) (hz : xs.length + ys.length ≤ 100000) : EvL (tOp rCat ta tb) σ H (xs ++ ys) := fun H1 e Q q =>
  ha H1 e _ fun p H2 hp e2 h2 => hb H2 (e.trans e2) _ fun H3 e3 => ⟨p, a, xs, ys, rfl, rfl, e3 _ _ h2, e3 _ _ (e2 _ _ (e _ _ h)), sz_of hz, fun u hu =>
    q u _ (fresh_back (e2.trans e3) hu) ((e2.trans e3).trans (Ex.new hu)) upd_same⟩
abbrev rTpl (K : PySem.W.Frag) : List V → Hp → VK → Prop := fun xs H Q => ∃ p ys, xs = [.ref p] ∧ ((SqL K H p ys ∧ ∀ l, H l = none → Q (.ref l) (upd H l (.tup ys))) ∨ (SqT K H p ys ∧ Q (.ref p) H))
/-- tuple(list) -/
theorem eu_tpl {a : Addr} {xs : List V} (ha : Ev ta σ H (.ref a)) (h : SqL K H a xs) : EvU (tCB (rTpl K) (tCons ta tNil)) σ H xs := fun H1 e Q q =>
  ha H1 e _ fun H2 e2 => ⟨a, xs, rfl, .inl ⟨ex_l (e.trans e2) h, fun l hl => q l _ (fresh_back e2 hl) (e2.trans (Ex.new hl)) upd_same⟩⟩
theorem eu_tplN {xs : List V} (ha : EvL ta σ H xs) : EvU (tCB (rTpl K) (tCons ta tNil)) σ H xs := fun H1 e Q q =>
  ha H1 e _ fun p H2 hp e2 h2 => ⟨p, xs, rfl, .inl ⟨sq_of h2, fun l hl => q l _ (fresh_back e2 hl) (e2.trans (Ex.new hl)) upd_same⟩⟩
abbrev rLs (K : PySem.W.Frag) : List V → Hp → VK → Prop := fun xs H Q => ∃ p ys, xs = [.ref p] ∧ (SqL K H p ys ∨ SqT K H p ys) ∧ ∀ l, H l = none → Q (.ref l) (upd H l (.lst ys))
theorem el_ls {a : Addr} {xs : List V} (ha : Ev ta σ H (.ref a)) (h : SqL K H a xs) : EvL (tCB (rLs K) (tCons ta tNil)) σ H xs := fun H1 e Q q =>
  ha H1 e _ fun H2 e2 => ⟨a, xs, rfl, .inl (ex_l (e.trans e2) h), fun l hl => q l _ (fresh_back e2 hl) (e2.trans (Ex.new hl)) upd_same⟩
abbrev rIsNn : R2 := fun x y H Q => y = .non ∧ Q (.bl (decide (x = .non))) H
theorem et_isN {x : V} (ha : Ev ta σ H x) : EvT (tTest (tOp rIsNn ta (tC .non))) σ H (decide (x = .non)) := et_test (ev_op ha ev_c fun H1 _ _ q => ⟨rfl, q H1 (Ex.refl H1)⟩)
theorem ev_isN {x : V} (ha : Ev ta σ H x) : Ev (tOp rIsNn ta (tC .non)) σ H (.bl (decide (x = .non))) := ev_op ha ev_c fun H1 _ _ q => ⟨rfl, q H1 (Ex.refl H1)⟩
/-- sorted(list of ints) -/
theorem q_sorted {P : Prop} {ns : List Int} (ha : EvL ta σ H (ns.map V.int)) (k : ∀ (ns' : List Int) p H1, ns'.Perm ns → ns'.Pairwise (· ≤ ·) → H p = none → Ex H H1 → H1 p = some (.lst (ns'.map V.int)) → D.rt (.ref p) H1) : tRet (tCB (rSortedI K) (tCons ta tNil)) D σ H :=
  ha H (Ex.refl H) _ fun q H1 hq e h1 => ⟨q, ns, rfl, sq_of h1, fun ns' p hp hs hn => k ns' p _ hp hs (fresh_back e hn) (e.trans (Ex.new hn)) upd_same⟩
theorem ev_succ {n : Nat} (ha : Ev ta σ H (.int (n : Nat))) : Ev (tOp (rI0 fun i j => .int (i + j)) ta (tC (.int 1))) σ H (.int ((n + 1 : Nat) : Int)) := by
  have := ev_i0 (g := fun i j => .int (i + j)) ha (ev_c (v := .int 1) (σ := σ) (H := H))
  exact this
theorem q_app2 {l : Addr} {xs : List V} {v : V} (hl : H l = some (.lst xs)) (ha : Ev ta σ H (.ref l)) (h : Ev te σ H v) (hz : xs.length < 100000) (k : ∀ H1, Ex H H1 → tz D σ (upd H1 l (.lst (xs ++ [v])))) :
    tSeq (tDrop (tBM K "list" rAppend ta (tCons te tNil))) tz D σ H := q_app hl ha h hz k
end
end Fm
set_option Elab.async false
set_option linter.all false
set_option maxRecDepth 100000
namespace Fm
/-! ### arithmetic of lists -/
theorem nodup_le : ∀ (n : Nat) (l : List Nat), l.Nodup → (∀ x ∈ l, x < n) → l.length ≤ n
  | 0, l, _, h => by
    cases l with
    | nil => simp
    | cons a l => exact absurd (h a (by simp)) (by omega)
  | n + 1, l, hd, h => by
    by_cases hm : n ∈ l
    · have h1 := List.length_erase_of_mem hm
      have h2 := nodup_le n (l.erase n) (hd.erase n) fun x hx => by
        have h3 := h x (List.mem_of_mem_erase hx)
        have h4 : x ≠ n := fun e => by
          subst e
          exact (List.Nodup.not_mem_erase hd) hx
        omega
      have := List.length_pos_of_mem hm
      omega
    · have := nodup_le n l hd fun x hx => by
        have h3 := h x hx
        have h4 : x ≠ n := fun e => hm (e ▸ hx)
        omega
      omega
theorem pigeon {n : Nat} (f : Nat → Nat) (h : ∀ i, i ≤ n → f i < n) : ∃ a b, a < b ∧ b ≤ n ∧ f a = f b := by
  refine Classical.byContradiction fun hn => ?_
  have inj : ∀ a b, a ≤ n → b ≤ n → f a = f b → a = b := fun a b ha hb e => by
    rcases Nat.lt_trichotomy a b with z | z | z
    · exact absurd ⟨a, b, z, hb, e⟩ hn
    · exact z
    · exact absurd ⟨b, a, z, ha, e.symm⟩ hn
  have hd : ((List.range (n + 1)).map f).Nodup := by
    refine List.nodup_iff_pairwise_ne.mpr ?_
    rw [List.pairwise_map]
    refine List.Pairwise.imp_of_mem ?_ List.nodup_range
    intro a b ha hb hab e
    rw [List.mem_range] at ha hb
    exact hab (inj a b (by omega) (by omega) e)
  have := nodup_le n _ hd fun x hx => by
    obtain ⟨i, hi, rfl⟩ := List.mem_map.mp hx
    rw [List.mem_range] at hi
    exact h i (by omega)
  rw [List.length_map, List.length_range] at this
  omega
/-! ### where a program stands, its laws -/
def isgo (p : List In) (j : Nat) : Prop := ∃ t, p[j]? = some (.go t)
theorem gstep_not {p : List In} {j : Nat} (h : ¬ isgo p j) : gstep p j = j := by
  unfold gstep
  split
  · rename_i t e
    exact absurd ⟨t, e⟩ h
  · rfl
theorem gn_add (p : List In) (i a : Nat) : ∀ b, gn p (gn p i a) b = gn p i (a + b)
  | 0 => rfl
  | b + 1 => by
    show gstep p (gn p (gn p i a) b) = gstep p (gn p i (a + b))
    rw [gn_add p i a b]
theorem gn_stay {p : List In} {i k : Nat} (h : ¬ isgo p (gn p i k)) : ∀ b, gn p i (k + b) = gn p i k
  | 0 => rfl
  | b + 1 => by
    show gstep p (gn p i (k + b)) = _
    rw [gn_stay h b, gstep_not h]
theorem go_before {p : List In} {i k m : Nat} (h : isgo p (gn p i k)) (hm : m ≤ k) : isgo p (gn p i m) := by
  refine Classical.byContradiction fun hn => hn ?_
  have := gn_stay hn (k - m)
  rw [show m + (k - m) = k by omega] at this
  rw [← this]
  exact h
theorem isgo_lt {p : List In} {j : Nat} (h : isgo p j) : j < p.length := by
  obtain ⟨t, e⟩ := h
  exact (List.getElem?_eq_some_iff.mp e).1
theorem go_all {p : List In} {i : Nat} (h : isgo p (gn p i (p.length + 1))) : isgo p (gn p i (p.length + 2)) := by
  obtain ⟨a, b, hab, hb, e⟩ := pigeon (n := p.length) (gn p i) fun m hm => isgo_lt (go_before h (by omega))
  have e2 : gn p i (p.length + 2) = gn p i (p.length + 2 - (b - a)) := by
    have h1 := gn_add p i b (p.length + 2 - b)
    have h2 := gn_add p i a (p.length + 2 - b)
    rw [show b + (p.length + 2 - b) = p.length + 2 by omega] at h1
    rw [show a + (p.length + 2 - b) = p.length + 2 - (b - a) by omega] at h2
    rw [← h1, ← h2, e]
  rw [e2]
  exact go_before h (by omega)
theorem ends_go {p : List In} {j : Nat} (h : isgo p j) : ends p j = true := by
  obtain ⟨t, e⟩ := h
  unfold ends
  rw [e]
  rfl
/-- behind a go -/
theorem stE_go {p : List In} {i t : Nat} (h : p[i]? = some (.go t)) : stE p i = stE p t := by
  have e1 : gn p i 1 = t := by
    show gstep p i = t
    unfold gstep
    rw [h]
  have e2 : gn p t (p.length + 1) = gn p i (p.length + 2) := by
    rw [← e1, gn_add p i 1 (p.length + 1)]
    congr 1
    omega
  by_cases hg : isgo p (gn p i (p.length + 1))
  · have h1 := ends_go hg
    have h2 := ends_go (go_all hg)
    unfold stE
    rw [e2, h1, h2]
    simp
  · have := gn_stay hg 1
    unfold stE
    rw [e2, show p.length + 2 = p.length + 1 + 1 by omega, this]
theorem gn_fix {p : List In} {i : Nat} (h : ¬ isgo p i) (k : Nat) : gn p i k = i := by
  have := gn_stay (p := p) (i := i) (k := 0) h k
  rw [Nat.zero_add] at this
  exact this
theorem stE_end {p : List In} : stE p p.length = p.length := by
  have hn : ¬ isgo p p.length := fun h => absurd (isgo_lt h) (by omega)
  unfold stE
  rw [gn_fix hn]
  split <;> rfl
theorem stE_stop {p : List In} {i : Nat} (h : p[i]? = some .stop) : stE p i = p.length := by
  have hn : ¬ isgo p i := fun ⟨t, e⟩ => by rw [h] at e; cases e
  unfold stE
  rw [gn_fix hn]
  have : ends p i = true := by
    unfold ends
    rw [h]
    rfl
  rw [this]
  simp
theorem stE_self {p : List In} {i : Nat} {x : In} (h : p[i]? = some x) (hx : x.isEnd = false) : stE p i = i := by
  have hn : ¬ isgo p i := fun ⟨t, e⟩ => by
    rw [h] at e
    cases e
    cases hx
  unfold stE
  rw [gn_fix hn]
  have : ends p i = false := by
    unfold ends
    rw [h]
    exact hx
  rw [this]
  simp
/-- it comes from x to y by gos, one at least -/
def Lead (p : List In) (x y : Nat) : Prop := ∃ k, 1 ≤ k ∧ gn p x k = y ∧ ∀ i, i < k → isgo p (gn p x i)
theorem Lead.one {p : List In} {x t : Nat} (h : p[x]? = some (.go t)) : Lead p x t := ⟨1, Nat.le_refl _, by
  show gstep p x = t
  unfold gstep
  rw [h], fun i hi => by
  have : i = 0 := by omega
  subst this
  exact ⟨t, h⟩⟩
theorem Lead.step {p : List In} {x y t : Nat} (h : Lead p x y) (hy : p[y]? = some (.go t)) : Lead p x t := by
  obtain ⟨k, hk, e, hg⟩ := h
  refine ⟨k + 1, by omega, ?_, fun i hi => ?_⟩
  · show gstep p (gn p x k) = t
    rw [e]
    unfold gstep
    rw [hy]
  · by_cases hc : i < k
    · exact hg i hc
    · have : i = k := by omega
      subst this
      rw [e]
      exact ⟨t, hy⟩
theorem Lead.st {p : List In} {x y : Nat} (h : Lead p x y) : stE p x = stE p y := by
  obtain ⟨k, _, e, hg⟩ := h
  have key : ∀ m, m ≤ k → stE p x = stE p (gn p x m) := by
    intro m
    induction m with
    | zero => intro _; rfl
    | succ m ih =>
      intro hm
      obtain ⟨t, ht⟩ := hg m (by omega)
      rw [ih (by omega), stE_go ht]
      congr 1
      show t = gstep p (gn p x m)
      unfold gstep
      rw [ht]
  rw [key k (Nat.le_refl _), e]
theorem Lead.cyc {p : List In} {x : Nat} (h : Lead p x x) : stE p x = p.length := by
  obtain ⟨k, hk, e, hg⟩ := h
  have key : ∀ i, isgo p (gn p x i) := by
    intro i
    induction i using Nat.strongRecOn with
    | _ i ih =>
      by_cases hc : i < k
      · exact hg i hc
      · have h1 := gn_add p x k (i - k)
        rw [e, show k + (i - k) = i by omega] at h1
        rw [← h1]
        exact ih (i - k) (by omega)
  unfold stE
  rw [ends_go (key _)]
  simp
theorem stE_le {cells : Nat} {p : List In} (h : Pok cells p) {i : Nat} (hi : i ≤ p.length) : stE p i ≤ p.length := by
  unfold stE
  split
  · omega
  · exact gn_le h hi _
end Fm
set_option Elab.async false
set_option linter.all false
set_option maxRecDepth 100000
namespace Fm
/-- where it may stand behind an instruction -/
def brs (p : List In) (i : Nat) : List Nat := match p[i]? with
  | some (.zero t) => [stE p t, stE p (i + 1)]
  | _ => [stE p (i + 1)]
inductive Reach (p : List In) : Nat → Prop where
  | start : Reach p (stE p 0)
  | step {i j : Nat} : Reach p i → i < p.length → j ∈ brs p i → Reach p j
/-- it stands at i -/
def Sta (p : List In) (i : Nat) : Prop := ∃ x, p[i]? = some x ∧ x.isEnd = false
theorem Sta.lt {p : List In} {i : Nat} (h : Sta p i) : i < p.length := by
  obtain ⟨x, e, _⟩ := h
  exact (List.getElem?_eq_some_iff.mp e).1
theorem Sta.self {p : List In} {i : Nat} (h : Sta p i) : stE p i = i := by
  obtain ⟨x, e, hx⟩ := h
  exact stE_self e hx
theorem stE_sta {c : Nat} {p : List In} (h : Pok c p) {i : Nat} (hi : i ≤ p.length) : stE p i = p.length ∨ Sta p (stE p i) := by
  unfold stE
  by_cases he : ends p (gn p i (p.length + 1)) = true
  · rw [if_pos he]
    exact .inl rfl
  · rw [if_neg he]
    refine .inr ?_
    unfold ends at he
    cases hx : p[gn p i (p.length + 1)]? with
    | none => rw [hx] at he; exact absurd rfl he
    | some x =>
      rw [hx] at he
      exact ⟨x, hx, by simpa using he⟩
theorem brs_sta {c : Nat} {p : List In} (h : Pok c p) {i j : Nat} (hi : i < p.length) (hj : j ∈ brs p i) : j = p.length ∨ Sta p j := by
  unfold brs at hj
  split at hj
  · rename_i t e
    have ht : t ≤ p.length := h.2 _ (List.mem_of_getElem? e)
    rcases List.mem_cons.mp hj with rfl | hj
    · exact stE_sta h ht
    · rw [List.mem_singleton.mp hj]
      exact stE_sta h hi
  · rw [List.mem_singleton.mp hj]
    exact stE_sta h hi
theorem Reach.sta {c : Nat} {p : List In} (h : Pok c p) {i : Nat} (r : Reach p i) : i = p.length ∨ Sta p i := by
  cases r with
  | start => exact stE_sta h (Nat.zero_le _)
  | step _ hi hj => exact brs_sta h hi hj
theorem Reach.le {c : Nat} {p : List In} (h : Pok c p) {i : Nat} (r : Reach p i) : i ≤ p.length := by
  rcases r.sta h with z | z
  · omega
  · exact Nat.le_of_lt z.lt
/-! ### ascending lists -/
abbrev Asc (l : List Nat) : Prop := l.Pairwise (· < ·)
theorem asc_eq : ∀ {xs ys : List Nat}, Asc xs → Asc ys → (∀ z, z ∈ xs ↔ z ∈ ys) → xs = ys
  | [], [], _, _, _ => rfl
  | [], y :: ys, _, _, h => absurd ((h y).mpr (by simp)) (by simp)
  | x :: xs, [], _, _, h => absurd ((h x).mp (by simp)) (by simp)
  | x :: xs, y :: ys, hx, hy, h => by
    obtain ⟨hx1, hx2⟩ := List.pairwise_cons.mp hx
    obtain ⟨hy1, hy2⟩ := List.pairwise_cons.mp hy
    have e : x = y := by
      have h1 := (h x).mp (by simp)
      have h2 := (h y).mpr (by simp)
      rcases List.mem_cons.mp h1 with z | z
      · exact z
      rcases List.mem_cons.mp h2 with z2 | z2
      · exact z2.symm
      have := hy1 x z
      have := hx1 y z2
      omega
    subst e
    congr 1
    refine asc_eq hx2 hy2 fun z => ⟨fun hz => ?_, fun hz => ?_⟩
    · have := (h z).mp (List.mem_cons_of_mem _ hz)
      rcases List.mem_cons.mp this with q | q
      · subst q
        exact absurd (hx1 _ hz) (by omega)
      · exact q
    · have := (h z).mpr (List.mem_cons_of_mem _ hz)
      rcases List.mem_cons.mp this with q | q
      · subst q
        exact absurd (hy1 _ hz) (by omega)
      · exact q
/-- a rising arrangement of numbers none of which stands twice -/
theorem asc_of {ys : List Int} {l : List Nat} (hp : ys.Perm (l.map fun (x : Nat) => (x : Int))) (hs : ys.Pairwise (· ≤ ·)) (hd : l.Nodup) : ∃ zs : List Nat, ys = zs.map (fun (x : Nat) => (x : Int)) ∧ Asc zs ∧ zs.Perm l := by
  refine ⟨ys.map Int.toNat, ?_, ?_, ?_⟩
  · rw [List.map_map]
    have : ∀ y ∈ ys, (y.toNat : Int) = y := fun y hy => by
      obtain ⟨x, _, e⟩ := List.mem_map.mp (hp.mem_iff.mp hy)
      omega
    exact ((List.map_congr_left (f := (fun (x : Nat) => (x : Int)) ∘ Int.toNat) (g := id) this).trans (List.map_id _)).symm
  · have hnd : ys.Nodup := (hp.nodup_iff).mpr (by
      refine List.nodup_iff_pairwise_ne.mpr ?_
      rw [List.pairwise_map]
      refine List.Pairwise.imp ?_ (List.nodup_iff_pairwise_ne.mp hd)
      intro a b h e
      exact h (by omega))
    have h2 : ys.Pairwise (· < ·) := by
      have := hs.and (List.nodup_iff_pairwise_ne.mp hnd)
      exact this.imp fun ⟨a, b⟩ => by omega
    rw [Asc, List.pairwise_map]
    refine h2.imp_of_mem fun {a b} ha hb hab => ?_
    obtain ⟨x, _, e⟩ := List.mem_map.mp (hp.mem_iff.mp ha)
    obtain ⟨y, _, e2⟩ := List.mem_map.mp (hp.mem_iff.mp hb)
    have e : (x : Int) = a := e
    have e2 : (y : Int) = b := e2
    omega
  · have := hp.map Int.toNat
    rw [List.map_map] at this
    rw [show (Int.toNat ∘ fun (x : Nat) => (x : Int)) = id from by funext x; simp, List.map_id] at this
    exact this
theorem sub_le {l m : List Nat} (hd : l.Nodup) (h : ∀ x ∈ l, x ∈ m) : l.length ≤ m.length := by
  induction l generalizing m with
  | nil => simp
  | cons a l ih =>
    obtain ⟨h1, h2⟩ := List.nodup_cons.mp hd
    have ha := h a (by simp)
    have := ih (m := m.erase a) h2 fun x hx => by
      have hne : x ≠ a := fun e => h1 (e ▸ hx)
      exact (List.mem_erase_of_ne hne).mpr (h x (List.mem_cons_of_mem _ hx))
    have e := List.length_erase_of_mem ha
    have := List.length_pos_of_mem ha
    simp only [List.length_cons]
    omega
end Fm
set_option Elab.async false
set_option linter.all false
set_option maxRecDepth 100000
set_option maxHeartbeats 1000000
namespace Fm
open PySem L2 Evl
def kD (F : List Nat) : List (Key × V) := F.map fun (x : Nat) => (Sum.inl (x : Int), V.bl true)
theorem kD_val (F : List Nat) (x : Nat) : valV (kD F) (Sum.inl (x : Int)) = if x ∈ F then some (.bl true) else none := by
  induction F with
  | nil => simp [kD, valV_nil]
  | cons a l ih =>
    show valV ((Sum.inl (a : Int), V.bl true) :: kD l) _ = _
    by_cases h : a = x
    · subst h
      rw [valV_pos rfl]
      simp
    · rw [valV_neg (by intro z; exact h (by have := Sum.inl.inj z; omega)), ih]
      have : x ≠ a := fun e => h e.symm
      simp [this]
theorem kD_put {F : List Nat} {x : Nat} (h : x ∉ F) : putK (kD F) (Sum.inl (x : Int)) (.bl true) = kD (F ++ [x]) := by
  rw [putK_new _ (by rw [kD_val, if_neg h])]
  simp [kD]
section
variable {K : PySem.W.Frag} {σ : L2.St} {H : Hp} {ta tb te tt' : TE} {D : Ends} {tz tu : TS} {tt : TT} {tA : TA}
/-- the rest of a comprehension over a list that stands -/
theorem lc_tail {a : Addr} {xs : List V} {j : Nat} {vs : List Nat} {Qd : Addr → Hp → Prop} (f : Nat → Bool) (v : Nat → V) (hx : SqL K H a xs) (hz : xs.length ≤ 40000) (hw : ∀ x, wipe ((wipe σ vs).set j (some x)) vs = wipe σ vs)
    (ht : ∀ (i : Nat) (x : V) H1, Ex H H1 → xs[i]? = some x → EvT tt ((wipe σ vs).set j (some x)) H1 (f i)) (he : ∀ (i : Nat) (x : V) H1, Ex H H1 → xs[i]? = some x → f i = true → Ev te ((wipe σ vs).set j (some x)) H1 (v i))
    (q : ∀ Dl H2, H Dl = none → Ex H H2 → H2 Dl = some (.lst (given xs.length f v)) → Qd Dl H2) :
    ∀ Dl, H Dl = none → ∃ W : Nat → Nat → Hp → Prop, (∃ m, W 0 m (upd H Dl (.lst []))) ∧ ∀ i m H', W i m H' →
      ((Itl K a).stop i H' ∧ Qd Dl H') ∨ ((Itl K a).go i H' ∧ ∃ Nx : Hp → Prop, (∀ H'', Nx H'' → ∃ m', m' < m ∧ W (i + 1) m' H'') ∧ ∀ x H'', (Itl K a).yld i H' x H'' → gName j x (wipe σ vs) H'' fun σ2 H2 => wipe σ2 vs = wipe σ vs ∧ tt σ2 H2 fun b H3 =>
        if b = true then te σ2 H3 fun y H4 => ∃ acc, H4 Dl = some (.lst acc) ∧ acc.length < sizeLine ∧ Nx (upd H4 Dl (.lst (acc ++ [y]))) else Nx H3) := fun Dl hD =>
  lc_list (xs := xs) (Cw H f v Dl) ⟨hD, Ex.new hD, upd_same⟩ (fun i H' _ p => ex_l p.2.1 hx) (fun i x H' hi p => ⟨hw x, cw_turn p (by have := (List.getElem?_eq_some_iff.mp hi).1; omega) (ht i x H (Ex.refl H) hi) (fun hf => he i x H (Ex.refl H) hi hf)⟩) (fun H' p => q Dl H' p.1 p.2.1 p.2.2)
theorem lc_tailT {a : Addr} {xs : List V} {j : Nat} {vs : List Nat} {Qd : Addr → Hp → Prop} (f : Nat → Bool) (v : Nat → V) (hx : SqT K H a xs) (hz : xs.length ≤ 40000) (hw : ∀ x, wipe ((wipe σ vs).set j (some x)) vs = wipe σ vs)
    (ht : ∀ (i : Nat) (x : V) H1, Ex H H1 → xs[i]? = some x → EvT tt ((wipe σ vs).set j (some x)) H1 (f i)) (he : ∀ (i : Nat) (x : V) H1, Ex H H1 → xs[i]? = some x → f i = true → Ev te ((wipe σ vs).set j (some x)) H1 (v i))
    (q : ∀ Dl H2, H Dl = none → Ex H H2 → H2 Dl = some (.lst (given xs.length f v)) → Qd Dl H2) :
    ∀ Dl, H Dl = none → ∃ W : Nat → Nat → Hp → Prop, (∃ m, W 0 m (upd H Dl (.lst []))) ∧ ∀ i m H', W i m H' →
      ((Itt K a).stop i H' ∧ Qd Dl H') ∨ ((Itt K a).go i H' ∧ ∃ Nx : Hp → Prop, (∀ H'', Nx H'' → ∃ m', m' < m ∧ W (i + 1) m' H'') ∧ ∀ x H'', (Itt K a).yld i H' x H'' → gName j x (wipe σ vs) H'' fun σ2 H2 => wipe σ2 vs = wipe σ vs ∧ tt σ2 H2 fun b H3 =>
        if b = true then te σ2 H3 fun y H4 => ∃ acc, H4 Dl = some (.lst acc) ∧ acc.length < sizeLine ∧ Nx (upd H4 Dl (.lst (acc ++ [y]))) else Nx H3) := fun Dl hD =>
  lc_tup (xs := xs) (Cw H f v Dl) ⟨hD, Ex.new hD, upd_same⟩ (fun i H' _ p => ex_t p.2.1 hx) (fun i x H' hi p => ⟨hw x, cw_turn p (by have := (List.getElem?_eq_some_iff.mp hi).1; omega) (ht i x H (Ex.refl H) hi) (fun hf => he i x H (Ex.refl H) hi hf)⟩) (fun H' p => q Dl H' p.1 p.2.1 p.2.2)
theorem m_callC {sp : Sp} {E : XK} {vs : List V} {Q : VK} {r : List V → Hp → VK → Prop} (h : EvA tA σ H vs) (k : ∀ H1, Ex H H1 → sp (vs ++ []) H1 (fun x H2 => r [x] H2 Q) E) : tCB r (tCons (tCall sp [] E tA) tNil) σ H Q := h H (Ex.refl H) _ k
/-- a new list, one of some -/
def EvLP (te : TE) (σ : L2.St) (H : Hp) (R : List V → Prop) : Prop := ∀ H1, Ex H H1 → ∀ Q : VK, (∀ xs p H2, R xs → H1 p = none → Ex H1 H2 → H2 p = some (.lst xs) → Q (.ref p) H2) → te σ H1 Q
theorem elp_lc {tl : TE} {j : Nat} {vs : List Nat} {R R' : List V → Prop} (h : EvLP tl σ H R) (hw : ∀ x, wipe ((wipe σ vs).set j (some x)) vs = wipe σ vs)
    (hf : ∀ xs, R xs → xs.length ≤ 40000 ∧ ∃ (f : Nat → Bool) (v : Nat → V), (∀ (i : Nat) (x : V) H1, Ex H H1 → xs[i]? = some x → EvT tt ((wipe σ vs).set j (some x)) H1 (f i)) ∧ (∀ (i : Nat) (x : V) H1, Ex H H1 → xs[i]? = some x → f i = true → Ev te ((wipe σ vs).set j (some x)) H1 (v i)) ∧ R' (given xs.length f v)) :
    EvLP (tLc (iList K tl) (gName j) tt te vs) σ H R' := fun H0 e Q q => h H0 e _ fun xs a H1 hR ha e1 hx => by
  obtain ⟨hz, f, v, ht, he, hr⟩ := hf xs hR
  refine ⟨a, rfl, ⟨xs, sq_of hx⟩, ?_⟩
  exact lc_tail (Qd := fun Dl H2 => Q (.ref Dl) H2) f v (sq_of hx) hz hw (fun i x H2 e2 => ht i x H2 ((e.trans e1).trans e2)) (fun i x H2 e2 => he i x H2 ((e.trans e1).trans e2)) fun Dl H2 hD e2 h2 => q _ Dl H2 hr (fresh_back e1 hD) (e1.trans e2) h2
theorem s_retTP {R : List V → Prop} (h : EvLP ta σ H R) (k : ∀ xs p H1, R xs → H p = none → Ex H H1 → H1 p = some (.tup xs) → D.rt (.ref p) H1) : tRet (tCB (rTpl K) (tCons ta tNil)) D σ H :=
  h H (Ex.refl H) _ fun xs p H1 hR hp e1 h1 => ⟨p, xs, rfl, .inl ⟨sq_of h1, fun l hl => k xs l _ hR (fresh_back e1 hl) (e1.trans (Ex.new hl)) upd_same⟩⟩
abbrev rSortedDI : List V → Hp → VK → Prop := fun xs H Q => ∃ (a : Addr) (kvs : List (Key × V)) (ks : List Int), xs = [.ref a] ∧ Rd H a (.dK kvs) ∧ kvs.map (·.1) = ks.map Sum.inl ∧ ks.length < 64 ∧
    ∀ (ys : List Int) (p : Addr), ys.Perm ks → ys.Pairwise (· ≤ ·) → H p = none → Q (.ref p) (upd H p (.lst (ys.map V.int)))
theorem elp_sortedD {d : Addr} {F : List Nat} (ha : Ev ta σ H (.ref d)) (hd : H d = some (.dK (kD F))) (hn : F.Nodup) (hl : F.length < 64) : EvLP (tCB rSortedDI (tCons ta tNil)) σ H (fun xs => ∃ zs, xs = nV zs ∧ Asc zs ∧ zs.Perm F) := fun H1 e Q q =>
  ha H1 e _ fun H2 e2 => by
    have hks : (kD F).map (·.1) = (F.map fun (x : Nat) => (x : Int)).map Sum.inl := by
      unfold kD
      rw [List.map_map, List.map_map]
      rfl
    refine ⟨d, kD F, F.map fun (x : Nat) => (x : Int), rfl, .inl (e2 _ _ (e _ _ hd)), hks, by rw [List.length_map]; omega, fun ys p hperm hsort hp => ?_⟩
    obtain ⟨zs, rfl, hasc, hpz⟩ := asc_of hperm hsort hn
    refine q _ p _ ⟨zs, ?_, hasc, hpz⟩ (fresh_back e2 hp) (e2.trans (Ex.new hp)) upd_same
    unfold nV
    rw [List.map_map]
    rfl
theorem elp_sorted {ns : List Nat} (ha : EvL ta σ H (nV ns)) (hn : ns.Nodup) : EvLP (tCB (rSortedI K) (tCons ta tNil)) σ H (fun xs => ∃ zs, xs = nV zs ∧ Asc zs ∧ zs.Perm ns) := fun H1 e Q q =>
  ha H1 e _ fun r H2 hr e2 h2 => by
    refine ⟨r, ns.map fun (x : Nat) => (x : Int), rfl, ?_, fun ys p hperm hsort hp => ?_⟩
    · rw [List.map_map]
      exact sq_of h2
    obtain ⟨zs, rfl, hasc, hpz⟩ := asc_of hperm hsort hn
    refine q _ p _ ⟨zs, ?_, hasc, hpz⟩ (fresh_back e2 hp) (e2.trans (Ex.new hp)) upd_same
    unfold nV
    rw [List.map_map]
    rfl
theorem yes_lc {Q : Bool → Hp → Prop} (h : Q true H) : tYes σ H Q := h
theorem et_yes : EvT tYes σ H true := fun H1 _ _ q => q H1 (Ex.refl H1)
theorem given_map {α : Type} (l : List α) (f : α → Bool) (v : α → V) (f' : Nat → Bool) (v' : Nat → V) (hf : ∀ i x, l[i]? = some x → f' i = f x) (hv : ∀ i x, l[i]? = some x → v' i = v x) : given l.length f' v' = (l.filter f).map v := by
  have key : ∀ n, n ≤ l.length → given n f' v' = ((l.take n).filter f).map v := by
    intro n
    induction n with
    | zero => intro _; rfl
    | succ n ih =>
      intro hn
      obtain ⟨x, hx⟩ : ∃ x, l[n]? = some x := ⟨_, List.getElem?_eq_getElem (by omega)⟩
      have e : l.take (n + 1) = l.take n ++ [x] := by
        rw [List.take_add_one, hx]
        rfl
      cases h : f' n with
      | true =>
        have h2 : f x = true := (hf n x hx).symm.trans h
        rw [given_yes h, ih (by omega), e, List.filter_append, List.map_append, hv n x hx]
        simp [h2]
      | false =>
        have h2 : f x = false := (hf n x hx).symm.trans h
        rw [given_no h, ih (by omega), e, List.filter_append]
        simp [h2]
  rw [key _ (Nat.le_refl _), List.take_length]
/-- a comprehension over numbers -/
theorem elp_lcN {tl : TE} {j : Nat} {vs : List Nat} {R : List Nat → Prop} (f : Nat → Bool) (v : Nat → V) (h : EvLP tl σ H (fun xs => ∃ zs, xs = nV zs ∧ R zs)) (hw : ∀ x, wipe ((wipe σ vs).set j (some x)) vs = wipe σ vs) (hz : ∀ zs, R zs → zs.length ≤ 40000)
    (ht : ∀ zs, R zs → ∀ (y : Nat) H1, y ∈ zs → Ex H H1 → EvT tt ((wipe σ vs).set j (some (.int (y : Nat)))) H1 (f y)) (he : ∀ zs, R zs → ∀ (y : Nat) H1, y ∈ zs → Ex H H1 → f y = true → Ev te ((wipe σ vs).set j (some (.int (y : Nat)))) H1 (v y)) :
    EvLP (tLc (iList K tl) (gName j) tt te vs) σ H (fun xs => ∃ zs : List Nat, xs = (zs.filter f).map v ∧ R zs) := by
  refine elp_lc h hw ?_
  rintro xs ⟨zs, rfl, hR⟩
  refine ⟨by rw [nV_len]; exact hz zs hR, fun i => f (zs[i]?.getD 0), fun i => v (zs[i]?.getD 0), fun i x H1 e hx => ?_, fun i x H1 e hx hf => ?_, zs, ?_, hR⟩
  · obtain ⟨y, hy, rfl⟩ := nV_get hx
    have := ht zs hR y H1 (List.mem_of_getElem? hy) e
    simp only [hy, Option.getD_some]
    exact this
  · obtain ⟨y, hy, rfl⟩ := nV_get hx
    simp only [hy, Option.getD_some] at hf ⊢
    exact he zs hR y H1 (List.mem_of_getElem? hy) e hf
  · rw [nV_len]
    refine given_map zs f v _ _ (fun i x hx => ?_) (fun i x hx => ?_)
    · simp only [hx, Option.getD_some]
    · simp only [hx, Option.getD_some]
theorem EvL.p {xs : List V} (h : EvL te σ H xs) : EvLP te σ H (fun ys => ys = xs) := fun H1 e Q q => h H1 e Q fun p H2 hp e2 h2 => q xs p H2 rfl hp e2 h2
theorem EvLP.l {xs : List V} (h : EvLP te σ H (fun ys => ys = xs)) : EvL te σ H xs := fun H1 e Q q => h H1 e Q fun ys p H2 hy hp e2 h2 => q p H2 hp e2 (by rw [h2, hy])
/-- over a list of numbers that stands -/
theorem el_lcN {a : Addr} {tl : TE} {j : Nat} {vs : List Nat} {zs : List Nat} (f : Nat → Bool) (v : Nat → V) (h : Ev tl σ H (.ref a)) (hx : SqL K H a (nV zs)) (hw : ∀ x, wipe ((wipe σ vs).set j (some x)) vs = wipe σ vs) (hz : zs.length ≤ 40000)
    (ht : ∀ (y : Nat) H1, y ∈ zs → Ex H H1 → EvT tt ((wipe σ vs).set j (some (.int (y : Nat)))) H1 (f y)) (he : ∀ (y : Nat) H1, y ∈ zs → Ex H H1 → f y = true → Ev te ((wipe σ vs).set j (some (.int (y : Nat)))) H1 (v y)) :
    EvL (tLc (iList K tl) (gName j) tt te vs) σ H ((zs.filter f).map v) := by
  have := el_lcL (K := K) (t := tt) (te := te) (fun i => f (zs[i]?.getD 0)) (fun i => v (zs[i]?.getD 0)) h hx (by rw [nV_len]; exact hz) hw (fun i x H1 e hx => by
    obtain ⟨y, hy, rfl⟩ := nV_get hx
    have := ht y H1 (List.mem_of_getElem? hy) e
    simp only [hy, Option.getD_some]
    exact this) (fun i x H1 e hx hf => by
    obtain ⟨y, hy, rfl⟩ := nV_get hx
    simp only [hy, Option.getD_some] at hf ⊢
    exact he y H1 (List.mem_of_getElem? hy) e hf)
  rw [nV_len] at this
  rw [given_map zs f v _ _ (fun i x hx => by simp only [hx, Option.getD_some]) (fun i x hx => by simp only [hx, Option.getD_some])] at this
  exact this
/-- over the tuple of numbers that a call hands back -/
theorem el_lcTc {sp : Sp} {E : XK} {ws : List V} {tA : TA} {j : Nat} {vs : List Nat} {zs : List Nat} (f : Nat → Bool) (v : Nat → V) (h : EvA tA σ H ws) (hs : ∀ H1, Ex H H1 → ∀ Q : VK, (∀ p H2, H1 p = none → Ex H1 H2 → H2 p = some (.tup (nV zs)) → Q (.ref p) H2) → sp (ws ++ []) H1 Q E)
    (hw : ∀ x, wipe ((wipe σ vs).set j (some x)) vs = wipe σ vs) (hz : zs.length ≤ 40000)
    (ht : ∀ (y : Nat) H1, y ∈ zs → Ex H H1 → EvT tt ((wipe σ vs).set j (some (.int (y : Nat)))) H1 (f y)) (he : ∀ (y : Nat) H1, y ∈ zs → Ex H H1 → f y = true → Ev te ((wipe σ vs).set j (some (.int (y : Nat)))) H1 (v y)) :
    EvL (tLc (iTup K (tCall sp [] E tA)) (gName j) tt te vs) σ H ((zs.filter f).map v) := fun H0 e0 Q q => h H0 e0 _ fun H1 e1 => hs H1 (e0.trans e1) _ fun a H2 ha e2 h2 => by
  refine ⟨a, rfl, ⟨nV zs, st_of h2⟩, ?_⟩
  have e02 := (e0.trans e1).trans e2
  have key := given_map zs f v (fun i => f (zs[i]?.getD 0)) (fun i => v (zs[i]?.getD 0)) (fun i x hx => by simp only [hx, Option.getD_some]) (fun i x hx => by simp only [hx, Option.getD_some])
  exact lc_tailT (Qd := fun Dl H2 => Q (.ref Dl) H2) (fun i => f (zs[i]?.getD 0)) (fun i => v (zs[i]?.getD 0)) (st_of h2) (by rw [nV_len]; exact hz) hw (fun i x H3 e3 hx => by
    obtain ⟨y, hy, rfl⟩ := nV_get hx
    have := ht y H3 (List.mem_of_getElem? hy) (e02.trans e3)
    simp only [hy, Option.getD_some]
    exact this) (fun i x H3 e3 hx hf => by
    obtain ⟨y, hy, rfl⟩ := nV_get hx
    simp only [hy, Option.getD_some] at hf ⊢
    exact he y H3 (List.mem_of_getElem? hy) (e02.trans e3) hf) fun Dl H3 hD e3 h3 => q Dl H3 (fresh_back (e1.trans e2) hD) ((e1.trans e2).trans e3) (by
    rw [nV_len, key] at h3
    exact h3)
/-- {k: v}, one pair -/
theorem q_disp1 {i : Nat} {k : Nat} {tk tv : TE} (hk : ∀ H1, Ex H H1 → Ev tk σ H1 (.int (k : Nat))) (hv : ∀ H1, Ex H H1 → Ev tv σ H1 (.bl true)) (q : ∀ p H1, H p = none → Ex H H1 → H1 p = some (.dK (kD [k])) → tz D (σ.set i (some (.ref p))) H1) : tSeq (tAsg (tDisp [(tk, tv)]) (gName i)) tz D σ H := by
  intro p hp
  refine hk _ (Ex.new hp) _ (Ex.refl _) _ fun H2 e2 => hv _ ((Ex.new hp).trans e2) _ (Ex.refl _) _ fun H3 e3 => ?_
  refine ⟨e3 _ _ (e2 _ _ upd_same), [(Sum.inl (k : Int), .bl true)], rfl, (by show 1 ≤ 15; decide), ?_⟩
  refine q p _ hp (Ex.mut (((Ex.new hp).trans e2).trans e3) hp) ?_
  rw [upd_same]
  rfl
theorem et_inD {d : Addr} {F : List Nat} {x : Nat} (ha : Ev ta σ H (.int (x : Nat))) (hb : Ev tb σ H (.ref d)) (h : H d = some (.dK (kD F))) : EvT (tB (tDIn ta tb)) σ H (decide (x ∈ F)) := fun H1 e Q q =>
  ha H1 e _ fun H2 e2 => hb H2 (e.trans e2) _ fun H3 e3 => ⟨d, _, rfl, DGet.k (k := Sum.inl (x : Int)) (((e.trans e2).trans e3) _ _ h), _, rfl, by
    have := q H3 (e2.trans e3)
    rw [kD_val]
    by_cases hx : x ∈ F
    · rw [if_pos hx]; rw [decide_eq_true hx] at this; exact this
    · rw [if_neg hx]; rw [decide_eq_false hx] at this; exact this⟩
theorem et_ninD {d : Addr} {F : List Nat} {x : Nat} (ha : Ev ta σ H (.int (x : Nat))) (hb : Ev tb σ H (.ref d)) (h : H d = some (.dK (kD F))) : EvT (tB (tDNotIn ta tb)) σ H (!decide (x ∈ F)) := fun H1 e Q q =>
  ha H1 e _ fun H2 e2 => hb H2 (e.trans e2) _ fun H3 e3 => ⟨d, _, rfl, DGet.k (k := Sum.inl (x : Int)) (((e.trans e2).trans e3) _ _ h), _, rfl, by
    have := q H3 (e2.trans e3)
    rw [kD_val]
    by_cases hx : x ∈ F
    · rw [if_pos hx]; rw [decide_eq_true hx] at this; exact this
    · rw [if_neg hx]; rw [decide_eq_false hx] at this; exact this⟩
/-- d[x] = True, x new -/
theorem q_putD {d : Addr} {F : List Nat} {x : Nat} {td ty tv : TE} (h : H d = some (.dK (kD F))) (hx : x ∉ F) (hz : F.length < 100000) (hd : Ev td σ H (.ref d)) (hy : Ev ty σ H (.int (x : Nat))) (hv : Ev tv σ H (.bl true)) (k : ∀ H1, Ex H H1 → tz D σ (upd H1 d (.dK (kD (F ++ [x]))))) : tSeq (sDPut td ty tv) tz D σ H :=
  hv H (Ex.refl H) _ fun H1 e1 => hd H1 e1 _ fun H2 e2 => hy H2 (e1.trans e2) _ fun H3 e3 => ⟨d, _, rfl, DPut.k (k := Sum.inl (x : Int)) (((e1.trans e2).trans e3) _ _ h) (sz_lt (by unfold kD; rw [List.length_map]; exact hz)), by
    rw [kD_put hx]
    exact k H3 ((e1.trans e2).trans e3)⟩
/-- x = list.pop() -/
theorem q_pop {l : Addr} {xs : List V} {y : V} {i : Nat} (hl : H l = some (.lst (xs ++ [y]))) (ha : Ev ta σ H (.ref l)) (k : ∀ H1, Ex H H1 → tz D (σ.set i (some y)) (upd H1 l (.lst xs))) : tSeq (tAsg (tBM0 K "list" rPop ta) (gName i)) tz D σ H :=
  ha H (Ex.refl H) _ fun H1 e1 => ⟨.inl ⟨rfl, _, sq_of (e1 _ _ hl)⟩, l, _, y, rfl, rfl, e1 _ _ hl, by simp, by rw [List.dropLast_concat]; exact k H1 e1⟩
/-- a list's truth -/
theorem et_truL {l : Addr} {xs : List V} (ha : Ev ta σ H (.ref l)) (hl : SqL K H l xs) : EvT (fun σ H Q => ta σ H fun x H' => ∃ k, TruV K x H' k ∧ Q k H') σ H (!xs.isEmpty) := fun H1 e Q q =>
  ha H1 e _ fun H2 e2 => ⟨_, .inl ⟨xs, ex_l (e.trans e2) hl, rfl⟩, q H2 e2⟩
/-- a for over the tuple that a call hands back -/
theorem s_forTc {sp : Sp} {E : XK} {vs : List V} {tA : TA} {j : Nat} {xs : List V} (h : EvA tA σ H vs) (hs : ∀ H1, Ex H H1 → ∀ Q : VK, (∀ p H2, H1 p = none → Ex H1 H2 → H2 p = some (.tup xs) → Q (.ref p) H2) → sp (vs ++ []) H1 Q E) (PT : Addr → Nat → L2.St → Hp → Prop) (hP0 : ∀ p H1, H p = none → Ex H H1 → H1 p = some (.tup xs) → PT p 0 σ H1) (hl : ∀ p i σ' H', i ≤ xs.length → PT p i σ' H' → SqT K H' p xs)
    (hs2 : ∀ p i x σ' H', xs[i]? = some x → PT p i σ' H' → tu { D with nx := PT p (i + 1), ct := PT p (i + 1), bk := D.nx } (σ'.set j (some x)) H') (hd : ∀ p σ' H', PT p xs.length σ' H' → D.nx σ' H') : tFor (iTup K (tCall sp [] E tA)) (gName j) tu D σ H :=
  h H (Ex.refl H) _ fun H1 e1 => hs H1 e1 _ fun p H2 hp e2 h2 => ⟨p, rfl, ⟨xs, st_of h2⟩, for_tup (PT p) (hP0 p H2 (fresh_back e1 hp) (e1.trans e2) h2) (hl p) (hs2 p) (hd p)⟩
theorem et_niK {a : Addr} {xs : List V} {x : V} (ha : Ev ta σ H x) (hb : Ev tb σ H (.ref a)) (h : SqL K H a xs) (hx : flatV x = true) (hf : xs.all flatV = true) : EvT (tTest (tOp (rIn K true) ta tb)) σ H (!inV x xs) := et_test (ev_op ha hb (rv_niL h hx hf))
theorem s_forNLn {tl : TE} {tu : TS} {xs : List V} {j : Nat} (h : EvL tl σ H xs) (Pv : Addr → Nat → L2.St → Hp → Prop) (h0 : ∀ p H1, H p = none → Ex H H1 → H1 p = some (.lst xs) → Pv p 0 σ H1) (hl : ∀ p i σ' H', i ≤ xs.length → Pv p i σ' H' → SqL K H' p xs)
    (hs : ∀ p i x σ' H', xs[i]? = some x → Pv p i σ' H' → tu { D with nx := Pv p (i + 1), ct := Pv p (i + 1), bk := D.nx } (σ'.set j (some x)) H') (hd : ∀ p σ' H', Pv p xs.length σ' H' → D.nx σ' H') : tFor (iList K tl) (gName j) tu D σ H := s_forNL h Pv h0 hl hs hd
/-- over the list that a call hands back -/
theorem el_lcCall {sp : Sp} {E : XK} {ws : List V} {j : Nat} {vs : List Nat} {zs : List Nat} (enc : Nat → V) (f : Nat → Bool) (v : Nat → V) (h : EvA tA σ H ws) (hs : ∀ H1, Ex H H1 → ∀ Q : VK, (∀ p H2, H1 p = none → Ex H1 H2 → H2 p = some (.lst (zs.map enc)) → Q (.ref p) H2) → sp (ws ++ []) H1 Q E)
    (hw : ∀ x, wipe ((wipe σ vs).set j (some x)) vs = wipe σ vs) (hz : zs.length ≤ 40000)
    (ht : ∀ (y : Nat) H1, y ∈ zs → Ex H H1 → EvT tt ((wipe σ vs).set j (some (enc y))) H1 (f y)) (he : ∀ (y : Nat) H1, y ∈ zs → Ex H H1 → f y = true → Ev te ((wipe σ vs).set j (some (enc y))) H1 (v y)) :
    EvL (tLc (iList K (tCall sp [] E tA)) (gName j) tt te vs) σ H ((zs.filter f).map v) := fun H0 e0 Q q => h H0 e0 _ fun H1 e1 => hs H1 (e0.trans e1) _ fun a H2 ha e2 h2 => by
  refine ⟨a, rfl, ⟨zs.map enc, sq_of h2⟩, ?_⟩
  have e02 := (e0.trans e1).trans e2
  have get : ∀ {i : Nat} {x : V}, (zs.map enc)[i]? = some x → ∃ y, zs[i]? = some y ∧ x = enc y := fun {i x} hx => by
    rw [List.getElem?_map] at hx
    cases hy : zs[i]? with
    | none => rw [hy] at hx; cases hx
    | some y => rw [hy] at hx; cases hx; exact ⟨y, rfl, rfl⟩
  have key := given_map zs f v (fun i => f (zs[i]?.getD 0)) (fun i => v (zs[i]?.getD 0)) (fun i x hx => by simp only [hx, Option.getD_some]) (fun i x hx => by simp only [hx, Option.getD_some])
  exact lc_tail (Qd := fun Dl H2 => Q (.ref Dl) H2) (fun i => f (zs[i]?.getD 0)) (fun i => v (zs[i]?.getD 0)) (sq_of h2) (by rw [List.length_map]; exact hz) hw (fun i x H3 e3 hx => by
    obtain ⟨y, hy, rfl⟩ := get hx
    have := ht y H3 (List.mem_of_getElem? hy) (e02.trans e3)
    simp only [hy, Option.getD_some]
    exact this) (fun i x H3 e3 hx hf => by
    obtain ⟨y, hy, rfl⟩ := get hx
    simp only [hy, Option.getD_some] at hf ⊢
    exact he y H3 (List.mem_of_getElem? hy) (e02.trans e3) hf) fun Dl H3 hD e3 h3 => q Dl H3 (fresh_back (e1.trans e2) hD) ((e1.trans e2).trans e3) (by
    rw [List.length_map, key] at h3
    exact h3)
/-- over a list that stands, of numbers told by enc -/
theorem el_lcE {a : Addr} {tl : TE} {j : Nat} {vs : List Nat} {zs : List Nat} (enc : Nat → V) (f : Nat → Bool) (v : Nat → V) (h : Ev tl σ H (.ref a)) (hx : SqL K H a (zs.map enc)) (hw : ∀ x, wipe ((wipe σ vs).set j (some x)) vs = wipe σ vs) (hz : zs.length ≤ 40000)
    (ht : ∀ (y : Nat) H1, y ∈ zs → Ex H H1 → EvT tt ((wipe σ vs).set j (some (enc y))) H1 (f y)) (he : ∀ (y : Nat) H1, y ∈ zs → Ex H H1 → f y = true → Ev te ((wipe σ vs).set j (some (enc y))) H1 (v y)) :
    EvL (tLc (iList K tl) (gName j) tt te vs) σ H ((zs.filter f).map v) := by
  have get : ∀ {i : Nat} {x : V}, (zs.map enc)[i]? = some x → ∃ y, zs[i]? = some y ∧ x = enc y := fun {i x} hx => by
    rw [List.getElem?_map] at hx
    cases hy : zs[i]? with
    | none => rw [hy] at hx; cases hx
    | some y => rw [hy] at hx; cases hx; exact ⟨y, rfl, rfl⟩
  have := el_lcL (K := K) (t := tt) (te := te) (fun i => f (zs[i]?.getD 0)) (fun i => v (zs[i]?.getD 0)) h hx (by rw [List.length_map]; exact hz) hw (fun i x H1 e hx => by
    obtain ⟨y, hy, rfl⟩ := get hx
    have := ht y H1 (List.mem_of_getElem? hy) e
    simp only [hy, Option.getD_some]
    exact this) (fun i x H1 e hx hf => by
    obtain ⟨y, hy, rfl⟩ := get hx
    simp only [hy, Option.getD_some] at hf ⊢
    exact he y H1 (List.mem_of_getElem? hy) e hf)
  rw [List.length_map] at this
  rw [given_map zs f v _ _ (fun i x hx => by simp only [hx, Option.getD_some]) (fun i x hx => by simp only [hx, Option.getD_some])] at this
  exact this
end
end Fm
set_option Elab.async false
set_option linter.all false
set_option maxRecDepth 100000
set_option maxHeartbeats 1000000
namespace Fm
open PySem L2 Evl
section
variable {P : Program} {w : World} {K : PySem.W.Frag} {mg : Str → Option Value} {base : Heap}
/-! ### is_integer -/
def inRange (o : Option Int) (lo hi : Int) : Bool := match o with
  | some n => decide (lo ≤ n) && decide (n ≤ hi)
  | none => false
def spIsInt (K : PySem.W.Frag) : Sp := fun vs H Q _ => ∃ (x : V) (lo hi : Int) (o : Option Int), vs = [x, .int lo, .int hi] ∧ IntV K H x o ∧ ∀ H', Ex H H' → Q (.bl (inRange o lo hi)) H'
def spIsWhole (K : PySem.W.Frag) : Sp := fun vs H Q _ => ∃ (x : V) (o : Option Int), vs = [x] ∧ IntV K H x o ∧ ∀ H', Ex H H' → Q (.bl o.isSome) H'
abbrev s_is_whole : Stmt := top 18
theorem sc_is_whole : FnScope ["value"] ["value"] (defScope s_is_whole) := ⟨rfl, rfl, rfl, by decide +kernel, rfl, by decide +kernel, by decide +kernel⟩
theorem ok_is_whole {f : Addr} {fd : FuncData} (F : Fun K "is_whole" "is_whole" s_is_whole f fd) (T : Txt K mg) : FnOk P w K mg base CX0 1 f fd ["value"] (spIsWhole K) := by
  refine F.ok sc_is_whole (fun vs H Q E h => ?_) (fun cdv A outer s H vs Q E hr h => ?_)
  · obtain ⟨_, _, rfl, _⟩ := h
    rfl
  · obtain ⟨x, o, rfl, hx, k⟩ := h
    refine ⟨_, (pss_one (ps_ret (pe_and (pe_callB (isi_K (K := K) rfl) (by rfl) T.z_isinstance (by decide +kernel) (pa_cons (pv 0) (pa_cons (pe_bltn (v := .ty "int") (by rfl) T.z_int (by decide +kernel) rfl) pa_nil))) (pe_one (pe_not (pe_callB (isi_K (K := K) rfl) (by rfl) T.z_isinstance (by decide +kernel) (pa_cons (pv 0) (pa_cons (pe_bltn (v := .ty "bool") (by rfl) T.z_bool (by decide +kernel) rfl) pa_nil)))))))), ?_⟩
    cases o with
    | some n =>
      cases hx
      refine s_ret (v := .bl (true && !false)) (ev_andV (ev_isi (t := "int") (ev_var rfl) (.base (.int n)) (by decide +kernel)) fun _ => ev_notV (ev_isi (t := "int") (ev_var rfl) (.base (.int n)) (by decide +kernel))) fun H1 e1 => k H1 e1
    | none =>
      obtain ⟨t, ty, h | ⟨h, h2⟩⟩ := hx
      · refine s_ret (v := .bl (false && false)) (ev_andV (b := false) (ev_isi (ev_var rfl) ty h) fun z => nomatch z) fun H1 e1 => k H1 e1
      · refine s_ret (v := .bl (true && !true)) (ev_andV (ev_isi (ev_var rfl) ty h) fun _ => ev_notV (ev_isi (ev_var rfl) ty h2)) fun H1 e1 => k H1 e1
abbrev s_is_integer : Stmt := top 19
theorem sc_is_integer : FnScope ["value", "low", "high"] ["value", "low", "high"] (defScope s_is_integer) := ⟨rfl, rfl, rfl, by decide +kernel, rfl, by decide +kernel, by decide +kernel⟩
theorem ok_is_integer {f f1 : Addr} {fd fd1 : FuncData} (F : Fun K "is_integer" "is_integer" s_is_integer f fd) (T : Txt K mg) (C_is_whole : Cal P w K mg base CX0 1 "is_whole" f1 fd1 ["value"] (spIsWhole K)) : FnOk P w K mg base CX0 2 f fd ["value", "low", "high"] (spIsInt K) := by
  refine F.ok sc_is_integer (fun vs H Q E h => ?_) (fun cdv A outer s H vs Q E hr h => ?_)
  · obtain ⟨_, _, _, _, rfl, _⟩ := h
    rfl
  · obtain ⟨x, lo, hi, o, rfl, hx, k⟩ := h
    refine ⟨_, (pss_one (ps_ret (pe_and (pe_call C_is_whole.G (hr.mono (by first | decide | omega)) rfl C_is_whole.g C_is_whole.kp C_is_whole.b .nil pass0 (pa_cons (pv 0) pa_nil)) (pe_one (pe_chain op_le op_le (pv 1) (pv 0) (pv 2)))))), ?_⟩
    cases o with
    | some n =>
      cases hx
      refine s_ret (v := .bl (true && (decide (lo ≤ n) && decide (n ≤ hi)))) (ev_andV (ev_callV (ea_cons (ev_var rfl) ea_nil) fun H1 e1 Q' q => ⟨_, some n, rfl, rfl, q⟩) fun _ => ev_chain (ev_var rfl) (ev_var rfl) (ev_var rfl)) fun H1 e1 => k H1 e1
    | none =>
      refine s_ret (v := .bl (false && false)) (ev_andV (b := false) (ev_callV (ea_cons (ev_var rfl) ea_nil) fun H1 e1 Q' q => ⟨_, none, rfl, hx.up e1, q⟩) fun z => nomatch z) fun H1 e1 => k H1 e1
/-! ### check_number, all well -/
def spChkNum : Sp := fun vs H Q _ => ∃ (n lo hi : Int), vs = [.int n, .int lo, .int hi] ∧ lo ≤ n ∧ n ≤ hi ∧ ∀ H', Ex H H' → Q .non H'
abbrev s_check_number : Stmt := top 20
theorem sc_check_number : FnScope ["value", "low", "high"] ["value", "low", "high"] (defScope s_check_number) := ⟨rfl, rfl, rfl, by decide +kernel, rfl, by decide +kernel, by decide +kernel⟩
theorem ok_check_number {f f1 : Addr} {fd fd1 : FuncData} (F : Fun K "check_number" "check_number" s_check_number f fd) (T : Txt K mg) (C_is_integer : Cal P w K mg base CX0 2 "is_integer" f1 fd1 ["value", "low", "high"] (spIsInt K)) : FnOk P w K mg base CX0 3 f fd ["value", "low", "high"] spChkNum := by
  refine F.ok sc_check_number (fun vs H Q E h => ?_) (fun cdv A outer s H vs Q E hr h => ?_)
  · obtain ⟨_, _, _, rfl, _⟩ := h
    rfl
  · obtain ⟨n, lo, hi, rfl, h1, h2, k⟩ := h
    refine ⟨_, (pss_one (ps_if (pt_not (pt_val (pe_call C_is_integer.G (hr.mono (by first | decide | omega)) rfl C_is_integer.g C_is_integer.kp C_is_integer.b .nil pass0 (pa_cons (pv 0) (pa_cons (pv 1) (pa_cons (pv 2) pa_nil)))))) (pss_one ps_never) pss_nil)), ?_⟩
    refine s_when (b := false) (et_not (a := true) (et_B (ev_callV (ea_cons (ev_var rfl) (ea_cons (ev_var rfl) (ea_cons (ev_var rfl) ea_nil))) fun H1 e1 Q q => ⟨_, lo, hi, some n, rfl, rfl, fun H2 e2 => ?_⟩))) (fun z => nomatch z) fun _ H1 e1 => k H1 e1
    have : inRange (some n) lo hi = true := by simp [inRange, h1, h2]
    rw [this]
    exact q H2 e2
def spChkCells : Sp := fun vs H Q _ => ∃ (n : Nat), vs = [.int (n : Int)] ∧ 1 ≤ n ∧ n ≤ 4 ∧ ∀ H', Ex H H' → Q .non H'
abbrev s_check_cells : Stmt := top 21
theorem sc_check_cells : FnScope ["value"] ["value"] (defScope s_check_cells) := ⟨rfl, rfl, rfl, by decide +kernel, rfl, by decide +kernel, by decide +kernel⟩
theorem ok_check_cells {f f1 : Addr} {fd fd1 : FuncData} (F : Fun K "check_cells" "check_cells" s_check_cells f fd) (T : Txt K mg) (C_check_number : Cal P w K mg base CX0 3 "check_number" f1 fd1 ["value", "low", "high"] spChkNum) : FnOk P w K mg base CX0 4 f fd ["value"] spChkCells := by
  refine F.ok sc_check_cells (fun vs H Q E h => ?_) (fun cdv A outer s H vs Q E hr h => ?_)
  · obtain ⟨_, rfl, _⟩ := h
    rfl
  · obtain ⟨n, rfl, h1, h2, k⟩ := h
    refine ⟨_, (pss_one (ps_expr (pe_call C_check_number.G (hr.mono (by first | decide | omega)) rfl C_check_number.g C_check_number.kp C_check_number.b .nil pass0 (pa_cons (pv 0) (pa_cons pe_int (pa_cons (pe_glob (v := .int 4) rfl T.c_MOST_CELLS.choose_spec ⟨_, rfl⟩) pa_nil)))))), ?_⟩
    refine s_call (ea_cons (ev_var rfl) (ea_cons ev_c (ea_cons ev_c ea_nil))) fun H1 e1 => ⟨(n : Int), 1, 4, rfl, by omega, by omega, fun H2 e2 => k H2 (e1.trans e2)⟩
/-! ### is_instruction, one that is one -/
def spIsIn (K : PySem.W.Frag) : Sp := fun vs H Q _ => ∃ (c n : Nat) (v : V) (i : In), vs = [.int (c : Int), .int (n : Int), v] ∧ InAt K H v i ∧ i.ok c n ∧ i.isTouch = false ∧ ∀ H', Ex H H' → Q (.bl true) H'
/-- the words of the module's top -/
structure Wds (K : PySem.W.Frag) (mg : Str → Option Value) (aA aC aP : Addr) : Prop where
  g_ALONE : mg "ALONE" = some (.ref aA)
  g_WITH_CELL : mg "WITH_CELL" = some (.ref aC)
  g_WITH_PLACE : mg "WITH_PLACE" = some (.ref aP)
  A : ∀ H, SqT K H aA [.str "say", .str "ask", .str "stop"]
  C : ∀ H, SqT K H aC [.str "get", .str "plus", .str "minus", .str "set"]
  Pl : ∀ H, SqT K H aP [.str "zero", .str "go"]
end
end Fm
set_option Elab.async false
set_option linter.all false
set_option maxRecDepth 100000
set_option maxHeartbeats 1000000
namespace Fm
open PySem PySem.Spec PyProof.Rows L2
/-! enumerate over a tuple -/
theorem meets_enum1 {v : Value} {o : Obj} {G : Heap → Prop} (B : Begins v o G) :
    Meets (Builtin.«enumerate.__new__» ⟨[.type "enumerate", v], []⟩) (fun _ R s => G s.heap ∧
      R (.ok (.ret (.ref (s.heap.push o).objs.size))) { s with heap := (s.heap.push o).push { cls := .type "enumerate", data := .fields #[.none, .bool false, .ref s.heap.objs.size, rawInt 0, .none, .none] } }) :=
  .of_wp fun prog w A R s h => by
    obtain ⟨hp, g, d, tk, os⟩ := s; have h1 := h.1; have h2 := h.2
    have hsub := sub_enumerate
    have q1 : ∀ {A' : Around} {E : Value → Shared → Prop} {Q : Value → Shared → Prop}, Q (.ref hp.objs.size) ⟨hp.push o, g, d, tk, os⟩ → wpAny (model prog w) A' (pyIter v) Q E ⟨hp, g, d, tk, os⟩ :=
      fun q => B.iter prog w _ _ ⟨hp, g, d, tk, os⟩ _ h1 q
    wp_walk using q1
    refine wpAny_stack_any fun st => wpAny_pure ?_
    split
    · rename_i c _ _ _ _ _
      cases (c == Value.type "enumerate") <;> (wp_walk using q1; exact ⟨_, rfl, h2⟩)
    · wp_walk using q1; exact ⟨_, rfl, h2⟩
section
variable {prog : Program} {w : World} {A : Around} {E : Value → Shared → Prop} {s : Shared}
theorem call_enum_tup {a : Addr} {its : Array Value} {Q : Value → Shared → Prop} (hL : s.heap.IsTuple a its)
    (h : ∀ h', IsEnum h' (s.heap.objs.size + 1) s.heap.objs.size 0 .none → h'.IsTupleIter s.heap.objs.size a 0 → (∀ b o, s.heap.get? b = some o → h'.get? b = some o) → Q (.ref (s.heap.objs.size + 1)) { s with heap := h' }) :
    wpAny (model prog w) A (call (.type "enumerate") [.ref a]) Q E s := by
  refine callType_new F.called_enumerate (by decide) (F.typeCall_enumerate_1 _) (F.newCall_enumerate_1 _) (fun obj => F.args_object_init_2 obj _) F.entry_enumerate_new (meets_enum1 (begins_tuple a its)) ⟨hL, ?_⟩
  have hz : (s.heap.push { cls := .type "tuple_iterator", data := .fields #[.ref a, .int 0 0] }).objs.size = s.heap.objs.size + 1 := Heap.size_push ..
  rw [hz]
  have he : IsEnum ((s.heap.push { cls := .type "tuple_iterator", data := .fields #[.ref a, .int 0 0] }).push { cls := .type "enumerate", data := .fields #[.none, .bool false, .ref s.heap.objs.size, rawInt 0, .none, .none] }) (s.heap.objs.size + 1) s.heap.objs.size 0 .none := by
    have y := Heap.get?_push_size (s.heap.push { cls := .type "tuple_iterator", data := .fields #[.ref a, .int 0 0] }) (o := { cls := .type "enumerate", data := .fields #[.none, .bool false, .ref s.heap.objs.size, rawInt 0, .none, .none] }) rfl
    rw [hz] at y; exact y
  exact ⟨⟨_, he, rfl⟩, h _ he ⟨_, Heap.get?_push_of_some _ (Heap.get?_push_size _ rfl), rfl, rfl⟩ fun b o x => Heap.get?_push_of_some _ (Heap.get?_push_of_some _ x)⟩
end
def Itet (K : PySem.W.Frag) (a : Addr) : It :=
  ⟨fun i H => ∃ (xs : List V) (x : V), SqT K H a xs ∧ xs[i]? = some x, fun i H v H' => ∃ T x, v = .ref T ∧ H T = none ∧ H' = upd H T (.tup [.int (i : Nat), x]) ∧ ∀ xs, SqT K H a xs → xs[i]? = some x, fun i H => ∃ xs : List V, SqT K H a xs ∧ xs.length = i⟩
theorem turn_enumT {P : Program} {w : World} {K : PySem.W.Frag} {elts : List Expr} {kk : Nat} {tpos : Pos} (a e it : Addr) (hat : a ≠ it) :
    Turn P w K (.Tuple elts kk tpos) (Itet K a) [e, it] e (fun i h => (∃ old, IsEnum h e it ((i : Nat) : Int) old) ∧ h.IsTupleIter it a i ∧ e ≠ it ∧ e ≠ a) where
  mem := by simp
  obj := fun i h st b hb => by
    obtain ⟨⟨old, he⟩, ⟨o, ho, hc, hd⟩, _⟩ := st
    rcases (show b = e ∨ b = it by simpa using hb) with z | z
    · rw [z]; exact ⟨_, he, fun v q => nomatch q⟩
    · rw [z]; exact ⟨o, ho, fun v q => by rw [hd] at q; cases q⟩
  keep := fun i h h' st k => let ⟨⟨old, he⟩, hi, hne⟩ := st; ⟨⟨old, k e (by simp) _ he⟩, hi.at fun o q => k it (by simp) o q, hne⟩
  item := by
    intro X hP hw hK hc i pins s σ H E I hf st hg
    subst hP hw hK
    obtain ⟨⟨old, he⟩, hit, hne, hea⟩ := st
    obtain ⟨xs, x, hq, hx⟩ := hg
    obtain ⟨its, rv, p, hz⟩ := I.tuple hq
    obtain ⟨u, hu, ru⟩ := rv.get hx
    have p' : s.heap.IsTuple a its.toArray := p
    have hel : e < s.heap.objs.size := Heap.lt_size he
    have hil : it < s.heap.objs.size := by obtain ⟨_, q, _⟩ := hit; exact Heap.lt_size q
    have hil2 : i < its.toArray.size := by
      have := (List.getElem?_eq_some_iff.mp hu).1
      simpa using this
    refine wpAny_pyNext_enum_itemC (Draws.tuple (A := X.A.in1) (I.ok.hd hc) it a hat its.toArray) he ⟨hit, p'⟩ hil2 hne (by simp [hne, hea]) fun x2 h' tk hP2 ho hst' hT hsz hk => ?_
    have ex2 : x2 = u := by
      have q : its.toArray[i]? = some x2 := hP2
      rw [List.getElem?_toArray, hu] at q
      exact (Option.some.inj q).symm
    subst ex2
    refine ⟨_, rfl, wpAny_letOwnedTupleGo_enum (s := { s with heap := h', toks := tk + 1 }) ho fun h'' he' sb => ?_⟩
    have hT2 : h''.get? s.heap.objs.size = some { cls := .type "tuple", data := .seq #[.int i tk, x2] } := (sb.2 _ (Nat.ne_of_gt hel)).trans hT
    have new : ObjOk X.prog X.w (upd H s.heap.objs.size (.tup [.int (i : Nat), x])) h'' s.heap.objs.size (.tup [.int (i : Nat), x]) :=
      ⟨by show 2 ≤ sizeLine; decide, [.int i tk, x2], .cons ⟨_, rfl⟩ (.cons ru .nil), ⟨_, hT2, rfl, _, rfl⟩⟩
    have I1 : Inv X pins σ (upd H s.heap.objs.size (.tup [.int (i : Nat), x])) { s with heap := h'', toks := tk + 1 } :=
      I.turnedNew (ch := [e, it]) (fun b ob hb q => (sb.2 b (fun z => hb (by simp [z]))).trans (hk b ob (fun z => hb (by simp [z])) (fun z => hb (by simp [z])) q)) hf (Nat.le_refl _) new
    refine ⟨.ref s.heap.objs.size, _, I1, rfl, ⟨_, x, rfl, I.hok.fresh (Nat.le_refl _), rfl, fun ys hy => by rw [I.tuple_inj hy hq]; exact hx⟩, ⟨⟨x2, ?_⟩, hst'.1.at fun o q => (sb.2 it (Ne.symm hne)).trans q, hne, hea⟩, fun b hb => ?_⟩
    · have e1 : ((i + 1 : Nat) : Int) = (i : Int) + 1 := by omega
      rw [e1]; exact he'
    · have hb' : b < s.heap.objs.size := by
        rcases (show b = e ∨ b = it by simpa using hb) with z | z
        · rw [z]; exact hel
        · rw [z]; exact hil
      rw [upd_ne (Nat.ne_of_lt hb')]
      exact (hf b hb).1
  done := by
    intro X hP hw hK hc i pins s σ H E I hf st hg
    subst hP hw hK
    obtain ⟨⟨old, he⟩, hit, hne, hea⟩ := st
    obtain ⟨xs, hq, hx⟩ := hg
    obtain ⟨its, rv, p, hz⟩ := I.tuple hq
    have p' : s.heap.IsTuple a its.toArray := p
    obtain ⟨f0, f1, f2, f3, f4, f5⟩ := hf it (by simp)
    have hl := rv.length
    have hsz : its.toArray.size = i := by
      rw [List.size_toArray]
      omega
    refine wpAny_pyNext_enum_endD (Draws.tuple (A := X.A.in1) (I.ok.hd hc) it a hat its.toArray) he ⟨by rw [hsz]; exact hit, p'⟩ fun h' eb => ⟨rfl, I.turned (t' := s.toks) (fun b o hb q => eb b o hb q) f0 f1 f3 f4 f5⟩
  self := fun A i s Q E st h => let ⟨⟨_, he⟩, _⟩ := st; wpAny_pyIter_enum he h
def iEnumT (K : PySem.W.Frag) (ta : TA) : TI := fun σ H R => ta σ H fun vs H1 => ∃ a xs, vs = [.ref a] ∧ SqT K H1 a xs ∧ R (Itet K a) H1
theorem pi_enumT {X : Cx} {e : Expr} {ta : TA} {p pos tpos : Pos} {elts : List Expr} {kk : Nat} (hg : Gl X "enumerate") (hm : X.mg "enumerate" = none) (ha : PA X [e] ta) (hs : starEach [e] X.env = [(false, eval e X.env)] := by rfl) :
    PI X (.Tuple elts kk tpos) (.Call (.Name "enumerate" p) [e] [] pos) (iEnumT X.K ta) := by
  refine ⟨fun pins s σ H R I h => ?_⟩
  refine Call_ (ld_blt I hg hm boot_enumerate (PyProof.Rows.callWith_type1 (thn (ha.run pos pins s σ H _ I h) fun us s1 ⟨vs, H1, I1, r1, q1⟩ => ?_) hs rfl))
  obtain ⟨a, xs, ex, hq, q⟩ := q1
  subst ex
  cases r1 with
  | cons r rr =>
    cases rr
    cases r
    obtain ⟨its, rv, p', hz⟩ := I1.tuple hq
    have p'' : s1.heap.IsTuple a its.toArray := p'
    have hal : a < s1.heap.objs.size := p'.lt
    refine call_enum_tup p'' fun h' he hit hk => wpAny_pyIter_enum he ?_
    have I2 : Inv X pins σ H1 { s1 with heap := h' } := I1.kept (t' := s1.toks) hk
    refine ⟨s1.heap.objs.size + 1, [s1.heap.objs.size + 1, s1.heap.objs.size], _, _, H1, rfl, I2, turn_enumT a (s1.heap.objs.size + 1) s1.heap.objs.size (Nat.ne_of_lt hal), ⟨⟨.none, he⟩, hit, Nat.succ_ne_self _, Nat.ne_of_gt (Nat.lt_succ_of_lt hal)⟩, fun b hb => ?_, q⟩
    have hle : s1.heap.objs.size ≤ b := by
      rcases (show b = s1.heap.objs.size + 1 ∨ b = s1.heap.objs.size by simpa using hb) with z | z
      · rw [z]; exact Nat.le_add_right _ _
      · rw [z]; exact Nat.le_refl _
    exact I1.fpOk hle (I1.hok.fresh hle)
open Evl in
/-- for i, x in enumerate(t), t a tuple; Pv by the turn -/
theorem s_forET {K : PySem.W.Frag} {a : Addr} {xs : List V} {te : TE} {i j : Nat} {tu : TS} {D : Ends} {σ : L2.St} {H : Hp} (h : Ev te σ H (.ref a)) (hx : SqT K H a xs) (Pv : Nat → L2.St → Hp → Prop) (h0 : ∀ H1, Ex H H1 → Pv 0 σ H1)
    (hl : ∀ m σ' H', m ≤ xs.length → Pv m σ' H' → SqT K H' a xs)
    (hs : ∀ m x σ' H', xs[m]? = some x → Pv m σ' H' → ∀ H2, Ex H' H2 → tu { D with nx := Pv (m + 1), ct := Pv (m + 1), bk := D.nx } ((σ'.set i (some (.int (m : Int)))).set j (some x)) H2) (hd : ∀ σ' H', Pv xs.length σ' H' → D.nx σ' H') :
    tFor (iEnumT K (tCons te tNil)) (gTup K 2 (gCons (gName i) (gCons (gName j) gNil))) tu D σ H := h H (Ex.refl H) _ fun H1 e => by
  refine ⟨a, xs, rfl, ex_t e hx, fun m μ σ H => μ = xs.length - m ∧ m ≤ xs.length ∧ Pv m σ H, ⟨xs.length, by simp, Nat.zero_le _, h0 H1 e⟩, ?_⟩
  rintro m μ σ2 H2 ⟨rfl, hm, p⟩
  have q := hl m σ2 H2 hm p
  by_cases hlt : m < xs.length
  · refine .inr ⟨⟨xs, xs[m], q, by simp [hlt]⟩, Pv (m + 1), fun σ' H' p' => ⟨xs.length - (m + 1), by omega, rfl, hlt, p'⟩, ?_⟩
    rintro v H3 ⟨T, x, rfl, hT, rfl, hy⟩
    refine ⟨T, _, rfl, SqT.of upd_same, rfl, _, _, rfl, ?_⟩
    refine ⟨_, _, rfl, ?_⟩
    exact ⟨rfl, hs m x σ2 H2 (hy xs q) p _ (Ex.new hT)⟩
  · have e2 : m = xs.length := by omega
    subst e2
    exact .inl ⟨⟨xs, q, rfl⟩, hd σ2 H2 p⟩
open Evl in
theorem q_forET {K : PySem.W.Frag} {a : Addr} {xs : List V} {te : TE} {i j : Nat} {tu tz : TS} {D : Ends} {σ : L2.St} {H : Hp} (h : Ev te σ H (.ref a)) (hx : SqT K H a xs) (Pv : Nat → L2.St → Hp → Prop) (h0 : ∀ H1, Ex H H1 → Pv 0 σ H1)
    (hl : ∀ m σ' H', m ≤ xs.length → Pv m σ' H' → SqT K H' a xs)
    (hs : ∀ m x σ' H', xs[m]? = some x → Pv m σ' H' → ∀ H2, Ex H' H2 → tu { D with nx := Pv (m + 1), ct := Pv (m + 1), bk := tz D } ((σ'.set i (some (.int (m : Int)))).set j (some x)) H2) (hd : ∀ σ' H', Pv xs.length σ' H' → tz D σ' H') :
    tSeq (tFor (iEnumT K (tCons te tNil)) (gTup K 2 (gCons (gName i) (gCons (gName j) gNil))) tu) tz D σ H := s_forET (D := { D with nx := tz D }) h hx Pv h0 hl hs hd
end Fm
set_option Elab.async false
set_option linter.all false
set_option maxRecDepth 100000
set_option maxHeartbeats 1000000
namespace Fm
open PySem L2 Evl
section
variable {K : PySem.W.Frag} {H : Hp} {σ : L2.St} {ta tb : TE}
def In.one : In → Bool
  | .say => true | .ask => true | .stop => true
  | _ => false
def In.cel : In → Bool
  | .get _ => true | .plus _ => true | .minus _ => true | .set _ => true
  | _ => false
def In.pla : In → Bool
  | .zero _ => true | .go _ => true
  | _ => false
theorem w_one (i : In) : inV (V.str i.w) [.str "say", .str "ask", .str "stop"] = i.one := by cases i <;> kernel_rfl
theorem w_cel (i : In) : inV (V.str i.w) [.str "get", .str "plus", .str "minus", .str "set"] = i.cel := by cases i <;> kernel_rfl
theorem w_pla (i : In) : inV (V.str i.w) [.str "zero", .str "go"] = i.pla := by cases i <;> kernel_rfl
def In.isPut : In → Bool
  | .put _ => true
  | _ => false
theorem w_put (i : In) : decide (V.str i.w = V.str "put") = i.isPut := by cases i <;> kernel_rfl
theorem vs_len (i : In) : i.vs.length = (match i.arg with | none => 1 | some _ => 2) := by
  unfold In.vs
  cases i <;> rfl
theorem ev_neg {i : Int} (h : Ev ta σ H (.int i)) : Ev (tUn (rU fun i => .int (-i)) ta) σ H (.int (-i)) := ev_un h ru_neg
end
structure WdR (K : PySem.W.Frag) (mg : Str → Option Value) (aR : Addr) : Prop where
  g_READS : mg "READS" = some (.ref aR)
  R : ∀ H, SqT K H aR [.str "get", .str "plus", .str "minus"]
def In.rd : In → Bool
  | .get _ => true | .plus _ => true | .minus _ => true
  | _ => false
theorem w_rd (i : In) : inV (V.str i.w) [.str "get", .str "plus", .str "minus"] = i.rd := by cases i <;> kernel_rfl
def In.isSet : In → Bool
  | .set _ => true
  | _ => false
theorem w_set (i : In) : decide (V.str i.w = V.str "set") = i.isSet := by cases i <;> kernel_rfl
section
variable {P : Program} {w : World} {K : PySem.W.Frag} {mg : Str → Option Value} {base : Heap}
abbrev s_is_instruction : Stmt := top 28
theorem sc_is_instruction : FnScope ["cells", "length", "value", "word"] ["cells", "length", "value"] (defScope s_is_instruction) := ⟨rfl, rfl, rfl, by decide +kernel, rfl, by decide +kernel, by decide +kernel⟩
--TY is_instruction {'value':('tuple','any')}
theorem ok_is_instruction {f f1 aA aC aP : Addr} {fd fd1 : FuncData} (F : Fun K "is_instruction" "is_instruction" s_is_instruction f fd) (T : Txt K mg) (Wd : Wds K mg aA aC aP) (C_is_integer : Cal P w K mg base CX0 2 "is_integer" f1 fd1 ["value", "low", "high"] (spIsInt K)) : FnOk P w K mg base CX0 3 f fd ["cells", "length", "value"] (spIsIn K) := by
  refine F.ok sc_is_instruction (fun vs H Q E h => ?_) (fun cdv A outer s H vs Q E hr h => ?_)
  · obtain ⟨_, _, _, _, rfl, _⟩ := h
    rfl
  · obtain ⟨c, n, v, i, rfl, ⟨b, rfl, hb⟩, hok, hT, k⟩ := h
    refine ⟨_, (pss_cons (ps_if (PW.pt (pw_or (pt_not (pt_val (pe_callB (isi_K (K := K) rfl) (by rfl) T.z_isinstance (by decide +kernel) (pa_cons (pv 2) (pa_cons (pe_bltn (v := .ty "tuple") (by rfl) T.z_tuple (by decide +kernel) rfl) pa_nil))))) (pw_or1 (pt_cmpR (nin_K (K := K) rfl) (pe_callB (len_K (K := K) rfl) (by rfl) T.z_len (by decide +kernel) (pa_cons (pv 2) pa_nil)) (pe_tup (pa_cons pe_int (pa_cons pe_int pa_nil))) (by rfl))))) (pss_one (ps_ret pe_bl)) pss_nil)
  (pss_cons (ps_set (i := 3) sc_is_instruction.nd rfl (Or.inl rfl) (pe_ix (ix_K (K := K) rfl) (pv 2) pe_int (fun _ _ => rfl)))
  (pss_cons (ps_if (pt_cmpR op_eq (pe_callB (len_K (K := K) rfl) (by rfl) T.z_len (by decide +kernel) (pa_cons (pv 2) pa_nil)) pe_int (nomark _)) (pss_one (ps_ret (pe_cmpR (in_K (K := K) rfl) (pv 3) (pe_glob (v := .ref _) rfl Wd.g_ALONE rfl) (by rfl)))) pss_nil)
  (pss_cons (ps_if (pt_cmpR (in_K (K := K) rfl) (pv 3) (pe_glob (v := .ref _) rfl Wd.g_WITH_CELL rfl) (by rfl)) (pss_one (ps_ret (pe_call C_is_integer.G (hr.mono (by first | decide | omega)) rfl C_is_integer.g C_is_integer.kp C_is_integer.b .nil pass0 (pa_cons (pe_ix (ix_K (K := K) rfl) (pv 2) pe_int (fun _ _ => rfl)) (pa_cons pe_int (pa_cons (pe_op op_sub (pv 0) pe_int) pa_nil)))))) pss_nil)
  (pss_cons (ps_if (pt_cmpR (in_K (K := K) rfl) (pv 3) (pe_glob (v := .ref _) rfl Wd.g_WITH_PLACE rfl) (by rfl)) (pss_one (ps_ret (pe_call C_is_integer.G (hr.mono (by first | decide | omega)) rfl C_is_integer.g C_is_integer.kp C_is_integer.b .nil pass0 (pa_cons (pe_ix (ix_K (K := K) rfl) (pv 2) pe_int (fun _ _ => rfl)) (pa_cons pe_int (pa_cons (pv 1) pa_nil)))))) pss_nil)
  (pss_one (ps_ret (pe_and (pe_cmpR op_eq (pv 3) pe_str (nomark _)) (pe_one (pe_call C_is_integer.G (hr.mono (by first | decide | omega)) rfl C_is_integer.g C_is_integer.kp C_is_integer.b .nil pass0 (pa_cons (pe_ix (ix_K (K := K) rfl) (pv 2) pe_int (fun _ _ => rfl)) (pa_cons (pe_un un_neg (pe_glob (v := .int 1000000) rfl T.c_MILLION.choose_spec ⟨_, rfl⟩)) (pa_cons (pe_glob (v := .int 1000000) rfl T.c_MILLION.choose_spec ⟨_, rfl⟩) pa_nil))))))))))))), ?_⟩
    have hlen := vs_len i
    have hin : inV (V.int (i.vs.length : Int)) [.int 1, .int 2] = true := by
      rw [hlen]
      cases i <;> rfl
    refine q_when (b := false) (et_is (et_or (b := false) (et_not (et_B (ev_isi (t := "tuple") (b := true) (ev_var rfl) (ty_tup hb) (by decide +kernel)))) fun _ => et_is (et_test (ev_niU (ev_lnT (ev_var rfl) hb) (eu_tup (ea_cons ev_c (ea_cons ev_c ea_nil)) (by decide)) rfl rfl)) (by rw [hin]; rfl)) rfl) (fun z => nomatch z) fun _ H1 e1 => ?_
    have hb1 := ex_t e1 hb
    refine q_asg (ev_ixT (ev_var rfl) ev_c hb1 (vs_0 i)) fun H2 e2 => ?_
    have hb2 := ex_t e2 hb1
    refine q_when (et_eq (ev_lnT (ev_var rfl) hb2) ev_c rfl) (fun hc H3 e3 => ?_) (fun hc H3 e3 => ?_)
    · have ha : i.one = true := by
        have := of_decide_eq_true hc
        cases i <;> simp_all [In.isTouch, In.one, In.vs, In.arg]
      refine s_ret (ev_inK (ev_var rfl) ev_c (Wd.A _) rfl rfl) fun H4 e4 => ?_
      rw [w_one, ha]
      exact k H4 (((e1.trans e2).trans e3).trans e4)
    · obtain ⟨z, hz⟩ : ∃ z, i.arg = some z := by
        have := of_decide_eq_false hc
        cases i <;> simp_all [In.isTouch, In.vs, In.arg]
      have hb3 := ex_t e3 hb2
      refine q_when (et_inK (ev_var rfl) ev_c (Wd.C _) rfl rfl) (fun hc2 H4 e4 => ?_) (fun hc2 H4 e4 => ?_)
      · rw [w_cel] at hc2
        refine s_callR (ea_cons (ev_ixT (ev_var rfl) ev_c (ex_t e4 hb3) (vs_1 hz)) (ea_cons ev_c (ea_cons (ev_i0 (ev_var rfl) ev_c) ea_nil))) fun H5 e5 => ⟨_, 0, (c : Int) - 1, some z, rfl, rfl, fun H6 e6 => ?_⟩
        have : inRange (some z) 0 ((c : Int) - 1) = true := by
          cases i <;> simp_all [In.isTouch, In.cel, In.ok, In.arg, inRange] <;> omega
        rw [this]
        exact k H6 (((((e1.trans e2).trans e3).trans e4).trans e5).trans e6)
      · rw [w_cel] at hc2
        refine q_when (et_inK (ev_var rfl) ev_c (Wd.Pl _) rfl rfl) (fun hc3 H5 e5 => ?_) (fun hc3 H5 e5 => ?_)
        · rw [w_pla] at hc3
          refine s_callR (ea_cons (ev_ixT (ev_var rfl) ev_c (ex_t (e4.trans e5) hb3) (vs_1 hz)) (ea_cons ev_c (ea_cons (ev_var rfl) ea_nil))) fun H6 e6 => ⟨_, 0, (n : Int), some z, rfl, rfl, fun H7 e7 => ?_⟩
          have : inRange (some z) 0 (n : Int) = true := by
            cases i <;> simp_all [In.isTouch, In.pla, In.ok, In.arg, inRange] <;> omega
          rw [this]
          exact k H7 ((((((e1.trans e2).trans e3).trans e4).trans e5).trans e6).trans e7)
        · rw [w_pla] at hc3
          have hp : i.isPut = true := by cases i <;> simp_all [In.isTouch, In.pla, In.cel, In.isPut, In.ok, In.arg]
          refine s_ret (v := .bl true) (ev_is (ev_andV (ev_op (ev_var rfl) ev_c (rv_eq rfl)) (b := true) fun _ => ev_callV (ea_cons (ev_ixT (ev_var rfl) ev_c (ex_t (e4.trans e5) hb3) (vs_1 hz)) (ea_cons (ev_neg ev_c) (ea_cons ev_c ea_nil))) fun H6 e6 Q q => ⟨_, -1000000, 1000000, some z, rfl, rfl, fun H7 e7 => ?_⟩) (by rw [w_put, hp]; rfl)) fun H6 e6 => k H6 (((((e1.trans e2).trans e3).trans e4).trans e5).trans e6)
          have : inRange (some z) (-1000000) 1000000 = true := by
            cases i <;> simp_all [In.isTouch, In.isPut, In.ok, In.arg, inRange]
          rw [this]
          exact q H7 e7
/-! ### check_length, well -/
def spChkLen (K : PySem.W.Frag) : Sp := fun vs H Q _ => ∃ (a : Addr) (xs : List V) (m : Nat), vs = [.ref a, .int (m : Int)] ∧ SqT K H a xs ∧ 1 ≤ xs.length ∧ xs.length ≤ m ∧ ∀ H', Ex H H' → Q .non H'
abbrev s_check_length : Stmt := top 30
theorem sc_check_length : FnScope ["value", "most"] ["value", "most"] (defScope s_check_length) := ⟨rfl, rfl, rfl, by decide +kernel, rfl, by decide +kernel, by decide +kernel⟩
--TY check_length {'value':('tuple','any')}
theorem ok_check_length {f : Addr} {fd : FuncData} (F : Fun K "check_length" "check_length" s_check_length f fd) (T : Txt K mg) : FnOk P w K mg base CX0 2 f fd ["value", "most"] (spChkLen K) := by
  refine F.ok sc_check_length (fun vs H Q E h => ?_) (fun cdv A outer s H vs Q E hr h => ?_)
  · obtain ⟨_, _, _, rfl, _⟩ := h
    rfl
  · obtain ⟨a, xs, m, rfl, ha, h1, h2, k⟩ := h
    refine ⟨_, (pss_one (ps_if (PW.pt (pw_or (pt_not (pt_val (pe_callB (isi_K (K := K) rfl) (by rfl) T.z_isinstance (by decide +kernel) (pa_cons (pv 0) (pa_cons (pe_bltn (v := .ty "tuple") (by rfl) T.z_tuple (by decide +kernel) rfl) pa_nil))))) (pw_or1 (pt_not (pt_chain op_le op_le pe_int (pe_callB (len_K (K := K) rfl) (by rfl) T.z_len (by decide +kernel) (pa_cons (pv 0) pa_nil)) (pv 1)))))) (pss_one ps_never) pss_nil)), ?_⟩
    refine s_when (b := false) (et_is (et_or (b := false) (et_not (et_B (ev_isi (t := "tuple") (b := true) (ev_var rfl) (ty_tup ha) (by decide +kernel)))) fun _ => et_is (et_not (et_test (ev_chain ev_c (ev_lnT (ev_var rfl) ha) (ev_var rfl)))) ?_) rfl) (fun z => nomatch z) fun _ H1 e1 => k H1 e1
    have e1 : decide ((1 : Int) ≤ (xs.length : Int)) = true := decide_eq_true (by omega)
    have e2 : decide ((xs.length : Int) ≤ (m : Int)) = true := decide_eq_true (by omega)
    rw [e1, e2]
    rfl
/-! ### check_program, well -/
def spChkPg (K : PySem.W.Frag) : Sp := fun vs H Q _ => ∃ (c : Nat) (a : Addr) (p : List In), vs = [.int (c : Int), .ref a] ∧ PgT K H a p ∧ Pok c p ∧ NoT p ∧ p.length ≤ 20 ∧ ∀ H', Ex H H' → Q .non H'
abbrev s_check_program : Stmt := top 31
theorem sc_check_program : FnScope ["cells", "value", "index", "instruction"] ["cells", "value"] (defScope s_check_program) := ⟨rfl, rfl, rfl, by decide +kernel, rfl, by decide +kernel, by decide +kernel⟩
--TY check_program {'value':('tuple','any')}
theorem ok_check_program {f f1 f2 : Addr} {fd fd1 fd2 : FuncData} (F : Fun K "check_program" "check_program" s_check_program f fd) (T : Txt K mg) (C_check_length : Cal P w K mg base CX0 2 "check_length" f1 fd1 ["value", "most"] (spChkLen K)) (C_is_instruction : Cal P w K mg base CX0 3 "is_instruction" f2 fd2 ["cells", "length", "value"] (spIsIn K)) : FnOk P w K mg base CX0 4 f fd ["cells", "value"] (spChkPg K) := by
  refine F.ok sc_check_program (fun vs H Q E h => ?_) (fun cdv A outer s H vs Q E hr h => ?_)
  · obtain ⟨_, _, _, rfl, _⟩ := h
    rfl
  · obtain ⟨c, a, p, rfl, hp, hok, hT, hl, k⟩ := h
    refine ⟨_, (pss_cons (ps_expr (pe_call C_check_length.G (hr.mono (by first | decide | omega)) rfl C_check_length.g C_check_length.kp C_check_length.b .nil pass0 (pa_cons (pv 1) (pa_cons (pe_glob (v := .int 20) rfl T.c_MOST_INSTRUCTIONS.choose_spec ⟨_, rfl⟩) pa_nil))))
  (pss_one (ps_for PassesOwn.never rfl (pi_enumT (by rfl) T.z_enumerate (pa_cons (pv 1) pa_nil)) (pg_tup rfl (pgs_cons (pg_name (i := 2) sc_check_program.nd rfl (by first | exact Or.inl rfl | exact Or.inr rfl)) (pgs_cons (pg_name (i := 3) sc_check_program.nd rfl (by first | exact Or.inl rfl | exact Or.inr rfl)) pgs_nil))) (pss_one (ps_if (pt_not (pt_val (pe_call C_is_instruction.G (hr.mono (by first | decide | omega)) rfl C_is_instruction.g C_is_instruction.kp C_is_instruction.b .nil pass0 (pa_cons (pv 0) (pa_cons (pe_callB (len_K (K := K) rfl) (by rfl) T.z_len (by decide +kernel) (pa_cons (pv 1) pa_nil)) (pa_cons (pv 3) pa_nil)))))) (pss_one ps_never) pss_nil))))), ?_⟩
    obtain ⟨xs, hx, hpx⟩ := id hp
    have hxl : xs.length = p.length := Paired.length hpx
    refine q_call (ea_cons (ev_var rfl) (ea_cons ev_c ea_nil)) fun H1 e1 => ⟨a, xs, 20, rfl, ex_t e1 hx, by rw [hxl]; exact hok.1, by omega, fun H2 e2 => ?_⟩
    have e02 := e1.trans e2
    refine s_forET (ev_var rfl) (ex_t e02 hx) (fun m σ H' => Ex H H' ∧ ∃ y z, σ = [some (.int (c : Int)), some (.ref a), y, z]) (fun H3 e3 => ⟨e02.trans e3, _, _, rfl⟩) (fun m σ H' _ ⟨e, _⟩ => ex_t e hx) ?_ fun σ H' ⟨e, _⟩ => k H' e
    rintro m x σ H' hm ⟨e, y, z, rfl⟩ H3 e3
    have hml : m < p.length := by
      have := (List.getElem?_eq_some_iff.mp hm).1
      omega
    obtain ⟨x', hx', hin⟩ := paired_get hpx (List.getElem?_eq_getElem hml)
    have : x' = x := by
      rw [hm] at hx'
      exact (Option.some.inj hx').symm
    subst this
    have hp3 := hp.up (e.trans e3)
    refine s_when (b := false) (et_not (a := true) (et_B (ev_callV (ea_cons (ev_var rfl) (ea_cons (ev_lnP hp3 (ev_var rfl)) (ea_cons (ev_var rfl) ea_nil))) fun H4 e4 Q q => ⟨c, p.length, _, _, rfl, hin.up ((e.trans e3).trans e4), hok.2 _ (List.getElem_mem hml), hT _ (List.getElem_mem hml), q⟩))) (fun z => nomatch z) fun _ H4 e4 => ⟨(e.trans e3).trans e4, _, _, rfl⟩
end
end Fm
set_option Elab.async false
set_option linter.all false
set_option maxRecDepth 100000
set_option maxHeartbeats 1000000
namespace Fm
open PySem L2 Evl
/-- a machine of these fades and rows stands at m -/
def MaT (K : PySem.W.Frag) (H : Hp) (m : Addr) (fs rs : List Nat) : Prop := ∃ a b : Addr, SqT K H m [.ref a, .ref b] ∧ SqT K H a (nV fs) ∧ SqT K H b (nV rs)
theorem MaT.up {K : PySem.W.Frag} {H H' : Hp} {m : Addr} {fs rs : List Nat} (e : Ex H H') (h : MaT K H m fs rs) : MaT K H' m fs rs := let ⟨a, b, h1, h2, h3⟩ := h; ⟨a, b, ex_t e h1, ex_t e h2, ex_t e h3⟩
/-- what a touch makes of a life -/
def tch (fs rs ls : List Nat) (c i : Nat) : Nat := if ls.getD i 0 = 0 then 0 else if rs.getD i 0 = rs.getD c 0 then fs.getD i 0 else ls.getD i 0 - 1
def touchL (fs rs ls : List Nat) (c : Nat) : List Nat := (List.range ls.length).map (tch fs rs ls c)
def setL (fs rs ls : List Nat) (c : Nat) : List Nat := (touchL fs rs ls c).set c (fs.getD c 0)
def waitL (ls : List Nat) : List Nat := ls.map (· - 1)
theorem nV_app (a b : List Nat) : nV (a ++ b) = nV a ++ nV b := List.map_append
theorem nV_at {l : List Nat} {i : Nat} (h : i < l.length) : atI (nV l) (i : Int) = some (.int (l.getD i 0 : Nat)) := atI_nat' (by
  unfold nV
  rw [List.getElem?_map, List.getElem?_eq_getElem h, List.getD_eq_getElem?_getD, List.getElem?_eq_getElem h]
  rfl)
section
variable {K : PySem.W.Frag} {σ : L2.St} {H : Hp} {ta tb te tt' : TE} {D : Ends} {tz tu : TS} {tt : TT} {tA : TA}
/-- over a tuple that stands, of numbers told by enc -/
theorem el_lcT {a : Addr} {tl : TE} {j : Nat} {vs : List Nat} {zs : List Nat} (enc : Nat → V) (f : Nat → Bool) (v : Nat → V) (h : Ev tl σ H (.ref a)) (hx : SqT K H a (zs.map enc)) (hw : ∀ x, wipe ((wipe σ vs).set j (some x)) vs = wipe σ vs) (hz : zs.length ≤ 40000)
    (ht : ∀ (y : Nat) H1, y ∈ zs → Ex H H1 → EvT tt ((wipe σ vs).set j (some (enc y))) H1 (f y)) (he : ∀ (y : Nat) H1, y ∈ zs → Ex H H1 → f y = true → Ev te ((wipe σ vs).set j (some (enc y))) H1 (v y)) :
    EvL (tLc (iTup K tl) (gName j) tt te vs) σ H ((zs.filter f).map v) := fun H0 e0 Q q => h H0 e0 _ fun H2 e2 => by
  have e02 := e0.trans e2
  refine ⟨a, rfl, ⟨zs.map enc, ex_t e02 hx⟩, ?_⟩
  have get : ∀ {i : Nat} {x : V}, (zs.map enc)[i]? = some x → ∃ y, zs[i]? = some y ∧ x = enc y := fun {i x} hx => by
    rw [List.getElem?_map] at hx
    cases hy : zs[i]? with
    | none => rw [hy] at hx; cases hx
    | some y => rw [hy] at hx; cases hx; exact ⟨y, rfl, rfl⟩
  have key := given_map zs f v (fun i => f (zs[i]?.getD 0)) (fun i => v (zs[i]?.getD 0)) (fun i x hx => by simp only [hx, Option.getD_some]) (fun i x hx => by simp only [hx, Option.getD_some])
  exact lc_tailT (Qd := fun Dl H2 => Q (.ref Dl) H2) (fun i => f (zs[i]?.getD 0)) (fun i => v (zs[i]?.getD 0)) (ex_t e02 hx) (by rw [List.length_map]; exact hz) hw (fun i x H3 e3 hx => by
    obtain ⟨y, hy, rfl⟩ := get hx
    have := ht y H3 (List.mem_of_getElem? hy) (e02.trans e3)
    simp only [hy, Option.getD_some]
    exact this) (fun i x H3 e3 hx hf => by
    obtain ⟨y, hy, rfl⟩ := get hx
    simp only [hy, Option.getD_some] at hf ⊢
    exact he y H3 (List.mem_of_getElem? hy) (e02.trans e3) hf) fun Dl H3 hD e3 h3 => q Dl H3 (fresh_back e2 hD) (e2.trans e3) (by
    rw [List.length_map, key] at h3
    exact h3)
/-- over any tuple that stands, each turn giving one and the same value -/
theorem el_lcTv {a : Addr} {tl : TE} {j : Nat} {vs : List Nat} {xs : List V} (v : V) (h : Ev tl σ H (.ref a)) (hx : SqT K H a xs) (hw : ∀ x, wipe ((wipe σ vs).set j (some x)) vs = wipe σ vs) (hz : xs.length ≤ 40000)
    (he : ∀ (y : V) H1, y ∈ xs → Ex H H1 → Ev te ((wipe σ vs).set j (some y)) H1 v) :
    EvL (tLc (iTup K tl) (gName j) tYes te vs) σ H (xs.map fun _ => v) := fun H0 e0 Q q => h H0 e0 _ fun H2 e2 => by
  have e02 := e0.trans e2
  refine ⟨a, rfl, ⟨xs, ex_t e02 hx⟩, ?_⟩
  have hg : given xs.length (fun _ => true) (fun _ => v) = xs.map fun _ => v := by
    unfold given
    rw [List.filter_eq_self.mpr fun _ _ => rfl]
    refine List.ext_getElem (by simp) fun i h1 h2 => by simp
  exact lc_tailT (Qd := fun Dl H2 => Q (.ref Dl) H2) (fun _ => true) (fun _ => v) (ex_t e02 hx) hz hw (fun i x H3 e3 hx => et_yes) (fun i x H3 e3 hx hf => he x H3 (List.mem_of_getElem? hx) (e02.trans e3)) fun Dl H3 hD e3 h3 => q Dl H3 (fresh_back e2 hD) (e2.trans e3) (by
    rw [hg] at h3
    exact h3)
theorem q_unpack {a : Addr} {x y : V} {i j : Nat} (h : Ev te σ H (.ref a)) (ha : SqT K H a [x, y]) (k : ∀ H1, Ex H H1 → tz D ((σ.set i (some x)).set j (some y)) H1) : tSeq (tAsg te (gTup K 2 (gCons (gName i) (gCons (gName j) gNil)))) tz D σ H :=
  h H (Ex.refl H) _ fun H1 e1 => ⟨a, _, rfl, ex_t e1 ha, rfl, _, _, rfl, ⟨_, _, rfl, ⟨rfl, k H1 e1⟩⟩⟩
end
def spWaited (K : PySem.W.Frag) : Sp := fun vs H Q _ => ∃ (l : Addr) (ls : List Nat), vs = [.ref l] ∧ SqT K H l (nV ls) ∧ ls.length ≤ 10 ∧ ∀ b H', H b = none → Ex H H' → H' b = some (.tup (nV (waitL ls))) → Q (.ref b) H'
def spTouched (K : PySem.W.Frag) : Sp := fun vs H Q _ => ∃ (m l : Addr) (fs rs ls : List Nat) (c : Nat), vs = [.ref m, .ref l, .int (c : Nat)] ∧ MaT K H m fs rs ∧ SqT K H l (nV ls) ∧ fs.length = rs.length ∧ ls.length = rs.length ∧ c < rs.length ∧ rs.length ≤ 10 ∧
  ∀ b H', H b = none → Ex H H' → H' b = some (.tup (nV (touchL fs rs ls c))) → Q (.ref b) H'
def spSet (K : PySem.W.Frag) : Sp := fun vs H Q _ => ∃ (m l : Addr) (fs rs ls : List Nat) (c : Nat), vs = [.ref m, .ref l, .int (c : Nat)] ∧ MaT K H m fs rs ∧ SqT K H l (nV ls) ∧ fs.length = rs.length ∧ ls.length = rs.length ∧ c < rs.length ∧ rs.length ≤ 10 ∧
  ∀ b H', H b = none → Ex H H' → H' b = some (.tup (nV (setL fs rs ls c))) → Q (.ref b) H'
section
variable {P : Program} {w : World} {K : PySem.W.Frag} {mg : Str → Option Value} {base : Heap}
abbrev s_lives_waited : Stmt := top 35
theorem sc_lives_waited : FnScope ["lives", "life"] ["lives"] (defScope s_lives_waited) := ⟨rfl, rfl, rfl, by decide +kernel, rfl, by decide +kernel, by decide +kernel⟩
--TY lives_waited {'lives':T,'life':'int'}
theorem ok_waited {f : Addr} {fd : FuncData} (F : Fun K "lives_waited" "lives_waited" s_lives_waited f fd) (T : Txt K mg) : FnOk P w K mg base CX0 2 f fd ["lives"] (spWaited K) := by
  refine F.ok sc_lives_waited (fun vs H Q E h => ?_) (fun cdv A outer s H vs Q E hr h => ?_)
  · obtain ⟨_, _, rfl, _⟩ := h
    rfl
  · obtain ⟨l, ls, rfl, hl, hz, k⟩ := h
    refine ⟨_, (pss_one (ps_ret (pe_callTy (tpl_K (K := K) rfl) (by rfl) T.z_tuple (by decide +kernel) (pa_cons (pe_lc (own := [("life", 1)]) (g := gName 1) rfl sc_lives_waited.nd (pi_tupK (K := K) rfl (pv 0)) (blkOk_by (by kernel_rfl)) (fun _ _ _ _ _ => pg_name (i := 1) sc_lives_waited.nd rfl (by first | exact Or.inl rfl | exact Or.inr rfl)) (fun _ _ _ _ _ => pts_nil) (fun _ _ _ _ _ => (pe_ifExp (pt_cmpR op_gt (pv 1) pe_int (nomark _)) (pe_op op_sub (pv 1) pe_int) pe_int))) pa_nil)))), ?_⟩
    have key := el_lcT (K := K) (σ := [some (.ref l), none]) (H := H) (a := l) (tl := tVar 0) (j := 1) (vs := List.map (fun x => x.snd) [(("life" : Str), 1)]) (tt := tYes) (te := tIf (tTest (tOp (rI0 fun i j => .bl (decide (i > j))) (tVar 1) (tC (.int 0)))) (tOp (rI0 fun i j => .int (i - j)) (tVar 1) (tC (.int 1))) (tC (.int 0))) (zs := ls) (fun z => .int (z : Nat)) (fun _ => true) (fun z => .int (z - 1 : Nat))
      (ev_var rfl) hl (fun x => rfl) (by omega) (fun y H1 _ _ => et_yes) (fun y H1 _ _ _ => ev_if (et_i0 (ev_var rfl) ev_c) (fun hc => by
        have := of_decide_eq_true hc
        rw [show ((y - 1 : Nat) : Int) = (y : Int) - 1 by omega]
        exact ev_i0 (ev_var rfl) ev_c) (fun hc => by
        have := of_decide_eq_false hc
        rw [show ((y - 1 : Nat) : Int) = 0 by omega]
        exact ev_c))
    rw [show ls.filter (fun _ => true) = ls from List.filter_eq_self.mpr fun _ _ => rfl] at key
    refine s_retU (xs := nV (waitL ls)) (eu_tplN ?_) fun b H1 hb e1 h1 => k b H1 hb e1 h1
    have : nV (waitL ls) = ls.map fun z => V.int (z - 1 : Nat) := by unfold nV waitL; rw [List.map_map]; rfl
    rw [this]
    exact key
abbrev s_lives_touched : Stmt := top 36
theorem sc_lives_touched : FnScope ["machine", "lives", "cell", "fades", "rows", "row", "behind", "at", "life"] ["machine", "lives", "cell"] (defScope s_lives_touched) := ⟨rfl, rfl, rfl, by decide +kernel, rfl, by decide +kernel, by decide +kernel⟩
--TY lives_touched {'lives':T,'machine':T,'fades':T,'rows':T,'behind':L,'life':'int','at':'int','row':'int','cell':'int'}
theorem ok_touched {f : Addr} {fd : FuncData} (F : Fun K "lives_touched" "lives_touched" s_lives_touched f fd) (T : Txt K mg) : FnOk P w K mg base CX0 2 f fd ["machine", "lives", "cell"] (spTouched K) := by
  refine F.ok sc_lives_touched (fun vs H Q E h => ?_) (fun cdv A outer s H vs Q E hr h => ?_)
  · obtain ⟨_, _, _, _, _, _, rfl, _⟩ := h
    rfl
  · obtain ⟨m, l, fs, rs, ls, c, rfl, ⟨a, b, hm, ha, hb⟩, hl, hf, hls, hc, hz, k⟩ := h
    refine ⟨_, (pss_cons (ps_asg (pv 0) (pg_tup rfl (pgs_cons (pg_name (i := 3) sc_lives_touched.nd rfl (by first | exact Or.inl rfl | exact Or.inr rfl)) (pgs_cons (pg_name (i := 4) sc_lives_touched.nd rfl (by first | exact Or.inl rfl | exact Or.inr rfl)) pgs_nil))))
  (pss_cons (ps_set (i := 5) sc_lives_touched.nd rfl (Or.inl rfl) (pe_ix (ix_K (K := K) rfl) (pv 4) (pv 2) (fun _ _ => rfl)))
  (pss_cons (ps_set (i := 6) sc_lives_touched.nd rfl (Or.inl rfl) (pe_lst pa_nil))
  (pss_cons (ps_for PassesOwn.never rfl (pi_enumT (by rfl) T.z_enumerate (pa_cons (pv 1) pa_nil)) (pg_tup rfl (pgs_cons (pg_name (i := 7) sc_lives_touched.nd rfl (by first | exact Or.inl rfl | exact Or.inr rfl)) (pgs_cons (pg_name (i := 8) sc_lives_touched.nd rfl (by first | exact Or.inl rfl | exact Or.inr rfl)) pgs_nil))) (pss_one (ps_if (pt_cmpR op_eq (pv 8) pe_int (nomark _)) (pss_one (ps_expr (pe_bm PySem.F.plainAttrs_list PySem.F.slot_list_append PySem.F.type_list_append mt_append (pv 6) (pa_cons pe_int pa_nil)))) (pss_one (ps_if (pt_cmpR op_eq (pe_ix (ix_K (K := K) rfl) (pv 4) (pv 7) (fun _ _ => rfl)) (pv 5) (nomark _)) (pss_one (ps_expr (pe_bm PySem.F.plainAttrs_list PySem.F.slot_list_append PySem.F.type_list_append mt_append (pv 6) (pa_cons (pe_ix (ix_K (K := K) rfl) (pv 3) (pv 7) (fun _ _ => rfl)) pa_nil)))) (pss_one (ps_expr (pe_bm PySem.F.plainAttrs_list PySem.F.slot_list_append PySem.F.type_list_append mt_append (pv 6) (pa_cons (pe_op op_sub (pv 8) pe_int) pa_nil)))))))))
  (pss_one (ps_ret (pe_callTy (tpl_K (K := K) rfl) (by rfl) T.z_tuple (by decide +kernel) (pa_cons (pv 6) pa_nil)))))))), ?_⟩
    refine q_unpack (ev_var rfl) hm fun H1 e1 => ?_
    have ha1 := ex_t e1 ha
    have hb1 := ex_t e1 hb
    refine q_asg (ev_ixT (ev_var rfl) (ev_var rfl) hb1 (nV_at hc)) fun H2 e2 => ?_
    refine q_asgL (xs := nV []) (el_lst ea_nil (Nat.zero_le _)) fun d H3 hd e3 hd3 => ?_
    have e03 := (e1.trans e2).trans e3
    have hd0 : H d = none := fresh_back (e1.trans e2) hd
    refine q_forET (xs := nV ls) (ev_var rfl) (ex_t e03 hl) (fun i σ H' => ∃ z7 z8 : Option V, Ex H H' ∧ H' d = some (.lst (nV ((List.range i).map (tch fs rs ls c)))) ∧ σ = [some (.ref m), some (.ref l), some (.int (c : Nat)), some (.ref a), some (.ref b), some (.int (rs.getD c 0 : Nat)), some (.ref d), z7, z8])
      (fun H4 e4 => ⟨_, _, e03.trans e4, e4 _ _ hd3, rfl⟩) (fun i σ H' _ ⟨_, _, e, _⟩ => ex_t e hl) ?_ ?_
    · rintro i x σ H4 hi ⟨z7, z8, e4, hd4, rfl⟩ H5 e5
      obtain ⟨y, hy, rfl⟩ := nV_get hi
      have hil : i < ls.length := (List.getElem?_eq_some_iff.mp hy).1
      have hyd : ls.getD i 0 = y := by rw [List.getD_eq_getElem?_getD, hy]; rfl
      have e05 := e4.trans e5
      have hd5 := e5 _ _ hd4
      have hlen : (nV ((List.range i).map (tch fs rs ls c))).length < 100000 := by rw [nV_len, List.length_map, List.length_range]; omega
      have fin : ∀ H6, Ex H5 H6 → ∀ z : Nat, z = tch fs rs ls c i → ∃ z7 z8 : Option V, Ex H (upd H6 d (.lst (nV ((List.range i).map (tch fs rs ls c)) ++ [.int (z : Nat)]))) ∧ upd H6 d (.lst (nV ((List.range i).map (tch fs rs ls c)) ++ [.int (z : Nat)])) d = some (.lst (nV ((List.range (i + 1)).map (tch fs rs ls c)))) ∧
          ([some (.ref m), some (.ref l), some (.int (c : Nat)), some (.ref a), some (.ref b), some (.int (rs.getD c 0 : Nat)), some (.ref d), some (.int (i : Int)), some (.int (y : Nat))] : L2.St) = [some (.ref m), some (.ref l), some (.int (c : Nat)), some (.ref a), some (.ref b), some (.int (rs.getD c 0 : Nat)), some (.ref d), z7, z8] := fun H6 e6 z hz => by
        refine ⟨_, _, Ex.mut (e05.trans e6) hd0, ?_, rfl⟩
        rw [upd_same, List.range_succ, List.map_append, nV_app, hz]
        rfl
      refine s_if (et_eq (ev_var rfl) ev_c rfl) (fun hc1 H6 e6 => ?_) (fun hc1 H6 e6 => ?_)
      · have : y = 0 := by have := V.int.inj (of_decide_eq_true hc1); omega
        refine s_app (e6 _ _ hd5) (ev_var rfl) (v := .int ((0 : Nat) : Int)) ev_c hlen fun H7 e7 => fin H7 (e6.trans e7) 0 ?_
        unfold tch
        rw [hyd, if_pos this]
      · have hy0 : ¬ y = 0 := fun z => of_decide_eq_false hc1 (by rw [z]; rfl)
        have hb6 := ex_t (e05.trans e6) hb
        have ha6 := ex_t (e05.trans e6) ha
        refine s_if (et_eq (ev_ixT (ev_var rfl) (ev_var rfl) hb6 (nV_at (by omega))) (ev_var rfl) rfl) (fun hc2 H7 e7 => ?_) (fun hc2 H7 e7 => ?_)
        · have hr : rs.getD i 0 = rs.getD c 0 := by have := V.int.inj (of_decide_eq_true hc2); omega
          refine s_app ((e6.trans e7) _ _ hd5) (ev_var rfl) (ev_ixT (ev_var rfl) (ev_var rfl) (ex_t e7 ha6) (nV_at (by omega))) hlen fun H8 e8 => fin H8 ((e6.trans e7).trans e8) _ ?_
          unfold tch
          rw [hyd, if_neg hy0, if_pos hr]
        · have hr : ¬ rs.getD i 0 = rs.getD c 0 := fun z => of_decide_eq_false hc2 (by rw [z])
          refine s_app ((e6.trans e7) _ _ hd5) (ev_var rfl) (v := .int ((y - 1 : Nat) : Int)) ?_ hlen fun H8 e8 => fin H8 ((e6.trans e7).trans e8) (y - 1) ?_
          · rw [show ((y - 1 : Nat) : Int) = (y : Int) - 1 by omega]
            exact ev_i0 (ev_var rfl) ev_c
          · unfold tch
            rw [hyd, if_neg hy0, if_neg hr]
    · rintro σ H4 ⟨z7, z8, e4, hd4, rfl⟩
      rw [nV_len] at hd4
      refine s_retU (eu_tpl (ev_var rfl) (sq_of hd4)) fun q H5 hq e5 h5 => k q H5 (fresh_back e4 hq) (e4.trans e5) h5
abbrev s_lives_set : Stmt := top 37
theorem sc_lives_set : FnScope ["machine", "lives", "cell", "behind"] ["machine", "lives", "cell"] (defScope s_lives_set) := ⟨rfl, rfl, rfl, by decide +kernel, rfl, by decide +kernel, by decide +kernel⟩
--TY lives_set {'lives':T,'machine':('tuple',('tuple','int')),'behind':L,'cell':'int'}
theorem ok_set {f f1 : Addr} {fd fd1 : FuncData} (F : Fun K "lives_set" "lives_set" s_lives_set f fd) (T : Txt K mg) (C_lives_touched : Cal P w K mg base CX0 2 "lives_touched" f1 fd1 ["machine", "lives", "cell"] (spTouched K)) : FnOk P w K mg base CX0 3 f fd ["machine", "lives", "cell"] (spSet K) := by
  refine F.ok sc_lives_set (fun vs H Q E h => ?_) (fun cdv A outer s H vs Q E hr h => ?_)
  · obtain ⟨_, _, _, _, _, _, rfl, _⟩ := h
    rfl
  · obtain ⟨m, l, fs, rs, ls, c, rfl, hM, hl, hf, hls, hc, hz, k⟩ := h
    refine ⟨_, (pss_cons (ps_set (i := 3) sc_lives_set.nd rfl (Or.inl rfl) (pe_callTy (ls_K (K := K) rfl) (by rfl) T.z_list (by decide +kernel) (pa_cons (pe_call C_lives_touched.G (hr.mono (by first | decide | omega)) rfl C_lives_touched.g C_lives_touched.kp C_lives_touched.b .nil pass0 (pa_cons (pv 0) (pa_cons (pv 1) (pa_cons (pv 2) pa_nil)))) pa_nil)))
  (pss_cons (ps_asg (pe_ix (ix_K (K := K) rfl) (pe_ix (ix_K (K := K) rfl) (pv 0) pe_int (fun _ _ => rfl)) (pv 2) (fun _ _ => rfl)) (pg_sub (pv 3) (pv 2) set_list))
  (pss_one (ps_ret (pe_callTy (tpl_K (K := K) rfl) (by rfl) T.z_tuple (by decide +kernel) (pa_cons (pv 3) pa_nil)))))), ?_⟩
    refine q_asgL (xs := nV (touchL fs rs ls c)) ?_ fun d H1 hd e1 hd1 => ?_
    · intro H1 e1 Q' q
      refine m_callC (ea_cons (ev_var rfl) (ea_cons (ev_var rfl) (ea_cons (ev_var rfl) ea_nil))) fun H2 e2 => ?_
      refine ⟨m, l, fs, rs, ls, c, rfl, hM.up (e1.trans e2), ex_t (e1.trans e2) hl, hf, hls, hc, hz, fun b H3 hb e3 h3 => ?_⟩
      exact ⟨b, _, rfl, .inr (st_of h3), fun p hp => q p _ (fresh_back (e2.trans e3) hp) ((e2.trans e3).trans (Ex.new hp)) upd_same⟩
    obtain ⟨a, b, hm, ha, hb⟩ := hM.up e1
    have hlen : c < (nV (touchL fs rs ls c)).length := by rw [nV_len]; unfold touchL; rw [List.length_map, List.length_range]; omega
    refine q_setL hd1 (v := .int (fs.getD c 0 : Nat)) (ev_ixT (ev_ixT (ev_var rfl) ev_c hm rfl) (ev_var rfl) ha (nV_at (by omega))) (ev_var rfl) (ev_var rfl) hlen fun H2 e2 => ?_
    have hset : (nV (touchL fs rs ls c)).set c (.int (fs.getD c 0 : Nat)) = nV (setL fs rs ls c) := by
      unfold setL nV
      rw [List.map_set]
    rw [hset]
    have ex2 : Ex H (upd H2 d (.lst (nV (setL fs rs ls c)))) := Ex.mut (e1.trans e2) hd
    refine s_retU (eu_tpl (ev_var rfl) (sq_of upd_same)) fun q H3 hq e3 h3 => k q H3 (fresh_back ex2 hq) (ex2.trans e3) h3
end
end Fm
set_option Elab.async false
set_option linter.all false
set_option maxRecDepth 100000
set_option maxHeartbeats 1000000
namespace Fm
open PySem L2 Evl RZ
def nm (rs : List Nat) : Nat := rs.foldl (fun n r => max n (r + 1)) 0
def RowsOk (rs : List Nat) : Prop := ∀ i r, rs[i]? = some r → r ≤ nm (rs.take i)
theorem nm_succ {rs : List Nat} {i r : Nat} (h : rs[i]? = some r) : nm (rs.take (i + 1)) = max (nm (rs.take i)) (r + 1) := by
  have : rs.take (i + 1) = rs.take i ++ [r] := by rw [List.take_succ, h]; rfl
  unfold nm
  rw [this, List.foldl_append]
  rfl
structure MaOk (fs rs : List Nat) : Prop where
  l1 : 1 ≤ fs.length
  l4 : fs.length ≤ 4
  ll : fs.length = rs.length
  f : ∀ x ∈ fs, 1 ≤ x ∧ x ≤ 8
  r : RowsOk rs
def LiOk (fs ls : List Nat) : Prop := ls.length = fs.length ∧ ∀ i, i < fs.length → ls.getD i 0 ≤ fs.getD i 0
def spFades (K : PySem.W.Frag) : Sp := fun vs H Q _ => ∃ (a : Addr) (fs : List Nat), vs = [.ref a] ∧ SqT K H a (nV fs) ∧ 1 ≤ fs.length ∧ fs.length ≤ 4 ∧ (∀ x ∈ fs, 1 ≤ x ∧ x ≤ 8) ∧ ∀ H', Ex H H' → Q (.bl true) H'
def spRows (K : PySem.W.Frag) : Sp := fun vs H Q _ => ∃ (a : Addr) (rs : List Nat), vs = [.ref a] ∧ SqT K H a (nV rs) ∧ RowsOk rs ∧ rs.length ≤ 100 ∧ ∀ H', Ex H H' → Q (.bl true) H'
def spChkMa (K : PySem.W.Frag) : Sp := fun vs H Q _ => ∃ (m : Addr) (fs rs : List Nat), vs = [.ref m] ∧ MaT K H m fs rs ∧ MaOk fs rs ∧ ∀ H', Ex H H' → Q .non H'
def spChkLi (K : PySem.W.Frag) : Sp := fun vs H Q _ => ∃ (m l : Addr) (fs rs ls : List Nat), vs = [.ref m, .ref l] ∧ MaT K H m fs rs ∧ MaOk fs rs ∧ SqT K H l (nV ls) ∧ LiOk fs ls ∧ ∀ H', Ex H H' → Q .non H'
def spChkCe (K : PySem.W.Frag) : Sp := fun vs H Q _ => ∃ (m : Addr) (fs rs : List Nat) (c : Nat), vs = [.ref m, .int (c : Nat)] ∧ MaT K H m fs rs ∧ MaOk fs rs ∧ c < rs.length ∧ ∀ H', Ex H H' → Q .non H'
section
variable {K : PySem.W.Frag} {σ : L2.St} {H : Hp} {ta tb te tt' : TE} {D : Ends} {tz tu : TS} {tt : TT} {tA : TA}
theorem ev_all {bs : List Bool} (h : EvL te σ H (bs.map V.bl)) : Ev (tCB (rAll K) (tCons te tNil)) σ H (.bl (bs.all id)) := fun H1 e Q q => h H1 e _ fun p H2 hp e2 h2 => ⟨p, bs, rfl, sq_of h2, q H2 e2⟩
/-- for x, y in zip(s, t), tuples of one length -/
theorem s_forZT {a b : Addr} {xs ys : List V} {i j : Nat} (h : EvA tA σ H [.ref a, .ref b]) (hx : SqT K H a xs) (hy : SqT K H b ys) (hl : xs.length = ys.length) (Pv : Nat → L2.St → Hp → Prop) (h0 : ∀ H1, Ex H H1 → Pv 0 σ H1) (hq : ∀ m σ' H', Pv m σ' H' → Ex H H')
    (hs : ∀ m x y σ' H', xs[m]? = some x → ys[m]? = some y → Pv m σ' H' → ∀ H2, Ex H' H2 → tu { D with nx := Pv (m + 1), ct := Pv (m + 1), bk := D.nx } ((σ'.set i (some x)).set j (some y)) H2) (hd : ∀ σ' H', Pv xs.length σ' H' → D.nx σ' H') :
    tFor (iZipA K tA) (gTup K 2 (gCons (gName i) (gCons (gName j) gNil))) tu D σ H := h H (Ex.refl H) _ fun H1 e => by
  refine ⟨a, b, xs, ys, rfl, .inr ⟨ex_t e hx, ex_t e hy, ?_⟩⟩
  refine for_zipT hl Pv (h0 H1 e) (fun m σ' H' p => ⟨ex_t (hq m σ' H' p) hx, ex_t (hq m σ' H' p) hy⟩) ?_ hd
  intro m x y T σ' H' h1 h2 p hT
  exact ⟨T, _, rfl, st_of upd_same, rfl, _, _, rfl, ⟨_, _, rfl, ⟨rfl, hs m x y σ' H' h1 h2 p _ (Ex.new hT)⟩⟩⟩
/-- for x in t: .. -/
theorem q_forTn {a : Addr} {xs : List V} {tl : TE} {j : Nat} (h : Ev tl σ H (.ref a)) (hx : SqT K H a xs) (Pv : Nat → L2.St → Hp → Prop) (h0 : ∀ H1, Ex H H1 → Pv 0 σ H1) (hl : ∀ i σ' H', i ≤ xs.length → Pv i σ' H' → SqT K H' a xs)
    (hs : ∀ i x σ' H', xs[i]? = some x → Pv i σ' H' → tu { D with nx := Pv (i + 1), ct := Pv (i + 1), bk := tz D } (σ'.set j (some x)) H') (hd : ∀ σ' H', Pv xs.length σ' H' → tz D σ' H') : tSeq (tFor (iTup K tl) (gName j) tu) tz D σ H :=
  q_forT h hx Pv h0 hl hs hd
end
section
variable {P : Program} {w : World} {K : PySem.W.Frag} {mg : Str → Option Value} {base : Heap}
abbrev s_are_fades : Stmt := top 22
theorem sc_are_fades : FnScope ["value", "fade"] ["value"] (defScope s_are_fades) := ⟨rfl, rfl, rfl, by decide +kernel, rfl, by decide +kernel, by decide +kernel⟩
--TY are_fades {'value':T,'fade':'any'}
theorem ok_fades {f f1 : Addr} {fd fd1 : FuncData} (F : Fun K "are_fades" "are_fades" s_are_fades f fd) (T : Txt K mg) (C_is_integer : Cal P w K mg base CX0 2 "is_integer" f1 fd1 ["value", "low", "high"] (spIsInt K)) : FnOk P w K mg base CX0 3 f fd ["value"] (spFades K) := by
  refine F.ok sc_are_fades (fun vs H Q E h => ?_) (fun cdv A outer s H vs Q E hr h => ?_)
  · obtain ⟨_, _, rfl, _⟩ := h
    rfl
  · obtain ⟨a, fs, rfl, ha, h1, h4, hf, k⟩ := h
    refine ⟨_, (pss_cons (ps_if (PW.pt (pw_or (pt_not (pt_val (pe_callB (isi_K (K := K) rfl) (by rfl) T.z_isinstance (by decide +kernel) (pa_cons (pv 0) (pa_cons (pe_bltn (v := .ty "tuple") (by rfl) T.z_tuple (by decide +kernel) rfl) pa_nil))))) (pw_or1 (pt_not (pt_chain op_le op_le pe_int (pe_callB (len_K (K := K) rfl) (by rfl) T.z_len (by decide +kernel) (pa_cons (pv 0) pa_nil)) (pe_glob (v := .int 4) rfl T.c_MOST_CELLS.choose_spec ⟨_, rfl⟩)))))) (pss_one (ps_ret pe_bl)) pss_nil)
  (pss_one (ps_ret (pe_callB (all_K (K := K) rfl rfl) (by rfl) T.z_all (by decide +kernel) (pa_cons (pe_lc (own := [("fade", 1)]) (g := gName 1) rfl sc_are_fades.nd (pi_tupK (K := K) rfl (pv 0)) (blkOk_by (by kernel_rfl)) (fun _ _ _ _ _ => pg_name (i := 1) sc_are_fades.nd rfl (by first | exact Or.inl rfl | exact Or.inr rfl)) (fun _ _ _ _ _ => pts_nil) (fun _ _ _ _ _ => (pe_call C_is_integer.G (hr.mono (by first | decide | omega)) rfl C_is_integer.g C_is_integer.kp C_is_integer.b .nil pass0 (pa_cons (pv 1) (pa_cons pe_int (pa_cons (pe_glob (v := .int 8) rfl T.c_MOST_FADE.choose_spec ⟨_, rfl⟩) pa_nil)))))) pa_nil))))), ?_⟩
    have hl : (nV fs).length = fs.length := nV_len fs
    have hch : (decide ((1 : Int) ≤ ((nV fs).length : Int)) && decide (((nV fs).length : Int) ≤ 4)) = true := by
      rw [hl, decide_eq_true (show (1 : Int) ≤ (fs.length : Int) by omega), decide_eq_true (show (fs.length : Int) ≤ 4 by omega)]
      rfl
    refine q_when (b := false) (et_is (et_or (b := false) (et_not (a := true) (et_B (ev_isi (t := "tuple") (b := true) (ev_var rfl) (ty_tup ha) (by decide +kernel)))) fun _ => et_not (a := true) (et_is (et_test (ev_chain ev_c (ev_lnT (ev_var rfl) ha) ev_c)) hch)) rfl) (fun z => nomatch z) fun _ H1 e1 => ?_
    have key := el_lcT (K := K) (σ := [some (.ref a), none]) (H := H1) (a := a) (tl := tVar 0) (j := 1) (vs := List.map (fun x => x.snd) [(("fade" : Str), 1)]) (tt := tYes) (te := tCall (spIsInt K) [] E0 (tCons (tVar 1) (tCons (tC (.int 1)) (tCons (tC (.int 8)) tNil)))) (zs := fs) (fun z => .int (z : Nat)) (fun _ => true) (fun z => .bl true)
      (ev_var rfl) (ex_t e1 ha) (fun x => rfl) (by omega) (fun y H2 _ _ => et_yes) (fun y H2 hy _ _ => ev_callV (ea_cons (ev_var rfl) (ea_cons ev_c (ea_cons ev_c ea_nil))) fun H3 e3 Q' q => ⟨_, 1, 8, some (y : Int), rfl, rfl, fun H4 e4 => by
        have : inRange (some (y : Int)) 1 8 = true := by
          have := hf y hy
          simp only [inRange, Bool.and_eq_true, decide_eq_true_eq]
          omega
        rw [this]
        exact q H4 e4⟩)
    rw [show fs.filter (fun _ => true) = fs from List.filter_eq_self.mpr fun _ _ => rfl] at key
    have hm : (fs.map fun _ => V.bl true) = (fs.map fun _ => true).map V.bl := by rw [List.map_map]; rfl
    rw [hm] at key
    refine s_ret (ev_all key) fun H2 e2 => ?_
    have : (fs.map fun _ => true).all id = true := by rw [List.all_map]; exact List.all_eq_true.mpr fun _ _ => rfl
    rw [this]
    exact k H2 (e1.trans e2)
abbrev s_are_rows : Stmt := top 23
theorem sc_are_rows : FnScope ["value", "named", "row"] ["value"] (defScope s_are_rows) := ⟨rfl, rfl, rfl, by decide +kernel, rfl, by decide +kernel, by decide +kernel⟩
--TY are_rows {'value':T,'row':'any','named':'int'}
theorem ok_rows {f f1 : Addr} {fd fd1 : FuncData} (F : Fun K "are_rows" "are_rows" s_are_rows f fd) (T : Txt K mg) (C_is_integer : Cal P w K mg base CX0 2 "is_integer" f1 fd1 ["value", "low", "high"] (spIsInt K)) : FnOk P w K mg base CX0 3 f fd ["value"] (spRows K) := by
  refine F.ok sc_are_rows (fun vs H Q E h => ?_) (fun cdv A outer s H vs Q E hr h => ?_)
  · obtain ⟨_, _, rfl, _⟩ := h
    rfl
  · obtain ⟨a, rs, rfl, ha, hr1, hl, k⟩ := h
    refine ⟨_, (pss_cons (ps_if (pt_not (pt_val (pe_callB (isi_K (K := K) rfl) (by rfl) T.z_isinstance (by decide +kernel) (pa_cons (pv 0) (pa_cons (pe_bltn (v := .ty "tuple") (by rfl) T.z_tuple (by decide +kernel) rfl) pa_nil))))) (pss_one (ps_ret pe_bl)) pss_nil)
  (pss_cons (ps_set (i := 1) sc_are_rows.nd rfl (Or.inl rfl) pe_int)
  (pss_cons (ps_for PassesOwn.never rfl (pi_tupK (K := K) rfl (pv 0)) (pg_name (i := 2) sc_are_rows.nd rfl (by first | exact Or.inl rfl | exact Or.inr rfl)) (pss_cons (ps_if (pt_not (pt_val (pe_call C_is_integer.G (hr.mono (by first | decide | omega)) rfl C_is_integer.g C_is_integer.kp C_is_integer.b .nil pass0 (pa_cons (pv 2) (pa_cons pe_int (pa_cons (pv 1) pa_nil)))))) (pss_one (ps_ret pe_bl)) pss_nil)
  (pss_one (ps_if (pt_cmpR op_eq (pv 2) (pv 1) (nomark _)) (pss_one (ps_aug (i := 1) sc_are_rows.nd rfl (Or.inl rfl) pe_int ip_add)) pss_nil))))
  (pss_one (ps_ret pe_bl))))), ?_⟩
    refine q_when (b := false) (et_not (a := true) (et_B (ev_isi (t := "tuple") (b := true) (ev_var rfl) (ty_tup ha) (by decide +kernel)))) (fun z => nomatch z) fun _ H1 e1 => ?_
    refine q_asg ev_c fun H2 e2 => ?_
    have e02 := e1.trans e2
    refine q_forTn (xs := nV rs) (ev_var rfl) (ex_t e02 ha) (fun i σ H' => ∃ z : Option V, Ex H H' ∧ σ = [some (.ref a), some (.int (nm (rs.take i) : Nat)), z]) (fun H3 e3 => ⟨_, e02.trans e3, rfl⟩) (fun i σ H' _ ⟨_, e, _⟩ => ex_t e ha) ?_ ?_
    · rintro i x σ H3 hi ⟨z, e3, rfl⟩
      obtain ⟨y, hy, rfl⟩ := nV_get hi
      have hyn := hr1 i y hy
      refine q_when (b := false) (et_not (a := true) (et_B (ev_callV (ea_cons (ev_var rfl) (ea_cons ev_c (ea_cons (ev_var rfl) ea_nil))) fun H4 e4 Q' q => ⟨_, 0, (nm (rs.take i) : Nat), some (y : Int), rfl, rfl, fun H5 e5 => by
        have : inRange (some (y : Int)) 0 (nm (rs.take i) : Nat) = true := by
          simp only [inRange, Bool.and_eq_true, decide_eq_true_eq]
          omega
        rw [this]
        exact q H5 e5⟩))) (fun z => nomatch z) fun _ H4 e4 => ?_
      refine s_when (et_eq (ev_var rfl) (ev_var rfl) rfl) (fun hc H5 e5 => ?_) (fun hc H5 e5 => ?_)
      · have : y = nm (rs.take i) := by have := V.int.inj (of_decide_eq_true hc); omega
        refine s_aug rfl ev_c fun H6 e6 => ?_
        refine ⟨some (.int (y : Nat)), ((e3.trans e4).trans e5).trans e6, ?_⟩
        rw [nm_succ hy, show (max (nm (rs.take i)) (y + 1) : Nat) = nm (rs.take i) + 1 by omega]
        rfl
      · have : y ≠ nm (rs.take i) := fun z => of_decide_eq_false hc (by rw [z])
        refine ⟨some (.int (y : Nat)), (e3.trans e4).trans e5, ?_⟩
        rw [nm_succ hy, show (max (nm (rs.take i)) (y + 1) : Nat) = nm (rs.take i) by omega]
        rfl
    · rintro σ H3 ⟨z, e3, rfl⟩
      exact s_ret ev_c fun H4 e4 => k H4 (e3.trans e4)
abbrev s_check_machine : Stmt := top 24
theorem sc_check_machine : FnScope ["value", "fades", "rows"] ["value"] (defScope s_check_machine) := ⟨rfl, rfl, rfl, by decide +kernel, rfl, by decide +kernel, by decide +kernel⟩
--TY check_machine {'value':T,'fades':T,'rows':T}
theorem ok_check_machine {f f1 f2 : Addr} {fd fd1 fd2 : FuncData} (F : Fun K "check_machine" "check_machine" s_check_machine f fd) (T : Txt K mg) (C_are_fades : Cal P w K mg base CX0 3 "are_fades" f1 fd1 ["value"] (spFades K)) (C_are_rows : Cal P w K mg base CX0 3 "are_rows" f2 fd2 ["value"] (spRows K)) : FnOk P w K mg base CX0 4 f fd ["value"] (spChkMa K) := by
  refine F.ok sc_check_machine (fun vs H Q E h => ?_) (fun cdv A outer s H vs Q E hr h => ?_)
  · obtain ⟨_, _, _, rfl, _⟩ := h
    rfl
  · obtain ⟨m, fs, rs, rfl, ⟨a, b, hm, ha, hb⟩, ok, k⟩ := h
    refine ⟨_, (pss_cons (ps_if (PW.pt (pw_or (pt_not (pt_val (pe_callB (isi_K (K := K) rfl) (by rfl) T.z_isinstance (by decide +kernel) (pa_cons (pv 0) (pa_cons (pe_bltn (v := .ty "tuple") (by rfl) T.z_tuple (by decide +kernel) rfl) pa_nil))))) (pw_or1 (pt_cmpR op_ne (pe_callB (len_K (K := K) rfl) (by rfl) T.z_len (by decide +kernel) (pa_cons (pv 0) pa_nil)) pe_int (nomark _))))) (pss_one ps_never) pss_nil)
  (pss_cons (ps_asg (pv 0) (pg_tup rfl (pgs_cons (pg_name (i := 1) sc_check_machine.nd rfl (by first | exact Or.inl rfl | exact Or.inr rfl)) (pgs_cons (pg_name (i := 2) sc_check_machine.nd rfl (by first | exact Or.inl rfl | exact Or.inr rfl)) pgs_nil))))
  (pss_cons (ps_if (pt_not (pt_val (pe_call C_are_fades.G (hr.mono (by first | decide | omega)) rfl C_are_fades.g C_are_fades.kp C_are_fades.b .nil pass0 (pa_cons (pv 1) pa_nil)))) (pss_one ps_never) pss_nil)
  (pss_one (ps_if (PW.pt (pw_or (pt_not (pt_val (pe_call C_are_rows.G (hr.mono (by first | decide | omega)) rfl C_are_rows.g C_are_rows.kp C_are_rows.b .nil pass0 (pa_cons (pv 2) pa_nil)))) (pw_or1 (pt_cmpR op_ne (pe_callB (len_K (K := K) rfl) (by rfl) T.z_len (by decide +kernel) (pa_cons (pv 2) pa_nil)) (pe_callB (len_K (K := K) rfl) (by rfl) T.z_len (by decide +kernel) (pa_cons (pv 1) pa_nil)) (nomark _))))) (pss_one ps_never) pss_nil))))), ?_⟩
    refine q_when (b := false) (et_is (et_or (b := false) (et_not (a := true) (et_B (ev_isi (t := "tuple") (b := true) (ev_var rfl) (ty_tup hm) (by decide +kernel)))) fun _ => et_is (et_ne (ev_lnT (ev_var rfl) hm) ev_c rfl) rfl) rfl) (fun z => nomatch z) fun _ H1 e1 => ?_
    refine q_unpack (ev_var rfl) (ex_t e1 hm) fun H2 e2 => ?_
    have e02 := e1.trans e2
    have ha2 := ex_t e02 ha
    have hb2 := ex_t e02 hb
    refine q_when (b := false) (et_not (a := true) (et_B (ev_callV (ea_cons (ev_var rfl) ea_nil) fun H3 e3 Q' q => ⟨a, fs, rfl, ex_t e3 ha2, ok.l1, ok.l4, ok.f, q⟩))) (fun z => nomatch z) fun _ H3 e3 => ?_
    have ha3 := ex_t e3 ha2
    have hb3 := ex_t e3 hb2
    have hll := ok.ll
    have hl4 := ok.l4
    refine s_when (b := false) (et_is (et_or (b := false) (et_not (a := true) (et_B (ev_callV (ea_cons (ev_var rfl) ea_nil) fun H4 e4 Q' q => ⟨b, rs, rfl, ex_t e4 hb3, ok.r, by omega, q⟩))) fun _ => et_is (et_ne (ev_lnT (ev_var rfl) hb3) (ev_lnT (ev_var rfl) ha3) rfl) (by rw [nV_len, nV_len, hll]; simp)) rfl) (fun z => nomatch z) fun _ H4 e4 => k H4 ((e02.trans e3).trans e4)
abbrev s_check_lives : Stmt := top 25
theorem sc_check_lives : FnScope ["machine", "value", "fades", "life", "fade"] ["machine", "value"] (defScope s_check_lives) := ⟨rfl, rfl, rfl, by decide +kernel, rfl, by decide +kernel, by decide +kernel⟩
--TY check_lives {'value':T,'fades':T,'machine':('tuple',T)}
theorem ok_check_lives {f f1 : Addr} {fd fd1 : FuncData} (F : Fun K "check_lives" "check_lives" s_check_lives f fd) (T : Txt K mg) (C_is_integer : Cal P w K mg base CX0 2 "is_integer" f1 fd1 ["value", "low", "high"] (spIsInt K)) : FnOk P w K mg base CX0 3 f fd ["machine", "value"] (spChkLi K) := by
  refine F.ok sc_check_lives (fun vs H Q E h => ?_) (fun cdv A outer s H vs Q E hr h => ?_)
  · obtain ⟨_, _, _, _, _, rfl, _⟩ := h
    rfl
  · obtain ⟨m, l, fs, rs, ls, rfl, ⟨a, b, hm, ha, hb⟩, ok, hl, hli, k⟩ := h
    refine ⟨_, (pss_cons (ps_set (i := 2) sc_check_lives.nd rfl (Or.inl rfl) (pe_ix (ix_K (K := K) rfl) (pv 0) pe_int (fun _ _ => rfl)))
  (pss_cons (ps_if (PW.pt (pw_or (pt_not (pt_val (pe_callB (isi_K (K := K) rfl) (by rfl) T.z_isinstance (by decide +kernel) (pa_cons (pv 1) (pa_cons (pe_bltn (v := .ty "tuple") (by rfl) T.z_tuple (by decide +kernel) rfl) pa_nil))))) (pw_or1 (pt_cmpR op_ne (pe_callB (len_K (K := K) rfl) (by rfl) T.z_len (by decide +kernel) (pa_cons (pv 1) pa_nil)) (pe_callB (len_K (K := K) rfl) (by rfl) T.z_len (by decide +kernel) (pa_cons (pv 2) pa_nil)) (nomark _))))) (pss_one ps_never) pss_nil)
  (pss_one (ps_for PassesOwn.never rfl (pi_zipA (by rfl) T.z_zip (pa_cons (pv 1) (pa_cons (pv 2) pa_nil))) (pg_tup rfl (pgs_cons (pg_name (i := 3) sc_check_lives.nd rfl (by first | exact Or.inl rfl | exact Or.inr rfl)) (pgs_cons (pg_name (i := 4) sc_check_lives.nd rfl (by first | exact Or.inl rfl | exact Or.inr rfl)) pgs_nil))) (pss_one (ps_if (pt_not (pt_val (pe_call C_is_integer.G (hr.mono (by first | decide | omega)) rfl C_is_integer.g C_is_integer.kp C_is_integer.b .nil pass0 (pa_cons (pv 3) (pa_cons pe_int (pa_cons (pv 4) pa_nil)))))) (pss_one ps_never) pss_nil)))))), ?_⟩
    have hll : (nV ls).length = (nV fs).length := by rw [nV_len, nV_len]; exact hli.1
    refine q_asg (ev_ixT (ev_var rfl) ev_c hm rfl) fun H1 e1 => ?_
    refine q_when (b := false) (et_is (et_or (b := false) (et_not (a := true) (et_B (ev_isi (t := "tuple") (b := true) (ev_var rfl) (ty_tup (ex_t e1 hl)) (by decide +kernel)))) fun _ => et_is (et_ne (ev_lnT (ev_var rfl) (ex_t e1 hl)) (ev_lnT (ev_var rfl) (ex_t e1 ha)) rfl) (by rw [hll]; simp)) rfl) (fun z => nomatch z) fun _ H2 e2 => ?_
    have e02 := e1.trans e2
    refine s_forZT (xs := nV ls) (ys := nV fs) (ea_cons (ev_var rfl) (ea_cons (ev_var rfl) ea_nil)) (ex_t e02 hl) (ex_t e02 ha) hll (fun i σ H' => ∃ z3 z4 : Option V, Ex H2 H' ∧ σ = [some (.ref m), some (.ref l), some (.ref a), z3, z4]) (fun H3 e3 => ⟨_, _, e3, rfl⟩) (fun i σ H' ⟨_, _, e, _⟩ => e) ?_ ?_
    · rintro i x y σ H3 hx hy ⟨z3, z4, e3, rfl⟩ H4 e4
      obtain ⟨u, hu, rfl⟩ := nV_get hx
      obtain ⟨v, hv, rfl⟩ := nV_get hy
      have hiv : u ≤ v := by
        have := hli.2 i (List.getElem?_eq_some_iff.mp hv).1
        rw [List.getD_eq_getElem?_getD, List.getD_eq_getElem?_getD, hu, hv] at this
        exact this
      refine s_when (b := false) (et_not (a := true) (et_B (ev_callV (ea_cons (ev_var rfl) (ea_cons ev_c (ea_cons (ev_var rfl) ea_nil))) fun H5 e5 Q' q => ⟨_, 0, (v : Int), some (u : Int), rfl, rfl, fun H6 e6 => by
        have : inRange (some (u : Int)) 0 (v : Int) = true := by
          simp only [inRange, Bool.and_eq_true, decide_eq_true_eq]
          omega
        rw [this]
        exact q H6 e6⟩))) (fun z => nomatch z) fun _ H5 e5 => ⟨_, _, (e3.trans e4).trans e5, rfl⟩
    · rintro σ H3 ⟨z3, z4, e3, rfl⟩
      exact k H3 (e02.trans e3)
def spChkCeOf : Sp := fun vs H Q _ => ∃ (n c : Nat), vs = [.int (n : Nat), .int (c : Nat)] ∧ c < n ∧ ∀ H', Ex H H' → Q .non H'
abbrev s_check_cell_of : Stmt := top 26
theorem sc_check_cell_of : FnScope ["cells", "value"] ["cells", "value"] (defScope s_check_cell_of) := ⟨rfl, rfl, rfl, by decide +kernel, rfl, by decide +kernel, by decide +kernel⟩
theorem ok_check_cell_of {f f1 : Addr} {fd fd1 : FuncData} (F : Fun K "check_cell_of" "check_cell_of" s_check_cell_of f fd) (T : Txt K mg) (C_is_integer : Cal P w K mg base CX0 2 "is_integer" f1 fd1 ["value", "low", "high"] (spIsInt K)) : FnOk P w K mg base CX0 3 f fd ["cells", "value"] spChkCeOf := by
  refine F.ok sc_check_cell_of (fun vs H Q E h => ?_) (fun cdv A outer s H vs Q E hr h => ?_)
  · obtain ⟨_, _, rfl, _⟩ := h
    rfl
  · obtain ⟨n, c, rfl, hc, k⟩ := h
    refine ⟨_, (pss_one (ps_if (pt_not (pt_val (pe_call C_is_integer.G (hr.mono (by first | decide | omega)) rfl C_is_integer.g C_is_integer.kp C_is_integer.b .nil pass0 (pa_cons (pv 1) (pa_cons pe_int (pa_cons (pe_op op_sub (pv 0) pe_int) pa_nil)))))) (pss_one ps_never) pss_nil)), ?_⟩
    refine s_when (b := false) (et_not (a := true) (et_B (ev_callV (ea_cons (ev_var rfl) (ea_cons ev_c (ea_cons (ev_i0 (ev_var rfl) ev_c) ea_nil))) fun H1 e1 Q' q => ⟨_, 0, (n : Int) - 1, some (c : Int), rfl, rfl, fun H2 e2 => by
      have : inRange (some (c : Int)) 0 ((n : Int) - 1) = true := by
        simp only [inRange, Bool.and_eq_true, decide_eq_true_eq]
        omega
      rw [this]
      exact q H2 e2⟩))) (fun z => nomatch z) fun _ H1 e1 => k H1 e1
abbrev s_check_cell : Stmt := top 27
theorem sc_check_cell : FnScope ["machine", "value"] ["machine", "value"] (defScope s_check_cell) := ⟨rfl, rfl, rfl, by decide +kernel, rfl, by decide +kernel, by decide +kernel⟩
--TY check_cell {'machine':('tuple',T)}
theorem ok_check_cell {f f1 : Addr} {fd fd1 : FuncData} (F : Fun K "check_cell" "check_cell" s_check_cell f fd) (T : Txt K mg) (C_check_cell_of : Cal P w K mg base CX0 3 "check_cell_of" f1 fd1 ["cells", "value"] spChkCeOf) : FnOk P w K mg base CX0 4 f fd ["machine", "value"] (spChkCe K) := by
  refine F.ok sc_check_cell (fun vs H Q E h => ?_) (fun cdv A outer s H vs Q E hr h => ?_)
  · obtain ⟨_, _, _, _, rfl, _⟩ := h
    rfl
  · obtain ⟨m, fs, rs, c, rfl, ⟨a, b, hm, ha, hb⟩, ok, hc, k⟩ := h
    refine ⟨_, (pss_one (ps_expr (pe_call C_check_cell_of.G (hr.mono (by first | decide | omega)) rfl C_check_cell_of.g C_check_cell_of.kp C_check_cell_of.b .nil pass0 (pa_cons (pe_callB (len_K (K := K) rfl) (by rfl) T.z_len (by decide +kernel) (pa_cons (pe_ix (ix_K (K := K) rfl) (pv 0) pe_int (fun _ _ => rfl)) pa_nil)) (pa_cons (pv 1) pa_nil))))), ?_⟩
    have hll := ok.ll
    refine s_call (ea_cons (ev_lnT (ev_ixT (ev_var rfl) ev_c hm rfl) ha) (ea_cons (ev_var rfl) ea_nil)) fun H1 e1 => ⟨(nV fs).length, c, rfl, by rw [nV_len]; omega, fun H2 e2 => k H2 (e1.trans e2)⟩
def spBeh (K : PySem.W.Frag) (g : List Nat → List Nat → List Nat → Nat → List Nat) : Sp := fun vs H Q _ => ∃ (m l : Addr) (fs rs ls : List Nat) (c : Nat), vs = [.ref m, .ref l, .int (c : Nat)] ∧ MaT K H m fs rs ∧ MaOk fs rs ∧ SqT K H l (nV ls) ∧ LiOk fs ls ∧ c < rs.length ∧
  ∀ b H', H b = none → Ex H H' → H' b = some (.tup (nV (g fs rs ls c))) → Q (.ref b) H'
def spBehW (K : PySem.W.Frag) : Sp := fun vs H Q _ => ∃ (m l : Addr) (fs rs ls : List Nat), vs = [.ref m, .ref l] ∧ MaT K H m fs rs ∧ MaOk fs rs ∧ SqT K H l (nV ls) ∧ LiOk fs ls ∧
  ∀ b H', H b = none → Ex H H' → H' b = some (.tup (nV (waitL ls))) → Q (.ref b) H'
abbrev s_behind_touch : Stmt := top 38
theorem sc_behind_touch : FnScope ["machine", "lives", "cell"] ["machine", "lives", "cell"] (defScope s_behind_touch) := ⟨rfl, rfl, rfl, by decide +kernel, rfl, by decide +kernel, by decide +kernel⟩
theorem ok_behind_touch {f f1 f2 f3 f4 : Addr} {fd fd1 fd2 fd3 fd4 : FuncData} (F : Fun K "behind_touch" "behind_touch" s_behind_touch f fd) (T : Txt K mg) (C_check_machine : Cal P w K mg base CX0 4 "check_machine" f1 fd1 ["value"] (spChkMa K)) (C_check_lives : Cal P w K mg base CX0 3 "check_lives" f2 fd2 ["machine", "value"] (spChkLi K)) (C_check_cell : Cal P w K mg base CX0 4 "check_cell" f3 fd3 ["machine", "value"] (spChkCe K)) (C_lives_touched : Cal P w K mg base CX0 2 "lives_touched" f4 fd4 ["machine", "lives", "cell"] (spTouched K)) : FnOk P w K mg base CX0 5 f fd ["machine", "lives", "cell"] (spBeh K touchL) := by
  refine F.ok sc_behind_touch (fun vs H Q E h => ?_) (fun cdv A outer s H vs Q E hr h => ?_)
  · obtain ⟨_, _, _, _, _, _, rfl, _⟩ := h
    rfl
  · obtain ⟨m, l, fs, rs, ls, c, rfl, hM, ok, hl, hli, hc, k⟩ := h
    refine ⟨_, (pss_cons (ps_expr (pe_call C_check_machine.G (hr.mono (by first | decide | omega)) rfl C_check_machine.g C_check_machine.kp C_check_machine.b .nil pass0 (pa_cons (pv 0) pa_nil)))
  (pss_cons (ps_expr (pe_call C_check_lives.G (hr.mono (by first | decide | omega)) rfl C_check_lives.g C_check_lives.kp C_check_lives.b .nil pass0 (pa_cons (pv 0) (pa_cons (pv 1) pa_nil))))
  (pss_cons (ps_expr (pe_call C_check_cell.G (hr.mono (by first | decide | omega)) rfl C_check_cell.g C_check_cell.kp C_check_cell.b .nil pass0 (pa_cons (pv 0) (pa_cons (pv 2) pa_nil))))
  (pss_one (ps_ret (pe_call C_lives_touched.G (hr.mono (by first | decide | omega)) rfl C_lives_touched.g C_lives_touched.kp C_lives_touched.b .nil pass0 (pa_cons (pv 0) (pa_cons (pv 1) (pa_cons (pv 2) pa_nil))))))))), ?_⟩
    refine q_call (ea_cons (ev_var rfl) ea_nil) fun H1 e1 => ⟨m, fs, rs, rfl, hM.up e1, ok, fun H2 e2 => ?_⟩
    have e02 := e1.trans e2
    refine q_call (ea_cons (ev_var rfl) (ea_cons (ev_var rfl) ea_nil)) fun H3 e3 => ⟨m, l, fs, rs, ls, rfl, hM.up (e02.trans e3), ok, ex_t (e02.trans e3) hl, hli, fun H4 e4 => ?_⟩
    have e04 := (e02.trans e3).trans e4
    refine q_call (ea_cons (ev_var rfl) (ea_cons (ev_var rfl) ea_nil)) fun H5 e5 => ⟨m, fs, rs, c, rfl, hM.up (e04.trans e5), ok, hc, fun H6 e6 => ?_⟩
    have e06 := (e04.trans e5).trans e6
    have hll := ok.ll
    have hl4 := ok.l4
    have := hli.1
    refine s_callR (ea_cons (ev_var rfl) (ea_cons (ev_var rfl) (ea_cons (ev_var rfl) ea_nil))) fun H7 e7 => ⟨m, l, fs, rs, ls, c, rfl, hM.up (e06.trans e7), ex_t (e06.trans e7) hl, hll, by omega, hc, by omega, fun b H8 hb e8 h8 => k b H8 (fresh_back (e06.trans e7) hb) ((e06.trans e7).trans e8) h8⟩
abbrev s_behind_set : Stmt := top 39
theorem sc_behind_set : FnScope ["machine", "lives", "cell"] ["machine", "lives", "cell"] (defScope s_behind_set) := ⟨rfl, rfl, rfl, by decide +kernel, rfl, by decide +kernel, by decide +kernel⟩
theorem ok_behind_set {f f1 f2 f3 f4 : Addr} {fd fd1 fd2 fd3 fd4 : FuncData} (F : Fun K "behind_set" "behind_set" s_behind_set f fd) (T : Txt K mg) (C_check_machine : Cal P w K mg base CX0 4 "check_machine" f1 fd1 ["value"] (spChkMa K)) (C_check_lives : Cal P w K mg base CX0 3 "check_lives" f2 fd2 ["machine", "value"] (spChkLi K)) (C_check_cell : Cal P w K mg base CX0 4 "check_cell" f3 fd3 ["machine", "value"] (spChkCe K)) (C_lives_set : Cal P w K mg base CX0 3 "lives_set" f4 fd4 ["machine", "lives", "cell"] (spSet K)) : FnOk P w K mg base CX0 5 f fd ["machine", "lives", "cell"] (spBeh K setL) := by
  refine F.ok sc_behind_set (fun vs H Q E h => ?_) (fun cdv A outer s H vs Q E hr h => ?_)
  · obtain ⟨_, _, _, _, _, _, rfl, _⟩ := h
    rfl
  · obtain ⟨m, l, fs, rs, ls, c, rfl, hM, ok, hl, hli, hc, k⟩ := h
    refine ⟨_, (pss_cons (ps_expr (pe_call C_check_machine.G (hr.mono (by first | decide | omega)) rfl C_check_machine.g C_check_machine.kp C_check_machine.b .nil pass0 (pa_cons (pv 0) pa_nil)))
  (pss_cons (ps_expr (pe_call C_check_lives.G (hr.mono (by first | decide | omega)) rfl C_check_lives.g C_check_lives.kp C_check_lives.b .nil pass0 (pa_cons (pv 0) (pa_cons (pv 1) pa_nil))))
  (pss_cons (ps_expr (pe_call C_check_cell.G (hr.mono (by first | decide | omega)) rfl C_check_cell.g C_check_cell.kp C_check_cell.b .nil pass0 (pa_cons (pv 0) (pa_cons (pv 2) pa_nil))))
  (pss_one (ps_ret (pe_call C_lives_set.G (hr.mono (by first | decide | omega)) rfl C_lives_set.g C_lives_set.kp C_lives_set.b .nil pass0 (pa_cons (pv 0) (pa_cons (pv 1) (pa_cons (pv 2) pa_nil))))))))), ?_⟩
    refine q_call (ea_cons (ev_var rfl) ea_nil) fun H1 e1 => ⟨m, fs, rs, rfl, hM.up e1, ok, fun H2 e2 => ?_⟩
    have e02 := e1.trans e2
    refine q_call (ea_cons (ev_var rfl) (ea_cons (ev_var rfl) ea_nil)) fun H3 e3 => ⟨m, l, fs, rs, ls, rfl, hM.up (e02.trans e3), ok, ex_t (e02.trans e3) hl, hli, fun H4 e4 => ?_⟩
    have e04 := (e02.trans e3).trans e4
    refine q_call (ea_cons (ev_var rfl) (ea_cons (ev_var rfl) ea_nil)) fun H5 e5 => ⟨m, fs, rs, c, rfl, hM.up (e04.trans e5), ok, hc, fun H6 e6 => ?_⟩
    have e06 := (e04.trans e5).trans e6
    have hll := ok.ll
    have hl4 := ok.l4
    have := hli.1
    refine s_callR (ea_cons (ev_var rfl) (ea_cons (ev_var rfl) (ea_cons (ev_var rfl) ea_nil))) fun H7 e7 => ⟨m, l, fs, rs, ls, c, rfl, hM.up (e06.trans e7), ex_t (e06.trans e7) hl, hll, by omega, hc, by omega, fun b H8 hb e8 h8 => k b H8 (fresh_back (e06.trans e7) hb) ((e06.trans e7).trans e8) h8⟩
abbrev s_behind_wait : Stmt := top 40
theorem sc_behind_wait : FnScope ["machine", "lives"] ["machine", "lives"] (defScope s_behind_wait) := ⟨rfl, rfl, rfl, by decide +kernel, rfl, by decide +kernel, by decide +kernel⟩
theorem ok_behind_wait {f f1 f2 f4 : Addr} {fd fd1 fd2 fd4 : FuncData} (F : Fun K "behind_wait" "behind_wait" s_behind_wait f fd) (T : Txt K mg) (C_check_machine : Cal P w K mg base CX0 4 "check_machine" f1 fd1 ["value"] (spChkMa K)) (C_check_lives : Cal P w K mg base CX0 3 "check_lives" f2 fd2 ["machine", "value"] (spChkLi K)) (C_lives_waited : Cal P w K mg base CX0 2 "lives_waited" f4 fd4 ["lives"] (spWaited K)) : FnOk P w K mg base CX0 5 f fd ["machine", "lives"] (spBehW K) := by
  refine F.ok sc_behind_wait (fun vs H Q E h => ?_) (fun cdv A outer s H vs Q E hr h => ?_)
  · obtain ⟨_, _, _, _, _, rfl, _⟩ := h
    rfl
  · obtain ⟨m, l, fs, rs, ls, rfl, hM, ok, hl, hli, k⟩ := h
    refine ⟨_, (pss_cons (ps_expr (pe_call C_check_machine.G (hr.mono (by first | decide | omega)) rfl C_check_machine.g C_check_machine.kp C_check_machine.b .nil pass0 (pa_cons (pv 0) pa_nil)))
  (pss_cons (ps_expr (pe_call C_check_lives.G (hr.mono (by first | decide | omega)) rfl C_check_lives.g C_check_lives.kp C_check_lives.b .nil pass0 (pa_cons (pv 0) (pa_cons (pv 1) pa_nil))))
  (pss_one (ps_ret (pe_call C_lives_waited.G (hr.mono (by first | decide | omega)) rfl C_lives_waited.g C_lives_waited.kp C_lives_waited.b .nil pass0 (pa_cons (pv 1) pa_nil)))))), ?_⟩
    refine q_call (ea_cons (ev_var rfl) ea_nil) fun H1 e1 => ⟨m, fs, rs, rfl, hM.up e1, ok, fun H2 e2 => ?_⟩
    have e02 := e1.trans e2
    refine q_call (ea_cons (ev_var rfl) (ea_cons (ev_var rfl) ea_nil)) fun H3 e3 => ⟨m, l, fs, rs, ls, rfl, hM.up (e02.trans e3), ok, ex_t (e02.trans e3) hl, hli, fun H4 e4 => ?_⟩
    have e04 := (e02.trans e3).trans e4
    have hl4 := ok.l4
    have := hli.1
    refine s_callR (ea_cons (ev_var rfl) ea_nil) fun H7 e7 => ⟨l, ls, rfl, ex_t (e04.trans e7) hl, by omega, fun b H8 hb e8 h8 => k b H8 (fresh_back (e04.trans e7) hb) ((e04.trans e7).trans e8) h8⟩
end
end Fm
set_option Elab.async false
set_option linter.all false
set_option maxRecDepth 100000
set_option maxHeartbeats 1000000
namespace Fm
open PySem L2 Evl RZ
/-- a touch (or a reading), a setting, any other deed -/
inductive Kd where
  | touch | set | wait
def Kd.near : Kd → Bool
  | .wait => false
  | _ => true
def Kd.isSet : Kd → Bool
  | .set => true
  | _ => false
def bhL (kd : Kd) (fs rs ls : List Nat) (c : Nat) : List Nat := match kd with
  | .touch => touchL fs rs ls c
  | .set => setL fs rs ls c
  | .wait => waitL ls
def bhC (kd : Kd) (rs : List Nat) (y c i : Nat) : Bool := (kd.near && decide (rs.getD i 0 = rs.getD c 0) && decide (y > 0)) || (kd.isSet && decide (i = c))
def bh (kd : Kd) (fs rs ls : List Nat) (c i : Nat) : Nat := if bhC kd rs (ls.getD i 0) c i then fs.getD i 0 else ls.getD i 0 - 1
theorem tch_bh (fs rs ls : List Nat) (c i : Nat) : tch fs rs ls c i = bh .touch fs rs ls c i := by
  unfold tch bh bhC Kd.near Kd.isSet
  generalize ls.getD i 0 = y
  generalize rs.getD i 0 = r1
  generalize rs.getD c 0 = r2
  by_cases h : y = 0
  · subst h
    simp
  · rw [if_neg h]
    have : y > 0 := by omega
    by_cases hr : r1 = r2
    · simp [hr, this]
    · simp [hr]
theorem bhL_eq (kd : Kd) (fs rs ls : List Nat) (c : Nat) : bhL kd fs rs ls c = (List.range ls.length).map (bh kd fs rs ls c) := by
  cases kd with
  | touch =>
    unfold bhL touchL
    exact List.map_congr_left fun i _ => tch_bh fs rs ls c i
  | set =>
    show setL fs rs ls c = _
    unfold setL touchL
    refine List.ext_getElem? fun i => ?_
    rw [List.getElem?_map, List.getElem?_set]
    by_cases hi : i < ls.length
    · have hr : (List.range ls.length)[i]? = some i := List.getElem?_range hi
      by_cases hc : c = i
      · subst hc
        rw [if_pos rfl, if_pos (by rw [List.length_map, List.length_range]; exact hi), hr]
        show some _ = some _
        congr 1
        unfold bh bhC Kd.near Kd.isSet
        simp
      · rw [if_neg hc, List.getElem?_map, hr]
        show some _ = some _
        congr 1
        rw [tch_bh]
        unfold bh bhC Kd.near Kd.isSet
        have : decide (i = c) = false := decide_eq_false fun z => hc z.symm
        simp [this]
    · have hr : (List.range ls.length)[i]? = none := List.getElem?_eq_none (by rw [List.length_range]; omega)
      rw [hr]
      by_cases hc : c = i
      · subst hc
        rw [if_pos rfl, if_neg (by rw [List.length_map, List.length_range]; exact hi)]
        rfl
      · rw [if_neg hc, List.getElem?_map, hr]
        rfl
  | wait =>
    show waitL ls = _
    unfold waitL
    refine List.ext_getElem? fun i => ?_
    rw [List.getElem?_map, List.getElem?_map]
    by_cases hi : i < ls.length
    · rw [List.getElem?_range hi, List.getElem?_eq_getElem hi]
      show some _ = some _
      congr 1
      have hg : ls.getD i 0 = ls[i] := by rw [List.getD_eq_getElem?_getD, List.getElem?_eq_getElem hi]; rfl
      unfold bh
      rw [hg]
      rfl
    · rw [List.getElem?_eq_none (by omega), List.getElem?_eq_none (by rw [List.length_range]; omega)]
      rfl
abbrev W5 : List V := [.str "get", .str "set", .str "plus", .str "minus", .str "touch"]
def KdOk (kd : Kd) (wd : Str) (cv : V) (c n : Nat) : Prop := inV (.str wd) W5 = kd.near ∧ decide (V.str wd = .str "set") = kd.isSet ∧ (kd.near = true → cv = .int (c : Nat) ∧ c < n)
def spLBeh (K : PySem.W.Frag) : Sp := fun vs H Q _ => ∃ (m l : Addr) (fs rs ls : List Nat) (wd : Str) (cv : V) (kd : Kd) (c : Nat), vs = [.ref m, .ref l, .str wd, cv] ∧ MaT K H m fs rs ∧ SqT K H l (nV ls) ∧ fs.length = rs.length ∧ ls.length = rs.length ∧ rs.length ≤ 10 ∧ KdOk kd wd cv c rs.length ∧
  ∀ b H', H b = none → Ex H H' → H' b = some (.tup (nV (bhL kd fs rs ls c))) → Q (.ref b) H'
section
variable {K : PySem.W.Frag} {σ : L2.St} {H : Hp} {ta tb te : TE}
theorem ev_max2 {i j : Int} (ha : Ev ta σ H (.int i)) (hb : Ev tb σ H (.int j)) : Ev (tCB (fun vs H Q => ∃ i j, vs = [.int i, .int j] ∧ Q (.int (if i < j then j else i)) H) (tCons ta (tCons tb tNil))) σ H (.int (if i < j then j else i)) := fun H1 e Q q =>
  ha H1 e _ fun H2 e2 => hb H2 (e.trans e2) _ fun H3 e3 => ⟨i, j, rfl, q H3 (e2.trans e3)⟩
end
section
variable {P : Program} {w : World} {K : PySem.W.Frag} {mg : Str → Option Value} {base : Heap}
abbrev s_law_behind : Stmt := top 58
theorem sc_law_behind : FnScope ["machine", "lives", "word", "cell", "found", "own", "left", "near"] ["machine", "lives", "word", "cell"] (defScope s_law_behind) := ⟨rfl, rfl, rfl, by decide +kernel, rfl, by decide +kernel, by decide +kernel⟩
--TY _law_behind {'lives':T,'machine':('tuple',('tuple','int')),'found':L,'left':'int','own':'int','word':'str','cell':'int','near':'bool'}
theorem ok_lbehind {f : Addr} {fd : FuncData} (F : Fun K "_law_behind" "_law_behind" s_law_behind f fd) (T : Txt K mg) : FnOk P w K mg base CX0 1 f fd ["machine", "lives", "word", "cell"] (spLBeh K) := by
  refine F.ok sc_law_behind (fun vs H Q E h => ?_) (fun cdv A outer s H vs Q E hr h => ?_)
  · obtain ⟨_, _, _, _, _, _, _, _, _, rfl, _⟩ := h
    rfl
  · obtain ⟨m, l, fs, rs, ls, wd, cv, kd, c, rfl, ⟨a, b, hm, ha, hb⟩, hl, hf, hls, hz, ⟨k1, k2, k3⟩, k⟩ := h
    refine ⟨_, (pss_cons (ps_set (i := 4) sc_law_behind.nd rfl (Or.inl rfl) (pe_lst pa_nil))
  (pss_cons (ps_for PassesOwn.never rfl (pi_enumT (by rfl) T.z_enumerate (pa_cons (pv 1) pa_nil)) (pg_tup rfl (pgs_cons (pg_name (i := 5) sc_law_behind.nd rfl (by first | exact Or.inl rfl | exact Or.inr rfl)) (pgs_cons (pg_name (i := 6) sc_law_behind.nd rfl (by first | exact Or.inl rfl | exact Or.inr rfl)) pgs_nil))) (pss_cons (ps_set (i := 7) sc_law_behind.nd rfl (Or.inl rfl) (pe_and (pe_cmpR (in_K (K := K) rfl) (pv 2) (pe_lst (pa_cons pe_str (pa_cons pe_str (pa_cons pe_str (pa_cons pe_str (pa_cons pe_str pa_nil)))))) (by rfl)) (pe_one (pe_cmpR op_eq (pe_ix (ix_K (K := K) rfl) (pe_ix (ix_K (K := K) rfl) (pv 0) pe_int (fun _ _ => rfl)) (pv 5) (fun _ _ => rfl)) (pe_ix (ix_K (K := K) rfl) (pe_ix (ix_K (K := K) rfl) (pv 0) pe_int (fun _ _ => rfl)) (pv 3) (fun _ _ => rfl)) (nomark _)))))
  (pss_one (ps_expr (pe_bm PySem.F.plainAttrs_list PySem.F.slot_list_append PySem.F.type_list_append mt_append (pv 4) (pa_cons (pe_ifExp (PW.pt (pw_or (PW.pt (pw_and (pt_val (pv 7)) (pw_and1 (pt_cmpR op_gt (pv 6) pe_int (nomark _))))) (pw_or1 (PW.pt (pw_and (pt_cmpR op_eq (pv 2) pe_str (nomark _)) (pw_and1 (pt_cmpR op_eq (pv 5) (pv 3) (nomark _)))))))) (pe_ix (ix_K (K := K) rfl) (pe_ix (ix_K (K := K) rfl) (pv 0) pe_int (fun _ _ => rfl)) (pv 5) (fun _ _ => rfl)) (pe_callB (call_max2 rfl) (by rfl) T.z_max (by decide +kernel) (pa_cons pe_int (pa_cons (pe_op op_sub (pv 6) pe_int) pa_nil)))) pa_nil))))))
  (pss_one (ps_ret (pe_callTy (tpl_K (K := K) rfl) (by rfl) T.z_tuple (by decide +kernel) (pa_cons (pv 4) pa_nil)))))), ?_⟩
    refine q_asgL (xs := nV []) (el_lst ea_nil (Nat.zero_le _)) fun d H1 hd e1 hd1 => ?_
    refine q_forET (xs := nV ls) (ev_var rfl) (ex_t e1 hl) (fun i σ H' => ∃ z5 z6 z7 : Option V, Ex H H' ∧ H' d = some (.lst (nV ((List.range i).map (bh kd fs rs ls c)))) ∧ σ = [some (.ref m), some (.ref l), some (.str wd), some cv, some (.ref d), z5, z6, z7])
      (fun H2 e2 => ⟨_, _, _, e1.trans e2, e2 _ _ hd1, rfl⟩) (fun i σ H' _ ⟨_, _, _, e, _⟩ => ex_t e hl) ?_ ?_
    · rintro i x σ H2 hi ⟨z5, z6, z7, e2, hd2, rfl⟩ H3 e3
      obtain ⟨y, hy, rfl⟩ := nV_get hi
      have hil : i < ls.length := (List.getElem?_eq_some_iff.mp hy).1
      have hyd : ls.getD i 0 = y := by rw [List.getD_eq_getElem?_getD, hy]; rfl
      have e03 := e2.trans e3
      have hm3 := ex_t e03 hm
      have ha3 := ex_t e03 ha
      have hb3 := ex_t e03 hb
      refine q_asg (v := .bl (kd.near && decide (rs.getD i 0 = rs.getD c 0))) (ev_andV (by rw [← k1]; exact ev_opL (ev_var rfl) (el_lst (ea_cons ev_c (ea_cons ev_c (ea_cons ev_c (ea_cons ev_c (ea_cons ev_c ea_nil))))) (by decide)) fun _ _ h _ => rv_isL (sq_of h) rfl rfl) fun hn => ?_) fun H4 e4 => ?_
      · obtain ⟨rfl, hc⟩ := k3 hn
        refine ev_is (ev_op (ev_ixT (ev_ixT (ev_var rfl) ev_c hm3 rfl) (ev_var rfl) hb3 (nV_at (by omega))) (ev_ixT (ev_ixT (ev_var rfl) ev_c hm3 rfl) (ev_var rfl) hb3 (nV_at hc)) (rv_eq rfl)) ?_
        congr 1
        by_cases h : rs.getD i 0 = rs.getD c 0
        · rw [h]; simp
        · rw [decide_eq_false h, decide_eq_false fun z => h (by have := V.int.inj z; omega)]
      have hd4 := (e3.trans e4) _ _ hd2
      have hval : Ev (tIf (tOr (tAnd (tB (tVar 7)) (tTest (tOp (rI0 fun i j => .bl (decide (i > j))) (tVar 6) (tC (.int 0))))) (tAnd (tTest (tOp rEq (tVar 2) (tC (.str "set")))) (tTest (tOp rEq (tVar 5) (tVar 3))))) (tOp (rIx K) (tOp (rIx K) (tVar 0) (tC (.int 0))) (tVar 5)) (tCB (fun vs H Q => ∃ i j, vs = [.int i, .int j] ∧ Q (.int (if i < j then j else i)) H) (tCons (tC (.int 0)) (tCons (tOp (rI0 fun i j => .int (i - j)) (tVar 6) (tC (.int 1))) tNil))))
          [some (.ref m), some (.ref l), some (.str wd), some cv, some (.ref d), some (.int (i : Int)), some (.int (y : Nat)), some (.bl (kd.near && decide (rs.getD i 0 = rs.getD c 0)))] H4 (.int (bh kd fs rs ls c i : Nat)) := by
        have hbc : bhC kd rs y c i = (((kd.near && decide (rs.getD i 0 = rs.getD c 0)) && decide ((y : Int) > 0)) || (kd.isSet && decide (i = c))) := by
          unfold bhC
          have : decide (y > 0) = decide ((y : Int) > 0) := by
            by_cases h : y > 0
            · rw [decide_eq_true h, decide_eq_true (by omega)]
            · rw [decide_eq_false h, decide_eq_false (by omega)]
          rw [this]
        refine ev_if (b := bhC kd rs y c i) (et_is (et_or (et_and (et_B (ev_var rfl)) fun _ => et_i0 (ev_var rfl) ev_c) fun _ => et_and (et_is (et_eq (ev_var rfl) ev_c rfl) k2) fun hs => ?_) hbc.symm) (fun hb => ?_) (fun hb => ?_)
        · have hn : kd.near = true := by cases kd <;> simp [Kd.isSet] at hs <;> rfl
          obtain ⟨rfl, hc⟩ := k3 hn
          refine et_is (et_eq (ev_var rfl) (ev_var rfl) rfl) ?_
          by_cases h : i = c
          · rw [h]; simp
          · rw [decide_eq_false h, decide_eq_false fun z => h (by have := V.int.inj z; omega)]
        · have : bh kd fs rs ls c i = fs.getD i 0 := by unfold bh; rw [hyd, if_pos hb]
          rw [this]
          exact ev_ixT (ev_ixT (ev_var rfl) ev_c (ex_t e4 hm3) rfl) (ev_var rfl) (ex_t e4 ha3) (nV_at (by omega))
        · have : bh kd fs rs ls c i = y - 1 := by unfold bh; rw [hyd, if_neg (by rw [hb]; exact fun z => nomatch z)]
          rw [this]
          have h2 : ((y - 1 : Nat) : Int) = (if (0 : Int) < (y : Int) - 1 then (y : Int) - 1 else 0) := by split <;> omega
          rw [h2]
          exact ev_max2 ev_c (ev_i0 (ev_var rfl) ev_c)
      refine s_app hd4 (ev_var rfl) hval (by rw [nV_len, List.length_map, List.length_range]; omega) fun H5 e5 => ?_
      refine ⟨_, _, _, Ex.mut ((e03.trans e4).trans e5) hd, ?_, rfl⟩
      rw [upd_same, List.range_succ, List.map_append, nV_app]
      rfl
    · rintro σ H2 ⟨z5, z6, z7, e2, hd2, rfl⟩
      rw [nV_len, ← bhL_eq] at hd2
      exact s_retU (eu_tpl (ev_var rfl) (sq_of hd2)) fun q H3 hq e3 h3 => k q H3 (fresh_back e2 hq) (e2.trans e3) h3
end
end Fm
set_option Elab.async false
set_option linter.all false
set_option maxRecDepth 100000
set_option maxHeartbeats 1000000
namespace Fm
open PySem L2
def spTaken (K : PySem.W.Frag) : Sp := fun vs H Q _ => ∃ (r s : Addr) (ns : List Int) (a b c many : Int), vs = [.ref r, .int many] ∧ H r = some (.lst [.ref s, .int a, .int b, .int c]) ∧ SqL K H s (ns.map V.int) ∧ 0 ≤ a ∧ 0 < many ∧ many < 1000000 ∧
  ∀ n a' b' c', 0 ≤ n → n < many → 0 ≤ a' → Q (.int n) (upd H r (.lst [.ref s, .int a', .int b', .int c']))
section
variable {P : Program} {w : World} {K : PySem.W.Frag} {mg : Str → Option Value} {base : Heap}
abbrev s_law_taken : Stmt := top 52
theorem sc_law_taken : FnScope ["row", "many", "found", "cell"] ["row", "many"] (defScope s_law_taken) := ⟨rfl, rfl, rfl, by decide +kernel, rfl, by decide +kernel, by decide +kernel⟩
--TY _law_taken {'row':('list','any'),'cell':'int','found':'int','many':'int'}
theorem fmod_lo {a b : Int} (h : 0 < b) : 0 ≤ a.fmod b := Int.fmod_nonneg_of_pos a h
theorem fmod_hi {a b : Int} (h : 0 < b) : a.fmod b < b := Int.fmod_lt_of_pos a h
theorem row_ne {H : Hp} {r s s' : Addr} {a b c : Int} {ns : List Int} (h1 : H r = some (.lst [.ref s', .int a, .int b, .int c])) (h : Rd H s (.lst (ns.map V.int))) : r ≠ s := fun z => by
  subst z
  rcases h with h | ⟨u, h⟩
  · rw [h1] at h
    cases ns with
    | nil => cases h
    | cons n ns => cases h
  · rw [h1] at h
    cases h
theorem SqL_upd {H : Hp} {r s s' : Addr} {o : HO} {a b c : Int} {ns : List Int} (h1 : H r = some (.lst [.ref s', .int a, .int b, .int c])) (h : SqL K H s (ns.map V.int)) : SqL K (upd H r o) s (ns.map V.int) := by
  rcases h with h | h
  · have ne := row_ne h1 h
    rcases h with h | ⟨u, h⟩
    · exact .inl (.inl (by rw [upd_ne (Ne.symm ne)]; exact h))
    · exact .inl (.inr ⟨u, by rw [upd_ne (Ne.symm ne)]; exact h⟩)
  · exact .inr h
theorem ok_taken {f : Addr} {fd : FuncData} (F : Fun K "_law_taken" "_law_taken" s_law_taken f fd) (T : Txt K mg) : FnOk P w K mg base CX0 1 f fd ["row", "many"] (spTaken K) := by
  refine F.ok sc_law_taken (fun vs H Q E h => ?_) (fun cdv A outer s H vs Q E hr h => ?_)
  · obtain ⟨_, _, _, _, _, _, _, rfl, _⟩ := h
    rfl
  · obtain ⟨r, s, ns, a, b, c, many, rfl, h1, hs, ha, hm, hm2, k⟩ := h
    refine ⟨_, (pss_cons (ps_if (pt_cmpR op_gt (pe_ix (ix_K (K := K) rfl) (pv 0) pe_int (fun _ _ => rfl)) pe_int (nomark _)) (pss_cons (ps_set (i := 2) sc_law_taken.nd rfl (Or.inl rfl) (pe_op op_modN (pe_callTy call_int1 (by rfl) T.z_int (by decide +kernel) (pa_cons (pe_ix (ix_K (K := K) rfl) (pv 0) pe_int (fun _ _ => rfl)) pa_nil)) (pv 1)))
  (pss_cons (ps_asg (pe_op op_fdivN (pe_ix (ix_K (K := K) rfl) (pv 0) pe_int (fun _ _ => rfl)) (pv 1)) (pg_sub (pv 0) pe_int set_list))
  (pss_one (ps_ret (pv 2))))) pss_nil)
  (pss_cons (ps_asg (pe_op op_add (pe_ix (ix_K (K := K) rfl) (pv 0) pe_int (fun _ _ => rfl)) pe_int) (pg_sub (pv 0) pe_int set_list))
  (pss_cons (ps_if (pt_cmpR op_gt (pe_ix (ix_K (K := K) rfl) (pv 0) pe_int (fun _ _ => rfl)) (pe_callB (len_K (K := K) rfl) (by rfl) T.z_len (by decide +kernel) (pa_cons (pe_ix (ix_K (K := K) rfl) (pv 0) pe_int (fun _ _ => rfl)) pa_nil)) (nomark _)) (pss_cons (ps_asg (pe_op op_modN (pe_callTy call_int1 (by rfl) T.z_int (by decide +kernel) (pa_cons (pe_op op_add (pe_op op_mul (pe_ix (ix_K (K := K) rfl) (pv 0) pe_int (fun _ _ => rfl)) pe_int) pe_int) pa_nil)) pe_int) (pg_sub (pv 0) pe_int set_list))
  (pss_one (ps_ret (pe_op op_modN (pe_callTy call_int1 (by rfl) T.z_int (by decide +kernel) (pa_cons (pe_op op_fdivN (pe_ix (ix_K (K := K) rfl) (pv 0) pe_int (fun _ _ => rfl)) pe_int) pa_nil)) (pv 1))))) pss_nil)
  (pss_cons (ps_set (i := 3) sc_law_taken.nd rfl (Or.inl rfl) (pe_ix (ix_K (K := K) rfl) (pe_ix (ix_K (K := K) rfl) (pv 0) pe_int (fun _ _ => rfl)) (pe_op op_sub (pe_ix (ix_K (K := K) rfl) (pv 0) pe_int (fun _ _ => rfl)) pe_int) (fun _ _ => rfl)))
  (pss_cons (ps_asg (pe_op op_modN (pe_callTy call_int1 (by rfl) T.z_int (by decide +kernel) (pa_cons (pe_op op_add (pe_op op_add (pe_op op_mul (pe_ix (ix_K (K := K) rfl) (pv 0) pe_int (fun _ _ => rfl)) pe_int) (pv 3)) pe_int) pa_nil)) pe_int) (pg_sub (pv 0) pe_int set_list))
  (pss_cons (ps_if (pt_cmpR op_ge (pv 3) (pe_op op_pow pe_int pe_int) (nomark _)) (pss_one (ps_asg (pe_op op_fdivN (pv 3) (pv 1)) (pg_sub (pv 0) pe_int set_list))) pss_nil)
  (pss_one (ps_ret (pe_op op_modN (pe_callTy call_int1 (by rfl) T.z_int (by decide +kernel) (pa_cons (pv 3) pa_nil)) (pv 1)))))))))), ?_⟩
    have nz : many ≠ 0 := by omega
    have hq := SqL.of (K := K) h1
    refine st_seq (st_if (ans_i0 (val_ixL (val_var rfl) val_c hq rfl) val_c) (fun hc => ?_) (fun hc => ?_))
    · -- a rest
      refine st_asg (val_i (val_int1 (val_ixL (val_var rfl) val_c hq rfl)) (val_var rfl) nz) ?_
      refine st_setL (val_i (val_ixL (val_var rfl) val_c hq rfl) (val_var rfl) ⟨nz, by omega⟩) (val_var rfl) val_c h1 rfl ?_
      refine st_ret (val_var rfl) ?_
      exact k _ _ _ _ (fmod_lo hm) (fmod_hi hm) ha
    · refine st_setL (val_i0 (val_ixL (val_var rfl) val_c hq rfl) val_c) (val_var rfl) val_c h1 rfl ?_
      have hq1 := SqL.of (K := K) (upd_same (H := H) (a := r) (o := .lst ([.ref s, .int a, .int b, .int c].set 1 (.int (a + 1)))))
      have hs1 := SqL_upd (K := K) (o := .lst ([.ref s, .int a, .int b, .int c].set 1 (.int (a + 1)))) h1 hs
      refine st_seq (st_if (ans_i0 (val_ixL (val_var rfl) val_c hq1 rfl) (val_lenX (val_ixL (val_var rfl) val_c hq1 rfl) (.inl ⟨_, hs1, rfl⟩))) (fun hc => ?_) (fun hc => ?_))
      · refine st_setL (val_i (val_int1 (val_i0 (val_i (val_ixL (val_var rfl) val_c hq1 rfl) val_c (.inr ⟨by decide, by decide⟩)) val_c)) val_c (by decide)) (val_var rfl) val_c upd_same rfl ?_
        rw [upd_upd]
        refine st_ret (val_i (val_int1 (val_i (val_ixL (val_var rfl) val_c (SqL.of upd_same) rfl) val_c ⟨by decide, by decide⟩)) (val_var rfl) nz) ?_
        exact k _ _ _ _ (fmod_lo hm) (fmod_hi hm) (by omega)
      · have hlt : a < (ns.length : Int) := by
          have := of_decide_eq_false hc
          rw [List.length_map] at this
          omega
        have e1 : atI (ns.map V.int) (a + 1 - 1) = some (.int (ns[a.toNat]'(by omega))) := by
          have : a + 1 - 1 = a := by omega
          rw [this]
          unfold atI ixN
          rw [if_pos ha, if_pos (by rw [List.length_map]; exact hlt)]
          simp
        refine st_asg (val_ixL (val_ixL (val_var rfl) val_c hq1 rfl) (val_i0 (val_ixL (val_var rfl) val_c hq1 rfl) val_c) hs1 e1) ?_
        refine st_setL (val_i (val_int1 (val_i0 (val_i0 (val_i (val_ixL (val_var rfl) val_c hq1 rfl) val_c (.inr ⟨by decide, by decide⟩)) (val_var rfl)) val_c)) val_c (by decide)) (val_var rfl) val_c upd_same rfl ?_
        rw [upd_upd]
        refine st_seq (st_if (ans_i0 (val_var rfl) (val_i val_c val_c ⟨by decide, by decide, by decide⟩)) (fun hc => ?_) (fun hc => ?_))
        · refine st_setL1 (val_i (val_var rfl) (val_var rfl) ⟨nz, by omega⟩) (val_var rfl) val_c upd_same rfl ?_
          rw [upd_upd]
          dsimp only
          refine st_ret (val_i (val_int1 (val_var rfl)) (val_var rfl) nz) ?_
          exact k _ _ _ _ (fmod_lo hm) (fmod_hi hm) (by omega)
        · refine st_next ?_
          dsimp only
          refine st_ret (val_i (val_int1 (val_var rfl)) (val_var rfl) nz) ?_
          exact k _ _ _ _ (fmod_lo hm) (fmod_hi hm) (by omega)
end
end Fm
set_option Elab.async false
set_option linter.all false
set_option maxRecDepth 100000
set_option maxHeartbeats 1000000
namespace Fm
open PySem L2 Evl
/-- the heap without r -/
def rem (H : Hp) (r : Addr) : Hp := fun b => if b = r then none else H b
theorem rem_ne {H : Hp} {r b : Addr} (h : b ≠ r) : rem H r b = H b := if_neg h
theorem rem_eq {H : Hp} {r : Addr} : rem H r r = none := if_pos rfl
theorem rem_ex {H : Hp} {r : Addr} : Ex (rem H r) H := fun b o h => by
  by_cases z : b = r
  · rw [z, rem_eq] at h; cases h
  · rwa [rem_ne z] at h
/-- what stands in H0, where r does not, stands behind a change of r -/
theorem Ex.past {H0 H1 H2 : Hp} {r : Addr} (e : Ex H0 H1) (h : H0 r = none) (e' : Ex (rem H1 r) H2) : Ex H0 H2 := fun b o hb => e' b o (by
  rw [rem_ne (fun z => by rw [z, h] at hb; cases hb)]
  exact e b o hb)
section
variable {K : PySem.W.Frag} {H H' : Hp} {r s a l : Addr} {xs ys : List V} {ns : List Int}
theorem sqT_rem (hr : H r = some (.lst ys)) (h : SqT K H a xs) : SqT K (rem H r) a xs := by
  have ne : ∀ o, H a = some o → o ≠ .lst ys → a ≠ r := fun o h1 h2 z => by
    rw [z, hr] at h1
    exact h2 (Option.some.inj h1).symm
  rcases h with (h | ⟨u, h⟩) | h
  · exact .inl (.inl (by rw [rem_ne (ne _ h (fun z => nomatch z))]; exact h))
  · exact .inl (.inr ⟨u, by rw [rem_ne (ne _ h (fun z => nomatch z))]; exact h⟩)
  · exact .inr h
theorem sqL_rem (hr : s ≠ r) (h : SqL K H s xs) : SqL K (rem H r) s xs := by
  rcases h with (h | ⟨u, h⟩) | h
  · exact .inl (.inl (by rw [rem_ne hr]; exact h))
  · exact .inl (.inr ⟨u, by rw [rem_ne hr]; exact h⟩)
  · exact .inr h
theorem sqT_upd {zs : List V} (hr : H r = some (.lst ys)) (h : SqT K H a xs) : SqT K (upd H r (.lst zs)) a xs := by
  have h2 := sqT_rem hr h
  exact ex_t (fun b o hb => by
    by_cases z : b = r
    · rw [z, rem_eq] at hb; cases hb
    · rw [rem_ne z] at hb
      rw [upd_ne z]
      exact hb) h2
theorem inAt_rem {v : V} {i : In} (hr : H r = some (.lst ys)) (h : InAt K H v i) : InAt K (rem H r) v i := let ⟨b, h1, h2⟩ := h; ⟨b, h1, sqT_rem hr h2⟩
theorem inAt_upd {v : V} {i : In} {zs : List V} (hr : H r = some (.lst ys)) (h : InAt K H v i) : InAt K (upd H r (.lst zs)) v i := let ⟨b, h1, h2⟩ := h; ⟨b, h1, sqT_upd hr h2⟩
theorem pg_rem {p : List In} (hr : H r = some (.lst ys)) (h : PgT K H a p) : PgT K (rem H r) a p := let ⟨xs, h1, h2⟩ := h; ⟨xs, sqT_rem hr h1, Paired.mapP h2 fun _ _ z => inAt_rem hr z⟩
def RowC (H : Hp) (r s : Addr) : Prop := ∃ a b c : Int, H r = some (.lst [.ref s, .int a, .int b, .int c]) ∧ 0 ≤ a
/-- the row at r, of the script at s -/
structure RowAt (K : PySem.W.Frag) (H : Hp) (r s : Addr) (ns : List Int) : Prop where
  c : RowC H r s
  q : SqL K H s (ns.map V.int)
theorem RowC.up (e : Ex H H') (h : RowC H r s) : RowC H' r s := let ⟨a, b, c, h1, h2⟩ := h; ⟨a, b, c, e _ _ h1, h2⟩
theorem RowAt.up (e : Ex H H') (h : RowAt K H r s ns) : RowAt K H' r s ns := ⟨h.c.up e, ex_l e h.q⟩
theorem RowAt.qr (h : RowAt K H r s ns) : SqL K (rem H r) s (ns.map V.int) := by
  obtain ⟨⟨a, b, c, h1, _⟩, h | h⟩ := h
  · have ne := row_ne h1 h
    exact sqL_rem ne.symm (.inl h)
  · exact .inr h
theorem RowAt.to (h : RowAt K H r s ns) (e : Ex (rem H r) H') (c : RowC H' r s) : RowAt K H' r s ns := ⟨c, ex_l e h.qr⟩
theorem RowAt.lst (h : RowAt K H r s ns) : ∃ ys, H r = some (.lst ys) := let ⟨_, _, _, h1, _⟩ := h.c; ⟨_, h1⟩
end
def spTak (K : PySem.W.Frag) : Sp := fun vs H Q _ => ∃ (r s : Addr) (ns : List Int) (m : Nat), vs = [.ref r, .int (m : Nat)] ∧ RowAt K H r s ns ∧ 0 < m ∧ m < 1000000 ∧ ∀ (n : Nat) H', n < m → RowAt K H' r s ns → Ex (rem H r) H' → Q (.int (n : Nat)) H'
theorem tak_imp {K : PySem.W.Frag} (vs : List V) (H : Hp) (Q : VK) (E : XK) (h : spTak K vs H Q E) : spTaken K vs H Q E := by
  obtain ⟨r, s, ns, m, rfl, R, h1, h2, k⟩ := h
  have R0 := R
  obtain ⟨⟨a, b, c, hr, ha⟩, hq⟩ := R
  refine ⟨r, s, ns, a, b, c, (m : Int), rfl, hr, hq, ha, by omega, by omega, fun n a' b' c' n0 nm a0 => ?_⟩
  have e : Ex (rem H r) (upd H r (.lst [.ref s, .int a', .int b', .int c'])) := fun x o hx => by
    by_cases z : x = r
    · rw [z, rem_eq] at hx; cases hx
    · rw [rem_ne z] at hx
      rw [upd_ne z]
      exact hx
  have := k n.toNat _ (by omega) (R0.to e ⟨a', b', c', upd_same, a0⟩) e
  rwa [show ((n.toNat : Nat) : Int) = n by omega] at this
section
variable {K : PySem.W.Frag} {σ : L2.St} {H : Hp} {ta tb te : TE} {tr tA : TA} {D : Ends} {tz : TS} {Q : VK} {x : V} {r : R2}
theorem m_op (ha : Ev ta σ H x) (k : ∀ H1, Ex H H1 → tb σ H1 fun y H2 => r x y H2 Q) : tOp r ta tb σ H Q := ha H (Ex.refl H) _ k
theorem m_cons {Q : List V → Hp → Prop} (ha : Ev ta σ H x) (k : ∀ H1, Ex H H1 → tr σ H1 fun xs H2 => Q (x :: xs) H2) : tCons ta tr σ H Q := ha H (Ex.refl H) _ k
theorem m_appQ {l : Addr} {xs : List V} (ha : Ev ta σ H (.ref l)) (hl : H l = some (.lst xs)) (k : ∀ H1, Ex H H1 → te σ H1 fun v H2 => rAppend (.ref l) [v] H2 fun _ H3 => tz D σ H3) : tSeq (tDrop (tBM K "list" rAppend ta (tCons te tNil))) tz D σ H :=
  ha H (Ex.refl H) _ fun H1 e1 => ⟨Or.inl ⟨rfl, xs, sq_of (e1 l _ hl)⟩, k H1 e1⟩
theorem m_call {sp : Sp} {E : XK} {vs : List V} (h : EvA tA σ H vs) (k : ∀ H1, Ex H H1 → sp (vs ++ []) H1 Q E) : tCall sp [] E tA σ H Q := h H (Ex.refl H) _ k
end
def spPick (K : PySem.W.Frag) : Sp := fun vs H Q _ => ∃ (r s t : Addr) (ns : List Int) (xs : List V), vs = [.ref r, .ref t] ∧ RowAt K H r s ns ∧ SqL K H t xs ∧ t ≠ r ∧ 0 < xs.length ∧ xs.length < 1000000 ∧ ∀ x H', x ∈ xs → RowAt K H' r s ns → Ex (rem H r) H' → Q x H'
section
variable {P : Program} {w : World} {K : PySem.W.Frag} {mg : Str → Option Value} {base : Heap}
theorem ok_tak {f : Addr} {fd : FuncData} (F : Fun K "_law_taken" "_law_taken" s_law_taken f fd) (T : Txt K mg) : FnOk P w K mg base CX0 1 f fd ["row", "many"] (spTak K) := (ok_taken F T).imp tak_imp
abbrev s_law_pick : Stmt := top 53
theorem sc_law_pick : FnScope ["row", "things"] ["row", "things"] (defScope s_law_pick) := ⟨rfl, rfl, rfl, by decide +kernel, rfl, by decide +kernel, by decide +kernel⟩
--TY _law_pick {'row':('list','any'),'things':('list','any')}
theorem ok_pick {f f1 : Addr} {fd fd1 : FuncData} (F : Fun K "_law_pick" "_law_pick" s_law_pick f fd) (T : Txt K mg) (C_law_taken : Cal P w K mg base CX0 1 "_law_taken" f1 fd1 ["row", "many"] (spTak K)) : FnOk P w K mg base CX0 2 f fd ["row", "things"] (spPick K) := by
  refine F.ok sc_law_pick (fun vs H Q E h => ?_) (fun cdv A outer s H vs Q E hr h => ?_)
  · obtain ⟨_, _, _, _, _, rfl, _⟩ := h
    rfl
  · obtain ⟨r, s, t, ns, xs, rfl, R, ht, hne, h0, h1, k⟩ := h
    refine ⟨_, (pss_one (ps_ret (pe_ix (ix_K (K := K) rfl) (pv 1) (pe_call C_law_taken.G (hr.mono (by first | decide | omega)) rfl C_law_taken.g C_law_taken.kp C_law_taken.b .nil pass0 (pa_cons (pv 0) (pa_cons (pe_callB (len_K (K := K) rfl) (by rfl) T.z_len (by decide +kernel) (pa_cons (pv 1) pa_nil)) pa_nil))) (fun _ _ => rfl)))), ?_⟩
    refine m_op (ev_var rfl) fun H1 e1 => m_call (ea_cons (ev_var rfl) (ea_cons (ev_lnL (ev_var rfl) (ex_l e1 ht)) ea_nil)) fun H2 e2 => ?_
    refine ⟨r, s, ns, xs.length, rfl, R.up (e1.trans e2), h0, h1, fun n H3 hn R3 e3 => ?_⟩
    have e13 : Ex (rem H r) H3 := Ex.past (rem_ex.trans (e1.trans e2)) rem_eq e3
    have ht3 := ex_l e13 (sqL_rem hne ht)
    exact .inl ⟨t, xs, (n : Int), xs[n], rfl, rfl, ht3, atI_nat' (List.getElem?_eq_getElem hn), k _ H3 (List.getElem_mem hn) R3 e13⟩
end
end Fm
set_option Elab.async false
set_option linter.all false
set_option maxRecDepth 100000
set_option maxHeartbeats 1000000
namespace Fm
open PySem L2 Evl RZ L2
def spLMa (K : PySem.W.Frag) : Sp := fun vs H Q _ => ∃ (r s : Addr) (ns : List Int) (mo fd : Nat), vs = [.ref r, .int (mo : Nat), .int (fd : Nat)] ∧ RowAt K H r s ns ∧ 0 < mo ∧ mo ≤ 4 ∧ 0 < fd ∧ fd ≤ 8 ∧
  ∀ m fs rs H', MaT K H' m fs rs → MaOk fs rs → fs.length ≤ mo → RowAt K H' r s ns → Ex (rem H r) H' → Q (.ref m) H'
theorem nm_app (rs : List Nat) (r : Nat) : nm (rs ++ [r]) = max (nm rs) (r + 1) := by
  unfold nm
  rw [List.foldl_append]
  rfl
theorem rowsOk_app {rs : List Nat} {r : Nat} (h : RowsOk rs) (hr : r ≤ nm rs) : RowsOk (rs ++ [r]) := fun i x hx => by
  by_cases hi : i < rs.length
  · rw [List.getElem?_append_left hi] at hx
    rw [List.take_append_of_le_length (Nat.le_of_lt hi)]
    exact h i x hx
  · have : i = rs.length := by
      have := (List.getElem?_eq_some_iff.mp hx).1
      rw [List.length_append, List.length_singleton] at this
      omega
    subst this
    rw [List.getElem?_append_right (Nat.le_refl _), Nat.sub_self] at hx
    cases hx
    rw [List.take_left']
    · exact hr
    · rfl
section
variable {P : Program} {w : World} {K : PySem.W.Frag} {mg : Str → Option Value} {base : Heap}
theorem m_retTup {σ : L2.St} {H : Hp} {D : Ends} {tA : TA} (h : tA σ H fun xs H1 => xs.length ≤ sizeLine ∧ ∀ p, H1 p = none → D.rt (.ref p) (upd H1 p (.tup xs))) : tRet (tTup tA) D σ H := h
theorem m_consTplLc {Q : List V → Hp → Prop} {σ : L2.St} {H : Hp} {te : TE} {tr : TA} (h : te σ H fun x H1 => rTpl K [x] H1 fun y H2 => tr σ H2 fun ys H3 => Q (y :: ys) H3) : tCons (tCB (rTpl K) (tCons te tNil)) tr σ H Q := h
abbrev s_law_machine : Stmt := top 55
theorem sc_law_machine : FnScope ["row", "most", "fade", "many", "rows", "least", "cell"] ["row", "most", "fade"] (defScope s_law_machine) := ⟨rfl, rfl, rfl, by decide +kernel, rfl, by decide +kernel, by decide +kernel⟩
--TY _law_machine {'row':L,'rows':('list','int'),'many':'int','least':'int','cell':'int'}
theorem ok_lmachine {f f1 : Addr} {fd fd1 : FuncData} (F : Fun K "_law_machine" "_law_machine" s_law_machine f fd) (T : Txt K mg) (C_law_taken : Cal P w K mg base CX0 1 "_law_taken" f1 fd1 ["row", "many"] (spTak K)) : FnOk P w K mg base CX0 2 f fd ["row", "most", "fade"] (spLMa K) := by
  refine F.ok sc_law_machine (fun vs H Q E h => ?_) (fun cdv A outer s H vs Q E hr h => ?_)
  · obtain ⟨_, _, _, _, _, rfl, _⟩ := h
    rfl
  · obtain ⟨r, s, ns, mo, fd, rfl, R, hm0, hm4, hf0, hf8, k⟩ := h
    refine ⟨_, (pss_cons (ps_par3 (i := 3) (j := 4) (l := 5) (by rfl) sc_law_machine.nd rfl rfl rfl (by decide) (by decide) (by decide) rfl rfl rfl (pa_cons (pe_op op_add pe_int (pe_call C_law_taken.G (hr.mono (by first | decide | omega)) rfl C_law_taken.g C_law_taken.kp C_law_taken.b .nil pass0 (pa_cons (pv 0) (pa_cons (pv 1) pa_nil)))) (pa_cons (pe_lst pa_nil) (pa_cons pe_int pa_nil))) (by rfl))
  (pss_cons (ps_for PassesOwn.never rfl (pi_range1 rfl T.z_range (pa_cons (pv 3) pa_nil)) (pg_name (i := 6) sc_law_machine.nd rfl (by first | exact Or.inl rfl | exact Or.inr rfl)) (pss_cons (ps_expr (pe_bm PySem.F.plainAttrs_list PySem.F.slot_list_append PySem.F.type_list_append mt_append (pv 4) (pa_cons (pe_call C_law_taken.G (hr.mono (by first | decide | omega)) rfl C_law_taken.g C_law_taken.kp C_law_taken.b .nil pass0 (pa_cons (pv 0) (pa_cons (pe_op op_add (pv 5) pe_int) pa_nil))) pa_nil)))
  (pss_one (ps_set (i := 5) sc_law_machine.nd rfl (Or.inl rfl) (pe_callB (call_max2 rfl) (by rfl) T.z_max (by decide +kernel) (pa_cons (pv 5) (pa_cons (pe_op op_add (pe_ix (ix_K (K := K) rfl) (pv 4) (pe_un un_neg pe_int) (fun _ _ => rfl)) pe_int) pa_nil)))))))
  (pss_one (ps_ret (pe_tup (pa_cons (pe_callTy (tpl_K (K := K) rfl) (by rfl) T.z_tuple (by decide +kernel) (pa_cons (pe_lc (own := [("cell", 6)]) (g := gName 6) rfl sc_law_machine.nd (pi_range1 rfl T.z_range (pa_cons (pv 3) pa_nil)) (blkOk_by (by kernel_rfl)) (fun _ _ _ _ _ => pg_name (i := 6) sc_law_machine.nd rfl (by first | exact Or.inl rfl | exact Or.inr rfl)) (fun _ _ _ _ _ => pts_nil) (fun _ _ _ _ _ => (pe_op op_add pe_int (pe_call C_law_taken.G (hr.mono (by first | decide | omega)) rfl C_law_taken.g C_law_taken.kp C_law_taken.b .nil pass0 (pa_cons (pv 0) (pa_cons (pv 2) pa_nil)))))) pa_nil)) (pa_cons (pe_callTy (tpl_K (K := K) rfl) (by rfl) T.z_tuple (by decide +kernel) (pa_cons (pv 4) pa_nil)) pa_nil))))))), ?_⟩
    refine m_op ev_c fun H1 e1 => m_call (ea_cons (ev_var rfl) (ea_cons (ev_var rfl) ea_nil)) fun H2 e2 => ?_
    refine ⟨r, s, ns, mo, rfl, R.up (e1.trans e2), hm0, by omega, fun n H3 hn R3 e3 => ?_⟩
    have e03 : Ex (rem H r) H3 := Ex.past (rem_ex.trans (e1.trans e2)) rem_eq e3
    refine ⟨_, _, rfl, rfl, Nat.zero_le _, fun l hl => ?_⟩
    have hlr : l ≠ r := by
      obtain ⟨ys, hys⟩ := R3.lst
      exact (ne_of_none hys hl).symm
    have hl0 : rem H r l = none := fresh_back e03 hl
    have hs0 : (1 : Int) + ((n : Nat) : Int) = ((n + 1 : Nat) : Int) := by omega
    refine ⟨.int ((n + 1 : Nat) : Int), .ref l, .int ((0 : Nat) : Int), by rw [← hs0]; rfl, ?_⟩
    dsimp only
    have R4 : RowAt K (upd H3 l (.lst [])) r s ns := R3.up (Ex.new hl)
    refine q_forR1 (n := ((n + 1 : Nat) : Int)) (ea_cons (ev_var rfl) ea_nil) ⟨by omega, by omega⟩
      (fun j σ H' => ∃ (rs : List Nat) (z : Option V), Ex (rem H r) H' ∧ RowC H' r s ∧ H' l = some (.lst (nV rs)) ∧ rs.length = j ∧ RowsOk rs ∧ σ = [some (.ref r), some (.int (mo : Nat)), some (.int (fd : Nat)), some (.int ((n + 1 : Nat) : Int)), some (.ref l), some (.int (nm rs : Nat)), z])
      (fun H4 e4 => ⟨[], _, (Ex.mut e03 hl0).trans e4, R4.c.up e4, e4 _ _ upd_same, rfl, fun i r h => by simp at h, rfl⟩) ?_ ?_
    · rintro j σ H4 hj ⟨rs, z, e4, c4, l4, hrl, hok, rfl⟩
      have R4 := R.to e4 c4
      have hnmb : nm rs ≤ rs.length := by
        have : ∀ (k : Nat), k ≤ rs.length → nm (rs.take k) ≤ k := fun k => by
          induction k with
          | zero => intro _; simp [nm]
          | succ k ih =>
            intro hk
            have h1 := ih (by omega)
            have hx : rs[k]? = some rs[k] := List.getElem?_eq_getElem (by omega)
            have h2 := hok k _ hx
            rw [nm_succ hx]
            omega
        have h := this rs.length (Nat.le_refl _)
        rwa [List.take_length] at h
      refine m_appQ (ev_var rfl) l4 fun H5 e5 => m_call (ea_cons (ev_var rfl) (ea_cons (ev_succ (n := nm rs) (ev_var rfl)) ea_nil)) fun H6 e6 => ?_
      refine ⟨r, s, ns, nm rs + 1, rfl, R4.up (e5.trans e6), by omega, by omega, fun x H7 hx R7 e7 => ?_⟩
      have l7 : H7 l = some (.lst (nV rs)) := e7 _ _ (by rw [rem_ne hlr]; exact (e5.trans e6) _ _ l4)
      refine ⟨l, nV rs, _, rfl, rfl, l7, sz_lt (by rw [nV_len]; omega), ?_⟩
      have e07 : Ex (rem H r) H7 := Ex.past (e4.trans (e5.trans e6)) rem_eq e7
      have e08 : Ex (rem H r) (upd H7 l (.lst (nV rs ++ [.int (x : Nat)]))) := Ex.mut e07 hl0
      have c8 : RowC (upd H7 l (.lst (nV rs ++ [.int (x : Nat)]))) r s := by
        obtain ⟨a', b', c', h1, h2⟩ := R7.c
        exact ⟨a', b', c', by rw [upd_ne hlr.symm]; exact h1, h2⟩
      have l8 : upd H7 l (.lst (nV rs ++ [.int (x : Nat)])) l = some (.lst (nV (rs ++ [x]))) := by rw [upd_same, nV_app]; rfl
      generalize upd H7 l (.lst (nV rs ++ [.int (x : Nat)])) = H8 at e08 c8 l8 ⊢
      have hlast : atI (nV (rs ++ [x])) (-1) = some (.int (x : Nat)) := by
        rw [nV_app]
        unfold atI ixN
        simp [nV]
        rw [if_pos (by omega)]
        show (List.map (fun (x : Nat) => V.int (x : Nat)) rs ++ [V.int (x : Nat)])[(-1 + ((rs.length : Int) + 1)).toNat]? = _
        rw [show (-1 + ((rs.length : Int) + 1)).toNat = rs.length by omega, List.getElem?_append_right (by rw [List.length_map]; exact Nat.le_refl _)]
        simp
      have hmax : ((nm (rs ++ [x]) : Nat) : Int) = (if (nm rs : Int) < (x : Int) + 1 then (x : Int) + 1 else (nm rs : Int)) := by
        rw [nm_app]
        split <;> omega
      refine s_asg (v := .int ((nm (rs ++ [x]) : Nat) : Int)) (by rw [hmax]; exact ev_max2 (ev_var rfl) (ev_i0 (ev_ixL (ev_var rfl) (ev_neg ev_c) (sq_of l8) hlast) ev_c)) fun H9 e9 => ?_
      exact ⟨rs ++ [x], some (.int (j : Int)), e08.trans e9, c8.up e9, e9 _ _ l8, by simp [hrl], rowsOk_app hok (by omega), rfl⟩
    · rintro σ H4 ⟨rs, z, e4, c4, l4, hrl, hok, rfl⟩
      have hrn : rs.length = n + 1 := by rw [hrl]; omega
      have R4 := R.to e4 c4
      -- the fades
      refine m_retTup ?_
      refine m_consTplLc ?_
      refine ⟨_, rfl, ((n + 1 : Nat) : Int), rfl, by omega, by omega, fun D hD => lc_range (lo := 0) (n := n + 1) (fun i H' => ∃ fs : List Nat, Ex (rem H4 r) H' ∧ RowC H' r s ∧ H' D = some (.lst (nV fs)) ∧ fs.length = i ∧ ∀ x ∈ fs, 1 ≤ x ∧ x ≤ fd) ⟨[], rem_ex.trans (Ex.new hD), R4.c.up (Ex.new hD), upd_same, rfl, by simp⟩ ?_ ?_⟩
      · have hDr : D ≠ r := by
          obtain ⟨ys, hys⟩ := R4.lst
          exact (ne_of_none hys hD).symm
        rintro i H5 hi ⟨fs, e5, c5, h5, hfl, hfs⟩
        have R5 := R4.to e5 c5
        refine ⟨rfl, ?_⟩
        refine yes_lc ?_
        rw [if_pos rfl]
        refine m_op ev_c fun H6 e6 => m_call (ea_cons (ev_var rfl) (ea_cons (ev_var rfl) ea_nil)) fun H7 e7 => ?_
        refine ⟨r, s, ns, fd, rfl, R5.up (e6.trans e7), hf0, by omega, fun x H8 hx R8 e8 => ?_⟩
        have h8 : H8 D = some (.lst (nV fs)) := e8 _ _ (by rw [rem_ne hDr]; exact (e6.trans e7) _ _ h5)
        have e48 : Ex (rem H4 r) H8 := Ex.past (e5.trans (e6.trans e7)) rem_eq e8
        refine ⟨_, _, rfl, rfl, nV fs, h8, sz_lt (by rw [nV_len]; omega), fs ++ [x + 1], ?_, ?_, ?_, by simp [hfl], ?_⟩
        · exact Ex.mut e48 (by rw [rem_ne hDr]; exact hD)
        · obtain ⟨a', b', c', h1, h2⟩ := R8.c
          exact ⟨a', b', c', by rw [upd_ne hDr.symm]; exact h1, h2⟩
        · rw [upd_same, nV_app]
          have : (1 : Int) + (x : Int) = ((x + 1 : Nat) : Int) := by omega
          show some (HO.lst (nV fs ++ [V.int ((1 : Int) + (x : Int))])) = _
          rw [this]
          rfl
        · intro y hy
          rcases List.mem_append.mp hy with hy | hy
          · exact hfs y hy
          · rw [List.mem_singleton.mp hy]
            omega
      · rintro H5 ⟨fs, e5, c5, h5, hfl, hfs⟩
        have R5 := R4.to e5 c5
        have l5 : H5 l = some (.lst (nV rs)) := e5 _ _ (by rw [rem_ne hlr]; exact l4)
        refine ⟨D, nV fs, rfl, .inl ⟨sq_of h5, fun a ha => ?_⟩⟩
        have ea := Ex.new (o := .tup (nV fs)) ha
        refine ⟨_, rfl, l, nV rs, rfl, .inl ⟨sq_of (ea _ _ l5), fun b hb => ?_⟩⟩
        have eb := Ex.new (o := .tup (nV rs)) hb
        refine ⟨by show 2 ≤ sizeLine; rw [sizeLine_eq]; decide, fun m hm => ?_⟩
        have em := Ex.new (o := .tup [.ref a, .ref b]) hm
        refine k m fs rs _ ⟨a, b, st_of upd_same, st_of (em _ _ (eb _ _ upd_same)), st_of (em _ _ upd_same)⟩ ⟨by omega, by omega, by omega, fun x hx => ⟨(hfs x hx).1, by have := (hfs x hx).2; omega⟩, hok⟩ (by omega) (R5.up (ea.trans (eb.trans em))) ?_
        exact (Ex.past e4 rem_eq e5).trans (ea.trans (eb.trans em))
end
end Fm
set_option Elab.async false
set_option linter.all false
set_option maxRecDepth 100000
set_option maxHeartbeats 1000000
namespace Fm
open PySem L2 Evl
section
variable {K : PySem.W.Frag} {σ : L2.St} {H : Hp} {ta tb te : TE} {tr tA : TA} {D : Ends} {tz : TS} {Q : VK} {x : V} {r : R2}
theorem ev_ixNL {xs : List V} {i : Int} {v : V} (ha : EvL ta σ H xs) (hb : ∀ H1, Ex H H1 → Ev tb σ H1 (.int i)) (e : atI xs i = some v) : Ev (tOp (rIx K) ta tb) σ H v := fun H1 e1 Q q => ha H1 e1 _ fun p H2 hp e2 h2 => hb H2 (e1.trans e2) H2 (Ex.refl _) _ fun H3 e3 =>
  .inl ⟨p, xs, i, v, rfl, rfl, sq_of (e3 _ _ h2), e, q H3 (e2.trans e3)⟩
theorem m_consU {vs : List V} {Q : List V → Hp → Prop} (h : EvU te σ H vs) (k : ∀ p H1, H p = none → Ex H H1 → H1 p = some (.tup vs) → tr σ H1 fun xs H2 => Q (.ref p :: xs) H2) : tCons te tr σ H Q := h H (Ex.refl H) _ k
theorem m_consLst {Q : List V → Hp → Prop} (h : tA σ H fun xs H1 => xs.length ≤ sizeLine ∧ ∀ p, H1 p = none → tr σ (upd H1 p (.lst xs)) fun ys H2 => Q (.ref p :: ys) H2) : tCons (tLst tA) tr σ H Q := h
theorem m_app {l : Addr} {xs : List V} (ha : Ev ta σ H (.ref l)) (hl : H l = some (.lst xs)) (k : ∀ H1, Ex H H1 → te σ H1 fun v H2 => rAppend (.ref l) [v] H2 fun _ H3 => D.nx σ H3) : tDrop (tBM K "list" rAppend ta (tCons te tNil)) D σ H :=
  ha H (Ex.refl H) _ fun H1 e1 => ⟨Or.inl ⟨rfl, xs, sq_of (e1 l _ hl)⟩, k H1 e1⟩
end
theorem pick5 {w c len : Nat} (hw : w < 5) : ∃ s, atI [V.str "get", .str "set", .str "plus", .str "minus", .str "get"] (w : Int) = some (.str s) ∧ ∀ n, n < c → ∃ i, In.ok c len i ∧ i.isTouch = false ∧ i.vs = [.str s, .int (n : Nat)] := match w, hw with
  | 0, _ => ⟨_, rfl, fun n hn => ⟨.get n, hn, rfl, rfl⟩⟩
  | 1, _ => ⟨_, rfl, fun n hn => ⟨.set n, hn, rfl, rfl⟩⟩
  | 2, _ => ⟨_, rfl, fun n hn => ⟨.plus n, hn, rfl, rfl⟩⟩
  | 3, _ => ⟨_, rfl, fun n hn => ⟨.minus n, hn, rfl, rfl⟩⟩
  | 4, _ => ⟨_, rfl, fun n hn => ⟨.get n, hn, rfl, rfl⟩⟩
  | _ + 5, h => absurd h (by omega)
theorem pick3 {w c len : Nat} (hw : w < 3) : ∃ s, atI [V.str "zero", .str "zero", .str "go"] (w : Int) = some (.str s) ∧ ∀ n, n ≤ len → ∃ i, In.ok c len i ∧ i.isTouch = false ∧ i.vs = [.str s, .int (n : Nat)] := match w, hw with
  | 0, _ => ⟨_, rfl, fun n hn => ⟨.zero n, hn, rfl, rfl⟩⟩
  | 1, _ => ⟨_, rfl, fun n hn => ⟨.zero n, hn, rfl, rfl⟩⟩
  | 2, _ => ⟨_, rfl, fun n hn => ⟨.go n, hn, rfl, rfl⟩⟩
  | _ + 3, h => absurd h (by omega)
def spProg (K : PySem.W.Frag) : Sp := fun vs H Q _ => ∃ (r s : Addr) (ns : List Int) (c m : Nat), vs = [.ref r, .int (c : Nat), .int (m : Nat)] ∧ RowAt K H r s ns ∧ 0 < c ∧ c < 1000 ∧ 0 < m ∧ m < 1000 ∧
  ∀ b p H', H b = none → PgT K H' b p → Pok c p → NoT p → p.length ≤ m → RowAt K H' r s ns → Ex (rem H r) H' → Q (.ref b) H'
section
variable {P : Program} {w : World} {K : PySem.W.Frag} {mg : Str → Option Value} {base : Heap}
abbrev s_law_program : Stmt := top 56
theorem sc_law_program : FnScope ["row", "cells", "most", "size", "found", "turn", "way"] ["row", "cells", "most"] (defScope s_law_program) := ⟨rfl, rfl, rfl, by decide +kernel, rfl, by decide +kernel, by decide +kernel⟩
--TY _law_program {'row':('list','any'),'found':('list','any'),'way':'int','size':'int','turn':'int'}
theorem ok_program {f f1 f2 : Addr} {fd fd1 fd2 : FuncData} (F : Fun K "_law_program" "_law_program" s_law_program f fd) (T : Txt K mg) (C_law_taken : Cal P w K mg base CX0 1 "_law_taken" f1 fd1 ["row", "many"] (spTak K)) (C_law_pick : Cal P w K mg base CX0 2 "_law_pick" f2 fd2 ["row", "things"] (spPick K)) : FnOk P w K mg base CX0 3 f fd ["row", "cells", "most"] (spProg K) := by
  refine F.ok sc_law_program (fun vs H Q E h => ?_) (fun cdv A outer s H vs Q E hr h => ?_)
  · obtain ⟨_, _, _, _, _, rfl, _⟩ := h
    rfl
  · obtain ⟨r, s, ns, c, m, rfl, R, hc0, hc, hm0, hm, k⟩ := h
    refine ⟨_, (pss_cons (ps_par (i := 3) (j := 4) (by rfl) sc_law_program.nd rfl rfl (by decide) rfl rfl (pa_cons (pe_op op_add pe_int (pe_call C_law_taken.G (hr.mono (by first | decide | omega)) rfl C_law_taken.g C_law_taken.kp C_law_taken.b .nil pass0 (pa_cons (pv 0) (pa_cons (pv 2) pa_nil)))) (pa_cons (pe_lst pa_nil) pa_nil)) (by rfl))
  (pss_cons (ps_for PassesOwn.never rfl (pi_range1 rfl T.z_range (pa_cons (pv 3) pa_nil)) (pg_name (i := 5) sc_law_program.nd rfl (by first | exact Or.inl rfl | exact Or.inr rfl)) (pss_cons (ps_set (i := 6) sc_law_program.nd rfl (Or.inl rfl) (pe_call C_law_taken.G (hr.mono (by first | decide | omega)) rfl C_law_taken.g C_law_taken.kp C_law_taken.b .nil pass0 (pa_cons (pv 0) (pa_cons pe_int pa_nil))))
  (pss_one (ps_if (pt_cmpR op_lt (pv 6) pe_int (nomark _)) (pss_one (ps_expr (pe_bm PySem.F.plainAttrs_list PySem.F.slot_list_append PySem.F.type_list_append mt_append (pv 4) (pa_cons (pe_tup (pa_cons (pe_ix (ix_K (K := K) rfl) (pe_lst (pa_cons pe_str (pa_cons pe_str (pa_cons pe_str (pa_cons pe_str (pa_cons pe_str pa_nil)))))) (pv 6) (fun _ _ => rfl)) (pa_cons (pe_call C_law_taken.G (hr.mono (by first | decide | omega)) rfl C_law_taken.g C_law_taken.kp C_law_taken.b .nil pass0 (pa_cons (pv 0) (pa_cons (pv 1) pa_nil))) pa_nil))) pa_nil)))) (pss_one (ps_if (pt_cmpR op_lt (pv 6) pe_int (nomark _)) (pss_one (ps_expr (pe_bm PySem.F.plainAttrs_list PySem.F.slot_list_append PySem.F.type_list_append mt_append (pv 4) (pa_cons (pe_tup (pa_cons (pe_ix (ix_K (K := K) rfl) (pe_lst (pa_cons pe_str (pa_cons pe_str (pa_cons pe_str pa_nil)))) (pe_op op_sub (pv 6) pe_int) (fun _ _ => rfl)) (pa_cons (pe_call C_law_taken.G (hr.mono (by first | decide | omega)) rfl C_law_taken.g C_law_taken.kp C_law_taken.b .nil pass0 (pa_cons (pv 0) (pa_cons (pe_op op_add (pv 3) pe_int) pa_nil))) pa_nil))) pa_nil)))) (pss_one (ps_expr (pe_bm PySem.F.plainAttrs_list PySem.F.slot_list_append PySem.F.type_list_append mt_append (pv 4) (pa_cons (pe_call C_law_pick.G (hr.mono (by first | decide | omega)) rfl C_law_pick.g C_law_pick.kp C_law_pick.b .nil pass0 (pa_cons (pv 0) (pa_cons (pe_lst (pa_cons (pe_tup (pa_cons pe_str pa_nil)) (pa_cons (pe_tup (pa_cons pe_str pa_nil)) (pa_cons (pe_tup (pa_cons pe_str (pa_cons pe_int pa_nil))) (pa_cons (pe_tup (pa_cons pe_str (pa_cons pe_int pa_nil))) (pa_cons (pe_tup (pa_cons pe_str pa_nil)) pa_nil)))))) pa_nil))) pa_nil))))))))))
  (pss_one (ps_ret (pe_callTy (tpl_K (K := K) rfl) (by rfl) T.z_tuple (by decide +kernel) (pa_cons (pv 4) pa_nil)))))), ?_⟩
    -- size, found
    refine m_op ev_c fun H1 e1 => m_call (ea_cons (ev_var rfl) (ea_cons (ev_var rfl) ea_nil)) fun H2 e2 => ?_
    refine ⟨r, s, ns, m, rfl, R.up (e1.trans e2), hm0, by omega, fun n H3 hn R3 e3 => ?_⟩
    have e03 : Ex (rem H r) H3 := Ex.past (rem_ex.trans (e1.trans e2)) rem_eq e3
    refine ⟨_, _, rfl, rfl, Nat.zero_le _, fun l hl => ?_⟩
    have hlr : l ≠ r := by
      obtain ⟨ys, hys⟩ := R3.lst
      exact (ne_of_none hys hl).symm
    have hl0 : rem H r l = none := fresh_back e03 hl
    have hs0 : (1 : Int) + ((n : Nat) : Int) = ((n + 1 : Nat) : Int) := by omega
    refine ⟨.int ((n + 1 : Nat) : Int), .ref l, by rw [← hs0], ?_⟩
    dsimp only
    have R4 : RowAt K (upd H3 l (.lst [])) r s ns := R3.up (Ex.new hl)
    refine q_forR1 (n := ((n + 1 : Nat) : Int)) (ea_cons (ev_var rfl) ea_nil) ⟨by omega, by omega⟩
      (fun j σ H' => ∃ (xs : List V) (p : List In) (z1 z2 : Option V), Ex (rem H r) H' ∧ RowC H' r s ∧ H' l = some (.lst xs) ∧ Paired (InAt K H') xs p ∧ p.length = j ∧ (∀ i ∈ p, i.ok c (n + 1) ∧ i.isTouch = false) ∧ σ = [some (.ref r), some (.int (c : Nat)), some (.int (m : Nat)), some (.int ((n + 1 : Nat) : Int)), some (.ref l), z1, z2])
      (fun H4 e4 => ⟨[], [], _, _, (Ex.mut e03 hl0).trans e4, R4.c.up e4, e4 _ _ upd_same, .nil, rfl, by simp, rfl⟩) ?_ ?_
    · rintro j σ H4 hj ⟨xs, p, z1, z2, e4, c4, l4, hp4, hpl, hok, rfl⟩
      have R4 := R.to e4 c4
      have step : ∀ (H6 : Hp) (u : Addr) (i : In) (z : Option V), Ex (rem H4 r) H6 → RowC H6 r s → H6 u = some (.tup i.vs) ∨ SqT K H6 u i.vs → i.ok c (n + 1) ∧ i.isTouch = false → ∃ ys, H6 l = some (.lst ys) ∧ ys.length < 100000 ∧
          ∃ (xs : List V) (p : List In) (z1 z2 : Option V), Ex (rem H r) (upd H6 l (.lst (ys ++ [.ref u]))) ∧ RowC (upd H6 l (.lst (ys ++ [.ref u]))) r s ∧ (upd H6 l (.lst (ys ++ [.ref u]))) l = some (.lst xs) ∧ Paired (InAt K (upd H6 l (.lst (ys ++ [.ref u])))) xs p ∧ p.length = j + 1 ∧ (∀ i ∈ p, i.ok c (n + 1) ∧ i.isTouch = false) ∧
            ([some (.ref r), some (.int (c : Nat)), some (.int (m : Nat)), some (.int ((n + 1 : Nat) : Int)), some (.ref l), some (.int (j : Int)), z] : L2.St) = [some (.ref r), some (.int (c : Nat)), some (.int (m : Nat)), some (.int ((n + 1 : Nat) : Int)), some (.ref l), z1, z2] := by
        intro H6 u i z e6 c6 hu hi
        have hl6 : H6 l = some (.lst xs) := e6 _ _ (by rw [rem_ne hlr]; exact l4)
        have hxl : xs.length = j := (Paired.length hp4).trans hpl
        have hu6 : SqT K H6 u i.vs := by
          rcases hu with h | h
          · exact st_of h
          · exact h
        refine ⟨xs, hl6, by omega, xs ++ [.ref u], p ++ [i], _, z, ?_, ?_, upd_same, ?_, by simp [hpl], ?_, rfl⟩
        · exact Ex.mut (Ex.past e4 rem_eq e6) hl0
        · obtain ⟨a', b', c', h1, h2⟩ := c6
          exact ⟨a', b', c', by rw [upd_ne hlr.symm]; exact h1, h2⟩
        · obtain ⟨ys, hys⟩ := R4.lst
          exact paired_append (Paired.mapP hp4 fun v i hv => inAt_upd hl6 ((inAt_rem hys hv).up e6)) (.cons ⟨u, rfl, sqT_upd hl6 hu6⟩ .nil)
        · intro i' hi'
          rcases List.mem_append.mp hi' with h | h
          · exact hok i' h
          · rw [List.mem_singleton.mp h]
            exact hi
      refine q_callA (ea_cons (ev_var rfl) (ea_cons ev_c ea_nil)) fun H5 e5 => ⟨r, s, ns, 10, rfl, R4.up e5, by omega, by omega, fun way H6 hw R6 e6 => ?_⟩
      have e46 : Ex (rem H4 r) H6 := Ex.past (rem_ex.trans e5) rem_eq e6
      refine s_if (et_i0 (ev_var rfl) ev_c) (fun hc5 H7 e7 => ?_) (fun hc5 H7 e7 => ?_)
      · have hw5 : way < 5 := by have := of_decide_eq_true hc5; omega
        obtain ⟨sw, hat, hi⟩ := pick5 (c := c) (len := n + 1) hw5
        have R7 := R6.up e7
        refine m_app (ev_var rfl) (xs := xs) ((e46.trans e7) _ _ (by rw [rem_ne hlr]; exact l4)) fun H8 e8 => ?_
        refine m_cons (ev_ixNL (el_lst (ea_cons ev_c (ea_cons ev_c (ea_cons ev_c (ea_cons ev_c (ea_cons ev_c ea_nil))))) (by decide)) (fun _ _ => ev_var rfl) hat) fun H9 e9 => m_call (ea_cons (ev_var rfl) (ea_cons (ev_var rfl) ea_nil)) fun H10 e10 => ?_
        have e7a := (e8.trans e9).trans e10
        refine ⟨r, s, ns, c, rfl, R7.up e7a, hc0, by omega, fun q H11 hq R11 e11 => ⟨by show 2 ≤ sizeLine; rw [sizeLine_eq]; decide, fun u hu => ?_⟩⟩
        obtain ⟨i, hio', hiT, hiv⟩ := hi q hq
        have hio : i.ok c (n + 1) ∧ i.isTouch = false := ⟨hio', hiT⟩
        have eA : Ex (rem H4 r) H11 := Ex.past ((e46.trans e7).trans e7a) rem_eq e11
        obtain ⟨ys, h1, h2, h3⟩ := step (upd H11 u (.tup [.str sw, .int (q : Nat)])) u i (some (.int (way : Nat))) (eA.trans (Ex.new hu)) (R11.c.up (Ex.new hu)) (.inl (by rw [upd_same, hiv])) hio
        exact ⟨l, ys, _, rfl, rfl, h1, sz_lt h2, h3⟩
      · have hw5 : ¬ way < 5 := by have := of_decide_eq_false hc5; omega
        refine s_if (et_i0 (ev_var rfl) ev_c) (fun hc8 H8 e8 => ?_) (fun hc8 H8 e8 => ?_)
        · have hw8 : way < 8 := by have := of_decide_eq_true hc8; omega
          obtain ⟨sw, hat, hi⟩ := pick3 (w := way - 5) (c := c) (len := n + 1) (by omega)
          have hat2 : atI [V.str "zero", .str "zero", .str "go"] ((way : Int) - 5) = some (.str sw) := by
            rw [← hat]
            congr 1
            omega
          have R8 := R6.up (e7.trans e8)
          refine m_app (ev_var rfl) (xs := xs) ((e46.trans (e7.trans e8)) _ _ (by rw [rem_ne hlr]; exact l4)) fun H9 e9 => ?_
          refine m_cons (ev_ixNL (el_lst (ea_cons ev_c (ea_cons ev_c (ea_cons ev_c ea_nil))) (by decide)) (fun _ _ => ev_i0 (ev_var rfl) ev_c) hat2) fun H10 e10 => m_call (ea_cons (ev_var rfl) (ea_cons (ev_succ (n := n + 1) (ev_var rfl)) ea_nil)) fun H11 e11 => ?_
          have e8a := (e9.trans e10).trans e11
          refine ⟨r, s, ns, n + 1 + 1, rfl, R8.up e8a, by omega, by omega, fun q H12 hq R12 e12 => ⟨by show 2 ≤ sizeLine; rw [sizeLine_eq]; decide, fun u hu => ?_⟩⟩
          obtain ⟨i, hio', hiT, hiv⟩ := hi q (by omega)
          have hio : i.ok c (n + 1) ∧ i.isTouch = false := ⟨hio', hiT⟩
          have eA : Ex (rem H4 r) H12 := Ex.past ((e46.trans (e7.trans e8)).trans e8a) rem_eq e12
          obtain ⟨ys, h1, h2, h3⟩ := step (upd H12 u (.tup [.str sw, .int (q : Nat)])) u i (some (.int (way : Nat))) (eA.trans (Ex.new hu)) (R12.c.up (Ex.new hu)) (.inl (by rw [upd_same, hiv])) hio
          exact ⟨l, ys, _, rfl, rfl, h1, sz_lt h2, h3⟩
        · have R8 := R6.up (e7.trans e8)
          refine m_app (ev_var rfl) (xs := xs) ((e46.trans (e7.trans e8)) _ _ (by rw [rem_ne hlr]; exact l4)) fun H9 e9 => ?_
          refine m_cons (ev_var rfl) fun H10 e10 => m_consLst ?_
          refine m_consU (eu_tup (ea_cons ev_c ea_nil) (by decide)) fun u1 H11 hu1 e11 h11 => ?_
          refine m_consU (eu_tup (ea_cons ev_c ea_nil) (by decide)) fun u2 H12 hu2 e12 h12 => ?_
          refine m_consU (eu_tup (ea_cons ev_c (ea_cons ev_c ea_nil)) (by decide)) fun u3 H13 hu3 e13 h13 => ?_
          refine m_consU (eu_tup (ea_cons ev_c (ea_cons ev_c ea_nil)) (by decide)) fun u4 H14 hu4 e14 h14 => ?_
          refine m_consU (eu_tup (ea_cons ev_c ea_nil) (by decide)) fun u5 H15 hu5 e15 h15 => ?_
          refine ⟨by show 5 ≤ sizeLine; rw [sizeLine_eq]; decide, fun t ht => ?_⟩
          have e8a := (((((e9.trans e10).trans e11).trans e12).trans e13).trans e14).trans e15
          have R15 := R8.up e8a
          have htr : t ≠ r := by
            obtain ⟨ys, hys⟩ := R15.lst
            exact (ne_of_none hys ht).symm
          have R16 := R15.up (Ex.new (o := .lst [.ref u1, .ref u2, .ref u3, .ref u4, .ref u5]) ht)
          refine ⟨r, s, t, ns, _, rfl, R16, sq_of upd_same, htr, by show 0 < 5; decide, by show 5 < 1000000; decide, fun x H17 hx R17 e17 => ?_⟩
          have e15' := Ex.new (o := .lst [.ref u1, .ref u2, .ref u3, .ref u4, .ref u5]) ht
          have eA : Ex (rem H4 r) H17 := Ex.past ((e46.trans (e7.trans e8)).trans (e8a.trans e15')) rem_eq e17
          obtain ⟨ysr, hysr⟩ := R15.lst
          have old : ∀ u xs, H15 u = some (.tup xs) → H17 u = some (.tup xs) := fun u xs hu => e17 _ _ (by
            rw [rem_ne (fun z => by rw [z, hysr] at hu; cases hu)]
            exact e15' _ _ hu)
          obtain ⟨u, i, hxu, hu, hio⟩ : ∃ u i, x = V.ref u ∧ H15 u = some (.tup (In.vs i)) ∧ (In.ok c (n + 1) i ∧ i.isTouch = false) := by
            simp only [List.mem_cons, List.not_mem_nil, or_false] at hx
            rcases hx with h | h | h | h | h
            · exact ⟨u1, .say, h, (((e12.trans e13).trans e14).trans e15) _ _ h11, trivial, rfl⟩
            · exact ⟨u2, .ask, h, ((e13.trans e14).trans e15) _ _ h12, trivial, rfl⟩
            · exact ⟨u3, .put 3, h, (e14.trans e15) _ _ h13, by simp [In.ok], rfl⟩
            · exact ⟨u4, .put 0, h, e15 _ _ h14, by simp [In.ok], rfl⟩
            · exact ⟨u5, .stop, h, h15, trivial, rfl⟩
          subst hxu
          obtain ⟨ys, h1, h2, h3⟩ := step H17 u i (some (.int (way : Nat))) eA R17.c (.inl (old _ _ hu)) hio
          exact ⟨l, ys, _, rfl, rfl, h1, sz_lt h2, h3⟩
    · rintro σ H4 ⟨xs, p, z1, z2, e4, c4, l4, hp4, hpl, hok, rfl⟩
      refine s_retU (eu_tpl (ev_var rfl) (sq_of l4)) fun b H5 hb e5 h5 => ?_
      have e5' := e4.trans e5
      have hpl' : p.length = n + 1 := by rw [hpl]; omega
      refine k b p H5 ?_ ⟨xs, st_of h5, Paired.mapP hp4 fun v i hv => hv.up e5⟩ ⟨by omega, fun i hi => by rw [hpl']; exact (hok i hi).1⟩ (fun i hi => (hok i hi).2) (by omega) (R.to e5' (c4.up e5)) e5'
      · obtain ⟨ys, hys⟩ := R.lst
        by_cases hbr : b = r
        · obtain ⟨a', b', c', h1, h2⟩ := c4
          rw [hbr, h1] at hb
          cases hb
        · have := fresh_back e4 hb
          rwa [rem_ne hbr] at this
end
end Fm
set_option Elab.async false
set_option linter.all false
set_option maxRecDepth 100000
set_option maxHeartbeats 1000000
namespace Fm
open PySem L2 Evl RZ
def spLKe (K : PySem.W.Frag) : Sp := fun vs H Q _ => ∃ (r s b : Addr) (ns : List Int) (p : List In) (c : Nat), vs = [.ref r, .ref b, .int (c : Nat)] ∧ RowAt K H r s ns ∧ PgT K H b p ∧ Pok c p ∧ p.length ≤ 9 ∧ 1 ≤ c ∧ c ≤ 4 ∧
  ∀ u p2 H', PgT K H' u p2 → Pok c p2 → p2.length ≤ 27 → RowAt K H' r s ns → Ex (rem H r) H' → Q (.ref u) H'
theorem m_consCall {σ : L2.St} {H : Hp} {tA tr : TA} {sp : Sp} {E : XK} {vs : List V} {Q : List V → Hp → Prop} (h : EvA tA σ H vs) (k : ∀ H1, Ex H H1 → sp (vs ++ []) H1 (fun x H2 => tr σ H2 fun xs H3 => Q (x :: xs) H3) E) : tCons (tCall sp [] E tA) tr σ H Q := h H (Ex.refl H) _ k
theorem m_asgOpOp {σ : L2.St} {H : Hp} {ta tb tc : TE} {r r' : R2} {x : V} {D : Ends} {i : Nat} (ha : Ev ta σ H x) (k : ∀ H1, Ex H H1 → tb σ H1 fun y H2 => r x y H2 fun z H3 => tc σ H3 fun w H4 => r' z w H4 fun v H5 => D.nx (σ.set i (some v)) H5) : tAsg (tOp r' (tOp r ta tb) tc) (gName i) D σ H := ha H (Ex.refl H) _ k
theorem m_opop {σ : L2.St} {H : Hp} {ta tb tc : TE} {r r' : R2} {x : V} {Q : VK} (ha : Ev ta σ H x) (k : ∀ H1, Ex H H1 → tb σ H1 fun y H2 => r x y H2 fun z H3 => tc σ H3 fun w H4 => r' z w H4 Q) : tOp r' (tOp r ta tb) tc σ H Q := ha H (Ex.refl H) _ k
section
variable {P : Program} {w : World} {K : PySem.W.Frag} {mg : Str → Option Value} {base : Heap}
abbrev s_law_kept : Stmt := top 60
theorem sc_law_kept : FnScope ["row", "program", "cells", "spots", "found", "one", "turn"] ["row", "program", "cells"] (defScope s_law_kept) := ⟨rfl, rfl, rfl, by decide +kernel, rfl, by decide +kernel, by decide +kernel⟩
--TY _law_kept {'row':L,'program':T,'spots':('list','int'),'found':('list',T),'one':T,'cells':'int','turn':'int'}
theorem ok_lkept {f f1 : Addr} {fd fd1 : FuncData} (F : Fun K "_law_kept" "_law_kept" s_law_kept f fd) (T : Txt K mg) (C_law_taken : Cal P w K mg base CX0 1 "_law_taken" f1 fd1 ["row", "many"] (spTak K)) : FnOk P w K mg base CX0 2 f fd ["row", "program", "cells"] (spLKe K) := by
  refine F.ok sc_law_kept (fun vs H Q E h => ?_) (fun cdv A outer s H vs Q E hr h => ?_)
  · obtain ⟨_, _, _, _, _, _, rfl, _⟩ := h
    rfl
  · obtain ⟨r, s, b, ns, p, c, rfl, R, hp, hok, hl, hc1, hc4, k⟩ := h
    refine ⟨_, (pss_cons (ps_asg (pe_tup (pa_cons (pe_lst pa_nil) (pa_cons (pe_lst pa_nil) pa_nil))) (pg_tup rfl (pgs_cons (pg_name (i := 3) sc_law_kept.nd rfl (by first | exact Or.inl rfl | exact Or.inr rfl)) (pgs_cons (pg_name (i := 4) sc_law_kept.nd rfl (by first | exact Or.inl rfl | exact Or.inr rfl)) pgs_nil))))
  (pss_cons (ps_for PassesOwn.never rfl (pi_tupK (K := K) rfl (pv 1)) (pg_name (i := 5) sc_law_kept.nd rfl (by first | exact Or.inl rfl | exact Or.inr rfl)) (pss_cons (ps_expr (pe_bm PySem.F.plainAttrs_list PySem.F.slot_list_append PySem.F.type_list_append mt_append (pv 3) (pa_cons (pe_callB (len_K (K := K) rfl) (by rfl) T.z_len (by decide +kernel) (pa_cons (pv 4) pa_nil)) pa_nil)))
  (pss_one (ps_set (i := 4) sc_law_kept.nd rfl (Or.inl rfl) (pe_op op_cat (pe_op op_cat (pv 4) (pe_lc (own := [("turn", 6)]) (g := gName 6) rfl sc_law_kept.nd (pi_range1 rfl T.z_range (pa_cons (pe_call C_law_taken.G (hr.mono (by first | decide | omega)) rfl C_law_taken.g C_law_taken.kp C_law_taken.b .nil pass0 (pa_cons (pv 0) (pa_cons pe_int pa_nil))) pa_nil)) (blkOk_by (by kernel_rfl)) (fun _ _ _ _ _ => pg_name (i := 6) sc_law_kept.nd rfl (by first | exact Or.inl rfl | exact Or.inr rfl)) (fun _ _ _ _ _ => pts_nil) (fun _ _ _ _ _ => (pe_tup (pa_cons pe_str (pa_cons (pe_call C_law_taken.G (hr.mono (by first | decide | omega)) rfl C_law_taken.g C_law_taken.kp C_law_taken.b .nil pass0 (pa_cons (pv 0) (pa_cons (pv 2) pa_nil))) pa_nil)))))) (pe_lst (pa_cons (pv 5) pa_nil)))))))
  (pss_cons (ps_expr (pe_bm PySem.F.plainAttrs_list PySem.F.slot_list_append PySem.F.type_list_append mt_append (pv 3) (pa_cons (pe_callB (len_K (K := K) rfl) (by rfl) T.z_len (by decide +kernel) (pa_cons (pv 4) pa_nil)) pa_nil)))
  (pss_one (ps_ret (pe_callTy (tpl_K (K := K) rfl) (by rfl) T.z_tuple (by decide +kernel) (pa_cons (pe_lc (own := [("one", 5)]) (g := gName 5) rfl sc_law_kept.nd (pi_listK (K := K) rfl (pv 4)) (blkOk_by (by kernel_rfl)) (fun _ _ _ _ _ => pg_name (i := 5) sc_law_kept.nd rfl (by first | exact Or.inl rfl | exact Or.inr rfl)) (fun _ _ _ _ _ => pts_nil) (fun _ _ _ _ _ => (pe_ifExp (pt_cmpR (in_K (K := K) rfl) (pe_ix (ix_K (K := K) rfl) (pv 5) pe_int (fun _ _ => rfl)) (pe_lst (pa_cons pe_str (pa_cons pe_str pa_nil))) (by rfl)) (pe_tup (pa_cons (pe_ix (ix_K (K := K) rfl) (pv 5) pe_int (fun _ _ => rfl)) (pa_cons (pe_ix (ix_K (K := K) rfl) (pv 3) (pe_ix (ix_K (K := K) rfl) (pv 5) pe_int (fun _ _ => rfl)) (fun _ _ => rfl)) pa_nil))) (pv 5)))) pa_nil))))))), ?_⟩
    obtain ⟨yr, hyr⟩ := R.lst
    have hpB := pg_rem hyr hp
    obtain ⟨ps, hps, hpp⟩ := id hpB
    have hpsl : ps.length = p.length := Paired.length hpp
    refine ⟨Nat.zero_le _, fun sp hsp => ?_⟩
    refine ⟨Nat.zero_le _, fun g hg => ?_⟩
    refine ⟨by show 2 ≤ sizeLine; rw [sizeLine_eq]; decide, fun tt htt => ?_⟩
    refine ⟨tt, _, rfl, st_of upd_same, rfl, _, _, rfl, ⟨_, _, rfl, ⟨rfl, ?_⟩⟩⟩
    have e1 := Ex.new (o := .lst []) hsp
    have e2 := (Ex.new (o := .lst []) hg).trans (Ex.new (o := .tup [.ref sp, .ref g]) htt)
    have hg0 : upd (upd (upd H sp (.lst [])) g (.lst [])) tt (.tup [.ref sp, .ref g]) g = some (.lst []) := Ex.new (o := .tup [.ref sp, .ref g]) htt _ _ upd_same
    have hspr : sp ≠ r := (ne_of_none hyr hsp).symm
    have hsp0 : rem H r sp = none := by rw [rem_ne hspr]; exact hsp
    dsimp only
    refine q_forTn (xs := ps) (ev_var rfl) (ex_t (rem_ex.trans (e1.trans e2)) hps)
      (fun m σ H' => ∃ (ss : List Nat) (g : Addr) (xs : List V) (Fl : List In) (z5 : Option V), Ex (rem H r) H' ∧ RowC H' r s ∧ H' sp = some (.lst (nV ss)) ∧ ss.length = m ∧ (∀ x ∈ ss, x ≤ Fl.length) ∧ g ≠ sp ∧ g ≠ r ∧ H' g = some (.lst xs) ∧ Paired (InAt K H') xs Fl ∧ (∀ i ∈ Fl, i.ok c p.length) ∧ Fl.length ≤ 3 * m ∧ (0 < m → 0 < Fl.length) ∧
        σ = [some (.ref r), some (.ref b), some (.int (c : Nat)), some (.ref sp), some (.ref g), z5, none])
      (fun H3 e3 => ⟨[], g, [], [], none, rem_ex.trans ((e1.trans e2).trans e3), R.c.up ((e1.trans e2).trans e3), (e2.trans e3) _ _ upd_same, rfl, by simp, (fun z => by rw [z, upd_same] at hg; cases hg), (fun z => by rw [z, e1 _ _ hyr] at hg; cases hg), e3 _ _ hg0, .nil, by simp, Nat.zero_le _, fun z => absurd z (by omega), rfl⟩) (fun m σ H' _ ⟨_, _, _, _, _, e, _⟩ => ex_t e hps) ?_ ?_
    · rintro m x σ H3 hm ⟨ss, g, xs, Fl, z5, e3, c3, h3, hsl, hsb, hgs, hgr, hg3, hp3, hok3, hl3, hp0, rfl⟩
      have hml : m < p.length := by
        have := (List.getElem?_eq_some_iff.mp hm).1
        omega
      obtain ⟨x', hx', hin⟩ := paired_get hpp (List.getElem?_eq_getElem hml)
      rw [hm] at hx'
      cases hx'
      have hxl : xs.length = Fl.length := Paired.length hp3
      refine q_app h3 (ev_var rfl) (ev_lnL (ev_var rfl) (sq_of hg3)) (by rw [nV_len]; omega) fun H4 e4 => ?_
      have e05 : Ex (rem H r) (upd H4 sp (.lst (nV ss ++ [.int (xs.length : Int)]))) := Ex.mut (e3.trans e4) hsp0
      have c5 : RowC (upd H4 sp (.lst (nV ss ++ [.int (xs.length : Int)]))) r s := by
        obtain ⟨a', b', c', h1, h2⟩ := c3.up e4
        exact ⟨a', b', c', by rw [upd_ne hspr.symm]; exact h1, h2⟩
      have h5 : upd H4 sp (.lst (nV ss ++ [.int (xs.length : Int)])) sp = some (.lst (nV (ss ++ [xs.length]))) := by rw [upd_same, nV_app]; rfl
      have hg5 : upd H4 sp (.lst (nV ss ++ [.int (xs.length : Int)])) g = some (.lst xs) := by rw [upd_ne hgs]; exact e4 _ _ hg3
      have hp5 : Paired (InAt K (upd H4 sp (.lst (nV ss ++ [.int (xs.length : Int)])))) xs Fl := Paired.mapP hp3 fun v i hv => inAt_upd (e4 _ _ h3) (hv.up e4)
      generalize upd H4 sp (.lst (nV ss ++ [.int (xs.length : Int)])) = H5 at e05 c5 h5 hg5 hp5 ⊢
      have R5 := R.to e05 c5
      refine m_asgOpOp (ev_var rfl) fun H6 e6 => ?_
      unfold tLc iRng1
      refine m_consCall (ea_cons (ev_var rfl) (ea_cons ev_c ea_nil)) fun H7 e7 => ?_
      have e57 := e6.trans e7
      refine ⟨r, s, ns, 3, rfl, R5.up e57, by decide, by decide, fun n H8 hn R8 e8 => ?_⟩
      have e58 : Ex (rem H5 r) H8 := Ex.past (rem_ex.trans e57) rem_eq e8
      obtain ⟨y5, hy5⟩ := R5.lst
      refine ⟨(n : Int), rfl, by omega, by omega, fun D hD => lc_range (lo := 0) (n := n) (fun i H' => ∃ (ts : List V) (qs : List In), Ex (rem H8 r) H' ∧ RowC H' r s ∧ H' D = some (.lst ts) ∧ Paired (InAt K H') ts qs ∧ qs.length = i ∧ ∀ q ∈ qs, q.ok c p.length) ⟨[], [], rem_ex.trans (Ex.new hD), R8.c.up (Ex.new hD), upd_same, .nil, rfl, by simp⟩ ?_ ?_⟩
      · obtain ⟨y8, hy8⟩ := R8.lst
        have hDr : D ≠ r := (ne_of_none hy8 hD).symm
        rintro i H9 hi ⟨ts, qs, e9, c9, h9, hp9, hql, hq9⟩
        have R9 := R8.to e9 c9
        have htl : ts.length = qs.length := Paired.length hp9
        refine ⟨rfl, ?_⟩
        refine yes_lc ?_
        rw [if_pos rfl]
        refine m_cons ev_c fun H10 e10 => ?_
        refine m_consCall (ea_cons (ev_var rfl) (ea_cons (ev_var rfl) ea_nil)) fun H11 e11 => ?_
        have e911 := e10.trans e11
        refine ⟨r, s, ns, c, rfl, R9.up e911, by omega, by omega, fun kc H12 hkc R12 e12 => ⟨by show 2 ≤ sizeLine; rw [sizeLine_eq]; decide, fun u hu => ?_⟩⟩
        have e912 : Ex (rem H9 r) H12 := Ex.past (rem_ex.trans e911) rem_eq e12
        have e12u := Ex.new (o := .tup [.str "touch", .int (kc : Nat)]) hu
        obtain ⟨y9, hy9⟩ := R9.lst
        have hD13 : upd H12 u (.tup [.str "touch", .int (kc : Nat)]) D = some (.lst ts) := e12u _ _ (e912 _ _ (by rw [rem_ne hDr]; exact h9))
        have hu13 : upd H12 u (.tup [.str "touch", .int (kc : Nat)]) u = some (.tup (In.touch kc).vs) := upd_same
        have e813 : Ex (rem H8 r) (upd H12 u (.tup [.str "touch", .int (kc : Nat)])) := (Ex.past e9 rem_eq e912).trans e12u
        have c13 := R12.c.up e12u
        have hp13 : Paired (InAt K (upd H12 u (.tup [.str "touch", .int (kc : Nat)]))) ts qs := Paired.mapP hp9 fun v i hv => (inAt_rem hy9 hv).up (e912.trans e12u)
        generalize upd H12 u (.tup [.str "touch", .int (kc : Nat)]) = H13 at hD13 hu13 e813 c13 hp13 ⊢
        refine ⟨ts, hD13, sz_lt (by omega), ts ++ [.ref u], qs ++ [.touch kc], Ex.mut e813 (by rw [rem_ne hDr]; exact hD), ?_, upd_same, paired_append (Paired.mapP hp13 fun v i hv => inAt_upd hD13 hv) (.cons ⟨u, rfl, sqT_upd hD13 (st_of hu13)⟩ .nil), by simp [hql], ?_⟩
        · obtain ⟨a', b', c', h1, h2⟩ := c13
          exact ⟨a', b', c', by rw [upd_ne hDr.symm]; exact h1, h2⟩
        · intro q hq
          rcases List.mem_append.mp hq with h | h
          · exact hq9 q h
          · rw [List.mem_singleton.mp h]
            exact hkc
      · rintro H9 ⟨ts, qs, e9, c9, h9, hp9, hql, hq9⟩
        have e59 : Ex (rem H5 r) H9 := Ex.past e58 rem_eq e9
        have htl : ts.length = qs.length := Paired.length hp9
        have hg9 : H9 g = some (.lst xs) := e59 _ _ (by rw [rem_ne hgr]; exact hg5)
        refine ⟨g, D, xs, ts, rfl, rfl, hg9, h9, sz_of (by omega), fun g1 hg1 => ?_⟩
        have en1 := Ex.new (o := .lst (xs ++ ts)) hg1
        refine ⟨_, rfl, by show 1 ≤ sizeLine; rw [sizeLine_eq]; decide, fun o1 ho1 => ?_⟩
        have en2 := Ex.new (o := .lst [x]) ho1
        refine ⟨g1, o1, xs ++ ts, [x], rfl, rfl, en2 _ _ upd_same, upd_same, sz_of (by rw [List.length_append]; show _ + 1 ≤ 100000; omega), fun g2 hg2 => ?_⟩
        have en3 := Ex.new (o := .lst ((xs ++ ts) ++ [x])) hg2
        have en := (en1.trans en2).trans en3
        have e0F : Ex (rem H r) H9 := Ex.past e05 rem_eq e59
        have hspF : H9 sp = some (.lst (nV (ss ++ [xs.length]))) := e59 _ _ (by rw [rem_ne hspr]; exact h5)
        refine ⟨ss ++ [xs.length], g2, (xs ++ ts) ++ [x], (Fl ++ qs) ++ [p[m]], _, e0F.trans en, c9.up en, en _ _ hspF, by simp [hsl], ?_, ?_, ?_, upd_same, ?_, ?_, ?_, ?_, rfl⟩
        · intro y hy
          rcases List.mem_append.mp hy with h | h
          · have := hsb y h
            simp only [List.length_append, List.length_singleton]
            omega
          · rw [List.mem_singleton.mp h]
            simp only [List.length_append, List.length_singleton]
            omega
        · exact fun z => by rw [z, (en1.trans en2) _ _ hspF] at hg2; cases hg2
        · obtain ⟨a', b', c', h1, _⟩ := c9
          exact fun z => by rw [z, (en1.trans en2) _ _ h1] at hg2; cases hg2
        · refine paired_append (paired_append (Paired.mapP hp5 fun v i hv => ((inAt_rem hy5 hv).up e59).up en) (Paired.mapP hp9 fun v i hv => hv.up en)) (.cons ?_ .nil)
          exact (hin.up e0F).up en
        · intro i hi
          rcases List.mem_append.mp hi with h | h
          · rcases List.mem_append.mp h with h | h
            · exact hok3 i h
            · exact hq9 i h
          · rw [List.mem_singleton.mp h]
            exact hok.2 _ (List.getElem_mem hml)
        · simp only [List.length_append, List.length_singleton]
          omega
        · intro _
          simp only [List.length_append, List.length_singleton]
          omega
    · rintro σ H3 ⟨ss, g, xs, Fl, z5, e3, c3, h3, hsl, hsb, hgs, hgr, hg3, hp3, hok3, hl3, hp0, rfl⟩
      rw [hpsl] at hsl hl3 hp0
      have hFl : 0 < Fl.length := hp0 hok.1
      have hxl : xs.length = Fl.length := Paired.length hp3
      refine q_app h3 (ev_var rfl) (ev_lnL (ev_var rfl) (sq_of hg3)) (by rw [nV_len]; omega) fun H4 e4 => ?_
      have e05 : Ex (rem H r) (upd H4 sp (.lst (nV ss ++ [.int (xs.length : Int)]))) := Ex.mut (e3.trans e4) hsp0
      have c5 : RowC (upd H4 sp (.lst (nV ss ++ [.int (xs.length : Int)]))) r s := by
        obtain ⟨a', b', c', h1, h2⟩ := c3.up e4
        exact ⟨a', b', c', by rw [upd_ne hspr.symm]; exact h1, h2⟩
      have h5 : upd H4 sp (.lst (nV ss ++ [.int (xs.length : Int)])) sp = some (.lst (nV (ss ++ [xs.length]))) := by rw [upd_same, nV_app]; rfl
      have hg5 : upd H4 sp (.lst (nV ss ++ [.int (xs.length : Int)])) g = some (.lst xs) := by rw [upd_ne hgs]; exact e4 _ _ hg3
      have hp5 : Paired (InAt K (upd H4 sp (.lst (nV ss ++ [.int (xs.length : Int)])))) xs Fl := Paired.mapP hp3 fun v i hv => inAt_upd (e4 _ _ h3) (hv.up e4)
      generalize upd H4 sp (.lst (nV ss ++ [.int (xs.length : Int)])) = H5 at e05 c5 h5 hg5 hp5 ⊢
      have hsb2 : ∀ t, t ≤ p.length → t < (ss ++ [xs.length]).length ∧ (ss ++ [xs.length]).getD t 0 ≤ Fl.length := fun t ht => by
        have hlt : t < (ss ++ [xs.length]).length := by rw [List.length_append, List.length_singleton]; omega
        refine ⟨hlt, ?_⟩
        rw [List.getD_eq_getElem?_getD, List.getElem?_eq_getElem hlt]
        have hm := List.getElem_mem hlt
        show (ss ++ [xs.length])[t] ≤ Fl.length
        rcases List.mem_append.mp hm with h | h
        · exact hsb _ h
        · rw [List.mem_singleton.mp h]; omega
      refine ⟨_, rfl, g, rfl, ⟨_, sq_of hg5⟩, fun D hD => lc_list (xs := xs) (fun i H' => ∃ (ys : List V) (p2 : List In), H5 D = none ∧ Ex H5 H' ∧ H' D = some (.lst ys) ∧ Paired (InAt K H') ys p2 ∧ p2.length = i ∧ ∀ q ∈ p2, q.ok c Fl.length) ⟨[], [], hD, Ex.new hD, upd_same, .nil, rfl, by simp⟩ (fun i H' _ ⟨_, _, _, e, _⟩ => ex_l e (sq_of hg5)) ?_ ?_⟩
      · rintro i x H6 hx ⟨ys, p2, hD5, e6, h6, hp6, hl6, hok6⟩
        have hil : i < Fl.length := by rw [← hxl]; exact (List.getElem?_eq_some_iff.mp hx).1
        obtain ⟨x', hx', hin⟩ := paired_get hp5 (List.getElem?_eq_getElem hil)
        rw [hx] at hx'
        cases hx'
        have hokf := hok3 _ (List.getElem_mem hil)
        generalize Fl[i] = f at hin hokf
        obtain ⟨b', rfl, hb'⟩ := hin.up e6
        have hyl : ys.length = p2.length := Paired.length hp6
        refine ⟨rfl, ?_⟩
        refine yes_lc ?_
        rw [if_pos rfl]
        have hw : inV (V.str f.w) [.str "zero", .str "go"] = f.pla := by cases f <;> kernel_rfl
        refine (et_is (et_test (ev_opL (ev_ixT (ev_var rfl) ev_c hb' (vs_0 f)) (el_lst (ea_cons ev_c (ea_cons ev_c ea_nil)) (by decide)) fun _ _ h _ => rv_isL (sq_of h) rfl rfl)) hw : EvT _ _ H6 f.pla) H6 (Ex.refl _) _ fun H7 e7 => ?_
        have step : ∀ (H8 : Hp) (u : Addr) (f2 : In), Ex H7 H8 → SqT K H8 u f2.vs → f2.ok c Fl.length → ∃ acc, H8 D = some (.lst acc) ∧ acc.length < sizeLine ∧ ∃ (ys : List V) (p2 : List In), H5 D = none ∧ Ex H5 (upd H8 D (.lst (acc ++ [.ref u]))) ∧ upd H8 D (.lst (acc ++ [.ref u])) D = some (.lst ys) ∧ Paired (InAt K (upd H8 D (.lst (acc ++ [.ref u])))) ys p2 ∧ p2.length = i + 1 ∧ ∀ q ∈ p2, q.ok c Fl.length := fun H8 u f2 e8 hu hf2 => by
          have h8 : H8 D = some (.lst ys) := (e7.trans e8) _ _ h6
          refine ⟨ys, h8, sz_lt (by omega), ys ++ [.ref u], p2 ++ [f2], hD5, Ex.mut ((e6.trans e7).trans e8) hD5, upd_same, paired_append (Paired.mapP hp6 fun v i hv => inAt_upd h8 (hv.up (e7.trans e8))) (.cons ⟨u, rfl, sqT_upd h8 hu⟩ .nil), by simp [hl6], ?_⟩
          intro q hq
          rcases List.mem_append.mp hq with h | h
          · exact hok6 q h
          · rw [List.mem_singleton.mp h]
            exact hf2
        cases hpl : f.pla with
        | true =>
          rw [if_pos rfl]
          obtain ⟨t, ht, harg, mk⟩ : ∃ t : Nat, t ≤ p.length ∧ f.arg = some (t : Int) ∧ ∀ n, n ≤ Fl.length → ∃ f2 : In, f2.ok c Fl.length ∧ f2.vs = [.str f.w, .int (n : Nat)] := by
            cases f <;> simp [In.pla] at hpl
            · exact ⟨_, hokf, rfl, fun n hn => ⟨.zero n, hn, rfl⟩⟩
            · exact ⟨_, hokf, rfl, fun n hn => ⟨.go n, hn, rfl⟩⟩
          obtain ⟨h1, h2⟩ := hsb2 t ht
          obtain ⟨f2, hf2, hv2⟩ := mk _ h2
          refine (eu_tup (ea_cons (ev_ixT (ev_var rfl) ev_c (ex_t e7 hb') (vs_0 f)) (ea_cons (ev_ixL (ev_var rfl) (ev_ixT (ev_var rfl) ev_c (ex_t e7 hb') (vs_1 harg)) (sq_of ((e6.trans e7) _ _ h5)) (nV_at h1)) ea_nil)) (by show 2 ≤ 100000; decide)) H7 (Ex.refl _) _ fun u H8 hu e8 h8 => ?_
          exact step H8 u f2 e8 (st_of (by rw [h8, hv2])) hf2
        | false =>
          rw [if_neg (fun z => nomatch z)]
          refine ⟨_, rfl, ?_⟩
          exact step H7 b' f (Ex.refl _) (ex_t e7 hb') (by cases f <;> simp [In.pla] at hpl <;> exact hokf)
      · rintro H6 ⟨ys, p2, hD5, e6, h6, hp6, hl6, hok6⟩
        refine ⟨D, ys, rfl, .inl ⟨sq_of h6, fun u hu => ?_⟩⟩
        have en := Ex.new (o := .tup ys) hu
        have hl2 : p2.length = Fl.length := by rw [hl6, hxl]
        have eF := e05.trans (e6.trans en)
        refine k u p2 _ ⟨ys, st_of upd_same, Paired.mapP hp6 fun v i hv => hv.up en⟩ ⟨by omega, fun q hq => by rw [hl2]; exact hok6 q hq⟩ (by omega) (R.to eF (c5.up (e6.trans en))) eF
end
end Fm
set_option Elab.async false
set_option linter.all false
set_option maxRecDepth 100000
set_option maxHeartbeats 1000000
namespace Fm
open PySem L2 Evl
def In.kd : In → Kd
  | .get _ => .touch | .plus _ => .touch | .minus _ => .touch | .touch _ => .touch | .set _ => .set
  | _ => .wait
def In.cell : In → Nat
  | .get k => k | .plus k => k | .minus k => k | .touch k => k | .set k => k
  | _ => 0
/-- what stands last in an instruction -/
def In.last (i : In) : V := match i.arg with
  | some k => .int k
  | none => .str i.w
theorem vs_last (i : In) : atI i.vs (-1) = some i.last := by
  unfold In.vs In.last
  cases i.arg <;> rfl
theorem kdOk_ok {i : In} {c n : Nat} (h : i.ok c n) : KdOk i.kd i.w i.last i.cell c := by
  refine ⟨?_, ?_, ?_⟩
  · cases i <;> kernel_rfl
  · cases i <;> kernel_rfl
  · intro hn
    cases i <;> first | exact ⟨rfl, h⟩ | exact nomatch hn
theorem rd_ok {i : In} {c n : Nat} (h : i.rd = true) (hc : i.ok c n) : i.arg = some (i.cell : Int) ∧ i.cell < c := by
  cases i <;> first | exact ⟨rfl, hc⟩ | exact nomatch h
end Fm
set_option Elab.async false
set_option linter.all false
set_option maxRecDepth 100000
set_option maxHeartbeats 1000000
namespace Fm
open PySem L2 Evl
def oV : Option Nat → V
  | none => .non
  | some j => .int (j : Int)
def plc (p : List In) : List Nat := (List.range (p.length + 1)).map (stE p)
def cnt (pl : List (Option Nat)) : Nat := pl.countP fun o => o.isNone
structure Jp (p : List In) (m : Nat) (pl : List (Option Nat)) : Prop where
  len : pl.length = p.length + 1
  val : ∀ (j v : Nat), pl[j]? = some (some v) → v = stE p j
  low : ∀ j : Nat, j < m → pl[j]? ≠ some none
  last : pl[p.length]? = some (some p.length)
structure Wl (p : List In) (m : Nat) (pl0 pl : List (Option Nat)) (ps : List Nat) (i : Nat) : Prop where
  len : pl.length = p.length + 1
  le : i ≤ p.length
  num : ps.length + cnt pl = cnt pl0
  out : ∀ j : Nat, j ∉ ps → pl[j]? = pl0[j]?
  pth : ∀ x ∈ ps, x ≤ p.length ∧ stE p x = stE p i
  run : (∀ x ∈ ps, pl[x]? = some (some p.length) ∧ Lead p x i) ∨ pl[i]? = some (some (stE p i))
  hd : m ∈ ps ∨ i = m
theorem cnt_set {pl : List (Option Nat)} {i v : Nat} (h : pl[i]? = some none) : cnt (pl.set i (some v)) + 1 = cnt pl := by
  unfold cnt
  induction pl generalizing i with
  | nil => simp at h
  | cons a l ih =>
    cases i with
    | zero =>
      simp at h
      subst h
      simp
    | succ i =>
      have := ih (i := i) (by simpa using h)
      simp only [List.set_cons_succ, List.countP_cons]
      omega
theorem cnt_pos {pl : List (Option Nat)} {i : Nat} (h : pl[i]? = some none) : 0 < cnt pl := by
  have := cnt_set (v := 0) h
  omega
theorem Wl.val {p : List In} {m : Nat} {pl0 pl : List (Option Nat)} {ps : List Nat} {i v : Nat} (W : Wl p m pl0 pl ps i) (J : Jp p m pl0) (h : pl[i]? = some (some v)) : v = stE p i := by
  rcases W.run with r | r
  · by_cases hc : i ∈ ps
    · obtain ⟨h1, h2⟩ := r i hc
      rw [h] at h1
      rw [h2.cyc]
      exact Option.some.inj (Option.some.inj h1)
    · rw [W.out i hc] at h
      exact J.val i v h
  · rw [h] at r
    exact Option.some.inj (Option.some.inj r)
theorem map_set {α β : Type} (f : α → β) (l : List α) (i : Nat) (x : α) : (l.set i x).map f = (l.map f).set i (f x) := List.map_set
def spPlaces (K : PySem.W.Frag) : Sp := fun vs H Q _ => ∃ (a : Addr) (p : List In) (c : Nat), vs = [.ref a] ∧ PgT K H a p ∧ Pok c p ∧ p.length ≤ 4000 ∧ ∀ b H', H b = none → Ex H H' → H' b = some (.tup ((plc p).map fun x => V.int (x : Nat))) → Q (.ref b) H'
section
variable {P : Program} {w : World} {K : PySem.W.Frag} {mg : Str → Option Value} {base : Heap}
abbrev s_places_of : Stmt := top 43
theorem sc_places_of : FnScope ["program", "end", "places", "index", "passed", "at", "word", "one"] ["program"] (defScope s_places_of) := ⟨rfl, rfl, rfl, by decide +kernel, rfl, by decide +kernel, by decide +kernel⟩
--TY places_of {'program':T,'places':L,'passed':L,'end':'int','index':'int','at':'int','word':'str','one':'int'}
theorem ok_places_of {f : Addr} {fd : FuncData} (F : Fun K "places_of" "places_of" s_places_of f fd) (T : Txt K mg) : FnOk P w K mg base CX0 2 f fd ["program"] (spPlaces K) := by
  refine F.ok sc_places_of (fun vs H Q E h => ?_) (fun cdv A outer s H vs Q E hr h => ?_)
  · obtain ⟨_, _, _, rfl, _⟩ := h
    rfl
  · obtain ⟨a, p, c, rfl, hp, hok, hl, k⟩ := h
    refine ⟨_, (pss_cons (ps_set (i := 1) sc_places_of.nd rfl (Or.inl rfl) (pe_callB (len_K (K := K) rfl) (by rfl) T.z_len (by decide +kernel) (pa_cons (pv 0) pa_nil)))
  (pss_cons (ps_set (i := 2) sc_places_of.nd rfl (Or.inl rfl) (pe_op op_cat (pe_op op_rep (pe_lst (pa_cons pe_non pa_nil)) (pv 1)) (pe_lst (pa_cons (pv 1) pa_nil))))
  (pss_cons (ps_for PassesOwn.never rfl (pi_range1 rfl T.z_range (pa_cons (pv 1) pa_nil)) (pg_name (i := 3) sc_places_of.nd rfl (by first | exact Or.inl rfl | exact Or.inr rfl)) (pss_cons (ps_set (i := 4) sc_places_of.nd rfl (Or.inl rfl) (pe_lst pa_nil))
  (pss_cons (ps_set (i := 5) sc_places_of.nd rfl (Or.inl rfl) (pv 3))
  (pss_cons (ps_while PassesOwn.never (pt_cmpR op_isN (pe_ix (ix_K (K := K) rfl) (pv 2) (pv 5) (fun _ _ => rfl)) pe_non (nomark _)) (pss_cons (ps_expr (pe_bm PySem.F.plainAttrs_list PySem.F.slot_list_append PySem.F.type_list_append mt_append (pv 4) (pa_cons (pv 5) pa_nil)))
  (pss_cons (ps_set (i := 6) sc_places_of.nd rfl (Or.inl rfl) (pe_ix (ix_K (K := K) rfl) (pe_ix (ix_K (K := K) rfl) (pv 0) (pv 5) (fun _ _ => rfl)) pe_int (fun _ _ => rfl)))
  (pss_one (ps_if (pt_cmpR op_eq (pv 6) pe_str (nomark _)) (pss_cons (ps_asg (pv 1) (pg_sub (pv 2) (pv 5) set_list))
  (pss_one (ps_set (i := 5) sc_places_of.nd rfl (Or.inl rfl) (pe_ix (ix_K (K := K) rfl) (pe_ix (ix_K (K := K) rfl) (pv 0) (pv 5) (fun _ _ => rfl)) pe_int (fun _ _ => rfl))))) (pss_one (ps_asg (pe_ifExp (pt_cmpR op_eq (pv 6) pe_str (nomark _)) (pv 1) (pv 5)) (pg_sub (pv 2) (pv 5) set_list))))))))
  (pss_one (ps_for PassesOwn.never rfl (pi_listK (K := K) rfl (pv 4)) (pg_name (i := 7) sc_places_of.nd rfl (by first | exact Or.inl rfl | exact Or.inr rfl)) (pss_one (ps_asg (pe_ix (ix_K (K := K) rfl) (pv 2) (pv 5) (fun _ _ => rfl)) (pg_sub (pv 2) (pv 7) set_list)))))))))
  (pss_one (ps_ret (pe_callTy (tpl_K (K := K) rfl) (by rfl) T.z_tuple (by decide +kernel) (pa_cons (pv 2) pa_nil))))))), ?_⟩
    refine q_asg (ev_lnP hp (ev_var rfl)) fun H1 e1 => ?_
    refine q_asgL (el_cat (el_rep (k := p.length) (el_lst (ea_cons ev_c ea_nil) (by decide)) (fun _ _ => ev_var rfl) (by simp; omega) (by omega)) (el_lst (ea_cons (ev_var rfl) ea_nil) (by simp)) (by simp; omega)) fun l H2 hl0 e2 hl2 => ?_
    have hlH : H l = none := fresh_back e1 hl0
    have e02 := e1.trans e2
    refine q_forR1 (n := (p.length : Int)) (ea_cons (ev_var rfl) ea_nil) ⟨by omega, by omega⟩
      (fun m σ H' => ∃ pl, Ex H H' ∧ H' l = some (.lst (pl.map oV)) ∧ Jp p m pl ∧ ∃ x1 x2 x3 x4 x5, σ = [some (.ref a), some (.int (p.length : Nat)), some (.ref l), x1, x2, x3, x4, x5])
      (fun H3 e3 => ⟨List.replicate p.length none ++ [some p.length], e02.trans e3, ?_, ?_, _, _, _, _, _, rfl⟩) ?_ ?_
    · rw [e3 _ _ hl2]
      simp [oV, List.flatten_replicate_singleton, List.map_replicate]
    · refine ⟨by simp, fun j v hv => ?_, fun j hj => absurd hj (by omega), by simp⟩
      by_cases hj : j < p.length
      · rw [List.getElem?_append_left (by simpa using hj), List.getElem?_replicate] at hv
        simp [hj] at hv
      · rw [List.getElem?_append_right (by simp; omega)] at hv
        simp only [List.length_replicate] at hv
        by_cases hj2 : j - p.length = 0
        · have ej : j = p.length := by omega
          subst ej
          simp at hv
          rw [← hv, stE_end]
        · rw [List.getElem?_eq_none (by simp; omega)] at hv
          cases hv
    · rintro m σ H' hm ⟨pl0, e, hL, J, x1, x2, x3, x4, x5, rfl⟩
      have hm' : m < p.length := by omega
      refine q_asgL (el_lst ea_nil (by decide)) fun q H3 hq0 e3 hq3 => ?_
      have hqH : H q = none := fresh_back e hq0
      have hql : q ≠ l := fun z => by rw [z, hL] at hq0; cases hq0
      refine q_asg (ev_var rfl) fun H4 e4 => ?_
      have e34 := e3.trans e4
      refine q_while (fun μ σ' H' => ∃ (pl : List (Option Nat)) (ps : List Nat) (i : Nat) (y1 y2 : Option V), Ex H H' ∧ H' l = some (.lst (pl.map oV)) ∧ H' q = some (.lst (ps.map fun x => V.int (x : Nat))) ∧ Wl p m pl0 pl ps i ∧ μ = cnt pl ∧
          σ' = [some (.ref a), some (.int (p.length : Nat)), some (.ref l), some (.int (m : Nat)), some (.ref q), some (.int (i : Nat)), y1, y2]) (cnt pl0)
        ⟨pl0, [], m, _, _, e.trans e34, e34 _ _ hL, e4 _ _ hq3, ⟨J.len, by omega, by simp, fun _ _ => rfl, by simp, .inl (by simp), .inr rfl⟩, rfl, rfl⟩ ?_
      rintro μ σ' H5 ⟨pl, ps, i, y1, y2, e5, hl5, hq5, W, rfl, rfl⟩
      have hil : i < pl.length := by have := W.le; have := W.len; omega
      obtain ⟨o, ho⟩ : ∃ o, pl[i]? = some o := ⟨_, List.getElem?_eq_getElem hil⟩
      have hat : atI (pl.map oV) ((i : Nat) : Int) = some (oV o) := atI_nat' (by rw [List.getElem?_map, ho]; rfl)
      refine ⟨decide (oV o = .non), et_isN (ev_ixL (ev_var rfl) (ev_var rfl) (sq_of hl5) hat), fun hb H6 e6 => ?_, fun hb H6 e6 => ?_⟩
      · -- places[at] is None
        have hon : o = none := by
          cases o with
          | none => rfl
          | some v => cases of_decide_eq_true hb
        subst hon
        have hin : i ∉ ps := fun hc => by
          rcases W.run with r | r
          · rw [(r i hc).1] at ho
            cases ho
          · rw [r] at ho
            cases ho
        have hip : i < p.length := by
          have h1 := W.le
          have h2 : i ≠ p.length := fun z => by
            rw [W.out i hin, z, J.last] at ho
            cases ho
          omega
        have hrun : ∀ x ∈ ps, pl[x]? = some (some p.length) ∧ Lead p x i := by
          rcases W.run with r | r
          · exact r
          · rw [r] at ho
            cases ho
        obtain ⟨x, hx⟩ : ∃ x, p[i]? = some x := ⟨_, List.getElem?_eq_getElem hip⟩
        refine ⟨_, fun _ _ z => z, ?_⟩
        have hq6 := e6 _ _ hq5
        have hps : ps.length < 100000 := by
          have h1 := W.num
          have h2 : cnt pl0 ≤ pl0.length := List.countP_le_length
          have h3 := J.len
          omega
        refine q_app2 hq6 (ev_var rfl) (ev_var rfl) (by simpa using hps) fun H7 e7 => ?_
        have ex7 : Ex H (upd H7 q (.lst (ps.map (fun x => V.int (x : Nat)) ++ [.int (i : Nat)]))) := Ex.mut ((e5.trans e6).trans e7) hqH
        have hl7 : upd H7 q (.lst (ps.map (fun x => V.int (x : Nat)) ++ [.int (i : Nat)])) l = some (.lst (pl.map oV)) := by
          rw [upd_ne (Ne.symm hql)]
          exact e7 _ _ (e6 _ _ hl5)
        have hq7 : upd H7 q (.lst (ps.map (fun x => V.int (x : Nat)) ++ [.int (i : Nat)])) q = some (.lst ((ps ++ [i]).map fun x => V.int (x : Nat))) := by
          rw [upd_same]
          simp
        generalize upd H7 q (.lst (ps.map (fun x => V.int (x : Nat)) ++ [.int (i : Nat)])) = H8 at ex7 hl7 hq7 ⊢
        have hp8 := hp.up ex7
        refine q_asg (ev_pg0 hp8 hx (ev_var rfl) (ev_var rfl)) fun H9 e9 => ?_
        have hmap : i < (pl.map oV).length := by simpa using hil
        have hnum := cnt_set (v := p.length) ho
        have nin : ∀ y ∈ ps, y ≠ i := fun y hy z => hin (z ▸ hy)
        refine s_if (et_eq (ev_var rfl) ev_c rfl) (fun hc H10 e10 => ?_) (fun hc H10 e10 => ?_)
        · rw [w_go] at hc
          obtain ⟨t, rfl⟩ : ∃ t, x = .go t := by cases x <;> simp [In.isGo] at hc; exact ⟨_, rfl⟩
          have e710 := e9.trans e10
          refine q_setL (e710 _ _ hl7) (ev_var rfl) (ev_var rfl) (ev_var rfl) hmap fun H11 e11 => ?_
          have e711 := e710.trans e11
          have e12 : Ex H (upd H11 l (.lst ((pl.map oV).set i (.int (p.length : Nat))))) := Ex.mut (ex7.trans e711) hlH
          refine s_asg (ev_pg1 (hp.up e12) hx rfl (ev_var rfl) (ev_var rfl)) fun H13 e13 => ?_
          refine ⟨cnt (pl.set i (some p.length)), by omega, pl.set i (some p.length), ps ++ [i], t, _, _, e12.trans e13, ?_, ?_, ⟨by simpa using W.len, ?_, ?_, ?_, ?_, .inl ?_, ?_⟩, rfl, rfl⟩
          · refine e13 _ _ ?_
            rw [upd_same, map_set]
            rfl
          · refine e13 _ _ ?_
            rw [upd_ne hql]
            exact e711 _ _ hq7
          · exact hok.2 _ (List.mem_of_getElem? hx)
          · have := W.num
            simp only [List.length_append, List.length_singleton]
            omega
          · intro j hj
            simp at hj
            rw [List.getElem?_set_ne (fun z => hj.2 z.symm)]
            exact W.out j hj.1
          · intro y hy
            rcases List.mem_append.mp hy with hy | hy
            · exact ⟨(W.pth y hy).1, (W.pth y hy).2.trans (stE_go hx)⟩
            · rw [List.mem_singleton.mp hy]
              exact ⟨W.le, stE_go hx⟩
          · intro y hy
            rcases List.mem_append.mp hy with hy | hy
            · rw [List.getElem?_set_ne (fun z => nin y hy z.symm)]
              exact ⟨(hrun y hy).1, (hrun y hy).2.step hx⟩
            · rw [List.mem_singleton.mp hy]
              exact ⟨by simp [hil], .one hx⟩
          · rcases W.hd with z | z
            · exact .inl (List.mem_append_left _ z)
            · exact .inl (by rw [z]; simp)
        · rw [w_go] at hc
          have hst : (if x = .stop then p.length else i) = stE p i := by
            by_cases hs : x = .stop
            · rw [if_pos hs]
              subst hs
              rw [stE_stop hx]
            · rw [if_neg hs]
              refine (stE_self hx ?_).symm
              cases x <;> simp_all [In.isEnd, In.isGo]
          have e710 := e9.trans e10
          have hnum2 := cnt_set (v := stE p i) ho
          refine s_setL (v := .int (stE p i : Nat)) (e710 _ _ hl7) (ev_if (et_eq (ev_var rfl) ev_c rfl) (fun hb => ?_) (fun hb => ?_)) (ev_var rfl) (ev_var rfl) hmap fun H11 e11 => ?_
          · have : x = .stop := by
              rw [w_stop] at hb
              cases x <;> simp_all [In.isStop]
            rw [if_pos this] at hst
            rw [← hst]
            exact ev_var rfl
          · have : x ≠ .stop := fun z => by
              subst z
              rw [w_stop] at hb
              cases hb
            rw [if_neg this] at hst
            rw [← hst]
            exact ev_var rfl
          have e711 := e710.trans e11
          refine ⟨cnt (pl.set i (some (stE p i))), by omega, pl.set i (some (stE p i)), ps ++ [i], i, _, _, Ex.mut (ex7.trans e711) hlH, ?_, ?_, ⟨by simpa using W.len, W.le, ?_, ?_, ?_, .inr ?_, ?_⟩, rfl, rfl⟩
          · rw [upd_same, map_set]
            rfl
          · rw [upd_ne hql]
            exact e711 _ _ hq7
          · have := W.num
            simp only [List.length_append, List.length_singleton]
            omega
          · intro j hj
            simp at hj
            rw [List.getElem?_set_ne (fun z => hj.2 z.symm)]
            exact W.out j hj.1
          · intro y hy
            rcases List.mem_append.mp hy with hy | hy
            · exact W.pth y hy
            · rw [List.mem_singleton.mp hy]
              exact ⟨W.le, rfl⟩
          · simp [hil]
          · rcases W.hd with z | z
            · exact .inl (List.mem_append_left _ z)
            · exact .inl (by rw [z]; simp)
      · -- places[at] is told
        obtain ⟨v, rfl⟩ : ∃ v, o = some v := by
          cases o with
          | none => exact absurd rfl (of_decide_eq_false hb)
          | some v => exact ⟨v, rfl⟩
        have hv := W.val J ho
        subst hv
        refine s_forLn (xs := ps.map fun x => V.int (x : Nat)) (ev_var rfl) (sq_of (e6 _ _ hq5))
          (fun n σ' H' => ∃ (pl' : List (Option Nat)) (y : Option V), Ex H H' ∧ H' l = some (.lst (pl'.map oV)) ∧ H' q = some (.lst (ps.map fun x => V.int (x : Nat))) ∧ pl'.length = p.length + 1 ∧ (∀ j : Nat, j ∉ ps → pl'[j]? = pl0[j]?) ∧ (∀ x ∈ ps.take n, pl'[x]? = some (some (stE p i))) ∧ pl'[i]? = some (some (stE p i)) ∧
            σ' = [some (.ref a), some (.int (p.length : Nat)), some (.ref l), some (.int (m : Nat)), some (.ref q), some (.int (i : Nat)), y1, y])
          (fun H7 e7 => ⟨pl, y2, (e5.trans e6).trans e7, e7 _ _ (e6 _ _ hl5), e7 _ _ (e6 _ _ hq5), W.len, W.out, by simp, ho, rfl⟩)
          (fun n σ' H' _ ⟨_, _, _, _, h, _⟩ => sq_of h) ?_ ?_
        · rintro n x σ' H7 hn ⟨pl', y, e7, hl7, hq7, hlen, hout, hin, hi, rfl⟩
          obtain ⟨z, hz, rfl⟩ : ∃ z, ps[n]? = some z ∧ x = V.int (z : Nat) := by
            rw [List.getElem?_map] at hn
            cases hh : ps[n]? with
            | none => rw [hh] at hn; cases hn
            | some z => rw [hh] at hn; exact ⟨z, rfl, (Option.some.inj hn).symm⟩
          have hzm : z ∈ ps := List.mem_of_getElem? hz
          have hzl : z < pl'.length := by have := (W.pth z hzm).1; omega
          refine s_setL hl7 (ev_ixL (ev_var rfl) (ev_var rfl) (sq_of hl7) (atI_nat' (v := oV (some (stE p i))) (by rw [List.getElem?_map, hi]; rfl))) (ev_var rfl) (ev_var rfl) (by simpa using hzl) fun H8 e8 => ?_
          refine ⟨pl'.set z (some (stE p i)), _, Ex.mut (e7.trans e8) hlH, ?_, ?_, by simpa using hlen, fun j hj => ?_, fun x hx => ?_, ?_, rfl⟩
          · rw [upd_same, map_set]
            first | done | rfl
          · rw [upd_ne hql]
            exact e8 _ _ hq7
          · have hne : z ≠ j := fun e => hj (by rw [← e]; exact hzm)
            rw [List.getElem?_set_ne hne]
            exact hout j hj
          · by_cases hxz : z = x
            · subst hxz
              simp [hzl]
            · rw [List.getElem?_set_ne hxz]
              refine hin x ?_
              rw [List.take_add_one, hz] at hx
              rcases List.mem_append.mp hx with hx | hx
              · exact hx
              · exact absurd (List.mem_singleton.mp hx).symm hxz
          · by_cases hiz : z = i
            · subst hiz
              simp [hzl]
            · rw [List.getElem?_set_ne hiz]
              exact hi
        · rintro σ' H7 ⟨pl', y, e7, hl7, hq7, hlen, hout, hin, hi, rfl⟩
          rw [List.length_map, List.take_length] at hin
          refine ⟨pl', e7, hl7, ⟨hlen, fun j v hv => ?_, fun j hj => ?_, ?_⟩, _, _, _, _, _, rfl⟩
          · by_cases hc : j ∈ ps
            · rw [hin j hc] at hv
              rw [(W.pth j hc).2]
              exact (Option.some.inj (Option.some.inj hv)).symm
            · rw [hout j hc] at hv
              exact J.val j v hv
          · by_cases hc : j ∈ ps
            · rw [hin j hc]
              simp
            · rw [hout j hc]
              by_cases hjm : j < m
              · exact J.low j hjm
              · have ej : j = m := by omega
                subst ej
                rcases W.hd with z | z
                · exact absurd z hc
                · rw [← hout j hc, ← z, hi]
                  simp
          · by_cases hc : p.length ∈ ps
            · rw [hin _ hc, ← (W.pth _ hc).2, stE_end]
            · rw [hout _ hc]
              exact J.last
    · rintro σ H' ⟨pl, e, hL, J, x1, x2, x3, x4, x5, rfl⟩
      have epl : pl = (plc p).map some := by
        apply List.ext_getElem?
        intro j
        unfold plc
        rw [List.getElem?_map, List.getElem?_map]
        by_cases hj : j < p.length + 1
        · rw [List.getElem?_range hj]
          have hj2 : j < pl.length := by rw [J.len]; exact hj
          obtain ⟨o, ho⟩ : ∃ o, pl[j]? = some o := ⟨_, List.getElem?_eq_getElem hj2⟩
          rw [ho]
          cases o with
          | none =>
            by_cases hjn : j < p.length
            · exact absurd ho (J.low j (by omega))
            · have : j = p.length := by omega
              subst this
              rw [J.last] at ho
              cases ho
          | some v =>
            rw [J.val j v ho]
            rfl
        · rw [List.getElem?_eq_none (by rw [J.len]; omega), List.getElem?_eq_none (by simp; omega)]
          rfl
      refine s_retU (eu_tpl (ev_var rfl) (sq_of hL)) fun b H5 hb e5 h5 => ?_
      refine k b H5 (fresh_back e hb) (e.trans e5) ?_
      rw [h5, epl, List.map_map]
      rfl
end
theorem nV_atS {l : List Nat} {i x : Nat} (h : l[i]? = some x) : atI (nV l) (i : Int) = some (.int (x : Nat)) := atI_nat' (by unfold nV; rw [List.getElem?_map, h]; rfl)
theorem plc_at {p : List In} {i : Nat} (h : i ≤ p.length) : (plc p)[i]? = some (stE p i) := by
  unfold plc
  rw [List.getElem?_map, List.getElem?_range (by omega)]
  rfl
theorem ev_plc {K : PySem.W.Frag} {σ : L2.St} {H : Hp} {ta tb : TE} {b : Addr} {p : List In} {i : Nat} (hb : SqT K H b (nV (plc p))) (h : i ≤ p.length) (ea : Ev ta σ H (.ref b)) (eb : Ev tb σ H (.int (i : Nat))) : Ev (tOp (rIx K) ta tb) σ H (.int (stE p i : Nat)) := ev_ixT ea eb hb (nV_atS (plc_at h))
def In.isZero : In → Bool
  | .zero _ => true
  | _ => false
theorem w_zero (i : In) : decide (V.str i.w = V.str "zero") = i.isZero := by cases i <;> kernel_rfl
end Fm
set_option Elab.async false
set_option linter.all false
set_option maxRecDepth 100000
set_option maxHeartbeats 1000000
namespace Fm
open PySem L2 Evl RZ
/-- the fields of a run -/
def rf (p pl at_ hd ct ip ak sd : V) : List (Str × V) := [("program", p), ("places", pl), ("at", at_), ("hand", hd), ("contents", ct), ("inputs", ip), ("asked", ak), ("said", sd)]
section
variable {p pl at_ hd ct ip ak sd x : V}
theorem rf_program : (rf p pl at_ hd ct ip ak sd).lookup ("program" : Str) = some p := by kernel_rfl
theorem rf_places : (rf p pl at_ hd ct ip ak sd).lookup ("places" : Str) = some pl := by kernel_rfl
theorem rf_at : (rf p pl at_ hd ct ip ak sd).lookup ("at" : Str) = some at_ := by kernel_rfl
theorem rf_hand : (rf p pl at_ hd ct ip ak sd).lookup ("hand" : Str) = some hd := by kernel_rfl
theorem rf_contents : (rf p pl at_ hd ct ip ak sd).lookup ("contents" : Str) = some ct := by kernel_rfl
theorem rf_inputs : (rf p pl at_ hd ct ip ak sd).lookup ("inputs" : Str) = some ip := by kernel_rfl
theorem rf_asked : (rf p pl at_ hd ct ip ak sd).lookup ("asked" : Str) = some ak := by kernel_rfl
theorem rf_said : (rf p pl at_ hd ct ip ak sd).lookup ("said" : Str) = some sd := by kernel_rfl
theorem rf_set_at : putF "at" x (rf p pl at_ hd ct ip ak sd) = rf p pl x hd ct ip ak sd := by kernel_rfl
theorem rf_set_hand : putF "hand" x (rf p pl at_ hd ct ip ak sd) = rf p pl at_ x ct ip ak sd := by kernel_rfl
theorem rf_set_asked : putF "asked" x (rf p pl at_ hd ct ip ak sd) = rf p pl at_ hd ct ip x sd := by kernel_rfl
theorem rf_made : putF "said" sd (putF "asked" ak (putF "inputs" ip (putF "contents" ct (putF "hand" hd (putF "at" at_ (putF "places" pl (putF "program" p []))))))) = rf p pl at_ hd ct ip ak sd := by kernel_rfl
theorem rf_no_is_over : (rf p pl at_ hd ct ip ak sd).lookup ("is_over" : Str) = none := by kernel_rfl
theorem rf_no_instruction : (rf p pl at_ hd ct ip ak sd).lookup ("instruction" : Str) = none := by kernel_rfl
theorem rf_no_act : (rf p pl at_ hd ct ip ak sd).lookup ("act" : Str) = none := by kernel_rfl
theorem rf_no_say_or_ask : (rf p pl at_ hd ct ip ak sd).lookup ("say_or_ask" : Str) = none := by kernel_rfl
theorem rf_no_act_on_cell : (rf p pl at_ hd ct ip ak sd).lookup ("act_on_cell" : Str) = none := by kernel_rfl
end
/-- the class -/
structure RunT (K : PySem.W.Frag) (C : Addr) : Prop where
  cl : Cls K C
  n_program : NoAttr K C "program"
  n_places : NoAttr K C "places"
  n_at : NoAttr K C "at"
  n_hand : NoAttr K C "hand"
  n_contents : NoAttr K C "contents"
  n_inputs : NoAttr K C "inputs"
  n_asked : NoAttr K C "asked"
  n_said : NoAttr K C "said"
/-- what a program at work holds -/
structure Rs where
  at_ : Nat
  hand : Int
  held : List Int
  asked : Nat
  said : List Int
/-- one step of it -/
def Rs.deed (p : List In) (ins : List Int) (s : Rs) : Rs := match p[s.at_]? with
  | some .say => { s with said := s.said ++ [s.hand] }
  | some .ask => if s.asked < ins.length then { s with hand := ins.getD s.asked 0, asked := s.asked + 1 } else { s with hand := 0 }
  | some (.put k) => { s with hand := k }
  | some (.get c) => { s with hand := s.held.getD c 0 }
  | some (.plus c) => { s with hand := s.hand + s.held.getD c 0 }
  | some (.minus c) => { s with hand := s.hand - s.held.getD c 0 }
  | some (.set c) => { s with held := s.held.set c s.hand }
  | _ => s
def Rs.next (p : List In) (s : Rs) : Nat := match p[s.at_]? with
  | some (.zero t) => if s.hand = 0 then stE p t else stE p (s.at_ + 1)
  | _ => stE p (s.at_ + 1)
def Rs.step (p : List In) (ins : List Int) (s : Rs) : Rs := { s.deed p ins with at_ := s.next p }
/-- a run stands at x, made behind B; its tuple of places, its contents, what it said -/
structure RunF (K : PySem.W.Frag) (C : Addr) (B H : Hp) (x pa ia : Addr) (p : List In) (ins : List Int) (s : Rs) (dx pl ct sd : Addr) : Prop where
  ex : Ex B H
  x0 : B x = none
  pg : PgT K B pa p
  ip : SqT K B ia (ins.map V.int)
  obj : H x = some (.ins C dx (rf (.ref pa) (.ref pl) (.int (s.at_ : Nat)) (.int s.hand) (.ref ct) (.ref ia) (.int (s.asked : Nat)) (.ref sd)))
  c0 : B ct = none
  s0 : B sd = none
  cs : ct ≠ sd
  xc : x ≠ ct
  xs : x ≠ sd
  px : pl ≠ x
  pc : pl ≠ ct
  ps : pl ≠ sd
  hc : H ct = some (.lst (s.held.map V.int))
  hs : H sd = some (.lst (s.said.map V.int))
  hp : H pl = some (.tup (nV (plc p)))
section
variable {K : PySem.W.Frag} {C : Addr} {B H H' : Hp} {x pa ia : Addr} {p : List In} {ins : List Int} {s : Rs} {dx pl ct sd : Addr}
theorem RunF.up (h : RunF K C B H x pa ia p ins s dx pl ct sd) (e : Ex H H') : RunF K C B H' x pa ia p ins s dx pl ct sd :=
  { h with ex := h.ex.trans e, obj := e _ _ h.obj, hc := e _ _ h.hc, hs := e _ _ h.hs, hp := e _ _ h.hp }
theorem RunF.put (h : RunF K C B H x pa ia p ins s dx pl ct sd) (a : Nat) (hd : Int) (k : Nat) : RunF K C B (upd H x (.ins C dx (rf (.ref pa) (.ref pl) (.int (a : Nat)) (.int hd) (.ref ct) (.ref ia) (.int (k : Nat)) (.ref sd)))) x pa ia p ins { s with at_ := a, hand := hd, asked := k } dx pl ct sd :=
  { h with ex := Ex.mut h.ex h.x0, obj := upd_same, hc := by rw [upd_ne h.xc.symm]; exact h.hc, hs := by rw [upd_ne h.xs.symm]; exact h.hs, hp := by rw [upd_ne h.px]; exact h.hp }
theorem RunF.putC (h : RunF K C B H x pa ia p ins s dx pl ct sd) (hl : List Int) : RunF K C B (upd H ct (.lst (hl.map V.int))) x pa ia p ins { s with held := hl } dx pl ct sd :=
  { h with ex := Ex.mut h.ex h.c0, obj := by rw [upd_ne h.xc]; exact h.obj, hc := upd_same, hs := by rw [upd_ne h.cs.symm]; exact h.hs, hp := by rw [upd_ne h.pc]; exact h.hp }
theorem RunF.putS (h : RunF K C B H x pa ia p ins s dx pl ct sd) (sl : List Int) : RunF K C B (upd H sd (.lst (sl.map V.int))) x pa ia p ins { s with said := sl } dx pl ct sd :=
  { h with ex := Ex.mut h.ex h.s0, obj := by rw [upd_ne h.xs]; exact h.obj, hc := by rw [upd_ne h.cs]; exact h.hc, hs := upd_same, hp := by rw [upd_ne h.ps]; exact h.hp }
end
section
variable {K : PySem.W.Frag} {σ : L2.St} {H : Hp} {ta tb tv te : TE} {D : Ends} {tz : TS} {a C dx : Addr} {fs : List (Str × V)} {f : Str} {v : V}
theorem ev_fld (ha : Ev ta σ H (.ref a)) (h : H a = some (.ins C dx fs)) (cl : Cls K C) (no : NoAttr K C f) (hl : fs.lookup f = some v) : Ev (tFld K ta f) σ H v := fun H1 e Q q => ha H1 e _ fun H2 e2 => ⟨a, C, dx, fs, v, rfl, (e.trans e2) _ _ h, cl, no, hl, q H2 e2⟩
theorem s_setF (hv : Ev tv σ H v) (ha : Ev ta σ H (.ref a)) (h : H a = some (.ins C dx fs)) (cl : Cls K C) (no : NoAttr K C f) (hz : fs.length < 1000) (k : ∀ H1, Ex H H1 → D.nx σ (upd H1 a (.ins C dx (putF f v fs)))) : sFld K ta tv f D σ H :=
  hv H (Ex.refl H) _ fun H1 e1 => ha H1 e1 _ fun H2 e2 => ⟨a, C, dx, fs, rfl, (e1.trans e2) _ _ h, cl, no, hz, k H2 (e1.trans e2)⟩
theorem q_setF (hv : Ev tv σ H v) (ha : Ev ta σ H (.ref a)) (h : H a = some (.ins C dx fs)) (cl : Cls K C) (no : NoAttr K C f) (hz : fs.length < 1000) (k : ∀ H1, Ex H H1 → tz D σ (upd H1 a (.ins C dx (putF f v fs)))) : tSeq (sFld K ta tv f) tz D σ H := s_setF (D := { D with nx := tz D }) hv ha h cl no hz k
theorem s_setFL {xs : List V} (hv : EvL tv σ H xs) (ha : ∀ H1, Ex H H1 → Ev ta σ H1 (.ref a)) (h : H a = some (.ins C dx fs)) (cl : Cls K C) (no : NoAttr K C f) (hz : fs.length < 1000) (k : ∀ l H1, H l = none → Ex H H1 → H1 l = some (.lst xs) → D.nx σ (upd H1 a (.ins C dx (putF f (.ref l) fs)))) : sFld K ta tv f D σ H :=
  hv H (Ex.refl H) _ fun l H1 hl e1 h1 => ha H1 e1 H1 (Ex.refl H1) _ fun H2 e2 => ⟨a, C, dx, fs, rfl, (e1.trans e2) _ _ h, cl, no, hz, k l H2 hl (e1.trans e2) (e2 _ _ h1)⟩
theorem q_setFL {xs : List V} (hv : EvL tv σ H xs) (ha : ∀ H1, Ex H H1 → Ev ta σ H1 (.ref a)) (h : H a = some (.ins C dx fs)) (cl : Cls K C) (no : NoAttr K C f) (hz : fs.length < 1000) (k : ∀ l H1, H l = none → Ex H H1 → H1 l = some (.lst xs) → tz D σ (upd H1 a (.ins C dx (putF f (.ref l) fs)))) : tSeq (sFld K ta tv f) tz D σ H := s_setFL (D := { D with nx := tz D }) hv ha h cl no hz k
theorem s_augF {g : Int → Int → Int} {i j : Int} (ha : Ev ta σ H (.ref a)) (h : H a = some (.ins C dx fs)) (cl : Cls K C) (no : NoAttr K C f) (hl : fs.lookup f = some (.int i)) (hv : Ev tv σ H (.int j)) (hz : fs.length < 1000) (k : ∀ H1, Ex H H1 → D.nx σ (upd H1 a (.ins C dx (putF f (.int (g i j)) fs)))) : sFldAug K ta tv (fun x y H Q => ∃ i j, x = .int i ∧ y = .int j ∧ Q (.int (g i j)) H) f D σ H :=
  ha H (Ex.refl H) _ fun H1 e1 => ⟨a, C, dx, fs, .int i, rfl, e1 _ _ h, cl, no, hl, hv H1 e1 _ fun H2 e2 => ⟨i, j, rfl, rfl, dx, fs, (e1.trans e2) _ _ h, hz, k H2 (e1.trans e2)⟩⟩
end
end Fm
set_option Elab.async false
set_option linter.all false
set_option maxRecDepth 100000
set_option maxHeartbeats 1000000
namespace Fm
open PySem L2 Evl RZ
def spOver (K : PySem.W.Frag) (C : Addr) : Sp := fun vs H Q _ => ∃ (B : Hp) (x pa ia dx pl ct sd : Addr) (p : List In) (ins : List Int) (s : Rs), vs = [.ref x] ∧ RunF K C B H x pa ia p ins s dx pl ct sd ∧ ∀ H', Ex H H' → Q (.bl (decide (s.at_ = p.length))) H'
def spInst (K : PySem.W.Frag) (C : Addr) : Sp := fun vs H Q _ => ∃ (B : Hp) (x pa ia dx pl ct sd : Addr) (p : List In) (ins : List Int) (s : Rs) (i : In), vs = [.ref x] ∧ RunF K C B H x pa ia p ins s dx pl ct sd ∧ p[s.at_]? = some i ∧ ∀ u H', Ex H H' → SqT K H' u i.vs → Q (.ref u) H'
def spSayAsk (K : PySem.W.Frag) (C : Addr) : Sp := fun vs H Q _ => ∃ (B : Hp) (x pa ia dx pl ct sd : Addr) (p : List In) (ins : List Int) (s : Rs) (i : In), vs = [.ref x, .str i.w] ∧ RunF K C B H x pa ia p ins s dx pl ct sd ∧ p[s.at_]? = some i ∧ (i = .say ∨ i = .ask) ∧ s.said.length < 50000 ∧
  ∀ H', RunF K C B H' x pa ia p ins (s.deed p ins) dx pl ct sd → Q .non H'
def In.onCell (c : Nat) : In → Prop
  | .get k => k = c | .plus k => k = c | .minus k => k = c | .set k => k = c | .touch k => k = c
  | _ => False
def spOnCell (K : PySem.W.Frag) (C : Addr) : Sp := fun vs H Q _ => ∃ (B : Hp) (x pa ia dx pl ct sd : Addr) (p : List In) (ins : List Int) (s : Rs) (i : In) (c : Nat), vs = [.ref x, .str i.w, .int (c : Nat)] ∧ RunF K C B H x pa ia p ins s dx pl ct sd ∧ p[s.at_]? = some i ∧ i.onCell c ∧ c < s.held.length ∧
  ∀ H', RunF K C B H' x pa ia p ins (s.deed p ins) dx pl ct sd → Q .non H'
theorem iV_at {l : List Int} {i : Nat} (h : i < l.length) : atI (l.map V.int) (i : Int) = some (.int (l.getD i 0)) := atI_nat' (by
  rw [List.getElem?_map, List.getElem?_eq_getElem h, List.getD_eq_getElem?_getD, List.getElem?_eq_getElem h]
  rfl)
theorem w_say (i : In) : decide (V.str i.w = V.str "say") = (match i with | .say => true | _ => false) := by cases i <;> kernel_rfl
theorem w_get (i : In) : decide (V.str i.w = V.str "get") = (match i with | .get _ => true | _ => false) := by cases i <;> kernel_rfl
theorem w_plus (i : In) : decide (V.str i.w = V.str "plus") = (match i with | .plus _ => true | _ => false) := by cases i <;> kernel_rfl
theorem w_minus (i : In) : decide (V.str i.w = V.str "minus") = (match i with | .minus _ => true | _ => false) := by cases i <;> kernel_rfl
theorem w_setW (i : In) : decide (V.str i.w = V.str "set") = (match i with | .set _ => true | _ => false) := by cases i <;> kernel_rfl
theorem w_zeroW (i : In) : decide (V.str i.w = V.str "zero") = (match i with | .zero _ => true | _ => false) := by cases i <;> kernel_rfl
section
variable {P : Program} {w : World} {K : PySem.W.Frag} {mg : Str → Option Value} {base : Heap} {C : Addr}
abbrev s_Run_is_over : Stmt := inClass (top 47) 1
theorem sc_Run_is_over : FnScope ["self"] ["self"] (defScope s_Run_is_over) := ⟨rfl, rfl, rfl, by decide +kernel, rfl, by decide +kernel, by decide +kernel⟩
--TY Run.is_over {'self':('inst','Run'),'.program':('tuple',T),'.at':'int'}
theorem ok_over {f : Addr} {fd : FuncData} (F : Fun K "is_over" "Run.is_over" s_Run_is_over f fd) (T : Txt K mg) (T_Run : RunT K C) : FnOk P w K mg base CX0 2 f fd ["self"] (spOver K C) := by
  refine F.ok sc_Run_is_over (fun vs H Q E h => ?_) (fun cdv A outer s H vs Q E hr h => ?_)
  · obtain ⟨_, _, _, _, _, _, _, _, _, _, _, rfl, _⟩ := h
    rfl
  · obtain ⟨B, x, pa, ia, dx, pl, ct, sd, p, ins, s, rfl, R, k⟩ := h
    refine ⟨_, (pss_one (ps_ret (pe_cmpR op_eq (pe_fld (pv 0) rfl) (pe_callB (len_K (K := K) rfl) (by rfl) T.z_len (by decide +kernel) (pa_cons (pe_fld (pv 0) rfl) pa_nil)) (nomark _)))), ?_⟩
    refine s_ret (ev_op (ev_fld (ev_var rfl) R.obj T_Run.cl T_Run.n_at rf_at) (ev_lnP (R.pg.up R.ex) (ev_fld (ev_var rfl) R.obj T_Run.cl T_Run.n_program rf_program)) (rv_eq rfl)) fun H1 e1 => ?_
    have : decide (V.int (s.at_ : Nat) = V.int (p.length : Nat)) = decide (s.at_ = p.length) := by
      by_cases h : s.at_ = p.length
      · rw [h]; simp
      · rw [decide_eq_false h, decide_eq_false fun z => h (by have := V.int.inj z; omega)]
    show Q (.bl (decide (V.int (s.at_ : Nat) = V.int (p.length : Nat)))) H1
    rw [this]
    exact k H1 e1
abbrev s_Run_instruction : Stmt := inClass (top 47) 2
theorem sc_Run_instruction : FnScope ["self"] ["self"] (defScope s_Run_instruction) := ⟨rfl, rfl, rfl, by decide +kernel, rfl, by decide +kernel, by decide +kernel⟩
--TY Run.instruction {'self':('inst','Run'),'.program':('tuple',T),'.at':'int'}
theorem ok_instruction {f : Addr} {fd : FuncData} (F : Fun K "instruction" "Run.instruction" s_Run_instruction f fd) (T : Txt K mg) (T_Run : RunT K C) : FnOk P w K mg base CX0 2 f fd ["self"] (spInst K C) := by
  refine F.ok sc_Run_instruction (fun vs H Q E h => ?_) (fun cdv A outer s H vs Q E hr h => ?_)
  · obtain ⟨_, _, _, _, _, _, _, _, _, _, _, _, rfl, _⟩ := h
    rfl
  · obtain ⟨B, x, pa, ia, dx, pl, ct, sd, p, ins, s, i, rfl, R, hi, k⟩ := h
    refine ⟨_, (pss_one (ps_ret (pe_ix (ix_K (K := K) rfl) (pe_fld (pv 0) rfl) (pe_fld (pv 0) rfl) (fun _ _ => rfl)))), ?_⟩
    obtain ⟨b, hb, hb2⟩ := ev_pg (σ := [some (.ref x)]) (ta := tFld K (tVar 0) "program") (tb := tFld K (tVar 0) "at") (R.pg.up R.ex) hi (ev_fld (ev_var rfl) R.obj T_Run.cl T_Run.n_program rf_program) (ev_fld (ev_var rfl) R.obj T_Run.cl T_Run.n_at rf_at)
    exact s_ret hb fun H1 e1 => k b H1 e1 (ex_t e1 hb2)
abbrev s_Run_say_or_ask : Stmt := inClass (top 47) 4
theorem sc_Run_say_or_ask : FnScope ["self", "word"] ["self", "word"] (defScope s_Run_say_or_ask) := ⟨rfl, rfl, rfl, by decide +kernel, rfl, by decide +kernel, by decide +kernel⟩
--TY Run.say_or_ask {'self':('inst','Run'),'.said':L,'.inputs':('tuple','int'),'.hand':'int','.asked':'int','word':'str'}
theorem ok_say_or_ask {f : Addr} {fd : FuncData} (F : Fun K "say_or_ask" "Run.say_or_ask" s_Run_say_or_ask f fd) (T : Txt K mg) (T_Run : RunT K C) : FnOk P w K mg base CX0 2 f fd ["self", "word"] (spSayAsk K C) := by
  refine F.ok sc_Run_say_or_ask (fun vs H Q E h => ?_) (fun cdv A outer s H vs Q E hr h => ?_)
  · obtain ⟨_, _, _, _, _, _, _, _, _, _, _, _, rfl, _⟩ := h
    rfl
  · obtain ⟨B, x, pa, ia, dx, pl, ct, sd, p, ins, s, i, rfl, R, hi, hsa, hsl, k⟩ := h
    refine ⟨_, (pss_one (ps_if (pt_cmpR op_eq (pv 1) pe_str (nomark _)) (pss_one (ps_expr (pe_bm PySem.F.plainAttrs_list PySem.F.slot_list_append PySem.F.type_list_append mt_append (pe_fld (pv 0) rfl) (pa_cons (pe_fld (pv 0) rfl) pa_nil)))) (pss_one (ps_if (pt_cmpR op_lt (pe_fld (pv 0) rfl) (pe_callB (len_K (K := K) rfl) (by rfl) T.z_len (by decide +kernel) (pa_cons (pe_fld (pv 0) rfl) pa_nil)) (nomark _)) (pss_cons (ps_fld (pv 0) (pe_ix (ix_K (K := K) rfl) (pe_fld (pv 0) rfl) (pe_fld (pv 0) rfl) (fun _ _ => rfl)) rfl)
  (pss_one (ps_fldaug (pv 0) pe_int in_add))) (pss_one (ps_fld (pv 0) pe_int rfl)))))), ?_⟩
    refine s_if (et_is (et_eq (ev_var rfl) ev_c rfl) (w_say i)) (fun hc H1 e1 => ?_) (fun hc H1 e1 => ?_)
    · have hin : i = .say := by cases i <;> simp at hc; rfl
      subst hin
      have R1 := R.up e1
      refine s_app R1.hs (ev_fld (ev_var rfl) R1.obj T_Run.cl T_Run.n_said rf_said) (ev_fld (ev_var rfl) R1.obj T_Run.cl T_Run.n_hand rf_hand) (by rw [List.length_map]; omega) fun H2 e2 => ?_
      have := (R1.up e2).putS (s.said ++ [s.hand])
      rw [List.map_append] at this
      refine k _ ?_
      unfold Rs.deed
      rw [hi]
      exact this
    · have hin : i = .ask := by
        rcases hsa with h | h
        · rw [h] at hc; cases hc
        · exact h
      subst hin
      have R1 := R.up e1
      have hins := ex_t R1.ex R1.ip
      refine s_if (et_i0 (ev_fld (ev_var rfl) R1.obj T_Run.cl T_Run.n_asked rf_asked) (ev_lnT (ev_fld (ev_var rfl) R1.obj T_Run.cl T_Run.n_inputs rf_inputs) hins)) (fun hc2 H2 e2 => ?_) (fun hc2 H2 e2 => ?_)
      · have hlt : s.asked < ins.length := by
          have := of_decide_eq_true hc2
          rw [List.length_map] at this
          omega
        have R2 := R1.up e2
        refine q_setF (ev_ixT (ev_fld (ev_var rfl) R2.obj T_Run.cl T_Run.n_inputs rf_inputs) (ev_fld (ev_var rfl) R2.obj T_Run.cl T_Run.n_asked rf_asked) (ex_t e2 hins) (iV_at hlt)) (ev_var rfl) R2.obj T_Run.cl T_Run.n_hand (by show 8 < 1000; decide) fun H3 e3 => ?_
        rw [rf_set_hand]
        have R3 := (R2.up e3).put s.at_ (ins.getD s.asked 0) s.asked
        refine s_augF (g := fun i j => i + j) (ev_var rfl) R3.obj T_Run.cl T_Run.n_asked rf_asked ev_c (by show 8 < 1000; decide) fun H4 e4 => ?_
        rw [rf_set_asked]
        have R4 := (R3.up e4).put s.at_ (ins.getD s.asked 0) (s.asked + 1)
        refine k _ ?_
        unfold Rs.deed
        rw [hi]
        show RunF _ _ _ _ _ _ _ _ _ (if s.asked < ins.length then _ else _) _ _ _ _
        rw [if_pos hlt]
        exact R4
      · have hlt : ¬ s.asked < ins.length := by
          have := of_decide_eq_false hc2
          rw [List.length_map] at this
          omega
        have R2 := R1.up e2
        refine s_setF ev_c (ev_var rfl) R2.obj T_Run.cl T_Run.n_hand (by show 8 < 1000; decide) fun H3 e3 => ?_
        rw [rf_set_hand]
        have R3 := (R2.up e3).put s.at_ 0 s.asked
        refine k _ ?_
        unfold Rs.deed
        rw [hi]
        show RunF _ _ _ _ _ _ _ _ _ (if s.asked < ins.length then _ else _) _ _ _ _
        rw [if_neg hlt]
        exact R3
abbrev s_Run_act_on_cell : Stmt := inClass (top 47) 5
theorem sc_Run_act_on_cell : FnScope ["self", "word", "cell"] ["self", "word", "cell"] (defScope s_Run_act_on_cell) := ⟨rfl, rfl, rfl, by decide +kernel, rfl, by decide +kernel, by decide +kernel⟩
--TY Run.act_on_cell {'self':('inst','Run'),'.contents':('list','int'),'.hand':'int','word':'str','cell':'int'}
theorem ok_act_on_cell {f : Addr} {fd : FuncData} (F : Fun K "act_on_cell" "Run.act_on_cell" s_Run_act_on_cell f fd) (T : Txt K mg) (T_Run : RunT K C) : FnOk P w K mg base CX0 2 f fd ["self", "word", "cell"] (spOnCell K C) := by
  refine F.ok sc_Run_act_on_cell (fun vs H Q E h => ?_) (fun cdv A outer s H vs Q E hr h => ?_)
  · obtain ⟨_, _, _, _, _, _, _, _, _, _, _, _, _, rfl, _⟩ := h
    rfl
  · obtain ⟨B, x, pa, ia, dx, pl, ct, sd, p, ins, s, i, c, rfl, R, hi, hon, hc, k⟩ := h
    refine ⟨_, (pss_one (ps_if (pt_cmpR op_eq (pv 1) pe_str (nomark _)) (pss_one (ps_fld (pv 0) (pe_ix (ix_K (K := K) rfl) (pe_fld (pv 0) rfl) (pv 2) (fun _ _ => rfl)) rfl)) (pss_one (ps_if (pt_cmpR op_eq (pv 1) pe_str (nomark _)) (pss_one (ps_fldaug (pv 0) (pe_ix (ix_K (K := K) rfl) (pe_fld (pv 0) rfl) (pv 2) (fun _ _ => rfl)) in_add)) (pss_one (ps_if (pt_cmpR op_eq (pv 1) pe_str (nomark _)) (pss_one (ps_fldaug (pv 0) (pe_ix (ix_K (K := K) rfl) (pe_fld (pv 0) rfl) (pv 2) (fun _ _ => rfl)) in_sub)) (pss_one (ps_if (pt_cmpR op_eq (pv 1) pe_str (nomark _)) (pss_one (ps_asg (pe_fld (pv 0) rfl) (pg_sub (pe_fld (pv 0) rfl) (pv 2) set_list))) pss_nil)))))))), ?_⟩
    have cell : ∀ {H'}, Ex H H' → Ev (tOp (rIx K) (tFld K (tVar 0) "contents") (tVar 2)) (L2.start ["self", "word", "cell"] [.ref x, .str i.w, .int (c : Nat)]) H' (.int (s.held.getD c 0)) := fun e => ev_ixL (ev_fld (ev_var rfl) (R.up e).obj T_Run.cl T_Run.n_contents rf_contents) (ev_var rfl) (sq_of (R.up e).hc) (iV_at hc)
    refine s_if (et_is (et_eq (ev_var rfl) ev_c rfl) (w_get i)) (fun h1 H1 e1 => ?_) (fun h1 H1 e1 => ?_)
    · obtain ⟨c', rfl⟩ : ∃ c', i = .get c' := by cases i <;> simp at h1; exact ⟨_, rfl⟩
      cases hon
      refine s_setF (cell e1) (ev_var rfl) (R.up e1).obj T_Run.cl T_Run.n_hand (by show 8 < 1000; decide) fun H2 e2 => ?_
      rw [rf_set_hand]
      refine k _ ?_
      unfold Rs.deed
      rw [hi]
      exact ((R.up e1).up e2).put s.at_ (s.held.getD c 0) s.asked
    · refine s_if (et_is (et_eq (ev_var rfl) ev_c rfl) (w_plus i)) (fun h2 H2 e2 => ?_) (fun h2 H2 e2 => ?_)
      · obtain ⟨c', rfl⟩ : ∃ c', i = .plus c' := by cases i <;> simp at h2; exact ⟨_, rfl⟩
        cases hon
        have e02 := e1.trans e2
        refine s_augF (g := fun i j => i + j) (ev_var rfl) (R.up e02).obj T_Run.cl T_Run.n_hand rf_hand (cell e02) (by show 8 < 1000; decide) fun H3 e3 => ?_
        rw [rf_set_hand]
        refine k _ ?_
        unfold Rs.deed
        rw [hi]
        exact ((R.up e02).up e3).put s.at_ (s.hand + s.held.getD c 0) s.asked
      · refine s_if (et_is (et_eq (ev_var rfl) ev_c rfl) (w_minus i)) (fun h3 H3 e3 => ?_) (fun h3 H3 e3 => ?_)
        · obtain ⟨c', rfl⟩ : ∃ c', i = .minus c' := by cases i <;> simp at h3; exact ⟨_, rfl⟩
          cases hon
          have e03 := (e1.trans e2).trans e3
          refine s_augF (g := fun i j => i - j) (ev_var rfl) (R.up e03).obj T_Run.cl T_Run.n_hand rf_hand (cell e03) (by show 8 < 1000; decide) fun H4 e4 => ?_
          rw [rf_set_hand]
          refine k _ ?_
          unfold Rs.deed
          rw [hi]
          exact ((R.up e03).up e4).put s.at_ (s.hand - s.held.getD c 0) s.asked
        · have e03 := (e1.trans e2).trans e3
          refine s_when (et_is (et_eq (ev_var rfl) ev_c rfl) (w_setW i)) (fun h4 H4 e4 => ?_) (fun h4 H4 e4 => ?_)
          · obtain ⟨c', rfl⟩ : ∃ c', i = .set c' := by cases i <;> simp at h4; exact ⟨_, rfl⟩
            cases hon
            have R4 := R.up (e03.trans e4)
            refine s_setL R4.hc (ev_fld (ev_var rfl) R4.obj T_Run.cl T_Run.n_hand rf_hand) (ev_fld (ev_var rfl) R4.obj T_Run.cl T_Run.n_contents rf_contents) (ev_var rfl) (by rw [List.length_map]; exact hc) fun H5 e5 => ?_
            have := (R4.up e5).putC (s.held.set c s.hand)
            rw [List.map_set] at this
            refine k _ ?_
            unfold Rs.deed
            rw [hi]
            exact this
          · refine k _ ?_
            have : s.deed p ins = s := by
              unfold Rs.deed
              rw [hi]
              cases i <;> simp at h1 h2 h3 h4 <;> first | rfl | exact hon.elim
            rw [this]
            exact R.up (e03.trans e4)
end
end Fm
set_option Elab.async false
set_option linter.all false
set_option maxRecDepth 100000
set_option maxHeartbeats 1000000
namespace Fm
open PySem L2 Evl RZ
def In.cellLt (n : Nat) : In → Prop
  | .get k => k < n | .plus k => k < n | .minus k => k < n | .set k => k < n | .touch k => k < n
  | _ => True
def spAct (K : PySem.W.Frag) (C : Addr) : Sp := fun vs H Q _ => ∃ (B : Hp) (x pa ia dx pl ct sd : Addr) (p : List In) (ins : List Int) (s : Rs) (i : In) (c : Nat), vs = [.ref x] ∧ RunF K C B H x pa ia p ins s dx pl ct sd ∧ p[s.at_]? = some i ∧ i.isEnd = false ∧ Pok c p ∧ i.cellLt s.held.length ∧ s.said.length < 50000 ∧
  ∀ H', RunF K C B H' x pa ia p ins (s.step p ins) dx pl ct sd → Q .non H'
theorem deed_at (p : List In) (ins : List Int) (s : Rs) : (s.deed p ins).at_ = s.at_ := by
  unfold Rs.deed
  split <;> (try split) <;> rfl
section
variable {K : PySem.W.Frag} {σ : L2.St} {H : Hp} {ta tb tv te : TE} {tA : TA} {D : Ends} {tz : TS} {a C dx : Addr} {fs : List (Str × V)} {m : Str} {v : V} {sp : Sp} {E : XK}
theorem q_meth0A {i : Nat} (ha : Ev ta σ H (.ref a)) (h : H a = some (.ins C dx fs)) (hl : fs.lookup m = none) (k : ∀ H1, Ex H H1 → sp [.ref a] H1 (fun v H2 => tz D (σ.set i (some v)) H2) E) : tSeq (tAsg (tMeth C m sp [] E ta tNil) (gName i)) tz D σ H :=
  ha H (Ex.refl H) _ fun H1 e1 => ⟨a, dx, fs, rfl, e1 _ _ h, hl, k H1 e1⟩
theorem s_methD {vs : List V} (ha : Ev ta σ H (.ref a)) (h : H a = some (.ins C dx fs)) (hl : fs.lookup m = none) (hA : EvA tA σ H vs) (k : ∀ H1, Ex H H1 → sp (.ref a :: (vs ++ [])) H1 (fun _ H2 => D.nx σ H2) E) : tDrop (tMeth C m sp [] E ta tA) D σ H :=
  ha H (Ex.refl H) _ fun H1 e1 => ⟨a, dx, fs, rfl, e1 _ _ h, hl, hA H1 e1 _ fun H2 e2 => k H2 (e1.trans e2)⟩
theorem q_methD0 (ha : Ev ta σ H (.ref a)) (h : H a = some (.ins C dx fs)) (hl : fs.lookup m = none) (k : ∀ H1, Ex H H1 → sp [.ref a] H1 (fun _ H2 => tz D σ H2) E) : tSeq (tDrop (tMeth C m sp [] E ta tNil)) tz D σ H :=
  ha H (Ex.refl H) _ fun H1 e1 => ⟨a, dx, fs, rfl, e1 _ _ h, hl, k H1 e1⟩
theorem ev_meth0 {z : V} (ha : Ev ta σ H (.ref a)) (h : H a = some (.ins C dx fs)) (hl : fs.lookup m = none) (hs : ∀ H1, Ex H H1 → ∀ Q : VK, (∀ H2, Ex H1 H2 → Q z H2) → sp [.ref a] H1 Q E) : Ev (tMeth C m sp [] E ta tNil) σ H z := fun H1 e Q q =>
  ha H1 e _ fun H2 e2 => ⟨a, dx, fs, rfl, (e.trans e2) _ _ h, hl, hs H2 (e.trans e2) Q fun H3 e3 => q H3 (e2.trans e3)⟩
end
/-- a method that may be called -/
structure MCal (P : Program) (w : World) (K : PySem.W.Frag) (mg : Str → Option Value) (base : Heap) (C : Addr) (k : Nat) (x : Str) (f : Addr) (fd : FuncData) (ps : List Str) (sp : Sp) : Prop where
  G : FnOk P w K mg base CX0 k f fd ps sp
  m : Meth K C x f
  b : Binds K fd ps []
section
variable {P : Program} {w : World} {K : PySem.W.Frag} {mg : Str → Option Value} {base : Heap} {C : Addr}
abbrev s_Run_act : Stmt := inClass (top 47) 3
theorem sc_Run_act : FnScope ["self", "instruction", "target"] ["self"] (defScope s_Run_act) := ⟨rfl, rfl, rfl, by decide +kernel, rfl, by decide +kernel, by decide +kernel⟩
--TY Run.act {'self':('inst','Run'),'.places':('tuple','int'),'.at':'int','.hand':'int','instruction':T,'target':'int'}
theorem ok_act {f f1 f2 f3 : Addr} {fd fd1 fd2 fd3 : FuncData} (F : Fun K "act" "Run.act" s_Run_act f fd) (T : Txt K mg) (T_Run : RunT K C) (M_Run_instruction : MCal P w K mg base C 2 "instruction" f1 fd1 ["self"] (spInst K C)) (M_Run_say_or_ask : MCal P w K mg base C 2 "say_or_ask" f2 fd2 ["self", "word"] (spSayAsk K C)) (M_Run_act_on_cell : MCal P w K mg base C 2 "act_on_cell" f3 fd3 ["self", "word", "cell"] (spOnCell K C)) : FnOk P w K mg base CX0 3 f fd ["self"] (spAct K C) := by
  refine F.ok sc_Run_act (fun vs H Q E h => ?_) (fun cdv A outer s H vs Q E hr h => ?_)
  · obtain ⟨_, _, _, _, _, _, _, _, _, _, _, _, _, rfl, _⟩ := h
    rfl
  · obtain ⟨B, x, pa, ia, dx, pl, ct, sd, p, ins, s, i, c, rfl, R, hi, hend, hok, hcl, hsl, k⟩ := h
    refine ⟨_, (pss_cons (ps_set (i := 1) sc_Run_act.nd rfl (Or.inl rfl) (pe_meth0 (pv 0) T_Run.cl M_Run_instruction.m M_Run_instruction.G (hr.mono (by first | decide | omega)) M_Run_instruction.b .nil pass0))
  (pss_cons (ps_set (i := 2) sc_Run_act.nd rfl (Or.inl rfl) (pe_op op_add (pe_fld (pv 0) rfl) pe_int))
  (pss_cons (ps_if (pt_cmpR op_eq (pe_callB (len_K (K := K) rfl) (by rfl) T.z_len (by decide +kernel) (pa_cons (pv 1) pa_nil)) pe_int (nomark _)) (pss_one (ps_expr (pe_meth (pv 0) T_Run.cl M_Run_say_or_ask.m M_Run_say_or_ask.G (hr.mono (by first | decide | omega)) M_Run_say_or_ask.b .nil pass0 (pa_cons (pe_ix (ix_K (K := K) rfl) (pv 1) pe_int (fun _ _ => rfl)) pa_nil)))) (pss_one (ps_if (pt_cmpR op_eq (pe_ix (ix_K (K := K) rfl) (pv 1) pe_int (fun _ _ => rfl)) pe_str (nomark _)) (pss_one (ps_fld (pv 0) (pe_ix (ix_K (K := K) rfl) (pv 1) pe_int (fun _ _ => rfl)) rfl)) (pss_one (ps_if (pt_cmpR op_eq (pe_ix (ix_K (K := K) rfl) (pv 1) pe_int (fun _ _ => rfl)) pe_str (nomark _)) (pss_one (ps_if (pt_cmpR op_eq (pe_fld (pv 0) rfl) pe_int (nomark _)) (pss_one (ps_set (i := 2) sc_Run_act.nd rfl (Or.inl rfl) (pe_ix (ix_K (K := K) rfl) (pv 1) pe_int (fun _ _ => rfl)))) pss_nil)) (pss_one (ps_expr (pe_meth (pv 0) T_Run.cl M_Run_act_on_cell.m M_Run_act_on_cell.G (hr.mono (by first | decide | omega)) M_Run_act_on_cell.b .nil pass0 (pa_cons (pe_ix (ix_K (K := K) rfl) (pv 1) pe_int (fun _ _ => rfl)) (pa_cons (pe_ix (ix_K (K := K) rfl) (pv 1) pe_int (fun _ _ => rfl)) pa_nil))))))))))
  (pss_one (ps_fld (pv 0) (pe_ix (ix_K (K := K) rfl) (pe_fld (pv 0) rfl) (pv 2) (fun _ _ => rfl)) rfl))))), ?_⟩
    refine q_meth0A (ev_var rfl) R.obj rf_no_instruction fun H1 e1 => ⟨B, x, pa, ia, dx, pl, ct, sd, p, ins, s, i, rfl, R.up e1, hi, fun u H2 e2 hu => ?_⟩
    have R2 := R.up (e1.trans e2)
    have hil : s.at_ < p.length := (List.getElem?_eq_some_iff.mp hi).1
    refine q_asg (ev_succ (ev_fld (ev_var rfl) R2.obj T_Run.cl T_Run.n_at rf_at)) fun H3 e3 => ?_
    have R3 := R2.up e3
    have hu3 := ex_t e3 hu
    -- the end: self.at = self.places[target]
    have fin : ∀ (t : Nat) H' (σ : L2.St), σ = [some (.ref x), some (.ref u), some (.int (t : Nat))] → t ≤ p.length → stE p t = s.next p → RunF K C B H' x pa ia p ins (s.deed p ins) dx pl ct sd → sFld K (tVar 0) (tOp (rIx K) (tFld K (tVar 0) "places") (tVar 2)) "at" { nx := fun _ H' => Q .non H', rt := Q } σ H' := fun t H' σ hσ ht hn R' => by
      subst hσ
      refine s_setF (ev_plc (st_of R'.hp) ht (ev_fld (ev_var rfl) R'.obj T_Run.cl T_Run.n_places rf_places) (ev_var rfl)) (ev_var rfl) R'.obj T_Run.cl T_Run.n_at (by show 8 < 1000; decide) fun H4 e4 => ?_
      rw [rf_set_at, hn]
      exact k _ ((R'.up e4).put (s.next p) _ _)
    have hvl := vs_len i
    have h0 : ∀ {H'}, Ex H3 H' → Ev (tOp (rIx K) (tVar 1) (tC (.int 0))) [some (.ref x), some (.ref u), some (.int ((s.at_ + 1 : Nat) : Int))] H' (.str i.w) := fun e => ev_ixT (ev_var rfl) ev_c (ex_t e hu3) (vs_0 i)
    have h1' : ∀ {H'} {z : Int}, i.arg = some z → Ex H3 H' → Ev (tOp (rIx K) (tVar 1) (tC (.int 1))) [some (.ref x), some (.ref u), some (.int ((s.at_ + 1 : Nat) : Int))] H' (.int z) := fun hz e => ev_ixT (ev_var rfl) ev_c (ex_t e hu3) (vs_1 hz)
    refine q_if (et_eq (ev_lnT (ev_var rfl) hu3) ev_c rfl) (fun hc H4 e4 => ?_) (fun hc H4 e4 => ?_)
    · -- say or ask
      have hsa : i = .say ∨ i = .ask := by
        have := of_decide_eq_true hc
        rw [hvl] at this
        cases i <;> simp [In.arg, In.isEnd] at this hend ⊢
      have R4 := R3.up e4
      refine s_methD (ev_var rfl) R4.obj rf_no_say_or_ask (ea_cons (h0 e4) ea_nil) fun H5 e5 => ⟨B, x, pa, ia, dx, pl, ct, sd, p, ins, s, i, rfl, R4.up e5, hi, hsa, hsl, fun H6 R6 => ?_⟩
      refine fin (s.at_ + 1) H6 _ rfl (by omega) ?_ R6
      unfold Rs.next
      rw [hi]
      rcases hsa with rfl | rfl <;> rfl
    · obtain ⟨z, hz⟩ : ∃ z, i.arg = some z := by
        have := of_decide_eq_false hc
        rw [hvl] at this
        cases i <;> simp_all [In.arg]
      refine s_if (et_is (et_eq (h0 e4) ev_c rfl) (w_put i)) (fun hc2 H5 e5 => ?_) (fun hc2 H5 e5 => ?_)
      · obtain ⟨z', rfl⟩ : ∃ z', i = .put z' := by cases i <;> simp [In.isPut] at hc2; exact ⟨_, rfl⟩
        cases hz
        have R5 := R3.up (e4.trans e5)
        refine s_setF (h1' rfl (e4.trans e5)) (ev_var rfl) R5.obj T_Run.cl T_Run.n_hand (by show 8 < 1000; decide) fun H6 e6 => ?_
        rw [rf_set_hand]
        refine fin (s.at_ + 1) _ _ rfl (by omega) (by unfold Rs.next; rw [hi]) ?_
        have := (R5.up e6).put s.at_ z s.asked
        unfold Rs.deed
        rw [hi]
        exact this
      · refine s_if (et_is (et_eq (h0 (e4.trans e5)) ev_c rfl) (w_zeroW i)) (fun hc3 H6 e6 => ?_) (fun hc3 H6 e6 => ?_)
        · obtain ⟨t, rfl⟩ : ∃ t, i = .zero t := by cases i <;> simp at hc3; exact ⟨_, rfl⟩
          cases hz
          have e36 := (e4.trans e5).trans e6
          have R6 := R3.up e36
          have hdeed : s.deed p ins = s := by unfold Rs.deed; rw [hi]
          have ht : t ≤ p.length := hok.2 _ (List.mem_of_getElem? hi)
          refine s_when (et_eq (ev_fld (ev_var rfl) R6.obj T_Run.cl T_Run.n_hand rf_hand) ev_c rfl) (fun hc4 H7 e7 => ?_) (fun hc4 H7 e7 => ?_)
          · have hh : s.hand = 0 := V.int.inj (of_decide_eq_true hc4)
            refine s_asg (h1' rfl (e36.trans e7)) fun H8 e8 => ?_
            refine fin t H8 _ rfl ht (by unfold Rs.next; rw [hi]; exact (if_pos hh).symm) ?_
            rw [hdeed]
            exact (R6.up e7).up e8
          · have hh : ¬ s.hand = 0 := fun z => of_decide_eq_false hc4 (by rw [z])
            refine fin (s.at_ + 1) H7 _ rfl (by omega) (by unfold Rs.next; rw [hi]; exact (if_neg hh).symm) ?_
            rw [hdeed]
            exact R6.up e7
        · have e36 := (e4.trans e5).trans e6
          have R6 := R3.up e36
          obtain ⟨c', hc', hon, hlt⟩ : ∃ c' : Nat, i.arg = some (c' : Int) ∧ i.onCell c' ∧ c' < s.held.length := by
            cases i <;> simp [In.isPut, In.isEnd, In.arg] at hc2 hc3 hend hz <;> exact ⟨_, rfl, rfl, hcl⟩
          refine s_methD (ev_var rfl) R6.obj rf_no_act_on_cell (ea_cons (h0 e36) (ea_cons (h1' hc' e36) ea_nil)) fun H7 e7 => ⟨B, x, pa, ia, dx, pl, ct, sd, p, ins, s, i, c', rfl, R6.up e7, hi, hon, hlt, fun H8 R8 => ?_⟩
          refine fin (s.at_ + 1) H8 _ rfl (by omega) ?_ R8
          unfold Rs.next
          rw [hi]
          cases i <;> simp at hc3 <;> rfl
end
end Fm
set_option Elab.async false
set_option linter.all false
set_option maxRecDepth 100000
set_option maxHeartbeats 1000000
namespace Fm
open PySem L2 Evl RZ
def Rs.new (p : List In) (n : Nat) : Rs := ⟨stE p 0, 0, List.replicate n 0, 0, []⟩
theorem flat_rep : ∀ n : Nat, (List.replicate n [V.int 0]).flatten = (List.replicate n (0 : Int)).map V.int
  | 0 => rfl
  | n + 1 => by rw [List.replicate_succ, List.replicate_succ, List.flatten_cons, flat_rep n]; rfl
def spInit (K : PySem.W.Frag) (C : Addr) : Sp := fun vs H Q _ => ∃ (B : Hp) (x pa ia dx : Addr) (p : List In) (ins : List Int) (c n : Nat), vs = [.ref x, .int (n : Nat), .ref pa, .ref ia] ∧ Ex B H ∧ B x = none ∧ H x = some (.ins C dx []) ∧ PgT K B pa p ∧ SqT K B ia (ins.map V.int) ∧ Pok c p ∧ p.length ≤ 4000 ∧ n ≤ 10 ∧
  ∀ H' pl ct sd, RunF K C B H' x pa ia p ins (Rs.new p n) dx pl ct sd → Q .non H'
section
variable {P : Program} {w : World} {K : PySem.W.Frag} {mg : Str → Option Value} {base : Heap} {C : Addr}
abbrev s_Run___init__ : Stmt := inClass (top 47) 0
theorem sc_Run___init__ : FnScope ["self", "cells", "program", "inputs"] ["self", "cells", "program", "inputs"] (defScope s_Run___init__) := ⟨rfl, rfl, rfl, by decide +kernel, rfl, by decide +kernel, by decide +kernel⟩
--TY Run.__init__ {'self':('inst','Run'),'.places':('tuple','int'),'program':T,'inputs':T,'cells':'int'}
theorem ok_init {f f1 : Addr} {fd fd1 : FuncData} (F : Fun K "__init__" "Run.__init__" s_Run___init__ f fd) (T : Txt K mg) (T_Run : RunT K C) (C_places_of : Cal P w K mg base CX0 2 "places_of" f1 fd1 ["program"] (spPlaces K)) : FnOk P w K mg base CX0 3 f fd ["self", "cells", "program", "inputs"] (spInit K C) := by
  refine F.ok sc_Run___init__ (fun vs H Q E h => ?_) (fun cdv A outer s H vs Q E hr h => ?_)
  · obtain ⟨_, _, _, _, _, _, _, _, _, rfl, _⟩ := h
    rfl
  · obtain ⟨B, x, pa, ia, dx, p, ins, c, n, rfl, eB, x0, hx, hp, hip, hok, hl, hn, k⟩ := h
    refine ⟨_, (pss_cons (ps_fld (pv 0) (pv 2) rfl)
  (pss_cons (ps_fld (pv 0) (pe_call C_places_of.G (hr.mono (by first | decide | omega)) rfl C_places_of.g C_places_of.kp C_places_of.b .nil pass0 (pa_cons (pv 2) pa_nil)) rfl)
  (pss_cons (ps_fld (pv 0) (pe_ix (ix_K (K := K) rfl) (pe_fld (pv 0) rfl) pe_int (fun _ _ => rfl)) rfl)
  (pss_cons (ps_fld (pv 0) pe_int rfl)
  (pss_cons (ps_fld (pv 0) (pe_op op_rep (pe_lst (pa_cons pe_int pa_nil)) (pv 1)) rfl)
  (pss_cons (ps_fld (pv 0) (pv 3) rfl)
  (pss_cons (ps_fld (pv 0) pe_int rfl)
  (pss_one (ps_fld (pv 0) (pe_lst pa_nil) rfl))))))))), ?_⟩
    refine q_setF (ev_var rfl) (ev_var rfl) hx T_Run.cl T_Run.n_program (by show 0 < 1000; decide) fun H1 e1 => ?_
    have eB1 : Ex B (upd H1 x (.ins C dx (putF "program" (.ref pa) []))) := Ex.mut (eB.trans e1) x0
    have hx1 : upd H1 x (.ins C dx (putF "program" (.ref pa) [])) x = some (.ins C dx (putF "program" (.ref pa) [])) := upd_same
    generalize upd H1 x (.ins C dx (putF "program" (.ref pa) [])) = H2 at eB1 hx1 ⊢
    refine m_call (ea_cons (ev_var rfl) ea_nil) fun H3 e3 => ?_
    refine ⟨pa, p, c, rfl, hp.up (eB1.trans e3), hok, hl, fun pl H4 hpl e4 h4 => ?_⟩
    have e24 := e3.trans e4
    have hplx : pl ≠ x := fun z => by rw [z, e3 _ _ hx1] at hpl; cases hpl
    refine ⟨_, rfl, x, C, dx, _, rfl, e24 _ _ hx1, T_Run.cl, T_Run.n_places, (by show 1 < 1000; decide), ?_⟩
    have eB5 : Ex B (upd H4 x (.ins C dx (putF "places" (.ref pl) (putF "program" (.ref pa) [])))) := Ex.mut (eB1.trans e24) x0
    have hx5 : upd H4 x (.ins C dx (putF "places" (.ref pl) (putF "program" (.ref pa) []))) x = some (.ins C dx (putF "places" (.ref pl) (putF "program" (.ref pa) []))) := upd_same
    have hp5 : upd H4 x (.ins C dx (putF "places" (.ref pl) (putF "program" (.ref pa) []))) pl = some (.tup (nV (plc p))) := by rw [upd_ne hplx]; exact h4
    generalize upd H4 x (.ins C dx (putF "places" (.ref pl) (putF "program" (.ref pa) []))) = H5 at eB5 hx5 hp5 ⊢
    refine q_setF (ev_plc (i := 0) (st_of hp5) (Nat.zero_le _) (ev_fld (ev_var rfl) hx5 T_Run.cl T_Run.n_places (by kernel_rfl)) ev_c) (ev_var rfl) hx5 T_Run.cl T_Run.n_at (by show 2 < 1000; decide) fun H6 e6 => ?_
    have eB7 := Ex.mut (o := .ins C dx (putF "at" (.int (stE p 0 : Nat)) (putF "places" (.ref pl) (putF "program" (.ref pa) [])))) (eB5.trans e6) x0
    have hx7 : upd H6 x (.ins C dx (putF "at" (.int (stE p 0 : Nat)) (putF "places" (.ref pl) (putF "program" (.ref pa) [])))) x = some (.ins C dx (putF "at" (.int (stE p 0 : Nat)) (putF "places" (.ref pl) (putF "program" (.ref pa) [])))) := upd_same
    have hp7 : upd H6 x (.ins C dx (putF "at" (.int (stE p 0 : Nat)) (putF "places" (.ref pl) (putF "program" (.ref pa) [])))) pl = some (.tup (nV (plc p))) := by rw [upd_ne hplx]; exact e6 _ _ hp5
    generalize upd H6 x (.ins C dx (putF "at" (.int (stE p 0 : Nat)) (putF "places" (.ref pl) (putF "program" (.ref pa) [])))) = H7 at eB7 hx7 hp7 ⊢
    generalize hF : putF "at" (.int (stE p 0 : Nat)) (putF "places" (.ref pl) (putF "program" (.ref pa) [])) = F3 at hx7 ⊢
    have l3 : F3.length = 3 := by rw [← hF]; kernel_rfl
    refine q_setF ev_c (ev_var rfl) hx7 T_Run.cl T_Run.n_hand (by rw [l3]; decide) fun H8 e8 => ?_
    have eB9 := Ex.mut (o := .ins C dx (putF "hand" (.int 0) F3)) (eB7.trans e8) x0
    have hx9 : upd H8 x (.ins C dx (putF "hand" (.int 0) F3)) x = some (.ins C dx (putF "hand" (.int 0) F3)) := upd_same
    have hp9 : upd H8 x (.ins C dx (putF "hand" (.int 0) F3)) pl = some (.tup (nV (plc p))) := by rw [upd_ne hplx]; exact e8 _ _ hp7
    generalize upd H8 x (.ins C dx (putF "hand" (.int 0) F3)) = H9 at eB9 hx9 hp9 ⊢
    have l4 : (putF "hand" (.int 0) F3).length = 4 := by rw [← hF]; kernel_rfl
    refine q_setFL (xs := (List.replicate n [V.int 0]).flatten) (el_rep (xs := [.int 0]) (k := n) (el_lst (ea_cons ev_c ea_nil) (by show 1 ≤ 100000; decide)) (fun H1 e1 => ev_var rfl) (by show 1 * n ≤ 100000; omega) (by omega)) (fun H1 e1 => ev_var rfl) hx9 T_Run.cl T_Run.n_contents (by rw [l4]; decide) fun ct H10 hct e10 h10 => ?_
    have hct0 : B ct = none := fresh_back eB9 hct
    have hxc : x ≠ ct := fun z => by rw [← z, hx9] at hct; cases hct
    have hpc : pl ≠ ct := fun z => by rw [← z, hp9] at hct; cases hct
    rw [flat_rep n] at h10
    have go : ∀ (H' : Hp) (F' : List (Str × V)), Ex B H' → H' ct = some (.lst ((List.replicate n (0 : Int)).map V.int)) → H' pl = some (.tup (nV (plc p))) → Ex B (upd H' x (.ins C dx F')) ∧ upd H' x (.ins C dx F') x = some (.ins C dx F') ∧ upd H' x (.ins C dx F') ct = some (.lst ((List.replicate n (0 : Int)).map V.int)) ∧ upd H' x (.ins C dx F') pl = some (.tup (nV (plc p))) := fun H' F' e hc hp' =>
      ⟨Ex.mut e x0, upd_same, by rw [upd_ne hxc.symm]; exact hc, by rw [upd_ne hplx]; exact hp'⟩
    generalize hF5 : putF "contents" (.ref ct) (putF "hand" (.int 0) F3) = F5
    have l5 : F5.length = 5 := by rw [← hF5, ← hF]; kernel_rfl
    obtain ⟨eB11, hx11, hc11, hp11⟩ := go H10 F5 (eB9.trans e10) h10 (e10 _ _ hp9)
    generalize upd H10 x (.ins C dx F5) = H11 at eB11 hx11 hc11 hp11 ⊢
    refine q_setF (ev_var rfl) (ev_var rfl) hx11 T_Run.cl T_Run.n_inputs (by rw [l5]; decide) fun H12 e12 => ?_
    generalize hF6 : putF "inputs" (.ref ia) F5 = F6
    have l6 : F6.length = 6 := by rw [← hF6, ← hF5, ← hF]; kernel_rfl
    obtain ⟨eB13, hx13, hc13, hp13⟩ := go H12 F6 (eB11.trans e12) (e12 _ _ hc11) (e12 _ _ hp11)
    generalize upd H12 x (.ins C dx F6) = H13 at eB13 hx13 hc13 hp13 ⊢
    refine q_setF ev_c (ev_var rfl) hx13 T_Run.cl T_Run.n_asked (by rw [l6]; decide) fun H14 e14 => ?_
    generalize hF7 : putF "asked" (.int 0) F6 = F7
    have l7 : F7.length = 7 := by rw [← hF7, ← hF6, ← hF5, ← hF]; kernel_rfl
    obtain ⟨eB15, hx15, hc15, hp15⟩ := go H14 F7 (eB13.trans e14) (e14 _ _ hc13) (e14 _ _ hp13)
    generalize upd H14 x (.ins C dx F7) = H15 at eB15 hx15 hc15 hp15 ⊢
    refine s_setFL (xs := ([] : List Int).map V.int) (el_lst ea_nil (Nat.zero_le _)) (fun H1 e1 => ev_var rfl) hx15 T_Run.cl T_Run.n_said (by rw [l7]; decide) fun sd H16 hsd e16 h16 => ?_
    have hxs : x ≠ sd := fun z => by rw [← z, hx15] at hsd; cases hsd
    have hcs : ct ≠ sd := fun z => by rw [← z, hc15] at hsd; cases hsd
    have hps : pl ≠ sd := fun z => by rw [← z, hp15] at hsd; cases hsd
    refine k _ pl ct sd ⟨Ex.mut (eB15.trans e16) x0, x0, hp, hip, ?_, hct0, fresh_back eB15 hsd, hcs, hxc, hxs, hplx, hpc, hps, ?_, ?_, ?_⟩
    · rw [upd_same, ← hF7, ← hF6, ← hF5, ← hF, rf_made]
      rfl
    · rw [upd_ne hxc.symm]
      exact e16 _ _ hc15
    · rw [upd_ne hxs.symm]
      exact h16
    · rw [upd_ne hplx]
      exact e16 _ _ hp15
end
end Fm
set_option Elab.async false
set_option linter.all false
set_option maxRecDepth 100000
set_option maxHeartbeats 400000
namespace Fm
open PySem L2 Evl RZ
theorem FnOk_or {P : Program} {w : World} {K : PySem.W.Frag} {mg : Str → Option Value} {base : Heap} {CX : CXT} {k : Nat} {f : Addr} {fd : FuncData} {ps : List Str} {sp sp' : Sp} (F : FnOk P w K mg base CX k f fd ps sp) (F' : FnOk P w K mg base CX k f fd ps sp') : FnOk P w K mg base CX k f fd ps (fun vs H Q E => sp vs H Q E ∨ sp' vs H Q E) :=
  ⟨fun vs H Q E h => h.elim (F.len vs H Q E) (F'.len vs H Q E), fun A outer s H args us vs Q E hr e b v h => h.elim (F.run A outer s H args us vs Q E hr e b v) (F'.run A outer s H args us vs Q E hr e b v)⟩
abbrev WA : List V := [.str "say", .str "ask", .str "stop"]
abbrev WC : List V := [.str "get", .str "plus", .str "minus", .str "set"]
abbrev WP : List V := [.str "zero", .str "go"]
/-- what is no instruction of a program of c cells and n instructions -/
inductive BadIn (K : PySem.W.Frag) (H : Hp) (c n : Nat) : V → Prop where
  | no {v : V} {t : String} (ty : TyX K H v (.type t)) (h : kitB t "tuple" = some false) : BadIn K H c n v
  | one {b : Addr} {wd : Str} (h : SqT K H b [.str wd]) (hw : inV (.str wd) WA = false) : BadIn K H c n (.ref b)
  | cell {b : Addr} {wd : Str} {z : V} {o : Option Int} (h : SqT K H b [.str wd, z]) (hw : inV (.str wd) WC = true) (hz : IntV K H z o) (hr : inRange o 0 ((c : Int) - 1) = false) : BadIn K H c n (.ref b)
  | place {b : Addr} {wd : Str} {z : V} {o : Option Int} (h : SqT K H b [.str wd, z]) (hw : inV (.str wd) WC = false) (hw2 : inV (.str wd) WP = true) (hz : IntV K H z o) (hr : inRange o 0 (n : Int) = false) : BadIn K H c n (.ref b)
  | put {b : Addr} {wd : Str} {z : V} {o : Option Int} (h : SqT K H b [.str wd, z]) (hw : inV (.str wd) WC = false) (hw2 : inV (.str wd) WP = false) (hw3 : decide (V.str wd = .str "put") = true) (hz : IntV K H z o) (hr : inRange o (-1000000) 1000000 = false) : BadIn K H c n (.ref b)
  | word {b : Addr} {wd : Str} {z : V} (h : SqT K H b [.str wd, z]) (hw : inV (.str wd) WC = false) (hw2 : inV (.str wd) WP = false) (hw3 : decide (V.str wd = .str "put") = false) : BadIn K H c n (.ref b)
theorem BadIn.up {K : PySem.W.Frag} {H H' : Hp} {c n : Nat} {v : V} (e : Ex H H') (h : BadIn K H c n v) : BadIn K H' c n v := by
  cases h with
  | no ty h => exact .no (tyx_up e ty) h
  | one h hw => exact .one (ex_t e h) hw
  | cell h hw hz hr => exact .cell (ex_t e h) hw (hz.up e) hr
  | place h hw hw2 hz hr => exact .place (ex_t e h) hw hw2 (hz.up e) hr
  | put h hw hw2 hw3 hz hr => exact .put (ex_t e h) hw hw2 hw3 (hz.up e) hr
  | word h hw hw2 hw3 => exact .word (ex_t e h) hw hw2 hw3
def spIsNo (K : PySem.W.Frag) : Sp := fun vs H Q _ => ∃ (c n : Nat) (v : V), vs = [.int (c : Int), .int (n : Int), v] ∧ BadIn K H c n v ∧ ∀ H', Ex H H' → Q (.bl false) H'
theorem touch_bad {K : PySem.W.Frag} {H : Hp} {c n k : Nat} {v : V} (h : InAt K H v (.touch k)) : BadIn K H c n v := by
  obtain ⟨b, rfl, hb⟩ := h
  exact .word hb (by kernel_rfl) (by kernel_rfl) (by kernel_rfl)
section
variable {P : Program} {w : World} {K : PySem.W.Frag} {mg : Str → Option Value} {base : Heap} {C : Addr}
--TY is_instruction {'value':('tuple','any')}
theorem no_is_instruction {f f1 aA aC aP : Addr} {fd fd1 : FuncData} (F : Fun K "is_instruction" "is_instruction" s_is_instruction f fd) (T : Txt K mg) (Wd : Wds K mg aA aC aP) (C_is_integer : Cal P w K mg base CX0 2 "is_integer" f1 fd1 ["value", "low", "high"] (spIsInt K)) : FnOk P w K mg base CX0 3 f fd ["cells", "length", "value"] (spIsNo K) := by
  refine F.ok sc_is_instruction (fun vs H Q E h => ?_) (fun cdv A outer s H vs Q E hr h => ?_)
  · obtain ⟨_, _, _, rfl, _⟩ := h
    rfl
  · obtain ⟨c, n, v, rfl, hb, k⟩ := h
    refine ⟨_, (pss_cons (ps_if (PW.pt (pw_or (pt_not (pt_val (pe_callB (isi_K (K := K) rfl) (by rfl) T.z_isinstance (by decide +kernel) (pa_cons (pv 2) (pa_cons (pe_bltn (v := .ty "tuple") (by rfl) T.z_tuple (by decide +kernel) rfl) pa_nil))))) (pw_or1 (pt_cmpR (nin_K (K := K) rfl) (pe_callB (len_K (K := K) rfl) (by rfl) T.z_len (by decide +kernel) (pa_cons (pv 2) pa_nil)) (pe_tup (pa_cons pe_int (pa_cons pe_int pa_nil))) (by rfl))))) (pss_one (ps_ret pe_bl)) pss_nil)
  (pss_cons (ps_set (i := 3) sc_is_instruction.nd rfl (Or.inl rfl) (pe_ix (ix_K (K := K) rfl) (pv 2) pe_int (fun _ _ => rfl)))
  (pss_cons (ps_if (pt_cmpR op_eq (pe_callB (len_K (K := K) rfl) (by rfl) T.z_len (by decide +kernel) (pa_cons (pv 2) pa_nil)) pe_int (nomark _)) (pss_one (ps_ret (pe_cmpR (in_K (K := K) rfl) (pv 3) (pe_glob (v := .ref _) rfl Wd.g_ALONE rfl) (by rfl)))) pss_nil)
  (pss_cons (ps_if (pt_cmpR (in_K (K := K) rfl) (pv 3) (pe_glob (v := .ref _) rfl Wd.g_WITH_CELL rfl) (by rfl)) (pss_one (ps_ret (pe_call C_is_integer.G (hr.mono (by first | decide | omega)) rfl C_is_integer.g C_is_integer.kp C_is_integer.b .nil pass0 (pa_cons (pe_ix (ix_K (K := K) rfl) (pv 2) pe_int (fun _ _ => rfl)) (pa_cons pe_int (pa_cons (pe_op op_sub (pv 0) pe_int) pa_nil)))))) pss_nil)
  (pss_cons (ps_if (pt_cmpR (in_K (K := K) rfl) (pv 3) (pe_glob (v := .ref _) rfl Wd.g_WITH_PLACE rfl) (by rfl)) (pss_one (ps_ret (pe_call C_is_integer.G (hr.mono (by first | decide | omega)) rfl C_is_integer.g C_is_integer.kp C_is_integer.b .nil pass0 (pa_cons (pe_ix (ix_K (K := K) rfl) (pv 2) pe_int (fun _ _ => rfl)) (pa_cons pe_int (pa_cons (pv 1) pa_nil)))))) pss_nil)
  (pss_one (ps_ret (pe_and (pe_cmpR op_eq (pv 3) pe_str (nomark _)) (pe_one (pe_call C_is_integer.G (hr.mono (by first | decide | omega)) rfl C_is_integer.g C_is_integer.kp C_is_integer.b .nil pass0 (pa_cons (pe_ix (ix_K (K := K) rfl) (pv 2) pe_int (fun _ _ => rfl)) (pa_cons (pe_un un_neg (pe_glob (v := .int 1000000) rfl T.c_MILLION.choose_spec ⟨_, rfl⟩)) (pa_cons (pe_glob (v := .int 1000000) rfl T.c_MILLION.choose_spec ⟨_, rfl⟩) pa_nil))))))))))))), ?_⟩
    have shape : (∃ t, TyX K H v (.type t) ∧ kitB t "tuple" = some false) ∨ ∃ (b : Addr) (wd : Str) (xs : List V), v = .ref b ∧ SqT K H b xs ∧ atI xs 0 = some (.str wd) ∧
        ((xs.length = 1 ∧ inV (.str wd) WA = false) ∨ (xs.length = 2 ∧ ∃ z, atI xs 1 = some z ∧
          ((inV (.str wd) WC = true ∧ ∃ o, IntV K H z o ∧ inRange o 0 ((c : Int) - 1) = false) ∨ (inV (.str wd) WC = false ∧ inV (.str wd) WP = true ∧ ∃ o, IntV K H z o ∧ inRange o 0 (n : Int) = false) ∨
            (inV (.str wd) WC = false ∧ inV (.str wd) WP = false ∧ (decide (V.str wd = .str "put") = false ∨ ∃ o, IntV K H z o ∧ inRange o (-1000000) 1000000 = false))))) := by
      cases hb with
      | no ty h => exact .inl ⟨_, ty, h⟩
      | one h hw => exact .inr ⟨_, _, _, rfl, h, rfl, .inl ⟨rfl, hw⟩⟩
      | cell h hw hz hr => exact .inr ⟨_, _, _, rfl, h, rfl, .inr ⟨rfl, _, rfl, .inl ⟨hw, _, hz, hr⟩⟩⟩
      | place h hw hw2 hz hr => exact .inr ⟨_, _, _, rfl, h, rfl, .inr ⟨rfl, _, rfl, .inr (.inl ⟨hw, hw2, _, hz, hr⟩)⟩⟩
      | put h hw hw2 hw3 hz hr => exact .inr ⟨_, _, _, rfl, h, rfl, .inr ⟨rfl, _, rfl, .inr (.inr ⟨hw, hw2, .inr ⟨_, hz, hr⟩⟩)⟩⟩
      | word h hw hw2 hw3 => exact .inr ⟨_, _, _, rfl, h, rfl, .inr ⟨rfl, _, rfl, .inr (.inr ⟨hw, hw2, .inl hw3⟩)⟩⟩
    clear hb
    rcases shape with ⟨t, ty, hk⟩ | ⟨b, wd, xs, rfl, hq, h0, hsh⟩
    · exact q_when (b := true) (et_is (et_or (a := true) (b := true) (et_not (a := false) (et_B (ev_isi (ev_var rfl) ty hk))) fun z => nomatch z) rfl) (fun _ H1 e1 => s_ret ev_c fun H2 e2 => k H2 (e1.trans e2)) fun z => nomatch z
    · have hin : inV (V.int (xs.length : Int)) [.int 1, .int 2] = true := by
        rcases hsh with ⟨h, _⟩ | ⟨h, _⟩ <;> rw [h] <;> rfl
      refine q_when (b := false) (et_is (et_or (b := false) (et_not (a := true) (et_B (ev_isi (t := "tuple") (b := true) (ev_var rfl) (ty_tup hq) (by decide +kernel)))) fun _ => et_is (et_test (ev_niU (ev_lnT (ev_var rfl) hq) (eu_tup (ea_cons ev_c (ea_cons ev_c ea_nil)) (by decide)) rfl rfl)) (by rw [hin]; rfl)) rfl) (fun z => nomatch z) fun _ H1 e1 => ?_
      have hq1 := ex_t e1 hq
      refine q_asg (ev_ixT (ev_var rfl) ev_c hq1 h0) fun H2 e2 => ?_
      have hq2 := ex_t e2 hq1
      have e02 := e1.trans e2
      refine q_when (et_eq (ev_lnT (ev_var rfl) hq2) ev_c rfl) (fun hc H3 e3 => ?_) (fun hc H3 e3 => ?_)
      · have hw : inV (.str wd) WA = false := by
          rcases hsh with ⟨_, h⟩ | ⟨h, _⟩
          · exact h
          · rw [h] at hc
            have := V.int.inj (of_decide_eq_true hc)
            omega
        refine s_ret (ev_inK (ev_var rfl) ev_c (Wd.A _) rfl rfl) fun H4 e4 => ?_
        rw [hw]
        exact k H4 ((e02.trans e3).trans e4)
      · obtain ⟨_, z, h1, hd⟩ := hsh.resolve_left (fun hh => by rw [hh.1] at hc; exact of_decide_eq_false hc rfl)
        have e03 := e02.trans e3
        have hq3 := ex_t e03 hq
        refine q_when (et_inK (ev_var rfl) ev_c (Wd.C _) rfl rfl) (fun hc2 H4 e4 => ?_) (fun hc2 H4 e4 => ?_)
        · obtain ⟨o, hz, hr0⟩ : ∃ o, IntV K H z o ∧ inRange o 0 ((c : Int) - 1) = false := by
            rcases hd with ⟨_, h⟩ | ⟨h, _⟩ | ⟨h, _⟩
            · exact h
            · rw [h] at hc2; cases hc2
            · rw [h] at hc2; cases hc2
          refine s_callR (ea_cons (ev_ixT (ev_var rfl) ev_c (ex_t e4 hq3) h1) (ea_cons ev_c (ea_cons (ev_i0 (ev_var rfl) ev_c) ea_nil))) fun H5 e5 => ⟨_, 0, (c : Int) - 1, o, rfl, hz.up ((e03.trans e4).trans e5), fun H6 e6 => ?_⟩
          rw [hr0]
          exact k H6 (((e03.trans e4).trans e5).trans e6)
        · refine q_when (et_inK (ev_var rfl) ev_c (Wd.Pl _) rfl rfl) (fun hc3 H5 e5 => ?_) (fun hc3 H5 e5 => ?_)
          · obtain ⟨o, hz, hr0⟩ : ∃ o, IntV K H z o ∧ inRange o 0 (n : Int) = false := by
              rcases hd with ⟨h, _⟩ | ⟨_, _, h⟩ | ⟨_, h, _⟩
              · rw [h] at hc2; cases hc2
              · exact h
              · rw [h] at hc3; cases hc3
            refine s_callR (ea_cons (ev_ixT (ev_var rfl) ev_c (ex_t (e4.trans e5) hq3) h1) (ea_cons ev_c (ea_cons (ev_var rfl) ea_nil))) fun H6 e6 => ⟨_, 0, (n : Int), o, rfl, hz.up (((e03.trans e4).trans e5).trans e6), fun H7 e7 => ?_⟩
            rw [hr0]
            exact k H7 ((((e03.trans e4).trans e5).trans e6).trans e7)
          · have hd3 : decide (V.str wd = .str "put") = false ∨ ∃ o, IntV K H z o ∧ inRange o (-1000000) 1000000 = false := by
              rcases hd with ⟨h, _⟩ | ⟨_, h, _⟩ | ⟨_, _, h⟩
              · rw [h] at hc2; cases hc2
              · rw [h] at hc3; cases hc3
              · exact h
            have e05 := (e03.trans e4).trans e5
            rcases hd3 with hp | ⟨o, hz, hr0⟩
            · refine s_ret (v := .bl (false && false)) (ev_andV (b := false) (ev_is (ev_op (ev_var rfl) ev_c (rv_eq rfl)) (by rw [hp])) fun z => nomatch z) fun H6 e6 => k H6 (e05.trans e6)
            · refine s_ret (v := .bl (decide (V.str wd = .str "put") && false)) (ev_andV (ev_op (ev_var rfl) ev_c (rv_eq rfl)) fun _ => ev_callV (ea_cons (ev_ixT (ev_var rfl) ev_c (ex_t (e4.trans e5) hq3) h1) (ea_cons (ev_neg ev_c) (ea_cons ev_c ea_nil))) fun H6 e6 Q' q => ⟨_, -1000000, 1000000, o, rfl, hz.up (e05.trans e6), fun H7 e7 => by rw [hr0]; exact q H7 e7⟩) fun H6 e6 => ?_
              rw [Bool.and_false]
              exact k H6 (e05.trans e6)
end
end Fm
set_option Elab.async false
set_option linter.all false
set_option maxRecDepth 100000
set_option maxHeartbeats 1000000
namespace Fm
open PySem L2 Evl RZ
def spIsTouch (K : PySem.W.Frag) : Sp := fun vs H Q _ => ∃ (c k : Nat) (v : V), vs = [.int (c : Int), v] ∧ InAt K H v (.touch k) ∧ k < c ∧ ∀ H', Ex H H' → Q (.bl true) H'
def spChkKe (K : PySem.W.Frag) : Sp := fun vs H Q _ => ∃ (c : Nat) (a : Addr) (p : List In), vs = [.int (c : Int), .ref a] ∧ PgT K H a p ∧ Pok c p ∧ p.length ≤ 4000 ∧ ∀ H', Ex H H' → Q .non H'
def spChkInp (K : PySem.W.Frag) : Sp := fun vs H Q _ => ∃ (a : Addr) (ins : List Int), vs = [.ref a] ∧ SqT K H a (ins.map V.int) ∧ ins.length ≤ 50 ∧ (∀ x ∈ ins, -1000000 ≤ x ∧ x ≤ 1000000) ∧ ∀ H', Ex H H' → Q .non H'
def spLivB (K : PySem.W.Frag) : Sp := fun vs H Q _ => ∃ (m l u : Addr) (fs rs ls : List Nat) (i : In), vs = [.ref m, .ref l, .ref u] ∧ MaT K H m fs rs ∧ SqT K H l (nV ls) ∧ SqT K H u i.vs ∧ fs.length = rs.length ∧ ls.length = rs.length ∧ rs.length ≤ 10 ∧ i.cellLt rs.length ∧
  (i.rd = true ∧ ls.getD i.cell 0 = 0 → ∀ H', Ex H H' → Q .non H') ∧ (¬ (i.rd = true ∧ ls.getD i.cell 0 = 0) → ∀ b H', H b = none → Ex H H' → H' b = some (.tup (nV (bhL i.kd fs rs ls i.cell))) → Q (.ref b) H')
section
variable {P : Program} {w : World} {K : PySem.W.Frag} {mg : Str → Option Value} {base : Heap} {C : Addr}
abbrev s_is_touch : Stmt := top 29
theorem sc_is_touch : FnScope ["cells", "value"] ["cells", "value"] (defScope s_is_touch) := ⟨rfl, rfl, rfl, by decide +kernel, rfl, by decide +kernel, by decide +kernel⟩
--TY is_touch {'value':('tuple','any')}
theorem ok_is_touch {f f1 : Addr} {fd fd1 : FuncData} (F : Fun K "is_touch" "is_touch" s_is_touch f fd) (T : Txt K mg) (C_is_integer : Cal P w K mg base CX0 2 "is_integer" f1 fd1 ["value", "low", "high"] (spIsInt K)) : FnOk P w K mg base CX0 3 f fd ["cells", "value"] (spIsTouch K) := by
  refine F.ok sc_is_touch (fun vs H Q E h => ?_) (fun cdv A outer s H vs Q E hr h => ?_)
  · obtain ⟨_, _, _, rfl, _⟩ := h
    rfl
  · obtain ⟨c, k, v, rfl, ⟨b, rfl, hb⟩, hk, kk⟩ := h
    refine ⟨_, (pss_cons (ps_if (PW.pt (pw_or (pt_not (pt_val (pe_callB (isi_K (K := K) rfl) (by rfl) T.z_isinstance (by decide +kernel) (pa_cons (pv 1) (pa_cons (pe_bltn (v := .ty "tuple") (by rfl) T.z_tuple (by decide +kernel) rfl) pa_nil))))) (pw_or1 (pt_cmpR op_ne (pe_callB (len_K (K := K) rfl) (by rfl) T.z_len (by decide +kernel) (pa_cons (pv 1) pa_nil)) pe_int (nomark _))))) (pss_one (ps_ret pe_bl)) pss_nil)
  (pss_one (ps_ret (pe_and (pe_cmpR op_eq (pe_ix (ix_K (K := K) rfl) (pv 1) pe_int (fun _ _ => rfl)) pe_str (nomark _)) (pe_one (pe_call C_is_integer.G (hr.mono (by first | decide | omega)) rfl C_is_integer.g C_is_integer.kp C_is_integer.b .nil pass0 (pa_cons (pe_ix (ix_K (K := K) rfl) (pv 1) pe_int (fun _ _ => rfl)) (pa_cons pe_int (pa_cons (pe_op op_sub (pv 0) pe_int) pa_nil))))))))), ?_⟩
    refine q_when (b := false) (et_is (et_or (b := false) (et_not (a := true) (et_B (ev_isi (t := "tuple") (b := true) (ev_var rfl) (ty_tup hb) (by decide +kernel)))) fun _ => et_is (et_ne (ev_lnT (ev_var rfl) hb) ev_c rfl) rfl) rfl) (fun z => nomatch z) fun _ H1 e1 => ?_
    have hb1 := ex_t e1 hb
    have hw : decide (V.str (In.touch k).w = V.str "touch") = true := by kernel_rfl
    refine s_ret (v := .bl (true && true)) (ev_andV (ev_is (ev_op (ev_ixT (ev_var rfl) ev_c hb1 (vs_0 (.touch k))) ev_c (rv_eq rfl)) (by rw [hw])) fun _ => ev_callV (ea_cons (ev_ixT (ev_var rfl) ev_c hb1 (vs_1 (i := .touch k) rfl)) (ea_cons ev_c (ea_cons (ev_i0 (ev_var rfl) ev_c) ea_nil))) fun H2 e2 Q' q => ⟨_, 0, (c : Int) - 1, some (k : Int), rfl, rfl, fun H3 e3 => by
      have : inRange (some (k : Int)) 0 ((c : Int) - 1) = true := by
        simp only [inRange, Bool.and_eq_true, decide_eq_true_eq]
        omega
      rw [this]
      exact q H3 e3⟩) fun H2 e2 => kk H2 (e1.trans e2)
abbrev s_check_kept : Stmt := top 32
theorem sc_check_kept : FnScope ["cells", "value", "index", "instruction"] ["cells", "value"] (defScope s_check_kept) := ⟨rfl, rfl, rfl, by decide +kernel, rfl, by decide +kernel, by decide +kernel⟩
--TY check_kept {'value':('tuple','any')}
theorem ok_check_kept {f f1 f2 f3 : Addr} {fd fd1 fd2 fd3 : FuncData} (F : Fun K "check_kept" "check_kept" s_check_kept f fd) (T : Txt K mg) (C_check_length : Cal P w K mg base CX0 2 "check_length" f1 fd1 ["value", "most"] (spChkLen K)) (C_is_instruction : Cal P w K mg base CX0 3 "is_instruction" f2 fd2 ["cells", "length", "value"] (fun vs H Q E => spIsIn K vs H Q E ∨ spIsNo K vs H Q E)) (C_is_touch : Cal P w K mg base CX0 3 "is_touch" f3 fd3 ["cells", "value"] (spIsTouch K)) : FnOk P w K mg base CX0 4 f fd ["cells", "value"] (spChkKe K) := by
  refine F.ok sc_check_kept (fun vs H Q E h => ?_) (fun cdv A outer s H vs Q E hr h => ?_)
  · obtain ⟨_, _, _, rfl, _⟩ := h
    rfl
  · obtain ⟨c, a, p, rfl, hp, hok, hl, k⟩ := h
    refine ⟨_, (pss_cons (ps_expr (pe_call C_check_length.G (hr.mono (by first | decide | omega)) rfl C_check_length.g C_check_length.kp C_check_length.b .nil pass0 (pa_cons (pv 1) (pa_cons (pe_glob (v := .int 4000) rfl T.c_MOST_KEPT.choose_spec ⟨_, rfl⟩) pa_nil))))
  (pss_one (ps_for PassesOwn.never rfl (pi_enumT (by rfl) T.z_enumerate (pa_cons (pv 1) pa_nil)) (pg_tup rfl (pgs_cons (pg_name (i := 2) sc_check_kept.nd rfl (by first | exact Or.inl rfl | exact Or.inr rfl)) (pgs_cons (pg_name (i := 3) sc_check_kept.nd rfl (by first | exact Or.inl rfl | exact Or.inr rfl)) pgs_nil))) (pss_one (ps_if (PW.pt (pw_and (pt_not (pt_val (pe_call C_is_instruction.G (hr.mono (by first | decide | omega)) rfl C_is_instruction.g C_is_instruction.kp C_is_instruction.b .nil pass0 (pa_cons (pv 0) (pa_cons (pe_callB (len_K (K := K) rfl) (by rfl) T.z_len (by decide +kernel) (pa_cons (pv 1) pa_nil)) (pa_cons (pv 3) pa_nil)))))) (pw_and1 (pt_not (pt_val (pe_call C_is_touch.G (hr.mono (by first | decide | omega)) rfl C_is_touch.g C_is_touch.kp C_is_touch.b .nil pass0 (pa_cons (pv 0) (pa_cons (pv 3) pa_nil)))))))) (pss_one ps_never) pss_nil))))), ?_⟩
    obtain ⟨xs, hx, hpx⟩ := id hp
    have hxl : xs.length = p.length := Paired.length hpx
    refine q_call (ea_cons (ev_var rfl) (ea_cons ev_c ea_nil)) fun H1 e1 => ⟨a, xs, 4000, rfl, ex_t e1 hx, by rw [hxl]; exact hok.1, by omega, fun H2 e2 => ?_⟩
    have e02 := e1.trans e2
    refine s_forET (ev_var rfl) (ex_t e02 hx) (fun m σ H' => Ex H H' ∧ ∃ y z, σ = [some (.int (c : Int)), some (.ref a), y, z]) (fun H3 e3 => ⟨e02.trans e3, _, _, rfl⟩) (fun m σ H' _ ⟨e, _⟩ => ex_t e hx) ?_ fun σ H' ⟨e, _⟩ => k H' e
    rintro m x σ H' hm ⟨e, y, z, rfl⟩ H3 e3
    have hml : m < p.length := by
      have := (List.getElem?_eq_some_iff.mp hm).1
      omega
    obtain ⟨x', hx', hin⟩ := paired_get hpx (List.getElem?_eq_getElem hml)
    have : x' = x := by
      rw [hm] at hx'
      exact (Option.some.inj hx').symm
    subst this
    have hp3 := hp.up (e.trans e3)
    have hokm := hok.2 _ (List.getElem_mem hml)
    generalize p[m] = i at hin hokm
    cases hT : i.isTouch with
    | false =>
      refine s_when (b := false) (et_is (et_and (a := false) (b := false) (et_not (a := true) (et_B (ev_callV (ea_cons (ev_var rfl) (ea_cons (ev_lnP hp3 (ev_var rfl)) (ea_cons (ev_var rfl) ea_nil))) fun H4 e4 Q q => .inl ⟨c, p.length, _, _, rfl, hin.up ((e.trans e3).trans e4), hokm, hT, q⟩))) fun z => nomatch z) rfl) (fun z => nomatch z) fun _ H4 e4 => ⟨(e.trans e3).trans e4, _, _, rfl⟩
    | true =>
      obtain ⟨kc, rfl⟩ : ∃ kc, i = .touch kc := by cases i <;> simp [In.isTouch] at hT; exact ⟨_, rfl⟩
      refine s_when (b := false) (et_is (et_and (a := true) (b := false) (et_not (a := false) (et_B (ev_callV (ea_cons (ev_var rfl) (ea_cons (ev_lnP hp3 (ev_var rfl)) (ea_cons (ev_var rfl) ea_nil))) fun H4 e4 Q q => .inr ⟨c, p.length, _, rfl, touch_bad (hin.up ((e.trans e3).trans e4)), q⟩))) fun _ => et_not (a := true) (et_B (ev_callV (ea_cons (ev_var rfl) (ea_cons (ev_var rfl) ea_nil)) fun H4 e4 Q q => ⟨c, kc, _, rfl, hin.up ((e.trans e3).trans e4), hokm, q⟩))) rfl) (fun z => nomatch z) fun _ H4 e4 => ⟨(e.trans e3).trans e4, _, _, rfl⟩
abbrev s_lives_behind : Stmt := top 44
theorem sc_lives_behind : FnScope ["machine", "lives", "instruction", "word"] ["machine", "lives", "instruction"] (defScope s_lives_behind) := ⟨rfl, rfl, rfl, by decide +kernel, rfl, by decide +kernel, by decide +kernel⟩
--TY lives_behind {'lives':T,'machine':T,'instruction':T,'word':'str'}
theorem ok_lives_behind {f f1 f2 f3 aR : Addr} {fd fd1 fd2 fd3 : FuncData} (F : Fun K "lives_behind" "lives_behind" s_lives_behind f fd) (T : Txt K mg) (Wd : WdR K mg aR) (C_lives_touched : Cal P w K mg base CX0 2 "lives_touched" f1 fd1 ["machine", "lives", "cell"] (spTouched K)) (C_lives_set : Cal P w K mg base CX0 3 "lives_set" f2 fd2 ["machine", "lives", "cell"] (spSet K)) (C_lives_waited : Cal P w K mg base CX0 2 "lives_waited" f3 fd3 ["lives"] (spWaited K)) : FnOk P w K mg base CX0 4 f fd ["machine", "lives", "instruction"] (spLivB K) := by
  refine F.ok sc_lives_behind (fun vs H Q E h => ?_) (fun cdv A outer s H vs Q E hr h => ?_)
  · obtain ⟨_, _, _, _, _, _, _, rfl, _⟩ := h
    rfl
  · obtain ⟨m, l, u, fs, rs, ls, i, rfl, hM, hl, hu, hf, hls, hz, hc, k1, k2⟩ := h
    refine ⟨_, (pss_cons (ps_set (i := 3) sc_lives_behind.nd rfl (Or.inl rfl) (pe_ix (ix_K (K := K) rfl) (pv 2) pe_int (fun _ _ => rfl)))
  (pss_cons (ps_if (PW.pt (pw_and (pt_cmpR (in_K (K := K) rfl) (pv 3) (pe_glob (v := .ref _) rfl Wd.g_READS rfl) (by rfl)) (pw_and1 (pt_cmpR op_eq (pe_ix (ix_K (K := K) rfl) (pv 1) (pe_ix (ix_K (K := K) rfl) (pv 2) pe_int (fun _ _ => rfl)) (fun _ _ => rfl)) pe_int (nomark _))))) (pss_one (ps_ret pe_non)) pss_nil)
  (pss_cons (ps_if (PW.pt (pw_or (pt_cmpR (in_K (K := K) rfl) (pv 3) (pe_glob (v := .ref _) rfl Wd.g_READS rfl) (by rfl)) (pw_or1 (pt_cmpR op_eq (pv 3) pe_str (nomark _))))) (pss_one (ps_ret (pe_call C_lives_touched.G (hr.mono (by first | decide | omega)) rfl C_lives_touched.g C_lives_touched.kp C_lives_touched.b .nil pass0 (pa_cons (pv 0) (pa_cons (pv 1) (pa_cons (pe_ix (ix_K (K := K) rfl) (pv 2) pe_int (fun _ _ => rfl)) pa_nil)))))) pss_nil)
  (pss_cons (ps_if (pt_cmpR op_eq (pv 3) pe_str (nomark _)) (pss_one (ps_ret (pe_call C_lives_set.G (hr.mono (by first | decide | omega)) rfl C_lives_set.g C_lives_set.kp C_lives_set.b .nil pass0 (pa_cons (pv 0) (pa_cons (pv 1) (pa_cons (pe_ix (ix_K (K := K) rfl) (pv 2) pe_int (fun _ _ => rfl)) pa_nil)))))) pss_nil)
  (pss_one (ps_ret (pe_call C_lives_waited.G (hr.mono (by first | decide | omega)) rfl C_lives_waited.g C_lives_waited.kp C_lives_waited.b .nil pass0 (pa_cons (pv 1) pa_nil)))))))), ?_⟩
    refine q_asg (ev_ixT (ev_var rfl) ev_c hu (vs_0 i)) fun H1 e1 => ?_
    have hu1 := ex_t e1 hu
    have hl1 := ex_t e1 hl
    have hcell : i.rd = true ∨ i.kd.near = true → i.arg = some (i.cell : Int) ∧ i.cell < rs.length := fun h => by cases i <;> simp [In.rd, In.kd, Kd.near] at h <;> exact ⟨rfl, hc⟩
    have hwt : decide (V.str i.w = V.str "touch") = i.isTouch := by cases i <;> kernel_rfl
    refine q_when (b := i.rd && decide (ls.getD i.cell 0 = 0)) (et_and (et_is (et_inK (ev_var rfl) ev_c (Wd.R _) rfl rfl) (w_rd i)) fun hrd => ?_) (fun hb H2 e2 => ?_) (fun hb H2 e2 => ?_)
    · obtain ⟨ha, hlt⟩ := hcell (.inl hrd)
      refine et_is (et_eq (ev_ixT (ev_var rfl) (ev_ixT (ev_var rfl) ev_c hu1 (vs_1 ha)) hl1 (nV_at (by omega))) ev_c rfl) ?_
      by_cases h : ls.getD i.cell 0 = 0
      · rw [h]; simp
      · rw [decide_eq_false h, decide_eq_false fun z => h (by have := V.int.inj z; omega)]
    · rw [Bool.and_eq_true] at hb
      exact s_ret ev_c fun H3 e3 => k1 ⟨hb.1, of_decide_eq_true hb.2⟩ H3 ((e1.trans e2).trans e3)
    · have hno : ¬ (i.rd = true ∧ ls.getD i.cell 0 = 0) := fun z => by rw [z.1, decide_eq_true z.2] at hb; cases hb
      have k2 := k2 hno
      have e02 := e1.trans e2
      have hu2 := ex_t e02 hu
      refine q_when (b := i.rd || i.isTouch) (et_or (et_is (et_inK (ev_var rfl) ev_c (Wd.R _) rfl rfl) (w_rd i)) fun _ => et_is (et_eq (ev_var rfl) ev_c rfl) hwt) (fun hb3 H3 e3 => ?_) (fun hb3 H3 e3 => ?_)
      · have hkd : i.kd = .touch := by cases i <;> simp [In.rd, In.isTouch] at hb3 <;> rfl
        obtain ⟨ha, hlt⟩ := hcell (.inr (by rw [hkd]; rfl))
        rw [hkd] at k2
        have e03 := e02.trans e3
        refine s_callR (ea_cons (ev_var rfl) (ea_cons (ev_var rfl) (ea_cons (ev_ixT (ev_var rfl) ev_c (ex_t e3 hu2) (vs_1 ha)) ea_nil))) fun H4 e4 => ⟨m, l, fs, rs, ls, i.cell, rfl, hM.up (e03.trans e4), ex_t (e03.trans e4) hl, hf, hls, hlt, hz, fun b H5 hb5 e5 h5 => k2 b H5 (fresh_back (e03.trans e4) hb5) ((e03.trans e4).trans e5) h5⟩
      · refine q_when (et_is (et_eq (ev_var rfl) ev_c rfl) (w_set i)) (fun hb4 H4 e4 => ?_) (fun hb4 H4 e4 => ?_)
        · have hkd : i.kd = .set := by cases i <;> simp [In.isSet] at hb4 <;> rfl
          obtain ⟨ha, hlt⟩ := hcell (.inr (by rw [hkd]; rfl))
          rw [hkd] at k2
          have e04 := (e02.trans e3).trans e4
          refine s_callR (ea_cons (ev_var rfl) (ea_cons (ev_var rfl) (ea_cons (ev_ixT (ev_var rfl) ev_c (ex_t (e3.trans e4) hu2) (vs_1 ha)) ea_nil))) fun H5 e5 => ⟨m, l, fs, rs, ls, i.cell, rfl, hM.up (e04.trans e5), ex_t (e04.trans e5) hl, hf, hls, hlt, hz, fun b H6 hb6 e6 h6 => k2 b H6 (fresh_back (e04.trans e5) hb6) ((e04.trans e5).trans e6) h6⟩
        · have hkd : i.kd = .wait := by cases i <;> simp [In.isSet, In.rd, In.isTouch] at hb3 hb4 <;> rfl
          rw [hkd] at k2
          have e04 := (e02.trans e3).trans e4
          refine s_callR (ea_cons (ev_var rfl) ea_nil) fun H5 e5 => ⟨l, ls, rfl, ex_t (e04.trans e5) hl, by omega, fun b H6 hb6 e6 h6 => k2 b H6 (fresh_back (e04.trans e5) hb6) ((e04.trans e5).trans e6) h6⟩
end
end Fm
set_option Elab.async false
set_option linter.all false
set_option maxRecDepth 100000
set_option maxHeartbeats 1000000
namespace Fm
open PySem L2 Evl RZ
def loopL (p : List In) (ins : List Int) : Nat → Rs → Nat → Rs × Nat
  | 0, s, t => (s, t)
  | m + 1, s, t => if s.at_ = p.length then (s, t) else loopL p ins m (s.step p ins) (t + 1)
def endW (p : List In) (s : Rs) : Str := if s.at_ = p.length then "stopped" else "running"
structure RsOk (p : List In) (c : Nat) (s : Rs) : Prop where
  at_ : s.at_ = p.length ∨ Sta p s.at_
  held : s.held.length = c
theorem next_sta {c : Nat} {p : List In} (hok : Pok c p) {s : Rs} (h : s.at_ < p.length) : s.next p = p.length ∨ Sta p (s.next p) := by
  unfold Rs.next
  split
  · rename_i t e
    have ht : t ≤ p.length := hok.2 _ (List.mem_of_getElem? e)
    split
    · exact stE_sta hok ht
    · exact stE_sta hok h
  · exact stE_sta hok h
theorem deed_held (p : List In) (ins : List Int) (s : Rs) : (s.deed p ins).held.length = s.held.length := by
  unfold Rs.deed
  split <;> (try split) <;> simp
theorem deed_said (p : List In) (ins : List Int) (s : Rs) : (s.deed p ins).said.length ≤ s.said.length + 1 := by
  unfold Rs.deed
  split <;> (try split) <;> simp
theorem RsOk.step {c cc : Nat} {p : List In} {ins : List Int} (hok : Pok cc p) {s : Rs} (h : RsOk p c s) (hl : s.at_ < p.length) : RsOk p c (s.step p ins) := ⟨next_sta hok hl, (deed_held p ins s).trans h.held⟩
theorem RsOk.new {c n : Nat} {p : List In} (hok : Pok c p) : RsOk p n (Rs.new p n) := ⟨stE_sta hok (Nat.zero_le _), List.length_replicate⟩
def ToldAt (H : Hp) (u : Addr) (sd : List Int) (wd : Str) (t : Nat) : Prop := ∃ q : Addr, H u = some (.tup [.ref q, .str wd, .int (t : Nat)]) ∧ H q = some (.tup (sd.map V.int))
def spTold (K : PySem.W.Frag) (C : Addr) : Sp := fun vs H Q _ => ∃ (B : Hp) (x pa ia dx pl ct sd : Addr) (p : List In) (ins : List Int) (s : Rs) (t : Nat), vs = [.ref x, .int (t : Nat)] ∧ RunF K C B H x pa ia p ins s dx pl ct sd ∧ ∀ u H', H u = none → Ex H H' → ToldAt H' u s.said (endW p s) t → Q (.ref u) H'
section
variable {K : PySem.W.Frag} {σ : L2.St} {H : Hp} {ta tb tv te : TE} {tA : TA} {D : Ends} {tz : TS} {a C dx : Addr} {fs : List (Str × V)} {m : Str} {v : V} {sp : Sp} {E : XK}
theorem q_makeA {i : Nat} {vs : List V} (h : EvA tA σ H vs) (k : ∀ x dx H1, Ex H H1 → H1 x = none → H1 dx = none → dx ≠ x → sp (.ref x :: (vs ++ [])) (upd (upd H1 dx (.own x)) x (.ins C dx [])) (fun v H2 => v = .non ∧ tz D (σ.set i (some (.ref x))) H2) E) : tSeq (tAsg (tMake C sp [] E tA) (gName i)) tz D σ H :=
  h H (Ex.refl H) _ fun H1 e1 x dx hx hdx hne => k x dx H1 e1 hx hdx hne
end
structure MkRun (P : Program) (w : World) (K : PySem.W.Frag) (mg : Str → Option Value) (base : Heap) (C : Addr) (f : Addr) (fd : FuncData) : Prop where
  M : Mk K C f
  G : FnOk P w K mg base CX0 3 f fd ["self", "cells", "program", "inputs"] (spInit K C)
  g : mg "Run" = some (.ref C)
  b : Binds K fd ["self", "cells", "program", "inputs"] []
section
variable {P : Program} {w : World} {K : PySem.W.Frag} {mg : Str → Option Value} {base : Heap} {C : Addr}
abbrev s_check_inputs : Stmt := top 33
theorem sc_check_inputs : FnScope ["value", "number"] ["value"] (defScope s_check_inputs) := ⟨rfl, rfl, rfl, by decide +kernel, rfl, by decide +kernel, by decide +kernel⟩
--TY check_inputs {'value':T,'number':'any'}
theorem ok_check_inputs {f f1 : Addr} {fd fd1 : FuncData} (F : Fun K "check_inputs" "check_inputs" s_check_inputs f fd) (T : Txt K mg) (C_is_integer : Cal P w K mg base CX0 2 "is_integer" f1 fd1 ["value", "low", "high"] (spIsInt K)) : FnOk P w K mg base CX0 3 f fd ["value"] (spChkInp K) := by
  refine F.ok sc_check_inputs (fun vs H Q E h => ?_) (fun cdv A outer s H vs Q E hr h => ?_)
  · obtain ⟨_, _, rfl, _⟩ := h
    rfl
  · obtain ⟨a, ins, rfl, ha, hl, hb, k⟩ := h
    refine ⟨_, (pss_cons (ps_if (PW.pt (pw_or (pt_not (pt_val (pe_callB (isi_K (K := K) rfl) (by rfl) T.z_isinstance (by decide +kernel) (pa_cons (pv 0) (pa_cons (pe_bltn (v := .ty "tuple") (by rfl) T.z_tuple (by decide +kernel) rfl) pa_nil))))) (pw_or1 (pt_cmpR op_gt (pe_callB (len_K (K := K) rfl) (by rfl) T.z_len (by decide +kernel) (pa_cons (pv 0) pa_nil)) (pe_glob (v := .int 50) rfl T.c_MOST_INPUTS.choose_spec ⟨_, rfl⟩) (nomark _))))) (pss_one ps_never) pss_nil)
  (pss_one (ps_if (pt_not (pt_val (pe_callB (all_K (K := K) rfl rfl) (by rfl) T.z_all (by decide +kernel) (pa_cons (pe_lc (own := [("number", 1)]) (g := gName 1) rfl sc_check_inputs.nd (pi_tupK (K := K) rfl (pv 0)) (blkOk_by (by kernel_rfl)) (fun _ _ _ _ _ => pg_name (i := 1) sc_check_inputs.nd rfl (by first | exact Or.inl rfl | exact Or.inr rfl)) (fun _ _ _ _ _ => pts_nil) (fun _ _ _ _ _ => (pe_call C_is_integer.G (hr.mono (by first | decide | omega)) rfl C_is_integer.g C_is_integer.kp C_is_integer.b .nil pass0 (pa_cons (pv 1) (pa_cons (pe_un un_neg (pe_glob (v := .int 1000000) rfl T.c_MILLION.choose_spec ⟨_, rfl⟩)) (pa_cons (pe_glob (v := .int 1000000) rfl T.c_MILLION.choose_spec ⟨_, rfl⟩) pa_nil)))))) pa_nil)))) (pss_one ps_never) pss_nil))), ?_⟩
    have hgt : decide (((ins.map V.int).length : Int) > 50) = false := by rw [List.length_map]; exact decide_eq_false (by omega)
    refine q_when (b := false) (et_is (et_or (a := false) (b := false) (et_not (a := true) (et_B (ev_isi (t := "tuple") (b := true) (ev_var rfl) (ty_tup ha) (by decide +kernel)))) fun _ => et_is (et_i0 (ev_lnT (ev_var rfl) ha) ev_c) hgt) rfl) (fun z => nomatch z) fun _ H1 e1 => ?_
    have key := el_lcTv (K := K) (σ := [some (.ref a), none]) (H := H1) (a := a) (tl := tVar 0) (j := 1) (vs := List.map (fun x => x.snd) [(("number" : Str), 1)]) (te := tCall (spIsInt K) [] E0 (tCons (tVar 1) (tCons (tUn (rU fun i => .int (-i)) (tC (.int 1000000))) (tCons (tC (.int 1000000)) tNil)))) (xs := ins.map V.int) (.bl true)
      (ev_var rfl) (ex_t e1 ha) (fun x => rfl) (by rw [List.length_map]; omega) (fun y H2 hy _ => by
        obtain ⟨z, hz, rfl⟩ := List.mem_map.mp hy
        exact ev_callV (ea_cons (ev_var rfl) (ea_cons (ev_neg ev_c) (ea_cons ev_c ea_nil))) fun H3 e3 Q' q => ⟨_, -1000000, 1000000, some z, rfl, rfl, fun H4 e4 => by
          have : inRange (some z) (-1000000) 1000000 = true := by
            have := hb z hz
            simp only [inRange, Bool.and_eq_true, decide_eq_true_eq]
            omega
          rw [this]
          exact q H4 e4⟩)
    have hm : ((ins.map V.int).map fun _ => V.bl true) = ((ins.map V.int).map fun _ => true).map V.bl := by simp only [List.map_map]; rfl
    rw [hm] at key
    have hall : ((ins.map V.int).map fun _ => true).all id = true := by rw [List.all_map]; exact List.all_eq_true.mpr fun _ _ => rfl
    refine s_when (b := false) (et_not (a := true) (et_is (et_B (ev_all key)) hall)) (fun z => nomatch z) fun _ H2 e2 => k H2 (e1.trans e2)
abbrev s_told : Stmt := top 48
theorem sc_told : FnScope ["run", "ticks"] ["run", "ticks"] (defScope s_told) := ⟨rfl, rfl, rfl, by decide +kernel, rfl, by decide +kernel, by decide +kernel⟩
--TY told {'run':('inst','Run'),'.said':L,'ticks':'int'}
theorem ok_told {f f1 : Addr} {fd fd1 : FuncData} (F : Fun K "told" "told" s_told f fd) (T : Txt K mg) (T_Run : RunT K C) (M_Run_is_over : MCal P w K mg base C 2 "is_over" f1 fd1 ["self"] (spOver K C)) : FnOk P w K mg base CX0 3 f fd ["run", "ticks"] (spTold K C) := by
  refine F.ok sc_told (fun vs H Q E h => ?_) (fun cdv A outer s H vs Q E hr h => ?_)
  · obtain ⟨_, _, _, _, _, _, _, _, _, _, _, _, rfl, _⟩ := h
    rfl
  · obtain ⟨B, x, pa, ia, dx, pl, ct, sd, p, ins, s, t, rfl, R, k⟩ := h
    refine ⟨_, (pss_one (ps_ret (pe_tup (pa_cons (pe_callTy (tpl_K (K := K) rfl) (by rfl) T.z_tuple (by decide +kernel) (pa_cons (pe_fld (pv 0) rfl) pa_nil)) (pa_cons (pe_ifExp (pt_val (pe_meth0 (pv 0) T_Run.cl M_Run_is_over.m M_Run_is_over.G (hr.mono (by first | decide | omega)) M_Run_is_over.b .nil pass0)) pe_str pe_str) (pa_cons (pv 1) pa_nil)))))), ?_⟩
    refine m_retTup ?_
    refine m_consU (eu_tpl (ev_fld (ev_var rfl) R.obj T_Run.cl T_Run.n_said rf_said) (sq_of R.hs)) fun q H1 hq e1 h1 => ?_
    have R1 := R.up e1
    refine m_cons (x := .str (endW p s)) (ev_if (b := decide (s.at_ = p.length)) (et_B (ev_meth0 (ev_var rfl) R1.obj rf_no_is_over fun H2 e2 Q' q' => ⟨B, x, pa, ia, dx, pl, ct, sd, p, ins, s, rfl, R1.up e2, q'⟩)) (fun hb => by unfold endW; rw [if_pos (of_decide_eq_true hb)]; exact ev_c) (fun hb => by unfold endW; rw [if_neg (of_decide_eq_false hb)]; exact ev_c)) fun H2 e2 => ?_
    refine m_cons (ev_var rfl) fun H3 e3 => ?_
    refine ⟨by show 3 ≤ sizeLine; rw [sizeLine_eq]; decide, fun u hu => ?_⟩
    have e13 := e2.trans e3
    have en := Ex.new (o := .tup [.ref q, .str (endW p s), .int (t : Nat)]) hu
    exact k u _ (fresh_back (e1.trans e13) hu) ((e1.trans e13).trans en) ⟨q, upd_same, en _ _ (e13 _ _ h1)⟩
def spLast (K : PySem.W.Frag) : Sp := fun vs H Q _ => ∃ (pa ia : Addr) (p : List In) (ins : List Int) (c most : Nat), vs = [.int (c : Nat), .ref pa, .ref ia, .int (most : Nat)] ∧ PgT K H pa p ∧ Pok c p ∧ NoT p ∧ p.length ≤ 20 ∧ 1 ≤ c ∧ c ≤ 4 ∧ SqT K H ia (ins.map V.int) ∧ ins.length ≤ 50 ∧ (∀ x ∈ ins, -1000000 ≤ x ∧ x ≤ 1000000) ∧ most ≤ 20000 ∧
  ∀ u H', H u = none → Ex H H' → ToldAt H' u (loopL p ins most (Rs.new p c) 0).1.said (endW p (loopL p ins most (Rs.new p c) 0).1) (loopL p ins most (Rs.new p c) 0).2 → Q (.ref u) H'
theorem loopL_stop {p : List In} {ins : List Int} {m : Nat} {s : Rs} {t : Nat} (h : m = 0 ∨ s.at_ = p.length) : loopL p ins m s t = (s, t) := by
  cases m with
  | zero => rfl
  | succ m => exact if_pos (h.resolve_left (Nat.succ_ne_zero m))
theorem loopL_go {p : List In} {ins : List Int} {m : Nat} {s : Rs} {t : Nat} (h : ¬ s.at_ = p.length) : loopL p ins (m + 1) s t = loopL p ins m (s.step p ins) (t + 1) := if_neg h
theorem cellLt_of {c : Nat} {p : List In} (hok : Pok c p) {i : In} {k : Nat} (h : p[k]? = some i) : i.cellLt c := by
  have := hok.2 _ (List.mem_of_getElem? h)
  cases i <;> first | exact this | trivial
abbrev s_run_lasting : Stmt := top 49
theorem sc_run_lasting : FnScope ["cells", "program", "inputs", "most", "run", "ticks"] ["cells", "program", "inputs", "most"] (defScope s_run_lasting) := ⟨rfl, rfl, rfl, by decide +kernel, rfl, by decide +kernel, by decide +kernel⟩
--TY run_lasting {'run':('inst','Run'),'program':T,'inputs':T,'ticks':'int','most':'int'}
theorem ok_run_lasting {f f1 f2 f3 f4 f5 f6 f7 fI : Addr} {fd fd1 fd2 fd3 fd4 fd5 fd6 fd7 fdI : FuncData} (F : Fun K "run_lasting" "run_lasting" s_run_lasting f fd) (T : Txt K mg) (T_Run : RunT K C) (C_check_cells : Cal P w K mg base CX0 4 "check_cells" f1 fd1 ["value"] spChkCells) (C_check_program : Cal P w K mg base CX0 4 "check_program" f2 fd2 ["cells", "value"] (spChkPg K)) (C_check_inputs : Cal P w K mg base CX0 3 "check_inputs" f3 fd3 ["value"] (spChkInp K)) (C_check_number : Cal P w K mg base CX0 3 "check_number" f4 fd4 ["value", "low", "high"] spChkNum)
    (M_Run : MkRun P w K mg base C fI fdI) (M_Run_is_over : MCal P w K mg base C 2 "is_over" f5 fd5 ["self"] (spOver K C)) (M_Run_act : MCal P w K mg base C 3 "act" f6 fd6 ["self"] (spAct K C)) (C_told : Cal P w K mg base CX0 3 "told" f7 fd7 ["run", "ticks"] (spTold K C)) : FnOk P w K mg base CX0 5 f fd ["cells", "program", "inputs", "most"] (spLast K) := by
  refine F.ok sc_run_lasting (fun vs H Q E h => ?_) (fun cdv A outer s H vs Q E hr h => ?_)
  · obtain ⟨_, _, _, _, _, _, rfl, _⟩ := h
    rfl
  · obtain ⟨pa, ia, p, ins, c, most, rfl, hp, hok, hT, hl, hc1, hc4, hip, hil, hib, hmo, k⟩ := h
    refine ⟨_, (pss_cons (ps_expr (pe_call C_check_cells.G (hr.mono (by first | decide | omega)) rfl C_check_cells.g C_check_cells.kp C_check_cells.b .nil pass0 (pa_cons (pv 0) pa_nil)))
  (pss_cons (ps_expr (pe_call C_check_program.G (hr.mono (by first | decide | omega)) rfl C_check_program.g C_check_program.kp C_check_program.b .nil pass0 (pa_cons (pv 0) (pa_cons (pv 1) pa_nil))))
  (pss_cons (ps_expr (pe_call C_check_inputs.G (hr.mono (by first | decide | omega)) rfl C_check_inputs.g C_check_inputs.kp C_check_inputs.b .nil pass0 (pa_cons (pv 2) pa_nil)))
  (pss_cons (ps_expr (pe_call C_check_number.G (hr.mono (by first | decide | omega)) rfl C_check_number.g C_check_number.kp C_check_number.b .nil pass0 (pa_cons (pv 3) (pa_cons pe_int (pa_cons (pe_glob (v := .int 20000) rfl T.c_MOST_TICKS.choose_spec ⟨_, rfl⟩) pa_nil)))))
  (pss_cons (ps_set (i := 4) sc_run_lasting.nd rfl (Or.inl rfl) (pe_make M_Run.M M_Run.G (hr.mono (by first | decide | omega)) rfl M_Run.g M_Run.b .nil pass0 (pa_cons (pv 0) (pa_cons (pv 1) (pa_cons (pv 2) pa_nil)))))
  (pss_cons (ps_set (i := 5) sc_run_lasting.nd rfl (Or.inl rfl) pe_int)
  (pss_cons (ps_while PassesOwn.never (PW.pt (pw_and (pt_cmpR op_lt (pv 5) (pv 3) (nomark _)) (pw_and1 (pt_not (pt_val (pe_meth0 (pv 4) T_Run.cl M_Run_is_over.m M_Run_is_over.G (hr.mono (by first | decide | omega)) M_Run_is_over.b .nil pass0)))))) (pss_cons (ps_expr (pe_meth0 (pv 4) T_Run.cl M_Run_act.m M_Run_act.G (hr.mono (by first | decide | omega)) M_Run_act.b .nil pass0))
  (pss_one (ps_aug (i := 5) sc_run_lasting.nd rfl (Or.inl rfl) pe_int ip_add))))
  (pss_one (ps_ret (pe_call C_told.G (hr.mono (by first | decide | omega)) rfl C_told.g C_told.kp C_told.b .nil pass0 (pa_cons (pv 4) (pa_cons (pv 5) pa_nil)))))))))))), ?_⟩
    refine q_call (ea_cons (ev_var rfl) ea_nil) fun H1 e1 => ⟨c, rfl, hc1, hc4, fun H2 e2 => ?_⟩
    have e02 := e1.trans e2
    refine q_call (ea_cons (ev_var rfl) (ea_cons (ev_var rfl) ea_nil)) fun H3 e3 => ⟨c, pa, p, rfl, hp.up (e02.trans e3), hok, hT, hl, fun H4 e4 => ?_⟩
    have e04 := (e02.trans e3).trans e4
    refine q_call (ea_cons (ev_var rfl) ea_nil) fun H5 e5 => ⟨ia, ins, rfl, ex_t (e04.trans e5) hip, hil, hib, fun H6 e6 => ?_⟩
    have e06 := (e04.trans e5).trans e6
    refine q_call (ea_cons (ev_var rfl) (ea_cons ev_c (ea_cons ev_c ea_nil))) fun H7 e7 => ⟨(most : Int), 0, 20000, rfl, by omega, by omega, fun H8 e8 => ?_⟩
    have e08 := (e06.trans e7).trans e8
    refine q_makeA (ea_cons (ev_var rfl) (ea_cons (ev_var rfl) (ea_cons (ev_var rfl) ea_nil))) fun x dx H9 e9 hx hdx hne => ?_
    have e09 := e08.trans e9
    have eN : Ex H9 (upd (upd H9 dx (.own x)) x (.ins C dx [])) := Ex.mut (Ex.new hdx) hx
    refine ⟨H9, x, pa, ia, dx, p, ins, c, c, rfl, eN, hx, upd_same, hp.up e09, ex_t e09 hip, hok, by omega, by omega, fun H10 pl ct sd R => ⟨rfl, ?_⟩⟩
    refine q_asg ev_c fun H11 e11 => ?_
    refine q_while (fun μ σ' H' => ∃ (s : Rs) (t : Nat), RunF K C H9 H' x pa ia p ins s dx pl ct sd ∧ RsOk p c s ∧ t ≤ most ∧ s.said.length ≤ t ∧ loopL p ins (most - t) s t = loopL p ins most (Rs.new p c) 0 ∧ μ = most - t ∧ σ' = [some (.int (c : Nat)), some (.ref pa), some (.ref ia), some (.int (most : Nat)), some (.ref x), some (.int (t : Nat))]) _
      ⟨Rs.new p c, 0, R.up e11, RsOk.new hok, Nat.zero_le _, Nat.zero_le _, rfl, rfl, rfl⟩ ?_
    rintro μ σ' H' ⟨s, t, R', hs, ht, hsl, hlo, rfl, rfl⟩
    refine ⟨decide ((t : Int) < (most : Int)) && !decide (s.at_ = p.length), et_and (et_i0 (ev_var rfl) (ev_var rfl)) fun _ => et_not (et_B (ev_meth0 (ev_var rfl) R'.obj rf_no_is_over fun H2 e2 Q' q' => ⟨H9, x, pa, ia, dx, pl, ct, sd, p, ins, s, rfl, R'.up e2, q'⟩)), fun hb H12 e12 => ?_, fun hb H12 e12 => ?_⟩
    · rw [Bool.and_eq_true] at hb
      have htm : t < most := by have := of_decide_eq_true hb.1; omega
      have hna : ¬ s.at_ = p.length := by simpa using hb.2
      obtain ⟨i, hi, hie⟩ : Sta p s.at_ := hs.at_.resolve_left hna
      have hil2 : s.at_ < p.length := (List.getElem?_eq_some_iff.mp hi).1
      refine ⟨_, fun _ _ z => z, ?_⟩
      refine q_methD0 (ev_var rfl) (R'.up e12).obj rf_no_act fun H13 e13 => ⟨H9, x, pa, ia, dx, pl, ct, sd, p, ins, s, i, c, rfl, R'.up (e12.trans e13), hi, hie, hok, by rw [hs.held]; exact cellLt_of hok hi, by omega, fun H14 R14 => ?_⟩
      refine s_aug rfl ev_c fun H15 e15 => ?_
      refine ⟨most - (t + 1), by omega, s.step p ins, t + 1, R14.up e15, hs.step hok hil2, htm, ?_, ?_, rfl, ?_⟩
      · have := deed_said p ins s
        show (s.deed p ins).said.length ≤ t + 1
        omega
      · rw [← hlo, show most - t = (most - (t + 1)) + 1 by omega, loopL_go hna]
      · rfl
    · have hstop : loopL p ins (most - t) s t = (s, t) := loopL_stop (by
        by_cases h : s.at_ = p.length
        · exact .inr h
        · rw [decide_eq_false h, Bool.not_false, Bool.and_true] at hb
          have := of_decide_eq_false hb
          exact .inl (by omega))
      rw [hstop] at hlo
      refine s_callR (ea_cons (ev_var rfl) (ea_cons (ev_var rfl) ea_nil)) fun H13 e13 => ⟨H9, x, pa, ia, dx, pl, ct, sd, p, ins, s, t, rfl, R'.up (e12.trans e13), fun u H14 hu e14 ht => ?_⟩
      have exH : Ex H9 H13 := (R'.up (e12.trans e13)).ex
      refine k u H14 (fresh_back (e09.trans exH) hu) ((e09.trans exH).trans e14) ?_
      rw [← hlo]
      exact ht
end
end Fm
set_option Elab.async false
set_option linter.all false
set_option maxRecDepth 100000
set_option maxHeartbeats 1000000
namespace Fm
open PySem L2 Evl RZ
def loopF (p : List In) (ins : List Int) (fs rs : List Nat) : Nat → Rs → List Nat → Nat → Rs × Str × Nat
  | 0, s, _, t => (s, endW p s, t)
  | m + 1, s, ls, t => if s.at_ = p.length then (s, endW p s, t) else match p[s.at_]? with
    | some i => if i.rd = true ∧ ls.getD i.cell 0 = 0 then (s, ("lost" : Str), t) else loopF p ins fs rs m (s.step p ins) (bhL i.kd fs rs ls i.cell) (t + 1)
    | none => (s, endW p s, t)
def bare3 (H : Hp) (x ct sd : Addr) : Hp := rem (rem (rem H x) ct) sd
theorem bare3_ex {H : Hp} {x ct sd : Addr} : Ex (bare3 H x ct sd) H := (rem_ex.trans rem_ex).trans rem_ex
theorem bare3_of {H : Hp} {x ct sd b : Addr} {o : HO} (h : H b = some o) (h1 : b ≠ x) (h2 : b ≠ ct) (h3 : b ≠ sd) : bare3 H x ct sd b = some o := by
  unfold bare3
  rw [rem_ne h3, rem_ne h2, rem_ne h1]
  exact h
theorem bare3_none {H : Hp} {x ct sd : Addr} : bare3 H x ct sd x = none ∧ bare3 H x ct sd ct = none ∧ bare3 H x ct sd sd = none := by
  unfold bare3
  refine ⟨?_, ?_, rem_eq⟩
  · by_cases h : x = sd
    · rw [h]; exact rem_eq
    · rw [rem_ne h]
      by_cases h : x = ct
      · rw [h]; exact rem_eq
      · rw [rem_ne h]; exact rem_eq
  · by_cases h : ct = sd
    · rw [h]; exact rem_eq
    · rw [rem_ne h]; exact rem_eq
section
variable {K : PySem.W.Frag} {C : Addr} {B B' H H' : Hp} {x pa ia : Addr} {p : List In} {ins : List Int} {s s' : Rs} {dx pl ct sd : Addr}
theorem RunF.below (h : RunF K C B H x pa ia p ins s dx pl ct sd) : Ex B (bare3 H x ct sd) := fun b o hb => bare3_of (h.ex _ _ hb) (fun z => by rw [z, h.x0] at hb; cases hb) (fun z => by rw [z, h.c0] at hb; cases hb) (fun z => by rw [z, h.s0] at hb; cases hb)
theorem RunF.rebase (h : RunF K C B H x pa ia p ins s dx pl ct sd) : RunF K C (bare3 H x ct sd) H x pa ia p ins s dx pl ct sd :=
  { h with ex := bare3_ex, x0 := bare3_none.1, c0 := bare3_none.2.1, s0 := bare3_none.2.2, pg := h.pg.up h.below, ip := ex_t h.below h.ip }
theorem RunF.to (h : RunF K C B H x pa ia p ins s dx pl ct sd) (h' : RunF K C B' H' x pa ia p ins s' dx pl ct sd) (e : Ex B B') : RunF K C B H' x pa ia p ins s' dx pl ct sd :=
  { h' with ex := e.trans h'.ex, x0 := h.x0, c0 := h.c0, s0 := h.s0, pg := h.pg, ip := h.ip }
end
theorem bhL_len (kd : Kd) (fs rs ls : List Nat) (c : Nat) : (bhL kd fs rs ls c).length = ls.length := by rw [bhL_eq, List.length_map, List.length_range]
theorem loopF_stop {p : List In} {ins : List Int} {fs rs ls : List Nat} {m : Nat} {s : Rs} {t : Nat} (h : m = 0 ∨ s.at_ = p.length) : loopF p ins fs rs m s ls t = (s, endW p s, t) := by
  cases m with
  | zero => rfl
  | succ m => exact if_pos (h.resolve_left (Nat.succ_ne_zero m))
theorem loopF_lost {p : List In} {ins : List Int} {fs rs ls : List Nat} {m : Nat} {s : Rs} {t : Nat} {i : In} (h : ¬ s.at_ = p.length) (hi : p[s.at_]? = some i) (hl : i.rd = true ∧ ls.getD i.cell 0 = 0) : loopF p ins fs rs (m + 1) s ls t = (s, ("lost" : Str), t) := by
  unfold loopF
  rw [if_neg h, hi]
  exact if_pos hl
theorem loopF_go {p : List In} {ins : List Int} {fs rs ls : List Nat} {m : Nat} {s : Rs} {t : Nat} {i : In} (h : ¬ s.at_ = p.length) (hi : p[s.at_]? = some i) (hl : ¬ (i.rd = true ∧ ls.getD i.cell 0 = 0)) : loopF p ins fs rs (m + 1) s ls t = loopF p ins fs rs m (s.step p ins) (bhL i.kd fs rs ls i.cell) (t + 1) := by
  rw [loopF, if_neg h, hi]
  exact if_neg hl
def spFade (K : PySem.W.Frag) : Sp := fun vs H Q _ => ∃ (ma pa ia : Addr) (fs rs : List Nat) (p : List In) (ins : List Int) (most : Nat), vs = [.ref ma, .ref pa, .ref ia, .int (most : Nat)] ∧ MaT K H ma fs rs ∧ MaOk fs rs ∧ PgT K H pa p ∧ Pok fs.length p ∧ p.length ≤ 4000 ∧ SqT K H ia (ins.map V.int) ∧ ins.length ≤ 50 ∧ (∀ x ∈ ins, -1000000 ≤ x ∧ x ≤ 1000000) ∧ most ≤ 20000 ∧
  ∀ u H', H u = none → Ex H H' → ToldAt H' u (loopF p ins fs rs most (Rs.new p fs.length) fs 0).1.said (loopF p ins fs rs most (Rs.new p fs.length) fs 0).2.1 (loopF p ins fs rs most (Rs.new p fs.length) fs 0).2.2 → Q (.ref u) H'
section
variable {K : PySem.W.Frag} {σ : L2.St} {H : Hp} {ta : TE} {tr : TA} {a C dx : Addr} {fs : List (Str × V)} {m : Str} {sp : Sp} {E : XK}
theorem m_consMeth0 {Q : List V → Hp → Prop} (ha : Ev ta σ H (.ref a)) (h : H a = some (.ins C dx fs)) (hl : fs.lookup m = none) (k : ∀ H1, Ex H H1 → sp [.ref a] H1 (fun x H2 => tr σ H2 fun xs H3 => Q (x :: xs) H3) E) : tCons (tMeth C m sp [] E ta tNil) tr σ H Q :=
  ha H (Ex.refl H) _ fun H1 e1 => ⟨a, dx, fs, rfl, e1 _ _ h, hl, k H1 e1⟩
theorem m_asgCall {D : Ends} {tz : TS} {i : Nat} {tA : TA} (h : tA σ H fun vs H1 => sp (vs ++ []) H1 (fun v H2 => tz D (σ.set i (some v)) H2) E) : tSeq (tAsg (tCall sp [] E tA) (gName i)) tz D σ H := h
end
section
variable {P : Program} {w : World} {K : PySem.W.Frag} {mg : Str → Option Value} {base : Heap} {C : Addr}
abbrev s_run_fading : Stmt := top 50
theorem sc_run_fading : FnScope ["machine", "program", "inputs", "most", "cells", "run", "lives", "ticks"] ["machine", "program", "inputs", "most"] (defScope s_run_fading) := ⟨rfl, rfl, rfl, by decide +kernel, rfl, by decide +kernel, by decide +kernel⟩
--TY run_fading {'run':('inst','Run'),'program':T,'inputs':T,'ticks':'int','most':'int','machine':('tuple',T),'lives':T,'.said':L,'cells':'int'}
theorem ok_run_fading {f f1 f2 f3 f4 f5 f6 f7 f8 f9 fI : Addr} {fd fd1 fd2 fd3 fd4 fd5 fd6 fd7 fd8 fd9 fdI : FuncData} (F : Fun K "run_fading" "run_fading" s_run_fading f fd) (T : Txt K mg) (T_Run : RunT K C) (C_check_machine : Cal P w K mg base CX0 4 "check_machine" f1 fd1 ["value"] (spChkMa K)) (C_check_kept : Cal P w K mg base CX0 4 "check_kept" f2 fd2 ["cells", "value"] (spChkKe K)) (C_check_inputs : Cal P w K mg base CX0 3 "check_inputs" f3 fd3 ["value"] (spChkInp K)) (C_check_number : Cal P w K mg base CX0 3 "check_number" f4 fd4 ["value", "low", "high"] spChkNum)
    (M_Run : MkRun P w K mg base C fI fdI) (M_Run_is_over : MCal P w K mg base C 2 "is_over" f5 fd5 ["self"] (spOver K C)) (M_Run_act : MCal P w K mg base C 3 "act" f6 fd6 ["self"] (spAct K C)) (C_told : Cal P w K mg base CX0 3 "told" f7 fd7 ["run", "ticks"] (spTold K C)) (M_Run_instruction : MCal P w K mg base C 2 "instruction" f8 fd8 ["self"] (spInst K C)) (C_lives_behind : Cal P w K mg base CX0 4 "lives_behind" f9 fd9 ["machine", "lives", "instruction"] (spLivB K)) : FnOk P w K mg base CX0 5 f fd ["machine", "program", "inputs", "most"] (spFade K) := by
  refine F.ok sc_run_fading (fun vs H Q E h => ?_) (fun cdv A outer s H vs Q E hr h => ?_)
  · obtain ⟨_, _, _, _, _, _, _, _, rfl, _⟩ := h
    rfl
  · obtain ⟨ma, pa, ia, fs, rs, p, ins, most, rfl, hM, ok, hp, hok, hl, hip, hil, hib, hmo, k⟩ := h
    refine ⟨_, (pss_cons (ps_expr (pe_call C_check_machine.G (hr.mono (by first | decide | omega)) rfl C_check_machine.g C_check_machine.kp C_check_machine.b .nil pass0 (pa_cons (pv 0) pa_nil)))
  (pss_cons (ps_set (i := 4) sc_run_fading.nd rfl (Or.inl rfl) (pe_callB (len_K (K := K) rfl) (by rfl) T.z_len (by decide +kernel) (pa_cons (pe_ix (ix_K (K := K) rfl) (pv 0) pe_int (fun _ _ => rfl)) pa_nil)))
  (pss_cons (ps_expr (pe_call C_check_kept.G (hr.mono (by first | decide | omega)) rfl C_check_kept.g C_check_kept.kp C_check_kept.b .nil pass0 (pa_cons (pv 4) (pa_cons (pv 1) pa_nil))))
  (pss_cons (ps_expr (pe_call C_check_inputs.G (hr.mono (by first | decide | omega)) rfl C_check_inputs.g C_check_inputs.kp C_check_inputs.b .nil pass0 (pa_cons (pv 2) pa_nil)))
  (pss_cons (ps_expr (pe_call C_check_number.G (hr.mono (by first | decide | omega)) rfl C_check_number.g C_check_number.kp C_check_number.b .nil pass0 (pa_cons (pv 3) (pa_cons pe_int (pa_cons (pe_glob (v := .int 20000) rfl T.c_MOST_TICKS.choose_spec ⟨_, rfl⟩) pa_nil)))))
  (pss_cons (ps_set (i := 5) sc_run_fading.nd rfl (Or.inl rfl) (pe_make M_Run.M M_Run.G (hr.mono (by first | decide | omega)) rfl M_Run.g M_Run.b .nil pass0 (pa_cons (pv 4) (pa_cons (pv 1) (pa_cons (pv 2) pa_nil)))))
  (pss_cons (ps_set (i := 6) sc_run_fading.nd rfl (Or.inl rfl) (pe_ix (ix_K (K := K) rfl) (pv 0) pe_int (fun _ _ => rfl)))
  (pss_cons (ps_set (i := 7) sc_run_fading.nd rfl (Or.inl rfl) pe_int)
  (pss_cons (ps_while PassesOwn.never (PW.pt (pw_and (pt_cmpR op_lt (pv 7) (pv 3) (nomark _)) (pw_and1 (pt_not (pt_val (pe_meth0 (pv 5) T_Run.cl M_Run_is_over.m M_Run_is_over.G (hr.mono (by first | decide | omega)) M_Run_is_over.b .nil pass0)))))) (pss_cons (ps_set (i := 6) sc_run_fading.nd rfl (Or.inl rfl) (pe_call C_lives_behind.G (hr.mono (by first | decide | omega)) rfl C_lives_behind.g C_lives_behind.kp C_lives_behind.b .nil pass0 (pa_cons (pv 0) (pa_cons (pv 6) (pa_cons (pe_meth0 (pv 5) T_Run.cl M_Run_instruction.m M_Run_instruction.G (hr.mono (by first | decide | omega)) M_Run_instruction.b .nil pass0) pa_nil)))))
  (pss_cons (ps_if (pt_cmpR op_isN (pv 6) pe_non (nomark _)) (pss_one (ps_ret (pe_tup (pa_cons (pe_callTy (tpl_K (K := K) rfl) (by rfl) T.z_tuple (by decide +kernel) (pa_cons (pe_fld (pv 5) rfl) pa_nil)) (pa_cons pe_str (pa_cons (pv 7) pa_nil)))))) pss_nil)
  (pss_cons (ps_expr (pe_meth0 (pv 5) T_Run.cl M_Run_act.m M_Run_act.G (hr.mono (by first | decide | omega)) M_Run_act.b .nil pass0))
  (pss_one (ps_aug (i := 7) sc_run_fading.nd rfl (Or.inl rfl) pe_int ip_add))))))
  (pss_one (ps_ret (pe_call C_told.G (hr.mono (by first | decide | omega)) rfl C_told.g C_told.kp C_told.b .nil pass0 (pa_cons (pv 5) (pa_cons (pv 7) pa_nil)))))))))))))), ?_⟩
    have hl4 := ok.l4
    have hll := ok.ll
    refine q_call (ea_cons (ev_var rfl) ea_nil) fun H1 e1 => ⟨ma, fs, rs, rfl, hM.up e1, ok, fun H2 e2 => ?_⟩
    have e02 := e1.trans e2
    obtain ⟨fa, ra, hm2, hf2, hr2⟩ := hM.up e02
    refine q_asg (v := .int (fs.length : Nat)) (by rw [← nV_len fs]; exact ev_lnT (ev_ixT (ev_var rfl) ev_c hm2 rfl) hf2) fun H2' e2' => ?_
    have e02' := e02.trans e2'
    refine q_call (ea_cons (ev_var rfl) (ea_cons (ev_var rfl) ea_nil)) fun H3 e3 => ⟨fs.length, pa, p, rfl, hp.up (e02'.trans e3), hok, hl, fun H4 e4 => ?_⟩
    have e04 := (e02'.trans e3).trans e4
    refine q_call (ea_cons (ev_var rfl) ea_nil) fun H5 e5 => ⟨ia, ins, rfl, ex_t (e04.trans e5) hip, hil, hib, fun H6 e6 => ?_⟩
    have e06 := (e04.trans e5).trans e6
    refine q_call (ea_cons (ev_var rfl) (ea_cons ev_c (ea_cons ev_c ea_nil))) fun H7 e7 => ⟨(most : Int), 0, 20000, rfl, by omega, by omega, fun H8 e8 => ?_⟩
    have e08 := (e06.trans e7).trans e8
    refine q_makeA (ea_cons (ev_var rfl) (ea_cons (ev_var rfl) (ea_cons (ev_var rfl) ea_nil))) fun x dx H9 e9 hx hdx hne => ?_
    have e09 := e08.trans e9
    have eN : Ex H9 (upd (upd H9 dx (.own x)) x (.ins C dx [])) := Ex.mut (Ex.new hdx) hx
    refine ⟨H9, x, pa, ia, dx, p, ins, fs.length, fs.length, rfl, eN, hx, upd_same, hp.up e09, ex_t e09 hip, hok, by omega, by omega, fun H10 pl ct sd R => ⟨rfl, ?_⟩⟩
    have hM9 := hM.up e09
    obtain ⟨fa', ra', hm9, hf9, hr9⟩ := id hM9
    refine q_asg (ev_ixT (ev_var rfl) ev_c (ex_t R.ex hm9) rfl) fun H11 e11 => ?_
    refine q_asg ev_c fun H12 e12 => ?_
    refine q_while (fun μ σ' H' => ∃ (s : Rs) (ls : List Nat) (lv : Addr) (t : Nat), RunF K C H9 H' x pa ia p ins s dx pl ct sd ∧ SqT K H' lv (nV ls) ∧ ls.length = rs.length ∧ RsOk p fs.length s ∧ t ≤ most ∧ s.said.length ≤ t ∧ loopF p ins fs rs (most - t) s ls t = loopF p ins fs rs most (Rs.new p fs.length) fs 0 ∧ μ = most - t ∧
        σ' = [some (.ref ma), some (.ref pa), some (.ref ia), some (.int (most : Nat)), some (.int (fs.length : Nat)), some (.ref x), some (.ref lv), some (.int (t : Nat))]) _
      ⟨Rs.new p fs.length, fs, fa', 0, (R.up e11).up e12, ex_t ((R.up e11).up e12).ex hf9, hll, RsOk.new hok, Nat.zero_le _, Nat.zero_le _, rfl, rfl, rfl⟩ ?_
    rintro μ σ' H' ⟨s, ls, lv, t, R', hlv, hlsl, hs, ht, hsl, hlo, rfl, rfl⟩
    refine ⟨decide ((t : Int) < (most : Int)) && !decide (s.at_ = p.length), et_and (et_i0 (ev_var rfl) (ev_var rfl)) fun _ => et_not (et_B (ev_meth0 (ev_var rfl) R'.obj rf_no_is_over fun H2 e2 Q' q' => ⟨H9, x, pa, ia, dx, pl, ct, sd, p, ins, s, rfl, R'.up e2, q'⟩)), fun hb H13 e13 => ?_, fun hb H13 e13 => ?_⟩
    · rw [Bool.and_eq_true] at hb
      have htm : t < most := by have := of_decide_eq_true hb.1; omega
      have hna : ¬ s.at_ = p.length := by simpa using hb.2
      obtain ⟨i, hi, hie⟩ : Sta p s.at_ := hs.at_.resolve_left hna
      have hil2 : s.at_ < p.length := (List.getElem?_eq_some_iff.mp hi).1
      have hcl : i.cellLt rs.length := by rw [← hll]; exact cellLt_of hok hi
      refine ⟨_, fun _ _ z => z, ?_⟩
      refine m_asgCall ?_
      refine m_cons (ev_var rfl) fun H14 e14 => ?_
      refine m_cons (ev_var rfl) fun H15 e15 => ?_
      have e1315 := (e13.trans e14).trans e15
      refine m_consMeth0 (ev_var rfl) (R'.up e1315).obj rf_no_instruction fun H16 e16 => ⟨H9, x, pa, ia, dx, pl, ct, sd, p, ins, s, i, rfl, R'.up (e1315.trans e16), hi, fun u H17 e17 hu => ?_⟩
      have e1317 := (e1315.trans e16).trans e17
      have R17 := R'.up e1317
      refine ⟨ma, lv, u, fs, rs, ls, i, rfl, hM9.up R17.ex, ex_t e1317 hlv, hu, hll, hlsl, by omega, hcl, fun hlost H18 e18 => ?_, fun hgo bl H18 hbl e18 h18 => ?_⟩
      · have R18 := R17.up e18
        refine q_when (b := true) (et_is (et_isN (ev_var rfl)) rfl) (fun _ H19 e19 => ?_) fun z => nomatch z
        have R19 := R18.up e19
        refine m_retTup ?_
        refine m_consU (eu_tpl (ev_fld (ev_var rfl) R19.obj T_Run.cl T_Run.n_said rf_said) (sq_of R19.hs)) fun q H20 hq e20 h20 => ?_
        refine m_cons ev_c fun H21 e21 => ?_
        refine m_cons (ev_var rfl) fun H22 e22 => ?_
        refine ⟨by show 3 ≤ sizeLine; rw [sizeLine_eq]; decide, fun v hv => ?_⟩
        have e2022 := e21.trans e22
        have en := Ex.new (o := .tup [.ref q, .str "lost", .int (t : Nat)]) hv
        have ex22 : Ex H9 H22 := (R19.up (e20.trans e2022)).ex
        rw [show most - t = (most - (t + 1)) + 1 by omega, loopF_lost hna hi hlost] at hlo
        refine k v _ (fresh_back (e09.trans ex22) hv) ((e09.trans ex22).trans en) ?_
        rw [← hlo]
        exact ⟨q, upd_same, en _ _ (e2022 _ _ h20)⟩
      · have R18 := R17.up e18
        refine q_when (b := false) (et_is (et_isN (ev_var rfl)) rfl) (fun z => nomatch z) fun _ H19 e19 => ?_
        have R19 := R18.up e19
        refine q_methD0 (ev_var rfl) R19.obj rf_no_act fun H20 e20 => ⟨bare3 H20 x ct sd, x, pa, ia, dx, pl, ct, sd, p, ins, s, i, fs.length, rfl, (R19.up e20).rebase, hi, hie, hok, by rw [hs.held, hll]; exact hcl, by omega, fun H21 R21 => ?_⟩
        have R20 := R19.up e20
        have h20 : H20 bl = some (.tup (nV (bhL i.kd fs rs ls i.cell))) := (e19.trans e20) _ _ h18
        have h21 : H21 bl = some (.tup (nV (bhL i.kd fs rs ls i.cell))) := R21.ex _ _ (bare3_of h20 (fun z => by rw [z, R20.obj] at h20; cases h20) (fun z => by rw [z, R20.hc] at h20; cases h20) (fun z => by rw [z, R20.hs] at h20; cases h20))
        have R21' := R20.to R21 R20.below
        refine s_aug rfl ev_c fun H22 e22 => ?_
        refine ⟨most - (t + 1), by omega, s.step p ins, bhL i.kd fs rs ls i.cell, bl, t + 1, R21'.up e22, st_of (e22 _ _ h21), by rw [bhL_len]; exact hlsl, hs.step hok hil2, htm, ?_, ?_, rfl, ?_⟩
        · have := deed_said p ins s
          show (s.deed p ins).said.length ≤ t + 1
          omega
        · rw [← hlo, show most - t = (most - (t + 1)) + 1 by omega, loopF_go hna hi hgo]
        · rfl
    · have hstop : loopF p ins fs rs (most - t) s ls t = (s, endW p s, t) := loopF_stop (by
        by_cases h : s.at_ = p.length
        · exact .inr h
        · rw [decide_eq_false h, Bool.not_false, Bool.and_true] at hb
          have := of_decide_eq_false hb
          exact .inl (by omega))
      rw [hstop] at hlo
      refine s_callR (ea_cons (ev_var rfl) (ea_cons (ev_var rfl) ea_nil)) fun H14 e14 => ⟨H9, x, pa, ia, dx, pl, ct, sd, p, ins, s, t, rfl, R'.up (e13.trans e14), fun u H15 hu e15 ht => ?_⟩
      have exH : Ex H9 H14 := (R'.up (e13.trans e14)).ex
      refine k u H15 (fresh_back (e09.trans exH) hu) ((e09.trans exH).trans e15) ?_
      rw [← hlo]
      exact ht
end
end Fm
set_option Elab.async false
set_option linter.all false
set_option maxRecDepth 100000
set_option maxHeartbeats 1000000
namespace Fm
open PySem L2 Evl
def spStands (K : PySem.W.Frag) : Sp := fun vs H Q _ => ∃ (a : Addr) (p : List In) (cells i : Nat), vs = [.ref a, .int (i : Int)] ∧ PgT K H a p ∧ Pok cells p ∧ i ≤ p.length ∧ p.length ≤ 1000 ∧ ∀ H', Ex H H' → Q (.int (toI p (stE p i))) H'
section
variable {P : Program} {w : World} {K : PySem.W.Frag} {mg : Str → Option Value} {base : Heap}
abbrev s_law_stands : Stmt := top 57
theorem sc_law_stands : FnScope ["program", "index", "turn"] ["program", "index"] (defScope s_law_stands) := ⟨rfl, rfl, rfl, by decide +kernel, rfl, by decide +kernel, by decide +kernel⟩
--TY _law_stands {'program':('tuple','any')}
theorem ok_stands {f : Addr} {fd : FuncData} (F : Fun K "_law_stands" "_law_stands" s_law_stands f fd) (T : Txt K mg) : FnOk P w K mg base CX0 1 f fd ["program", "index"] (spStands K) := by
  refine F.ok sc_law_stands (fun vs H Q E h => ?_) (fun cdv A outer s H vs Q E hr h => ?_)
  · obtain ⟨_, _, _, _, rfl, _⟩ := h
    rfl
  · obtain ⟨a, p, cells, i, rfl, hp, hok, hi, hl, k⟩ := h
    refine ⟨_, (pss_cons (ps_for PassesOwn.never rfl (pi_range1 rfl T.z_range (pa_cons (pe_op op_add (pe_callB (len_K (K := K) rfl) (by rfl) T.z_len (by decide +kernel) (pa_cons (pv 0) pa_nil)) pe_int) pa_nil)) (pg_name (i := 2) sc_law_stands.nd rfl (by first | exact Or.inl rfl | exact Or.inr rfl)) (pss_one (ps_if (PW.pt (pw_and (pt_cmpR op_lt (pv 1) (pe_callB (len_K (K := K) rfl) (by rfl) T.z_len (by decide +kernel) (pa_cons (pv 0) pa_nil)) (nomark _)) (pw_and1 (pt_cmpR op_eq (pe_ix (ix_K (K := K) rfl) (pe_ix (ix_K (K := K) rfl) (pv 0) (pv 1) (fun _ _ => rfl)) pe_int (fun _ _ => rfl)) pe_str (nomark _))))) (pss_one (ps_set (i := 1) sc_law_stands.nd rfl (Or.inl rfl) (pe_ix (ix_K (K := K) rfl) (pe_ix (ix_K (K := K) rfl) (pv 0) (pv 1) (fun _ _ => rfl)) pe_int (fun _ _ => rfl)))) pss_nil)))
  (pss_cons (ps_if (PW.pt (pw_or (pt_cmpR op_eq (pv 1) (pe_callB (len_K (K := K) rfl) (by rfl) T.z_len (by decide +kernel) (pa_cons (pv 0) pa_nil)) (nomark _)) (pw_or1 (pt_cmpR (in_K (K := K) rfl) (pe_ix (ix_K (K := K) rfl) (pe_ix (ix_K (K := K) rfl) (pv 0) (pv 1) (fun _ _ => rfl)) pe_int (fun _ _ => rfl)) (pe_lst (pa_cons pe_str (pa_cons pe_str pa_nil))) (by rfl))))) (pss_one (ps_ret (pe_op op_sub pe_int pe_int))) pss_nil)
  (pss_one (ps_ret (pv 1))))), ?_⟩
    have hn : (p.length : Int) + 1 ≤ 100000 := by omega
    refine q_forR1 (n := (p.length : Int) + 1) (ea_cons (ev_i0 (ev_lnP hp (ev_var rfl)) ev_c) ea_nil) ⟨by omega, hn⟩
      (fun m σ H' => Ex H H' ∧ ∃ z, σ = [some (.ref a), some (.int (gn p i m : Nat)), z]) (fun H1 e => ⟨e, _, rfl⟩) ?_ ?_
    · rintro m σ H1 hm ⟨e, z, rfl⟩
      have hp1 := hp.up e
      by_cases hc : gn p i m < p.length
      · obtain ⟨x, hx⟩ : ∃ x, p[gn p i m]? = some x := ⟨_, List.getElem?_eq_getElem hc⟩
        refine s_when (et_and (et_i0 (ev_var rfl) (ev_lnP hp1 (ev_var rfl))) fun _ => et_eq (ev_pg0 hp1 hx (ev_var rfl) (ev_var rfl)) ev_c rfl) (fun hb H2 e2 => ?_) (fun hb H2 e2 => ?_)
        · rw [w_go, Bool.and_eq_true] at hb
          cases x <;> simp [In.isGo] at hb
          rename_i t
          refine s_asg (ev_pg1 (hp1.up e2) hx rfl (ev_var rfl) (ev_var rfl)) fun H3 e3 => ⟨(e.trans e2).trans e3, some (.int m), ?_⟩
          show [some (V.ref a), some (V.int (t : Nat)), _] = _
          show _ = [some (V.ref a), some (V.int (gstep p (gn p i m) : Nat)), _]
          unfold gstep
          rw [hx]
        · refine ⟨e.trans e2, some (.int m), ?_⟩
          show _ = [some (V.ref a), some (V.int (gstep p (gn p i m) : Nat)), _]
          have : gstep p (gn p i m) = gn p i m := by
            unfold gstep
            rw [hx]
            rw [w_go] at hb
            have hc' : ((gn p i m : Nat) : Int) < p.length := by omega
            cases x <;> simp [hc', In.isGo] at hb ⊢
          rw [this]
          rfl
      · refine s_when (et_and (b := true) (et_i0 (ev_var rfl) (ev_lnP hp1 (ev_var rfl))) fun hb => ?_) (fun hb H2 e2 => ?_) (fun hb H2 e2 => ?_)
        · have := of_decide_eq_true hb
          omega
        · rw [Bool.and_eq_true] at hb
          have := of_decide_eq_true hb.1
          omega
        · refine ⟨e.trans e2, some (.int m), ?_⟩
          show _ = [some (V.ref a), some (V.int (gstep p (gn p i m) : Nat)), _]
          have : gstep p (gn p i m) = gn p i m := by
            unfold gstep
            rw [List.getElem?_eq_none (by omega)]
          rw [this]
          rfl
    · rintro σ H1 ⟨e, z, rfl⟩
      have hp1 := hp.up e
      have e0 : ((p.length : Int) + 1).toNat = p.length + 1 := by omega
      rw [e0]
      have hj := gn_le hok hi (p.length + 1)
      have fin : ∀ b : Bool, ends p (gn p i (p.length + 1)) = b → toI p (stE p i) = if b then -1 else (gn p i (p.length + 1) : Int) := fun b hb => by
        unfold toI stE
        rw [hb]
        cases b with
        | true => simp
        | false =>
          have : gn p i (p.length + 1) ≠ p.length := fun z => by
            rw [z] at hb
            unfold ends at hb
            simp at hb
          simp [this]
      by_cases hc : gn p i (p.length + 1) = p.length
      · have he : ends p (gn p i (p.length + 1)) = true := by
          unfold ends
          rw [hc]
          simp
        refine q_when (b := true) (et_is (et_or (b := true) (et_eq (ev_var rfl) (ev_lnP hp1 (ev_var rfl)) rfl) fun hb => ?_) (by rw [Bool.or_true])) (fun _ H2 e2 => ?_) (fun hb => nomatch hb)
        · have := of_decide_eq_false hb
          rw [hc] at this
          exact absurd rfl this
        · refine s_ret (ev_i0 ev_c ev_c) fun H3 e3 => ?_
          have := k H3 ((e.trans e2).trans e3)
          rw [fin true he] at this
          exact this
      · obtain ⟨x, hx⟩ : ∃ x, p[gn p i (p.length + 1)]? = some x := ⟨_, List.getElem?_eq_getElem (by omega)⟩
        have he : ends p (gn p i (p.length + 1)) = x.isEnd := by
          unfold ends
          rw [hx]
        have hne : decide (V.int (gn p i (p.length + 1) : Nat) = V.int (p.length : Nat)) = false := decide_eq_false fun z => hc (by have := V.int.inj z; omega)
        refine q_when (et_is (et_or (et_is (et_eq (ev_var rfl) (ev_lnP hp1 (ev_var rfl)) rfl) hne) fun _ => et_inL (ev_pg0 hp1 hx (ev_var rfl) (ev_var rfl)) (el_lst (ea_cons ev_c (ea_cons ev_c ea_nil)) (by decide)) rfl rfl) (by rw [w_sg, Bool.false_or])) (fun hb H2 e2 => ?_) (fun hb H2 e2 => ?_)
        · refine s_ret (ev_i0 ev_c ev_c) fun H3 e3 => ?_
          have := k H3 ((e.trans e2).trans e3)
          rw [fin true (he.trans hb)] at this
          exact this
        · refine s_ret (ev_var rfl) fun H3 e3 => ?_
          have := k H3 ((e.trans e2).trans e3)
          rw [fin false (he.trans hb)] at this
          exact this
end
end Fm
set_option Elab.async false
set_option linter.all false
set_option maxRecDepth 100000
set_option maxHeartbeats 1000000
namespace Fm
open PySem L2 Evl
def iD (zs : List Int) : List PyData := zs.map PyData.int
theorem iD_lay : ∀ zs : List Int, PyData.canLayAll0 (iD zs) = true
  | [] => by simp [iD, PyData.canLayAll0]
  | z :: zs => by simpa [iD, PyData.canLayAll0, PyData.canLay0] using iD_lay zs
theorem iD_depth : ∀ zs : List Int, PyData.depthAll (iD zs) = 0
  | [] => by simp [iD, PyData.depthAll]
  | z :: zs => by simpa [iD, PyData.depthAll, PyData.depth] using iD_depth zs
theorem iD_shaped (zs : List Int) : SeqAt.shaped (.list (iD zs)) = true := by
  show (PyData.canLay0 (.list (iD zs)) && decide (PyData.depth (.list (iD zs)) ≤ 64)) = true
  rw [Bool.and_eq_true]
  exact ⟨by simp only [PyData.canLay0]; exact iD_lay zs, decide_eq_true (by simp only [PyData.depth, iD_depth]; omega)⟩
/-- data as _law_alike walks it: depth at most n -/
inductive AD : Nat → PyData → Prop where
  | non {n : Nat} : AD n .none
  | int {n : Nat} (i : Int) : AD n (.int i)
  | str {n : Nat} (s : Str) (h : PyData.strOk s = true) : AD n (.str s)
  | lst {n : Nat} {ds : List PyData} (hl : ds.length ≤ 40000) (h : ∀ d ∈ ds, AD n d) : AD (n + 1) (.list ds)
  | tup {n : Nat} {ds : List PyData} (hl : ds.length ≤ 40000) (h : ∀ d ∈ ds, AD n d) : AD (n + 1) (.tuple ds)
section
variable {K : PySem.W.Frag} {σ : L2.St} {H H' : Hp} {ta tb te : TE} {tr tA : TA} {D : Ends} {tz : TS} {Q : VK} {x : V} {r : R2} {P : Program} {w : World} {mg : Str → Option Value} {base : Heap}
mutual
theorem dp_up (e : Ex H H') : ∀ (d : PyData) (x : V), Dp K H x d → Dp K H' x d
  | .none, _, h => by cases h; exact .non
  | .bool b, _, h => by cases h; exact .bl b
  | .int i, _, h => by cases h; exact .int i
  | .str s, _, h => by cases h; exact .str s
  | .list ds, _, h => by cases h with | lst h1 h2 => exact .lst (ex_l e h1) (dpAll_up e ds _ h2)
  | .tuple ds, _, h => by cases h with | tup h1 h2 => exact .tup (ex_t e h1) (dpAll_up e ds _ h2)
  | .dict _, _, h => by cases h
theorem dpAll_up (e : Ex H H') : ∀ (ds : List PyData) (xs : List V), DpAll K H xs ds → DpAll K H' xs ds
  | [], _, h => by cases h; exact .nil
  | d :: ds, _, h => by cases h with | cons h1 h2 => exact .cons (dp_up e d _ h1) (dpAll_up e ds _ h2)
end
theorem dp_ints : ∀ zs : List Int, DpAll K H (zs.map V.int) (iD zs)
  | [] => .nil
  | z :: zs => .cons (.int z) (dp_ints zs)
theorem dpAll_len : ∀ {xs : List V} {ds : List PyData}, DpAll K H xs ds → xs.length = ds.length
  | _, _, .nil => rfl
  | _, _, .cons _ h => congrArg (· + 1) (dpAll_len h)
theorem dpAll_get : ∀ {xs : List V} {ds : List PyData} {i : Nat} {d : PyData}, DpAll K H xs ds → ds[i]? = some d → ∃ x, xs[i]? = some x ∧ Dp K H x d
  | _, _, 0, d, .cons h _, e => by cases e; exact ⟨_, rfl, h⟩
  | _, _, i + 1, d, .cons _ h, e => dpAll_get (i := i) h e
theorem eqv_nil (zs : List Int) : PyData.eqv (.list (iD zs)) (.list (iD [])) = zs.isEmpty := by
  cases zs with
  | nil => simp [iD, PyData.eqv, PyData.eqvAll]
  | cons z zs => simp [iD, PyData.eqv, PyData.eqvAll]
theorem ev_eqNil {zs : List Int} (ha : EvL ta σ H (zs.map V.int)) : Ev (tOp (rEqD K) ta (tLst tNil)) σ H (.bl zs.isEmpty) := fun H1 e Q q => ha H1 e _ fun p H2 hp e2 h2 => ⟨Nat.zero_le _, fun l hl => by
  refine ⟨_, _, .lst (sq_of (Ex.new hl _ _ h2)) (dp_ints zs), .lst (sq_of upd_same) (dp_ints []), iD_shaped _, iD_shaped _, ?_⟩
  rw [eqv_nil]
  exact q _ (e2.trans (Ex.new hl))⟩
theorem ev_neNil {zs : List Int} (ha : EvL ta σ H (zs.map V.int)) : Ev (tOp (rNeD K) ta (tLst tNil)) σ H (.bl (!zs.isEmpty)) := fun H1 e Q q => ha H1 e _ fun p H2 hp e2 h2 => ⟨Nat.zero_le _, fun l hl => by
  refine ⟨_, _, .lst (sq_of (Ex.new hl _ _ h2)) (dp_ints zs), .lst (sq_of upd_same) (dp_ints []), iD_shaped _, iD_shaped _, ?_⟩
  rw [eqv_nil]
  exact q _ (e2.trans (Ex.new hl))⟩
theorem ev_neNilV {a : Addr} {zs : List Int} (ha : Ev ta σ H (.ref a)) (hq : SqL K H a (zs.map V.int)) : Ev (tOp (rNeD K) ta (tLst tNil)) σ H (.bl (!zs.isEmpty)) := fun H1 e Q q => ha H1 e _ fun H2 e2 => ⟨Nat.zero_le _, fun l hl => by
  refine ⟨_, _, .lst (ex_l ((e.trans e2).trans (Ex.new hl)) hq) (dp_ints zs), .lst (sq_of upd_same) (dp_ints []), iD_shaped _, iD_shaped _, ?_⟩
  rw [eqv_nil]
  exact q _ (e2.trans (Ex.new hl))⟩
theorem ev_isi2 {x : V} {t n1 n2 : String} {b1 b2 : Bool} (ha : Ev ta σ H x) (ty : TyX K H x (.type t)) (h1 : kitB t n1 = some b1) (h2 : kitB t n2 = some b2) : Ev (tCB (rIsiT K) (tCons ta (tCons (tTup (tCons (tC (.ty n1)) (tCons (tC (.ty n2)) tNil))) tNil))) σ H (.bl (b1 || b2)) := fun H1 e1 _ q =>
  ha H1 e1 _ fun H2 e2 => ⟨by show 2 ≤ sizeLine; rw [sizeLine_eq]; decide, fun p hp => ⟨x, p, _, .type t, [.type n1, .type n2], b1 || b2, rfl, upd_same, .cons (.ty _) (.cons (.ty _) .nil), tyx_up ((e1.trans e2).trans (Ex.new hp)) ty, kitAny_cons (kit_ty h1) (fun hb => by
    rw [hb]
    refine kitAny_cons (kit_ty h2) (fun hb2 => by rw [hb2]; exact kitAny_nil) (fun hb2 => by rw [hb2]; rfl)) (fun hb => by rw [hb]; rfl), q _ (e2.trans (Ex.new hp))⟩⟩
theorem ev_eqDD {x y : V} {d : PyData} (ha : Ev ta σ H x) (hb : Ev tb σ H y) (h1 : Dp K H x d) (h2 : Dp K H y d) (hs : SeqAt.shaped d = true) : Ev (tOp (rEqD K) ta tb) σ H (.bl true) := ev_op ha hb fun H1 e _ q => ⟨_, _, dp_up e _ _ h1, dp_up e _ _ h2, hs, hs, by
  rw [PySem.SeqAt.eqv_refl d (SeqAt.canLay_of_shaped hs)]
  exact q H1 (Ex.refl H1)⟩
def spNone : Sp := fun _ _ _ _ => False
theorem ok_none {k : Nat} {f : Addr} {fd : FuncData} {ps : List Str} : FnOk P w K mg base CX0 k f fd ps spNone := ⟨fun _ _ _ _ h => h.elim, fun _ _ _ _ _ _ _ _ _ _ _ _ _ h => h.elim⟩
/-- one and the same data, twice -/
def spAlikeD (K : PySem.W.Frag) (n : Nat) : Sp := fun vs H Q _ => ∃ (x y : V) (d : PyData), vs = [x, y] ∧ Dp K H x d ∧ Dp K H y d ∧ AD n d ∧ ∀ H', Ex H H' → Q (.bl true) H'
def spPrev (K : PySem.W.Frag) : Nat → Sp
  | 0 => spNone
  | n + 1 => spAlikeD K n
theorem ad_cases {n : Nat} {x y : V} {d : PyData} (had : AD n d) (hx : Dp K H x d) (hy : Dp K H y d) : (x = .non ∧ y = .non) ∨ (∃ i, x = .int i ∧ y = .int i) ∨ (∃ s, PyData.strOk s = true ∧ x = .str s ∧ y = .str s) ∨
    ∃ (a b : Addr) (xs ys : List V) (ds : List PyData) (t : String) (c : Bool), x = .ref a ∧ y = .ref b ∧ TyX K H x (.type t) ∧ TyX K H y (.type t) ∧ (∀ H', Ex H H' → (SqL K H' a xs ∧ SqL K H' b ys) ∨ (SqT K H' a xs ∧ SqT K H' b ys)) ∧ kitB t "tuple" = some (!c) ∧ kitB t "list" = some c ∧ DpAll K H xs ds ∧ DpAll K H ys ds ∧ ds.length ≤ 40000 ∧
      ∀ (i : Nat) (dd : PyData) (u v : V) (H' : Hp) (Q' : VK), Ex H H' → ds[i]? = some dd → Dp K H u dd → Dp K H v dd → (∀ H2, Ex H' H2 → Q' (.bl true) H2) → spPrev K n [u, v] H' Q' E0 := by
  cases had with
  | non => cases hx; cases hy; exact .inl ⟨rfl, rfl⟩
  | int i => cases hx; cases hy; exact .inr (.inl ⟨i, rfl, rfl⟩)
  | str s hs => cases hx; cases hy; exact .inr (.inr (.inl ⟨s, hs, rfl, rfl⟩))
  | @lst m ds hl hall =>
    cases hx with
    | @lst a xs _ h1 h2 =>
      cases hy with
      | @lst b ys _ h3 h4 =>
        exact .inr (.inr (.inr ⟨a, b, xs, ys, ds, "list", true, rfl, rfl, ty_lst h1, ty_lst h3, fun H' e => .inl ⟨ex_l e h1, ex_l e h3⟩, by decide +kernel, by decide +kernel, h2, h4, hl, fun i dd u v H' Q' e hi hu hv q => ⟨u, v, dd, rfl, dp_up e _ _ hu, dp_up e _ _ hv, hall dd (List.mem_of_getElem? hi), q⟩⟩))
  | @tup m ds hl hall =>
    cases hx with
    | @tup a xs _ h1 h2 =>
      cases hy with
      | @tup b ys _ h3 h4 =>
        exact .inr (.inr (.inr ⟨a, b, xs, ys, ds, "tuple", false, rfl, rfl, ty_tup h1, ty_tup h3, fun H' e => .inr ⟨ex_t e h1, ex_t e h3⟩, by decide +kernel, by decide +kernel, h2, h4, hl, fun i dd u v H' Q' e hi hu hv q => ⟨u, v, dd, rfl, dp_up e _ _ hu, dp_up e _ _ hv, hall dd (List.mem_of_getElem? hi), q⟩⟩))
theorem ty_int {i : Int} : TyX K H (.int i) (.type "int") := .base (.int i)
theorem ty_str {s : Str} : TyX K H (.str s) (.type "str") := .base (.str s)
theorem ty_non : TyX K H .non (.type "NoneType") := .base .non
abbrev s_law_alike : Stmt := top 54
theorem sc_law_alike : FnScope ["found", "due", "k"] ["found", "due"] (defScope s_law_alike) := ⟨rfl, rfl, rfl, by decide +kernel, rfl, by decide +kernel, by decide +kernel⟩
--TY _law_alike {'found':('tuple','any'),'due':('tuple','any')}
theorem step_alike {n : Nat} {f f1 : Addr} {fd fd1 : FuncData} (F : Fun K "_law_alike" "_law_alike" s_law_alike f fd) (T : Txt K mg) (C_law_alike : Cal P w K mg base CX0 n "_law_alike" f1 fd1 ["found", "due"] (spPrev K n)) : FnOk P w K mg base CX0 (n + 1) f fd ["found", "due"] (spAlikeD K n) := by
  refine F.ok sc_law_alike (fun vs H Q E h => ?_) (fun cdv A outer s H vs Q E hr h => ?_)
  · obtain ⟨_, _, _, rfl, _⟩ := h
    rfl
  · obtain ⟨x, y, d, rfl, hx, hy, had, k⟩ := h
    refine ⟨_, (pss_cons (ps_if (pt_val (pe_callB (isiT_K (K := K) rfl) (by rfl) T.z_isinstance (by decide +kernel) (pa_cons (pv 1) (pa_cons (pe_tup (pa_cons (pe_bltn (v := .ty "tuple") (by rfl) T.z_tuple (by decide +kernel) rfl) (pa_cons (pe_bltn (v := .ty "list") (by rfl) T.z_list (by decide +kernel) rfl) pa_nil))) pa_nil)))) (pss_cons (ps_if (PW.pt (pw_or (pt_not (pt_val (pe_callB (isiT_K (K := K) rfl) (by rfl) T.z_isinstance (by decide +kernel) (pa_cons (pv 0) (pa_cons (pe_tup (pa_cons (pe_bltn (v := .ty "tuple") (by rfl) T.z_tuple (by decide +kernel) rfl) (pa_cons (pe_bltn (v := .ty "list") (by rfl) T.z_list (by decide +kernel) rfl) pa_nil))) pa_nil))))) (pw_or1 (pt_cmpR op_ne (pe_callB (isi_K (K := K) rfl) (by rfl) T.z_isinstance (by decide +kernel) (pa_cons (pv 0) (pa_cons (pe_bltn (v := .ty "list") (by rfl) T.z_list (by decide +kernel) rfl) pa_nil))) (pe_callB (isi_K (K := K) rfl) (by rfl) T.z_isinstance (by decide +kernel) (pa_cons (pv 1) (pa_cons (pe_bltn (v := .ty "list") (by rfl) T.z_list (by decide +kernel) rfl) pa_nil))) (nomark _))))) (pss_one (ps_ret pe_bl)) pss_nil)
  (pss_cons (ps_if (pt_cmpR op_ne (pe_callB (len_K (K := K) rfl) (by rfl) T.z_len (by decide +kernel) (pa_cons (pv 0) pa_nil)) (pe_callB (len_K (K := K) rfl) (by rfl) T.z_len (by decide +kernel) (pa_cons (pv 1) pa_nil)) (nomark _)) (pss_one (ps_ret pe_bl)) pss_nil)
  (pss_one (ps_ret (pe_cmpR (eqD_K (K := K) rfl hr.units) (pe_lc (own := [("k", 2)]) (g := gName 2) rfl sc_law_alike.nd (pi_range1 rfl T.z_range (pa_cons (pe_callB (len_K (K := K) rfl) (by rfl) T.z_len (by decide +kernel) (pa_cons (pv 1) pa_nil)) pa_nil)) (blkOk_by (by kernel_rfl)) (fun _ _ _ _ _ => pg_name (i := 2) sc_law_alike.nd rfl (by first | exact Or.inl rfl | exact Or.inr rfl)) (fun _ _ _ _ _ => (pts_one (pt_not (pt_val (pe_call C_law_alike.G (hr.mono (by first | decide | omega)) rfl C_law_alike.g C_law_alike.kp C_law_alike.b .nil pass0 (pa_cons (pe_ix (ix_K (K := K) rfl) (pv 0) (pv 2) (fun _ _ => rfl)) (pa_cons (pe_ix (ix_K (K := K) rfl) (pv 1) (pv 2) (fun _ _ => rfl)) pa_nil))))))) (fun _ _ _ _ _ => (pv 2))) (pe_lst pa_nil) (nomark _)))))) pss_nil)
  (pss_cons (ps_if (PW.pt (pw_or (pt_cmpR op_isN (pv 1) pe_non (nomark _)) (pw_or1 (pt_val (pe_callB (isi_K (K := K) rfl) (by rfl) T.z_isinstance (by decide +kernel) (pa_cons (pv 1) (pa_cons (pe_bltn (v := .ty "str") (by rfl) T.z_str (by decide +kernel) rfl) pa_nil))))))) (pss_one (ps_ret (pe_and (pe_cmpR (eqD_K (K := K) rfl hr.units) (pv 0) (pv 1) (nomark _)) (pe_one (pe_cmpR op_eq (pe_callB (isi_K (K := K) rfl) (by rfl) T.z_isinstance (by decide +kernel) (pa_cons (pv 0) (pa_cons (pe_bltn (v := .ty "str") (by rfl) T.z_str (by decide +kernel) rfl) pa_nil))) (pe_callB (isi_K (K := K) rfl) (by rfl) T.z_isinstance (by decide +kernel) (pa_cons (pv 1) (pa_cons (pe_bltn (v := .ty "str") (by rfl) T.z_str (by decide +kernel) rfl) pa_nil))) (nomark _)))))) pss_nil)
  (pss_one (ps_ret (pe_and (pe_callB (isi_K (K := K) rfl) (by rfl) T.z_isinstance (by decide +kernel) (pa_cons (pv 0) (pa_cons (pe_bltn (v := .ty "int") (by rfl) T.z_int (by decide +kernel) rfl) pa_nil))) (pe_and (pe_cmpR op_eq (pe_callB (isi_K (K := K) rfl) (by rfl) T.z_isinstance (by decide +kernel) (pa_cons (pv 0) (pa_cons (pe_bltn (v := .ty "bool") (by rfl) T.z_bool (by decide +kernel) rfl) pa_nil))) (pe_callB (isi_K (K := K) rfl) (by rfl) T.z_isinstance (by decide +kernel) (pa_cons (pv 1) (pa_cons (pe_bltn (v := .ty "bool") (by rfl) T.z_bool (by decide +kernel) rfl) pa_nil))) (nomark _)) (pe_one (pe_cmpR (eqD_K (K := K) rfl hr.units) (pv 0) (pv 1) (nomark _))))))))), ?_⟩
    rcases ad_cases had hx hy with ⟨rfl, rfl⟩ | ⟨i, rfl, rfl⟩ | ⟨s, hs, rfl, rfl⟩ | ⟨a, b, xs, ys, ds, t, c, rfl, rfl, tx, ty, hsq, hk1, hk2, hd1, hd2, hl, hrec⟩
    · have hx : Dp K H .non .none := .non
      refine q_when (b := false || false) (et_B (ev_isi2 (ev_var rfl) ty_non (by decide +kernel) (by decide +kernel))) (fun z => nomatch z) fun _ H1 e1 => ?_
      refine q_when (b := true) (et_is (et_or (a := true) (b := true) (et_is (et_isN (ev_var rfl)) (by simp)) fun z => nomatch z) rfl) (fun _ H2 e2 => ?_) fun z => nomatch z
      refine s_ret (v := .bl (true && decide (V.bl false = V.bl false))) (ev_andV (ev_eqDD (ev_var rfl) (ev_var rfl) .non .non rfl) fun _ => ev_op (ev_isi (t := "NoneType") (b := false) (ev_var rfl) ty_non (by decide +kernel)) (ev_isi (t := "NoneType") (b := false) (ev_var rfl) ty_non (by decide +kernel)) (rv_eq rfl)) fun H3 e3 => ?_
      rw [decide_eq_true rfl]
      exact k H3 ((e1.trans e2).trans e3)
    · have hx : Dp K H (.int i) (.int i) := .int i
      refine q_when (b := false || false) (et_B (ev_isi2 (ev_var rfl) ty_int (by decide +kernel) (by decide +kernel))) (fun z => nomatch z) fun _ H1 e1 => ?_
      refine q_when (b := false || false) (et_or (et_is (et_isN (ev_var rfl)) rfl) fun _ => et_B (ev_isi (t := "int") (ev_var rfl) ty_int (by decide +kernel))) (fun z => nomatch z) fun _ H2 e2 => ?_
      refine s_ret (v := .bl (true && (decide (V.bl false = V.bl false) && true))) (ev_andV (ev_isi (t := "int") (ev_var rfl) ty_int (by decide +kernel)) fun _ => ev_andV (ev_op (ev_isi (t := "int") (ev_var rfl) ty_int (by decide +kernel)) (ev_isi (t := "int") (ev_var rfl) ty_int (by decide +kernel)) (rv_eq rfl)) fun _ => ev_eqDD (ev_var rfl) (ev_var rfl) (.int i) (.int i) rfl) fun H3 e3 => ?_
      rw [decide_eq_true rfl]
      exact k H3 ((e1.trans e2).trans e3)
    · have hx : Dp K H (.str s) (.str s) := .str s
      refine q_when (b := false || false) (et_B (ev_isi2 (ev_var rfl) ty_str (by decide +kernel) (by decide +kernel))) (fun z => nomatch z) fun _ H1 e1 => ?_
      refine q_when (b := false || true) (et_or (et_is (et_isN (ev_var rfl)) rfl) fun _ => et_B (ev_isi (t := "str") (ev_var rfl) ty_str (by decide +kernel))) (fun _ H2 e2 => ?_) fun z => nomatch z
      have hsh : SeqAt.shaped (.str s) = true := by
        show (PyData.canLay0 (.str s) && decide (PyData.depth (.str s) ≤ 64)) = true
        simp [PyData.canLay0, PyData.depth, hs]
      refine s_ret (v := .bl (true && decide (V.bl true = V.bl true))) (ev_andV (ev_eqDD (ev_var rfl) (ev_var rfl) (.str s) (.str s) hsh) fun _ => ev_op (ev_isi (t := "str") (b := true) (ev_var rfl) ty_str (by decide +kernel)) (ev_isi (t := "str") (b := true) (ev_var rfl) ty_str (by decide +kernel)) (rv_eq rfl)) fun H3 e3 => ?_
      rw [decide_eq_true rfl]
      exact k H3 ((e1.trans e2).trans e3)
    · replace hrec := hrec
      have lx := dpAll_len hd1
      have ly := dpAll_len hd2
      have hor : (!c || c) = true := by cases c <;> rfl
      refine q_when (b := true) (et_is (et_B (ev_isi2 (ev_var rfl) ty hk1 hk2)) hor) (fun _ H1 e1 => ?_) fun z => nomatch z
      refine q_when (b := false) (et_is (et_or (b := false) (et_not (a := true) (et_is (et_B (ev_isi2 (ev_var rfl) (tyx_up e1 tx) hk1 hk2)) hor)) fun _ => et_is (et_ne (ev_isi (t := t) (b := c) (ev_var rfl) (tyx_up e1 tx) hk2) (ev_isi (t := t) (b := c) (ev_var rfl) (tyx_up e1 ty) hk2) rfl) (by simp)) rfl) (fun z => nomatch z) fun _ H2 e2 => ?_
      have e02 := e1.trans e2
      have ln : ∀ {H' : Hp} {σ : L2.St} {te : TE} {q : Addr} {zs : List V}, Ev te σ H' (.ref q) → (SqL K H' q zs ∨ SqT K H' q zs) → Ev (tCB (rLn K) (tCons te tNil)) σ H' (.int (zs.length : Int)) := fun h hq => by
        rcases hq with hq | hq
        · exact ev_lnL h hq
        · exact ev_lnT h hq
      have sx : ∀ {H'}, Ex H H' → SqL K H' a xs ∨ SqT K H' a xs := fun e => (hsq _ e).imp (fun z => z.1) fun z => z.1
      have sy : ∀ {H'}, Ex H H' → SqL K H' b ys ∨ SqT K H' b ys := fun e => (hsq _ e).imp (fun z => z.2) fun z => z.2
      refine q_when (b := false) (et_is (et_ne (ln (ev_var rfl) (sx e02)) (ln (ev_var rfl) (sy e02)) rfl) (by rw [lx, ly]; simp)) (fun z => nomatch z) fun _ H3 e3 => ?_
      have e03 := e02.trans e3
      have key := el_lcR1 (σ := [some (.ref a), some (.ref b), none]) (H := H3) (ta := tCons (tCB (rLn K) (tCons (tVar 1) tNil)) tNil) (j := 2) (vs := List.map (fun x => x.snd) [(("k" : Str), 2)]) (n := (ys.length : Int)) (t := tNot (tB (tCall (spPrev K n) [] E0 (tCons (tOp (rIx K) (tVar 0) (tVar 2)) (tCons (tOp (rIx K) (tVar 1) (tVar 2)) tNil))))) (te := tVar 2) (fun c => false) (fun c => .int (c : Nat))
        (ea_cons (ln (ev_var rfl) (sy e03)) ea_nil) ⟨by omega, by omega⟩ (fun x => rfl) (fun i H4 e4 hi => by
          have hil : i < ds.length := by omega
          obtain ⟨u, hu, hud⟩ := dpAll_get hd1 (List.getElem?_eq_getElem hil)
          obtain ⟨v, hv, hvd⟩ := dpAll_get hd2 (List.getElem?_eq_getElem hil)
          have e04 := e03.trans e4
          have ix : ∀ {σ : L2.St} {ta tb : TE} {q : Addr} {zs : List V} {z : V}, Ev ta σ H4 (.ref q) → Ev tb σ H4 (.int (i : Int)) → (SqL K H4 q zs ∨ SqT K H4 q zs) → zs[i]? = some z → Ev (tOp (rIx K) ta tb) σ H4 z := fun h1 h2 hq hz => by
            rcases hq with hq | hq
            · exact ev_ixL h1 h2 hq (atI_nat' hz)
            · exact ev_ixT h1 h2 hq (atI_nat' hz)
          exact et_not (a := true) (et_B (ev_callV (ea_cons (ix (ev_var rfl) (ev_var rfl) (sx e04) hu) (ea_cons (ix (ev_var rfl) (ev_var rfl) (sy e04) hv) ea_nil)) fun H5 e5 Q' q => hrec i _ u v H5 Q' (e04.trans e5) (List.getElem?_eq_getElem hil) hud hvd q))) (fun i H4 e4 hi z => nomatch z)
      have hg : given ((ys.length : Int)).toNat (fun _ => false) (fun c => V.int (c : Nat)) = ([] : List Int).map V.int := by simp [given]
      rw [hg] at key
      exact s_ret (v := .bl true) (ev_eqNil key) fun H4 e4 => k H4 (e03.trans e4)
theorem ok_alikeD {f : Addr} {fd : FuncData} (F : Fun K "_law_alike" "_law_alike" s_law_alike f fd) (T : Txt K mg) (g : mg "_law_alike" = some (.ref f)) (kp : PySem.W.keepIn K (.ref f) = true) (b : Binds K fd ["found", "due"] []) : ∀ n, FnOk P w K mg base CX0 (n + 1) f fd ["found", "due"] (spAlikeD K n)
  | 0 => step_alike F T ⟨ok_none, g, kp, b⟩
  | n + 1 => step_alike F T ⟨ok_alikeD F T g kp b n, g, kp, b⟩
end
end Fm
set_option Elab.async false
set_option linter.all false
set_option maxRecDepth 100000
set_option maxHeartbeats 1000000
namespace Fm
open PySem L2 Evl RZ
/-! the parts of a deed -/
def hR (s : Rs) : In → Int
  | .get c => s.held.getD c 0
  | .plus c => s.hand + s.held.getD c 0
  | .minus c => s.hand - s.held.getD c 0
  | _ => s.hand
def hA (ins : List Int) (s : Rs) : In → Int
  | .put k => k
  | .ask => if s.asked < ins.length then ins.getD s.asked 0 else 0
  | i => hR s i
def hS (s : Rs) : In → List Int
  | .set c => s.held.set c s.hand
  | _ => s.held
def sS (s : Rs) : In → List Int
  | .say => s.said ++ [s.hand]
  | _ => s.said
def aA (ins : List Int) (s : Rs) : In → Nat
  | .ask => if s.asked < ins.length then s.asked + 1 else s.asked
  | _ => s.asked
theorem deed_parts {p : List In} {ins : List Int} {s : Rs} {i : In} (h : p[s.at_]? = some i) : s.deed p ins = ⟨s.at_, hA ins s i, hS s i, aA ins s i, sS s i⟩ := by
  unfold Rs.deed
  rw [h]
  cases i <;> try rfl
  show (if s.asked < ins.length then _ else _) = _
  by_cases hl : s.asked < ins.length
  · rw [if_pos hl]; simp only [hA, hS, aA, sS, if_pos hl]
  · rw [if_neg hl]; simp only [hA, hS, aA, sS, if_neg hl]
def In.to (hd : Int) (a : Nat) : In → Nat
  | .zero t => if hd = 0 then t else a + 1
  | _ => a + 1
theorem next_hand {p : List In} {ins : List Int} {s : Rs} {i : In} (h : p[s.at_]? = some i) : s.next p = stE p (i.to (hA ins s i) s.at_) := by
  unfold Rs.next
  rw [h]
  cases i <;> try rfl
  show (if s.hand = 0 then _ else _) = stE p (if s.hand = 0 then _ else _)
  split <;> rfl
theorem kdOk_of {i : In} {n : Nat} (h : i.cellLt n) : KdOk i.kd i.w i.last i.cell n := by
  refine ⟨?_, ?_, ?_⟩
  · cases i <;> kernel_rfl
  · cases i <;> kernel_rfl
  · intro hn
    cases i <;> first | exact ⟨rfl, h⟩ | exact nomatch hn
theorem rd_cell {i : In} {n : Nat} (h : i.rd = true) (hc : i.cellLt n) : i.last = .int (i.cell : Nat) ∧ i.cell < n := by
  cases i <;> first | exact ⟨rfl, hc⟩ | exact nomatch h
def In.isAsk : In → Bool
  | .ask => true
  | _ => false
theorem w_ask (i : In) : decide (V.str i.w = V.str "ask") = i.isAsk := by cases i <;> kernel_rfl
theorem hA_other {ins : List Int} {s : Rs} {i : In} (h1 : i.isPut = false) (h2 : i.isAsk = false) : hA ins s i = hR s i ∧ aA ins s i = s.asked := by
  cases i <;> first | exact ⟨rfl, rfl⟩ | (simp [In.isPut] at h1; done) | (simp [In.isAsk] at h2; done)
theorem not_zero {i : In} (hz : ¬ ∃ t, i = .zero t) : decide (V.str i.w = V.str "zero") = false := by
  cases i <;> first | exact absurd ⟨_, rfl⟩ hz | kernel_rfl
abbrev lrS (c most : Nat) (pa ia he lf sd : Addr) (v lv : V) (hd : Int) (a t : Nat) (wd : Str) (cl : V) : L2.St := [some (.int (c : Nat)), some (.ref pa), some (.ref ia), some (.int (most : Nat)), some v, some (.ref he), some (.int hd), some (.ref lf), some (.ref sd), some lv, some (.int (a : Nat)), some (.int (t : Nat)), some (.str wd), some cl]
/-- where the law's own lists stand -/
structure LT (K : PySem.W.Frag) (H H' : Hp) (he lf sd la : Addr) (lv : V) (ls : List Nat) (hl ll sl : List Int) : Prop where
  ex : Ex H H'
  h : H' he = some (.lst (hl.map V.int))
  l : H' lf = some (.lst (ll.map V.int))
  s : H' sd = some (.lst (sl.map V.int))
  v : lv = .ref la → SqT K H' la (nV ls)
section
variable {K : PySem.W.Frag} {H H' H'' : Hp} {he lf sd la : Addr} {lv : V} {ls : List Nat} {hl ll sl xl : List Int}
theorem LT.up (t : LT K H H' he lf sd la lv ls hl ll sl) (e : Ex H' H'') : LT K H H'' he lf sd la lv ls hl ll sl := ⟨t.ex.trans e, e _ _ t.h, e _ _ t.l, e _ _ t.s, fun z => ex_t e (t.v z)⟩
theorem LT.putH (t : LT K H H' he lf sd la lv ls hl ll sl) (h0 : H he = none) (h1 : he ≠ lf) (h2 : he ≠ sd) : LT K H (upd H' he (.lst (xl.map V.int))) he lf sd la lv ls xl ll sl := ⟨Ex.mut t.ex h0, upd_same, by rw [upd_ne h1.symm]; exact t.l, by rw [upd_ne h2.symm]; exact t.s, fun z => sqT_upd t.h (t.v z)⟩
theorem LT.putL (t : LT K H H' he lf sd la lv ls hl ll sl) (h0 : H lf = none) (h1 : he ≠ lf) (h2 : lf ≠ sd) : LT K H (upd H' lf (.lst (xl.map V.int))) he lf sd la lv ls hl xl sl := ⟨Ex.mut t.ex h0, by rw [upd_ne h1]; exact t.h, upd_same, by rw [upd_ne h2.symm]; exact t.s, fun z => sqT_upd t.l (t.v z)⟩
theorem LT.putS (t : LT K H H' he lf sd la lv ls hl ll sl) (h0 : H sd = none) (h1 : he ≠ sd) (h2 : lf ≠ sd) : LT K H (upd H' sd (.lst (xl.map V.int))) he lf sd la lv ls hl ll xl := ⟨Ex.mut t.ex h0, by rw [upd_ne h1]; exact t.h, by rw [upd_ne h2]; exact t.l, upd_same, fun z => sqT_upd t.s (t.v z)⟩
end
section
variable {K : PySem.W.Frag} {σ : L2.St} {H : Hp} {ta tb ty te t1 t2 t3 : TE} {tr tA : TA} {tt : TT} {tu tz : TS} {D : Ends} {v v1 v2 v3 x : V}
theorem q_whenK {b : Bool} {R : L2.St → Hp → Prop} (hk : ∀ σ' H', R σ' H' → tz D σ' H') (h : EvT tt σ H b) (h1 : b = true → ∀ H1, Ex H H1 → ∀ D' : Ends, D'.rt = D.rt → (∀ σ' H', R σ' H' → D'.nx σ' H') → tu D' σ H1) (h2 : b = false → ∀ H1, Ex H H1 → R σ H1) : tSeq (tIfS tt tu tNext) tz D σ H :=
  q_when h (fun hb H1 e => h1 hb H1 e _ rfl hk) (fun hb H1 e => hk _ _ (h2 hb H1 e))
theorem s_asgK {i : Nat} {D' : Ends} {R : L2.St → Hp → Prop} (hk : ∀ σ' H', R σ' H' → D'.nx σ' H') (h : Ev te σ H v) (k : ∀ H1, Ex H H1 → R (σ.set i (some v)) H1) : tAsg te (gName i) D' σ H := s_asg h fun H1 e => hk _ _ (k H1 e)
theorem ev_disp3 {k1 k2 k3 wd : Str} (h1 : Ev t1 σ H v1) (h2 : Ev t2 σ H v2) (h3 : Ev t3 σ H v3) (hy : Ev ty σ H (.str wd)) (hv : valV (mergeK [] [((.inr k1 : Key), v1), (.inr k2, v2), (.inr k3, v3)]) (.inr wd) = some v) :
    Ev (tDGet (tDisp [(tC (.str k1), t1), (tC (.str k2), t2), (tC (.str k3), t3)]) ty) σ H v := fun H1 e Q q => by
  intro p hp
  have e1 : Ex H1 (upd H1 p (.dK [])) := Ex.new hp
  have s1 : (upd H1 p (.dK [])) p = some (.dK []) := upd_same
  generalize upd H1 p (.dK []) = H2 at e1 s1
  refine h1 H2 (e.trans e1) _ fun H3 e3 => ?_
  refine h2 H3 ((e.trans e1).trans e3) _ fun H4 e4 => ?_
  refine h3 H4 (((e.trans e1).trans e3).trans e4) _ fun H5 e5 => ?_
  have e15 := ((e1.trans e3).trans e4).trans e5
  refine ⟨((e3.trans e4).trans e5) _ _ s1, [((.inr k1 : Key), v1), (.inr k2, v2), (.inr k3, v3)], rfl, by show 3 ≤ 15; decide, ?_⟩
  have e6 : Ex H1 (upd H5 p (.dK (mergeK [] [((.inr k1 : Key), v1), (.inr k2, v2), (.inr k3, v3)]))) := Ex.mut e15 hp
  refine hy _ (e.trans e6) _ fun H7 e7 => ?_
  refine ⟨p, v, rfl, ?_, q H7 (e6.trans e7)⟩
  rw [← hv]
  exact DGet.k (k := (.inr wd : Key)) (e7 _ _ upd_same)
/-- xs.pop(0) in an expression, and what comes behind it -/
theorem m_pop0 {l : Addr} {y : Int} {zs : List Int} {Q : VK} (ha : Ev ta σ H (.ref l)) (hl : H l = some (.lst ((y :: zs).map V.int))) (k : ∀ H1, Ex H H1 → Q (.int y) (upd H1 l (.lst (zs.map V.int)))) : tBM K "list" rPopAt ta (tCons (tC (.int 0)) tNil) σ H Q := ha H (Ex.refl H) _ fun H1 e1 =>
  ⟨Or.inl ⟨rfl, _, sq_of (e1 _ _ hl)⟩, ⟨l, (y :: zs).map V.int, 0, 0, .int y, rfl, rfl, e1 _ _ hl, by decide, by decide, by unfold seqIndex?; simp, rfl, k H1 e1⟩⟩
theorem m_if {b : Bool} {Q : VK} (h : EvT tt σ H b) (h1 : b = true → ∀ H1, Ex H H1 → ta σ H1 Q) (h2 : b = false → ∀ H1, Ex H H1 → tb σ H1 Q) : tIf tt ta tb σ H Q := h H (Ex.refl H) _ fun H1 e1 => by
  cases b with
  | true => exact h1 rfl H1 e1
  | false => exact h2 rfl H1 e1
theorem m_ev {Q : VK} (h : Ev ta σ H v) (k : ∀ H1, Ex H H1 → Q v H1) : ta σ H Q := h H (Ex.refl H) _ k
theorem q_setK {i : Nat} {R : V → Hp → Prop} (hk : ∀ x H', R x H' → tz D (σ.set i (some x)) H') (h : ∀ Q : VK, (∀ x H', R x H' → Q x H') → te σ H Q) : tSeq (tAsg te (gName i)) tz D σ H := h _ hk
theorem et_notN (ha : Ev ta σ H x) : EvT (tTest (tOp (fun x y H Q => y = .non ∧ Q (.bl (!decide (x = .non))) H) ta (tC .non))) σ H (!decide (x = .non)) := et_test (ev_op ha ev_c fun H1 _ _ q => ⟨rfl, q H1 (Ex.refl H1)⟩)
theorem m_callV {sp : Sp} {E : XK} {vs : List V} {Q : VK} (h : EvA tA σ H vs) (k : ∀ H1, Ex H H1 → sp (vs ++ []) H1 Q E) : tCall sp [] E tA σ H Q := h H (Ex.refl H) _ k
theorem q_setM {i : Nat} (h : te σ H fun v H1 => tz D (σ.set i (some v)) H1) : tSeq (tAsg te (gName i)) tz D σ H := h
end
end Fm
set_option Elab.async false
set_option linter.all false
set_option maxRecDepth 100000
set_option maxHeartbeats 1000000
namespace Fm
open PySem L2 Evl RZ
/-- the machine of a run of the law: none, or one at m -/
def MoAt (K : PySem.W.Frag) (H : Hp) (v : V) (mo : Option (List Nat × List Nat)) : Prop := match mo with
  | none => v = .non
  | some (fs, rs) => ∃ m, v = .ref m ∧ MaT K H m fs rs ∧ fs.length = rs.length ∧ rs.length ≤ 10
def moRes (p : List In) (ins : List Int) (most c : Nat) (mo : Option (List Nat × List Nat)) : Rs × Str × Nat := match mo with
  | none => ((loopL p ins most (Rs.new p c) 0).1, endW p (loopL p ins most (Rs.new p c) 0).1, (loopL p ins most (Rs.new p c) 0).2)
  | some (fs, rs) => loopF p ins fs rs most (Rs.new p c) fs 0
def loopM (p : List In) (ins : List Int) (mo : Option (List Nat × List Nat)) (m : Nat) (s : Rs) (ls : List Nat) (t : Nat) : Rs × Str × Nat := match mo with
  | none => ((loopL p ins m s t).1, endW p (loopL p ins m s t).1, (loopL p ins m s t).2)
  | some (fs, rs) => loopF p ins fs rs m s ls t
def moLs (mo : Option (List Nat × List Nat)) : List Nat := match mo with
  | none => []
  | some (fs, _) => fs
theorem moRes_eq {p : List In} {ins : List Int} {most c : Nat} {mo : Option (List Nat × List Nat)} : moRes p ins most c mo = loopM p ins mo most (Rs.new p c) (moLs mo) 0 := by
  cases mo with
  | none => rfl
  | some x => obtain ⟨fs, rs⟩ := x; rfl
def LvAt (K : PySem.W.Frag) (H : Hp) (v : V) (mo : Option (List Nat × List Nat)) (ls : List Nat) : Prop := match mo with
  | none => v = .non
  | some (_, rs) => ∃ a, v = .ref a ∧ SqT K H a (nV ls) ∧ ls.length = rs.length
theorem LvAt.up {K : PySem.W.Frag} {H H' : Hp} {v : V} {mo : Option (List Nat × List Nat)} {ls : List Nat} (e : Ex H H') (h : LvAt K H v mo ls) : LvAt K H' v mo ls := by
  cases mo with
  | none => exact h
  | some x => obtain ⟨fs, rs⟩ := x; obtain ⟨a, h1, h2, h3⟩ := h; exact ⟨a, h1, ex_t e h2, h3⟩
theorem MoAt.up {K : PySem.W.Frag} {H H' : Hp} {v : V} {mo : Option (List Nat × List Nat)} (e : Ex H H') (h : MoAt K H v mo) : MoAt K H' v mo := by
  cases mo with
  | none => exact h
  | some x => obtain ⟨fs, rs⟩ := x; obtain ⟨a, h1, h2, h3⟩ := h; exact ⟨a, h1, h2.up e, h3⟩
section
variable {K : PySem.W.Frag} {σ : L2.St} {H : Hp} {ta te : TE} {tr tA : TA} {D : Ends} {tz : TS}
theorem el_lsT {a : Addr} {xs : List V} (ha : Ev ta σ H (.ref a)) (h : SqT K H a xs) : EvL (tCB (rLs K) (tCons ta tNil)) σ H xs := fun H1 e Q q =>
  ha H1 e _ fun H2 e2 => ⟨a, xs, rfl, .inr (ex_t (e.trans e2) h), fun l hl => q l _ (fresh_back e2 hl) (e2.trans (Ex.new hl)) upd_same⟩
theorem m_consL {xs : List V} {Q : List V → Hp → Prop} (h : EvL te σ H xs) (k : ∀ p H1, H p = none → Ex H H1 → H1 p = some (.lst xs) → tr σ H1 fun ys H2 => Q (.ref p :: ys) H2) : tCons te tr σ H Q := h H (Ex.refl H) _ k
theorem m_asgTup {g : TG} (h : tA σ H fun xs H1 => xs.length ≤ sizeLine ∧ ∀ p, H1 p = none → g (.ref p) σ (upd H1 p (.tup xs)) fun σ2 H2 => tz D σ2 H2) : tSeq (tAsg (tTup tA) g) tz D σ H := h
theorem m_par {i j : Nat} (h : tA σ H fun xs H1 => ∃ v w, xs = [v, w] ∧ tz D ((σ.set i (some v)).set j (some w)) H1) : tSeq (tPar i j tA) tz D σ H := h
end
def spLRun (K : PySem.W.Frag) : Sp := fun vs H Q _ => ∃ (pa ia : Addr) (v : V) (p : List In) (ins : List Int) (c most : Nat) (mo : Option (List Nat × List Nat)), vs = [.int (c : Nat), .ref pa, .ref ia, .int (most : Nat), v] ∧ PgT K H pa p ∧ Pok c p ∧ p.length ≤ 100 ∧ SqT K H ia (ins.map V.int) ∧ ins.length ≤ 50 ∧ most ≤ 1000 ∧ c ≤ 10 ∧ MoAt K H v mo ∧ (∀ fs rs, mo = some (fs, rs) → fs.length = c) ∧
  ∀ u H', H u = none → Ex H H' → ToldAt H' u (moRes p ins most c mo).1.said (moRes p ins most c mo).2.1 (moRes p ins most c mo).2.2 → Q (.ref u) H'
section
variable {P : Program} {w : World} {K : PySem.W.Frag} {mg : Str → Option Value} {base : Heap}
abbrev s_law_run : Stmt := top 59
theorem sc_law_run : FnScope ["cells", "program", "inputs", "most", "machine", "held", "hand", "left", "said", "lives", "at", "tick", "word", "cell"] ["cells", "program", "inputs", "most", "machine"] (defScope s_law_run) := ⟨rfl, rfl, rfl, by decide +kernel, rfl, by decide +kernel, by decide +kernel⟩
--TY _law_run {'machine':('tuple',T),'program':('tuple',T),'inputs':T,'held':('list','int'),'hand':'int','left':('list','int'),'said':L,'lives':('tuple','int'),'at':'int','tick':'int','word':'str','cell':'int','most':'int','cells':'int'}
theorem ok_lrun {f f1 f2 : Addr} {fd fd1 fd2 : FuncData} (F : Fun K "_law_run" "_law_run" s_law_run f fd) (T : Txt K mg) (C_law_stands : Cal P w K mg base CX0 1 "_law_stands" f1 fd1 ["program", "index"] (spStands K)) (C_law_behind : Cal P w K mg base CX0 1 "_law_behind" f2 fd2 ["machine", "lives", "word", "cell"] (spLBeh K)) : FnOk P w K mg base CX0 2 f fd ["cells", "program", "inputs", "most", "machine"] (spLRun K) := by
  refine F.ok sc_law_run (fun vs H Q E h => ?_) (fun cdv A outer s H vs Q E hr h => ?_)
  · obtain ⟨_, _, _, _, _, _, _, _, rfl, _⟩ := h
    rfl
  · obtain ⟨pa, ia, v, p, ins, c, most, mo, rfl, hp, hok, hl, hip, hil, hmo, hc, hma, hmc, k⟩ := h
    refine ⟨_, (pss_cons (ps_asg (pe_tup (pa_cons (pe_op op_rep (pe_lst (pa_cons pe_int pa_nil)) (pv 0)) (pa_cons pe_int (pa_cons (pe_callTy (ls_K (K := K) rfl) (by rfl) T.z_list (by decide +kernel) (pa_cons (pv 2) pa_nil)) (pa_cons (pe_lst pa_nil) pa_nil))))) (pg_tup rfl (pgs_cons (pg_name (i := 5) sc_law_run.nd rfl (by first | exact Or.inl rfl | exact Or.inr rfl)) (pgs_cons (pg_name (i := 6) sc_law_run.nd rfl (by first | exact Or.inl rfl | exact Or.inr rfl)) (pgs_cons (pg_name (i := 7) sc_law_run.nd rfl (by first | exact Or.inl rfl | exact Or.inr rfl)) (pgs_cons (pg_name (i := 8) sc_law_run.nd rfl (by first | exact Or.inl rfl | exact Or.inr rfl)) pgs_nil))))))
  (pss_cons (ps_par (i := 9) (j := 10) (by rfl) sc_law_run.nd rfl rfl (by decide) rfl rfl (pa_cons (pe_ifExp (pt_cmpR op_isN (pv 4) pe_non (nomark _)) pe_non (pe_ix (ix_K (K := K) rfl) (pv 4) pe_int (fun _ _ => rfl))) (pa_cons (pe_call C_law_stands.G (hr.mono (by first | decide | omega)) rfl C_law_stands.g C_law_stands.kp C_law_stands.b .nil pass0 (pa_cons (pv 1) (pa_cons pe_int pa_nil))) pa_nil)) (by rfl))
  (pss_cons (ps_for PassesOwn.never rfl (pi_range1 rfl T.z_range (pa_cons (pv 3) pa_nil)) (pg_name (i := 11) sc_law_run.nd rfl (by first | exact Or.inl rfl | exact Or.inr rfl)) (pss_cons (ps_if (pt_cmpR op_lt (pv 10) pe_int (nomark _)) (pss_one (ps_ret (pe_tup (pa_cons (pe_callTy (tpl_K (K := K) rfl) (by rfl) T.z_tuple (by decide +kernel) (pa_cons (pv 8) pa_nil)) (pa_cons pe_str (pa_cons (pv 11) pa_nil)))))) pss_nil)
  (pss_cons (ps_par (i := 12) (j := 13) (by rfl) sc_law_run.nd rfl rfl (by decide) rfl rfl (pa_cons (pe_ix (ix_K (K := K) rfl) (pe_ix (ix_K (K := K) rfl) (pv 1) (pv 10) (fun _ _ => rfl)) pe_int (fun _ _ => rfl)) (pa_cons (pe_ix (ix_K (K := K) rfl) (pe_ix (ix_K (K := K) rfl) (pv 1) (pv 10) (fun _ _ => rfl)) (pe_un un_neg pe_int) (fun _ _ => rfl)) pa_nil)) (by rfl))
  (pss_cons (ps_if (pt_cmpR (in_K (K := K) rfl) (pv 12) (pe_lst (pa_cons pe_str (pa_cons pe_str (pa_cons pe_str pa_nil)))) (by rfl)) (pss_cons (ps_if (PW.pt (pw_and (pt_cmpR op_notN (pv 9) pe_non (nomark _)) (pw_and1 (pt_cmpR op_eq (pe_ix (ix_K (K := K) rfl) (pv 9) (pv 13) (fun _ _ => rfl)) pe_int (nomark _))))) (pss_one (ps_ret (pe_tup (pa_cons (pe_callTy (tpl_K (K := K) rfl) (by rfl) T.z_tuple (by decide +kernel) (pa_cons (pv 8) pa_nil)) (pa_cons pe_str (pa_cons (pv 11) pa_nil)))))) pss_nil)
  (pss_one (ps_set (i := 6) sc_law_run.nd rfl (Or.inl rfl) (pe_op op_add (pe_dget (hu_of hr) (pe_disp (pps_cons pe_str pe_int (pps_cons pe_str (pv 6) (pps_cons pe_str (pv 6) pps_nil))) (by rfl) (by rfl) (fun z => by cases z) (by decide)) (pv 12) (fun _ _ => rfl)) (pe_ifExp (pt_cmpR op_ne (pv 12) pe_str (nomark _)) (pe_ix (ix_K (K := K) rfl) (pv 5) (pv 13) (fun _ _ => rfl)) (pe_op op_sub pe_int (pe_ix (ix_K (K := K) rfl) (pv 5) (pv 13) (fun _ _ => rfl)))))))) pss_nil)
  (pss_cons (ps_if (pt_cmpR op_eq (pv 12) pe_str (nomark _)) (pss_one (ps_asg (pv 6) (pg_sub (pv 5) (pv 13) set_list))) pss_nil)
  (pss_cons (ps_if (pt_cmpR op_eq (pv 12) pe_str (nomark _)) (pss_one (ps_expr (pe_bm PySem.F.plainAttrs_list PySem.F.slot_list_append PySem.F.type_list_append mt_append (pv 8) (pa_cons (pv 6) pa_nil)))) pss_nil)
  (pss_cons (ps_set (i := 6) sc_law_run.nd rfl (Or.inl rfl) (pe_ifExp (pt_cmpR op_eq (pv 12) pe_str (nomark _)) (pv 13) (pe_ifExp (pt_cmpR op_eq (pv 12) pe_str (nomark _)) (pe_ifExp (pt_cmpR (neD_K (K := K) rfl hr.units) (pv 7) (pe_lst pa_nil) (nomark _)) (pe_bm PySem.F.plainAttrs_list PySem.F.slot_list_pop PySem.F.type_list_pop mt_popAt (pv 7) (pa_cons pe_int pa_nil)) pe_int) (pv 6))))
  (pss_cons (ps_set (i := 9) sc_law_run.nd rfl (Or.inl rfl) (pe_ifExp (pt_cmpR op_isN (pv 4) pe_non (nomark _)) pe_non (pe_call C_law_behind.G (hr.mono (by first | decide | omega)) rfl C_law_behind.g C_law_behind.kp C_law_behind.b .nil pass0 (pa_cons (pv 4) (pa_cons (pv 9) (pa_cons (pv 12) (pa_cons (pv 13) pa_nil)))))))
  (pss_one (ps_set (i := 10) sc_law_run.nd rfl (Or.inl rfl) (pe_call C_law_stands.G (hr.mono (by first | decide | omega)) rfl C_law_stands.g C_law_stands.kp C_law_stands.b .nil pass0 (pa_cons (pv 1) (pa_cons (pe_ifExp (PW.pt (pw_and (pt_cmpR op_eq (pv 12) pe_str (nomark _)) (pw_and1 (pt_cmpR op_eq (pv 6) pe_int (nomark _))))) (pv 13) (pe_op op_add (pv 10) pe_int)) pa_nil)))))))))))))
  (pss_one (ps_ret (pe_tup (pa_cons (pe_callTy (tpl_K (K := K) rfl) (by rfl) T.z_tuple (by decide +kernel) (pa_cons (pv 8) pa_nil)) (pa_cons (pe_ifExp (pt_cmpR op_lt (pv 10) pe_int (nomark _)) pe_str pe_str) (pa_cons (pv 3) pa_nil))))))))), ?_⟩
    rw [moRes_eq] at k
    -- held, hand, left, said
    refine m_asgTup ?_
    refine m_consL (el_rep (xs := [.int 0]) (k := c) (el_lst (ea_cons ev_c ea_nil) (by show 1 ≤ 100000; decide)) (fun H1 e1 => ev_var rfl) (by show 1 * c ≤ 100000; omega) (by omega)) fun he H1 hhe e1 h1 => ?_
    rw [flat_rep c] at h1
    refine m_cons ev_c fun H2 e2 => ?_
    refine m_consL (el_lsT (ev_var rfl) (ex_t (e1.trans e2) hip)) fun lf H3 hlf e3 h3 => ?_
    refine m_consL (el_lst ea_nil (Nat.zero_le _)) fun sd H4 hsd e4 h4 => ?_
    refine ⟨by show 4 ≤ sizeLine; rw [sizeLine_eq]; decide, fun tt htt => ?_⟩
    refine ⟨tt, _, rfl, st_of upd_same, rfl, _, _, rfl, ⟨_, _, rfl, ⟨_, _, rfl, ⟨_, _, rfl, ⟨rfl, ?_⟩⟩⟩⟩⟩
    have e5 := Ex.new (o := .tup [.ref he, .int 0, .ref lf, .ref sd]) htt
    generalize upd H4 tt (.tup [.ref he, .int 0, .ref lf, .ref sd]) = H5 at e5 ⊢
    try dsimp only
    have e05 := (((e1.trans e2).trans e3).trans e4).trans e5
    -- lives, at
    have hlv : ∃ lv, LvAt K H5 lv mo (moLs mo) ∧ Ev (tIf (tTest (tOp rIsNn (tVar 4) (tC .non))) (tC .non) (tOp (rIx K) (tVar 4) (tC (.int 0)))) [some (.int (c : Nat)), some (.ref pa), some (.ref ia), some (.int (most : Nat)), some v, some (.ref he), some (.int 0), some (.ref lf), some (.ref sd), none, none, none, none, none] H5 lv := by
      cases mo with
      | none =>
        cases hma
        exact ⟨.non, rfl, ev_if (b := true) (et_is (et_isN (ev_var rfl)) rfl) (fun _ => ev_c) fun z => nomatch z⟩
      | some x =>
        obtain ⟨fs, rs⟩ := x
        obtain ⟨m, rfl, ⟨a, b, hm, ha, hb⟩, hl1, hl2⟩ := hma
        exact ⟨.ref a, ⟨a, rfl, ex_t e05 ha, hl1⟩, ev_if (b := false) (et_is (et_isN (ev_var rfl)) rfl) (fun z => nomatch z) fun _ => ev_ixT (ev_var rfl) ev_c (ex_t e05 hm) rfl⟩
    obtain ⟨lv0, hlv0, hev0⟩ := hlv
    refine m_par ?_
    refine m_cons hev0 fun H6 e6 => ?_
    refine m_cons (x := .int (toI p (stE p 0))) (ev_callV (ea_cons (ev_var rfl) (ea_cons ev_c ea_nil)) fun H7 e7 Q' q => ⟨pa, p, c, 0, rfl, hp.up ((e05.trans e6).trans e7), hok, Nat.zero_le _, by omega, q⟩) fun H7 e7 => ?_
    refine ⟨_, _, rfl, ?_⟩
    try dsimp only
    have e07 := (e05.trans e6).trans e7
    have e17 := ((((e2.trans e3).trans e4).trans e5).trans e6).trans e7
    have hhl : he ≠ lf := fun z => by rw [← z, e2 _ _ h1] at hlf; cases hlf
    have hhs : he ≠ sd := fun z => by rw [← z, (e2.trans e3) _ _ h1] at hsd; cases hsd
    have hls : lf ≠ sd := fun z => by rw [← z, h3] at hsd; cases hsd
    have he0 : H he = none := hhe
    have lf0 : H lf = none := fresh_back (e1.trans e2) hlf
    have sd0 : H sd = none := fresh_back ((e1.trans e2).trans e3) hsd
    refine q_forR1 (n := (most : Nat)) (ea_cons (ev_var rfl) ea_nil) ⟨by omega, by omega⟩
      (fun t σ H' => ∃ (s : Rs) (ls : List Nat) (lv : V) (z11 z12 z13 : Option V), Ex H H' ∧ H' he = some (.lst (s.held.map V.int)) ∧ H' lf = some (.lst ((ins.drop s.asked).map V.int)) ∧ H' sd = some (.lst (s.said.map V.int)) ∧ LvAt K H' lv mo ls ∧ RsOk p c s ∧ s.said.length ≤ t ∧ s.asked ≤ ins.length ∧ loopM p ins mo (most - t) s ls t = loopM p ins mo most (Rs.new p c) (moLs mo) 0 ∧
        σ = [some (.int (c : Nat)), some (.ref pa), some (.ref ia), some (.int (most : Nat)), some v, some (.ref he), some (.int s.hand), some (.ref lf), some (.ref sd), some lv, some (.int (toI p s.at_)), z11, z12, z13])
      (fun H8 e8 => ⟨Rs.new p c, moLs mo, lv0, _, _, _, e07.trans e8, (e17.trans e8) _ _ h1, (((((e4.trans e5).trans e6).trans e7).trans e8)) _ _ h3, ((((e5.trans e6).trans e7).trans e8)) _ _ h4, hlv0.up ((e6.trans e7).trans e8), RsOk.new hok, Nat.zero_le _, Nat.zero_le _, rfl, rfl⟩) ?_ ?_
    · rintro t σ H8 ht ⟨s, ls, lv, z11, z12, z13, e8, h8, l8, s8, hlv8, hs, hsl, hsa, hlo, rfl⟩
      have htm : t < most := by omega
      have hatl : s.at_ ≤ p.length := by
        rcases hs.at_ with h | h
        · omega
        · exact Nat.le_of_lt h.lt
      have hneg : decide (toI p s.at_ < 0) = decide (s.at_ = p.length) := by
        unfold toI
        by_cases h : s.at_ = p.length
        · rw [if_pos h, decide_eq_true h]; rfl
        · rw [if_neg h, decide_eq_false h, decide_eq_false (by omega)]
      -- a return of what was said
      have ret : ∀ (y12 y13 : Option V) (wd : Str) (te : TE) (H9 : Hp), Ex H8 H9 → (∀ H', Ex H9 H' → Ev te [some (.int (c : Nat)), some (.ref pa), some (.ref ia), some (.int (most : Nat)), some v, some (.ref he), some (.int s.hand), some (.ref lf), some (.ref sd), some lv, some (.int (toI p s.at_)), some (.int (t : Int)), y12, y13] H' (.str wd)) → loopM p ins mo (most - t) s ls t = (s, wd, t) → ∀ D : Ends, D.rt = Q → tRet (tTup (tCons (tCB (rTpl K) (tCons (tVar 8) tNil)) (tCons te (tCons (tVar 11) tNil)))) D [some (.int (c : Nat)), some (.ref pa), some (.ref ia), some (.int (most : Nat)), some v, some (.ref he), some (.int s.hand), some (.ref lf), some (.ref sd), some lv, some (.int (toI p s.at_)), some (.int (t : Int)), y12, y13] H9 := fun y12 y13 wd te H9 e9 hte hres D hD => by
        refine m_retTup ?_
        refine m_consU (eu_tpl (ev_var rfl) (sq_of (e9 _ _ s8))) fun q H10 hq e10 h10 => ?_
        refine m_cons (hte H10 e10) fun H11 e11 => ?_
        refine m_cons (ev_var rfl) fun H12 e12 => ?_
        refine ⟨by show 3 ≤ sizeLine; rw [sizeLine_eq]; decide, fun u hu => ?_⟩
        have e812 := ((e9.trans e10).trans e11).trans e12
        have en := Ex.new (o := .tup [.ref q, .str wd, .int (t : Nat)]) hu
        rw [hD]
        rw [hres] at hlo
        refine k u _ (fresh_back (e8.trans e812) hu) ((e8.trans e812).trans en) ?_
        rw [← hlo]
        exact ⟨q, upd_same, en _ _ ((e11.trans e12) _ _ h10)⟩
      refine q_when (et_is (et_i0 (ev_var rfl) ev_c) hneg) (fun hb H9 e9 => ?_) (fun hb H9 e9 => ?_)
      · have hat := of_decide_eq_true hb
        refine ret _ _ "stopped" _ H9 e9 (fun H' e => ev_c) ?_ _ rfl
        have hw : endW p s = ("stopped" : Str) := if_pos hat
        cases mo with
        | none => show ((loopL p ins (most - t) s t).1, _, _) = _; rw [loopL_stop (.inr hat)]; rw [hw]
        | some x => obtain ⟨fs, rs⟩ := x; show loopF p ins fs rs (most - t) s ls t = _; rw [loopF_stop (.inr hat), hw]
      · have hna := of_decide_eq_false hb
        have hto : toI p s.at_ = (s.at_ : Int) := by unfold toI; rw [if_neg hna]
        obtain ⟨i, hi, hie⟩ : Sta p s.at_ := hs.at_.resolve_left hna
        have hil2 : s.at_ < p.length := (List.getElem?_eq_some_iff.mp hi).1
        have hcl : i.cellLt c := cellLt_of hok hi
        rw [hto] at ret ⊢
        obtain ⟨b0, hb0, hu0⟩ := ev_pg (K := K) (σ := [some (.int (c : Nat)), some (.ref pa), some (.ref ia), some (.int (most : Nat)), some v, some (.ref he), some (.int s.hand), some (.ref lf), some (.ref sd), some lv, some (.int (s.at_ : Nat)), some (.int (t : Int)), z12, z13]) (H := H9) (ta := tVar 1) (tb := tVar 10) (hp.up (e8.trans e9)) hi (ev_var rfl) (ev_var rfl)
        refine m_par ?_
        refine m_cons (ev_ixT hb0 ev_c hu0 (vs_0 i)) fun H10 e10 => ?_
        refine m_cons (ev_ixT (fun H' e => hb0 H' (e10.trans e)) (ev_neg ev_c) (ex_t e10 hu0) (vs_last i)) fun H11 e11 => ?_
        refine ⟨_, _, rfl, ?_⟩
        try dsimp only
        have e811 := (e9.trans e10).trans e11
        obtain ⟨la, hla, hmo2⟩ : ∃ la : Addr, (lv = .ref la → SqT K H8 la (nV ls)) ∧ ((mo = none ∧ lv = .non) ∨ (∃ fs rs, mo = some (fs, rs) ∧ lv = .ref la ∧ ls.length = rs.length)) := by
          cases mo with
          | none =>
            refine ⟨0, ?_, .inl ⟨rfl, hlv8⟩⟩
            intro z
            rw [show lv = V.non from hlv8] at z
            cases z
          | some x =>
            obtain ⟨fs, rs⟩ := x
            obtain ⟨a, h1, h2, h3⟩ := hlv8
            exact ⟨a, fun _ => h2, .inr ⟨fs, rs, rfl, h1, h3⟩⟩
        have t11 : LT K H H11 he lf sd la lv ls s.held (ins.drop s.asked) s.said := LT.up ⟨e8, h8, l8, s8, hla⟩ e811
        have hlsc : lv ≠ .non → ls.length = c ∧ lv = .ref la := fun hn => by
          rcases hmo2 with ⟨_, h⟩ | ⟨fs, rs, h1, h2, h3⟩
          · exact absurd h hn
          · have hf := hmc fs rs h1
            rw [h1] at hma
            obtain ⟨m, _, _, h4, _⟩ := hma
            exact ⟨by omega, h2⟩
        -- the test of a loss
        have htest : i.rd = true → ∀ H', Ex H11 H' → EvT (tAnd (tTest (tOp (fun x y H Q => y = .non ∧ Q (.bl (!decide (x = .non))) H) (tVar 9) (tC .non))) (tTest (tOp rEq (tOp (rIx K) (tVar 9) (tVar 13)) (tC (.int 0))))) (lrS c most pa ia he lf sd v lv s.hand s.at_ t i.w i.last) H' (!decide (lv = .non) && decide (ls.getD i.cell 0 = 0)) := fun hrd H' e' => by
          obtain ⟨hlast, hcc⟩ := rd_cell hrd hcl
          refine et_and (et_notN (ev_var rfl)) fun hn => ?_
          have hn' : lv ≠ .non := by simpa using hn
          obtain ⟨h1, h2⟩ := hlsc hn'
          rw [hlast]
          refine et_is (et_eq (ev_ixT (ev_var (by rw [h2]; rfl)) (ev_var rfl) (ex_t e' (t11.v h2)) (nV_at (by omega))) ev_c rfl) ?_
          by_cases h : ls.getD i.cell 0 = 0
          · rw [h]; rfl
          · rw [decide_eq_false h, decide_eq_false fun z => h (by have := V.int.inj z; omega)]
        by_cases hloss : i.rd = true ∧ lv ≠ .non ∧ ls.getD i.cell 0 = 0
        · obtain ⟨hrd, hn, h0⟩ := hloss
          refine q_when (b := true) (et_is (et_test (ev_opL (ev_var rfl) (el_lst (ea_cons ev_c (ea_cons ev_c (ea_cons ev_c ea_nil))) (by decide)) fun _ _ h _ => rv_isL (sq_of h) rfl rfl)) ((w_rd i).trans hrd)) (fun _ H12 e12 => ?_) fun z => nomatch z
          refine q_when (b := true) (et_is (htest hrd H12 e12) (by rw [decide_eq_false hn, decide_eq_true h0]; rfl)) (fun _ H13 e13 => ?_) fun z => nomatch z
          refine ret _ _ "lost" _ H13 ((e811.trans e12).trans e13) (fun H' e => ev_c) ?_ _ rfl
          rcases hmo2 with ⟨_, h⟩ | ⟨fs, rs, h1, h2, h3⟩
          · exact absurd h hn
          · subst h1
            show loopF p ins fs rs (most - t) s ls t = _
            rw [show most - t = (most - (t + 1)) + 1 by omega, loopF_lost hna hi ⟨hrd, h0⟩]
        -- no loss
        refine q_whenK (R := fun σ' H' => σ' = lrS c most pa ia he lf sd v lv (hR s i) s.at_ t i.w i.last ∧ Ex H11 H') ?_ (et_is (et_test (ev_opL (ev_var rfl) (el_lst (ea_cons ev_c (ea_cons ev_c (ea_cons ev_c ea_nil))) (by decide)) fun _ _ h _ => rv_isL (sq_of h) rfl rfl)) (w_rd i)) (fun hrd H12 e12 D' hrt hk => ?_) (fun hrd H12 e12 => ⟨?_, e12⟩)
        · -- behind the readings
          rintro σ' H12 ⟨rfl, e12⟩
          have t12 := t11.up e12
          refine q_whenK (R := fun σ' H' => σ' = lrS c most pa ia he lf sd v lv (hR s i) s.at_ t i.w i.last ∧ LT K H H' he lf sd la lv ls (hS s i) (ins.drop s.asked) s.said) ?_ (et_is (et_eq (ev_var rfl) ev_c rfl) (w_setW i)) (fun hb2 H13 e13 D' hrt hk => ?_) (fun hb2 H13 e13 => ⟨rfl, ?_⟩)
          · rintro σ' H13 ⟨rfl, t13⟩
            refine q_whenK (R := fun σ' H' => σ' = lrS c most pa ia he lf sd v lv (hR s i) s.at_ t i.w i.last ∧ LT K H H' he lf sd la lv ls (hS s i) (ins.drop s.asked) (sS s i)) ?_ (et_is (et_eq (ev_var rfl) ev_c rfl) (w_say i)) (fun hb2 H14 e14 D' hrt hk => ?_) (fun hb2 H14 e14 => ⟨rfl, ?_⟩)
            · rintro σ' H14 ⟨rfl, t14⟩
              refine q_setK (R := fun x H' => x = .int (hA ins s i) ∧ LT K H H' he lf sd la lv ls (hS s i) (ins.drop (aA ins s i)) (sS s i)) ?_ (fun Q' hQ => ?_)
              · rintro x H15 ⟨rfl, t15⟩
                refine q_setK (R := fun x H' => ∃ ls', LvAt K H' x mo ls' ∧ LT K H H' he lf sd la lv ls (hS s i) (ins.drop (aA ins s i)) (sS s i) ∧ loopM p ins mo (most - t) s ls t = loopM p ins mo (most - (t + 1)) (s.step p ins) ls' (t + 1)) ?_ (fun Q' hQ => ?_)
                · rintro lv' H16 ⟨ls', hlv', t16, hgo⟩
                  obtain ⟨k', hkv, hkl, hkn⟩ : ∃ k : Nat, Ev (tIf (tAnd (tTest (tOp rEq (tVar 12) (tC (.str "zero")))) (tTest (tOp rEq (tVar 6) (tC (.int 0))))) (tVar 13) (tOp (rI0 fun i j => .int (i + j)) (tVar 10) (tC (.int 1)))) (lrS c most pa ia he lf sd v lv' (hA ins s i) s.at_ t i.w i.last) H16 (.int (k : Nat)) ∧ k ≤ p.length ∧ s.next p = stE p k := by
                    have hn := next_hand (ins := ins) hi
                    by_cases hz : ∃ t', i = .zero t'
                    · obtain ⟨t', rfl⟩ := hz
                      by_cases h0 : hA ins s (.zero t') = 0
                      · refine ⟨t', ev_if (b := true) (et_is (et_and (et_is (et_eq (ev_var rfl) ev_c rfl) (w_zeroW (.zero t'))) fun _ => et_eq (ev_var rfl) ev_c rfl) (by rw [h0]; rfl)) (fun _ => ev_var rfl) (fun z => nomatch z), hok.2 _ (List.mem_of_getElem? hi), ?_⟩
                        rw [hn]
                        show stE p (if _ then _ else _) = _
                        rw [if_pos h0]
                      · refine ⟨s.at_ + 1, ev_if (b := false) (et_is (et_and (et_is (et_eq (ev_var rfl) ev_c rfl) (w_zeroW (.zero t'))) fun _ => et_eq (ev_var rfl) ev_c rfl) (by rw [decide_eq_false fun z => h0 (V.int.inj z)]; rfl)) (fun z => nomatch z) (fun _ => ev_succ (ev_var rfl)), hil2, ?_⟩
                        rw [hn]
                        show stE p (if _ then _ else _) = _
                        rw [if_neg h0]
                    · refine ⟨s.at_ + 1, ev_if (b := false) (et_and (a := false) (b := false) (et_is (et_eq (ev_var rfl) ev_c rfl) (not_zero hz)) fun z => nomatch z) (fun z => nomatch z) (fun _ => ev_succ (ev_var rfl)), hil2, ?_⟩
                      rw [hn]
                      cases i <;> first | rfl | exact absurd ⟨_, rfl⟩ hz
                  have hst : s.step p ins = ⟨s.next p, hA ins s i, hS s i, aA ins s i, sS s i⟩ := by unfold Rs.step; rw [deed_parts hi]
                  refine s_callA (ea_cons (ev_var rfl) (ea_cons hkv ea_nil)) fun H17 e17 => ⟨pa, p, c, k', rfl, hp.up (t16.ex.trans e17), hok, hkl, by omega, fun H18 e18 => ?_⟩
                  have t18 := t16.up (e17.trans e18)
                  refine ⟨s.step p ins, ls', lv', _, _, _, t18.ex, by rw [hst]; exact t18.h, by rw [hst]; exact t18.l, by rw [hst]; exact t18.s, hlv'.up (e17.trans e18), hs.step hok hil2, ?_, ?_, by rw [← hgo]; exact hlo, by rw [hst, hkn]; rfl⟩
                  · have := deed_said p ins s
                    show (s.deed p ins).said.length ≤ t + 1
                    omega
                  · rw [hst]
                    show aA ins s i ≤ ins.length
                    unfold aA
                    split
                    · split <;> omega
                    · exact hsa
                · -- the lives behind
                  rcases hmo2 with ⟨h1, h2⟩ | ⟨fs, rs, h1, h2, h3⟩
                  · subst h1
                    have hv : v = .non := hma
                    subst hv
                    refine m_if (b := true) (et_is (et_isN (ev_var rfl)) rfl) (fun _ H16 e16 => ?_) (fun z => nomatch z)
                    refine m_ev ev_c fun H17 e17 => hQ _ _ ⟨ls, rfl, t15.up (e16.trans e17), ?_⟩
                    show ((loopL p ins (most - t) s t).1, endW p (loopL p ins (most - t) s t).1, (loopL p ins (most - t) s t).2) = ((loopL p ins (most - (t + 1)) (s.step p ins) (t + 1)).1, endW p (loopL p ins (most - (t + 1)) (s.step p ins) (t + 1)).1, (loopL p ins (most - (t + 1)) (s.step p ins) (t + 1)).2)
                    rw [show most - t = (most - (t + 1)) + 1 by omega, loopL_go hna]
                  · have hf := hmc fs rs h1
                    subst h1
                    obtain ⟨m, hm1, hM, h5, h6⟩ := hma
                    subst hm1
                    refine m_if (b := false) (et_is (et_isN (ev_var rfl)) rfl) (fun z => nomatch z) (fun _ H16 e16 => ?_)
                    refine m_callV (ea_cons (ev_var rfl) (ea_cons (ev_var (by rw [h2]; rfl)) (ea_cons (ev_var rfl) (ea_cons (ev_var rfl) ea_nil)))) fun H17 e17 => ⟨m, la, fs, rs, ls, i.w, i.last, i.kd, i.cell, rfl, hM.up (t15.up (e16.trans e17)).ex, (t15.up (e16.trans e17)).v h2, h5, h3, h6, kdOk_of (by rw [← h5, hf]; exact hcl), fun b H18 hb18 e18 h18 => hQ _ _ ⟨bhL i.kd fs rs ls i.cell, ⟨b, rfl, st_of h18, by rw [bhL_len]; exact h3⟩, (t15.up (e16.trans e17)).up e18, ?_⟩⟩
                    show loopF p ins fs rs (most - t) s ls t = _
                    rw [show most - t = (most - (t + 1)) + 1 by omega, loopF_go hna hi fun z => hloss ⟨z.1, (by rw [h2]; exact fun z => nomatch z), z.2⟩]
                    rfl
              · -- put, ask
                refine m_if (et_is (et_eq (ev_var rfl) ev_c rfl) (w_put i)) (fun hb2 H15 e15 => ?_) (fun hb2 H15 e15 => ?_)
                · obtain ⟨k', rfl⟩ : ∃ k', i = .put k' := by cases i <;> simp [In.isPut] at hb2; exact ⟨_, rfl⟩
                  exact m_ev (ev_var rfl) fun H16 e16 => hQ _ _ ⟨rfl, t14.up (e15.trans e16)⟩
                · refine m_if (et_is (et_eq (ev_var rfl) ev_c rfl) (w_ask i)) (fun hb3 H16 e16 => ?_) (fun hb3 H16 e16 => ?_)
                  · obtain rfl : i = .ask := by cases i <;> simp [In.isAsk] at hb3; rfl
                    have t16 := t14.up (e15.trans e16)
                    refine m_if (et_test (ev_neNilV (ev_var rfl) (sq_of t16.l))) (fun hb4 H17 e17 => ?_) (fun hb4 H17 e17 => ?_)
                    · have hlt : s.asked < ins.length := by
                        refine Nat.lt_of_not_le fun z => ?_
                        rw [List.drop_eq_nil_of_le z] at hb4
                        cases hb4
                      have hd : ins.drop s.asked = ins.getD s.asked 0 :: ins.drop (s.asked + 1) := by
                        rw [List.drop_eq_getElem_cons hlt, List.getD_eq_getElem?_getD, List.getElem?_eq_getElem hlt]
                        rfl
                      have t17 := t16.up e17
                      rw [hd] at t17
                      refine m_pop0 (ev_var rfl) t17.l fun H18 e18 => hQ _ _ ⟨by simp only [hA, if_pos hlt], ?_⟩
                      have := (t17.up e18).putL (xl := ins.drop (s.asked + 1)) lf0 hhl hls
                      simp only [aA, if_pos hlt]
                      exact this
                    · have hlt : ¬ s.asked < ins.length := fun z => by
                        rw [List.drop_eq_getElem_cons z] at hb4
                        cases hb4
                      exact m_ev ev_c fun H18 e18 => hQ _ _ ⟨by simp only [hA, if_neg hlt], by simp only [aA, if_neg hlt]; exact t16.up (e17.trans e18)⟩
                  · obtain ⟨h1, h2⟩ := hA_other (ins := ins) (s := s) hb2 hb3
                    rw [h1, h2] at hQ
                    exact m_ev (ev_var rfl) fun H17 e17 => hQ _ _ ⟨rfl, t14.up ((e15.trans e16).trans e17)⟩
            · obtain rfl : i = .say := by cases i <;> simp at hb2; rfl
              have t14 := t13.up e14
              refine s_app t14.s (ev_var rfl) (ev_var rfl) (by rw [List.length_map]; omega) fun H15 e15 => hk _ _ ⟨rfl, ?_⟩
              have := (t14.up e15).putS (xl := s.said ++ [s.hand]) sd0 hhs hls
              rw [List.map_append] at this
              exact this
            · have : sS s i = s.said := by cases i <;> first | rfl | (simp at hb2)
              rw [this]
              exact t13.up e14
          · obtain ⟨k', rfl⟩ : ∃ k', i = .set k' := by cases i <;> simp at hb2; exact ⟨_, rfl⟩
            have t13 := t12.up e13
            refine s_setL (j := k') t13.h (ev_var rfl) (ev_var rfl) (ev_var rfl) (by rw [List.length_map, hs.held]; exact hcl) fun H14 e14 => hk _ _ ⟨rfl, ?_⟩
            have := (t13.up e14).putH (xl := s.held.set k' s.hand) he0 hhl hhs
            rw [List.map_set] at this
            exact this
          · have : hS s i = s.held := by cases i <;> first | rfl | (simp at hb2)
            rw [this]
            exact t12.up e13
        · obtain ⟨hlast, hcc⟩ := rd_cell hrd hcl
          have hnl : (!decide (lv = .non) && decide (ls.getD i.cell 0 = 0)) = false := by
            by_cases h1 : lv = .non
            · rw [h1]; rfl
            · rw [decide_eq_false h1, decide_eq_false fun z => hloss ⟨hrd, h1, z⟩]; rfl
          refine q_when (b := false) (et_is (htest hrd H12 e12) hnl) (fun z => nomatch z) fun _ H13 e13 => ?_
          have h13 := (t11.up (e12.trans e13)).h
          have hcell : Ev (tOp (rIx K) (tVar 5) (tVar 13)) (lrS c most pa ia he lf sd v lv s.hand s.at_ t i.w i.last) H13 (.int (s.held.getD i.cell 0)) := ev_ixL (ev_var rfl) (ev_var (by rw [hlast]; rfl)) (sq_of h13) (iV_at (by rw [hs.held]; exact hcc))
          obtain ⟨a, b, ha, hb, hab⟩ : ∃ a b : Int, valV (mergeK [] [((.inr "get" : Key), V.int 0), (.inr "plus", .int s.hand), (.inr "minus", .int s.hand)]) (.inr i.w) = some (.int a) ∧ Ev (tIf (tTest (tOp rNe (tVar 12) (tC (.str "minus")))) (tOp (rIx K) (tVar 5) (tVar 13)) (tOp (rI0 fun i j => .int (i - j)) (tC (.int 0)) (tOp (rIx K) (tVar 5) (tVar 13)))) (lrS c most pa ia he lf sd v lv s.hand s.at_ t i.w i.last) H13 (.int b) ∧ a + b = hR s i := by
            cases i <;> try (simp [In.rd] at hrd; done)
            · exact ⟨0, _, by kernel_rfl, ev_if (b := true) (et_is (et_ne (ev_var rfl) ev_c rfl) (by kernel_rfl)) (fun _ => hcell) (fun z => nomatch z), Int.zero_add _⟩
            · exact ⟨s.hand, _, by kernel_rfl, ev_if (b := true) (et_is (et_ne (ev_var rfl) ev_c rfl) (by kernel_rfl)) (fun _ => hcell) (fun z => nomatch z), rfl⟩
            · refine ⟨s.hand, _, by kernel_rfl, ev_if (b := false) (et_is (et_ne (ev_var rfl) ev_c rfl) (by kernel_rfl)) (fun z => nomatch z) (fun _ => ev_i0 (g := fun i j => .int (i - j)) ev_c hcell), ?_⟩
              show s.hand + (0 - _) = s.hand - _
              rw [Int.zero_sub, Int.sub_eq_add_neg]
              rfl
          exact s_asgK hk (ev_is (ev_i0 (g := fun i j => .int (i + j)) (ev_disp3 ev_c (ev_var rfl) (ev_var rfl) (ev_var rfl) ha) hb) (congrArg V.int hab)) fun H14 e14 => ⟨rfl, (e12.trans e13).trans e14⟩
        · have : hR s i = s.hand := by cases i <;> first | rfl | exact nomatch hrd
          rw [this]
          rfl
    · rintro σ H8 ⟨s, ls, lv, z11, z12, z13, e8, h8, l8, s8, hlv8, hs, hsl, hsa, hlo, rfl⟩
      have hneg : decide (toI p s.at_ < 0) = decide (s.at_ = p.length) := by
        unfold toI
        by_cases h : s.at_ = p.length
        · rw [if_pos h, decide_eq_true h]; rfl
        · rw [if_neg h, decide_eq_false h, decide_eq_false (by omega)]
      refine m_retTup ?_
      refine m_consU (eu_tpl (ev_var rfl) (sq_of s8)) fun q H9 hq e9 h9 => ?_
      refine m_cons (x := .str (endW p s)) (ev_if (et_is (et_i0 (ev_var rfl) ev_c) hneg) (fun hb => by unfold endW; rw [if_pos (of_decide_eq_true hb)]; exact ev_c) (fun hb => by unfold endW; rw [if_neg (of_decide_eq_false hb)]; exact ev_c)) fun H10 e10 => ?_
      refine m_cons (ev_var rfl) fun H11 e11 => ?_
      refine ⟨by show 3 ≤ sizeLine; rw [sizeLine_eq]; decide, fun u hu => ?_⟩
      have e811 := (e9.trans e10).trans e11
      have en := Ex.new (o := .tup [.ref q, .str (endW p s), .int (most : Nat)]) hu
      have hres : loopM p ins mo (most - ((most : Nat) : Int).toNat) s ls ((most : Nat) : Int).toNat = (s, endW p s, most) := by
        rw [show ((most : Nat) : Int).toNat = most by omega, Nat.sub_self]
        cases mo with
        | none => rfl
        | some x => obtain ⟨fs, rs⟩ := x; rfl
      rw [hres] at hlo
      refine k u _ (fresh_back (e8.trans e811) hu) ((e8.trans e811).trans en) ?_
      rw [← hlo]
      exact ⟨q, upd_same, en _ _ ((e10.trans e11) _ _ h9)⟩
end
end Fm
set_option Elab.async false
set_option linter.all false
set_option maxRecDepth 100000
set_option maxHeartbeats 1000000
namespace Fm
open PySem PySem.Spec PyProof.Rows L2
theorem tuple_mul1 (l : Addr) (items : Array Value) (n : Nat) (dd : Option Addr) (sl : Array (Option Value)) (u : Tok) :
    Meets (Builtin.«tuple.__mul__» ⟨[.ref l, .int 1 u], []⟩) (fun _ R s => s.heap.get? l = some { cls := .type "tuple", dict := dd, data := .seq items n, slots := sl } ∧
      R (.ok (.ret (Value.ref l))) s) :=
  .of_wp fun prog w A R s h => by
    obtain ⟨hp, g, d, tk, os⟩ := s
    obtain ⟨hl, h⟩ := h
    have f1 := AutoSeq1.idx_int
    have c0 : (decide ((1 : Int) < -(2 ^ 63)) || decide ((1 : Int) ≥ 2 ^ 63)) = false := by decide
    have c1 : (items.isEmpty || (1 : Int) == 1) = true := by rw [show ((1 : Int) == 1) = true from rfl, Bool.or_true]
    wp_walk using wpAny_loadPart' hl
    repeat (first
      | (refine wpAny_ite_false (decide_eq_false (by rw [c0]; exact Bool.false_ne_true)) ?_; wp_walk using wpAny_loadPart' hl)
      | (refine wpAny_ite_true (decide_eq_true (by rw [c1])) ?_; wp_walk using wpAny_loadPart' hl))
    exact ⟨_, rfl, h⟩
/-- tuple * int, 1 at least: by 1 it is the tuple itself -/
def rRepA (K : PySem.W.Frag) : R2 := fun x y H Q => ∃ l k xs, x = .ref l ∧ y = .int k ∧ SqT K H l xs ∧ xs ≠ [] ∧ 1 ≤ k ∧ k ≤ 1000 ∧ xs.length ≤ 1000 ∧ (k = 1 → Q (.ref l) H) ∧ (k ≠ 1 → ∀ p, H p = none → Q (.ref p) (upd H p (.tup (List.replicate k.toNat xs).flatten)))
section
variable {X : Cx} {K : PySem.W.Frag}
theorem op_repA : OpR X (binaryOp .Mult) (rRepA X.K) := by
  intro pins s σ H x y v u Q I rx ry h
  obtain ⟨l, k, xs, rfl, rfl, hT, hne, h1, h2, hz, q1, q2⟩ := h
  by_cases hk : k = 1
  · subst hk
    cases rx
    obtain ⟨t, rfl⟩ := ry
    obtain ⟨its, r, ⟨⟨cls, dd, data, sl⟩, ho, hc, n, hd⟩, hs⟩ := I.tuple hT
    simp only at hc hd
    subst hc hd
    refine wpAny_binaryOp_repeat_ref (T := "tuple") (U := "int") (by decide) ⟨_, ho, rfl⟩ (fun s' => typeIs_int s' 1 t) noFill_tuple_mul F.fills_int_mul F.slot_int_rmul repeat_tuple F.slot_int_index.lookup
      (call_meets F.slot_int_rmul (typeIs_int s 1 t) F.entry_int_rmul (F.args_int_rmul_2 _ _) (int_rmul_tuple 1 t l its.toArray n dd sl)
        ⟨ho, rfl, ⟨_, ho, rfl⟩, call_meets F.slot_tuple_mul ⟨_, ho, rfl⟩ F.entry_tuple_mul (F.args_tuple_mul_2 _ _) (tuple_mul1 l its.toArray n dd sl t) ⟨ho, ?_⟩⟩)
    exact ⟨.ref l, H, I, rfl, q1 rfl⟩
  · exact op_repT pins s σ H _ _ v u Q I rx ry ⟨l, k, xs, rfl, rfl, hT, hne, by omega, h2, hz, q2 hk⟩
theorem catA_K (h : X.K = K) : OpR X (binaryOp .Add) (rCatA K) := h ▸ op_catA
theorem repA_K (h : X.K = K) : OpR X (binaryOp .Mult) (rRepA K) := h ▸ op_repA
theorem slA_K (h : X.K = K) : SlR X (rSlA K) := h ▸ sl_tupA
end
end Fm
set_option Elab.async false
set_option linter.all false
set_option maxRecDepth 100000
set_option maxHeartbeats 1000000
open L2
namespace Fm
namespace NS_BadProgram
open PySem PySem.W PySem.Calls PyProof.Rows PySem.HandSPX
def iA (p1 p2 : Pos) : Arguments := { posonlyargs := [], args := [{ arg := "self", annotation := none, pos := p1 }, { arg := "index", annotation := none, pos := p2 }], vararg := none, kwonlyargs := [], kw_defaults := [], kwarg := none, defaults := [] }
def iS : Scope := { kind := .function, names := [(PySem.Str.ofString "self", .local), (PySem.Str.ofString "index", .local), (PySem.Str.ofString "__class__", .free), (PySem.Str.ofString "super", .globalImplicit)], isGenerator := false, isCoroutine := false, more := [] }
abbrev sI : Stmt := inClass (top 3) 0
/-- what the written part says of BadProgram, at C, of its __init__, at fI, of the cell of its class, at cc, of the code, at cda -/
structure Ty (P : Program) (K : Frag) (mg : Str → Option Value) (C fI cc cda : Addr) : Prop where
  gC : mg "BadProgram" = some (.ref C)
  zS : mg "super" = none
  tp : nsIn K cStatics "thirdparty.any" = some none
  cls : ∃ nm q N bs bm sn sub ab col dd k0 k1 k2 k3 k5, K.lookup C = some (excClassObj nm q C N bs bm true sn sub ab col dd k0 k1 k2 k3 k5 "ValueError.__new__") ∧ refsVE bm = true
  sup : ks_superIn K C C "__init__" = some (some (.builtin "ValueError.__init__"))
  mro : mroIn K C (.ref C) = some true
  ve : subIn K (.ref C) (.type "ValueError") = some true
  sa : findIn K (.ref C) "__setattr__" = some (some (.builtin "object.__setattr__"))
  ga : findIn K (.ref C) "__getattribute__" = some (some (.builtin "BaseException.__getattribute__"))
  gg : findIn K (.ref C) "__getattr__" = some none
  noN : findIn K (.ref C) "index" = some none
  iC : findIn K (.ref C) "__init__" = some (some (.ref fI))
  tC : typeIn K (.ref fI) = some (.type "function")
  kC : keepIn K (.ref C) = true
  exC : subIn K (.ref C) (.type "BaseException") = some true
  tyC : typeIn K (.ref C) = some (.type "type")
  hdC : hasDictIn K C = true
  te : exmOne K (.ref C) (.ref C) = some true
  file : ∃ (ccl : Value) (cdd : Option Addr) (vs : Array Value) (ccs : Array (Option Value)) (fl : Str) (tf : Tok), K.lookup cda = some ⟨ccl, cdd, .fields vs, ccs⟩ ∧ vs[2]? = some (.str fl tf) ∧ ((P.main.file : Str) == fl) = true
  cell : ∃ (cl : Value) (cld : Option Addr) (csl : Array (Option Value)), K.lookup cc = some ⟨cl, cld, .cell (some (.ref C)), csl⟩
  top_ : (P.main.scope.names.lookup ("super" : Str)).isSome = false
  fn : ∃ (oc : Value) (od : Option Addr) (doc pm : Value) (an : Option Addr) (ct : Value) (osl : Array (Option Value)),
    K.lookup fI = some ⟨oc, od, .func (ksFn "__init__" "BadProgram.__init__" (defArgs sI) (defBody sI) (defScope sI) .none .none doc pm an (.ref cda) ct cc), osl⟩ ∧ codeIn K (.ref cda) "BadProgram.__init__" = true
/-- a value that is told well in a text -/
def Told (v : Value) : Prop := v = .none ∨ (∃ i t, v = .int i t ∧ i.natAbs.log2 < 1920) ∨ ∃ y t, v = .str y t ∧ y.length ≤ 1000
structure InitEnd (h h' : Heap) (x C dx t1 : Addr) (v : Value) : Prop where
  keep : ∀ b o, b ≠ x → h.get? b = some o → h'.get? b = some o
  obj : h'.get? x = some { cls := .ref C, dict := some dx, data := .fields #[.ref t1, .none, .none, .none, .bool false, .none] }
  dbig : h.objs.size ≤ dx
  dne : dx ≠ x
  ns : h'.Ns1 dx (fun y => if y = "index" then some v else none)
section
variable {prog : Program} {w : World} {A : Around} {E : Value → Shared → Prop} {R : Result → Shared → Prop} {s : Shared} {K : Frag} {mg : Str → Option Value} {base : Heap} {C fI cc cda : Addr}
theorem str_len (a b : Str) : (a ++ b).length = a.length + b.length := Array.size_append
theorem told_field {v : Value} (V : Told v) {s : Shared} {Q : Value → Shared → Prop} (h : ∀ y t tk, y.length ≤ 10000 → Q (.str y t) { s with toks := tk }) : wpAny (model prog w) A (formatField v Str.empty) Q E s := by
  rcases V with rfl | ⟨i, t, rfl, hi⟩ | ⟨y, t, rfl, hy⟩
  · exact wpAny_formatField_none (h _ _ _ (by decide))
  · refine wpAny_formatField_int hi (h _ _ _ ?_)
    have e := int_text_length_le (k := 1920) (by decide) hi
    show (Str.ofString (toString i)).length ≤ 10000
    rw [PySem.ofString_length]
    omega
  · exact wpAny_formatField_str (by obtain ⟨_, _, _, _, _⟩ := s; exact h _ _ _ (by omega)) (h _ _ _ (by omega)) (by rw [sizeLine_eq]; omega)
theorem init_call {h : Heap} {g : Array GenState} {d : Drawn} {t : Nat} {os : OsState} {nm q : Str} {N u e t0 : Addr} {bs bm : List Value} {hdct : Bool} {sn : List Str} {sub : List Value} {ab : Bool} {col : Option Bool} {dd : Option Addr} {k0 k1 k2 k3 k5 : Option Value} {rest : List Value} {Q : Value → Shared → Prop}
    (hC : h.get? C = some (excClassObj nm q C N bs bm hdct sn sub ab col dd k0 k1 k2 k3 k5 "ValueError.__new__")) (he : h.get? e = some (excO C t0)) (hu : h.get? u = some (kxs_mw "ValueError.__init__" e)) (hrest : rest.length ≤ sizeLine)
    (hq : ∀ h', (∀ b o, b ≠ e → h.get? b = some o → h'.get? b = some o) → h'.get? e = some (excO C h.objs.size) → Q .none ⟨h', g, d, t, os⟩) : wpAny (model prog w) A (call (.ref u) rest) Q E ⟨h, g, d, t, os⟩ := by
  refine wpAny_call (codeAny_of_tree (show wpAny (model prog w) A.in1 (callAny (.ref u) ⟨rest, []⟩) _ _ _ from ?_))
  have yes : (Value.type "method-wrapper" == Value.type "method" || Value.type "method-wrapper" == Value.type "builtin_function_or_method" || Value.type "method-wrapper" == Value.type "method-wrapper") = true := by decide
  simp only [callAny]; refine wpAny_bind (wpAny_load hu ?_); simp only [kxs_mw, yes, if_true]
  refine KFB.if_so (by decide) (wpAny_bind (check_bound_init F.excBase_ValueError.toExcCallFacts hC he rfl (wpAny_bind (wpAny_pure (wpAny_pure ⟨plainId_quiet F.excBase_ValueError.init.plain _, codeAny_builtin F.excBase_ValueError.initEntry ?_⟩)))))
  exact exc_init_tree (cls := .ref C) (t0 := t0) (dv := none) (c2 := .none) (c3 := .none) (b4 := .bool false) he hrest fun h' a b _ => hq h' a b
theorem init_ok (T : Ty prog K mg C fI cc cda) {x t0 : Addr} {v : Value} (V : Told v) (Md : L2.Mod K mg base) (bk : ∀ b o, base.get? b = some o → s.heap.get? b = some o) (hx : s.heap.get? x = some (excO C t0)) (hnx : K.lookup x = none) (hroom : A.depth < recursionLimit)
    (hq : ∀ h' tk dx t1, InitEnd s.heap h' x C dx t1 v → R (.ok (.ret .none)) { s with heap := h', toks := tk }) : codeAny (model prog w) A (.call (.ref fI) ⟨[.ref x, v], []⟩) R s := by
  obtain ⟨oc, od, doc, pm, an, ct, osl, ho, hcd⟩ := T.fn
  obtain ⟨ccl, cdd, vs, ccs, fl, tf, hcode, hvs, hfile⟩ := T.file
  obtain ⟨cl, cld, csl, hcell⟩ := T.cell
  obtain ⟨nm, q, N, bs, bm, sn, sub, ab, col, dd, k0, k1, k2, k3, k5, hC, hbm⟩ := T.cls
  have hcl : clsIn K C = some { name := nm, bases := bs, mro := .ref C :: bm, ns := N, qualname := q, hasDict := true, slotNames := sn, subclasses := sub, abstract := ab, collection := col, hasDel := false } := by unfold clsIn; rw [hC] <;> rfl
  have X : K.In s.heap := fun a o e => bk _ _ (Md.kin a o e)
  have nocell : ∀ y ∈ (defScope sI).names, y.2 ≠ .cell := by decide +kernel
  have loc : ∀ y ∈ [(("self" : Str), Value.ref x), ("index", v)], (defScope sI).names.lookup y.1 = some .local := fun y hy => by
    rcases List.mem_cons.mp hy with rfl | hy
    · show (defScope sI).names.lookup ("self" : Str) = some .local
      decide +kernel
    · rcases List.mem_cons.mp hy with rfl | hy
      · show (defScope sI).names.lookup ("index" : Str) = some .local
        decide +kernel
      · cases hy
  refine ks_codeAny_call_defAt (a := fI) (args := ⟨[.ref x, v], []⟩) (binds := [("self", .ref x), ("index", v)]) hroom (X _ _ ho) rfl (Md.nolimit.keeps bk) (codeRec_of X hcd) rfl (BindsTo.of_eq (by first | rfl | with_unfolding_all rfl)) nocell loc (fun h₁ hns hk₁ => ?_) rfl rfl rfl
  have X₁ : K.In h₁ := X.keeps hk₁
  have bk₁ : ∀ b o, base.get? b = some o → h₁.get? b = some o := fun b o e => hk₁ _ _ (bk _ _ e)
  have hx₁ := hk₁ _ _ hx
  have hxL : s.heap.objs.size ≠ x := Nat.ne_of_gt (Heap.lt_size hx)
  have hxC : x ≠ C := fun z => by
    rw [z, hC] at hnx
    cases hnx
  obtain ⟨oD, hD1, hD2⟩ : ∃ oD, h₁.get? C = some oD ∧ ∃ cd, oD.data = .cls cd := ⟨_, X₁ _ _ hC, _, rfl⟩
  obtain ⟨cd, hD2⟩ := hD2
  obtain ⟨mb, hb1, hb2⟩ := Md.blt
  refine ks_wpAt_execs_cons (ks_wpAt_Expr_any (ks_wpAt_MethodCall ?_))
  refine ks_wpAt_super_base (by rfl) (by rfl) (by decide) rfl (X₁ _ _ ho) rfl rfl rfl (X₁ _ _ hcode) rfl hvs hfile T.top_ ?_
  refine ks_loadName_global rfl (by rfl) (loadGlobal_builtin (Md.glob.keeps bk₁) T.zS (hb1.keeps bk₁) ((hb2 _ (by decide)).trans PyProof.Rows.Boot.«super») ⟨rfl, ?_⟩)
  refine wpAny_loadName_free rfl (by rfl) rfl ⟨_, X₁ _ _ hcell, rfl⟩ ?_
  refine wpAny_loadName_local rfl (by rfl) hns (by rfl) ?_
  refine ks_wpAny_isType_cls hD1 hD2 ⟨rfl, ?_⟩
  refine ks_wpAny_call_super hD1 hD2 hx₁ rfl (fun c e => nomatch e) (looks_mroIn X₁ T.mro) (fun h₂ e₂ k₂ => ?_)
  have X₂ : K.In h₂ := X₁.keeps k₂
  have hx₂ := k₂ _ _ hx₁
  have I₂ : InstAt h₂ x (excO C t0) C none := ⟨hx₂, rfl, rfl, trivial⟩
  have sup := T.sup
  unfold ks_superIn at sup
  rw [hcl] at sup
  refine kxs_getMethod kxs_ValueError e₂ (looks_opaque X₂ T.tp) (l₀ := .ref C :: bm) ((looks_clsIn X₂ hcl).andThen .now) rfl X₂ sup (I₂.type.andThen (looks_subIn X₂ T.ve)) hxC (by decide) ?_
  -- the call: its one argument
  have hlt : s.heap.objs.size < h₁.objs.size := hns.lt
  refine kxs_callWith (i := "ValueError.__init__") (x := x) (first := []) (by rfl) (evalArgs_plain ?_)
  have up₂ : ∀ b o, h₁.get? b = some o → (h₂.push (kxs_mw "ValueError.__init__" x)).get? b = some o := fun b o e => Heap.get?_push_of_some _ (k₂ _ _ e)
  refine spliced_cons (wpAny_JoinedStr (pos := ⟨0, 0, 0, 0⟩) ?_)
  refine Calls.Constant_str ⟨_, _, rfl, by decide, ?_⟩
  show wpAny _ _ (eval (.FormattedValue (.Name "index" _) (-1) none _) _) _ _ _
  refine wpAny_FormattedValue_plain (wpAny_Name ?_ (by decide))
  refine wpAny_loadName_local rfl (by rfl) (hns.keeps up₂) (by rfl) ?_
  refine told_field V fun y t tk hy => ⟨y, t, rfl, ?len, ?len2, ?_⟩
  case len =>
    rw [str_len, str_len, sizeLine_eq]
    have : (Str.empty.length : Nat) + ("no program: " : Str).length ≤ 1000 := by decide +kernel
    omega
  case len2 =>
    rw [str_len, str_len, sizeLine_eq]
    have : (Str.empty.length : Nat) + ("no program: " : Str).length ≤ 1000 := by decide +kernel
    omega
  refine spliced_nil ⟨Heap.get?_push_at rfl rfl, ?_⟩
  -- ValueError.__init__ bound
  have hu : (h₂.push (kxs_mw "ValueError.__init__" x)).get? h₂.objs.size = some (kxs_mw "ValueError.__init__" x) := Heap.get?_push_at rfl rfl
  have hx₃ := up₂ _ _ hx₁
  have hC₃ := up₂ _ _ (X₁ _ _ hC)
  generalize h₂.push (kxs_mw "ValueError.__init__" x) = h₃ at up₂ hu hx₃ hC₃ ⊢
  refine init_call hC₃ hx₃ hu (by show 1 ≤ sizeLine; rw [sizeLine_eq]; decide) fun h₄ k₄ hx₄ => ?_
  have hL₃ := hns.keeps up₂
  have hns₄ : h₄.Ns s.heap.objs.size (fun y => List.lookup y [(("self" : Str), Value.ref x), ("index", v)].reverse) := by
    obtain ⟨oL, es, ep, hL, r⟩ := hL₃
    exact ⟨oL, es, ep, k₄ _ _ hxL hL, r⟩
  have k0 : ∀ b o, b ≠ x → s.heap.get? b = some o → h₄.get? b = some o := fun b o hb e => k₄ b o hb (up₂ _ _ (hk₁ _ _ e))
  have X₄ : K.In h₄ := fun a o e => k0 a o (fun z => by rw [z, hnx] at e; cases e) (X a o e)
  -- self.index = index
  refine wpAt_of_wpAny (wpAny_execs_cons (plainObj_wpAny_Assign_Attribute ?_))
  refine wpAny_Name (wpAny_loadName_local rfl (by rfl) hns₄ (by rfl) ?_) (by decide)
  refine wpAny_Name (wpAny_loadName_local rfl (by rfl) hns₄ (by rfl) ?_) (by decide)
  refine set_plain X₄ (ox := excO C h₃.objs.size) (od := none) ⟨hx₄, rfl, rfl, trivial⟩ T.sa ?_
  refine exc_osa X₄ hx₄ hcl (show refsVE (.ref C :: bm) = true from hbm) rfl T.noN (fun h₅ tk₅ dx k₅ dn dne hx₅ hn₅ => ?_)
  show wpAny _ _ (execs _ _) _ _ _
  have zz : s.heap.objs.size ≤ h₄.objs.size := Nat.le_of_lt hns₄.lt
  exact wpAny_execs_nil (hq h₅ tk₅ dx _ ⟨fun b o hb e => k₅ b o hb (k0 b o hb e), hx₅, Nat.le_trans zz dn, dne, hn₅⟩)
/-- a made BadProgram -/
structure OwnMade (h h' : Heap) (e C d : Addr) (v : Value) : Prop where
  keep : ∀ b o, h.get? b = some o → h'.get? b = some o
  new : h.objs.size ≤ e
  obj : ∃ oe vs, h'.get? e = some oe ∧ oe.cls = .ref C ∧ oe.dict = some d ∧ oe.data = .fields vs ∧ vs[1]? = some .none
  dbig : h.objs.size ≤ d
  dne : d ≠ e
  ns : h'.Ns1 d (fun y => if y = "index" then some v else none)
theorem made (T : Ty prog K mg C fI cc cda) {v : Value} (V : Told v) (Md : L2.Mod K mg base) (bk : ∀ b o, base.get? b = some o → s.heap.get? b = some o) (hroom : A.depth + 1 < recursionLimit)
    (hq : ∀ h' tk e d, OwnMade s.heap h' e C d v → R (.ok (.ret (.ref e))) { s with heap := h', toks := tk }) : codeAny (model prog w) A (.call (.ref C) ⟨[v], []⟩) R s := by
  obtain ⟨nm, q, N, bs, bm, sn, sub, ab, col, dd, k0, k1, k2, k3, k5, hC, hbm⟩ := T.cls
  obtain ⟨hp, g, dr, tk, os⟩ := s
  have X : K.In hp := fun a o e => bk _ _ (Md.kin a o e)
  have k : ∀ b o, hp.get? b = some o → ((hp.push (kdv_tup [v])).push (excO C hp.objs.size)).get? b = some o := fun b o e => Heap.get?_push_of_some _ (Heap.get?_push_of_some _ e)
  have hget : ((hp.push (kdv_tup [v])).push (excO C hp.objs.size)).get? (hp.objs.size + 1) = some (excO C hp.objs.size) := by heap_get
  have hnx : K.lookup (hp.objs.size + 1) = none := by
    cases e : K.lookup (hp.objs.size + 1) with
    | none => rfl
    | some o =>
      have z : hp.get? (hp.objs.size + 1) = some o := X _ _ e
      exact absurd (Nat.lt_of_succ_lt (Heap.lt_size z)) (Nat.lt_irrefl _)
  have one : [v].length ≤ sizeLine := by
    rw [sizeLine_eq]
    exact (by decide : 1 ≤ 16777216)
  refine call_own F.excBase_ValueError (fun Y => refsVE_contains Y bm hbm) (X _ _ hC) (looks_findIn X T.iC) (fun self => bind_fn X self T.tC) one ?_
  refine init_ok (s := ⟨(hp.push (kdv_tup [v])).push (excO C hp.objs.size), g, dr, tk, os⟩) T V Md (fun b o e => k b o (bk b o e)) hget hnx ?_ fun h' tk' dx t1 ⟨k', hx, dn, dne, hns⟩ => ?_
  · show A.depth + 1 < recursionLimit
    exact hroom
  · have old : ∀ b o, hp.get? b = some o → h'.get? b = some o := fun b o e => k' b o (Nat.ne_of_lt (Nat.lt_succ_of_lt (Heap.lt_size e))) (k b o e)
    have z : hp.objs.size + 1 + 1 ≤ dx := by
      first
        | (simpa only [Heap.size_push] using dn)
        | exact dn
        | (have q := dn; rw [Heap.size_push, Heap.size_push] at q; exact q)
    exact ⟨rfl, hq h' tk' (hp.objs.size + 1) dx ⟨old, Nat.le_succ _, ⟨_, _, hx, rfl, rfl, rfl, rfl⟩, Nat.le_trans (Nat.le_trans (Nat.le_succ _) (Nat.le_succ _)) z, dne, hns⟩⟩
end
open L2
theorem relO_fld {v : V} {v' : Value} (r : RelV v v') (f : Str) : RelO (List.lookup f [(("index" : Str), v)]) (if f = "index" then some v' else none) := by
  by_cases hw : f = "index"
  · subst hw
    rw [if_pos rfl]
    have q : List.lookup ("index" : Str) [(("index" : Str), v)] = some v := by simp [List.lookup]
    rw [q]
    exact r
  · rw [if_neg hw]
    have qw : (f == ("index" : Str)) = false := by simpa using hw
    have q2 : List.lookup f [(("index" : Str), v)] = none := by simp [List.lookup, qw]
    rw [q2]
    trivial
/-- a value that may be told -/
def ToldV (v : V) : Prop := v = .non ∨ (∃ i, v = .int i ∧ i.natAbs.log2 < 1920) ∨ ∃ y, v = .str y ∧ y.length ≤ 1000
theorem ToldV.told {v : V} {u : Value} (h : ToldV v) (r : RelV v u) : Told u := by
  rcases h with rfl | ⟨i, rfl, hi⟩ | ⟨y, rfl, hy⟩
  · exact .inl r
  · obtain ⟨t, rfl⟩ := r
    exact .inr (.inl ⟨i, t, rfl, hi⟩)
  · obtain ⟨t, rfl⟩ := r
    exact .inr (.inr ⟨y, t, rfl, hy⟩)
section
variable {X : Cx} {C fI cc cda : Addr}
/-- BadProgram(e) -/
def tMk (C : Addr) (ta : TA) : L2.St → Hp → XK → Prop := fun σ H Q => ta σ H fun vs H1 => ∃ v, vs = [v] ∧ ToldV v ∧ ∀ d, H1 d = none → Q (.ref C) (some d) (upd H1 d (.xd [(("index" : Str), v)]))
theorem pmk {a : Expr} {ta : TA} {p pos : Pos} {k : Nat} (T : Ty X.prog X.K X.mg C fI cc cda) (hr : Room k X.A) (ha : PA X [a] ta) (hg : Gl X "BadProgram" := by rfl)
    (he : starEach (a :: []) X.env = (false, eval a X.env) :: starEach [] X.env := by rfl) (hpl : (backTo pos (starEach [] X.env)).any (·.1) = false := by rfl) :
    PMk X (.Call (.Name "BadProgram" p) [a] [] pos) (tMk C ta) := by
  intro pins s σ H Q I h
  refine wpAny_Call_Name_kw (ld_glob I hg T.gC ?_)
  refine PySem.W.callWith_K (h₀ := X.base) I.ok.mod.kin T.kC (thn (ha.run pos pins s σ H _ I h) fun us s1 hh => ?_) he hpl
  obtain ⟨vs, H1, I1, r1, v, ev, tv, q1⟩ := hh
  subst ev
  refine ⟨I1.kIn, ?_⟩
  cases r1 with
  | cons rv rn =>
    rename_i v' us'
    cases rn
    show wpAny _ _ (call (.ref C) [v']) _ _ _
    have bk1 := I1.bk
    obtain ⟨hp, g, dr, tk, os⟩ := s1
    refine wpAny_call (made T (tv.told rv) I1.ok.mod bk1 (by have := hr.dp; omega) fun h' tk' e d M => ?_)
    show MkP X pins σ Q (.ref e) ⟨h', g, dr, tk', os⟩
    obtain ⟨oe, fv, hoe, hc, hd, hdat, h1⟩ := M.obj
    have hns := M.ns
    obtain ⟨G', g1, g2⟩ := restrict h' fun b => decide (b ≠ e)
    have gk : ∀ b, b ≠ e → G'.get? b = h'.get? b := fun b hb => g1 b (decide_eq_true hb)
    have ge : G'.get? e = none := g2 e (by simp)
    have old : ∀ b o, hp.get? b = some o → G'.get? b = some o := fun b o q => (gk b (Nat.ne_of_lt (Nat.lt_of_lt_of_le (Heap.lt_size q) M.new))).trans (M.keep b o q)
    have ob : ObjOk X.prog X.w (upd H1 d (.xd [(("index" : Str), v)])) G' d (.xd [(("index" : Str), v)]) :=
      ⟨_, hns.at (fun o q => (gk d M.dne).trans q), fun f => relO_fld rv f⟩
    have J : Inv X pins σ (upd H1 d (.xd [(("index" : Str), v)])) ⟨G', g, dr, tk', os⟩ := I1.laid (t' := tk') old M.dbig ob
    refine ⟨e, oe, fv, ⟨G', g, dr, tk', os⟩, _, .ref C, some d, rfl, J, fun b o q => ?_, ge, hoe, ⟨hc, hd⟩, hdat, h1, ?_, rfl, I1.bare, raises_own T.exC T.tyC, q1 d (I1.hok.fresh M.dbig)⟩
    · by_cases hb : b = e
      · have q' : G'.get? b = some o := q
        rw [hb, ge] at q'; cases q'
      · exact (gk b hb).symm.trans q
    · rw [upd_ne (Ne.symm M.dne)]
      exact I1.hok.fresh M.new
/-- raise BadProgram(e) -/
def tRaise (C : Addr) (W : WX) (ta : TA) : TS := fun _ σ H => tMk C ta σ H fun cls d H' => W cls d σ H'
theorem ps_raise_ {a : Expr} {ta : TA} {W : WX} {p pos pos2 : Pos} {k : Nat} (hc : X.calm = true) (T : Ty X.prog X.K X.mg C fI cc cda) (hr : Room k X.A) (tk : Takes X W) (ha : PA X [a] ta) (hg : Gl X "BadProgram" := by rfl)
    (he : starEach (a :: []) X.env = (false, eval a X.env) :: starEach [] X.env := by rfl) (hpl : (backTo pos (starEach [] X.env)).any (·.1) = false := by rfl) :
    PS X (.Raise (some (.Call (.Name "BadProgram" p) [a] [] pos)) none pos2) (tRaise C W ta) := ps_raise hc tk (pmk T hr ha hg he hpl)
/-- e.index, e the exception that the suite holds -/
def tBy (C : Addr) (a : Addr) (cls : Value) (d : Option Addr) (te : TE) : TE := fun σ H Q => te σ H fun x H1 => x = .ref a ∧ cls = .ref C ∧ ∃ (dd : Addr) (v : V), d = some dd ∧ H1 dd = some (.xd [(("index" : Str), v)]) ∧ Q v H1
theorem pe_by {a : Addr} {oe : Obj} {cls : Value} {d : Option Addr} {pn : List (Addr × Obj)} {e : Expr} {te : TE} {pos : Pos} (T : Ty X.prog X.K X.mg C fI cc cda) (hz : Zc cls d oe) (hf : ∃ vs, oe.data = .fields vs) (he : PE (X.suite a ((a, oe) :: pn)) e te)
    (hb : attributeBase e "index" X.env (eval e X.env) = eval e X.env := by rfl) :
    PE (X.suite a ((a, oe) :: pn)) (.Attribute e "index" pos) (tBy C a cls d te) := by
  refine ⟨fun pins s σ H Q I h => ?_⟩
  refine attr_of hb (thn (he.run pins s σ H _ I h) fun u s1 hh => ?_)
  obtain ⟨x, H1, I1, rx, ex, ec, dd, v, ed, ea, q⟩ := hh
  subst ex
  obtain rfl : u = Value.ref a := rx
  subst ec
  subst ed
  obtain ⟨ha, _⟩ := I1.pin (a, oe) (List.mem_append_left _ List.mem_cons_self)
  obtain ⟨vs, hd⟩ := hf
  have hx : ObjOk X.prog X.w H1 s1.heap dd (.xd [(("index" : Str), v)]) := I1.hok dd _ ea
  obtain ⟨mA, hns, hr⟩ := hx
  obtain ⟨od, ho, hl⟩ := lookIn_ns hns
  have l : List.lookup ("index" : Str) [(("index" : Str), v)] = some v := by simp [List.lookup]
  obtain ⟨u, hu, ru⟩ := RelO.some_of (v := v) (o := mA "index") (by rw [← l]; exact hr "index")
  have J : PySem.W.InstAt s1.heap a oe C (some od) := ⟨ha, hz.1, by unfold PySem.W.notCls; rw [hd] <;> rfl, by rw [hz.2]; exact ho⟩
  exact HandSPX.exc_get I1.kIn J T.ga T.gg T.exC (PySem.W.findObj_own T.hdC T.noN rfl (by rw [hl, hu])) (handed_of ru) ⟨v, H1, I1.tok _, ru, q⟩
end
end NS_BadProgram
end Fm
set_option Elab.async false
set_option linter.all false
set_option maxRecDepth 100000
set_option maxHeartbeats 1000000
namespace Fm
open PySem L2 Evl
/-- an own class that says no more than its name, under ValueError -/
structure BaseE (K : PySem.W.Frag) (mg : Str → Option Value) (x : Str) (C : Addr) : Prop where
  gC : mg x = some (.ref C)
  kC : PySem.W.keepIn K (.ref C) = true
  q : PySem.W.excIn K C [.type "ValueError", .type "Exception", .type "BaseException", .type "object"] "ValueError.__new__" = true
  ex : PySem.W.subIn K (.ref C) (.type "BaseException") = some true
  ty : PySem.W.typeIn K (.ref C) = some (.type "type")
  te : PySem.W.exmOne K (.ref C) (.ref C) = some true
theorem log_small {i : Int} (h1 : -1000000 ≤ i) (h2 : i ≤ 1000000) : i.natAbs.log2 < 1920 := by
  have h : i.natAbs < 2 ^ 20 := by omega
  by_cases z : i.natAbs = 0
  · rw [z]; decide
  · have := (Nat.log2_lt z).mpr h
    omega
theorem text_len {i : Int} (h1 : -1000000 ≤ i) (h2 : i ≤ 1000000) : (Str.ofString (toString i)).length ≤ 10000 := by
  have e := int_text_length_le (k := 1920) (by decide) (log_small h1 h2)
  rw [PySem.ofString_length]
  omega
theorem strA (a b : Str) : (a ++ b).length = a.length + b.length := Array.size_append
def spChkNumX (K : PySem.W.Frag) (C : Addr) : Sp := fun vs H _ E => ∃ (v : V) (lo hi : Int) (o : Option Int), vs = [v, .int lo, .int hi] ∧ IntV K H v o ∧ inRange o lo hi = false ∧ -1000000 ≤ lo ∧ lo ≤ 1000000 ∧ -1000000 ≤ hi ∧ hi ≤ 1000000 ∧ ∀ H', Ex H H' → E (.ref C) none H'
section
variable {P : Program} {w : World} {K : PySem.W.Frag} {mg : Str → Option Value} {base : Heap}

--TY check_number {'@over':{'raise':{'BadNumber':'own1'}}}
theorem okX_check_number {f f1 CBN : Addr} {fd fd1 : FuncData} (F : Fun K "check_number" "check_number" s_check_number f fd) (T : Txt K mg) (B_BadNumber : BaseE K mg "BadNumber" CBN) (C_is_integer : Cal P w K mg base CX0 2 "is_integer" f1 fd1 ["value", "low", "high"] (spIsInt K)) : FnOk P w K mg base (L2.CX P w) 3 f fd ["value", "low", "high"] (spChkNumX K CBN) := by
  refine F.okX sc_check_number (fun vs H Q E h => ?_) (fun cdv A outer s H vs Q E hr h => ?_)
  · obtain ⟨_, _, _, _, rfl, _⟩ := h
    rfl
  · obtain ⟨v, lo, hi, o, rfl, hv, ho, h1, h2, h3, h4, k⟩ := h
    refine ⟨_, (pss_one (ps_if (pt_not (pt_val (pe_call C_is_integer.G (hr.mono (by first | decide | omega)) rfl C_is_integer.g C_is_integer.kp C_is_integer.b .nil pass0 (pa_cons (pv 0) (pa_cons (pv 1) (pa_cons (pv 2) pa_nil)))))) (pss_one (ps_raise rfl (takes_of rfl rfl rfl rfl) (SkE.pmk_own1 PySem.F.excBase_ValueError B_BadNumber.q B_BadNumber.gC B_BadNumber.kC (raises_own B_BadNumber.ex B_BadNumber.ty) rfl (pe_joined (PJ.cons pe_str (PJ.cons (pe_fmt (pv 1)) (PJ.cons pe_str (PJ.cons (pe_fmt (pv 2)) PJ.nil)))))))) pss_nil)), ?_⟩
    refine s_when (b := true) (et_not (a := false) (et_B (ev_callV (ea_cons (ev_var rfl) (ea_cons (ev_var rfl) (ea_cons (ev_var rfl) ea_nil))) fun H1 e1 Q q => ⟨_, lo, hi, o, rfl, hv.up e1, fun H2 e2 => ?_⟩))) (fun _ H1 e1 => ?_) fun z => nomatch z
    · rw [ho]
      exact q H2 e2
    · have l1 := text_len h1 h2
      have l2 := text_len h3 h4
      refine ⟨_, rfl, ?_, ?_⟩
      · rw [strA, sizeLine_eq]
        decide +kernel
      refine ⟨_, rfl, .inr ⟨lo, rfl, log_small h1 h2, _, rfl, ?_, ?_⟩⟩
      · rw [strA, strA, sizeLine_eq]
        have : (Str.empty.length : Nat) + ("no integer from " : Str).length ≤ 1000 := by decide +kernel
        omega
      refine ⟨_, rfl, ?_, ?_⟩
      · rw [strA, strA, strA, sizeLine_eq]
        have : (Str.empty.length : Nat) + ("no integer from " : Str).length + (" to " : Str).length ≤ 1000 := by decide +kernel
        omega
      refine ⟨_, rfl, .inr ⟨hi, rfl, log_small h3 h4, _, rfl, ?_, ?_⟩⟩
      · rw [strA, strA, strA, strA, sizeLine_eq]
        have : (Str.empty.length : Nat) + ("no integer from " : Str).length + (" to " : Str).length ≤ 1000 := by decide +kernel
        omega
      exact k H1 e1
end
/-- what is no tuple of so many -/
def BadLen (K : PySem.W.Frag) (H : Hp) (v : V) (m : Nat) : Prop := (∃ t, TyX K H v (.type t) ∧ kitB t "tuple" = some false) ∨ ∃ a xs, v = .ref a ∧ SqT K H a xs ∧ ¬ (1 ≤ xs.length ∧ xs.length ≤ m)
theorem BadLen.up {K : PySem.W.Frag} {H H' : Hp} {v : V} {m : Nat} (e : Ex H H') (h : BadLen K H v m) : BadLen K H' v m := by
  rcases h with ⟨t, h, z⟩ | ⟨a, xs, h, h2, z⟩
  · exact .inl ⟨t, tyx_up e h, z⟩
  · exact .inr ⟨a, xs, h, ex_t e h2, z⟩
def ErrIx (CBP : Addr) (H : Hp) (E : XK) : Prop := ∀ d H', Ex H H' → H' d = none → E (.ref CBP) (some d) (upd H' d (.xd [(("index" : Str), .non)]))
def spChkLenX (K : PySem.W.Frag) (C : Addr) : Sp := fun vs H _ E => ∃ (v : V) (m : Nat), vs = [v, .int (m : Nat)] ∧ BadLen K H v m ∧ ErrIx C H E
def spChkPgX (K : PySem.W.Frag) (C : Addr) : Sp := fun vs H _ E => ∃ (c : Int) (v : V), vs = [.int c, v] ∧ BadLen K H v 20 ∧ ErrIx C H E
theorem ErrIx.up {C : Addr} {H H' : Hp} {E : XK} (e : Ex H H') (h : ErrIx C H E) : ErrIx C H' E := fun d H2 e2 hd => h d H2 (e.trans e2) hd
section
variable {P : Program} {w : World} {K : PySem.W.Frag} {mg : Str → Option Value} {base : Heap}
theorem q_callX {sp : Sp} {W : L2.St → XK} {ta : TA} {vs : List V} {D : Ends} {tz : TS} {σ : L2.St} {H : Hp} (h : EvA ta σ H vs) (k : ∀ H1, Ex H H1 → sp vs H1 (fun _ H2 => tz D σ H2) (W σ)) : tSeq (tDrop (tCallS sp W ta)) tz D σ H := h H (Ex.refl H) _ k
theorem s_callX {sp : Sp} {W : L2.St → XK} {ta : TA} {vs : List V} {D : Ends} {σ : L2.St} {H : Hp} (h : EvA ta σ H vs) (k : ∀ H1, Ex H H1 → sp vs H1 (fun _ H2 => D.nx σ H2) (W σ)) : tDrop (tCallS sp W ta) D σ H := h H (Ex.refl H) _ k
--TY check_length {'value':('tuple','any'),'@over':{'raise':{'BadProgram':'sup'}}}
theorem okX_check_length {f CBP fI cc cda : Addr} {fd : FuncData} (F : Fun K "check_length" "check_length" s_check_length f fd) (T : Txt K mg) (T_BadProgram : NS_BadProgram.Ty P K mg CBP fI cc cda) : FnOk P w K mg base (L2.CX P w) 3 f fd ["value", "most"] (spChkLenX K CBP) := by
  refine F.okX sc_check_length (fun vs H Q E h => ?_) (fun cdv A outer s H vs Q E hr h => ?_)
  · obtain ⟨_, _, rfl, _⟩ := h
    rfl
  · obtain ⟨v, m, rfl, hb, k⟩ := h
    refine ⟨_, (pss_one (ps_if (PW.pt (pw_or (pt_not (pt_val (pe_callB (isi_K (K := K) rfl) (by rfl) T.z_isinstance (by decide +kernel) (pa_cons (pv 0) (pa_cons (pe_bltn (v := .ty "tuple") (by rfl) T.z_tuple (by decide +kernel) rfl) pa_nil))))) (pw_or1 (pt_not (pt_chain op_le op_le pe_int (pe_callB (len_K (K := K) rfl) (by rfl) T.z_len (by decide +kernel) (pa_cons (pv 0) pa_nil)) (pv 1)))))) (pss_one (NS_BadProgram.ps_raise_ rfl T_BadProgram hr (takes_of rfl rfl rfl rfl) (pa_cons pe_non pa_nil))) pss_nil)), ?_⟩
    refine s_when (b := true) ?_ (fun _ H1 e1 => ⟨.non, rfl, .inl rfl, fun d hd => k d H1 e1 hd⟩) fun z => nomatch z
    rcases hb with ⟨t, ty, hk⟩ | ⟨a, xs, rfl, ha, hn⟩
    · exact et_is (et_or (b := true) (et_not (et_B (ev_isi (ev_var rfl) ty hk))) fun z => nomatch z) rfl
    · refine et_is (et_or (b := true) (et_not (et_B (ev_isi (t := "tuple") (b := true) (ev_var rfl) (ty_tup ha) (by decide +kernel)))) fun _ => et_is (et_not (et_test (ev_chain ev_c (ev_lnT (ev_var rfl) ha) (ev_var rfl)))) ?_) rfl
      by_cases h1 : 1 ≤ xs.length
      · rw [decide_eq_true (show (1 : Int) ≤ (xs.length : Int) by omega), decide_eq_false (show ¬ (xs.length : Int) ≤ (m : Int) from fun z => hn ⟨h1, by omega⟩)]
        rfl
      · rw [decide_eq_false (show ¬ (1 : Int) ≤ (xs.length : Int) by omega)]
        rfl
--TY check_program {'value':('tuple','any'),'@over':{'X':1,'S':['check_length']}}
theorem okX_check_program {f f1 f2 CBP : Addr} {fd fd1 fd2 : FuncData} (F : Fun K "check_program" "check_program" s_check_program f fd) (T : Txt K mg) (C_check_lengthX : Cal P w K mg base (L2.CX P w) 3 "check_length" f1 fd1 ["value", "most"] (spChkLenX K CBP)) (C_is_instruction : Cal P w K mg base CX0 3 "is_instruction" f2 fd2 ["cells", "length", "value"] (spIsIn K)) : FnOk P w K mg base (L2.CX P w) 4 f fd ["cells", "value"] (spChkPgX K CBP) := by
  refine F.okX sc_check_program (fun vs H Q E h => ?_) (fun cdv A outer s H vs Q E hr h => ?_)
  · obtain ⟨_, _, rfl, _⟩ := h
    rfl
  · obtain ⟨c, v, rfl, hb, k⟩ := h
    refine ⟨_, (pss_cons (ps_expr (pe_callS C_check_lengthX.G (hr.mono (by first | decide | omega)) rfl C_check_lengthX.g C_check_lengthX.kp C_check_lengthX.b (fun σ => passAt (takes_of rfl rfl rfl rfl) σ) (pa_cons (pv 1) (pa_cons (pe_glob (v := .int 20) rfl T.c_MOST_INSTRUCTIONS.choose_spec ⟨_, rfl⟩) pa_nil))))
  (pss_one (ps_for (passes_of rfl) rfl (pi_enumT (by rfl) T.z_enumerate (pa_cons (pv 1) pa_nil)) (pg_tup rfl (pgs_cons (pg_name (i := 2) sc_check_program.nd rfl (by first | exact Or.inl rfl | exact Or.inr rfl)) (pgs_cons (pg_name (i := 3) sc_check_program.nd rfl (by first | exact Or.inl rfl | exact Or.inr rfl)) pgs_nil))) (pss_one (ps_if (pt_not (pt_val (pe_call C_is_instruction.G (hr.mono (by first | decide | omega)) rfl C_is_instruction.g C_is_instruction.kp C_is_instruction.b .nil pass0 (pa_cons (pv 0) (pa_cons (pe_callB (len_K (K := K) rfl) (by rfl) T.z_len (by decide +kernel) (pa_cons (pv 1) pa_nil)) (pa_cons (pv 3) pa_nil)))))) (pss_one ps_never) pss_nil))))), ?_⟩
    exact q_callX (ea_cons (ev_var rfl) (ea_cons ev_c ea_nil)) fun H1 e1 => ⟨v, 20, rfl, hb.up e1, k.up e1⟩
end
end Fm
set_option Elab.async false
set_option linter.all false
set_option maxRecDepth 100000
set_option maxHeartbeats 1000000
namespace Fm
open PySem L2 Evl RZ
def ErrIxV (CBP : Addr) (H : Hp) (E : XK) (v : V) : Prop := ∀ d H', Ex H H' → H' d = none → E (.ref CBP) (some d) (upd H' d (.xd [(("index" : Str), v)]))
theorem ErrIxV.up {C : Addr} {H H' : Hp} {E : XK} {v : V} (e : Ex H H') (h : ErrIxV C H E v) : ErrIxV C H' E v := fun d H2 e2 hd => h d H2 (e.trans e2) hd
def ErrB (C : Addr) (H : Hp) (E : XK) : Prop := ∀ H', Ex H H' → E (.ref C) none H'
theorem ErrB.up {C : Addr} {H H' : Hp} {E : XK} (e : Ex H H') (h : ErrB C H E) : ErrB C H' E := fun H2 e2 => h H2 (e.trans e2)
/-- a program whose first item that is none stands at j -/
def BentAt (K : PySem.W.Frag) (H : Hp) (c : Nat) (a : Addr) (j : Nat) : Prop := ∃ (xs : List V) (p0 : List In) (v : V), SqT K H a xs ∧ 1 ≤ xs.length ∧ xs.length ≤ 20 ∧ Paired (InAt K H) (xs.take j) p0 ∧ (∀ i ∈ p0, i.ok c xs.length ∧ i.isTouch = false) ∧ xs[j]? = some v ∧ BadIn K H c xs.length v
theorem BentAt.up {K : PySem.W.Frag} {H H' : Hp} {c j : Nat} {a : Addr} (e : Ex H H') (h : BentAt K H c a j) : BentAt K H' c a j := let ⟨xs, p0, v, h1, h2, h3, h4, h5, h6, h7⟩ := h; ⟨xs, p0, v, ex_t e h1, h2, h3, Paired.mapP h4 fun _ _ z => z.up e, h5, h6, h7.up e⟩
def spChkPgI (K : PySem.W.Frag) (C : Addr) : Sp := fun vs H _ E => ∃ (c : Nat) (a : Addr) (j : Nat), vs = [.int (c : Int), .ref a] ∧ BentAt K H c a j ∧ ErrIxV C H E (.int (j : Nat))
def spLastX (K : PySem.W.Frag) (C : Addr) : Sp := fun vs H _ E => ∃ (c : Nat) (a : Addr) (j : Nat) (v w : V), vs = [.int (c : Nat), .ref a, v, w] ∧ 1 ≤ c ∧ c ≤ 4 ∧ BentAt K H c a j ∧ ErrIxV C H E (.int (j : Nat))
/-- what are no lives -/
def BadLi (K : PySem.W.Frag) (H : Hp) (fs : List Nat) (v : V) : Prop := (∃ t, TyX K H v (.type t) ∧ kitB t "tuple" = some false) ∨ ∃ a xs, v = .ref a ∧ SqT K H a xs ∧ (xs.length ≠ fs.length ∨ (xs.length = fs.length ∧ ∃ (y : V) (o : Option Int) (f : Nat), xs[0]? = some y ∧ fs[0]? = some f ∧ IntV K H y o ∧ inRange o 0 (f : Int) = false))
theorem BadLi.up {K : PySem.W.Frag} {H H' : Hp} {fs : List Nat} {v : V} (e : Ex H H') (h : BadLi K H fs v) : BadLi K H' fs v := by
  rcases h with ⟨t, h, z⟩ | ⟨a, xs, h, h2, h3 | ⟨h3, y, o, f, h4, h5, h6, h7⟩⟩
  · exact .inl ⟨t, tyx_up e h, z⟩
  · exact .inr ⟨a, xs, h, ex_t e h2, .inl h3⟩
  · exact .inr ⟨a, xs, h, ex_t e h2, .inr ⟨h3, y, o, f, h4, h5, h6.up e, h7⟩⟩
def spChkLiX (K : PySem.W.Frag) (C : Addr) : Sp := fun vs H _ E => ∃ (m : Addr) (fs rs : List Nat) (v : V), vs = [.ref m, v] ∧ MaT K H m fs rs ∧ MaOk fs rs ∧ BadLi K H fs v ∧ ErrB C H E
def spChkCeX (K : PySem.W.Frag) (C : Addr) : Sp := fun vs H _ E => ∃ (m : Addr) (fs rs : List Nat) (v : V) (o : Option Int), vs = [.ref m, v] ∧ MaT K H m fs rs ∧ MaOk fs rs ∧ IntV K H v o ∧ inRange o 0 ((fs.length : Int) - 1) = false ∧ ErrB C H E
def spTouchX (K : PySem.W.Frag) (C : Addr) : Sp := fun vs H _ E => ∃ (m : Addr) (fs rs : List Nat) (v c : V), vs = [.ref m, v, c] ∧ MaT K H m fs rs ∧ MaOk fs rs ∧ BadLi K H fs v ∧ ErrB C H E
def spSetX (K : PySem.W.Frag) (C : Addr) : Sp := fun vs H _ E => ∃ (m l : Addr) (fs rs ls : List Nat) (v : V) (o : Option Int), vs = [.ref m, .ref l, v] ∧ MaT K H m fs rs ∧ MaOk fs rs ∧ SqT K H l (nV ls) ∧ LiOk fs ls ∧ IntV K H v o ∧ inRange o 0 ((fs.length : Int) - 1) = false ∧ ErrB C H E
section
variable {P : Program} {w : World} {K : PySem.W.Frag} {mg : Str → Option Value} {base : Heap}
--TY check_program {'value':('tuple','any'),'@over':{'X':1,'raise':{'BadProgram':'sup'}}}
theorem okI_check_program {f f1 f2 CBP fI cc cda : Addr} {fd fd1 fd2 : FuncData} (F : Fun K "check_program" "check_program" s_check_program f fd) (T : Txt K mg) (T_BadProgram : NS_BadProgram.Ty P K mg CBP fI cc cda) (C_check_length : Cal P w K mg base CX0 2 "check_length" f1 fd1 ["value", "most"] (spChkLen K)) (C_is_instruction : Cal P w K mg base CX0 3 "is_instruction" f2 fd2 ["cells", "length", "value"] (fun vs H Q E => spIsIn K vs H Q E ∨ spIsNo K vs H Q E)) : FnOk P w K mg base (L2.CX P w) 4 f fd ["cells", "value"] (spChkPgI K CBP) := by
  refine F.okX sc_check_program (fun vs H Q E h => ?_) (fun cdv A outer s H vs Q E hr h => ?_)
  · obtain ⟨_, _, _, rfl, _⟩ := h
    rfl
  · obtain ⟨c, a, j, rfl, ⟨xs, p0, v, hx, h1, h20, hp0, hok, hv, hbad⟩, k⟩ := h
    refine ⟨_, (pss_cons (ps_expr (pe_call C_check_length.G (hr.mono (by first | decide | omega)) rfl C_check_length.g C_check_length.kp C_check_length.b .nil pass0 (pa_cons (pv 1) (pa_cons (pe_glob (v := .int 20) rfl T.c_MOST_INSTRUCTIONS.choose_spec ⟨_, rfl⟩) pa_nil))))
  (pss_one (ps_for (passes_of rfl) rfl (pi_enumT (by rfl) T.z_enumerate (pa_cons (pv 1) pa_nil)) (pg_tup rfl (pgs_cons (pg_name (i := 2) sc_check_program.nd rfl (by first | exact Or.inl rfl | exact Or.inr rfl)) (pgs_cons (pg_name (i := 3) sc_check_program.nd rfl (by first | exact Or.inl rfl | exact Or.inr rfl)) pgs_nil))) (pss_one (ps_if (pt_not (pt_val (pe_call C_is_instruction.G (hr.mono (by first | decide | omega)) rfl C_is_instruction.g C_is_instruction.kp C_is_instruction.b .nil pass0 (pa_cons (pv 0) (pa_cons (pe_callB (len_K (K := K) rfl) (by rfl) T.z_len (by decide +kernel) (pa_cons (pv 1) pa_nil)) (pa_cons (pv 3) pa_nil)))))) (pss_one (NS_BadProgram.ps_raise_ rfl T_BadProgram hr (takes_of rfl rfl rfl rfl) (pa_cons (pv 2) pa_nil))) pss_nil))))), ?_⟩
    refine q_call (ea_cons (ev_var rfl) (ea_cons ev_c ea_nil)) fun H1 e1 => ⟨a, xs, 20, rfl, ex_t e1 hx, h1, h20, fun H2 e2 => ?_⟩
    have e02 := e1.trans e2
    have hjl := (List.getElem?_eq_some_iff.mp hv).1
    refine s_forET (ev_var rfl) (ex_t e02 hx) (fun m σ H' => Ex H H' ∧ m ≤ j ∧ ∃ y z, σ = [some (.int (c : Int)), some (.ref a), y, z]) (fun H3 e3 => ⟨e02.trans e3, Nat.zero_le _, _, _, rfl⟩) (fun m σ H' _ ⟨e, _⟩ => ex_t e hx) ?_ fun σ H' ⟨e, hm, _⟩ => absurd hm (by omega)
    rintro m x σ H' hm ⟨e, hmj, y, z, rfl⟩ H3 e3
    have hx3 := ex_t (e.trans e3) hx
    by_cases hlt : m < j
    · have hxt : (xs.take j)[m]? = some x := by rw [List.getElem?_take_of_lt hlt]; exact hm
      obtain ⟨i, hi, hin⟩ : ∃ i, p0[m]? = some i ∧ InAt K H x i := by
        have hl0 : (xs.take j).length = p0.length := Paired.length hp0
        have hml : m < p0.length := by rw [← hl0]; exact (List.getElem?_eq_some_iff.mp hxt).1
        obtain ⟨x', hx', hin⟩ := paired_get hp0 (List.getElem?_eq_getElem hml)
        rw [hxt] at hx'
        cases hx'
        exact ⟨_, List.getElem?_eq_getElem hml, hin⟩
      have hok2 := hok i (List.mem_of_getElem? hi)
      refine s_when (b := false) (et_not (a := true) (et_B (ev_callV (ea_cons (ev_var rfl) (ea_cons (ev_lnT (ev_var rfl) hx3) (ea_cons (ev_var rfl) ea_nil))) fun H4 e4 Q q => .inl ⟨c, xs.length, _, _, rfl, hin.up ((e.trans e3).trans e4), hok2.1, hok2.2, q⟩))) (fun z => nomatch z) fun _ H4 e4 => ⟨(e.trans e3).trans e4, hlt, _, _, rfl⟩
    · have hmj2 : m = j := by omega
      subst hmj2
      rw [hm] at hv
      cases hv
      refine s_when (b := true) (et_not (a := false) (et_B (ev_callV (ea_cons (ev_var rfl) (ea_cons (ev_lnT (ev_var rfl) hx3) (ea_cons (ev_var rfl) ea_nil))) fun H4 e4 Q q => .inr ⟨c, xs.length, _, rfl, hbad.up ((e.trans e3).trans e4), q⟩))) (fun _ H4 e4 => ?_) fun z => nomatch z
      exact ⟨_, rfl, _, rfl, .inr (.inl ⟨_, rfl, log_small (by omega) (by omega)⟩), fun d hd => k d H4 ((e.trans e3).trans e4) hd⟩
--TY run_lasting {'run':('inst','Run'),'program':T,'inputs':T,'ticks':'int','most':'int','@over':{'X':1,'S':['check_program']}}
theorem okX_run_lasting {f f1 f2 f3 f4 f5 f6 f7 fI C CBP : Addr} {fd fd1 fd2 fd3 fd4 fd5 fd6 fd7 fdI : FuncData} (F : Fun K "run_lasting" "run_lasting" s_run_lasting f fd) (T : Txt K mg) (T_Run : RunT K C) (C_check_cells : Cal P w K mg base CX0 4 "check_cells" f1 fd1 ["value"] spChkCells) (C_check_programX : Cal P w K mg base (L2.CX P w) 4 "check_program" f2 fd2 ["cells", "value"] (spChkPgI K CBP)) (C_check_inputs : Cal P w K mg base CX0 3 "check_inputs" f3 fd3 ["value"] (spChkInp K)) (C_check_number : Cal P w K mg base CX0 3 "check_number" f4 fd4 ["value", "low", "high"] spChkNum)
    (M_Run : MkRun P w K mg base C fI fdI) (M_Run_is_over : MCal P w K mg base C 2 "is_over" f5 fd5 ["self"] (spOver K C)) (M_Run_act : MCal P w K mg base C 3 "act" f6 fd6 ["self"] (spAct K C)) (C_told : Cal P w K mg base CX0 3 "told" f7 fd7 ["run", "ticks"] (spTold K C)) : FnOk P w K mg base (L2.CX P w) 5 f fd ["cells", "program", "inputs", "most"] (spLastX K CBP) := by
  refine F.okX sc_run_lasting (fun vs H Q E h => ?_) (fun cdv A outer s H vs Q E hr h => ?_)
  · obtain ⟨_, _, _, _, _, rfl, _⟩ := h
    rfl
  · obtain ⟨c, a, j, v, w, rfl, hc1, hc4, hb, k⟩ := h
    refine ⟨_, (pss_cons (ps_expr (pe_call C_check_cells.G (hr.mono (by first | decide | omega)) rfl C_check_cells.g C_check_cells.kp C_check_cells.b .nil pass0 (pa_cons (pv 0) pa_nil)))
  (pss_cons (ps_expr (pe_callS C_check_programX.G (hr.mono (by first | decide | omega)) rfl C_check_programX.g C_check_programX.kp C_check_programX.b (fun σ => passAt (takes_of rfl rfl rfl rfl) σ) (pa_cons (pv 0) (pa_cons (pv 1) pa_nil))))
  (pss_cons (ps_expr (pe_call C_check_inputs.G (hr.mono (by first | decide | omega)) rfl C_check_inputs.g C_check_inputs.kp C_check_inputs.b .nil pass0 (pa_cons (pv 2) pa_nil)))
  (pss_cons (ps_expr (pe_call C_check_number.G (hr.mono (by first | decide | omega)) rfl C_check_number.g C_check_number.kp C_check_number.b .nil pass0 (pa_cons (pv 3) (pa_cons pe_int (pa_cons (pe_glob (v := .int 20000) rfl T.c_MOST_TICKS.choose_spec ⟨_, rfl⟩) pa_nil)))))
  (pss_cons (ps_set (i := 4) sc_run_lasting.nd rfl (Or.inl rfl) (pe_make M_Run.M M_Run.G (hr.mono (by first | decide | omega)) rfl M_Run.g M_Run.b .nil pass0 (pa_cons (pv 0) (pa_cons (pv 1) (pa_cons (pv 2) pa_nil)))))
  (pss_cons (ps_set (i := 5) sc_run_lasting.nd rfl (Or.inl rfl) pe_int)
  (pss_cons (ps_while (passes_of rfl) (PW.pt (pw_and (pt_cmpR op_lt (pv 5) (pv 3) (nomark _)) (pw_and1 (pt_not (pt_val (pe_meth0 (pv 4) T_Run.cl M_Run_is_over.m M_Run_is_over.G (hr.mono (by first | decide | omega)) M_Run_is_over.b .nil pass0)))))) (pss_cons (ps_expr (pe_meth0 (pv 4) T_Run.cl M_Run_act.m M_Run_act.G (hr.mono (by first | decide | omega)) M_Run_act.b .nil pass0))
  (pss_one (ps_aug (i := 5) sc_run_lasting.nd rfl (Or.inl rfl) pe_int ip_add))))
  (pss_one (ps_ret (pe_call C_told.G (hr.mono (by first | decide | omega)) rfl C_told.g C_told.kp C_told.b .nil pass0 (pa_cons (pv 4) (pa_cons (pv 5) pa_nil)))))))))))), ?_⟩
    refine q_call (ea_cons (ev_var rfl) ea_nil) fun H1 e1 => ⟨c, rfl, hc1, hc4, fun H2 e2 => ?_⟩
    have e02 := e1.trans e2
    exact q_callX (ea_cons (ev_var rfl) (ea_cons (ev_var rfl) ea_nil)) fun H3 e3 => ⟨c, a, j, rfl, hb.up (e02.trans e3), k.up (e02.trans e3)⟩
def spChkCeOfX (K : PySem.W.Frag) (CBC : Addr) : Sp := fun vs H Q E => ∃ (n : Nat) (v : V) (o : Option Int), vs = [.int (n : Nat), v] ∧ n ≤ 1000 ∧ IntV K H v o ∧ inRange o 0 ((n : Int) - 1) = false ∧ ∀ H', Ex H H' → E (.ref CBC) none H'
--TY check_cell_of {'cells':'int','@over':{'X':1,'raise':{'BadCell':'own1'}}}
theorem okX_check_cell_of {f f1 CBC : Addr} {fd fd1 : FuncData} (F : Fun K "check_cell_of" "check_cell_of" s_check_cell_of f fd) (T : Txt K mg) (B_BadCell : BaseE K mg "BadCell" CBC) (C_is_integer : Cal P w K mg base CX0 2 "is_integer" f1 fd1 ["value", "low", "high"] (spIsInt K)) : FnOk P w K mg base (L2.CX P w) 3 f fd ["cells", "value"] (spChkCeOfX K CBC) := by
  refine F.okX sc_check_cell_of (fun vs H Q E h => ?_) (fun cdv A outer s H vs Q E hr h => ?_)
  · obtain ⟨_, _, _, rfl, _⟩ := h
    rfl
  · obtain ⟨n, v, o, rfl, hn, hv, ho, k⟩ := h
    refine ⟨_, (pss_one (ps_if (pt_not (pt_val (pe_call C_is_integer.G (hr.mono (by first | decide | omega)) rfl C_is_integer.g C_is_integer.kp C_is_integer.b .nil pass0 (pa_cons (pv 1) (pa_cons pe_int (pa_cons (pe_op op_sub (pv 0) pe_int) pa_nil)))))) (pss_one (ps_raise rfl (takes_of rfl rfl rfl rfl) (SkE.pmk_own1 PySem.F.excBase_ValueError B_BadCell.q B_BadCell.gC B_BadCell.kC (raises_own B_BadCell.ex B_BadCell.ty) rfl (pe_joined (PJ.cons pe_str (PJ.cons (pe_fmt (pv 0)) PJ.nil)))))) pss_nil)), ?_⟩
    refine s_when (b := true) (et_not (a := false) (et_B (ev_callV (ea_cons (ev_var rfl) (ea_cons ev_c (ea_cons (ev_i0 (ev_var rfl) ev_c) ea_nil))) fun H1 e1 Q' q => ⟨_, 0, (n : Int) - 1, o, rfl, hv.up e1, fun H2 e2 => by
      rw [ho]
      exact q H2 e2⟩))) (fun _ H1 e1 => ?_) fun z => nomatch z
    have l1 := text_len (i := (n : Int)) (by omega) (by omega)
    refine ⟨_, rfl, ?_, ?_⟩
    · rw [strA, sizeLine_eq]
      decide +kernel
    refine ⟨_, rfl, .inr ⟨(n : Int), rfl, log_small (by omega) (by omega), _, rfl, ?_, ?_⟩⟩
    · rw [strA, strA, sizeLine_eq]
      have : (Str.empty.length : Nat) + ("no cell of " : Str).length ≤ 1000 := by decide +kernel
      omega
    exact k H1 e1
--TY check_cell {'machine':('tuple',T),'@over':{'X':1,'S':['check_cell_of']}}
theorem okX_check_cell {f f1 CBC : Addr} {fd fd1 : FuncData} (F : Fun K "check_cell" "check_cell" s_check_cell f fd) (T : Txt K mg) (C_check_cell_ofX : Cal P w K mg base (L2.CX P w) 3 "check_cell_of" f1 fd1 ["cells", "value"] (spChkCeOfX K CBC)) : FnOk P w K mg base (L2.CX P w) 4 f fd ["machine", "value"] (spChkCeX K CBC) := by
  refine F.okX sc_check_cell (fun vs H Q E h => ?_) (fun cdv A outer s H vs Q E hr h => ?_)
  · obtain ⟨_, _, _, _, _, rfl, _⟩ := h
    rfl
  · obtain ⟨m, fs, rs, v, o, rfl, ⟨a, b, hm, ha, hb⟩, ok, hv, ho, k⟩ := h
    refine ⟨_, (pss_one (ps_expr (pe_callS C_check_cell_ofX.G (hr.mono (by first | decide | omega)) rfl C_check_cell_ofX.g C_check_cell_ofX.kp C_check_cell_ofX.b (fun σ => passAt (takes_of rfl rfl rfl rfl) σ) (pa_cons (pe_callB (len_K (K := K) rfl) (by rfl) T.z_len (by decide +kernel) (pa_cons (pe_ix (ix_K (K := K) rfl) (pv 0) pe_int (fun _ _ => rfl)) pa_nil)) (pa_cons (pv 1) pa_nil))))), ?_⟩
    have hll := ok.ll
    have hl4 := ok.l4
    exact s_callX (ea_cons (ev_lnT (ev_ixT (ev_var rfl) ev_c hm rfl) ha) (ea_cons (ev_var rfl) ea_nil)) fun H1 e1 => ⟨(nV fs).length, v, o, rfl, by rw [nV_len]; omega, hv.up e1, by rw [nV_len]; exact ho, fun H2 e2 => k H2 (e1.trans e2)⟩
--TY behind_set {'@over':{'X':1,'S':['check_cell']}}
theorem okX_behind_set {f f1 f2 f3 f4 CBC : Addr} {fd fd1 fd2 fd3 fd4 : FuncData} (F : Fun K "behind_set" "behind_set" s_behind_set f fd) (T : Txt K mg) (C_check_machine : Cal P w K mg base CX0 4 "check_machine" f1 fd1 ["value"] (spChkMa K)) (C_check_lives : Cal P w K mg base CX0 3 "check_lives" f2 fd2 ["machine", "value"] (spChkLi K)) (C_check_cellX : Cal P w K mg base (L2.CX P w) 4 "check_cell" f3 fd3 ["machine", "value"] (spChkCeX K CBC)) (C_lives_set : Cal P w K mg base CX0 3 "lives_set" f4 fd4 ["machine", "lives", "cell"] (spSet K)) : FnOk P w K mg base (L2.CX P w) 5 f fd ["machine", "lives", "cell"] (spSetX K CBC) := by
  refine F.okX sc_behind_set (fun vs H Q E h => ?_) (fun cdv A outer s H vs Q E hr h => ?_)
  · obtain ⟨_, _, _, _, _, _, _, rfl, _⟩ := h
    rfl
  · obtain ⟨m, l, fs, rs, ls, v, o, rfl, hM, ok, hl, hli, hv, ho, k⟩ := h
    refine ⟨_, (pss_cons (ps_expr (pe_call C_check_machine.G (hr.mono (by first | decide | omega)) rfl C_check_machine.g C_check_machine.kp C_check_machine.b .nil pass0 (pa_cons (pv 0) pa_nil)))
  (pss_cons (ps_expr (pe_call C_check_lives.G (hr.mono (by first | decide | omega)) rfl C_check_lives.g C_check_lives.kp C_check_lives.b .nil pass0 (pa_cons (pv 0) (pa_cons (pv 1) pa_nil))))
  (pss_cons (ps_expr (pe_callS C_check_cellX.G (hr.mono (by first | decide | omega)) rfl C_check_cellX.g C_check_cellX.kp C_check_cellX.b (fun σ => passAt (takes_of rfl rfl rfl rfl) σ) (pa_cons (pv 0) (pa_cons (pv 2) pa_nil))))
  (pss_one (ps_ret (pe_call C_lives_set.G (hr.mono (by first | decide | omega)) rfl C_lives_set.g C_lives_set.kp C_lives_set.b .nil pass0 (pa_cons (pv 0) (pa_cons (pv 1) (pa_cons (pv 2) pa_nil))))))))), ?_⟩
    refine q_call (ea_cons (ev_var rfl) ea_nil) fun H1 e1 => ⟨m, fs, rs, rfl, hM.up e1, ok, fun H2 e2 => ?_⟩
    have e02 := e1.trans e2
    refine q_call (ea_cons (ev_var rfl) (ea_cons (ev_var rfl) ea_nil)) fun H3 e3 => ⟨m, l, fs, rs, ls, rfl, hM.up (e02.trans e3), ok, ex_t (e02.trans e3) hl, hli, fun H4 e4 => ?_⟩
    have e04 := (e02.trans e3).trans e4
    exact q_callX (ea_cons (ev_var rfl) (ea_cons (ev_var rfl) ea_nil)) fun H5 e5 => ⟨m, fs, rs, v, o, rfl, hM.up (e04.trans e5), ok, hv.up (e04.trans e5), ho, k.up (e04.trans e5)⟩
--TY check_lives {'value':T,'fades':T,'machine':('tuple',T),'life':'any','@over':{'X':1,'raise':{'BadLives':'own1'}}}
theorem okX_check_lives {f f1 CBL : Addr} {fd fd1 : FuncData} (F : Fun K "check_lives" "check_lives" s_check_lives f fd) (T : Txt K mg) (B_BadLives : BaseE K mg "BadLives" CBL) (C_is_integer : Cal P w K mg base CX0 2 "is_integer" f1 fd1 ["value", "low", "high"] (spIsInt K)) : FnOk P w K mg base (L2.CX P w) 3 f fd ["machine", "value"] (spChkLiX K CBL) := by
  refine F.okX sc_check_lives (fun vs H Q E h => ?_) (fun cdv A outer s H vs Q E hr h => ?_)
  · obtain ⟨_, _, _, _, rfl, _⟩ := h
    rfl
  · obtain ⟨m, fs, rs, v, rfl, ⟨a, b, hm, ha, hb⟩, ok, hbad, k⟩ := h
    refine ⟨_, (pss_cons (ps_set (i := 2) sc_check_lives.nd rfl (Or.inl rfl) (pe_ix (ix_K (K := K) rfl) (pv 0) pe_int (fun _ _ => rfl)))
  (pss_cons (ps_if (PW.pt (pw_or (pt_not (pt_val (pe_callB (isi_K (K := K) rfl) (by rfl) T.z_isinstance (by decide +kernel) (pa_cons (pv 1) (pa_cons (pe_bltn (v := .ty "tuple") (by rfl) T.z_tuple (by decide +kernel) rfl) pa_nil))))) (pw_or1 (pt_cmpR op_ne (pe_callB (len_K (K := K) rfl) (by rfl) T.z_len (by decide +kernel) (pa_cons (pv 1) pa_nil)) (pe_callB (len_K (K := K) rfl) (by rfl) T.z_len (by decide +kernel) (pa_cons (pv 2) pa_nil)) (nomark _))))) (pss_one (ps_raise rfl (takes_of rfl rfl rfl rfl) (SkE.pmk_own1 PySem.F.excBase_ValueError B_BadLives.q B_BadLives.gC B_BadLives.kC (raises_own B_BadLives.ex B_BadLives.ty) rfl pe_str))) pss_nil)
  (pss_one (ps_for (passes_of rfl) rfl (pi_zipA (by rfl) T.z_zip (pa_cons (pv 1) (pa_cons (pv 2) pa_nil))) (pg_tup rfl (pgs_cons (pg_name (i := 3) sc_check_lives.nd rfl (by first | exact Or.inl rfl | exact Or.inr rfl)) (pgs_cons (pg_name (i := 4) sc_check_lives.nd rfl (by first | exact Or.inl rfl | exact Or.inr rfl)) pgs_nil))) (pss_one (ps_if (pt_not (pt_val (pe_call C_is_integer.G (hr.mono (by first | decide | omega)) rfl C_is_integer.g C_is_integer.kp C_is_integer.b .nil pass0 (pa_cons (pv 3) (pa_cons pe_int (pa_cons (pv 4) pa_nil)))))) (pss_one (ps_raise rfl (takes_of rfl rfl rfl rfl) (SkE.pmk_own1 PySem.F.excBase_ValueError B_BadLives.q B_BadLives.gC B_BadLives.kC (raises_own B_BadLives.ex B_BadLives.ty) rfl pe_str))) pss_nil)))))), ?_⟩
    refine q_asg (ev_ixT (ev_var rfl) ev_c hm rfl) fun H1 e1 => ?_
    rcases hbad with ⟨t, ty, hk⟩ | ⟨q, xs, rfl, hq, hne | ⟨hl, y, o, f0, hy, hf0, hyv, hyo⟩⟩
    · exact q_when (b := true) (et_is (et_or (a := true) (b := true) (et_not (a := false) (et_B (ev_isi (ev_var rfl) (tyx_up e1 ty) hk))) fun z => nomatch z) rfl) (fun _ H2 e2 => k H2 (e1.trans e2)) fun z => nomatch z
    · exact q_when (b := true) (et_is (et_or (a := false) (b := true) (et_not (a := true) (et_B (ev_isi (t := "tuple") (b := true) (ev_var rfl) (ty_tup (ex_t e1 hq)) (by decide +kernel)))) fun _ => et_is (et_ne (ev_lnT (ev_var rfl) (ex_t e1 hq)) (ev_lnT (ev_var rfl) (ex_t e1 ha)) rfl) (by rw [nV_len, decide_eq_false fun z => hne (by have := V.int.inj z; omega)]; rfl)) rfl) (fun _ H2 e2 => k H2 (e1.trans e2)) fun z => nomatch z
    · have hll : xs.length = (nV fs).length := by rw [nV_len]; exact hl
      refine q_when (b := false) (et_is (et_or (a := false) (b := false) (et_not (a := true) (et_B (ev_isi (t := "tuple") (b := true) (ev_var rfl) (ty_tup (ex_t e1 hq)) (by decide +kernel)))) fun _ => et_is (et_ne (ev_lnT (ev_var rfl) (ex_t e1 hq)) (ev_lnT (ev_var rfl) (ex_t e1 ha)) rfl) (by rw [hll]; simp)) rfl) (fun z => nomatch z) fun _ H2 e2 => ?_
      have e02 := e1.trans e2
      have h0 : 0 < xs.length := (List.getElem?_eq_some_iff.mp hy).1
      refine s_forZT (xs := xs) (ys := nV fs) (ea_cons (ev_var rfl) (ea_cons (ev_var rfl) ea_nil)) (ex_t e02 hq) (ex_t e02 ha) hll (fun i σ H' => ∃ z3 z4 : Option V, Ex H2 H' ∧ i = 0 ∧ σ = [some (.ref m), some (.ref q), some (.ref a), z3, z4]) (fun H3 e3 => ⟨_, _, e3, rfl, rfl⟩) (fun i σ H' ⟨_, _, e, _⟩ => e) ?_ ?_
      · rintro i x yy σ H3 hx hyy ⟨z3, z4, e3, rfl, rfl⟩ H4 e4
        rw [hy] at hx
        cases hx
        obtain ⟨u, hu, rfl⟩ := nV_get hyy
        rw [hf0] at hu
        cases hu
        refine s_when (b := true) (et_not (a := false) (et_B (ev_callV (ea_cons (ev_var rfl) (ea_cons ev_c (ea_cons (ev_var rfl) ea_nil))) fun H5 e5 Q' q => ⟨_, 0, (f0 : Int), o, rfl, hyv.up ((e02.trans (e3.trans e4)).trans e5), fun H6 e6 => by
          rw [hyo]
          exact q H6 e6⟩))) (fun _ H5 e5 => k H5 ((e02.trans (e3.trans e4)).trans e5)) fun z => nomatch z
      · rintro σ H3 ⟨_, _, _, hz, _⟩
        omega
--TY behind_touch {'@over':{'X':1,'S':['check_lives']}}
theorem okX_behind_touch {f f1 f2 f3 f4 CBL : Addr} {fd fd1 fd2 fd3 fd4 : FuncData} (F : Fun K "behind_touch" "behind_touch" s_behind_touch f fd) (T : Txt K mg) (C_check_machine : Cal P w K mg base CX0 4 "check_machine" f1 fd1 ["value"] (spChkMa K)) (C_check_livesX : Cal P w K mg base (L2.CX P w) 3 "check_lives" f2 fd2 ["machine", "value"] (spChkLiX K CBL)) (C_check_cell : Cal P w K mg base CX0 4 "check_cell" f3 fd3 ["machine", "value"] (spChkCe K)) (C_lives_touched : Cal P w K mg base CX0 2 "lives_touched" f4 fd4 ["machine", "lives", "cell"] (spTouched K)) : FnOk P w K mg base (L2.CX P w) 5 f fd ["machine", "lives", "cell"] (spTouchX K CBL) := by
  refine F.okX sc_behind_touch (fun vs H Q E h => ?_) (fun cdv A outer s H vs Q E hr h => ?_)
  · obtain ⟨_, _, _, _, _, rfl, _⟩ := h
    rfl
  · obtain ⟨m, fs, rs, v, cv, rfl, hM, ok, hb, k⟩ := h
    refine ⟨_, (pss_cons (ps_expr (pe_call C_check_machine.G (hr.mono (by first | decide | omega)) rfl C_check_machine.g C_check_machine.kp C_check_machine.b .nil pass0 (pa_cons (pv 0) pa_nil)))
  (pss_cons (ps_expr (pe_callS C_check_livesX.G (hr.mono (by first | decide | omega)) rfl C_check_livesX.g C_check_livesX.kp C_check_livesX.b (fun σ => passAt (takes_of rfl rfl rfl rfl) σ) (pa_cons (pv 0) (pa_cons (pv 1) pa_nil))))
  (pss_cons (ps_expr (pe_call C_check_cell.G (hr.mono (by first | decide | omega)) rfl C_check_cell.g C_check_cell.kp C_check_cell.b .nil pass0 (pa_cons (pv 0) (pa_cons (pv 2) pa_nil))))
  (pss_one (ps_ret (pe_call C_lives_touched.G (hr.mono (by first | decide | omega)) rfl C_lives_touched.g C_lives_touched.kp C_lives_touched.b .nil pass0 (pa_cons (pv 0) (pa_cons (pv 1) (pa_cons (pv 2) pa_nil))))))))), ?_⟩
    refine q_call (ea_cons (ev_var rfl) ea_nil) fun H1 e1 => ⟨m, fs, rs, rfl, hM.up e1, ok, fun H2 e2 => ?_⟩
    have e02 := e1.trans e2
    exact q_callX (ea_cons (ev_var rfl) (ea_cons (ev_var rfl) ea_nil)) fun H3 e3 => ⟨m, fs, rs, v, rfl, hM.up (e02.trans e3), ok, hb.up (e02.trans e3), k.up (e02.trans e3)⟩
end
end Fm
set_option Elab.async false
set_option linter.all false
set_option maxRecDepth 100000
set_option maxHeartbeats 1000000
open L2
namespace Fm
namespace NS_BadMachine
open PySem PySem.W PySem.Calls PyProof.Rows PySem.HandSPX
def iA (p1 p2 : Pos) : Arguments := { posonlyargs := [], args := [{ arg := "self", annotation := none, pos := p1 }, { arg := "part", annotation := none, pos := p2 }], vararg := none, kwonlyargs := [], kw_defaults := [], kwarg := none, defaults := [] }
def iS : Scope := { kind := .function, names := [(PySem.Str.ofString "self", .local), (PySem.Str.ofString "part", .local), (PySem.Str.ofString "__class__", .free), (PySem.Str.ofString "super", .globalImplicit)], isGenerator := false, isCoroutine := false, more := [] }
abbrev sI : Stmt := inClass (top 2) 0
/-- what the written part says of BadMachine, at C, of its __init__, at fI, of the cell of its class, at cc, of the code, at cda -/
structure Ty (P : Program) (K : Frag) (mg : Str → Option Value) (C fI cc cda : Addr) : Prop where
  gC : mg "BadMachine" = some (.ref C)
  zS : mg "super" = none
  tp : nsIn K cStatics "thirdparty.any" = some none
  cls : ∃ nm q N bs bm sn sub ab col dd k0 k1 k2 k3 k5, K.lookup C = some (excClassObj nm q C N bs bm true sn sub ab col dd k0 k1 k2 k3 k5 "ValueError.__new__") ∧ refsVE bm = true
  sup : ks_superIn K C C "__init__" = some (some (.builtin "ValueError.__init__"))
  mro : mroIn K C (.ref C) = some true
  ve : subIn K (.ref C) (.type "ValueError") = some true
  sa : findIn K (.ref C) "__setattr__" = some (some (.builtin "object.__setattr__"))
  ga : findIn K (.ref C) "__getattribute__" = some (some (.builtin "BaseException.__getattribute__"))
  gg : findIn K (.ref C) "__getattr__" = some none
  noN : findIn K (.ref C) "part" = some none
  iC : findIn K (.ref C) "__init__" = some (some (.ref fI))
  tC : typeIn K (.ref fI) = some (.type "function")
  kC : keepIn K (.ref C) = true
  exC : subIn K (.ref C) (.type "BaseException") = some true
  tyC : typeIn K (.ref C) = some (.type "type")
  hdC : hasDictIn K C = true
  te : exmOne K (.ref C) (.ref C) = some true
  file : ∃ (ccl : Value) (cdd : Option Addr) (vs : Array Value) (ccs : Array (Option Value)) (fl : Str) (tf : Tok), K.lookup cda = some ⟨ccl, cdd, .fields vs, ccs⟩ ∧ vs[2]? = some (.str fl tf) ∧ ((P.main.file : Str) == fl) = true
  cell : ∃ (cl : Value) (cld : Option Addr) (csl : Array (Option Value)), K.lookup cc = some ⟨cl, cld, .cell (some (.ref C)), csl⟩
  top_ : (P.main.scope.names.lookup ("super" : Str)).isSome = false
  fn : ∃ (oc : Value) (od : Option Addr) (doc pm : Value) (an : Option Addr) (ct : Value) (osl : Array (Option Value)),
    K.lookup fI = some ⟨oc, od, .func (ksFn "__init__" "BadMachine.__init__" (defArgs sI) (defBody sI) (defScope sI) .none .none doc pm an (.ref cda) ct cc), osl⟩ ∧ codeIn K (.ref cda) "BadMachine.__init__" = true
/-- a value that is told well in a text -/
def Told (v : Value) : Prop := v = .none ∨ (∃ i t, v = .int i t ∧ i.natAbs.log2 < 1920) ∨ ∃ y t, v = .str y t ∧ y.length ≤ 1000
structure InitEnd (h h' : Heap) (x C dx t1 : Addr) (v : Value) : Prop where
  keep : ∀ b o, b ≠ x → h.get? b = some o → h'.get? b = some o
  obj : h'.get? x = some { cls := .ref C, dict := some dx, data := .fields #[.ref t1, .none, .none, .none, .bool false, .none] }
  dbig : h.objs.size ≤ dx
  dne : dx ≠ x
  ns : h'.Ns1 dx (fun y => if y = "part" then some v else none)
section
variable {prog : Program} {w : World} {A : Around} {E : Value → Shared → Prop} {R : Result → Shared → Prop} {s : Shared} {K : Frag} {mg : Str → Option Value} {base : Heap} {C fI cc cda : Addr}
theorem str_len (a b : Str) : (a ++ b).length = a.length + b.length := Array.size_append
theorem told_field {v : Value} (V : Told v) {s : Shared} {Q : Value → Shared → Prop} (h : ∀ y t tk, y.length ≤ 10000 → Q (.str y t) { s with toks := tk }) : wpAny (model prog w) A (formatField v Str.empty) Q E s := by
  rcases V with rfl | ⟨i, t, rfl, hi⟩ | ⟨y, t, rfl, hy⟩
  · exact wpAny_formatField_none (h _ _ _ (by decide))
  · refine wpAny_formatField_int hi (h _ _ _ ?_)
    have e := int_text_length_le (k := 1920) (by decide) hi
    show (Str.ofString (toString i)).length ≤ 10000
    rw [PySem.ofString_length]
    omega
  · exact wpAny_formatField_str (by obtain ⟨_, _, _, _, _⟩ := s; exact h _ _ _ (by omega)) (h _ _ _ (by omega)) (by rw [sizeLine_eq]; omega)
theorem init_call {h : Heap} {g : Array GenState} {d : Drawn} {t : Nat} {os : OsState} {nm q : Str} {N u e t0 : Addr} {bs bm : List Value} {hdct : Bool} {sn : List Str} {sub : List Value} {ab : Bool} {col : Option Bool} {dd : Option Addr} {k0 k1 k2 k3 k5 : Option Value} {rest : List Value} {Q : Value → Shared → Prop}
    (hC : h.get? C = some (excClassObj nm q C N bs bm hdct sn sub ab col dd k0 k1 k2 k3 k5 "ValueError.__new__")) (he : h.get? e = some (excO C t0)) (hu : h.get? u = some (kxs_mw "ValueError.__init__" e)) (hrest : rest.length ≤ sizeLine)
    (hq : ∀ h', (∀ b o, b ≠ e → h.get? b = some o → h'.get? b = some o) → h'.get? e = some (excO C h.objs.size) → Q .none ⟨h', g, d, t, os⟩) : wpAny (model prog w) A (call (.ref u) rest) Q E ⟨h, g, d, t, os⟩ := by
  refine wpAny_call (codeAny_of_tree (show wpAny (model prog w) A.in1 (callAny (.ref u) ⟨rest, []⟩) _ _ _ from ?_))
  have yes : (Value.type "method-wrapper" == Value.type "method" || Value.type "method-wrapper" == Value.type "builtin_function_or_method" || Value.type "method-wrapper" == Value.type "method-wrapper") = true := by decide
  simp only [callAny]; refine wpAny_bind (wpAny_load hu ?_); simp only [kxs_mw, yes, if_true]
  refine KFB.if_so (by decide) (wpAny_bind (check_bound_init F.excBase_ValueError.toExcCallFacts hC he rfl (wpAny_bind (wpAny_pure (wpAny_pure ⟨plainId_quiet F.excBase_ValueError.init.plain _, codeAny_builtin F.excBase_ValueError.initEntry ?_⟩)))))
  exact exc_init_tree (cls := .ref C) (t0 := t0) (dv := none) (c2 := .none) (c3 := .none) (b4 := .bool false) he hrest fun h' a b _ => hq h' a b
theorem init_ok (T : Ty prog K mg C fI cc cda) {x t0 : Addr} {v : Value} (V : Told v) (Md : L2.Mod K mg base) (bk : ∀ b o, base.get? b = some o → s.heap.get? b = some o) (hx : s.heap.get? x = some (excO C t0)) (hnx : K.lookup x = none) (hroom : A.depth < recursionLimit)
    (hq : ∀ h' tk dx t1, InitEnd s.heap h' x C dx t1 v → R (.ok (.ret .none)) { s with heap := h', toks := tk }) : codeAny (model prog w) A (.call (.ref fI) ⟨[.ref x, v], []⟩) R s := by
  obtain ⟨oc, od, doc, pm, an, ct, osl, ho, hcd⟩ := T.fn
  obtain ⟨ccl, cdd, vs, ccs, fl, tf, hcode, hvs, hfile⟩ := T.file
  obtain ⟨cl, cld, csl, hcell⟩ := T.cell
  obtain ⟨nm, q, N, bs, bm, sn, sub, ab, col, dd, k0, k1, k2, k3, k5, hC, hbm⟩ := T.cls
  have hcl : clsIn K C = some { name := nm, bases := bs, mro := .ref C :: bm, ns := N, qualname := q, hasDict := true, slotNames := sn, subclasses := sub, abstract := ab, collection := col, hasDel := false } := by unfold clsIn; rw [hC] <;> rfl
  have X : K.In s.heap := fun a o e => bk _ _ (Md.kin a o e)
  have nocell : ∀ y ∈ (defScope sI).names, y.2 ≠ .cell := by decide +kernel
  have loc : ∀ y ∈ [(("self" : Str), Value.ref x), ("part", v)], (defScope sI).names.lookup y.1 = some .local := fun y hy => by
    rcases List.mem_cons.mp hy with rfl | hy
    · show (defScope sI).names.lookup ("self" : Str) = some .local
      decide +kernel
    · rcases List.mem_cons.mp hy with rfl | hy
      · show (defScope sI).names.lookup ("part" : Str) = some .local
        decide +kernel
      · cases hy
  refine ks_codeAny_call_defAt (a := fI) (args := ⟨[.ref x, v], []⟩) (binds := [("self", .ref x), ("part", v)]) hroom (X _ _ ho) rfl (Md.nolimit.keeps bk) (codeRec_of X hcd) rfl (BindsTo.of_eq (by first | rfl | with_unfolding_all rfl)) nocell loc (fun h₁ hns hk₁ => ?_) rfl rfl rfl
  have X₁ : K.In h₁ := X.keeps hk₁
  have bk₁ : ∀ b o, base.get? b = some o → h₁.get? b = some o := fun b o e => hk₁ _ _ (bk _ _ e)
  have hx₁ := hk₁ _ _ hx
  have hxL : s.heap.objs.size ≠ x := Nat.ne_of_gt (Heap.lt_size hx)
  have hxC : x ≠ C := fun z => by
    rw [z, hC] at hnx
    cases hnx
  obtain ⟨oD, hD1, hD2⟩ : ∃ oD, h₁.get? C = some oD ∧ ∃ cd, oD.data = .cls cd := ⟨_, X₁ _ _ hC, _, rfl⟩
  obtain ⟨cd, hD2⟩ := hD2
  obtain ⟨mb, hb1, hb2⟩ := Md.blt
  refine ks_wpAt_execs_cons (ks_wpAt_Expr_any (ks_wpAt_MethodCall ?_))
  refine ks_wpAt_super_base (by rfl) (by rfl) (by decide) rfl (X₁ _ _ ho) rfl rfl rfl (X₁ _ _ hcode) rfl hvs hfile T.top_ ?_
  refine ks_loadName_global rfl (by rfl) (loadGlobal_builtin (Md.glob.keeps bk₁) T.zS (hb1.keeps bk₁) ((hb2 _ (by decide)).trans PyProof.Rows.Boot.«super») ⟨rfl, ?_⟩)
  refine wpAny_loadName_free rfl (by rfl) rfl ⟨_, X₁ _ _ hcell, rfl⟩ ?_
  refine wpAny_loadName_local rfl (by rfl) hns (by rfl) ?_
  refine ks_wpAny_isType_cls hD1 hD2 ⟨rfl, ?_⟩
  refine ks_wpAny_call_super hD1 hD2 hx₁ rfl (fun c e => nomatch e) (looks_mroIn X₁ T.mro) (fun h₂ e₂ k₂ => ?_)
  have X₂ : K.In h₂ := X₁.keeps k₂
  have hx₂ := k₂ _ _ hx₁
  have I₂ : InstAt h₂ x (excO C t0) C none := ⟨hx₂, rfl, rfl, trivial⟩
  have sup := T.sup
  unfold ks_superIn at sup
  rw [hcl] at sup
  refine kxs_getMethod kxs_ValueError e₂ (looks_opaque X₂ T.tp) (l₀ := .ref C :: bm) ((looks_clsIn X₂ hcl).andThen .now) rfl X₂ sup (I₂.type.andThen (looks_subIn X₂ T.ve)) hxC (by decide) ?_
  -- the call: its one argument
  have hlt : s.heap.objs.size < h₁.objs.size := hns.lt
  refine kxs_callWith (i := "ValueError.__init__") (x := x) (first := []) (by rfl) (evalArgs_plain ?_)
  have up₂ : ∀ b o, h₁.get? b = some o → (h₂.push (kxs_mw "ValueError.__init__" x)).get? b = some o := fun b o e => Heap.get?_push_of_some _ (k₂ _ _ e)
  refine spliced_cons (wpAny_JoinedStr (pos := ⟨0, 0, 0, 0⟩) ?_)
  refine Calls.Constant_str ⟨_, _, rfl, by decide, ?_⟩
  show wpAny _ _ (eval (.FormattedValue (.Name "part" _) (-1) none _) _) _ _ _
  refine wpAny_FormattedValue_plain (wpAny_Name ?_ (by decide))
  refine wpAny_loadName_local rfl (by rfl) (hns.keeps up₂) (by rfl) ?_
  refine told_field V fun y t tk hy => ⟨y, t, rfl, ?len, ?len2, ?_⟩
  case len =>
    rw [str_len, str_len, sizeLine_eq]
    have : (Str.empty.length : Nat) + ("not as it must be: " : Str).length ≤ 1000 := by decide +kernel
    omega
  case len2 =>
    rw [str_len, str_len, sizeLine_eq]
    have : (Str.empty.length : Nat) + ("not as it must be: " : Str).length ≤ 1000 := by decide +kernel
    omega
  refine spliced_nil ⟨Heap.get?_push_at rfl rfl, ?_⟩
  -- ValueError.__init__ bound
  have hu : (h₂.push (kxs_mw "ValueError.__init__" x)).get? h₂.objs.size = some (kxs_mw "ValueError.__init__" x) := Heap.get?_push_at rfl rfl
  have hx₃ := up₂ _ _ hx₁
  have hC₃ := up₂ _ _ (X₁ _ _ hC)
  generalize h₂.push (kxs_mw "ValueError.__init__" x) = h₃ at up₂ hu hx₃ hC₃ ⊢
  refine init_call hC₃ hx₃ hu (by show 1 ≤ sizeLine; rw [sizeLine_eq]; decide) fun h₄ k₄ hx₄ => ?_
  have hL₃ := hns.keeps up₂
  have hns₄ : h₄.Ns s.heap.objs.size (fun y => List.lookup y [(("self" : Str), Value.ref x), ("part", v)].reverse) := by
    obtain ⟨oL, es, ep, hL, r⟩ := hL₃
    exact ⟨oL, es, ep, k₄ _ _ hxL hL, r⟩
  have k0 : ∀ b o, b ≠ x → s.heap.get? b = some o → h₄.get? b = some o := fun b o hb e => k₄ b o hb (up₂ _ _ (hk₁ _ _ e))
  have X₄ : K.In h₄ := fun a o e => k0 a o (fun z => by rw [z, hnx] at e; cases e) (X a o e)
  -- self.part = part
  refine wpAt_of_wpAny (wpAny_execs_cons (plainObj_wpAny_Assign_Attribute ?_))
  refine wpAny_Name (wpAny_loadName_local rfl (by rfl) hns₄ (by rfl) ?_) (by decide)
  refine wpAny_Name (wpAny_loadName_local rfl (by rfl) hns₄ (by rfl) ?_) (by decide)
  refine set_plain X₄ (ox := excO C h₃.objs.size) (od := none) ⟨hx₄, rfl, rfl, trivial⟩ T.sa ?_
  refine exc_osa X₄ hx₄ hcl (show refsVE (.ref C :: bm) = true from hbm) rfl T.noN (fun h₅ tk₅ dx k₅ dn dne hx₅ hn₅ => ?_)
  show wpAny _ _ (execs _ _) _ _ _
  have zz : s.heap.objs.size ≤ h₄.objs.size := Nat.le_of_lt hns₄.lt
  exact wpAny_execs_nil (hq h₅ tk₅ dx _ ⟨fun b o hb e => k₅ b o hb (k0 b o hb e), hx₅, Nat.le_trans zz dn, dne, hn₅⟩)
/-- a made BadMachine -/
structure OwnMade (h h' : Heap) (e C d : Addr) (v : Value) : Prop where
  keep : ∀ b o, h.get? b = some o → h'.get? b = some o
  new : h.objs.size ≤ e
  obj : ∃ oe vs, h'.get? e = some oe ∧ oe.cls = .ref C ∧ oe.dict = some d ∧ oe.data = .fields vs ∧ vs[1]? = some .none
  dbig : h.objs.size ≤ d
  dne : d ≠ e
  ns : h'.Ns1 d (fun y => if y = "part" then some v else none)
theorem made (T : Ty prog K mg C fI cc cda) {v : Value} (V : Told v) (Md : L2.Mod K mg base) (bk : ∀ b o, base.get? b = some o → s.heap.get? b = some o) (hroom : A.depth + 1 < recursionLimit)
    (hq : ∀ h' tk e d, OwnMade s.heap h' e C d v → R (.ok (.ret (.ref e))) { s with heap := h', toks := tk }) : codeAny (model prog w) A (.call (.ref C) ⟨[v], []⟩) R s := by
  obtain ⟨nm, q, N, bs, bm, sn, sub, ab, col, dd, k0, k1, k2, k3, k5, hC, hbm⟩ := T.cls
  obtain ⟨hp, g, dr, tk, os⟩ := s
  have X : K.In hp := fun a o e => bk _ _ (Md.kin a o e)
  have k : ∀ b o, hp.get? b = some o → ((hp.push (kdv_tup [v])).push (excO C hp.objs.size)).get? b = some o := fun b o e => Heap.get?_push_of_some _ (Heap.get?_push_of_some _ e)
  have hget : ((hp.push (kdv_tup [v])).push (excO C hp.objs.size)).get? (hp.objs.size + 1) = some (excO C hp.objs.size) := by heap_get
  have hnx : K.lookup (hp.objs.size + 1) = none := by
    cases e : K.lookup (hp.objs.size + 1) with
    | none => rfl
    | some o =>
      have z : hp.get? (hp.objs.size + 1) = some o := X _ _ e
      exact absurd (Nat.lt_of_succ_lt (Heap.lt_size z)) (Nat.lt_irrefl _)
  have one : [v].length ≤ sizeLine := by
    rw [sizeLine_eq]
    exact (by decide : 1 ≤ 16777216)
  refine call_own F.excBase_ValueError (fun Y => refsVE_contains Y bm hbm) (X _ _ hC) (looks_findIn X T.iC) (fun self => bind_fn X self T.tC) one ?_
  refine init_ok (s := ⟨(hp.push (kdv_tup [v])).push (excO C hp.objs.size), g, dr, tk, os⟩) T V Md (fun b o e => k b o (bk b o e)) hget hnx ?_ fun h' tk' dx t1 ⟨k', hx, dn, dne, hns⟩ => ?_
  · show A.depth + 1 < recursionLimit
    exact hroom
  · have old : ∀ b o, hp.get? b = some o → h'.get? b = some o := fun b o e => k' b o (Nat.ne_of_lt (Nat.lt_succ_of_lt (Heap.lt_size e))) (k b o e)
    have z : hp.objs.size + 1 + 1 ≤ dx := by
      first
        | (simpa only [Heap.size_push] using dn)
        | exact dn
        | (have q := dn; rw [Heap.size_push, Heap.size_push] at q; exact q)
    exact ⟨rfl, hq h' tk' (hp.objs.size + 1) dx ⟨old, Nat.le_succ _, ⟨_, _, hx, rfl, rfl, rfl, rfl⟩, Nat.le_trans (Nat.le_trans (Nat.le_succ _) (Nat.le_succ _)) z, dne, hns⟩⟩
end
open L2
theorem relO_fld {v : V} {v' : Value} (r : RelV v v') (f : Str) : RelO (List.lookup f [(("part" : Str), v)]) (if f = "part" then some v' else none) := by
  by_cases hw : f = "part"
  · subst hw
    rw [if_pos rfl]
    have q : List.lookup ("part" : Str) [(("part" : Str), v)] = some v := by simp [List.lookup]
    rw [q]
    exact r
  · rw [if_neg hw]
    have qw : (f == ("part" : Str)) = false := by simpa using hw
    have q2 : List.lookup f [(("part" : Str), v)] = none := by simp [List.lookup, qw]
    rw [q2]
    trivial
/-- a value that may be told -/
def ToldV (v : V) : Prop := v = .non ∨ (∃ i, v = .int i ∧ i.natAbs.log2 < 1920) ∨ ∃ y, v = .str y ∧ y.length ≤ 1000
theorem ToldV.told {v : V} {u : Value} (h : ToldV v) (r : RelV v u) : Told u := by
  rcases h with rfl | ⟨i, rfl, hi⟩ | ⟨y, rfl, hy⟩
  · exact .inl r
  · obtain ⟨t, rfl⟩ := r
    exact .inr (.inl ⟨i, t, rfl, hi⟩)
  · obtain ⟨t, rfl⟩ := r
    exact .inr (.inr ⟨y, t, rfl, hy⟩)
section
variable {X : Cx} {C fI cc cda : Addr}
/-- BadMachine(e) -/
def tMk (C : Addr) (ta : TA) : L2.St → Hp → XK → Prop := fun σ H Q => ta σ H fun vs H1 => ∃ v, vs = [v] ∧ ToldV v ∧ ∀ d, H1 d = none → Q (.ref C) (some d) (upd H1 d (.xd [(("part" : Str), v)]))
theorem pmk {a : Expr} {ta : TA} {p pos : Pos} {k : Nat} (T : Ty X.prog X.K X.mg C fI cc cda) (hr : Room k X.A) (ha : PA X [a] ta) (hg : Gl X "BadMachine" := by rfl)
    (he : starEach (a :: []) X.env = (false, eval a X.env) :: starEach [] X.env := by rfl) (hpl : (backTo pos (starEach [] X.env)).any (·.1) = false := by rfl) :
    PMk X (.Call (.Name "BadMachine" p) [a] [] pos) (tMk C ta) := by
  intro pins s σ H Q I h
  refine wpAny_Call_Name_kw (ld_glob I hg T.gC ?_)
  refine PySem.W.callWith_K (h₀ := X.base) I.ok.mod.kin T.kC (thn (ha.run pos pins s σ H _ I h) fun us s1 hh => ?_) he hpl
  obtain ⟨vs, H1, I1, r1, v, ev, tv, q1⟩ := hh
  subst ev
  refine ⟨I1.kIn, ?_⟩
  cases r1 with
  | cons rv rn =>
    rename_i v' us'
    cases rn
    show wpAny _ _ (call (.ref C) [v']) _ _ _
    have bk1 := I1.bk
    obtain ⟨hp, g, dr, tk, os⟩ := s1
    refine wpAny_call (made T (tv.told rv) I1.ok.mod bk1 (by have := hr.dp; omega) fun h' tk' e d M => ?_)
    show MkP X pins σ Q (.ref e) ⟨h', g, dr, tk', os⟩
    obtain ⟨oe, fv, hoe, hc, hd, hdat, h1⟩ := M.obj
    have hns := M.ns
    obtain ⟨G', g1, g2⟩ := restrict h' fun b => decide (b ≠ e)
    have gk : ∀ b, b ≠ e → G'.get? b = h'.get? b := fun b hb => g1 b (decide_eq_true hb)
    have ge : G'.get? e = none := g2 e (by simp)
    have old : ∀ b o, hp.get? b = some o → G'.get? b = some o := fun b o q => (gk b (Nat.ne_of_lt (Nat.lt_of_lt_of_le (Heap.lt_size q) M.new))).trans (M.keep b o q)
    have ob : ObjOk X.prog X.w (upd H1 d (.xd [(("part" : Str), v)])) G' d (.xd [(("part" : Str), v)]) :=
      ⟨_, hns.at (fun o q => (gk d M.dne).trans q), fun f => relO_fld rv f⟩
    have J : Inv X pins σ (upd H1 d (.xd [(("part" : Str), v)])) ⟨G', g, dr, tk', os⟩ := I1.laid (t' := tk') old M.dbig ob
    refine ⟨e, oe, fv, ⟨G', g, dr, tk', os⟩, _, .ref C, some d, rfl, J, fun b o q => ?_, ge, hoe, ⟨hc, hd⟩, hdat, h1, ?_, rfl, I1.bare, raises_own T.exC T.tyC, q1 d (I1.hok.fresh M.dbig)⟩
    · by_cases hb : b = e
      · have q' : G'.get? b = some o := q
        rw [hb, ge] at q'; cases q'
      · exact (gk b hb).symm.trans q
    · rw [upd_ne (Ne.symm M.dne)]
      exact I1.hok.fresh M.new
/-- raise BadMachine(e) -/
def tRaise (C : Addr) (W : WX) (ta : TA) : TS := fun _ σ H => tMk C ta σ H fun cls d H' => W cls d σ H'
theorem ps_raise_ {a : Expr} {ta : TA} {W : WX} {p pos pos2 : Pos} {k : Nat} (hc : X.calm = true) (T : Ty X.prog X.K X.mg C fI cc cda) (hr : Room k X.A) (tk : Takes X W) (ha : PA X [a] ta) (hg : Gl X "BadMachine" := by rfl)
    (he : starEach (a :: []) X.env = (false, eval a X.env) :: starEach [] X.env := by rfl) (hpl : (backTo pos (starEach [] X.env)).any (·.1) = false := by rfl) :
    PS X (.Raise (some (.Call (.Name "BadMachine" p) [a] [] pos)) none pos2) (tRaise C W ta) := ps_raise hc tk (pmk T hr ha hg he hpl)
/-- e.part, e the exception that the suite holds -/
def tBy (C : Addr) (a : Addr) (cls : Value) (d : Option Addr) (te : TE) : TE := fun σ H Q => te σ H fun x H1 => x = .ref a ∧ cls = .ref C ∧ ∃ (dd : Addr) (v : V), d = some dd ∧ H1 dd = some (.xd [(("part" : Str), v)]) ∧ Q v H1
theorem pe_by {a : Addr} {oe : Obj} {cls : Value} {d : Option Addr} {pn : List (Addr × Obj)} {e : Expr} {te : TE} {pos : Pos} (T : Ty X.prog X.K X.mg C fI cc cda) (hz : Zc cls d oe) (hf : ∃ vs, oe.data = .fields vs) (he : PE (X.suite a ((a, oe) :: pn)) e te)
    (hb : attributeBase e "part" X.env (eval e X.env) = eval e X.env := by rfl) :
    PE (X.suite a ((a, oe) :: pn)) (.Attribute e "part" pos) (tBy C a cls d te) := by
  refine ⟨fun pins s σ H Q I h => ?_⟩
  refine attr_of hb (thn (he.run pins s σ H _ I h) fun u s1 hh => ?_)
  obtain ⟨x, H1, I1, rx, ex, ec, dd, v, ed, ea, q⟩ := hh
  subst ex
  obtain rfl : u = Value.ref a := rx
  subst ec
  subst ed
  obtain ⟨ha, _⟩ := I1.pin (a, oe) (List.mem_append_left _ List.mem_cons_self)
  obtain ⟨vs, hd⟩ := hf
  have hx : ObjOk X.prog X.w H1 s1.heap dd (.xd [(("part" : Str), v)]) := I1.hok dd _ ea
  obtain ⟨mA, hns, hr⟩ := hx
  obtain ⟨od, ho, hl⟩ := lookIn_ns hns
  have l : List.lookup ("part" : Str) [(("part" : Str), v)] = some v := by simp [List.lookup]
  obtain ⟨u, hu, ru⟩ := RelO.some_of (v := v) (o := mA "part") (by rw [← l]; exact hr "part")
  have J : PySem.W.InstAt s1.heap a oe C (some od) := ⟨ha, hz.1, by unfold PySem.W.notCls; rw [hd] <;> rfl, by rw [hz.2]; exact ho⟩
  exact HandSPX.exc_get I1.kIn J T.ga T.gg T.exC (PySem.W.findObj_own T.hdC T.noN rfl (by rw [hl, hu])) (handed_of ru) ⟨v, H1, I1.tok _, ru, q⟩
end
end NS_BadMachine
end Fm
set_option Elab.async false
set_option linter.all false
set_option maxRecDepth 100000
set_option maxHeartbeats 1000000
namespace Fm
open PySem L2 Evl RZ
def ErrP (C : Addr) (H : Hp) (E : XK) (part : Str) : Prop := ∀ d H', Ex H H' → H' d = none → E (.ref C) (some d) (upd H' d (.xd [(("part" : Str), .str part)]))
theorem ErrP.up {C : Addr} {H H' : Hp} {E : XK} {v : Str} (e : Ex H H') (h : ErrP C H E v) : ErrP C H' E v := fun d H2 e2 hd => h d H2 (e.trans e2) hd
inductive BadMa (K : PySem.W.Frag) (H : Hp) : V → Str → Prop where
  | no {v : V} {t : String} (ty : TyX K H v (.type t)) (h : kitB t "tuple" = some false) : BadMa K H v "machine"
  | len {a : Addr} {xs : List V} (h : SqT K H a xs) (hl : xs.length ≠ 2) : BadMa K H (.ref a) "machine"
  | fades {m a b : Addr} {fs : List Nat} (h : SqT K H m [.ref a, .ref b]) (ha : SqT K H a (nV fs)) (h1 : 1 ≤ fs.length) (h4 : fs.length ≤ 4) (hb : ∃ x ∈ fs, ¬ (1 ≤ x ∧ x ≤ 8)) : BadMa K H (.ref m) "fades"
  | rows {m a b : Addr} {fs rs : List Nat} (h : SqT K H m [.ref a, .ref b]) (ha : SqT K H a (nV fs)) (hb : SqT K H b (nV rs)) (h1 : 1 ≤ fs.length) (h4 : fs.length ≤ 4) (hf : ∀ x ∈ fs, 1 ≤ x ∧ x ≤ 8) (hr : RowsOk rs) (hl : rs.length ≤ 100) (hne : rs.length ≠ fs.length) : BadMa K H (.ref m) "rows"
theorem BadMa.up {K : PySem.W.Frag} {H H' : Hp} {v : V} {part : Str} (e : Ex H H') (h : BadMa K H v part) : BadMa K H' v part := by
  cases h with
  | no ty h => exact .no (tyx_up e ty) h
  | len h hl => exact .len (ex_t e h) hl
  | fades h ha h1 h4 hb => exact .fades (ex_t e h) (ex_t e ha) h1 h4 hb
  | rows h ha hb h1 h4 hf hr hl hne => exact .rows (ex_t e h) (ex_t e ha) (ex_t e hb) h1 h4 hf hr hl hne
def spFadesNo (K : PySem.W.Frag) : Sp := fun vs H Q _ => ∃ (a : Addr) (fs : List Nat), vs = [.ref a] ∧ SqT K H a (nV fs) ∧ 1 ≤ fs.length ∧ fs.length ≤ 4 ∧ (∃ x ∈ fs, ¬ (1 ≤ x ∧ x ≤ 8)) ∧ ∀ H', Ex H H' → Q (.bl false) H'
def spChkMaX (K : PySem.W.Frag) (C : Addr) : Sp := fun vs H _ E => ∃ (v : V) (part : Str), vs = [v] ∧ BadMa K H v part ∧ ErrP C H E part
def spFadeX (K : PySem.W.Frag) (C : Addr) : Sp := fun vs H _ E => ∃ (v x y z : V) (part : Str), vs = [v, x, y, z] ∧ BadMa K H v part ∧ ErrP C H E part
section
variable {P : Program} {w : World} {K : PySem.W.Frag} {mg : Str → Option Value} {base : Heap}
--TY are_fades {'value':T,'fade':'any'}
theorem no_fades {f f1 : Addr} {fd fd1 : FuncData} (F : Fun K "are_fades" "are_fades" s_are_fades f fd) (T : Txt K mg) (C_is_integer : Cal P w K mg base CX0 2 "is_integer" f1 fd1 ["value", "low", "high"] (spIsInt K)) : FnOk P w K mg base CX0 3 f fd ["value"] (spFadesNo K) := by
  refine F.ok sc_are_fades (fun vs H Q E h => ?_) (fun cdv A outer s H vs Q E hr h => ?_)
  · obtain ⟨_, _, rfl, _⟩ := h
    rfl
  · obtain ⟨a, fs, rfl, ha, h1, h4, hf, k⟩ := h
    refine ⟨_, (pss_cons (ps_if (PW.pt (pw_or (pt_not (pt_val (pe_callB (isi_K (K := K) rfl) (by rfl) T.z_isinstance (by decide +kernel) (pa_cons (pv 0) (pa_cons (pe_bltn (v := .ty "tuple") (by rfl) T.z_tuple (by decide +kernel) rfl) pa_nil))))) (pw_or1 (pt_not (pt_chain op_le op_le pe_int (pe_callB (len_K (K := K) rfl) (by rfl) T.z_len (by decide +kernel) (pa_cons (pv 0) pa_nil)) (pe_glob (v := .int 4) rfl T.c_MOST_CELLS.choose_spec ⟨_, rfl⟩)))))) (pss_one (ps_ret pe_bl)) pss_nil)
  (pss_one (ps_ret (pe_callB (all_K (K := K) rfl rfl) (by rfl) T.z_all (by decide +kernel) (pa_cons (pe_lc (own := [("fade", 1)]) (g := gName 1) rfl sc_are_fades.nd (pi_tupK (K := K) rfl (pv 0)) (blkOk_by (by kernel_rfl)) (fun _ _ _ _ _ => pg_name (i := 1) sc_are_fades.nd rfl (by first | exact Or.inl rfl | exact Or.inr rfl)) (fun _ _ _ _ _ => pts_nil) (fun _ _ _ _ _ => (pe_call C_is_integer.G (hr.mono (by first | decide | omega)) rfl C_is_integer.g C_is_integer.kp C_is_integer.b .nil pass0 (pa_cons (pv 1) (pa_cons pe_int (pa_cons (pe_glob (v := .int 8) rfl T.c_MOST_FADE.choose_spec ⟨_, rfl⟩) pa_nil)))))) pa_nil))))), ?_⟩
    have hl : (nV fs).length = fs.length := nV_len fs
    have hch : (decide ((1 : Int) ≤ ((nV fs).length : Int)) && decide (((nV fs).length : Int) ≤ 4)) = true := by
      rw [hl, decide_eq_true (show (1 : Int) ≤ (fs.length : Int) by omega), decide_eq_true (show (fs.length : Int) ≤ 4 by omega)]
      rfl
    refine q_when (b := false) (et_is (et_or (b := false) (et_not (a := true) (et_B (ev_isi (t := "tuple") (b := true) (ev_var rfl) (ty_tup ha) (by decide +kernel)))) fun _ => et_not (a := true) (et_is (et_test (ev_chain ev_c (ev_lnT (ev_var rfl) ha) ev_c)) hch)) rfl) (fun z => nomatch z) fun _ H1 e1 => ?_
    have key := el_lcT (K := K) (σ := [some (.ref a), none]) (H := H1) (a := a) (tl := tVar 0) (j := 1) (vs := List.map (fun x => x.snd) [(("fade" : Str), 1)]) (tt := tYes) (te := tCall (spIsInt K) [] E0 (tCons (tVar 1) (tCons (tC (.int 1)) (tCons (tC (.int 8)) tNil)))) (zs := fs) (fun z => .int (z : Nat)) (fun _ => true) (fun z => .bl (inRange (some (z : Int)) 1 8))
      (ev_var rfl) (ex_t e1 ha) (fun x => rfl) (by omega) (fun y H2 _ _ => et_yes) (fun y H2 hy _ _ => ev_callV (ea_cons (ev_var rfl) (ea_cons ev_c (ea_cons ev_c ea_nil))) fun H3 e3 Q' q => ⟨_, 1, 8, some (y : Int), rfl, rfl, fun H4 e4 => q H4 e4⟩)
    rw [show fs.filter (fun _ => true) = fs from List.filter_eq_self.mpr fun _ _ => rfl] at key
    have hm : (fs.map fun (z : Nat) => V.bl (inRange (some (z : Int)) 1 8)) = (fs.map fun (z : Nat) => inRange (some (z : Int)) 1 8).map V.bl := by simp only [List.map_map]; rfl
    rw [hm] at key
    refine s_ret (ev_all key) fun H2 e2 => ?_
    have : (fs.map fun (z : Nat) => inRange (some (z : Int)) 1 8).all id = false := by
      obtain ⟨x, hx, hn⟩ := hf
      rw [List.all_map, List.all_eq_false]
      refine ⟨x, hx, fun z => hn ?_⟩
      have z : inRange (some (x : Int)) 1 8 = true := z
      simp only [inRange, Bool.and_eq_true, decide_eq_true_eq] at z
      omega
    rw [this]
    exact k H2 (e1.trans e2)
--TY check_machine {'value':T,'fades':T,'rows':T,'@over':{'X':1,'raise':{'BadMachine':'sup'}}}
theorem okX_check_machine {f f1 f2 CBM fI cc cda : Addr} {fd fd1 fd2 : FuncData} (F : Fun K "check_machine" "check_machine" s_check_machine f fd) (T : Txt K mg) (T_BadMachine : NS_BadMachine.Ty P K mg CBM fI cc cda) (C_are_fades : Cal P w K mg base CX0 3 "are_fades" f1 fd1 ["value"] (fun vs H Q E => spFades K vs H Q E ∨ spFadesNo K vs H Q E)) (C_are_rows : Cal P w K mg base CX0 3 "are_rows" f2 fd2 ["value"] (spRows K)) : FnOk P w K mg base (L2.CX P w) 4 f fd ["value"] (spChkMaX K CBM) := by
  refine F.okX sc_check_machine (fun vs H Q E h => ?_) (fun cdv A outer s H vs Q E hr h => ?_)
  · obtain ⟨_, _, rfl, _⟩ := h
    rfl
  · obtain ⟨v, part, rfl, hb, k⟩ := h
    refine ⟨_, (pss_cons (ps_if (PW.pt (pw_or (pt_not (pt_val (pe_callB (isi_K (K := K) rfl) (by rfl) T.z_isinstance (by decide +kernel) (pa_cons (pv 0) (pa_cons (pe_bltn (v := .ty "tuple") (by rfl) T.z_tuple (by decide +kernel) rfl) pa_nil))))) (pw_or1 (pt_cmpR op_ne (pe_callB (len_K (K := K) rfl) (by rfl) T.z_len (by decide +kernel) (pa_cons (pv 0) pa_nil)) pe_int (nomark _))))) (pss_one (NS_BadMachine.ps_raise_ rfl T_BadMachine hr (takes_of rfl rfl rfl rfl) (pa_cons pe_str pa_nil))) pss_nil)
  (pss_cons (ps_asg (pv 0) (pg_tup rfl (pgs_cons (pg_name (i := 1) sc_check_machine.nd rfl (by first | exact Or.inl rfl | exact Or.inr rfl)) (pgs_cons (pg_name (i := 2) sc_check_machine.nd rfl (by first | exact Or.inl rfl | exact Or.inr rfl)) pgs_nil))))
  (pss_cons (ps_if (pt_not (pt_val (pe_call C_are_fades.G (hr.mono (by first | decide | omega)) rfl C_are_fades.g C_are_fades.kp C_are_fades.b .nil pass0 (pa_cons (pv 1) pa_nil)))) (pss_one (NS_BadMachine.ps_raise_ rfl T_BadMachine hr (takes_of rfl rfl rfl rfl) (pa_cons pe_str pa_nil))) pss_nil)
  (pss_one (ps_if (PW.pt (pw_or (pt_not (pt_val (pe_call C_are_rows.G (hr.mono (by first | decide | omega)) rfl C_are_rows.g C_are_rows.kp C_are_rows.b .nil pass0 (pa_cons (pv 2) pa_nil)))) (pw_or1 (pt_cmpR op_ne (pe_callB (len_K (K := K) rfl) (by rfl) T.z_len (by decide +kernel) (pa_cons (pv 2) pa_nil)) (pe_callB (len_K (K := K) rfl) (by rfl) T.z_len (by decide +kernel) (pa_cons (pv 1) pa_nil)) (nomark _))))) (pss_one (NS_BadMachine.ps_raise_ rfl T_BadMachine hr (takes_of rfl rfl rfl rfl) (pa_cons pe_str pa_nil))) pss_nil))))), ?_⟩
    cases hb with
    | no ty hk =>
      exact q_when (b := true) (et_is (et_or (a := true) (b := true) (et_not (a := false) (et_B (ev_isi (ev_var rfl) ty hk))) fun z => nomatch z) rfl) (fun _ H1 e1 => ⟨_, rfl, .inr (.inr ⟨_, rfl, by decide +kernel⟩), fun d hd => k d H1 e1 hd⟩) fun z => nomatch z
    | @len a xs h hl =>
      exact q_when (b := true) (et_is (et_or (a := false) (b := true) (et_not (a := true) (et_B (ev_isi (t := "tuple") (b := true) (ev_var rfl) (ty_tup h) (by decide +kernel)))) fun _ => et_is (et_ne (ev_lnT (ev_var rfl) h) ev_c rfl) (by rw [decide_eq_false fun z => hl (by have := V.int.inj z; omega)]; rfl)) rfl) (fun _ H1 e1 => ⟨_, rfl, .inr (.inr ⟨_, rfl, by decide +kernel⟩), fun d hd => k d H1 e1 hd⟩) fun z => nomatch z
    | @fades m a b fs h ha h1 h4 hbad =>
      refine q_when (b := false) (et_is (et_or (b := false) (et_not (a := true) (et_B (ev_isi (t := "tuple") (b := true) (ev_var rfl) (ty_tup h) (by decide +kernel)))) fun _ => et_is (et_ne (ev_lnT (ev_var rfl) h) ev_c rfl) rfl) rfl) (fun z => nomatch z) fun _ H1 e1 => ?_
      refine q_unpack (ev_var rfl) (ex_t e1 h) fun H2 e2 => ?_
      have e02 := e1.trans e2
      exact q_when (b := true) (et_not (a := false) (et_B (ev_callV (ea_cons (ev_var rfl) ea_nil) fun H3 e3 Q' q => .inr ⟨a, fs, rfl, ex_t (e02.trans e3) ha, h1, h4, hbad, q⟩))) (fun _ H3 e3 => ⟨_, rfl, .inr (.inr ⟨_, rfl, by decide +kernel⟩), fun d hd => k d H3 (e02.trans e3) hd⟩) fun z => nomatch z
    | @rows m a b fs rs h ha hb h1 h4 hf hr hl hne =>
      refine q_when (b := false) (et_is (et_or (b := false) (et_not (a := true) (et_B (ev_isi (t := "tuple") (b := true) (ev_var rfl) (ty_tup h) (by decide +kernel)))) fun _ => et_is (et_ne (ev_lnT (ev_var rfl) h) ev_c rfl) rfl) rfl) (fun z => nomatch z) fun _ H1 e1 => ?_
      refine q_unpack (ev_var rfl) (ex_t e1 h) fun H2 e2 => ?_
      have e02 := e1.trans e2
      refine q_when (b := false) (et_not (a := true) (et_B (ev_callV (ea_cons (ev_var rfl) ea_nil) fun H3 e3 Q' q => .inl ⟨a, fs, rfl, ex_t (e02.trans e3) ha, h1, h4, hf, q⟩))) (fun z => nomatch z) fun _ H3 e3 => ?_
      have e03 := e02.trans e3
      refine s_when (b := true) (et_is (et_or (a := false) (b := true) (et_not (a := true) (et_B (ev_callV (ea_cons (ev_var rfl) ea_nil) fun H4 e4 Q' q => ⟨b, rs, rfl, ex_t (e03.trans e4) hb, hr, hl, q⟩))) fun _ => et_is (et_ne (ev_lnT (ev_var rfl) (ex_t e03 hb)) (ev_lnT (ev_var rfl) (ex_t e03 ha)) rfl) (by rw [nV_len, nV_len, decide_eq_false fun z => hne (by have := V.int.inj z; omega)]; rfl)) rfl) (fun _ H4 e4 => ⟨_, rfl, .inr (.inr ⟨_, rfl, by decide +kernel⟩), fun d hd => k d H4 (e03.trans e4) hd⟩) fun z => nomatch z
--TY run_fading {'run':('inst','Run'),'program':T,'inputs':T,'ticks':'int','most':'int','machine':('tuple',T),'lives':T,'.said':L,'cells':'int','@over':{'X':1,'S':['check_machine']}}
theorem okX_run_fading {f f1 f2 f3 f4 f5 f6 f7 f8 f9 fI C CBM : Addr} {fd fd1 fd2 fd3 fd4 fd5 fd6 fd7 fd8 fd9 fdI : FuncData} (F : Fun K "run_fading" "run_fading" s_run_fading f fd) (T : Txt K mg) (T_Run : RunT K C) (C_check_machineX : Cal P w K mg base (L2.CX P w) 4 "check_machine" f1 fd1 ["value"] (spChkMaX K CBM)) (C_check_kept : Cal P w K mg base CX0 4 "check_kept" f2 fd2 ["cells", "value"] (spChkKe K)) (C_check_inputs : Cal P w K mg base CX0 3 "check_inputs" f3 fd3 ["value"] (spChkInp K)) (C_check_number : Cal P w K mg base CX0 3 "check_number" f4 fd4 ["value", "low", "high"] spChkNum)
    (M_Run : MkRun P w K mg base C fI fdI) (M_Run_is_over : MCal P w K mg base C 2 "is_over" f5 fd5 ["self"] (spOver K C)) (M_Run_act : MCal P w K mg base C 3 "act" f6 fd6 ["self"] (spAct K C)) (C_told : Cal P w K mg base CX0 3 "told" f7 fd7 ["run", "ticks"] (spTold K C)) (M_Run_instruction : MCal P w K mg base C 2 "instruction" f8 fd8 ["self"] (spInst K C)) (C_lives_behind : Cal P w K mg base CX0 4 "lives_behind" f9 fd9 ["machine", "lives", "instruction"] (spLivB K)) : FnOk P w K mg base (L2.CX P w) 5 f fd ["machine", "program", "inputs", "most"] (spFadeX K CBM) := by
  refine F.okX sc_run_fading (fun vs H Q E h => ?_) (fun cdv A outer s H vs Q E hr h => ?_)
  · obtain ⟨_, _, _, _, _, rfl, _⟩ := h
    rfl
  · obtain ⟨v, x, y, z, part, rfl, hb, k⟩ := h
    refine ⟨_, (pss_cons (ps_expr (pe_callS C_check_machineX.G (hr.mono (by first | decide | omega)) rfl C_check_machineX.g C_check_machineX.kp C_check_machineX.b (fun σ => passAt (takes_of rfl rfl rfl rfl) σ) (pa_cons (pv 0) pa_nil)))
  (pss_cons (ps_set (i := 4) sc_run_fading.nd rfl (Or.inl rfl) (pe_callB (len_K (K := K) rfl) (by rfl) T.z_len (by decide +kernel) (pa_cons (pe_ix (ix_K (K := K) rfl) (pv 0) pe_int (fun _ _ => rfl)) pa_nil)))
  (pss_cons (ps_expr (pe_call C_check_kept.G (hr.mono (by first | decide | omega)) rfl C_check_kept.g C_check_kept.kp C_check_kept.b .nil pass0 (pa_cons (pv 4) (pa_cons (pv 1) pa_nil))))
  (pss_cons (ps_expr (pe_call C_check_inputs.G (hr.mono (by first | decide | omega)) rfl C_check_inputs.g C_check_inputs.kp C_check_inputs.b .nil pass0 (pa_cons (pv 2) pa_nil)))
  (pss_cons (ps_expr (pe_call C_check_number.G (hr.mono (by first | decide | omega)) rfl C_check_number.g C_check_number.kp C_check_number.b .nil pass0 (pa_cons (pv 3) (pa_cons pe_int (pa_cons (pe_glob (v := .int 20000) rfl T.c_MOST_TICKS.choose_spec ⟨_, rfl⟩) pa_nil)))))
  (pss_cons (ps_set (i := 5) sc_run_fading.nd rfl (Or.inl rfl) (pe_make M_Run.M M_Run.G (hr.mono (by first | decide | omega)) rfl M_Run.g M_Run.b .nil pass0 (pa_cons (pv 4) (pa_cons (pv 1) (pa_cons (pv 2) pa_nil)))))
  (pss_cons (ps_set (i := 6) sc_run_fading.nd rfl (Or.inl rfl) (pe_ix (ix_K (K := K) rfl) (pv 0) pe_int (fun _ _ => rfl)))
  (pss_cons (ps_set (i := 7) sc_run_fading.nd rfl (Or.inl rfl) pe_int)
  (pss_cons (ps_while (passes_of rfl) (PW.pt (pw_and (pt_cmpR op_lt (pv 7) (pv 3) (nomark _)) (pw_and1 (pt_not (pt_val (pe_meth0 (pv 5) T_Run.cl M_Run_is_over.m M_Run_is_over.G (hr.mono (by first | decide | omega)) M_Run_is_over.b .nil pass0)))))) (pss_cons (ps_set (i := 6) sc_run_fading.nd rfl (Or.inl rfl) (pe_call C_lives_behind.G (hr.mono (by first | decide | omega)) rfl C_lives_behind.g C_lives_behind.kp C_lives_behind.b .nil pass0 (pa_cons (pv 0) (pa_cons (pv 6) (pa_cons (pe_meth0 (pv 5) T_Run.cl M_Run_instruction.m M_Run_instruction.G (hr.mono (by first | decide | omega)) M_Run_instruction.b .nil pass0) pa_nil)))))
  (pss_cons (ps_if (pt_cmpR op_isN (pv 6) pe_non (nomark _)) (pss_one (ps_ret (pe_tup (pa_cons (pe_callTy (tpl_K (K := K) rfl) (by rfl) T.z_tuple (by decide +kernel) (pa_cons (pe_fld (pv 5) rfl) pa_nil)) (pa_cons pe_str (pa_cons (pv 7) pa_nil)))))) pss_nil)
  (pss_cons (ps_expr (pe_meth0 (pv 5) T_Run.cl M_Run_act.m M_Run_act.G (hr.mono (by first | decide | omega)) M_Run_act.b .nil pass0))
  (pss_one (ps_aug (i := 7) sc_run_fading.nd rfl (Or.inl rfl) pe_int ip_add))))))
  (pss_one (ps_ret (pe_call C_told.G (hr.mono (by first | decide | omega)) rfl C_told.g C_told.kp C_told.b .nil pass0 (pa_cons (pv 5) (pa_cons (pv 7) pa_nil)))))))))))))), ?_⟩
    exact q_callX (ea_cons (ev_var rfl) ea_nil) fun H1 e1 => ⟨v, part, rfl, hb.up e1, k.up e1⟩
end
end Fm
set_option Elab.async false
set_option linter.all false
set_option maxRecDepth 100000
set_option maxHeartbeats 1000000
namespace Fm
open PySem L2 Evl RZ
/-! words for the law itself -/
theorem ex_rem2 {B H : Hp} {r : Addr} (e : Ex B H) (h : B r = none) : Ex B (rem H r) := fun b o hb => by
  rw [rem_ne (fun z => by rw [z, h] at hb; cases hb)]
  exact e b o hb
theorem mat_rem {K : PySem.W.Frag} {H : Hp} {r m : Addr} {ys : List V} {fs rs : List Nat} (hr : H r = some (.lst ys)) (h : MaT K H m fs rs) : MaT K (rem H r) m fs rs := let ⟨a, b, h1, h2, h3⟩ := h; ⟨a, b, sqT_rem hr h1, sqT_rem hr h2, sqT_rem hr h3⟩
section
variable {K : PySem.W.Frag} {σ : L2.St} {H : Hp} {ta tb te tl : TE} {tr tA : TA} {D : Ends} {tz tu : TS} {t : TT} {tt : TT} {Q : VK} {x : V} {r : R2} {g : TG} {vs : List Nat} {to1 to2 : TO}
theorem q_unless {sp : Sp} {E : XK} (h : tA σ H fun vs H1 => sp (vs ++ []) H1 (fun x H2 => ∃ c, x = .bl c ∧ (if (!c) = true then tu { D with nx := tz D } σ H2 else tNext { D with nx := tz D } σ H2)) E) : tSeq (tIfS (tNot (tB (tCall sp [] E tA))) tu tNext) tz D σ H := h
theorem m_consCallR {sp : Sp} {E : XK} {Q : List V → Hp → Prop} (h : tA σ H fun vs H1 => sp (vs ++ []) H1 (fun x H2 => tr σ H2 fun xs H3 => Q (x :: xs) H3) E) : tCons (tCall sp [] E tA) tr σ H Q := h
theorem m_consTpl {tr' : TA} {Q : List V → Hp → Prop} (h : tr' σ H fun xs H1 => rTpl K xs H1 fun x H2 => tr σ H2 fun ys H3 => Q (x :: ys) H3) : tCons (tCB (rTpl K) tr') tr σ H Q := h
theorem m_consT1 {Q : List V → Hp → Prop} (h : te σ H fun x H1 => Q [x] H1) : tCons te tNil σ H Q := h
theorem m_consTup {Q : List V → Hp → Prop} (h : tA σ H fun xs H1 => xs.length ≤ sizeLine ∧ ∀ p, H1 p = none → tr σ (upd H1 p (.tup xs)) fun ys H2 => Q (.ref p :: ys) H2) : tCons (tTup tA) tr σ H Q := h
theorem m_asgLst {i : Nat} (h : tA σ H fun xs H1 => xs.length ≤ sizeLine ∧ ∀ p, H1 p = none → tz D (σ.set i (some (.ref p))) (upd H1 p (.lst xs))) : tSeq (tAsg (tLst tA) (gName i)) tz D σ H := h
theorem m_asgTpl {i : Nat} (h : te σ H fun x H1 => rTpl K [x] H1 fun y H2 => tz D (σ.set i (some y)) H2) : tSeq (tAsg (tCB (rTpl K) (tCons te tNil)) (gName i)) tz D σ H := h
theorem m_asgOp {i : Nat} {r : R2} (h : tOp r ta tb σ H fun x H1 => tz D (σ.set i (some x)) H1) : tSeq (tAsg (tOp r ta tb) (gName i)) tz D σ H := h
/-- [.. for .. in a tuple] -/
theorem m_lcT {a : Addr} {xs : List V} (Pv : Addr → Nat → Hp → Prop) (ha : Ev tl σ H (.ref a)) (hx : SqT K H a xs) (h0 : ∀ D H1, Ex H H1 → H1 D = none → Pv D 0 (upd H1 D (.lst []))) (hl : ∀ D i H', i ≤ xs.length → Pv D i H' → SqT K H' a xs)
    (hs : ∀ D i x H', xs[i]? = some x → Pv D i H' → g x (wipe σ vs) H' fun σ2 H2 => wipe σ2 vs = wipe σ vs ∧ tt σ2 H2 fun b H3 =>
      if b = true then te σ2 H3 fun y H4 => ∃ acc, H4 D = some (.lst acc) ∧ acc.length < sizeLine ∧ Pv D (i + 1) (upd H4 D (.lst (acc ++ [y]))) else Pv D (i + 1) H3) (hd : ∀ D H', Pv D xs.length H' → Q (.ref D) H') : tLc (iTup K tl) g tt te vs σ H Q :=
  ha H (Ex.refl H) _ fun H1 e1 => ⟨a, rfl, ⟨xs, ex_t e1 hx⟩, fun D hD => lc_tup (Pv D) (h0 D H1 e1 hD) (hl D) (hs D) (hd D)⟩
/-- [.. for .. in a new list] -/
theorem m_lcN {xs : List V} (Pv : Addr → Addr → Nat → Hp → Prop) (ha : EvL tl σ H xs) (h0 : ∀ p D H1, H p = none → Ex H H1 → H1 p = some (.lst xs) → H1 D = none → Pv p D 0 (upd H1 D (.lst []))) (hl : ∀ p D i H', i ≤ xs.length → Pv p D i H' → SqL K H' p xs)
    (hs : ∀ p D i x H', xs[i]? = some x → Pv p D i H' → g x (wipe σ vs) H' fun σ2 H2 => wipe σ2 vs = wipe σ vs ∧ tt σ2 H2 fun b H3 =>
      if b = true then te σ2 H3 fun y H4 => ∃ acc, H4 D = some (.lst acc) ∧ acc.length < sizeLine ∧ Pv p D (i + 1) (upd H4 D (.lst (acc ++ [y]))) else Pv p D (i + 1) H3) (hd : ∀ p D H', Pv p D xs.length H' → Q (.ref D) H') : tLc (iList K tl) g tt te vs σ H Q :=
  ha H (Ex.refl H) _ fun p H1 hp e1 h1 => ⟨p, rfl, ⟨xs, sq_of h1⟩, fun D hD => lc_list (Pv p D) (h0 p D H1 hp e1 h1 hD) (hl p D) (hs p D) (hd p D)⟩
/-- [.. for .. in range(a call)] -/
theorem m_lcRc {sp : Sp} {E : XK} {ws : List V} {R : Nat → Hp → Hp → Prop} (hA : EvA tA σ H ws) (h : ∀ H1, Ex H H1 → ∀ Q' : VK, (∀ (n : Nat) H2, R n H1 H2 → Q' (.int (n : Nat)) H2) → sp (ws ++ []) H1 Q' E)
    (k : ∀ (n : Nat) H1 H2, Ex H H1 → R n H1 H2 → n ≤ 100000 ∧ ∀ D, H2 D = none → ∃ Pv : Nat → Hp → Prop, Pv 0 (upd H2 D (.lst [])) ∧ (∀ i H', i < n → Pv i H' → g (.int ((0 : Int) + i)) (wipe σ vs) H' fun σ2 H2 => wipe σ2 vs = wipe σ vs ∧ tt σ2 H2 fun b H3 =>
      if b = true then te σ2 H3 fun y H4 => ∃ acc, H4 D = some (.lst acc) ∧ acc.length < sizeLine ∧ Pv (i + 1) (upd H4 D (.lst (acc ++ [y]))) else Pv (i + 1) H3) ∧ ∀ H', Pv n H' → Q (.ref D) H') : tLc (iRng1 (tCons (tCall sp [] E tA) tNil)) g tt te vs σ H Q :=
  hA H (Ex.refl H) _ fun H1 e1 => h H1 e1 _ fun n H2 r => by
    obtain ⟨k1, k2⟩ := k n H1 H2 e1 r
    refine ⟨(n : Int), rfl, by omega, by omega, fun D hD => ?_⟩
    obtain ⟨Pv, p0, p1, p2⟩ := k2 D hD
    exact lc_range (lo := 0) (n := n) Pv p0 p1 p2
/-- try: a call that raises; then more -/
theorem q_try2 {sp : Sp} {Wf : Ends → L2.St → XK} (h : tA σ H fun vs H1 => sp vs H1 (fun _ H2 => tu { D with nx := tz D } σ H2) (Wf { D with nx := tz D } σ)) : tSeq (fun D σ H => tSeq (tDrop (tCallS sp (Wf D) tA)) tu D σ H) tz D σ H := h
theorem q_try1 {sp : Sp} {Wf : Ends → L2.St → XK} (h : tA σ H fun vs H1 => sp vs H1 (fun _ H2 => tz D σ H2) (Wf { D with nx := tz D } σ)) : tSeq (fun D σ H => tDrop (tCallS sp (Wf D) tA) D σ H) tz D σ H := h
theorem s_tryC {sp : Sp} {W : L2.St → XK} (h : tA σ H fun vs H1 => sp vs H1 (fun _ H2 => tu D σ H2) (W σ)) : tSeq (tDrop (tCallS sp W tA)) tu D σ H := h
/-- a tuple, new or not -/
def EvS (K : PySem.W.Frag) (te : TE) (σ : L2.St) (H : Hp) (xs : List V) : Prop := ∀ H1, Ex H H1 → ∀ Q : VK, (∀ p H2, Ex H1 H2 → SqT K H2 p xs → Q (.ref p) H2) → te σ H1 Q
theorem es_var {a : Addr} {xs : List V} (h : Ev ta σ H (.ref a)) (hs : SqT K H a xs) : EvS K ta σ H xs := fun H1 e Q q => h H1 e _ fun H2 e2 => q a H2 e2 (ex_t (e.trans e2) hs)
theorem es_u {xs : List V} (h : EvU ta σ H xs) : EvS K ta σ H xs := fun H1 e Q q => h H1 e _ fun p H2 _ e2 h2 => q p H2 e2 (st_of h2)
theorem es_cat {xs ys : List V} (ha : EvS K ta σ H xs) (hb : ∀ H1, Ex H H1 → EvS K tb σ H1 ys) (hz : xs.length + ys.length ≤ 100000) : EvS K (tOp (rCatA K) ta tb) σ H (xs ++ ys) := fun H1 e Q q =>
  ha H1 e _ fun p H2 e2 h2 => hb H2 (e.trans e2) H2 (Ex.refl H2) _ fun p2 H3 e3 h3 => ⟨p, p2, xs, ys, rfl, rfl, ex_t e3 h2, h3, sz_of hz, fun z => by subst z; exact q p2 H3 (e2.trans e3) h3, fun _ z => by subst z; rw [List.append_nil] at q; exact q p H3 (e2.trans e3) (ex_t e3 h2),
    fun _ _ u hu => q u _ ((e2.trans e3).trans (Ex.new hu)) (st_of upd_same)⟩
theorem es_rep {xs : List V} {k : Nat} (ha : EvS K ta σ H xs) (hb : ∀ H1, Ex H H1 → Ev tb σ H1 (.int (k : Nat))) (hne : xs ≠ []) (h1 : 1 ≤ k) (h2 : k ≤ 1000) (hz : xs.length ≤ 1000) : EvS K (tOp (rRepA K) ta tb) σ H (List.replicate k xs).flatten := fun H1 e Q q =>
  ha H1 e _ fun p H2 e2 hp => hb H2 (e.trans e2) H2 (Ex.refl H2) _ fun H3 e3 => ⟨p, (k : Int), xs, rfl, rfl, ex_t e3 hp, hne, by omega, by omega, hz, fun z => by
    have : k = 1 := by omega
    subst this
    refine q p H3 (e2.trans e3) ?_
    have : (List.replicate 1 xs).flatten = xs := by simp
    rw [this]
    exact ex_t e3 hp, fun _ u hu => by
    refine q u _ ((e2.trans e3).trans (Ex.new hu)) ?_
    rw [Int.toNat_natCast]
    exact st_of upd_same⟩
theorem cutV_whole {xs : List V} {lo hi : Option Int} (h : HT.sIx xs.length 0 lo = 0 ∧ HT.sIx xs.length xs.length hi = xs.length) : cutV xs lo hi = xs := by
  unfold cutV
  rw [h.1, h.2, List.drop_zero, Nat.sub_zero, List.take_length]
theorem es_sl {xs : List V} {lo hi : Option Int} (ha : EvS K ta σ H xs) (h1 : ∀ H1, Ex H H1 → EvO to1 σ H1 lo) (h2 : ∀ H1, Ex H H1 → EvO to2 σ H1 hi) : EvS K (tSl (rSlA K) ta to1 to2) σ H (cutV xs lo hi) := fun H1 e Q q =>
  ha H1 e _ fun p H2 e2 hp => h1 H2 (e.trans e2) H2 (Ex.refl H2) _ fun H3 e3 => h2 H3 ((e.trans e2).trans e3) H3 (Ex.refl H3) _ fun H4 e4 => ⟨p, xs, rfl, ex_t (e3.trans e4) hp, fun z => by
    rw [cutV_whole z] at q
    exact q p H4 ((e2.trans e3).trans e4) (ex_t (e3.trans e4) hp), fun _ u hu => q u _ (((e2.trans e3).trans e4).trans (Ex.new hu)) (st_of upd_same)⟩
theorem eo_none : EvO tNoPart σ H none := fun H1 e Q q => q H1 (Ex.refl H1)
theorem eo_some {i : Int} (h : Ev ta σ H (.int i)) : EvO (tPart ta) σ H (some i) := fun H1 e Q q => h H1 e _ fun H2 e2 => ⟨i, rfl, q H2 e2⟩
theorem cutV_to {xs : List V} {k : Nat} (h : k ≤ xs.length) : cutV xs none (some (k : Int)) = xs.take k := by
  unfold cutV
  rw [HT.sIx_none, HT.sIx_nat, Nat.min_eq_left h, List.drop_zero, Nat.sub_zero]
theorem cutV_from {xs : List V} {k : Nat} (h : k ≤ xs.length) : cutV xs (some (k : Int)) none = xs.drop k := by
  unfold cutV
  rw [HT.sIx_none, HT.sIx_nat, Nat.min_eq_left h, List.take_of_length_le (by rw [List.length_drop]; omega)]
theorem m_consS {xs : List V} {Q : List V → Hp → Prop} (h : EvS K te σ H xs) (k : ∀ p H1, Ex H H1 → SqT K H1 p xs → tr σ H1 fun ys H2 => Q (.ref p :: ys) H2) : tCons te tr σ H Q := h H (Ex.refl H) _ k
theorem q_asgS {xs : List V} {i : Nat} (h : EvS K te σ H xs) (k : ∀ p H1, Ex H H1 → SqT K H1 p xs → tz D (σ.set i (some (.ref p))) H1) : tSeq (tAsg te (gName i)) tz D σ H := h H (Ex.refl H) _ k
end
section
variable {K : PySem.W.Frag} {σ : L2.St} {H : Hp} {ta tb te tl : TE} {tr tA : TA} {Q : VK}
theorem m_tupQ (h : tA σ H fun xs H1 => xs.length ≤ sizeLine ∧ ∀ p, H1 p = none → Q (.ref p) (upd H1 p (.tup xs))) : tTup tA σ H Q := h
theorem catA_end {a b : Addr} {xs ys : List V} (ha : SqT K H a xs) (hb : SqT K H b ys) (hz : xs.length + ys.length ≤ 100000) (k : ∀ p H1, Ex H H1 → SqT K H1 p (xs ++ ys) → Q (.ref p) H1) : rCatA K (.ref a) (.ref b) H Q :=
  ⟨a, b, xs, ys, rfl, rfl, ha, hb, sz_of hz, fun z => by subst z; exact k b H (Ex.refl H) hb, fun _ z => by subst z; rw [List.append_nil] at k; exact k a H (Ex.refl H) ha, fun _ _ u hu => k u _ (Ex.new hu) (st_of upd_same)⟩
theorem m_catS {xs : List V} (ha : EvS K ta σ H xs) (k : ∀ p H1, Ex H H1 → SqT K H1 p xs → tb σ H1 fun y H2 => rCatA K (.ref p) y H2 Q) : tOp (rCatA K) ta tb σ H Q := ha H (Ex.refl H) _ k
theorem ev_byM {C a d : Addr} {v : V} (h : Ev te σ H (.ref a)) (hd : H d = some (.xd [(("part" : Str), v)])) : Ev (NS_BadMachine.tBy C a (.ref C) (some d) te) σ H v := fun H1 e Q q => h H1 e _ fun H2 e2 => ⟨rfl, rfl, d, v, rfl, (e.trans e2) _ _ hd, q H2 e2⟩
theorem ev_byP {C a d : Addr} {v : V} (h : Ev te σ H (.ref a)) (hd : H d = some (.xd [(("index" : Str), v)])) : Ev (NS_BadProgram.tBy C a (.ref C) (some d) te) σ H v := fun H1 e Q q => h H1 e _ fun H2 e2 => ⟨rfl, rfl, d, v, rfl, (e.trans e2) _ _ hd, q H2 e2⟩
end
/-! data -/
def tD (l : List Nat) : PyData := .tuple (iD (l.map fun (x : Nat) => (x : Int)))
theorem nV_ints (l : List Nat) : nV l = (l.map fun (x : Nat) => (x : Int)).map V.int := by unfold nV; rw [List.map_map]; rfl
section
variable {K : PySem.W.Frag} {H H' : Hp}
theorem dp_nV {a : Addr} {l : List Nat} (h : SqT K H a (nV l)) : Dp K H (.ref a) (tD l) := .tup (by rw [← nV_ints]; exact h) (dp_ints _)
theorem dpAll_tups : ∀ {ts : List V} {Ls : List (List Nat)}, Paired (fun v l => ∃ a : Addr, v = .ref a ∧ SqT K H a (nV l)) ts Ls → DpAll K H ts (Ls.map tD)
  | _, _, .nil => .nil
  | _, _, .cons ⟨a, h1, h2⟩ r => .cons (by rw [h1]; exact dp_nV h2) (dpAll_tups r)
theorem ad_ints {n : Nat} : ∀ (l : List Int), ∀ d ∈ iD l, AD n d := fun l d hd => by
  obtain ⟨i, _, rfl⟩ := List.mem_map.mp hd
  exact .int i
theorem ad_tD {n : Nat} {l : List Nat} (h : l.length ≤ 40000) : AD (n + 1) (tD l) := .tup (by unfold iD; rw [List.length_map, List.length_map]; exact h) (ad_ints _)
theorem ToldAt.up {u : Addr} {sd : List Int} {wd : Str} {t : Nat} (e : Ex H H') (h : ToldAt H u sd wd t) : ToldAt H' u sd wd t := let ⟨q, h1, h2⟩ := h; ⟨q, e _ _ h1, e _ _ h2⟩
def toldD (sd : List Int) (wd : Str) (t : Nat) : PyData := .tuple [.tuple (iD sd), .str wd, .int (t : Nat)]
theorem dp_told {u : Addr} {sd : List Int} {wd : Str} {t : Nat} (h : ToldAt H u sd wd t) : Dp K H (.ref u) (toldD sd wd t) := by
  obtain ⟨q, h1, h2⟩ := h
  exact .tup (st_of h1) (.cons (.tup (st_of h2) (dp_ints sd)) (.cons (.str wd) (.cons (.int _) .nil)))
theorem ad_told {sd : List Int} {wd : Str} {t : Nat} (hl : sd.length ≤ 40000) (hw : PyData.strOk wd = true) : AD 2 (toldD sd wd t) := by
  refine .tup (by show 3 ≤ 40000; decide) fun d hd => ?_
  simp only [List.mem_cons, List.not_mem_nil, or_false] at hd
  rcases hd with rfl | rfl | rfl
  · exact .tup (by unfold iD; rw [List.length_map]; exact hl) (ad_ints _)
  · exact .str _ hw
  · exact .int _
end
theorem loopL_said {p : List In} {ins : List Int} : ∀ (m : Nat) (s : Rs) (t : Nat), (loopL p ins m s t).1.said.length ≤ s.said.length + m
  | 0, s, t => Nat.le_refl _
  | m + 1, s, t => by
    unfold loopL
    split
    · exact Nat.le_add_right _ _
    · have h1 := loopL_said (p := p) (ins := ins) m (s.step p ins) (t + 1)
      have h2 : (s.step p ins).said.length ≤ s.said.length + 1 := deed_said p ins s
      omega
theorem loopF_said {p : List In} {ins : List Int} {fs rs : List Nat} : ∀ (m : Nat) (s : Rs) (ls : List Nat) (t : Nat), (loopF p ins fs rs m s ls t).1.said.length ≤ s.said.length + m
  | 0, s, ls, t => Nat.le_refl _
  | m + 1, s, ls, t => by
    unfold loopF
    split
    · exact Nat.le_add_right _ _
    · split
      · split
        · exact Nat.le_add_right _ _
        · rename_i i _ _
          have h1 := loopF_said (p := p) (ins := ins) (fs := fs) (rs := rs) m (s.step p ins) (bhL i.kd fs rs ls i.cell) (t + 1)
          have h2 : (s.step p ins).said.length ≤ s.said.length + 1 := deed_said p ins s
          omega
      · exact Nat.le_add_right _ _
theorem endW_ok (p : List In) (s : Rs) : PyData.strOk (endW p s) = true := by
  unfold endW
  split <;> kernel_rfl
theorem loopF_word {p : List In} {ins : List Int} {fs rs : List Nat} : ∀ (m : Nat) (s : Rs) (ls : List Nat) (t : Nat), PyData.strOk (loopF p ins fs rs m s ls t).2.1 = true
  | 0, s, ls, t => endW_ok p s
  | m + 1, s, ls, t => by
    unfold loopF
    split
    · exact endW_ok p s
    · split
      · split
        · kernel_rfl
        · exact loopF_word m _ _ _
      · exact endW_ok p s
end Fm
set_option Elab.async false
set_option linter.all false
set_option maxRecDepth 100000
set_option maxHeartbeats 1000000
namespace Fm
open PySem L2 Evl RZ
def spLaw (K : PySem.W.Frag) : Sp := fun vs H Q _ => ∃ (s : Addr) (ns : List Int), vs = [.ref s] ∧ SqL K H s (ns.map V.int) ∧ ∀ H', Q (.bl true) H'
abbrev K3 : List (Str × Kd) := [("touch", .touch), ("set", .set), ("say", .wait)]
theorem k3_ok {c n : Nat} (h : c < n) : ∀ q ∈ K3, KdOk q.2 q.1 (.int (c : Nat)) c n := fun q hq => by
  simp only [List.mem_cons, List.not_mem_nil, or_false] at hq
  rcases hq with rfl | rfl | rfl
  · exact ⟨by kernel_rfl, by kernel_rfl, fun _ => ⟨rfl, h⟩⟩
  · exact ⟨by kernel_rfl, by kernel_rfl, fun _ => ⟨rfl, h⟩⟩
  · exact ⟨by kernel_rfl, by kernel_rfl, fun z => nomatch z⟩
theorem paired_app {α β : Type} {R : α → β → Prop} : ∀ {xs xs' : List α} {ys ys' : List β}, Paired R xs ys → Paired R xs' ys' → Paired R (xs ++ xs') (ys ++ ys')
  | _, _, _, _, .nil, h => h
  | _, _, _, _, .cons h t, h' => .cons h (paired_app t h')
theorem paired_take {α β : Type} {R : α → β → Prop} : ∀ (n : Nat) {xs : List α} {ys : List β}, Paired R xs ys → Paired R (xs.take n) (ys.take n)
  | 0, _, _, _ => .nil
  | _ + 1, _, _, .nil => .nil
  | n + 1, _, _, .cons h t => .cons h (paired_take n t)
theorem take_succ_of {α : Type} {l : List α} {i : Nat} {x : α} (h : l[i]? = some x) : l.take (i + 1) = l.take i ++ [x] := by
  rw [List.take_succ, h]
  rfl
section
variable {P : Program} {w : World} {K : PySem.W.Frag} {mg : Str → Option Value} {base : Heap}
abbrev s_law : Stmt := top 61
theorem sc_law : FnScope ["script", "row", "machine", "cells", "lives", "cell", "told_v", "program", "inputs", "most", "kept", "odds", "odd", "due", "e", "wrong", "bent", "fade", "word", "turn"] ["script"] (defScope s_law) := ⟨rfl, rfl, rfl, by decide +kernel, rfl, by decide +kernel, by decide +kernel⟩
--TY law {'row':L,'machine':('tuple',T),'lives':('tuple','int'),'cell':'int','cells':'int','fade':'int','told':L,'word':'str','program':T,'inputs':('tuple','int'),'most':'int','turn':'int','kept':T,'odds':L,'odd':'any','due':'str','wrong':'int','bent':T,'@over':{'A':1,'tryS':['run_fading','run_lasting','behind_touch','behind_set'],'exc':{'BadMachine':'T_BadMachine.gC','BadProgram':'T_BadProgram.gC','BadLives':'B_BadLives.gC','BadCell':'B_BadCell.gC'}}}
theorem ok_law {f f1 f2 f3 f4 f5 f6 f7 f8 f9 f10 f11 f12 f13 CBM CBP CBL CBC fI1 cc1 cda1 fI cc cda : Addr} {fd fd1 fd2 fd3 fd4 fd5 fd6 fd7 fd8 fd9 fd10 fd11 fd12 fd13 : FuncData} (F : Fun K "law" "law" s_law f fd) (T : Txt K mg)
    (C_law_taken : Cal P w K mg base CX0 1 "_law_taken" f1 fd1 ["row", "many"] (spTak K))
    (C_law_pick : Cal P w K mg base CX0 2 "_law_pick" f2 fd2 ["row", "things"] (spPick K))
    (C_law_machine : Cal P w K mg base CX0 2 "_law_machine" f3 fd3 ["row", "most", "fade"] (spLMa K))
    (C_law_program : Cal P w K mg base CX0 3 "_law_program" f4 fd4 ["row", "cells", "most"] (spProg K))
    (C_law_alike : Cal P w K mg base CX0 3 "_law_alike" f5 fd5 ["found", "due"] (spAlikeD K 2))
    (C_law_behind : Cal P w K mg base CX0 1 "_law_behind" f6 fd6 ["machine", "lives", "word", "cell"] (spLBeh K))
    (C_law_run : Cal P w K mg base CX0 2 "_law_run" f7 fd7 ["cells", "program", "inputs", "most", "machine"] (spLRun K))
    (C_law_kept : Cal P w K mg base CX0 2 "_law_kept" f8 fd8 ["row", "program", "cells"] (spLKe K))
    (C_behind_touch : Cal P w K mg base CX0 5 "behind_touch" f9 fd9 ["machine", "lives", "cell"] (spBeh K touchL))
    (C_behind_touchX : Cal P w K mg base (L2.CX P w) 5 "behind_touch" f9 fd9 ["machine", "lives", "cell"] (spTouchX K CBL))
    (C_behind_set : Cal P w K mg base CX0 5 "behind_set" f10 fd10 ["machine", "lives", "cell"] (spBeh K setL))
    (C_behind_setX : Cal P w K mg base (L2.CX P w) 5 "behind_set" f10 fd10 ["machine", "lives", "cell"] (spSetX K CBC))
    (C_behind_wait : Cal P w K mg base CX0 5 "behind_wait" f11 fd11 ["machine", "lives"] (spBehW K))
    (C_run_lasting : Cal P w K mg base CX0 5 "run_lasting" f12 fd12 ["cells", "program", "inputs", "most"] (spLast K))
    (C_run_lastingX : Cal P w K mg base (L2.CX P w) 5 "run_lasting" f12 fd12 ["cells", "program", "inputs", "most"] (spLastX K CBP))
    (C_run_fading : Cal P w K mg base CX0 5 "run_fading" f13 fd13 ["machine", "program", "inputs", "most"] (spFade K))
    (C_run_fadingX : Cal P w K mg base (L2.CX P w) 5 "run_fading" f13 fd13 ["machine", "program", "inputs", "most"] (spFadeX K CBM))
    (T_BadMachine : NS_BadMachine.Ty P K mg CBM fI1 cc1 cda1) (T_BadProgram : NS_BadProgram.Ty P K mg CBP fI cc cda) (B_BadLives : BaseE K mg "BadLives" CBL) (B_BadCell : BaseE K mg "BadCell" CBC) : FnOk P w K mg base CX0 7 f fd ["script"] (spLaw K) := by
  refine F.ok sc_law (fun vs H Q E h => ?_) (fun cdv A outer s H vs Q E hr h => ?_)
  · obtain ⟨_, _, rfl, _⟩ := h
    rfl
  · obtain ⟨s, ns, rfl, hs, k⟩ := h
    refine ⟨_, (pss_cons (ps_set (i := 1) sc_law.nd rfl (Or.inr rfl) (pe_lst (pa_cons (pv 0) (pa_cons pe_int (pa_cons pe_int (pa_cons pe_int pa_nil))))))
  (pss_cons (ps_set (i := 2) sc_law.nd rfl (Or.inr rfl) (pe_call C_law_machine.G (hr.mono (by first | decide | omega)) rfl C_law_machine.g C_law_machine.kp C_law_machine.b .nil pass0 (pa_cons (pv 1) (pa_cons pe_int (pa_cons pe_int pa_nil)))))
  (pss_cons (ps_set (i := 3) sc_law.nd rfl (Or.inl rfl) (pe_callB (len_K (K := K) rfl) (by rfl) T.z_len (by decide +kernel) (pa_cons (pe_ix (ix_K (K := K) rfl) (pv 2) pe_int (fun _ _ => rfl)) pa_nil)))
  (pss_cons (ps_set (i := 4) sc_law.nd rfl (Or.inr rfl) (pe_callTy (tpl_K (K := K) rfl) (by rfl) T.z_tuple (by decide +kernel) (pa_cons (pe_lc (own := [("fade", 17)]) (g := gName 17) rfl sc_law.nd (pi_tupK (K := K) rfl (pe_ix (ix_K (K := K) rfl) (pv 2) pe_int (fun _ _ => rfl))) (blkOk_by (by kernel_rfl)) (fun _ _ _ _ _ => pg_name (i := 17) sc_law.nd rfl (by first | exact Or.inl rfl | exact Or.inr rfl)) (fun _ _ _ _ _ => pts_nil) (fun _ _ _ _ _ => (pe_call C_law_taken.G (hr.mono (by first | decide | omega)) rfl C_law_taken.g C_law_taken.kp C_law_taken.b .nil pass0 (pa_cons (pv 1) (pa_cons (pe_op op_add (pv 17) pe_int) pa_nil))))) pa_nil)))
  (pss_cons (ps_set (i := 5) sc_law.nd rfl (Or.inr rfl) (pe_call C_law_taken.G (hr.mono (by first | decide | omega)) rfl C_law_taken.g C_law_taken.kp C_law_taken.b .nil pass0 (pa_cons (pv 1) (pa_cons (pv 3) pa_nil))))
  (pss_cons (ps_set (i := 6) sc_law.nd rfl (Or.inl rfl) (pe_lst (pa_cons (pe_call C_behind_touch.G (hr.mono (by first | decide | omega)) rfl C_behind_touch.g C_behind_touch.kp C_behind_touch.b .nil pass0 (pa_cons (pv 2) (pa_cons (pv 4) (pa_cons (pv 5) pa_nil)))) (pa_cons (pe_call C_behind_set.G (hr.mono (by first | decide | omega)) rfl C_behind_set.g C_behind_set.kp C_behind_set.b .nil pass0 (pa_cons (pv 2) (pa_cons (pv 4) (pa_cons (pv 5) pa_nil)))) (pa_cons (pe_call C_behind_wait.G (hr.mono (by first | decide | omega)) rfl C_behind_wait.g C_behind_wait.kp C_behind_wait.b .nil pass0 (pa_cons (pv 2) (pa_cons (pv 4) pa_nil))) pa_nil)))))
  (pss_cons (ps_if (pt_not (pt_val (pe_call C_law_alike.G (hr.mono (by first | decide | omega)) rfl C_law_alike.g C_law_alike.kp C_law_alike.b .nil pass0 (pa_cons (pv 6) (pa_cons (pe_lc (own := [("word", 18)]) (g := gName 18) rfl sc_law.nd (pi_listK (K := K) rfl (pe_lst (pa_cons pe_str (pa_cons pe_str (pa_cons pe_str pa_nil))))) (blkOk_by (by kernel_rfl)) (fun _ _ _ _ _ => pg_name (i := 18) sc_law.nd rfl (by first | exact Or.inl rfl | exact Or.inr rfl)) (fun _ _ _ _ _ => pts_nil) (fun _ _ _ _ _ => (pe_call C_law_behind.G (hr.mono (by first | decide | omega)) rfl C_law_behind.g C_law_behind.kp C_law_behind.b .nil pass0 (pa_cons (pv 2) (pa_cons (pv 4) (pa_cons (pv 18) (pa_cons (pv 5) pa_nil))))))) pa_nil))))) (pss_one (ps_ret pe_bl)) pss_nil)
  (pss_cons (ps_set (i := 7) sc_law.nd rfl (Or.inl rfl) (pe_call C_law_program.G (hr.mono (by first | decide | omega)) rfl C_law_program.g C_law_program.kp C_law_program.b .nil pass0 (pa_cons (pv 1) (pa_cons (pv 3) (pa_cons pe_int pa_nil)))))
  (pss_cons (ps_par (i := 8) (j := 9) (by rfl) sc_law.nd rfl rfl (by decide) rfl rfl (pa_cons (pe_callTy (tpl_K (K := K) rfl) (by rfl) T.z_tuple (by decide +kernel) (pa_cons (pe_lc (own := [("turn", 19)]) (g := gName 19) rfl sc_law.nd (pi_range1 rfl T.z_range (pa_cons (pe_call C_law_taken.G (hr.mono (by first | decide | omega)) rfl C_law_taken.g C_law_taken.kp C_law_taken.b .nil pass0 (pa_cons (pv 1) (pa_cons pe_int pa_nil))) pa_nil)) (blkOk_by (by kernel_rfl)) (fun _ _ _ _ _ => pg_name (i := 19) sc_law.nd rfl (by first | exact Or.inl rfl | exact Or.inr rfl)) (fun _ _ _ _ _ => pts_nil) (fun _ _ _ _ _ => (pe_call C_law_taken.G (hr.mono (by first | decide | omega)) rfl C_law_taken.g C_law_taken.kp C_law_taken.b .nil pass0 (pa_cons (pv 1) (pa_cons pe_int pa_nil))))) pa_nil)) (pa_cons (pe_call C_law_taken.G (hr.mono (by first | decide | omega)) rfl C_law_taken.g C_law_taken.kp C_law_taken.b .nil pass0 (pa_cons (pv 1) (pa_cons pe_int pa_nil))) pa_nil)) (by rfl))
  (pss_cons (ps_if (pt_not (pt_val (pe_call C_law_alike.G (hr.mono (by first | decide | omega)) rfl C_law_alike.g C_law_alike.kp C_law_alike.b .nil pass0 (pa_cons (pe_call C_run_lasting.G (hr.mono (by first | decide | omega)) rfl C_run_lasting.g C_run_lasting.kp C_run_lasting.b .nil pass0 (pa_cons (pv 3) (pa_cons (pv 7) (pa_cons (pv 8) (pa_cons (pv 9) pa_nil))))) (pa_cons (pe_call C_law_run.G (hr.mono (by first | decide | omega)) rfl C_law_run.g C_law_run.kp C_law_run.b .nil pass0 (pa_cons (pv 3) (pa_cons (pv 7) (pa_cons (pv 8) (pa_cons (pv 9) (pa_cons pe_non pa_nil)))))) pa_nil))))) (pss_one (ps_ret pe_bl)) pss_nil)
  (pss_cons (ps_set (i := 10) sc_law.nd rfl (Or.inl rfl) (pe_call C_law_kept.G (hr.mono (by first | decide | omega)) rfl C_law_kept.g C_law_kept.kp C_law_kept.b .nil pass0 (pa_cons (pv 1) (pa_cons (pv 7) (pa_cons (pv 3) pa_nil)))))
  (pss_cons (ps_if (pt_not (pt_val (pe_call C_law_alike.G (hr.mono (by first | decide | omega)) rfl C_law_alike.g C_law_alike.kp C_law_alike.b .nil pass0 (pa_cons (pe_call C_run_fading.G (hr.mono (by first | decide | omega)) rfl C_run_fading.g C_run_fading.kp C_run_fading.b .nil pass0 (pa_cons (pv 2) (pa_cons (pv 10) (pa_cons (pv 8) (pa_cons (pv 9) pa_nil))))) (pa_cons (pe_call C_law_run.G (hr.mono (by first | decide | omega)) rfl C_law_run.g C_law_run.kp C_law_run.b .nil pass0 (pa_cons (pv 3) (pa_cons (pv 10) (pa_cons (pv 8) (pa_cons (pv 9) (pa_cons (pv 2) pa_nil)))))) pa_nil))))) (pss_one (ps_ret pe_bl)) pss_nil)
  (pss_cons (ps_set (i := 11) sc_law.nd rfl (Or.inl rfl) (pe_lst (pa_cons (pe_tup (pa_cons pe_non (pa_cons pe_str pa_nil))) (pa_cons (pe_tup (pa_cons (pe_tup (pa_cons (pe_ix (ix_K (K := K) rfl) (pv 2) pe_int (fun _ _ => rfl)) pa_nil)) (pa_cons pe_str pa_nil))) (pa_cons (pe_tup (pa_cons (pe_tup (pa_cons (pe_tup (pa_cons pe_int pa_nil)) (pa_cons (pe_tup (pa_cons pe_int pa_nil)) pa_nil))) (pa_cons pe_str pa_nil))) pa_nil)))))
  (pss_cons (ps_expr (pe_bm PySem.F.plainAttrs_list PySem.F.slot_list_append PySem.F.type_list_append mt_append (pv 11) (pa_cons (pe_tup (pa_cons (pe_tup (pa_cons (pe_ix (ix_K (K := K) rfl) (pv 2) pe_int (fun _ _ => rfl)) (pa_cons (pe_op (catA_K (K := K) rfl) (pe_ix (ix_K (K := K) rfl) (pv 2) pe_int (fun _ _ => rfl)) (pe_tup (pa_cons pe_int pa_nil))) pa_nil))) (pa_cons pe_str pa_nil))) pa_nil)))
  (pss_cons (ps_for PassesOwn.never rfl (pi_listK (K := K) rfl (pv 11)) (pg_tup rfl (pgs_cons (pg_name (i := 12) sc_law.nd rfl (by first | exact Or.inl rfl | exact Or.inr rfl)) (pgs_cons (pg_name (i := 13) sc_law.nd rfl (by first | exact Or.inl rfl | exact Or.inr rfl)) pgs_nil))) (pss_one (ps_try_as (i := 14) (Wout := fun _ _ _ _ => False) rfl rfl sc_law.nd rfl rfl ⟨rfl, by decide, Or.inl T_BadMachine.gC⟩ takes0
  (fun W pn xe tk _ => (pss_cons (ps_expr (pe_callS C_run_fadingX.G (hr.mono (by first | decide | omega)) rfl C_run_fadingX.g C_run_fadingX.kp C_run_fadingX.b (fun σ => passAt tk σ) (pa_cons (pv 12) (pa_cons (pv 10) (pa_cons (pv 8) (pa_cons (pv 9) pa_nil))))))
  (pss_one (ps_ret pe_bl))))
  (fun a oe cls d pn hz hf => (pss_one (ps_if (pt_cmpR op_ne (NS_BadMachine.pe_by T_BadMachine hz hf (pv 14)) (pv 13) (nomark _)) (pss_one (ps_ret pe_bl)) pss_nil))))))
  (pss_cons (ps_set (i := 15) sc_law.nd rfl (Or.inl rfl) (pe_call C_law_taken.G (hr.mono (by first | decide | omega)) rfl C_law_taken.g C_law_taken.kp C_law_taken.b .nil pass0 (pa_cons (pv 1) (pa_cons (pe_callB (len_K (K := K) rfl) (by rfl) T.z_len (by decide +kernel) (pa_cons (pv 7) pa_nil)) pa_nil))))
  (pss_cons (ps_set (i := 11) sc_law.nd rfl (Or.inl rfl) (pe_lst (pa_cons (pe_tup (pa_cons pe_str (pa_cons (pv 3) pa_nil))) (pa_cons (pe_tup (pa_cons pe_str (pa_cons (pe_op op_add (pe_callB (len_K (K := K) rfl) (by rfl) T.z_len (by decide +kernel) (pa_cons (pv 7) pa_nil)) pe_int) pa_nil))) (pa_cons (pe_tup (pa_cons pe_str pa_nil)) (pa_cons (pe_tup (pa_cons pe_str (pa_cons pe_bl pa_nil))) (pa_cons pe_int (pa_cons (pe_tup (pa_cons pe_str (pa_cons pe_int pa_nil))) pa_nil))))))))
  (pss_cons (ps_set (i := 16) sc_law.nd rfl (Or.inl rfl) (pe_op (catA_K (K := K) rfl) (pe_slice (slA_K (K := K) rfl) (pv 7) po_none (po_some (pv 15))) (pe_tup (pa_cons (pe_call C_law_pick.G (hr.mono (by first | decide | omega)) rfl C_law_pick.g C_law_pick.kp C_law_pick.b .nil pass0 (pa_cons (pv 1) (pa_cons (pv 11) pa_nil))) pa_nil))))
  (pss_cons (ps_try_as (i := 14) (Wout := fun _ _ _ _ => False) rfl rfl sc_law.nd rfl rfl ⟨rfl, by decide, Or.inl T_BadProgram.gC⟩ takes0
  (fun W pn xe tk _ => (pss_cons (ps_expr (pe_callS C_run_lastingX.G (hr.mono (by first | decide | omega)) rfl C_run_lastingX.g C_run_lastingX.kp C_run_lastingX.b (fun σ => passAt tk σ) (pa_cons (pv 3) (pa_cons (pe_op (catA_K (K := K) rfl) (pv 16) (pe_slice (slA_K (K := K) rfl) (pv 7) (po_some (pe_op op_add (pv 15) pe_int)) po_none)) (pa_cons (pv 8) (pa_cons (pv 9) pa_nil))))))
  (pss_one (ps_ret pe_bl))))
  (fun a oe cls d pn hz hf => (pss_one (ps_if (pt_cmpR op_ne (NS_BadProgram.pe_by T_BadProgram hz hf (pv 14)) (pv 15) (nomark _)) (pss_one (ps_ret pe_bl)) pss_nil))))
  (pss_cons (ps_try_as (i := 14) (Wout := fun _ _ _ _ => False) rfl rfl sc_law.nd rfl rfl ⟨rfl, by decide, Or.inl B_BadLives.gC⟩ takes0
  (fun W pn xe tk _ => (pss_cons (ps_expr (pe_callS C_behind_touchX.G (hr.mono (by first | decide | omega)) rfl C_behind_touchX.g C_behind_touchX.kp C_behind_touchX.b (fun σ => passAt tk σ) (pa_cons (pv 2) (pa_cons (pe_call C_law_pick.G (hr.mono (by first | decide | omega)) rfl C_law_pick.g C_law_pick.kp C_law_pick.b .nil pass0 (pa_cons (pv 1) (pa_cons (pe_lst (pa_cons pe_non (pa_cons (pe_op (catA_K (K := K) rfl) (pv 4) (pe_tup (pa_cons pe_int pa_nil))) (pa_cons (pe_op (repA_K (K := K) rfl) (pe_tup (pa_cons pe_int pa_nil)) (pv 3)) (pa_cons (pe_op (repA_K (K := K) rfl) (pe_tup (pa_cons pe_bl pa_nil)) (pv 3)) pa_nil))))) pa_nil))) (pa_cons (pv 5) pa_nil)))))
  (pss_one (ps_ret pe_bl))))
  (fun a oe cls d pn hz hf => (pss_one (ps_set (i := 15) sc_law.nd rfl (Or.inl rfl) pe_int))))
  (pss_cons (ps_try_as (i := 14) (Wout := fun _ _ _ _ => False) rfl rfl sc_law.nd rfl rfl ⟨rfl, by decide, Or.inl B_BadCell.gC⟩ takes0
  (fun W pn xe tk _ => (pss_one (ps_expr (pe_callS C_behind_setX.G (hr.mono (by first | decide | omega)) rfl C_behind_setX.g C_behind_setX.kp C_behind_setX.b (fun σ => passAt tk σ) (pa_cons (pv 2) (pa_cons (pv 4) (pa_cons (pe_call C_law_pick.G (hr.mono (by first | decide | omega)) rfl C_law_pick.g C_law_pick.kp C_law_pick.b .nil pass0 (pa_cons (pv 1) (pa_cons (pe_lst (pa_cons (pv 3) (pa_cons (pe_op op_sub pe_int pe_int) (pa_cons pe_non (pa_cons pe_bl pa_nil))))) pa_nil))) pa_nil)))))))
  (fun a oe cls d pn hz hf => (pss_one (ps_ret pe_bl))))
  (pss_one (ps_ret pe_bl))))))))))))))))))))))), ?_⟩
    -- row
    refine q_asgL (xs := [.ref s, .int 0, .int 7501, .int 0]) (el_lst (ea_cons (ev_var rfl) (ea_cons ev_c (ea_cons ev_c (ea_cons ev_c ea_nil)))) (by show 4 ≤ 100000; decide)) fun r H1 hr0 e1 hr1 => ?_
    have R1 : RowAt K H1 r s ns := ⟨⟨0, 7501, 0, hr1, Int.le_refl _⟩, ex_l e1 hs⟩
    -- machine
    refine q_callA (ea_cons (ev_var rfl) (ea_cons ev_c (ea_cons ev_c ea_nil))) fun H2 e2 => ?_
    refine ⟨r, s, ns, 3, 5, rfl, R1.up e2, by decide, by decide, by decide, by decide, fun m fs rs H3 hm hok hf3 R3 _ => ?_⟩
    obtain ⟨y3, hy3⟩ := R3.lst
    have mB := mat_rem hy3 hm
    have eB : Ex (rem H3 r) H3 := rem_ex
    have hBr : rem H3 r r = none := rem_eq
    generalize rem H3 r = B at mB eB hBr
    obtain ⟨fa, ra, hm0, hfa, hra⟩ := id mB
    have hl1 := hok.l1
    have hll := hok.ll
    -- cells
    refine q_asg (v := .int (fs.length : Nat)) (ev_is (ev_lnT (ev_ixT (ev_var rfl) ev_c (ex_t eB hm0) rfl) (ex_t eB hfa)) (by rw [nV_len])) fun H4 e4 => ?_
    have eB4 := eB.trans e4
    have R4 := R3.up e4
    -- lives
    refine m_asgTpl ?_
    refine m_lcT (a := fa) (xs := nV fs) (fun D i H' => ∃ ls : List Nat, Ex (rem H4 r) H' ∧ RowC H' r s ∧ H' D = some (.lst (nV ls)) ∧ D ≠ r ∧ rem H4 r D = none ∧ ls.length = i ∧ ∀ j, j < i → ls.getD j 0 ≤ fs.getD j 0) (ev_ixT (ev_var rfl) ev_c (ex_t eB4 hm0) rfl) (ex_t eB4 hfa) (fun D H5 e5 hD => ?_) (fun D i H5 _ ⟨_, e5, _⟩ => ex_t ((ex_rem2 eB4 hBr).trans e5) hfa) ?_ ?_
    · obtain ⟨y4, hy4⟩ := R4.lst
      have hDr : D ≠ r := fun z => by rw [z, e5 _ _ hy4] at hD; cases hD
      exact ⟨[], rem_ex.trans (e5.trans (Ex.new hD)), R4.c.up (e5.trans (Ex.new hD)), upd_same, hDr, fresh_back (rem_ex.trans e5) hD, rfl, fun j hj => absurd hj (Nat.not_lt_zero _)⟩
    · rintro D i x H5 hi ⟨ls, e5, c5, h5, hDr, hD0, hlsl, hls⟩
      obtain ⟨y, hy, rfl⟩ := nV_get hi
      have hif : i < fs.length := (List.getElem?_eq_some_iff.mp hy).1
      have R5 := R4.to e5 c5
      refine ⟨rfl, ?_⟩
      refine yes_lc ?_
      rw [if_pos rfl]
      refine m_call (ea_cons (ev_var rfl) (ea_cons (ev_succ (n := y) (ev_var rfl)) ea_nil)) fun H6 e6 => ?_
      have hyf := (hok.f y (List.mem_of_getElem? hy)).2
      refine ⟨r, s, ns, y + 1, rfl, R5.up e6, by omega, by omega, fun z H7 hz R7 e7 => ?_⟩
      have h7 : H7 D = some (.lst (nV ls)) := e7 _ _ (by rw [rem_ne hDr]; exact e6 _ _ h5)
      have e47 : Ex (rem H4 r) H7 := Ex.past (e5.trans e6) rem_eq e7
      refine ⟨nV ls, h7, sz_lt (by rw [nV_len]; omega), ls ++ [z], Ex.mut e47 hD0, ?_, by rw [upd_same, nV_app]; rfl, hDr, hD0, by simp [hlsl], fun j hj => ?_⟩
      · obtain ⟨a', b', c', h1, h2⟩ := R7.c
        exact ⟨a', b', c', by rw [upd_ne hDr.symm]; exact h1, h2⟩
      · by_cases hji : j < i
        · rw [List.getD_eq_getElem?_getD, List.getElem?_append_left (by omega), ← List.getD_eq_getElem?_getD]
          exact hls j hji
        · have hj' : j = ls.length := by omega
          subst hj'
          rw [List.getD_eq_getElem?_getD (l := ls ++ [z]), List.getElem?_append_right (Nat.le_refl _), Nat.sub_self, List.getD_eq_getElem?_getD (l := fs), show fs[ls.length]? = some y by rw [hlsl]; exact hy]
          show z ≤ y
          omega
    rintro D H5 ⟨ls, e5, c5, h5, hDr, hD0, hlsl, hls⟩
    rw [nV_len] at hlsl hls
    have R5 := R4.to e5 c5
    refine ⟨D, nV ls, rfl, .inl ⟨sq_of h5, fun lv hlv0 => ?_⟩⟩
    have e6 := Ex.new (o := .tup (nV ls)) hlv0
    have h6 : upd H5 lv (.tup (nV ls)) lv = some (.tup (nV ls)) := upd_same
    have R6 := R5.up e6
    have eB6 := ((ex_rem2 eB4 hBr).trans e5).trans e6
    generalize upd H5 lv (.tup (nV ls)) = H6 at e6 h6 R6 eB6 ⊢
    obtain ⟨y6, hy6⟩ := R6.lst
    have lB := sqT_rem hy6 (st_of (K := K) h6)
    have mB2 := mB.up (ex_rem2 eB6 hBr)
    have eB' : Ex (rem H6 r) H6 := rem_ex
    have hBr' : rem H6 r r = none := rem_eq
    clear eB4 eB6 hm0 hfa hra eB hBr
    generalize rem H6 r = B2 at lB mB2 eB' hBr'
    obtain ⟨fa, ra, hm0, hfa, hra⟩ := id mB2
    have hlio : LiOk fs ls := ⟨hlsl, fun i hi => hls i hi⟩
    try dsimp only
    -- cell
    refine q_callA (ea_cons (ev_var rfl) (ea_cons (ev_var rfl) ea_nil)) fun H7 e7 => ?_
    refine ⟨r, s, ns, fs.length, rfl, R6.up e7, by omega, by omega, fun c H8 hc R8 e8 => ?_⟩
    have eB8 : Ex B2 H8 := Ex.past (eB'.trans e7) hBr' e8
    have R8' := R8
    -- told
    have hcl : c < rs.length := by omega
    refine m_asgLst ?_
    refine m_consCall (ea_cons (ev_var rfl) (ea_cons (ev_var rfl) (ea_cons (ev_var rfl) ea_nil))) fun H9 e9 => ?_
    refine ⟨m, lv, fs, rs, ls, c, rfl, mB2.up (eB8.trans e9), hok, ex_t (eB8.trans e9) lB, hlio, hcl, fun b1 H10 hb1 e10 h10 => ?_⟩
    have e810 := e9.trans e10
    refine m_consCall (ea_cons (ev_var rfl) (ea_cons (ev_var rfl) (ea_cons (ev_var rfl) ea_nil))) fun H11 e11 => ?_
    refine ⟨m, lv, fs, rs, ls, c, rfl, mB2.up (eB8.trans (e810.trans e11)), hok, ex_t (eB8.trans (e810.trans e11)) lB, hlio, hcl, fun b2 H12 hb2 e12 h12 => ?_⟩
    have e812 := (e810.trans e11).trans e12
    refine m_consCall (ea_cons (ev_var rfl) (ea_cons (ev_var rfl) ea_nil)) fun H13 e13 => ?_
    refine ⟨m, lv, fs, rs, ls, rfl, mB2.up (eB8.trans (e812.trans e13)), hok, ex_t (eB8.trans (e812.trans e13)) lB, hlio, fun b3 H14 hb3 e14 h14 => ?_⟩
    have e814 := (e812.trans e13).trans e14
    refine ⟨by show 3 ≤ sizeLine; rw [sizeLine_eq]; decide, fun tl htl => ?_⟩
    have e15 := Ex.new (o := .lst [.ref b1, .ref b2, .ref b3]) htl
    have h15 : upd H14 tl (.lst [.ref b1, .ref b2, .ref b3]) tl = some (.lst [.ref b1, .ref b2, .ref b3]) := upd_same
    have pt : Paired (fun v l => ∃ a : Addr, v = V.ref a ∧ SqT K (upd H14 tl (.lst [.ref b1, .ref b2, .ref b3])) a (nV l)) [V.ref b1, V.ref b2, V.ref b3] (K3.map fun q => bhL q.2 fs rs ls c) :=
      .cons ⟨b1, rfl, ex_t (((e11.trans e12).trans (e13.trans e14)).trans e15) (st_of h10)⟩ (.cons ⟨b2, rfl, ex_t ((e13.trans e14).trans e15) (st_of h12)⟩ (.cons ⟨b3, rfl, ex_t e15 (st_of h14)⟩ .nil))
    have e815 := e814.trans e15
    have R15 := R8.up e815
    have eB15 := eB8.trans e815
    generalize upd H14 tl (.lst [.ref b1, .ref b2, .ref b3]) = H15 at h15 pt R15 eB15 ⊢
    clear e15 e815
    try dsimp only
    -- alike?
    refine q_unless ?_
    refine m_cons (ev_var rfl) fun H16 e16 => ?_
    refine m_consT1 ?_
    refine m_lcN (xs := K3.map fun q => V.str q.1) (fun p D i H' => Ex H16 H' ∧ H16 D = none ∧ H' p = some (.lst (K3.map fun q => V.str q.1)) ∧ p ≠ D ∧ ∃ ts, H' D = some (.lst ts) ∧ ts.length = i ∧ Paired (fun v l => ∃ a : Addr, v = .ref a ∧ SqT K H' a (nV l)) ts ((K3.take i).map fun q => bhL q.2 fs rs ls c))
      (el_lst (ea_cons ev_c (ea_cons ev_c (ea_cons ev_c ea_nil))) (by show 3 ≤ 100000; decide)) (fun p D H17 hp e17 h17 hD => ?_) (fun p D i H' _ ⟨_, _, h, _⟩ => sq_of h) ?_ ?_
    · have hpD : p ≠ D := ne_of_none h17 hD
      exact ⟨e17.trans (Ex.new hD), fresh_back e17 hD, by rw [upd_ne hpD]; exact h17, hpD, [], upd_same, rfl, .nil⟩
    · rintro p D i x H17 hi ⟨e17, hD0, hp17, hpD, ts, hD17, htsl, hpa⟩
      rw [List.getElem?_map] at hi
      obtain ⟨q, hq, rfl⟩ := Option.map_eq_some_iff.mp hi
      refine ⟨rfl, ?_⟩
      refine yes_lc ?_
      rw [if_pos rfl]
      refine m_call (ea_cons (ev_var rfl) (ea_cons (ev_var rfl) (ea_cons (ev_var rfl) (ea_cons (ev_var rfl) ea_nil)))) fun H18 e18 => ?_
      have eB18 := eB15.trans (e16.trans (e17.trans e18))
      refine ⟨m, lv, fs, rs, ls, q.1, .int (c : Nat), q.2, c, rfl, mB2.up eB18, ex_t eB18 lB, hll, by omega, by omega, k3_ok hcl q (List.mem_of_getElem? hq), fun b H19 hb e19 h19 => ?_⟩
      have hD19 : H19 D = some (.lst ts) := (e18.trans e19) _ _ hD17
      refine ⟨ts, hD19, sz_lt (by have := (List.getElem?_eq_some_iff.mp hq).1; simp only [List.length_cons, List.length_nil] at this; omega), Ex.mut (e17.trans (e18.trans e19)) hD0, hD0, by rw [upd_ne hpD]; exact (e18.trans e19) _ _ hp17, hpD, ts ++ [.ref b], upd_same, by simp [htsl], ?_⟩
      rw [take_succ_of hq, List.map_append]
      refine paired_app (Paired.mapP hpa fun v l ⟨a, h1, h2⟩ => ⟨a, h1, sqT_upd hD19 (ex_t (e18.trans e19) h2)⟩) (.cons ⟨b, rfl, sqT_upd hD19 (st_of h19)⟩ .nil)
    rintro p D H17 ⟨e17, hD0, hp17, hpD, ts, hD17, htsl, hpa⟩
    rw [List.take_of_length_le (by rw [List.length_map]; exact Nat.le_refl _)] at hpa
    have hbl : ∀ d ∈ (K3.map fun q => bhL q.2 fs rs ls c).map tD, AD 1 d := fun d hd => by
      obtain ⟨l, hl, rfl⟩ := List.mem_map.mp hd
      obtain ⟨q, _, rfl⟩ := List.mem_map.mp hl
      exact ad_tD (by rw [bhL_len]; omega)
    refine ⟨.ref tl, .ref D, .list ((K3.map fun q => bhL q.2 fs rs ls c).map tD), rfl, .lst (sq_of ((e16.trans e17) _ _ h15)) (dpAll_up (e16.trans e17) _ _ (dpAll_tups pt)), .lst (sq_of hD17) (dpAll_tups hpa), .lst (by rw [List.length_map, List.length_map]; show 3 ≤ 40000; decide) hbl, fun H18 e18 => ?_⟩
    refine ⟨true, rfl, ?_⟩
    rw [if_neg (by decide)]
    have e1518 := (e16.trans e17).trans e18
    have R18 := R15.up e1518
    have eB18 := eB15.trans e1518
    clear hpa pt
    -- program
    refine q_callA (ea_cons (ev_var rfl) (ea_cons (ev_var rfl) (ea_cons ev_c ea_nil))) fun H19 e19 => ?_
    refine ⟨r, s, ns, fs.length, 7, rfl, R18.up e19, by omega, by omega, by decide, by decide, fun pa p H20 hpa0 hp hokp hT hlen R20 e20 => ?_⟩
    have eB20 : Ex B2 H20 := Ex.past (eB18.trans e19) hBr' e20
    obtain ⟨y20, hy20⟩ := R20.lst
    have pB := pg_rem hy20 hp
    have mB3 := mB2.up (ex_rem2 eB20 hBr')
    have lB3 := ex_t (ex_rem2 eB20 hBr') lB
    have eC : Ex (rem H20 r) H20 := rem_ex
    have hCr : rem H20 r r = none := rem_eq
    clear hm0 hfa hra eB' lB mB2
    generalize rem H20 r = B3 at pB mB3 lB3 eC hCr
    have hn1 : 1 ≤ p.length := hokp.1
    -- inputs, most
    refine m_par ?_
    refine m_consTpl ?_
    refine m_consT1 ?_
    refine m_lcRc (R := fun n H1 H2 => n < 4 ∧ RowAt K H1 r s ns ∧ RowAt K H2 r s ns ∧ Ex (rem H1 r) H2) (ea_cons (ev_var rfl) (ea_cons ev_c ea_nil)) (fun H21 e21 Q' q' => ⟨r, s, ns, 4, rfl, R20.up e21, by decide, by decide, fun n H22 hn R22 e22 => q' n H22 ⟨hn, R20.up e21, R22, e22⟩⟩) fun n H21 H22 e21 ⟨hn, R21, R22, e22⟩ => ⟨by omega, fun D hD => ⟨fun i H' => ∃ l : List Nat, Ex (rem H22 r) H' ∧ RowC H' r s ∧ H' D = some (.lst (nV l)) ∧ l.length = i ∧ ∀ x ∈ l, x < 3, ⟨[], rem_ex.trans (Ex.new hD), R22.c.up (Ex.new hD), upd_same, rfl, by simp⟩, ?_, ?_⟩⟩
    · obtain ⟨y22, hy22⟩ := R22.lst
      have hDr : D ≠ r := (ne_of_none hy22 hD).symm
      have hD0 : rem H22 r D = none := by rw [rem_ne hDr]; exact hD
      rintro i H23 hi ⟨l, e23, c23, h23, hll2, hlb⟩
      have R23 := R22.to e23 c23
      refine ⟨rfl, ?_⟩
      refine yes_lc ?_
      rw [if_pos rfl]
      refine m_call (ea_cons (ev_var rfl) (ea_cons ev_c ea_nil)) fun H24 e24 => ?_
      refine ⟨r, s, ns, 3, rfl, R23.up e24, by decide, by decide, fun z H25 hz R25 e25 => ?_⟩
      have h25 : H25 D = some (.lst (nV l)) := e25 _ _ (by rw [rem_ne hDr]; exact e24 _ _ h23)
      have e2225 : Ex (rem H22 r) H25 := Ex.past (e23.trans e24) rem_eq e25
      refine ⟨nV l, h25, sz_lt (by rw [nV_len]; omega), l ++ [z], Ex.mut e2225 hD0, ?_, by rw [upd_same, nV_app]; rfl, by simp [hll2], fun x hx => ?_⟩
      · obtain ⟨a', b', c', h1, h2⟩ := R25.c
        exact ⟨a', b', c', by rw [upd_ne hDr.symm]; exact h1, h2⟩
      · rcases List.mem_append.mp hx with h | h
        · exact hlb x h
        · rw [List.mem_singleton.mp h]; exact hz
    rintro H23 ⟨l, e23, c23, h23, hll2, hlb⟩
    have R23 := R22.to e23 c23
    refine ⟨D, nV l, rfl, .inl ⟨sq_of h23, fun ia hia => ?_⟩⟩
    have e24 := Ex.new (o := .tup (nV l)) hia
    have h24 : upd H23 ia (.tup (nV l)) ia = some (.tup (nV l)) := upd_same
    have R24 := R23.up e24
    have eC24 : Ex B3 (upd H23 ia (.tup (nV l))) := ((ex_rem2 (Ex.past (eC.trans e21) hCr e22) hCr).trans e23).trans e24
    generalize upd H23 ia (.tup (nV l)) = H24 at e24 h24 R24 eC24 ⊢
    obtain ⟨y24, hy24⟩ := R24.lst
    have iB := sqT_rem hy24 (st_of (K := K) h24)
    rw [nV_ints] at iB
    have hins : ∀ x ∈ l.map (fun (x : Nat) => (x : Int)), -1000000 ≤ x ∧ x ≤ 1000000 := fun x hx => by
      obtain ⟨y, hy, rfl⟩ := List.mem_map.mp hx
      have := hlb y hy
      omega
    have hinl : (l.map fun (x : Nat) => (x : Int)).length ≤ 50 := by rw [List.length_map]; omega
    generalize (l.map fun (x : Nat) => (x : Int)) = ins at iB hins hinl
    have mB4 := mB3.up (ex_rem2 eC24 hCr)
    have lB4 := ex_t (ex_rem2 eC24 hCr) lB3
    have pB4 := pB.up (ex_rem2 eC24 hCr)
    have eD : Ex (rem H24 r) H24 := rem_ex
    have hDr : rem H24 r r = none := rem_eq
    clear eC hCr mB3 lB3 pB eC24
    generalize rem H24 r = B4 at iB mB4 lB4 pB4 eD hDr
    refine m_consCall (ea_cons (ev_var rfl) (ea_cons ev_c ea_nil)) fun H25 e25 => ?_
    refine ⟨r, s, ns, 30, rfl, R24.up e25, by decide, by decide, fun most H26 hmost R26 e26 => ?_⟩
    have eD26 : Ex B4 H26 := Ex.past (eD.trans e25) hDr e26
    refine ⟨_, _, rfl, ?_⟩
    try dsimp only
    -- run_lasting
    refine q_unless ?_
    refine m_consCall (ea_cons (ev_var rfl) (ea_cons (ev_var rfl) (ea_cons (ev_var rfl) (ea_cons (ev_var rfl) ea_nil)))) fun H27 e27 => ?_
    refine ⟨pa, ia, p, ins, fs.length, most, rfl, pB4.up (eD26.trans e27), hokp, hT, by omega, by omega, by omega, ex_t (eD26.trans e27) iB, hinl, hins, by omega, fun u1 H28 hu1 e28 T1 => ?_⟩
    refine m_consCall (ea_cons (ev_var rfl) (ea_cons (ev_var rfl) (ea_cons (ev_var rfl) (ea_cons (ev_var rfl) (ea_cons ev_c ea_nil))))) fun H29 e29 => ?_
    have e2629 := (e27.trans e28).trans e29
    refine ⟨pa, ia, .non, p, ins, fs.length, most, none, rfl, pB4.up (eD26.trans e2629), hokp, by omega, ex_t (eD26.trans e2629) iB, hinl, by omega, by omega, rfl, (fun _ _ z => nomatch z), fun u2 H30 hu2 e30 T2 => ?_⟩
    have e2630 := e2629.trans e30
    refine ⟨.ref u1, .ref u2, toldD _ _ _, rfl, dp_told (T1.up (e29.trans e30)), dp_told T2, ad_told ?_ (endW_ok _ _), fun H31 e31 => ?_⟩
    · have := loopL_said (p := p) (ins := ins) most (Rs.new p fs.length) 0
      have h0 : (Rs.new p fs.length).said.length = 0 := rfl
      omega
    refine ⟨true, rfl, ?_⟩
    rw [if_neg (by decide)]
    have R31 := R26.up (e2630.trans e31)
    have eD31 := eD26.trans (e2630.trans e31)
    -- kept
    refine q_callA (ea_cons (ev_var rfl) (ea_cons (ev_var rfl) (ea_cons (ev_var rfl) ea_nil))) fun H32 e32 => ?_
    refine ⟨r, s, pa, ns, p, fs.length, rfl, R31.up e32, pB4.up (eD31.trans e32), hokp, by omega, by omega, by omega, fun ka p2 H33 hk hok2 hl2 R33 e33 => ?_⟩
    have eD33 : Ex B4 H33 := Ex.past (eD31.trans e32) hDr e33
    obtain ⟨y33, hy33⟩ := R33.lst
    have kB := pg_rem hy33 hk
    have mB5 := mB4.up (ex_rem2 eD33 hDr)
    have lB5 := ex_t (ex_rem2 eD33 hDr) lB4
    have pB5 := pB4.up (ex_rem2 eD33 hDr)
    have iB5 := ex_t (ex_rem2 eD33 hDr) iB
    have eE : Ex (rem H33 r) H33 := rem_ex
    have hEr : rem H33 r r = none := rem_eq
    clear eD hDr mB4 lB4 pB4 iB eD33 eD31 eD26
    generalize rem H33 r = B5 at kB mB5 lB5 pB5 iB5 eE hEr
    -- run_fading
    refine q_unless ?_
    refine m_consCall (ea_cons (ev_var rfl) (ea_cons (ev_var rfl) (ea_cons (ev_var rfl) (ea_cons (ev_var rfl) ea_nil)))) fun H34 e34 => ?_
    refine ⟨m, ka, ia, fs, rs, p2, ins, most, rfl, mB5.up (eE.trans e34), hok, kB.up (eE.trans e34), hok2, by omega, ex_t (eE.trans e34) iB5, hinl, hins, by omega, fun u3 H35 hu3 e35 T3 => ?_⟩
    refine m_consCall (ea_cons (ev_var rfl) (ea_cons (ev_var rfl) (ea_cons (ev_var rfl) (ea_cons (ev_var rfl) (ea_cons (ev_var rfl) ea_nil))))) fun H36 e36 => ?_
    have e3336 := (e34.trans e35).trans e36
    refine ⟨ka, ia, .ref m, p2, ins, fs.length, most, some (fs, rs), rfl, kB.up (eE.trans e3336), hok2, by omega, ex_t (eE.trans e3336) iB5, hinl, by omega, by omega, ⟨m, rfl, mB5.up (eE.trans e3336), hll, by omega⟩, (fun a b z => by cases z; rfl), fun u4 H37 hu4 e37 T4 => ?_⟩
    have e3337 := e3336.trans e37
    refine ⟨.ref u3, .ref u4, toldD _ _ _, rfl, dp_told (T3.up (e36.trans e37)), dp_told T4, ad_told ?_ (loopF_word _ _ _ _), fun H38 e38 => ?_⟩
    · have := loopF_said (p := p2) (ins := ins) (fs := fs) (rs := rs) most (Rs.new p2 fs.length) fs 0
      have h0 : (Rs.new p2 fs.length).said.length = 0 := rfl
      omega
    refine ⟨true, rfl, ?_⟩
    rw [if_neg (by decide)]
    have R38 := R33.up (e3337.trans e38)
    have eE38 := eE.trans (e3337.trans e38)
    -- odds
    dsimp only [tNext]
    obtain ⟨fa5, ra5, hm5, hf5, hr5⟩ := id mB5
    refine m_asgLst ?_
    refine m_consU (eu_tup (ea_cons ev_c (ea_cons ev_c ea_nil)) (by show 2 ≤ 100000; decide)) fun o1 H39 ho1 e39 h39 => ?_
    refine m_consTup ?_
    refine m_consU (eu_tup (ea_cons (ev_ixT (ev_var rfl) ev_c (ex_t (eE38.trans e39) hm5) rfl) ea_nil) (by show 1 ≤ 100000; decide)) fun t1 H40 ht1 e40 h40 => ?_
    refine m_cons ev_c fun H41 e41 => ?_
    refine ⟨by show 2 ≤ sizeLine; rw [sizeLine_eq]; decide, fun o2 ho2 => ?_⟩
    have e42 := Ex.new (o := .tup [.ref t1, .str "machine"]) ho2
    have h42 : upd H41 o2 (.tup [.ref t1, .str "machine"]) o2 = some (.tup [.ref t1, .str "machine"]) := upd_same
    generalize upd H41 o2 (.tup [.ref t1, .str "machine"]) = H42 at e42 h42 ⊢
    refine m_consTup ?_
    refine m_consTup ?_
    refine m_consU (eu_tup (ea_cons ev_c ea_nil) (by show 1 ≤ 100000; decide)) fun z1 H43 hz1 e43 h43 => ?_
    refine m_consU (eu_tup (ea_cons ev_c ea_nil) (by show 1 ≤ 100000; decide)) fun z2 H44 hz2 e44 h44 => ?_
    refine ⟨by show 2 ≤ sizeLine; rw [sizeLine_eq]; decide, fun t2 ht2 => ?_⟩
    have e45 := Ex.new (o := .tup [.ref z1, .ref z2]) ht2
    have h45 : upd H44 t2 (.tup [.ref z1, .ref z2]) t2 = some (.tup [.ref z1, .ref z2]) := upd_same
    generalize upd H44 t2 (.tup [.ref z1, .ref z2]) = H45 at e45 h45 ⊢
    refine m_cons ev_c fun H46 e46 => ?_
    refine ⟨by show 2 ≤ sizeLine; rw [sizeLine_eq]; decide, fun o3 ho3 => ?_⟩
    have e47 := Ex.new (o := .tup [.ref t2, .str "fades"]) ho3
    have h47 : upd H46 o3 (.tup [.ref t2, .str "fades"]) o3 = some (.tup [.ref t2, .str "fades"]) := upd_same
    generalize upd H46 o3 (.tup [.ref t2, .str "fades"]) = H47 at e47 h47 ⊢
    refine ⟨by show 3 ≤ sizeLine; rw [sizeLine_eq]; decide, fun od hod => ?_⟩
    have e4247 := (((e43.trans e44).trans e45).trans e46).trans e47
    have e3847 := ((e39.trans e40).trans e41).trans (e42.trans e4247)
    have e48 := Ex.new (o := .lst [.ref o1, .ref o2, .ref o3]) hod
    have h48 : upd H47 od (.lst [.ref o1, .ref o2, .ref o3]) od = some (.lst [.ref o1, .ref o2, .ref o3]) := upd_same
    have od0 : B5 od = none := fresh_back (eE38.trans e3847) hod
    have odr : od ≠ r := by
      obtain ⟨y47, hy47⟩ := (R38.up e3847).lst
      exact (ne_of_none hy47 hod).symm
    have s1 := st_of (K := K) ((((e40.trans e41).trans e42).trans (e4247.trans e48)) _ _ h39)
    have s2 := st_of (K := K) ((e4247.trans e48) _ _ h42)
    have s2' := st_of (K := K) (((e41.trans e42).trans (e4247.trans e48)) _ _ h40)
    have s3 := st_of (K := K) (e48 _ _ h47)
    have s3' := st_of (K := K) (((e46.trans e47).trans e48) _ _ h45)
    have s3z := st_of (K := K) ((((e44.trans e45).trans (e46.trans e47)).trans e48) _ _ h43)
    have R48 := R38.up (e3847.trans e48)
    have e38r : Ex (rem H38 r) (upd H47 od (.lst [.ref o1, .ref o2, .ref o3])) := rem_ex.trans (e3847.trans e48)
    have od0r : rem H38 r od = none := fresh_back (rem_ex.trans e3847) hod
    have eE48 := eE38.trans (e3847.trans e48)
    generalize upd H47 od (.lst [.ref o1, .ref o2, .ref o3]) = H48 at h48 s1 s2 s2' s3 s3' s3z R48 eE48 e38r ⊢
    clear e48
    try dsimp only
    -- the last of them
    refine m_appQ (ev_var rfl) h48 fun H49 e49 => ?_
    refine m_tupQ ?_
    refine m_consTup ?_
    refine m_cons (ev_ixT (ev_var rfl) ev_c (ex_t (eE48.trans e49) hm5) rfl) fun H50 e50 => ?_
    refine m_consS (es_cat (es_var (ev_ixT (ev_var rfl) ev_c (ex_t (eE48.trans (e49.trans e50)) hm5) rfl) (ex_t (eE48.trans (e49.trans e50)) hr5)) (fun H51 e51 => es_u (eu_tup (ea_cons ev_c ea_nil) (by show 1 ≤ 100000; decide))) (by rw [nV_len]; show rs.length + 1 ≤ 100000; omega)) fun rz H51 e51 hrz => ?_
    refine ⟨by show 2 ≤ sizeLine; rw [sizeLine_eq]; decide, fun t3 ht3 => ?_⟩
    have e52 := Ex.new (o := .tup [.ref fa5, .ref rz]) ht3
    have h52 : upd H51 t3 (.tup [.ref fa5, .ref rz]) t3 = some (.tup [.ref fa5, .ref rz]) := upd_same
    generalize upd H51 t3 (.tup [.ref fa5, .ref rz]) = H52 at e52 h52 ⊢
    refine m_cons ev_c fun H53 e53 => ?_
    refine ⟨by show 2 ≤ sizeLine; rw [sizeLine_eq]; decide, fun o4 ho4 => ?_⟩
    have e54 := Ex.new (o := .tup [.ref t3, .str "rows"]) ho4
    have h54 : upd H53 o4 (.tup [.ref t3, .str "rows"]) o4 = some (.tup [.ref t3, .str "rows"]) := upd_same
    generalize upd H53 o4 (.tup [.ref t3, .str "rows"]) = H54 at e54 h54 ⊢
    have e4854 := (((e49.trans e50).trans e51).trans e52).trans (e53.trans e54)
    have hd54 := e4854 _ _ h48
    refine ⟨od, _, _, rfl, rfl, hd54, by show 3 < sizeLine; rw [sizeLine_eq]; decide, ?_⟩
    have hB : ∀ x ∈ ([V.ref o1, .ref o2, .ref o3, .ref o4] : List V), ∃ (o : Addr) (odd : V) (due : Str), x = .ref o ∧ SqT K (upd H54 od (.lst [.ref o1, .ref o2, .ref o3, .ref o4])) o [odd, .str due] ∧ BadMa K (upd H54 od (.lst [.ref o1, .ref o2, .ref o3, .ref o4])) odd due := fun x hx => by
      simp only [List.mem_cons, List.not_mem_nil, or_false] at hx
      rcases hx with rfl | rfl | rfl | rfl
      · exact ⟨o1, .non, "machine", rfl, sqT_upd hd54 (ex_t e4854 s1), .no (.base .non) (by decide +kernel)⟩
      · exact ⟨o2, .ref t1, "machine", rfl, sqT_upd hd54 (ex_t e4854 s2), .len (sqT_upd hd54 (ex_t e4854 s2')) (by show 1 ≠ 2; decide)⟩
      · exact ⟨o3, .ref t2, "fades", rfl, sqT_upd hd54 (ex_t e4854 s3), .fades (fs := [0]) (sqT_upd hd54 (ex_t e4854 s3')) (sqT_upd hd54 (ex_t e4854 s3z)) (by decide) (by decide) ⟨0, List.mem_singleton.mpr rfl, by decide⟩⟩
      · refine ⟨o4, .ref t3, "rows", rfl, sqT_upd hd54 (st_of h54), .rows (fs := fs) (rs := rs ++ [0]) (sqT_upd hd54 (st_of ((e53.trans e54) _ _ h52))) (sqT_upd hd54 (ex_t (eE48.trans e4854) hf5)) ?_ hl1 hok.l4 hok.f (rowsOk_app hok.r (Nat.zero_le _)) (by rw [List.length_append]; show rs.length + 1 ≤ 100; omega) (by rw [List.length_append]; show rs.length + 1 ≠ fs.length; omega)⟩
        rw [nV_app]
        exact sqT_upd hd54 (ex_t (e52.trans (e53.trans e54)) hrz)
    have eE55 : Ex B5 (upd H54 od (.lst [.ref o1, .ref o2, .ref o3, .ref o4])) := Ex.mut (eE48.trans e4854) od0
    have h55 : upd H54 od (.lst [.ref o1, .ref o2, .ref o3, .ref o4]) od = some (.lst [.ref o1, .ref o2, .ref o3, .ref o4]) := upd_same
    have R55 : RowAt K (upd H54 od (.lst [.ref o1, .ref o2, .ref o3, .ref o4])) r s ns := by
      have R54 := R48.up e4854
      refine R38.to (Ex.mut (e38r.trans e4854) od0r) ?_
      · obtain ⟨a', b', c', h1, h2⟩ := R54.c
        exact ⟨a', b', c', by rw [upd_ne odr.symm]; exact h1, h2⟩
    show tSeq _ _ _ _ (upd H54 od (.lst [.ref o1, .ref o2, .ref o3, .ref o4]))
    generalize upd H54 od (.lst [.ref o1, .ref o2, .ref o3, .ref o4]) = H55 at hB eE55 h55 R55 ⊢
    clear hd54 e4854
    -- the bent machines
    refine q_forL (xs := [V.ref o1, .ref o2, .ref o3, .ref o4]) (ev_var rfl) (sq_of h55)
      (fun i σ H' => ∃ (z12 z13 z14 : Option V), Ex H55 H' ∧ σ = [some (.ref s), some (.ref r), some (.ref m), some (.int (fs.length : Nat)), some (.ref lv), some (.int (c : Nat)), some (.ref tl), some (.ref pa), some (.ref ia), some (.int (most : Nat)), some (.ref ka), some (.ref od), z12, z13, z14, none, none, none, none, none])
      (fun H56 e56 => ⟨_, _, _, e56, rfl⟩) (fun i σ H' _ ⟨_, _, _, e, _⟩ => sq_of (e _ _ h55)) ?_ ?_
    · rintro i x σ H56 hi ⟨z12, z13, z14, e56, rfl⟩
      obtain ⟨o, odd, due, rfl, hso, hbad⟩ := hB x (List.mem_of_getElem? hi)
      refine ⟨o, [odd, .str due], rfl, ex_t e56 hso, rfl, _, _, rfl, ⟨_, _, rfl, ⟨rfl, ?_⟩⟩⟩
      dsimp only
      refine s_tryC ?_
      refine (ea_cons (ev_var rfl) (ea_cons (ev_var rfl) (ea_cons (ev_var rfl) (ea_cons (ev_var rfl) ea_nil))) : EvA _ _ H56 [odd, .ref ka, .ref ia, .int (most : Nat)]) H56 (Ex.refl _) _ fun H57 e57 => ?_
      refine ⟨odd, .ref ka, .ref ia, .int (most : Nat), due, rfl, hbad.up (e56.trans e57), fun d H58 e58 hd => ?_⟩
      refine ⟨true, T_BadMachine.te, fun _ a0 ha0 => ?_, fun z => nomatch z⟩
      refine s_when (b := false) (et_is (et_ne (ev_byM (ev_var rfl) upd_same) (ev_var rfl) rfl) (by simp)) (fun z => nomatch z) fun _ H59 e59 => ?_
      exact ⟨_, _, _, ((e56.trans e57).trans (e58.trans (Ex.new hd))).trans e59, rfl⟩
    rintro σ H56 ⟨z12, z13, z14, e56, rfl⟩
    have R56 := R55.up e56
    have eE56 := eE55.trans e56
    obtain ⟨ps, hps, hpp⟩ := id pB5
    have hpsl : ps.length = p.length := Paired.length hpp
    -- wrong
    refine q_callA (vs := [.ref r, .int (p.length : Nat)]) (ea_cons (ev_var rfl) (ea_cons (ev_lnP (pB5.up eE56) (ev_var rfl)) ea_nil)) fun H57 e57 => ?_
    refine ⟨r, s, ns, p.length, rfl, R56.up e57, by omega, by omega, fun wr H58 hwr R58 e58 => ?_⟩
    have eE58 : Ex B5 H58 := Ex.past (eE56.trans e57) hEr e58
    try dsimp only
    -- odds
    refine m_asgLst ?_
    refine m_consU (eu_tup (ea_cons ev_c (ea_cons (ev_var rfl) ea_nil)) (by show 2 ≤ 100000; decide)) fun q1 H59 hq1 e59 h59 => ?_
    refine m_consU (eu_tup (ea_cons ev_c (ea_cons (ev_succ (n := p.length) (ev_lnP (pB5.up (eE58.trans e59)) (ev_var rfl))) ea_nil)) (by show 2 ≤ 100000; decide)) fun q2 H60 hq2 e60 h60 => ?_
    refine m_consU (eu_tup (ea_cons ev_c ea_nil) (by show 1 ≤ 100000; decide)) fun q3 H61 hq3 e61 h61 => ?_
    refine m_consU (eu_tup (ea_cons ev_c (ea_cons ev_c ea_nil)) (by show 2 ≤ 100000; decide)) fun q4 H62 hq4 e62 h62 => ?_
    refine m_cons ev_c fun H63 e63 => ?_
    refine m_consU (eu_tup (ea_cons ev_c (ea_cons ev_c ea_nil)) (by show 2 ≤ 100000; decide)) fun q6 H64 hq6 e64 h64 => ?_
    refine ⟨by show 6 ≤ sizeLine; rw [sizeLine_eq]; decide, fun od2 hod2 => ?_⟩
    have e5864 := ((e59.trans e60).trans (e61.trans e62)).trans (e63.trans e64)
    have e65 := Ex.new (o := .lst [.ref q1, .ref q2, .ref q3, .ref q4, .int 7, .ref q6]) hod2
    have h65 : upd H64 od2 (.lst [.ref q1, .ref q2, .ref q3, .ref q4, .int 7, .ref q6]) od2 = some (.lst [.ref q1, .ref q2, .ref q3, .ref q4, .int 7, .ref q6]) := upd_same
    have g1 := st_of (K := K) ((((e60.trans (e61.trans e62)).trans (e63.trans e64)).trans e65) _ _ h59)
    have g2 := st_of (K := K) ((((e61.trans e62).trans (e63.trans e64)).trans e65) _ _ h60)
    have g3 := st_of (K := K) (((e62.trans (e63.trans e64)).trans e65) _ _ h61)
    have g4 := st_of (K := K) (((e63.trans e64).trans e65) _ _ h62)
    have g6 := st_of (K := K) (e65 _ _ h64)
    have R65 := R58.up (e5864.trans e65)
    have eE65 := eE58.trans (e5864.trans e65)
    have od2r : od2 ≠ r := by
      obtain ⟨y64, hy64⟩ := (R58.up e5864).lst
      exact (ne_of_none hy64 hod2).symm
    generalize upd H64 od2 (.lst [.ref q1, .ref q2, .ref q3, .ref q4, .int 7, .ref q6]) = H65 at h65 g1 g2 g3 g4 g6 R65 eE65 ⊢
    clear e65 e5864
    try dsimp only
    -- bent
    refine m_asgOp ?_
    refine m_catS (es_sl (es_var (ev_var rfl) (ex_t eE65 hps)) (fun _ _ => eo_none) (fun _ _ => eo_some (ev_var rfl))) fun l1 H66 e66 hl1' => ?_
    rw [cutV_to (by omega)] at hl1'
    refine m_tupQ ?_
    refine m_consCall (ea_cons (ev_var rfl) (ea_cons (ev_var rfl) ea_nil)) fun H67 e67 => ?_
    have R67 := R65.up (e66.trans e67)
    refine ⟨r, s, od2, ns, _, rfl, R67, sq_of ((e66.trans e67) _ _ h65), od2r, by show 0 < 6; decide, by show 6 < 1000000; decide, fun x H68 hx R68 e68 => ?_⟩
    obtain ⟨y67, hy67⟩ := R67.lst
    have eE68 : Ex B5 H68 := Ex.past (eE65.trans (e66.trans e67)) hEr e68
    have tup68 : ∀ {a : Addr} {xs : List V}, SqT K H65 a xs → SqT K H68 a xs := fun h => ex_t e68 (sqT_rem hy67 (ex_t (e66.trans e67) h))
    have hl68 := ex_t e68 (sqT_rem hy67 (ex_t e67 hl1'))
    have hbadx : BadIn K H68 fs.length p.length x := by
      simp only [List.mem_cons, List.not_mem_nil, or_false] at hx
      rcases hx with rfl | rfl | rfl | rfl | rfl | rfl
      · refine .cell (o := some ((fs.length : Nat) : Int)) (tup68 g1) (by kernel_rfl) rfl ?_
        show (decide ((0 : Int) ≤ ((fs.length : Nat) : Int)) && decide (((fs.length : Nat) : Int) ≤ (fs.length : Int) - 1)) = false
        rw [decide_eq_false (show ¬ ((fs.length : Nat) : Int) ≤ (fs.length : Int) - 1 by omega), Bool.and_false]
      · refine .place (o := some ((p.length + 1 : Nat) : Int)) (tup68 g2) (by kernel_rfl) (by kernel_rfl) rfl ?_
        show (decide ((0 : Int) ≤ ((p.length + 1 : Nat) : Int)) && decide (((p.length + 1 : Nat) : Int) ≤ (p.length : Int))) = false
        rw [decide_eq_false (show ¬ ((p.length + 1 : Nat) : Int) ≤ (p.length : Int) by omega), Bool.and_false]
      · exact .one (tup68 g3) (by kernel_rfl)
      · exact .put (o := none) (tup68 g4) (by kernel_rfl) (by kernel_rfl) (by kernel_rfl) .bl rfl
      · exact .no ty_int (by decide +kernel)
      · exact .word (tup68 g6) (by kernel_rfl) (by kernel_rfl) (by kernel_rfl)
    refine ⟨by show 1 ≤ sizeLine; rw [sizeLine_eq]; decide, fun l2 hl2' => ?_⟩
    have e69 := Ex.new (o := .tup [x]) hl2'
    have h69 : upd H68 l2 (.tup [x]) l2 = some (.tup [x]) := upd_same
    have hbx := hbadx.up e69
    have R69 := R68.up e69
    have eE69 := eE68.trans e69
    have hl69 := ex_t e69 hl68
    generalize upd H68 l2 (.tup [x]) = H69 at h69 hbx R69 eE69 hl69 ⊢
    refine catA_end hl69 (st_of h69) (by rw [List.length_take]; show min wr ps.length + 1 ≤ 100000; omega) fun be H70 e70 hbe => ?_
    have R70 := R69.up e70
    have eE70 := eE69.trans e70
    have hbx := hbx.up e70
    clear e69
    try dsimp only
    -- the bent program
    refine q_try2 ?_
    refine m_cons (x := V.int ((fs.length : Nat) : Int)) (ev_var rfl) fun H71 e71 => ?_
    refine m_consS (es_cat (es_var (ev_var rfl) (ex_t e71 hbe)) (fun H72 e72 => es_sl (es_var (ev_var rfl) (ex_t (eE70.trans (e71.trans e72)) hps)) (fun H73 e73 => eo_some (ev_succ (n := wr) (ev_var rfl))) (fun _ _ => eo_none)) ?_) fun bp H72 e72 hbp => ?_
    · rw [cutV_from (by omega), List.length_append, List.length_take, List.length_drop]
      show min wr ps.length + 1 + (ps.length - (wr + 1)) ≤ 100000
      omega
    rw [cutV_from (by omega)] at hbp
    refine m_cons (ev_var rfl) fun H73 e73 => ?_
    refine m_cons (ev_var rfl) fun H74 e74 => ?_
    have e7074 := (e71.trans e72).trans (e73.trans e74)
    have hpsm : Paired (InAt K H74) ps p := Paired.mapP hpp fun _ _ z => z.up (eE70.trans e7074)
    have hbl : (List.take wr ps ++ [x] ++ List.drop (wr + 1) ps).length = p.length := by
      rw [List.length_append, List.length_append, List.length_take, List.length_drop]
      show min wr ps.length + 1 + (ps.length - (wr + 1)) = p.length
      omega
    refine ⟨fs.length, bp, wr, .ref ia, .int (most : Nat), rfl, hl1, hok.l4, ⟨_, p.take wr, x, ex_t (e73.trans e74) hbp, by rw [hbl]; exact hn1, by rw [hbl]; omega, ?_, fun i hi => ?_, ?_, ?_⟩, fun d H75 e75 hd => ?_⟩
    · rw [List.append_assoc, List.take_append_of_le_length (by rw [List.length_take]; omega), List.take_take, Nat.min_self]
      exact paired_take wr hpsm
    · have := List.mem_of_mem_take hi
      rw [hbl]
      exact ⟨hokp.2 i this, hT i this⟩
    · rw [List.append_assoc, List.getElem?_append_right (by rw [List.length_take]; omega), List.length_take, Nat.min_eq_left (by omega), Nat.sub_self]
      rfl
    · rw [hbl]
      exact hbx.up e7074
    refine ⟨true, T_BadProgram.te, fun _ a0 ha0 => ?_, fun z => nomatch z⟩
    refine s_when (b := false) (et_is (et_ne (ev_byP (ev_var rfl) upd_same) (ev_var rfl) rfl) (by simp)) (fun z => nomatch z) fun _ H76 e76 => ?_
    have e7076 := (e7074.trans (e75.trans (Ex.new (o := .xd [(("index" : Str), .int (wr : Nat))]) hd))).trans e76
    have R76 := R70.up e7076
    have eE76 := eE70.trans e7076
    clear hpsm
    try dsimp only
    -- what are no lives
    refine q_try2 ?_
    refine m_cons (x := V.ref m) (ev_var rfl) fun H77 e77 => ?_
    refine m_consCallR ?_
    refine m_cons (ev_var rfl) fun H78 e78 => ?_
    refine m_consLst ?_
    refine m_cons ev_c fun H79 e79 => ?_
    have e7679 := (e77.trans e78).trans e79
    refine m_consS (es_cat (es_var (ev_var rfl) (ex_t (eE76.trans e7679) lB5)) (fun H80 e80 => es_u (eu_tup (ea_cons ev_c ea_nil) (by show 1 ≤ 100000; decide))) (by rw [nV_len]; show ls.length + 1 ≤ 100000; omega)) fun w2 H80 e80 hw2 => ?_
    refine m_consS (es_rep (k := fs.length) (es_u (eu_tup (ea_cons ev_c ea_nil) (by show 1 ≤ 100000; decide))) (fun H81 e81 => ev_var rfl) (fun z => nomatch z) hl1 (by omega) (by show 1 ≤ 1000; decide)) fun w3 H81 e81 hw3 => ?_
    refine m_consS (es_rep (k := fs.length) (es_u (eu_tup (ea_cons ev_c ea_nil) (by show 1 ≤ 100000; decide))) (fun H82 e82 => ev_var rfl) (fun z => nomatch z) hl1 (by omega) (by show 1 ≤ 1000; decide)) fun w4 H82 e82 hw4 => ?_
    refine ⟨by show 4 ≤ sizeLine; rw [sizeLine_eq]; decide, fun th hth => ?_⟩
    have e7682 := (e7679.trans e80).trans (e81.trans e82)
    have R82 := R76.up e7682
    obtain ⟨y82, hy82⟩ := R82.lst
    have hthr : th ≠ r := (ne_of_none hy82 hth).symm
    have en83 := Ex.new (o := .lst [.non, .ref w2, .ref w3, .ref w4]) hth
    have R83 := R82.up en83
    obtain ⟨y83, hy83⟩ := R83.lst
    refine ⟨r, s, th, ns, _, rfl, R83, sq_of upd_same, hthr, by show 0 < 4; decide, by show 4 < 1000000; decide, fun v H84 hv R84 e84 => ?_⟩
    have eE84 : Ex B5 H84 := Ex.past ((eE76.trans e7682).trans en83) hEr e84
    have tup84 : ∀ {a : Addr} {xs : List V}, SqT K H82 a xs → SqT K H84 a xs := fun h => ex_t e84 (sqT_rem hy83 (ex_t en83 h))
    have hflat : ∀ (v : V), ((List.replicate fs.length [v]).flatten).length = fs.length ∧ ((List.replicate fs.length [v]).flatten)[0]? = some v := fun v => by
      have : (List.replicate fs.length [v]).flatten = List.replicate fs.length v := by
        generalize fs.length = n
        induction n with
        | zero => rfl
        | succ n ih => rw [List.replicate_succ, List.flatten_cons, ih, List.replicate_succ]; rfl
      rw [this, List.length_replicate, List.getElem?_replicate, if_pos (by omega)]
      exact ⟨rfl, rfl⟩
    obtain ⟨f0, hf0⟩ : ∃ f0, fs[0]? = some f0 := ⟨_, List.getElem?_eq_getElem (by omega)⟩
    have hf8 := (hok.f f0 (List.mem_of_getElem? hf0)).2
    have hbadL : BadLi K H84 fs v := by
      simp only [List.mem_cons, List.not_mem_nil, or_false] at hv
      rcases hv with rfl | rfl | rfl | rfl
      · exact .inl ⟨_, .base .non, by decide +kernel⟩
      · refine .inr ⟨w2, _, rfl, tup84 (ex_t (e81.trans e82) hw2), .inl ?_⟩
        rw [List.length_append, nV_len]
        show ls.length + 1 ≠ fs.length
        omega
      · refine .inr ⟨w3, _, rfl, tup84 (ex_t e82 hw3), .inr ⟨(hflat _).1, _, some 9, f0, (hflat _).2, hf0, rfl, ?_⟩⟩
        show (decide ((0 : Int) ≤ 9) && decide ((9 : Int) ≤ (f0 : Int))) = false
        rw [decide_eq_false (show ¬ (9 : Int) ≤ (f0 : Int) by omega), Bool.and_false]
      · exact .inr ⟨w4, _, rfl, tup84 hw4, .inr ⟨(hflat _).1, _, none, f0, (hflat _).2, hf0, .bl, rfl⟩⟩
    refine m_cons (ev_var rfl) fun H85 e85 => ?_
    refine ⟨m, fs, rs, v, .int (c : Nat), rfl, mB5.up (eE84.trans e85), hok, hbadL.up e85, fun H86 e86 => ?_⟩
    refine ⟨true, B_BadLives.te, fun _ a0 ha0 => ?_, fun z => nomatch z⟩
    refine s_asg ev_c fun H87 e87 => ?_
    have e8487 := (e85.trans e86).trans e87
    have R87 := R84.up e8487
    have eE87 := eE84.trans e8487
    try dsimp only
    -- what is no cell
    refine q_try1 ?_
    refine m_cons (ev_var rfl) fun H88 e88 => ?_
    refine m_cons (ev_var rfl) fun H89 e89 => ?_
    refine m_consCallR ?_
    refine m_cons (ev_var rfl) fun H90 e90 => m_consLst ?_
    refine (ea_cons (ev_var rfl) (ea_cons (ev_i0 ev_c ev_c) (ea_cons ev_c (ea_cons ev_c ea_nil))) : EvA _ _ H90 [.int ((fs.length : Nat) : Int), .int (0 - 1), .non, .bl true]) H90 (Ex.refl _) _ fun H91 e91 => ?_
    refine ⟨by show 4 ≤ sizeLine; rw [sizeLine_eq]; decide, fun th2 hth2 => ?_⟩
    have e8791 := (e88.trans e89).trans (e90.trans e91)
    have R91 := R87.up e8791
    obtain ⟨y91, hy91⟩ := R91.lst
    have hth2r : th2 ≠ r := (ne_of_none hy91 hth2).symm
    have en92 := Ex.new (o := .lst [.int ((fs.length : Nat) : Int), .int (0 - 1), .non, .bl true]) hth2
    refine ⟨r, s, th2, ns, _, rfl, R91.up en92, sq_of upd_same, hth2r, by show 0 < 4; decide, by show 4 < 1000000; decide, fun v2 H93 hv2 R93 e93 => ?_⟩
    have eE93 : Ex B5 H93 := Ex.past ((eE87.trans e8791).trans en92) hEr e93
    obtain ⟨oo, hov, hoo⟩ : ∃ o, IntV K H93 v2 o ∧ inRange o 0 ((fs.length : Int) - 1) = false := by
      simp only [List.mem_cons, List.not_mem_nil, or_false] at hv2
      rcases hv2 with rfl | rfl | rfl | rfl
      · refine ⟨some ((fs.length : Nat) : Int), rfl, ?_⟩
        show (decide ((0 : Int) ≤ ((fs.length : Nat) : Int)) && decide (((fs.length : Nat) : Int) ≤ (fs.length : Int) - 1)) = false
        rw [decide_eq_false (show ¬ ((fs.length : Nat) : Int) ≤ (fs.length : Int) - 1 by omega), Bool.and_false]
      · exact ⟨some (0 - 1), rfl, rfl⟩
      · exact ⟨none, .non, rfl⟩
      · exact ⟨none, .bl, rfl⟩
    refine ⟨m, lv, fs, rs, ls, v2, oo, rfl, mB5.up eE93, hok, ex_t eE93 lB5, hlio, hov, hoo, fun H94 e94 => ?_⟩
    refine ⟨true, B_BadCell.te, fun _ a0 ha0 => ?_, fun z => nomatch z⟩
    exact s_ret ev_c fun H95 e95 => k _
end
end Fm
set_option Elab.async false
set_option linter.all false
set_option maxRecDepth 100000
set_option maxHeartbeats 8000000
namespace Fm
open PySem PySem.W PySem.Calls PyProof.Rows PySem.HandSPX L2 Evl
/-- an error of the class at S is what its name in an except takes -/
theorem exm_own {K : PySem.W.Frag} {S : Addr} (h1 : PySem.W.subIn K (.ref S) (.type "BaseException") = some true) (h2 : PySem.W.isClsIn K S = true) (h3 : PySem.W.typeIn K (.ref S) = some (.type "type")) (h4 : PySem.W.subIn K (.ref S) (.ref S) = some true) : PySem.W.exmOne K (.ref S) (.ref S) = some true := by
  have e1 : (PySem.W.subIn K (.ref S) (.type "BaseException") == some true) = true := by rw [h1]; rfl
  have h5 : (PySem.W.clsIn K S).isSome = true := h2
  have e2 : ((PySem.W.clsIn K S).isSome && PySem.W.typeIn K (.ref S) == some (.type "type")) = true := by rw [h5, h3]; rfl
  unfold PySem.W.exmOne
  rw [if_pos e1]
  show (if ((PySem.W.clsIn K S).isSome && PySem.W.typeIn K (.ref S) == some (.type "type")) = true then PySem.W.subIn K (.ref S) (.ref S) else none) = some true
  rw [if_pos e2]
  exact h4
theorem all_mk {l : PySem.W.OpenLaw} {w : World} {K : PySem.W.Frag} {h : Heap} {mg : Str → Option Value} {fa : Addr} (X : K.In h) (G : h.Ns mainGlobals mg) (hfa : mg "law" = some (.ref fa))
    {X_Run : Addr}
    {f0 : Addr} {od0 an0 : Option Addr} {sl0 : Array (Option Value)} {oc0 kV0 dc0 pm0 cd0 ct0 : Value}
    {f1 : Addr} {od1 an1 : Option Addr} {sl1 : Array (Option Value)} {oc1 kV1 dc1 pm1 cd1 ct1 : Value}
    {f2 : Addr} {od2 an2 : Option Addr} {sl2 : Array (Option Value)} {oc2 kV2 dc2 pm2 cd2 ct2 : Value}
    {f3 : Addr} {od3 an3 : Option Addr} {sl3 : Array (Option Value)} {oc3 kV3 dc3 pm3 cd3 ct3 : Value}
    {f4 : Addr} {od4 an4 : Option Addr} {sl4 : Array (Option Value)} {oc4 kV4 dc4 pm4 cd4 ct4 : Value}
    {f5 : Addr} {od5 an5 : Option Addr} {sl5 : Array (Option Value)} {oc5 kV5 dc5 pm5 cd5 ct5 : Value}
    {f6 : Addr} {od6 an6 : Option Addr} {sl6 : Array (Option Value)} {oc6 kV6 dc6 pm6 cd6 ct6 : Value}
    {f7 : Addr} {od7 an7 : Option Addr} {sl7 : Array (Option Value)} {oc7 kV7 dc7 pm7 cd7 ct7 : Value}
    {f8 : Addr} {od8 an8 : Option Addr} {sl8 : Array (Option Value)} {oc8 kV8 dc8 pm8 cd8 ct8 : Value}
    {f9 : Addr} {od9 an9 : Option Addr} {sl9 : Array (Option Value)} {oc9 kV9 dc9 pm9 cd9 ct9 : Value}
    {f10 : Addr} {od10 an10 : Option Addr} {sl10 : Array (Option Value)} {oc10 kV10 dc10 pm10 cd10 ct10 : Value}
    {f11 : Addr} {od11 an11 : Option Addr} {sl11 : Array (Option Value)} {oc11 kV11 dc11 pm11 cd11 ct11 : Value}
    {f12 : Addr} {od12 an12 : Option Addr} {sl12 : Array (Option Value)} {oc12 kV12 dc12 pm12 cd12 ct12 : Value}
    {f13 : Addr} {od13 an13 : Option Addr} {sl13 : Array (Option Value)} {oc13 kV13 dc13 pm13 cd13 ct13 : Value}
    {f14 : Addr} {od14 an14 : Option Addr} {sl14 : Array (Option Value)} {oc14 kV14 dc14 pm14 cd14 ct14 : Value}
    {f15 : Addr} {od15 an15 : Option Addr} {sl15 : Array (Option Value)} {oc15 kV15 dc15 pm15 cd15 ct15 : Value}
    {f16 : Addr} {od16 an16 : Option Addr} {sl16 : Array (Option Value)} {oc16 kV16 dc16 pm16 cd16 ct16 : Value}
    {f17 : Addr} {od17 an17 : Option Addr} {sl17 : Array (Option Value)} {oc17 kV17 dc17 pm17 cd17 ct17 : Value}
    {f18 : Addr} {od18 an18 : Option Addr} {sl18 : Array (Option Value)} {oc18 kV18 dc18 pm18 cd18 ct18 : Value}
    {f19 : Addr} {od19 an19 : Option Addr} {sl19 : Array (Option Value)} {oc19 kV19 dc19 pm19 cd19 ct19 : Value}
    {f20 : Addr} {od20 an20 : Option Addr} {sl20 : Array (Option Value)} {oc20 kV20 dc20 pm20 cd20 ct20 : Value}
    {f21 : Addr} {od21 an21 : Option Addr} {sl21 : Array (Option Value)} {oc21 kV21 dc21 pm21 cd21 ct21 : Value}
    {f22 : Addr} {od22 an22 : Option Addr} {sl22 : Array (Option Value)} {oc22 kV22 dc22 pm22 cd22 ct22 : Value}
    {f23 : Addr} {od23 an23 : Option Addr} {sl23 : Array (Option Value)} {oc23 kV23 dc23 pm23 cd23 ct23 : Value}
    {f24 : Addr} {od24 an24 : Option Addr} {sl24 : Array (Option Value)} {oc24 kV24 dc24 pm24 cd24 ct24 : Value}
    {f25 : Addr} {od25 an25 : Option Addr} {sl25 : Array (Option Value)} {oc25 kV25 dc25 pm25 cd25 ct25 : Value}
    {f26 : Addr} {od26 an26 : Option Addr} {sl26 : Array (Option Value)} {oc26 kV26 dc26 pm26 cd26 ct26 : Value}
    {f27 : Addr} {od27 an27 : Option Addr} {sl27 : Array (Option Value)} {oc27 kV27 dc27 pm27 cd27 ct27 : Value}
    {f28 : Addr} {od28 an28 : Option Addr} {sl28 : Array (Option Value)} {oc28 kV28 dc28 pm28 cd28 ct28 : Value}
    {f29 : Addr} {od29 an29 : Option Addr} {sl29 : Array (Option Value)} {oc29 kV29 dc29 pm29 cd29 ct29 : Value}
    {f30 : Addr} {od30 an30 : Option Addr} {sl30 : Array (Option Value)} {oc30 kV30 dc30 pm30 cd30 ct30 : Value}
    {f31 : Addr} {od31 an31 : Option Addr} {sl31 : Array (Option Value)} {oc31 kV31 dc31 pm31 cd31 ct31 : Value}
    {f32 : Addr} {od32 an32 : Option Addr} {sl32 : Array (Option Value)} {oc32 kV32 dc32 pm32 cd32 ct32 : Value}
    {f33 : Addr} {od33 an33 : Option Addr} {sl33 : Array (Option Value)} {oc33 kV33 dc33 pm33 cd33 ct33 : Value}
    {f34 : Addr} {od34 an34 : Option Addr} {sl34 : Array (Option Value)} {oc34 kV34 dc34 pm34 cd34 ct34 : Value}
    {f35 : Addr} {od35 an35 : Option Addr} {sl35 : Array (Option Value)} {oc35 kV35 dc35 pm35 cd35 ct35 : Value}
    {f36 : Addr} {od36 an36 : Option Addr} {sl36 : Array (Option Value)} {oc36 kV36 dc36 pm36 cd36 ct36 : Value}
    {f37 : Addr} {od37 an37 : Option Addr} {sl37 : Array (Option Value)} {oc37 kV37 dc37 pm37 cd37 ct37 : Value}
    {f38 : Addr} {od38 an38 : Option Addr} {sl38 : Array (Option Value)} {oc38 kV38 dc38 pm38 cd38 ct38 : Value}
    {f39 : Addr} {od39 an39 : Option Addr} {sl39 : Array (Option Value)} {oc39 kV39 dc39 pm39 cd39 ct39 : Value}
    {f40 : Addr} {od40 an40 : Option Addr} {sl40 : Array (Option Value)} {oc40 kV40 dc40 pm40 cd40 ct40 : Value}
    {f41 : Addr} {od41 an41 : Option Addr} {sl41 : Array (Option Value)} {oc41 kV41 dc41 pm41 cd41 ct41 : Value}
    {f42 : Addr} {od42 an42 : Option Addr} {sl42 : Array (Option Value)} {oc42 kV42 dc42 pm42 cd42 ct42 : Value}
    {t_MOST_CELLS : Tok}
    {t_MOST_INSTRUCTIONS : Tok}
    {t_MILLION : Tok}
    {t_MOST_FADE : Tok}
    {t_MOST_KEPT : Tok}
    {t_MOST_INPUTS : Tok}
    {t_MOST_TICKS : Tok}
    {aA : Addr} {dd_aA : Option Addr} {sl_aA : Array (Option Value)} {nn_aA : Nat} {t_aA0 : Tok} {t_aA1 : Tok} {t_aA2 : Tok}
    {aC : Addr} {dd_aC : Option Addr} {sl_aC : Array (Option Value)} {nn_aC : Nat} {t_aC0 : Tok} {t_aC1 : Tok} {t_aC2 : Tok} {t_aC3 : Tok}
    {aP : Addr} {dd_aP : Option Addr} {sl_aP : Array (Option Value)} {nn_aP : Nat} {t_aP0 : Tok} {t_aP1 : Tok}
    {aR : Addr} {dd_aR : Option Addr} {sl_aR : Array (Option Value)} {nn_aR : Nat} {t_aR0 : Tok} {t_aR1 : Tok} {t_aR2 : Tok}
    {bl : Addr}
    {bc : Addr}
    {bp bpfI bpcc bpcda bpNB : Addr} {bpnmB bpqB : Str} {bpbsB bpbmB : List Value} {bpsnB : List Str} {bpsubB : List Value} {bpabB : Bool} {bpcolB : Option Bool} {bpddB : Option Addr} {bpm0 bpm1 bpm2 bpm3 bpm5 : Option Value} {bpccl : Value} {bpcdd : Option Addr} {bpvsC : Array Value} {bpccs : Array (Option Value)} {bpfl : Str} {bptf : Tok} {bpclC : Value} {bpcldC : Option Addr} {bpcslC : Array (Option Value)} {bpocI bpdcI bppmI bpctI : Value} {bpodI bpanI : Option Addr} {bpslI : Array (Option Value)}
    {bm bmfI bmcc bmcda bmNB : Addr} {bmnmB bmqB : Str} {bmbsB bmbmB : List Value} {bmsnB : List Str} {bmsubB : List Value} {bmabB : Bool} {bmcolB : Option Bool} {bmddB : Option Addr} {bmm0 bmm1 bmm2 bmm3 bmm5 : Option Value} {bmccl : Value} {bmcdd : Option Addr} {bmvsC : Array Value} {bmccs : Array (Option Value)} {bmfl : Str} {bmtf : Tok} {bmclC : Value} {bmcldC : Option Addr} {bmcslC : Array (Option Value)} {bmocI bmdcI bmpmI bmctI : Value} {bmodI bmanI : Option Addr} {bmslI : Array (Option Value)}
    (xg_Run : PySem.W.nsIn K mainGlobals "Run" = some (some (.ref X_Run)))
    (xp_Run : PySem.W.plainGet K X_Run Str.empty = true)
    (xh_Run : PySem.W.hasDictIn K X_Run = true)
    (xo_Run : PySem.W.plainOver K X_Run = true)
    (xs_Run : PySem.W.findIn K (.ref X_Run) "__setattr__" = some (some (.builtin "object.__setattr__")))
    (xm_Run : PySem.W.makesIn K X_Run = true)
    (xk_Run : PySem.W.keepIn K (.ref X_Run) = true)
    (xn_Run_program : PySem.W.findIn K (.ref X_Run) "program" = some none)
    (xn_Run_places : PySem.W.findIn K (.ref X_Run) "places" = some none)
    (xn_Run_at : PySem.W.findIn K (.ref X_Run) "at" = some none)
    (xn_Run_hand : PySem.W.findIn K (.ref X_Run) "hand" = some none)
    (xn_Run_contents : PySem.W.findIn K (.ref X_Run) "contents" = some none)
    (xn_Run_inputs : PySem.W.findIn K (.ref X_Run) "inputs" = some none)
    (xn_Run_asked : PySem.W.findIn K (.ref X_Run) "asked" = some none)
    (xn_Run_said : PySem.W.findIn K (.ref X_Run) "said" = some none)
    (a0 : PySem.W.nsIn K mainGlobals "is_whole" = some (some (.ref f0)))
    (l0 : K.lookup f0 = some ⟨oc0, od0, .func (PySem.W.fnOf "is_whole" "is_whole" (defArgs s_is_whole) (defBody s_is_whole) (defScope s_is_whole) .none kV0 dc0 pm0 an0 cd0 ct0), sl0⟩)
    (c0 : PySem.W.codeIn K cd0 "is_whole" = true)
    (k0 : PySem.W.keepIn K (.ref f0) = true)
    (a1 : PySem.W.nsIn K mainGlobals "is_integer" = some (some (.ref f1)))
    (l1 : K.lookup f1 = some ⟨oc1, od1, .func (PySem.W.fnOf "is_integer" "is_integer" (defArgs s_is_integer) (defBody s_is_integer) (defScope s_is_integer) .none kV1 dc1 pm1 an1 cd1 ct1), sl1⟩)
    (c1 : PySem.W.codeIn K cd1 "is_integer" = true)
    (k1 : PySem.W.keepIn K (.ref f1) = true)
    (a2 : PySem.W.nsIn K mainGlobals "check_number" = some (some (.ref f2)))
    (l2 : K.lookup f2 = some ⟨oc2, od2, .func (PySem.W.fnOf "check_number" "check_number" (defArgs s_check_number) (defBody s_check_number) (defScope s_check_number) .none kV2 dc2 pm2 an2 cd2 ct2), sl2⟩)
    (c2 : PySem.W.codeIn K cd2 "check_number" = true)
    (k2 : PySem.W.keepIn K (.ref f2) = true)
    (a3 : PySem.W.nsIn K mainGlobals "check_cells" = some (some (.ref f3)))
    (l3 : K.lookup f3 = some ⟨oc3, od3, .func (PySem.W.fnOf "check_cells" "check_cells" (defArgs s_check_cells) (defBody s_check_cells) (defScope s_check_cells) .none kV3 dc3 pm3 an3 cd3 ct3), sl3⟩)
    (c3 : PySem.W.codeIn K cd3 "check_cells" = true)
    (k3 : PySem.W.keepIn K (.ref f3) = true)
    (a4 : PySem.W.nsIn K mainGlobals "is_instruction" = some (some (.ref f4)))
    (l4 : K.lookup f4 = some ⟨oc4, od4, .func (PySem.W.fnOf "is_instruction" "is_instruction" (defArgs s_is_instruction) (defBody s_is_instruction) (defScope s_is_instruction) .none kV4 dc4 pm4 an4 cd4 ct4), sl4⟩)
    (c4 : PySem.W.codeIn K cd4 "is_instruction" = true)
    (k4 : PySem.W.keepIn K (.ref f4) = true)
    (a5 : PySem.W.nsIn K mainGlobals "is_touch" = some (some (.ref f5)))
    (l5 : K.lookup f5 = some ⟨oc5, od5, .func (PySem.W.fnOf "is_touch" "is_touch" (defArgs s_is_touch) (defBody s_is_touch) (defScope s_is_touch) .none kV5 dc5 pm5 an5 cd5 ct5), sl5⟩)
    (c5 : PySem.W.codeIn K cd5 "is_touch" = true)
    (k5 : PySem.W.keepIn K (.ref f5) = true)
    (a6 : PySem.W.nsIn K mainGlobals "check_length" = some (some (.ref f6)))
    (l6 : K.lookup f6 = some ⟨oc6, od6, .func (PySem.W.fnOf "check_length" "check_length" (defArgs s_check_length) (defBody s_check_length) (defScope s_check_length) .none kV6 dc6 pm6 an6 cd6 ct6), sl6⟩)
    (c6 : PySem.W.codeIn K cd6 "check_length" = true)
    (k6 : PySem.W.keepIn K (.ref f6) = true)
    (a7 : PySem.W.nsIn K mainGlobals "check_program" = some (some (.ref f7)))
    (l7 : K.lookup f7 = some ⟨oc7, od7, .func (PySem.W.fnOf "check_program" "check_program" (defArgs s_check_program) (defBody s_check_program) (defScope s_check_program) .none kV7 dc7 pm7 an7 cd7 ct7), sl7⟩)
    (c7 : PySem.W.codeIn K cd7 "check_program" = true)
    (k7 : PySem.W.keepIn K (.ref f7) = true)
    (a8 : PySem.W.nsIn K mainGlobals "check_kept" = some (some (.ref f8)))
    (l8 : K.lookup f8 = some ⟨oc8, od8, .func (PySem.W.fnOf "check_kept" "check_kept" (defArgs s_check_kept) (defBody s_check_kept) (defScope s_check_kept) .none kV8 dc8 pm8 an8 cd8 ct8), sl8⟩)
    (c8 : PySem.W.codeIn K cd8 "check_kept" = true)
    (k8 : PySem.W.keepIn K (.ref f8) = true)
    (a9 : PySem.W.nsIn K mainGlobals "check_inputs" = some (some (.ref f9)))
    (l9 : K.lookup f9 = some ⟨oc9, od9, .func (PySem.W.fnOf "check_inputs" "check_inputs" (defArgs s_check_inputs) (defBody s_check_inputs) (defScope s_check_inputs) .none kV9 dc9 pm9 an9 cd9 ct9), sl9⟩)
    (c9 : PySem.W.codeIn K cd9 "check_inputs" = true)
    (k9 : PySem.W.keepIn K (.ref f9) = true)
    (a10 : PySem.W.nsIn K mainGlobals "are_fades" = some (some (.ref f10)))
    (l10 : K.lookup f10 = some ⟨oc10, od10, .func (PySem.W.fnOf "are_fades" "are_fades" (defArgs s_are_fades) (defBody s_are_fades) (defScope s_are_fades) .none kV10 dc10 pm10 an10 cd10 ct10), sl10⟩)
    (c10 : PySem.W.codeIn K cd10 "are_fades" = true)
    (k10 : PySem.W.keepIn K (.ref f10) = true)
    (a11 : PySem.W.nsIn K mainGlobals "are_rows" = some (some (.ref f11)))
    (l11 : K.lookup f11 = some ⟨oc11, od11, .func (PySem.W.fnOf "are_rows" "are_rows" (defArgs s_are_rows) (defBody s_are_rows) (defScope s_are_rows) .none kV11 dc11 pm11 an11 cd11 ct11), sl11⟩)
    (c11 : PySem.W.codeIn K cd11 "are_rows" = true)
    (k11 : PySem.W.keepIn K (.ref f11) = true)
    (a12 : PySem.W.nsIn K mainGlobals "check_machine" = some (some (.ref f12)))
    (l12 : K.lookup f12 = some ⟨oc12, od12, .func (PySem.W.fnOf "check_machine" "check_machine" (defArgs s_check_machine) (defBody s_check_machine) (defScope s_check_machine) .none kV12 dc12 pm12 an12 cd12 ct12), sl12⟩)
    (c12 : PySem.W.codeIn K cd12 "check_machine" = true)
    (k12 : PySem.W.keepIn K (.ref f12) = true)
    (a13 : PySem.W.nsIn K mainGlobals "check_lives" = some (some (.ref f13)))
    (l13 : K.lookup f13 = some ⟨oc13, od13, .func (PySem.W.fnOf "check_lives" "check_lives" (defArgs s_check_lives) (defBody s_check_lives) (defScope s_check_lives) .none kV13 dc13 pm13 an13 cd13 ct13), sl13⟩)
    (c13 : PySem.W.codeIn K cd13 "check_lives" = true)
    (k13 : PySem.W.keepIn K (.ref f13) = true)
    (a14 : PySem.W.nsIn K mainGlobals "check_cell_of" = some (some (.ref f14)))
    (l14 : K.lookup f14 = some ⟨oc14, od14, .func (PySem.W.fnOf "check_cell_of" "check_cell_of" (defArgs s_check_cell_of) (defBody s_check_cell_of) (defScope s_check_cell_of) .none kV14 dc14 pm14 an14 cd14 ct14), sl14⟩)
    (c14 : PySem.W.codeIn K cd14 "check_cell_of" = true)
    (k14 : PySem.W.keepIn K (.ref f14) = true)
    (a15 : PySem.W.nsIn K mainGlobals "check_cell" = some (some (.ref f15)))
    (l15 : K.lookup f15 = some ⟨oc15, od15, .func (PySem.W.fnOf "check_cell" "check_cell" (defArgs s_check_cell) (defBody s_check_cell) (defScope s_check_cell) .none kV15 dc15 pm15 an15 cd15 ct15), sl15⟩)
    (c15 : PySem.W.codeIn K cd15 "check_cell" = true)
    (k15 : PySem.W.keepIn K (.ref f15) = true)
    (a16 : PySem.W.nsIn K mainGlobals "lives_waited" = some (some (.ref f16)))
    (l16 : K.lookup f16 = some ⟨oc16, od16, .func (PySem.W.fnOf "lives_waited" "lives_waited" (defArgs s_lives_waited) (defBody s_lives_waited) (defScope s_lives_waited) .none kV16 dc16 pm16 an16 cd16 ct16), sl16⟩)
    (c16 : PySem.W.codeIn K cd16 "lives_waited" = true)
    (k16 : PySem.W.keepIn K (.ref f16) = true)
    (a17 : PySem.W.nsIn K mainGlobals "lives_touched" = some (some (.ref f17)))
    (l17 : K.lookup f17 = some ⟨oc17, od17, .func (PySem.W.fnOf "lives_touched" "lives_touched" (defArgs s_lives_touched) (defBody s_lives_touched) (defScope s_lives_touched) .none kV17 dc17 pm17 an17 cd17 ct17), sl17⟩)
    (c17 : PySem.W.codeIn K cd17 "lives_touched" = true)
    (k17 : PySem.W.keepIn K (.ref f17) = true)
    (a18 : PySem.W.nsIn K mainGlobals "lives_set" = some (some (.ref f18)))
    (l18 : K.lookup f18 = some ⟨oc18, od18, .func (PySem.W.fnOf "lives_set" "lives_set" (defArgs s_lives_set) (defBody s_lives_set) (defScope s_lives_set) .none kV18 dc18 pm18 an18 cd18 ct18), sl18⟩)
    (c18 : PySem.W.codeIn K cd18 "lives_set" = true)
    (k18 : PySem.W.keepIn K (.ref f18) = true)
    (a19 : PySem.W.nsIn K mainGlobals "behind_touch" = some (some (.ref f19)))
    (l19 : K.lookup f19 = some ⟨oc19, od19, .func (PySem.W.fnOf "behind_touch" "behind_touch" (defArgs s_behind_touch) (defBody s_behind_touch) (defScope s_behind_touch) .none kV19 dc19 pm19 an19 cd19 ct19), sl19⟩)
    (c19 : PySem.W.codeIn K cd19 "behind_touch" = true)
    (k19 : PySem.W.keepIn K (.ref f19) = true)
    (a20 : PySem.W.nsIn K mainGlobals "behind_set" = some (some (.ref f20)))
    (l20 : K.lookup f20 = some ⟨oc20, od20, .func (PySem.W.fnOf "behind_set" "behind_set" (defArgs s_behind_set) (defBody s_behind_set) (defScope s_behind_set) .none kV20 dc20 pm20 an20 cd20 ct20), sl20⟩)
    (c20 : PySem.W.codeIn K cd20 "behind_set" = true)
    (k20 : PySem.W.keepIn K (.ref f20) = true)
    (a21 : PySem.W.nsIn K mainGlobals "behind_wait" = some (some (.ref f21)))
    (l21 : K.lookup f21 = some ⟨oc21, od21, .func (PySem.W.fnOf "behind_wait" "behind_wait" (defArgs s_behind_wait) (defBody s_behind_wait) (defScope s_behind_wait) .none kV21 dc21 pm21 an21 cd21 ct21), sl21⟩)
    (c21 : PySem.W.codeIn K cd21 "behind_wait" = true)
    (k21 : PySem.W.keepIn K (.ref f21) = true)
    (a22 : PySem.W.nsIn K mainGlobals "places_of" = some (some (.ref f22)))
    (l22 : K.lookup f22 = some ⟨oc22, od22, .func (PySem.W.fnOf "places_of" "places_of" (defArgs s_places_of) (defBody s_places_of) (defScope s_places_of) .none kV22 dc22 pm22 an22 cd22 ct22), sl22⟩)
    (c22 : PySem.W.codeIn K cd22 "places_of" = true)
    (k22 : PySem.W.keepIn K (.ref f22) = true)
    (a23 : PySem.W.nsIn K mainGlobals "lives_behind" = some (some (.ref f23)))
    (l23 : K.lookup f23 = some ⟨oc23, od23, .func (PySem.W.fnOf "lives_behind" "lives_behind" (defArgs s_lives_behind) (defBody s_lives_behind) (defScope s_lives_behind) .none kV23 dc23 pm23 an23 cd23 ct23), sl23⟩)
    (c23 : PySem.W.codeIn K cd23 "lives_behind" = true)
    (k23 : PySem.W.keepIn K (.ref f23) = true)
    (a24 : PySem.W.findIn K (.ref X_Run) "__init__" = some (some (.ref f24)))
    (i24 : PySem.W.isFn K (.ref f24) = true)
    (l24 : K.lookup f24 = some ⟨oc24, od24, .func (PySem.W.fnOf "__init__" "Run.__init__" (defArgs s_Run___init__) (defBody s_Run___init__) (defScope s_Run___init__) .none kV24 dc24 pm24 an24 cd24 ct24), sl24⟩)
    (c24 : PySem.W.codeIn K cd24 "Run.__init__" = true)
    (k24 : PySem.W.keepIn K (.ref f24) = true)
    (a25 : PySem.W.findIn K (.ref X_Run) "is_over" = some (some (.ref f25)))
    (i25 : PySem.W.isFn K (.ref f25) = true)
    (l25 : K.lookup f25 = some ⟨oc25, od25, .func (PySem.W.fnOf "is_over" "Run.is_over" (defArgs s_Run_is_over) (defBody s_Run_is_over) (defScope s_Run_is_over) .none kV25 dc25 pm25 an25 cd25 ct25), sl25⟩)
    (c25 : PySem.W.codeIn K cd25 "Run.is_over" = true)
    (k25 : PySem.W.keepIn K (.ref f25) = true)
    (a26 : PySem.W.findIn K (.ref X_Run) "instruction" = some (some (.ref f26)))
    (i26 : PySem.W.isFn K (.ref f26) = true)
    (l26 : K.lookup f26 = some ⟨oc26, od26, .func (PySem.W.fnOf "instruction" "Run.instruction" (defArgs s_Run_instruction) (defBody s_Run_instruction) (defScope s_Run_instruction) .none kV26 dc26 pm26 an26 cd26 ct26), sl26⟩)
    (c26 : PySem.W.codeIn K cd26 "Run.instruction" = true)
    (k26 : PySem.W.keepIn K (.ref f26) = true)
    (a27 : PySem.W.findIn K (.ref X_Run) "say_or_ask" = some (some (.ref f27)))
    (i27 : PySem.W.isFn K (.ref f27) = true)
    (l27 : K.lookup f27 = some ⟨oc27, od27, .func (PySem.W.fnOf "say_or_ask" "Run.say_or_ask" (defArgs s_Run_say_or_ask) (defBody s_Run_say_or_ask) (defScope s_Run_say_or_ask) .none kV27 dc27 pm27 an27 cd27 ct27), sl27⟩)
    (c27 : PySem.W.codeIn K cd27 "Run.say_or_ask" = true)
    (k27 : PySem.W.keepIn K (.ref f27) = true)
    (a28 : PySem.W.findIn K (.ref X_Run) "act_on_cell" = some (some (.ref f28)))
    (i28 : PySem.W.isFn K (.ref f28) = true)
    (l28 : K.lookup f28 = some ⟨oc28, od28, .func (PySem.W.fnOf "act_on_cell" "Run.act_on_cell" (defArgs s_Run_act_on_cell) (defBody s_Run_act_on_cell) (defScope s_Run_act_on_cell) .none kV28 dc28 pm28 an28 cd28 ct28), sl28⟩)
    (c28 : PySem.W.codeIn K cd28 "Run.act_on_cell" = true)
    (k28 : PySem.W.keepIn K (.ref f28) = true)
    (a29 : PySem.W.findIn K (.ref X_Run) "act" = some (some (.ref f29)))
    (i29 : PySem.W.isFn K (.ref f29) = true)
    (l29 : K.lookup f29 = some ⟨oc29, od29, .func (PySem.W.fnOf "act" "Run.act" (defArgs s_Run_act) (defBody s_Run_act) (defScope s_Run_act) .none kV29 dc29 pm29 an29 cd29 ct29), sl29⟩)
    (c29 : PySem.W.codeIn K cd29 "Run.act" = true)
    (k29 : PySem.W.keepIn K (.ref f29) = true)
    (a30 : PySem.W.nsIn K mainGlobals "told" = some (some (.ref f30)))
    (l30 : K.lookup f30 = some ⟨oc30, od30, .func (PySem.W.fnOf "told" "told" (defArgs s_told) (defBody s_told) (defScope s_told) .none kV30 dc30 pm30 an30 cd30 ct30), sl30⟩)
    (c30 : PySem.W.codeIn K cd30 "told" = true)
    (k30 : PySem.W.keepIn K (.ref f30) = true)
    (a31 : PySem.W.nsIn K mainGlobals "run_lasting" = some (some (.ref f31)))
    (l31 : K.lookup f31 = some ⟨oc31, od31, .func (PySem.W.fnOf "run_lasting" "run_lasting" (defArgs s_run_lasting) (defBody s_run_lasting) (defScope s_run_lasting) .none kV31 dc31 pm31 an31 cd31 ct31), sl31⟩)
    (c31 : PySem.W.codeIn K cd31 "run_lasting" = true)
    (k31 : PySem.W.keepIn K (.ref f31) = true)
    (a32 : PySem.W.nsIn K mainGlobals "run_fading" = some (some (.ref f32)))
    (l32 : K.lookup f32 = some ⟨oc32, od32, .func (PySem.W.fnOf "run_fading" "run_fading" (defArgs s_run_fading) (defBody s_run_fading) (defScope s_run_fading) .none kV32 dc32 pm32 an32 cd32 ct32), sl32⟩)
    (c32 : PySem.W.codeIn K cd32 "run_fading" = true)
    (k32 : PySem.W.keepIn K (.ref f32) = true)
    (a33 : PySem.W.nsIn K mainGlobals "_law_taken" = some (some (.ref f33)))
    (l33 : K.lookup f33 = some ⟨oc33, od33, .func (PySem.W.fnOf "_law_taken" "_law_taken" (defArgs s_law_taken) (defBody s_law_taken) (defScope s_law_taken) .none kV33 dc33 pm33 an33 cd33 ct33), sl33⟩)
    (c33 : PySem.W.codeIn K cd33 "_law_taken" = true)
    (k33 : PySem.W.keepIn K (.ref f33) = true)
    (a34 : PySem.W.nsIn K mainGlobals "_law_pick" = some (some (.ref f34)))
    (l34 : K.lookup f34 = some ⟨oc34, od34, .func (PySem.W.fnOf "_law_pick" "_law_pick" (defArgs s_law_pick) (defBody s_law_pick) (defScope s_law_pick) .none kV34 dc34 pm34 an34 cd34 ct34), sl34⟩)
    (c34 : PySem.W.codeIn K cd34 "_law_pick" = true)
    (k34 : PySem.W.keepIn K (.ref f34) = true)
    (a35 : PySem.W.nsIn K mainGlobals "_law_alike" = some (some (.ref f35)))
    (l35 : K.lookup f35 = some ⟨oc35, od35, .func (PySem.W.fnOf "_law_alike" "_law_alike" (defArgs s_law_alike) (defBody s_law_alike) (defScope s_law_alike) .none kV35 dc35 pm35 an35 cd35 ct35), sl35⟩)
    (c35 : PySem.W.codeIn K cd35 "_law_alike" = true)
    (k35 : PySem.W.keepIn K (.ref f35) = true)
    (a36 : PySem.W.nsIn K mainGlobals "_law_machine" = some (some (.ref f36)))
    (l36 : K.lookup f36 = some ⟨oc36, od36, .func (PySem.W.fnOf "_law_machine" "_law_machine" (defArgs s_law_machine) (defBody s_law_machine) (defScope s_law_machine) .none kV36 dc36 pm36 an36 cd36 ct36), sl36⟩)
    (c36 : PySem.W.codeIn K cd36 "_law_machine" = true)
    (k36 : PySem.W.keepIn K (.ref f36) = true)
    (a37 : PySem.W.nsIn K mainGlobals "_law_program" = some (some (.ref f37)))
    (l37 : K.lookup f37 = some ⟨oc37, od37, .func (PySem.W.fnOf "_law_program" "_law_program" (defArgs s_law_program) (defBody s_law_program) (defScope s_law_program) .none kV37 dc37 pm37 an37 cd37 ct37), sl37⟩)
    (c37 : PySem.W.codeIn K cd37 "_law_program" = true)
    (k37 : PySem.W.keepIn K (.ref f37) = true)
    (a38 : PySem.W.nsIn K mainGlobals "_law_stands" = some (some (.ref f38)))
    (l38 : K.lookup f38 = some ⟨oc38, od38, .func (PySem.W.fnOf "_law_stands" "_law_stands" (defArgs s_law_stands) (defBody s_law_stands) (defScope s_law_stands) .none kV38 dc38 pm38 an38 cd38 ct38), sl38⟩)
    (c38 : PySem.W.codeIn K cd38 "_law_stands" = true)
    (k38 : PySem.W.keepIn K (.ref f38) = true)
    (a39 : PySem.W.nsIn K mainGlobals "_law_behind" = some (some (.ref f39)))
    (l39 : K.lookup f39 = some ⟨oc39, od39, .func (PySem.W.fnOf "_law_behind" "_law_behind" (defArgs s_law_behind) (defBody s_law_behind) (defScope s_law_behind) .none kV39 dc39 pm39 an39 cd39 ct39), sl39⟩)
    (c39 : PySem.W.codeIn K cd39 "_law_behind" = true)
    (k39 : PySem.W.keepIn K (.ref f39) = true)
    (a40 : PySem.W.nsIn K mainGlobals "_law_run" = some (some (.ref f40)))
    (l40 : K.lookup f40 = some ⟨oc40, od40, .func (PySem.W.fnOf "_law_run" "_law_run" (defArgs s_law_run) (defBody s_law_run) (defScope s_law_run) .none kV40 dc40 pm40 an40 cd40 ct40), sl40⟩)
    (c40 : PySem.W.codeIn K cd40 "_law_run" = true)
    (k40 : PySem.W.keepIn K (.ref f40) = true)
    (a41 : PySem.W.nsIn K mainGlobals "_law_kept" = some (some (.ref f41)))
    (l41 : K.lookup f41 = some ⟨oc41, od41, .func (PySem.W.fnOf "_law_kept" "_law_kept" (defArgs s_law_kept) (defBody s_law_kept) (defScope s_law_kept) .none kV41 dc41 pm41 an41 cd41 ct41), sl41⟩)
    (c41 : PySem.W.codeIn K cd41 "_law_kept" = true)
    (k41 : PySem.W.keepIn K (.ref f41) = true)
    (a42 : PySem.W.nsIn K mainGlobals "law" = some (some (.ref f42)))
    (l42 : K.lookup f42 = some ⟨oc42, od42, .func (PySem.W.fnOf "law" "law" (defArgs s_law) (defBody s_law) (defScope s_law) .none kV42 dc42 pm42 an42 cd42 ct42), sl42⟩)
    (c42 : PySem.W.codeIn K cd42 "law" = true)
    (k42 : PySem.W.keepIn K (.ref f42) = true)
    (z_int : PySem.W.nsIn K mainGlobals "int" = some none)
    (z_len : PySem.W.nsIn K mainGlobals "len" = some none)
    (z_range : PySem.W.nsIn K mainGlobals "range" = some none)
    (z_isinstance : PySem.W.nsIn K mainGlobals "isinstance" = some none)
    (z_bool : PySem.W.nsIn K mainGlobals "bool" = some none)
    (z_tuple : PySem.W.nsIn K mainGlobals "tuple" = some none)
    (z_list : PySem.W.nsIn K mainGlobals "list" = some none)
    (z_str : PySem.W.nsIn K mainGlobals "str" = some none)
    (z_any : PySem.W.nsIn K mainGlobals "any" = some none)
    (z_sorted : PySem.W.nsIn K mainGlobals "sorted" = some none)
    (z_reversed : PySem.W.nsIn K mainGlobals "reversed" = some none)
    (z_enumerate : PySem.W.nsIn K mainGlobals "enumerate" = some none)
    (z_all : PySem.W.nsIn K mainGlobals "all" = some none)
    (z_zip : PySem.W.nsIn K mainGlobals "zip" = some none)
    (z_max : PySem.W.nsIn K mainGlobals "max" = some none)
    (z_min : PySem.W.nsIn K mainGlobals "min" = some none)
    (n_MOST_CELLS : PySem.W.nsIn K mainGlobals "MOST_CELLS" = some (some (.int 4 t_MOST_CELLS)))
    (n_MOST_INSTRUCTIONS : PySem.W.nsIn K mainGlobals "MOST_INSTRUCTIONS" = some (some (.int 20 t_MOST_INSTRUCTIONS)))
    (n_MILLION : PySem.W.nsIn K mainGlobals "MILLION" = some (some (.int 1000000 t_MILLION)))
    (n_MOST_FADE : PySem.W.nsIn K mainGlobals "MOST_FADE" = some (some (.int 8 t_MOST_FADE)))
    (n_MOST_KEPT : PySem.W.nsIn K mainGlobals "MOST_KEPT" = some (some (.int 4000 t_MOST_KEPT)))
    (n_MOST_INPUTS : PySem.W.nsIn K mainGlobals "MOST_INPUTS" = some (some (.int 50 t_MOST_INPUTS)))
    (n_MOST_TICKS : PySem.W.nsIn K mainGlobals "MOST_TICKS" = some (some (.int 20000 t_MOST_TICKS)))
    (g_aA : PySem.W.nsIn K mainGlobals "ALONE" = some (some (.ref aA)))
    (w_aA : K.lookup aA = some ⟨.type "tuple", dd_aA, .seq #[.str "say" t_aA0, .str "ask" t_aA1, .str "stop" t_aA2] nn_aA, sl_aA⟩)
    (g_aC : PySem.W.nsIn K mainGlobals "WITH_CELL" = some (some (.ref aC)))
    (w_aC : K.lookup aC = some ⟨.type "tuple", dd_aC, .seq #[.str "get" t_aC0, .str "plus" t_aC1, .str "minus" t_aC2, .str "set" t_aC3] nn_aC, sl_aC⟩)
    (g_aP : PySem.W.nsIn K mainGlobals "WITH_PLACE" = some (some (.ref aP)))
    (w_aP : K.lookup aP = some ⟨.type "tuple", dd_aP, .seq #[.str "zero" t_aP0, .str "go" t_aP1] nn_aP, sl_aP⟩)
    (g_aR : PySem.W.nsIn K mainGlobals "READS" = some (some (.ref aR)))
    (w_aR : K.lookup aR = some ⟨.type "tuple", dd_aR, .seq #[.str "get" t_aR0, .str "plus" t_aR1, .str "minus" t_aR2] nn_aR, sl_aR⟩)
    (bl_g : PySem.W.nsIn K mainGlobals "BadLives" = some (some (.ref bl)))
    (bl_k : PySem.W.keepIn K (.ref bl) = true)
    (bl_q : PySem.W.excIn K bl [.type "ValueError", .type "Exception", .type "BaseException", .type "object"] "ValueError.__new__" = true)
    (bl_ex : PySem.W.subIn K (.ref bl) (.type "BaseException") = some true)
    (bl_ty : PySem.W.typeIn K (.ref bl) = some (.type "type"))
    (bl_c : PySem.W.isClsIn K bl = true)
    (bl_s : PySem.W.subIn K (.ref bl) (.ref bl) = some true)
    (bc_g : PySem.W.nsIn K mainGlobals "BadCell" = some (some (.ref bc)))
    (bc_k : PySem.W.keepIn K (.ref bc) = true)
    (bc_q : PySem.W.excIn K bc [.type "ValueError", .type "Exception", .type "BaseException", .type "object"] "ValueError.__new__" = true)
    (bc_ex : PySem.W.subIn K (.ref bc) (.type "BaseException") = some true)
    (bc_ty : PySem.W.typeIn K (.ref bc) = some (.type "type"))
    (bc_c : PySem.W.isClsIn K bc = true)
    (bc_s : PySem.W.subIn K (.ref bc) (.ref bc) = some true)
    (sp_zs : PySem.W.nsIn K mainGlobals "super" = some none)
    (sp_tp : PySem.W.nsIn K cStatics "thirdparty.any" = some none)
    (sp_top : (l.prog.main.scope.names.lookup ("super" : Str)).isSome = false)
    (bp_g : PySem.W.nsIn K mainGlobals "BadProgram" = some (some (.ref bp)))
    (bp_l : K.lookup bp = some (excClassObj bpnmB bpqB bp bpNB bpbsB bpbmB true bpsnB bpsubB bpabB bpcolB bpddB bpm0 bpm1 bpm2 bpm3 bpm5 "ValueError.__new__"))
    (bp_bm : refsVE bpbmB = true)
    (bp_sup : PySem.W.ks_superIn K bp bp "__init__" = some (some (.builtin "ValueError.__init__")))
    (bp_mro : PySem.W.mroIn K bp (.ref bp) = some true)
    (bp_ve : PySem.W.subIn K (.ref bp) (.type "ValueError") = some true)
    (bp_sa : PySem.W.findIn K (.ref bp) "__setattr__" = some (some (.builtin "object.__setattr__")))
    (bp_ga : PySem.W.findIn K (.ref bp) "__getattribute__" = some (some (.builtin "BaseException.__getattribute__")))
    (bp_gg : PySem.W.findIn K (.ref bp) "__getattr__" = some none)
    (bp_no : PySem.W.findIn K (.ref bp) "index" = some none)
    (bp_iC : PySem.W.findIn K (.ref bp) "__init__" = some (some (.ref bpfI)))
    (bp_tC : PySem.W.typeIn K (.ref bpfI) = some (.type "function"))
    (bp_kC : PySem.W.keepIn K (.ref bp) = true)
    (bp_ex : PySem.W.subIn K (.ref bp) (.type "BaseException") = some true)
    (bp_ty : PySem.W.typeIn K (.ref bp) = some (.type "type"))
    (bp_hd : PySem.W.hasDictIn K bp = true)
    (bp_c : PySem.W.isClsIn K bp = true)
    (bp_s : PySem.W.subIn K (.ref bp) (.ref bp) = some true)
    (bp_fn : K.lookup bpfI = some ⟨bpocI, bpodI, .func (ksFn "__init__" "BadProgram.__init__" (defArgs NS_BadProgram.sI) (defBody NS_BadProgram.sI) (defScope NS_BadProgram.sI) .none .none bpdcI bppmI bpanI (.ref bpcda) bpctI bpcc), bpslI⟩)
    (bp_cd : PySem.W.codeIn K (.ref bpcda) "BadProgram.__init__" = true)
    (bp_co : K.lookup bpcda = some ⟨bpccl, bpcdd, .fields bpvsC, bpccs⟩)
    (bp_cv : bpvsC[2]? = some (.str bpfl bptf))
    (bp_fl : ((l.prog.main.file : Str) == bpfl) = true)
    (bp_ce : K.lookup bpcc = some ⟨bpclC, bpcldC, .cell (some (.ref bp)), bpcslC⟩)
    (bm_g : PySem.W.nsIn K mainGlobals "BadMachine" = some (some (.ref bm)))
    (bm_l : K.lookup bm = some (excClassObj bmnmB bmqB bm bmNB bmbsB bmbmB true bmsnB bmsubB bmabB bmcolB bmddB bmm0 bmm1 bmm2 bmm3 bmm5 "ValueError.__new__"))
    (bm_bm : refsVE bmbmB = true)
    (bm_sup : PySem.W.ks_superIn K bm bm "__init__" = some (some (.builtin "ValueError.__init__")))
    (bm_mro : PySem.W.mroIn K bm (.ref bm) = some true)
    (bm_ve : PySem.W.subIn K (.ref bm) (.type "ValueError") = some true)
    (bm_sa : PySem.W.findIn K (.ref bm) "__setattr__" = some (some (.builtin "object.__setattr__")))
    (bm_ga : PySem.W.findIn K (.ref bm) "__getattribute__" = some (some (.builtin "BaseException.__getattribute__")))
    (bm_gg : PySem.W.findIn K (.ref bm) "__getattr__" = some none)
    (bm_no : PySem.W.findIn K (.ref bm) "part" = some none)
    (bm_iC : PySem.W.findIn K (.ref bm) "__init__" = some (some (.ref bmfI)))
    (bm_tC : PySem.W.typeIn K (.ref bmfI) = some (.type "function"))
    (bm_kC : PySem.W.keepIn K (.ref bm) = true)
    (bm_ex : PySem.W.subIn K (.ref bm) (.type "BaseException") = some true)
    (bm_ty : PySem.W.typeIn K (.ref bm) = some (.type "type"))
    (bm_hd : PySem.W.hasDictIn K bm = true)
    (bm_c : PySem.W.isClsIn K bm = true)
    (bm_s : PySem.W.subIn K (.ref bm) (.ref bm) = some true)
    (bm_fn : K.lookup bmfI = some ⟨bmocI, bmodI, .func (ksFn "__init__" "BadMachine.__init__" (defArgs NS_BadMachine.sI) (defBody NS_BadMachine.sI) (defScope NS_BadMachine.sI) .none .none bmdcI bmpmI bmanI (.ref bmcda) bmctI bmcc), bmslI⟩)
    (bm_cd : PySem.W.codeIn K (.ref bmcda) "BadMachine.__init__" = true)
    (bm_co : K.lookup bmcda = some ⟨bmccl, bmcdd, .fields bmvsC, bmccs⟩)
    (bm_cv : bmvsC[2]? = some (.str bmfl bmtf))
    (bm_fl : ((l.prog.main.file : Str) == bmfl) = true)
    (bm_ce : K.lookup bmcc = some ⟨bmclC, bmcldC, .cell (some (.ref bm)), bmcslC⟩)
    : ∃ fd : FuncData, (∀ (s : Shared) (v : Value), BindsTo s fd ⟨[v], []⟩ [("script", v)]) ∧ ∀ base : Heap, K.In base → base.Ns mainGlobals mg → FnOk l.prog w K mg base CX0 7 fa fd ["script"] (spLaw K) := by
  have e := hfa.symm.trans (PySem.W.mg_of X G a42)
  cases e
  have T : Txt K mg := { z_int := PySem.W.mg_none_of X G z_int, z_len := PySem.W.mg_none_of X G z_len, z_range := PySem.W.mg_none_of X G z_range, z_isinstance := PySem.W.mg_none_of X G z_isinstance, z_bool := PySem.W.mg_none_of X G z_bool, z_tuple := PySem.W.mg_none_of X G z_tuple, z_list := PySem.W.mg_none_of X G z_list, z_str := PySem.W.mg_none_of X G z_str, z_any := PySem.W.mg_none_of X G z_any, z_sorted := PySem.W.mg_none_of X G z_sorted, z_reversed := PySem.W.mg_none_of X G z_reversed, z_enumerate := PySem.W.mg_none_of X G z_enumerate, z_all := PySem.W.mg_none_of X G z_all, z_zip := PySem.W.mg_none_of X G z_zip, z_max := PySem.W.mg_none_of X G z_max, z_min := PySem.W.mg_none_of X G z_min, c_MOST_CELLS := ⟨_, PySem.W.mg_of X G n_MOST_CELLS⟩, c_MOST_INSTRUCTIONS := ⟨_, PySem.W.mg_of X G n_MOST_INSTRUCTIONS⟩, c_MILLION := ⟨_, PySem.W.mg_of X G n_MILLION⟩, c_MOST_FADE := ⟨_, PySem.W.mg_of X G n_MOST_FADE⟩, c_MOST_KEPT := ⟨_, PySem.W.mg_of X G n_MOST_KEPT⟩, c_MOST_INPUTS := ⟨_, PySem.W.mg_of X G n_MOST_INPUTS⟩, c_MOST_TICKS := ⟨_, PySem.W.mg_of X G n_MOST_TICKS⟩ }
  have Wd : Wds K mg aA aC aP := ⟨PySem.W.mg_of X G g_aA, PySem.W.mg_of X G g_aC, PySem.W.mg_of X G g_aP, fun H => .inr ⟨_, _, _, w_aA, rfl, rfl, by show 3 ≤ sizeLine; rw [sizeLine_eq]; decide, .cons ⟨t_aA0, rfl⟩ (.cons ⟨t_aA1, rfl⟩ (.cons ⟨t_aA2, rfl⟩ (.nil)))⟩, fun H => .inr ⟨_, _, _, w_aC, rfl, rfl, by show 4 ≤ sizeLine; rw [sizeLine_eq]; decide, .cons ⟨t_aC0, rfl⟩ (.cons ⟨t_aC1, rfl⟩ (.cons ⟨t_aC2, rfl⟩ (.cons ⟨t_aC3, rfl⟩ (.nil))))⟩, fun H => .inr ⟨_, _, _, w_aP, rfl, rfl, by show 2 ≤ sizeLine; rw [sizeLine_eq]; decide, .cons ⟨t_aP0, rfl⟩ (.cons ⟨t_aP1, rfl⟩ (.nil))⟩⟩
  have WdR : WdR K mg aR := ⟨PySem.W.mg_of X G g_aR, fun H => .inr ⟨_, _, _, w_aR, rfl, rfl, by show 3 ≤ sizeLine; rw [sizeLine_eq]; decide, .cons ⟨t_aR0, rfl⟩ (.cons ⟨t_aR1, rfl⟩ (.cons ⟨t_aR2, rfl⟩ (.nil)))⟩⟩
  have B_BadLives : BaseE K mg "BadLives" bl := ⟨PySem.W.mg_of X G bl_g, bl_k, bl_q, bl_ex, bl_ty, exm_own bl_ex bl_c bl_ty bl_s⟩
  have B_BadCell : BaseE K mg "BadCell" bc := ⟨PySem.W.mg_of X G bc_g, bc_k, bc_q, bc_ex, bc_ty, exm_own bc_ex bc_c bc_ty bc_s⟩
  have T_BadProgram : NS_BadProgram.Ty l.prog K mg bp bpfI bpcc bpcda :=
    { gC := PySem.W.mg_of X G bp_g, zS := PySem.W.mg_none_of X G sp_zs, tp := sp_tp, cls := ⟨bpnmB, bpqB, bpNB, bpbsB, bpbmB, bpsnB, bpsubB, bpabB, bpcolB, bpddB, bpm0, bpm1, bpm2, bpm3, bpm5, bp_l, bp_bm⟩, sup := bp_sup, mro := bp_mro, ve := bp_ve, sa := bp_sa, ga := bp_ga, gg := bp_gg, noN := bp_no, iC := bp_iC, tC := bp_tC, kC := bp_kC, exC := bp_ex, tyC := bp_ty, hdC := bp_hd, te := exm_own bp_ex bp_c bp_ty bp_s,
      file := ⟨bpccl, bpcdd, bpvsC, bpccs, bpfl, bptf, bp_co, bp_cv, bp_fl⟩, cell := ⟨bpclC, bpcldC, bpcslC, bp_ce⟩, top_ := sp_top, fn := ⟨bpocI, bpodI, bpdcI, bppmI, bpanI, bpctI, bpslI, bp_fn, bp_cd⟩ }
  have T_BadMachine : NS_BadMachine.Ty l.prog K mg bm bmfI bmcc bmcda :=
    { gC := PySem.W.mg_of X G bm_g, zS := PySem.W.mg_none_of X G sp_zs, tp := sp_tp, cls := ⟨bmnmB, bmqB, bmNB, bmbsB, bmbmB, bmsnB, bmsubB, bmabB, bmcolB, bmddB, bmm0, bmm1, bmm2, bmm3, bmm5, bm_l, bm_bm⟩, sup := bm_sup, mro := bm_mro, ve := bm_ve, sa := bm_sa, ga := bm_ga, gg := bm_gg, noN := bm_no, iC := bm_iC, tC := bm_tC, kC := bm_kC, exC := bm_ex, tyC := bm_ty, hdC := bm_hd, te := exm_own bm_ex bm_c bm_ty bm_s,
      file := ⟨bmccl, bmcdd, bmvsC, bmccs, bmfl, bmtf, bm_co, bm_cv, bm_fl⟩, cell := ⟨bmclC, bmcldC, bmcslC, bm_ce⟩, top_ := sp_top, fn := ⟨bmocI, bmodI, bmdcI, bmpmI, bmanI, bmctI, bmslI, bm_fn, bm_cd⟩ }
  have Cl_Run : Cls K X_Run := ⟨xp_Run, xh_Run, xo_Run, xs_Run⟩
  have T_Run : RunT K X_Run := { cl := Cl_Run, n_program := xn_Run_program, n_places := xn_Run_places, n_at := xn_Run_at, n_hand := xn_Run_hand, n_contents := xn_Run_contents, n_inputs := xn_Run_inputs, n_asked := xn_Run_asked, n_said := xn_Run_said }
  have F0 := fun_mk (st := s_is_whole) l0 c0 k0
  have b0 := F0.binds (ps := ["value"]) fun _ _ _ _ _ _ us hl => match us, hl with | [_], _ => rfl
  have g0 := PySem.W.mg_of X G a0
  have F1 := fun_mk (st := s_is_integer) l1 c1 k1
  have b1 := F1.binds (ps := ["value", "low", "high"]) fun _ _ _ _ _ _ us hl => match us, hl with | [_, _, _], _ => rfl
  have g1 := PySem.W.mg_of X G a1
  have F2 := fun_mk (st := s_check_number) l2 c2 k2
  have b2 := F2.binds (ps := ["value", "low", "high"]) fun _ _ _ _ _ _ us hl => match us, hl with | [_, _, _], _ => rfl
  have g2 := PySem.W.mg_of X G a2
  have F3 := fun_mk (st := s_check_cells) l3 c3 k3
  have b3 := F3.binds (ps := ["value"]) fun _ _ _ _ _ _ us hl => match us, hl with | [_], _ => rfl
  have g3 := PySem.W.mg_of X G a3
  have F4 := fun_mk (st := s_is_instruction) l4 c4 k4
  have b4 := F4.binds (ps := ["cells", "length", "value"]) fun _ _ _ _ _ _ us hl => match us, hl with | [_, _, _], _ => rfl
  have g4 := PySem.W.mg_of X G a4
  have F5 := fun_mk (st := s_is_touch) l5 c5 k5
  have b5 := F5.binds (ps := ["cells", "value"]) fun _ _ _ _ _ _ us hl => match us, hl with | [_, _], _ => rfl
  have g5 := PySem.W.mg_of X G a5
  have F6 := fun_mk (st := s_check_length) l6 c6 k6
  have b6 := F6.binds (ps := ["value", "most"]) fun _ _ _ _ _ _ us hl => match us, hl with | [_, _], _ => rfl
  have g6 := PySem.W.mg_of X G a6
  have F7 := fun_mk (st := s_check_program) l7 c7 k7
  have b7 := F7.binds (ps := ["cells", "value"]) fun _ _ _ _ _ _ us hl => match us, hl with | [_, _], _ => rfl
  have g7 := PySem.W.mg_of X G a7
  have F8 := fun_mk (st := s_check_kept) l8 c8 k8
  have b8 := F8.binds (ps := ["cells", "value"]) fun _ _ _ _ _ _ us hl => match us, hl with | [_, _], _ => rfl
  have g8 := PySem.W.mg_of X G a8
  have F9 := fun_mk (st := s_check_inputs) l9 c9 k9
  have b9 := F9.binds (ps := ["value"]) fun _ _ _ _ _ _ us hl => match us, hl with | [_], _ => rfl
  have g9 := PySem.W.mg_of X G a9
  have F10 := fun_mk (st := s_are_fades) l10 c10 k10
  have b10 := F10.binds (ps := ["value"]) fun _ _ _ _ _ _ us hl => match us, hl with | [_], _ => rfl
  have g10 := PySem.W.mg_of X G a10
  have F11 := fun_mk (st := s_are_rows) l11 c11 k11
  have b11 := F11.binds (ps := ["value"]) fun _ _ _ _ _ _ us hl => match us, hl with | [_], _ => rfl
  have g11 := PySem.W.mg_of X G a11
  have F12 := fun_mk (st := s_check_machine) l12 c12 k12
  have b12 := F12.binds (ps := ["value"]) fun _ _ _ _ _ _ us hl => match us, hl with | [_], _ => rfl
  have g12 := PySem.W.mg_of X G a12
  have F13 := fun_mk (st := s_check_lives) l13 c13 k13
  have b13 := F13.binds (ps := ["machine", "value"]) fun _ _ _ _ _ _ us hl => match us, hl with | [_, _], _ => rfl
  have g13 := PySem.W.mg_of X G a13
  have F14 := fun_mk (st := s_check_cell_of) l14 c14 k14
  have b14 := F14.binds (ps := ["cells", "value"]) fun _ _ _ _ _ _ us hl => match us, hl with | [_, _], _ => rfl
  have g14 := PySem.W.mg_of X G a14
  have F15 := fun_mk (st := s_check_cell) l15 c15 k15
  have b15 := F15.binds (ps := ["machine", "value"]) fun _ _ _ _ _ _ us hl => match us, hl with | [_, _], _ => rfl
  have g15 := PySem.W.mg_of X G a15
  have F16 := fun_mk (st := s_lives_waited) l16 c16 k16
  have b16 := F16.binds (ps := ["lives"]) fun _ _ _ _ _ _ us hl => match us, hl with | [_], _ => rfl
  have g16 := PySem.W.mg_of X G a16
  have F17 := fun_mk (st := s_lives_touched) l17 c17 k17
  have b17 := F17.binds (ps := ["machine", "lives", "cell"]) fun _ _ _ _ _ _ us hl => match us, hl with | [_, _, _], _ => rfl
  have g17 := PySem.W.mg_of X G a17
  have F18 := fun_mk (st := s_lives_set) l18 c18 k18
  have b18 := F18.binds (ps := ["machine", "lives", "cell"]) fun _ _ _ _ _ _ us hl => match us, hl with | [_, _, _], _ => rfl
  have g18 := PySem.W.mg_of X G a18
  have F19 := fun_mk (st := s_behind_touch) l19 c19 k19
  have b19 := F19.binds (ps := ["machine", "lives", "cell"]) fun _ _ _ _ _ _ us hl => match us, hl with | [_, _, _], _ => rfl
  have g19 := PySem.W.mg_of X G a19
  have F20 := fun_mk (st := s_behind_set) l20 c20 k20
  have b20 := F20.binds (ps := ["machine", "lives", "cell"]) fun _ _ _ _ _ _ us hl => match us, hl with | [_, _, _], _ => rfl
  have g20 := PySem.W.mg_of X G a20
  have F21 := fun_mk (st := s_behind_wait) l21 c21 k21
  have b21 := F21.binds (ps := ["machine", "lives"]) fun _ _ _ _ _ _ us hl => match us, hl with | [_, _], _ => rfl
  have g21 := PySem.W.mg_of X G a21
  have F22 := fun_mk (st := s_places_of) l22 c22 k22
  have b22 := F22.binds (ps := ["program"]) fun _ _ _ _ _ _ us hl => match us, hl with | [_], _ => rfl
  have g22 := PySem.W.mg_of X G a22
  have F23 := fun_mk (st := s_lives_behind) l23 c23 k23
  have b23 := F23.binds (ps := ["machine", "lives", "instruction"]) fun _ _ _ _ _ _ us hl => match us, hl with | [_, _, _], _ => rfl
  have g23 := PySem.W.mg_of X G a23
  have F24 := fun_mk (st := s_Run___init__) l24 c24 k24
  have b24 := F24.binds (ps := ["self", "cells", "program", "inputs"]) fun _ _ _ _ _ _ us hl => match us, hl with | [_, _, _, _], _ => rfl
  have F25 := fun_mk (st := s_Run_is_over) l25 c25 k25
  have b25 := F25.binds (ps := ["self"]) fun _ _ _ _ _ _ us hl => match us, hl with | [_], _ => rfl
  have F26 := fun_mk (st := s_Run_instruction) l26 c26 k26
  have b26 := F26.binds (ps := ["self"]) fun _ _ _ _ _ _ us hl => match us, hl with | [_], _ => rfl
  have F27 := fun_mk (st := s_Run_say_or_ask) l27 c27 k27
  have b27 := F27.binds (ps := ["self", "word"]) fun _ _ _ _ _ _ us hl => match us, hl with | [_, _], _ => rfl
  have F28 := fun_mk (st := s_Run_act_on_cell) l28 c28 k28
  have b28 := F28.binds (ps := ["self", "word", "cell"]) fun _ _ _ _ _ _ us hl => match us, hl with | [_, _, _], _ => rfl
  have F29 := fun_mk (st := s_Run_act) l29 c29 k29
  have b29 := F29.binds (ps := ["self"]) fun _ _ _ _ _ _ us hl => match us, hl with | [_], _ => rfl
  have F30 := fun_mk (st := s_told) l30 c30 k30
  have b30 := F30.binds (ps := ["run", "ticks"]) fun _ _ _ _ _ _ us hl => match us, hl with | [_, _], _ => rfl
  have g30 := PySem.W.mg_of X G a30
  have F31 := fun_mk (st := s_run_lasting) l31 c31 k31
  have b31 := F31.binds (ps := ["cells", "program", "inputs", "most"]) fun _ _ _ _ _ _ us hl => match us, hl with | [_, _, _, _], _ => rfl
  have g31 := PySem.W.mg_of X G a31
  have F32 := fun_mk (st := s_run_fading) l32 c32 k32
  have b32 := F32.binds (ps := ["machine", "program", "inputs", "most"]) fun _ _ _ _ _ _ us hl => match us, hl with | [_, _, _, _], _ => rfl
  have g32 := PySem.W.mg_of X G a32
  have F33 := fun_mk (st := s_law_taken) l33 c33 k33
  have b33 := F33.binds (ps := ["row", "many"]) fun _ _ _ _ _ _ us hl => match us, hl with | [_, _], _ => rfl
  have g33 := PySem.W.mg_of X G a33
  have F34 := fun_mk (st := s_law_pick) l34 c34 k34
  have b34 := F34.binds (ps := ["row", "things"]) fun _ _ _ _ _ _ us hl => match us, hl with | [_, _], _ => rfl
  have g34 := PySem.W.mg_of X G a34
  have F35 := fun_mk (st := s_law_alike) l35 c35 k35
  have b35 := F35.binds (ps := ["found", "due"]) fun _ _ _ _ _ _ us hl => match us, hl with | [_, _], _ => rfl
  have g35 := PySem.W.mg_of X G a35
  have F36 := fun_mk (st := s_law_machine) l36 c36 k36
  have b36 := F36.binds (ps := ["row", "most", "fade"]) fun _ _ _ _ _ _ us hl => match us, hl with | [_, _, _], _ => rfl
  have g36 := PySem.W.mg_of X G a36
  have F37 := fun_mk (st := s_law_program) l37 c37 k37
  have b37 := F37.binds (ps := ["row", "cells", "most"]) fun _ _ _ _ _ _ us hl => match us, hl with | [_, _, _], _ => rfl
  have g37 := PySem.W.mg_of X G a37
  have F38 := fun_mk (st := s_law_stands) l38 c38 k38
  have b38 := F38.binds (ps := ["program", "index"]) fun _ _ _ _ _ _ us hl => match us, hl with | [_, _], _ => rfl
  have g38 := PySem.W.mg_of X G a38
  have F39 := fun_mk (st := s_law_behind) l39 c39 k39
  have b39 := F39.binds (ps := ["machine", "lives", "word", "cell"]) fun _ _ _ _ _ _ us hl => match us, hl with | [_, _, _, _], _ => rfl
  have g39 := PySem.W.mg_of X G a39
  have F40 := fun_mk (st := s_law_run) l40 c40 k40
  have b40 := F40.binds (ps := ["cells", "program", "inputs", "most", "machine"]) fun _ _ _ _ _ _ us hl => match us, hl with | [_, _, _, _, _], _ => rfl
  have g40 := PySem.W.mg_of X G a40
  have F41 := fun_mk (st := s_law_kept) l41 c41 k41
  have b41 := F41.binds (ps := ["row", "program", "cells"]) fun _ _ _ _ _ _ us hl => match us, hl with | [_, _, _], _ => rfl
  have g41 := PySem.W.mg_of X G a41
  have F42 := fun_mk (st := s_law) l42 c42 k42
  refine ⟨PySem.W.fnOf "law" "law" (defArgs s_law) (defBody s_law) (defScope s_law) .none kV42 dc42 pm42 an42 cd42 ct42, fun s v => .of_eq rfl, fun base _ _ => ?_⟩
  have C_is_whole : Cal l.prog w K mg base CX0 1 "is_whole" f0 _ ["value"] (spIsWhole K) := ⟨ok_is_whole F0 T, g0, k0, b0⟩
  have C_is_integer : Cal l.prog w K mg base CX0 2 "is_integer" f1 _ ["value", "low", "high"] (spIsInt K) := ⟨ok_is_integer F1 T C_is_whole, g1, k1, b1⟩
  have C_check_number : Cal l.prog w K mg base CX0 3 "check_number" f2 _ ["value", "low", "high"] spChkNum := ⟨ok_check_number F2 T C_is_integer, g2, k2, b2⟩
  have C_check_cells : Cal l.prog w K mg base CX0 4 "check_cells" f3 _ ["value"] spChkCells := ⟨ok_check_cells F3 T C_check_number, g3, k3, b3⟩
  have C_is_instruction : Cal l.prog w K mg base CX0 3 "is_instruction" f4 _ ["cells", "length", "value"] (spIsIn K) := ⟨ok_is_instruction F4 T Wd C_is_integer, g4, k4, b4⟩
  have C_is_instructionO : Cal l.prog w K mg base CX0 3 "is_instruction" f4 _ ["cells", "length", "value"] (fun vs H Q E => spIsIn K vs H Q E ∨ spIsNo K vs H Q E) := ⟨FnOk_or (ok_is_instruction F4 T Wd C_is_integer) (no_is_instruction F4 T Wd C_is_integer), g4, k4, b4⟩
  have C_is_touch : Cal l.prog w K mg base CX0 3 "is_touch" f5 _ ["cells", "value"] (spIsTouch K) := ⟨ok_is_touch F5 T C_is_integer, g5, k5, b5⟩
  have C_check_length : Cal l.prog w K mg base CX0 2 "check_length" f6 _ ["value", "most"] (spChkLen K) := ⟨ok_check_length F6 T, g6, k6, b6⟩
  have C_check_program : Cal l.prog w K mg base CX0 4 "check_program" f7 _ ["cells", "value"] (spChkPg K) := ⟨ok_check_program F7 T C_check_length C_is_instruction, g7, k7, b7⟩
  have C_check_programX : Cal l.prog w K mg base (L2.CX l.prog w) 4 "check_program" f7 _ ["cells", "value"] (spChkPgI K bp) := ⟨okI_check_program F7 T T_BadProgram C_check_length C_is_instructionO, g7, k7, b7⟩
  have C_check_kept : Cal l.prog w K mg base CX0 4 "check_kept" f8 _ ["cells", "value"] (spChkKe K) := ⟨ok_check_kept F8 T C_check_length C_is_instructionO C_is_touch, g8, k8, b8⟩
  have C_check_inputs : Cal l.prog w K mg base CX0 3 "check_inputs" f9 _ ["value"] (spChkInp K) := ⟨ok_check_inputs F9 T C_is_integer, g9, k9, b9⟩
  have C_are_fades : Cal l.prog w K mg base CX0 3 "are_fades" f10 _ ["value"] (spFades K) := ⟨ok_fades F10 T C_is_integer, g10, k10, b10⟩
  have C_are_fadesO : Cal l.prog w K mg base CX0 3 "are_fades" f10 _ ["value"] (fun vs H Q E => spFades K vs H Q E ∨ spFadesNo K vs H Q E) := ⟨FnOk_or (ok_fades F10 T C_is_integer) (no_fades F10 T C_is_integer), g10, k10, b10⟩
  have C_are_rows : Cal l.prog w K mg base CX0 3 "are_rows" f11 _ ["value"] (spRows K) := ⟨ok_rows F11 T C_is_integer, g11, k11, b11⟩
  have C_check_machine : Cal l.prog w K mg base CX0 4 "check_machine" f12 _ ["value"] (spChkMa K) := ⟨ok_check_machine F12 T C_are_fades C_are_rows, g12, k12, b12⟩
  have C_check_machineX : Cal l.prog w K mg base (L2.CX l.prog w) 4 "check_machine" f12 _ ["value"] (spChkMaX K bm) := ⟨okX_check_machine F12 T T_BadMachine C_are_fadesO C_are_rows, g12, k12, b12⟩
  have C_check_lives : Cal l.prog w K mg base CX0 3 "check_lives" f13 _ ["machine", "value"] (spChkLi K) := ⟨ok_check_lives F13 T C_is_integer, g13, k13, b13⟩
  have C_check_livesX : Cal l.prog w K mg base (L2.CX l.prog w) 3 "check_lives" f13 _ ["machine", "value"] (spChkLiX K bl) := ⟨okX_check_lives F13 T B_BadLives C_is_integer, g13, k13, b13⟩
  have C_check_cell_of : Cal l.prog w K mg base CX0 3 "check_cell_of" f14 _ ["cells", "value"] spChkCeOf := ⟨ok_check_cell_of F14 T C_is_integer, g14, k14, b14⟩
  have C_check_cell_ofX : Cal l.prog w K mg base (L2.CX l.prog w) 3 "check_cell_of" f14 _ ["cells", "value"] (spChkCeOfX K bc) := ⟨okX_check_cell_of F14 T B_BadCell C_is_integer, g14, k14, b14⟩
  have C_check_cell : Cal l.prog w K mg base CX0 4 "check_cell" f15 _ ["machine", "value"] (spChkCe K) := ⟨ok_check_cell F15 T C_check_cell_of, g15, k15, b15⟩
  have C_check_cellX : Cal l.prog w K mg base (L2.CX l.prog w) 4 "check_cell" f15 _ ["machine", "value"] (spChkCeX K bc) := ⟨okX_check_cell F15 T C_check_cell_ofX, g15, k15, b15⟩
  have C_lives_waited : Cal l.prog w K mg base CX0 2 "lives_waited" f16 _ ["lives"] (spWaited K) := ⟨ok_waited F16 T, g16, k16, b16⟩
  have C_lives_touched : Cal l.prog w K mg base CX0 2 "lives_touched" f17 _ ["machine", "lives", "cell"] (spTouched K) := ⟨ok_touched F17 T, g17, k17, b17⟩
  have C_lives_set : Cal l.prog w K mg base CX0 3 "lives_set" f18 _ ["machine", "lives", "cell"] (spSet K) := ⟨ok_set F18 T C_lives_touched, g18, k18, b18⟩
  have C_behind_touch : Cal l.prog w K mg base CX0 5 "behind_touch" f19 _ ["machine", "lives", "cell"] (spBeh K touchL) := ⟨ok_behind_touch F19 T C_check_machine C_check_lives C_check_cell C_lives_touched, g19, k19, b19⟩
  have C_behind_touchX : Cal l.prog w K mg base (L2.CX l.prog w) 5 "behind_touch" f19 _ ["machine", "lives", "cell"] (spTouchX K bl) := ⟨okX_behind_touch F19 T C_check_machine C_check_livesX C_check_cell C_lives_touched, g19, k19, b19⟩
  have C_behind_set : Cal l.prog w K mg base CX0 5 "behind_set" f20 _ ["machine", "lives", "cell"] (spBeh K setL) := ⟨ok_behind_set F20 T C_check_machine C_check_lives C_check_cell C_lives_set, g20, k20, b20⟩
  have C_behind_setX : Cal l.prog w K mg base (L2.CX l.prog w) 5 "behind_set" f20 _ ["machine", "lives", "cell"] (spSetX K bc) := ⟨okX_behind_set F20 T C_check_machine C_check_lives C_check_cellX C_lives_set, g20, k20, b20⟩
  have C_behind_wait : Cal l.prog w K mg base CX0 5 "behind_wait" f21 _ ["machine", "lives"] (spBehW K) := ⟨ok_behind_wait F21 T C_check_machine C_check_lives C_lives_waited, g21, k21, b21⟩
  have C_places_of : Cal l.prog w K mg base CX0 2 "places_of" f22 _ ["program"] (spPlaces K) := ⟨ok_places_of F22 T, g22, k22, b22⟩
  have C_lives_behind : Cal l.prog w K mg base CX0 4 "lives_behind" f23 _ ["machine", "lives", "instruction"] (spLivB K) := ⟨ok_lives_behind F23 T WdR C_lives_touched C_lives_set C_lives_waited, g23, k23, b23⟩
  have M_Run : MkRun l.prog w K mg base X_Run f24 _ := ⟨⟨xm_Run, a24, i24, xk_Run⟩, ok_init F24 T T_Run C_places_of, PySem.W.mg_of X G xg_Run, b24⟩
  have M_Run_is_over : MCal l.prog w K mg base X_Run 2 "is_over" f25 _ ["self"] (spOver K X_Run) := ⟨ok_over F25 T T_Run, ⟨a25, i25, k25⟩, b25⟩
  have M_Run_instruction : MCal l.prog w K mg base X_Run 2 "instruction" f26 _ ["self"] (spInst K X_Run) := ⟨ok_instruction F26 T T_Run, ⟨a26, i26, k26⟩, b26⟩
  have M_Run_say_or_ask : MCal l.prog w K mg base X_Run 2 "say_or_ask" f27 _ ["self", "word"] (spSayAsk K X_Run) := ⟨ok_say_or_ask F27 T T_Run, ⟨a27, i27, k27⟩, b27⟩
  have M_Run_act_on_cell : MCal l.prog w K mg base X_Run 2 "act_on_cell" f28 _ ["self", "word", "cell"] (spOnCell K X_Run) := ⟨ok_act_on_cell F28 T T_Run, ⟨a28, i28, k28⟩, b28⟩
  have M_Run_act : MCal l.prog w K mg base X_Run 3 "act" f29 _ ["self"] (spAct K X_Run) := ⟨ok_act F29 T T_Run M_Run_instruction M_Run_say_or_ask M_Run_act_on_cell, ⟨a29, i29, k29⟩, b29⟩
  have C_told : Cal l.prog w K mg base CX0 3 "told" f30 _ ["run", "ticks"] (spTold K X_Run) := ⟨ok_told F30 T T_Run M_Run_is_over, g30, k30, b30⟩
  have C_run_lasting : Cal l.prog w K mg base CX0 5 "run_lasting" f31 _ ["cells", "program", "inputs", "most"] (spLast K) := ⟨ok_run_lasting F31 T T_Run C_check_cells C_check_program C_check_inputs C_check_number M_Run M_Run_is_over M_Run_act C_told, g31, k31, b31⟩
  have C_run_lastingX : Cal l.prog w K mg base (L2.CX l.prog w) 5 "run_lasting" f31 _ ["cells", "program", "inputs", "most"] (spLastX K bp) := ⟨okX_run_lasting F31 T T_Run C_check_cells C_check_programX C_check_inputs C_check_number M_Run M_Run_is_over M_Run_act C_told, g31, k31, b31⟩
  have C_run_fading : Cal l.prog w K mg base CX0 5 "run_fading" f32 _ ["machine", "program", "inputs", "most"] (spFade K) := ⟨ok_run_fading F32 T T_Run C_check_machine C_check_kept C_check_inputs C_check_number M_Run M_Run_is_over M_Run_act C_told M_Run_instruction C_lives_behind, g32, k32, b32⟩
  have C_run_fadingX : Cal l.prog w K mg base (L2.CX l.prog w) 5 "run_fading" f32 _ ["machine", "program", "inputs", "most"] (spFadeX K bm) := ⟨okX_run_fading F32 T T_Run C_check_machineX C_check_kept C_check_inputs C_check_number M_Run M_Run_is_over M_Run_act C_told M_Run_instruction C_lives_behind, g32, k32, b32⟩
  have C_law_taken : Cal l.prog w K mg base CX0 1 "_law_taken" f33 _ ["row", "many"] (spTak K) := ⟨ok_tak F33 T, g33, k33, b33⟩
  have C_law_pick : Cal l.prog w K mg base CX0 2 "_law_pick" f34 _ ["row", "things"] (spPick K) := ⟨ok_pick F34 T C_law_taken, g34, k34, b34⟩
  have C_law_alike : Cal l.prog w K mg base CX0 3 "_law_alike" f35 _ ["found", "due"] (spAlikeD K 2) := ⟨ok_alikeD F35 T g35 k35 b35 2, g35, k35, b35⟩
  have C_law_machine : Cal l.prog w K mg base CX0 2 "_law_machine" f36 _ ["row", "most", "fade"] (spLMa K) := ⟨ok_lmachine F36 T C_law_taken, g36, k36, b36⟩
  have C_law_program : Cal l.prog w K mg base CX0 3 "_law_program" f37 _ ["row", "cells", "most"] (spProg K) := ⟨ok_program F37 T C_law_taken C_law_pick, g37, k37, b37⟩
  have C_law_stands : Cal l.prog w K mg base CX0 1 "_law_stands" f38 _ ["program", "index"] (spStands K) := ⟨ok_stands F38 T, g38, k38, b38⟩
  have C_law_behind : Cal l.prog w K mg base CX0 1 "_law_behind" f39 _ ["machine", "lives", "word", "cell"] (spLBeh K) := ⟨ok_lbehind F39 T, g39, k39, b39⟩
  have C_law_run : Cal l.prog w K mg base CX0 2 "_law_run" f40 _ ["cells", "program", "inputs", "most", "machine"] (spLRun K) := ⟨ok_lrun F40 T C_law_stands C_law_behind, g40, k40, b40⟩
  have C_law_kept : Cal l.prog w K mg base CX0 2 "_law_kept" f41 _ ["row", "program", "cells"] (spLKe K) := ⟨ok_lkept F41 T C_law_taken, g41, k41, b41⟩
  exact ok_law F42 T C_law_taken C_law_pick C_law_machine C_law_program C_law_alike C_law_behind C_law_run C_law_kept C_behind_touch C_behind_touchX C_behind_set C_behind_setX C_behind_wait C_run_lasting C_run_lastingX C_run_fading C_run_fadingX T_BadMachine T_BadProgram B_BadLives B_BadCell
theorem walk {l : PySem.W.OpenLaw} {q : Program} {loose : List Str} {XP : (Str → Option Value) → Heap → Prop} {YP : World → Heap → Prop} {d : DefRec} {K : Params → PySem.W.Frag} (hn : l.most = some 63) (hdf : d.params.defaults = [])
    (hY : ∀ (w : World) (h : Heap), YP w h → (K w.params).In h)
    (F : ∀ (w : World) (mg : Str → Option Value) (fa : Addr) (h : Heap), (K w.params).In h → h.Ns mainGlobals mg → mg d.name = some (.ref fa) →
      ∃ fd : FuncData, (∀ (s : Shared) (u : Value), BindsTo s fd ⟨[u], []⟩ [("script", u)]) ∧ ∀ base : Heap, (K w.params).In base → base.Ns mainGlobals mg → FnOk l.prog w (K w.params) mg base CX0 7 fa fd ["script"] (spLaw (K w.params))) :
    PySem.W.WalkO q loose XP YP l.row.toRowW d [] (fun f vs => PySem.call f vs) :=
  L2.walk_of (n := 63) (k := 7) (x := "script") (CX := fun _ => CX0) (sp := fun w => spLaw (K w.params)) hn (by decide) hdf ⟨rfl, by decide, by decide⟩ hY F (fun _ _ a ns hl _ hS => ⟨a, ns, rfl, hS, fun _ => rfl⟩) fun _ _ _ _ _ z => z
end Fm
set_option Elab.async false
set_option linter.all false
set_option maxRecDepth 100000
open PySem PySem.W PyProof.Rows in
set_option maxRecDepth 100000 in
set_option maxHeartbeats 0 in
theorem PySem.Challenge.cw_fademill_k01_whole_runs_holds : PySem.Challenge.rw_fademill_k01_whole_runs.Holds := by
  w_on; o_law; k_head; (case hw => w_witness2)
  k_fill
  refine Fm.walk (l := PySem.Challenge.rw_fademill_k01_whole_runs) rfl rfl (fun w h Y => PySem.W.kIn_of Y) ?F
  case F =>
    intro w mg fa h KX G hmg
    refine' Fm.all_mk KX G hmg ?xg_Run ?xp_Run ?xh_Run ?xo_Run ?xs_Run ?xm_Run ?xk_Run ?xn_Run_program ?xn_Run_places ?xn_Run_at ?xn_Run_hand ?xn_Run_contents ?xn_Run_inputs ?xn_Run_asked ?xn_Run_said ?a0 ?l0 ?c0 ?k0 ?a1 ?l1 ?c1 ?k1 ?a2 ?l2 ?c2 ?k2 ?a3 ?l3 ?c3 ?k3 ?a4 ?l4 ?c4 ?k4 ?a5 ?l5 ?c5 ?k5 ?a6 ?l6 ?c6 ?k6 ?a7 ?l7 ?c7 ?k7 ?a8 ?l8 ?c8 ?k8 ?a9 ?l9 ?c9 ?k9 ?a10 ?l10 ?c10 ?k10 ?a11 ?l11 ?c11 ?k11 ?a12 ?l12 ?c12 ?k12 ?a13 ?l13 ?c13 ?k13 ?a14 ?l14 ?c14 ?k14 ?a15 ?l15 ?c15 ?k15 ?a16 ?l16 ?c16 ?k16 ?a17 ?l17 ?c17 ?k17 ?a18 ?l18 ?c18 ?k18 ?a19 ?l19 ?c19 ?k19 ?a20 ?l20 ?c20 ?k20 ?a21 ?l21 ?c21 ?k21 ?a22 ?l22 ?c22 ?k22 ?a23 ?l23 ?c23 ?k23 ?a24 ?i24 ?l24 ?c24 ?k24 ?a25 ?i25 ?l25 ?c25 ?k25 ?a26 ?i26 ?l26 ?c26 ?k26 ?a27 ?i27 ?l27 ?c27 ?k27 ?a28 ?i28 ?l28 ?c28 ?k28 ?a29 ?i29 ?l29 ?c29 ?k29 ?a30 ?l30 ?c30 ?k30 ?a31 ?l31 ?c31 ?k31 ?a32 ?l32 ?c32 ?k32 ?a33 ?l33 ?c33 ?k33 ?a34 ?l34 ?c34 ?k34 ?a35 ?l35 ?c35 ?k35 ?a36 ?l36 ?c36 ?k36 ?a37 ?l37 ?c37 ?k37 ?a38 ?l38 ?c38 ?k38 ?a39 ?l39 ?c39 ?k39 ?a40 ?l40 ?c40 ?k40 ?a41 ?l41 ?c41 ?k41 ?a42 ?l42 ?c42 ?k42 ?z_int ?z_len ?z_range ?z_isinstance ?z_bool ?z_tuple ?z_list ?z_str ?z_any ?z_sorted ?z_reversed ?z_enumerate ?z_all ?z_zip ?z_max ?z_min ?n_MOST_CELLS ?n_MOST_INSTRUCTIONS ?n_MILLION ?n_MOST_FADE ?n_MOST_KEPT ?n_MOST_INPUTS ?n_MOST_TICKS ?g_aA ?w_aA ?g_aC ?w_aC ?g_aP ?w_aP ?g_aR ?w_aR ?bl_g ?bl_k ?bl_q ?bl_ex ?bl_ty ?bl_c ?bl_s ?bc_g ?bc_k ?bc_q ?bc_ex ?bc_ty ?bc_c ?bc_s ?sp_zs ?sp_tp ?sp_top ?bp_g ?bp_l ?bp_bm ?bp_sup ?bp_mro ?bp_ve ?bp_sa ?bp_ga ?bp_gg ?bp_no ?bp_iC ?bp_tC ?bp_kC ?bp_ex ?bp_ty ?bp_hd ?bp_c ?bp_s ?bp_fn ?bp_cd ?bp_co ?bp_cv ?bp_fl ?bp_ce ?bm_g ?bm_l ?bm_bm ?bm_sup ?bm_mro ?bm_ve ?bm_sa ?bm_ga ?bm_gg ?bm_no ?bm_iC ?bm_tC ?bm_kC ?bm_ex ?bm_ty ?bm_hd ?bm_c ?bm_s ?bm_fn ?bm_cd ?bm_co ?bm_cv ?bm_fl ?bm_ce
    (case xg_Run => k_is)
    (case xp_Run => k_is)
    (case xh_Run => k_is)
    (case xo_Run => k_is)
    (case xs_Run => k_is)
    (case xm_Run => k_is)
    (case xk_Run => k_is)
    (case xn_Run_program => k_is)
    (case xn_Run_places => k_is)
    (case xn_Run_at => k_is)
    (case xn_Run_hand => k_is)
    (case xn_Run_contents => k_is)
    (case xn_Run_inputs => k_is)
    (case xn_Run_asked => k_is)
    (case xn_Run_said => k_is)
    (case a0 => k_is)
    (case l0 => k_is)
    (case c0 => k_is)
    (case k0 => k_is)
    (case a1 => k_is)
    (case l1 => k_is)
    (case c1 => k_is)
    (case k1 => k_is)
    (case a2 => k_is)
    (case l2 => k_is)
    (case c2 => k_is)
    (case k2 => k_is)
    (case a3 => k_is)
    (case l3 => k_is)
    (case c3 => k_is)
    (case k3 => k_is)
    (case a4 => k_is)
    (case l4 => k_is)
    (case c4 => k_is)
    (case k4 => k_is)
    (case a5 => k_is)
    (case l5 => k_is)
    (case c5 => k_is)
    (case k5 => k_is)
    (case a6 => k_is)
    (case l6 => k_is)
    (case c6 => k_is)
    (case k6 => k_is)
    (case a7 => k_is)
    (case l7 => k_is)
    (case c7 => k_is)
    (case k7 => k_is)
    (case a8 => k_is)
    (case l8 => k_is)
    (case c8 => k_is)
    (case k8 => k_is)
    (case a9 => k_is)
    (case l9 => k_is)
    (case c9 => k_is)
    (case k9 => k_is)
    (case a10 => k_is)
    (case l10 => k_is)
    (case c10 => k_is)
    (case k10 => k_is)
    (case a11 => k_is)
    (case l11 => k_is)
    (case c11 => k_is)
    (case k11 => k_is)
    (case a12 => k_is)
    (case l12 => k_is)
    (case c12 => k_is)
    (case k12 => k_is)
    (case a13 => k_is)
    (case l13 => k_is)
    (case c13 => k_is)
    (case k13 => k_is)
    (case a14 => k_is)
    (case l14 => k_is)
    (case c14 => k_is)
    (case k14 => k_is)
    (case a15 => k_is)
    (case l15 => k_is)
    (case c15 => k_is)
    (case k15 => k_is)
    (case a16 => k_is)
    (case l16 => k_is)
    (case c16 => k_is)
    (case k16 => k_is)
    (case a17 => k_is)
    (case l17 => k_is)
    (case c17 => k_is)
    (case k17 => k_is)
    (case a18 => k_is)
    (case l18 => k_is)
    (case c18 => k_is)
    (case k18 => k_is)
    (case a19 => k_is)
    (case l19 => k_is)
    (case c19 => k_is)
    (case k19 => k_is)
    (case a20 => k_is)
    (case l20 => k_is)
    (case c20 => k_is)
    (case k20 => k_is)
    (case a21 => k_is)
    (case l21 => k_is)
    (case c21 => k_is)
    (case k21 => k_is)
    (case a22 => k_is)
    (case l22 => k_is)
    (case c22 => k_is)
    (case k22 => k_is)
    (case a23 => k_is)
    (case l23 => k_is)
    (case c23 => k_is)
    (case k23 => k_is)
    (case a24 => k_is)
    (case i24 => k_is)
    (case l24 => k_is)
    (case c24 => k_is)
    (case k24 => k_is)
    (case a25 => k_is)
    (case i25 => k_is)
    (case l25 => k_is)
    (case c25 => k_is)
    (case k25 => k_is)
    (case a26 => k_is)
    (case i26 => k_is)
    (case l26 => k_is)
    (case c26 => k_is)
    (case k26 => k_is)
    (case a27 => k_is)
    (case i27 => k_is)
    (case l27 => k_is)
    (case c27 => k_is)
    (case k27 => k_is)
    (case a28 => k_is)
    (case i28 => k_is)
    (case l28 => k_is)
    (case c28 => k_is)
    (case k28 => k_is)
    (case a29 => k_is)
    (case i29 => k_is)
    (case l29 => k_is)
    (case c29 => k_is)
    (case k29 => k_is)
    (case a30 => k_is)
    (case l30 => k_is)
    (case c30 => k_is)
    (case k30 => k_is)
    (case a31 => k_is)
    (case l31 => k_is)
    (case c31 => k_is)
    (case k31 => k_is)
    (case a32 => k_is)
    (case l32 => k_is)
    (case c32 => k_is)
    (case k32 => k_is)
    (case a33 => k_is)
    (case l33 => k_is)
    (case c33 => k_is)
    (case k33 => k_is)
    (case a34 => k_is)
    (case l34 => k_is)
    (case c34 => k_is)
    (case k34 => k_is)
    (case a35 => k_is)
    (case l35 => k_is)
    (case c35 => k_is)
    (case k35 => k_is)
    (case a36 => k_is)
    (case l36 => k_is)
    (case c36 => k_is)
    (case k36 => k_is)
    (case a37 => k_is)
    (case l37 => k_is)
    (case c37 => k_is)
    (case k37 => k_is)
    (case a38 => k_is)
    (case l38 => k_is)
    (case c38 => k_is)
    (case k38 => k_is)
    (case a39 => k_is)
    (case l39 => k_is)
    (case c39 => k_is)
    (case k39 => k_is)
    (case a40 => k_is)
    (case l40 => k_is)
    (case c40 => k_is)
    (case k40 => k_is)
    (case a41 => k_is)
    (case l41 => k_is)
    (case c41 => k_is)
    (case k41 => k_is)
    (case a42 => k_is)
    (case l42 => k_is)
    (case c42 => k_is)
    (case k42 => k_is)
    (case z_int => k_is)
    (case z_len => k_is)
    (case z_range => k_is)
    (case z_isinstance => k_is)
    (case z_bool => k_is)
    (case z_tuple => k_is)
    (case z_list => k_is)
    (case z_str => k_is)
    (case z_any => k_is)
    (case z_sorted => k_is)
    (case z_reversed => k_is)
    (case z_enumerate => k_is)
    (case z_all => k_is)
    (case z_zip => k_is)
    (case z_max => k_is)
    (case z_min => k_is)
    (case n_MOST_CELLS => k_is)
    (case n_MOST_INSTRUCTIONS => k_is)
    (case n_MILLION => k_is)
    (case n_MOST_FADE => k_is)
    (case n_MOST_KEPT => k_is)
    (case n_MOST_INPUTS => k_is)
    (case n_MOST_TICKS => k_is)
    (case g_aA => k_is)
    (case w_aA => k_is)
    (case g_aC => k_is)
    (case w_aC => k_is)
    (case g_aP => k_is)
    (case w_aP => k_is)
    (case g_aR => k_is)
    (case w_aR => k_is)
    (case bl_g => k_is)
    (case bl_k => k_is)
    (case bl_q => k_exc)
    (case bl_ex => k_is)
    (case bl_ty => k_is)
    (case bl_c => k_is)
    (case bl_s => first | rfl | k_is)
    (case bc_g => k_is)
    (case bc_k => k_is)
    (case bc_q => k_exc)
    (case bc_ex => k_is)
    (case bc_ty => k_is)
    (case bc_c => k_is)
    (case bc_s => first | rfl | k_is)
    (case sp_zs => k_is)
    (case sp_tp => k_is)
    (case sp_top => kernel_rfl)
    (case bp_g => k_is)
    (case bp_l => k_is)
    (case bp_bm => kernel_rfl)
    (case bp_sup => ks_is)
    (case bp_mro => k_is)
    (case bp_ve => k_is)
    (case bp_sa => k_is)
    (case bp_ga => k_is)
    (case bp_gg => k_is)
    (case bp_no => k_is)
    (case bp_iC => k_is)
    (case bp_tC => k_is)
    (case bp_kC => k_is)
    (case bp_ex => k_is)
    (case bp_ty => k_is)
    (case bp_hd => k_is)
    (case bp_c => k_is)
    (case bp_s => first | rfl | k_is)
    (case bp_fn => k_is)
    (case bp_cd => k_is)
    (case bp_co => k_is)
    (case bp_cv => rfl)
    (case bp_fl => kernel_rfl)
    (case bp_ce => k_is)
    (case bm_g => k_is)
    (case bm_l => k_is)
    (case bm_bm => kernel_rfl)
    (case bm_sup => ks_is)
    (case bm_mro => k_is)
    (case bm_ve => k_is)
    (case bm_sa => k_is)
    (case bm_ga => k_is)
    (case bm_gg => k_is)
    (case bm_no => k_is)
    (case bm_iC => k_is)
    (case bm_tC => k_is)
    (case bm_kC => k_is)
    (case bm_ex => k_is)
    (case bm_ty => k_is)
    (case bm_hd => k_is)
    (case bm_c => k_is)
    (case bm_s => first | rfl | k_is)
    (case bm_fn => k_is)
    (case bm_cd => k_is)
    (case bm_co => k_is)
    (case bm_cv => rfl)
    (case bm_fl => kernel_rfl)
    (case bm_ce => k_is)
#print axioms PySem.Challenge.cw_fademill_k01_whole_runs_holds
