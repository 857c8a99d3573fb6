import PyProof.Rows.All
import KE.OsRunLaw
import Wide.All
import OpenK.AllK
import Wide.FinOn
import HandS.ForMost
import HandS.ForExc
import HandS.Steps
import HandS.IsInst
import HandS.TupMul
import HandS.RevRange
import HandS.DictComp
import HandS.FStr
import HandS.SortInts
import HandS.More
import HandS.Conv
import HandS.ListEq
import HandS.Dict
import HandS.Evl
import HandS.Iter
import HandS.TupLen
import HandS.DictTup
import HandS.Deep
import KE.KDictKeyed
import HandS.Walk
import HandS.Zip
import KE.GoesMore
import PySem.Challenge.RW_fademill_k08_whole_rounds
import KE.GoesEnum
import HandS.Style
import HandS.TupAny
import HandS.Strs
import KE.DatumOrd
import KE.KDictWalk
import HandS.Gcd
import HandS.TupSets
import KE.SortData
import KE.DataCmp
import KE.DataMinMax
import HandS.SortKw
import HandS.ListItems
import HandS.Sort
import HandS.Comp
import HandS.SetKeys
import KE.KDictSum
import KE.KDictDisplayH
import HandS.RaiseMore
import HandS.SetFor
import HandS.TupLe
set_option Elab.async false
set_option linter.all false
set_option maxRecDepth 100000
set_option maxHeartbeats 1000000
namespace Fm
open PySem L2
theorem st_if {c : TT} {t1 t2 : TS} {D : Ends} {σ : L2.St} {H : Hp} {b : Bool} (h : Ans c σ H b) (y : b = true → t1 D σ H) (n : b = false → t2 D σ H) : tIfS c t1 t2 D σ H := by
  cases b with
  | true => exact st_yes h (y rfl)
  | false => exact st_no h (n rfl)
theorem val_ixL {K : PySem.W.Frag} {ta tb : TE} {σ : L2.St} {H : Hp} {p : Addr} {xs : List V} {i : Int} {v : V} (ha : Val ta σ H (.ref p)) (hb : Val tb σ H (.int i)) (h : SqL K H p xs) (e : atI xs i = some v) : Val (tOp (rIx K) ta tb) σ H v :=
  val_op ha hb fun _ q => .inl ⟨p, xs, i, v, rfl, rfl, h, e, q⟩
theorem val_i0 {g : Int → Int → V} {ta tb : TE} {σ : L2.St} {H : Hp} {i j : Int} (ha : Val ta σ H (.int i)) (hb : Val tb σ H (.int j)) : Val (tOp (rI0 g) ta tb) σ H (g i j) := val_op ha hb fun _ q => ⟨i, j, rfl, rfl, q⟩
theorem val_i {C : Int → Int → Prop} {g : Int → Int → V} {ta tb : TE} {σ : L2.St} {H : Hp} {i j : Int} (ha : Val ta σ H (.int i)) (hb : Val tb σ H (.int j)) (c : C i j) : Val (tOp (rI C g) ta tb) σ H (g i j) := val_op ha hb fun _ q => ⟨i, j, rfl, rfl, c, q⟩
theorem ans_i0 {g : Int → Int → Bool} {ta tb : TE} {σ : L2.St} {H : Hp} {i j : Int} (ha : Val ta σ H (.int i)) (hb : Val tb σ H (.int j)) : Ans (tTest (tOp (rI0 fun i j => .bl (g i j)) ta tb)) σ H (g i j) := fun _ q => ha _ (hb _ ⟨i, j, rfl, rfl, _, rfl, q⟩)
theorem st_asg {te : TE} {i : Nat} {v : V} {t2 : TS} {D : Ends} {σ : L2.St} {H : Hp} (h : Val te σ H v) (q : t2 D (σ.set i (some v)) H) : tSeq (tAsg te (gName i)) t2 D σ H := h _ q
theorem st_setL {te to ti : TE} {t2 : TS} {D : Ends} {σ : L2.St} {H : Hp} {v : V} {l : Addr} {xs : List V} {k : Int} {j : Nat} (h : Val te σ H v) (ho : Val to σ H (.ref l)) (hi : Val ti σ H (.int k)) (hl : H l = some (.lst xs)) (hj : ixN xs.length k = some j)
    (q : t2 D σ (upd H l (.lst (xs.set j v)))) : tSeq (tAsg te (gSub to ti rSetL)) t2 D σ H := h _ (ho _ (hi _ ⟨l, xs, k, j, rfl, rfl, hl, hj, q⟩))
theorem st_setL1 {te to ti : TE} {D : Ends} {σ : L2.St} {H : Hp} {v : V} {l : Addr} {xs : List V} {k : Int} {j : Nat} (h : Val te σ H v) (ho : Val to σ H (.ref l)) (hi : Val ti σ H (.int k)) (hl : H l = some (.lst xs)) (hj : ixN xs.length k = some j)
    (q : D.nx σ (upd H l (.lst (xs.set j v)))) : tAsg te (gSub to ti rSetL) D σ H := h _ (ho _ (hi _ ⟨l, xs, k, j, rfl, rfl, hl, hj, q⟩))
theorem val_int1 {ta : TE} {σ : L2.St} {H : Hp} {i : Int} (ha : Val ta σ H (.int i)) : Val (tCB (fun xs H Q => (∃ i, xs = [.int i] ∧ Q (.int i) H) ∨ ∃ k, xs = [.bl k] ∧ Q (.int (if k then 1 else 0)) H) (tCons ta tNil)) σ H (.int i) := fun _ q => ha _ (.inl ⟨i, rfl, q⟩)
theorem val_lenX {K : PySem.W.Frag} {ta : TE} {σ : L2.St} {H : Hp} {x : V} {n : Nat} (ha : Val ta σ H x) (h : LenV K x H n) : Val (tCB (fun xs H Q => ∃ x n, xs = [x] ∧ LenV K x H n ∧ Q (.int n) H) (tCons ta tNil)) σ H (.int n) := fun _ q => ha _ ⟨x, n, rfl, h, q⟩
end Fm
namespace Fm
open PySem L2
section
variable {X : Cx} {K : PySem.W.Frag}
theorem ix_K (h : X.K = K) : IxR X (rIx K) := h ▸ ix_seq
theorem len_K (h : X.K = K) : CallR X (.builtin "len") (fun xs H Q => ∃ x n, xs = [x] ∧ LenV K x H n ∧ Q (.int n) H) := h ▸ call_len
theorem isi_K (h : X.K = K) : CallR X (.builtin "isinstance") (rIsi K) := h ▸ call_isi
theorem tpl_K (h : X.K = K) : CallR X (.type "tuple") (fun xs H Q => ∃ p ys, xs = [.ref p] ∧ ((SqL K H p ys ∧ ∀ l, H l = none → Q (.ref l) (upd H l (.tup ys))) ∨ (SqT K H p ys ∧ Q (.ref p) H))) := h ▸ call_tuple_of
theorem any_K (h : X.K = K) (hc : X.calm = true) : CallR X (.builtin "any") (rAny K) := h ▸ cr_any hc
theorem all_K (h : X.K = K) (hc : X.calm = true) : CallR X (.builtin "all") (rAll K) := h ▸ cr_all hc
theorem in_K (h : X.K = K) : OpR X (compareOp .In) (rIn K false) := h ▸ op_in_seq
theorem eqD_K (h : X.K = K) (hu : X.A.units + 64 < cLine) : OpR X (compareOp .Eq) (rEqD K) := h ▸ op_eqD hu
theorem neD_K (h : X.K = K) (hu : X.A.units + 64 < cLine) : OpR X (compareOp .NotEq) (rNeD K) := h ▸ op_neD hu
theorem max_K (h : X.K = K) (hc : X.calm = true) : CallR X (.builtin "max") (rMax K) := h ▸ (cr_max hc)
theorem sum_K (h : X.K = K) (hc : X.calm = true) : CallR X (.builtin "sum") (rSum K) := h ▸ (cr_sum hc)
theorem sll_K (h : X.K = K) : SlR X (rSlL K) := h ▸ sl_list
theorem pi_listK {tg l : Expr} {tl : TE} (h : X.K = K) (hl : PE X l tl) : PI X tg l (iList K tl) := h ▸ pi_list hl
theorem pi_tupK {tg l : Expr} {tl : TE} (h : X.K = K) (hl : PE X l tl) : PI X tg l (iTup K tl) := h ▸ pi_tup hl
theorem pt_truthK {a : Expr} {ta : TE} (h : X.K = K) (ha : PE X a ta) (he : ∀ whole, isTrue a X.env whole = (do let v ← whole; standAt a.pos; holding [v] (truthy v))) : PT X a (fun σ H Q => ta σ H fun x H' => ∃ k, TruV K x H' k ∧ Q k H') := h ▸ pt_truth ha he
end
end Fm
set_option maxHeartbeats 1000000
namespace Fm
open PySem PySem.W PySem.Calls PyProof.Rows PySem.Spec L2 Evl
inductive NK (H : Hp) : V → NestedKey → Prop
  | non : NK H .non .none
  | int (i : Int) : NK H (.int i) (.num i)
  | str (x : Str) : NK H (.str x) (.text x)
  | tup {b : Addr} {xs : List V} {ks : List NestedKey} (h : H b = some (.tup xs)) (h2 : Paired (NK H) xs ks) : NK H (.ref b) (.tup ks)
mutual
theorem NK.up {H H' : Hp} (e : ∀ b ys, H b = some (.tup ys) → H' b = some (.tup ys)) : ∀ {v : V} {k : NestedKey}, NK H v k → NK H' v k
  | _, _, .non => .non
  | _, _, .int i => .int i
  | _, _, .str x => .str x
  | _, _, .tup h h2 => .tup (e _ _ h) (NKs.up e h2)
theorem NKs.up {H H' : Hp} (e : ∀ b ys, H b = some (.tup ys) → H' b = some (.tup ys)) : ∀ {xs : List V} {ks : List NestedKey}, Paired (NK H) xs ks → Paired (NK H') xs ks
  | _, _, .nil => .nil
  | _, _, .cons h t => .cons (NK.up e h) (NKs.up e t)
end
mutual
theorem nk_is {P : Program} {w : World} {H : Hp} {h : Heap} (ok : HOk P w H h) : ∀ {v : V} {k : NestedKey} {u : Value}, NK H v k → RelV v u → NestedIs h k u
  | _, _, _, .non, r => by cases (show _ = Value.none from r); exact .none
  | _, _, _, .int i, r => by obtain ⟨t, e⟩ := (show ∃ t, _ = Value.int i t from r); subst e; exact .int i t
  | _, _, _, .str x, r => by obtain ⟨t, e⟩ := (show ∃ t, _ = Value.str x t from r); subst e; exact .text x t
  | _, _, _, .tup (b := b) (xs := xs) hb h2, r => by
    cases (show _ = Value.ref b from r)
    obtain ⟨_, its, ra, o, h1, hc, n, hd⟩ := (show ObjOk P w H h b (.tup xs) from ok b _ hb)
    exact .tup h1 hc hd (by simpa using nks_are ok h2 ra)
theorem nks_are {P : Program} {w : World} {H : Hp} {h : Heap} (ok : HOk P w H h) : ∀ {xs : List V} {ks : List NestedKey} {us : List Value}, Paired (NK H) xs ks → Vals xs us → NestedAll h ks us
  | _, _, _, .nil, .nil => .nil
  | _, _, _, .cons h t, .cons r rt => .cons (nk_is ok h r) (nks_are ok t rt)
end
abbrev NRaw := List (NestedKey × Addr × Value)
def NDO (P : Program) (w : World) (d : Addr) (xs : NRaw) : HO := .ext fun h => (d == sysModules) = false ∧ ∃ o es ep, h.get? d = some o ∧ o.ExactDict ∧ o.data = .dict es ep ∧ es.toList = xs.map (entryOfKey (nestedKind P w)) ∧ (xs.map (·.1)).Nodup
abbrev NT (H : Hp) : List (NestedKey × V) → NRaw → Prop := Paired fun p q => p.1 = q.1 ∧ (NK H (.ref q.2.1) p.1 ∧ p.1.depth ≤ 8) ∧ RelV p.2 q.2.2
def ND (P : Program) (w : World) (H : Hp) (d : Addr) (kvs : List (NestedKey × V)) : Prop := ∃ xs : NRaw, H d = some (NDO P w d xs) ∧ kvs.length ≤ sizeLine ∧ NT H kvs xs
def NDR (P : Program) (w : World) (H : Hp) (d : Addr) (kvs : List (NestedKey × V)) : Prop := ∃ xs : NRaw, Rd H d (NDO P w d xs) ∧ kvs.length ≤ sizeLine ∧ NT H kvs xs
theorem ND.r {P : Program} {w : World} {H : Hp} {d : Addr} {kvs : List (NestedKey × V)} (h : ND P w H d kvs) : NDR P w H d kvs := let ⟨xs, h1, h2, h3⟩ := h; ⟨xs, .inl h1, h2, h3⟩
theorem NT.val {H : Hp} {kvs : List (NestedKey × V)} {xs : NRaw} (r : NT H kvs xs) (k : NestedKey) : RelO (valV kvs k) ((atKey xs k).map (·.2)) := by
  induction r with
  | nil => exact True.intro
  | @cons p q ps qs h t ih =>
    obtain ⟨h1, _, h2⟩ := h
    by_cases e : p.1 = k
    · have e' : q.1 = k := h1.symm.trans e
      have b : atKey (q :: qs) k = some q.2 := by simp [atKey, List.find?_cons, e']
      rw [valV_pos e, b]; exact h2
    · have e' : ¬ q.1 = k := fun z => e (h1.trans z)
      have b : atKey (q :: qs) k = atKey qs k := by simp [atKey, List.find?_cons, e']
      rw [valV_neg e, b]; exact ih
theorem NT.repl {H : Hp} {kvs : List (NestedKey × V)} {xs : NRaw} (r : NT H kvs xs) (k : NestedKey) {y : V} {u : Value} (ry : RelV y u) :
    NT H (kvs.map fun kv => if kv.1 = k then (kv.1, y) else kv) (xs.map (putAt k u)) := by
  induction r with
  | nil => exact .nil
  | @cons p q ps qs h t ih =>
    rw [List.map_cons, List.map_cons]
    refine .cons ?_ ih
    obtain ⟨h1, h2, h3⟩ := h
    unfold putAt
    by_cases e : p.1 = k
    · rw [if_pos e, if_pos (h1.symm.trans e)]; exact ⟨h1, h2, ry⟩
    · rw [if_neg e, if_neg (fun z => e (h1.trans z))]; exact ⟨h1, h2, h3⟩
theorem NT.put {H : Hp} {kvs : List (NestedKey × V)} {xs : NRaw} (r : NT H kvs xs) (k : NestedKey) {b : Addr} {y : V} {u : Value} (hb : NK H (.ref b) k ∧ k.depth ≤ 8) (ry : RelV y u) :
    NT H (putK kvs k y) (storedH xs k b u) := by
  have e : (kvs.any fun kv => decide (kv.1 = k)) = (atKey xs k).isSome := by
    rw [valV_any, (r.val k).isSome_eq, Option.isSome_map]
  unfold putK storedH
  rw [e]
  by_cases q : (atKey xs k).isSome = true
  · rw [if_pos q, if_pos q]; exact r.repl k ry
  · rw [if_neg q, if_neg q]; exact Paired.snoc r ⟨rfl, hb, ry⟩
theorem NT.up {H H' : Hp} {kvs : List (NestedKey × V)} {xs : NRaw} (r : NT H kvs xs) (e : ∀ b ys, H b = some (.tup ys) → H' b = some (.tup ys)) : NT H' kvs xs :=
  Paired.mapP r fun _ _ z => ⟨z.1, ⟨z.2.1.1.up e, z.2.1.2⟩, z.2.2⟩
theorem NT.all {P : Program} {w : World} {H : Hp} {h : Heap} (ok : HOk P w H h) : ∀ {kvs : List (NestedKey × V)} {xs : NRaw}, NT H kvs xs → ∀ x ∈ xs, (nestedKind P w).is h x.1 x.2.1
  | _, _, .nil, x, hx => nomatch hx
  | _, _, .cons h t, x, hx => by
    rcases List.mem_cons.mp hx with rfl | hx
    · rw [← h.1]
      exact ⟨nk_is ok h.2.1.1 rfl, h.2.1.2⟩
    · exact NT.all ok t x hx
theorem ND.up {P : Program} {w : World} {H H' : Hp} {d : Addr} {kvs : List (NestedKey × V)} (e : Ex H H') (h : ND P w H d kvs) : ND P w H' d kvs := let ⟨xs, h1, h2, h3⟩ := h; ⟨xs, e _ _ h1, h2, h3.up fun b ys => e b _⟩
theorem NDR.up {P : Program} {w : World} {H H' : Hp} {d : Addr} {kvs : List (NestedKey × V)} (e : Ex H H') (h : NDR P w H d kvs) : NDR P w H' d kvs := let ⟨xs, h1, h2, h3⟩ := h; ⟨xs, ex_rd e h1, h2, h3.up fun b ys => e b _⟩
theorem ND.upd {P : Program} {w : World} {H : Hp} {d b : Addr} {o u : HO} {kvs : List (NestedKey × V)} (hb : H b = some u) (hu : ∀ ys, u ≠ .tup ys) (hbd : b ≠ d) (h : ND P w H d kvs) : ND P w (upd H b o) d kvs := let ⟨xs, h1, h2, h3⟩ := h; ⟨xs, by rw [upd_ne hbd.symm]; exact h1, h2, h3.up fun c ys hc => by
  rw [upd_ne fun z => hu ys (by rw [z, hb] at hc; exact Option.some.inj hc)]
  exact hc⟩
section
variable {X : Cx} {pins : List (Addr × Obj)} {σ : L2.St} {H : Hp} {s : Shared} {d : Addr} {y v : V} {u r : Value} {A : Around} {E : Value → Shared → Prop} {kvs : List (NestedKey × V)} {k : NestedKey}
theorem nd_of (I : Inv X pins σ H s) (h : NDR X.prog X.w H d kvs) : (d == sysModules) = false ∧ ∃ xs : NRaw, kvs.length ≤ sizeLine ∧ NT H kvs xs ∧ s.heap.DictOfH (nestedKind X.prog X.w) d xs := by
  obtain ⟨xs, h1, h2, h3⟩ := h
  obtain ⟨⟨hd, o, es, ep, a1, a2, a3, a4, a5⟩, _⟩ := (show ObjOk X.prog X.w H s.heap d (NDO X.prog X.w d xs) from h1.ok I.hok)
  exact ⟨hd, xs, h2, h3, o, es, ep, a1, a2, a3, a4, NT.all I.hok h3, a5⟩
theorem ndo_ok {P : Program} {w : World} {H : Hp} {h : Heap} {xs : NRaw} (hd : (d == sysModules) = false) (x : h.DictOfH (nestedKind P w) d xs) : ObjOk P w H h d (NDO P w d xs) := by
  obtain ⟨o, es, ep, a1, a2, a3, a4, _, a5⟩ := x
  exact ⟨⟨hd, o, es, ep, a1, a2, a3, a4, a5⟩, ⟨o, a1⟩, fun h1 h2 ⟨hd, o, es, ep, b1, b2, b3, b4, b5⟩ k => ⟨hd, o, es, ep, k o b1, b2, b3, b4, b5⟩⟩
theorem nd_getItem {Q : Value → Shared → Prop} (hu : A.units + 64 < cLine) (I : Inv X pins σ H s) (g : NDR X.prog X.w H d kvs) (hk : NK H y k) (hdp : k.depth ≤ 8) (ht : ∃ b, y = .ref b) (l : valV kvs k = some v) (ry : RelV y u) (h : ∀ w' s', Inv X pins σ H s' → RelV v w' → Q w' s') :
    wpAny (model X.prog X.w) A (getItem (.ref d) u) Q E s := by
  obtain ⟨b, rfl⟩ := ht
  cases (show u = Value.ref b from ry)
  obtain ⟨hd, xs, z, rel, dd⟩ := nd_of I g
  obtain ⟨w', hw, rw'⟩ := RelO.some_of (v := v) (o := (atKey xs k).map (·.2)) (by rw [← l]; exact rel.val k)
  obtain ⟨p, hp, hp2⟩ := Option.map_eq_some_iff.mp hw
  refine wpAny_getItem_heap (knd := nestedKind X.prog X.w) (by show A.units + 1 + 8 < cLine; omega) ⟨nk_is I.hok hk rfl, hdp⟩ dd hp ?_
  rw [hp2]
  exact h w' _ (I.tok _) rw'
theorem nd_in {Q : Value → Shared → Prop} (hu : A.units + 64 < cLine) (I : Inv X pins σ H s) (g : NDR X.prog X.w H d kvs) (hk : NK H y k) (hdp : k.depth ≤ 8) (ht : ∃ b, y = .ref b) (ry : RelV y u) (h : ∀ s', Inv X pins σ H s' → Q (.bool (valV kvs k).isSome) s') :
    wpAny (model X.prog X.w) A (compareOp .In u (.ref d)) Q E s := by
  obtain ⟨b, rfl⟩ := ht
  cases (show u = Value.ref b from ry)
  obtain ⟨hd, xs, z, rel, dd⟩ := nd_of I g
  refine wpAny_in_heap (knd := nestedKind X.prog X.w) (by show A.units + 1 + 8 < cLine; omega) ⟨nk_is I.hok hk rfl, hdp⟩ hd dd ?_
  have q := (rel.val k).isSome_eq
  rw [Option.isSome_map] at q
  rw [← q]
  exact h _ (I.tok _)
theorem nd_notIn {Q : Value → Shared → Prop} (hu : A.units + 64 < cLine) (I : Inv X pins σ H s) (g : NDR X.prog X.w H d kvs) (hk : NK H y k) (hdp : k.depth ≤ 8) (ht : ∃ b, y = .ref b) (ry : RelV y u) (h : ∀ s', Inv X pins σ H s' → Q (.bool (!(valV kvs k).isSome)) s') :
    wpAny (model X.prog X.w) A (compareOp .NotIn u (.ref d)) Q E s := by
  obtain ⟨b, rfl⟩ := ht
  cases (show u = Value.ref b from ry)
  obtain ⟨hd, xs, z, rel, dd⟩ := nd_of I g
  refine wpAny_notIn_heap (knd := nestedKind X.prog X.w) (by show A.units + 1 + 8 < cLine; omega) ⟨nk_is I.hok hk rfl, hdp⟩ hd dd ?_
  have q := (rel.val k).isSome_eq
  rw [Option.isSome_map] at q
  rw [← q]
  exact h _ (I.tok _)
theorem nd_setItem {Q : Unit → Shared → Prop} (hu : A.units + 64 < cLine) (I : Inv X pins σ H s) (g : ND X.prog X.w H d kvs) (hk : NK H y k) (hdp : k.depth ≤ 8) (ht : ∃ b, y = .ref b) (hl : kvs.length < sizeLine) (ry : RelV y u) (rv : RelV v r)
    (h : ∀ xs' s', Inv X pins σ (upd H d (NDO X.prog X.w d xs')) s' → ND X.prog X.w (upd H d (NDO X.prog X.w d xs')) d (putK kvs k v) → Q () s') : wpAny (model X.prog X.w) A (setItem (.ref d) u r) Q E s := by
  obtain ⟨b, rfl⟩ := ht
  cases (show u = Value.ref b from ry)
  obtain ⟨xs, h1, z, rel⟩ := g
  obtain ⟨⟨hd, o, es, ep, a1, a2, a3, a4, a5⟩, _⟩ := (show ObjOk X.prog X.w H s.heap d (NDO X.prog X.w d xs) from I.hok d _ h1)
  have dd : s.heap.DictOfH (nestedKind X.prog X.w) d xs := ⟨o, es, ep, a1, a2, a3, a4, NT.all I.hok rel, a5⟩
  have hz : xs.length ≤ sizeLine := by rw [← Paired.length rel]; exact z
  have hl' : (putK kvs k v).length ≤ sizeLine := by have := length_putK kvs k v; omega
  have keep : ∀ (xs' : NRaw) (c : Addr) (ys : List V), H c = some (.tup ys) → upd H d (NDO X.prog X.w d xs') c = some (.tup ys) := fun xs' c ys hc => by
    rw [upd_ne fun zz => by rw [zz, h1] at hc; cases hc]
    exact hc
  refine wpAny_setItem_heap (knd := nestedKind X.prog X.w) (hsz := hz) (by show A.units + 1 + 8 < cLine; omega) ⟨nk_is I.hok hk rfl, hdp⟩ dd fun h' dd' hs => ?_
  have he : ∃ q, h'.get? d = some q := let ⟨q, _, _, hq, _⟩ := dd'; ⟨q, hq⟩
  refine h (storedH xs k b r) _ (d_write (t' := s.toks + (nestedKind X.prog X.w).draws k) I (by rw [h1]; exact True.intro) hs he (ndo_ok hd dd')) ⟨_, upd_same, hl', (rel.put k ⟨hk, hdp⟩ rv).up (keep _)⟩
theorem nd_new (I : Inv X pins σ H s) : ∃ s' : Shared, s' = { s with heap := s.heap.push { cls := .type "dict", data := .dict #[] } } ∧ Inv X pins σ (upd H s.heap.objs.size (NDO X.prog X.w s.heap.objs.size [])) s' :=
  ⟨_, rfl, I.laid (a := s.heap.objs.size) (o := NDO X.prog X.w s.heap.objs.size []) (t' := s.toks) (fun _ _ q => Heap.get?_push_of_some _ q) (Nat.le_refl _) (ndo_ok (beq_eq_false_iff_ne.mpr (Ne.symm (Nat.ne_of_lt I.big))) (Heap.DictOfH.new s.heap))⟩
end
def NGet (P : Program) (w : World) (H : Hp) (d : Addr) (y : V) (o : Option V) : Prop := ∃ kvs k, NDR P w H d kvs ∧ NK H y k ∧ k.depth ≤ 8 ∧ (∃ b, y = .ref b) ∧ o = valV kvs k
def tNNew (P : Program) (w : World) : TE := fun _ H Q => ∀ p, H p = none → Q (.ref p) (upd H p (NDO P w p []))
def tNGet (P : Program) (w : World) (td ty : TE) : TE := fun σ H Q => td σ H fun x H1 => ty σ H1 fun y H2 => ∃ a v, x = .ref a ∧ NGet P w H2 a y (some v) ∧ Q v H2
def tNIn (P : Program) (w : World) (ty td : TE) : TE := fun σ H Q => ty σ H fun y H1 => td σ H1 fun x H2 => ∃ a o, x = .ref a ∧ NGet P w H2 a y o ∧ Q (.bl o.isSome) H2
def tNNotIn (P : Program) (w : World) (ty td : TE) : TE := fun σ H Q => ty σ H fun y H1 => td σ H1 fun x H2 => ∃ a o, x = .ref a ∧ NGet P w H2 a y o ∧ Q (.bl (!o.isSome)) H2
def sNPut (P : Program) (w : World) (td ty tv : TE) : TS := fun D σ H => tv σ H fun v H1 => td σ H1 fun x H2 => ty σ H2 fun y H3 => ∃ a kvs k, x = .ref a ∧ ND P w H3 a kvs ∧ NK H3 y k ∧ k.depth ≤ 8 ∧ (∃ b, y = .ref b) ∧ kvs.length < sizeLine ∧ ∀ xs', ND P w (upd H3 a (NDO P w a xs')) a (putK kvs k v) → D.nx σ (upd H3 a (NDO P w a xs'))
section
variable {X : Cx} {o i e value : Expr} {pos pos' tpos : Pos} {td ty tv : TE}
theorem pe_nnew : PE X (.Dict [] [] pos) (tNNew X.prog X.w) := ⟨fun pins s σ H Q I h => by
  obtain ⟨s', rfl, I'⟩ := nd_new I
  exact wpAny_Dict_empty ⟨.ref s.heap.objs.size, _, I', rfl, h _ (I.hok.fresh (Nat.le_refl _))⟩⟩
theorem nd_typeIs {pins : List (Addr × Obj)} {σ : L2.St} {H : Hp} {s : Shared} {a : Addr} {kvs : List (NestedKey × V)} (I : Inv X pins σ H s) (g : NDR X.prog X.w H a kvs) : s.TypeIs (.ref a) "dict" := by
  obtain ⟨_, xs, _, _, dd⟩ := nd_of I g
  exact dd.typeIs
theorem pe_nget (hu : X.A.units + 64 < cLine) (ho : PE X o td) (hi : PE X i ty) (hs : NoSl i) : PE X (.Subscript o i pos) (tNGet X.prog X.w td ty) := by
  refine ⟨fun pins s σ H Q I h => ?_⟩
  refine subD_of PySem.F.slot_dict_getitem.lookup hs (thn (ho.run pins s σ H _ I h) fun u s1 ⟨x, H1, I1, rx, q1⟩ => thn (hi.run pins s1 σ H1 _ I1 q1) fun iv s2 ⟨y, H2, I2, ry, a, v, ex, ⟨kvs, k, g, hk, hdp, ht, l⟩, q2⟩ => ?_)
  subst ex
  obtain rfl : u = Value.ref a := rx
  exact ⟨nd_typeIs I2 g, nd_getItem hu I2 g hk hdp ht l.symm ry fun w' s3 I3 rw' => ⟨v, H2, I3, rw', q2⟩⟩
theorem pc_nin (hu : X.A.units + 64 < cLine) (hi : PE X i ty) (ho : PE X o td) : PC X .In i o (tNIn X.prog X.w ty td) := by
  refine ⟨fun pins s σ H Q I h => ?_⟩
  refine thn (hi.run pins s σ H _ I h) fun iv s1 ⟨y, H1, I1, ry, q1⟩ => thn (ho.run pins s1 σ H1 _ I1 q1) fun u s2 ⟨x, H2, I2, rx, a, ov, ex, ⟨kvs, k, g, hk, hdp, ht, l⟩, q2⟩ => ?_
  subst ex l
  obtain rfl : u = Value.ref a := rx
  exact nd_in hu I2 g hk hdp ht ry fun s3 I3 => ⟨.bl _, H2, I3, rfl, q2⟩
theorem pc_nnotin (hu : X.A.units + 64 < cLine) (hi : PE X i ty) (ho : PE X o td) : PC X .NotIn i o (tNNotIn X.prog X.w ty td) := by
  refine ⟨fun pins s σ H Q I h => ?_⟩
  refine thn (hi.run pins s σ H _ I h) fun iv s1 ⟨y, H1, I1, ry, q1⟩ => thn (ho.run pins s1 σ H1 _ I1 q1) fun u s2 ⟨x, H2, I2, rx, a, ov, ex, ⟨kvs, k, g, hk, hdp, ht, l⟩, q2⟩ => ?_
  subst ex l
  obtain rfl : u = Value.ref a := rx
  exact nd_notIn hu I2 g hk hdp ht ry fun s3 I3 => ⟨.bl _, H2, I3, rfl, q2⟩
theorem ps_nput (hu : X.A.units + 64 < cLine) (ho : PE X o td) (hi : PE X i ty) (hv : PE X value tv) (hs : swapsWith value (some (.Subscript o i pos')) pos.line X.env = pure false) :
    PS X (.Assign [.Subscript o i pos'] value pos) (sNPut X.prog X.w td ty tv) := by
  refine ⟨fun pins s σ H D I h => ?_⟩
  refine wpAny_Assign_Subscript (thn (hv.run pins s σ H _ I h) fun r s1 ⟨v, H1, I1, rv, q1⟩ => thn (ho.run pins s1 σ H1 _ I1 q1) fun u s2 ⟨x, H2, I2, rx, q2⟩ => thn (hi.run pins s2 σ H2 _ I2 q2) fun iv s3 ⟨y, H3, I3, ry, a, kvs, k, ex, g, hk, hdp, ht, hl, q3⟩ => ?_) hs
  subst ex
  obtain rfl : u = Value.ref a := rx
  exact nd_setItem hu I3 g hk hdp ht hl ry rv fun xs' s4 I4 g4 => ⟨σ, _, I4, q3 xs' g4⟩
end
def Itn (P : Program) (w : World) (d : Addr) (o : Obj) (xs : NRaw) : It :=
  ⟨fun i H => H d = some (.frz o (NDO P w d xs)) ∧ i < xs.length, fun i H x H' => H' = H ∧ ∃ e, xs[i]? = some e ∧ x = .ref e.2.1, fun i H => H d = some (.frz o (NDO P w d xs)) ∧ xs.length ≤ i⟩
theorem frzN {X : Cx} {pins : List (Addr × Obj)} {σ : L2.St} {H : Hp} {s : Shared} {d : Addr} {o : Obj} {xs : NRaw} (I : Inv X pins σ H s) (h : H d = some (.frz o (NDO X.prog X.w d xs))) :
    (d == sysModules) = false ∧ s.heap.get? d = some o ∧ o.ExactDict ∧ ∃ (es : Array DictEntry) (ep : Nat), o.data = .dict es ep ∧ es.size = xs.length ∧ ∀ (i : Nat) e, xs[i]? = some e → ∃ en : DictEntry, es[i]? = some en ∧ en.key = .ref e.2.1 := by
  obtain ⟨hd, ⟨hs, o', es, ep, ho, hx, hdt, he, _⟩, _⟩ := (show ObjOk X.prog X.w H s.heap d (.frz o (NDO X.prog X.w d xs)) from I.hok d _ h)
  rw [hd] at ho
  cases ho
  refine ⟨hs, hd, hx, es, ep, hdt, size_of_entries he, fun i e hi => ?_⟩
  have q := entry_at he i
  rw [hi] at q
  exact ⟨_, q, rfl⟩
theorem turn_keysN {P : Program} {w : World} {K : PySem.W.Frag} {tg : Expr} {d : Addr} {o : Obj} {es : Array DictEntry} {ep : Nat} {xs : NRaw} (it : Addr) (hod : o.data = .dict es ep) : Turn P w K tg (Itn P w d o xs) [it] it (fun i h => h.IsKeyIter it d i xs.length ep) where
  mem := by simp
  obj := fun i h st b hb => by
    have e : b = it := by simpa using hb
    subst e
    obtain ⟨oi, e, c, dd⟩ := st
    exact ⟨oi, e, fun v z => by rw [dd] at z; cases z⟩
  keep := fun i h h' st k => st.at fun oi e => k it (by simp) oi e
  item := by
    intro X hP hw hK hc i pins s σ H E I hf st hg
    subst hP hw hK
    obtain ⟨hd, hi⟩ := hg
    obtain ⟨f0, f1, f2, f3, f4, f5⟩ := hf it (by simp)
    obtain ⟨hs, hgd, hx, es', ep', hdt, hsz, ent⟩ := frzN I hd
    obtain ⟨rfl, rfl⟩ := dict_ep hod hdt
    obtain ⟨e0, he0⟩ : ∃ p, xs[i]? = some p := ⟨xs[i], List.getElem?_eq_getElem hi⟩
    obtain ⟨en, hen, hkey⟩ := ent i e0 he0
    refine next_key_item st hgd hdt hsz hen fun h' st' sb => ?_
    have I1 : Inv X pins σ H { s with heap := h' } := I.turned (t' := s.toks) (fun b ob hb e => (sb.2 b hb).trans e) f0 f1 f3 f4 f5
    obtain ⟨oi, e, c, dd⟩ := id st'
    exact ⟨en.key, rfl, go_of (s := { s with heap := h' }) e c dd (by decide) ⟨.ref e0.2.1, H, I1, hkey, ⟨rfl, e0, he0, rfl⟩, st', fun b hb => (hf b hb).1⟩⟩
  done := by
    intro X hP hw hK hc i pins s σ H E I hf st hg
    subst hP hw hK
    obtain ⟨hd, hi⟩ := hg
    obtain ⟨f0, f1, f2, f3, f4, f5⟩ := hf it (by simp)
    obtain ⟨hs, hgd, hx, es', ep', hdt, hsz, ent⟩ := frzN I hd
    obtain ⟨rfl, rfl⟩ := dict_ep hod hdt
    exact next_key_end (I.ok.hd hc) st hgd hdt hsz hi fun h' eb => ⟨rfl, I.turned (t' := s.toks) (fun b ob hb e => eb b ob hb e) f0 f1 f3 f4 f5⟩
  self := fun A i s Q E st h => by
    refine wpAny_pyIter_slot st.typeIs F.slot_dict_keyiterator_iter (wpAny_call_entry F.slot_dict_keyiterator_iter st.typeIs F.entry_dict_keyiterator_iter ?_ (F.args_dict_keyiterator_iter_1 _))
    show wpAny _ _ (ret (.ref it)) _ _ s
    exact wpAny_pure ⟨_, rfl, "dict_keyiterator", _, st.typeIs, F.slot_dict_keyiterator_next.lookup, h⟩
def iKeysN (P : Program) (w : World) (td : TE) : TI := fun σ H R => td σ H fun x H1 => ∃ d o xs, x = .ref d ∧ H1 d = some (.frz o (NDO P w d xs)) ∧ R (Itn P w d o xs) H1
section
variable {X : Cx} {tg e : Expr} {td : TE}
theorem pi_keysN (he : PE X e td) : PI X tg e (iKeysN X.prog X.w td) := by
  refine ⟨fun pins s σ H R I h => ?_⟩
  refine thn (he.run pins s σ H _ I h) fun u s1 ⟨x, H1, I1, rx, d, o, xs, ex, hd, q⟩ => ?_
  subst ex
  obtain rfl : u = Value.ref d := rx
  obtain ⟨hs, hgd, hx, es, ep, hdt, hsz, ent⟩ := frzN I1 hd
  refine iter_keys hs hgd hx hdt (pi_one (tk := s1.toks) I1 _ (turn_keysN _ hdt) ⟨_, Heap.get?_push_size _ rfl, rfl, ?_⟩ q)
  rw [hsz] <;> rfl
def rLnN (P : Program) (w : World) : List V → Hp → VK → Prop := fun xs H Q => ∃ d kvs, xs = [.ref d] ∧ NDR P w H d kvs ∧ Q (.int (kvs.length : Nat)) H
theorem len_N : CallR X (.builtin "len") (rLnN X.prog X.w) := by
  intro pins s σ H xs us Q I r h
  obtain ⟨d, kvs, rfl, g, q⟩ := h
  obtain ⟨u, rfl, ru⟩ := vals1 r
  cases ru
  obtain ⟨hd, xs, z, rel, dd⟩ := nd_of I g
  have hl : kvs.length = xs.length := Paired.length rel
  refine call_len_dictH hd dd (by rw [← hl]; rw [sizeLine_eq] at z; omega) ?_
  rw [← hl]
  exact ⟨.int (kvs.length : Nat), H, I.tok _, ⟨_, rfl⟩, q⟩
end
section
variable {X : Cx} {P : Program} {w : World} {K : PySem.W.Frag} {o i e value tg : Expr} {pos pos' tpos : Pos} {td ty tv : TE}
theorem nnew_K (hP : X.prog = P) (hw : X.w = w) : PE X (.Dict [] [] pos) (tNNew P w) := by subst hP hw; exact pe_nnew
theorem nget_K (hP : X.prog = P) (hw : X.w = w) (hu : X.A.units + 64 < cLine) (ho : PE X o td) (hi : PE X i ty) (hs : NoSl i) : PE X (.Subscript o i pos) (tNGet P w td ty) := by subst hP hw; exact pe_nget hu ho hi hs
theorem nin_K' (hP : X.prog = P) (hw : X.w = w) (hu : X.A.units + 64 < cLine) (hi : PE X i ty) (ho : PE X o td) : PC X .In i o (tNIn P w ty td) := by subst hP hw; exact pc_nin hu hi ho
theorem nnotin_K (hP : X.prog = P) (hw : X.w = w) (hu : X.A.units + 64 < cLine) (hi : PE X i ty) (ho : PE X o td) : PC X .NotIn i o (tNNotIn P w ty td) := by subst hP hw; exact pc_nnotin hu hi ho
theorem nput_K (hP : X.prog = P) (hw : X.w = w) (hu : X.A.units + 64 < cLine) (ho : PE X o td) (hi : PE X i ty) (hv : PE X value tv) (hs : swapsWith value (some (.Subscript o i pos')) pos.line X.env = pure false) :
    PS X (.Assign [.Subscript o i pos'] value pos) (sNPut P w td ty tv) := by subst hP hw; exact ps_nput hu ho hi hv hs
theorem keysN_K (hP : X.prog = P) (hw : X.w = w) (he : PE X e td) : PI X tg e (iKeysN P w td) := by subst hP hw; exact pi_keysN he
theorem lenN_K (hP : X.prog = P) (hw : X.w = w) : CallR X (.builtin "len") (rLnN P w) := by subst hP hw; exact len_N
theorem notInD_K (h : X.K = K) (hu : X.A.units + 65 < cLine) : OpR X (compareOp .NotIn) (rNotInD K) := h ▸ op_notInD hu
end
end Fm
set_option maxHeartbeats 2000000
namespace Fm
open PySem PySem.W PySem.Calls PyProof.Rows PySem.Spec L2 Evl
def PutN (P : Program) (w : World) (D : Addr) (y z : V) (H : Hp) (N : Hp → Prop) : Prop := ∃ kvs k, ND P w H D kvs ∧ NK H y k ∧ k.depth ≤ 8 ∧ (∃ b, y = .ref b) ∧ kvs.length < sizeLine ∧ ∀ xs', ND P w (upd H D (NDO P w D xs')) D (putK kvs k z) → N (upd H D (NDO P w D xs'))
theorem nd_dictSet {X : Cx} {pins : List (Addr × Obj)} {σ : L2.St} {H : Hp} {s : Shared} {D : Addr} {y z : V} {u r : Value} {E : Value → Shared → Prop} {N : Hp → Prop} {Q : Unit → Shared → Prop} (hu : X.A.units + 64 < cLine) (I : Inv X pins σ H s) (h : PutN X.prog X.w D y z H N) (ry : RelV y u) (rz : RelV z r) (q : ∀ H' s', Inv X pins σ H' s' → N H' → Q () s') :
    wpAny (model X.prog X.w) X.A (dictSet D u r) Q E s := by
  obtain ⟨kvs, k, g, hk, hdp, ⟨b, rfl⟩, hl, next⟩ := h
  obtain rfl : u = Value.ref b := ry
  obtain ⟨xs, at_, fits, rel⟩ := g
  obtain ⟨⟨notMods, ob, es, ep, b1, b2, b3, b4, b5⟩, _⟩ := (show ObjOk X.prog X.w H s.heap D (NDO X.prog X.w D xs) from I.hok D _ at_)
  have fits' : xs.length ≤ sizeLine := Paired.length rel ▸ fits
  have more : (putK kvs k z).length ≤ sizeLine := Nat.le_trans (length_putK kvs k z) hl
  refine wpAny_dictSet_heap (knd := nestedKind X.prog X.w) (hsz := fits') (by show X.A.units + 8 < cLine; omega) ⟨nk_is I.hok hk rfl, hdp⟩ ⟨ob, es, ep, b1, b2, b3, b4, NT.all I.hok rel, b5⟩ fun h' there but => ?_
  have still : ∃ o', h'.get? D = some o' := let ⟨o', _, _, w1, _⟩ := there; ⟨o', w1⟩
  refine q _ _ (d_write (t' := s.toks + (nestedKind X.prog X.w).draws k) I (by rw [at_]; exact True.intro) but still (ndo_ok notMods there)) (next _ ⟨_, upd_same, more, (rel.put k ⟨hk, hdp⟩ rz).up fun c ys hc => ?_⟩)
  rw [upd_ne fun e => by rw [e, at_] at hc; cases hc]
  exact hc
def dcTurn (P : Program) (w : World) (D : Addr) (g : TG) (tt : TT) (tk tv : TE) (vs : List Nat) (σ : L2.St) (N : Hp → Prop) (x : V) (H : Hp) : Prop := g x (wipe σ vs) H fun σ2 H2 => wipe σ2 vs = wipe σ vs ∧ tt σ2 H2 fun b H3 => if b = true then tk σ2 H3 fun y H4 => tv σ2 H4 fun z H5 => PutN P w D y z H5 N else N H3
def tDcN (P : Program) (w : World) (wi : TI) (g : TG) (tt : TT) (tk tv : TE) (vs : List Nat) : TE := fun σ H Q => wi σ H fun J H1 => ∀ D, H1 D = none → ∃ W : Nat → Nat → Hp → Prop, (∃ m, W 0 m (upd H1 D (NDO P w D []))) ∧ ∀ i m H, W i m H →
  (J.stop i H ∧ Q (.ref D) H) ∨ (J.go i H ∧ ∃ Nx : Hp → Prop, (∀ H', Nx H' → ∃ m', m' < m ∧ W (i + 1) m' H') ∧ ∀ x H', J.yld i H x H' → dcTurn P w D g tt tk tv vs σ Nx x H')
theorem dcn_it {P : Program} {w : World} {J : It} {n : Nat} {G : Hp → Prop} {Y : Nat → Hp → V → Hp → Prop} (wk : Walk J n G Y) {g : TG} {tt : TT} {tk tv : TE} {vs : List Nat} {σ : L2.St} {H1 : Hp} {D : Addr} {Qd : Hp → Prop} (Pv : Nat → Hp → Prop) (h0 : Pv 0 (upd H1 D (NDO P w D []))) (hG : ∀ i H, i ≤ n → Pv i H → G H)
    (hs : ∀ i x H H', i < n → Pv i H → Y i H x H' → dcTurn P w D g tt tk tv vs σ (Pv (i + 1)) x H') (hd : ∀ H, Pv n H → Qd H) :
    ∃ W : Nat → Nat → Hp → Prop, (∃ m, W 0 m (upd H1 D (NDO P w D []))) ∧ ∀ i m H, W i m H →
      (J.stop i H ∧ Qd H) ∨ (J.go i H ∧ ∃ Nx : Hp → Prop, (∀ H', Nx H' → ∃ m', m' < m ∧ W (i + 1) m' H') ∧ ∀ x H', J.yld i H x H' → dcTurn P w D g tt tk tv vs σ Nx x H') := by
  refine ⟨fun i m H => m + i = n ∧ Pv i H, ⟨n, rfl, h0⟩, fun i m H ⟨hm, p⟩ => ?_⟩
  have good := hG i H (by omega) p
  rcases Nat.eq_zero_or_pos m with e | e
  · obtain rfl : i = n := by omega
    exact .inl ⟨wk.stops H good, hd H p⟩
  · exact .inr ⟨wk.goes i H (by omega) good, Pv (i + 1), fun H' p' => ⟨m - 1, by omega, by omega, p'⟩, fun x H' y => hs i x H H' (by omega) p (wk.yields i H x H' (by omega) good y)⟩
section
variable {X : Cx}
theorem dcN_core {pins : List (Addr × Obj)} {s : Shared} {σ : L2.St} {H : Hp} {Q : VK} {kx vx tg iter : Expr} {ifs : List Expr} {scope : Scope} {own : List (Str × Nat)} {pos pos' : Pos} {wi : TI} {g : TG} {tt : TT} {tk tv : TE} {use : Option (Value → Sem Unit)} {Qf : Value → Shared → Prop} (hc : X.calm = true) (hu : X.A.units + 64 < cLine) (hN : X.N.Nodup) (I : Inv X pins σ H s) (hi : PI X tg iter wi) (ok : BlkOk X.N X.env.scope scope own)
    (hg : ∀ s H C cl fp, PG (X.blk s H scope (compEnvC scope cl C X.env) fp) tg g) (ht : ∀ s H C cl fp, PTs (X.blk s H scope (compEnvC scope cl C X.env) fp) ifs tt)
    (hk : ∀ s H C cl fp, PE (X.blk s H scope (compEnvC scope cl C X.env) fp) kx tk) (he : ∀ s H C cl fp, PE (X.blk s H scope (compEnvC scope cl C X.env) fp) vx tv) (hs : ∀ x, foldedSetIterable iter X.env x = pure x) (h : tDcN X.prog X.w wi g tt tk tv (own.map (·.2)) σ H Q)
    (hRR : ∀ D C s' m H', Inv X pins σ H' s' → Q (.ref D) H' → s'.heap.Ns C m → FpOk X pins H' C → compPost (model X.prog X.w) X.A X.xe use Qf (.ref D) C (.ok .next) s') :
    wpAny (model X.prog X.w) X.A (comprehension (.DictComp kx vx [⟨tg, iter, ifs, 0⟩] scope pos) scope X.env pos' newDict false (eval iter X.env) use) Qf X.xe s := by
  have seen : ∀ n ∈ scope.names, n.2 = .free → ∃ c, X.env.cells.lookup n.1 = some c := fun n hn e => I.ok.has _ (ok.free n hn e)
  refine wpAny_comprehension_free (use := use) rfl hs (closure_ok seen) ok.kind (fun n hn e => by rw [ok.uniq n hn, e]) (thn (hi.run pins s σ H _ I h) fun xv sa hx => thn hx fun itv sb hb => ?_)
  obtain ⟨it, fp, tn, J, Hb, rfl, Ib, T, stb, fb, q⟩ := hb
  refine wpAny_newObj_type (newEnv_comp ?_)
  obtain ⟨D, hD⟩ : ∃ D, sb.heap.objs.size = D := ⟨_, rfl⟩
  rw [hD]
  obtain ⟨W, ⟨m0, w0⟩, turn⟩ := q D (Ib.hok.fresh (Nat.le_of_eq hD))
  obtain ⟨sc, hsc⟩ : ∃ sc : Shared, sc = { sb with heap := sb.heap.push { cls := .type "dict", data := .dict #[] } } := ⟨_, rfl⟩
  rw [← hsc]
  have Ic : Inv X pins σ (upd Hb D (NDO X.prog X.w D [])) sc := by
    obtain ⟨s', hs', I'⟩ := nd_new Ib
    rw [hsc, ← hD]
    rw [hs'] at I'
    exact I'
  have grown : sc.heap = sb.heap.push { cls := .type "dict", data := .dict #[] } := by rw [hsc]
  have below : ∀ b ∈ fp, b < sb.heap.objs.size := fun b hbm => let ⟨o, e, _⟩ := T.obj _ _ stb b hbm; Heap.lt_size e
  have fc : ∀ b ∈ fp, FpOk X pins (upd Hb D (NDO X.prog X.w D [])) b ∧ b < sc.heap.objs.size := fun b hbm => by
    have lt := below b hbm
    refine ⟨⟨by rw [upd_ne (by rw [← hD]; exact Nat.ne_of_lt lt)]; exact (fb b hbm).1, (fb b hbm).2⟩, ?_⟩
    rw [grown, Heap.size_push]
    exact Nat.lt_succ_of_lt lt
  have stc : tn 0 sc.heap := T.keep _ _ _ stb fun b _ o e => by rw [grown]; exact Heap.get?_push_of_some _ e
  have Id := block_start Ic ok hN fc
  obtain ⟨cl, hcl⟩ : ∃ cl, cl = cellsFrom (sc.heap.objs.size + 1) scope.names (cloFrom X.env.cells scope.names []) := ⟨_, rfl⟩
  rw [← hcl] at Id ⊢
  have Pg := hg sc (upd Hb D (NDO X.prog X.w D [])) sc.heap.objs.size cl fp
  have Pt := ht sc (upd Hb D (NDO X.prog X.w D [])) sc.heap.objs.size cl fp
  have Pk := hk sc (upd Hb D (NDO X.prog X.w D [])) sc.heap.objs.size cl fp
  have Pv := he sc (upd Hb D (NDO X.prog X.w D [])) sc.heap.objs.size cl fp
  have clear : ∀ b ∈ fp, (upd Hb D (NDO X.prog X.w D [])) b = none := fun b hbm => (fc b hbm).1.1
  obtain ⟨ce, hce⟩ : ∃ ce, ce = compEnvC scope cl sc.heap.objs.size X.env := ⟨_, rfl⟩
  have loc : ce.locals = sc.heap.objs.size := by rw [hce]; rfl
  rw [← hce] at Id Pg Pt Pk Pv
  obtain ⟨Hc, hHc⟩ : ∃ Hc, Hc = upd Hb D (NDO X.prog X.w D []) := ⟨_, rfl⟩
  rw [← hHc] at Ic Id Pg Pt Pk Pv w0 clear fc
  obtain ⟨sd, hsd⟩ : ∃ sd : Shared, sd = { sc with heap := pushCells (sc.heap.push { cls := .type "dict", data := .dict #[] }) scope.names } := ⟨_, rfl⟩
  rw [← hsd] at Id
  have std : tn 0 sd.heap := T.keep _ _ _ stc fun b _ o e => by rw [hsd]; exact pushCells_keeps _ _ _ _ (Heap.get?_push_of_some _ e)
  have stands : ∀ {σ' : L2.St} {H' : Hp} {s' : Shared}, Inv (X.blk sc Hc scope ce fp) [] σ' H' s' → (∀ b ∈ fp, H' b = none) → ∀ b ∈ fp, FpOk (X.blk sc Hc scope ce fp) [] H' b := fun {σ' H' s'} I' hn b hbm =>
    ⟨hn b hbm, (I'.ok.exf b hbm).1, I'.ok.exfs b hbm, .inl hbm, fun x c e => (I'.ok.exf b hbm).2 x c e, fun p hp => absurd (show p ∈ ([] : List (Addr × Obj)) ++ [] from hp) (by simp)⟩
  show codeAny _ _ (.compStart (.DictComp kx vx [⟨tg, iter, ifs, 0⟩] scope pos) 0 (.ref it) (.ref D) (compEnvC scope cl sc.heap.objs.size X.env)) _ { sc with heap := pushCells (sc.heap.push { cls := .type "dict", data := .dict #[] }) scope.names }
  rw [← hce, ← hsd]
  have loop : codeAny (model X.prog X.w) X.A (.compLoop (.DictComp kx vx [⟨tg, iter, ifs, 0⟩] scope pos) 0 (.ref it) (.ref D) ce) (compPost (model X.prog X.w) X.A X.xe use Qf (.ref D) sc.heap.objs.size) sd := by
    refine compLoop_anyD (fun n s' => ∃ i H', Inv (X.blk sc Hc scope ce fp) [] (wipe σ (own.map (·.2))) H' s' ∧ tn i s'.heap ∧ (∀ b ∈ fp, H' b = none) ∧ W i n H') ?_ m0 ⟨0, Hc, Id, std, clear, w0⟩
    rintro n se ⟨i, He, Ie, ste, cle, we⟩
    rcases turn i n He we with ⟨halt, fin⟩ | ⟨go, Nx, less, step⟩
    · -- the end
      refine thnF (T.done (X.blk sc Hc scope ce fp) rfl rfl rfl hc i [] se _ He (fun _ _ => False) Ie (stands Ie cle) ste halt) fun v sf ⟨hv, If⟩ => ?_
      subst hv
      have back : Inv X pins σ He sf := Ic.call' (ch := fp) If.os If.base If.hok If.bare fun b hbm => let z := (fc b hbm).1.2; ⟨z.2.2.1, z.1, z.2.2.2.1, z.2.2.2.2⟩
      have room : He sc.heap.objs.size = none := loc ▸ (show He ce.locals = none from If.free)
      obtain ⟨m, ns, _⟩ := If.loc
      have ns : sf.heap.Ns ce.locals m := ns
      rw [loc] at ns
      exact hRR D sc.heap.objs.size sf m He back fin ns (Ic.fpOk (Nat.le_refl _) room)
    · -- a turn
      refine thnF (T.item (X.blk sc Hc scope ce fp) rfl rfl rfl hc i [] se _ He (fun _ _ => False) Ie (stands Ie cle) ste go) fun v sf ⟨u, hv, hf⟩ => ?_
      subst hv
      refine thnF hf fun _ sg ⟨x, Hg, Ig, rx, yld, stg, clg⟩ => ?_
      have Ip := Ig.pinned (stands Ig clg) (T.obj _ _ stg)
      refine thnF (Pg.run _ sg _ Hg x u _ Ip rx (step x Hg yld)) fun _ sh ⟨σh, Hh, Ih, hsame, todo⟩ => ?_
      refine thnF (Pt.run _ sh σh Hh _ Ih todo) fun c si ⟨Hi, Ii, todo⟩ => ?_
      have on : ∀ {s' : Shared} {H' : Hp}, Inv (X.blk sc Hc scope ce fp) ([] ++ pinsAt fp sg.heap) σh H' s' → Nx H' → ∃ m, m < n ∧ ∃ i H', Inv (X.blk sc Hc scope ce fp) [] (wipe σ (own.map (·.2))) H' s' ∧ tn i s'.heap ∧ (∀ b ∈ fp, H' b = none) ∧ W i m H' := fun {s' H'} I' nx => by
        obtain ⟨m', lt, w'⟩ := less H' nx
        have pin : ∀ b ∈ fp, ∀ o, sg.heap.get? b = some o → s'.heap.get? b = some o ∧ H' b = none := fun b hbm o e =>
          have z := I'.pin (b, o) (List.mem_append_right _ (List.mem_append_right _ (mem_pinsAt hbm e)))
          ⟨z.1, z.2.1⟩
        have long : (wipe σ (own.map (·.2))).length = σh.length := (wipe_length _ _).symm ▸ (by rw [← wipe_length σh (own.map (·.2)), hsame, wipe_length])
        refine ⟨m', lt, i + 1, H', (I'.unpinned (pins := [])).weak long (fun j v e => ?_), T.keep _ _ _ stg fun b hbm o e => (pin b hbm o e).1, fun b hbm => ?_, w'⟩
        · rw [← hsame] at e
          exact (wipe_some e).1
        · obtain ⟨o, e, _⟩ := T.obj _ _ stg b hbm
          exact (pin b hbm o e).2
      cases c with
      | false => exact on Ii todo
      | true =>
        refine thnF (Pk.run _ si σh Hi _ Ii todo) fun kv sj ⟨y, Hj, Ij, ry, todo⟩ => ?_
        refine thnF (Pv.run _ sj σh Hj _ Ij todo) fun vv sk ⟨z, Hk, Ik, rz, todo⟩ => ?_
        exact nd_dictSet (X := X.blk sc Hc scope ce fp) hu Ik todo ry rz fun H' s' I' nx => on I' nx
  exact codeAny_compStart_dict loop (T.self X.A 0 _ _ _ std loop)
theorem pe_dcN {kx vx tg iter : Expr} {ifs : List Expr} {scope : Scope} {own : List (Str × Nat)} {pos : Pos} {wi : TI} {g : TG} {tt : TT} {tk tv : TE} (hc : X.calm = true) (hu : X.A.units + 64 < cLine) (hN : X.N.Nodup) (hi : PI X tg iter wi) (ok : BlkOk X.N X.env.scope scope own)
    (hg : ∀ s H C cl fp, PG (X.blk s H scope (compEnvC scope cl C X.env) fp) tg g) (ht : ∀ s H C cl fp, PTs (X.blk s H scope (compEnvC scope cl C X.env) fp) ifs tt)
    (hk : ∀ s H C cl fp, PE (X.blk s H scope (compEnvC scope cl C X.env) fp) kx tk) (he : ∀ s H C cl fp, PE (X.blk s H scope (compEnvC scope cl C X.env) fp) vx tv) (hs : ∀ x, foldedSetIterable iter X.env x = pure x := by intro _; rfl) :
    PE X (.DictComp kx vx [⟨tg, iter, ifs, 0⟩] scope pos) (tDcN X.prog X.w wi g tt tk tv (own.map (·.2))) := by
  refine ⟨fun pins s σ H Q I h => ?_⟩
  rw [arm_eval_DictComp]
  exact dcN_core (use := none) hc hu hN I hi ok hg ht hk he hs h fun D C s' m H' I' q hn f => let ⟨a0, a1, _, a3, a4, a5⟩ := f; ⟨m, hn, fun h' sb => ⟨.ref D, H', I'.turned (t' := s'.toks) (fun b o hb e => (sb.2 b hb).trans e) a0 a1 a3 a4 a5, rfl, q⟩⟩
theorem ps_setDcN {i : Nat} {y : Str} {py spos : Pos} {kx vx tg iter : Expr} {ifs : List Expr} {scope : Scope} {own : List (Str × Nat)} {pos : Pos} {wi : TI} {g : TG} {tt : TT} {tk tv : TE} (hu : X.A.units + 64 < cLine) (calm : X.calm = true) (nd : X.N.Nodup) (at_ : X.N[i]? = some y) (loc : X.env.scope.names.lookup y = some .local) (sw : swapsWith (.DictComp kx vx [⟨tg, iter, ifs, 0⟩] scope pos) (some (.Name y py)) spos.line X.env = pure true) (pi : PI X tg iter wi) (ok : BlkOk X.N X.env.scope scope own)
    (pg : ∀ s H C cl fp, PG (X.blk s H scope (compEnvC scope cl C X.env) fp) tg g) (pt : ∀ s H C cl fp, PTs (X.blk s H scope (compEnvC scope cl C X.env) fp) ifs tt) (pk : ∀ s H C cl fp, PE (X.blk s H scope (compEnvC scope cl C X.env) fp) kx tk) (pv : ∀ s H C cl fp, PE (X.blk s H scope (compEnvC scope cl C X.env) fp) vx tv)
    (nf : ∀ x, foldedSetIterable iter X.env x = pure x := by intro _; rfl) : PS X (.Assign [.Name y py] (.DictComp kx vx [⟨tg, iter, ifs, 0⟩] scope pos) spos) (tAsg (tDcN X.prog X.w wi g tt tk tv (own.map (·.2))) (gName i)) := by
  constructor
  intro pins s σ H D I hw
  rw [exec_Assign_Name_used _ _ _ _ sw]
  refine wpAny_bind (wpAny_standAt (wpAny_bind (wpAny_bind ?_)))
  have hw : tDcN X.prog X.w wi g tt tk tv (own.map (·.2)) σ H fun v H1 => gName i v σ H1 D.nx := hw
  refine thn (dcN_core (pos' := firstIterPos [⟨tg, iter, ifs, 0⟩] pos) (use := some (assign (.Name y py) X.env)) (Qf := fun _ s' => SP X pins D .next s') calm hu nd I pi ok pg pt pk pv nf hw fun L C s' m H' I' q hn f => ?_) fun _ s' hq => wpAny_pure (wpAny_pure hq)
  refine wpAny_assign_Name (store_ok2 (v := V.ref L) I' nd at_ (.inl loc) rfl (fun s2 I2 ⟨a, sb, ha⟩ => ?_) (.inr loc))
  obtain ⟨a0, a1, a2, a3, a4, a5⟩ := f
  have hne : C ≠ a := ha.elim (fun z => z ▸ a1) fun z e => a4 y a z e.symm
  exact ⟨m, hn.sameBut sb hne, fun h3 sb3 => ⟨_, H', I2.turned (t' := s2.toks) (fun b o hb e => (sb3.2 b hb).trans e) a0 a1 a3 a4 a5, q⟩⟩
end
theorem dcN_K {X : Cx} {P : Program} {w : World} {kx vx tg iter : Expr} {ifs : List Expr} {scope : Scope} {own : List (Str × Nat)} {pos : Pos} {wi : TI} {g : TG} {tt : TT} {tk tv : TE} (hP : X.prog = P) (hw : X.w = w) (hu : X.A.units + 64 < cLine) (hc : X.calm = true) (hN : X.N.Nodup) (hi : PI X tg iter wi) (ok : BlkOk X.N X.env.scope scope own)
    (hg : ∀ s H C cl fp, PG (X.blk s H scope (compEnvC scope cl C X.env) fp) tg g) (ht : ∀ s H C cl fp, PTs (X.blk s H scope (compEnvC scope cl C X.env) fp) ifs tt)
    (hk : ∀ s H C cl fp, PE (X.blk s H scope (compEnvC scope cl C X.env) fp) kx tk) (he : ∀ s H C cl fp, PE (X.blk s H scope (compEnvC scope cl C X.env) fp) vx tv) (hs : ∀ x, foldedSetIterable iter X.env x = pure x := by intro _; rfl) :
    PE X (.DictComp kx vx [⟨tg, iter, ifs, 0⟩] scope pos) (tDcN P w wi g tt tk tv (own.map (·.2))) := by subst hP hw; exact pe_dcN hc hu hN hi ok hg ht hk he hs
theorem setDcN_K {X : Cx} {P : Program} {w : World} {i : Nat} {y : Str} {py spos : Pos} {kx vx tg iter : Expr} {ifs : List Expr} {scope : Scope} {own : List (Str × Nat)} {pos : Pos} {wi : TI} {g : TG} {tt : TT} {tk tv : TE} (hP : X.prog = P) (hw : X.w = w) (hu : X.A.units + 64 < cLine) (calm : X.calm = true) (nd : X.N.Nodup) (at_ : X.N[i]? = some y) (loc : X.env.scope.names.lookup y = some .local) (sw : swapsWith (.DictComp kx vx [⟨tg, iter, ifs, 0⟩] scope pos) (some (.Name y py)) spos.line X.env = pure true) (pi : PI X tg iter wi) (ok : BlkOk X.N X.env.scope scope own)
    (pg : ∀ s H C cl fp, PG (X.blk s H scope (compEnvC scope cl C X.env) fp) tg g) (pt : ∀ s H C cl fp, PTs (X.blk s H scope (compEnvC scope cl C X.env) fp) ifs tt) (pk : ∀ s H C cl fp, PE (X.blk s H scope (compEnvC scope cl C X.env) fp) kx tk) (pv : ∀ s H C cl fp, PE (X.blk s H scope (compEnvC scope cl C X.env) fp) vx tv)
    (nf : ∀ x, foldedSetIterable iter X.env x = pure x := by intro _; rfl) : PS X (.Assign [.Name y py] (.DictComp kx vx [⟨tg, iter, ifs, 0⟩] scope pos) spos) (tAsg (tDcN P w wi g tt tk tv (own.map (·.2))) (gName i)) := by subst hP hw; exact ps_setDcN hu calm nd at_ loc sw pi ok pg pt pk pv nf
end Fm
set_option maxHeartbeats 1000000
namespace Fm
open PySem PySem.Spec PyProof.Rows L2
theorem pg_tupK {X : Cx} {K : PySem.W.Frag} {es : List Expr} {k : Nat} {t : TGs} {n : Nat} {pos : Pos} (h : X.K = K) (hc : X.calm = true) (hp : PGs X es t)
    (hn : (assignEach es X.env).length = n := by rfl) (hst : (assignEach es X.env).findIdx? (·.1) = none := by rfl) : PG X (.Tuple es k pos) (gTup K n t) := h ▸ pg_tup hc hp hn hst
end Fm
set_option maxHeartbeats 1000000
namespace Fm
open PySem L2 Evl
inductive In where
  | get (c : Nat) | plus (c : Nat) | minus (c : Nat) | set (c : Nat) | put (k : Int) | say | ask | zero (t : Nat) | go (t : Nat) | stop | touch (c : Nat)
  deriving DecidableEq
def In.w : In → Str
  | .get _ => "get" | .plus _ => "plus" | .minus _ => "minus" | .set _ => "set" | .put _ => "put" | .say => "say" | .ask => "ask" | .zero _ => "zero" | .go _ => "go" | .stop => "stop" | .touch _ => "touch"
def In.arg : In → Option Int
  | .get c => some c | .plus c => some c | .minus c => some c | .set c => some c | .put k => some k | .say => none | .ask => none | .zero t => some t | .go t => some t | .stop => none | .touch c => some c
def In.vs (i : In) : List V := match i.arg with
  | none => [.str i.w]
  | some k => [.str i.w, .int k]
def In.ok (cells len : Nat) : In → Prop
  | .get c => c < cells | .plus c => c < cells | .minus c => c < cells | .set c => c < cells | .put k => -1000000 ≤ k ∧ k ≤ 1000000 | .say => True | .ask => True | .zero t => t ≤ len | .go t => t ≤ len | .stop => True | .touch c => c < cells
def InAt (K : PySem.W.Frag) (H : Hp) (v : V) (i : In) : Prop := ∃ b, v = .ref b ∧ SqT K H b i.vs
def PgT (K : PySem.W.Frag) (H : Hp) (a : Addr) (p : List In) : Prop := ∃ xs, SqT K H a xs ∧ Paired (InAt K H) xs p
theorem InAt.up {K : PySem.W.Frag} {H H' : Hp} {v : V} {i : In} (e : Ex H H') (h : InAt K H v i) : InAt K H' v i := let ⟨b, h1, h2⟩ := h; ⟨b, h1, ex_t e h2⟩
theorem PgT.up {K : PySem.W.Frag} {H H' : Hp} {a : Addr} {p : List In} (e : Ex H H') (h : PgT K H a p) : PgT K H' a p := let ⟨xs, h1, h2⟩ := h; ⟨xs, ex_t e h1, Paired.mapP h2 fun _ _ z => z.up e⟩
theorem paired_get {α β : Type} {R : α → β → Prop} : ∀ {xs : List α} {ys : List β} {i : Nat} {y : β}, Paired R xs ys → ys[i]? = some y → ∃ x, xs[i]? = some x ∧ R x y
  | _, _, _, _, .nil, e => by simp at e
  | _, _, 0, _, .cons r _, e => by simp at e; subst e; exact ⟨_, rfl, r⟩
  | _, _, i + 1, y, .cons _ t, e => by
    obtain ⟨u, h1, h2⟩ := paired_get (i := i) (y := y) t (by simpa using e)
    exact ⟨u, by simpa using h1, h2⟩
theorem paired_append {α β : Type} {R : α → β → Prop} : ∀ {xs xs' : List α} {ys ys' : List β}, Paired R xs ys → Paired R xs' ys' → Paired R (xs ++ xs') (ys ++ ys')
  | _, _, _, _, .nil, s => s
  | _, _, _, _, .cons r t, s => .cons r (paired_append t s)
theorem atI_nat' {α : Type} {xs : List α} {i : Nat} {v : α} (h : xs[i]? = some v) : atI xs (i : Int) = some v := by
  have hi : i < xs.length := (List.getElem?_eq_some_iff.mp h).1
  unfold atI
  rw [ixN_nat hi]
  exact h
section
variable {K : PySem.W.Frag} {σ : L2.St} {H : Hp} {ta tb te : TE} {a b : Addr} {p : List In} {x : In} {n : Nat}
theorem ev_ixT {xs : List V} {i : Int} {v : V} (ha : Ev ta σ H (.ref a)) (hb : Ev tb σ H (.int i)) (h : SqT K H a xs) (e : atI xs i = some v) : Ev (tOp (rIx K) ta tb) σ H v :=
  ev_op ha hb fun H1 e1 _ q => .inr (.inl ⟨a, xs, i, v, rfl, rfl, ex_t e1 h, e, q H1 (Ex.refl H1)⟩)
theorem ev_ixL {xs : List V} {i : Int} {v : V} (ha : Ev ta σ H (.ref a)) (hb : Ev tb σ H (.int i)) (h : SqL K H a xs) (e : atI xs i = some v) : Ev (tOp (rIx K) ta tb) σ H v :=
  ev_op ha hb fun H1 e1 _ q => .inl ⟨a, xs, i, v, rfl, rfl, ex_l e1 h, e, q H1 (Ex.refl H1)⟩
theorem PgT.len (h : PgT K H a p) : ∃ xs, SqT K H a xs ∧ xs.length = p.length := let ⟨xs, h1, h2⟩ := h; ⟨xs, h1, Paired.length h2⟩
theorem PgT.at_ (h : PgT K H a p) (e : p[n]? = some x) : ∃ b, ∃ xs, SqT K H a xs ∧ atI xs (n : Int) = some (.ref b) ∧ SqT K H b x.vs := by
  obtain ⟨xs, h1, h2⟩ := h
  obtain ⟨v, hv, b, rfl, hb⟩ := paired_get h2 e
  exact ⟨b, xs, h1, atI_nat' hv, hb⟩
abbrev rLn (K : PySem.W.Frag) : List V → Hp → VK → Prop := fun xs H Q => ∃ x n, xs = [x] ∧ LenV K x H n ∧ Q (.int n) H
theorem ev_lnT {xs : List V} (ha : Ev ta σ H (.ref a)) (h : SqT K H a xs) : Ev (tCB (rLn K) (tCons ta tNil)) σ H (.int (xs.length : Int)) := fun H1 e Q q =>
  ha H1 e _ fun H2 e2 => ⟨_, _, rfl, .inr ⟨xs, ex_t (e.trans e2) h, rfl⟩, q H2 e2⟩
theorem ev_lnL {xs : List V} (ha : Ev ta σ H (.ref a)) (h : SqL K H a xs) : Ev (tCB (rLn K) (tCons ta tNil)) σ H (.int (xs.length : Int)) := fun H1 e Q q =>
  ha H1 e _ fun H2 e2 => ⟨_, _, rfl, .inl ⟨xs, ex_l (e.trans e2) h, rfl⟩, q H2 e2⟩
theorem ev_i0 {g : Int → Int → V} {i j : Int} (ha : Ev ta σ H (.int i)) (hb : Ev tb σ H (.int j)) : Ev (tOp (rI0 g) ta tb) σ H (g i j) := ev_op ha hb rv_I0
theorem et_i0 {g : Int → Int → Bool} {i j : Int} (ha : Ev ta σ H (.int i)) (hb : Ev tb σ H (.int j)) : EvT (tTest (tOp (rI0 fun i j => .bl (g i j)) ta tb)) σ H (g i j) := et_test (ev_i0 ha hb)
theorem et_eq {x y : V} (ha : Ev ta σ H x) (hb : Ev tb σ H y) (h : scal x y = true) : EvT (tTest (tOp rEq ta tb)) σ H (decide (x = y)) := et_test (ev_op ha hb (rv_eq h))
theorem et_ne {x y : V} (ha : Ev ta σ H x) (hb : Ev tb σ H y) (h : scal x y = true) : EvT (tTest (tOp rNe ta tb)) σ H (!decide (x = y)) := et_test (ev_op ha hb (rv_ne h))
theorem ev_inK {xs : List V} {x : V} (ha : Ev ta σ H x) (hb : Ev tb σ H (.ref a)) (h : SqT K H a xs) (hx : flatV x = true) (hf : xs.all flatV = true) : Ev (tOp (rIn K false) ta tb) σ H (.bl (inV x xs)) := ev_op ha hb (rv_isT h hx hf)
end
def gstep (p : List In) (j : Nat) : Nat := match p[j]? with
  | some (.go t) => t
  | _ => j
def gn (p : List In) (i : Nat) : Nat → Nat
  | 0 => i
  | k + 1 => gstep p (gn p i k)
def In.isEnd : In → Bool
  | .go _ => true | .stop => true
  | _ => false
def ends (p : List In) (j : Nat) : Bool := match p[j]? with
  | none => true
  | some x => x.isEnd
def stE (p : List In) (i : Nat) : Nat := if ends p (gn p i (p.length + 1)) then p.length else gn p i (p.length + 1)
def Pok (cells : Nat) (p : List In) : Prop := 0 < p.length ∧ ∀ i ∈ p, i.ok cells p.length
def nV (l : List Nat) : List V := l.map fun x => V.int (x : Nat)
theorem nV_get {l : List Nat} {i : Nat} {x : V} (h : (nV l)[i]? = some x) : ∃ y, l[i]? = some y ∧ x = V.int (y : Nat) := by
  unfold nV at h
  rw [List.getElem?_map] at h
  cases hh : l[i]? with
  | none => rw [hh] at h; cases h
  | some z => rw [hh] at h; exact ⟨z, rfl, (Option.some.inj h).symm⟩
theorem nV_len (l : List Nat) : (nV l).length = l.length := List.length_map _
theorem inV_nV {y : Nat} : ∀ {F : List Nat}, inV (.int (y : Nat)) (nV F) = decide (y ∈ F)
  | [] => rfl
  | x :: F => by
    have ih := inV_nV (y := y) (F := F)
    show (((x : Int) == (y : Int)) || inV (.int (y : Nat)) (nV F)) = decide (y ∈ x :: F)
    rw [ih, Bool.eq_iff_iff]
    simp only [Bool.or_eq_true, decide_eq_true_eq, List.mem_cons, beq_iff_eq]
    constructor
    · rintro (h | h)
      · exact .inl (by omega)
      · exact .inr h
    · rintro (h | h)
      · exact .inl (by omega)
      · exact .inr h
end Fm
namespace Fm
open PySem L2
def top (i : Nat) : Stmt := PySem.Challenge.pw_fademill_k08_whole_rounds.main.body.getD i (.Pass ⟨0, 0, 0, 0⟩)
structure Txt (K : PySem.W.Frag) (mg : Str → Option Value) : Prop where
  z_int : mg "int" = none
  z_len : mg "len" = none
  z_range : mg "range" = none
  z_isinstance : mg "isinstance" = none
  z_bool : mg "bool" = none
  z_tuple : mg "tuple" = none
  z_list : mg "list" = none
  z_str : mg "str" = none
  z_any : mg "any" = none
  z_sorted : mg "sorted" = none
  z_reversed : mg "reversed" = none
  z_enumerate : mg "enumerate" = none
  z_all : mg "all" = none
  z_zip : mg "zip" = none
  z_max : mg "max" = none
  z_min : mg "min" = none
  z_set : mg "set" = none
  z_dict : mg "dict" = none
  c_MOST_CELLS : ∃ t, mg "MOST_CELLS" = some (.int 4 t)
  c_MOST_FADE : ∃ t, mg "MOST_FADE" = some (.int 8 t)
  c_MOST_DEEDS : ∃ t, mg "MOST_DEEDS" = some (.int 400 t)
end Fm
set_option maxHeartbeats 1000000
namespace Fm
open PySem L2 Evl
structure Cal (P : Program) (w : World) (K : PySem.W.Frag) (mg : Str → Option Value) (base : Heap) (CX : CXT) (k : Nat) (x : Str) (f : Addr) (fd : FuncData) (ps : List Str) (sp : Sp) : Prop where
  G : FnOk P w K mg base CX k f fd ps sp
  g : mg x = some (.ref f)
  kp : PySem.W.keepIn K (.ref f) = true
  b : Binds K fd ps []
theorem tyx_up {K : PySem.W.Frag} {H H' : Hp} {x : V} {t : Value} (e : Ex H H') (h : TyX K H x t) : TyX K H' x t := by
  cases h with
  | base h =>
    refine .base ?_
    cases h with
    | non => exact .non
    | bl b => exact .bl b
    | int i => exact .int i
    | str s => exact .str s
    | flt s => exact .flt s
    | lst a => exact .lst (e _ _ a)
    | frz a => exact .frz (e _ _ a)
    | tup a => exact .tup (e _ _ a)
    | dK a => exact .dK (e _ _ a)
    | dT a => exact .dT (e _ _ a)
    | ins a b c d f g => exact .ins (e _ _ a) b c d f g
  | byt b => exact .byt b
  | set a => exact .set (e _ _ a)
  | kList a b => exact .kList a b
  | kTuple a b => exact .kTuple a b
  | kDict a b => exact .kDict a b
  | fTuple a => exact .fTuple (e _ _ a)
  | fDict a => exact .fDict (e _ _ a)
theorem ty_tup {K : PySem.W.Frag} {H : Hp} {a : Addr} {xs : List V} (h : SqT K H a xs) : TyX K H (.ref a) (.type "tuple") := by
  rcases h with (h | ⟨o, h⟩) | ⟨o, _, _, h, c, _⟩
  · exact .base (.tup h)
  · exact .fTuple h
  · exact .kTuple h c
theorem ty_lst {K : PySem.W.Frag} {H : Hp} {a : Addr} {xs : List V} (h : SqL K H a xs) : TyX K H (.ref a) (.type "list") := by
  rcases h with (h | ⟨o, h⟩) | ⟨o, _, _, h, c, _⟩
  · exact .base (.lst h)
  · exact .base (.frz h)
  · exact .kList h c
def IntV (K : PySem.W.Frag) (H : Hp) (x : V) : Option Int → Prop
  | some n => x = .int n
  | none => ∃ t, TyX K H x (.type t) ∧ (kitB t "int" = some false ∨ kitB t "int" = some true ∧ kitB t "bool" = some true)
theorem IntV.non {K : PySem.W.Frag} {H : Hp} : IntV K H .non none := ⟨"NoneType", .base .non, .inl (by decide +kernel)⟩
theorem IntV.bl {K : PySem.W.Frag} {H : Hp} {b : Bool} : IntV K H (.bl b) none := ⟨"bool", .base (.bl b), .inr ⟨by decide +kernel, by decide +kernel⟩⟩
theorem IntV.tup {K : PySem.W.Frag} {H : Hp} {a : Addr} {xs : List V} (h : SqT K H a xs) : IntV K H (.ref a) none := ⟨"tuple", ty_tup h, .inl (by decide +kernel)⟩
theorem IntV.up {K : PySem.W.Frag} {H H' : Hp} {x : V} {o : Option Int} (e : Ex H H') (h : IntV K H x o) : IntV K H' x o := by
  cases o with
  | some n => exact h
  | none =>
    obtain ⟨t, a, b⟩ := h
    exact ⟨t, tyx_up e a, b⟩
section
variable {K : PySem.W.Frag} {σ : L2.St} {H : Hp} {ta tb tc te : TE} {a b : Addr}
theorem ev_isi {x : V} {t n : String} {b : Bool} (ha : Ev ta σ H x) (ty : TyX K H x (.type t)) (e : kitB t n = some b) : Ev (tCB (rIsi K) (tCons ta (tCons (tC (.ty n)) tNil))) σ H (.bl b) := fun H1 e1 _ q =>
  ha H1 e1 _ fun H2 e2 => ⟨x, _, _, _, b, rfl, .ty n, tyx_up (e1.trans e2) ty, kit_ty e, q H2 e2⟩
theorem ev_chain {g g' : Int → Int → Bool} {i j k : Int} (ha : Ev ta σ H (.int i)) (hb : Ev tb σ H (.int j)) (hc : Ev tc σ H (.int k)) : Ev (tChain (rI0 fun i j => .bl (g i j)) (rI0 fun i j => .bl (g' i j)) ta tb tc) σ H (.bl (g i j && g' j k)) := fun H1 e1 Q q =>
  ha H1 e1 _ fun H2 e2 => hb H2 (e1.trans e2) _ fun H3 e3 => ⟨i, j, rfl, rfl, g i j, rfl, by
    cases h : g i j with
    | true => exact iteT (hc H3 ((e1.trans e2).trans e3) _ fun H4 e4 => ⟨j, k, rfl, rfl, by
        have := q H4 ((e2.trans e3).trans e4)
        rw [h] at this
        exact this⟩)
    | false =>
      refine iteF ?_
      have := q H3 (e2.trans e3)
      rw [h] at this
      exact this⟩
theorem s_call {sp : Sp} {E : XK} {ta : TA} {vs : List V} {D : Ends} (h : EvA ta σ H vs) (k : ∀ H1, Ex H H1 → sp (vs ++ []) H1 (fun _ H2 => D.nx σ H2) E) : tDrop (tCall sp [] E ta) D σ H := h H (Ex.refl H) _ k
theorem q_call {sp : Sp} {E : XK} {ta : TA} {vs : List V} {D : Ends} {tz : TS} (h : EvA ta σ H vs) (k : ∀ H1, Ex H H1 → sp (vs ++ []) H1 (fun _ H2 => tz D σ H2) E) : tSeq (tDrop (tCall sp [] E ta)) tz D σ H := h H (Ex.refl H) _ k
theorem q_callA {sp : Sp} {E : XK} {ta : TA} {vs : List V} {D : Ends} {tz : TS} {i : Nat} (h : EvA ta σ H vs) (k : ∀ H1, Ex H H1 → sp (vs ++ []) H1 (fun v H2 => tz D (σ.set i (some v)) H2) E) : tSeq (tAsg (tCall sp [] E ta) (gName i)) tz D σ H := h H (Ex.refl H) _ k
theorem ev_callV {sp : Sp} {E : XK} {ta : TA} {vs : List V} {z : V} (h : EvA ta σ H vs) (hs : ∀ H1, Ex H H1 → ∀ Q : VK, (∀ H2, Ex H1 H2 → Q z H2) → sp (vs ++ []) H1 Q E) : Ev (tCall sp [] E ta) σ H z := fun H1 e Q q =>
  h H1 e _ fun H2 e2 => hs H2 (e.trans e2) Q fun H3 e3 => q H3 (e2.trans e3)
end
end Fm
set_option maxHeartbeats 1000000
namespace Fm
open PySem L2
def spTaken (K : PySem.W.Frag) : Sp := fun vs H Q _ => ∃ (r s : Addr) (ns : List Int) (a b c many : Int), vs = [.ref r, .int many] ∧ H r = some (.lst [.ref s, .int a, .int b, .int c]) ∧ SqL K H s (ns.map V.int) ∧ 0 ≤ a ∧ 0 < many ∧ many < 1000000 ∧
  ∀ n a' b' c', 0 ≤ n → n < many → 0 ≤ a' → Q (.int n) (upd H r (.lst [.ref s, .int a', .int b', .int c']))
section
variable {P : Program} {w : World} {K : PySem.W.Frag} {mg : Str → Option Value} {base : Heap}
abbrev s_law_taken : Stmt := top 35
theorem sc_law_taken : FnScope ["row", "many", "found", "cell"] ["row", "many"] (defScope s_law_taken) := ⟨rfl, rfl, rfl, by decide +kernel, rfl, by decide +kernel, by decide +kernel⟩
theorem fmod_lo {a b : Int} (h : 0 < b) : 0 ≤ a.fmod b := Int.fmod_nonneg_of_pos a h
theorem fmod_hi {a b : Int} (h : 0 < b) : a.fmod b < b := Int.fmod_lt_of_pos a h
theorem row_ne {H : Hp} {r s s' : Addr} {a b c : Int} {ns : List Int} (h1 : H r = some (.lst [.ref s', .int a, .int b, .int c])) (h : Rd H s (.lst (ns.map V.int))) : r ≠ s := fun z => by
  subst z
  rcases h with h | ⟨u, h⟩
  · rw [h1] at h
    cases ns with
    | nil => cases h
    | cons n ns => cases h
  · rw [h1] at h
    cases h
theorem SqL_upd {H : Hp} {r s s' : Addr} {o : HO} {a b c : Int} {ns : List Int} (h1 : H r = some (.lst [.ref s', .int a, .int b, .int c])) (h : SqL K H s (ns.map V.int)) : SqL K (upd H r o) s (ns.map V.int) := by
  rcases h with h | h
  · have ne := row_ne h1 h
    rcases h with h | ⟨u, h⟩
    · exact .inl (.inl (by rw [upd_ne (Ne.symm ne)]; exact h))
    · exact .inl (.inr ⟨u, by rw [upd_ne (Ne.symm ne)]; exact h⟩)
  · exact .inr h
theorem ok_taken {f : Addr} {fd : FuncData} (F : Fun K "_law_taken" "_law_taken" s_law_taken f fd) (T : Txt K mg) : FnOk P w K mg base CX0 1 f fd ["row", "many"] (spTaken K) := by
  refine F.ok sc_law_taken (fun vs H Q E h => ?_) (fun cdv A outer s H vs Q E hr h => ?_)
  · obtain ⟨_, _, _, _, _, _, _, rfl, _⟩ := h
    rfl
  · obtain ⟨r, s, ns, a, b, c, many, rfl, h1, hs, ha, hm, hm2, k⟩ := h
    refine ⟨_, (pss_cons (ps_if (pt_cmpR op_gt (pe_ix (ix_K (K := K) rfl) (pv 0) pe_int (fun _ _ => rfl)) pe_int (nomark _)) (pss_cons (ps_set (i := 2) sc_law_taken.nd rfl (Or.inl rfl) (pe_op op_modN (pe_callTy call_int1 (by rfl) T.z_int (by decide +kernel) (pa_cons (pe_ix (ix_K (K := K) rfl) (pv 0) pe_int (fun _ _ => rfl)) pa_nil)) (pv 1)))
  (pss_cons (ps_asg (pe_op op_fdivN (pe_ix (ix_K (K := K) rfl) (pv 0) pe_int (fun _ _ => rfl)) (pv 1)) (pg_sub (pv 0) pe_int set_list))
  (pss_one (ps_ret (pv 2))))) pss_nil)
  (pss_cons (ps_asg (pe_op op_add (pe_ix (ix_K (K := K) rfl) (pv 0) pe_int (fun _ _ => rfl)) pe_int) (pg_sub (pv 0) pe_int set_list))
  (pss_cons (ps_if (pt_cmpR op_gt (pe_ix (ix_K (K := K) rfl) (pv 0) pe_int (fun _ _ => rfl)) (pe_callB (len_K (K := K) rfl) (by rfl) T.z_len (by decide +kernel) (pa_cons (pe_ix (ix_K (K := K) rfl) (pv 0) pe_int (fun _ _ => rfl)) pa_nil)) (nomark _)) (pss_cons (ps_asg (pe_op op_modN (pe_callTy call_int1 (by rfl) T.z_int (by decide +kernel) (pa_cons (pe_op op_add (pe_op op_mul (pe_ix (ix_K (K := K) rfl) (pv 0) pe_int (fun _ _ => rfl)) pe_int) pe_int) pa_nil)) pe_int) (pg_sub (pv 0) pe_int set_list))
  (pss_one (ps_ret (pe_op op_modN (pe_callTy call_int1 (by rfl) T.z_int (by decide +kernel) (pa_cons (pe_op op_fdivN (pe_ix (ix_K (K := K) rfl) (pv 0) pe_int (fun _ _ => rfl)) pe_int) pa_nil)) (pv 1))))) pss_nil)
  (pss_cons (ps_set (i := 3) sc_law_taken.nd rfl (Or.inl rfl) (pe_ix (ix_K (K := K) rfl) (pe_ix (ix_K (K := K) rfl) (pv 0) pe_int (fun _ _ => rfl)) (pe_op op_sub (pe_ix (ix_K (K := K) rfl) (pv 0) pe_int (fun _ _ => rfl)) pe_int) (fun _ _ => rfl)))
  (pss_cons (ps_asg (pe_op op_modN (pe_callTy call_int1 (by rfl) T.z_int (by decide +kernel) (pa_cons (pe_op op_add (pe_op op_add (pe_op op_mul (pe_ix (ix_K (K := K) rfl) (pv 0) pe_int (fun _ _ => rfl)) pe_int) (pv 3)) pe_int) pa_nil)) pe_int) (pg_sub (pv 0) pe_int set_list))
  (pss_cons (ps_if (pt_cmpR op_ge (pv 3) (pe_op op_pow pe_int pe_int) (nomark _)) (pss_one (ps_asg (pe_op op_fdivN (pv 3) (pv 1)) (pg_sub (pv 0) pe_int set_list))) pss_nil)
  (pss_one (ps_ret (pe_op op_modN (pe_callTy call_int1 (by rfl) T.z_int (by decide +kernel) (pa_cons (pv 3) pa_nil)) (pv 1)))))))))), ?_⟩
    have nz : many ≠ 0 := by omega
    have hq := SqL.of (K := K) h1
    refine st_seq (st_if (ans_i0 (val_ixL (val_var rfl) val_c hq rfl) val_c) (fun hc => ?_) (fun hc => ?_))
    · -- a rest
      refine st_asg (val_i (val_int1 (val_ixL (val_var rfl) val_c hq rfl)) (val_var rfl) nz) ?_
      refine st_setL (val_i (val_ixL (val_var rfl) val_c hq rfl) (val_var rfl) ⟨nz, by omega⟩) (val_var rfl) val_c h1 rfl ?_
      refine st_ret (val_var rfl) ?_
      exact k _ _ _ _ (fmod_lo hm) (fmod_hi hm) ha
    · refine st_setL (val_i0 (val_ixL (val_var rfl) val_c hq rfl) val_c) (val_var rfl) val_c h1 rfl ?_
      have hq1 := SqL.of (K := K) (upd_same (H := H) (a := r) (o := .lst ([.ref s, .int a, .int b, .int c].set 1 (.int (a + 1)))))
      have hs1 := SqL_upd (K := K) (o := .lst ([.ref s, .int a, .int b, .int c].set 1 (.int (a + 1)))) h1 hs
      refine st_seq (st_if (ans_i0 (val_ixL (val_var rfl) val_c hq1 rfl) (val_lenX (val_ixL (val_var rfl) val_c hq1 rfl) (.inl ⟨_, hs1, rfl⟩))) (fun hc => ?_) (fun hc => ?_))
      · refine st_setL (val_i (val_int1 (val_i0 (val_i (val_ixL (val_var rfl) val_c hq1 rfl) val_c (.inr ⟨by decide, by decide⟩)) val_c)) val_c (by decide)) (val_var rfl) val_c upd_same rfl ?_
        rw [upd_upd]
        refine st_ret (val_i (val_int1 (val_i (val_ixL (val_var rfl) val_c (SqL.of upd_same) rfl) val_c ⟨by decide, by decide⟩)) (val_var rfl) nz) ?_
        exact k _ _ _ _ (fmod_lo hm) (fmod_hi hm) (by omega)
      · have hlt : a < (ns.length : Int) := by
          have := of_decide_eq_false hc
          rw [List.length_map] at this
          omega
        have e1 : atI (ns.map V.int) (a + 1 - 1) = some (.int (ns[a.toNat]'(by omega))) := by
          have : a + 1 - 1 = a := by omega
          rw [this]
          unfold atI ixN
          rw [if_pos ha, if_pos (by rw [List.length_map]; exact hlt)]
          simp
        refine st_asg (val_ixL (val_ixL (val_var rfl) val_c hq1 rfl) (val_i0 (val_ixL (val_var rfl) val_c hq1 rfl) val_c) hs1 e1) ?_
        refine st_setL (val_i (val_int1 (val_i0 (val_i0 (val_i (val_ixL (val_var rfl) val_c hq1 rfl) val_c (.inr ⟨by decide, by decide⟩)) (val_var rfl)) val_c)) val_c (by decide)) (val_var rfl) val_c upd_same rfl ?_
        rw [upd_upd]
        refine st_seq (st_if (ans_i0 (val_var rfl) (val_i val_c val_c ⟨by decide, by decide, by decide⟩)) (fun hc => ?_) (fun hc => ?_))
        · refine st_setL1 (val_i (val_var rfl) (val_var rfl) ⟨nz, by omega⟩) (val_var rfl) val_c upd_same rfl ?_
          rw [upd_upd]
          dsimp only
          refine st_ret (val_i (val_int1 (val_var rfl)) (val_var rfl) nz) ?_
          exact k _ _ _ _ (fmod_lo hm) (fmod_hi hm) (by omega)
        · refine st_next ?_
          dsimp only
          refine st_ret (val_i (val_int1 (val_var rfl)) (val_var rfl) nz) ?_
          exact k _ _ _ _ (fmod_lo hm) (fmod_hi hm) (by omega)
end
end Fm
set_option maxHeartbeats 1000000
namespace Fm
open PySem L2 Evl
section
variable {P : Program} {w : World} {K : PySem.W.Frag} {mg : Str → Option Value} {base : Heap}
def inRange (o : Option Int) (lo hi : Int) : Bool := match o with
  | some n => decide (lo ≤ n) && decide (n ≤ hi)
  | none => false
def spIsInt (K : PySem.W.Frag) : Sp := fun vs H Q _ => ∃ (x : V) (lo hi : Int) (o : Option Int), vs = [x, .int lo, .int hi] ∧ IntV K H x o ∧ ∀ H', Ex H H' → Q (.bl (inRange o lo hi)) H'
def spIsWhole (K : PySem.W.Frag) : Sp := fun vs H Q _ => ∃ (x : V) (o : Option Int), vs = [x] ∧ IntV K H x o ∧ ∀ H', Ex H H' → Q (.bl o.isSome) H'
abbrev s_is_whole : Stmt := top 9
theorem sc_is_whole : FnScope ["value"] ["value"] (defScope s_is_whole) := ⟨rfl, rfl, rfl, by decide +kernel, rfl, by decide +kernel, by decide +kernel⟩
theorem ok_is_whole {f : Addr} {fd : FuncData} (F : Fun K "is_whole" "is_whole" s_is_whole f fd) (T : Txt K mg) : FnOk P w K mg base CX0 1 f fd ["value"] (spIsWhole K) := by
  refine F.ok sc_is_whole (fun vs H Q E h => ?_) (fun cdv A outer s H vs Q E hr h => ?_)
  · obtain ⟨_, _, rfl, _⟩ := h
    rfl
  · obtain ⟨x, o, rfl, hx, k⟩ := h
    refine ⟨_, (pss_one (ps_ret (pe_and (pe_callB (isi_K (K := K) rfl) (by rfl) T.z_isinstance (by decide +kernel) (pa_cons (pv 0) (pa_cons (pe_bltn (v := .ty "int") (by rfl) T.z_int (by decide +kernel) rfl) pa_nil))) (pe_one (pe_not (pe_callB (isi_K (K := K) rfl) (by rfl) T.z_isinstance (by decide +kernel) (pa_cons (pv 0) (pa_cons (pe_bltn (v := .ty "bool") (by rfl) T.z_bool (by decide +kernel) rfl) pa_nil)))))))), ?_⟩
    cases o with
    | some n =>
      cases hx
      refine s_ret (v := .bl (true && !false)) (ev_andV (ev_isi (t := "int") (ev_var rfl) (.base (.int n)) (by decide +kernel)) fun _ => ev_notV (ev_isi (t := "int") (ev_var rfl) (.base (.int n)) (by decide +kernel))) fun H1 e1 => k H1 e1
    | none =>
      obtain ⟨t, ty, h | ⟨h, h2⟩⟩ := hx
      · refine s_ret (v := .bl (false && false)) (ev_andV (b := false) (ev_isi (ev_var rfl) ty h) fun z => nomatch z) fun H1 e1 => k H1 e1
      · refine s_ret (v := .bl (true && !true)) (ev_andV (ev_isi (ev_var rfl) ty h) fun _ => ev_notV (ev_isi (ev_var rfl) ty h2)) fun H1 e1 => k H1 e1
abbrev s_is_integer : Stmt := top 10
theorem sc_is_integer : FnScope ["value", "low", "high"] ["value", "low", "high"] (defScope s_is_integer) := ⟨rfl, rfl, rfl, by decide +kernel, rfl, by decide +kernel, by decide +kernel⟩
theorem ok_is_integer {f f1 : Addr} {fd fd1 : FuncData} (F : Fun K "is_integer" "is_integer" s_is_integer f fd) (T : Txt K mg) (C_is_whole : Cal P w K mg base CX0 1 "is_whole" f1 fd1 ["value"] (spIsWhole K)) : FnOk P w K mg base CX0 2 f fd ["value", "low", "high"] (spIsInt K) := by
  refine F.ok sc_is_integer (fun vs H Q E h => ?_) (fun cdv A outer s H vs Q E hr h => ?_)
  · obtain ⟨_, _, _, _, rfl, _⟩ := h
    rfl
  · obtain ⟨x, lo, hi, o, rfl, hx, k⟩ := h
    refine ⟨_, (pss_one (ps_ret (pe_and (pe_call C_is_whole.G (hr.mono (by first | decide | omega)) rfl C_is_whole.g C_is_whole.kp C_is_whole.b .nil pass0 (pa_cons (pv 0) pa_nil)) (pe_one (pe_chain op_le op_le (pv 1) (pv 0) (pv 2)))))), ?_⟩
    cases o with
    | some n =>
      cases hx
      refine s_ret (v := .bl (true && (decide (lo ≤ n) && decide (n ≤ hi)))) (ev_andV (ev_callV (ea_cons (ev_var rfl) ea_nil) fun H1 e1 Q' q => ⟨_, some n, rfl, rfl, q⟩) fun _ => ev_chain (ev_var rfl) (ev_var rfl) (ev_var rfl)) fun H1 e1 => k H1 e1
    | none =>
      refine s_ret (v := .bl (false && false)) (ev_andV (b := false) (ev_callV (ea_cons (ev_var rfl) ea_nil) fun H1 e1 Q' q => ⟨_, none, rfl, hx.up e1, q⟩) fun z => nomatch z) fun H1 e1 => k H1 e1
end
end Fm
set_option maxHeartbeats 1000000
namespace Fm
open PySem PySem.Spec PyProof.Rows L2
theorem meets_enum1 {v : Value} {o : Obj} {G : Heap → Prop} (B : Begins v o G) :
    Meets (Builtin.«enumerate.__new__» ⟨[.type "enumerate", v], []⟩) (fun _ R s => G s.heap ∧
      R (.ok (.ret (.ref (s.heap.push o).objs.size))) { s with heap := (s.heap.push o).push { cls := .type "enumerate", data := .fields #[.none, .bool false, .ref s.heap.objs.size, rawInt 0, .none, .none] } }) :=
  .of_wp fun prog w A R s h => by
    obtain ⟨hp, g, d, tk, os⟩ := s; have h1 := h.1; have h2 := h.2
    have hsub := sub_enumerate
    have q1 : ∀ {A' : Around} {E : Value → Shared → Prop} {Q : Value → Shared → Prop}, Q (.ref hp.objs.size) ⟨hp.push o, g, d, tk, os⟩ → wpAny (model prog w) A' (pyIter v) Q E ⟨hp, g, d, tk, os⟩ :=
      fun q => B.iter prog w _ _ ⟨hp, g, d, tk, os⟩ _ h1 q
    wp_walk using q1
    refine wpAny_stack_any fun st => wpAny_pure ?_
    split
    · rename_i c _ _ _ _ _
      cases (c == Value.type "enumerate") <;> (wp_walk using q1; exact ⟨_, rfl, h2⟩)
    · wp_walk using q1; exact ⟨_, rfl, h2⟩
section
variable {prog : Program} {w : World} {A : Around} {E : Value → Shared → Prop} {s : Shared}
theorem call_enum_tup {a : Addr} {its : Array Value} {Q : Value → Shared → Prop} (hL : s.heap.IsTuple a its)
    (h : ∀ h', IsEnum h' (s.heap.objs.size + 1) s.heap.objs.size 0 .none → h'.IsTupleIter s.heap.objs.size a 0 → (∀ b o, s.heap.get? b = some o → h'.get? b = some o) → Q (.ref (s.heap.objs.size + 1)) { s with heap := h' }) :
    wpAny (model prog w) A (call (.type "enumerate") [.ref a]) Q E s := by
  refine callType_new F.called_enumerate (by decide) (F.typeCall_enumerate_1 _) (F.newCall_enumerate_1 _) (fun obj => F.args_object_init_2 obj _) F.entry_enumerate_new (meets_enum1 (begins_tuple a its)) ⟨hL, ?_⟩
  have hz : (s.heap.push { cls := .type "tuple_iterator", data := .fields #[.ref a, .int 0 0] }).objs.size = s.heap.objs.size + 1 := Heap.size_push ..
  rw [hz]
  have he : IsEnum ((s.heap.push { cls := .type "tuple_iterator", data := .fields #[.ref a, .int 0 0] }).push { cls := .type "enumerate", data := .fields #[.none, .bool false, .ref s.heap.objs.size, rawInt 0, .none, .none] }) (s.heap.objs.size + 1) s.heap.objs.size 0 .none := by
    have y := Heap.get?_push_size (s.heap.push { cls := .type "tuple_iterator", data := .fields #[.ref a, .int 0 0] }) (o := { cls := .type "enumerate", data := .fields #[.none, .bool false, .ref s.heap.objs.size, rawInt 0, .none, .none] }) rfl
    rw [hz] at y; exact y
  exact ⟨⟨_, he, rfl⟩, h _ he ⟨_, Heap.get?_push_of_some _ (Heap.get?_push_size _ rfl), rfl, rfl⟩ fun b o x => Heap.get?_push_of_some _ (Heap.get?_push_of_some _ x)⟩
end
def Itet (K : PySem.W.Frag) (a : Addr) : It :=
  ⟨fun i H => ∃ (xs : List V) (x : V), SqT K H a xs ∧ xs[i]? = some x, fun i H v H' => ∃ T x, v = .ref T ∧ H T = none ∧ H' = upd H T (.tup [.int (i : Nat), x]) ∧ ∀ xs, SqT K H a xs → xs[i]? = some x, fun i H => ∃ xs : List V, SqT K H a xs ∧ xs.length = i⟩
theorem turn_enumT {P : Program} {w : World} {K : PySem.W.Frag} {elts : List Expr} {kk : Nat} {tpos : Pos} (a e it : Addr) (hat : a ≠ it) :
    Turn P w K (.Tuple elts kk tpos) (Itet K a) [e, it] e (fun i h => (∃ old, IsEnum h e it ((i : Nat) : Int) old) ∧ h.IsTupleIter it a i ∧ e ≠ it ∧ e ≠ a) where
  mem := by simp
  obj := fun i h st b hb => by
    obtain ⟨⟨old, he⟩, ⟨o, ho, hc, hd⟩, _⟩ := st
    rcases (show b = e ∨ b = it by simpa using hb) with z | z
    · rw [z]; exact ⟨_, he, fun v q => nomatch q⟩
    · rw [z]; exact ⟨o, ho, fun v q => by rw [hd] at q; cases q⟩
  keep := fun i h h' st k => let ⟨⟨old, he⟩, hi, hne⟩ := st; ⟨⟨old, k e (by simp) _ he⟩, hi.at fun o q => k it (by simp) o q, hne⟩
  item := by
    intro X hP hw hK hc i pins s σ H E I hf st hg
    subst hP hw hK
    obtain ⟨⟨old, he⟩, hit, hne, hea⟩ := st
    obtain ⟨xs, x, hq, hx⟩ := hg
    obtain ⟨its, rv, p, hz⟩ := I.tuple hq
    obtain ⟨u, hu, ru⟩ := rv.get hx
    have p' : s.heap.IsTuple a its.toArray := p
    have hel : e < s.heap.objs.size := Heap.lt_size he
    have hil : it < s.heap.objs.size := by obtain ⟨_, q, _⟩ := hit; exact Heap.lt_size q
    have hil2 : i < its.toArray.size := by
      have := (List.getElem?_eq_some_iff.mp hu).1
      simpa using this
    refine wpAny_pyNext_enum_itemC (Draws.tuple (A := X.A.in1) (I.ok.hd hc) it a hat its.toArray) he ⟨hit, p'⟩ hil2 hne (by simp [hne, hea]) fun x2 h' tk hP2 ho hst' hT hsz hk => ?_
    have ex2 : x2 = u := by
      have q : its.toArray[i]? = some x2 := hP2
      rw [List.getElem?_toArray, hu] at q
      exact (Option.some.inj q).symm
    subst ex2
    refine ⟨_, rfl, wpAny_letOwnedTupleGo_enum (s := { s with heap := h', toks := tk + 1 }) ho fun h'' he' sb => ?_⟩
    have hT2 : h''.get? s.heap.objs.size = some { cls := .type "tuple", data := .seq #[.int i tk, x2] } := (sb.2 _ (Nat.ne_of_gt hel)).trans hT
    have new : ObjOk X.prog X.w (upd H s.heap.objs.size (.tup [.int (i : Nat), x])) h'' s.heap.objs.size (.tup [.int (i : Nat), x]) :=
      ⟨by show 2 ≤ sizeLine; decide, [.int i tk, x2], .cons ⟨_, rfl⟩ (.cons ru .nil), ⟨_, hT2, rfl, _, rfl⟩⟩
    have I1 : Inv X pins σ (upd H s.heap.objs.size (.tup [.int (i : Nat), x])) { s with heap := h'', toks := tk + 1 } :=
      I.turnedNew (ch := [e, it]) (fun b ob hb q => (sb.2 b (fun z => hb (by simp [z]))).trans (hk b ob (fun z => hb (by simp [z])) (fun z => hb (by simp [z])) q)) hf (Nat.le_refl _) new
    refine ⟨.ref s.heap.objs.size, _, I1, rfl, ⟨_, x, rfl, I.hok.fresh (Nat.le_refl _), rfl, fun ys hy => by rw [I.tuple_inj hy hq]; exact hx⟩, ⟨⟨x2, ?_⟩, hst'.1.at fun o q => (sb.2 it (Ne.symm hne)).trans q, hne, hea⟩, fun b hb => ?_⟩
    · have e1 : ((i + 1 : Nat) : Int) = (i : Int) + 1 := by omega
      rw [e1]; exact he'
    · have hb' : b < s.heap.objs.size := by
        rcases (show b = e ∨ b = it by simpa using hb) with z | z
        · rw [z]; exact hel
        · rw [z]; exact hil
      rw [upd_ne (Nat.ne_of_lt hb')]
      exact (hf b hb).1
  done := by
    intro X hP hw hK hc i pins s σ H E I hf st hg
    subst hP hw hK
    obtain ⟨⟨old, he⟩, hit, hne, hea⟩ := st
    obtain ⟨xs, hq, hx⟩ := hg
    obtain ⟨its, rv, p, hz⟩ := I.tuple hq
    have p' : s.heap.IsTuple a its.toArray := p
    obtain ⟨f0, f1, f2, f3, f4, f5⟩ := hf it (by simp)
    have hl := rv.length
    have hsz : its.toArray.size = i := by
      rw [List.size_toArray]
      omega
    refine wpAny_pyNext_enum_endD (Draws.tuple (A := X.A.in1) (I.ok.hd hc) it a hat its.toArray) he ⟨by rw [hsz]; exact hit, p'⟩ fun h' eb => ⟨rfl, I.turned (t' := s.toks) (fun b o hb q => eb b o hb q) f0 f1 f3 f4 f5⟩
  self := fun A i s Q E st h => let ⟨⟨_, he⟩, _⟩ := st; wpAny_pyIter_enum he h
def iEnumT (K : PySem.W.Frag) (ta : TA) : TI := fun σ H R => ta σ H fun vs H1 => ∃ a xs, vs = [.ref a] ∧ SqT K H1 a xs ∧ R (Itet K a) H1
theorem pi_enumT {X : Cx} {e : Expr} {ta : TA} {p pos tpos : Pos} {elts : List Expr} {kk : Nat} (hg : Gl X "enumerate") (hm : X.mg "enumerate" = none) (ha : PA X [e] ta) (hs : starEach [e] X.env = [(false, eval e X.env)] := by rfl) :
    PI X (.Tuple elts kk tpos) (.Call (.Name "enumerate" p) [e] [] pos) (iEnumT X.K ta) := by
  refine ⟨fun pins s σ H R I h => ?_⟩
  refine Call_ (ld_blt I hg hm boot_enumerate (PyProof.Rows.callWith_type1 (thn (ha.run pos pins s σ H _ I h) fun us s1 ⟨vs, H1, I1, r1, q1⟩ => ?_) hs rfl))
  obtain ⟨a, xs, ex, hq, q⟩ := q1
  subst ex
  cases r1 with
  | cons r rr =>
    cases rr
    cases r
    obtain ⟨its, rv, p', hz⟩ := I1.tuple hq
    have p'' : s1.heap.IsTuple a its.toArray := p'
    have hal : a < s1.heap.objs.size := p'.lt
    refine call_enum_tup p'' fun h' he hit hk => wpAny_pyIter_enum he ?_
    have I2 : Inv X pins σ H1 { s1 with heap := h' } := I1.kept (t' := s1.toks) hk
    refine ⟨s1.heap.objs.size + 1, [s1.heap.objs.size + 1, s1.heap.objs.size], _, _, H1, rfl, I2, turn_enumT a (s1.heap.objs.size + 1) s1.heap.objs.size (Nat.ne_of_lt hal), ⟨⟨.none, he⟩, hit, Nat.succ_ne_self _, Nat.ne_of_gt (Nat.lt_succ_of_lt hal)⟩, fun b hb => ?_, q⟩
    have hle : s1.heap.objs.size ≤ b := by
      rcases (show b = s1.heap.objs.size + 1 ∨ b = s1.heap.objs.size by simpa using hb) with z | z
      · rw [z]; exact Nat.le_add_right _ _
      · rw [z]; exact Nat.le_refl _
    exact I1.fpOk hle (I1.hok.fresh hle)
open Evl in
theorem s_forET {K : PySem.W.Frag} {a : Addr} {xs : List V} {te : TE} {i j : Nat} {tu : TS} {D : Ends} {σ : L2.St} {H : Hp} (h : Ev te σ H (.ref a)) (hx : SqT K H a xs) (Pv : Nat → L2.St → Hp → Prop) (h0 : ∀ H1, Ex H H1 → Pv 0 σ H1)
    (hl : ∀ m σ' H', m ≤ xs.length → Pv m σ' H' → SqT K H' a xs)
    (hs : ∀ m x σ' H', xs[m]? = some x → Pv m σ' H' → ∀ H2, Ex H' H2 → tu { D with nx := Pv (m + 1), ct := Pv (m + 1), bk := D.nx } ((σ'.set i (some (.int (m : Int)))).set j (some x)) H2) (hd : ∀ σ' H', Pv xs.length σ' H' → D.nx σ' H') :
    tFor (iEnumT K (tCons te tNil)) (gTup K 2 (gCons (gName i) (gCons (gName j) gNil))) tu D σ H := h H (Ex.refl H) _ fun H1 e => by
  refine ⟨a, xs, rfl, ex_t e hx, fun m μ σ H => μ = xs.length - m ∧ m ≤ xs.length ∧ Pv m σ H, ⟨xs.length, by simp, Nat.zero_le _, h0 H1 e⟩, ?_⟩
  rintro m μ σ2 H2 ⟨rfl, hm, p⟩
  have q := hl m σ2 H2 hm p
  by_cases hlt : m < xs.length
  · refine .inr ⟨⟨xs, xs[m], q, by simp [hlt]⟩, Pv (m + 1), fun σ' H' p' => ⟨xs.length - (m + 1), by omega, rfl, hlt, p'⟩, ?_⟩
    rintro v H3 ⟨T, x, rfl, hT, rfl, hy⟩
    refine ⟨T, _, rfl, SqT.of upd_same, rfl, _, _, rfl, ?_⟩
    refine ⟨_, _, rfl, ?_⟩
    exact ⟨rfl, hs m x σ2 H2 (hy xs q) p _ (Ex.new hT)⟩
  · have e2 : m = xs.length := by omega
    subst e2
    exact .inl ⟨⟨xs, q, rfl⟩, hd σ2 H2 p⟩
open Evl in
theorem q_forET {K : PySem.W.Frag} {a : Addr} {xs : List V} {te : TE} {i j : Nat} {tu tz : TS} {D : Ends} {σ : L2.St} {H : Hp} (h : Ev te σ H (.ref a)) (hx : SqT K H a xs) (Pv : Nat → L2.St → Hp → Prop) (h0 : ∀ H1, Ex H H1 → Pv 0 σ H1)
    (hl : ∀ m σ' H', m ≤ xs.length → Pv m σ' H' → SqT K H' a xs)
    (hs : ∀ m x σ' H', xs[m]? = some x → Pv m σ' H' → ∀ H2, Ex H' H2 → tu { D with nx := Pv (m + 1), ct := Pv (m + 1), bk := tz D } ((σ'.set i (some (.int (m : Int)))).set j (some x)) H2) (hd : ∀ σ' H', Pv xs.length σ' H' → tz D σ' H') :
    tSeq (tFor (iEnumT K (tCons te tNil)) (gTup K 2 (gCons (gName i) (gCons (gName j) gNil))) tu) tz D σ H := s_forET (D := { D with nx := tz D }) h hx Pv h0 hl hs hd
end Fm
set_option maxHeartbeats 1000000
namespace Fm
open PySem L2 Evl
section
variable {K : PySem.W.Frag} {H : Hp} {σ : L2.St} {ta tb : TE}
def In.one : In → Bool
  | .say => true | .ask => true | .stop => true
  | _ => false
theorem ev_neg {i : Int} (h : Ev ta σ H (.int i)) : Ev (tUn (rU fun i => .int (-i)) ta) σ H (.int (-i)) := ev_un h ru_neg
end
def In.rd : In → Bool
  | .get _ => true | .plus _ => true | .minus _ => true
  | _ => false
def In.isSet : In → Bool
  | .set _ => true
  | _ => false
end Fm
set_option maxHeartbeats 1000000
namespace Fm
open PySem L2 Evl
section
variable {K : PySem.W.Frag} {σ : L2.St} {H : Hp} {ta tb te : TE} {D : Ends} {tz : TS}
abbrev rTpl (K : PySem.W.Frag) : List V → Hp → VK → Prop := fun xs H Q => ∃ p ys, xs = [.ref p] ∧ ((SqL K H p ys ∧ ∀ l, H l = none → Q (.ref l) (upd H l (.tup ys))) ∨ (SqT K H p ys ∧ Q (.ref p) H))
theorem eu_tpl {a : Addr} {xs : List V} (ha : Ev ta σ H (.ref a)) (h : SqL K H a xs) : EvU (tCB (rTpl K) (tCons ta tNil)) σ H xs := fun H1 e Q q =>
  ha H1 e _ fun H2 e2 => ⟨a, xs, rfl, .inl ⟨ex_l (e.trans e2) h, fun l hl => q l _ (fresh_back e2 hl) (e2.trans (Ex.new hl)) upd_same⟩⟩
theorem eu_tplN {xs : List V} (ha : EvL ta σ H xs) : EvU (tCB (rTpl K) (tCons ta tNil)) σ H xs := fun H1 e Q q =>
  ha H1 e _ fun p H2 hp e2 h2 => ⟨p, xs, rfl, .inl ⟨sq_of h2, fun l hl => q l _ (fresh_back e2 hl) (e2.trans (Ex.new hl)) upd_same⟩⟩
abbrev rIsNn : R2 := fun x y H Q => y = .non ∧ Q (.bl (decide (x = .non))) H
theorem et_isN {x : V} (ha : Ev ta σ H x) : EvT (tTest (tOp rIsNn ta (tC .non))) σ H (decide (x = .non)) := et_test (ev_op ha ev_c fun H1 _ _ q => ⟨rfl, q H1 (Ex.refl H1)⟩)
theorem ev_isN {x : V} (ha : Ev ta σ H x) : Ev (tOp rIsNn ta (tC .non)) σ H (.bl (decide (x = .non))) := ev_op ha ev_c fun H1 _ _ q => ⟨rfl, q H1 (Ex.refl H1)⟩
theorem ev_succ {n : Nat} (ha : Ev ta σ H (.int (n : Nat))) : Ev (tOp (rI0 fun i j => .int (i + j)) ta (tC (.int 1))) σ H (.int ((n + 1 : Nat) : Int)) := by
  have := ev_i0 (g := fun i j => .int (i + j)) ha (ev_c (v := .int 1) (σ := σ) (H := H))
  exact this
end
end Fm
set_option maxHeartbeats 1000000
namespace Fm
open PySem L2 Evl
def rem (H : Hp) (r : Addr) : Hp := fun b => if b = r then none else H b
theorem rem_ne {H : Hp} {r b : Addr} (h : b ≠ r) : rem H r b = H b := if_neg h
theorem rem_eq {H : Hp} {r : Addr} : rem H r r = none := if_pos rfl
theorem rem_ex {H : Hp} {r : Addr} : Ex (rem H r) H := fun b o h => by
  by_cases z : b = r
  · rw [z, rem_eq] at h; cases h
  · rwa [rem_ne z] at h
theorem Ex.past {H0 H1 H2 : Hp} {r : Addr} (e : Ex H0 H1) (h : H0 r = none) (e' : Ex (rem H1 r) H2) : Ex H0 H2 := fun b o hb => e' b o (by
  rw [rem_ne (fun z => by rw [z, h] at hb; cases hb)]
  exact e b o hb)
section
variable {K : PySem.W.Frag} {H H' : Hp} {r s a l : Addr} {xs ys : List V} {ns : List Int}
theorem sqL_rem (hr : s ≠ r) (h : SqL K H s xs) : SqL K (rem H r) s xs := by
  rcases h with (h | ⟨u, h⟩) | h
  · exact .inl (.inl (by rw [rem_ne hr]; exact h))
  · exact .inl (.inr ⟨u, by rw [rem_ne hr]; exact h⟩)
  · exact .inr h
def RowC (H : Hp) (r s : Addr) : Prop := ∃ a b c : Int, H r = some (.lst [.ref s, .int a, .int b, .int c]) ∧ 0 ≤ a
structure RowAt (K : PySem.W.Frag) (H : Hp) (r s : Addr) (ns : List Int) : Prop where
  c : RowC H r s
  q : SqL K H s (ns.map V.int)
theorem RowC.up (e : Ex H H') (h : RowC H r s) : RowC H' r s := let ⟨a, b, c, h1, h2⟩ := h; ⟨a, b, c, e _ _ h1, h2⟩
theorem RowAt.up (e : Ex H H') (h : RowAt K H r s ns) : RowAt K H' r s ns := ⟨h.c.up e, ex_l e h.q⟩
theorem RowAt.qr (h : RowAt K H r s ns) : SqL K (rem H r) s (ns.map V.int) := by
  obtain ⟨⟨a, b, c, h1, _⟩, h | h⟩ := h
  · have ne := row_ne h1 h
    exact sqL_rem ne.symm (.inl h)
  · exact .inr h
theorem RowAt.to (h : RowAt K H r s ns) (e : Ex (rem H r) H') (c : RowC H' r s) : RowAt K H' r s ns := ⟨c, ex_l e h.qr⟩
theorem RowAt.lst (h : RowAt K H r s ns) : ∃ ys, H r = some (.lst ys) := let ⟨_, _, _, h1, _⟩ := h.c; ⟨_, h1⟩
end
def spTak (K : PySem.W.Frag) : Sp := fun vs H Q _ => ∃ (r s : Addr) (ns : List Int) (m : Nat), vs = [.ref r, .int (m : Nat)] ∧ RowAt K H r s ns ∧ 0 < m ∧ m < 1000000 ∧ ∀ (n : Nat) H', n < m → RowAt K H' r s ns → Ex (rem H r) H' → Q (.int (n : Nat)) H'
theorem tak_imp {K : PySem.W.Frag} (vs : List V) (H : Hp) (Q : VK) (E : XK) (h : spTak K vs H Q E) : spTaken K vs H Q E := by
  obtain ⟨r, s, ns, m, rfl, R, h1, h2, k⟩ := h
  have R0 := R
  obtain ⟨⟨a, b, c, hr, ha⟩, hq⟩ := R
  refine ⟨r, s, ns, a, b, c, (m : Int), rfl, hr, hq, ha, by omega, by omega, fun n a' b' c' n0 nm a0 => ?_⟩
  have e : Ex (rem H r) (upd H r (.lst [.ref s, .int a', .int b', .int c'])) := fun x o hx => by
    by_cases z : x = r
    · rw [z, rem_eq] at hx; cases hx
    · rw [rem_ne z] at hx
      rw [upd_ne z]
      exact hx
  have := k n.toNat _ (by omega) (R0.to e ⟨a', b', c', upd_same, a0⟩) e
  rwa [show ((n.toNat : Nat) : Int) = n by omega] at this
section
variable {K : PySem.W.Frag} {σ : L2.St} {H : Hp} {ta tb te : TE} {tr tA : TA} {D : Ends} {tz : TS} {Q : VK} {x : V} {r : R2}
theorem m_op (ha : Ev ta σ H x) (k : ∀ H1, Ex H H1 → tb σ H1 fun y H2 => r x y H2 Q) : tOp r ta tb σ H Q := ha H (Ex.refl H) _ k
theorem m_appQ {l : Addr} {xs : List V} (ha : Ev ta σ H (.ref l)) (hl : H l = some (.lst xs)) (k : ∀ H1, Ex H H1 → te σ H1 fun v H2 => rAppend (.ref l) [v] H2 fun _ H3 => tz D σ H3) : tSeq (tDrop (tBM K "list" rAppend ta (tCons te tNil))) tz D σ H :=
  ha H (Ex.refl H) _ fun H1 e1 => ⟨Or.inl ⟨rfl, xs, sq_of (e1 l _ hl)⟩, k H1 e1⟩
theorem m_call {sp : Sp} {E : XK} {vs : List V} (h : EvA tA σ H vs) (k : ∀ H1, Ex H H1 → sp (vs ++ []) H1 Q E) : tCall sp [] E tA σ H Q := h H (Ex.refl H) _ k
end
def spPick (K : PySem.W.Frag) : Sp := fun vs H Q _ => ∃ (r s t : Addr) (ns : List Int) (xs : List V), vs = [.ref r, .ref t] ∧ RowAt K H r s ns ∧ SqL K H t xs ∧ t ≠ r ∧ 0 < xs.length ∧ xs.length < 1000000 ∧ ∀ x H', x ∈ xs → RowAt K H' r s ns → Ex (rem H r) H' → Q x H'
section
variable {P : Program} {w : World} {K : PySem.W.Frag} {mg : Str → Option Value} {base : Heap}
theorem ok_tak {f : Addr} {fd : FuncData} (F : Fun K "_law_taken" "_law_taken" s_law_taken f fd) (T : Txt K mg) : FnOk P w K mg base CX0 1 f fd ["row", "many"] (spTak K) := (ok_taken F T).imp tak_imp
abbrev s_law_pick : Stmt := top 36
theorem sc_law_pick : FnScope ["row", "things"] ["row", "things"] (defScope s_law_pick) := ⟨rfl, rfl, rfl, by decide +kernel, rfl, by decide +kernel, by decide +kernel⟩
theorem ok_pick {f f1 : Addr} {fd fd1 : FuncData} (F : Fun K "_law_pick" "_law_pick" s_law_pick f fd) (T : Txt K mg) (C_law_taken : Cal P w K mg base CX0 1 "_law_taken" f1 fd1 ["row", "many"] (spTak K)) : FnOk P w K mg base CX0 2 f fd ["row", "things"] (spPick K) := by
  refine F.ok sc_law_pick (fun vs H Q E h => ?_) (fun cdv A outer s H vs Q E hr h => ?_)
  · obtain ⟨_, _, _, _, _, rfl, _⟩ := h
    rfl
  · obtain ⟨r, s, t, ns, xs, rfl, R, ht, hne, h0, h1, k⟩ := h
    refine ⟨_, (pss_one (ps_ret (pe_ix (ix_K (K := K) rfl) (pv 1) (pe_call C_law_taken.G (hr.mono (by first | decide | omega)) rfl C_law_taken.g C_law_taken.kp C_law_taken.b .nil pass0 (pa_cons (pv 0) (pa_cons (pe_callB (len_K (K := K) rfl) (by rfl) T.z_len (by decide +kernel) (pa_cons (pv 1) pa_nil)) pa_nil))) (fun _ _ => rfl)))), ?_⟩
    refine m_op (ev_var rfl) fun H1 e1 => m_call (ea_cons (ev_var rfl) (ea_cons (ev_lnL (ev_var rfl) (ex_l e1 ht)) ea_nil)) fun H2 e2 => ?_
    refine ⟨r, s, ns, xs.length, rfl, R.up (e1.trans e2), h0, h1, fun n H3 hn R3 e3 => ?_⟩
    have e13 : Ex (rem H r) H3 := Ex.past (rem_ex.trans (e1.trans e2)) rem_eq e3
    have ht3 := ex_l e13 (sqL_rem hne ht)
    exact .inl ⟨t, xs, (n : Int), xs[n], rfl, rfl, ht3, atI_nat' (List.getElem?_eq_getElem hn), k _ H3 (List.getElem_mem hn) R3 e13⟩
end
end Fm
set_option maxHeartbeats 1000000
set_option maxHeartbeats 1000000
namespace Fm
open PySem L2 Evl
def iD (zs : List Int) : List PyData := zs.map PyData.int
theorem iD_lay : ∀ zs : List Int, PyData.canLayAll0 (iD zs) = true
  | [] => by simp [iD, PyData.canLayAll0]
  | z :: zs => by simpa [iD, PyData.canLayAll0, PyData.canLay0] using iD_lay zs
theorem iD_depth : ∀ zs : List Int, PyData.depthAll (iD zs) = 0
  | [] => by simp [iD, PyData.depthAll]
  | z :: zs => by simpa [iD, PyData.depthAll, PyData.depth] using iD_depth zs
theorem iD_shaped (zs : List Int) : SeqAt.shaped (.list (iD zs)) = true := by
  show (PyData.canLay0 (.list (iD zs)) && decide (PyData.depth (.list (iD zs)) ≤ 64)) = true
  rw [Bool.and_eq_true]
  exact ⟨by simp only [PyData.canLay0]; exact iD_lay zs, decide_eq_true (by simp only [PyData.depth, iD_depth]; omega)⟩
section
variable {K : PySem.W.Frag} {σ : L2.St} {H H' : Hp} {ta tb te : TE} {tr tA : TA} {D : Ends} {tz : TS} {Q : VK} {x : V} {r : R2} {P : Program} {w : World} {mg : Str → Option Value} {base : Heap}
theorem dp_ints : ∀ zs : List Int, DpAll K H (zs.map V.int) (iD zs)
  | [] => .nil
  | z :: zs => .cons (.int z) (dp_ints zs)
theorem eqv_nil (zs : List Int) : PyData.eqv (.list (iD zs)) (.list (iD [])) = zs.isEmpty := by
  cases zs with
  | nil => simp [iD, PyData.eqv, PyData.eqvAll]
  | cons z zs => simp [iD, PyData.eqv, PyData.eqvAll]
theorem ev_eqNil {zs : List Int} (ha : EvL ta σ H (zs.map V.int)) : Ev (tOp (rEqD K) ta (tLst tNil)) σ H (.bl zs.isEmpty) := fun H1 e Q q => ha H1 e _ fun p H2 hp e2 h2 => ⟨Nat.zero_le _, fun l hl => by
  refine ⟨_, _, .lst (sq_of (Ex.new hl _ _ h2)) (dp_ints zs), .lst (sq_of upd_same) (dp_ints []), iD_shaped _, iD_shaped _, ?_⟩
  rw [eqv_nil]
  exact q _ (e2.trans (Ex.new hl))⟩
theorem ev_neNil {zs : List Int} (ha : EvL ta σ H (zs.map V.int)) : Ev (tOp (rNeD K) ta (tLst tNil)) σ H (.bl (!zs.isEmpty)) := fun H1 e Q q => ha H1 e _ fun p H2 hp e2 h2 => ⟨Nat.zero_le _, fun l hl => by
  refine ⟨_, _, .lst (sq_of (Ex.new hl _ _ h2)) (dp_ints zs), .lst (sq_of upd_same) (dp_ints []), iD_shaped _, iD_shaped _, ?_⟩
  rw [eqv_nil]
  exact q _ (e2.trans (Ex.new hl))⟩
end
end Fm
set_option maxHeartbeats 1000000
namespace Fm
theorem nodup_le : ∀ (n : Nat) (l : List Nat), l.Nodup → (∀ x ∈ l, x < n) → l.length ≤ n
  | 0, l, _, h => by
    cases l with
    | nil => simp
    | cons a l => exact absurd (h a (by simp)) (by omega)
  | n + 1, l, hd, h => by
    by_cases hm : n ∈ l
    · have h1 := List.length_erase_of_mem hm
      have h2 := nodup_le n (l.erase n) (hd.erase n) fun x hx => by
        have h3 := h x (List.mem_of_mem_erase hx)
        have h4 : x ≠ n := fun e => by
          subst e
          exact (List.Nodup.not_mem_erase hd) hx
        omega
      have := List.length_pos_of_mem hm
      omega
    · have := nodup_le n l hd fun x hx => by
        have h3 := h x hx
        have h4 : x ≠ n := fun e => hm (e ▸ hx)
        omega
      omega
theorem pigeon {n : Nat} (f : Nat → Nat) (h : ∀ i, i ≤ n → f i < n) : ∃ a b, a < b ∧ b ≤ n ∧ f a = f b := by
  refine Classical.byContradiction fun hn => ?_
  have inj : ∀ a b, a ≤ n → b ≤ n → f a = f b → a = b := fun a b ha hb e => by
    rcases Nat.lt_trichotomy a b with z | z | z
    · exact absurd ⟨a, b, z, hb, e⟩ hn
    · exact z
    · exact absurd ⟨b, a, z, ha, e.symm⟩ hn
  have hd : ((List.range (n + 1)).map f).Nodup := by
    refine List.nodup_iff_pairwise_ne.mpr ?_
    rw [List.pairwise_map]
    refine List.Pairwise.imp_of_mem ?_ List.nodup_range
    intro a b ha hb hab e
    rw [List.mem_range] at ha hb
    exact hab (inj a b (by omega) (by omega) e)
  have := nodup_le n _ hd fun x hx => by
    obtain ⟨i, hi, rfl⟩ := List.mem_map.mp hx
    rw [List.mem_range] at hi
    exact h i (by omega)
  rw [List.length_map, List.length_range] at this
  omega
def isgo (p : List In) (j : Nat) : Prop := ∃ t, p[j]? = some (.go t)
theorem gstep_not {p : List In} {j : Nat} (h : ¬ isgo p j) : gstep p j = j := by
  unfold gstep
  split
  · rename_i t e
    exact absurd ⟨t, e⟩ h
  · rfl
theorem gn_add (p : List In) (i a : Nat) : ∀ b, gn p (gn p i a) b = gn p i (a + b)
  | 0 => rfl
  | b + 1 => by
    show gstep p (gn p (gn p i a) b) = gstep p (gn p i (a + b))
    rw [gn_add p i a b]
theorem gn_stay {p : List In} {i k : Nat} (h : ¬ isgo p (gn p i k)) : ∀ b, gn p i (k + b) = gn p i k
  | 0 => rfl
  | b + 1 => by
    show gstep p (gn p i (k + b)) = _
    rw [gn_stay h b, gstep_not h]
theorem go_before {p : List In} {i k m : Nat} (h : isgo p (gn p i k)) (hm : m ≤ k) : isgo p (gn p i m) := by
  refine Classical.byContradiction fun hn => hn ?_
  have := gn_stay hn (k - m)
  rw [show m + (k - m) = k by omega] at this
  rw [← this]
  exact h
theorem isgo_lt {p : List In} {j : Nat} (h : isgo p j) : j < p.length := by
  obtain ⟨t, e⟩ := h
  exact (List.getElem?_eq_some_iff.mp e).1
theorem go_all {p : List In} {i : Nat} (h : isgo p (gn p i (p.length + 1))) : isgo p (gn p i (p.length + 2)) := by
  obtain ⟨a, b, hab, hb, e⟩ := pigeon (n := p.length) (gn p i) fun m hm => isgo_lt (go_before h (by omega))
  have e2 : gn p i (p.length + 2) = gn p i (p.length + 2 - (b - a)) := by
    have h1 := gn_add p i b (p.length + 2 - b)
    have h2 := gn_add p i a (p.length + 2 - b)
    rw [show b + (p.length + 2 - b) = p.length + 2 by omega] at h1
    rw [show a + (p.length + 2 - b) = p.length + 2 - (b - a) by omega] at h2
    rw [← h1, ← h2, e]
  rw [e2]
  exact go_before h (by omega)
theorem ends_go {p : List In} {j : Nat} (h : isgo p j) : ends p j = true := by
  obtain ⟨t, e⟩ := h
  unfold ends
  rw [e]
  rfl
theorem stE_go {p : List In} {i t : Nat} (h : p[i]? = some (.go t)) : stE p i = stE p t := by
  have e1 : gn p i 1 = t := by
    show gstep p i = t
    unfold gstep
    rw [h]
  have e2 : gn p t (p.length + 1) = gn p i (p.length + 2) := by
    rw [← e1, gn_add p i 1 (p.length + 1)]
    congr 1
    omega
  by_cases hg : isgo p (gn p i (p.length + 1))
  · have h1 := ends_go hg
    have h2 := ends_go (go_all hg)
    unfold stE
    rw [e2, h1, h2]
    simp
  · have := gn_stay hg 1
    unfold stE
    rw [e2, show p.length + 2 = p.length + 1 + 1 by omega, this]
theorem gn_fix {p : List In} {i : Nat} (h : ¬ isgo p i) (k : Nat) : gn p i k = i := by
  have := gn_stay (p := p) (i := i) (k := 0) h k
  rw [Nat.zero_add] at this
  exact this
theorem stE_self {p : List In} {i : Nat} {x : In} (h : p[i]? = some x) (hx : x.isEnd = false) : stE p i = i := by
  have hn : ¬ isgo p i := fun ⟨t, e⟩ => by
    rw [h] at e
    cases e
    cases hx
  unfold stE
  rw [gn_fix hn]
  have : ends p i = false := by
    unfold ends
    rw [h]
    exact hx
  rw [this]
  simp
def Lead (p : List In) (x y : Nat) : Prop := ∃ k, 1 ≤ k ∧ gn p x k = y ∧ ∀ i, i < k → isgo p (gn p x i)
theorem Lead.one {p : List In} {x t : Nat} (h : p[x]? = some (.go t)) : Lead p x t := ⟨1, Nat.le_refl _, by
  show gstep p x = t
  unfold gstep
  rw [h], fun i hi => by
  have : i = 0 := by omega
  subst this
  exact ⟨t, h⟩⟩
theorem Lead.step {p : List In} {x y t : Nat} (h : Lead p x y) (hy : p[y]? = some (.go t)) : Lead p x t := by
  obtain ⟨k, hk, e, hg⟩ := h
  refine ⟨k + 1, by omega, ?_, fun i hi => ?_⟩
  · show gstep p (gn p x k) = t
    rw [e]
    unfold gstep
    rw [hy]
  · by_cases hc : i < k
    · exact hg i hc
    · have : i = k := by omega
      subst this
      rw [e]
      exact ⟨t, hy⟩
theorem Lead.st {p : List In} {x y : Nat} (h : Lead p x y) : stE p x = stE p y := by
  obtain ⟨k, _, e, hg⟩ := h
  have key : ∀ m, m ≤ k → stE p x = stE p (gn p x m) := by
    intro m
    induction m with
    | zero => intro _; rfl
    | succ m ih =>
      intro hm
      obtain ⟨t, ht⟩ := hg m (by omega)
      rw [ih (by omega), stE_go ht]
      congr 1
      show t = gstep p (gn p x m)
      unfold gstep
      rw [ht]
  rw [key k (Nat.le_refl _), e]
theorem Lead.cyc {p : List In} {x : Nat} (h : Lead p x x) : stE p x = p.length := by
  obtain ⟨k, hk, e, hg⟩ := h
  have key : ∀ i, isgo p (gn p x i) := by
    intro i
    induction i using Nat.strongRecOn with
    | _ i ih =>
      by_cases hc : i < k
      · exact hg i hc
      · have h1 := gn_add p x k (i - k)
        rw [e, show k + (i - k) = i by omega] at h1
        rw [← h1]
        exact ih (i - k) (by omega)
  unfold stE
  rw [ends_go (key _)]
  simp
end Fm
namespace Fm
def brs (p : List In) (i : Nat) : List Nat := match p[i]? with
  | some (.zero t) => [stE p t, stE p (i + 1)]
  | _ => [stE p (i + 1)]
inductive Reach (p : List In) : Nat → Prop where
  | start : Reach p (stE p 0)
  | step {i j : Nat} : Reach p i → i < p.length → j ∈ brs p i → Reach p j
def Sta (p : List In) (i : Nat) : Prop := ∃ x, p[i]? = some x ∧ x.isEnd = false
theorem Sta.lt {p : List In} {i : Nat} (h : Sta p i) : i < p.length := by
  obtain ⟨x, e, _⟩ := h
  exact (List.getElem?_eq_some_iff.mp e).1
theorem Sta.self {p : List In} {i : Nat} (h : Sta p i) : stE p i = i := by
  obtain ⟨x, e, hx⟩ := h
  exact stE_self e hx
theorem stE_sta {c : Nat} {p : List In} (h : Pok c p) {i : Nat} (hi : i ≤ p.length) : stE p i = p.length ∨ Sta p (stE p i) := by
  unfold stE
  by_cases he : ends p (gn p i (p.length + 1)) = true
  · rw [if_pos he]
    exact .inl rfl
  · rw [if_neg he]
    refine .inr ?_
    unfold ends at he
    cases hx : p[gn p i (p.length + 1)]? with
    | none => rw [hx] at he; exact absurd rfl he
    | some x =>
      rw [hx] at he
      exact ⟨x, hx, by simpa using he⟩
theorem brs_sta {c : Nat} {p : List In} (h : Pok c p) {i j : Nat} (hi : i < p.length) (hj : j ∈ brs p i) : j = p.length ∨ Sta p j := by
  unfold brs at hj
  split at hj
  · rename_i t e
    have ht : t ≤ p.length := h.2 _ (List.mem_of_getElem? e)
    rcases List.mem_cons.mp hj with rfl | hj
    · exact stE_sta h ht
    · rw [List.mem_singleton.mp hj]
      exact stE_sta h hi
  · rw [List.mem_singleton.mp hj]
    exact stE_sta h hi
theorem Reach.sta {c : Nat} {p : List In} (h : Pok c p) {i : Nat} (r : Reach p i) : i = p.length ∨ Sta p i := by
  cases r with
  | start => exact stE_sta h (Nat.zero_le _)
  | step _ hi hj => exact brs_sta h hi hj
theorem Reach.le {c : Nat} {p : List In} (h : Pok c p) {i : Nat} (r : Reach p i) : i ≤ p.length := by
  rcases r.sta h with z | z
  · omega
  · exact Nat.le_of_lt z.lt
theorem sub_le {l m : List Nat} (hd : l.Nodup) (h : ∀ x ∈ l, x ∈ m) : l.length ≤ m.length := by
  induction l generalizing m with
  | nil => simp
  | cons a l ih =>
    obtain ⟨h1, h2⟩ := List.nodup_cons.mp hd
    have ha := h a (by simp)
    have := ih (m := m.erase a) h2 fun x hx => by
      have hne : x ≠ a := fun e => h1 (e ▸ hx)
      exact (List.mem_erase_of_ne hne).mpr (h x (List.mem_cons_of_mem _ hx))
    have e := List.length_erase_of_mem ha
    have := List.length_pos_of_mem ha
    simp only [List.length_cons]
    omega
end Fm
set_option maxHeartbeats 1000000
namespace Fm
open PySem L2 Evl
section
variable {K : PySem.W.Frag} {σ : L2.St} {H : Hp} {ta tb te tt' : TE} {D : Ends} {tz tu : TS} {tt : TT} {tA : TA}
theorem lc_tailT {a : Addr} {xs : List V} {j : Nat} {vs : List Nat} {Qd : Addr → Hp → Prop} (f : Nat → Bool) (v : Nat → V) (hx : SqT K H a xs) (hz : xs.length ≤ 40000) (hw : ∀ x, wipe ((wipe σ vs).set j (some x)) vs = wipe σ vs)
    (ht : ∀ (i : Nat) (x : V) H1, Ex H H1 → xs[i]? = some x → EvT tt ((wipe σ vs).set j (some x)) H1 (f i)) (he : ∀ (i : Nat) (x : V) H1, Ex H H1 → xs[i]? = some x → f i = true → Ev te ((wipe σ vs).set j (some x)) H1 (v i))
    (q : ∀ Dl H2, H Dl = none → Ex H H2 → H2 Dl = some (.lst (given xs.length f v)) → Qd Dl H2) :
    ∀ Dl, H Dl = none → ∃ W : Nat → Nat → Hp → Prop, (∃ m, W 0 m (upd H Dl (.lst []))) ∧ ∀ i m H', W i m H' →
      ((Itt K a).stop i H' ∧ Qd Dl H') ∨ ((Itt K a).go i H' ∧ ∃ Nx : Hp → Prop, (∀ H'', Nx H'' → ∃ m', m' < m ∧ W (i + 1) m' H'') ∧ ∀ x H'', (Itt K a).yld i H' x H'' → gName j x (wipe σ vs) H'' fun σ2 H2 => wipe σ2 vs = wipe σ vs ∧ tt σ2 H2 fun b H3 =>
        if b = true then te σ2 H3 fun y H4 => ∃ acc, H4 Dl = some (.lst acc) ∧ acc.length < sizeLine ∧ Nx (upd H4 Dl (.lst (acc ++ [y]))) else Nx H3) := fun Dl hD =>
  lc_tup (xs := xs) (Cw H f v Dl) ⟨hD, Ex.new hD, upd_same⟩ (fun i H' _ p => ex_t p.2.1 hx) (fun i x H' hi p => ⟨hw x, cw_turn p (by have := (List.getElem?_eq_some_iff.mp hi).1; omega) (ht i x H (Ex.refl H) hi) (fun hf => he i x H (Ex.refl H) hi hf)⟩) (fun H' p => q Dl H' p.1 p.2.1 p.2.2)
theorem yes_lc {Q : Bool → Hp → Prop} (h : Q true H) : tYes σ H Q := h
theorem et_yes : EvT tYes σ H true := fun H1 _ _ q => q H1 (Ex.refl H1)
theorem given_map {α : Type} (l : List α) (f : α → Bool) (v : α → V) (f' : Nat → Bool) (v' : Nat → V) (hf : ∀ i x, l[i]? = some x → f' i = f x) (hv : ∀ i x, l[i]? = some x → v' i = v x) : given l.length f' v' = (l.filter f).map v := by
  have key : ∀ n, n ≤ l.length → given n f' v' = ((l.take n).filter f).map v := by
    intro n
    induction n with
    | zero => intro _; rfl
    | succ n ih =>
      intro hn
      obtain ⟨x, hx⟩ : ∃ x, l[n]? = some x := ⟨_, List.getElem?_eq_getElem (by omega)⟩
      have e : l.take (n + 1) = l.take n ++ [x] := by
        rw [List.take_add_one, hx]
        rfl
      cases h : f' n with
      | true =>
        have h2 : f x = true := (hf n x hx).symm.trans h
        rw [given_yes h, ih (by omega), e, List.filter_append, List.map_append, hv n x hx]
        simp [h2]
      | false =>
        have h2 : f x = false := (hf n x hx).symm.trans h
        rw [given_no h, ih (by omega), e, List.filter_append]
        simp [h2]
  rw [key _ (Nat.le_refl _), List.take_length]
theorem q_pop {l : Addr} {xs : List V} {y : V} {i : Nat} (hl : H l = some (.lst (xs ++ [y]))) (ha : Ev ta σ H (.ref l)) (k : ∀ H1, Ex H H1 → tz D (σ.set i (some y)) (upd H1 l (.lst xs))) : tSeq (tAsg (tBM0 K "list" rPop ta) (gName i)) tz D σ H :=
  ha H (Ex.refl H) _ fun H1 e1 => ⟨.inl ⟨rfl, _, sq_of (e1 _ _ hl)⟩, l, _, y, rfl, rfl, e1 _ _ hl, by simp, by rw [List.dropLast_concat]; exact k H1 e1⟩
theorem et_truL {l : Addr} {xs : List V} (ha : Ev ta σ H (.ref l)) (hl : SqL K H l xs) : EvT (fun σ H Q => ta σ H fun x H' => ∃ k, TruV K x H' k ∧ Q k H') σ H (!xs.isEmpty) := fun H1 e Q q =>
  ha H1 e _ fun H2 e2 => ⟨_, .inl ⟨xs, ex_l (e.trans e2) hl, rfl⟩, q H2 e2⟩
end
end Fm
set_option maxHeartbeats 1000000
namespace Fm
open PySem L2 Evl
def plc (p : List In) : List Nat := (List.range (p.length + 1)).map (stE p)
def cnt (pl : List (Option Nat)) : Nat := pl.countP fun o => o.isNone
structure Jp (p : List In) (m : Nat) (pl : List (Option Nat)) : Prop where
  len : pl.length = p.length + 1
  val : ∀ (j v : Nat), pl[j]? = some (some v) → v = stE p j
  low : ∀ j : Nat, j < m → pl[j]? ≠ some none
  last : pl[p.length]? = some (some p.length)
structure Wl (p : List In) (m : Nat) (pl0 pl : List (Option Nat)) (ps : List Nat) (i : Nat) : Prop where
  len : pl.length = p.length + 1
  le : i ≤ p.length
  num : ps.length + cnt pl = cnt pl0
  out : ∀ j : Nat, j ∉ ps → pl[j]? = pl0[j]?
  pth : ∀ x ∈ ps, x ≤ p.length ∧ stE p x = stE p i
  run : (∀ x ∈ ps, pl[x]? = some (some p.length) ∧ Lead p x i) ∨ pl[i]? = some (some (stE p i))
  hd : m ∈ ps ∨ i = m
theorem Wl.val {p : List In} {m : Nat} {pl0 pl : List (Option Nat)} {ps : List Nat} {i v : Nat} (W : Wl p m pl0 pl ps i) (J : Jp p m pl0) (h : pl[i]? = some (some v)) : v = stE p i := by
  rcases W.run with r | r
  · by_cases hc : i ∈ ps
    · obtain ⟨h1, h2⟩ := r i hc
      rw [h] at h1
      rw [h2.cyc]
      exact Option.some.inj (Option.some.inj h1)
    · rw [W.out i hc] at h
      exact J.val i v h
  · rw [h] at r
    exact Option.some.inj (Option.some.inj r)
end Fm
set_option maxHeartbeats 1000000
set_option maxHeartbeats 1000000
namespace Fm
open PySem L2 Evl
structure Rw (p : List In) (F O : List Nat) (ex : Nat → Prop) : Prop where
  nd : F.Nodup
  ond : O.Nodup
  re : ∀ x ∈ F, Reach p x
  sub : ∀ x ∈ O, x ∈ F
  st : stE p 0 ∈ F
  cl : ∀ x ∈ F, x ∈ O ∨ x = p.length ∨ ex x ∨ ∀ y ∈ brs p x, y ∈ F
theorem Rw.len {c : Nat} {p : List In} {F O : List Nat} {ex : Nat → Prop} (h : Rw p F O ex) (hok : Pok c p) : F.length ≤ p.length + 1 := nodup_le _ _ h.nd fun x hx => by
  have := (h.re x hx).le hok
  omega
theorem Rw.all {p : List In} {F : List Nat} (h : Rw p F [] fun _ => False) {x : Nat} (r : Reach p x) : x ∈ F := by
  induction r with
  | start => exact h.st
  | step _ hi hj ih =>
    rcases h.cl _ ih with z | z | z | z
    · cases z
    · omega
    · exact z.elim
    · exact z _ hj
theorem Rw.add {c : Nat} {p : List In} {F O : List Nat} {i y : Nat} (h : Rw p F O fun x => x = i) (hi : Reach p i) (hil : i < p.length) (hy : y ∈ brs p i) (hn : y ∉ F) : Rw p (F ++ [y]) (O ++ [y]) fun x => x = i := by
  refine ⟨?_, ?_, fun x hx => ?_, fun x hx => ?_, List.mem_append_left _ h.st, fun x hx => ?_⟩
  · exact List.nodup_append.mpr ⟨h.nd, by simp, fun a ha b hb => by
      rw [List.mem_singleton.mp hb]
      exact fun e => hn (e ▸ ha)⟩
  · exact List.nodup_append.mpr ⟨h.ond, by simp, fun a ha b hb => by
      rw [List.mem_singleton.mp hb]
      exact fun e => hn (e ▸ h.sub a ha)⟩
  · rcases List.mem_append.mp hx with hx | hx
    · exact h.re x hx
    · rw [List.mem_singleton.mp hx]
      exact .step hi hil hy
  · rcases List.mem_append.mp hx with hx | hx
    · exact List.mem_append_left _ (h.sub x hx)
    · exact List.mem_append_right _ hx
  · rcases List.mem_append.mp hx with hx | hx
    · rcases h.cl x hx with z | z | z | z
      · exact .inl (List.mem_append_left _ z)
      · exact .inr (.inl z)
      · exact .inr (.inr (.inl z))
      · exact .inr (.inr (.inr fun y hy => List.mem_append_left _ (z y hy)))
    · exact .inl (List.mem_append_right _ hx)
end Fm
set_option maxHeartbeats 1000000
namespace Fm
open PySem L2 Evl
def In.reads (c : Nat) : In → Bool
  | .get k => decide (k = c) | .plus k => decide (k = c) | .minus k => decide (k = c)
  | _ => false
def In.sets (c : Nat) : In → Bool
  | .set k => decide (k = c)
  | _ => false
inductive Need (p : List In) (c : Nat) : Nat → Prop where
  | read {i : Nat} {x : In} : p[i]? = some x → x.reads c = true → Need p c i
  | on {i j : Nat} {x : In} : p[i]? = some x → x.sets c = false → j ∈ brs p i → Need p c j → Need p c i
section
variable {K : PySem.W.Frag} {σ : L2.St} {H : Hp} {ta tb te : TE}
theorem ev_any {bs : List Bool} (h : EvL te σ H (bs.map V.bl)) : Ev (tCB (rAny K) (tCons te tNil)) σ H (.bl (bs.any id)) := fun H1 e Q q => h H1 e _ fun p H2 hp e2 h2 => ⟨p, bs, rfl, sq_of h2, q H2 e2⟩
end
end Fm
set_option maxHeartbeats 1000000
set_option maxHeartbeats 1000000
namespace Fm
open PySem L2 Evl
noncomputable def needB (p : List In) (i c : Nat) : Bool := by
  classical
  exact decide (Need p c (stE p i))
noncomputable def bV (p : List In) (n i : Nat) : List V := (List.range n).map fun c => V.bl (needB p i c)
def MkT (K : PySem.W.Frag) (H : Hp) (b : Addr) (p : List In) (n : Nat) : Prop := ∃ us : List Addr, SqT K H b (us.map V.ref) ∧ us.length = p.length + 1 ∧ ∀ (i : Nat) u, us[i]? = some u → SqT K H u (bV p n i)
theorem MkT.up {K : PySem.W.Frag} {H H' : Hp} {b : Addr} {p : List In} {n : Nat} (e : Ex H H') (h : MkT K H b p n) : MkT K H' b p n := let ⟨us, h1, h2, h3⟩ := h; ⟨us, ex_t e h1, h2, fun i u hu => ex_t e (h3 i u hu)⟩
end Fm
set_option maxHeartbeats 1000000
set_option maxHeartbeats 1000000
namespace Fm
open PySem L2 Evl
def GoOn (p : List In) (i : Nat) : Prop := ∃ S : Nat → Prop, S i ∧ ∀ x, S x → Sta p x ∧ ∃ y, y ∈ brs p x ∧ S y
def deadB (p : List In) (F : List Nat) (y : Nat) : Bool := !((brs p y).map fun j => decide (j ∈ F)).any id
structure Gw (p : List In) (F : List Nat) : Prop where
  nd : F.Nodup
  st : ∀ x ∈ F, Sta p x
  go : ∀ x, GoOn p x → x ∈ F
theorem Gw.done {p : List In} {F : List Nat} (h : Gw p F) (hd : F.filter (deadB p F) = []) (x : Nat) : x ∈ F ↔ GoOn p x := by
  refine ⟨fun hx => ⟨fun y => y ∈ F, hx, fun y hy => ⟨h.st y hy, ?_⟩⟩, h.go x⟩
  have hn : ¬ deadB p F y = true := fun z => by
    have := List.mem_filter.mpr ⟨hy, z⟩
    rw [hd] at this
    cases this
  unfold deadB at hn
  simp only [Bool.not_eq_true', Bool.not_eq_false, List.any_map] at hn
  obtain ⟨j, hj, hjF⟩ := List.any_eq_true.mp hn
  exact ⟨j, hj, of_decide_eq_true hjF⟩
end Fm
set_option maxHeartbeats 1000000
namespace Fm
open PySem L2 Evl
def raw (p : List In) (i : Nat) : List Nat := match p[i]? with
  | some (.zero t) => [stE p t, stE p (i + 1)]
  | _ => [stE p (i + 1)]
def lnx (p : List In) (i : Nat) : List Nat := match p[i]? with
  | some (.zero t) => if stE p t = stE p (i + 1) then [stE p t] else [stE p t, stE p (i + 1)]
  | _ => [stE p (i + 1)]
theorem lnx_mem {p : List In} {i y : Nat} (hi : i < p.length) : y ∈ lnx p i ↔ y ∈ brs p i := by
  unfold lnx brs
  rw [List.getElem?_eq_getElem hi]
  cases p[i] <;> simp
  rename_i t
  by_cases h : stE p t = stE p (i + 1)
  · simp [h]
  · simp [h]
theorem lnx_nodup (p : List In) (i : Nat) : (lnx p i).Nodup := by
  unfold lnx
  split
  · split
    · simp
    · rename_i h; simp [h]
  · simp
end Fm
set_option maxHeartbeats 1000000
namespace Fm
open PySem L2 Evl
structure Ax (p : List In) (F : List Nat) : Prop where
  nd : F.Nodup
  re : ∀ x ∈ F, Reach p x
  st : stE p 0 ∈ F
def news (p : List In) (F : List Nat) (y : Nat) : List Nat := (lnx p y).filter fun z => !decide (z ∈ F)
theorem Ax.add {p : List In} {F : List Nat} {y : Nat} (h : Ax p F) (hy : y ∈ F) (hl : y < p.length) : Ax p (F ++ news p F y) := by
  refine ⟨?_, fun x hx => ?_, List.mem_append_left _ h.st⟩
  · refine List.nodup_append.mpr ⟨h.nd, (lnx_nodup p y).filter _, fun a ha b hb e => ?_⟩
    have := (List.mem_filter.mp hb).2
    rw [← e] at this
    simp [ha] at this
  · rcases List.mem_append.mp hx with hx | hx
    · exact h.re x hx
    · exact .step (h.re y hy) hl ((lnx_mem hl).mp (List.mem_filter.mp hx).1)
theorem Ax.len {c : Nat} {p : List In} {F : List Nat} (h : Ax p F) (hok : Pok c p) : F.length ≤ p.length + 1 := nodup_le _ _ h.nd fun x hx => by
  have := (h.re x hx).le hok
  omega
end Fm
set_option maxHeartbeats 1000000
namespace Fm
open PySem L2 Evl
theorem room65 {k : Nat} {A : Around} (r : Room k A) : A.units + 65 < cLine := by have := r.un; omega
inductive Via (p : List In) (c s : Nat) : Nat → Prop where
  | start : s < p.length → Via p c s s
  | step {x y : Nat} {i : In} : Via p c s x → p[x]? = some i → i.sets c = false → y ∈ brs p x → y < p.length → Via p c s y
theorem Via.lt {p : List In} {c s x : Nat} (h : Via p c s x) : x < p.length := by cases h <;> assumption
structure Mx (p : List In) (c s : Nat) (M : List Nat) : Prop where
  nd : M.Nodup
  re : ∀ x ∈ M, Via p c s x
  st : s < p.length → s ∈ M
def setsAt (p : List In) (c x : Nat) : Bool := match p[x]? with
  | some i => i.sets c
  | none => false
def newsM (p : List In) (M : List Nat) (y : Nat) : List Nat := (lnx p y).filter fun z => decide (z < p.length) && !decide (z ∈ M)
theorem Mx.add {p : List In} {c s : Nat} {M : List Nat} {y : Nat} (h : Mx p c s M) (hy : y ∈ M) (hs : setsAt p c y = false) : Mx p c s (M ++ newsM p M y) := by
  have hl := (h.re y hy).lt
  refine ⟨?_, fun x hx => ?_, fun z => List.mem_append_left _ (h.st z)⟩
  · refine List.nodup_append.mpr ⟨h.nd, (lnx_nodup p y).filter _, fun a ha b hb e => ?_⟩
    have := (List.mem_filter.mp hb).2
    rw [← e] at this
    simp [ha] at this
  · rcases List.mem_append.mp hx with hx | hx
    · exact h.re x hx
    · have h2 := List.mem_filter.mp hx
      rw [Bool.and_eq_true] at h2
      unfold setsAt at hs
      rw [List.getElem?_eq_getElem hl] at hs
      exact .step (h.re y hy) (List.getElem?_eq_getElem hl) hs ((lnx_mem hl).mp h2.1) (of_decide_eq_true h2.2.1)
theorem Mx.len {p : List In} {c s : Nat} {M : List Nat} (h : Mx p c s M) : M.length ≤ p.length := nodup_le _ _ h.nd fun x hx => (h.re x hx).lt
def In.d (i : In) : PyData := match i.arg with
  | none => .tuple [.str i.w]
  | some k => .tuple [.str i.w, .int k]
end Fm
set_option maxHeartbeats 1000000
namespace Fm
open PySem L2 Evl
noncomputable def needS (p : List In) (s c : Nat) : Bool := by
  classical
  exact decide (Need p c s)
end Fm
set_option maxHeartbeats 1000000
namespace Fm
open PySem L2 Evl
def MaT (K : PySem.W.Frag) (H : Hp) (m : Addr) (fs rs : List Nat) : Prop := ∃ a b : Addr, SqT K H m [.ref a, .ref b] ∧ SqT K H a (nV fs) ∧ SqT K H b (nV rs)
theorem MaT.up {K : PySem.W.Frag} {H H' : Hp} {m : Addr} {fs rs : List Nat} (e : Ex H H') (h : MaT K H m fs rs) : MaT K H' m fs rs := let ⟨a, b, h1, h2, h3⟩ := h; ⟨a, b, ex_t e h1, ex_t e h2, ex_t e h3⟩
def tch (fs rs ls : List Nat) (c i : Nat) : Nat := if ls.getD i 0 = 0 then 0 else if rs.getD i 0 = rs.getD c 0 then fs.getD i 0 else ls.getD i 0 - 1
def touchL (fs rs ls : List Nat) (c : Nat) : List Nat := (List.range ls.length).map (tch fs rs ls c)
def setL (fs rs ls : List Nat) (c : Nat) : List Nat := (touchL fs rs ls c).set c (fs.getD c 0)
def waitL (ls : List Nat) : List Nat := ls.map (· - 1)
theorem nV_app (a b : List Nat) : nV (a ++ b) = nV a ++ nV b := List.map_append
theorem nV_at {l : List Nat} {i : Nat} (h : i < l.length) : atI (nV l) (i : Int) = some (.int (l.getD i 0 : Nat)) := atI_nat' (by
  unfold nV
  rw [List.getElem?_map, List.getElem?_eq_getElem h, List.getD_eq_getElem?_getD, List.getElem?_eq_getElem h]
  rfl)
section
variable {K : PySem.W.Frag} {σ : L2.St} {H : Hp} {ta tb te tt' : TE} {D : Ends} {tz tu : TS} {tt : TT} {tA : TA}
theorem el_lcT {a : Addr} {tl : TE} {j : Nat} {vs : List Nat} {zs : List Nat} (enc : Nat → V) (f : Nat → Bool) (v : Nat → V) (h : Ev tl σ H (.ref a)) (hx : SqT K H a (zs.map enc)) (hw : ∀ x, wipe ((wipe σ vs).set j (some x)) vs = wipe σ vs) (hz : zs.length ≤ 40000)
    (ht : ∀ (y : Nat) H1, y ∈ zs → Ex H H1 → EvT tt ((wipe σ vs).set j (some (enc y))) H1 (f y)) (he : ∀ (y : Nat) H1, y ∈ zs → Ex H H1 → f y = true → Ev te ((wipe σ vs).set j (some (enc y))) H1 (v y)) :
    EvL (tLc (iTup K tl) (gName j) tt te vs) σ H ((zs.filter f).map v) := fun H0 e0 Q q => h H0 e0 _ fun H2 e2 => by
  have e02 := e0.trans e2
  refine ⟨a, rfl, ⟨zs.map enc, ex_t e02 hx⟩, ?_⟩
  have get : ∀ {i : Nat} {x : V}, (zs.map enc)[i]? = some x → ∃ y, zs[i]? = some y ∧ x = enc y := fun {i x} hx => by
    rw [List.getElem?_map] at hx
    cases hy : zs[i]? with
    | none => rw [hy] at hx; cases hx
    | some y => rw [hy] at hx; cases hx; exact ⟨y, rfl, rfl⟩
  have key := given_map zs f v (fun i => f (zs[i]?.getD 0)) (fun i => v (zs[i]?.getD 0)) (fun i x hx => by simp only [hx, Option.getD_some]) (fun i x hx => by simp only [hx, Option.getD_some])
  exact lc_tailT (Qd := fun Dl H2 => Q (.ref Dl) H2) (fun i => f (zs[i]?.getD 0)) (fun i => v (zs[i]?.getD 0)) (ex_t e02 hx) (by rw [List.length_map]; exact hz) hw (fun i x H3 e3 hx => by
    obtain ⟨y, hy, rfl⟩ := get hx
    have := ht y H3 (List.mem_of_getElem? hy) (e02.trans e3)
    simp only [hy, Option.getD_some]
    exact this) (fun i x H3 e3 hx hf => by
    obtain ⟨y, hy, rfl⟩ := get hx
    simp only [hy, Option.getD_some] at hf ⊢
    exact he y H3 (List.mem_of_getElem? hy) (e02.trans e3) hf) fun Dl H3 hD e3 h3 => q Dl H3 (fresh_back e2 hD) (e2.trans e3) (by
    rw [List.length_map, key] at h3
    exact h3)
theorem q_unpack {a : Addr} {x y : V} {i j : Nat} (h : Ev te σ H (.ref a)) (ha : SqT K H a [x, y]) (k : ∀ H1, Ex H H1 → tz D ((σ.set i (some x)).set j (some y)) H1) : tSeq (tAsg te (gTup K 2 (gCons (gName i) (gCons (gName j) gNil)))) tz D σ H :=
  h H (Ex.refl H) _ fun H1 e1 => ⟨a, _, rfl, ex_t e1 ha, rfl, _, _, rfl, ⟨_, _, rfl, ⟨rfl, k H1 e1⟩⟩⟩
end
def spWaited (K : PySem.W.Frag) : Sp := fun vs H Q _ => ∃ (l : Addr) (ls : List Nat), vs = [.ref l] ∧ SqT K H l (nV ls) ∧ ls.length ≤ 10 ∧ ∀ b H', H b = none → Ex H H' → H' b = some (.tup (nV (waitL ls))) → Q (.ref b) H'
def spTouched (K : PySem.W.Frag) : Sp := fun vs H Q _ => ∃ (m l : Addr) (fs rs ls : List Nat) (c : Nat), vs = [.ref m, .ref l, .int (c : Nat)] ∧ MaT K H m fs rs ∧ SqT K H l (nV ls) ∧ fs.length = rs.length ∧ ls.length = rs.length ∧ c < rs.length ∧ rs.length ≤ 10 ∧
  ∀ b H', H b = none → Ex H H' → H' b = some (.tup (nV (touchL fs rs ls c))) → Q (.ref b) H'
section
variable {P : Program} {w : World} {K : PySem.W.Frag} {mg : Str → Option Value} {base : Heap}
abbrev s_lives_waited : Stmt := top 18
theorem sc_lives_waited : FnScope ["lives", "life"] ["lives"] (defScope s_lives_waited) := ⟨rfl, rfl, rfl, by decide +kernel, rfl, by decide +kernel, by decide +kernel⟩
theorem ok_waited {f : Addr} {fd : FuncData} (F : Fun K "lives_waited" "lives_waited" s_lives_waited f fd) (T : Txt K mg) : FnOk P w K mg base CX0 2 f fd ["lives"] (spWaited K) := by
  refine F.ok sc_lives_waited (fun vs H Q E h => ?_) (fun cdv A outer s H vs Q E hr h => ?_)
  · obtain ⟨_, _, rfl, _⟩ := h
    rfl
  · obtain ⟨l, ls, rfl, hl, hz, k⟩ := h
    refine ⟨_, (pss_one (ps_ret (pe_callTy (tpl_K (K := K) rfl) (by rfl) T.z_tuple (by decide +kernel) (pa_cons (pe_lc (own := [("life", 1)]) (g := gName 1) rfl sc_lives_waited.nd (pi_tupK (K := K) rfl (pv 0)) (blkOk_by (by kernel_rfl)) (fun _ _ _ _ _ => pg_name (i := 1) sc_lives_waited.nd rfl (by first | exact Or.inl rfl | exact Or.inr rfl)) (fun _ _ _ _ _ => pts_nil) (fun _ _ _ _ _ => (pe_ifExp (pt_cmpR op_gt (pv 1) pe_int (nomark _)) (pe_op op_sub (pv 1) pe_int) pe_int))) pa_nil)))), ?_⟩
    have key := el_lcT (K := K) (σ := [some (.ref l), none]) (H := H) (a := l) (tl := tVar 0) (j := 1) (vs := List.map (fun x => x.snd) [(("life" : Str), 1)]) (tt := tYes) (te := tIf (tTest (tOp (rI0 fun i j => .bl (decide (i > j))) (tVar 1) (tC (.int 0)))) (tOp (rI0 fun i j => .int (i - j)) (tVar 1) (tC (.int 1))) (tC (.int 0))) (zs := ls) (fun z => .int (z : Nat)) (fun _ => true) (fun z => .int (z - 1 : Nat))
      (ev_var rfl) hl (fun x => rfl) (by omega) (fun y H1 _ _ => et_yes) (fun y H1 _ _ _ => ev_if (et_i0 (ev_var rfl) ev_c) (fun hc => by
        have := of_decide_eq_true hc
        rw [show ((y - 1 : Nat) : Int) = (y : Int) - 1 by omega]
        exact ev_i0 (ev_var rfl) ev_c) (fun hc => by
        have := of_decide_eq_false hc
        rw [show ((y - 1 : Nat) : Int) = 0 by omega]
        exact ev_c))
    rw [show ls.filter (fun _ => true) = ls from List.filter_eq_self.mpr fun _ _ => rfl] at key
    refine s_retU (xs := nV (waitL ls)) (eu_tplN ?_) fun b H1 hb e1 h1 => k b H1 hb e1 h1
    have : nV (waitL ls) = ls.map fun z => V.int (z - 1 : Nat) := by unfold nV waitL; rw [List.map_map]; rfl
    rw [this]
    exact key
abbrev s_lives_touched : Stmt := top 19
theorem sc_lives_touched : FnScope ["machine", "lives", "cell", "fades", "rows", "row", "behind", "at", "life"] ["machine", "lives", "cell"] (defScope s_lives_touched) := ⟨rfl, rfl, rfl, by decide +kernel, rfl, by decide +kernel, by decide +kernel⟩
theorem ok_touched {f : Addr} {fd : FuncData} (F : Fun K "lives_touched" "lives_touched" s_lives_touched f fd) (T : Txt K mg) : FnOk P w K mg base CX0 2 f fd ["machine", "lives", "cell"] (spTouched K) := by
  refine F.ok sc_lives_touched (fun vs H Q E h => ?_) (fun cdv A outer s H vs Q E hr h => ?_)
  · obtain ⟨_, _, _, _, _, _, rfl, _⟩ := h
    rfl
  · obtain ⟨m, l, fs, rs, ls, c, rfl, ⟨a, b, hm, ha, hb⟩, hl, hf, hls, hc, hz, k⟩ := h
    refine ⟨_, (pss_cons (ps_asg (pv 0) (pg_tup rfl (pgs_cons (pg_name (i := 3) sc_lives_touched.nd rfl (by first | exact Or.inl rfl | exact Or.inr rfl)) (pgs_cons (pg_name (i := 4) sc_lives_touched.nd rfl (by first | exact Or.inl rfl | exact Or.inr rfl)) pgs_nil))))
  (pss_cons (ps_set (i := 5) sc_lives_touched.nd rfl (Or.inl rfl) (pe_ix (ix_K (K := K) rfl) (pv 4) (pv 2) (fun _ _ => rfl)))
  (pss_cons (ps_set (i := 6) sc_lives_touched.nd rfl (Or.inl rfl) (pe_lst pa_nil))
  (pss_cons (ps_for PassesOwn.never rfl (pi_enumT (by rfl) T.z_enumerate (pa_cons (pv 1) pa_nil)) (pg_tup rfl (pgs_cons (pg_name (i := 7) sc_lives_touched.nd rfl (by first | exact Or.inl rfl | exact Or.inr rfl)) (pgs_cons (pg_name (i := 8) sc_lives_touched.nd rfl (by first | exact Or.inl rfl | exact Or.inr rfl)) pgs_nil))) (pss_one (ps_if (pt_cmpR op_eq (pv 8) pe_int (nomark _)) (pss_one (ps_expr (pe_bm PySem.F.plainAttrs_list PySem.F.slot_list_append PySem.F.type_list_append mt_append (pv 6) (pa_cons pe_int pa_nil)))) (pss_one (ps_if (pt_cmpR op_eq (pe_ix (ix_K (K := K) rfl) (pv 4) (pv 7) (fun _ _ => rfl)) (pv 5) (nomark _)) (pss_one (ps_expr (pe_bm PySem.F.plainAttrs_list PySem.F.slot_list_append PySem.F.type_list_append mt_append (pv 6) (pa_cons (pe_ix (ix_K (K := K) rfl) (pv 3) (pv 7) (fun _ _ => rfl)) pa_nil)))) (pss_one (ps_expr (pe_bm PySem.F.plainAttrs_list PySem.F.slot_list_append PySem.F.type_list_append mt_append (pv 6) (pa_cons (pe_op op_sub (pv 8) pe_int) pa_nil)))))))))
  (pss_one (ps_ret (pe_callTy (tpl_K (K := K) rfl) (by rfl) T.z_tuple (by decide +kernel) (pa_cons (pv 6) pa_nil)))))))), ?_⟩
    refine q_unpack (ev_var rfl) hm fun H1 e1 => ?_
    have ha1 := ex_t e1 ha
    have hb1 := ex_t e1 hb
    refine q_asg (ev_ixT (ev_var rfl) (ev_var rfl) hb1 (nV_at hc)) fun H2 e2 => ?_
    refine q_asgL (xs := nV []) (el_lst ea_nil (Nat.zero_le _)) fun d H3 hd e3 hd3 => ?_
    have e03 := (e1.trans e2).trans e3
    have hd0 : H d = none := fresh_back (e1.trans e2) hd
    refine q_forET (xs := nV ls) (ev_var rfl) (ex_t e03 hl) (fun i σ H' => ∃ z7 z8 : Option V, Ex H H' ∧ H' d = some (.lst (nV ((List.range i).map (tch fs rs ls c)))) ∧ σ = [some (.ref m), some (.ref l), some (.int (c : Nat)), some (.ref a), some (.ref b), some (.int (rs.getD c 0 : Nat)), some (.ref d), z7, z8])
      (fun H4 e4 => ⟨_, _, e03.trans e4, e4 _ _ hd3, rfl⟩) (fun i σ H' _ ⟨_, _, e, _⟩ => ex_t e hl) ?_ ?_
    · rintro i x σ H4 hi ⟨z7, z8, e4, hd4, rfl⟩ H5 e5
      obtain ⟨y, hy, rfl⟩ := nV_get hi
      have hil : i < ls.length := (List.getElem?_eq_some_iff.mp hy).1
      have hyd : ls.getD i 0 = y := by rw [List.getD_eq_getElem?_getD, hy]; rfl
      have e05 := e4.trans e5
      have hd5 := e5 _ _ hd4
      have hlen : (nV ((List.range i).map (tch fs rs ls c))).length < 100000 := by rw [nV_len, List.length_map, List.length_range]; omega
      have fin : ∀ H6, Ex H5 H6 → ∀ z : Nat, z = tch fs rs ls c i → ∃ z7 z8 : Option V, Ex H (upd H6 d (.lst (nV ((List.range i).map (tch fs rs ls c)) ++ [.int (z : Nat)]))) ∧ upd H6 d (.lst (nV ((List.range i).map (tch fs rs ls c)) ++ [.int (z : Nat)])) d = some (.lst (nV ((List.range (i + 1)).map (tch fs rs ls c)))) ∧
          ([some (.ref m), some (.ref l), some (.int (c : Nat)), some (.ref a), some (.ref b), some (.int (rs.getD c 0 : Nat)), some (.ref d), some (.int (i : Int)), some (.int (y : Nat))] : L2.St) = [some (.ref m), some (.ref l), some (.int (c : Nat)), some (.ref a), some (.ref b), some (.int (rs.getD c 0 : Nat)), some (.ref d), z7, z8] := fun H6 e6 z hz => by
        refine ⟨_, _, Ex.mut (e05.trans e6) hd0, ?_, rfl⟩
        rw [upd_same, List.range_succ, List.map_append, nV_app, hz]
        rfl
      refine s_if (et_eq (ev_var rfl) ev_c rfl) (fun hc1 H6 e6 => ?_) (fun hc1 H6 e6 => ?_)
      · have : y = 0 := by have := V.int.inj (of_decide_eq_true hc1); omega
        refine s_app (e6 _ _ hd5) (ev_var rfl) (v := .int ((0 : Nat) : Int)) ev_c hlen fun H7 e7 => fin H7 (e6.trans e7) 0 ?_
        unfold tch
        rw [hyd, if_pos this]
      · have hy0 : ¬ y = 0 := fun z => of_decide_eq_false hc1 (by rw [z]; rfl)
        have hb6 := ex_t (e05.trans e6) hb
        have ha6 := ex_t (e05.trans e6) ha
        refine s_if (et_eq (ev_ixT (ev_var rfl) (ev_var rfl) hb6 (nV_at (by omega))) (ev_var rfl) rfl) (fun hc2 H7 e7 => ?_) (fun hc2 H7 e7 => ?_)
        · have hr : rs.getD i 0 = rs.getD c 0 := by have := V.int.inj (of_decide_eq_true hc2); omega
          refine s_app ((e6.trans e7) _ _ hd5) (ev_var rfl) (ev_ixT (ev_var rfl) (ev_var rfl) (ex_t e7 ha6) (nV_at (by omega))) hlen fun H8 e8 => fin H8 ((e6.trans e7).trans e8) _ ?_
          unfold tch
          rw [hyd, if_neg hy0, if_pos hr]
        · have hr : ¬ rs.getD i 0 = rs.getD c 0 := fun z => of_decide_eq_false hc2 (by rw [z])
          refine s_app ((e6.trans e7) _ _ hd5) (ev_var rfl) (v := .int ((y - 1 : Nat) : Int)) ?_ hlen fun H8 e8 => fin H8 ((e6.trans e7).trans e8) (y - 1) ?_
          · rw [show ((y - 1 : Nat) : Int) = (y : Int) - 1 by omega]
            exact ev_i0 (ev_var rfl) ev_c
          · unfold tch
            rw [hyd, if_neg hy0, if_neg hr]
    · rintro σ H4 ⟨z7, z8, e4, hd4, rfl⟩
      rw [nV_len] at hd4
      refine s_retU (eu_tpl (ev_var rfl) (sq_of hd4)) fun q H5 hq e5 h5 => k q H5 (fresh_back e4 hq) (e4.trans e5) h5
end
end Fm
set_option maxHeartbeats 1000000
namespace Fm
open PySem L2 Evl RZ
def nm (rs : List Nat) : Nat := rs.foldl (fun n r => max n (r + 1)) 0
def RowsOk (rs : List Nat) : Prop := ∀ i r, rs[i]? = some r → r ≤ nm (rs.take i)
theorem nm_succ {rs : List Nat} {i r : Nat} (h : rs[i]? = some r) : nm (rs.take (i + 1)) = max (nm (rs.take i)) (r + 1) := by
  have : rs.take (i + 1) = rs.take i ++ [r] := by rw [List.take_succ, h]; rfl
  unfold nm
  rw [this, List.foldl_append]
  rfl
structure MaOk (fs rs : List Nat) : Prop where
  l1 : 1 ≤ fs.length
  l4 : fs.length ≤ 4
  ll : fs.length = rs.length
  f : ∀ x ∈ fs, 1 ≤ x ∧ x ≤ 8
  r : RowsOk rs
def spFades (K : PySem.W.Frag) : Sp := fun vs H Q _ => ∃ (a : Addr) (fs : List Nat), vs = [.ref a] ∧ SqT K H a (nV fs) ∧ 1 ≤ fs.length ∧ fs.length ≤ 4 ∧ (∀ x ∈ fs, 1 ≤ x ∧ x ≤ 8) ∧ ∀ H', Ex H H' → Q (.bl true) H'
def spRows (K : PySem.W.Frag) : Sp := fun vs H Q _ => ∃ (a : Addr) (rs : List Nat), vs = [.ref a] ∧ SqT K H a (nV rs) ∧ RowsOk rs ∧ rs.length ≤ 100 ∧ ∀ H', Ex H H' → Q (.bl true) H'
def spChkMa (K : PySem.W.Frag) : Sp := fun vs H Q _ => ∃ (m : Addr) (fs rs : List Nat), vs = [.ref m] ∧ MaT K H m fs rs ∧ MaOk fs rs ∧ ∀ H', Ex H H' → Q .non H'
def spChkCe (K : PySem.W.Frag) : Sp := fun vs H Q _ => ∃ (m : Addr) (fs rs : List Nat) (c : Nat), vs = [.ref m, .int (c : Nat)] ∧ MaT K H m fs rs ∧ MaOk fs rs ∧ c < rs.length ∧ ∀ H', Ex H H' → Q .non H'
section
variable {K : PySem.W.Frag} {σ : L2.St} {H : Hp} {ta tb te tt' : TE} {D : Ends} {tz tu : TS} {tt : TT} {tA : TA}
theorem ev_all {bs : List Bool} (h : EvL te σ H (bs.map V.bl)) : Ev (tCB (rAll K) (tCons te tNil)) σ H (.bl (bs.all id)) := fun H1 e Q q => h H1 e _ fun p H2 hp e2 h2 => ⟨p, bs, rfl, sq_of h2, q H2 e2⟩
theorem q_forTn {a : Addr} {xs : List V} {tl : TE} {j : Nat} (h : Ev tl σ H (.ref a)) (hx : SqT K H a xs) (Pv : Nat → L2.St → Hp → Prop) (h0 : ∀ H1, Ex H H1 → Pv 0 σ H1) (hl : ∀ i σ' H', i ≤ xs.length → Pv i σ' H' → SqT K H' a xs)
    (hs : ∀ i x σ' H', xs[i]? = some x → Pv i σ' H' → tu { D with nx := Pv (i + 1), ct := Pv (i + 1), bk := tz D } (σ'.set j (some x)) H') (hd : ∀ σ' H', Pv xs.length σ' H' → tz D σ' H') : tSeq (tFor (iTup K tl) (gName j) tu) tz D σ H :=
  q_forT h hx Pv h0 hl hs hd
end
section
variable {P : Program} {w : World} {K : PySem.W.Frag} {mg : Str → Option Value} {base : Heap}
abbrev s_are_fades : Stmt := top 11
theorem sc_are_fades : FnScope ["value", "fade"] ["value"] (defScope s_are_fades) := ⟨rfl, rfl, rfl, by decide +kernel, rfl, by decide +kernel, by decide +kernel⟩
theorem ok_fades {f f1 : Addr} {fd fd1 : FuncData} (F : Fun K "are_fades" "are_fades" s_are_fades f fd) (T : Txt K mg) (C_is_integer : Cal P w K mg base CX0 2 "is_integer" f1 fd1 ["value", "low", "high"] (spIsInt K)) : FnOk P w K mg base CX0 3 f fd ["value"] (spFades K) := by
  refine F.ok sc_are_fades (fun vs H Q E h => ?_) (fun cdv A outer s H vs Q E hr h => ?_)
  · obtain ⟨_, _, rfl, _⟩ := h
    rfl
  · obtain ⟨a, fs, rfl, ha, h1, h4, hf, k⟩ := h
    refine ⟨_, (pss_cons (ps_if (PW.pt (pw_or (pt_not (pt_val (pe_callB (isi_K (K := K) rfl) (by rfl) T.z_isinstance (by decide +kernel) (pa_cons (pv 0) (pa_cons (pe_bltn (v := .ty "tuple") (by rfl) T.z_tuple (by decide +kernel) rfl) pa_nil))))) (pw_or1 (pt_not (pt_chain op_le op_le pe_int (pe_callB (len_K (K := K) rfl) (by rfl) T.z_len (by decide +kernel) (pa_cons (pv 0) pa_nil)) (pe_glob (v := .int 4) rfl T.c_MOST_CELLS.choose_spec ⟨_, rfl⟩)))))) (pss_one (ps_ret pe_bl)) pss_nil)
  (pss_one (ps_ret (pe_callB (all_K (K := K) rfl rfl) (by rfl) T.z_all (by decide +kernel) (pa_cons (pe_lc (own := [("fade", 1)]) (g := gName 1) rfl sc_are_fades.nd (pi_tupK (K := K) rfl (pv 0)) (blkOk_by (by kernel_rfl)) (fun _ _ _ _ _ => pg_name (i := 1) sc_are_fades.nd rfl (by first | exact Or.inl rfl | exact Or.inr rfl)) (fun _ _ _ _ _ => pts_nil) (fun _ _ _ _ _ => (pe_call C_is_integer.G (hr.mono (by first | decide | omega)) rfl C_is_integer.g C_is_integer.kp C_is_integer.b .nil pass0 (pa_cons (pv 1) (pa_cons pe_int (pa_cons (pe_glob (v := .int 8) rfl T.c_MOST_FADE.choose_spec ⟨_, rfl⟩) pa_nil)))))) pa_nil))))), ?_⟩
    have hl : (nV fs).length = fs.length := nV_len fs
    have hch : (decide ((1 : Int) ≤ ((nV fs).length : Int)) && decide (((nV fs).length : Int) ≤ 4)) = true := by
      rw [hl, decide_eq_true (show (1 : Int) ≤ (fs.length : Int) by omega), decide_eq_true (show (fs.length : Int) ≤ 4 by omega)]
      rfl
    refine q_when (b := false) (et_is (et_or (b := false) (et_not (a := true) (et_B (ev_isi (t := "tuple") (b := true) (ev_var rfl) (ty_tup ha) (by decide +kernel)))) fun _ => et_not (a := true) (et_is (et_test (ev_chain ev_c (ev_lnT (ev_var rfl) ha) ev_c)) hch)) rfl) (fun z => nomatch z) fun _ H1 e1 => ?_
    have key := el_lcT (K := K) (σ := [some (.ref a), none]) (H := H1) (a := a) (tl := tVar 0) (j := 1) (vs := List.map (fun x => x.snd) [(("fade" : Str), 1)]) (tt := tYes) (te := tCall (spIsInt K) [] E0 (tCons (tVar 1) (tCons (tC (.int 1)) (tCons (tC (.int 8)) tNil)))) (zs := fs) (fun z => .int (z : Nat)) (fun _ => true) (fun z => .bl true)
      (ev_var rfl) (ex_t e1 ha) (fun x => rfl) (by omega) (fun y H2 _ _ => et_yes) (fun y H2 hy _ _ => ev_callV (ea_cons (ev_var rfl) (ea_cons ev_c (ea_cons ev_c ea_nil))) fun H3 e3 Q' q => ⟨_, 1, 8, some (y : Int), rfl, rfl, fun H4 e4 => by
        have : inRange (some (y : Int)) 1 8 = true := by
          have := hf y hy
          simp only [inRange, Bool.and_eq_true, decide_eq_true_eq]
          omega
        rw [this]
        exact q H4 e4⟩)
    rw [show fs.filter (fun _ => true) = fs from List.filter_eq_self.mpr fun _ _ => rfl] at key
    have hm : (fs.map fun _ => V.bl true) = (fs.map fun _ => true).map V.bl := by rw [List.map_map]; rfl
    rw [hm] at key
    refine s_ret (ev_all key) fun H2 e2 => ?_
    have : (fs.map fun _ => true).all id = true := by rw [List.all_map]; exact List.all_eq_true.mpr fun _ _ => rfl
    rw [this]
    exact k H2 (e1.trans e2)
abbrev s_are_rows : Stmt := top 12
theorem sc_are_rows : FnScope ["value", "named", "row"] ["value"] (defScope s_are_rows) := ⟨rfl, rfl, rfl, by decide +kernel, rfl, by decide +kernel, by decide +kernel⟩
theorem ok_rows {f f1 : Addr} {fd fd1 : FuncData} (F : Fun K "are_rows" "are_rows" s_are_rows f fd) (T : Txt K mg) (C_is_integer : Cal P w K mg base CX0 2 "is_integer" f1 fd1 ["value", "low", "high"] (spIsInt K)) : FnOk P w K mg base CX0 3 f fd ["value"] (spRows K) := by
  refine F.ok sc_are_rows (fun vs H Q E h => ?_) (fun cdv A outer s H vs Q E hr h => ?_)
  · obtain ⟨_, _, rfl, _⟩ := h
    rfl
  · obtain ⟨a, rs, rfl, ha, hr1, hl, k⟩ := h
    refine ⟨_, (pss_cons (ps_if (pt_not (pt_val (pe_callB (isi_K (K := K) rfl) (by rfl) T.z_isinstance (by decide +kernel) (pa_cons (pv 0) (pa_cons (pe_bltn (v := .ty "tuple") (by rfl) T.z_tuple (by decide +kernel) rfl) pa_nil))))) (pss_one (ps_ret pe_bl)) pss_nil)
  (pss_cons (ps_set (i := 1) sc_are_rows.nd rfl (Or.inl rfl) pe_int)
  (pss_cons (ps_for PassesOwn.never rfl (pi_tupK (K := K) rfl (pv 0)) (pg_name (i := 2) sc_are_rows.nd rfl (by first | exact Or.inl rfl | exact Or.inr rfl)) (pss_cons (ps_if (pt_not (pt_val (pe_call C_is_integer.G (hr.mono (by first | decide | omega)) rfl C_is_integer.g C_is_integer.kp C_is_integer.b .nil pass0 (pa_cons (pv 2) (pa_cons pe_int (pa_cons (pv 1) pa_nil)))))) (pss_one (ps_ret pe_bl)) pss_nil)
  (pss_one (ps_if (pt_cmpR op_eq (pv 2) (pv 1) (nomark _)) (pss_one (ps_aug (i := 1) sc_are_rows.nd rfl (Or.inl rfl) pe_int ip_add)) pss_nil))))
  (pss_one (ps_ret pe_bl))))), ?_⟩
    refine q_when (b := false) (et_not (a := true) (et_B (ev_isi (t := "tuple") (b := true) (ev_var rfl) (ty_tup ha) (by decide +kernel)))) (fun z => nomatch z) fun _ H1 e1 => ?_
    refine q_asg ev_c fun H2 e2 => ?_
    have e02 := e1.trans e2
    refine q_forTn (xs := nV rs) (ev_var rfl) (ex_t e02 ha) (fun i σ H' => ∃ z : Option V, Ex H H' ∧ σ = [some (.ref a), some (.int (nm (rs.take i) : Nat)), z]) (fun H3 e3 => ⟨_, e02.trans e3, rfl⟩) (fun i σ H' _ ⟨_, e, _⟩ => ex_t e ha) ?_ ?_
    · rintro i x σ H3 hi ⟨z, e3, rfl⟩
      obtain ⟨y, hy, rfl⟩ := nV_get hi
      have hyn := hr1 i y hy
      refine q_when (b := false) (et_not (a := true) (et_B (ev_callV (ea_cons (ev_var rfl) (ea_cons ev_c (ea_cons (ev_var rfl) ea_nil))) fun H4 e4 Q' q => ⟨_, 0, (nm (rs.take i) : Nat), some (y : Int), rfl, rfl, fun H5 e5 => by
        have : inRange (some (y : Int)) 0 (nm (rs.take i) : Nat) = true := by
          simp only [inRange, Bool.and_eq_true, decide_eq_true_eq]
          omega
        rw [this]
        exact q H5 e5⟩))) (fun z => nomatch z) fun _ H4 e4 => ?_
      refine s_when (et_eq (ev_var rfl) (ev_var rfl) rfl) (fun hc H5 e5 => ?_) (fun hc H5 e5 => ?_)
      · have : y = nm (rs.take i) := by have := V.int.inj (of_decide_eq_true hc); omega
        refine s_aug rfl ev_c fun H6 e6 => ?_
        refine ⟨some (.int (y : Nat)), ((e3.trans e4).trans e5).trans e6, ?_⟩
        rw [nm_succ hy, show (max (nm (rs.take i)) (y + 1) : Nat) = nm (rs.take i) + 1 by omega]
        rfl
      · have : y ≠ nm (rs.take i) := fun z => of_decide_eq_false hc (by rw [z])
        refine ⟨some (.int (y : Nat)), (e3.trans e4).trans e5, ?_⟩
        rw [nm_succ hy, show (max (nm (rs.take i)) (y + 1) : Nat) = nm (rs.take i) by omega]
        rfl
    · rintro σ H3 ⟨z, e3, rfl⟩
      exact s_ret ev_c fun H4 e4 => k H4 (e3.trans e4)
abbrev s_check_machine : Stmt := top 13
theorem sc_check_machine : FnScope ["value", "fades", "rows"] ["value"] (defScope s_check_machine) := ⟨rfl, rfl, rfl, by decide +kernel, rfl, by decide +kernel, by decide +kernel⟩
theorem ok_check_machine {f f1 f2 : Addr} {fd fd1 fd2 : FuncData} (F : Fun K "check_machine" "check_machine" s_check_machine f fd) (T : Txt K mg) (C_are_fades : Cal P w K mg base CX0 3 "are_fades" f1 fd1 ["value"] (spFades K)) (C_are_rows : Cal P w K mg base CX0 3 "are_rows" f2 fd2 ["value"] (spRows K)) : FnOk P w K mg base CX0 4 f fd ["value"] (spChkMa K) := by
  refine F.ok sc_check_machine (fun vs H Q E h => ?_) (fun cdv A outer s H vs Q E hr h => ?_)
  · obtain ⟨_, _, _, rfl, _⟩ := h
    rfl
  · obtain ⟨m, fs, rs, rfl, ⟨a, b, hm, ha, hb⟩, ok, k⟩ := h
    refine ⟨_, (pss_cons (ps_if (PW.pt (pw_or (pt_not (pt_val (pe_callB (isi_K (K := K) rfl) (by rfl) T.z_isinstance (by decide +kernel) (pa_cons (pv 0) (pa_cons (pe_bltn (v := .ty "tuple") (by rfl) T.z_tuple (by decide +kernel) rfl) pa_nil))))) (pw_or1 (pt_cmpR op_ne (pe_callB (len_K (K := K) rfl) (by rfl) T.z_len (by decide +kernel) (pa_cons (pv 0) pa_nil)) pe_int (nomark _))))) (pss_one ps_never) pss_nil)
  (pss_cons (ps_asg (pv 0) (pg_tup rfl (pgs_cons (pg_name (i := 1) sc_check_machine.nd rfl (by first | exact Or.inl rfl | exact Or.inr rfl)) (pgs_cons (pg_name (i := 2) sc_check_machine.nd rfl (by first | exact Or.inl rfl | exact Or.inr rfl)) pgs_nil))))
  (pss_cons (ps_if (pt_not (pt_val (pe_call C_are_fades.G (hr.mono (by first | decide | omega)) rfl C_are_fades.g C_are_fades.kp C_are_fades.b .nil pass0 (pa_cons (pv 1) pa_nil)))) (pss_one ps_never) pss_nil)
  (pss_one (ps_if (PW.pt (pw_or (pt_not (pt_val (pe_call C_are_rows.G (hr.mono (by first | decide | omega)) rfl C_are_rows.g C_are_rows.kp C_are_rows.b .nil pass0 (pa_cons (pv 2) pa_nil)))) (pw_or1 (pt_cmpR op_ne (pe_callB (len_K (K := K) rfl) (by rfl) T.z_len (by decide +kernel) (pa_cons (pv 2) pa_nil)) (pe_callB (len_K (K := K) rfl) (by rfl) T.z_len (by decide +kernel) (pa_cons (pv 1) pa_nil)) (nomark _))))) (pss_one ps_never) pss_nil))))), ?_⟩
    refine q_when (b := false) (et_is (et_or (b := false) (et_not (a := true) (et_B (ev_isi (t := "tuple") (b := true) (ev_var rfl) (ty_tup hm) (by decide +kernel)))) fun _ => et_is (et_ne (ev_lnT (ev_var rfl) hm) ev_c rfl) rfl) rfl) (fun z => nomatch z) fun _ H1 e1 => ?_
    refine q_unpack (ev_var rfl) (ex_t e1 hm) fun H2 e2 => ?_
    have e02 := e1.trans e2
    have ha2 := ex_t e02 ha
    have hb2 := ex_t e02 hb
    refine q_when (b := false) (et_not (a := true) (et_B (ev_callV (ea_cons (ev_var rfl) ea_nil) fun H3 e3 Q' q => ⟨a, fs, rfl, ex_t e3 ha2, ok.l1, ok.l4, ok.f, q⟩))) (fun z => nomatch z) fun _ H3 e3 => ?_
    have ha3 := ex_t e3 ha2
    have hb3 := ex_t e3 hb2
    have hll := ok.ll
    have hl4 := ok.l4
    refine s_when (b := false) (et_is (et_or (b := false) (et_not (a := true) (et_B (ev_callV (ea_cons (ev_var rfl) ea_nil) fun H4 e4 Q' q => ⟨b, rs, rfl, ex_t e4 hb3, ok.r, by omega, q⟩))) fun _ => et_is (et_ne (ev_lnT (ev_var rfl) hb3) (ev_lnT (ev_var rfl) ha3) rfl) (by rw [nV_len, nV_len, hll]; simp)) rfl) (fun z => nomatch z) fun _ H4 e4 => k H4 ((e02.trans e3).trans e4)
def spChkCeOf : Sp := fun vs H Q _ => ∃ (n c : Nat), vs = [.int (n : Nat), .int (c : Nat)] ∧ c < n ∧ ∀ H', Ex H H' → Q .non H'
abbrev s_check_cell_of : Stmt := top 14
theorem sc_check_cell_of : FnScope ["cells", "value"] ["cells", "value"] (defScope s_check_cell_of) := ⟨rfl, rfl, rfl, by decide +kernel, rfl, by decide +kernel, by decide +kernel⟩
theorem ok_check_cell_of {f f1 : Addr} {fd fd1 : FuncData} (F : Fun K "check_cell_of" "check_cell_of" s_check_cell_of f fd) (T : Txt K mg) (C_is_integer : Cal P w K mg base CX0 2 "is_integer" f1 fd1 ["value", "low", "high"] (spIsInt K)) : FnOk P w K mg base CX0 3 f fd ["cells", "value"] spChkCeOf := by
  refine F.ok sc_check_cell_of (fun vs H Q E h => ?_) (fun cdv A outer s H vs Q E hr h => ?_)
  · obtain ⟨_, _, rfl, _⟩ := h
    rfl
  · obtain ⟨n, c, rfl, hc, k⟩ := h
    refine ⟨_, (pss_one (ps_if (pt_not (pt_val (pe_call C_is_integer.G (hr.mono (by first | decide | omega)) rfl C_is_integer.g C_is_integer.kp C_is_integer.b .nil pass0 (pa_cons (pv 1) (pa_cons pe_int (pa_cons (pe_op op_sub (pv 0) pe_int) pa_nil)))))) (pss_one ps_never) pss_nil)), ?_⟩
    refine s_when (b := false) (et_not (a := true) (et_B (ev_callV (ea_cons (ev_var rfl) (ea_cons ev_c (ea_cons (ev_i0 (ev_var rfl) ev_c) ea_nil))) fun H1 e1 Q' q => ⟨_, 0, (n : Int) - 1, some (c : Int), rfl, rfl, fun H2 e2 => by
      have : inRange (some (c : Int)) 0 ((n : Int) - 1) = true := by
        simp only [inRange, Bool.and_eq_true, decide_eq_true_eq]
        omega
      rw [this]
      exact q H2 e2⟩))) (fun z => nomatch z) fun _ H1 e1 => k H1 e1
abbrev s_check_cell : Stmt := top 15
theorem sc_check_cell : FnScope ["machine", "value"] ["machine", "value"] (defScope s_check_cell) := ⟨rfl, rfl, rfl, by decide +kernel, rfl, by decide +kernel, by decide +kernel⟩
theorem ok_check_cell {f f1 : Addr} {fd fd1 : FuncData} (F : Fun K "check_cell" "check_cell" s_check_cell f fd) (T : Txt K mg) (C_check_cell_of : Cal P w K mg base CX0 3 "check_cell_of" f1 fd1 ["cells", "value"] spChkCeOf) : FnOk P w K mg base CX0 4 f fd ["machine", "value"] (spChkCe K) := by
  refine F.ok sc_check_cell (fun vs H Q E h => ?_) (fun cdv A outer s H vs Q E hr h => ?_)
  · obtain ⟨_, _, _, _, rfl, _⟩ := h
    rfl
  · obtain ⟨m, fs, rs, c, rfl, ⟨a, b, hm, ha, hb⟩, ok, hc, k⟩ := h
    refine ⟨_, (pss_one (ps_expr (pe_call C_check_cell_of.G (hr.mono (by first | decide | omega)) rfl C_check_cell_of.g C_check_cell_of.kp C_check_cell_of.b .nil pass0 (pa_cons (pe_callB (len_K (K := K) rfl) (by rfl) T.z_len (by decide +kernel) (pa_cons (pe_ix (ix_K (K := K) rfl) (pv 0) pe_int (fun _ _ => rfl)) pa_nil)) (pa_cons (pv 1) pa_nil))))), ?_⟩
    have hll := ok.ll
    refine s_call (ea_cons (ev_lnT (ev_ixT (ev_var rfl) ev_c hm rfl) ha) (ea_cons (ev_var rfl) ea_nil)) fun H1 e1 => ⟨(nV fs).length, c, rfl, by rw [nV_len]; omega, fun H2 e2 => k H2 (e1.trans e2)⟩
end
end Fm
set_option maxHeartbeats 1000000
namespace Fm
open PySem L2 Evl RZ
inductive Kd where
  | touch | set | wait
def Kd.near : Kd → Bool
  | .wait => false
  | _ => true
def Kd.isSet : Kd → Bool
  | .set => true
  | _ => false
def bhL (kd : Kd) (fs rs ls : List Nat) (c : Nat) : List Nat := match kd with
  | .touch => touchL fs rs ls c
  | .set => setL fs rs ls c
  | .wait => waitL ls
def bhC (kd : Kd) (rs : List Nat) (y c i : Nat) : Bool := (kd.near && decide (rs.getD i 0 = rs.getD c 0) && decide (y > 0)) || (kd.isSet && decide (i = c))
def bh (kd : Kd) (fs rs ls : List Nat) (c i : Nat) : Nat := if bhC kd rs (ls.getD i 0) c i then fs.getD i 0 else ls.getD i 0 - 1
theorem tch_bh (fs rs ls : List Nat) (c i : Nat) : tch fs rs ls c i = bh .touch fs rs ls c i := by
  unfold tch bh bhC Kd.near Kd.isSet
  generalize ls.getD i 0 = y
  generalize rs.getD i 0 = r1
  generalize rs.getD c 0 = r2
  by_cases h : y = 0
  · subst h
    simp
  · rw [if_neg h]
    have : y > 0 := by omega
    by_cases hr : r1 = r2
    · simp [hr, this]
    · simp [hr]
theorem bhL_eq (kd : Kd) (fs rs ls : List Nat) (c : Nat) : bhL kd fs rs ls c = (List.range ls.length).map (bh kd fs rs ls c) := by
  cases kd with
  | touch =>
    unfold bhL touchL
    exact List.map_congr_left fun i _ => tch_bh fs rs ls c i
  | set =>
    show setL fs rs ls c = _
    unfold setL touchL
    refine List.ext_getElem? fun i => ?_
    rw [List.getElem?_map, List.getElem?_set]
    by_cases hi : i < ls.length
    · have hr : (List.range ls.length)[i]? = some i := List.getElem?_range hi
      by_cases hc : c = i
      · subst hc
        rw [if_pos rfl, if_pos (by rw [List.length_map, List.length_range]; exact hi), hr]
        show some _ = some _
        congr 1
        unfold bh bhC Kd.near Kd.isSet
        simp
      · rw [if_neg hc, List.getElem?_map, hr]
        show some _ = some _
        congr 1
        rw [tch_bh]
        unfold bh bhC Kd.near Kd.isSet
        have : decide (i = c) = false := decide_eq_false fun z => hc z.symm
        simp [this]
    · have hr : (List.range ls.length)[i]? = none := List.getElem?_eq_none (by rw [List.length_range]; omega)
      rw [hr]
      by_cases hc : c = i
      · subst hc
        rw [if_pos rfl, if_neg (by rw [List.length_map, List.length_range]; exact hi)]
        rfl
      · rw [if_neg hc, List.getElem?_map, hr]
        rfl
  | wait =>
    show waitL ls = _
    unfold waitL
    refine List.ext_getElem? fun i => ?_
    rw [List.getElem?_map, List.getElem?_map]
    by_cases hi : i < ls.length
    · rw [List.getElem?_range hi, List.getElem?_eq_getElem hi]
      show some _ = some _
      congr 1
      have hg : ls.getD i 0 = ls[i] := by rw [List.getD_eq_getElem?_getD, List.getElem?_eq_getElem hi]; rfl
      unfold bh
      rw [hg]
      rfl
    · rw [List.getElem?_eq_none (by omega), List.getElem?_eq_none (by rw [List.length_range]; omega)]
      rfl
abbrev W5 : List V := [.str "get", .str "set", .str "plus", .str "minus", .str "touch"]
def KdOk (kd : Kd) (wd : Str) (cv : V) (c n : Nat) : Prop := inV (.str wd) W5 = kd.near ∧ decide (V.str wd = .str "set") = kd.isSet ∧ (kd.near = true → cv = .int (c : Nat) ∧ c < n)
def spLBeh (K : PySem.W.Frag) : Sp := fun vs H Q _ => ∃ (m l : Addr) (fs rs ls : List Nat) (wd : Str) (cv : V) (kd : Kd) (c : Nat), vs = [.ref m, .ref l, .str wd, cv] ∧ MaT K H m fs rs ∧ SqT K H l (nV ls) ∧ fs.length = rs.length ∧ ls.length = rs.length ∧ rs.length ≤ 10 ∧ KdOk kd wd cv c rs.length ∧
  ∀ b H', H b = none → Ex H H' → H' b = some (.tup (nV (bhL kd fs rs ls c))) → Q (.ref b) H'
section
variable {K : PySem.W.Frag} {σ : L2.St} {H : Hp} {ta tb te : TE}
theorem ev_max2 {i j : Int} (ha : Ev ta σ H (.int i)) (hb : Ev tb σ H (.int j)) : Ev (tCB (fun vs H Q => ∃ i j, vs = [.int i, .int j] ∧ Q (.int (if i < j then j else i)) H) (tCons ta (tCons tb tNil))) σ H (.int (if i < j then j else i)) := fun H1 e Q q =>
  ha H1 e _ fun H2 e2 => hb H2 (e.trans e2) _ fun H3 e3 => ⟨i, j, rfl, q H3 (e2.trans e3)⟩
end
section
variable {P : Program} {w : World} {K : PySem.W.Frag} {mg : Str → Option Value} {base : Heap}
abbrev s_law_behind : Stmt := top 39
theorem sc_law_behind : FnScope ["machine", "lives", "word", "cell", "found", "own", "left", "near"] ["machine", "lives", "word", "cell"] (defScope s_law_behind) := ⟨rfl, rfl, rfl, by decide +kernel, rfl, by decide +kernel, by decide +kernel⟩
theorem ok_lbehind {f : Addr} {fd : FuncData} (F : Fun K "_law_behind" "_law_behind" s_law_behind f fd) (T : Txt K mg) : FnOk P w K mg base CX0 1 f fd ["machine", "lives", "word", "cell"] (spLBeh K) := by
  refine F.ok sc_law_behind (fun vs H Q E h => ?_) (fun cdv A outer s H vs Q E hr h => ?_)
  · obtain ⟨_, _, _, _, _, _, _, _, _, rfl, _⟩ := h
    rfl
  · obtain ⟨m, l, fs, rs, ls, wd, cv, kd, c, rfl, ⟨a, b, hm, ha, hb⟩, hl, hf, hls, hz, ⟨k1, k2, k3⟩, k⟩ := h
    refine ⟨_, (pss_cons (ps_set (i := 4) sc_law_behind.nd rfl (Or.inl rfl) (pe_lst pa_nil))
  (pss_cons (ps_for PassesOwn.never rfl (pi_enumT (by rfl) T.z_enumerate (pa_cons (pv 1) pa_nil)) (pg_tup rfl (pgs_cons (pg_name (i := 5) sc_law_behind.nd rfl (by first | exact Or.inl rfl | exact Or.inr rfl)) (pgs_cons (pg_name (i := 6) sc_law_behind.nd rfl (by first | exact Or.inl rfl | exact Or.inr rfl)) pgs_nil))) (pss_cons (ps_set (i := 7) sc_law_behind.nd rfl (Or.inl rfl) (pe_and (pe_cmpR (in_K (K := K) rfl) (pv 2) (pe_lst (pa_cons pe_str (pa_cons pe_str (pa_cons pe_str (pa_cons pe_str (pa_cons pe_str pa_nil)))))) (by rfl)) (pe_one (pe_cmpR op_eq (pe_ix (ix_K (K := K) rfl) (pe_ix (ix_K (K := K) rfl) (pv 0) pe_int (fun _ _ => rfl)) (pv 5) (fun _ _ => rfl)) (pe_ix (ix_K (K := K) rfl) (pe_ix (ix_K (K := K) rfl) (pv 0) pe_int (fun _ _ => rfl)) (pv 3) (fun _ _ => rfl)) (nomark _)))))
  (pss_one (ps_expr (pe_bm PySem.F.plainAttrs_list PySem.F.slot_list_append PySem.F.type_list_append mt_append (pv 4) (pa_cons (pe_ifExp (PW.pt (pw_or (PW.pt (pw_and (pt_val (pv 7)) (pw_and1 (pt_cmpR op_gt (pv 6) pe_int (nomark _))))) (pw_or1 (PW.pt (pw_and (pt_cmpR op_eq (pv 2) pe_str (nomark _)) (pw_and1 (pt_cmpR op_eq (pv 5) (pv 3) (nomark _)))))))) (pe_ix (ix_K (K := K) rfl) (pe_ix (ix_K (K := K) rfl) (pv 0) pe_int (fun _ _ => rfl)) (pv 5) (fun _ _ => rfl)) (pe_callB (call_max2 rfl) (by rfl) T.z_max (by decide +kernel) (pa_cons pe_int (pa_cons (pe_op op_sub (pv 6) pe_int) pa_nil)))) pa_nil))))))
  (pss_one (ps_ret (pe_callTy (tpl_K (K := K) rfl) (by rfl) T.z_tuple (by decide +kernel) (pa_cons (pv 4) pa_nil)))))), ?_⟩
    refine q_asgL (xs := nV []) (el_lst ea_nil (Nat.zero_le _)) fun d H1 hd e1 hd1 => ?_
    refine q_forET (xs := nV ls) (ev_var rfl) (ex_t e1 hl) (fun i σ H' => ∃ z5 z6 z7 : Option V, Ex H H' ∧ H' d = some (.lst (nV ((List.range i).map (bh kd fs rs ls c)))) ∧ σ = [some (.ref m), some (.ref l), some (.str wd), some cv, some (.ref d), z5, z6, z7])
      (fun H2 e2 => ⟨_, _, _, e1.trans e2, e2 _ _ hd1, rfl⟩) (fun i σ H' _ ⟨_, _, _, e, _⟩ => ex_t e hl) ?_ ?_
    · rintro i x σ H2 hi ⟨z5, z6, z7, e2, hd2, rfl⟩ H3 e3
      obtain ⟨y, hy, rfl⟩ := nV_get hi
      have hil : i < ls.length := (List.getElem?_eq_some_iff.mp hy).1
      have hyd : ls.getD i 0 = y := by rw [List.getD_eq_getElem?_getD, hy]; rfl
      have e03 := e2.trans e3
      have hm3 := ex_t e03 hm
      have ha3 := ex_t e03 ha
      have hb3 := ex_t e03 hb
      refine q_asg (v := .bl (kd.near && decide (rs.getD i 0 = rs.getD c 0))) (ev_andV (by rw [← k1]; exact ev_opL (ev_var rfl) (el_lst (ea_cons ev_c (ea_cons ev_c (ea_cons ev_c (ea_cons ev_c (ea_cons ev_c ea_nil))))) (by decide)) fun _ _ h _ => rv_isL (sq_of h) rfl rfl) fun hn => ?_) fun H4 e4 => ?_
      · obtain ⟨rfl, hc⟩ := k3 hn
        refine ev_is (ev_op (ev_ixT (ev_ixT (ev_var rfl) ev_c hm3 rfl) (ev_var rfl) hb3 (nV_at (by omega))) (ev_ixT (ev_ixT (ev_var rfl) ev_c hm3 rfl) (ev_var rfl) hb3 (nV_at hc)) (rv_eq rfl)) ?_
        congr 1
        by_cases h : rs.getD i 0 = rs.getD c 0
        · rw [h]; simp
        · rw [decide_eq_false h, decide_eq_false fun z => h (by have := V.int.inj z; omega)]
      have hd4 := (e3.trans e4) _ _ hd2
      have hval : Ev (tIf (tOr (tAnd (tB (tVar 7)) (tTest (tOp (rI0 fun i j => .bl (decide (i > j))) (tVar 6) (tC (.int 0))))) (tAnd (tTest (tOp rEq (tVar 2) (tC (.str "set")))) (tTest (tOp rEq (tVar 5) (tVar 3))))) (tOp (rIx K) (tOp (rIx K) (tVar 0) (tC (.int 0))) (tVar 5)) (tCB (fun vs H Q => ∃ i j, vs = [.int i, .int j] ∧ Q (.int (if i < j then j else i)) H) (tCons (tC (.int 0)) (tCons (tOp (rI0 fun i j => .int (i - j)) (tVar 6) (tC (.int 1))) tNil))))
          [some (.ref m), some (.ref l), some (.str wd), some cv, some (.ref d), some (.int (i : Int)), some (.int (y : Nat)), some (.bl (kd.near && decide (rs.getD i 0 = rs.getD c 0)))] H4 (.int (bh kd fs rs ls c i : Nat)) := by
        have hbc : bhC kd rs y c i = (((kd.near && decide (rs.getD i 0 = rs.getD c 0)) && decide ((y : Int) > 0)) || (kd.isSet && decide (i = c))) := by
          unfold bhC
          have : decide (y > 0) = decide ((y : Int) > 0) := by
            by_cases h : y > 0
            · rw [decide_eq_true h, decide_eq_true (by omega)]
            · rw [decide_eq_false h, decide_eq_false (by omega)]
          rw [this]
        refine ev_if (b := bhC kd rs y c i) (et_is (et_or (et_and (et_B (ev_var rfl)) fun _ => et_i0 (ev_var rfl) ev_c) fun _ => et_and (et_is (et_eq (ev_var rfl) ev_c rfl) k2) fun hs => ?_) hbc.symm) (fun hb => ?_) (fun hb => ?_)
        · have hn : kd.near = true := by cases kd <;> simp [Kd.isSet] at hs <;> rfl
          obtain ⟨rfl, hc⟩ := k3 hn
          refine et_is (et_eq (ev_var rfl) (ev_var rfl) rfl) ?_
          by_cases h : i = c
          · rw [h]; simp
          · rw [decide_eq_false h, decide_eq_false fun z => h (by have := V.int.inj z; omega)]
        · have : bh kd fs rs ls c i = fs.getD i 0 := by unfold bh; rw [hyd, if_pos hb]
          rw [this]
          exact ev_ixT (ev_ixT (ev_var rfl) ev_c (ex_t e4 hm3) rfl) (ev_var rfl) (ex_t e4 ha3) (nV_at (by omega))
        · have : bh kd fs rs ls c i = y - 1 := by unfold bh; rw [hyd, if_neg (by rw [hb]; exact fun z => nomatch z)]
          rw [this]
          have h2 : ((y - 1 : Nat) : Int) = (if (0 : Int) < (y : Int) - 1 then (y : Int) - 1 else 0) := by split <;> omega
          rw [h2]
          exact ev_max2 ev_c (ev_i0 (ev_var rfl) ev_c)
      refine s_app hd4 (ev_var rfl) hval (by rw [nV_len, List.length_map, List.length_range]; omega) fun H5 e5 => ?_
      refine ⟨_, _, _, Ex.mut ((e03.trans e4).trans e5) hd, ?_, rfl⟩
      rw [upd_same, List.range_succ, List.map_append, nV_app]
      rfl
    · rintro σ H2 ⟨z5, z6, z7, e2, hd2, rfl⟩
      rw [nV_len, ← bhL_eq] at hd2
      exact s_retU (eu_tpl (ev_var rfl) (sq_of hd2)) fun q H3 hq e3 h3 => k q H3 (fresh_back e2 hq) (e2.trans e3) h3
end
end Fm
set_option maxHeartbeats 1000000
namespace Fm
open PySem L2 Evl RZ L2
theorem nm_app (rs : List Nat) (r : Nat) : nm (rs ++ [r]) = max (nm rs) (r + 1) := by
  unfold nm
  rw [List.foldl_append]
  rfl
theorem rowsOk_app {rs : List Nat} {r : Nat} (h : RowsOk rs) (hr : r ≤ nm rs) : RowsOk (rs ++ [r]) := fun i x hx => by
  by_cases hi : i < rs.length
  · rw [List.getElem?_append_left hi] at hx
    rw [List.take_append_of_le_length (Nat.le_of_lt hi)]
    exact h i x hx
  · have : i = rs.length := by
      have := (List.getElem?_eq_some_iff.mp hx).1
      rw [List.length_append, List.length_singleton] at this
      omega
    subst this
    rw [List.getElem?_append_right (Nat.le_refl _), Nat.sub_self] at hx
    cases hx
    rw [List.take_left']
    · exact hr
    · rfl
section
variable {P : Program} {w : World} {K : PySem.W.Frag} {mg : Str → Option Value} {base : Heap}
theorem m_retTup {σ : L2.St} {H : Hp} {D : Ends} {tA : TA} (h : tA σ H fun xs H1 => xs.length ≤ sizeLine ∧ ∀ p, H1 p = none → D.rt (.ref p) (upd H1 p (.tup xs))) : tRet (tTup tA) D σ H := h
abbrev s_law_machine : Stmt := top 38
theorem sc_law_machine : FnScope ["row", "most", "fade", "many", "rows", "least", "cell"] ["row", "most", "fade"] (defScope s_law_machine) := ⟨rfl, rfl, rfl, by decide +kernel, rfl, by decide +kernel, by decide +kernel⟩
end
end Fm
set_option maxHeartbeats 1000000
namespace Fm
open PySem PySem.Spec PyProof.Rows L2
section
variable {X : Cx} {K : PySem.W.Frag}
theorem catA_K (h : X.K = K) : OpR X (binaryOp .Add) (rCatA K) := h ▸ op_catA
end
end Fm
set_option maxHeartbeats 1000000
namespace Fm
open PySem L2 Evl RZ
theorem walk_enumT {K : PySem.W.Frag} {a : Addr} {xs : List V} : Walk (Itet K a) xs.length (fun H => SqT K H a xs) (YPair (fun i => some (.int (i : Nat))) (fun i => xs[i]?)) := by
  refine ⟨fun i H hi q => ⟨xs, xs[i], q, by simp [hi]⟩, fun H q => ⟨xs, q, rfl⟩, fun i H v H' _ q y => ?_⟩
  obtain ⟨T, x, h1, h2, h3, h4⟩ := y
  exact ⟨T, .int (i : Nat), x, h1, h2, h3, rfl, h4 xs q⟩
def mapI (f : Nat → V → V) (xs : List V) : List V := (List.range xs.length).map fun m => f m (xs.getD m .non)
section
variable {K : PySem.W.Frag} {σ : L2.St} {H : Hp} {tl te : TE}
theorem el_lcET {a : Addr} {xs : List V} {i j : Nat} {vs : List Nat} {f : Nat → V → V} (ha : Ev tl σ H (.ref a)) (hx : SqT K H a xs) (hw : ∀ x y, wipe (((wipe σ vs).set i x).set j y) vs = wipe σ vs) (hz : xs.length ≤ 50000)
    (he : ∀ m x H', xs[m]? = some x → Ex H H' → Ev te (((wipe σ vs).set i (some (.int (m : Nat)))).set j (some x)) H' (f m x)) : EvL (tLc (iEnumT K (tCons tl tNil)) (gTup K 2 (gCons (gName i) (gCons (gName j) gNil))) tYes te vs) σ H (mapI f xs) := fun H1 e1 Q q =>
  ha H1 e1 _ fun H2 e2 => ⟨a, xs, rfl, ex_t (e1.trans e2) hx, fun D hD => lc_it walk_enumT (fun m H' => Ex H2 H' ∧ H' D = some (.lst ((List.range m).map fun m => f m (xs.getD m .non))))
    ⟨Ex.new hD, upd_same⟩ (fun m H' _ h => ex_t ((e1.trans e2).trans h.1) hx) (fun m v H3 H4 hm h y => by
      obtain ⟨e3, h3⟩ := h
      obtain ⟨T, x, y', rfl, hT, rfl, hx1, hy1⟩ := y
      cases hx1
      have eT := Ex.new (o := .tup [.int (m : Nat), y']) hT
      refine ⟨T, _, rfl, st_of upd_same, rfl, _, _, rfl, ⟨_, _, rfl, ⟨rfl, ?_⟩⟩⟩
      refine ⟨hw _ _, ?_⟩
      refine yes_lc ?_
      rw [if_pos rfl]
      refine (he m y' _ hy1 (((e1.trans e2).trans e3).trans eT)) _ (Ex.refl _) _ fun H5 e5 => ?_
      refine ⟨_, e5 _ _ (eT _ _ h3), sz_lt (by rw [List.length_map, List.length_range]; omega), Ex.mut ((e3.trans eT).trans e5) hD, ?_⟩
      have hyd : xs.getD m .non = y' := by
        have : xs[m]? = some y' := hy1
        rw [List.getD_eq_getElem?_getD, this]
        rfl
      rw [upd_same, List.range_succ, List.map_append]
      show some (HO.lst (_ ++ [f m y'])) = some (HO.lst (_ ++ [f m (xs.getD m .non)]))
      rw [hyd]) (fun H3 h => q D H3 (fresh_back e2 hD) (e2.trans h.1) h.2)⟩
end
abbrev Mo := Int × List Nat
noncomputable def tol (p : List In) (s : Nat) (ls : List Nat) : List Nat := (List.range ls.length).map fun c => if needS p s c then ls.getD c 0 else 0
noncomputable def mo (p : List In) (s : Nat) (ls : List Nat) : Mo := if s = p.length then (-1, []) else ((s : Int), tol p s ls)
def MoH (H : Hp) (b : Addr) (m : Mo) : Prop := ∃ q, H b = some (.tup [.int m.1, .ref q]) ∧ H q = some (.tup (nV m.2))
def moK (m : Mo) : NestedKey := .tup [.num m.1, .tup (m.2.map fun (x : Nat) => .num (x : Int))]
def moD (m : Mo) : PyData := .tuple [.int m.1, .tuple (iD (m.2.map fun (x : Nat) => (x : Int)))]
theorem MoH.up {H H' : Hp} {b : Addr} {m : Mo} (e : Ex H H') (h : MoH H b m) : MoH H' b m := let ⟨q, h1, h2⟩ := h; ⟨q, e _ _ h1, e _ _ h2⟩
theorem nk_nV {H : Hp} : ∀ l : List Nat, Paired (NK H) (nV l) (l.map fun (x : Nat) => .num (x : Int))
  | [] => .nil
  | _ :: l => .cons (.int _) (nk_nV l)
theorem MoH.nk {H : Hp} {b : Addr} {m : Mo} (h : MoH H b m) : NK H (.ref b) (moK m) := let ⟨_, h1, h2⟩ := h; .tup h1 (.cons (.int _) (.cons (.tup h2 (nk_nV _)) .nil))
theorem nums_depth : ∀ l : List Nat, NestedKey.depthAll (l.map fun (x : Nat) => .num (x : Int)) = 0
  | [] => rfl
  | _ :: l => by
    show max (NestedKey.depth _) (NestedKey.depthAll _) = 0
    rw [nums_depth l]
    rfl
theorem nums_inj : ∀ {l l' : List Nat}, (l.map fun (x : Nat) => NestedKey.num (x : Int)) = l'.map (fun (x : Nat) => NestedKey.num (x : Int)) → l = l'
  | [], [], _ => rfl
  | [], _ :: _, h => nomatch h
  | _ :: _, [], h => nomatch h
  | x :: l, y :: l', h => by
    rw [List.map_cons, List.map_cons] at h
    injection h with h1 h2
    injection h1 with h1
    rw [nums_inj h2, Int.ofNat.inj h1]
theorem moK_inj {m m' : Mo} (h : moK m = moK m') : m = m' := by
  unfold moK at h
  injection h with h
  injection h with h1 h2
  injection h1 with h1
  injection h2 with h2 _
  injection h2 with h2
  exact Prod.ext h1 (nums_inj h2)
theorem nV_ints (l : List Nat) : nV l = (l.map fun (x : Nat) => (x : Int)).map V.int := by unfold nV; rw [List.map_map]; rfl
theorem MoH.dp {K : PySem.W.Frag} {H : Hp} {b : Addr} {m : Mo} (h : MoH H b m) : Dp K H (.ref b) (moD m) := let ⟨_, h1, h2⟩ := h; .tup (st_of h1) (.cons (.int _) (.cons (.tup (st_of h2) (by rw [nV_ints]; exact dp_ints _)) .nil))
theorem ints_eqv : ∀ l l' : List Int, PyData.eqvAll (iD l) (iD l') = decide (l = l')
  | [], [] => by simp [iD, PyData.eqvAll]
  | [], _ :: _ => by simp [iD, PyData.eqvAll]
  | _ :: _, [] => by simp [iD, PyData.eqvAll]
  | x :: l, y :: l' => by
    have ih := ints_eqv l l'
    simp only [iD, List.map_cons, PyData.eqvAll] at ih ⊢
    rw [ih]
    simp only [PyData.eqv]
    rw [Bool.eq_iff_iff]
    simp
theorem ofNat_map_inj {l l' : List Nat} (h : (l.map fun (x : Nat) => (x : Int)) = l'.map fun (x : Nat) => (x : Int)) : l = l' := nums_inj (by
  have := congrArg (List.map NestedKey.num) h
  rw [List.map_map, List.map_map] at this
  exact this)
end Fm
set_option maxHeartbeats 1000000
namespace Fm
open PySem PySem.W PySem.Spec PyProof.Rows L2
def rMaxT (K : PySem.W.Frag) : List V → Hp → VK → Prop := fun vs H Q => ∃ (a : Addr) (n : Int) (ns : List Int), vs = [V.ref a] ∧ SqT K H a ((n :: ns).map V.int) ∧ Q (.int (ns.foldl (fun a y => if a < y then y else a) n)) H
section
variable {X : Cx} {K : PySem.W.Frag}
theorem holds_to_int {h : Heap} {v : Value} {n : Int} (H : Holds h v n) : ∃ t, v = .int n t := by
  have := HoldAll.toInts (HoldAll.cons H (HoldAll.nil (h := h)))
  cases this with
  | cons _ t _ => exact ⟨t, rfl⟩
theorem maxOf_int (n : Int) (ns : List Int) : maxOf n ns = ns.foldl (fun a y => if a < y then y else a) n := by
  unfold maxOf
  congr 1
  funext a y
  show (if decide (a < y) = true then y else a) = _
  by_cases h : a < y
  · rw [if_pos h, if_pos (decide_eq_true h)]
  · rw [if_neg h, if_neg (by rw [decide_eq_false h]; exact Bool.false_ne_true)]
theorem cr_maxT (hc : X.calm = true) (hu : X.A.units + 64 < cLine) : CallR X (.builtin "max") (rMaxT X.K) := by
  intro pins s σ H vs us Q I r h
  obtain ⟨a, n, ns, rfl, hs, q⟩ := h
  obtain ⟨its, rv, p, _⟩ := I.tuple hs
  rw [Vals.ref1 r]
  have p' : s.heap.IsTuple a its.toArray := p
  refine max_tuple_datum (I.ok.hd hc) p' (HoldAll.of_ints (by simpa using rv.ints)) (by show X.A.units + 1 + 0 < cLine; omega) fun i v h' tk hv hh hk => ?_
  obtain ⟨t, rfl⟩ := holds_to_int hh
  rw [maxOf_int]
  exact ⟨.int _, H, I.kept hk, ⟨_, rfl⟩, q⟩
theorem maxT_K (h : X.K = K) (hc : X.calm = true) (hu : X.A.units + 64 < cLine) : CallR X (.builtin "max") (rMaxT K) := h ▸ cr_maxT hc hu
theorem flat_ints (ys : List Int) : (ys.map V.int).all flatV = true := by
  rw [List.all_map]
  exact List.all_eq_true.mpr fun _ _ => rfl
def rIdxT (K : PySem.W.Frag) : V → List V → Hp → VK → Prop := fun x xs H Q => ∃ p, ∃ ys : List Int, ∃ z j, x = .ref p ∧ xs = [.int z] ∧ SqT K H p (ys.map V.int) ∧ ys[j]? = some z ∧ (∀ m, m < j → ys[m]? ≠ some z) ∧ Q (.int (j : Nat)) H
theorem mt_idxT : MtR X "tuple.index" (rIdxT X.K) := by
  intro pins s σ H x xs v us Q I rx rs h
  obtain ⟨p, ys, z, j, rfl, rfl, hq, hy, hno, q⟩ := h
  cases rx
  obtain ⟨u, rfl, t, rfl⟩ := vals1 rs
  obtain ⟨its, r, pl, hz⟩ := I.tuple hq
  obtain ⟨⟨cls, dd, dt, sl⟩, ho, hc, n, hd⟩ := pl
  simp only at hc hd
  subst hc
  subst hd
  have hl : its.toArray.size = ys.length := by rw [List.size_toArray, ← r.length, List.length_map]
  have hj : j < its.toArray.size := by rw [hl]; exact (List.getElem?_eq_some_iff.mp hy).1
  have at' : ∀ (m : Nat) (hm : m < its.toArray.size), ∃ y t', ys[m]? = some y ∧ its.toArray[m] = Value.int y t' := fun m hm => by
    have hm' : m < ys.length := by rw [← hl]; exact hm
    obtain ⟨w, hw, t', hw'⟩ := r.get (i := m) (x := .int ys[m]) (by simp [hm'])
    refine ⟨ys[m], t', List.getElem?_eq_getElem hm', ?_⟩
    have e := (List.getElem?_eq_some_iff.mp hw).2
    rw [← hw', ← e]
    simp
  refine call_meets PySem.F.slot_tuple_index ⟨_, ho, rfl⟩ PySem.F.entry_tuple_index (PySem.F.args_tuple_index_2 _ _) (TI.tuple_indexAt p its.toArray n dd sl (.int z t) (eqU (.int z)) j hj ?_ ?_)
    ⟨ho, fun w hw => mem_eqAt (x := .int z) ⟨t, rfl⟩ rfl r (flat_ints ys) w (by simpa using hw), ⟨.int (j : Nat), H, I.tok _, ⟨_, rfl⟩, q⟩⟩
  · obtain ⟨y, t', h1, h2⟩ := at' j hj
    rw [hy] at h1
    cases h1
    rw [h2]
    show (z == z) = true
    exact beq_self_eq_true z
  · intro m hm hmj
    obtain ⟨y, t', h1, h2⟩ := at' m hm
    rw [h2]
    show (y == z) = false
    exact beq_eq_false_iff_ne.mpr fun e => hno m hmj (e ▸ h1)
theorem idxT_K (h : X.K = K) : MtR X "tuple.index" (rIdxT K) := h ▸ mt_idxT
end
end Fm
set_option maxHeartbeats 1000000
namespace Fm
open PySem L2 Evl
def In.kd : In → Kd
  | .get _ => .touch | .plus _ => .touch | .minus _ => .touch | .touch _ => .touch | .set _ => .set
  | _ => .wait
def In.cell : In → Nat
  | .get k => k | .plus k => k | .minus k => k | .touch k => k | .set k => k
  | _ => 0
end Fm
set_option maxHeartbeats 1000000
namespace Fm
open PySem L2 Evl RZ
def fix (r : Nat) : List Nat → Nat
  | [] => 0
  | x :: l => if x = r then 0 else fix r l + 1
theorem fix_get {r : Nat} : ∀ {l : List Nat}, r ∈ l → l[fix r l]? = some r
  | [], h => nomatch h
  | x :: l, h => by
    unfold fix
    by_cases e : x = r
    · rw [if_pos e, e]; rfl
    · rw [if_neg e, List.getElem?_cons_succ]
      exact fix_get ((List.mem_cons.mp h).resolve_left fun z => e z.symm)
theorem fix_min {r : Nat} : ∀ {l : List Nat} {m : Nat}, m < fix r l → l[m]? ≠ some r
  | [], _, h => by simp
  | x :: l, m, h => by
    unfold fix at h
    by_cases e : x = r
    · rw [if_pos e] at h; exact absurd h (Nat.not_lt_zero _)
    · rw [if_neg e] at h
      cases m with
      | zero => intro z; exact e (Option.some.inj z)
      | succ m => rw [List.getElem?_cons_succ]; exact fix_min (by omega)
theorem fix_lt {r : Nat} {l : List Nat} (h : r ∈ l) : fix r l < l.length := (List.getElem?_eq_some_iff.mp (fix_get h)).1
theorem nm_mem {rs : List Nat} (hok : RowsOk rs) {r : Nat} (h : r < nm rs) : r ∈ rs := by
  have key : ∀ k, k ≤ rs.length → ∀ r, r < nm (rs.take k) → r ∈ rs.take k := fun k => by
    induction k with
    | zero => intro _ r h; simp [nm] at h
    | succ k ih =>
      intro hk r h
      have hx : rs[k]? = some rs[k] := List.getElem?_eq_getElem (by omega)
      rw [nm_succ hx] at h
      have ht : rs.take (k + 1) = rs.take k ++ [rs[k]] := by rw [List.take_succ, hx]; rfl
      rw [ht]
      by_cases hr : r < nm (rs.take k)
      · exact List.mem_append_left _ (ih (by omega) r hr)
      · have h1 := hok k _ hx
        have : r = rs[k] := by omega
        rw [this]
        exact List.mem_append_right _ (List.mem_singleton.mpr rfl)
  have := key rs.length (Nat.le_refl _) r (by rwa [List.take_length])
  rwa [List.take_length] at this
theorem nm_max : ∀ (l : List Nat) (n : Nat), (l.map fun (x : Nat) => (x : Int)).foldl (fun a y => if a < y then y else a) (n : Int) + 1 = ((l.foldl (fun n r => max n (r + 1)) (n + 1) : Nat) : Int)
  | [], n => rfl
  | x :: l, n => by
    rw [List.map_cons, List.foldl_cons, List.foldl_cons]
    by_cases h : n < x
    · rw [if_pos (by omega), nm_max l x]
      have : max (n + 1) (x + 1) = x + 1 := by omega
      rw [this]
    · rw [if_neg (by omega), nm_max l n]
      have : max (n + 1) (x + 1) = n + 1 := by omega
      rw [this]
theorem nm_cons (r : Nat) (l : List Nat) : ((nm (r :: l) : Nat) : Int) = (l.map fun (x : Nat) => (x : Int)).foldl (fun a y => if a < y then y else a) (r : Int) + 1 := by
  rw [nm_max]
  unfold nm
  rw [List.foldl_cons]
  have : max 0 (r + 1) = r + 1 := by omega
  rw [this]
def fcs (rs : List Nat) : List Nat := (List.range (nm rs)).map fun r => fix r rs
noncomputable def sucT (p : List In) (fs rs : List Nat) (m : Mo) : List Mo := (fcs rs).map fun c => mo p m.1.toNat (bhL .touch fs rs m.2 c)
noncomputable def sucD (p : List In) (fs rs : List Nat) (m : Mo) : Option (List Mo) := match p[m.1.toNat]? with
  | some i => if i.rd = true ∧ m.2.getD i.cell 0 = 0 then none else some ((lnx p m.1.toNat).map fun o => mo p o (bhL i.kd fs rs m.2 i.cell))
  | none => none
noncomputable def sucs (p : List In) (fs rs : List Nat) (m : Mo) : List Mo := sucT p fs rs m ++ ((sucD p fs rs m).getD [])
structure MoOk (p : List In) (fs : List Nat) (m : Mo) : Prop where
  n : ∃ s : Nat, m.1 = (s : Int) ∧ Sta p s
  l : m.2.length = fs.length
  b : ∀ i, i < fs.length → m.2.getD i 0 ≤ fs.getD i 0
noncomputable def start (p : List In) (fs : List Nat) : Mo := mo p (stE p 0) fs
inductive MoRch (p : List In) (fs rs : List Nat) : Mo → Prop where
  | here (h : 0 ≤ (start p fs).1) : MoRch p fs rs (start p fs)
  | next {m m' : Mo} (r : MoRch p fs rs m) (h : m' ∈ sucs p fs rs m) (h0 : 0 ≤ m'.1) : MoRch p fs rs m'
structure BkI (p : List In) (fs rs : List Nat) (t : Nat) (ord : List Mo) : Prop where
  nd : ord.Nodup
  ok : ∀ m ∈ ord, MoOk p fs m
  cl : ∀ m ∈ ord.take t, ∀ m' ∈ sucs p fs rs m, 0 ≤ m'.1 → m' ∈ ord
  st : 0 ≤ (start p fs).1 → start p fs ∈ ord
  rc : ∀ m ∈ ord, MoRch p fs rs m
structure Bk (p : List In) (fs rs : List Nat) (ord : List Mo) : Prop where
  nd : ord.Nodup
  ok : ∀ m ∈ ord, MoOk p fs m
  mem : ∀ m, m ∈ ord ↔ MoRch p fs rs m
theorem BkI.done {p : List In} {fs rs : List Nat} {t : Nat} {ord : List Mo} (h : BkI p fs rs t ord) (ht : ord.length ≤ t) : Bk p fs rs ord := by
  refine ⟨h.nd, h.ok, fun m => ⟨h.rc m, fun r => ?_⟩⟩
  have hc := h.cl
  rw [List.take_of_length_le ht] at hc
  induction r with
  | here h0 => exact h.st h0
  | next r hm h0 ih => exact hc _ ih _ hm h0
end Fm
set_option maxHeartbeats 1000000
namespace Fm
open PySem PySem.W PySem.Spec PyProof.Rows L2 Evl
def rTplF (K : PySem.W.Frag) : List V → Hp → VK → Prop := fun xs H Q => ∃ p ys, xs = [.ref p] ∧ SqL K H p ys ∧ ∀ l o, H l = none → o.cls = .type "tuple" → o.dict = none → Q (.ref l) (upd H l (.frz o (.tup ys)))
def TupN (H : Hp) (p : Addr) : Prop := ∃ o xs, H p = some (.frz o (.tup xs)) ∧ o.cls = .type "tuple" ∧ o.dict = none
theorem TupN.up {H H' : Hp} {p : Addr} (e : Ex H H') (h : TupN H p) : TupN H' p := let ⟨o, xs, h1, h2, h3⟩ := h; ⟨o, xs, e _ _ h1, h2, h3⟩
section
variable {X : Cx} {K : PySem.W.Frag}
theorem call_tplF : CallR X (.type "tuple") (rTplF X.K) := by
  intro pins s σ H xs us Q I r h
  obtain ⟨p, ys, rfl, hq, q⟩ := h
  obtain ⟨u, rfl, rx⟩ := vals1 r
  cases rx
  obtain ⟨its, r', pl, hz⟩ := I.list hq
  have hlen := r'.length
  refine call_tuple_list pl.isList (fun h' kp => ?_) (by simp only [List.size_toArray] <;> omega)
  have I1 : Inv X pins σ H { s with heap := h' } := I.kept (t' := s.toks) kp
  have hob : (h'.push { cls := .type "tuple", data := .seq its.toArray }).get? h'.objs.size = some { cls := .type "tuple", data := .seq its.toArray } := Heap.get?_push_size _ rfl
  have I2 : Inv X pins σ (upd H h'.objs.size (.frz { cls := .type "tuple", data := .seq its.toArray } (.tup ys))) { s with heap := h'.push { cls := .type "tuple", data := .seq its.toArray } } :=
    I1.laid (t' := s.toks) (fun b o e => Heap.get?_push_of_some _ e) (Nat.le_refl _) (show ObjOk X.prog X.w _ _ _ (.frz _ (.tup ys)) from ⟨hob, hz, its, r', IsTup.new _ _⟩)
  exact ⟨.ref h'.objs.size, _, I2, rfl, q _ _ (I1.hok.fresh (Nat.le_refl _)) rfl rfl⟩
theorem tplF_K (h : X.K = K) : CallR X (.type "tuple") (rTplF K) := h ▸ call_tplF
theorem tupN_is {pins : List (Addr × Obj)} {σ : L2.St} {H : Hp} {s : Shared} {p : Addr} (I : Inv X pins σ H s) (h : TupN H p) : s.TypeIs (.ref p) "tuple" ∧ ∀ a, Value.ref p = .ref a → ∃ ob, s.heap.get? a = some ob ∧ ob.dict = none := by
  obtain ⟨o, xs, h1, h2, h3⟩ := h
  obtain ⟨ho, _⟩ := (show ObjOk X.prog X.w H s.heap p (.frz o (.tup xs)) from I.hok p _ h1)
  exact ⟨⟨o, ho, h2⟩, fun a e => by cases e; exact ⟨o, ho, h3⟩⟩
def tBMT (r : V → List V → Hp → VK → Prop) (to : TE) (t : TA) : TE := fun σ H Q => to σ H fun x H1 => (∃ p, x = .ref p ∧ TupN H1 p) ∧ t σ H1 fun xs H2 => r x xs H2 Q
variable {o e : Expr} {es : List Expr} {to : TE} {t : TA} {name : Str} {apos cpos : Pos} {id : String} {r : V → List V → Hp → VK → Prop}
theorem pe_bmT (pa : PlainAttrs "tuple") (slot : Slot "tuple" name id) (hty : typeOf (.builtin id) = pure (.type "method_descriptor")) (hm : MtR X id r) (ho : PE X o to) (ha : PA X (e :: es) t)
    (hbase : attributeBase o name X.env (eval o X.env) = eval o X.env := by rfl)
    (hfew : ((backTo cpos (starEach (e :: es) X.env)).all (fun x => !x.1) && (backToKw cpos (keywordEach [] X.env)).all (fun x => x.1.isSome)
      && decide ((e :: es).length + ([] : List Keyword).length + (if ([] : List Keyword).isEmpty then 0 else 1) < 30)) = true := by rfl)
    (hline : (apos.endLine == cpos.line) = true := by rfl) (hs : starEach (e :: es) X.env = (false, eval e X.env) :: starEach es X.env := by rfl) (hplain : (backTo cpos (starEach es X.env)).any (·.1) = false := by rfl) :
    PE X (.Call (.Attribute o name apos) (e :: es) [] cpos) (tBMT r to t) := by
  refine ⟨fun pins s σ H Q I h => ?_⟩
  refine wpAny_Call_method_late hbase hfew hline rfl (thn (ho.run pins s σ H _ I h) fun v s1 ⟨x, H1, I1, r1, ⟨p, ex, ty⟩, q1⟩ => ?_)
  subst ex
  cases r1
  obtain ⟨h1, h2⟩ := tupN_is I1 ty
  refine ⟨"tuple", id, pa, slot, hty, h1, h2, ?_⟩
  have hA := ha.run cpos pins s1 σ H1 _ I1 q1
  rw [hs] at hA ⊢
  refine Calls.callWith_builtin (by show (false || (backTo cpos (starEach es X.env)).any (·.1)) = false; rw [hplain] <;> rfl) (Calls.evalArgs_plain ?_)
  exact thn hA fun us s2 ⟨xs, H2, I2, r2, q2⟩ => hm pins s2 σ H2 (.ref p) xs (.ref p) us Q I2 rfl r2 q2
end
end Fm
set_option maxHeartbeats 1000000
namespace Fm
open PySem L2 Evl RZ
section
variable {K : PySem.W.Frag} {σ : L2.St} {H : Hp} {ta tb te tl : TE} {tr tA : TA} {D : Ends} {tz tu : TS} {t : TT} {tt : TT} {Q : VK} {x : V} {r : R2} {g : TG} {vs : List Nat}
theorem eo_some2 {i : Int} (h : Ev ta σ H (.int i)) : EvO (tPart ta) σ H (some i) := fun H1 e Q q => h H1 e _ fun H2 e2 => ⟨i, rfl, q H2 e2⟩
theorem s_for1 {o : Option V} (h : EvL tl σ H o.toList) (h0 : o = none → ∀ H1, Ex H H1 → D.nx σ H1) (h1 : ∀ p v H1, o = some v → H p = none → Ex H H1 → H1 p = some (.lst [v]) → g v σ H1 fun σ2 H2 => tu { D with nx := fun σ' H' => H' p = some (.lst [v]) ∧ D.nx σ' H', ct := fun σ' H' => H' p = some (.lst [v]) ∧ D.nx σ' H', bk := D.nx } σ2 H2) : tFor (iList K tl) g tu D σ H := by
  cases o with
  | none => exact s_forNL (xs := []) h (fun p i σ' H' => H' p = some (.lst []) ∧ σ' = σ ∧ Ex H H') (fun p H1 _ e1 hp => ⟨hp, rfl, e1⟩) (fun p i σ' H' _ z => sq_of z.1) (fun p i x σ' H' hi => nomatch hi) (fun p σ' H' ⟨_, hs, e⟩ => by rw [hs]; exact h0 rfl H' e)
  | some v => exact s_forNL (xs := [v]) h (fun p i σ' H' => H' p = some (.lst [v]) ∧ ((i = 0 ∧ H p = none ∧ σ' = σ ∧ Ex H H') ∨ (i = 1 ∧ D.nx σ' H'))) (fun p H1 hp e1 h2 => ⟨h2, .inl ⟨rfl, hp, rfl, e1⟩⟩) (fun p i σ' H' _ z => sq_of z.1) (fun p i x σ' H' hi ⟨z, c⟩ => by
      have hi0 : i = 0 := by
        have := (List.getElem?_eq_some_iff.mp hi).1
        simp at this
        omega
      subst hi0
      cases hi
      rcases c with ⟨_, hp, rfl, e⟩ | ⟨c, _⟩
      · refine (?_ : g v σ' H' fun σ2 H2 => tu _ σ2 H2)
        have := h1 p v H' rfl hp e z
        have e1 : ({ D with nx := fun σ'' H'' => H'' p = some (.lst [v]) ∧ ((0 + 1 = 0 ∧ H p = none ∧ σ'' = σ' ∧ Ex H H'') ∨ (0 + 1 = 1 ∧ D.nx σ'' H'')), ct := fun σ'' H'' => H'' p = some (.lst [v]) ∧ ((0 + 1 = 0 ∧ H p = none ∧ σ'' = σ' ∧ Ex H H'') ∨ (0 + 1 = 1 ∧ D.nx σ'' H'')), bk := D.nx } : Ends) = { D with nx := fun σ'' H'' => H'' p = some (.lst [v]) ∧ D.nx σ'' H'', ct := fun σ'' H'' => H'' p = some (.lst [v]) ∧ D.nx σ'' H'', bk := D.nx } := by
          have : (fun (σ'' : L2.St) (H'' : Hp) => H'' p = some (HO.lst [v]) ∧ ((0 + 1 = 0 ∧ H p = none ∧ σ'' = σ' ∧ Ex H H'') ∨ (0 + 1 = 1 ∧ D.nx σ'' H''))) = fun σ'' H'' => H'' p = some (.lst [v]) ∧ D.nx σ'' H'' := by
            funext σ'' H''
            refine propext ⟨fun z => ⟨z.1, ?_⟩, fun z => ⟨z.1, .inr ⟨rfl, z.2⟩⟩⟩
            rcases z.2 with ⟨c, _⟩ | ⟨_, c⟩
            · cases c
            · exact c
          rw [this]
        rw [e1]
        exact this
      · cases c) (fun p σ' H' ⟨_, c⟩ => by
      rcases c with ⟨c, _⟩ | ⟨_, c⟩
      · cases c
      · exact c)
theorem ev_idxT {p : Addr} {ys : List Int} {z : Int} {j : Nat} (ht : TupN H p) (ha : Ev ta σ H (.ref p)) (hb : Ev tb σ H (.int z)) (hq : SqT K H p (ys.map V.int)) (hy : ys[j]? = some z) (hn : ∀ m, m < j → ys[m]? ≠ some z) : Ev (tBMT (rIdxT K) ta (tCons tb tNil)) σ H (.int (j : Nat)) := fun H1 e Q q =>
  ha H1 e _ fun H2 e2 => ⟨⟨p, rfl, ht.up (e.trans e2)⟩, hb H2 (e.trans e2) _ fun H3 e3 => ⟨p, ys, z, j, rfl, rfl, ex_t ((e.trans e2).trans e3) hq, hy, hn, q H3 (e2.trans e3)⟩⟩
theorem ev_maxT {p : Addr} {n : Int} {ns : List Int} (ha : Ev ta σ H (.ref p)) (hq : SqT K H p ((n :: ns).map V.int)) : Ev (tCB (rMaxT K) (tCons ta tNil)) σ H (.int (ns.foldl (fun a y => if a < y then y else a) n)) := fun H1 e Q q =>
  ha H1 e _ fun H2 e2 => ⟨p, n, ns, rfl, ex_t (e.trans e2) hq, q H2 e2⟩
end
theorem cutV_one {xs : List V} {t : Nat} : cutV xs (some (t : Int)) (some ((t : Int) + 1)) = (xs[t]?).toList := by
  unfold cutV
  rw [show ((t : Int) + 1) = ((t + 1 : Nat) : Int) by omega, HT.sIx_nat, HT.sIx_nat]
  by_cases h : t < xs.length
  · rw [Nat.min_eq_left (by omega), Nat.min_eq_left (by omega), show t + 1 - t = 1 by omega, List.getElem?_eq_getElem h, List.drop_eq_getElem_cons h]
    rfl
  · rw [Nat.min_eq_right (by omega), Nat.min_eq_right (by omega), Nat.sub_self, List.take_zero, List.getElem?_eq_none (by omega)]
    rfl
end Fm
set_option maxHeartbeats 1000000
namespace Fm
open PySem L2 Evl
def MaF (K : PySem.W.Frag) (H : Hp) (m : Addr) (fs rs : List Nat) : Prop := ∃ a b : Addr, SqT K H m [.ref a, .ref b] ∧ SqT K H a (nV fs) ∧ SqT K H b (nV rs) ∧ TupN H b
theorem MaF.t {K : PySem.W.Frag} {H : Hp} {m : Addr} {fs rs : List Nat} (h : MaF K H m fs rs) : MaT K H m fs rs := let ⟨a, b, h1, h2, h3, _⟩ := h; ⟨a, b, h1, h2, h3⟩
theorem MaF.up {K : PySem.W.Frag} {H H' : Hp} {m : Addr} {fs rs : List Nat} (e : Ex H H') (h : MaF K H m fs rs) : MaF K H' m fs rs := let ⟨a, b, h1, h2, h3, h4⟩ := h; ⟨a, b, ex_t e h1, ex_t e h2, ex_t e h3, h4.up e⟩
end Fm
set_option maxHeartbeats 1000000
namespace Fm
open PySem L2 Evl RZ
def MoR (v : V) (m : Mo) (H : Hp) : Prop := ∃ b, v = .ref b ∧ MoH H b m
theorem ndo_lst {P : Program} {w : World} {d : Addr} {xs : NRaw} {ys : List V} : NDO P w d xs ≠ .lst ys := fun z => by unfold NDO at z; cases z
theorem ndo_tup {P : Program} {w : World} {d : Addr} {xs : NRaw} {ys : List V} : NDO P w d xs ≠ .tup ys := fun z => by unfold NDO at z; cases z
theorem moH_ne {H : Hp} {b d : Addr} {o u : HO} {m : Mo} (hd : H d = some u) (hu : ∀ ys, u ≠ .tup ys) (h : MoH H b m) : MoH (upd H d o) b m := by
  obtain ⟨q, h1, h2⟩ := h
  exact ⟨q, by rw [upd_ne fun z => hu _ (by rw [z, hd] at h1; exact Option.some.inj h1)]; exact h1, by rw [upd_ne fun z => hu _ (by rw [z, hd] at h2; exact Option.some.inj h2)]; exact h2⟩
theorem MoR.up {v : V} {m : Mo} {H H' : Hp} (e : Ex H H') (h : MoR v m H) : MoR v m H' := let ⟨b, h1, h2⟩ := h; ⟨b, h1, h2.up e⟩
theorem MoR.un {v : V} {m : Mo} {H : Hp} {d : Addr} {o u : HO} (hd : H d = some u) (hu : ∀ ys, u ≠ .tup ys) (h : MoR v m H) : MoR v m (upd H d o) := let ⟨b, h1, h2⟩ := h; ⟨b, h1, moH_ne hd hu h2⟩
theorem MoR.ul {v : V} {m : Mo} {H : Hp} {d : Addr} {xs : List V} {o : HO} (hd : H d = some (.lst xs)) (h : MoR v m H) : MoR v m (upd H d o) := h.un hd fun ys z => by cases z
def ValH (od : Addr) (H : Hp) (v : V) (ts : List Mo) (ds : Option (List Mo)) : Prop := ∃ (tv tl : Addr) (dv : V) (tls : List V), v = .ref tv ∧ H tv = some (.tup [.ref tl, dv]) ∧ H tl = some (.lst tls) ∧ tl ≠ od ∧ Paired (fun v m => MoR v m H) tls ts ∧
  match ds with
  | none => dv = .non
  | some ds => ∃ (dl : Addr) (dls : List V), dv = .ref dl ∧ H dl = some (.lst dls) ∧ dl ≠ od ∧ Paired (fun v m => MoR v m H) dls ds
theorem ValH.up {od : Addr} {H H' : Hp} {v : V} {ts : List Mo} {ds : Option (List Mo)} (e : Ex H H') (h : ValH od H v ts ds) : ValH od H' v ts ds := by
  obtain ⟨tv, tl, dv, tls, h1, h2, h3, h4, h5, h6⟩ := h
  refine ⟨tv, tl, dv, tls, h1, e _ _ h2, e _ _ h3, h4, Paired.mapP h5 fun _ _ z => z.up e, ?_⟩
  cases ds with
  | none => exact h6
  | some ds =>
    obtain ⟨dl, dls, g1, g2, g3, g4⟩ := h6
    exact ⟨dl, dls, g1, e _ _ g2, g3, Paired.mapP g4 fun _ _ z => z.up e⟩
theorem ValH.un {od d : Addr} {H : Hp} {o u : HO} {v : V} {ts : List Mo} {ds : Option (List Mo)} (hd : H d = some u) (hu : ∀ ys, u ≠ .tup ys) (hl : d = od ∨ ∀ ys, u ≠ .lst ys) (h : ValH od H v ts ds) : ValH od (upd H d o) v ts ds := by
  obtain ⟨tv, tl, dv, tls, h1, h2, h3, h4, h5, h6⟩ := h
  have ne : ∀ b ys, b ≠ od → H b = some (.lst ys) → b ≠ d := fun b ys h1 h2 z => by
    rcases hl with hl | hl
    · exact h1 (z.trans hl)
    · rw [z, hd] at h2; exact hl _ (Option.some.inj h2)
  refine ⟨tv, tl, dv, tls, h1, by rw [upd_ne fun z => hu _ (by rw [z, hd] at h2; exact Option.some.inj h2)]; exact h2, by rw [upd_ne (ne _ _ h4 h3)]; exact h3, h4, Paired.mapP h5 fun _ _ z => z.un hd hu, ?_⟩
  cases ds with
  | none => exact h6
  | some ds =>
    obtain ⟨dl, dls, g1, g2, g3, g4⟩ := h6
    exact ⟨dl, dls, g1, by rw [upd_ne (ne _ _ g3 g2)]; exact g2, g3, Paired.mapP g4 fun _ _ z => z.un hd hu⟩
structure TB (P : Program) (w : World) (p : List In) (fs rs : List Nat) (B H : Hp) (od fd : Addr) (ord done : List Mo) (os : List V) (kvs : List (NestedKey × V)) : Prop where
  ex : Ex B H
  o : H od = some (.lst os)
  d : ND P w H fd kvs
  po : Paired (fun v m => MoR v m H) os ord
  pk : Paired (fun (kv : NestedKey × V) m => kv.1 = moK m ∧ ValH od H kv.2 (sucT p fs rs m) (sucD p fs rs m)) kvs done
section
variable {P : Program} {w : World} {p : List In} {fs rs : List Nat} {B H H' : Hp} {od fd : Addr} {ord done : List Mo} {os : List V} {kvs : List (NestedKey × V)}
theorem TB.up (h : TB P w p fs rs B H od fd ord done os kvs) (e : Ex H H') : TB P w p fs rs B H' od fd ord done os kvs :=
  ⟨h.ex.trans e, e _ _ h.o, h.d.up e, Paired.mapP h.po fun _ _ z => z.up e, Paired.mapP h.pk fun _ _ z => ⟨z.1, z.2.up e⟩⟩
theorem TB.ne (h : TB P w p fs rs B H od fd ord done os kvs) : od ≠ fd := fun z => by
  obtain ⟨xs, h1, _⟩ := h.d
  have := h.o
  rw [z, h1] at this
  exact ndo_lst (Option.some.inj this)
theorem TB.app {v : V} {m : Mo} (h : TB P w p fs rs B H od fd ord done os kvs) (h0 : B od = none) (hv : MoR v m H) : TB P w p fs rs B (upd H od (.lst (os ++ [v]))) od fd (ord ++ [m]) done (os ++ [v]) kvs := by
  have hn := h.ne
  refine ⟨Ex.mut h.ex h0, upd_same, h.d.upd h.o (fun ys z => by cases z) hn, paired_append (Paired.mapP h.po fun _ _ z => z.ul h.o) (.cons (hv.ul h.o) .nil), Paired.mapP h.pk fun _ _ z => ⟨z.1, z.2.un h.o (fun ys z => by cases z) (.inl rfl)⟩⟩
theorem valV_none {kvs : List (NestedKey × V)} {k : NestedKey} (h : ∀ kv ∈ kvs, kv.1 ≠ k) : (kvs.any fun kv => decide (kv.1 = k)) = false := by
  rw [Bool.eq_false_iff]
  intro z
  obtain ⟨kv, hkv, he⟩ := List.any_eq_true.mp z
  exact h kv hkv (of_decide_eq_true he)
theorem pk_keys {R : (NestedKey × V) → Mo → Prop} (hR : ∀ kv m, R kv m → kv.1 = moK m) : ∀ {kvs : List (NestedKey × V)} {done : List Mo}, Paired R kvs done → ∀ kv ∈ kvs, ∃ m ∈ done, kv.1 = moK m
  | _, _, .nil, kv, h => nomatch h
  | _, _, .cons h t, kv, hk => by
    rcases List.mem_cons.mp hk with rfl | hk
    · exact ⟨_, List.mem_cons_self, hR _ _ h⟩
    · obtain ⟨m, hm, he⟩ := pk_keys hR t kv hk
      exact ⟨m, List.mem_cons_of_mem _ hm, he⟩
theorem TB.put {v : V} {m : Mo} {xs : NRaw} (h : TB P w p fs rs B H od fd ord done os kvs) (h0 : B fd = none) (hm : m ∉ done) (hv : ValH od H v (sucT p fs rs m) (sucD p fs rs m)) (hd : ND P w (upd H fd (NDO P w fd xs)) fd (putK kvs (moK m) v)) : TB P w p fs rs B (upd H fd (NDO P w fd xs)) od fd ord (done ++ [m]) os (kvs ++ [(moK m, v)]) := by
  have hn := h.ne
  obtain ⟨ys, hf, _⟩ := id h.d
  have hk : putK kvs (moK m) v = kvs ++ [(moK m, v)] := by
    unfold putK
    rw [valV_none fun kv hkv he => by
      obtain ⟨m', hm', e'⟩ := pk_keys (fun _ _ z => z.1) h.pk kv hkv
      exact hm (moK_inj (e'.symm.trans he) ▸ hm')]
    rfl
  rw [hk] at hd
  refine ⟨Ex.mut h.ex h0, by rw [upd_ne hn]; exact h.o, hd, Paired.mapP h.po fun _ _ z => z.un hf fun ys z => ndo_tup z, paired_append (Paired.mapP h.pk fun _ _ z => ⟨z.1, z.2.un hf (fun ys z => ndo_tup z) (.inr fun ys z => ndo_lst z)⟩) (.cons ⟨rfl, hv.un hf (fun ys z => ndo_tup z) (.inr fun ys z => ndo_lst z)⟩ .nil)⟩
end
def DoneR (od : Addr) (H : Hp) (dv : V) (ds : Option (List Mo)) : Prop := match ds with
  | none => dv = .non
  | some ds => ∃ (dl : Addr) (dls : List V), dv = .ref dl ∧ H dl = some (.lst dls) ∧ dl ≠ od ∧ Paired (fun v m => MoR v m H) dls ds
theorem DoneR.up {od : Addr} {H H' : Hp} {dv : V} {ds : Option (List Mo)} (e : Ex H H') (h : DoneR od H dv ds) : DoneR od H' dv ds := by
  cases ds with
  | none => exact h
  | some ds =>
    obtain ⟨dl, dls, g1, g2, g3, g4⟩ := h
    exact ⟨dl, dls, g1, e _ _ g2, g3, Paired.mapP g4 fun _ _ z => z.up e⟩
theorem DoneR.un {od d : Addr} {H : Hp} {o u : HO} {dv : V} {ds : Option (List Mo)} (hd : H d = some u) (hu : ∀ ys, u ≠ .tup ys) (hl : ∀ ys, u ≠ .lst ys) (h : DoneR od H dv ds) : DoneR od (upd H d o) dv ds := by
  cases ds with
  | none => exact h
  | some ds =>
    obtain ⟨dl, dls, g1, g2, g3, g4⟩ := h
    exact ⟨dl, dls, g1, by rw [upd_ne fun z => hl _ (by rw [z, hd] at g2; exact Option.some.inj g2)]; exact g2, g3, Paired.mapP g4 fun _ _ z => z.un hd hu⟩
theorem DoneR.val {od tv tl : Addr} {H : Hp} {dv : V} {tls : List V} {ts : List Mo} {ds : Option (List Mo)} (h : DoneR od H dv ds) (h1 : H tv = some (.tup [.ref tl, dv])) (h2 : H tl = some (.lst tls)) (h3 : tl ≠ od) (h4 : Paired (fun v m => MoR v m H) tls ts) : ValH od H (.ref tv) ts ds := by
  refine ⟨tv, tl, dv, tls, rfl, h1, h2, h3, h4, ?_⟩
  cases ds with
  | none => exact h
  | some ds => exact h
structure LP (p : List In) (fs rs : List Nat) (ord ord' : List Mo) (ms : List Mo) (j : Nat) : Prop where
  nd : ord'.Nodup
  ok : ∀ m ∈ ord', MoOk p fs m
  rc : ∀ m ∈ ord', MoRch p fs rs m
  ex : ∃ l, ord' = ord ++ l
  cl : ∀ m ∈ ms.take j, 0 ≤ m.1 → m ∈ ord'
theorem LP.zero {p : List In} {fs rs : List Nat} {t : Nat} {ord : List Mo} (h : BkI p fs rs t ord) (ms : List Mo) : LP p fs rs ord ord ms 0 :=
  ⟨h.nd, h.ok, h.rc, ⟨[], by simp⟩, fun m hm => by rw [List.take_zero] at hm; cases hm⟩
theorem LP.app {p : List In} {fs rs : List Nat} {ord ord' ms : List Mo} {j : Nat} {g : Mo} (h : LP p fs rs ord ord' ms j) (hg : ms[j]? = some g) (hn : g ∉ ord') (hk : MoOk p fs g) (hr : MoRch p fs rs g) : LP p fs rs ord (ord' ++ [g]) ms (j + 1) := by
  have mem : ∀ m, m ∈ ord' ++ [g] → m ∈ ord' ∨ m = g := fun m hm => (List.mem_append.mp hm).imp id List.mem_singleton.mp
  obtain ⟨l, hl⟩ := h.ex
  refine ⟨?_, fun m hm => ?_, fun m hm => ?_, ⟨l ++ [g], by rw [hl, List.append_assoc]⟩, fun m hm h0 => ?_⟩
  · rw [List.nodup_append]
    refine ⟨h.nd, by simp, fun a ha b hb => ?_⟩
    obtain rfl := List.mem_singleton.mp hb
    exact fun z => hn (z ▸ ha)
  · rcases mem m hm with z | rfl
    · exact h.ok m z
    · exact hk
  · rcases mem m hm with z | rfl
    · exact h.rc m z
    · exact hr
  · rw [List.take_succ, hg] at hm
    rcases List.mem_append.mp hm with hm | hm
    · exact List.mem_append_left _ (h.cl m hm h0)
    · obtain rfl := List.mem_singleton.mp hm
      exact List.mem_append_right _ (List.mem_singleton.mpr rfl)
end Fm
set_option maxHeartbeats 1000000
namespace Fm
open PySem L2 Evl RZ
theorem walk_keysN {P : Program} {w : World} {d : Addr} {o : Obj} {xs : NRaw} : Walk (Itn P w d o xs) xs.length (fun H => H d = some (.frz o (NDO P w d xs))) (fun i H x H' => H' = H ∧ ∃ e, xs[i]? = some e ∧ x = .ref e.2.1) :=
  ⟨fun i H hi q => ⟨q, hi⟩, fun H q => ⟨q, Nat.le_refl _⟩, fun i H v H' _ q y => y⟩
theorem nk_num {H : Hp} {v : V} {i : Int} (h : NK H v (.num i)) : v = .int i := by cases h; rfl
theorem nk_tup {H : Hp} {v : V} {ks : List NestedKey} (h : NK H v (.tup ks)) : ∃ b xs, v = .ref b ∧ H b = some (.tup xs) ∧ Paired (NK H) xs ks := by
  cases h with
  | tup h1 h2 => exact ⟨_, _, rfl, h1, h2⟩
theorem nks_nums {H : Hp} : ∀ {l : List Nat} {xs : List V}, Paired (NK H) xs (l.map fun (x : Nat) => .num (x : Int)) → xs = nV l
  | [], xs, h => by cases h; rfl
  | x :: l, xs, h => by
    rw [List.map_cons] at h
    cases h with
    | cons h1 t => rw [nk_num h1, nks_nums t]; rfl
structure Lk (d : Addr) (H H' : Hp) : Prop where
  ne : ∀ b o, b ≠ d → H b = some o → H' b = some o
  at_ : ∀ u, H d = some u → Rd H' d u
theorem Lk.of {d : Addr} {H H' : Hp} (e : Ex H H') : Lk d H H' := ⟨fun b o _ h => e b o h, fun u h => .inl (e d u h)⟩
theorem Lk.frz {d : Addr} {H H1 H' : Hp} {od : Obj} {u : HO} (e : Ex H H1) (hd : H d = some u) (e2 : Ex (upd H1 d (.frz od u)) H') : Lk d H H' :=
  ⟨fun b o hb h => e2 b o (by rw [upd_ne hb]; exact e b o h), fun u' h => by
    rw [hd] at h
    cases h
    exact .inr ⟨od, e2 _ _ upd_same⟩⟩
theorem Lk.tup {d b : Addr} {H H' : Hp} {u : HO} {ys : List V} (k : Lk d H H') (hd : H d = some u) (hu : ∀ ys, u ≠ .tup ys) (h : H b = some (.tup ys)) : H' b = some (.tup ys) :=
  k.ne _ _ (fun z => hu ys (by rw [z, hd] at h; exact Option.some.inj h)) h
theorem Lk.lst {d b : Addr} {H H' : Hp} {u : HO} {ys : List V} (k : Lk d H H') (hd : H d = some u) (hu : ∀ ys, u ≠ .lst ys) (h : H b = some (.lst ys)) : H' b = some (.lst ys) :=
  k.ne _ _ (fun z => hu ys (by rw [z, hd] at h; exact Option.some.inj h)) h
def ML (H : Hp) (a : Addr) (ms : List Mo) : Prop := ∃ ys, H a = some (.lst ys) ∧ Paired (fun v m => MoR v m H) ys ms
theorem ML.up {H H' : Hp} {a : Addr} {ms : List Mo} (e : Ex H H') (h : ML H a ms) : ML H' a ms := let ⟨ys, h1, h2⟩ := h; ⟨ys, e _ _ h1, Paired.mapP h2 fun _ _ z => z.up e⟩
theorem ML.un {d a : Addr} {H : Hp} {o u : HO} {ms : List Mo} (hd : H d = some u) (hu : ∀ ys, u ≠ .tup ys) (hl : ∀ ys, u ≠ .lst ys) (h : ML H a ms) : ML (upd H d o) a ms := let ⟨ys, h1, h2⟩ := h; ⟨ys, by rw [upd_ne fun z => hl ys (by rw [z, hd] at h1; exact Option.some.inj h1)]; exact h1, Paired.mapP h2 fun _ _ z => z.un hd hu⟩
structure FR (P : Program) (w : World) (p : List In) (fs rs : List Nat) (H : Hp) (d od : Addr) (ord : List Mo) (kvs : List (NestedKey × V)) : Prop where
  r : NDR P w H d kvs
  pk : Paired (fun (kv : NestedKey × V) m => kv.1 = moK m ∧ ValH od H kv.2 (sucT p fs rs m) (sucD p fs rs m)) kvs ord
structure RR (P : Program) (w : World) (H : Hp) (d : Addr) (rl : List (Mo × Nat)) (kvs : List (NestedKey × V)) : Prop where
  r : NDR P w H d kvs
  pk : Paired (fun (kv : NestedKey × V) (mt : Mo × Nat) => kv.1 = moK mt.1 ∧ kv.2 = .int (mt.2 : Nat)) kvs rl
section
variable {P : Program} {w : World} {p : List In} {fs rs : List Nat} {H H' : Hp} {d od b : Addr} {u : HO} {ord : List Mo} {kvs : List (NestedKey × V)} {rl : List (Mo × Nat)}
theorem FR.up (e : Ex H H') (h : FR P w p fs rs H d od ord kvs) : FR P w p fs rs H' d od ord kvs := ⟨h.r.up e, Paired.mapP h.pk fun _ _ z => ⟨z.1, z.2.up e⟩⟩
theorem RR.up (e : Ex H H') (h : RR P w H d rl kvs) : RR P w H' d rl kvs := ⟨h.r.up e, h.pk⟩
end
end Fm
set_option maxHeartbeats 1000000
namespace Fm
open PySem PySem.W PySem.Calls PyProof.Rows PySem.Spec L2 Evl
abbrev KvR (kvs : List (NestedKey × V)) (xs : NRaw) : Prop := Paired (fun (p : NestedKey × V) (q : NestedKey × Addr × Value) => p.1 = q.1 ∧ RelV p.2 q.2.2) kvs xs
def Itin (P : Program) (w : World) (d : Addr) (o : Obj) (xs : NRaw) (kvs : List (NestedKey × V)) : It :=
  ⟨fun i H => H d = some (.frz o (NDO P w d xs)) ∧ i < kvs.length, fun i H x H' => ∃ T kv e, kvs[i]? = some kv ∧ xs[i]? = some e ∧ x = .ref T ∧ H T = none ∧ H' = upd H T (.tup [.ref e.2.1, kv.2]), fun i H => H d = some (.frz o (NDO P w d xs)) ∧ kvs.length ≤ i⟩
theorem frzN2 {X : Cx} {pins : List (Addr × Obj)} {σ : L2.St} {H : Hp} {s : Shared} {d : Addr} {o : Obj} {xs : NRaw} (I : Inv X pins σ H s) (h : H d = some (.frz o (NDO X.prog X.w d xs))) :
    (d == sysModules) = false ∧ s.heap.get? d = some o ∧ o.ExactDict ∧ ∃ (es : Array DictEntry) (ep : Nat), o.data = .dict es ep ∧ es.size = xs.length ∧ ∀ (i : Nat) e, xs[i]? = some e → ∃ en : DictEntry, es[i]? = some en ∧ en.key = .ref e.2.1 ∧ en.val = e.2.2 := by
  obtain ⟨hd, ⟨hs, o', es, ep, ho, hx, hdt, he, _⟩, _⟩ := (show ObjOk X.prog X.w H s.heap d (.frz o (NDO X.prog X.w d xs)) from I.hok d _ h)
  rw [hd] at ho
  cases ho
  refine ⟨hs, hd, hx, es, ep, hdt, size_of_entries he, fun i e hi => ?_⟩
  have q := entry_at he i
  rw [hi] at q
  exact ⟨_, q, rfl, rfl⟩
theorem turn_itemsN {P : Program} {w : World} {K : PySem.W.Frag} {d : Addr} {o : Obj} {es : Array DictEntry} {ep : Nat} {xs : NRaw} {kvs : List (NestedKey × V)} {elts : List Expr} {kk : Nat} {tpos : Pos} (it : Addr) (hod : o.data = .dict es ep) (hkv : KvR kvs xs) :
    Turn P w K (.Tuple elts kk tpos) (Itin P w d o xs kvs) [it] it (fun i h => ∃ ok ov, IsItemIter h it d i kvs.length ep ok ov) where
  mem := by simp
  obj := fun i h st b hb => by
    have e : b = it := by simpa using hb
    subst e
    obtain ⟨ok, ov, e⟩ := st
    exact ⟨_, e, fun v z => nomatch z⟩
  keep := fun i h h' st k => let ⟨ok, ov, e⟩ := st; ⟨ok, ov, k it (by simp) _ e⟩
  item := by
    intro X hP hw hK hc i pins s σ H E I hf st hg
    subst hP hw hK
    obtain ⟨hd, hi⟩ := hg
    obtain ⟨hs, hgd, hx, es', ep', hdt, hsz, ent⟩ := frzN2 I hd
    obtain ⟨rfl, rfl⟩ := dict_ep hod hdt
    have hl : kvs.length = xs.length := Paired.length hkv
    obtain ⟨kv, e0, hk0, he0, hr0⟩ : ∃ kv e0, kvs[i]? = some kv ∧ xs[i]? = some e0 ∧ RelV kv.2 e0.2.2 := by
      obtain ⟨kv, h1, h2⟩ := paired_get hkv (List.getElem?_eq_getElem (show i < xs.length by omega))
      exact ⟨kv, _, h1, List.getElem?_eq_getElem (by omega), h2.2⟩
    obtain ⟨en, hen, hkey, hval⟩ := ent i e0 he0
    obtain ⟨hie, hen2⟩ := Array.getElem?_eq_some_iff.mp hen
    obtain ⟨ok, ov, he⟩ := st
    have hls : kvs.length = es'.size := by omega
    rw [hls] at he
    have hlt : it < s.heap.objs.size := Heap.lt_size he
    refine wpAny_pyNext_items_item_raw he ⟨o, hgd, hx, hdt⟩ hie fun h' ho hT hz hk => ?_
    rw [hen2, hkey, hval] at ho hT
    refine ⟨_, rfl, wpAny_letOwnedTupleGo_items (s := { s with heap := h' }) ho fun h'' he' sb => ?_⟩
    have hT2 : h''.get? s.heap.objs.size = some { cls := .type "tuple", data := .seq #[.ref e0.2.1, e0.2.2] } := (sb.2 _ (Nat.ne_of_gt hlt)).trans hT
    have new : ObjOk X.prog X.w (upd H s.heap.objs.size (.tup [.ref e0.2.1, kv.2])) h'' s.heap.objs.size (.tup [.ref e0.2.1, kv.2]) :=
      ⟨by show 2 ≤ sizeLine; decide, [.ref e0.2.1, e0.2.2], .cons rfl (.cons hr0 .nil), ⟨_, hT2, rfl, _, rfl⟩⟩
    have I1 : Inv X pins σ (upd H s.heap.objs.size (.tup [.ref e0.2.1, kv.2])) { s with heap := h'' } :=
      I.turnedNew (t' := s.toks) (ch := [it]) (fun b ob hb e => (sb.2 b (by simpa using hb)).trans (hk b ob (by simpa using hb) e)) hf (Nat.le_refl _) new
    refine ⟨.ref s.heap.objs.size, _, I1, rfl, ⟨_, kv, e0, hk0, he0, rfl, I.hok.fresh (Nat.le_refl _), rfl⟩, ⟨.ref e0.2.1, e0.2.2, ?_⟩, fun b hb => ?_⟩
    · rw [hls]; exact he'
    · have e : b = it := by simpa using hb
      rw [e, upd_ne (Nat.ne_of_lt hlt)]
      exact (hf it (by simp)).1
  done := by
    intro X hP hw hK hc i pins s σ H E I hf st hg
    subst hP hw hK
    obtain ⟨hd, hi⟩ := hg
    obtain ⟨f0, f1, f2, f3, f4, f5⟩ := hf it (by simp)
    obtain ⟨hs, hgd, hx, es', ep', hdt, hsz, ent⟩ := frzN2 I hd
    obtain ⟨rfl, rfl⟩ := dict_ep hod hdt
    have hl : kvs.length = xs.length := Paired.length hkv
    obtain ⟨ok, ov, he⟩ := st
    have hls : kvs.length = es'.size := by omega
    rw [hls] at he
    exact wpAny_pyNext_items_end_raw (I.ok.hd hc) he ⟨o, hgd, hx, hdt⟩ (by omega) fun h' eb => ⟨rfl, I.turned (t' := s.toks) (fun b ob hb e => eb b ob hb e) f0 f1 f3 f4 f5⟩
  self := fun A i s Q E st h => let ⟨_, _, e⟩ := st; PySem.W.kcp_self e h
def iItemsN (P : Program) (w : World) (td : TE) : TI := fun σ H R => td σ H fun x H1 => ∃ d o xs kvs, x = .ref d ∧ H1 d = some (.frz o (NDO P w d xs)) ∧ KvR kvs xs ∧ R (Itin P w d o xs kvs) H1
section
variable {X : Cx} {tg e : Expr} {td : TE} {apos cpos : Pos}
theorem pi_itemsN {elts : List Expr} {kk : Nat} {tpos : Pos} (he : PE X e td) (hbase : attributeBase e "items" X.env (eval e X.env) = eval e X.env := by rfl) (hline : (apos.endLine == cpos.line) = true := by rfl) :
    PI X (.Tuple elts kk tpos) (.Call (.Attribute e "items" apos) [] [] cpos) (iItemsN X.prog X.w td) := by
  refine ⟨fun pins s σ H R I h => ?_⟩
  refine wpAny_Call_method (T := "dict") (id := "dict.items") hbase rfl hline F.plainAttrs_dict F.slot_dict_items F.type_dict_items (thn (he.run pins s σ H _ I h) fun u s1 ⟨x, H1, I1, rx, d, o, xs, kvs, ex, hd, hkv, q⟩ => ?_)
  subst ex
  obtain rfl : u = Value.ref d := rx
  obtain ⟨hs, hgd, hx, es, ep, hdt, hsz, ent⟩ := frzN2 I1 hd
  have hl : kvs.length = xs.length := Paired.length hkv
  have hls : kvs.length = es.size := by omega
  have raw : s1.heap.DictRaw d es ep := ⟨o, hgd, hx, hdt⟩
  refine ⟨⟨o, hgd, hx.1⟩, (fun a ha => by cases ha; exact ⟨o, hgd, hx.2.1⟩), ?_⟩
  have I2 : Inv X pins σ H1 { s1 with heap := s1.heap.push { cls := .type "dict_items", data := .fields #[.ref d] } } := I1.kept (t' := s1.toks) fun b ob q => Heap.get?_push_of_some _ q
  have fin : wpAny (model X.prog X.w) X.A (pyIter (.ref s1.heap.objs.size)) (PIE X pins σ (.Tuple elts kk tpos) R) X.xe { s1 with heap := s1.heap.push { cls := .type "dict_items", data := .fields #[.ref d] } } := by
    refine wpAny_pyIter_items_raw (d := d) (es := es) (ep := ep) ⟨_, Heap.get?_push_size _ rfl, rfl, rfl⟩ ⟨o, Heap.get?_push_of_some _ hgd, hx, hdt⟩ (pi_one (tk := s1.toks) I2 _ (turn_itemsN _ hdt hkv) ⟨.none, .none, ?_⟩ q)
    rw [hls]
    exact Heap.get?_push_size _ rfl
  show wpAny _ _ (callWith cpos (.builtin "dict.items") [.ref d] [] []) _ X.xe s1
  exact method_meetsIn F.slot_dict_items F.entry_dict_items rfl (PySem.evalArgs_none ⟨rfl, ⟨o, hgd, hx.1⟩, F.args_dict_items_1 _, _, meets_dict_items_raw d hs, ⟨es, ep, raw⟩, fin⟩)
theorem itemsN_K {P : Program} {w : World} {elts : List Expr} {kk : Nat} {tpos : Pos} (hP : X.prog = P) (hw : X.w = w) (he : PE X e td) (hbase : attributeBase e "items" X.env (eval e X.env) = eval e X.env := by rfl) (hline : (apos.endLine == cpos.line) = true := by rfl) : PI X (.Tuple elts kk tpos) (.Call (.Attribute e "items" apos) [] [] cpos) (iItemsN P w td) := by subst hP hw; exact pi_itemsN he hbase hline
end
end Fm
set_option maxHeartbeats 1000000
namespace Fm
open PySem PySem.W PySem.Calls PyProof.Rows PySem.Spec L2 Evl
def tNGet1 (P : Program) (w : World) (td ty : TE) : TE := fun σ H Q => td σ H fun x H1 => ∃ a kvs0, x = .ref a ∧ NDR P w H1 a kvs0 ∧ ty σ H1 fun y H2 => ∃ o, NGet P w H2 a y o ∧ Q (o.getD .non) H2
section
variable {X : Cx} {pins : List (Addr × Obj)} {σ : L2.St} {H : Hp} {s : Shared} {a d : Addr} {y v z : V} {u r : Value} {A : Around} {E : Value → Shared → Prop} {kvs : List (NestedKey × V)} {k : NestedKey} {o e f : Expr} {td ty tx : TE} {apos cpos : Pos}
theorem nd_get1 {Q : Value → Shared → Prop} (hu : A.units + 64 < cLine) (I : Inv X pins σ H s) (g : NDR X.prog X.w H d kvs) (hk : NK H y k) (hdp : k.depth ≤ 8) (ht : ∃ b, y = .ref b) (ry : RelV y u) (h : ∀ w' s', Inv X pins σ H s' → RelV ((valV kvs k).getD .non) w' → Q w' s') :
    wpAny (model X.prog X.w) A (call (.builtin "dict.get") [.ref d, u]) Q E s := by
  obtain ⟨b, rfl⟩ := ht
  cases (show u = Value.ref b from ry)
  obtain ⟨hd, xs, z, rel, dd⟩ := nd_of I g
  refine call_meetsIn PySem.F.slot_dict_get dd.typeIs PySem.F.entry_dict_get (PySem.F.args_dict_get_2 _ _) (meetsH_dict_get (nestedKind X.prog X.w) d b hd) ⟨by show A.units + 1 + 8 < cLine; omega, k, xs, ⟨nk_is I.hok hk rfl, hdp⟩, dd, h _ _ (I.tok _) ?_⟩
  exact (rel.val k).getD (show RelV .non Value.none from rfl)
theorem pe_nget1 (hu : X.A.units + 64 < cLine) (ho : PE X o td) (he : PE X e ty) (m : M1 X o "get" apos e cpos) : PE X (.Call (.Attribute o "get" apos) [e] [] cpos) (tNGet1 X.prog X.w td ty) := by
  refine ⟨fun pins s σ H Q I h => ?_⟩
  refine wpAny_Call_method m.base m.few m.line PySem.F.plainAttrs_dict PySem.F.slot_dict_get PySem.F.type_dict_get (thn (ho.run pins s σ H _ I h) fun u s1 ⟨x, H1, I1, rx, a, kvs0, ex, d, q1⟩ => ?_)
  subst ex
  obtain rfl : u = Value.ref a := rx
  refine ⟨nd_typeIs I1 d, fun b q => ?_, ?_⟩
  · cases q
    obtain ⟨_, xs, _, _, dd⟩ := nd_of I1 d
    obtain ⟨ob, _, _, h1, h2, _⟩ := dd
    exact ⟨ob, h1, h2.2.1⟩
  rw [m.trees]
  refine Calls.callWith_builtin rfl (Calls.evalArgs_plain (Calls.spliced_cons (thn (he.run pins s1 σ H1 _ I1 q1) fun iv s2 ⟨y, H2, I2, ry, ov, ⟨kvs, k, g, hk, hdp, ht, l⟩, q2⟩ => Calls.spliced_nil ?_)))
  subst l
  exact nd_get1 hu I2 g hk hdp ht ry fun w' s4 I4 rw' => ⟨_, H2, I4, rw', q2⟩
end
theorem nget1_K {X : Cx} {P : Program} {w : World} {o e : Expr} {td ty : TE} {apos cpos : Pos} (hP : X.prog = P) (hw : X.w = w) (hu : X.A.units + 64 < cLine) (ho : PE X o td) (he : PE X e ty) (m : M1 X o "get" apos e cpos) : PE X (.Call (.Attribute o "get" apos) [e] [] cpos) (tNGet1 P w td ty) := by subst hP hw; exact pe_nget1 hu ho he m
end Fm
set_option maxHeartbeats 1000000
namespace Fm
open PySem L2 Evl RZ
abbrev Lv := List Nat
def lvK (l : Lv) : NestedKey := .tup (l.map fun (x : Nat) => .num (x : Int))
def LvH (H : Hp) (b : Addr) (l : Lv) : Prop := H b = some (.tup (nV l))
theorem lvK_inj {l l' : Lv} (h : lvK l = lvK l') : l = l' := by
  have : moK (0, l) = moK (0, l') := by unfold moK; unfold lvK at h; rw [h]
  exact (Prod.mk.inj (moK_inj this)).2
theorem lvK_depth (l : Lv) : (lvK l).depth ≤ 8 := by
  have : (lvK l).depth = 1 := by
    unfold lvK
    show NestedKey.depthAll _ + 1 = 1
    rw [nums_depth]
  omega
theorem LvH.nk {H : Hp} {b : Addr} {l : Lv} (h : LvH H b l) : NK H (.ref b) (lvK l) := .tup h (nk_nV l)
theorem LvH.up {H H' : Hp} {b : Addr} {l : Lv} (e : Ex H H') (h : LvH H b l) : LvH H' b l := e _ _ h
theorem nk_lv {H : Hp} {b : Addr} {l : Lv} (h : NK H (.ref b) (lvK l)) : LvH H b l := by
  obtain ⟨b', xs, e, h1, h2⟩ := nk_tup h
  cases e
  rw [nks_nums h2] at h1
  exact h1
section
variable {α : Type}
def lkp (xs : List (Lv × α)) (s : Lv) : Option α := (xs.find? fun x => decide (x.1 = s)).map Prod.snd
def putL (xs : List (Lv × α)) (s : Lv) (a : α) : List (Lv × α) := if (xs.any fun x => decide (x.1 = s)) = true then xs.map (fun x => if x.1 = s then (x.1, a) else x) else xs ++ [(s, a)]
theorem lkp_nil (s : Lv) : lkp ([] : List (Lv × α)) s = none := rfl
theorem lkp_cons (x : Lv × α) (xs : List (Lv × α)) (s : Lv) : lkp (x :: xs) s = if x.1 = s then some x.2 else lkp xs s := by
  unfold lkp
  rw [List.find?_cons]
  by_cases h : x.1 = s
  · rw [if_pos h, decide_eq_true h]; rfl
  · rw [if_neg h, decide_eq_false h]
theorem lkp_app (xs ys : List (Lv × α)) (s : Lv) : lkp (xs ++ ys) s = (lkp xs s).or (lkp ys s) := by
  induction xs with
  | nil => rfl
  | cons x xs ih =>
    rw [List.cons_append, lkp_cons, lkp_cons, ih]
    split <;> rfl
theorem lkp_some {xs : List (Lv × α)} {s : Lv} : (lkp xs s).isSome = decide (s ∈ xs.map Prod.fst) := by
  induction xs with
  | nil => rfl
  | cons x xs ih =>
    rw [lkp_cons, List.map_cons]
    by_cases h : x.1 = s
    · rw [if_pos h]; simp [h]
    · rw [if_neg h, ih]; simp [Ne.symm h]
theorem lkp_any (xs : List (Lv × α)) (s : Lv) : (xs.any fun x => decide (x.1 = s)) = (lkp xs s).isSome := by
  induction xs with
  | nil => rfl
  | cons x xs ih =>
    rw [List.any_cons, ih, lkp_cons]
    by_cases h : x.1 = s
    · rw [if_pos h, decide_eq_true h]; rfl
    · rw [if_neg h, decide_eq_false h, Bool.false_or]
theorem lkp_put (xs : List (Lv × α)) (s t : Lv) (a : α) : lkp (putL xs s a) t = if t = s then some a else lkp xs t := by
  unfold putL
  rw [lkp_any]
  by_cases h : (lkp xs s).isSome = true
  · rw [if_pos h]
    induction xs with
    | nil => cases h
    | cons x xs ih =>
      rw [List.map_cons, lkp_cons, lkp_cons]
      rw [lkp_cons] at h
      by_cases hx : x.1 = s
      · rw [if_pos hx]
        by_cases ht : t = s
        · rw [if_pos (show (x.1, a).1 = t by rw [ht]; exact hx), if_pos ht]
        · rw [if_neg (show ¬ (x.1, a).1 = t from fun z => ht (z.symm.trans hx)), if_neg ht, if_neg (fun z => ht (z.symm.trans hx))]
          by_cases hs : (lkp xs s).isSome = true
          · have := ih hs
            rw [if_neg ht] at this
            exact this
          · have : xs.map (fun x => if x.1 = s then (x.1, a) else x) = xs := by
              have hno : s ∉ xs.map Prod.fst := fun z => hs (by rw [lkp_some]; exact decide_eq_true z)
              clear ih hs h
              induction xs with
              | nil => rfl
              | cons y ys ihy =>
                rw [List.map_cons] at hno ⊢
                rw [if_neg fun z => hno (by rw [← z]; exact List.mem_cons_self), ihy fun z => hno (List.mem_cons_of_mem _ z)]
            rw [this]
      · rw [if_neg hx] at h ⊢
        rw [ih h]
        by_cases ht : x.1 = t
        · rw [if_pos ht, if_pos ht, if_neg fun z => hx (ht.trans z)]
        · rw [if_neg ht, if_neg ht]
  · rw [if_neg h, lkp_app, lkp_cons, lkp_nil]
    by_cases ht : t = s
    · rw [if_pos ht, if_pos ht.symm, ht]
      cases q : lkp xs s with
      | none => rfl
      | some y => rw [q] at h; exact absurd rfl h
    · rw [if_neg ht, if_neg fun z => ht z.symm]
      cases lkp xs t <;> rfl
theorem putL_keys {xs : List (Lv × α)} {s : Lv} {a : α} (h : s ∈ xs.map Prod.fst) : (putL xs s a).map Prod.fst = xs.map Prod.fst := by
  unfold putL
  rw [lkp_any, if_pos (by rw [lkp_some]; exact decide_eq_true h), List.map_map]
  refine List.map_congr_left fun x _ => ?_
  show (if x.1 = s then (x.1, a) else x).1 = x.1
  split <;> rfl
theorem putL_new {xs : List (Lv × α)} {s : Lv} {a : α} (h : s ∉ xs.map Prod.fst) : putL xs s a = xs ++ [(s, a)] := by
  unfold putL
  rw [lkp_any, if_neg (by rw [lkp_some, decide_eq_false h]; exact Bool.false_ne_true)]
theorem putL_nodup {xs : List (Lv × α)} {s : Lv} {a : α} (h : (xs.map Prod.fst).Nodup) : ((putL xs s a).map Prod.fst).Nodup := by
  by_cases hs : s ∈ xs.map Prod.fst
  · rw [putL_keys hs]; exact h
  · rw [putL_new hs, List.map_append]
    exact List.nodup_append.mpr ⟨h, List.pairwise_singleton _ _, fun x hx y hy e => hs (by have : y = s := List.mem_singleton.mp hy; rw [← this, ← e]; exact hx)⟩
theorem putL_mem {xs : List (Lv × α)} {s t : Lv} {a : α} : t ∈ (putL xs s a).map Prod.fst ↔ t = s ∨ t ∈ xs.map Prod.fst := by
  by_cases hs : s ∈ xs.map Prod.fst
  · rw [putL_keys hs]
    exact ⟨.inr, fun h => h.elim (fun e => e ▸ hs) id⟩
  · rw [putL_new hs, List.map_append, List.mem_append, List.map_singleton, List.mem_singleton]
    exact or_comm
end
def RKd {α : Type} (R : V → α → Hp → Prop) : Prop := ∀ v x H H', Ex H H' → R v x H → R v x H'
def DPr {α : Type} (R : V → α → Hp → Prop) (H : Hp) : (NestedKey × V) → (Lv × α) → Prop := fun kv x => kv.1 = lvK x.1 ∧ R kv.2 x.2 H
structure DR (P : Program) (w : World) {α : Type} (R : V → α → Hp → Prop) (H : Hp) (d : Addr) (xs : List (Lv × α)) : Prop where
  at_ : ∃ kvs, NDR P w H d kvs ∧ Paired (DPr R H) kvs xs
structure DW (P : Program) (w : World) {α : Type} (R : V → α → Hp → Prop) (H : Hp) (d : Addr) (xs : List (Lv × α)) : Prop where
  at_ : ∃ kvs, ND P w H d kvs ∧ Paired (DPr R H) kvs xs
section
variable {P : Program} {w : World} {α : Type} {R : V → α → Hp → Prop} {H H' : Hp} {d b : Addr} {xs : List (Lv × α)} {s : Lv} {kvs : List (NestedKey × V)}
theorem DW.r (h : DW P w R H d xs) : DR P w R H d xs := let ⟨kvs, h1, h2⟩ := h.at_; ⟨kvs, h1.r, h2⟩
theorem DR.up (r : RKd R) (e : Ex H H') (h : DR P w R H d xs) : DR P w R H' d xs := let ⟨kvs, h1, h2⟩ := h.at_; ⟨kvs, h1.up e, Paired.mapP h2 fun _ _ z => ⟨z.1, r _ _ _ _ e z.2⟩⟩
theorem DW.up (r : RKd R) (e : Ex H H') (h : DW P w R H d xs) : DW P w R H' d xs := let ⟨kvs, h1, h2⟩ := h.at_; ⟨kvs, h1.up e, Paired.mapP h2 fun _ _ z => ⟨z.1, r _ _ _ _ e z.2⟩⟩
theorem dpr_val (h : Paired (DPr R H) kvs xs) (s : Lv) : match lkp xs s with | some a => ∃ v, valV kvs (lvK s) = some v ∧ R v a H | none => valV kvs (lvK s) = none := by
  induction h with
  | nil => rfl
  | @cons kv x kvs xs h _ ih =>
    rw [lkp_cons]
    by_cases e : x.1 = s
    · rw [if_pos e]
      exact ⟨kv.2, valV_pos (by rw [h.1, e]), h.2⟩
    · rw [if_neg e, valV_neg fun z => e (lvK_inj (h.1.symm.trans z))]
      exact ih
theorem dpr_put (h : Paired (DPr R H) kvs xs) {v : V} {a : α} (hv : R v a H) : Paired (DPr R H) (putK kvs (lvK s) v) (putL xs s a) := by
  have e : (kvs.any fun kv => decide (kv.1 = lvK s)) = (xs.any fun x => decide (x.1 = s)) := by
    clear hv
    induction h with
    | nil => rfl
    | @cons kv x kvs xs h _ ih =>
      rw [List.any_cons, List.any_cons, ih]
      congr 1
      exact decide_eq_decide.mpr ⟨fun z => lvK_inj (h.1.symm.trans z), fun z => by rw [h.1, z]⟩
  unfold putK putL
  rw [e]
  split
  · rename_i hyes
    clear e hyes
    induction h with
    | nil => exact .nil
    | @cons kv x kvs xs h _ ih =>
      rw [List.map_cons, List.map_cons]
      refine .cons ?_ ih
      by_cases e : x.1 = s
      · rw [if_pos (show kv.1 = lvK s by rw [h.1, e]), if_pos e]; exact ⟨h.1, hv⟩
      · rw [if_neg (fun z => e (lvK_inj (h.1.symm.trans z))), if_neg e]; exact h
  · exact paired_append h (.cons ⟨rfl, hv⟩ .nil)
theorem DR.get (h : DR P w R H d xs) (hb : LvH H b s) {a : α} (e : lkp xs s = some a) : ∃ v, NGet P w H d (.ref b) (some v) ∧ R v a H := by
  obtain ⟨kvs, h1, h2⟩ := h.at_
  have := dpr_val h2 s
  rw [e] at this
  obtain ⟨v, g1, g2⟩ := this
  exact ⟨v, ⟨kvs, lvK s, h1, hb.nk, lvK_depth s, ⟨b, rfl⟩, g1.symm⟩, g2⟩
theorem DR.opt (h : DR P w R H d xs) (hb : LvH H b s) : ∃ o, NGet P w H d (.ref b) o ∧ o.isSome = (lkp xs s).isSome ∧ ∀ a, lkp xs s = some a → ∃ v, o = some v ∧ R v a H := by
  obtain ⟨kvs, h1, h2⟩ := h.at_
  refine ⟨_, ⟨kvs, lvK s, h1, hb.nk, lvK_depth s, ⟨b, rfl⟩, rfl⟩, ?_⟩
  have := dpr_val h2 s
  cases e : lkp xs s with
  | none =>
    rw [e] at this
    have this : valV kvs (lvK s) = none := this
    rw [this]
    exact ⟨rfl, fun _ z => nomatch z⟩
  | some a =>
    rw [e] at this
    obtain ⟨v, g1, g2⟩ := this
    rw [g1]
    exact ⟨rfl, fun a' z => ⟨v, rfl, by cases z; exact g2⟩⟩
end
section
variable {P : Program} {w : World} {K : PySem.W.Frag} {σ : L2.St} {H : Hp} {td ty tv : TE} {tz : TS} {D : Ends} {α : Type} {R : V → α → Hp → Prop} {d b : Addr} {xs : List (Lv × α)} {s : Lv}
theorem ev_dget (r : RKd R) (hd : Ev td σ H (.ref d)) (hy : Ev ty σ H (.ref b)) (h : DR P w R H d xs) (hb : LvH H b s) {a : α} (e : lkp xs s = some a) : ∃ v, Ev (tNGet P w td ty) σ H v ∧ R v a H := by
  obtain ⟨kvs, h1, h2⟩ := h.at_
  have := dpr_val h2 s
  rw [e] at this
  obtain ⟨v, g1, g2⟩ := this
  exact ⟨v, fun H1 e1 Q q => hd H1 e1 _ fun H2 e2 => hy H2 (e1.trans e2) _ fun H3 e3 => ⟨d, v, rfl, ⟨kvs, lvK s, h1.up ((e1.trans e2).trans e3), (hb.up ((e1.trans e2).trans e3)).nk, lvK_depth s, ⟨b, rfl⟩, g1.symm⟩, q H3 (e2.trans e3)⟩, g2⟩
theorem ev_din (hy : Ev ty σ H (.ref b)) (hd : Ev td σ H (.ref d)) (r : RKd R) (h : DR P w R H d xs) (hb : LvH H b s) : Ev (tNIn P w ty td) σ H (.bl (lkp xs s).isSome) := fun H1 e1 Q q => hy H1 e1 _ fun H2 e2 => hd H2 (e1.trans e2) _ fun H3 e3 => by
  have e03 := (e1.trans e2).trans e3
  obtain ⟨o, g1, g2, _⟩ := (h.up r e03).opt (hb.up e03)
  exact ⟨d, o, rfl, g1, by rw [g2]; exact q H3 (e2.trans e3)⟩
theorem ev_dni (hy : Ev ty σ H (.ref b)) (hd : Ev td σ H (.ref d)) (r : RKd R) (h : DR P w R H d xs) (hb : LvH H b s) : Ev (tNNotIn P w ty td) σ H (.bl (!(lkp xs s).isSome)) := fun H1 e1 Q q => hy H1 e1 _ fun H2 e2 => hd H2 (e1.trans e2) _ fun H3 e3 => by
  have e03 := (e1.trans e2).trans e3
  obtain ⟨o, g1, g2, _⟩ := (h.up r e03).opt (hb.up e03)
  exact ⟨d, o, rfl, g1, by rw [g2]; exact q H3 (e2.trans e3)⟩
end
end Fm
set_option maxHeartbeats 1000000
namespace Fm
theorem nodup_within {α : Type} [DecidableEq α] : ∀ {xs ys : List α}, xs.Nodup → (∀ x ∈ xs, x ∈ ys) → xs.length ≤ ys.length
  | [], _, _, _ => Nat.zero_le _
  | x :: xs, ys, hn, hs => by
    have hx := hs x List.mem_cons_self
    have h := nodup_within (xs := xs) (ys := ys.erase x) (List.nodup_cons.mp hn).2 fun y hy => (List.mem_erase_of_ne fun (z : y = x) => (List.nodup_cons.mp hn).1 (z ▸ hy)).mpr (hs y (List.mem_cons_of_mem _ hy))
    rw [List.length_erase_of_mem hx] at h
    have := List.length_pos_of_mem hx
    rw [List.length_cons]
    omega
section
variable {S : Type} {G : S → List (Nat × S)} {r r' : S → Option Nat} {tp lo : Int} {h h' : S → Int}
def cnR (G : S → List (Nat × S)) (x : S × Nat) : Nat := ((G x.1)[x.2]?.map Prod.fst).getD 0
def wR (G : S → List (Nat × S)) (tp lo : Int) (p : List (S × Nat)) : Int := (p.map fun x => tp - lo * (cnR G x : Int)).sum
inductive RP (G : S → List (Nat × S)) (r : S → Option Nat) : S → List (S × Nat) → S → Prop where
  | nil {s : S} : RP G r s [] s
  | cons {s t e : S} {l c : Nat} {p : List (S × Nat)} : r s = some l → (G s)[l]? = some (c, t) → RP G r t p e → RP G r s ((s, l) :: p) e
theorem wR_nil : wR G tp lo [] = 0 := rfl
theorem wR_cons (x : S × Nat) (p : List (S × Nat)) : wR G tp lo (x :: p) = tp - lo * (cnR G x : Int) + wR G tp lo p := by unfold wR; rw [List.map_cons, List.sum_cons]
theorem wR_app (p q : List (S × Nat)) : wR G tp lo (p ++ q) = wR G tp lo p + wR G tp lo q := by
  induction p with
  | nil => rw [List.nil_append, wR_nil, Int.zero_add]
  | cons x p ih => rw [List.cons_append, wR_cons, wR_cons, ih, Int.add_assoc]
theorem cnR_of {s t : S} {l c : Nat} (e : (G s)[l]? = some (c, t)) : cnR G (s, l) = c := by unfold cnR; rw [show (G (s, l).1)[(s, l).2]? = some (c, t) from e]; rfl
theorem RP.app {s t e : S} {p q : List (S × Nat)} (a : RP G r s p t) (b : RP G r t q e) : RP G r s (p ++ q) e := by
  induction a with
  | nil => exact b
  | cons h1 h2 _ ih => exact .cons h1 h2 (ih b)
theorem RP.split {s e : S} : ∀ {p q : List (S × Nat)}, RP G r s (p ++ q) e → ∃ t, RP G r s p t ∧ RP G r t q e
  | [], q, a => ⟨s, .nil, a⟩
  | x :: p, q, a => by
    cases a with
    | cons h1 h2 b =>
      obtain ⟨t, g1, g2⟩ := RP.split b
      exact ⟨t, .cons h1 h2 g1, g2⟩
theorem RP.hd {s e : S} {x : S × Nat} {p : List (S × Nat)} (a : RP G r s (x :: p) e) : x.1 = s := by cases a; rfl
theorem RP.one {s e : S} {x : S × Nat} {p : List (S × Nat)} (a : RP G r s (x :: p) e) : ∃ c t, r s = some x.2 ∧ (G s)[x.2]? = some (c, t) ∧ RP G r t p e := by
  cases a with
  | cons h1 h2 b => exact ⟨_, _, h1, h2, b⟩
structure RInv (G : S → List (Nat × S)) (tp lo : Int) (h : S → Int) (r : S → Option Nat) : Prop where
  ok : ∀ s l, r s = some l → ∃ c t, (G s)[l]? = some (c, t) ∧ h s ≤ h t + (tp - lo * (c : Int))
  no : ∀ s, r s = Option.none → h s = 0
  pos : ∀ s, 0 ≤ h s
  cyc : ∀ s p, RP G r s p s → p ≠ [] → 0 < wR G tp lo p
theorem RInv.way (I : RInv G tp lo h r) {s e : S} {p : List (S × Nat)} (a : RP G r s p e) : h s ≤ h e + wR G tp lo p := by
  induction a with
  | nil => rw [wR_nil]; omega
  | @cons s t e l c p h1 h2 _ ih =>
    obtain ⟨c', t', g1, g2⟩ := I.ok s l h1
    rw [h2] at g1
    cases g1
    rw [wR_cons, cnR_of h2]
    omega
theorem RP.keep {s e x : S} {p : List (S × Nat)} (hr : ∀ y, y ≠ x → r' y = r y) (a : RP G r' s p e) (hx : x ∉ p.map Prod.fst) : RP G r s p e := by
  induction a with
  | nil => exact .nil
  | cons h1 h2 _ ih =>
    rw [List.map_cons] at hx
    exact .cons (by rw [← hr _ fun z => hx (by rw [z]; exact List.mem_cons_self)]; exact h1) h2 (ih fun z => hx (List.mem_cons_of_mem _ z))
theorem split_first [DecidableEq S] (x : S) : ∀ (p : List (S × Nat)), x ∉ p.map Prod.fst ∨ ∃ a l b, p = a ++ (x, l) :: b ∧ x ∉ a.map Prod.fst
  | [] => .inl fun z => nomatch z
  | y :: p => by
    by_cases e : y.1 = x
    · exact .inr ⟨[], y.2, p, by rw [← e]; rfl, fun z => nomatch z⟩
    · rcases split_first x p with g | ⟨a, l, b, rfl, g⟩
      · refine .inl fun z => ?_
        rw [List.map_cons] at z
        rcases List.mem_cons.mp z with z | z
        · exact e z.symm
        · exact g z
      · refine .inr ⟨y :: a, l, b, rfl, fun z => ?_⟩
        rw [List.map_cons] at z
        rcases List.mem_cons.mp z with z | z
        · exact e z.symm
        · exact g z
theorem RInv.raise [DecidableEq S] (I : RInv G tp lo h r) {s t : S} {l c : Nat} (e : (G s)[l]? = some (c, t)) (hlt : h s < h t + (tp - lo * (c : Int))) : RInv G tp lo (fun x => if x = s then h t + (tp - lo * (c : Int)) else h x) (fun x => if x = s then some l else r x) := by
  have up : ∀ x, h x ≤ (if x = s then h t + (tp - lo * (c : Int)) else h x) := fun x => by
    by_cases z : x = s
    · rw [if_pos z, z]; omega
    · rw [if_neg z]; exact Int.le_refl _
  have old : ∀ {a b : S} {p : List (S × Nat)}, RP G (fun x => if x = s then some l else r x) a p b → s ∉ p.map Prod.fst → RP G r a p b := fun a g => a.keep (fun y hy => if_neg hy) g
  have at_s : ∀ (n : Nat) (p : List (S × Nat)), p.length ≤ n → RP G (fun x => if x = s then some l else r x) s p s → p ≠ [] → 0 < wR G tp lo p := by
    intro n
    induction n with
    | zero => intro p hp _ hne; exact absurd (List.eq_nil_of_length_eq_zero (by omega)) hne
    | succ n ih =>
      intro p hp a hne
      cases p with
      | nil => exact absurd rfl hne
      | cons x p =>
        have hx := a.hd
        obtain ⟨c', t', h1, h2, b⟩ := a.one
        have h1 : (if s = s then some l else r s) = some x.2 := h1
        rw [if_pos rfl] at h1
        cases h1
        rw [e] at h2
        cases h2
        have hxc : cnR G x = c := by
          have : x = (s, x.2) := Prod.ext hx rfl
          rw [this]; exact cnR_of e
        rw [wR_cons, hxc]
        rw [List.length_cons] at hp
        rcases split_first s p with g | ⟨q1, l2, q2, rfl, g⟩
        · have := I.way (old b g)
          omega
        · obtain ⟨u, b1, b2⟩ := b.split
          have hu : s = u := b2.hd
          rw [← hu] at b1 b2
          have k1 := I.way (old b1 g)
          have k2 := ih _ (by rw [List.length_append] at hp; omega) b2 (fun z => nomatch z)
          rw [wR_app]
          omega
  refine ⟨fun x lx hx => ?_, fun x hx => ?_, fun x => Int.le_trans (I.pos x) (up x), fun x p a hne => ?_⟩
  · have hx : (if x = s then some l else r x) = some lx := hx
    by_cases z : x = s
    · rw [if_pos z] at hx
      cases hx
      refine ⟨c, t, by rw [z]; exact e, ?_⟩
      rw [if_pos z]
      have := up t
      omega
    · rw [if_neg z] at hx
      obtain ⟨c', t', g1, g2⟩ := I.ok x lx hx
      refine ⟨c', t', g1, ?_⟩
      rw [if_neg z]
      have := up t'
      omega
  · have hx : (if x = s then some l else r x) = none := hx
    by_cases z : x = s
    · rw [if_pos z] at hx; cases hx
    · rw [if_neg z] at hx
      show (if x = s then _ else h x) = 0
      rw [if_neg z]; exact I.no x hx
  · rcases split_first s p with g | ⟨q1, l2, q2, rfl, g⟩
    · exact I.cyc x p (old a g) hne
    · obtain ⟨u, b1, b2⟩ := a.split
      have hu : s = u := b2.hd
      rw [← hu] at b1 b2
      have := at_s _ _ (Nat.le_refl _) (b2.app b1) (fun z => by simp at z)
      rw [wR_app] at this
      rw [wR_app]
      omega
theorem RInv.new (G : S → List (Nat × S)) (tp lo : Int) : RInv G tp lo (fun _ => 0) (fun _ => none) :=
  ⟨fun _ _ z => (nomatch z), fun _ _ => rfl, fun _ => Int.le_refl _, fun s p a hne => by
    cases a with
    | nil => exact absurd rfl hne
    | cons h1 _ _ => cases h1⟩
def NoRing (G : S → List (Nat × S)) (r : S → Option Nat) : Prop := ∀ s p, RP G r s p s → p = []
theorem RP.dup [DecidableEq S] {s e : S} {p : List (S × Nat)} (a : RP G r s p e) (hd : ¬ (p.map Prod.fst).Nodup) : ∃ u q, RP G r u q u ∧ q ≠ [] := by
  induction a with
  | nil => exact absurd List.nodup_nil hd
  | @cons s t e l c p h1 h2 b ih =>
    by_cases hn : (p.map Prod.fst).Nodup
    · rw [List.map_cons, List.nodup_cons] at hd
      have hm : s ∈ p.map Prod.fst := Classical.byContradiction fun z => hd ⟨z, hn⟩
      rcases split_first s p with g | ⟨q1, l2, q2, rfl, g⟩
      · exact absurd hm g
      · obtain ⟨u, b1, b2⟩ := b.split
        have hu : s = u := b2.hd
        rw [← hu] at b1
        exact ⟨s, (s, l) :: q1, .cons h1 h2 b1, fun z => nomatch z⟩
    · exact ih hn
theorem RP.far (hr : ∀ s l, r s = some l → ∃ c t, (G s)[l]? = some (c, t)) (s : S) : ∀ n, (∃ p e, RP G r s p e ∧ r e = none ∧ p.length ≤ n) ∨ ∃ p e, RP G r s p e ∧ p.length = n
  | 0 => .inr ⟨[], s, .nil, rfl⟩
  | n + 1 => by
    rcases RP.far hr s n with ⟨p, e, h1, h2, h3⟩ | ⟨p, e, h1, h2⟩
    · exact .inl ⟨p, e, h1, h2, by omega⟩
    · cases q : r e with
      | none => exact .inl ⟨p, e, h1, q, by omega⟩
      | some l =>
        obtain ⟨c, t, g⟩ := hr e l q
        exact .inr ⟨p ++ [(e, l)], t, h1.app (.cons q g .nil), by rw [List.length_append]; show p.length + 1 = _; omega⟩
theorem RP.src {s e : S} {p : List (S × Nat)} (a : RP G r s p e) : ∀ x ∈ p.map Prod.fst, (r x).isSome = true := by
  induction a with
  | nil => exact fun _ z => nomatch z
  | cons h1 _ _ ih =>
    intro x hx
    rw [List.map_cons] at hx
    rcases List.mem_cons.mp hx with rfl | hx
    · show (r _).isSome = true
      rw [h1]; rfl
    · exact ih x hx
theorem wR_le {p : List (S × Nat)} (hlo : 0 ≤ lo) : wR G tp lo p ≤ p.length * tp := by
  induction p with
  | nil => rw [wR_nil]; simp
  | cons x p ih =>
    rw [wR_cons, List.length_cons]
    have h1 : 0 ≤ lo * (cnR G x : Int) := Int.mul_nonneg hlo (Int.natCast_nonneg _)
    have h2 : ((p.length + 1 : Nat) : Int) * tp = p.length * tp + tp := by rw [Int.natCast_add, Int.add_mul]; simp
    rw [h2]
    omega
theorem RInv.bound [DecidableEq S] (I : RInv G tp lo h r) (hn : NoRing G r) (htp : 0 ≤ tp) (hlo : 0 ≤ lo) {sp : List S} (hsp : ∀ s, (r s).isSome = true → s ∈ sp) (s : S) : h s ≤ sp.length * tp := by
  have hr : ∀ s l, r s = some l → ∃ c t, (G s)[l]? = some (c, t) := fun s l q => let ⟨c, t, g, _⟩ := I.ok s l q; ⟨c, t, g⟩
  have nd : ∀ {p e}, RP G r s p e → p.length ≤ sp.length := fun {p e} a => by
    have : (p.map Prod.fst).Nodup := Classical.byContradiction fun z => by
      obtain ⟨u, q, g1, g2⟩ := a.dup z
      exact g2 (hn u q g1)
    have := nodup_within this fun x hx => hsp x (a.src x hx)
    rwa [List.length_map] at this
  rcases RP.far hr s (sp.length + 1) with ⟨p, e, h1, h2, _⟩ | ⟨p, e, h1, h2⟩
  · have g1 := I.way h1
    rw [I.no e h2] at g1
    have g2 := wR_le (G := G) (tp := tp) (p := p) hlo
    have g3 : (p.length : Int) * tp ≤ (sp.length : Int) * tp := Int.mul_le_mul_of_nonneg_right (by have := nd h1; omega) htp
    omega
  · have := nd h1
    omega
def NC (G : S → List (Nat × S)) (r : S → Option Nat) (s : S) : Prop := ∀ e p q, RP G r s p e → RP G r e q e → q = []
theorem NC.fin {s : S} (hs : r s = none) : NC G r s := fun e p q a b => by
  cases a with
  | nil =>
    cases b with
    | nil => rfl
    | cons h1 _ _ => rw [hs] at h1; cases h1
  | cons h1 _ _ => rw [hs] at h1; cases h1
theorem NC.step {s t : S} {l c : Nat} (h1 : r s = some l) (h2 : (G s)[l]? = some (c, t)) (n : NC G r t) : NC G r s := fun e p q a b => by
  cases a with
  | nil =>
    cases q with
    | nil => rfl
    | cons x q =>
      obtain ⟨c', t', g1, g2, b'⟩ := b.one
      rw [h1] at g1
      cases g1
      rw [h2] at g2
      cases g2
      exact absurd (n _ _ _ b' b) (fun z => nomatch z)
  | cons g1 g2 a' =>
    rw [h1] at g1
    cases g1
    rw [h2] at g2
    cases g2
    exact n _ _ _ a' b
theorem NC.back {s e : S} {p : List (S × Nat)} (a : RP G r s p e) (n : NC G r e) : NC G r s := by
  induction a with
  | nil => exact n
  | cons h1 h2 _ ih => exact (ih n).step h1 h2
theorem noRing_of (hn : ∀ s, (r s).isSome = true → NC G r s) : NoRing G r := fun s p a => by
  cases q : r s with
  | none => exact NC.fin q s [] p .nil a
  | some l => exact hn s (by rw [q]; rfl) s [] p .nil a
theorem ring_min [DecidableEq S] {s : S} : ∀ (n : Nat) {p : List (S × Nat)}, p.length ≤ n → RP G r s p s → p ≠ [] → ∃ q, RP G r s q s ∧ q ≠ [] ∧ (∀ q', RP G r s q' s → q' ≠ [] → q.length ≤ q'.length)
  | 0, p, hp, _, hne => absurd (List.eq_nil_of_length_eq_zero (by omega)) hne
  | n + 1, p, hp, a, hne => by
    by_cases h : ∃ q', RP G r s q' s ∧ q' ≠ [] ∧ q'.length < p.length
    · obtain ⟨q', g1, g2, g3⟩ := h
      exact ring_min n (by omega) g1 g2
    · exact ⟨p, a, hne, fun q' g1 g2 => Classical.byContradiction fun z => h ⟨q', g1, g2, by omega⟩⟩
theorem ring_nodup [DecidableEq S] {s : S} {q : List (S × Nat)} (a : RP G r s q s) (hm : ∀ q', RP G r s q' s → q' ≠ [] → q.length ≤ q'.length) : (q.map Prod.fst).Nodup := by
  have key : ∀ {p : List (S × Nat)} {t e : S}, RP G r t p e → ¬ (p.map Prod.fst).Nodup → ∃ x y z : List (S × Nat), ∃ u, p = x ++ (y ++ z) ∧ y ≠ [] ∧ RP G r t x u ∧ RP G r u y u ∧ RP G r u z e ∧ z ≠ [] := by
    intro p t e a
    induction a with
    | nil => exact fun hd => absurd List.nodup_nil hd
    | @cons s t e l c p h1 h2 b ih =>
      intro hd
      by_cases hn : (p.map Prod.fst).Nodup
      · rw [List.map_cons, List.nodup_cons] at hd
        have hm : s ∈ p.map Prod.fst := Classical.byContradiction fun z => hd ⟨z, hn⟩
        rcases split_first s p with g | ⟨q1, l2, q2, rfl, g⟩
        · exact absurd hm g
        · obtain ⟨u, b1, b2⟩ := b.split
          have hu : s = u := b2.hd
          subst hu
          exact ⟨[], (s, l) :: q1, (s, l2) :: q2, s, rfl, fun z => (nomatch z), .nil, .cons h1 h2 b1, b2, fun z => nomatch z⟩
      · obtain ⟨x, y, z, u, rfl, g1, g2, g3, g4, g5⟩ := ih hn
        exact ⟨(s, l) :: x, y, z, u, rfl, g1, .cons h1 h2 g2, g3, g4, g5⟩
  refine Classical.byContradiction fun hd => ?_
  obtain ⟨x, y, z, u, rfl, g1, g2, g3, g4, g5⟩ := key a hd
  have := hm (x ++ z) (g2.app g4) (fun w => g5 (List.append_eq_nil_iff.mp w).2)
  have hy : 0 < y.length := List.length_pos_iff.mpr g1
  rw [List.length_append, List.length_append, List.length_append] at this
  omega
end
end Fm
set_option maxHeartbeats 1000000
namespace Fm
open PySem L2 Evl
def spRat (K : PySem.W.Frag) : Sp := fun vs H Q _ => ∃ (a b : Nat), vs = [.int (a : Nat), .int (b : Nat)] ∧ 0 < b ∧ b < 1000000 ∧ a < 1000000000 ∧
  ∀ t H', H t = none → Ex H H' → H' t = some (.tup [.int (a / Nat.gcd a b : Nat), .int (b / Nat.gcd a b : Nat)]) → Q (.ref t) H'
section
variable {P : Program} {w : World} {K : PySem.W.Frag} {mg : Str → Option Value} {base : Heap} {σ : L2.St} {H : Hp} {ta tb : TE}
theorem ev_gcd {a b : Int} (ha : Ev ta σ H (.int a)) (hb : Ev tb σ H (.int b)) : Ev (tCB rGcd (tCons ta (tCons tb tNil))) σ H (.int ((Nat.gcd a.natAbs b.natAbs : Nat) : Int)) := fun H1 e Q q =>
  ha H1 e _ fun H2 e2 => hb H2 (e.trans e2) _ fun H3 e3 => ⟨a, b, rfl, q H3 (e2.trans e3)⟩
theorem ev_iC {C : Int → Int → Prop} {g : Int → Int → V} {i j : Int} (ha : Ev ta σ H (.int i)) (hb : Ev tb σ H (.int j)) (c : C i j) : Ev (tOp (rI C g) ta tb) σ H (g i j) := ev_op ha hb fun H1 _ _ q => ⟨i, j, rfl, rfl, c, q H1 (Ex.refl H1)⟩
abbrev s_ratio_of : Stmt := top 21
theorem sc_ratio_of : FnScope ["top", "low", "common"] ["top", "low"] (defScope s_ratio_of) := ⟨rfl, rfl, rfl, by decide +kernel, rfl, by decide +kernel, by decide +kernel⟩
theorem ok_ratio_of {f : Addr} {fd : FuncData} (F : Fun K "ratio_of" "ratio_of" s_ratio_of f fd) (T : Txt K mg) (G_gcd : mg "gcd" = some (.builtin "math.gcd")) : FnOk P w K mg base CX0 1 f fd ["top", "low"] (spRat K) := by
  refine F.ok sc_ratio_of (fun vs H Q E h => ?_) (fun cdv A outer s H vs Q E hr h => ?_)
  · obtain ⟨_, _, rfl, _⟩ := h
    rfl
  · obtain ⟨a, b, rfl, hb, hb2, ha2, k⟩ := h
    refine ⟨_, (pss_cons (ps_set (i := 2) sc_ratio_of.nd rfl (Or.inl rfl) (pe_callBfun cr_gcd (by rfl) G_gcd (pa_cons (pv 0) (pa_cons (pv 1) pa_nil))))
  (pss_one (ps_ret (pe_tup (pa_cons (pe_op op_fdivN (pv 0) (pv 2)) (pa_cons (pe_op op_fdivN (pv 1) (pv 2)) pa_nil)))))), ?_⟩
    refine q_asg (v := .int ((Nat.gcd a b : Nat) : Int)) (ev_gcd (a := (a : Int)) (b := (b : Int)) (ev_var rfl) (ev_var rfl)) fun H1 e1 => ?_
    have hg : 0 < Nat.gcd a b := Nat.gcd_pos_of_pos_right a hb
    have hg2 : Nat.gcd a b ≤ b := Nat.gcd_le_right a hb
    have d : ∀ x : Nat, ((x : Int).fdiv ((Nat.gcd a b : Nat) : Int)) = ((x / Nat.gcd a b : Nat) : Int) := fun x => by
      rw [Int.fdiv_eq_ediv_of_nonneg _ (Int.natCast_nonneg _)]
      exact (Int.natCast_ediv x (Nat.gcd a b)).symm
    try dsimp only [List.set]
    refine s_retU (eu_tup (vs := [.int (a / Nat.gcd a b : Nat), .int (b / Nat.gcd a b : Nat)]) (ea_cons (ev_is (ev_iC (ev_var rfl) (ev_var rfl) ⟨by omega, by omega⟩) (congrArg V.int (d a))) (ea_cons (ev_is (ev_iC (ev_var rfl) (ev_var rfl) ⟨by omega, by omega⟩) (congrArg V.int (d b))) ea_nil)) (show 2 ≤ 100000 by decide)) fun t H2 ht e2 h2 => ?_
    exact k t H2 (fresh_back e1 ht) (e1.trans e2) h2
end
end Fm
set_option maxHeartbeats 1000000
namespace Fm
open PySem L2 Evl RZ
section
variable {P : Program} {w : World} {K : PySem.W.Frag} {σ : L2.St} {H : Hp} {tl : TE} {D : Ends} {tu : TS} {d : Addr} {kvs : List (NestedKey × V)}
theorem walk_itemsN {o : Obj} {xs : NRaw} : Walk (Itin P w d o xs kvs) kvs.length (fun H => H d = some (.frz o (NDO P w d xs))) (fun i H x H' => ∃ T kv e, kvs[i]? = some kv ∧ xs[i]? = some e ∧ x = .ref T ∧ H T = none ∧ H' = upd H T (.tup [.ref e.2.1, kv.2])) :=
  ⟨fun i H hi q => ⟨q, hi⟩, fun H q => ⟨q, Nat.le_refl _⟩, fun i H v H' _ q y => y⟩
theorem s_forItemsN {g : TG} (hd : ND P w H d kvs) (hl : ∀ od xs, Ev tl σ (upd H d (.frz od (NDO P w d xs))) (.ref d)) (Pv : Obj → NRaw → Nat → L2.St → Hp → Prop) (h0 : ∀ od xs H2, H d = some (NDO P w d xs) → Ex (upd H d (.frz od (NDO P w d xs))) H2 → Pv od xs 0 σ H2)
    (hfz : ∀ od xs i σ' H', Pv od xs i σ' H' → H' d = some (.frz od (NDO P w d xs)) ∧ ∀ b ys, H b = some (.tup ys) → H' b = some (.tup ys))
    (hs : ∀ od xs i kv kb T σ' H', kvs[i]? = some kv → NK H' (.ref kb) kv.1 → Pv od xs i σ' H' → H' T = none → g (.ref T) σ' (upd H' T (.tup [.ref kb, kv.2])) fun σ2 H2 => tu { nx := Pv od xs (i + 1), ct := Pv od xs (i + 1), bk := fun σ' H' => H' d = some (.frz od (NDO P w d xs)) ∧ D.nx σ' (upd H' d (NDO P w d xs)), rt := fun v H' => H' d = some (.frz od (NDO P w d xs)) ∧ D.rt v (upd H' d (NDO P w d xs)) } σ2 H2)
    (hk : ∀ od xs σ' H', Pv od xs kvs.length σ' H' → D.nx σ' (upd H' d (NDO P w d xs))) : tLock (tFor (iItemsN P w tl) g tu) D σ H := by
  obtain ⟨xs, hx, hz, rel⟩ := hd
  refine ⟨d, _, hx, True.intro, fun od => ?_⟩
  refine hl od xs _ (Ex.refl _) _ fun H2 e2 => ?_
  refine ⟨d, od, xs, kvs, rfl, e2 _ _ upd_same, Paired.mapP rel fun _ _ z => ⟨z.1, z.2.2⟩, ?_⟩
  refine for_it walk_itemsN (Pv od xs) (h0 od xs H2 hx e2) (fun m σ' H' _ hp => (hfz od xs m σ' H' hp).1) (fun m x σ' H' H'' hm hp hy => ?_) (fun σ' H' hp => ?_)
  · obtain ⟨T, kv, e, h1, h2, rfl, h3, rfl⟩ := hy
    obtain ⟨kv', h4, h5, ⟨h6, _⟩, _⟩ := paired_get rel h2
    rw [h1] at h4
    cases h4
    exact hs od xs m kv e.2.1 T σ' H' h1 (h6.up (hfz od xs m σ' H' hp).2) hp h3
  · exact ⟨(hfz od xs _ σ' H' hp).1, hk od xs σ' H' hp⟩
end
def PrT (u : V) (p : Nat × Lv) (H : Hp) : Prop := ∃ b bt, u = .ref b ∧ H b = some (.tup [.int (p.1 : Nat), .ref bt]) ∧ LvH H bt p.2
def PsH (v : V) (ps : List (Nat × Lv)) (H : Hp) : Prop := ∃ a vs, v = .ref a ∧ H a = some (.lst vs) ∧ Paired (fun u p => PrT u p H) vs ps
def InR (v : V) (i : Int) (_ : Hp) : Prop := v = .int i
def NaR (v : V) (n : Nat) (_ : Hp) : Prop := v = .int (n : Nat)
def Kl (H H' : Hp) : Prop := ∀ b o, H b = some o → ((∃ ys, o = .tup ys) ∨ ∃ ys, o = .lst ys) → H' b = some o
theorem Kl.of {H H' : Hp} (e : Ex H H') : Kl H H' := fun b o h _ => e b o h
theorem Kl.trans {H H' H'' : Hp} (a : Kl H H') (b : Kl H' H'') : Kl H H'' := fun c o h k => b c o (a c o h k) k
theorem LvH.kl {H H' : Hp} {b : Addr} {l : Lv} (k : Kl H H') (h : LvH H b l) : LvH H' b l := k _ _ h (.inl ⟨_, rfl⟩)
theorem PrT.kl {H H' : Hp} {u : V} {p : Nat × Lv} (k : Kl H H') (h : PrT u p H) : PrT u p H' := let ⟨b, bt, h1, h2, h3⟩ := h; ⟨b, bt, h1, k _ _ h2 (.inl ⟨_, rfl⟩), h3.kl k⟩
theorem PsH.kl {H H' : Hp} {v : V} {ps : List (Nat × Lv)} (k : Kl H H') (h : PsH v ps H) : PsH v ps H' := let ⟨a, vs, h1, h2, h3⟩ := h; ⟨a, vs, h1, k _ _ h2 (.inr ⟨_, rfl⟩), Paired.mapP h3 fun _ _ z => z.kl k⟩
theorem psH_d : RKd PsH := fun _ _ _ _ e h => h.kl (Kl.of e)
theorem inR_d : RKd InR := fun _ _ _ _ _ h => h
theorem naR_d : RKd NaR := fun _ _ _ _ _ h => h
section
variable {P : Program} {w : World} {H H' : Hp} {d b : Addr} {α : Type} {R : V → α → Hp → Prop} {xs : List (Lv × α)}
theorem DW.kl (r : ∀ v x, R v x H → R v x H') (k : Kl H H') (e : ∀ o, H d = some o → H' d = some o) (h : DW P w R H d xs) : DW P w R H' d xs := by
  obtain ⟨kvs, ⟨ys, h1, h2, h3⟩, h4⟩ := h.at_
  exact ⟨kvs, ⟨ys, e _ h1, h2, h3.up fun b zs hb => k _ _ hb (.inl ⟨_, rfl⟩)⟩, Paired.mapP h4 fun _ _ z => ⟨z.1, r _ _ z.2⟩⟩
theorem DR.kl (r : ∀ v x, R v x H → R v x H') (k : Kl H H') (e : ∀ u, Rd H d u → Rd H' d u) (h : DR P w R H d xs) : DR P w R H' d xs := by
  obtain ⟨kvs, ⟨ys, h1, h2, h3⟩, h4⟩ := h.at_
  exact ⟨kvs, ⟨ys, e _ h1, h2, h3.up fun b zs hb => k _ _ hb (.inl ⟨_, rfl⟩)⟩, Paired.mapP h4 fun _ _ z => ⟨z.1, r _ _ z.2⟩⟩
theorem kl_dict {ys : NRaw} {o : HO} (h : H d = some (NDO P w d ys)) : Kl H (upd H d o) := fun b u hb hk => by
  rw [upd_ne fun z => ?_]
  · exact hb
  · rw [z, h] at hb
    cases hb
    rcases hk with ⟨_, e⟩ | ⟨_, e⟩ <;> (unfold NDO at e; cases e)
theorem kl_frz {ys : NRaw} {od : Obj} {o : HO} (h : H d = some (.frz od (NDO P w d ys))) : Kl H (upd H d o) := fun b u hb hk => by
  rw [upd_ne fun z => ?_]
  · exact hb
  · rw [z, h] at hb
    cases hb
    rcases hk with ⟨_, e⟩ | ⟨_, e⟩ <;> cases e
end
theorem fld_KR {X : Cx} {K : PySem.W.Frag} {e : Expr} {f : Str} {pos : Pos} {ta : TE} (h : X.K = K) (he : PE X e ta) (hb : attributeBase e f X.env (eval e X.env) = eval e X.env) : PE X (.Attribute e f pos) (tFld K ta f) := by subst h; exact pe_fld he hb
theorem inR_any {v : V} {i : Int} {H H' : Hp} (h : InR v i H) : InR v i H' := h
theorem naR_any {v : V} {i : Nat} {H H' : Hp} (h : NaR v i H) : NaR v i H' := h
theorem paired_at {α β : Type} {R : α → β → Prop} {xs : List α} {ys : List β} (h : Paired R xs ys) : ∀ {i : Nat} {x : α}, xs[i]? = some x → ∃ y, ys[i]? = some y ∧ R x y := by
  induction h with
  | nil => exact fun h => nomatch h
  | cons r _ ih =>
    intro i x h
    cases i with
    | zero => cases h; exact ⟨_, rfl, r⟩
    | succ i => exact ih h
def rif (lk ht rs : V) : List (Str × V) := [("links", lk), ("heights", ht), ("raised", rs)]
theorem rif_links {a b c : V} : (rif a b c).lookup ("links" : Str) = some a := by kernel_rfl
theorem rif_heights {a b c : V} : (rif a b c).lookup ("heights" : Str) = some b := by kernel_rfl
theorem rif_raised {a b c : V} : (rif a b c).lookup ("raised" : Str) = some c := by kernel_rfl
structure RinT (K : PySem.W.Frag) (C : Addr) : Prop where
  cl : Cls K C
  n_links : NoAttr K C "links"
  n_heights : NoAttr K C "heights"
  n_raised : NoAttr K C "raised"
structure RinF (P : Program) (w : World) (C : Addr) (H : Hp) (x dx dl dh dr : Addr) (sp : List Lv) (G : Lv → List (Nat × Lv)) (hs : List (Lv × Int)) (rs : List (Lv × Nat)) : Prop where
  obj : H x = some (.ins C dx (rif (.ref dl) (.ref dh) (.ref dr)))
  ln : DW P w PsH H dl (sp.map fun s => (s, G s))
  ht : DW P w InR H dh hs
  ra : DW P w NaR H dr rs
  ne : dl ≠ dh ∧ dl ≠ dr ∧ dh ≠ dr
theorem RinF.up {P : Program} {w : World} {C : Addr} {H H' : Hp} {x dx dl dh dr : Addr} {sp : List Lv} {G : Lv → List (Nat × Lv)} {hs : List (Lv × Int)} {rs : List (Lv × Nat)} (e : Ex H H') (W : RinF P w C H x dx dl dh dr sp G hs rs) : RinF P w C H' x dx dl dh dr sp G hs rs := ⟨e _ _ W.obj, W.ln.up psH_d e, W.ht.up inR_d e, W.ra.up naR_d e, W.ne⟩
structure RinR (P : Program) (w : World) (C : Addr) (H : Hp) (x dx dl dh dr : Addr) (sp : List Lv) (G : Lv → List (Nat × Lv)) (rs : List (Lv × Nat)) : Prop where
  obj : H x = some (.ins C dx (rif (.ref dl) (.ref dh) (.ref dr)))
  ln : DR P w PsH H dl (sp.map fun s => (s, G s))
  ra : DR P w NaR H dr rs
theorem RinR.up {P : Program} {w : World} {C : Addr} {H H' : Hp} {x dx dl dh dr : Addr} {sp : List Lv} {G : Lv → List (Nat × Lv)} {rs : List (Lv × Nat)} (e : Ex H H') (W : RinR P w C H x dx dl dh dr sp G rs) : RinR P w C H' x dx dl dh dr sp G rs := ⟨e _ _ W.obj, W.ln.up psH_d e, W.ra.up naR_d e⟩
def BuR (a b c : Addr) (H H' : Hp) : Prop := ∀ y o, y ≠ a → y ≠ b → y ≠ c → H y = some o → H' y = some o
def hF (hs : List (Lv × Int)) (s : Lv) : Int := (lkp hs s).getD 0
def rF (rs : List (Lv × Nat)) (s : Lv) : Option Nat := lkp rs s
theorem hF_put (hs : List (Lv × Int)) (s : Lv) (v : Int) : hF (putL hs s v) = fun t => if t = s then v else hF hs t := funext fun t => by
  unfold hF
  rw [lkp_put]
  split <;> rfl
theorem rF_put (rs : List (Lv × Nat)) (s : Lv) (v : Nat) : rF (putL rs s v) = fun t => if t = s then some v else rF rs t := funext fun t => lkp_put rs s t v
end Fm
set_option maxHeartbeats 1000000
namespace Fm
open PySem L2 Evl RZ
theorem ev_fldR {K : PySem.W.Frag} {C : Addr} {σ : L2.St} {H : Hp} {ta : TE} {a dx : Addr} {fs : List (Str × V)} {f : Str} {v : V} (ha : Ev ta σ H (.ref a)) (h : H a = some (.ins C dx fs)) (cl : Cls K C) (no : NoAttr K C f) (hl : fs.lookup f = some v) : Ev (tFld K ta f) σ H v := fun H1 e Q q => ha H1 e _ fun H2 e2 => ⟨a, C, dx, fs, v, rfl, (e.trans e2) _ _ h, cl, no, hl, q H2 e2⟩
def hSum (sp : List Lv) (h : Lv → Int) : Int := (sp.map h).sum
theorem hSum_up {sp : List Lv} {h : Lv → Int} {s : Lv} {v : Int} (hs : s ∈ sp) (hv : h s < v) : hSum sp h < hSum sp (fun t => if t = s then v else h t) := by
  unfold hSum
  induction sp with
  | nil => cases hs
  | cons x sp ih =>
    rw [List.map_cons, List.map_cons, List.sum_cons, List.sum_cons]
    have le : ∀ (l : List Lv), (l.map h).sum ≤ (l.map fun t => if t = s then v else h t).sum := fun l => by
      induction l with
      | nil => exact Int.le_refl _
      | cons y l ihl =>
        rw [List.map_cons, List.map_cons, List.sum_cons, List.sum_cons]
        by_cases e : y = s
        · rw [if_pos e, e]; omega
        · rw [if_neg e]; omega
    by_cases e : x = s
    · rw [if_pos e, e]
      have := le sp
      omega
    · rw [if_neg e]
      have := ih ((List.mem_cons.mp hs).resolve_left fun z => e z.symm)
      omega
def Calm (sp : List Lv) (G : Lv → List (Nat × Lv)) (tp lo : Int) (h : Lv → Int) : Prop := ∀ s ∈ sp, ∀ p ∈ G s, h p.2 + (tp - lo * (p.1 : Int)) ≤ h s
structure Gok (sp : List Lv) (G : Lv → List (Nat × Lv)) : Prop where
  nd : sp.Nodup
  tg : ∀ s ∈ sp, ∀ p ∈ G s, p.2 ∈ sp
  one : ∀ s ∈ sp, ∀ p ∈ G s, p.1 ≤ 1
  few : ∀ s ∈ sp, (G s).length ≤ 1000
  many : sp.length ≤ 100000
def spRaise (P : Program) (w : World) (K : PySem.W.Frag) (C : Addr) : Sp := fun vs H Q _ => ∃ (x dx dl dh dr : Addr) (sp : List Lv) (G : Lv → List (Nat × Lv)) (hs : List (Lv × Int)) (rs : List (Lv × Nat)) (tp lo : Nat), vs = [.ref x, .int (tp : Nat), .int (lo : Nat)] ∧ RinF P w C H x dx dl dh dr sp G hs rs ∧ Gok sp G ∧ hs.map Prod.fst = sp ∧ (∀ s ∈ rs.map Prod.fst, s ∈ sp) ∧ (rs.map Prod.fst).Nodup ∧ tp ≤ 1000000 ∧ lo ≤ 1000000 ∧ RInv G tp lo (hF hs) (rF rs) ∧
  ∀ (c : Bool) hs' rs' H', BuR dh dr dr H H' → RinF P w C H' x dx dl dh dr sp G hs' rs' → hs'.map Prod.fst = sp → (∀ s ∈ rs'.map Prod.fst, s ∈ sp) → (rs'.map Prod.fst).Nodup → RInv G tp lo (hF hs') (rF rs') → (c = true → hSum sp (hF hs) < hSum sp (hF hs')) → (c = false → Calm sp G tp lo (hF hs')) → Q (.bl c) H'
section
variable {P : Program} {w : World} {K : PySem.W.Frag} {σ : L2.St} {H : Hp} {te : TE} {D : Ends} {tu : TS}
theorem s_forELg {a : Addr} {xs : List V} {g : TG} (h : Ev te σ H (.ref a)) (hx : SqL K H a xs) (Pv : Nat → L2.St → Hp → Prop) (h0 : ∀ H1, Ex H H1 → Pv 0 σ H1) (hl : ∀ m σ' H', m ≤ xs.length → Pv m σ' H' → SqL K H' a xs)
    (hs : ∀ (m : Nat) v T σ' H', xs[m]? = some v → Pv m σ' H' → H' T = none → g (.ref T) σ' (upd H' T (.tup [.int (m : Nat), v])) fun σ2 H2 => tu { D with nx := Pv (m + 1), ct := Pv (m + 1), bk := D.nx } σ2 H2) (hd : ∀ σ' H', Pv xs.length σ' H' → D.nx σ' H') :
    tFor (iEnum K (tCons te tNil)) g tu D σ H := h H (Ex.refl H) _ fun H1 e =>
  ⟨a, xs, rfl, ex_l e hx, for_it walk_enum Pv (h0 H1 e) hl (fun m v σ' H' H'' hm hp y => by
    obtain ⟨T, u, y', rfl, hT, rfl, hx1, hy1⟩ := y
    cases hx1
    exact hs m y' T σ' H' hy1 hp hT) hd⟩
theorem q_nputR {td ty tv : TE} {tz : TS} (h : tv σ H fun v H1 => td σ H1 fun x H2 => ty σ H2 fun y H3 => ∃ a kvs k, x = .ref a ∧ ND P w H3 a kvs ∧ NK H3 y k ∧ k.depth ≤ 8 ∧ (∃ b, y = .ref b) ∧ kvs.length < sizeLine ∧ ∀ xs', ND P w (upd H3 a (NDO P w a xs')) a (putK kvs k v) → tz D σ (upd H3 a (NDO P w a xs'))) : tSeq (sNPut P w td ty tv) tz D σ H := h
theorem dw_put {α : Type} {R : V → α → Hp → Prop} {d b : Addr} {xs : List (Lv × α)} {s : Lv} {v : V} {a : α} {N : Hp → Prop} (h : DW P w R H d xs) (hb : LvH H b s) (hv : R v a H) (r : ∀ H' v x, Kl H H' → R v x H → R v x H') (hl : xs.length ≤ 1000000) (k : ∀ xs', Kl H (upd H d (NDO P w d xs')) → DW P w R (upd H d (NDO P w d xs')) d (putL xs s a) → N (upd H d (NDO P w d xs'))) :
    ∃ a' kvs k', V.ref d = .ref a' ∧ ND P w H a' kvs ∧ NK H (.ref b) k' ∧ k'.depth ≤ 8 ∧ (∃ b', V.ref b = .ref b') ∧ kvs.length < sizeLine ∧ ∀ xs', ND P w (upd H a' (NDO P w a' xs')) a' (putK kvs k' v) → N (upd H a' (NDO P w a' xs')) := by
  obtain ⟨kvs, h1, h2⟩ := h.at_
  have hlen := Paired.length h2
  refine ⟨d, kvs, lvK s, rfl, h1, hb.nk, lvK_depth s, ⟨b, rfl⟩, by rw [sizeLine_eq]; omega, fun xs' g => ?_⟩
  obtain ⟨ys, g1, _, _⟩ := h1
  have kl := kl_dict (o := NDO P w d xs') g1
  exact k xs' kl ⟨_, g, Paired.mapP (dpr_put h2 hv) fun _ _ z => ⟨z.1, r _ _ _ kl z.2⟩⟩
end
section
variable {P : Program} {w : World} {K : PySem.W.Frag} {mg : Str → Option Value} {base : Heap} {C : Addr}
abbrev s_Rings_raise_once : Stmt := inClass (top 22) 1
theorem sc_Rings_raise_once : FnScope ["self", "top", "low", "heights", "changed", "spot", "pairs", "link", "count", "target", "height"] ["self", "top", "low"] (defScope s_Rings_raise_once) := ⟨rfl, rfl, rfl, by decide +kernel, rfl, by decide +kernel, by decide +kernel⟩
theorem ok_raise_once {f : Addr} {fd : FuncData} (F : Fun K "raise_once" "Rings.raise_once" s_Rings_raise_once f fd) (T : Txt K mg) (T_Rings : RinT K C) : FnOk P w K mg base CX0 1 f fd ["self", "top", "low"] (spRaise P w K C) := by
  refine F.ok sc_Rings_raise_once (fun vs H Q E h => ?_) (fun cdv A outer s H vs Q E hr h => ?_)
  · obtain ⟨_, _, _, _, _, _, _, _, _, _, _, rfl, _⟩ := h
    rfl
  · obtain ⟨x, dx, dl, dh, dr, sp, G, hs, rs, tp, lo, rfl, W, ok, hk, hr1, hr2, htp, hlo, I, k⟩ := h
    refine ⟨_, (pss_cons (ps_set (i := 3) sc_Rings_raise_once.nd rfl (Or.inl rfl) (fld_KR (K := K) rfl (pv 0) rfl))
  (pss_cons (ps_set (i := 4) sc_Rings_raise_once.nd rfl (Or.inl rfl) pe_bl)
  (pss_cons (ps_lock (ps_for PassesOwn.never rfl (itemsN_K (P := P) (w := w) rfl rfl (fld_KR (K := K) rfl (pv 0) rfl)) (pg_tup rfl (pgs_cons (pg_name (i := 5) sc_Rings_raise_once.nd rfl (by first | exact Or.inl rfl | exact Or.inr rfl)) (pgs_cons (pg_name (i := 6) sc_Rings_raise_once.nd rfl (by first | exact Or.inl rfl | exact Or.inr rfl)) pgs_nil))) (pss_one (ps_for PassesOwn.never rfl (pi_enum (by rfl) T.z_enumerate (pa_cons (pv 6) pa_nil)) (pg_tup rfl (pgs_cons (pg_name (i := 7) sc_Rings_raise_once.nd rfl (by first | exact Or.inl rfl | exact Or.inr rfl)) (pgs_cons (pg_tup rfl (pgs_cons (pg_name (i := 8) sc_Rings_raise_once.nd rfl (by first | exact Or.inl rfl | exact Or.inr rfl)) (pgs_cons (pg_name (i := 9) sc_Rings_raise_once.nd rfl (by first | exact Or.inl rfl | exact Or.inr rfl)) pgs_nil))) pgs_nil))) (pss_cons (ps_set (i := 10) sc_Rings_raise_once.nd rfl (Or.inl rfl) (pe_op op_sub (pe_op op_add (nget_K (P := P) (w := w) rfl rfl hr.units (pv 3) (pv 9) (fun _ _ => rfl)) (pv 1)) (pe_op op_mul (pv 2) (pv 8))))
  (pss_one (ps_if (pt_cmpR op_gt (pv 10) (nget_K (P := P) (w := w) rfl rfl hr.units (pv 3) (pv 5) (fun _ _ => rfl)) (nomark _)) (pss_cons (nput_K (P := P) (w := w) rfl rfl hr.units (pv 3) (pv 5) (pv 10) rfl)
  (pss_cons (nput_K (P := P) (w := w) rfl rfl hr.units (fld_KR (K := K) rfl (pv 0) rfl) (pv 5) (pv 7) rfl)
  (pss_one (ps_set (i := 4) sc_Rings_raise_once.nd rfl (Or.inl rfl) pe_bl)))) pss_nil)))))))
  (pss_one (ps_ret (pv 4)))))), ?_⟩
    refine q_asg (ev_fldR (ev_var rfl) W.obj T_Rings.cl T_Rings.n_heights rif_heights) fun H1 e1 => ?_
    refine q_asg ev_c fun H2 e2 => ?_
    try dsimp only [List.set]
    have e02 := e1.trans e2
    have W2 := W.up e02
    obtain ⟨kvs, hnd, hkvs⟩ := W2.ln.at_
    have hkl : kvs.length = sp.length := by rw [Paired.length hkvs, List.length_map]
    have isN : ∀ {y : Addr} {o : HO}, (y = dl ∨ y = dh ∨ y = dr) → H2 y = some o → ∃ ys, o = NDO P w y ys := fun {y o} hy ho => by
      rcases hy with rfl | rfl | rfl
      · obtain ⟨ys, g, _⟩ := hnd; rw [g] at ho; exact ⟨ys, (Option.some.inj ho).symm⟩
      · obtain ⟨_, ⟨ys, g, _⟩, _⟩ := W2.ht.at_; rw [g] at ho; exact ⟨ys, (Option.some.inj ho).symm⟩
      · obtain ⟨_, ⟨ys, g, _⟩, _⟩ := W2.ra.at_; rw [g] at ho; exact ⟨ys, (Option.some.inj ho).symm⟩
    have kl3 : ∀ {H' : Hp}, (∀ y o, y ≠ dl → y ≠ dh → y ≠ dr → H2 y = some o → H' y = some o) → Kl H2 H' := fun {H'} bu y o hy ho => by
      have key : ¬ (y = dl ∨ y = dh ∨ y = dr) := fun z => by
        obtain ⟨ys, rfl⟩ := isN z hy
        rcases ho with ⟨_, e⟩ | ⟨_, e⟩ <;> (unfold NDO at e; cases e)
      exact bu y o (fun z => key (.inl z)) (fun z => key (.inr (.inl z))) (fun z => key (.inr (.inr z))) hy
    have hxn : x ≠ dl ∧ x ≠ dh ∧ x ≠ dr := by
      refine ⟨fun z => ?_, fun z => ?_, fun z => ?_⟩
      · obtain ⟨ys, e⟩ := isN (.inl z) W2.obj; unfold NDO at e; cases e
      · obtain ⟨ys, e⟩ := isN (.inr (.inl z)) W2.obj; unfold NDO at e; cases e
      · obtain ⟨ys, e⟩ := isN (.inr (.inr z)) W2.obj; unfold NDO at e; cases e
    let St : Obj → NRaw → Bool → List (Lv × Int) → List (Lv × Nat) → Hp → Prop := fun od xs c hs' rs' H' => H' dl = some (.frz od (NDO P w dl xs)) ∧ (∀ y o, y ≠ dl → y ≠ dh → y ≠ dr → H2 y = some o → H' y = some o) ∧ DW P w InR H' dh hs' ∧ DW P w NaR H' dr rs' ∧ hs'.map Prod.fst = sp ∧ (∀ s ∈ rs'.map Prod.fst, s ∈ sp) ∧ (rs'.map Prod.fst).Nodup ∧ RInv G tp lo (hF hs') (rF rs') ∧ (c = true → hSum sp (hF hs) < hSum sp (hF hs')) ∧ (c = false → hs' = hs ∧ rs' = rs)
    have StUp : ∀ {od xs c hs' rs' H' H''}, Ex H' H'' → St od xs c hs' rs' H' → St od xs c hs' rs' H'' := fun {od xs c hs' rs' H' H''} e ⟨s1, s2, s3, s4, s5⟩ => ⟨e _ _ s1, fun y o a b c h => e _ _ (s2 y o a b c h), s3.up inR_d e, s4.up naR_d e, s5⟩
    refine s_forItemsN (P := P) (w := w) (kvs := kvs) hnd (fun od xs => ev_fldR (ev_var rfl) (by rw [upd_ne hxn.1]; exact W2.obj) T_Rings.cl T_Rings.n_links rif_links) (fun od xs i σ' H' => ∃ c hs' rs' z5 z6 z7 z8 z9 z10, σ' = [some (.ref x), some (.int (tp : Nat)), some (.int (lo : Nat)), some (.ref dh), some (.bl c), z5, z6, z7, z8, z9, z10] ∧ St od xs c hs' rs' H' ∧ H2 dl = some (NDO P w dl xs) ∧ (c = false → ∀ s ∈ sp.take i, ∀ p ∈ G s, hF hs p.2 + ((tp : Int) - lo * (p.1 : Int)) ≤ hF hs s)) ?_ ?_ ?_ ?_
    · -- at first
      intro od xs H3 hx3 e3
      have d1 : DW P w InR (upd H2 dl (.frz od (NDO P w dl xs))) dh hs := W2.ht.kl (fun _ _ h => inR_any h) (kl_dict hx3) fun o h => by rw [upd_ne W.ne.1.symm]; exact h
      have d2 : DW P w NaR (upd H2 dl (.frz od (NDO P w dl xs))) dr rs := W2.ra.kl (fun _ _ h => naR_any h) (kl_dict hx3) fun o h => by rw [upd_ne W.ne.2.1.symm]; exact h
      exact ⟨false, hs, rs, _, _, _, _, _, _, rfl, ⟨e3 _ _ upd_same, fun y o a _ _ h => e3 _ _ (by rw [upd_ne a]; exact h), d1.up inR_d e3, d2.up naR_d e3, hk, hr1, hr2, I, fun z => (nomatch z), fun _ => ⟨rfl, rfl⟩⟩, hx3, fun _ s hs => nomatch hs⟩
    · rintro od xs i σ' H' ⟨c, hs', rs', z5, z6, z7, z8, z9, z10, rfl, ⟨s1, s2, _⟩, _⟩
      exact ⟨s1, fun b ys hb => kl3 s2 _ _ hb (.inl ⟨_, rfl⟩)⟩
    · -- a spot
      rintro od xs i kv kb T σ' H3 hkv hnk ⟨c, hs', rs', z5, z6, z7, z8, z9, z10, rfl, S0, hx2, hcalm⟩ hT
      obtain ⟨sx, hsx, hkv1, hkv2⟩ := paired_at hkvs hkv
      rw [List.getElem?_map] at hsx
      obtain ⟨sn, hsn, rfl⟩ := Option.map_eq_some_iff.mp hsx
      have hsm : sn ∈ sp := List.mem_of_getElem? hsn
      have hi1 : sp.take (i + 1) = sp.take i ++ [sn] := by rw [List.take_add_one, hsn]; rfl
      have hkb : LvH H3 kb sn := nk_lv (by rw [← hkv1]; exact hnk)
      have hps : PsH kv.2 (G sn) H3 := hkv2.kl (kl3 S0.2.1)
      have e4 := Ex.new (o := .tup [.ref kb, kv.2]) hT
      have hT4 : upd H3 T (.tup [.ref kb, kv.2]) T = some (.tup [.ref kb, kv.2]) := upd_same
      have S4 := StUp e4 S0
      have hkb4 := hkb.up e4
      have hps4 := hps.kl (Kl.of e4)
      generalize upd H3 T (.tup [.ref kb, kv.2]) = H4 at hT4 S4 hkb4 hps4 ⊢
      refine ⟨T, _, rfl, st_of hT4, rfl, _, _, rfl, _, _, rfl, rfl, ?_⟩
      try dsimp only [List.set]
      obtain ⟨la, vs, hla, hvs, hpv⟩ := hps4
      rw [hla]
      have hvl := Paired.length hpv
      have few := ok.few sn hsm
      have fine : ∀ {H' : Hp}, Kl H4 H' → H' la = some (.lst vs) ∧ LvH H' kb sn ∧ Paired (fun u p => PrT u p H') vs (G sn) := fun {H'} kk => ⟨kk _ _ hvs (.inr ⟨_, rfl⟩), hkb4.kl kk, Paired.mapP hpv fun _ _ z => z.kl kk⟩
      refine s_forELg (a := la) (xs := vs) (ev_var rfl) (sq_of hvs) (fun j σ' H' => ∃ c hs' rs' z7 z8 z9 z10, σ' = [some (.ref x), some (.int (tp : Nat)), some (.int (lo : Nat)), some (.ref dh), some (.bl c), some (.ref kb), some (.ref la), z7, z8, z9, z10] ∧ St od xs c hs' rs' H' ∧ Kl H4 H' ∧ (c = false → (∀ s ∈ sp.take i, ∀ p ∈ G s, hF hs p.2 + ((tp : Int) - lo * (p.1 : Int)) ≤ hF hs s) ∧ ∀ p ∈ (G sn).take j, hF hs p.2 + ((tp : Int) - lo * (p.1 : Int)) ≤ hF hs sn)) (fun H5 e5 => ⟨c, hs', rs', _, _, _, _, rfl, StUp e5 S4, Kl.of e5, fun hc => ⟨hcalm hc, fun p hp => nomatch hp⟩⟩) (fun j σ' H' _ ⟨_, _, _, _, _, _, _, _, _, kk, _⟩ => sq_of (fine kk).1) ?_ ?_
      · rintro j u T2 σ' H5 hu ⟨c, hs', rs', z7, z8, z9, z10, rfl, S5, k5, hcalm⟩ hT2
        obtain ⟨p, hp, b, bt, rfl, hb, hbt⟩ := paired_at (fine k5).2.2 hu
        have e6 := Ex.new (o := .tup [.int (j : Nat), .ref b]) hT2
        have hT6 : upd H5 T2 (.tup [.int (j : Nat), .ref b]) T2 = some (.tup [.int (j : Nat), .ref b]) := upd_same
        have S6 := StUp e6 S5
        have k6 := k5.trans (Kl.of e6)
        have hb6 := e6 _ _ hb
        have hbt6 := hbt.up e6
        generalize upd H5 T2 (.tup [.int (j : Nat), .ref b]) = H6 at hT6 S6 k6 hb6 hbt6 ⊢
        refine ⟨T2, _, rfl, st_of hT6, rfl, _, _, rfl, _, _, rfl, ⟨b, _, rfl, st_of hb6, rfl, _, _, rfl, _, _, rfl, rfl, ?_⟩⟩
        refine ⟨rfl, ?_⟩
        try dsimp only [List.set]
        have hpm : p ∈ G sn := List.mem_of_getElem? hp
        have hts : p.2 ∈ sp := ok.tg sn hsm p hpm
        have hp1 := ok.one sn hsm p hpm
        have hj1 : (G sn).take (j + 1) = (G sn).take j ++ [p] := by rw [List.take_add_one, hp]; rfl
        have hjl : j < (G sn).length := (List.getElem?_eq_some_iff.mp hp).1
        obtain ⟨s1, s2, s3, s4, s5, s6, s7, s8, s9, s10⟩ := id S6
        have hget : ∀ t, t ∈ sp → lkp hs' t = some (hF hs' t) := fun t ht => by
          have : (lkp hs' t).isSome = true := by rw [lkp_some, s5]; exact decide_eq_true ht
          obtain ⟨v, hv⟩ := Option.isSome_iff_exists.mp this
          unfold hF
          rw [hv]; rfl
        obtain ⟨v1, hv1, rfl⟩ := ev_dget (P := P) (w := w) (σ := [some (.ref x), some (.int (tp : Nat)), some (.int (lo : Nat)), some (.ref dh), some (.bl c), some (.ref kb), some (.ref la), some (.int (j : Nat)), some (.int (p.1 : Nat)), some (.ref bt), z10]) (td := tVar 3) (ty := tVar 9) inR_d (ev_var rfl) (ev_var rfl) s3.r hbt6 (hget _ hts)
        refine q_asg (v := .int (hF hs' p.2 + (tp : Int) - (lo : Int) * (p.1 : Int))) (ev_i0 (ev_i0 hv1 (ev_var rfl)) (ev_iC (g := fun i j => .int (i * j)) (ev_var rfl) (ev_var rfl) (.inl ⟨by omega, by omega⟩))) fun H7 e7 => ?_
        try dsimp only [List.set]
        have S7 := StUp e7 S6
        have k7 := k6.trans (Kl.of e7)
        obtain ⟨v2, hv2, rfl⟩ := ev_dget (P := P) (w := w) (σ := [some (.ref x), some (.int (tp : Nat)), some (.int (lo : Nat)), some (.ref dh), some (.bl c), some (.ref kb), some (.ref la), some (.int (j : Nat)), some (.int (p.1 : Nat)), some (.ref bt), some (.int (hF hs' p.2 + (tp : Int) - (lo : Int) * (p.1 : Int)))]) (td := tVar 3) (ty := tVar 5) inR_d (ev_var rfl) (ev_var rfl) (s3.up inR_d e7).r (fine k7).2.1 (hget _ hsm)
        refine s_when (et_i0 (g := fun i j => decide (j < i)) (ev_var rfl) hv2) (fun hb H8 e8 => ?_) (fun hb H8 e8 => ?_)
        · -- raised
          have hlt := of_decide_eq_true hb
          obtain ⟨c1, c2, c3, c4, c5, c6, c7, c8, c9, c10⟩ := StUp e8 S7
          have k8 := k7.trans (Kl.of e8)
          refine q_nputR ?_
          refine (ev_var rfl) H8 (Ex.refl _) _ fun H9 e9 => (ev_var rfl) H9 (Ex.refl _) _ fun H10 e10 => (ev_var rfl) H10 (Ex.refl _) _ fun H11 e11 => ?_
          have e811 := (e9.trans e10).trans e11
          obtain ⟨c1, c2, c3, c4, c5, c6, c7, c8, c9, c10⟩ := StUp e811 (show St od xs c hs' rs' H8 from ⟨c1, c2, c3, c4, c5, c6, c7, c8, c9, c10⟩)
          have k11 := k8.trans (Kl.of e811)
          have hlen : hs'.length ≤ 1000000 := by
            have : (hs'.map Prod.fst).length = sp.length := by rw [c5]
            rw [List.length_map] at this
            have := ok.many
            omega
          have hrlen : rs'.length ≤ 1000000 := by
            have := nodup_within c7 c6
            rw [List.length_map] at this
            have := ok.many
            omega
          refine dw_put c3 (fine k11).2.1 (a := hF hs' p.2 + (tp : Int) - (lo : Int) * (p.1 : Int)) rfl (fun _ _ _ _ h => inR_any h) hlen fun ys1 kl1 d1 => ?_
          have k12 := k11.trans kl1
          have f12 : ∀ {y : Addr} {o : HO}, y ≠ dh → H11 y = some o → upd H11 dh (NDO P w dh ys1) y = some o := fun {y o} hy ho => by rw [upd_ne hy]; exact ho
          have x12 : upd H11 dh (NDO P w dh ys1) x = some (.ins C dx (rif (.ref dl) (.ref dh) (.ref dr))) := f12 hxn.2.1 (c2 _ _ hxn.1 hxn.2.1 hxn.2.2 W2.obj)
          have r12 : DW P w NaR (upd H11 dh (NDO P w dh ys1)) dr rs' := c4.kl (fun _ _ h => naR_any h) kl1 fun o h => f12 W.ne.2.2.symm h
          have z12 := f12 W.ne.1 c1
          have b12 : ∀ y o, y ≠ dl → y ≠ dh → y ≠ dr → H2 y = some o → upd H11 dh (NDO P w dh ys1) y = some o := fun y o q1 q2 q3 h => f12 q2 (c2 y o q1 q2 q3 h)
          generalize upd H11 dh (NDO P w dh ys1) = H12 at d1 k12 x12 r12 z12 b12
          refine q_nputR ?_
          refine (ev_var rfl) H12 (Ex.refl _) _ fun H13 e13 => ?_
          refine (ev_fldR (ev_var rfl) (e13 _ _ x12) T_Rings.cl T_Rings.n_raised rif_raised) H13 (Ex.refl _) _ fun H14 e14 => (ev_var rfl) H14 (Ex.refl _) _ fun H15 e15 => ?_
          have e1215 := (e13.trans e14).trans e15
          have k15 := k12.trans (Kl.of e1215)
          refine dw_put (r12.up naR_d e1215) (fine k15).2.1 (a := j) rfl (fun _ _ _ _ h => naR_any h) hrlen fun ys2 kl2 d2 => ?_
          have k16 := k15.trans kl2
          have f16 : ∀ {y : Addr} {o : HO}, y ≠ dr → H15 y = some o → upd H15 dr (NDO P w dr ys2) y = some o := fun {y o} hy ho => by rw [upd_ne hy]; exact ho
          have h16 : DW P w InR (upd H15 dr (NDO P w dr ys2)) dh (putL hs' sn (hF hs' p.2 + (tp : Int) - (lo : Int) * (p.1 : Int))) := (d1.up inR_d e1215).kl (fun _ _ h => inR_any h) kl2 fun o h => f16 W.ne.2.2 h
          have z16 := f16 W.ne.2.1 (e1215 _ _ z12)
          have b16 : ∀ y o, y ≠ dl → y ≠ dh → y ≠ dr → H2 y = some o → upd H15 dr (NDO P w dr ys2) y = some o := fun y o q1 q2 q3 h => f16 q3 (e1215 _ _ (b12 y o q1 q2 q3 h))
          generalize upd H15 dr (NDO P w dr ys2) = H16 at d2 k16 h16 z16 b16
          refine s_asg ev_c fun H17 e17 => ?_
          have hG : (G sn)[j]? = some (p.1, p.2) := hp
          have hlt2 : hF hs' sn < hF hs' p.2 + ((tp : Int) - (lo : Int) * (p.1 : Int)) := by omega
          have I2 := c8.raise hG hlt2
          have e2 : hF hs' p.2 + ((tp : Int) - (lo : Int) * (p.1 : Int)) = hF hs' p.2 + (tp : Int) - (lo : Int) * (p.1 : Int) := by omega
          rw [e2] at I2 hlt2
          rw [← hF_put, ← rF_put] at I2
          have up1 : hSum sp (hF hs') < hSum sp (hF (putL hs' sn (hF hs' p.2 + (tp : Int) - (lo : Int) * (p.1 : Int)))) := by rw [hF_put]; exact hSum_up hsm hlt2
          refine ⟨true, _, _, _, _, _, _, rfl, StUp e17 (show St od xs true (putL hs' sn (hF hs' p.2 + (tp : Int) - (lo : Int) * (p.1 : Int))) (putL rs' sn j) H16 from ⟨z16, b16, h16, d2, ?_, fun t ht => ?_, putL_nodup c7, I2, fun _ => ?_, fun z => nomatch z⟩), k16.trans (Kl.of e17), fun z => nomatch z⟩
          · rw [putL_keys (by rw [c5]; exact hsm)]; exact c5
          · rcases putL_mem.mp ht with z | z
            · rw [z]; exact hsm
            · exact c6 t z
          · cases c with
            | true => exact Int.lt_trans (c9 rfl) up1
            | false =>
              obtain ⟨rfl, _⟩ := c10 rfl
              exact up1
        · have hge := of_decide_eq_false hb
          refine ⟨c, hs', rs', _, _, _, _, rfl, StUp e8 S7, k7.trans (Kl.of e8), fun hc => ⟨(hcalm hc).1, fun p' hp' => ?_⟩⟩
          obtain ⟨rfl, rfl⟩ := s10 hc
          rw [hj1] at hp'
          rcases List.mem_append.mp hp' with z | z
          · exact (hcalm hc).2 p' z
          · rw [List.mem_singleton.mp z]; omega
      · rintro σ' H5 ⟨c, hs', rs', z7, z8, z9, z10, rfl, S5, k5, hcalm⟩
        refine ⟨c, hs', rs', _, _, _, _, _, _, rfl, S5, hx2, fun hc s hs p hp => ?_⟩
        obtain ⟨g1, g2⟩ := hcalm hc
        rw [hvl, List.take_length] at g2
        rw [hi1] at hs
        rcases List.mem_append.mp hs with z | z
        · exact g1 s z p hp
        · rw [List.mem_singleton.mp z] at hp ⊢; exact g2 p hp
    · -- the end
      rintro od xs σ' H3 ⟨c, hs', rs', z5, z6, z7, z8, z9, z10, rfl, ⟨s1, s2, s3, s4, s5, s6, s7, s8, s9, s10⟩, hx2, hcalm⟩
      rw [hkl, List.take_length] at hcalm
      have kf : Kl H3 (upd H3 dl (NDO P w dl xs)) := kl_frz s1
      have W5 : RinF P w C (upd H3 dl (NDO P w dl xs)) x dx dl dh dr sp G hs' rs' := by
        refine ⟨by rw [upd_ne hxn.1]; exact s2 _ _ hxn.1 hxn.2.1 hxn.2.2 W2.obj, W2.ln.kl (fun _ _ h => h.kl ((kl3 s2).trans kf)) ((kl3 s2).trans kf) (fun o h => by rw [upd_same, ← hx2]; exact h), s3.kl (fun _ _ h => inR_any h) kf (fun o h => by rw [upd_ne W.ne.1.symm]; exact h), s4.kl (fun _ _ h => naR_any h) kf (fun o h => by rw [upd_ne W.ne.2.1.symm]; exact h), W.ne⟩
      refine s_ret (ev_var rfl) fun H6 e6 => ?_
      refine k c hs' rs' H6 (fun y o h1 h2 h3 h => e6 _ _ ?_) (W5.up e6) s5 s6 s7 s8 s9 fun hc => ?_
      · by_cases z : y = dl
        · rw [z, upd_same, ← hx2, ← z]; exact e02 _ _ h
        · rw [upd_ne z]; exact s2 _ _ z h1 h2 (e02 _ _ h)
      · obtain ⟨rfl, rfl⟩ := s10 hc
        exact hcalm hc
end
end Fm
set_option maxHeartbeats 1000000
namespace Fm
open PySem L2 Evl RZ
def EltR (v : V) (x : Lv × Nat) (H : Hp) : Prop := ∃ b bs, v = .ref b ∧ H b = some (.tup [.ref bs, .int (x.2 : Nat)]) ∧ LvH H bs x.1
def RgH (H : Hp) (u : Addr) (q : List (Lv × Nat)) : Prop := ∃ vs, H u = some (.lst vs) ∧ Paired (fun v x => EltR v x H) vs q
theorem EltR.kt {H H' : Hp} {v : V} {x : Lv × Nat} (k : ∀ b ys, H b = some (.tup ys) → H' b = some (.tup ys)) (h : EltR v x H) : EltR v x H' := let ⟨b, bs, h1, h2, h3⟩ := h; ⟨b, bs, h1, k _ _ h2, k _ _ h3⟩
theorem RgH.up {H H' : Hp} {u : Addr} {q : List (Lv × Nat)} (e : Ex H H') (g : RgH H u q) : RgH H' u q := let ⟨vs, h1, h2⟩ := g; ⟨vs, e _ _ h1, Paired.mapP h2 fun _ _ z => z.kt fun b ys hb => e _ _ hb⟩
theorem paired_em {α β : Type} {R : α → β → Prop} {xs : List α} {ys : List β} (h : Paired R xs ys) : xs.isEmpty = ys.isEmpty := by cases h <;> rfl
theorem lkp_fun {α : Type} {g : Lv → α} : ∀ {sp : List Lv} {t : Lv}, t ∈ sp → lkp (sp.map fun s => (s, g s)) t = some (g t)
  | [], _, h => nomatch h
  | y :: ys, t, h => by
    rw [List.map_cons, lkp_cons]
    by_cases e : y = t
    · rw [if_pos e, e]
    · rw [if_neg e]; exact lkp_fun ((List.mem_cons.mp h).resolve_left fun z => e z.symm)
def lvD (l : Lv) : PyData := .tuple (iD (l.map fun (x : Nat) => (x : Int)))
theorem LvH.dp {K : PySem.W.Frag} {H : Hp} {b : Addr} {l : Lv} (h : LvH H b l) : Dp K H (.ref b) (lvD l) := .tup (st_of h) (by rw [nV_ints]; exact dp_ints _)
theorem lvD_shaped (l : Lv) : SeqAt.shaped (lvD l) = true := by
  show ((lvD l).canLay0 && decide ((lvD l).depth ≤ 64)) = true
  have h1 : (lvD l).canLay0 = true := by unfold lvD; simp only [PyData.canLay0]; exact iD_lay _
  have h2 : (lvD l).depth ≤ 64 := by unfold lvD; simp only [PyData.depth, iD_depth]; decide
  rw [h1, decide_eq_true h2]
  rfl
theorem lvD_eqv (l l' : Lv) : PyData.eqv (lvD l) (lvD l') = decide (l = l') := by
  unfold lvD
  simp only [PyData.eqv, ints_eqv]
  exact decide_eq_decide.mpr ⟨ofNat_map_inj, fun h => by rw [h]⟩
theorem et_neLv {K : PySem.W.Frag} {σ : L2.St} {H : Hp} {ta tb : TE} {a b : Addr} {l l' : Lv} (ha : Ev ta σ H (.ref a)) (hb : Ev tb σ H (.ref b)) (h : LvH H a l) (g : LvH H b l') : EvT (tTest (tOp (rNeD K) ta tb)) σ H (!decide (l = l')) := by
  rw [← lvD_eqv]
  exact et_test (ev_op ha hb fun H1 e1 Q q => ⟨lvD l, lvD l', (h.up e1).dp, (g.up e1).dp, lvD_shaped l, lvD_shaped l', q H1 (Ex.refl H1)⟩)
theorem EltR.kl {H H' : Hp} {v : V} {x : Lv × Nat} (k : Kl H H') (h : EltR v x H) : EltR v x H' := let ⟨b, bs, h1, h2, h3⟩ := h; ⟨b, bs, h1, k _ _ h2 (.inl ⟨_, rfl⟩), h3.kl k⟩
def spRingF (P : Program) (w : World) (K : PySem.W.Frag) (C : Addr) : Sp := fun vs H Q _ => ∃ (x dx dl dh dr fb : Addr) (sp : List Lv) (G : Lv → List (Nat × Lv)) (rs : List (Lv × Nat)) (s0 : Lv) (p : List (Lv × Nat)), vs = [.ref x, .ref fb] ∧ RinR P w C H x dx dl dh dr sp G rs ∧ Gok sp G ∧ (∀ s l, rF rs s = some l → ∃ c t, (G s)[l]? = some (c, t)) ∧ (∀ s ∈ rs.map Prod.fst, s ∈ sp) ∧ LvH H fb s0 ∧ RP G (rF rs) s0 p s0 ∧ p ≠ [] ∧
  ∀ u q H', H u = none → Ex H H' → RgH H' u q → RP G (rF rs) s0 q s0 → q ≠ [] → (q.map Prod.fst).Nodup → Q (.ref u) H'
section
variable {P : Program} {w : World} {K : PySem.W.Frag} {mg : Str → Option Value} {base : Heap} {C : Addr}
abbrev s_Rings_ring_from : Stmt := inClass (top 22) 3
theorem sc_Rings_ring_from : FnScope ["self", "first", "ring", "spot", "link"] ["self", "first"] (defScope s_Rings_ring_from) := ⟨rfl, rfl, rfl, by decide +kernel, rfl, by decide +kernel, by decide +kernel⟩
theorem ok_ring_from {f : Addr} {fd : FuncData} (F : Fun K "ring_from" "Rings.ring_from" s_Rings_ring_from f fd) (T : Txt K mg) (T_Rings : RinT K C) : FnOk P w K mg base CX0 1 f fd ["self", "first"] (spRingF P w K C) := by
  refine F.ok sc_Rings_ring_from (fun vs H Q E h => ?_) (fun cdv A outer s H vs Q E hr h => ?_)
  · obtain ⟨_, _, _, _, _, _, _, _, _, _, _, rfl, _⟩ := h
    rfl
  · obtain ⟨x, dx, dl, dh, dr, fb, sp, G, rs, s0, p, rfl, W, ok, hrs, hr1, hfb, hring, hne, k⟩ := h
    refine ⟨_, (pss_cons (ps_set (i := 2) sc_Rings_ring_from.nd rfl (Or.inl rfl) (pe_lst pa_nil))
  (pss_cons (ps_set (i := 3) sc_Rings_ring_from.nd rfl (Or.inl rfl) (pv 1))
  (pss_cons (ps_while PassesOwn.never (PW.pt (pw_or (pt_not (pt_truthK (K := K) rfl (pv 2) (by intro _; rfl))) (pw_or1 (pt_cmpR (neD_K (K := K) rfl hr.units) (pv 3) (pv 1) (nomark _))))) (pss_cons (ps_set (i := 4) sc_Rings_ring_from.nd rfl (Or.inl rfl) (nget_K (P := P) (w := w) rfl rfl hr.units (fld_KR (K := K) rfl (pv 0) rfl) (pv 3) (fun _ _ => rfl)))
  (pss_cons (ps_expr (pe_bm PySem.F.plainAttrs_list PySem.F.slot_list_append PySem.F.type_list_append mt_append (pv 2) (pa_cons (pe_tup (pa_cons (pv 3) (pa_cons (pv 4) pa_nil))) pa_nil)))
  (pss_one (ps_set (i := 3) sc_Rings_ring_from.nd rfl (Or.inl rfl) (pe_ix (ix_K (K := K) rfl) (pe_ix (ix_K (K := K) rfl) (nget_K (P := P) (w := w) rfl rfl hr.units (fld_KR (K := K) rfl (pv 0) rfl) (pv 3) (fun _ _ => rfl)) (pv 4) (fun _ _ => rfl)) pe_int (fun _ _ => rfl)))))))
  (pss_one (ps_ret (pv 2)))))), ?_⟩
    obtain ⟨q0, hq0, hq1, hmin⟩ := ring_min _ (Nat.le_refl _) hring hne
    refine q_asgL (xs := []) (el_lst ea_nil (Nat.zero_le _)) fun u H1 hu e1 hu1 => ?_
    refine q_asg (ev_var rfl) fun H2 e2 => ?_
    try dsimp only [List.set]
    have e02 := e1.trans e2
    refine q_while (fun m σ' H' => ∃ i bs si z4, σ' = [some (.ref x), some (.ref fb), some (.ref u), some (.ref bs), z4] ∧ Ex H H' ∧ RgH H' u (q0.take i) ∧ LvH H' bs si ∧ RP G (rF rs) s0 (q0.take i) si ∧ RP G (rF rs) si (q0.drop i) s0 ∧ i ≤ q0.length ∧ m = q0.length - i) _ ⟨0, fb, s0, _, rfl, e02, ⟨[], e2 _ _ hu1, .nil⟩, hfb.up e02, .nil, hq0, Nat.zero_le _, rfl⟩ ?_
    rintro m σ' H3 ⟨i, bs, si, z4, rfl, e3, hrg, hbs, ra, rb, hi, rfl⟩
    obtain ⟨vs, hvs, hpv⟩ := id hrg
    have hvl := Paired.length hpv
    refine ⟨!(!(q0.take i).isEmpty) || !decide (si = s0), et_or (et_not (et_is (et_truL (ev_var rfl) (sq_of hvs)) (by rw [paired_em hpv]))) fun _ => et_neLv (ev_var rfl) (ev_var rfl) hbs (hfb.up e3), fun hb H4 e4 => ?_, fun hb H4 e4 => ?_⟩
    · have hlt : i < q0.length := by
        refine Classical.byContradiction fun z => ?_
        obtain rfl : i = q0.length := by omega
        rw [List.drop_length] at rb
        cases rb
        rw [List.take_length] at hb
        cases hq : q0 with
        | nil => exact hq1 hq
        | cons => rw [hq] at hb; simp at hb
      obtain ⟨y, hy⟩ : ∃ y, q0[i]? = some y := ⟨q0[i], List.getElem?_eq_getElem hlt⟩
      have hd : q0.drop i = y :: q0.drop (i + 1) := by rw [List.drop_eq_getElem_cons hlt]; congr 1; exact (List.getElem?_eq_some_iff.mp hy).2
      have ht : q0.take (i + 1) = q0.take i ++ [y] := by rw [List.take_add_one, hy]; rfl
      rw [hd] at rb
      have hys := rb.hd
      obtain ⟨c, t, h1, h2, rc⟩ := rb.one
      have hsp : si ∈ sp := hr1 _ (by
        have : (lkp rs si).isSome = true := by unfold rF at h1; rw [h1]; rfl
        rw [lkp_some] at this
        exact of_decide_eq_true this)
      have W4 := W.up (e3.trans e4)
      have hbs4 := hbs.up e4
      obtain ⟨v1, hv1, rfl⟩ := ev_dget (P := P) (w := w) (σ := [some (.ref x), some (.ref fb), some (.ref u), some (.ref bs), z4]) (td := tFld K (tVar 0) "raised") (ty := tVar 3) naR_d (ev_fldR (ev_var rfl) W4.obj T_Rings.cl T_Rings.n_raised rif_raised) (ev_var rfl) W4.ra hbs4 (show lkp rs si = some y.2 from h1)
      refine ⟨_, fun σ2 H2 h => h, ?_⟩
      refine q_asg hv1 fun H5 e5 => ?_
      try dsimp only [List.set]
      have e35 := e4.trans e5
      refine m_appQ (ev_var rfl) (e35 _ _ hvs) fun H6 e6 => ?_
      refine (eu_tup (vs := [.ref bs, .int (y.2 : Nat)]) (ea_cons (ev_var rfl) (ea_cons (ev_var rfl) ea_nil)) (show 2 ≤ 100000 by decide)) H6 (Ex.refl _) _ fun t1 H7 ht1 e7 h7 => ?_
      have e57 := e6.trans e7
      have hvs7 := e57 _ _ (e35 _ _ hvs)
      have hql : q0.length ≤ 100000 := by
        have := nodup_within (ring_nodup hq0 hmin) fun z hz => hr1 z (by
          have := hq0.src z hz
          unfold rF at this
          rw [lkp_some] at this
          exact of_decide_eq_true this)
        rw [List.length_map] at this
        have := ok.many
        omega
      refine ⟨u, vs, .ref t1, rfl, rfl, hvs7, by rw [sizeLine_eq, hvl, List.length_take]; omega, ?_⟩
      have e37 := e35.trans e57
      have tk : ∀ b ys, H7 b = some (.tup ys) → upd H7 u (.lst (vs ++ [.ref t1])) b = some (.tup ys) := fun b ys hb => by
        rw [upd_ne fun z => ?_]
        · exact hb
        · rw [z, hvs7] at hb; cases hb
      have e8 : Ex H (upd H7 u (.lst (vs ++ [.ref t1]))) := Ex.mut (e3.trans e37) hu
      have hu8 : upd H7 u (.lst (vs ++ [.ref t1])) u = some (.lst (vs ++ [.ref t1])) := upd_same
      have p8 : Paired (fun v x => EltR v x (upd H7 u (.lst (vs ++ [.ref t1])))) (vs ++ [.ref t1]) (q0.take (i + 1)) := by
        rw [ht]
        refine paired_append (Paired.mapP hpv fun _ _ z => z.kt fun b ys hb => tk b ys (e37 _ _ hb)) (.cons ⟨t1, bs, rfl, tk _ _ h7, ?_⟩ .nil)
        rw [hys]
        exact tk _ _ (e37 _ _ hbs)
      have hbs8 : LvH (upd H7 u (.lst (vs ++ [.ref t1]))) bs si := tk _ _ (e37 _ _ hbs)
      generalize upd H7 u (.lst (vs ++ [.ref t1])) = H8 at e8 hu8 p8 hbs8
      have W8 := W.up e8
      obtain ⟨v2, hv2, la, ls, rfl, hls, hpl⟩ := ev_dget (P := P) (w := w) (σ := [some (.ref x), some (.ref fb), some (.ref u), some (.ref bs), some (.int (y.2 : Nat))]) (td := tFld K (tVar 0) "links") (ty := tVar 3) psH_d (ev_fldR (ev_var rfl) W8.obj T_Rings.cl T_Rings.n_links rif_links) (ev_var rfl) W8.ln hbs8 (lkp_fun hsp)
      obtain ⟨w1, hw1, b1, bt, rfl, hb1, hbt⟩ := paired_get hpl h2
      refine s_asg (ev_ixT (ev_ixL hv2 (ev_var rfl) (sq_of hls) (atI_nat' hw1)) ev_c (st_of hb1) rfl) fun H9 e9 => ?_
      exact ⟨q0.length - (i + 1), by omega, i + 1, bt, t, _, rfl, e8.trans e9, ⟨_, e9 _ _ hu8, Paired.mapP p8 fun _ _ z => z.kt fun b ys hb => e9 _ _ hb⟩, hbt.up e9, by rw [ht]; exact ra.app (by
        have : y = (si, y.2) := Prod.ext hys rfl
        rw [this]; exact .cons h1 h2 .nil), rc, by omega, rfl⟩
    · have hi0 : (q0.take i).isEmpty = false ∧ si = s0 := by
        cases h1 : (q0.take i).isEmpty with
        | true => rw [h1] at hb; simp at hb
        | false =>
          rw [h1] at hb
          refine ⟨rfl, ?_⟩
          simpa using hb
      obtain ⟨hne0, rfl⟩ := hi0
      have hlen : i = q0.length := by
        have := hmin _ ra (fun z => by rw [z] at hne0; cases hne0)
        rw [List.length_take] at this
        omega
      rw [hlen, List.take_length] at hrg
      refine s_ret (ev_var rfl) fun H5 e5 => ?_
      exact k u q0 H5 hu (e3.trans (e4.trans e5)) (hrg.up (e4.trans e5)) hq0 hq1 (ring_nodup hq0 hmin)
end
end Fm
set_option maxHeartbeats 1000000
namespace Fm
open PySem L2 Evl RZ
def rf (p pl at_ hd ct ip ak sd : V) : List (Str × V) := [("program", p), ("places", pl), ("at", at_), ("hand", hd), ("contents", ct), ("inputs", ip), ("asked", ak), ("said", sd)]
structure Rs where
  at_ : Nat
  hand : Int
  held : List Int
  asked : Nat
  said : List Int
def Rs.deed (p : List In) (ins : List Int) (s : Rs) : Rs := match p[s.at_]? with
  | some .say => { s with said := s.said ++ [s.hand] }
  | some .ask => if s.asked < ins.length then { s with hand := ins.getD s.asked 0, asked := s.asked + 1 } else { s with hand := 0 }
  | some (.put k) => { s with hand := k }
  | some (.get c) => { s with hand := s.held.getD c 0 }
  | some (.plus c) => { s with hand := s.hand + s.held.getD c 0 }
  | some (.minus c) => { s with hand := s.hand - s.held.getD c 0 }
  | some (.set c) => { s with held := s.held.set c s.hand }
  | _ => s
def Rs.next (p : List In) (s : Rs) : Nat := match p[s.at_]? with
  | some (.zero t) => if s.hand = 0 then stE p t else stE p (s.at_ + 1)
  | _ => stE p (s.at_ + 1)
def Rs.step (p : List In) (ins : List Int) (s : Rs) : Rs := { s.deed p ins with at_ := s.next p }
structure RunF (K : PySem.W.Frag) (C : Addr) (B H : Hp) (x pa ia : Addr) (p : List In) (ins : List Int) (s : Rs) (dx pl ct sd : Addr) : Prop where
  ex : Ex B H
  x0 : B x = none
  pg : PgT K B pa p
  ip : SqT K B ia (ins.map V.int)
  obj : H x = some (.ins C dx (rf (.ref pa) (.ref pl) (.int (s.at_ : Nat)) (.int s.hand) (.ref ct) (.ref ia) (.int (s.asked : Nat)) (.ref sd)))
  c0 : B ct = none
  s0 : B sd = none
  cs : ct ≠ sd
  xc : x ≠ ct
  xs : x ≠ sd
  px : pl ≠ x
  pc : pl ≠ ct
  ps : pl ≠ sd
  hc : H ct = some (.lst (s.held.map V.int))
  hs : H sd = some (.lst (s.said.map V.int))
  hp : H pl = some (.tup (nV (plc p)))
section
variable {K : PySem.W.Frag} {C : Addr} {B H H' : Hp} {x pa ia : Addr} {p : List In} {ins : List Int} {s : Rs} {dx pl ct sd : Addr}
theorem RunF.up (h : RunF K C B H x pa ia p ins s dx pl ct sd) (e : Ex H H') : RunF K C B H' x pa ia p ins s dx pl ct sd :=
  { h with ex := h.ex.trans e, obj := e _ _ h.obj, hc := e _ _ h.hc, hs := e _ _ h.hs, hp := e _ _ h.hp }
theorem RunF.put (h : RunF K C B H x pa ia p ins s dx pl ct sd) (a : Nat) (hd : Int) (k : Nat) : RunF K C B (upd H x (.ins C dx (rf (.ref pa) (.ref pl) (.int (a : Nat)) (.int hd) (.ref ct) (.ref ia) (.int (k : Nat)) (.ref sd)))) x pa ia p ins { s with at_ := a, hand := hd, asked := k } dx pl ct sd :=
  { h with ex := Ex.mut h.ex h.x0, obj := upd_same, hc := by rw [upd_ne h.xc.symm]; exact h.hc, hs := by rw [upd_ne h.xs.symm]; exact h.hs, hp := by rw [upd_ne h.px]; exact h.hp }
end
end Fm
set_option maxHeartbeats 1000000
set_option maxHeartbeats 1000000
namespace Fm
open PySem L2 Evl RZ
structure MCal (P : Program) (w : World) (K : PySem.W.Frag) (mg : Str → Option Value) (base : Heap) (C : Addr) (k : Nat) (x : Str) (f : Addr) (fd : FuncData) (ps : List Str) (sp : Sp) : Prop where
  G : FnOk P w K mg base CX0 k f fd ps sp
  m : Meth K C x f
  b : Binds K fd ps []
end Fm
set_option maxHeartbeats 1000000
namespace Fm
open PySem L2 Evl RZ
section
variable {P : Program} {w : World} {K : PySem.W.Frag} {C : Addr} {σ : L2.St} {H : Hp} {ta tl : TE} {tA : TA} {D : Ends} {tu : TS} {d a dx : Addr} {kvs : List (NestedKey × V)} {sp : Sp} {E : XK} {m : Str} {fl : List (Str × V)} {Q : VK}
theorem m_methR (ha : Ev ta σ H (.ref a)) (h : H a = some (.ins C dx fl)) (hl : fl.lookup m = none) (k : ∀ H1, Ex H H1 → tA σ H1 fun vs H2 => sp (.ref a :: (vs ++ [])) H2 Q E) : tMeth C m sp [] E ta tA σ H Q := ha H (Ex.refl H) _ fun H1 e1 => ⟨a, dx, fl, rfl, e1 _ _ h, hl, k H1 e1⟩
theorem s_forKeysR {j : Nat} (hd : ND P w H d kvs) (hl : ∀ od xs, Ev tl σ (upd H d (.frz od (NDO P w d xs))) (.ref d)) (Pv : Obj → NRaw → Nat → L2.St → Hp → Prop) (h0 : ∀ od xs H2, H d = some (NDO P w d xs) → Ex (upd H d (.frz od (NDO P w d xs))) H2 → Pv od xs 0 σ H2)
    (hfz : ∀ od xs i σ' H', Pv od xs i σ' H' → H' d = some (.frz od (NDO P w d xs)) ∧ ∀ b ys, H b = some (.tup ys) → H' b = some (.tup ys))
    (hs : ∀ od xs i kv kb σ' H', kvs[i]? = some kv → NK H' (.ref kb) kv.1 → Pv od xs i σ' H' → tu { nx := Pv od xs (i + 1), ct := Pv od xs (i + 1), bk := fun σ' H' => H' d = some (.frz od (NDO P w d xs)) ∧ D.nx σ' (upd H' d (NDO P w d xs)), rt := fun v H' => H' d = some (.frz od (NDO P w d xs)) ∧ D.rt v (upd H' d (NDO P w d xs)) } (σ'.set j (some (.ref kb))) H')
    (hk : ∀ od xs σ' H', Pv od xs kvs.length σ' H' → D.nx σ' (upd H' d (NDO P w d xs))) : tLock (tFor (iKeysN P w tl) (gName j) tu) D σ H := by
  obtain ⟨xs, hx, hz, rel⟩ := hd
  have hlen := Paired.length rel
  refine ⟨d, _, hx, True.intro, fun od => ?_⟩
  refine hl od xs _ (Ex.refl _) _ fun H2 e2 => ?_
  refine ⟨d, od, xs, rfl, e2 _ _ upd_same, ?_⟩
  refine for_it walk_keysN (Pv od xs) (h0 od xs H2 hx e2) (fun m σ' H' _ hp => (hfz od xs m σ' H' hp).1) (fun m x σ' H' H'' hm hp hy => ?_) (fun σ' H' hp => ?_)
  · obtain ⟨rfl, e, h2, rfl⟩ := hy
    obtain ⟨kv, h4, h5, ⟨h6, _⟩, _⟩ := paired_get rel h2
    exact hs od xs m kv e.2.1 σ' _ h4 (h5 ▸ h6.up (hfz od xs m σ' _ hp).2) hp
  · rw [← hlen] at hp
    exact ⟨(hfz od xs _ σ' H' hp).1, hk od xs σ' H' hp⟩
end
theorem rif_no_ring_from {a b c : V} : (rif a b c).lookup ("ring_from" : Str) = none := by kernel_rfl
theorem rif_no_ring_raised {a b c : V} : (rif a b c).lookup ("ring_raised" : Str) = none := by kernel_rfl
theorem rif_no_raise_once {a b c : V} : (rif a b c).lookup ("raise_once" : Str) = none := by kernel_rfl
theorem rif_no_lesser {a b c : V} : (rif a b c).lookup ("lesser" : Str) = none := by kernel_rfl
def RgOk (G : Lv → List (Nat × Lv)) (r : Lv → Option Nat) (q : List (Lv × Nat)) : Prop := (q = [] ∧ NoRing G r) ∨ ∃ s0, RP G r s0 q s0 ∧ q ≠ [] ∧ (q.map Prod.fst).Nodup
def spRingR (P : Program) (w : World) (K : PySem.W.Frag) (C : Addr) : Sp := fun vs H Q _ => ∃ (x dx dl dh dr : Addr) (sp : List Lv) (G : Lv → List (Nat × Lv)) (hs : List (Lv × Int)) (rs : List (Lv × Nat)), vs = [.ref x] ∧ RinF P w C H x dx dl dh dr sp G hs rs ∧ Gok sp G ∧ (∀ s l, rF rs s = some l → ∃ c t, (G s)[l]? = some (c, t)) ∧ (∀ s ∈ rs.map Prod.fst, s ∈ sp) ∧ (rs.map Prod.fst).Nodup ∧
  ∀ u q H', H u = none → Ex H H' → RgH H' u q → RgOk G (rF rs) q → Q (.ref u) H'
theorem q_asgU9 {σ : L2.St} {H : Hp} {te : TE} {tz : TS} {D : Ends} {i : Nat} (h : te σ H fun v H1 => tz D (σ.set i (some v)) H1) : tSeq (tAsg te (gName i)) tz D σ H := h
theorem s_retQR {σ : L2.St} {H : Hp} {te : TE} {D : Ends} (h : te σ H fun v H1 => D.rt v H1) : tRet te D σ H := h
theorem m_lstR {σ : L2.St} {H : Hp} {tA : TA} {Q : VK} (h : tA σ H fun xs H1 => xs.length ≤ sizeLine ∧ ∀ p, H1 p = none → Q (.ref p) (upd H1 p (.lst xs))) : tLst tA σ H Q := h
theorem m_nilR {σ : L2.St} {H : Hp} {Q : List V → Hp → Prop} (h : Q [] H) : tNil σ H Q := h
theorem q_inR {σ : L2.St} {H : Hp} {tu tz : TS} {D : Ends} (h : tu { D with nx := tz D } σ H) : tSeq tu tz D σ H := h
def LvR (v : V) (l : Lv) (H : Hp) : Prop := ∃ b, v = .ref b ∧ LvH H b l
theorem lvR_d : RKd LvR := fun _ _ _ _ e ⟨b, h1, h2⟩ => ⟨b, h1, h2.up e⟩
theorem LvR.kl {H H' : Hp} {v : V} {l : Lv} (k : Kl H H') (h : LvR v l H) : LvR v l H' := let ⟨b, h1, h2⟩ := h; ⟨b, h1, h2.kl k⟩
theorem et_getLv {P : Program} {w : World} {K : PySem.W.Frag} {σ : L2.St} {H : Hp} {td ty tb : TE} {d b b2 : Addr} {ws : List (Lv × Lv)} {s f : Lv} (hd : Ev td σ H (.ref d)) (hy : Ev ty σ H (.ref b)) (hb : Ev tb σ H (.ref b2)) (h : DW P w LvR H d ws) (h1 : LvH H b s) (h2 : LvH H b2 f) : EvT (tTest (tOp (rEqD K) (tNGet1 P w td ty) tb)) σ H (decide (lkp ws s = some f)) := by
  refine et_test fun H1 e1 Q q => hd H1 e1 _ fun H2 e2 => ?_
  have e02 := e1.trans e2
  obtain ⟨kvs, g1, _⟩ := (h.up lvR_d e02).at_
  refine ⟨d, kvs, rfl, g1.r, hy H2 e02 _ fun H3 e3 => ?_⟩
  have e03 := e02.trans e3
  obtain ⟨o, o1, o2, o3⟩ := ((h.up lvR_d e03).r).opt (h1.up e03)
  refine ⟨o, o1, hb H3 e03 _ fun H4 e4 => ?_⟩
  have e04 := e03.trans e4
  cases hl : lkp ws s with
  | none =>
    rw [hl] at o2 q
    have : o = none := by cases o with
      | none => rfl
      | some _ => cases o2
    subst this
    refine ⟨.none, lvD f, .non, (h2.up e04).dp, by rfl, lvD_shaped f, ?_⟩
    have : PyData.eqv .none (lvD f) = false := by unfold lvD; simp [PyData.eqv]
    rw [this]
    exact q H4 (e2.trans (e3.trans e4))
  | some g =>
    rw [hl] at q
    obtain ⟨v, rfl, bg, rfl, hbg⟩ := o3 g hl
    refine ⟨lvD g, lvD f, (hbg.up e4).dp, (h2.up e04).dp, lvD_shaped g, lvD_shaped f, ?_⟩
    rw [lvD_eqv, show decide (g = f) = decide (some g = some f) from decide_eq_decide.mpr ⟨fun z => by rw [z], fun z => Option.some.inj z⟩]
    exact q H4 (e2.trans (e3.trans e4))
section
variable {P : Program} {w : World} {K : PySem.W.Frag} {mg : Str → Option Value} {base : Heap} {C : Addr}
abbrev s_Rings_ring_raised : Stmt := inClass (top 22) 2
theorem sc_Rings_ring_raised : FnScope ["self", "walked", "first", "spot"] ["self"] (defScope s_Rings_ring_raised) := ⟨rfl, rfl, rfl, by decide +kernel, rfl, by decide +kernel, by decide +kernel⟩
theorem ok_ring_raised {f f1 : Addr} {fd fd1 : FuncData} (F : Fun K "ring_raised" "Rings.ring_raised" s_Rings_ring_raised f fd) (T : Txt K mg) (T_Rings : RinT K C) (M_Rings_ring_from : MCal P w K mg base C 1 "ring_from" f1 fd1 ["self", "first"] (spRingF P w K C)) : FnOk P w K mg base CX0 2 f fd ["self"] (spRingR P w K C) := by
  refine F.ok sc_Rings_ring_raised (fun vs H Q E h => ?_) (fun cdv A outer s H vs Q E hr h => ?_)
  · obtain ⟨_, _, _, _, _, _, _, _, _, rfl, _⟩ := h
    rfl
  · obtain ⟨x, dx, dl, dh, dr, sp, G, hs, rs, rfl, W, ok, hrs, hr1, hr2, k⟩ := h
    refine ⟨_, (pss_cons (ps_set (i := 1) sc_Rings_ring_raised.nd rfl (Or.inl rfl) (nnew_K (P := P) (w := w) rfl rfl))
  (pss_cons (ps_lock (ps_for PassesOwn.never rfl (keysN_K (P := P) (w := w) rfl rfl (fld_KR (K := K) rfl (pv 0) rfl)) (pg_name (i := 2) sc_Rings_ring_raised.nd rfl (by first | exact Or.inl rfl | exact Or.inr rfl)) (pss_cons (ps_set (i := 3) sc_Rings_ring_raised.nd rfl (Or.inl rfl) (pv 2))
  (pss_cons (ps_while PassesOwn.never (PW.pt (pw_and (pt_cmp (nin_K' (P := P) (w := w) rfl rfl hr.units (pv 3) (fld_KR (K := K) rfl (pv 0) rfl)) rfl) (pw_and1 (pt_cmp (nnotin_K (P := P) (w := w) rfl rfl hr.units (pv 3) (pv 1)) rfl)))) (pss_cons (nput_K (P := P) (w := w) rfl rfl hr.units (pv 1) (pv 3) (pv 2) rfl)
  (pss_one (ps_set (i := 3) sc_Rings_ring_raised.nd rfl (Or.inl rfl) (pe_ix (ix_K (K := K) rfl) (pe_ix (ix_K (K := K) rfl) (nget_K (P := P) (w := w) rfl rfl hr.units (fld_KR (K := K) rfl (pv 0) rfl) (pv 3) (fun _ _ => rfl)) (nget_K (P := P) (w := w) rfl rfl hr.units (fld_KR (K := K) rfl (pv 0) rfl) (pv 3) (fun _ _ => rfl)) (fun _ _ => rfl)) pe_int (fun _ _ => rfl))))))
  (pss_one (ps_if (pt_cmpR (eqD_K (K := K) rfl hr.units) (nget1_K (P := P) (w := w) rfl rfl hr.units (pv 1) (pv 3) ⟨by rfl, by rfl, by rfl, by rfl⟩) (pv 2) (nomark _)) (pss_one (ps_ret (pe_meth (pv 0) T_Rings.cl M_Rings_ring_from.m M_Rings_ring_from.G (hr.mono (by first | decide | omega)) M_Rings_ring_from.b .nil pass0 (pa_cons (pv 3) pa_nil)))) pss_nil))))))
  (pss_one (ps_ret (pe_lst pa_nil))))), ?_⟩
    refine q_asgU9 fun dw hdw => ?_
    have e1 := Ex.new (o := NDO P w dw []) hdw
    have hw1 : DW P w LvR (upd H dw (NDO P w dw [])) dw [] := ⟨[], ⟨[], upd_same, Nat.zero_le _, .nil⟩, .nil⟩
    generalize upd H dw (NDO P w dw []) = H1 at e1 hw1 ⊢
    try dsimp only [List.set]
    obtain ⟨kvs, hnd, hkvs⟩ := W.ra.at_
    have hkl : kvs.length = rs.length := Paired.length hkvs
    obtain ⟨xs0, hx0, _, _⟩ := id hnd
    have hdd : dw ≠ dr := fun z => by rw [z, hx0] at hdw; cases hdw
    have hxd : x ≠ dr := fun z => by have := W.obj; rw [z, hx0] at this; unfold NDO at this; cases this
    let St : Obj → NRaw → List (Lv × Lv) → Hp → Prop := fun od xs ws H' => H' dr = some (.frz od (NDO P w dr xs)) ∧ (∀ y o, y ≠ dr → y ≠ dw → H1 y = some o → H' y = some o) ∧ DW P w LvR H' dw ws ∧ (ws.map Prod.fst).Nodup ∧ (∀ t ∈ ws.map Prod.fst, t ∈ rs.map Prod.fst)
    have StUp : ∀ {od xs ws H' H''}, Ex H' H'' → St od xs ws H' → St od xs ws H'' := fun {od xs ws H' H''} e ⟨s1, s2, s3, s4, s5⟩ => ⟨e _ _ s1, fun y o a b h => e _ _ (s2 y o a b h), s3.up lvR_d e, s4, s5⟩
    have hx1 := e1 _ _ hx0
    obtain ⟨yw, hyw⟩ : ∃ ys, H1 dw = some (NDO P w dw ys) := let ⟨_, ⟨ys, g, _⟩, _⟩ := hw1.at_; ⟨ys, g⟩
    have hxw : x ≠ dw := fun z => by have := W.obj; rw [z, hdw] at this; cases this
    have hlw : dl ≠ dw := fun z => by obtain ⟨_, ⟨ys, g, _⟩, _⟩ := W.ln.at_; rw [z, hdw] at g; cases g
    have W1 := W.up e1
    have klS : ∀ {od xs ws H'}, St od xs ws H' → Kl H1 H' := fun {od xs ws H'} ⟨_, s2, _⟩ y o hy ho => s2 y o (fun z => by
      rw [z, hx1] at hy
      cases hy
      rcases ho with ⟨_, e⟩ | ⟨_, e⟩ <;> (unfold NDO at e; cases e)) (fun z => by
      rw [z, hyw] at hy
      cases hy
      rcases ho with ⟨_, e⟩ | ⟨_, e⟩ <;> (unfold NDO at e; cases e)) hy
    have rinS : ∀ {od xs ws H'}, H dr = some (NDO P w dr xs) → St od xs ws H' → RinR P w C H' x dx dl dh dr sp G rs := fun {od xs ws H'} hxx S => by
      obtain ⟨s1, s2, _⟩ := id S
      refine ⟨s2 _ _ hxd hxw W1.obj, W1.ln.r.kl (fun _ _ h => h.kl (klS S)) (klS S) (fun u hu => ?_), W1.ra.r.kl (fun _ _ h => naR_any h) (klS S) (fun u hu => ?_)⟩
      · rcases hu with h | ⟨o, h⟩
        · exact .inl (s2 _ _ W.ne.2.1 hlw h)
        · exact .inr ⟨o, s2 _ _ W.ne.2.1 hlw h⟩
      · rcases hu with h | ⟨o, h⟩
        · rw [e1 _ _ hxx] at h
          have h := Option.some.inj h
          rw [← h]
          exact .inr ⟨od, s1⟩
        · rw [hx1] at h
          unfold NDO at h
          cases h
    refine q_inR (s_forKeysR (P := P) (w := w) (kvs := kvs) (hnd.up e1) (fun od xs => ev_fldR (ev_var rfl) (by rw [upd_ne hxd]; exact e1 _ _ W.obj) T_Rings.cl T_Rings.n_raised rif_raised) (fun od xs i σ' H' => ∃ ws z2 z3, σ' = [some (.ref x), some (.ref dw), z2, z3] ∧ H dr = some (NDO P w dr xs) ∧ St od xs ws H' ∧ (∀ t ∈ ws.map Prod.fst, NC G (rF rs) t) ∧ (∀ t ∈ (rs.map Prod.fst).take i, NC G (rF rs) t) ∧ (∀ t g, lkp ws t = some g → g ∈ (rs.map Prod.fst).take i)) ?_ ?_ ?_ ?_)
    · intro od xs H2 hx2 e2
      have hxx : H dr = some (NDO P w dr xs) := by rw [hx0, ← e1 _ _ hx0, hx2]
      have d1 : DW P w LvR (upd H1 dr (.frz od (NDO P w dr xs))) dw [] := ⟨[], by
        obtain ⟨ks, ⟨ys, g1, g2, g3⟩, g4⟩ := hw1.at_
        cases g4
        exact ⟨⟨ys, by rw [upd_ne hdd]; exact g1, g2, by cases g3; exact .nil⟩, .nil⟩⟩
      exact ⟨[], _, _, rfl, hxx, ⟨e2 _ _ upd_same, fun y o a _ h => e2 _ _ (by rw [upd_ne a]; exact h), d1.up lvR_d e2, List.nodup_nil, fun _ h => nomatch h⟩, fun _ h => (nomatch h), fun _ h => (nomatch h), fun _ _ h => nomatch h⟩
    · rintro od xs i σ' H' ⟨ws, z2, z3, rfl, hxx, S, _⟩
      exact ⟨S.1, fun b ys hb => klS S _ _ hb (.inl ⟨_, rfl⟩)⟩
    · rintro od xs i kv kb σ' H3 hkv hnk ⟨ws, z2, z3, rfl, hxx, S3, hnc, hncI, hval⟩
      obtain ⟨xr, hxr, hkv1, _⟩ := paired_at hkvs hkv
      have hnk := hkv1 ▸ hnk
      have hkb : LvH H3 kb xr.1 := nk_lv hnk
      have hfi : (rs.map Prod.fst)[i]? = some xr.1 := by rw [List.getElem?_map, hxr]; rfl
      have hti : (rs.map Prod.fst).take (i + 1) = (rs.map Prod.fst).take i ++ [xr.1] := by rw [List.take_add_one, hfi]; rfl
      have hfno : xr.1 ∉ (rs.map Prod.fst).take i := fun z => by
        obtain ⟨j, hj, hgj⟩ := List.mem_take_iff_getElem.mp z
        have hil : i < (rs.map Prod.fst).length := (List.getElem?_eq_some_iff.mp hfi).1
        have := List.pairwise_iff_getElem.mp hr2 j i (by omega) hil (by omega)
        exact this (hgj.trans (List.getElem?_eq_some_iff.mp hfi).2.symm)
      try dsimp only [List.set]
      refine q_asg (ev_var rfl) fun H4 e4 => ?_
      try dsimp only [List.set]
      have S4 := StUp e4 S3
      have hkb4 := hkb.up e4
      refine q_while (fun m σ' H' => ∃ ws' p s bs, σ' = [some (.ref x), some (.ref dw), some (.ref kb), some (.ref bs)] ∧ St od xs ws' H' ∧ Kl H4 H' ∧ LvH H' bs s ∧ RP G (rF rs) xr.1 p s ∧ (∀ t, lkp ws' t = if t ∈ p.map Prod.fst then some xr.1 else lkp ws t) ∧ m = rs.length - ws'.length) _ ⟨ws, [], xr.1, kb, rfl, S4, Kl.of (Ex.refl _), hkb4, .nil, fun t => by rw [if_neg (fun z => nomatch z)], rfl⟩ ?_
      rintro m σ' H5 ⟨ws', p, s, bs, rfl, S5, k5, hbs, rp, hlk, rfl⟩
      have WR5 := rinS hxx S5
      have hkb5 := hkb4.kl k5
      refine ⟨(lkp rs s).isSome && !(lkp ws' s).isSome, et_and (et_B (ev_din (ev_var rfl) (ev_fldR (ev_var rfl) WR5.obj T_Rings.cl T_Rings.n_raised rif_raised) naR_d WR5.ra hbs)) fun _ => et_B (ev_dni (ev_var rfl) (ev_var rfl) lvR_d S5.2.2.1.r hbs), fun hb H6 e6 => ?_, fun hb H6 e6 => ?_⟩
      · -- a step
        obtain ⟨hb1, hb2⟩ := Bool.and_eq_true_iff.mp hb
        obtain ⟨l, hl⟩ := Option.isSome_iff_exists.mp hb1
        have hnw : lkp ws' s = none := by cases hq : lkp ws' s with
          | none => rfl
          | some _ => rw [hq] at hb2; cases hb2
        obtain ⟨c, t, hG⟩ := hrs s l hl
        have hsr : s ∈ rs.map Prod.fst := by rw [lkp_some] at hb1; exact of_decide_eq_true hb1
        have hnk2 : s ∉ ws'.map Prod.fst := fun z => by
          have : (lkp ws' s).isSome = true := by rw [lkp_some]; exact decide_eq_true z
          rw [hnw] at this; cases this
        refine ⟨_, fun σ2 H2 h => h, ?_⟩
        refine q_nputR ?_
        refine (ev_var rfl) H6 (Ex.refl _) _ fun H7 e7 => (ev_var rfl) H7 (Ex.refl _) _ fun H8 e8 => (ev_var rfl) H8 (Ex.refl _) _ fun H9 e9 => ?_
        have e59 := ((e6.trans e7).trans e8).trans e9
        have S9 := StUp e59 S5
        obtain ⟨c1, c2, c3, c4, c5⟩ := id S9
        have hlen : ws'.length ≤ rs.length := by
          have := nodup_within c4 c5
          rwa [List.length_map, List.length_map] at this
        have hrl : rs.length ≤ 100000 := by
          have := nodup_within hr2 hr1
          rw [List.length_map] at this
          have := ok.many
          omega
        refine dw_put c3 (hbs.up e59) (a := xr.1) ⟨kb, rfl, hkb5.up e59⟩ (fun _ _ _ kk h => h.kl kk) (by omega) fun ys1 kl1 d1 => ?_
        have S10 : St od xs (putL ws' s xr.1) (upd H9 dw (NDO P w dw ys1)) := ⟨by rw [upd_ne hdd.symm]; exact c1, fun y o a b h => by rw [upd_ne b]; exact c2 y o a b h, d1, putL_nodup c4, fun t ht => (putL_mem.mp ht).elim (fun e => e ▸ hsr) (c5 t)⟩
        have k10 := (k5.trans (Kl.of e59)).trans kl1
        have hbs10 := (hbs.up e59).kl kl1
        generalize upd H9 dw (NDO P w dw ys1) = H10 at S10 k10 hbs10
        have WR10 := rinS hxx S10
        have hsp := hr1 _ hsr
        obtain ⟨v2, hv2, la, ls, rfl, hls, hpl⟩ := ev_dget (P := P) (w := w) (σ := [some (.ref x), some (.ref dw), some (.ref kb), some (.ref bs)]) (td := tFld K (tVar 0) "links") (ty := tVar 3) psH_d (ev_fldR (ev_var rfl) WR10.obj T_Rings.cl T_Rings.n_links rif_links) (ev_var rfl) WR10.ln hbs10 (lkp_fun hsp)
        obtain ⟨v3, hv3, rfl⟩ := ev_dget (P := P) (w := w) (σ := [some (.ref x), some (.ref dw), some (.ref kb), some (.ref bs)]) (td := tFld K (tVar 0) "raised") (ty := tVar 3) naR_d (ev_fldR (ev_var rfl) WR10.obj T_Rings.cl T_Rings.n_raised rif_raised) (ev_var rfl) WR10.ra hbs10 hl
        obtain ⟨w1, hw1', b1, bt, rfl, hb1', hbt⟩ := paired_get hpl hG
        refine s_asg (ev_ixT (ev_ixL hv2 hv3 (sq_of hls) (atI_nat' hw1')) ev_c (st_of hb1') rfl) fun H11 e11 => ?_
        refine ⟨rs.length - (putL ws' s xr.1).length, ?_, putL ws' s xr.1, p ++ [(s, l)], t, bt, rfl, StUp e11 S10, k10.trans (Kl.of e11), hbt.up e11, rp.app (.cons hl hG .nil), fun t' => ?_, rfl⟩
        · have h1 := nodup_within (S10.2.2.2.1) S10.2.2.2.2
          rw [List.length_map, List.length_map] at h1
          have h2 : (putL ws' s xr.1).length = ws'.length + 1 := by rw [putL_new hnk2, List.length_append]; rfl
          omega
        · have hm : t' ∈ (p ++ [(s, l)]).map Prod.fst ↔ t' ∈ p.map Prod.fst ∨ t' = s := by rw [List.map_append, List.mem_append, List.map_singleton, List.mem_singleton]
          rw [lkp_put, hlk t']
          by_cases z : t' = s
          · rw [if_pos z, if_pos (hm.mpr (.inr z))]
          · rw [if_neg z]
            by_cases z2 : t' ∈ p.map Prod.fst
            · rw [if_pos z2, if_pos (hm.mpr (.inl z2))]
            · rw [if_neg z2, if_neg fun g => (hm.mp g).elim z2 z]
      · -- the end of the walk
        have S6 := StUp e6 S5
        refine s_when (et_getLv (K := K) (ev_var rfl) (ev_var rfl) (ev_var rfl) S6.2.2.1 (hbs.up e6) (hkb5.up e6)) (fun hc H7 e7 => ?_) (fun hc H7 e7 => ?_)
        · -- a ring
          have hc := of_decide_eq_true hc
          have S7 := StUp e7 S6
          have hin : s ∈ p.map Prod.fst := by
            refine Classical.byContradiction fun z => ?_
            rw [hlk s, if_neg z] at hc
            exact hfno (hval _ _ hc)
          obtain ⟨p1, l, p2, hpp⟩ : ∃ p1 l p2, p = p1 ++ (s, l) :: p2 := by
            rcases split_first s p with g | ⟨p1, l, p2, e, _⟩
            · exact absurd hin g
            · exact ⟨p1, l, p2, e⟩
          obtain ⟨u0, ra1, ra2⟩ := RP.split (hpp ▸ rp)
          have hu0 : s = u0 := ra2.hd
          rw [← hu0] at ra2
          have WR7 := rinS hxx S7
          refine s_retQR (m_methR (ev_var rfl) WR7.obj rif_no_ring_from fun H8 e8 => ?_)
          refine (ea_cons (ev_var rfl) ea_nil : EvA (tCons (tVar 3) tNil) [some (.ref x), some (.ref dw), some (.ref kb), some (.ref bs)] H8 [.ref bs]) H8 (Ex.refl _) _ fun H9 e9 => ?_
          have e79 := e8.trans e9
          have S9 := StUp e79 S7
          refine ⟨x, dx, dl, dh, dr, bs, sp, G, rs, s, (s, l) :: p2, rfl, rinS hxx S9, ok, hrs, hr1, hbs.up (e6.trans (e7.trans e79)), ra2, fun z => (nomatch z), fun u q H10 hu e10 hrg hq hq1 hq2 => ?_⟩
          have S10 := StUp e10 S9
          obtain ⟨c1, c2, _⟩ := id S10
          have kf : Kl H10 (upd H10 dr (NDO P w dr xs)) := kl_frz c1
          have e11 : Ex H (upd H10 dr (NDO P w dr xs)) := fun y o hy => by
            by_cases z : y = dr
            · rw [z, upd_same, ← hxx, ← z]; exact hy
            · rw [upd_ne z]; exact c2 _ _ z (fun z => by rw [z, hdw] at hy; cases hy) (e1 _ _ hy)
          have hu0 : H u = none := by
            cases hq : H u with
            | none => rfl
            | some o =>
              exfalso
              by_cases z : u = dr
              · rw [z, S9.1] at hu; cases hu
              · rw [S9.2.1 _ _ z (fun z => by rw [z, hdw] at hq; cases hq) (e1 _ _ hq)] at hu; cases hu
          refine ⟨c1, k u q _ hu0 e11 ?_ (.inr ⟨s, hq, hq1, hq2⟩)⟩
          obtain ⟨vs, g1, g2⟩ := hrg
          exact ⟨vs, kf _ _ g1 (.inr ⟨_, rfl⟩), Paired.mapP g2 fun _ _ z => z.kl kf⟩
        · have hc := of_decide_eq_false hc
          have hns : s ∉ p.map Prod.fst := fun z => hc (by rw [hlk s, if_pos z])
          have ncs : NC G (rF rs) s := by
            cases hq : lkp rs s with
            | none => exact NC.fin hq
            | some l =>
              have h1 : (lkp ws' s).isSome = true := by
                rw [hq] at hb
                cases hw : lkp ws' s with
                | none => rw [hw] at hb; cases hb
                | some _ => rfl
              rw [hlk s, if_neg hns, lkp_some] at h1
              exact hnc s (of_decide_eq_true h1)
          have ncp : ∀ t ∈ p.map Prod.fst, NC G (rF rs) t := fun t ht => by
            rcases split_first t p with g | ⟨p1, l, p2, e, _⟩
            · exact absurd ht g
            · obtain ⟨u0, _, ra2⟩ := RP.split (e ▸ rp)
              have hu0 : t = u0 := ra2.hd
              rw [← hu0] at ra2
              exact NC.back ra2 ncs
          refine ⟨ws', _, _, rfl, hxx, StUp e7 S6, fun t ht => ?_, fun t ht => ?_, fun t g hg => ?_⟩
          · have h1 : (lkp ws' t).isSome = true := by rw [lkp_some]; exact decide_eq_true ht
            rw [hlk t] at h1
            by_cases z : t ∈ p.map Prod.fst
            · exact ncp t z
            · rw [if_neg z, lkp_some] at h1
              exact hnc t (of_decide_eq_true h1)
          · rw [hti] at ht
            rcases List.mem_append.mp ht with z | z
            · exact hncI t z
            · rw [List.mem_singleton.mp z]; exact NC.back rp ncs
          · rw [hti]
            rw [hlk t] at hg
            by_cases z : t ∈ p.map Prod.fst
            · rw [if_pos z] at hg
              cases hg
              exact List.mem_append_right _ List.mem_cons_self
            · rw [if_neg z] at hg
              exact List.mem_append_left _ (hval t g hg)
    · rintro od xs σ' H3 ⟨ws, z2, z3, rfl, hxx, ⟨s1, s2, s3, s4, s5⟩, hnc, hncI, hval⟩
      rw [hkl] at hncI
      have S3 : St od xs ws H3 := ⟨s1, s2, s3, s4, s5⟩
      have e3 : Ex H (upd H3 dr (NDO P w dr xs)) := fun y o hy => by
        by_cases z : y = dr
        · rw [z, upd_same, ← hxx, ← z]; exact hy
        · rw [upd_ne z]; exact s2 _ _ z (fun z => by rw [z, hdw] at hy; cases hy) (e1 _ _ hy)
      have no : NoRing G (rF rs) := noRing_of fun t ht => hncI t (by
        unfold rF at ht
        rw [lkp_some] at ht
        have := of_decide_eq_true ht
        rwa [List.take_of_length_le (by rw [List.length_map]; omega)])
      generalize upd H3 dr (NDO P w dr xs) = H4 at e3
      refine s_retQR (σ := []) (m_lstR (σ := []) (m_nilR (σ := []) ⟨Nat.zero_le _, fun u hu => ?_⟩))
      exact k u [] _ (fresh_back e3 hu) (e3.trans (Ex.new hu)) ⟨[], upd_same, .nil⟩ (.inl ⟨rfl, no⟩)
end
end Fm
set_option maxHeartbeats 1000000
namespace Fm
open PySem L2 Evl RZ
theorem rif_put_h {a b c v : V} : putF ("heights" : Str) v (rif a b c) = rif a v c := by kernel_rfl
theorem rif_put_r {a b c v : V} : putF ("raised" : Str) v (rif a b c) = rif a b v := by kernel_rfl
theorem iteT9 {p q : Prop} (h : p) : (if true = true then p else q) := by rw [if_pos rfl]; exact h
theorem iteF9 {p q : Prop} (h : q) : (if false = true then p else q) := by rw [if_neg (fun z => nomatch z)]; exact h
theorem hSum_le {sp : List Lv} {h : Lv → Int} {b : Int} (hb : ∀ s, h s ≤ b) : hSum sp h ≤ sp.length * b := by
  unfold hSum
  induction sp with
  | nil => simp
  | cons x sp ih =>
    rw [List.map_cons, List.sum_cons, List.length_cons]
    have := hb x
    have h2 : ((sp.length + 1 : Nat) : Int) * b = sp.length * b + b := by rw [Int.natCast_add, Int.add_mul]; simp
    rw [h2]
    omega
section
variable {K : PySem.W.Frag} {σ : L2.St} {H : Hp} {ta tv te : TE} {t : TT} {tu tz : TS} {D : Ends} {f : Str}
theorem q_fldSR (h : tv σ H fun y H1 => ta σ H1 fun x H2 => ∃ a C dx fs, x = .ref a ∧ H2 a = some (.ins C dx fs) ∧ Cls K C ∧ NoAttr K C f ∧ fs.length < 1000 ∧ tz D σ (upd H2 a (.ins C dx (putF f y fs)))) : tSeq (sFld K ta tv f) tz D σ H := h
theorem q_whileR (W : Nat → L2.St → Hp → Prop) (m0 : Nat) (h0 : W m0 σ H) (hs : ∀ m σ' H', W m σ' H' → t σ' H' fun b H1 => if b = true then ∃ N : L2.St → Hp → Prop, (∀ σ2 H2, N σ2 H2 → ∃ m', m' < m ∧ W m' σ2 H2) ∧ tu { D with nx := N, ct := N, bk := tz D } σ' H1 else tz D σ' H1) : tSeq (tWhile t tu) tz D σ H := ⟨W, ⟨m0, h0⟩, hs⟩
theorem s_asgU9 {i : Nat} (h : te σ H fun v H1 => D.nx (σ.set i (some v)) H1) : tAsg te (gName i) D σ H := h
end
def spLesser (P : Program) (w : World) (K : PySem.W.Frag) (C : Addr) : Sp := fun vs H Q _ => ∃ (x dx dl : Addr) (ht ra : V) (sp : List Lv) (G : Lv → List (Nat × Lv)) (tp lo : Nat), vs = [.ref x, .int (tp : Nat), .int (lo : Nat)] ∧ H x = some (.ins C dx (rif (.ref dl) ht ra)) ∧ DW P w PsH H dl (sp.map fun s => (s, G s)) ∧ Gok sp G ∧ tp ≤ 1000000 ∧ lo ≤ 1000000 ∧
  ∀ u q dh dr hs rs H', H u = none → (∀ y o, y ≠ x → H y = some o → H' y = some o) → RgH H' u q → RinF P w C H' x dx dl dh dr sp G hs rs → hs.map Prod.fst = sp → ((q = [] ∧ Calm sp G tp lo (hF hs) ∧ ∀ s, 0 ≤ hF hs s) ∨ ∃ s0, RP G (rF rs) s0 q s0 ∧ q ≠ [] ∧ (q.map Prod.fst).Nodup ∧ (∀ t ∈ q.map Prod.fst, t ∈ sp) ∧ 0 < wR G tp lo q) → Q (.ref u) H'
section
variable {P : Program} {w : World} {K : PySem.W.Frag} {σ : L2.St} {H : Hp} {td : TE} {d : Addr} {Q : VK}
theorem m_dcZero {α : Type} {R : V → α → Hp → Prop} {xs : List (Lv × α)} {j : Nat} {vs : List Nat} (h : DW P w R H d xs) (hnd : (xs.map Prod.fst).Nodup) (hm : xs.length ≤ 100000) (hl : ∀ od ys, Ev td σ (upd H d (.frz od (NDO P w d ys))) (.ref d)) (hw : ∀ x, wipe ((wipe σ vs).set j (some x)) vs = wipe σ vs) (he : ∀ (b : Addr) H1, Ev (tVar j) ((wipe σ vs).set j (some (.ref b))) H1 (.ref b))
    (q : ∀ D H', H D = none → Ex H H' → DW P w InR H' D ((xs.map Prod.fst).map fun s => (s, (0 : Int))) → Q (.ref D) H') : tLockE (tDcN P w (iKeysN P w td) (gName j) tYes (tVar j) (tC (.int 0)) vs) σ H Q := by
  obtain ⟨kvs, ⟨ys, hd, hz, rel⟩, hk⟩ := h.at_
  have hlen : ys.length = (xs.map Prod.fst).length := by rw [← Paired.length rel, Paired.length hk, List.length_map]
  refine ⟨d, _, hd, True.intro, fun od => ?_⟩
  refine hl od ys _ (Ex.refl _) _ fun H2 e2 => ⟨d, od, ys, rfl, e2 _ _ upd_same, fun D hD => ?_⟩
  have hDd : D ≠ d := fun z => by rw [z, e2 _ _ upd_same] at hD; cases hD
  have hD0 : H D = none := by
    cases hq : H D with
    | none => rfl
    | some o => rw [e2 _ _ (by rw [upd_ne hDd]; exact hq)] at hD; cases hD
  have base : ∀ y o, y ≠ d → H y = some o → H2 y = some o := fun y o hy ho => e2 _ _ (by rw [upd_ne hy]; exact ho)
  refine dcn_it walk_keysN (fun i H' => H' d = some (.frz od (NDO P w d ys)) ∧ (∀ y o, y ≠ d → H y = some o → H' y = some o) ∧ DW P w InR H' D (((xs.map Prod.fst).take i).map fun s => (s, (0 : Int)))) ⟨?_, ?_, ?_⟩ (fun i H' _ p => p.1) ?_ ?_
  · rw [upd_ne hDd.symm]; exact e2 _ _ upd_same
  · intro y o hy ho
    rw [upd_ne fun z => by rw [z, hD0] at ho; cases ho]
    exact base y o hy ho
  · exact ⟨[], ⟨[], upd_same, Nat.zero_le _, .nil⟩, .nil⟩
  · rintro i v Hx H3 hi ⟨p1, p2, p3⟩ ⟨rfl, e, hye, rfl⟩
    obtain ⟨kv, hkv, hke, ⟨hnk, _⟩, _⟩ := paired_get rel hye
    obtain ⟨x0, hx0, hk1, _⟩ := paired_at hk hkv
    have hf : (xs.map Prod.fst)[i]? = some x0.1 := by rw [List.getElem?_map, hx0]; rfl
    have ht : (xs.map Prod.fst).take (i + 1) = (xs.map Prod.fst).take i ++ [x0.1] := by rw [List.take_add_one, hf]; rfl
    have tup : ∀ b zs, H b = some (.tup zs) → H3 b = some (.tup zs) := fun b zs hb => p2 b _ (fun z => by rw [z, hd] at hb; unfold NDO at hb; cases hb) hb
    have hb : LvH H3 e.2.1 x0.1 := nk_lv (by rw [← hk1]; exact hnk.up tup)
    refine ⟨hw _, ?_⟩
    dsimp only [tYes]
    rw [if_pos rfl]
    refine he e.2.1 H3 _ (Ex.refl _) _ fun H5 e5 => ev_c H5 (Ex.refl _) _ fun H6 e6 => ?_
    have e36 := e5.trans e6
    obtain ⟨kvs', g1, g2⟩ := (p3.up inR_d e36).at_
    have hl2 := Paired.length g2
    rw [List.length_map, List.length_take] at hl2
    have hno : x0.1 ∉ ((((xs.map Prod.fst).take i).map fun s => (s, (0 : Int))).map Prod.fst) := fun z => by
      rw [List.map_map, show (Prod.fst ∘ fun s => (s, (0 : Int)) : Lv → Lv) = id from rfl, List.map_id] at z
      obtain ⟨j2, hj, hgj⟩ := List.mem_take_iff_getElem.mp z
      have hil : i < (xs.map Prod.fst).length := (List.getElem?_eq_some_iff.mp hf).1
      exact List.pairwise_iff_getElem.mp hnd j2 i (by omega) hil (by omega) (hgj.trans (List.getElem?_eq_some_iff.mp hf).2.symm)
    refine ⟨kvs', lvK x0.1, g1, (hb.up e36).nk, lvK_depth _, ⟨_, rfl⟩, by rw [sizeLine_eq]; rw [List.length_map] at hl2; omega, fun ys' g => ⟨?_, ?_, ?_⟩⟩
    · rw [upd_ne hDd.symm]; exact e36 _ _ p1
    · intro y o hy ho
      rw [upd_ne fun z => by rw [z, hD0] at ho; cases ho]
      exact e36 _ _ (p2 y o hy ho)
    · rw [ht, List.map_append, List.map_singleton, ← putL_new hno]
      exact ⟨_, g, dpr_put (Paired.mapP g2 fun _ _ z => ⟨z.1, inR_any z.2⟩) rfl⟩
  · rintro H3 ⟨p1, p2, p3⟩
    refine ⟨p1, ?_⟩
    rw [hlen, List.take_length] at p3
    have kf : Kl H3 (upd H3 d (NDO P w d ys)) := kl_frz p1
    refine q D _ hD0 (fun y o ho => ?_) (p3.kl (fun _ _ h => inR_any h) kf fun o h => by rw [upd_ne hDd]; exact h)
    by_cases z : y = d
    · rw [z, upd_same, ← hd, ← z]; exact ho
    · rw [upd_ne z]; exact p2 y o z ho
end
section
variable {P : Program} {w : World} {K : PySem.W.Frag} {mg : Str → Option Value} {base : Heap} {C : Addr}
abbrev s_Rings_lesser : Stmt := inClass (top 22) 4
theorem sc_Rings_lesser : FnScope ["self", "top", "low", "ring", "spot"] ["self", "top", "low"] (defScope s_Rings_lesser) := ⟨rfl, rfl, rfl, by decide +kernel, rfl, by decide +kernel, by decide +kernel⟩
theorem ok_lesser {f f1 f2 : Addr} {fd fd1 fd2 : FuncData} (F : Fun K "lesser" "Rings.lesser" s_Rings_lesser f fd) (T : Txt K mg) (T_Rings : RinT K C) (M_Rings_raise_once : MCal P w K mg base C 1 "raise_once" f1 fd1 ["self", "top", "low"] (spRaise P w K C)) (M_Rings_ring_raised : MCal P w K mg base C 2 "ring_raised" f2 fd2 ["self"] (spRingR P w K C)) : FnOk P w K mg base CX0 3 f fd ["self", "top", "low"] (spLesser P w K C) := by
  refine F.ok sc_Rings_lesser (fun vs H Q E h => ?_) (fun cdv A outer s H vs Q E hr h => ?_)
  · obtain ⟨_, _, _, _, _, _, _, _, _, rfl, _⟩ := h
    rfl
  · obtain ⟨x, dx, dl, ht, ra, sp, G, tp, lo, rfl, hx, hln, ok, htp, hlo, k⟩ := h
    refine ⟨_, (pss_cons (ps_fld (pv 0) (pe_lock (dcN_K (P := P) (w := w) rfl rfl hr.units (own := [("spot", 4)]) (g := gName 4) rfl sc_Rings_lesser.nd (keysN_K (P := P) (w := w) rfl rfl (fld_KR (K := K) rfl (pv 0) rfl)) (blkOk_by (by kernel_rfl)) (fun _ _ _ _ _ => pg_name (i := 4) sc_Rings_lesser.nd rfl (by first | exact Or.inl rfl | exact Or.inr rfl)) (fun _ _ _ _ _ => pts_nil) (fun _ _ _ _ _ => (pv 4)) (fun _ _ _ _ _ => pe_int))) rfl)
  (pss_cons (ps_fld (pv 0) (nnew_K (P := P) (w := w) rfl rfl) rfl)
  (pss_cons (ps_set (i := 3) sc_Rings_lesser.nd rfl (Or.inl rfl) (pe_lst pa_nil))
  (pss_cons (ps_while PassesOwn.never (PW.pt (pw_and (pt_not (pt_truthK (K := K) rfl (pv 3) (by intro _; rfl))) (pw_and1 (pt_truthK (K := K) rfl (pe_meth (pv 0) T_Rings.cl M_Rings_raise_once.m M_Rings_raise_once.G (hr.mono (by first | decide | omega)) M_Rings_raise_once.b .nil pass0 (pa_cons (pv 1) (pa_cons (pv 2) pa_nil))) (by intro _; rfl))))) (pss_one (ps_set (i := 3) sc_Rings_lesser.nd rfl (Or.inl rfl) (pe_meth0 (pv 0) T_Rings.cl M_Rings_ring_raised.m M_Rings_ring_raised.G (hr.mono (by first | decide | omega)) M_Rings_ring_raised.b .nil pass0))))
  (pss_one (ps_ret (pv 3))))))), ?_⟩
    have hkeys : (sp.map fun s => (s, G s)).map Prod.fst = sp := by rw [List.map_map]; exact List.map_id' sp
    refine q_fldSR ?_
    refine m_dcZero hln (by rw [hkeys]; exact ok.nd) (by rw [List.length_map]; exact ok.many) (fun od ys => ev_fldR (ev_var rfl) (by
      rw [upd_ne fun z => ?_]
      · exact hx
      · obtain ⟨_, ⟨zs, g, _⟩, _⟩ := hln.at_
        rw [← z, hx] at g
        unfold NDO at g
        cases g) T_Rings.cl T_Rings.n_links rif_links) (fun x => rfl) (fun b H1 => ev_var rfl) fun dh H1 hdh e1 d1 => ?_
    rw [hkeys] at d1
    refine (ev_var rfl) H1 (Ex.refl _) _ fun H2 e2 => ⟨x, C, dx, _, rfl, (e1.trans e2) _ _ hx, T_Rings.cl, T_Rings.n_heights, by show 3 < 1000; decide, ?_⟩
    rw [rif_put_h]
    have e02 := e1.trans e2
    have hx2 := e02 _ _ hx
    have b3 : ∀ y o, y ≠ x → H2 y = some o → upd H2 x (.ins C dx (rif (.ref dl) (.ref dh) ra)) y = some o := fun y o hy ho => by rw [upd_ne hy]; exact ho
    have x3 : upd H2 x (.ins C dx (rif (.ref dl) (.ref dh) ra)) x = some (.ins C dx (rif (.ref dl) (.ref dh) ra)) := upd_same
    generalize upd H2 x (.ins C dx (rif (.ref dl) (.ref dh) ra)) = H3 at b3 x3 ⊢
    refine q_fldSR ?_
    refine fun dr hdr => ?_
    have e4 := Ex.new (o := NDO P w dr []) hdr
    have d4 : DW P w NaR (upd H3 dr (NDO P w dr [])) dr [] := ⟨[], ⟨[], upd_same, Nat.zero_le _, .nil⟩, .nil⟩
    generalize upd H3 dr (NDO P w dr []) = H4 at e4 d4 ⊢
    refine (ev_var rfl) H4 (Ex.refl _) _ fun H5 e5 => ⟨x, C, dx, _, rfl, e5 _ _ (e4 _ _ x3), T_Rings.cl, T_Rings.n_raised, by show 3 < 1000; decide, ?_⟩
    rw [rif_put_r]
    have b6 : ∀ y o, y ≠ x → H5 y = some o → upd H5 x (.ins C dx (rif (.ref dl) (.ref dh) (.ref dr))) y = some o := fun y o hy ho => by rw [upd_ne hy]; exact ho
    have x6 : upd H5 x (.ins C dx (rif (.ref dl) (.ref dh) (.ref dr))) x = some (.ins C dx (rif (.ref dl) (.ref dh) (.ref dr))) := upd_same
    have k23 : Kl H2 H3 := fun y o hy ho => b3 y o (fun z => by
      rw [z, hx2] at hy; cases hy; rcases ho with ⟨_, e⟩ | ⟨_, e⟩ <;> cases e) hy
    have k56 : Kl H5 (upd H5 x (.ins C dx (rif (.ref dl) (.ref dh) (.ref dr)))) := fun y o hy ho => b6 y o (fun z => by
      rw [z, e5 _ _ (e4 _ _ x3)] at hy; cases hy; rcases ho with ⟨_, e⟩ | ⟨_, e⟩ <;> cases e) hy
    generalize upd H5 x (.ins C dx (rif (.ref dl) (.ref dh) (.ref dr))) = H6 at b6 x6 k56 ⊢
    have b06 : ∀ y o, y ≠ x → H y = some o → H6 y = some o := fun y o hy ho => b6 y o hy (e5 _ _ (e4 _ _ (b3 y o hy (e02 _ _ ho))))
    have hdx : ∀ {R : V → Int → Hp → Prop}, dh ≠ x := fun {R} z => by rw [z, hx] at hdh; cases hdh
    have k06 : Kl H H6 := (((Kl.of e02).trans k23).trans (Kl.of (e4.trans e5))).trans k56
    have nx : ∀ {α : Type} {R : V → α → Hp → Prop} {H' : Hp} {d : Addr} {xs : List (Lv × α)} {fs : List (Str × V)}, DW P w R H' d xs → H' x = some (.ins C dx fs) → d ≠ x := fun ⟨_, ⟨ys, g, _⟩, _⟩ h z => by rw [z, h] at g; unfold NDO at g; cases g
    have dh2 := d1.up inR_d e2
    have dh3 : DW P w InR H3 dh (sp.map fun s => (s, (0 : Int))) := dh2.kl (fun _ _ h => inR_any h) k23 fun o h => b3 _ _ (nx dh2 hx2) h
    have hne2 : dh ≠ dr := fun z => by obtain ⟨_, ⟨ys, g, _⟩, _⟩ := dh3.at_; rw [z, hdr] at g; cases g
    have ln2 := hln.up psH_d e02
    have ln3 : DW P w PsH H3 dl (sp.map fun s => (s, G s)) := ln2.kl (fun _ _ h => h.kl k23) k23 fun o h => b3 _ _ (nx ln2 hx2) h
    have hne3 : dl ≠ dr := fun z => by obtain ⟨_, ⟨ys, g, _⟩, _⟩ := ln3.at_; rw [z, hdr] at g; cases g
    have hne1 : dl ≠ dh := fun z => by obtain ⟨_, ⟨ys, g, _⟩, _⟩ := hln.at_; rw [z, hdh] at g; cases g
    have x5 := e5 _ _ (e4 _ _ x3)
    have ln5 := ln3.up psH_d (e4.trans e5)
    have dh5 := dh3.up inR_d (e4.trans e5)
    have dr5 := d4.up naR_d e5
    have W6 : RinF P w C H6 x dx dl dh dr sp G (sp.map fun s => (s, (0 : Int))) [] := ⟨x6, ln5.kl (fun _ _ h => h.kl k56) k56 fun o h => b6 _ _ (nx ln5 x5) h, dh5.kl (fun _ _ h => inR_any h) k56 fun o h => b6 _ _ (nx dh5 x5) h, dr5.kl (fun _ _ h => naR_any h) k56 fun o h => b6 _ _ (nx dr5 x5) h, hne1, hne3, hne2⟩
    have hdr0 : H dr = none := by
      cases hq : H dr with
      | none => rfl
      | some o =>
        by_cases z : dr = x
        · rw [z, x3] at hdr; cases hdr
        · rw [b3 _ _ z (e02 _ _ hq)] at hdr; cases hdr
    have hF0 : hF (sp.map fun s => (s, (0 : Int))) = fun _ => 0 := funext fun t => by
      unfold hF
      cases hq : lkp (sp.map fun s => (s, (0 : Int))) t with
      | none => rfl
      | some v =>
        have : t ∈ sp := by
          have h1 : (lkp (sp.map fun s => (s, (0 : Int))) t).isSome = true := by rw [hq]; rfl
          rw [lkp_some, List.map_map] at h1
          have := of_decide_eq_true h1
          rwa [show (Prod.fst ∘ fun s => (s, (0 : Int)) : Lv → Lv) = id from rfl, List.map_id] at this
        rw [lkp_fun this] at hq
        cases hq
        rfl
    have I6 : RInv G tp lo (hF (sp.map fun s => (s, (0 : Int)))) (rF []) := by rw [hF0]; exact RInv.new G tp lo
    refine q_asgL (xs := []) (el_lst ea_nil (Nat.zero_le _)) fun u H7 hu e7 hu7 => ?_
    try dsimp only [List.set]
    have hu0 : H u = none := by
      cases hq : H u with
      | none => rfl
      | some o =>
        by_cases z : u = x
        · rw [z, x6] at hu; cases hu
        · rw [b06 _ _ z hq] at hu; cases hu
    have hks : (sp.map fun s => (s, (0 : Int))).map Prod.fst = sp := by rw [List.map_map]; exact List.map_id' sp
    refine q_whileR (fun m σ' H' => ∃ u q hs rs z4, σ' = [some (.ref x), some (.int (tp : Nat)), some (.int (lo : Nat)), some (.ref u), z4] ∧ (∀ y o, y ≠ x → H y = some o → H' y = some o) ∧ H u = none ∧ RgH H' u q ∧ RinF P w C H' x dx dl dh dr sp G hs rs ∧ hs.map Prod.fst = sp ∧ (∀ s ∈ rs.map Prod.fst, s ∈ sp) ∧ (rs.map Prod.fst).Nodup ∧ RInv G tp lo (hF hs) (rF rs) ∧ RgOk G (rF rs) q ∧ m = if q = [] then ((sp.length : Int) * (sp.length * tp) - hSum sp (hF hs)).toNat + 1 else 0) _ ⟨u, [], _, _, _, rfl, fun y o hy ho => e7 _ _ (b06 y o hy ho), hu0, ⟨[], hu7, .nil⟩, W6.up e7, hks, fun _ h => (nomatch h), List.nodup_nil, I6, .inl ⟨rfl, fun s p a => by
      cases a with
      | nil => rfl
      | cons h1 _ _ => cases h1⟩, rfl⟩ ?_
    clear W6 I6 hF0 hu7 hu hu0 e7 ln2 ln3 ln5 dh2 dh3 dh5 dr5 d4 d1 k06 b06 k56 x6 b6 x5 e5 k23 e4 hks
    rintro m σ' H8 ⟨u, q, hs, rs, z4, rfl, bu, hu, hrg, W, hk, hr1, hr2, I, hq, rfl⟩
    obtain ⟨vs, hvs, hpv⟩ := id hrg
    refine (et_not (et_is (et_truL (ev_var rfl) (sq_of hvs)) (by rw [paired_em hpv]))) H8 (Ex.refl _) _ fun H9 e9 => ?_
    have bu9 : ∀ y o, y ≠ x → H y = some o → H9 y = some o := fun y o hy ho => e9 _ _ (bu y o hy ho)
    cases q with
    | cons y0 q0 =>
      refine iteF9 ?_
      refine iteF9 ?_
      refine s_ret (ev_var rfl) fun H10 e10 => ?_
      rcases hq with ⟨z, _⟩ | ⟨s0, r1, r2, r3⟩
      · cases z
      · exact k u _ dh dr hs rs H10 hu (fun y o hy ho => e10 _ _ (bu9 y o hy ho)) (hrg.up (e9.trans e10)) (W.up (e9.trans e10)) hk (.inr ⟨s0, r1, r2, r3, fun t ht => hr1 t (by
          have := r1.src t ht
          unfold rF at this
          rw [lkp_some] at this
          exact of_decide_eq_true this), I.cyc s0 _ r1 r2⟩)
    | nil =>
      have hno : NoRing G (rF rs) := by
        rcases hq with ⟨_, h⟩ | ⟨_, _, h, _⟩
        · exact h
        · exact absurd rfl h
      refine iteT9 ?_
      refine m_methR (ev_var rfl) (W.up e9).obj rif_no_raise_once fun H10 e10 => ?_
      refine (ea_cons (ev_var rfl) (ea_cons (ev_var rfl) ea_nil) : EvA (tCons (tVar 1) (tCons (tVar 2) tNil)) [some (.ref x), some (.int (tp : Nat)), some (.int (lo : Nat)), some (.ref u), z4] H10 [.int (tp : Nat), .int (lo : Nat)]) H10 (Ex.refl _) _ fun H11 e11 => ?_
      have e811 := e9.trans (e10.trans e11)
      refine ⟨x, dx, dl, dh, dr, sp, G, hs, rs, tp, lo, rfl, W.up e811, ok, hk, hr1, hr2, htp, hlo, I, fun c hs' rs' H12 b12 W12 hk' hr1' hr2' I' hup hcalm => ⟨c, rfl, ?_⟩⟩
      have bu12 : ∀ y o, y ≠ x → H y = some o → H12 y = some o := fun y o hy ho => b12 y o (fun z => by rw [z, hdh] at ho; cases ho) (fun z => by rw [z, hdr0] at ho; cases ho) (fun z => by rw [z, hdr0] at ho; cases ho) (e811 _ _ (bu y o hy ho))
      cases c with
      | true =>
        refine iteT9 ⟨_, fun _ _ h => h, ?_⟩
        refine s_asgU9 (m_methR (ev_var rfl) W12.obj rif_no_ring_raised fun H13 e13 => m_nilR ?_)
        refine ⟨x, dx, dl, dh, dr, sp, G, hs', rs', rfl, W12.up e13, ok, fun s l hl => let ⟨c, t, g, _⟩ := I'.ok s l hl; ⟨c, t, g⟩, hr1', hr2', fun u' q' H14 hu' e14 hrg' hq' => ?_⟩
        have bu14 : ∀ y o, y ≠ x → H y = some o → H14 y = some o := fun y o hy ho => e14 _ _ (e13 _ _ (bu12 y o hy ho))
        refine ⟨_, ?_, u', q', hs', rs', _, rfl, bu14, ?_, hrg', W12.up (e13.trans e14), hk', hr1', hr2', I', hq', rfl⟩
        · cases q' with
          | cons _ _ => rw [if_neg (fun z => nomatch z), if_pos rfl]; omega
          | nil =>
            rw [if_pos rfl, if_pos rfl]
            have hno' : NoRing G (rF rs') := by
              rcases hq' with ⟨_, h⟩ | ⟨_, _, h, _⟩
              · exact h
              · exact absurd rfl h
            have hb : hSum sp (hF hs') ≤ (sp.length : Int) * (sp.length * tp) := hSum_le fun s => I'.bound hno' (Int.natCast_nonneg _) (Int.natCast_nonneg _) (fun t ht => hr1' t (by
              unfold rF at ht
              rw [lkp_some] at ht
              exact of_decide_eq_true ht)) s
            have := hup rfl
            omega
        · cases hz : H u' with
          | none => rfl
          | some o =>
            by_cases z : u' = x
            · rw [z, (W12.up e13).obj] at hu'; cases hu'
            · rw [e13 _ _ (bu12 _ _ z hz)] at hu'; cases hu'
      | false =>
        refine iteF9 ?_
        refine s_ret (ev_var rfl) fun H13 e13 => ?_
        refine k u [] dh dr hs' rs' H13 hu (fun y o hy ho => e13 _ _ (bu12 y o hy ho)) ?_ (W12.up e13) hk' (.inl ⟨rfl, hcalm rfl, I'.pos⟩)
        obtain ⟨ws, g1, g2⟩ := hrg
        cases g2
        have hudh : u ≠ dh := fun z => by obtain ⟨_, ⟨ys, g, _⟩, _⟩ := W.ht.at_; rw [← z, g1] at g; unfold NDO at g; cases g
        have hudr : u ≠ dr := fun z => by obtain ⟨_, ⟨ys, g, _⟩, _⟩ := W.ra.at_; rw [← z, g1] at g; unfold NDO at g; cases g
        exact ⟨[], e13 _ _ (b12 u _ hudh hudr hudr (e811 _ _ g1)), .nil⟩
end
end Fm
set_option maxHeartbeats 1000000
namespace Fm
open PySem L2 Evl RZ
inductive CP (G : Lv → List (Nat × Lv)) : Lv → List (Lv × Nat) → Lv → Prop where
  | nil {s : Lv} : CP G s [] s
  | cons {s t e : Lv} {l c : Nat} {p : List (Lv × Nat)} : (G s)[l]? = some (c, t) → CP G t p e → CP G s ((s, l) :: p) e
section
variable {G : Lv → List (Nat × Lv)} {r : Lv → Option Nat} {sp : List Lv} {tp lo : Int} {h : Lv → Int}
theorem RP.cp {s e : Lv} {p : List (Lv × Nat)} (a : RP G r s p e) : CP G s p e := by
  induction a with
  | nil => exact .nil
  | cons _ h2 _ ih => exact .cons h2 ih
theorem CP.calm (ok : Gok sp G) (hc : Calm sp G tp lo h) {s e : Lv} {p : List (Lv × Nat)} (a : CP G s p e) (hs : s ∈ sp) : h e + wR G tp lo p ≤ h s ∧ e ∈ sp := by
  induction a with
  | nil => exact ⟨by rw [wR_nil]; omega, hs⟩
  | @cons s t e l c p h1 _ ih =>
    have hm := List.mem_of_getElem? h1
    obtain ⟨g1, g2⟩ := ih (ok.tg s hs _ hm)
    have := hc s hs _ hm
    rw [wR_cons, cnR_of h1]
    exact ⟨by simp only at this; omega, g2⟩
end
def cntR (G : Lv → List (Nat × Lv)) (q : List (Lv × Nat)) : Nat := (q.map (cnR G)).sum
theorem wR_cnt {G : Lv → List (Nat × Lv)} {tp lo : Int} (q : List (Lv × Nat)) : wR G tp lo q = q.length * tp - lo * (cntR G q : Int) := by
  induction q with
  | nil => rw [wR_nil]; unfold cntR; simp
  | cons x q ih =>
    rw [wR_cons, ih]
    unfold cntR
    rw [List.map_cons, List.sum_cons, List.length_cons, Int.natCast_add, Int.natCast_add, Int.add_mul, Int.mul_add]
    simp
    omega
def fctR : Nat → Nat
  | 0 => 1
  | n + 1 => (n + 1) * fctR n
theorem fctR_pos : ∀ n, 0 < fctR n
  | 0 => by decide
  | n + 1 => Nat.mul_pos (Nat.succ_pos n) (fctR_pos n)
theorem dvd_fctR : ∀ {n k : Nat}, 0 < k → k ≤ n → k ∣ fctR n
  | 0, k, h, g => by omega
  | n + 1, k, h, g => by
    by_cases e : k = n + 1
    · rw [e]; exact Nat.dvd_mul_right _ _
    · exact Nat.dvd_trans (dvd_fctR h (by omega)) (Nat.dvd_mul_left _ _)
theorem ratio_less {N t l t' l' : Nat} (hN : 0 < N) (hl : l ∣ N) (hl' : l' ∣ N) (h : t' * l < t * l') : t' * (N / l') < t * (N / l) := by
  obtain ⟨a, ha⟩ := hl
  obtain ⟨b, hb⟩ := hl'
  have pl : 0 < l := Nat.pos_of_ne_zero fun z => by rw [z, Nat.zero_mul] at ha; omega
  have pl' : 0 < l' := Nat.pos_of_ne_zero fun z => by rw [z, Nat.zero_mul] at hb; omega
  have e1 : N / l = a := by rw [ha]; exact Nat.mul_div_cancel_left a pl
  have e2 : N / l' = b := by rw [hb]; exact Nat.mul_div_cancel_left b pl'
  have pa : 0 < a := Nat.pos_of_ne_zero fun z => by rw [z, Nat.mul_zero] at ha; omega
  rw [e1, e2]
  refine Nat.lt_of_mul_lt_mul_left (a := l) ?_
  have h1 : l * (t' * b) = (t' * l) * b := by rw [Nat.mul_comm t' l, Nat.mul_assoc]
  have h2 : l * (t * a) = (t * l') * b := by rw [Nat.mul_left_comm, ← ha, Nat.mul_assoc, ← hb]
  rw [h1, h2]
  refine Nat.mul_lt_mul_of_pos_right h ?_
  exact Nat.pos_of_ne_zero fun z => by rw [z, Nat.mul_zero] at hb; omega
theorem CP.cnt {G : Lv → List (Nat × Lv)} {sp : List Lv} (ok : Gok sp G) {s e : Lv} {p : List (Lv × Nat)} (a : CP G s p e) (hs : s ∈ sp) : cntR G p ≤ p.length := by
  induction a with
  | nil => exact Nat.zero_le _
  | @cons s t e l c p h1 _ ih =>
    have hm := List.mem_of_getElem? h1
    have h2 := ok.one s hs _ hm
    have h3 := ih (ok.tg s hs _ hm)
    unfold cntR at h3 ⊢
    rw [List.map_cons, List.sum_cons, cnR_of h1, List.length_cons]
    simp only at h2
    omega
theorem CP.at_ {G : Lv → List (Nat × Lv)} {sp : List Lv} (ok : Gok sp G) {s e : Lv} {p : List (Lv × Nat)} (a : CP G s p e) (hs : s ∈ sp) : ∀ x ∈ p, x.1 ∈ sp ∧ ∃ t, (G x.1)[x.2]? = some (cnR G x, t) := by
  induction a with
  | nil => exact fun _ z => nomatch z
  | @cons s t e l c p h1 _ ih =>
    intro x hx
    rcases List.mem_cons.mp hx with rfl | hx
    · exact ⟨hs, t, by rw [cnR_of h1]; exact h1⟩
    · exact ih (ok.tg s hs _ (List.mem_of_getElem? h1)) x hx
theorem sum_castR (l : List Nat) : (l.map fun (n : Nat) => (n : Int)).sum = ((l.sum : Nat) : Int) := by
  induction l with
  | nil => rfl
  | cons x l ih => rw [List.map_cons, List.sum_cons, List.sum_cons, ih, Int.natCast_add]
theorem ev_sumR {K : PySem.W.Frag} {σ : L2.St} {H : Hp} {ta : TE} {a : Addr} {ns : List Int} (ha : Ev ta σ H (.ref a)) (h : SqL K H a (ns.map V.int)) : Ev (tCB (rSum K) (tCons ta tNil)) σ H (.int ns.sum) := fun H1 e Q q => ha H1 e _ fun H2 e2 => ⟨a, ns, rfl, ex_l (e.trans e2) h, q H2 e2⟩
theorem m_lcLR {K : PySem.W.Frag} {σ : L2.St} {H : Hp} {tl te : TE} {g : TG} {tt : TT} {vs : List Nat} {a : Addr} {xs : List V} {Q : VK} (ha : Ev tl σ H (.ref a)) (hx : SqL K H a xs) (Pv : Addr → Nat → Hp → Prop) (h0 : ∀ D H1, Ex H H1 → H1 D = none → Pv D 0 (upd H1 D (.lst []))) (hl : ∀ D i H', i ≤ xs.length → Pv D i H' → SqL K H' a xs)
    (hs : ∀ D i x H', xs[i]? = some x → Pv D i H' → g x (wipe σ vs) H' fun σ2 H2 => wipe σ2 vs = wipe σ vs ∧ tt σ2 H2 fun b H3 => if b = true then te σ2 H3 fun y H4 => ∃ acc, H4 D = some (.lst acc) ∧ acc.length < sizeLine ∧ Pv D (i + 1) (upd H4 D (.lst (acc ++ [y]))) else Pv D (i + 1) H3) (hd : ∀ D H', Pv D xs.length H' → Q (.ref D) H') : tLc (iList K tl) g tt te vs σ H Q :=
  ha H (Ex.refl H) _ fun H1 e => ⟨a, rfl, ⟨xs, ex_l e hx⟩, fun D hD => lc_list (Pv D) (h0 D H1 e hD) (hl D) (hs D) (hd D)⟩
def RtoOk (sp : List Lv) (G : Lv → List (Nat × Lv)) (q : List (Lv × Nat)) (tp lo : Nat) : Prop := (tp = 2 ∧ lo = 1) ∨ ∃ s1, CP G s1 q s1 ∧ q ≠ [] ∧ s1 ∈ sp ∧ tp = cntR G q / Nat.gcd (cntR G q) q.length ∧ lo = q.length / Nat.gcd (cntR G q) q.length ∧ q.length ≤ sp.length
def spLeastR (P : Program) (w : World) (K : PySem.W.Frag) (C : Addr) : Sp := fun vs H Q _ => ∃ (x dx dl : Addr) (ht ra : V) (sp : List Lv) (G : Lv → List (Nat × Lv)) (s0 : Lv) (p0 : List (Lv × Nat)), vs = [.ref x] ∧ H x = some (.ins C dx (rif (.ref dl) ht ra)) ∧ DW P w PsH H dl (sp.map fun s => (s, G s)) ∧ Gok sp G ∧ CP G s0 p0 s0 ∧ p0 ≠ [] ∧ s0 ∈ sp ∧
  ∀ t a u q s1 (tp lo : Nat) dh dr hs rs H', (∀ y o, y ≠ x → H y = some o → H' y = some o) → H' t = some (.tup [.ref a, .ref u]) → H' a = some (.tup [.int (tp : Nat), .int (lo : Nat)]) → RgH H' u q → CP G s1 q s1 → q ≠ [] → tp = cntR G q / Nat.gcd (cntR G q) q.length → lo = q.length / Nat.gcd (cntR G q) q.length → RinF P w C H' x dx dl dh dr sp G hs rs → hs.map Prod.fst = sp → Calm sp G tp lo (hF hs) → (∀ s, 0 ≤ hF hs s) → s1 ∈ sp → q.length ≤ sp.length → Q (.ref t) H'
section
variable {P : Program} {w : World} {K : PySem.W.Frag} {mg : Str → Option Value} {base : Heap} {C : Addr}
abbrev s_Rings_least : Stmt := inClass (top 22) 5
theorem sc_Rings_least : FnScope ["self", "ratio", "best", "ring", "counts", "spot", "link"] ["self"] (defScope s_Rings_least) := ⟨rfl, rfl, rfl, by decide +kernel, rfl, by decide +kernel, by decide +kernel⟩
theorem ok_leastR {f f1 f2 : Addr} {fd fd1 fd2 : FuncData} (F : Fun K "least" "Rings.least" s_Rings_least f fd) (T : Txt K mg) (Z_sum : mg "sum" = none) (T_Rings : RinT K C) (M_Rings_lesser : MCal P w K mg base C 3 "lesser" f1 fd1 ["self", "top", "low"] (spLesser P w K C)) (C_ratio_of : Cal P w K mg base CX0 1 "ratio_of" f2 fd2 ["top", "low"] (spRat K)) : FnOk P w K mg base CX0 4 f fd ["self"] (spLeastR P w K C) := by
  refine F.ok sc_Rings_least (fun vs H Q E h => ?_) (fun cdv A outer s H vs Q E hr h => ?_)
  · obtain ⟨_, _, _, _, _, _, _, _, _, rfl, _⟩ := h
    rfl
  · obtain ⟨x, dx, dl, ht, ra, sp, G, s0, p0, rfl, hx, hln, ok, hc0, hp0, hs0, k⟩ := h
    refine ⟨_, (pss_cons (ps_set (i := 1) sc_Rings_least.nd rfl (Or.inl rfl) (pe_tup (pa_cons pe_int (pa_cons pe_int pa_nil))))
  (pss_cons (ps_set (i := 2) sc_Rings_least.nd rfl (Or.inl rfl) (pe_lst pa_nil))
  (pss_cons (ps_set (i := 3) sc_Rings_least.nd rfl (Or.inl rfl) (pe_meth (pv 0) T_Rings.cl M_Rings_lesser.m M_Rings_lesser.G (hr.mono (by first | decide | omega)) M_Rings_lesser.b .nil pass0 (pa_cons (pe_ix (ix_K (K := K) rfl) (pv 1) pe_int (fun _ _ => rfl)) (pa_cons (pe_ix (ix_K (K := K) rfl) (pv 1) pe_int (fun _ _ => rfl)) pa_nil))))
  (pss_cons (ps_while PassesOwn.never (pt_truthK (K := K) rfl (pv 3) (by intro _; rfl)) (pss_cons (ps_set (i := 2) sc_Rings_least.nd rfl (Or.inl rfl) (pv 3))
  (pss_cons (ps_setLc (i := 4) (own := [("spot", 5), ("link", 6)]) (g := gTup K 2 (gCons (gName 5) (gCons (gName 6) gNil))) rfl sc_Rings_least.nd rfl rfl (sw_true rfl rfl rfl (by decide +kernel)) (pi_listK (K := K) rfl (pv 3)) (blkOk_by (by kernel_rfl)) (fun _ _ _ _ _ => pg_tupK (K := K) rfl rfl (pgs_cons (pg_name (i := 5) sc_Rings_least.nd rfl (by first | exact Or.inl rfl | exact Or.inr rfl)) (pgs_cons (pg_name (i := 6) sc_Rings_least.nd rfl (by first | exact Or.inl rfl | exact Or.inr rfl)) pgs_nil))) (fun _ _ _ _ _ => pts_nil) (fun _ _ _ _ _ => (pe_ix (ix_K (K := K) rfl) (pe_ix (ix_K (K := K) rfl) (nget_K (P := P) (w := w) rfl rfl hr.units (fld_KR (K := K) rfl (pv 0) rfl) (pv 5) (fun _ _ => rfl)) (pv 6) (fun _ _ => rfl)) pe_int (fun _ _ => rfl))))
  (pss_cons (ps_set (i := 1) sc_Rings_least.nd rfl (Or.inl rfl) (pe_call C_ratio_of.G (hr.mono (by first | decide | omega)) rfl C_ratio_of.g C_ratio_of.kp C_ratio_of.b .nil pass0 (pa_cons (pe_callB (sum_K (K := K) rfl rfl) (by rfl) Z_sum (by decide +kernel) (pa_cons (pv 4) pa_nil)) (pa_cons (pe_callB (len_K (K := K) rfl) (by rfl) T.z_len (by decide +kernel) (pa_cons (pv 4) pa_nil)) pa_nil))))
  (pss_one (ps_set (i := 3) sc_Rings_least.nd rfl (Or.inl rfl) (pe_meth (pv 0) T_Rings.cl M_Rings_lesser.m M_Rings_lesser.G (hr.mono (by first | decide | omega)) M_Rings_lesser.b .nil pass0 (pa_cons (pe_ix (ix_K (K := K) rfl) (pv 1) pe_int (fun _ _ => rfl)) (pa_cons (pe_ix (ix_K (K := K) rfl) (pv 1) pe_int (fun _ _ => rfl)) pa_nil)))))))))
  (pss_one (ps_ret (pe_tup (pa_cons (pv 1) (pa_cons (pv 2) pa_nil))))))))), ?_⟩
    refine q_asgU (eu_tup (vs := [.int 2, .int 1]) (ea_cons ev_c (ea_cons ev_c ea_nil)) (show 2 ≤ 100000 by decide)) fun a1 H1 ha1 e1 ha11 => ?_
    refine q_asgL (xs := []) (el_lst ea_nil (Nat.zero_le _)) fun b1 H2 hb1 e2 hb12 => ?_
    try dsimp only [List.set]
    have e02 := e1.trans e2
    refine q_asgU9 ?_
    refine m_methR (ev_var rfl) (e02 _ _ hx) rif_no_lesser fun H3 e3 => ?_
    refine (ea_cons (ev_ixT (ev_var rfl) ev_c (st_of ((e2.trans e3) _ _ ha11)) rfl) (ea_cons (ev_ixT (ev_var rfl) ev_c (st_of ((e2.trans e3) _ _ ha11)) rfl) ea_nil) : EvA _ _ H3 [.int 2, .int 1]) H3 (Ex.refl _) _ fun H4 e4 => ?_
    have e04 := e02.trans (e3.trans e4)
    refine ⟨x, dx, dl, ht, ra, sp, G, 2, 1, rfl, e04 _ _ hx, hln.up psH_d e04, ok, by decide, by decide, fun u1 q1 dh dr hs rs H5 hu1 bu5 hrg5 W5 hk5 hq5 => ?_⟩
    have nxx : ∀ {y : Addr} {o : HO}, y ≠ x → H y = some o → H5 y = some o := fun {y o} hy ho => bu5 y o hy (e04 _ _ ho)
    have a1x : a1 ≠ x := fun z => by rw [z, hx] at ha1; cases ha1
    have b1x : b1 ≠ x := fun z => by rw [z, e1 _ _ hx] at hb1; cases hb1
    have hspl := ok.many
    try dsimp only [List.set]
    refine q_while (fun m σ' H' => ∃ a tp lo ub qb u q dh dr hs rs z4 z5 z6, σ' = [some (.ref x), some (.ref a), some (.ref ub), some (.ref u), z4, z5, z6] ∧ (∀ y o, y ≠ x → H y = some o → H' y = some o) ∧ H' a = some (.tup [.int (tp : Nat), .int (lo : Nat)]) ∧ RgH H' ub qb ∧ RgH H' u q ∧ RinF P w C H' x dx dl dh dr sp G hs rs ∧ hs.map Prod.fst = sp ∧ ((q = [] ∧ Calm sp G tp lo (hF hs) ∧ ∀ s, 0 ≤ hF hs s) ∨ ∃ s0, RP G (rF rs) s0 q s0 ∧ q ≠ [] ∧ (q.map Prod.fst).Nodup ∧ (∀ t ∈ q.map Prod.fst, t ∈ sp) ∧ 0 < wR G tp lo q) ∧ RtoOk sp G qb tp lo ∧ 0 < lo ∧ lo ≤ 100000 ∧ tp ≤ 100000 ∧ lo ∣ fctR sp.length ∧ m = tp * (fctR sp.length / lo)) _ ⟨a1, 2, 1, b1, [], u1, q1, dh, dr, hs, rs, _, _, _, rfl, fun y o hy ho => nxx hy ho, bu5 _ _ a1x ((e2.trans (e3.trans e4)) _ _ ha11), ⟨[], bu5 _ _ b1x ((e3.trans e4) _ _ hb12), .nil⟩, hrg5, W5, hk5, hq5, .inl ⟨rfl, rfl⟩, by decide, by decide, by decide, Nat.one_dvd _, rfl⟩ ?_
    clear hq5 hk5 W5 hrg5 hu1 bu5 nxx
    rintro m σ' H6 ⟨a, tp, lo, ub, qb, u, q, dh, dr, hs, rs, z4, z5, z6, rfl, bu, ha, hrb, hrg, W, hk, hq, hrt, hl0, hl1, ht1, hdv, rfl⟩
    obtain ⟨vs, hvs, hpv⟩ := id hrg
    refine ⟨!q.isEmpty, et_is (et_truL (ev_var rfl) (sq_of hvs)) (by rw [paired_em hpv]), fun hb H7 e7 => ?_, fun hb H7 e7 => ?_⟩
    · -- a lesser ring
      rcases hq with ⟨rfl, _⟩ | ⟨s1, r1, r2, r3, r4, r5⟩
      · cases hb
      have hs1 : s1 ∈ sp := by
        cases q with
        | nil => exact absurd rfl r2
        | cons y q' => exact r4 s1 (by rw [List.map_cons, r1.hd]; exact List.mem_cons_self)
      have rc := r1.cp
      have hcnt := rc.cnt ok hs1
      have hlen : q.length ≤ sp.length := by
        have := nodup_within r3 r4
        rwa [List.length_map] at this
      have hpos : 0 < q.length := List.length_pos_iff.mpr r2
      refine ⟨_, fun σ2 H2 h => h, ?_⟩
      refine q_asg (ev_var rfl) fun H8 e8 => ?_
      try dsimp only [List.set]
      have e68 := e7.trans e8
      refine q_asgU9 ?_
      have W8 := W.up e68
      obtain ⟨vs8, hvs8, hpv8⟩ := hrg.up e68
      have hat := rc.at_ ok hs1
      refine m_lcLR (a := u) (xs := vs8) (ev_var rfl) (sq_of hvs8) (fun cl i H' => H8 cl = none ∧ Ex H8 H' ∧ H' cl = some (.lst (((q.map (cnR G)).take i).map fun (n : Nat) => V.int (n : Nat)))) (fun cl H1 e hcl => ⟨fresh_back e hcl, e.trans (Ex.new hcl), upd_same⟩) (fun cl i H' _ h => ex_l h.2.1 (sq_of hvs8)) (fun cl i v H' hv h => ?_) (fun cl H' h => ?_)
      · obtain ⟨hcl, h1, h2⟩ := h
        obtain ⟨y, hy, b, bs, rfl, hb1', hbs⟩ := paired_at hpv8 hv
        have e8' := h1
        have hym := List.mem_of_getElem? hy
        obtain ⟨hysp, t, hG⟩ := hat y hym
        have htk : (q.map (cnR G)).take (i + 1) = (q.map (cnR G)).take i ++ [cnR G y] := by rw [List.take_add_one, List.getElem?_map, hy]; rfl
        refine ⟨b, _, rfl, st_of (e8' _ _ hb1'), rfl, _, _, rfl, _, _, rfl, ⟨rfl, rfl, ?_⟩⟩
        dsimp only [tYes]
        rw [if_pos rfl]
        have W9 := W8.up e8'
        obtain ⟨v2, hv2, la, ls, rfl, hls, hpl⟩ := ev_dget (P := P) (w := w) (σ := [some (.ref x), some (.ref a), some (.ref u), some (.ref u), z4, some (.ref bs), some (.int (y.2 : Nat))]) (td := tFld K (tVar 0) "links") (ty := tVar 5) psH_d (ev_fldR (ev_var rfl) W9.obj T_Rings.cl T_Rings.n_links rif_links) (ev_var rfl) W9.ln.r (hbs.up e8') (lkp_fun hysp)
        obtain ⟨w1, hw1', b2, bt, rfl, hb2, _⟩ := paired_get hpl hG
        have hv3 : Ev (tOp (rIx K) (tOp (rIx K) (tNGet P w (tFld K (tVar 0) "links") (tVar 5)) (tVar 6)) (tC (.int 0))) [some (.ref x), some (.ref a), some (.ref u), some (.ref u), z4, some (.ref bs), some (.int (y.2 : Nat))] H' (.int (cnR G y : Nat)) := ev_ixT (ev_ixL hv2 (ev_var rfl) (sq_of hls) (atI_nat' hw1')) ev_c (st_of hb2) rfl
        refine hv3 H' (Ex.refl _) _ fun H10 e10 => ?_
        refine ⟨_, e10 _ _ h2, ?_, hcl, Ex.mut (h1.trans e10) hcl, ?_⟩
        · rw [List.length_map, List.length_take, List.length_map, sizeLine_eq]; omega
        · rw [upd_same, htk, List.map_append]; rfl
      obtain ⟨hcl, h1, h2⟩ := h
      have hvl8 := Paired.length hpv8
      rw [hvl8, show (q.map (cnR G)).take q.length = q.map (cnR G) from List.take_of_length_le (by rw [List.length_map]; exact Nat.le_refl _)] at h2
      try dsimp only [List.set]
      have e6' := e68.trans h1
      refine q_callA (vs := [.int (cntR G q : Nat), .int (q.length : Nat)]) (ea_cons (ev_is (ev_sumR (a := cl) (ns := (q.map (cnR G)).map fun (n : Nat) => (n : Int)) (ev_var rfl) (sq_of (by rw [List.map_map]; exact h2))) (by rw [sum_castR]; rfl)) (ea_cons (ev_is (ev_lnL (ev_var rfl) (sq_of h2)) (by rw [List.length_map, List.length_map])) ea_nil)) fun H11 e11 => ?_
      have hgp : 0 < Nat.gcd (cntR G q) q.length := Nat.gcd_pos_of_pos_right _ hpos
      refine ⟨cntR G q, q.length, rfl, hpos, by omega, by omega, fun ra' H12 hra e12 hra2 => ?_⟩
      try dsimp only [List.set]
      have e612 := e6'.trans (e11.trans e12)
      have hg1 : cntR G q / Nat.gcd (cntR G q) q.length ≤ cntR G q := Nat.div_le_self _ _
      have hg2 : q.length / Nat.gcd (cntR G q) q.length ≤ q.length := Nat.div_le_self _ _
      have hd1 := Nat.gcd_dvd_left (cntR G q) q.length
      have hd2 := Nat.gcd_dvd_right (cntR G q) q.length
      have hg3 : 0 < q.length / Nat.gcd (cntR G q) q.length := Nat.div_pos (Nat.le_of_dvd hpos hd2) hgp
      have hm1 : cntR G q = Nat.gcd (cntR G q) q.length * (cntR G q / Nat.gcd (cntR G q) q.length) := (Nat.mul_div_cancel' hd1).symm
      have hm2 : q.length = Nat.gcd (cntR G q) q.length * (q.length / Nat.gcd (cntR G q) q.length) := (Nat.mul_div_cancel' hd2).symm
      refine s_asgU9 (m_methR (ev_var rfl) (W.up e612).obj rif_no_lesser fun H13 e13 => ?_)
      refine (ea_cons (ev_ixT (ev_var rfl) ev_c (st_of (e13 _ _ hra2)) rfl) (ea_cons (ev_ixT (ev_var rfl) ev_c (st_of (e13 _ _ hra2)) rfl) ea_nil) : EvA _ _ H13 [.int ((cntR G q / Nat.gcd (cntR G q) q.length : Nat) : Int), .int ((q.length / Nat.gcd (cntR G q) q.length : Nat) : Int)]) H13 (Ex.refl _) _ fun H14 e14 => ?_
      have e614 := e612.trans (e13.trans e14)
      have W14 := W.up e614
      refine ⟨x, dx, dl, .ref dh, .ref dr, sp, G, _, _, rfl, W14.obj, W14.ln, ok, by omega, by omega, fun u2 q2 dh2 dr2 hs2 rs2 H15 hu2 bu2 hrg2 W2 hk2 hq2 => ?_⟩
      have rax : ra' ≠ x := fun z => by rw [z, (W.up (e6'.trans e11)).obj] at hra; cases hra
      have ux : u ≠ x := fun z => by have := W.obj; rw [← z, hvs] at this; cases this
      have hrgu : RgH H15 u q := by
        obtain ⟨vs', g1, g2⟩ := hrg.up e614
        refine ⟨vs', bu2 _ _ ux g1, Paired.mapP g2 fun _ _ z => z.kt fun b ys hb => bu2 _ _ (fun z => ?_) hb⟩
        rw [z, W14.obj] at hb; cases hb
      refine ⟨_, ?_, ra', _, _, u, q, u2, q2, dh2, dr2, hs2, rs2, _, _, _, rfl, fun y o hy ho => bu2 y o hy (e614 _ _ (bu y o hy ho)), bu2 _ _ rax ((e13.trans e14) _ _ hra2), hrgu, hrg2, W2, hk2, hq2, .inr ⟨s1, rc, r2, hs1, rfl, rfl, hlen⟩, hg3, by omega, by omega, dvd_fctR hg3 (by omega), rfl⟩
      refine ratio_less (fctR_pos _) hdv (dvd_fctR hg3 (by omega)) ?_
      rw [wR_cnt] at r5
      have r6 : cntR G q * lo < tp * q.length := by
        have : (lo : Int) * (cntR G q : Int) < (q.length : Int) * (tp : Int) := by omega
        have : lo * cntR G q < q.length * tp := by exact_mod_cast this
        rw [Nat.mul_comm (cntR G q), Nat.mul_comm tp]
        exact this
      generalize Nat.gcd (cntR G q) q.length = gg at hm1 hm2 hgp
      generalize cntR G q / gg = c1 at hm1
      generalize q.length / gg = l1 at hm2
      rw [hm1, hm2] at r6
      refine Nat.lt_of_mul_lt_mul_left (a := gg) ?_
      rw [Nat.mul_left_comm gg tp l1, ← Nat.mul_assoc]
      exact r6
    · have hqe : q = [] := by cases q with
        | nil => rfl
        | cons _ _ => cases hb
      rcases hq with ⟨_, hcalm, hpos⟩ | ⟨_, _, h, _⟩
      · rcases hrt with ⟨rfl, rfl⟩ | ⟨s1, g1, g2, g3, g4, g5, g6⟩
        · exfalso
          have h1 := (hc0.calm ok hcalm hs0).1
          have h2 := hc0.cnt ok hs0
          have h3 : 0 < p0.length := List.length_pos_iff.mpr hp0
          rw [wR_cnt] at h1
          omega
        · refine s_retU (eu_tup (vs := [.ref a, .ref ub]) (ea_cons (ev_var rfl) (ea_cons (ev_var rfl) ea_nil)) (show 2 ≤ 100000 by decide)) fun t H8 _ e8 h8 => ?_
          have e68 := e7.trans e8
          exact k t a ub qb s1 tp lo dh dr hs rs H8 (fun y o hy ho => e68 _ _ (bu y o hy ho)) h8 (e68 _ _ ha) (hrb.up e68) g1 g2 g4 g5 (W.up e68) hk hcalm hpos g3 g6
      · exact absurd hqe h
end
end Fm
set_option maxHeartbeats 1000000
namespace Fm
open PySem L2 Evl RZ
def spRiInit (P : Program) (w : World) (K : PySem.W.Frag) (C : Addr) : Sp := fun vs H Q _ => ∃ (x dx dl : Addr), vs = [.ref x, .ref dl] ∧ H x = some (.ins C dx []) ∧
  ∀ H' ht ra, (∀ y o, y ≠ x → H y = some o → H' y = some o) → H' x = some (.ins C dx (rif (.ref dl) ht ra)) → Q .non H'
structure MkRin (P : Program) (w : World) (K : PySem.W.Frag) (mg : Str → Option Value) (base : Heap) (C : Addr) (f : Addr) (fd : FuncData) : Prop where
  M : Mk K C f
  G : FnOk P w K mg base CX0 1 f fd ["self", "links"] (spRiInit P w K C)
  g : mg "Rings" = some (.ref C)
  b : Binds K fd ["self", "links"] []
theorem s_fldSR {K : PySem.W.Frag} {σ : L2.St} {H : Hp} {ta tv : TE} {D : Ends} {f : Str} (h : tv σ H fun y H1 => ta σ H1 fun x H2 => ∃ a C dx fs, x = .ref a ∧ H2 a = some (.ins C dx fs) ∧ Cls K C ∧ NoAttr K C f ∧ fs.length < 1000 ∧ D.nx σ (upd H2 a (.ins C dx (putF f y fs)))) : sFld K ta tv f D σ H := h
section
variable {P : Program} {w : World} {K : PySem.W.Frag} {mg : Str → Option Value} {base : Heap} {C : Addr}
abbrev s_Rings___init__ : Stmt := inClass (top 22) 0
theorem sc_Rings___init__ : FnScope ["self", "links"] ["self", "links"] (defScope s_Rings___init__) := ⟨rfl, rfl, rfl, by decide +kernel, rfl, by decide +kernel, by decide +kernel⟩
theorem ok_rinit {f : Addr} {fd : FuncData} (F : Fun K "__init__" "Rings.__init__" s_Rings___init__ f fd) (T : Txt K mg) (T_Rings : RinT K C) : FnOk P w K mg base CX0 1 f fd ["self", "links"] (spRiInit P w K C) := by
  refine F.ok sc_Rings___init__ (fun vs H Q E h => ?_) (fun cdv A outer s H vs Q E hr h => ?_)
  · obtain ⟨_, _, _, rfl, _⟩ := h
    rfl
  · obtain ⟨x, dx, dl, rfl, hx, k⟩ := h
    refine ⟨_, (pss_cons (ps_fld (pv 0) (pv 1) rfl)
  (pss_cons (ps_fld (pv 0) (nnew_K (P := P) (w := w) rfl rfl) rfl)
  (pss_one (ps_fld (pv 0) (nnew_K (P := P) (w := w) rfl rfl) rfl)))), ?_⟩
    refine q_fldSR ?_
    refine (ev_var rfl) H (Ex.refl _) _ fun H1 e1 => (ev_var rfl) H1 (Ex.refl _) _ fun H2 e2 => ⟨x, C, dx, [], rfl, (e1.trans e2) _ _ hx, T_Rings.cl, T_Rings.n_links, by decide, ?_⟩
    have b3 : ∀ y o, y ≠ x → H y = some o → upd H2 x (.ins C dx (putF "links" (.ref dl) [])) y = some o := fun y o hy ho => by rw [upd_ne hy]; exact (e1.trans e2) _ _ ho
    have x3 : upd H2 x (.ins C dx (putF "links" (.ref dl) [])) x = some (.ins C dx (putF "links" (.ref dl) [])) := upd_same
    generalize upd H2 x (.ins C dx (putF "links" (.ref dl) [])) = H3 at b3 x3 ⊢
    refine q_fldSR fun d1 hd1 => ?_
    have e4 := Ex.new (o := NDO P w d1 []) hd1
    generalize upd H3 d1 (NDO P w d1 []) = H4 at e4 ⊢
    refine (ev_var rfl) H4 (Ex.refl _) _ fun H5 e5 => ⟨x, C, dx, _, rfl, (e4.trans e5) _ _ x3, T_Rings.cl, T_Rings.n_heights, by show 1 < 1000; decide, ?_⟩
    have b6 : ∀ y o, y ≠ x → H y = some o → upd H5 x (.ins C dx (putF "heights" (.ref d1) (putF "links" (.ref dl) []))) y = some o := fun y o hy ho => by rw [upd_ne hy]; exact (e4.trans e5) _ _ (b3 y o hy ho)
    have x6 : upd H5 x (.ins C dx (putF "heights" (.ref d1) (putF "links" (.ref dl) []))) x = some (.ins C dx (putF "heights" (.ref d1) (putF "links" (.ref dl) []))) := upd_same
    generalize upd H5 x (.ins C dx (putF "heights" (.ref d1) (putF "links" (.ref dl) []))) = H6 at b6 x6 ⊢
    refine s_fldSR fun d2 hd2 => ?_
    have e7 := Ex.new (o := NDO P w d2 []) hd2
    generalize upd H6 d2 (NDO P w d2 []) = H7 at e7 ⊢
    refine (ev_var rfl) H7 (Ex.refl _) _ fun H8 e8 => ⟨x, C, dx, _, rfl, (e7.trans e8) _ _ x6, T_Rings.cl, T_Rings.n_raised, by show 2 < 1000; decide, ?_⟩
    exact k _ (.ref d1) (.ref d2) (fun y o hy ho => by rw [upd_ne hy]; exact (e7.trans e8) _ _ (b6 y o hy ho)) (by rw [upd_same, show putF "raised" (.ref d2) (putF "heights" (.ref d1) (putF "links" (.ref dl) [])) = rif (.ref dl) (.ref d1) (.ref d2) by kernel_rfl])
end
end Fm
set_option maxHeartbeats 1000000
namespace Fm
open PySem L2 Evl RZ
def dvR : Option Nat → V
  | none => .non
  | some c => .int (c : Nat)
def livD (fs rs l : List Nat) : Option Nat → List Nat
  | none => waitL l
  | some c => touchL fs rs l c
def onlyL (cs l : List Nat) : List Nat := (List.range l.length).map fun c => if c ∈ cs then l.getD c 0 else 0
def lostL (cs l : List Nat) : Bool := cs.any fun c => decide (l.getD c 0 = 0)
def spDone (K : PySem.W.Frag) : Sp := fun vs H Q _ => ∃ (m l : Addr) (fs rs ls : List Nat) (d : Option Nat), vs = [.ref m, .ref l, dvR d] ∧ MaT K H m fs rs ∧ SqT K H l (nV ls) ∧ fs.length = rs.length ∧ ls.length = rs.length ∧ (∀ c, d = some c → c < rs.length) ∧ rs.length ≤ 10 ∧
  ∀ b H', H b = none → Ex H H' → H' b = some (.tup (nV (livD fs rs ls d))) → Q (.ref b) H'
def spOnly (K : PySem.W.Frag) : Sp := fun vs H Q _ => ∃ (l cl : Addr) (ls cs : List Nat), vs = [.ref l, .ref cl] ∧ SqT K H l (nV ls) ∧ SqT K H cl (nV cs) ∧ (∀ c ∈ cs, c < ls.length) ∧ ls.length ≤ 10 ∧ cs.length ≤ 10 ∧
  (lostL cs ls = true → ∀ H', Ex H H' → Q .non H') ∧ (lostL cs ls = false → ∀ b H', H b = none → Ex H H' → H' b = some (.tup (nV (onlyL cs ls))) → Q (.ref b) H')
theorem m_if9R {σ : L2.St} {H : Hp} {tt : TT} {ta tb : TE} {Q : VK} {b : Bool} (h : EvT tt σ H b) (h1 : b = true → ∀ H1, Ex H H1 → ta σ H1 Q) (h2 : b = false → ∀ H1, Ex H H1 → tb σ H1 Q) : tIf tt ta tb σ H Q := h H (Ex.refl _) _ fun H1 e1 => by
  cases b with
  | true => exact iteT9 (h1 rfl H1 e1)
  | false => exact iteF9 (h2 rfl H1 e1)
theorem flat_nV (l : List Nat) : (nV l).all flatV = true := by
  unfold nV
  rw [List.all_map]
  exact List.all_eq_true.mpr fun _ _ => rfl
section
variable {P : Program} {w : World} {K : PySem.W.Frag} {mg : Str → Option Value} {base : Heap}
abbrev s_lives_done : Stmt := top 24
theorem sc_lives_done : FnScope ["machine", "lives", "deed"] ["machine", "lives", "deed"] (defScope s_lives_done) := ⟨rfl, rfl, rfl, by decide +kernel, rfl, by decide +kernel, by decide +kernel⟩
theorem ok_lives_done {f f1 f2 : Addr} {fd fd1 fd2 : FuncData} (F : Fun K "lives_done" "lives_done" s_lives_done f fd) (T : Txt K mg) (C_lives_waited : Cal P w K mg base CX0 2 "lives_waited" f1 fd1 ["lives"] (spWaited K)) (C_lives_touched : Cal P w K mg base CX0 2 "lives_touched" f2 fd2 ["machine", "lives", "cell"] (spTouched K)) : FnOk P w K mg base CX0 3 f fd ["machine", "lives", "deed"] (spDone K) := by
  refine F.ok sc_lives_done (fun vs H Q E h => ?_) (fun cdv A outer s H vs Q E hr h => ?_)
  · obtain ⟨_, _, _, _, _, _, rfl, _⟩ := h
    rfl
  · obtain ⟨m, l, fs, rs, ls, d, rfl, hm, hl, hll, hl2, hd, h10, k⟩ := h
    refine ⟨_, (pss_one (ps_ret (pe_ifExp (pt_cmpR op_isN (pv 2) pe_non (nomark _)) (pe_call C_lives_waited.G (hr.mono (by first | decide | omega)) rfl C_lives_waited.g C_lives_waited.kp C_lives_waited.b .nil pass0 (pa_cons (pv 1) pa_nil)) (pe_call C_lives_touched.G (hr.mono (by first | decide | omega)) rfl C_lives_touched.g C_lives_touched.kp C_lives_touched.b .nil pass0 (pa_cons (pv 0) (pa_cons (pv 1) (pa_cons (pv 2) pa_nil))))))), ?_⟩
    refine s_retQR ?_
    cases d with
    | none =>
      refine m_if9R (b := true) (et_isN (x := .non) (ev_var rfl)) (fun _ H1 e1 => ?_) (fun z => nomatch z)
      refine m_call (ea_cons (ev_var rfl) ea_nil) fun H2 e2 => ⟨l, ls, rfl, ex_t (e1.trans e2) hl, by omega, fun b H3 hb e3 h3 => ?_⟩
      exact k b H3 (fresh_back (e1.trans e2) hb) ((e1.trans e2).trans e3) h3
    | some c =>
      refine m_if9R (b := false) (et_isN (x := .int (c : Nat)) (ev_var rfl)) (fun z => nomatch z) (fun _ H1 e1 => ?_)
      refine m_call (ea_cons (ev_var rfl) (ea_cons (ev_var rfl) (ea_cons (ev_var rfl) ea_nil))) fun H2 e2 => ⟨m, l, fs, rs, ls, c, rfl, hm.up (e1.trans e2), ex_t (e1.trans e2) hl, hll, hl2, hd c rfl, h10, fun b H3 hb e3 h3 => ?_⟩
      exact k b H3 (fresh_back (e1.trans e2) hb) ((e1.trans e2).trans e3) h3
abbrev s_only_lot : Stmt := top 25
theorem sc_only_lot : FnScope ["lives", "cells", "cell", "life"] ["lives", "cells"] (defScope s_only_lot) := ⟨rfl, rfl, rfl, by decide +kernel, rfl, by decide +kernel, by decide +kernel⟩
theorem ok_only_lot {f : Addr} {fd : FuncData} (F : Fun K "only_lot" "only_lot" s_only_lot f fd) (T : Txt K mg) : FnOk P w K mg base CX0 1 f fd ["lives", "cells"] (spOnly K) := by
  refine F.ok sc_only_lot (fun vs H Q E h => ?_) (fun cdv A outer s H vs Q E hr h => ?_)
  · obtain ⟨_, _, _, _, rfl, _⟩ := h
    rfl
  · obtain ⟨l, cl, ls, cs, rfl, hl, hcl, hlt, h10, hc10, k1, k2⟩ := h
    refine ⟨_, (pss_cons (ps_if (pt_val (pe_callB (any_K (K := K) rfl rfl) (by rfl) T.z_any (by decide +kernel) (pa_cons (pe_lc (own := [("cell", 2)]) (g := gName 2) rfl sc_only_lot.nd (pi_tupK (K := K) rfl (pv 1)) (blkOk_by (by kernel_rfl)) (fun _ _ _ _ _ => pg_name (i := 2) sc_only_lot.nd rfl (by first | exact Or.inl rfl | exact Or.inr rfl)) (fun _ _ _ _ _ => pts_nil) (fun _ _ _ _ _ => (pe_cmpR op_eq (pe_ix (ix_K (K := K) rfl) (pv 0) (pv 2) (fun _ _ => rfl)) pe_int (nomark _)))) pa_nil))) (pss_one (ps_ret pe_non)) pss_nil)
  (pss_one (ps_ret (pe_callTy (tpl_K (K := K) rfl) (by rfl) T.z_tuple (by decide +kernel) (pa_cons (pe_lc (own := [("cell", 2), ("life", 3)]) (g := gTup K 2 (gCons (gName 2) (gCons (gName 3) gNil))) rfl sc_only_lot.nd (pi_enumT (by rfl) T.z_enumerate (pa_cons (pv 0) pa_nil)) (blkOk_by (by kernel_rfl)) (fun _ _ _ _ _ => pg_tupK (K := K) rfl rfl (pgs_cons (pg_name (i := 2) sc_only_lot.nd rfl (by first | exact Or.inl rfl | exact Or.inr rfl)) (pgs_cons (pg_name (i := 3) sc_only_lot.nd rfl (by first | exact Or.inl rfl | exact Or.inr rfl)) pgs_nil))) (fun _ _ _ _ _ => pts_nil) (fun _ _ _ _ _ => (pe_ifExp (pt_cmpR (in_K (K := K) rfl) (pv 2) (pv 1) (by rfl)) (pv 3) pe_int))) pa_nil))))), ?_⟩
    have hany : lostL cs ls = ((cs.filter fun _ => true).map fun c => decide (ls.getD c 0 = 0)).any id := by
      unfold lostL
      rw [List.filter_eq_self.mpr (fun _ _ => rfl), List.any_map]
      rfl
    have nget : ∀ c, c < ls.length → atI (nV ls) (c : Nat) = some (.int (ls.getD c 0 : Nat)) := fun c hc => by
      refine atI_nat' ?_
      unfold nV
      rw [List.getElem?_map, List.getElem?_eq_getElem hc, List.getD_eq_getElem?_getD, List.getElem?_eq_getElem hc]
      rfl
    refine q_when (b := lostL cs ls) (et_B (ev_is (ev_any (bs := (cs.filter fun _ => true).map fun c => decide (ls.getD c 0 = 0)) ?_) (by rw [hany]))) (fun hb H1 e1 => ?_) (fun hb H1 e1 => ?_)
    · have key := el_lcT (K := K) (σ := [some (.ref l), some (.ref cl), none, none]) (H := H) (a := cl) (tl := tVar 1) (j := 2) (vs := List.map (fun x => x.snd) [(("cell" : Str), 2)]) (zs := cs) (tt := tYes) (te := tOp rEq (tOp (rIx K) (tVar 0) (tVar 2)) (tC (.int 0))) (fun c => .int (c : Nat)) (fun _ => true) (fun c => .bl (decide (ls.getD c 0 = 0))) (ev_var rfl) hcl (fun _ => rfl) (by omega) (fun _ _ _ _ => et_yes) (fun c H1 hc e1 _ => ev_is (ev_op (ev_ixT (ev_var rfl) (ev_var rfl) (ex_t e1 hl) (nget c (hlt c hc))) ev_c (rv_eq rfl)) (congrArg V.bl (decide_eq_decide.mpr ⟨fun z => by have := V.int.inj z; omega, fun z => by rw [z]; rfl⟩)))
      rw [List.map_map]
      exact key
    · exact s_ret ev_c fun H2 e2 => k1 hb H2 (e1.trans e2)
    · have key := el_lcET (K := K) (σ := [some (.ref l), some (.ref cl), none, none]) (H := H1) (tl := tVar 0) (te := tIf (tTest (tOp (rIn K false) (tVar 2) (tVar 1))) (tVar 3) (tC (.int 0))) (a := l) (xs := nV ls) (i := 2) (j := 3) (vs := List.map (fun x => x.snd) [(("cell" : Str), 2), ("life", 3)]) (f := fun c x => if c ∈ cs then x else .int 0) (ev_var rfl) (ex_t e1 hl) (fun _ _ => rfl) (by rw [nV_len]; omega) (fun m x H' _ e' => ?_)
      · have hval : mapI (fun c x => if c ∈ cs then x else .int 0) (nV ls) = nV (onlyL cs ls) := by
          unfold mapI onlyL nV
          rw [List.length_map, List.map_map]
          refine List.map_congr_left fun c hc => ?_
          have hc := List.mem_range.mp hc
          show (if c ∈ cs then (List.map (fun (x : Nat) => V.int (x : Nat)) ls).getD c .non else .int 0) = V.int ((if c ∈ cs then ls.getD c 0 else 0 : Nat) : Int)
          by_cases h : c ∈ cs
          · rw [if_pos h, if_pos h, List.getD_eq_getElem?_getD, List.getElem?_map, List.getElem?_eq_getElem hc, List.getD_eq_getElem?_getD, List.getElem?_eq_getElem hc]; rfl
          · rw [if_neg h, if_neg h]; rfl
        rw [hval] at key
        refine s_retU (eu_tplN key) fun p H2 hp e2 h2 => k2 hb p H2 (fresh_back e1 hp) (e1.trans e2) h2
      · refine ev_if (b := decide (m ∈ cs)) (et_is (et_test (ev_inK (ev_var rfl) (ev_var rfl) (ex_t (e1.trans e') hcl) rfl (flat_nV cs))) inV_nV) (fun h => ?_) (fun h => ?_)
        · rw [if_pos (of_decide_eq_true h)]; exact ev_var rfl
        · rw [if_neg (of_decide_eq_false h)]; exact ev_c
end
end Fm
set_option maxHeartbeats 1000000
namespace Fm
open PySem L2 Evl RZ
def rof (m c d s lk ln : V) : List (Str × V) := [("machine", m), ("cells", c), ("deeds", d), ("start", s), ("links", lk), ("lengths", ln)]
theorem rof_machine {m c d s lk ln : V} : (rof m c d s lk ln).lookup ("machine" : Str) = some m := by kernel_rfl
theorem rof_cells {m c d s lk ln : V} : (rof m c d s lk ln).lookup ("cells" : Str) = some c := by kernel_rfl
theorem rof_deeds {m c d s lk ln : V} : (rof m c d s lk ln).lookup ("deeds" : Str) = some d := by kernel_rfl
theorem rof_start {m c d s lk ln : V} : (rof m c d s lk ln).lookup ("start" : Str) = some s := by kernel_rfl
theorem rof_links {m c d s lk ln : V} : (rof m c d s lk ln).lookup ("links" : Str) = some lk := by kernel_rfl
theorem rof_lengths {m c d s lk ln : V} : (rof m c d s lk ln).lookup ("lengths" : Str) = some ln := by kernel_rfl
structure RouT (K : PySem.W.Frag) (C : Addr) : Prop where
  cl : Cls K C
  n_machine : NoAttr K C "machine"
  n_cells : NoAttr K C "cells"
  n_deeds : NoAttr K C "deeds"
  n_start : NoAttr K C "start"
  n_links : NoAttr K C "links"
  n_lengths : NoAttr K C "lengths"
structure LotOk (fs rs cs : List Nat) (ds : List (Option Nat)) : Prop where
  ll : fs.length = rs.length
  l10 : rs.length ≤ 10
  c10 : cs.length ≤ 10
  d20 : ds.length ≤ 20
  csl : ∀ c ∈ cs, c < rs.length
  dsl : ∀ c, some c ∈ ds → c < rs.length
structure RouX (K : PySem.W.Frag) (C : Addr) (H : Hp) (x dx ma ca da : Addr) (sv lk ln : V) (fs rs cs : List Nat) (ds : List (Option Nat)) : Prop where
  obj : H x = some (.ins C dx (rof (.ref ma) (.ref ca) (.ref da) sv lk ln))
  ma : MaT K H ma fs rs
  ca : SqT K H ca (nV cs)
  da : H da = some (.lst (ds.map dvR))
theorem RouX.up {K : PySem.W.Frag} {C : Addr} {H H' : Hp} {x dx ma ca da : Addr} {sv lk ln : V} {fs rs cs : List Nat} {ds : List (Option Nat)} (e : Ex H H') (h : RouX K C H x dx ma ca da sv lk ln fs rs cs ds) : RouX K C H' x dx ma ca da sv lk ln fs rs cs ds := ⟨e _ _ h.obj, h.ma.up e, ex_t e h.ca, e _ _ h.da⟩
theorem livD_len (fs rs l : List Nat) (d : Option Nat) : (livD fs rs l d).length = l.length := by
  cases d with
  | none => show (waitL l).length = _; unfold waitL; rw [List.length_map]
  | some c => show (touchL fs rs l c).length = _; unfold touchL; rw [List.length_map, List.length_range]
section
variable {σ : L2.St} {H : Hp} {te : TE} {tr tA : TA} {Q : VK} {QA : List V → Hp → Prop}
theorem m_tupR9 (h : tA σ H fun xs H1 => xs.length ≤ sizeLine ∧ ∀ p, H1 p = none → Q (.ref p) (upd H1 p (.tup xs))) : tTup tA σ H Q := h
theorem m_consR9 (h : te σ H fun x H1 => tr σ H1 fun ys H2 => QA (x :: ys) H2) : tCons te tr σ H QA := h
theorem m_callR {sp : Sp} {E : XK} (h : tA σ H fun vs H1 => sp (vs ++ []) H1 Q E) : tCall sp [] E tA σ H Q := h
end
def behD (fs rs cs : List Nat) (l : Lv) (d : Option Nat) : Option Lv := if lostL cs (livD fs rs l d) = true then none else some (onlyL cs (livD fs rs l d))
def lnkD (fs rs cs : List Nat) (ds : List (Option Nat)) (l : Lv) : List (Option Nat × Lv) := ds.filterMap fun d => (behD fs rs cs l d).map fun b => (d, b)
def DpT (u : V) (p : Option Nat × Option Lv) (H : Hp) : Prop := ∃ b v, u = .ref b ∧ H b = some (.tup [dvR p.1, v]) ∧ (match p.2 with | none => v = .non | some l => ∃ bt, v = .ref bt ∧ LvH H bt l)
theorem DpT.up {u : V} {p : Option Nat × Option Lv} {H H' : Hp} (e : ∀ b ys, H b = some (.tup ys) → H' b = some (.tup ys)) (h : DpT u p H) : DpT u p H' := by
  obtain ⟨b, v, h1, h2, h3⟩ := h
  refine ⟨b, v, h1, e _ _ h2, ?_⟩
  cases hp : p.2 with
  | none => rw [hp] at h3; exact h3
  | some l => rw [hp] at h3; obtain ⟨bt, g1, g2⟩ := h3; exact ⟨bt, g1, e _ _ g2⟩
def spLnkF (K : PySem.W.Frag) (C : Addr) : Sp := fun vs H Q _ => ∃ (x dx ma ca da lb : Addr) (sv lk ln : V) (fs rs cs : List Nat) (ds : List (Option Nat)) (l : Lv), vs = [.ref x, .ref lb] ∧ RouX K C H x dx ma ca da sv lk ln fs rs cs ds ∧ LotOk fs rs cs ds ∧ LvH H lb l ∧ l.length = rs.length ∧
  ∀ u us H', H u = none → Ex H H' → H' u = some (.lst us) → Paired (fun v p => DpT v (p.1, some p.2) H') us (lnkD fs rs cs ds l) → Q (.ref u) H'
section
variable {P : Program} {w : World} {K : PySem.W.Frag} {mg : Str → Option Value} {base : Heap} {C : Addr}
abbrev s_Rounds_links_from : Stmt := inClass (top 26) 2
theorem sc_Rounds_links_from : FnScope ["self", "lives", "pairs", "deed", "behind"] ["self", "lives"] (defScope s_Rounds_links_from) := ⟨rfl, rfl, rfl, by decide +kernel, rfl, by decide +kernel, by decide +kernel⟩
theorem ok_links_from {f f1 f2 : Addr} {fd fd1 fd2 : FuncData} (F : Fun K "links_from" "Rounds.links_from" s_Rounds_links_from f fd) (T : Txt K mg) (T_Rounds : RouT K C) (C_only_lot : Cal P w K mg base CX0 1 "only_lot" f1 fd1 ["lives", "cells"] (spOnly K)) (C_lives_done : Cal P w K mg base CX0 3 "lives_done" f2 fd2 ["machine", "lives", "deed"] (spDone K)) : FnOk P w K mg base CX0 4 f fd ["self", "lives"] (spLnkF K C) := by
  refine F.ok sc_Rounds_links_from (fun vs H Q E h => ?_) (fun cdv A outer s H vs Q E hr h => ?_)
  · obtain ⟨_, _, _, _, _, _, _, _, _, _, _, _, _, _, rfl, _⟩ := h
    rfl
  · obtain ⟨x, dx, ma, ca, da, lb, sv, lk, ln, fs, rs, cs, ds, l, rfl, W, ok, hl, hll, k⟩ := h
    refine ⟨_, (pss_cons (ps_setLc (i := 2) (own := [("deed", 3)]) (g := gName 3) rfl sc_Rounds_links_from.nd rfl rfl (sw_true rfl rfl rfl (by decide +kernel)) (pi_listK (K := K) rfl (fld_KR (K := K) rfl (pv 0) rfl)) (blkOk_by (by kernel_rfl)) (fun _ _ _ _ _ => pg_name (i := 3) sc_Rounds_links_from.nd rfl (by first | exact Or.inl rfl | exact Or.inr rfl)) (fun _ _ _ _ _ => pts_nil) (fun _ _ _ _ _ => (pe_tup (pa_cons (pv 3) (pa_cons (pe_call C_only_lot.G (hr.mono (by first | decide | omega)) rfl C_only_lot.g C_only_lot.kp C_only_lot.b .nil pass0 (pa_cons (pe_call C_lives_done.G (hr.mono (by first | decide | omega)) rfl C_lives_done.g C_lives_done.kp C_lives_done.b .nil pass0 (pa_cons (fld_KR (K := K) rfl (pv 0) rfl) (pa_cons (pv 1) (pa_cons (pv 3) pa_nil)))) (pa_cons (fld_KR (K := K) rfl (pv 0) rfl) pa_nil))) pa_nil)))))
  (pss_one (ps_ret (pe_lc (own := [("deed", 3), ("behind", 4)]) (g := gTup K 2 (gCons (gName 3) (gCons (gName 4) gNil))) rfl sc_Rounds_links_from.nd (pi_listK (K := K) rfl (pv 2)) (blkOk_by (by kernel_rfl)) (fun _ _ _ _ _ => pg_tupK (K := K) rfl rfl (pgs_cons (pg_name (i := 3) sc_Rounds_links_from.nd rfl (by first | exact Or.inl rfl | exact Or.inr rfl)) (pgs_cons (pg_name (i := 4) sc_Rounds_links_from.nd rfl (by first | exact Or.inl rfl | exact Or.inr rfl)) pgs_nil))) (fun _ _ _ _ _ => (pts_one (pt_cmpR op_notN (pv 4) pe_non (nomark _)))) (fun _ _ _ _ _ => (pe_tup (pa_cons (pv 3) (pa_cons (pv 4) pa_nil)))))))), ?_⟩
    refine q_asgU9 ?_
    refine m_lcLR (a := da) (xs := ds.map dvR) (ev_fldR (ev_var rfl) W.obj T_Rounds.cl T_Rounds.n_deeds rof_deeds) (sq_of W.da) (fun D i H' => H D = none ∧ Ex H H' ∧ ∃ us, H' D = some (.lst us) ∧ Paired (fun v p => DpT v p H') us ((ds.take i).map fun d => (d, behD fs rs cs l d))) (fun D H1 e hD => ⟨fresh_back e hD, e.trans (Ex.new hD), [], upd_same, .nil⟩) (fun D i H' _ h => ex_l h.2.1 (sq_of W.da)) (fun D i v H' hv h => ?_) (fun D H' h => ?_)
    · obtain ⟨hD, e, us, hus, hpu⟩ := h
      rw [List.getElem?_map] at hv
      obtain ⟨d, hd, rfl⟩ := Option.map_eq_some_iff.mp hv
      have hdm := List.mem_of_getElem? hd
      have htk : ds.take (i + 1) = ds.take i ++ [d] := by rw [List.take_add_one, hd]; rfl
      have hul := Paired.length hpu
      rw [List.length_map, List.length_take] at hul
      have := ok.d20
      refine ⟨rfl, ?_⟩
      dsimp only [tYes]
      rw [if_pos rfl]
      refine m_tupR9 (m_consR9 ?_)
      refine (ev_var rfl) H' (Ex.refl _) _ fun Ha ea => m_consR9 (m_callR (m_consR9 ?_))
      have e1 := e.trans ea
      refine m_call (ea_cons (ev_fldR (ev_var rfl) (e1 _ _ W.obj) T_Rounds.cl T_Rounds.n_machine rof_machine) (ea_cons (ev_var rfl) (ea_cons (ev_var rfl) ea_nil))) fun Hb eb => ?_
      have e2 := e1.trans eb
      refine ⟨ma, lb, fs, rs, l, d, rfl, W.ma.up e2, st_of (e2 _ _ hl), ok.ll, hll, fun c hc => ok.dsl c (by rw [← hc]; exact hdm), ok.l10, fun b Hc hb ec hbv => ?_⟩
      have e3 := e2.trans ec
      refine m_consR9 ?_
      refine (ev_fldR (ev_var rfl) (e3 _ _ W.obj) T_Rounds.cl T_Rounds.n_cells rof_cells) Hc (Ex.refl _) _ fun Hd ed => m_nilR ?_
      have e4 := e3.trans ed
      have lst : ∀ {Hx : Hp} (v : V), Ex Hd Hx → (match behD fs rs cs l d with | none => v = .non | some l => ∃ bt, v = .ref bt ∧ LvH Hx bt l) → ([dvR d, v] : List V).length ≤ sizeLine ∧ ∀ p, Hx p = none → ∃ acc, upd Hx p (.tup [dvR d, v]) D = some (.lst acc) ∧ acc.length < sizeLine ∧ H D = none ∧ Ex H (upd (upd Hx p (.tup [dvR d, v])) D (.lst (acc ++ [.ref p]))) ∧ ∃ us, upd (upd Hx p (.tup [dvR d, v])) D (.lst (acc ++ [.ref p])) D = some (.lst us) ∧ Paired (fun v9 p9 => DpT v9 p9 (upd (upd Hx p (.tup [dvR d, v])) D (.lst (acc ++ [.ref p])))) us ((ds.take (i + 1)).map fun d => (d, behD fs rs cs l d)) := fun {Hx} v ex hv => by
        refine ⟨by show 2 ≤ sizeLine; rw [sizeLine_eq]; decide, fun p hp => ?_⟩
        have e5 := Ex.new (o := .tup [dvR d, v]) hp
        have hpv : upd Hx p (.tup [dvR d, v]) p = some (.tup [dvR d, v]) := upd_same
        have eH' : Ex H' Hx := (((ea.trans eb).trans ec).trans ed).trans ex
        have hus5 := e5 _ _ (eH' _ _ hus)
        have tup : ∀ b ys, upd Hx p (.tup [dvR d, v]) b = some (.tup ys) → upd (upd Hx p (.tup [dvR d, v])) D (.lst (us ++ [.ref p])) b = some (.tup ys) := fun b ys hb => by
          rw [upd_ne fun z => ?_]
          · exact hb
          · rw [z, hus5] at hb; cases hb
        refine ⟨us, hus5, by rw [sizeLine_eq]; omega, hD, Ex.mut ((e.trans eH').trans e5) hD, us ++ [.ref p], upd_same, ?_⟩
        rw [htk, List.map_append]
        refine paired_append (Paired.mapP hpu fun _ _ z => z.up fun b ys hb => tup _ _ (e5 _ _ (eH' _ _ hb))) (.cons ⟨p, v, rfl, tup _ _ hpv, ?_⟩ .nil)
        show (match behD fs rs cs l d with | none => v = .non | some l => ∃ bt, v = .ref bt ∧ LvH _ bt l)
        cases hq : behD fs rs cs l d with
        | none => rw [hq] at hv; exact hv
        | some l2 => rw [hq] at hv; obtain ⟨bt, g1, g2⟩ := hv; exact ⟨bt, g1, tup _ _ (e5 _ _ g2)⟩
      refine ⟨b, ca, livD fs rs l d, cs, rfl, st_of (ed _ _ hbv), ex_t e4 W.ca, fun c hc => by rw [livD_len, hll]; exact ok.csl c hc, by rw [livD_len, hll]; exact ok.l10, ok.c10, fun hlo He ee => ?_, fun hlo b2 He hb2 ee h2 => ?_⟩
      · have hbe : behD fs rs cs l d = none := by unfold behD; rw [if_pos hlo]
        exact lst .non ee (by rw [hbe])
      · have hbe : behD fs rs cs l d = some (onlyL cs (livD fs rs l d)) := by unfold behD; rw [if_neg (by rw [hlo]; exact fun z => nomatch z)]
        exact lst (.ref b2) ee (by rw [hbe]; exact ⟨b2, rfl, h2⟩)
    · obtain ⟨hD, e, us, hus, hpu⟩ := h
      rw [List.length_map, List.take_length] at hpu
      have hul := Paired.length hpu
      rw [List.length_map] at hul
      have := ok.d20
      try dsimp only [List.set]
      refine s_retQR (m_lcLR (a := D) (xs := us) (ev_var rfl) (sq_of hus) (fun D2 i Hx => H' D2 = none ∧ Ex H' Hx ∧ ∃ ws, Hx D2 = some (.lst ws) ∧ Paired (fun v p => DpT v (p.1, some p.2) Hx) ws (lnkD fs rs cs (ds.take i) l)) (fun D2 H1 e1 hD2 => ⟨fresh_back e1 hD2, e1.trans (Ex.new hD2), [], upd_same, .nil⟩) (fun D2 i Hx _ h => ex_l h.2.1 (sq_of hus)) (fun D2 i v Hx hv h => ?_) (fun D2 Hx h => ?_))
      · obtain ⟨hD2, e2, ws, hws, hpw⟩ := h
        obtain ⟨y, hy, b, v4, rfl, hb, hm4⟩ := paired_at hpu hv
        rw [List.getElem?_map] at hy
        obtain ⟨d, hd, rfl⟩ := Option.map_eq_some_iff.mp hy
        have htk : ds.take (i + 1) = ds.take i ++ [d] := by rw [List.take_add_one, hd]; rfl
        have hwl := Paired.length hpw
        have hwl2 : (lnkD fs rs cs (ds.take i) l).length ≤ 20 := by
          unfold lnkD
          refine Nat.le_trans (List.length_filterMap_le _ _) ?_
          rw [List.length_take]
          omega
        refine ⟨b, _, rfl, st_of (e2 _ _ hb), rfl, _, _, rfl, _, _, rfl, ⟨rfl, rfl, ?_⟩⟩
        refine (et_test (ev_op (ev_var rfl) ev_c fun H1 _ _ q => ⟨rfl, q H1 (Ex.refl H1)⟩) : EvT (tTest (tOp (fun x y H Q => y = V.non ∧ Q (V.bl (!decide (x = V.non))) H) (tVar 4) (tC .non))) [some (.ref x), some (.ref lb), some (.ref D), some (dvR d), some v4] Hx (!decide (v4 = .non))) Hx (Ex.refl _) _ fun H3 e3 => ?_
        have hm4 : (match behD fs rs cs l d with | none => v4 = .non | some l => ∃ bt, v4 = .ref bt ∧ LvH H' bt l) := hm4
        cases hq : behD fs rs cs l d with
        | none =>
          rw [hq] at hm4
          rw [hm4, show (!decide (V.non = V.non)) = false from rfl]
          refine iteF9 ⟨hD2, e2.trans e3, ws, e3 _ _ hws, ?_⟩
          have : lnkD fs rs cs (ds.take (i + 1)) l = lnkD fs rs cs (ds.take i) l := by
            unfold lnkD
            rw [htk, List.filterMap_append, List.filterMap_cons, hq]
            simp
          rw [this]
          exact Paired.mapP hpw fun _ _ z => z.up fun b ys hb => e3 _ _ hb
        | some l2 =>
          rw [hq] at hm4
          obtain ⟨bt, rfl, hbt⟩ := hm4
          rw [show (!decide (V.ref bt = V.non)) = true from rfl]
          refine iteT9 ?_
          refine (eu_tup (vs := [dvR d, .ref bt]) (ea_cons (ev_var rfl) (ea_cons (ev_var rfl) ea_nil)) (show 2 ≤ 100000 by decide)) H3 (Ex.refl _) _ fun t H4 ht e4 h4 => ?_
          have e34 := e3.trans e4
          have hws4 := e34 _ _ hws
          have tup : ∀ b ys, H4 b = some (.tup ys) → upd H4 D2 (.lst (ws ++ [.ref t])) b = some (.tup ys) := fun b ys hb => by
            rw [upd_ne fun z => ?_]
            · exact hb
            · rw [z, hws4] at hb; cases hb
          refine ⟨ws, hws4, by rw [sizeLine_eq]; omega, hD2, Ex.mut (e2.trans e34) hD2, ws ++ [.ref t], upd_same, ?_⟩
          have : lnkD fs rs cs (ds.take (i + 1)) l = lnkD fs rs cs (ds.take i) l ++ [(d, l2)] := by
            unfold lnkD
            rw [htk, List.filterMap_append, List.filterMap_cons, hq]
            rfl
          rw [this]
          exact paired_append (Paired.mapP hpw fun _ _ z => z.up fun b ys hb => tup _ _ (e34 _ _ hb)) (.cons ⟨t, .ref bt, rfl, tup _ _ h4, bt, rfl, tup _ _ (e34 _ _ (e2 _ _ hbt))⟩ .nil)
      · obtain ⟨hD2, e2, ws, hws, hpw⟩ := h
        rw [hul, List.take_length] at hpw
        exact k D2 ws Hx (fresh_back e hD2) (e.trans e2) hws hpw
end
end Fm
set_option maxHeartbeats 1000000
namespace Fm
open PySem L2 Evl RZ
theorem livD_le {fs rs l : List Nat} {d : Option Nat} {F : Nat} (hf : ∀ x ∈ fs, x ≤ F) (hl : ∀ x ∈ l, x ≤ F) : ∀ x ∈ livD fs rs l d, x ≤ F := by
  have gl : ∀ i, l.getD i 0 ≤ F := fun i => by
    rw [List.getD_eq_getElem?_getD]
    cases h : l[i]? with
    | none => exact Nat.zero_le _
    | some x => exact hl x (List.mem_of_getElem? h)
  have gf : ∀ i, fs.getD i 0 ≤ F := fun i => by
    rw [List.getD_eq_getElem?_getD]
    cases h : fs[i]? with
    | none => exact Nat.zero_le _
    | some x => exact hf x (List.mem_of_getElem? h)
  intro x hx
  cases d with
  | none =>
    have hx : x ∈ l.map (· - 1) := hx
    obtain ⟨y, hy, rfl⟩ := List.mem_map.mp hx
    have := hl y hy
    omega
  | some c =>
    have hx : x ∈ (List.range l.length).map (tch fs rs l c) := hx
    obtain ⟨i, _, rfl⟩ := List.mem_map.mp hx
    have h1 := gl i
    have h2 := gf i
    unfold tch
    split
    · exact Nat.zero_le _
    · split <;> omega
theorem onlyL_le {cs l : List Nat} {F : Nat} (hl : ∀ x ∈ l, x ≤ F) : ∀ x ∈ onlyL cs l, x ≤ F := fun x hx => by
  unfold onlyL at hx
  obtain ⟨i, _, rfl⟩ := List.mem_map.mp hx
  by_cases h : i ∈ cs
  · rw [if_pos h, List.getD_eq_getElem?_getD]
    cases e : l[i]? with
    | none => exact Nat.zero_le _
    | some x => exact hl x (List.mem_of_getElem? e)
  · rw [if_neg h]; exact Nat.zero_le _
theorem onlyL_len (cs l : List Nat) : (onlyL cs l).length = l.length := by unfold onlyL; rw [List.length_map, List.length_range]
def LvOk (n F : Nat) (l : Lv) : Prop := l.length = n ∧ ∀ x ∈ l, x ≤ F
theorem lnkD_ok {fs rs cs : List Nat} {ds : List (Option Nat)} {n F : Nat} {l : Lv} (hf : ∀ x ∈ fs, x ≤ F) (h : LvOk n F l) : ∀ p ∈ lnkD fs rs cs ds l, LvOk n F p.2 := fun p hp => by
  unfold lnkD at hp
  obtain ⟨d, _, hd⟩ := List.mem_filterMap.mp hp
  obtain ⟨b, hb, rfl⟩ := Option.map_eq_some_iff.mp hd
  unfold behD at hb
  split at hb
  · cases hb
  · cases hb
    exact ⟨by rw [onlyL_len, livD_len]; exact h.1, onlyL_le (livD_le hf h.2)⟩
theorem lnkD_len (fs rs cs : List Nat) (ds : List (Option Nat)) (l : Lv) : (lnkD fs rs cs ds l).length ≤ ds.length := List.length_filterMap_le _ _
def lvAll (F : Nat) : Nat → List Lv
  | 0 => [[]]
  | n + 1 => (List.range (F + 1)).flatMap fun x => (lvAll F n).map fun l => x :: l
theorem lvAll_len (F : Nat) : ∀ n, (lvAll F n).length = (F + 1) ^ n
  | 0 => rfl
  | n + 1 => by
    have h := lvAll_len F n
    show ((List.range (F + 1)).flatMap fun x => (lvAll F n).map fun l => x :: l).length = _
    rw [List.length_flatMap]
    have : (List.range (F + 1)).map (fun x => ((lvAll F n).map fun l => x :: l).length) = (List.range (F + 1)).map fun _ => (F + 1) ^ n := List.map_congr_left fun x _ => by rw [List.length_map, h]
    rw [this, List.map_const', List.sum_replicate_nat, List.length_range, Nat.pow_succ, Nat.mul_comm]
theorem lvAll_mem {F : Nat} : ∀ {n : Nat} {l : Lv}, LvOk n F l → l ∈ lvAll F n
  | 0, l, h => by rw [List.eq_nil_of_length_eq_zero h.1]; exact List.mem_singleton.mpr rfl
  | n + 1, [], h => nomatch h.1
  | n + 1, x :: l, h => List.mem_flatMap.mpr ⟨x, List.mem_range.mpr (by have := h.2 x List.mem_cons_self; omega), List.mem_map.mpr ⟨l, lvAll_mem ⟨Nat.succ.inj h.1, fun y hy => h.2 y (List.mem_cons_of_mem _ hy)⟩, rfl⟩⟩
theorem lv_many {n F : Nat} {sp : List Lv} (hn : sp.Nodup) (h : ∀ s ∈ sp, LvOk n F s) : sp.length ≤ (F + 1) ^ n := by
  rw [← lvAll_len F n]
  exact nodup_within hn fun s hs => lvAll_mem (h s hs)
theorem paired_last {α β : Type} {R : α → β → Prop} {xs : List α} {ys : List β} (h : Paired R xs ys) : xs ≠ [] → ∃ xs' x ys' y, xs = xs' ++ [x] ∧ ys = ys' ++ [y] ∧ Paired R xs' ys' ∧ R x y := by
  induction h with
  | nil => exact fun z => absurd rfl z
  | @cons a b as bs r t ih =>
    intro _
    cases t with
    | nil => exact ⟨[], a, [], b, rfl, rfl, .nil, r⟩
    | cons r2 t2 =>
      obtain ⟨xs', x, ys', y, e1, e2, p, q⟩ := ih (fun z => nomatch z)
      exact ⟨a :: xs', x, b :: ys', y, by rw [e1]; rfl, by rw [e2]; rfl, .cons r p, q⟩
def LkR (v : V) (ps : List (Option Nat × Lv)) (H : Hp) : Prop := ∃ a us, v = .ref a ∧ H a = some (.lst us) ∧ Paired (fun u p => DpT u (p.1, some p.2) H) us ps
theorem LkR.kl {v : V} {ps : List (Option Nat × Lv)} {H H' : Hp} (k : Kl H H') (h : LkR v ps H) : LkR v ps H' := let ⟨a, us, h1, h2, h3⟩ := h; ⟨a, us, h1, k _ _ h2 (.inr ⟨_, rfl⟩), Paired.mapP h3 fun _ _ z => z.up fun b ys hb => k _ _ hb (.inl ⟨_, rfl⟩)⟩
theorem lkR_d : RKd LkR := fun _ _ _ _ e h => h.kl (Kl.of e)
def LkQ (o : Addr) (v : V) (ps : List (Option Nat × Lv)) (H : Hp) : Prop := ∃ a us, v = .ref a ∧ a ≠ o ∧ H a = some (.lst us) ∧ Paired (fun u p => DpT u (p.1, some p.2) H) us ps
theorem LkQ.r {o : Addr} {v : V} {ps : List (Option Nat × Lv)} {H : Hp} (h : LkQ o v ps H) : LkR v ps H := let ⟨a, us, h1, _, h2, h3⟩ := h; ⟨a, us, h1, h2, h3⟩
theorem LkQ.un {o : Addr} {v : V} {ps : List (Option Nat × Lv)} {H H' : Hp} (k : ∀ b ob, b ≠ o → H b = some ob → ((∃ ys, ob = .tup ys) ∨ ∃ ys, ob = .lst ys) → H' b = some ob) (t : ∀ b ys, H b = some (.tup ys) → H' b = some (.tup ys)) (h : LkQ o v ps H) : LkQ o v ps H' := let ⟨a, us, h1, h2, h3, h4⟩ := h; ⟨a, us, h1, h2, k _ _ h2 h3 (.inr ⟨_, rfl⟩), Paired.mapP h4 fun _ _ z => z.up t⟩
theorem lkQ_d {o : Addr} : RKd (LkQ o) := fun _ _ _ _ e h => h.un (fun b ob _ hb _ => e _ _ hb) fun b ys hb => e _ _ hb
theorem DW.imp {P : Program} {w : World} {α : Type} {R R' : V → α → Hp → Prop} {H : Hp} {d : Addr} {xs : List (Lv × α)} (r : ∀ v x, R v x H → R' v x H) (h : DW P w R H d xs) : DW P w R' H d xs := let ⟨kvs, h1, h2⟩ := h.at_; ⟨kvs, h1, Paired.mapP h2 fun _ _ z => ⟨z.1, r _ _ z.2⟩⟩
inductive RchL (fs rs cs : List Nat) (ds : List (Option Nat)) (st : Lv) : Lv → Prop where
  | here : RchL fs rs cs ds st st
  | next {l : Lv} {p : Option Nat × Lv} : RchL fs rs cs ds st l → p ∈ lnkD fs rs cs ds l → RchL fs rs cs ds st p.2
def spFindL (P : Program) (w : World) (K : PySem.W.Frag) (C : Addr) : Sp := fun vs H Q _ => ∃ (x dx ma ca da sa dl : Addr) (ln : V) (fs rs cs : List Nat) (ds : List (Option Nat)) (st : Lv) (F : Nat), vs = [.ref x] ∧ RouX K C H x dx ma ca da (.ref sa) (.ref dl) ln fs rs cs ds ∧ LotOk fs rs cs ds ∧ LvH H sa st ∧ LvOk rs.length F st ∧ (∀ x ∈ fs, x ≤ F) ∧ (F + 1) ^ rs.length ≤ 10000 ∧ DW P w LkR H dl [] ∧
  ∀ (sp : List Lv) (H' : Hp), (∀ y o, y ≠ dl → H y = some o → H' y = some o) → DW P w LkR H' dl (sp.map fun s => (s, lnkD fs rs cs ds s)) → sp.Nodup → st ∈ sp → (∀ s ∈ sp, ∀ p ∈ lnkD fs rs cs ds s, p.2 ∈ sp) → (∀ s ∈ sp, LvOk rs.length F s) → (∀ s ∈ sp, RchL fs rs cs ds st s) → Q .non H'
theorem rof_no_links_from {m c d s lk ln : V} : (rof m c d s lk ln).lookup ("links_from" : Str) = none := by kernel_rfl
theorem m_extR {K : PySem.W.Frag} {σ : L2.St} {H : Hp} {ta te : TE} {D : Ends} {l : Addr} {xs : List V} (ha : Ev ta σ H (.ref l)) (hl : H l = some (.lst xs)) (k : ∀ H1, Ex H H1 → te σ H1 fun v H2 => rExtend (.ref l) [v] H2 fun _ H3 => D.nx σ H3) : tDrop (tBM K "list" rExtend ta (tCons te tNil)) D σ H :=
  ha H (Ex.refl H) _ fun H1 e1 => ⟨.inl ⟨rfl, xs, sq_of (e1 _ _ hl)⟩, k H1 e1⟩
section
variable {P : Program} {w : World} {K : PySem.W.Frag} {mg : Str → Option Value} {base : Heap} {C : Addr}
abbrev s_Rounds_find_links : Stmt := inClass (top 26) 3
theorem sc_Rounds_find_links : FnScope ["self", "open_ones", "lives", "deed", "behind"] ["self"] (defScope s_Rounds_find_links) := ⟨rfl, rfl, rfl, by decide +kernel, rfl, by decide +kernel, by decide +kernel⟩
theorem ok_find_links {f f1 : Addr} {fd fd1 : FuncData} (F : Fun K "find_links" "Rounds.find_links" s_Rounds_find_links f fd) (T : Txt K mg) (T_Rounds : RouT K C) (M_Rounds_links_from : MCal P w K mg base C 4 "links_from" f1 fd1 ["self", "lives"] (spLnkF K C)) : FnOk P w K mg base CX0 5 f fd ["self"] (spFindL P w K C) := by
  refine F.ok sc_Rounds_find_links (fun vs H Q E h => ?_) (fun cdv A outer s H vs Q E hr h => ?_)
  · obtain ⟨_, _, _, _, _, _, _, _, _, _, _, _, _, _, rfl, _⟩ := h
    rfl
  · obtain ⟨x, dx, ma, ca, da, sa, dl, ln, fs, rs, cs, ds, st, FM, rfl, W, ok, hst, hsto, hf, hz, hln, k⟩ := h
    refine ⟨_, (pss_cons (ps_set (i := 1) sc_Rounds_find_links.nd rfl (Or.inl rfl) (pe_lst (pa_cons (fld_KR (K := K) rfl (pv 0) rfl) pa_nil)))
  (pss_one (ps_while PassesOwn.never (pt_truthK (K := K) rfl (pv 1) (by intro _; rfl)) (pss_cons (ps_set (i := 2) sc_Rounds_find_links.nd rfl (Or.inl rfl) (pe_bm0 PySem.F.plainAttrs_list PySem.F.slot_list_pop PySem.F.type_list_pop mt_pop (pv 1)))
  (pss_one (ps_if (pt_cmp (nnotin_K (P := P) (w := w) rfl rfl hr.units (pv 2) (fld_KR (K := K) rfl (pv 0) rfl)) rfl) (pss_cons (nput_K (P := P) (w := w) rfl rfl hr.units (fld_KR (K := K) rfl (pv 0) rfl) (pv 2) (pe_meth (pv 0) T_Rounds.cl M_Rounds_links_from.m M_Rounds_links_from.G (hr.mono (by first | decide | omega)) M_Rounds_links_from.b .nil pass0 (pa_cons (pv 2) pa_nil)) rfl)
  (pss_one (ps_expr (pe_bm PySem.F.plainAttrs_list PySem.F.slot_list_extend PySem.F.type_list_extend mt_extend (pv 1) (pa_cons (pe_lc (own := [("deed", 3), ("behind", 4)]) (g := gTup K 2 (gCons (gName 3) (gCons (gName 4) gNil))) rfl sc_Rounds_find_links.nd (pi_listK (K := K) rfl (nget_K (P := P) (w := w) rfl rfl hr.units (fld_KR (K := K) rfl (pv 0) rfl) (pv 2) (fun _ _ => rfl))) (blkOk_by (by kernel_rfl)) (fun _ _ _ _ _ => pg_tupK (K := K) rfl rfl (pgs_cons (pg_name (i := 3) sc_Rounds_find_links.nd rfl (by first | exact Or.inl rfl | exact Or.inr rfl)) (pgs_cons (pg_name (i := 4) sc_Rounds_find_links.nd rfl (by first | exact Or.inl rfl | exact Or.inr rfl)) pgs_nil))) (fun _ _ _ _ _ => pts_nil) (fun _ _ _ _ _ => (pv 4))) pa_nil))))) pss_nil)))))), ?_⟩
    have hxd : x ≠ dl := fun z => by obtain ⟨_, ⟨ys, g, _⟩, _⟩ := hln.at_; rw [← z, W.obj] at g; unfold NDO at g; cases g
    refine q_asgL (xs := [.ref sa]) (el_lst (ea_cons (ev_fldR (ev_var rfl) W.obj T_Rounds.cl T_Rounds.n_start rof_start) ea_nil) (by show 1 ≤ 100000; decide)) fun ol H1 hol e1 hol1 => ?_
    try dsimp only [List.set]
    have hod : ol ≠ dl := fun z => by obtain ⟨_, ⟨ys, g, _⟩, _⟩ := hln.at_; rw [z, g] at hol; cases hol
    let St : List Lv → List Lv → Hp → Prop := fun sp os H' => (∀ y o, y ≠ dl → H y = some o → H' y = some o) ∧ (∃ vs, H' ol = some (.lst vs) ∧ Paired (fun v s => LvR v s H') vs os) ∧ DW P w (LkQ ol) H' dl (sp.map fun s => (s, lnkD fs rs cs ds s)) ∧ sp.Nodup ∧ (st ∈ sp ∨ st ∈ os) ∧ (∀ s ∈ sp, ∀ p ∈ lnkD fs rs cs ds s, p.2 ∈ sp ∨ p.2 ∈ os) ∧ (∀ s, s ∈ sp ∨ s ∈ os → LvOk rs.length FM s ∧ RchL fs rs cs ds st s) ∧ os.length ≤ 20 * sp.length + 1
    have rou : ∀ {H'}, (∀ y o, y ≠ dl → H y = some o → H' y = some o) → RouX K C H' x dx ma ca da (.ref sa) (.ref dl) ln fs rs cs ds := fun {H'} bu => by
      have kb : ∀ b o, H b = some o → (∀ ys, o ≠ NDO P w dl ys) → H' b = some o := fun b o hb hk => bu b o (fun z => by
        obtain ⟨_, ⟨ys, g, _⟩, _⟩ := hln.at_
        rw [z, g] at hb
        exact hk ys (Option.some.inj hb).symm) hb
      obtain ⟨a, b, m1, m2, m3⟩ := W.ma
      have sq : ∀ {b : Addr} {xs : List V}, SqT K H b xs → SqT K H' b xs := fun {b xs} h => by
        rcases h with (h | ⟨q, h⟩) | h
        · exact .inl (.inl (kb _ _ h fun ys e => by unfold NDO at e; cases e))
        · exact .inl (.inr ⟨q, kb _ _ h fun ys e => by unfold NDO at e; cases e⟩)
        · exact .inr h
      exact ⟨bu _ _ hxd W.obj, ⟨a, b, sq m1, sq m2, sq m3⟩, sq W.ca, kb _ _ W.da fun ys e => by unfold NDO at e; cases e⟩
    refine s_while (fun m σ' H' => ∃ sp os z2 z3 z4, σ' = [some (.ref x), some (.ref ol), z2, z3, z4] ∧ St sp os H' ∧ m = (10000 - sp.length) * 100 + os.length) _ ⟨[], [st], _, _, _, rfl, ⟨fun y o _ h => e1 _ _ h, ⟨[.ref sa], hol1, .cons ⟨sa, rfl, hst.up e1⟩ .nil⟩, ⟨[], by obtain ⟨ks, g1, g2⟩ := (hln.up lkR_d e1).at_; cases g2; exact ⟨g1, .nil⟩⟩, List.nodup_nil, .inr List.mem_cons_self, fun _ h => (nomatch h), fun s hs => ?_, by show 1 ≤ 20 * 0 + 1; decide⟩, rfl⟩ ?_
    · rcases hs with h | h
      · cases h
      · rw [List.mem_singleton.mp h]; exact ⟨hsto, .here⟩
    rintro m σ' H2 ⟨sp, os, z2, z3, z4, rfl, S, rfl⟩
    obtain ⟨vs, hvs, hpv⟩ := S.2.1
    refine ⟨!os.isEmpty, et_is (et_truL (ev_var rfl) (sq_of hvs)) (by rw [paired_em hpv]), fun hb H3 e3 => ?_, fun hb H3 e3 => ?_⟩
    · -- a life
      have hne : vs ≠ [] := fun z => by
        rw [paired_em hpv |>.symm, z] at hb; cases hb
      obtain ⟨vs', v, os', l, rfl, rfl, hpv', b, rfl, hbl⟩ := paired_last hpv hne
      obtain ⟨s1, _, s3, s4, s5, s6, s7, s8⟩ := id S
      obtain ⟨hlo, hlr⟩ := s7 l (.inr (List.mem_append_right _ List.mem_cons_self))
      rw [List.length_append] at s8
      have s8 : os'.length + 1 ≤ 20 * sp.length + 1 := s8
      refine ⟨_, fun σ2 H2 h => h, ?_⟩
      refine q_pop (xs := vs') (y := .ref b) (e3 _ _ hvs) (ev_var rfl) fun H4 e4 => ?_
      try dsimp only [List.set]
      have e24 := e3.trans e4
      have hv4 := e24 _ _ hvs
      have tup : ∀ c ys, H4 c = some (.tup ys) → upd H4 ol (.lst vs') c = some (.tup ys) := fun c ys hc => by
        rw [upd_ne fun z => ?_]
        · exact hc
        · rw [z, hv4] at hc; cases hc
      have b5 : ∀ y o, y ≠ ol → H4 y = some o → upd H4 ol (.lst vs') y = some o := fun y o hy ho => by rw [upd_ne hy]; exact ho
      have v5 : upd H4 ol (.lst vs') ol = some (.lst vs') := upd_same
      have d4 := s3.up lkQ_d e24
      have d5 : DW P w (LkQ ol) (upd H4 ol (.lst vs')) dl (sp.map fun s => (s, lnkD fs rs cs ds s)) := by
        obtain ⟨ks, ⟨ys, g1, g2, g3⟩, g4⟩ := d4.at_
        exact ⟨ks, ⟨ys, b5 _ _ hod.symm g1, g2, g3.up tup⟩, Paired.mapP g4 fun _ _ z => ⟨z.1, z.2.un (fun b ob hb1 hb2 _ => b5 _ _ hb1 hb2) tup⟩⟩
      have hb5 : LvH (upd H4 ol (.lst vs')) b l := tup _ _ (e24 _ _ hbl)
      have p5 : Paired (fun v s => LvR v s (upd H4 ol (.lst vs'))) vs' os' := Paired.mapP hpv' fun _ _ ⟨c, h1, h2⟩ => ⟨c, h1, tup _ _ (e24 _ _ h2)⟩
      have bu5 : ∀ y o, y ≠ dl → H y = some o → upd H4 ol (.lst vs') y = some o := fun y o hy ho => b5 _ _ (fun z => by rw [z, hol] at ho; cases ho) (e24 _ _ (s1 y o hy ho))
      generalize upd H4 ol (.lst vs') = H5 at v5 d5 hb5 p5 bu5 ⊢
      have hm : ∀ s, s ∈ sp ∨ s ∈ os' → LvOk rs.length FM s ∧ RchL fs rs cs ds st s := fun s hs => s7 s (hs.imp id (List.mem_append_left _))
      have S5 : ∀ {H' : Hp}, Ex H5 H' → (∀ y o, y ≠ dl → H y = some o → H' y = some o) ∧ H' ol = some (.lst vs') ∧ Paired (fun v s => LvR v s H') vs' os' ∧ DW P w (LkQ ol) H' dl (sp.map fun s => (s, lnkD fs rs cs ds s)) ∧ LvH H' b l := fun {H'} e => ⟨fun y o hy ho => e _ _ (bu5 y o hy ho), e _ _ v5, Paired.mapP p5 fun _ _ z => lvR_d _ _ _ _ e z, d5.up lkQ_d e, hb5.up e⟩
      have hmany := lv_many s4 fun s hs => (hm s (.inl hs)).1
      refine s_when (b := !(lkp (sp.map fun s => (s, lnkD fs rs cs ds s)) l).isSome) (et_B (ev_dni (ev_var rfl) (ev_fldR (ev_var rfl) (bu5 _ _ hxd W.obj) T_Rounds.cl T_Rounds.n_links rof_links) lkQ_d d5.r hb5)) (fun hb H6 e6 => ?_) (fun hb H6 e6 => ?_)
      · -- a new life
        have hno : l ∉ sp := fun z => by
          have h1 : (lkp (sp.map fun s => (s, lnkD fs rs cs ds s)) l).isSome = true := by rw [lkp_fun z]; rfl
          rw [h1] at hb
          cases hb
        have hnk : l ∉ (sp.map fun s => (s, lnkD fs rs cs ds s)).map Prod.fst := by
          rw [List.map_map, show (Prod.fst ∘ fun s => (s, lnkD fs rs cs ds s) : Lv → Lv) = id from rfl, List.map_id]; exact hno
        refine q_nputR ?_
        refine m_methR (ev_var rfl) ((S5 e6).1 _ _ hxd W.obj) rof_no_links_from fun H7 e7 => ?_
        refine (ea_cons (ev_var rfl) ea_nil : EvA (tCons (tVar 2) tNil) [some (.ref x), some (.ref ol), some (.ref b), z3, z4] H7 [.ref b]) H7 (Ex.refl _) _ fun H8 e8 => ?_
        have e58 := e6.trans (e7.trans e8)
        refine ⟨x, dx, ma, ca, da, b, .ref sa, .ref dl, ln, fs, rs, cs, ds, l, rfl, rou (S5 e58).1, ok, (S5 e58).2.2.2.2, hlo.1, fun u us H9 hu e9 hus hpu => ?_⟩
        have huol : u ≠ ol := fun z => by rw [z, (S5 e58).2.1] at hu; cases hu
        refine (ev_fldR (ev_var rfl) ((S5 (e58.trans e9)).1 _ _ hxd W.obj) T_Rounds.cl T_Rounds.n_links rof_links) H9 (Ex.refl _) _ fun H10 e10 => (ev_var rfl) H10 (Ex.refl _) _ fun H11 e11 => ?_
        have e911 := e10.trans e11
        have e511 := (e58.trans e9).trans e911
        obtain ⟨t1, t2, t3, t4, t5⟩ := S5 e511
        refine dw_put t4 t5 (a := lnkD fs rs cs ds l) ⟨u, us, rfl, huol, e911 _ _ hus, Paired.mapP hpu fun _ _ z => z.up fun b ys hb => e911 _ _ hb⟩ (fun H' v y kl h => h.un (fun b ob _ hb hk => kl b ob hb hk) fun b ys hb => kl _ _ hb (.inl ⟨_, rfl⟩)) (by rw [List.length_map]; omega) fun xs' kl d12 => ?_
        rw [putL_new hnk] at d12
        have u12 : upd H11 dl (NDO P w dl xs') u = some (.lst us) := kl _ _ (e911 _ _ hus) (.inr ⟨_, rfl⟩)
        have p12 : Paired (fun v p => DpT v (p.1, some p.2) (upd H11 dl (NDO P w dl xs'))) us (lnkD fs rs cs ds l) := Paired.mapP hpu fun _ _ z => z.up fun b ys hb => kl _ _ (e911 _ _ hb) (.inl ⟨_, rfl⟩)
        have o12 : upd H11 dl (NDO P w dl xs') ol = some (.lst vs') := kl _ _ t2 (.inr ⟨_, rfl⟩)
        have v12 : Paired (fun v s => LvR v s (upd H11 dl (NDO P w dl xs'))) vs' os' := Paired.mapP t3 fun _ _ z => z.kl kl
        have b12 : ∀ y o, y ≠ dl → H y = some o → upd H11 dl (NDO P w dl xs') y = some o := fun y o hy ho => by rw [upd_ne hy]; exact t1 y o hy ho
        have l12 := t5.kl kl
        generalize upd H11 dl (NDO P w dl xs') = H12 at d12 u12 p12 o12 v12 b12 l12
        refine m_extR (ev_var rfl) o12 fun H13 e13 => ?_
        have hlk : lkp ((sp.map fun s => (s, lnkD fs rs cs ds s)) ++ [(l, lnkD fs rs cs ds l)]) l = some (lnkD fs rs cs ds l) := by
          rw [lkp_app, lkp_cons, if_pos rfl]
          have : lkp (sp.map fun s => (s, lnkD fs rs cs ds s)) l = none := by
            cases hq : lkp (sp.map fun s => (s, lnkD fs rs cs ds s)) l with
            | none => rfl
            | some _ =>
              have h1 : (lkp (sp.map fun s => (s, lnkD fs rs cs ds s)) l).isSome = true := by rw [hq]; rfl
              rw [lkp_some] at h1
              exact absurd (of_decide_eq_true h1) hnk
          rw [this]; rfl
        obtain ⟨v2, hv2, a2, us2, rfl, _, hus2, hpu2⟩ := ev_dget (P := P) (w := w) (σ := [some (.ref x), some (.ref ol), some (.ref b), z3, z4]) (td := tFld K (tVar 0) "links") (ty := tVar 2) lkQ_d (ev_fldR (ev_var rfl) (e13 _ _ (b12 _ _ hxd W.obj)) T_Rounds.cl T_Rounds.n_links rof_links) (ev_var rfl) (d12.up lkQ_d e13).r (l12.up e13) hlk
        have hul2 := Paired.length hpu2
        have hll2 := lnkD_len fs rs cs ds l
        have hd20 := ok.d20
        refine m_lcLR (a := a2) (xs := us2) hv2 (sq_of hus2) (fun D2 i Hx => H13 D2 = none ∧ Ex H13 Hx ∧ ∃ ws, Hx D2 = some (.lst ws) ∧ Paired (fun v s => LvR v s Hx) ws (((lnkD fs rs cs ds l).take i).map Prod.snd)) (fun D2 H1 e1 hD2 => ⟨fresh_back e1 hD2, e1.trans (Ex.new hD2), [], upd_same, .nil⟩) (fun D2 i Hx _ h => ex_l h.2.1 (sq_of hus2)) (fun D2 i v Hx hv h => ?_) (fun D2 Hx h => ?_)
        · obtain ⟨hD2, e2, ws, hws, hpw⟩ := h
          obtain ⟨pp, hpp, b9, v9, rfl, hb9, bt, hv9, hbt⟩ := paired_at hpu2 hv
          have htk : (lnkD fs rs cs ds l).take (i + 1) = (lnkD fs rs cs ds l).take i ++ [pp] := by rw [List.take_add_one, hpp]; rfl
          have hwl := Paired.length hpw
          rw [List.length_map, List.length_take] at hwl
          refine ⟨b9, _, rfl, st_of (e2 _ _ hb9), rfl, _, _, rfl, _, _, rfl, ⟨rfl, rfl, ?_⟩⟩
          dsimp only [tYes]
          rw [if_pos rfl]
          refine (ev_var rfl) Hx (Ex.refl _) _ fun Hy ey => ?_
          have hws4 := ey _ _ hws
          have tp9 : ∀ b ys, Hy b = some (.tup ys) → upd Hy D2 (.lst (ws ++ [v9])) b = some (.tup ys) := fun b ys hb => by
            rw [upd_ne fun z => ?_]
            · exact hb
            · rw [z, hws4] at hb; cases hb
          refine ⟨ws, hws4, by rw [sizeLine_eq]; omega, hD2, Ex.mut (e2.trans ey) hD2, ws ++ [v9], upd_same, ?_⟩
          rw [htk, List.map_append]
          exact paired_append (Paired.mapP hpw fun _ _ ⟨c, g1, g2⟩ => ⟨c, g1, tp9 _ _ (ey _ _ g2)⟩) (.cons ⟨bt, hv9, tp9 _ _ (ey _ _ (e2 _ _ hbt))⟩ .nil)
        · obtain ⟨hD2, e2, ws, hws, hpw⟩ := h
          rw [hul2, List.take_length] at hpw
          have hwl := Paired.length hpw
          have hvl := Paired.length v12
          rw [List.length_map] at hwl
          have eo : Ex H12 Hx := e13.trans e2
          have ho := eo _ _ o12
          refine ⟨ol, D2, vs', ws, rfl, rfl, ho, hws, by rw [sizeLine_eq]; omega, ?_⟩
          have tpl : ∀ b ys, Hx b = some (.tup ys) → upd Hx ol (.lst (vs' ++ ws)) b = some (.tup ys) := fun b ys hb => by
            rw [upd_ne fun z => ?_]
            · exact hb
            · rw [z, ho] at hb; cases hb
          have hok2 : ∀ s, s ∈ sp ++ [l] ∨ s ∈ os' ++ (lnkD fs rs cs ds l).map Prod.snd → LvOk rs.length FM s ∧ RchL fs rs cs ds st s := fun s hs => by
            rcases hs with h | h
            · rcases List.mem_append.mp h with h | h
              · exact hm s (.inl h)
              · rw [List.mem_singleton.mp h]; exact ⟨hlo, hlr⟩
            · rcases List.mem_append.mp h with h | h
              · exact hm s (.inr h)
              · obtain ⟨pp, hpp, rfl⟩ := List.mem_map.mp h
                exact ⟨lnkD_ok hf hlo pp hpp, .next hlr hpp⟩
          have nd2 : (sp ++ [l]).Nodup := List.nodup_append.mpr ⟨s4, List.pairwise_singleton _ _, fun y hy z hz e => hno (by rw [← List.mem_singleton.mp hz, ← e]; exact hy)⟩
          have many2 := lv_many nd2 fun s hs => (hok2 s (.inl hs)).1
          rw [List.length_append] at many2
          have many2 : sp.length + 1 ≤ (FM + 1) ^ rs.length := many2
          refine ⟨(10000 - (sp ++ [l]).length) * 100 + (os' ++ (lnkD fs rs cs ds l).map Prod.snd).length, ?_, sp ++ [l], os' ++ (lnkD fs rs cs ds l).map Prod.snd, _, _, _, rfl, ⟨fun y o hy h => ?_, ⟨vs' ++ ws, upd_same, paired_append (Paired.mapP v12 fun _ _ ⟨c, g1, g2⟩ => ⟨c, g1, tpl _ _ (eo _ _ g2)⟩) (Paired.mapP hpw fun _ _ ⟨c, g1, g2⟩ => ⟨c, g1, tpl _ _ g2⟩)⟩, ?_, nd2, ?_, fun s hs pp hpp => ?_, hok2, ?_⟩, rfl⟩
          · rw [List.length_append, List.length_append, List.length_append, List.length_map]
            show (10000 - (sp.length + 1)) * 100 + _ < (10000 - sp.length) * 100 + (os'.length + 1)
            omega
          · rw [upd_ne fun z => by rw [z, hol] at h; cases h]
            exact eo _ _ (b12 y o hy h)
          · rw [List.map_append]
            obtain ⟨ks, ⟨ys, g1, g2, g3⟩, g4⟩ := (d12.up lkQ_d eo).at_
            exact ⟨ks, ⟨ys, by rw [upd_ne hod.symm]; exact g1, g2, g3.up tpl⟩, Paired.mapP g4 fun _ _ z => ⟨z.1, z.2.un (fun b ob hb1 hb2 _ => by rw [upd_ne hb1]; exact hb2) tpl⟩⟩
          · rcases s5 with h | h
            · exact .inl (List.mem_append_left _ h)
            · rcases List.mem_append.mp h with h | h
              · exact .inr (List.mem_append_left _ h)
              · rw [List.mem_singleton.mp h]; exact .inl (List.mem_append_right _ List.mem_cons_self)
          · rcases List.mem_append.mp hs with hs | hs
            · rcases s6 s hs pp hpp with h | h
              · exact .inl (List.mem_append_left _ h)
              · rcases List.mem_append.mp h with h | h
                · exact .inr (List.mem_append_left _ h)
                · rw [List.mem_singleton.mp h]; exact .inl (List.mem_append_right _ List.mem_cons_self)
            · rw [List.mem_singleton.mp hs] at hpp
              exact .inr (List.mem_append_right _ (List.mem_map.mpr ⟨pp, hpp, rfl⟩))
          · rw [List.length_append, List.length_append, List.length_map]
            show _ ≤ 20 * (sp.length + 1) + 1
            omega
      · have hin : l ∈ sp := by
          have h1 : (lkp (sp.map fun s => (s, lnkD fs rs cs ds s)) l).isSome = true := by
            cases hq : (lkp (sp.map fun s => (s, lnkD fs rs cs ds s)) l).isSome with
            | true => rfl
            | false => rw [hq] at hb; cases hb
          rw [lkp_some, List.map_map] at h1
          have := of_decide_eq_true h1
          rwa [show (Prod.fst ∘ fun s => (s, lnkD fs rs cs ds s) : Lv → Lv) = id from rfl, List.map_id] at this
        obtain ⟨t1, t2, t3, t4, _⟩ := S5 e6
        refine ⟨(10000 - sp.length) * 100 + os'.length, by rw [List.length_append]; show _ < _ + (_ + 1); omega, sp, os', _, _, _, rfl, ⟨t1, ⟨vs', t2, t3⟩, t4, s4, ?_, fun s hs p hp => ?_, hm, by omega⟩, rfl⟩
        · rcases s5 with h | h
          · exact .inl h
          · rcases List.mem_append.mp h with h | h
            · exact .inr h
            · rw [List.mem_singleton.mp h]; exact .inl hin
        · rcases s6 s hs p hp with h | h
          · exact .inl h
          · rcases List.mem_append.mp h with h | h
            · exact .inr h
            · rw [List.mem_singleton.mp h]; exact .inl hin
    · obtain ⟨s1, _, s3, s4, s5, s6, s7, _⟩ := S
      have hos : os = [] := by cases os with
        | nil => rfl
        | cons _ _ => cases hb
      subst hos
      refine k sp H3 (fun y o hy h => e3 _ _ (s1 y o hy h)) ((s3.up lkQ_d e3).imp fun _ _ h => h.r) s4 ?_ (fun s hs p hp => ?_) (fun s hs => (s7 s (.inl hs)).1) (fun s hs => (s7 s (.inl hs)).2)
      · rcases s5 with h | h
        · exact h
        · cases h
      · rcases s6 s hs p hp with h | h
        · exact h
        · cases h
end
end Fm
set_option maxHeartbeats 1000000
namespace Fm
open PySem L2 Evl RZ
def keptD (fs rs cs : List Nat) : List (Option Nat) → Lv → Option Lv
  | [], l => some l
  | d :: ds, l => if lostL cs (livD fs rs l d) = true then none else keptD fs rs cs ds (livD fs rs l d)
theorem keptD_app (fs rs cs : List Nat) : ∀ (a b : List (Option Nat)) (l : Lv), keptD fs rs cs (a ++ b) l = (keptD fs rs cs a l).bind (keptD fs rs cs b)
  | [], _, _ => rfl
  | d :: a, b, l => by
    show (if lostL cs (livD fs rs l d) = true then none else keptD fs rs cs (a ++ b) (livD fs rs l d)) = _
    show _ = Option.bind (if lostL cs (livD fs rs l d) = true then none else keptD fs rs cs a (livD fs rs l d)) _
    by_cases h : lostL cs (livD fs rs l d) = true
    · rw [if_pos h, if_pos h]; rfl
    · rw [if_neg h, if_neg h]; exact keptD_app fs rs cs a b _
def spKeptD (K : PySem.W.Frag) : Sp := fun vs H Q _ => ∃ (m cl lb db : Addr) (fs rs cs l : List Nat) (ds : List (Option Nat)), vs = [.ref m, .ref cl, .ref lb, .ref db] ∧ MaT K H m fs rs ∧ SqT K H cl (nV cs) ∧ SqT K H lb (nV l) ∧ SqT K H db (ds.map dvR) ∧ fs.length = rs.length ∧ rs.length ≤ 10 ∧ l.length = rs.length ∧ cs.length ≤ 10 ∧ (∀ c ∈ cs, c < rs.length) ∧ (∀ c, some c ∈ ds → c < rs.length) ∧ ds.length ≤ 100000 ∧
  (keptD fs rs cs ds l = none → ∀ H', Ex H H' → Q .non H') ∧ (∀ l', keptD fs rs cs ds l = some l' → ∀ b H', Ex H H' → SqT K H' b (nV l') → (LvH H lb l → LvH H' b l') → Q (.ref b) H')
section
variable {P : Program} {w : World} {K : PySem.W.Frag} {mg : Str → Option Value} {base : Heap}
abbrev s_lives_kept : Stmt := top 30
theorem sc_lives_kept : FnScope ["machine", "cells", "lives", "deeds", "deed", "cell"] ["machine", "cells", "lives", "deeds"] (defScope s_lives_kept) := ⟨rfl, rfl, rfl, by decide +kernel, rfl, by decide +kernel, by decide +kernel⟩
theorem ok_lives_kept {f f1 : Addr} {fd fd1 : FuncData} (F : Fun K "lives_kept" "lives_kept" s_lives_kept f fd) (T : Txt K mg) (C_lives_done : Cal P w K mg base CX0 3 "lives_done" f1 fd1 ["machine", "lives", "deed"] (spDone K)) : FnOk P w K mg base CX0 4 f fd ["machine", "cells", "lives", "deeds"] (spKeptD K) := by
  refine F.ok sc_lives_kept (fun vs H Q E h => ?_) (fun cdv A outer s H vs Q E hr h => ?_)
  · obtain ⟨_, _, _, _, _, _, _, _, _, rfl, _⟩ := h
    rfl
  · obtain ⟨m, cl, lb, db, fs, rs, cs, l, ds, rfl, hm, hcl, hlb, hdb, hll, h10, hln, hc10, hcs, hds, hdl, k1, k2⟩ := h
    refine ⟨_, (pss_cons (ps_for PassesOwn.never rfl (pi_tupK (K := K) rfl (pv 3)) (pg_name (i := 4) sc_lives_kept.nd rfl (by first | exact Or.inl rfl | exact Or.inr rfl)) (pss_cons (ps_set (i := 2) sc_lives_kept.nd rfl (Or.inr rfl) (pe_call C_lives_done.G (hr.mono (by first | decide | omega)) rfl C_lives_done.g C_lives_done.kp C_lives_done.b .nil pass0 (pa_cons (pv 0) (pa_cons (pv 2) (pa_cons (pv 4) pa_nil)))))
  (pss_one (ps_if (pt_val (pe_callB (any_K (K := K) rfl rfl) (by rfl) T.z_any (by decide +kernel) (pa_cons (pe_lc (own := [("cell", 5)]) (g := gName 5) rfl sc_lives_kept.nd (pi_tupK (K := K) rfl (pv 1)) (blkOk_by (by kernel_rfl)) (fun _ _ _ _ _ => pg_name (i := 5) sc_lives_kept.nd rfl (by first | exact Or.inl rfl | exact Or.inr rfl)) (fun _ _ _ _ _ => pts_nil) (fun _ _ _ _ _ => (pe_cmpR op_eq (pe_ix (ix_K (K := K) rfl) (pv 2) (pv 5) (fun _ _ => rfl)) pe_int (nomark _)))) pa_nil))) (pss_one (ps_ret pe_non)) pss_nil))))
  (pss_one (ps_ret (pv 2)))), ?_⟩
    refine q_forT (a := db) (xs := ds.map dvR) (ev_var rfl) hdb (fun i σ' H' => ∃ b' l' z4 z5, σ' = [some (.ref m), some (.ref cl), some (.ref b'), some (.ref db), z4, z5] ∧ Ex H H' ∧ SqT K H' b' (nV l') ∧ l'.length = rs.length ∧ keptD fs rs cs (ds.take i) l = some l' ∧ (LvH H lb l → LvH H' b' l')) (fun H1 e => ⟨lb, l, _, _, rfl, e, ex_t e hlb, hln, rfl, fun h => h.up e⟩) (fun i σ' H' _ ⟨_, _, _, _, _, e, _⟩ => ex_t e hdb) (fun i v σ' H' hv ⟨b', l', z4, z5, hσ, e, hb', hl', hk, _⟩ => ?_) (fun σ' H' ⟨b', l', z4, z5, hσ, e, hb', hl', hk, hw⟩ => ?_)
    · subst hσ
      rw [List.getElem?_map] at hv
      obtain ⟨d, hd, rfl⟩ := Option.map_eq_some_iff.mp hv
      have hdm := List.mem_of_getElem? hd
      have htk : ds.take (i + 1) = ds.take i ++ [d] := by rw [List.take_add_one, hd]; rfl
      try dsimp only [List.set]
      refine q_callA (ea_cons (ev_var rfl) (ea_cons (ev_var rfl) (ea_cons (ev_var rfl) ea_nil))) fun H1 e1 => ?_
      have e01 := e.trans e1
      refine ⟨m, b', fs, rs, l', d, rfl, hm.up e01, ex_t e1 hb', hll, hl', fun c hc => hds c (by rw [← hc]; exact hdm), h10, fun b2 H2 hb2 e2 h2 => ?_⟩
      try dsimp only [List.set]
      have e02 := e01.trans e2
      have hlen2 : (livD fs rs l' d).length = rs.length := by rw [livD_len]; exact hl'
      have hany : lostL cs (livD fs rs l' d) = ((cs.filter fun _ => true).map fun c => decide ((livD fs rs l' d).getD c 0 = 0)).any id := by
        unfold lostL
        rw [List.filter_eq_self.mpr (fun _ _ => rfl), List.any_map]
        rfl
      have key := el_lcT (K := K) (σ := [some (.ref m), some (.ref cl), some (.ref b2), some (.ref db), some (dvR d), z5]) (H := H2) (a := cl) (tl := tVar 1) (j := 5) (vs := List.map (fun x => x.snd) [(("cell" : Str), 5)]) (zs := cs) (tt := tYes) (te := tOp rEq (tOp (rIx K) (tVar 2) (tVar 5)) (tC (.int 0))) (fun c => .int (c : Nat)) (fun _ => true) (fun c => .bl (decide ((livD fs rs l' d).getD c 0 = 0))) (ev_var rfl) (ex_t e02 hcl) (fun _ => rfl) (by omega) (fun _ _ _ _ => et_yes) (fun c H1 hc e1 _ => ev_is (ev_op (ev_ixT (ev_var rfl) (ev_var rfl) (st_of (e1 _ _ h2)) (nV_at (by rw [hlen2]; exact hcs c hc))) ev_c (rv_eq rfl)) (congrArg V.bl (decide_eq_decide.mpr ⟨fun z => by have := V.int.inj z; omega, fun z => by rw [z]; rfl⟩)))
      have hstep : keptD fs rs cs (ds.take (i + 1)) l = if lostL cs (livD fs rs l' d) = true then none else some (livD fs rs l' d) := by
        rw [htk, keptD_app, hk]
        rfl
      refine s_when (b := lostL cs (livD fs rs l' d)) (et_B (ev_is (ev_any (bs := (cs.filter fun _ => true).map fun c => decide ((livD fs rs l' d).getD c 0 = 0)) (by rw [List.map_map]; exact key)) (by rw [hany]))) (fun hb H3 e3 => ?_) (fun hb H3 e3 => ?_)
      · refine s_ret ev_c fun H4 e4 => k1 ?_ H4 (e02.trans (e3.trans e4))
        have h0 : keptD fs rs cs (ds.take (i + 1)) l = none := by rw [hstep, if_pos hb]
        have h1 : ds = ds.take (i + 1) ++ ds.drop (i + 1) := (List.take_append_drop _ _).symm
        rw [h1, keptD_app, h0]
        rfl
      · exact ⟨b2, livD fs rs l' d, _, _, rfl, e02.trans e3, st_of (e3 _ _ h2), hlen2, by rw [hstep, if_neg (by rw [hb]; exact fun z => nomatch z)], fun _ => e3 _ _ h2⟩
    · subst hσ
      rw [List.length_map, List.take_length] at hk
      exact s_ret (ev_var rfl) fun H4 e4 => k2 l' hk b' H4 (e.trans e4) (ex_t e4 hb') fun h => (hw h).up e4
end
end Fm
set_option maxHeartbeats 1000000
namespace Fm
open PySem L2 Evl RZ
def spChkLot (K : PySem.W.Frag) : Sp := fun vs H Q _ => ∃ (m cl : Addr) (fs rs cs : List Nat), vs = [.ref m, .ref cl] ∧ MaT K H m fs rs ∧ MaOk fs rs ∧ SqT K H cl (nV cs) ∧ cs ≠ [] ∧ cs.Pairwise (· < ·) ∧ (∀ c ∈ cs, c < rs.length) ∧ ∀ H', Ex H H' → Q .non H'
section
variable {P : Program} {w : World} {K : PySem.W.Frag} {mg : Str → Option Value} {base : Heap}
abbrev s_check_lot : Stmt := top 16
theorem sc_check_lot : FnScope ["machine", "value", "before", "cell"] ["machine", "value"] (defScope s_check_lot) := ⟨rfl, rfl, rfl, by decide +kernel, rfl, by decide +kernel, by decide +kernel⟩
theorem ok_check_lot {f f1 : Addr} {fd fd1 : FuncData} (F : Fun K "check_lot" "check_lot" s_check_lot f fd) (T : Txt K mg) (C_check_cell : Cal P w K mg base CX0 4 "check_cell" f1 fd1 ["machine", "value"] (spChkCe K)) : FnOk P w K mg base CX0 5 f fd ["machine", "value"] (spChkLot K) := by
  refine F.ok sc_check_lot (fun vs H Q E h => ?_) (fun cdv A outer s H vs Q E hr h => ?_)
  · obtain ⟨_, _, _, _, _, rfl, _⟩ := h
    rfl
  · obtain ⟨m, cl, fs, rs, cs, rfl, hm, hmo, hcl, hne, hasc, hlt, k⟩ := h
    refine ⟨_, (pss_cons (ps_if (PW.pt (pw_or (pt_not (pt_val (pe_callB (isi_K (K := K) rfl) (by rfl) T.z_isinstance (by decide +kernel) (pa_cons (pv 1) (pa_cons (pe_bltn (v := .ty "tuple") (by rfl) T.z_tuple (by decide +kernel) rfl) pa_nil))))) (pw_or1 (pt_cmpR (eqD_K (K := K) rfl hr.units) (pv 1) (pe_tup pa_nil) (nomark _))))) (pss_one ps_never) pss_nil)
  (pss_cons (ps_set (i := 2) sc_check_lot.nd rfl (Or.inl rfl) (pe_un un_neg pe_int))
  (pss_one (ps_for PassesOwn.never rfl (pi_tupK (K := K) rfl (pv 1)) (pg_name (i := 3) sc_check_lot.nd rfl (by first | exact Or.inl rfl | exact Or.inr rfl)) (pss_cons (ps_expr (pe_call C_check_cell.G (hr.mono (by first | decide | omega)) rfl C_check_cell.g C_check_cell.kp C_check_cell.b .nil pass0 (pa_cons (pv 0) (pa_cons (pv 3) pa_nil))))
  (pss_cons (ps_if (pt_cmpR op_le (pv 3) (pv 2) (nomark _)) (pss_one ps_never) pss_nil)
  (pss_one (ps_set (i := 2) sc_check_lot.nd rfl (Or.inl rfl) (pv 3))))))))), ?_⟩
    have hem : EvT (tTest (tOp (rEqD K) (tVar 1) (tTup tNil))) [some (.ref m), some (.ref cl), none, none] H (decide (cs = [])) := by
      rw [← lvD_eqv]
      refine et_test (fun H1 e1 Q q => ?_)
      refine (ev_var rfl : Ev (tVar 1) [some (.ref m), some (.ref cl), none, none] H (.ref cl)) H1 e1 _ fun H2 e2 => ⟨Nat.zero_le _, fun p hp => ?_⟩
      have e3 := Ex.new (o := .tup []) hp
      refine ⟨lvD cs, lvD [], .tup (ex_t ((e1.trans e2).trans e3) hcl) (by rw [nV_ints]; exact dp_ints _), .tup (st_of upd_same) .nil, lvD_shaped cs, lvD_shaped [], q _ (e2.trans e3)⟩
    refine q_when (b := false || false) (et_or (et_not (a := true) (et_B (ev_isi (t := "tuple") (b := true) (ev_var rfl) (ty_tup hcl) (by decide +kernel)))) fun _ => et_is hem (decide_eq_false hne)) (fun z => nomatch z) fun _ H1 e1 => ?_
    refine q_asg (ev_neg ev_c) fun H2 e2 => ?_
    try dsimp only [List.set]
    have e02 := e1.trans e2
    refine s_forT (a := cl) (xs := nV cs) (ev_var rfl) (ex_t e02 hcl) (fun i σ' H' => ∃ (bf : Int) (z3 : Option V), σ' = [some (.ref m), some (.ref cl), some (.int bf), z3] ∧ Ex H H' ∧ ∀ (j c : Nat), cs[j]? = some c → i ≤ j → bf < (c : Int)) (fun H3 e3 => ⟨-1, _, rfl, e02.trans e3, fun j c _ _ => by omega⟩) (fun i σ' H' _ ⟨_, _, _, e, _⟩ => ex_t e hcl) (fun i v σ' H' hv ⟨bf, z3, hσ, e, hbf⟩ => ?_) (fun σ' H' ⟨_, _, _, e, _⟩ => k H' e)
    subst hσ
    unfold nV at hv
    rw [List.getElem?_map] at hv
    obtain ⟨c, hc, rfl⟩ := Option.map_eq_some_iff.mp hv
    try dsimp only [List.set]
    refine q_call (ea_cons (ev_var rfl) (ea_cons (ev_var rfl) ea_nil)) fun H3 e3 => ⟨m, fs, rs, c, rfl, hm.up (e.trans e3), hmo, hlt c (List.mem_of_getElem? hc), fun H4 e4 => ?_⟩
    have hcb := hbf i c hc (Nat.le_refl _)
    refine q_when (b := false) (et_is (et_i0 (g := fun i j => decide (i ≤ j)) (ev_var rfl) (ev_var rfl)) (decide_eq_false (by omega))) (fun z => nomatch z) fun _ H5 e5 => ?_
    refine s_asg (ev_var rfl) fun H6 e6 => ?_
    refine ⟨(c : Int), _, rfl, e.trans (e3.trans (e4.trans (e5.trans e6))), fun j c' hj hij => ?_⟩
    obtain ⟨hil, hic⟩ := List.getElem?_eq_some_iff.mp hc
    obtain ⟨hjl, hjc⟩ := List.getElem?_eq_some_iff.mp hj
    have := List.pairwise_iff_getElem.mp hasc i j hil hjl (by omega)
    rw [hic, hjc] at this
    omega
end
end Fm
set_option maxHeartbeats 1000000
namespace Fm
open PySem L2 Evl RZ
def ldS (q : Nat × Nat) (f : Nat) : Nat × Nat := ((q.1 * f + q.2) / Nat.gcd (q.1 * f + q.2) (q.2 * f), q.2 * f / Nat.gcd (q.1 * f + q.2) (q.2 * f))
def loadD (fs cs : List Nat) : Nat × Nat := (cs.map fun c => fs.getD c 0).foldl ldS (0, 1)
theorem ldS_pos {q : Nat × Nat} {f : Nat} (hq : 0 < q.2) (hf : 0 < f) : 0 < (ldS q f).2 := by
  have h1 : 0 < q.2 * f := Nat.mul_pos hq hf
  have h2 := Nat.gcd_dvd_right (q.1 * f + q.2) (q.2 * f)
  exact Nat.div_pos (Nat.le_of_dvd h1 h2) (Nat.gcd_pos_of_pos_right _ h1)
theorem ldS_le {q : Nat × Nat} {f i : Nat} (h1 : q.2 ≤ 8 ^ i) (h2 : q.1 ≤ i * 8 ^ i) (hf : f ≤ 8) : (ldS q f).2 ≤ 8 ^ (i + 1) ∧ (ldS q f).1 ≤ (i + 1) * 8 ^ (i + 1) := by
  have e : 8 ^ (i + 1) = 8 ^ i * 8 := Nat.pow_succ 8 i
  have a := Nat.mul_le_mul h1 hf
  have b := Nat.mul_le_mul h2 hf
  refine ⟨Nat.le_trans (Nat.div_le_self _ _) (by rw [e]; exact a), Nat.le_trans (Nat.div_le_self _ _) ?_⟩
  rw [e, Nat.add_mul, Nat.one_mul, ← Nat.mul_assoc]
  have : q.2 ≤ 8 ^ i * 8 := by omega
  omega
def spLoad (K : PySem.W.Frag) : Sp := fun vs H Q _ => ∃ (m cl : Addr) (fs rs cs : List Nat), vs = [.ref m, .ref cl] ∧ MaT K H m fs rs ∧ MaOk fs rs ∧ SqT K H cl (nV cs) ∧ cs ≠ [] ∧ cs.Pairwise (· < ·) ∧ (∀ c ∈ cs, c < rs.length) ∧ cs.length ≤ 4 ∧ (∀ x ∈ fs, 1 ≤ x ∧ x ≤ 8) ∧
  ∀ t H', Ex H H' → H' t = some (.tup [.int ((loadD fs cs).1 : Nat), .int ((loadD fs cs).2 : Nat)]) → Q (.ref t) H'
section
variable {P : Program} {w : World} {K : PySem.W.Frag} {mg : Str → Option Value} {base : Heap}
abbrev s_load : Stmt := top 33
theorem sc_load : FnScope ["machine", "cells", "top", "low", "cell", "fade"] ["machine", "cells"] (defScope s_load) := ⟨rfl, rfl, rfl, by decide +kernel, rfl, by decide +kernel, by decide +kernel⟩
theorem ok_load {f f1 f2 f3 : Addr} {fd fd1 fd2 fd3 : FuncData} (F : Fun K "load" "load" s_load f fd) (T : Txt K mg) (C_check_machine : Cal P w K mg base CX0 4 "check_machine" f1 fd1 ["value"] (spChkMa K)) (C_check_lot : Cal P w K mg base CX0 5 "check_lot" f2 fd2 ["machine", "value"] (spChkLot K)) (C_ratio_of : Cal P w K mg base CX0 1 "ratio_of" f3 fd3 ["top", "low"] (spRat K)) : FnOk P w K mg base CX0 6 f fd ["machine", "cells"] (spLoad K) := by
  refine F.ok sc_load (fun vs H Q E h => ?_) (fun cdv A outer s H vs Q E hr h => ?_)
  · obtain ⟨_, _, _, _, _, rfl, _⟩ := h
    rfl
  · obtain ⟨m, cl, fs, rs, cs, rfl, hm, hmo, hcl, hne, hasc, hlt, h4, hf, k⟩ := h
    refine ⟨_, (pss_cons (ps_expr (pe_call C_check_machine.G (hr.mono (by first | decide | omega)) rfl C_check_machine.g C_check_machine.kp C_check_machine.b .nil pass0 (pa_cons (pv 0) pa_nil)))
  (pss_cons (ps_expr (pe_call C_check_lot.G (hr.mono (by first | decide | omega)) rfl C_check_lot.g C_check_lot.kp C_check_lot.b .nil pass0 (pa_cons (pv 0) (pa_cons (pv 1) pa_nil))))
  (pss_cons (ps_set (i := 2) sc_load.nd rfl (Or.inl rfl) pe_int)
  (pss_cons (ps_set (i := 3) sc_load.nd rfl (Or.inl rfl) pe_int)
  (pss_cons (ps_for PassesOwn.never rfl (pi_tupK (K := K) rfl (pv 1)) (pg_name (i := 4) sc_load.nd rfl (by first | exact Or.inl rfl | exact Or.inr rfl)) (pss_cons (ps_set (i := 5) sc_load.nd rfl (Or.inl rfl) (pe_ix (ix_K (K := K) rfl) (pe_ix (ix_K (K := K) rfl) (pv 0) pe_int (fun _ _ => rfl)) (pv 4) (fun _ _ => rfl)))
  (pss_one (ps_asg (pe_call C_ratio_of.G (hr.mono (by first | decide | omega)) rfl C_ratio_of.g C_ratio_of.kp C_ratio_of.b .nil pass0 (pa_cons (pe_op op_add (pe_op op_mul (pv 2) (pv 5)) (pv 3)) (pa_cons (pe_op op_mul (pv 3) (pv 5)) pa_nil))) (pg_tup rfl (pgs_cons (pg_name (i := 2) sc_load.nd rfl (by first | exact Or.inl rfl | exact Or.inr rfl)) (pgs_cons (pg_name (i := 3) sc_load.nd rfl (by first | exact Or.inl rfl | exact Or.inr rfl)) pgs_nil)))))))
  (pss_one (ps_ret (pe_tup (pa_cons (pv 2) (pa_cons (pv 3) pa_nil)))))))))), ?_⟩
    refine q_call (ea_cons (ev_var rfl) ea_nil) fun H1 e1 => ⟨m, fs, rs, rfl, hm.up e1, hmo, fun H2 e2 => ?_⟩
    have e02 := e1.trans e2
    refine q_call (ea_cons (ev_var rfl) (ea_cons (ev_var rfl) ea_nil)) fun H3 e3 => ⟨m, cl, fs, rs, cs, rfl, hm.up (e02.trans e3), hmo, ex_t (e02.trans e3) hcl, hne, hasc, hlt, fun H4 e4 => ?_⟩
    have e04 := e02.trans (e3.trans e4)
    refine q_asg ev_c fun H5 e5 => ?_
    refine q_asg ev_c fun H6 e6 => ?_
    try dsimp only [List.set]
    have e06 := e04.trans (e5.trans e6)
    obtain ⟨fa, ra, m1, m2, m3⟩ := id hm
    have hll := hmo.ll
    refine q_forT (a := cl) (xs := nV cs) (ev_var rfl) (ex_t e06 hcl) (fun i σ' H' => ∃ (q : Nat × Nat) (z4 z5 : Option V), σ' = [some (.ref m), some (.ref cl), some (.int (q.1 : Nat)), some (.int (q.2 : Nat)), z4, z5] ∧ Ex H H' ∧ q = ((cs.take i).map fun c => fs.getD c 0).foldl ldS (0, 1) ∧ 0 < q.2 ∧ q.2 ≤ 8 ^ i ∧ q.1 ≤ i * 8 ^ i) (fun H7 e7 => ⟨(0, 1), _, _, rfl, e06.trans e7, rfl, by decide, by decide, by decide⟩) (fun i σ' H' _ ⟨_, _, _, _, e, _⟩ => ex_t e hcl) (fun i v σ' H' hv ⟨q, z4, z5, hσ, e, hq, hp, hb1, hb2⟩ => ?_) (fun σ' H' ⟨q, z4, z5, hσ, e, hq, hp, hb1, hb2⟩ => ?_)
    · subst hσ
      unfold nV at hv
      rw [List.getElem?_map] at hv
      obtain ⟨c, hc, rfl⟩ := Option.map_eq_some_iff.mp hv
      have hcm := List.mem_of_getElem? hc
      have hil : i < cs.length := (List.getElem?_eq_some_iff.mp hc).1
      have htk : cs.take (i + 1) = cs.take i ++ [c] := by rw [List.take_add_one, hc]; rfl
      have hcf : c < fs.length := by have := hlt c hcm; omega
      have hfm : fs.getD c 0 ∈ fs := by rw [List.getD_eq_getElem?_getD, List.getElem?_eq_getElem hcf]; exact List.getElem_mem hcf
      obtain ⟨hf1, hf8⟩ := hf _ hfm
      try dsimp only [List.set]
      refine q_asg (v := .int (fs.getD c 0 : Nat)) (ev_ixT (ev_ixT (ev_var rfl) ev_c (ex_t e m1) rfl) (ev_var rfl) (ex_t e m2) (nV_at hcf)) fun H7 e7 => ?_
      try dsimp only [List.set]
      have p4 : 8 ^ i ≤ 8 ^ 3 := Nat.pow_le_pow_right (by decide) (by omega)
      have p4' : i * 8 ^ i ≤ 3 * 8 ^ 3 := Nat.mul_le_mul (by omega) p4
      have pq1 : q.1 ≤ 1536 := Nat.le_trans hb2 (Nat.le_trans p4' (by decide))
      have pq2 : q.2 ≤ 512 := Nat.le_trans hb1 (Nat.le_trans p4 (by decide))
      have m8 : q.1 * fs.getD c 0 ≤ 1536 * 8 := Nat.mul_le_mul pq1 hf8
      have m9 : q.2 * fs.getD c 0 ≤ 512 * 8 := Nat.mul_le_mul pq2 hf8
      have m10 : 0 < q.2 * fs.getD c 0 := Nat.mul_pos hp hf1
      refine m_callR ?_
      refine (ea_cons (ev_is (ev_i0 (ev_iC (g := fun i j => .int (i * j)) (ev_var rfl) (ev_var rfl) (.inl ⟨by omega, by omega⟩)) (ev_var rfl)) (show V.int _ = V.int ((q.1 * fs.getD c 0 + q.2 : Nat) : Int) by rw [Int.natCast_add, Int.natCast_mul])) (ea_cons (ev_is (ev_iC (g := fun i j => .int (i * j)) (ev_var rfl) (ev_var rfl) (.inl ⟨by omega, by omega⟩)) (show V.int _ = V.int ((q.2 * fs.getD c 0 : Nat) : Int) by rw [Int.natCast_mul])) ea_nil)) H7 (Ex.refl _) _ fun H8 e8 => ?_
      refine ⟨_, _, rfl, m10, by omega, by omega, fun t H9 ht e9 h9 => ?_⟩
      have e79 := e7.trans (e8.trans e9)
      refine ⟨t, _, rfl, st_of h9, rfl, _, _, rfl, _, _, rfl, rfl, ?_⟩
      obtain ⟨g1, g2⟩ := ldS_le hb1 hb2 hf8
      refine ⟨ldS q (fs.getD c 0), _, _, rfl, e.trans e79, ?_, ldS_pos hp hf1, g1, g2⟩
      rw [htk, List.map_append, List.foldl_append, ← hq]
      rfl
    · subst hσ
      rw [nV_len, List.take_length] at hq
      refine s_retU (eu_tup (vs := [.int (q.1 : Nat), .int (q.2 : Nat)]) (ea_cons (ev_var rfl) (ea_cons (ev_var rfl) ea_nil)) (show 2 ≤ 100000 by decide)) fun t H7 _ e7 h7 => ?_
      exact k t H7 (e.trans e7) (by rw [h7, hq]; rfl)
end
end Fm
set_option maxHeartbeats 1000000
namespace Fm
open PySem L2 Evl RZ
def spAreD (K : PySem.W.Frag) : Sp := fun vs H Q _ => ∃ (m : Addr) (fs rs : List Nat) (v : V), vs = [.ref m, v] ∧ MaT K H m fs rs ∧ MaOk fs rs ∧
  ((v = .non ∧ ∀ H', Ex H H' → Q (.bl false) H') ∨ ∃ (b : Addr) (ds : List (Option Nat)), v = .ref b ∧ SqT K H b (ds.map dvR) ∧ ds.length ≤ 400 ∧ (∀ c, some c ∈ ds → c < fs.length) ∧ ∀ H', Ex H H' → Q (.bl true) H')
section
variable {P : Program} {w : World} {K : PySem.W.Frag} {mg : Str → Option Value} {base : Heap}
abbrev s_are_deeds : Stmt := top 29
theorem sc_are_deeds : FnScope ["machine", "value", "deed"] ["machine", "value"] (defScope s_are_deeds) := ⟨rfl, rfl, rfl, by decide +kernel, rfl, by decide +kernel, by decide +kernel⟩
theorem ok_are_deeds {f f1 : Addr} {fd fd1 : FuncData} (F : Fun K "are_deeds" "are_deeds" s_are_deeds f fd) (T : Txt K mg) (C_is_integer : Cal P w K mg base CX0 2 "is_integer" f1 fd1 ["value", "low", "high"] (spIsInt K)) : FnOk P w K mg base CX0 3 f fd ["machine", "value"] (spAreD K) := by
  refine F.ok sc_are_deeds (fun vs H Q E h => ?_) (fun cdv A outer s H vs Q E hr h => ?_)
  · obtain ⟨_, _, _, _, rfl, _⟩ := h
    rfl
  · obtain ⟨m, fs, rs, v, rfl, hm, hmo, hv⟩ := h
    refine ⟨_, (pss_cons (ps_if (PW.pt (pw_or (pt_not (pt_val (pe_callB (isi_K (K := K) rfl) (by rfl) T.z_isinstance (by decide +kernel) (pa_cons (pv 1) (pa_cons (pe_bltn (v := .ty "tuple") (by rfl) T.z_tuple (by decide +kernel) rfl) pa_nil))))) (pw_or1 (pt_cmpR op_gt (pe_callB (len_K (K := K) rfl) (by rfl) T.z_len (by decide +kernel) (pa_cons (pv 1) pa_nil)) (pe_glob (v := .int 400) rfl T.c_MOST_DEEDS.choose_spec ⟨_, rfl⟩) (nomark _))))) (pss_one (ps_ret pe_bl)) pss_nil)
  (pss_one (ps_ret (pe_callB (all_K (K := K) rfl rfl) (by rfl) T.z_all (by decide +kernel) (pa_cons (pe_lc (own := [("deed", 2)]) (g := gName 2) rfl sc_are_deeds.nd (pi_tupK (K := K) rfl (pv 1)) (blkOk_by (by kernel_rfl)) (fun _ _ _ _ _ => pg_name (i := 2) sc_are_deeds.nd rfl (by first | exact Or.inl rfl | exact Or.inr rfl)) (fun _ _ _ _ _ => pts_nil) (fun _ _ _ _ _ => (pe_or (pe_cmpR op_isN (pv 2) pe_non (nomark _)) (pe_one (pe_call C_is_integer.G (hr.mono (by first | decide | omega)) rfl C_is_integer.g C_is_integer.kp C_is_integer.b .nil pass0 (pa_cons (pv 2) (pa_cons pe_int (pa_cons (pe_op op_sub (pe_callB (len_K (K := K) rfl) (by rfl) T.z_len (by decide +kernel) (pa_cons (pe_ix (ix_K (K := K) rfl) (pv 0) pe_int (fun _ _ => rfl)) pa_nil)) pe_int) pa_nil)))))))) pa_nil))))), ?_⟩
    rcases hv with ⟨rfl, k⟩ | ⟨b, ds, rfl, hb, hl, hc, k⟩
    · refine q_when (b := true) (et_is (et_or (b := false) (et_not (a := false) (et_B (ev_isi (t := "NoneType") (b := false) (ev_var rfl) (.base .non) (by decide +kernel)))) fun z => nomatch z) rfl) (fun _ H1 e1 => ?_) (fun z => nomatch z)
      exact s_ret ev_c fun H2 e2 => k H2 (e1.trans e2)
    · obtain ⟨a1, b1, hm0, hf, hr⟩ := hm
      have hfl := hmo.l1
      refine q_when (b := false) (et_is (et_or (b := false) (et_not (a := true) (et_B (ev_isi (t := "tuple") (b := true) (ev_var rfl) (ty_tup hb) (by decide +kernel)))) fun _ => et_is (et_i0 (g := fun i j => decide (j < i)) (ev_lnT (ev_var rfl) hb) ev_c) (decide_eq_false (by rw [List.length_map]; omega))) rfl) (fun z => nomatch z) fun _ H1 e1 => ?_
      have hzs : (ds.map fun d => d.elim 0 (· + 1)).map (fun n => dvR (if n = 0 then none else some (n - 1))) = ds.map dvR := by
        rw [List.map_map]
        refine List.map_congr_left fun d _ => ?_
        cases d with
        | none => rfl
        | some c => rfl
      have hft : ∀ xs : List Nat, xs.filter (fun _ => true) = xs := fun xs => List.filter_eq_self.mpr fun _ _ => rfl
      refine s_ret (ev_is (ev_all (bs := ((ds.map fun d => d.elim 0 (· + 1)).filter fun _ => true).map fun _ => true) (by
        rw [List.map_map]
        refine el_lcT (zs := ds.map fun d => d.elim 0 (· + 1)) (fun n => dvR (if n = 0 then none else some (n - 1))) (fun _ => true) (fun _ => V.bl true) (ev_var rfl) (by rw [hzs]; exact ex_t e1 hb) (fun _ => rfl) (by rw [List.length_map]; omega) (fun _ _ _ _ => et_yes) (fun n H' hn e' _ => ?_)
        obtain ⟨y, hy, rfl⟩ := List.mem_map.mp hn
        intro H2 e2 Q1 q
        refine (ev_isN (ev_var rfl)) H2 e2 _ fun H3 e3 => ⟨_, rfl, ?_⟩
        cases y with
        | none =>
          show if decide (V.non = V.non) = true then _ else _
          rw [if_pos (decide_eq_true rfl)]
          exact q H3 e3
        | some c =>
          rw [if_neg (by rw [decide_eq_false (fun z => nomatch z)]; exact Bool.false_ne_true)]
          have e13 := e1.trans ((e'.trans e2).trans e3)
          have hcc := hc c hy
          refine (ev_is (ev_callV (ea_cons (ev_var rfl) (ea_cons ev_c (ea_cons (ev_i0 (ev_lnT (ev_ixT (ev_var rfl) ev_c (ex_t e13 hm0) rfl) (ex_t e13 hf)) ev_c) ea_nil))) fun H4 e4 Q q => ⟨_, _, _, some (c : Int), rfl, rfl, q⟩) (congrArg V.bl ?_)) H3 (Ex.refl _) _ fun H4 e4 => q H4 (e3.trans e4)
          rw [nV_len]
          have g1 : (0 : Int) ≤ (c : Int) := by omega
          have g2 : (c : Int) ≤ (fs.length : Int) - 1 := by omega
          show (decide ((0 : Int) ≤ (c : Int)) && decide ((c : Int) ≤ (fs.length : Int) - 1)) = true
          rw [decide_eq_true g1, decide_eq_true g2]
          rfl)) (congrArg V.bl ?_)) fun H2 e2 => k H2 (e1.trans e2)
      rw [hft, List.all_map]
      exact List.all_eq_true.mpr fun _ _ => rfl
end
end Fm
set_option maxHeartbeats 1000000
namespace Fm
open PySem PySem.W PySem.Calls PyProof.Rows PySem.Spec L2 Evl
def tNGetD (P : Program) (w : World) (td ty tx : TE) : TE := fun σ H Q => td σ H fun x H1 => ∃ a kvs0, x = .ref a ∧ NDR P w H1 a kvs0 ∧ ty σ H1 fun y H2 => tx σ H2 fun z H3 => ∃ o, NGet P w H3 a y o ∧ Q (o.getD z) H3
section
variable {X : Cx} {pins : List (Addr × Obj)} {σ : L2.St} {H : Hp} {s : Shared} {a d : Addr} {y v z : V} {u r : Value} {A : Around} {E : Value → Shared → Prop} {kvs : List (NestedKey × V)} {k : NestedKey} {o e f : Expr} {td ty tx : TE} {apos cpos : Pos}
theorem nd_get2 {Q : Value → Shared → Prop} (hu : A.units + 64 < cLine) (I : Inv X pins σ H s) (g : NDR X.prog X.w H d kvs) (hk : NK H y k) (hdp : k.depth ≤ 8) (ht : ∃ b, y = .ref b) (ry : RelV y u) (rd : RelV z r) (h : ∀ w' s', Inv X pins σ H s' → RelV ((valV kvs k).getD z) w' → Q w' s') :
    wpAny (model X.prog X.w) A (call (.builtin "dict.get") [.ref d, u, r]) Q E s := by
  obtain ⟨b, rfl⟩ := ht
  cases (show u = Value.ref b from ry)
  obtain ⟨hd, xs, z, rel, dd⟩ := nd_of I g
  refine call_meetsIn PySem.F.slot_dict_get dd.typeIs PySem.F.entry_dict_get (PySem.F.args_dict_get_3 _ _ _) (meetsH_dict_get_default (nestedKind X.prog X.w) d b hd r) ⟨by show A.units + 1 + 8 < cLine; omega, k, xs, ⟨nk_is I.hok hk rfl, hdp⟩, dd, h _ _ (I.tok _) ?_⟩
  exact (rel.val k).getD rd
theorem pe_ngetd (hu : X.A.units + 64 < cLine) (ho : PE X o td) (he : PE X e ty) (hf : PE X f tx) (m : M2 X o "get" apos e f cpos) : PE X (.Call (.Attribute o "get" apos) [e, f] [] cpos) (tNGetD X.prog X.w td ty tx) := by
  refine ⟨fun pins s σ H Q I h => ?_⟩
  refine wpAny_Call_method m.base m.few m.line PySem.F.plainAttrs_dict PySem.F.slot_dict_get PySem.F.type_dict_get (thn (ho.run pins s σ H _ I h) fun u s1 ⟨x, H1, I1, rx, a, kvs0, ex, d, q1⟩ => ?_)
  subst ex
  obtain rfl : u = Value.ref a := rx
  refine ⟨nd_typeIs I1 d, fun b q => ?_, ?_⟩
  · cases q
    obtain ⟨_, xs, _, _, dd⟩ := nd_of I1 d
    obtain ⟨ob, _, _, h1, h2, _⟩ := dd
    exact ⟨ob, h1, h2.2.1⟩
  rw [m.trees]
  refine Calls.callWith_builtin rfl (Calls.evalArgs_plain (Calls.spliced_cons (thn (he.run pins s1 σ H1 _ I1 q1) fun iv s2 ⟨y, H2, I2, ry, q2⟩ =>
    Calls.spliced_cons (thn (hf.run pins s2 σ H2 _ I2 q2) fun fv s3 ⟨z, H3, I3, rz, ov, ⟨kvs, k, g, hk, hdp, ht, l⟩, q3⟩ => Calls.spliced_nil ?_))))
  subst l
  exact nd_get2 hu I3 g hk hdp ht ry rz fun w' s4 I4 rw' => ⟨_, H3, I4, rw', q3⟩
end
theorem ngetd_K {X : Cx} {P : Program} {w : World} {o e f : Expr} {td ty tx : TE} {apos cpos : Pos} (hP : X.prog = P) (hw : X.w = w) (hu : X.A.units + 64 < cLine) (ho : PE X o td) (he : PE X e ty) (hf : PE X f tx) (m : M2 X o "get" apos e f cpos) : PE X (.Call (.Attribute o "get" apos) [e, f] [] cpos) (tNGetD P w td ty tx) := by subst hP hw; exact pe_ngetd hu ho he hf m
end Fm
set_option maxHeartbeats 1000000
namespace Fm
open PySem L2 Evl RZ
section
variable {P : Program} {w : World} {K : PySem.W.Frag} {σ : L2.St} {H : Hp} {td : TE} {d : Addr} {Q : VK}
def HeldD (P : Program) (w : World) (d : Addr) (H : Hp) (H' : Hp) : Prop := (∀ y o, y ≠ d → H y = some o → H' y = some o) ∧ ∃ od xs, H d = some (NDO P w d xs) ∧ H' d = some (.frz od (NDO P w d xs))
theorem HeldD.up {H' H'' : Hp} (e : Ex H' H'') (h : HeldD P w d H H') : HeldD P w d H H'' := ⟨fun y o a b => e _ _ (h.1 y o a b), let ⟨od, xs, g1, g2⟩ := h.2; ⟨od, xs, g1, e _ _ g2⟩⟩
theorem HeldD.kl {H' : Hp} (h : HeldD P w d H H') : Kl H H' := fun y o hy ho => h.1 y o (fun z => by
  obtain ⟨_, xs, g, _⟩ := h.2
  rw [z, g] at hy
  cases hy
  rcases ho with ⟨_, e⟩ | ⟨_, e⟩ <;> (unfold NDO at e; cases e)) hy
theorem HeldD.dw {α : Type} {R : V → α → Hp → Prop} {H' : Hp} {b : Addr} {xs : List (Lv × α)} (r : ∀ v x H H', Kl H H' → R v x H → R v x H') (h : HeldD P w d H H') (hb : b ≠ d) (hd : DW P w R H b xs) : DW P w R H' b xs :=
  hd.kl (fun v x => r v x _ _ h.kl) h.kl fun o ho => h.1 b o hb ho
theorem m_dcItems {α β : Type} {R : V → α → Hp → Prop} {R' : V → β → Hp → Prop} {xs : List (Lv × α)} {g : TG} {tt : TT} {tk tv : TE} {vs : List Nat} (f : Lv → α → Option β) (hr : ∀ v x H H', Kl H H' → R v x H → R v x H') (hr' : ∀ v x H H', Kl H H' → R' v x H → R' v x H') (h : DW P w R H d xs) (hnd : (xs.map Prod.fst).Nodup) (hm : xs.length ≤ 100000) (hl : ∀ od ys, Ev td σ (upd H d (.frz od (NDO P w d ys))) (.ref d))
    (hs : ∀ x ∈ xs, ∀ (D T kb : Addr) (v : V) (H' : Hp) (N : Hp → Prop), HeldD P w d H H' → H' T = some (.tup [.ref kb, v]) → LvH H' kb x.1 → R v x.2 H' →
      (f x.1 x.2 = none → ∀ H3, Ex H' H3 → N H3) → (∀ c, f x.1 x.2 = some c → ∀ z H5, Ex H' H5 → R' z c H5 → PutN P w D (.ref kb) z H5 N) → dcTurn P w D g tt tk tv vs σ N (.ref T) H')
    (q : ∀ D H', H D = none → Ex H H' → DW P w R' H' D (xs.filterMap fun x => (f x.1 x.2).map fun c => (x.1, c)) → Q (.ref D) H') : tLockE (tDcN P w (iItemsN P w td) g tt tk tv vs) σ H Q := by
  obtain ⟨kvs, ⟨ys, hd, hz, rel⟩, hk⟩ := h.at_
  have hlen : kvs.length = xs.length := Paired.length hk
  refine ⟨d, _, hd, True.intro, fun od => ?_⟩
  refine hl od ys _ (Ex.refl _) _ fun H2 e2 => ⟨d, od, ys, kvs, rfl, e2 _ _ upd_same, Paired.mapP rel fun _ _ z => ⟨z.1, z.2.2⟩, fun D hD => ?_⟩
  have hDd : D ≠ d := fun z => by rw [z, e2 _ _ upd_same] at hD; cases hD
  have hD0 : H D = none := by
    cases hq : H D with
    | none => rfl
    | some o => rw [e2 _ _ (by rw [upd_ne hDd]; exact hq)] at hD; cases hD
  have base : ∀ y o, y ≠ d → H y = some o → H2 y = some o := fun y o hy ho => e2 _ _ (by rw [upd_ne hy]; exact ho)
  let F : Lv × α → Option (Lv × β) := fun x => (f x.1 x.2).map fun c => (x.1, c)
  refine dcn_it walk_itemsN (fun i H' => H' d = some (.frz od (NDO P w d ys)) ∧ (∀ y o, y ≠ d → H y = some o → H' y = some o) ∧ DW P w R' H' D ((xs.take i).filterMap F)) ⟨?_, ?_, ?_⟩ (fun i H' _ p => p.1) ?_ ?_
  · rw [upd_ne hDd.symm]; exact e2 _ _ upd_same
  · intro y o hy ho
    rw [upd_ne fun z => by rw [z, hD0] at ho; cases ho]
    exact base y o hy ho
  · exact ⟨[], ⟨[], upd_same, Nat.zero_le _, .nil⟩, .nil⟩
  · rintro i v H3 H4 hi ⟨p1, p2, p3⟩ ⟨T, kv, e, hkv, hye, rfl, hT, rfl⟩
    obtain ⟨kv', hkv', hke, ⟨hnk, _⟩, _⟩ := paired_get rel hye
    rw [hkv] at hkv'
    cases hkv'
    obtain ⟨x0, hx0, hk1, hk2⟩ := paired_at hk hkv
    have hf : (xs.map Prod.fst)[i]? = some x0.1 := by rw [List.getElem?_map, hx0]; rfl
    have ht : xs.take (i + 1) = xs.take i ++ [x0] := by rw [List.take_add_one, hx0]; rfl
    have e4 := Ex.new (o := .tup [.ref e.2.1, kv.2]) hT
    have hT4 : upd H3 T (.tup [.ref e.2.1, kv.2]) T = some (.tup [.ref e.2.1, kv.2]) := upd_same
    have p14 := e4 _ _ p1
    have p24 : ∀ y o, y ≠ d → H y = some o → upd H3 T (.tup [.ref e.2.1, kv.2]) y = some o := fun y o a b => e4 _ _ (p2 y o a b)
    have p34 := p3.up (fun v x H H' e => hr' v x H H' (Kl.of e)) e4
    generalize upd H3 T (.tup [.ref e.2.1, kv.2]) = H4 at hT4 p14 p24 p34 ⊢
    have HD : HeldD P w d H H4 := ⟨p24, od, ys, hd, p14⟩
    have tup : ∀ b zs, H b = some (.tup zs) → H4 b = some (.tup zs) := fun b zs hb => HD.kl _ _ hb (.inl ⟨_, rfl⟩)
    have hb : LvH H4 e.2.1 x0.1 := nk_lv (by rw [← hk1]; exact hnk.up tup)
    have hxm := List.mem_of_getElem? hx0
    refine hs x0 hxm D T e.2.1 kv.2 H4 _ HD hT4 hb (hr _ _ _ _ HD.kl hk2) (fun hn H5 e5 => ?_) fun c hc z H5 e5 hz5 => ?_
    · refine ⟨e5 _ _ p14, fun y o a b => e5 _ _ (p24 y o a b), ?_⟩
      have hF : F x0 = none := by show (f x0.1 x0.2).map _ = none; rw [hn]; rfl
      rw [ht, List.filterMap_append, List.filterMap_cons, hF]
      simpa using p34.up (fun v x H H' e => hr' v x H H' (Kl.of e)) e5
    · obtain ⟨kvs', g1, g2⟩ := (p34.up (fun v x H H' e => hr' v x H H' (Kl.of e)) e5).at_
      have hl2 := Paired.length g2
      have hlm := List.length_filterMap_le F (xs.take i)
      rw [List.length_take] at hlm
      have hno : x0.1 ∉ (((xs.take i).filterMap F).map Prod.fst) := fun z => by
        obtain ⟨y, hy, hy2⟩ := List.mem_map.mp z
        obtain ⟨x1, hx1, hx2⟩ := List.mem_filterMap.mp hy
        obtain ⟨c1, _, rfl⟩ := Option.map_eq_some_iff.mp hx2
        obtain ⟨j2, hj, hgj⟩ := List.mem_take_iff_getElem.mp hx1
        have hil : i < xs.length := (List.getElem?_eq_some_iff.mp hx0).1
        refine List.pairwise_iff_getElem.mp hnd j2 i (by rw [List.length_map]; omega) (by rw [List.length_map]; omega) (by omega) ?_
        rw [List.getElem_map, List.getElem_map, hgj, (List.getElem?_eq_some_iff.mp hx0).2]
        exact hy2
      obtain ⟨ysD, gD, _, _⟩ := id g1
      refine ⟨kvs', lvK x0.1, g1, (hb.up e5).nk, lvK_depth _, ⟨_, rfl⟩, by rw [sizeLine_eq]; omega, fun ys' g => ⟨?_, ?_, ?_⟩⟩
      · rw [upd_ne hDd.symm]; exact e5 _ _ p14
      · intro y o hy ho
        rw [upd_ne fun z => by rw [z, hD0] at ho; cases ho]
        exact e5 _ _ (p24 y o hy ho)
      · have hF : F x0 = some (x0.1, c) := by show (f x0.1 x0.2).map _ = _; rw [hc]; rfl
        rw [ht, List.filterMap_append, List.filterMap_cons, hF, List.filterMap_nil, ← putL_new hno]
        have kl := kl_dict (o := NDO P w D ys') gD
        exact ⟨_, g, Paired.mapP (dpr_put g2 hz5) fun _ _ z => ⟨z.1, hr' _ _ _ _ kl z.2⟩⟩
  · rintro H3 ⟨p1, p2, p3⟩
    refine ⟨p1, ?_⟩
    rw [hlen, List.take_length] at p3
    have kf : Kl H3 (upd H3 d (NDO P w d ys)) := kl_frz p1
    refine q D _ hD0 (fun y o ho => ?_) (p3.kl (fun _ _ h => hr' _ _ _ _ kf h) kf fun o h => by rw [upd_ne hDd]; exact h)
    by_cases z : y = d
    · rw [z, upd_same, ← hd, ← z]; exact ho
    · rw [upd_ne z]; exact p2 y o z ho
end
end Fm
set_option maxHeartbeats 1000000
namespace Fm.ST
open PySem PySem.Spec PyProof.Rows L2
theorem plus (m x a : Nat) : ∀ b, lcgI m (lcgI m x a) b = lcgI m x (a + b)
  | 0 => rfl
  | b + 1 => by
    have ih := plus m x a b
    rw [← Nat.add_assoc]
    unfold lcgI
    rw [ih]
structure FullM (m : Nat) : Prop where
  all : ∀ i j, i ≤ m → j ≤ m → ∃ k, k ≤ m ∧ lcgI m i k = j
  odd : m % 2 = 1
  big : m ≤ 2047
variable {m : Nat}
theorem FullM.run (F : FullM m) (h : Int) {j : Nat} (hj : j ≤ m) : ∃ n, n ≤ m + 12 ∧ runI m (SetTable.bits h) n = j := by
  obtain ⟨k, hk, e⟩ := F.all _ _ (runI_le m (SetTable.bits h) 12) hj
  refine ⟨12 + k, by omega, ?_⟩
  rw [runI_tail (bits_lt h), e]
theorem way_in (m : Nat) (h : Int) (k : Nat) : way m h k ≤ m := by
  have h0 : SetTable.bits h % (m + 1) ≤ m := Nat.le_of_lt_succ (Nat.mod_lt _ (Nat.succ_pos _))
  have r := (runEnd_bd h0).1
  have r2 := (runEnd_bd h0).2.1
  have := nth_in (m := m) k (runAt m (SetTable.bits h % (m + 1)) (SetTable.bits h)) (by unfold runAt; dsimp only; omega)
  exact Nat.le_trans (Nat.le_add_right _ _) this
structure TabF (t : SetTable) (hs : List Int) : Prop where
  ris : Ris t.place.toList
  dm : t.dummies = #[]
  sz : t.place.size = hs.length
  fm : FullM t.mask
  bd : ∀ x ∈ t.place.toList, x ≤ t.mask
  back : ∀ (i : Nat) (h : Int) (j : Nat), hs[i]? = some h → t.place.toList[i]? = some j → ∃ k, way t.mask h k = j ∧ ∀ k', k' < k → way t.mask h k' ∈ t.place.toList
variable {t : SetTable} {hs : List Int}
theorem TabF.ins (T : TabF t hs) {h : Int} {K j p : Nat} (hw : way t.mask h K = j) (hp : SetTable.below t.place j = p) (hK : way t.mask h K ∉ t.place.toList) (hb : ∀ k, k < K → way t.mask h k ∈ t.place.toList) :
    (t.put j).2 = p ∧ p ≤ hs.length ∧ TabF (t.put j).1 (hs.take p ++ h :: hs.drop p) ∧ (t.put j).1.mask = t.mask ∧ (t.put j).1.led = t.led ∧ (t.put j).1.plain = t.plain ∧ (t.put j).1.fill = hs.length + 1 := by
  subst hp
  rw [hw] at hK
  have hjm : j ≤ t.mask := by rw [← hw]; exact way_in _ _ _
  have c1 := (below_cut T.ris j).1
  have hlen : t.place.toList.length = hs.length := by rw [Array.length_toList, T.sz]
  have hpl : SetTable.below t.place j ≤ t.place.toList.length := by rw [Array.length_toList]; exact c1
  have hph : SetTable.below t.place j ≤ hs.length := by rw [← hlen]; exact hpl
  have hpp := put_place t j
  have hsz : (t.put j).1.place.size = hs.length + 1 := by
    rw [← Array.length_toList, hpp, len_ins _ hpl, hlen]
  have hin : ∀ x, x ∈ t.place.toList → x ∈ (t.put j).1.place.toList := fun x hx => by
    rw [hpp]
    exact mem_ins.2 (.inr hx)
  have hno : t.place[SetTable.below t.place j]? ≠ some j := fun e => by
    rw [← Array.getElem?_toList] at e
    exact hK (List.mem_of_getElem? e)
  have tab : TabF (t.put j).1 (hs.take (SetTable.below t.place j) ++ h :: hs.drop (SetTable.below t.place j)) := by
    refine ⟨ris_insert T.ris hno, put_dm T.dm j, by rw [len_ins _ hph, hsz], T.fm, fun x hx => ?_, fun i g l h1 h2 => ?_⟩
    · rw [hpp] at hx
      exact (mem_ins.1 hx).elim (fun z => z ▸ hjm) (T.bd x)
    · have old : ∀ i', hs[i']? = some g → t.place.toList[i']? = some l → ∃ k, way t.mask g k = l ∧ ∀ k', k' < k → way t.mask g k' ∈ (t.put j).1.place.toList := fun i' a b => by
        obtain ⟨k, e, z⟩ := T.back i' g l a b
        exact ⟨k, e, fun k' hk' => hin _ (z k' hk')⟩
      rw [tins_get hs hph] at h1
      rw [hpp, tins_get _ hpl] at h2
      rcases Nat.lt_trichotomy i (SetTable.below t.place j) with c | c | c
      · rw [if_pos c] at h1 h2
        exact old i h1 h2
      · rw [if_neg (by omega), if_pos c] at h1 h2
        obtain rfl := Option.some.inj h1
        obtain rfl := Option.some.inj h2
        exact ⟨K, hw, fun k' hk' => hin _ (hb k' hk')⟩
      · rw [if_neg (by omega), if_neg (by omega)] at h1 h2
        exact old (i - 1) h1 h2
  refine ⟨rfl, hph, tab, rfl, rfl, rfl, ?_⟩
  show (t.put j).1.place.size + (t.put j).1.dummies.size = hs.length + 1
  rw [hsz, tab.dm]
  rfl
theorem FullM.free (F : FullM m) (ow : Array (Option Nat)) (h : Int) {j : Nat} (hj : j ≤ m) (hf : oAt ow j = none) :
    ∃ K, SetTable.layClean.free m ow (SetTable.turns m) (SetTable.bits h % (m + 1)) (SetTable.bits h) = some (way m h K) ∧ oAt ow (way m h K) = none ∧ ∀ k, k < K → oAt ow (way m h k) ≠ none := by
  obtain ⟨n, hn, e⟩ := F.run h hj
  generalize hO : off m (SetTable.bits h % (m + 1)) (SetTable.bits h) n = O
  have hw : way m h O = j := by
    subst hO
    have g := congrArg SetTable.Probe.j (nth_off m n (SetTable.bits h % (m + 1)) (SetTable.bits h))
    rw [itL_run] at g
    exact g.trans e
  obtain ⟨K, a, b, c⟩ := st_least (p := fun k => oAt ow (way m h k) = none) O (by rw [hw]; exact hf)
  refine ⟨K, free_spec m ow (SetTable.turns m) n _ _ K ?_ (by rw [hO]; exact a) (fun k hk => ?_) ?_, b, c⟩
  · unfold SetTable.turns
    omega
  · exact Option.isNone_eq_false_iff.mpr (Option.isSome_iff_ne_none.mpr (c k hk))
  · exact Option.isNone_iff_eq_none.mpr b
end Fm.ST
set_option maxHeartbeats 1000000
namespace Fm.ST
open PySem PySem.Spec PyProof.Rows L2
section
variable {P : Program} {w : World}
def HbvAt (P : Program) (w : World) (n : Nat) (s : Shared) (v : Value) : Prop := ∀ (A : Around) (E : Value → Shared → Prop) (Q : Bool → Shared → Prop), Q true s → wpAny (model P w) A (hashByValue n v) Q E s
def OcsAt (P : Program) (w : World) (n : Nat) (s : Shared) (v : Value) : Prop := ∀ (A : Around) (E : Value → Shared → Prop) (Q : Bool → Shared → Prop), Q false s → wpAny (model P w) A (ofAClassStatement n v) Q E s
theorem tupT {s : Shared} {a : Addr} {o : Obj} (ho : s.heap.get? a = some o) (hc : o.cls = .type "tuple") : s.TypeIs (.ref a) "tuple" := ⟨o, ho, hc⟩
theorem HbvAt.tup {n k : Nat} {s : Shared} {a : Addr} {o : Obj} {vs : Array Value} (ho : s.heap.get? a = some o) (hc : o.cls = .type "tuple") (hd : o.data = .seq vs k) (h : ∀ v ∈ vs.toList, HbvAt P w n s v) : HbvAt P w (n + 1) s (.ref a) := fun A E Q q => by
  unfold hashByValue
  refine wpAny_bind (wpAny_specialOf (tupT ho hc) F.slot_tuple_hash.lookup ?_)
  show wpAny _ _ (seqItems? (.ref a) >>= _) _ _ s
  refine wpAny_bind (wpAny_seqItems ho hd ?_)
  refine wpAny_bind ?_
  show wpAny _ _ (forIn vs _ _) _ _ s
  rw [← Array.forIn_toList]
  refine wpAny_forIn_list _ (fun rest r s' => r.1 = none ∧ s' = s ∧ ∀ v ∈ rest, HbvAt P w n s v) _ ?_ ?_ _ _ ⟨rfl, rfl, h⟩
  · rintro v rest r s' ⟨_, rfl, hall⟩
    refine wpAny_bind (hall v List.mem_cons_self _ _ _ ?_)
    simp only [Bool.not_true, Bool.false_eq_true, if_false]
    exact wpAny_pure ⟨rfl, rfl, fun u hu => hall u (List.mem_cons_of_mem _ hu)⟩
  · rintro ⟨r1, r2⟩ s' ⟨hr, rfl, _⟩
    obtain rfl : r1 = none := hr
    exact wpAny_pure q
theorem OcsAt.tup {n k : Nat} {s : Shared} {a : Addr} {o : Obj} {vs : Array Value} (ho : s.heap.get? a = some o) (hc : o.cls = .type "tuple") (hd : o.data = .seq vs k) (h : ∀ v ∈ vs.toList, OcsAt P w n s v) : OcsAt P w (n + 1) s (.ref a) := fun A E Q q => by
  unfold ofAClassStatement
  refine wpAny_bind (wpAny_typeOf (tupT ho hc) ?_)
  dsimp only
  have yes : (("tuple" : String) == "tuple") = true := by decide
  simp only [yes, if_true, Bool.not_true, Bool.false_eq_true, if_false]
  try refine wpAny_bind (wpAny_pure ?_)
  try simp only [Bool.not_true, Bool.false_eq_true, if_false]
  show wpAny _ _ (seqItems? (.ref a) >>= _) _ _ s
  refine wpAny_bind (wpAny_seqItems ho hd ?_)
  dsimp only
  refine wpAny_bind ?_
  show wpAny _ _ (forIn vs _ _) _ _ s
  rw [← Array.forIn_toList]
  refine wpAny_forIn_list _ (fun rest r s' => r.1 = none ∧ s' = s ∧ ∀ v ∈ rest, OcsAt P w n s v) _ ?_ ?_ _ _ ⟨rfl, rfl, h⟩
  · rintro v rest r s' ⟨_, rfl, hall⟩
    refine wpAny_bind (hall v List.mem_cons_self _ _ _ ?_)
    simp only [Bool.false_eq_true, if_false]
    exact wpAny_pure ⟨rfl, rfl, fun u hu => hall u (List.mem_cons_of_mem _ hu)⟩
  · rintro ⟨r1, r2⟩ s' ⟨hr, rfl, _⟩
    obtain rfl : r1 = none := hr
    exact wpAny_pure q
end
abbrev IsN (P : Program) (w : World) (h : Heap) (k : NestedKey) (a : Addr) : Prop := (nestedKind P w).is h k a
abbrev nhash (w : World) (k : NestedKey) : Int := k.hash w
section
variable {P : Program} {w : World} {A : Around} {E : Value → Shared → Prop} {s : Shared}
def Msk (m : Nat) : Prop := m = 7 ∨ m = 31 ∨ m = 127 ∨ m = 511 ∨ m = 2047
def rowN (w : World) (L : List (Addr × NestedKey)) : List (Int × Value) := L.map fun p => (nhash w p.2, Value.ref p.1)
structure SetN (P : Program) (w : World) (h : Heap) (a : Addr) (L : List (Addr × NestedKey)) (es : Array (Int × Value)) (ep : Nat) (t : SetTable) : Prop where
  ob : ∃ o, h.get? a = some o ∧ o.ExactSet ∧ o.data = .set es ep t
  rows : es.toList = rowN w L
  tab : TabF t (L.map fun p => nhash w p.2)
  nd : (L.map (·.2)).Nodup
  keys : ∀ p ∈ L, IsN P w h p.2 p.1
  plain : t.plain = true
  led : w.params.followText "set-order" = true ∨ t.led = true
  room : L.length * 5 < t.mask * 3
  msk : Msk t.mask
variable {a : Addr} {L : List (Addr × NestedKey)} {es : Array (Int × Value)} {ep : Nat} {t : SetTable}
theorem rowN_len (L : List (Addr × NestedKey)) : (rowN w L).length = L.length := by unfold rowN; rw [List.length_map]
theorem rows_size (h : es.toList = rowN w L) : es.size = L.length := by
  have := congrArg List.length h
  rw [rowN_len] at this
  exact this
theorem SetN.size (R : SetN P w s.heap a L es ep t) : es.size = L.length := rows_size R.rows
end
end Fm.ST
set_option maxHeartbeats 1000000
namespace Fm.ST
open PySem PySem.Spec PyProof.Rows L2
section
variable {P : Program} {w : World} {A : Around} {E : Value → Shared → Prop} {s : Shared} {a : Addr} {L : List (Addr × NestedKey)} {es : Array (Int × Value)} {ep : Nat} {t : SetTable}
structure Had (ks : List (Addr × NestedKey)) (i : Nat) (L : List (Addr × NestedKey)) : Prop where
  sub : ∀ p ∈ L, p ∈ ks.take i
  all : ∀ p ∈ ks.take i, p.2 ∈ L.map (·.2)
  len : L.length ≤ i
theorem Had.zero (ks : List (Addr × NestedKey)) : Had ks 0 [] := ⟨fun _ h => (nomatch h), fun p h => (by rw [List.take_zero] at h; cases h), Nat.le_refl _⟩
theorem SetN.keep {h h' : Heap} (R : SetN P w h a L es ep t) (ha : ∀ o, h.get? a = some o → h'.get? a = some o) (ht : ∀ p ∈ L, IsN P w h' p.2 p.1) : SetN P w h' a L es ep t :=
  { R with ob := let ⟨o, ho, r⟩ := R.ob; ⟨o, ha o ho, r⟩, keys := ht }
end
end Fm.ST
set_option maxHeartbeats 1000000
set_option maxHeartbeats 1000000
set_option maxHeartbeats 1000000
namespace Fm
open PySem PySem.W PySem.Spec PyProof.Rows L2 Evl
open PySem.W (dataLe dataLt alike AllAlike Sortable TotalLe)
theorem paired_getR {α β : Type} {R : α → β → Prop} : ∀ {xs : List α} {ys : List β} {i : Nat} {y : β}, Paired R xs ys → ys[i]? = some y → ∃ x, xs[i]? = some x ∧ R x y
  | _, _, _, _, .nil, e => by simp at e
  | _, _, 0, _, .cons r _, e => by simp at e; subst e; exact ⟨_, rfl, r⟩
  | _, _, i + 1, y, .cons _ t, e => by
    obtain ⟨u, h1, h2⟩ := paired_getR (i := i) (y := y) t (by simpa using e)
    exact ⟨u, by simpa using h1, h2⟩
section
variable {X : Cx}
theorem dp_all {K : PySem.W.Frag} {H : Hp} : ∀ {bs : List (V × PyData)}, (∀ b ∈ bs, Dp K H b.1 b.2) → DpAll K H (bs.map (·.1)) (bs.map (·.2))
  | [], _ => .nil
  | b :: bs, h => .cons (h b List.mem_cons_self) (dp_all fun c hc => h c (List.mem_cons_of_mem _ hc))
theorem depths {bs : List (V × PyData)} (h : ∀ b ∈ bs, b.2.depth ≤ 32) : PyData.depthAll (bs.map (·.2)) ≤ 32 := by
  induction bs with
  | nil => simp [PyData.depthAll]
  | cons b bs ih =>
    have h1 := h b List.mem_cons_self
    have h2 := ih fun c hc => h c (List.mem_cons_of_mem _ hc)
    simp only [List.map_cons, PyData.depthAll]
    omega
theorem pick_min {pins : List (Addr × Obj)} {σ : L2.St} {H : Hp} {s : Shared} {bs : List (V × PyData)} {us : List Value} {i : Nat} {v : Value} {d : PyData} {as : List Addr} (I : Inv X pins σ H s) (hr : Vals (bs.map (·.1)) us) (hd : ∀ b ∈ bs, Dp X.K H b.1 b.2) (hv : us[i]? = some v) (rd : Reads s.heap v d as) :
    ∃ b, b ∈ bs ∧ b.2 = d ∧ RelV b.1 v := by
  obtain ⟨y, hy, ry⟩ := paired_getR hr hv
  rw [List.getElem?_map] at hy
  obtain ⟨b, hb, rfl⟩ := Option.map_eq_some_iff.mp hy
  have hm := List.mem_of_getElem? hb
  obtain ⟨as', r'⟩ := Dp.reads I _ _ _ (hd b hm) ry
  exact ⟨b, hm, (r'.unique _ _ rd).1, ry⟩
variable {K : PySem.W.Frag}
end
end Fm
set_option maxHeartbeats 1000000
namespace Fm
open PySem PySem.W PySem.Spec PyProof.Rows L2 Evl
open PySem.W (dataLe dataLt alike AllAlike Sortable TotalLe)
def maxI (d : Int) : List Int → Int
  | [] => d
  | n :: ns => ns.foldl max n
def rMaxDef (K : PySem.W.Frag) : List V → List V → Hp → VK → Prop := fun vs zs H Q => ∃ (l : Addr) (ns : List Int) (d : Int), vs = [V.ref l] ∧ zs = [.int d] ∧ SqL K H l (ns.map V.int) ∧ Q (.int (maxI d ns)) H
theorem foldl_max_le : ∀ (ns : List Int) (n : Int), n ≤ ns.foldl max n ∧ ∀ m ∈ ns, m ≤ ns.foldl max n
  | [], n => ⟨Int.le_refl _, fun _ h => nomatch h⟩
  | k :: ns, n => by
    obtain ⟨h1, h2⟩ := foldl_max_le ns (max n k)
    rw [List.foldl_cons]
    refine ⟨by omega, fun m hm => ?_⟩
    rcases List.mem_cons.mp hm with rfl | hm
    · omega
    · exact h2 m hm
theorem foldl_max_mem : ∀ (ns : List Int) (n : Int), ns.foldl max n ∈ n :: ns
  | [], n => List.mem_cons_self
  | k :: ns, n => by
    rw [List.foldl_cons]
    rcases List.mem_cons.mp (foldl_max_mem ns (max n k)) with h | h
    · rw [h]
      rcases Int.le_total n k with g | g
      · rw [Int.max_eq_right g]; exact List.mem_cons_of_mem _ List.mem_cons_self
      · rw [Int.max_eq_left g]; exact List.mem_cons_self
    · exact List.mem_cons_of_mem _ (List.mem_cons_of_mem _ h)
theorem maxI_ne {d : Int} {ns : List Int} (h : ns ≠ []) : maxI d ns ∈ ns ∧ ∀ m ∈ ns, m ≤ maxI d ns := by
  cases ns with
  | nil => exact absurd rfl h
  | cons n ns =>
    refine ⟨foldl_max_mem ns n, fun m hm => ?_⟩
    rcases List.mem_cons.mp hm with rfl | hm
    · exact (foldl_max_le ns _).1
    · exact (foldl_max_le ns n).2 m hm
section
variable {X : Cx}
theorem int_maxD {y : PyData} {ys : List PyData} {ns : List Int} (h : ns.map PyData.int = y :: ys) (d : Int) : maxD y ys = .int (maxI d ns) := by
  cases ns with
  | nil => cases h
  | cons n ns =>
    rw [List.map_cons] at h
    cases h
    exact maxD_ints n ns
theorem cr_maxDef (hc : X.calm = true) (hu : X.A.units + 64 < cLine) : CallRK X (.builtin "max") [Str.ofString "default"] (rMaxDef X.K) := by
  intro pins s σ H vs zs us ws Q I r rz h
  obtain ⟨l, ns, d, rfl, rfl, hs, q⟩ := h
  obtain ⟨its, rv, hl, _⟩ := I.list hs
  obtain rfl := Vals.ref1 r
  obtain ⟨w1, rfl, e1⟩ := vals1 rz
  have hb1 : (ns.map fun n => (V.int n, PyData.int n)).map (·.1) = ns.map V.int := by rw [List.map_map]; rfl
  have hb2 : (ns.map fun n => (V.int n, PyData.int n)).map (·.2) = ns.map PyData.int := by rw [List.map_map]; rfl
  have hd : ∀ b ∈ (ns.map fun n => (V.int n, PyData.int n)), Dp X.K H b.1 b.2 := fun b hb => by
    obtain ⟨n, _, rfl⟩ := List.mem_map.mp hb
    exact .int n
  have rv' : Vals ((ns.map fun n => (V.int n, PyData.int n)).map (·.1)) its := by rw [hb1]; exact rv
  obtain ⟨as, hra⟩ := Dp.readsAll I _ _ _ (dp_all hd) rv'
  rw [hb2] at hra
  have hdd : PyData.depthAll (ns.map PyData.int) ≤ 32 := by
    have := depths (bs := ns.map fun n => (V.int n, PyData.int n)) fun b hb => by
      obtain ⟨n, _, rfl⟩ := List.mem_map.mp hb
      simp [PyData.depth]
    rwa [hb2] at this
  have hal : PySem.W.AlikeAll (ns.map PyData.int) := by
    refine ⟨fun x hx y hy => ?_, fun x hx => ?_⟩
    · obtain ⟨n, _, rfl⟩ := List.mem_map.mp hx
      obtain ⟨m, _, rfl⟩ := List.mem_map.mp hy
      rfl
    · obtain ⟨n, _, rfl⟩ := List.mem_map.mp hx
      exact fun z => nomatch z
  refine max_list_default (I.ok.hd hc) hl.isList (by simpa using hra) hal (by show X.A.units + 1 + PyData.depthAll (ns.map PyData.int) < cLine; omega) (fun hn h' tk kp => ?_) fun y ys i v h' tk bs' hxs hv rd kp => ?_
  · have hn0 : ns = [] := List.map_eq_nil_iff.mp hn
    subst hn0
    exact ⟨.int d, H, I.kept kp, e1, q⟩
  · have I1 := I.kept (t' := tk) kp
    obtain ⟨b, hb, e, rb⟩ := pick_min I1 rv' hd (by simpa using hv) rd
    obtain ⟨n, hn, rfl⟩ := List.mem_map.mp hb
    rw [int_maxD hxs d] at e
    cases e
    exact ⟨_, H, I1, rb, q⟩
variable {K : PySem.W.Frag}
theorem maxDef_K (h : X.K = K) (hc : X.calm = true) (hu : X.A.units + 64 < cLine) : CallRK X (.builtin "max") [Str.ofString "default"] (rMaxDef K) := h ▸ cr_maxDef hc hu
end
end Fm
set_option maxHeartbeats 1000000
namespace Fm
open PySem PySem.W PySem.Calls PyProof.Rows PySem.Spec L2 Evl
def tListVals (te : TE) : TE := fun σ H Q => te σ H fun x H1 => ∃ (d : Addr) (kvs : List (Key × V)), x = .ref d ∧ H1 d = some (.dK kvs) ∧ ∀ p, H1 p = none → Q (.ref p) (upd H1 p (.lst (kvs.map Prod.snd)))
section
variable {X : Cx} {e : Expr} {te : TE} {p apos cpos pos : Pos}
theorem pe_listVals (hc : X.calm = true) (he : PE X e te) (hg : Gl X "list") (hm : X.mg "list" = none) (hv : bootBuiltins "list" = some (.type "list")) (hbase : attributeBase e "values" X.env (eval e X.env) = eval e X.env := by rfl) (hline : (apos.endLine == cpos.line) = true := by rfl)
    (hs : starEach [.Call (.Attribute e "values" apos) [] [] cpos] X.env = (false, eval (.Call (.Attribute e "values" apos) [] [] cpos) X.env) :: starEach [] X.env := by rfl) :
    PE X (.Call (.Name "list" p) [.Call (.Attribute e "values" apos) [] [] cpos] [] pos) (tListVals te) := by
  refine ⟨fun pins s σ H Q I hq => ?_⟩
  refine wpAny_Call_Name_kw (ld_blt I hg hm hv ?_)
  refine PyProof.Rows.callWith_type1 ?_ hs rfl
  rw [hs]
  show wpAny _ _ (spliced ((false, eval (.Call (.Attribute e "values" apos) [] [] cpos) X.env) :: backTo pos (starEach [] X.env))) _ _ s
  refine Calls.spliced_cons ?_
  refine wpAny_Call_method (T := "dict") (id := "dict.values") hbase rfl hline F.plainAttrs_dict F.slot_dict_values F.type_dict_values (thn (he.run pins s σ H _ I hq) fun u s1 ⟨x, H1, I1, rx, d, kvs, ex, hd, q⟩ => ?_)
  subst ex
  obtain rfl : u = Value.ref d := rx
  obtain ⟨hz, hs0, vs, kv, hdo⟩ := I1.hok d _ hd
  obtain ⟨ep, hat⟩ := hdo.dictAt
  have lk : kvs.length = vs.length := Paired.length kv
  have I2 : Inv X pins σ H1 { s1 with heap := s1.heap.push { cls := .type "dict_values", data := .fields #[.ref d] } } := I1.kept (t' := s1.toks) fun b ob q => Heap.get?_push_of_some _ q
  refine ⟨hdo.typeIs, hdo.mapOf.noDict, ?_⟩
  show wpAny _ _ (callWith cpos (.builtin "dict.values") [.ref d] [] []) _ X.xe s1
  refine method_meetsIn F.slot_dict_values F.entry_dict_values rfl (PySem.evalArgs_none ⟨rfl, hdo.typeIs, F.args_dict_values_1 _, _, meets_dict_values (mixKind X.prog X.w) d hs0, ⟨vs, hdo⟩, ?_⟩)
  refine Calls.spliced_nil ?_
  refine PySem.W.kdl_call (PySem.W.kdl_values (knd := mixKind X.prog X.w) (kvs := vs) (ep := ep)) (I1.ok.hd hc) ⟨⟨_, Heap.get?_push_size _ rfl, rfl, rfl⟩, hat.push _⟩ (by rw [← lk]; exact hz) fun h' tk acc' c' hkeep hS hacc => ?_
  refine ⟨.ref _, upd H1 _ (.lst (kvs.map Prod.snd)), I2.laid hkeep (Nat.le_refl _) (show ObjOk X.prog X.w _ _ _ (.lst (kvs.map Prod.snd)) from ⟨?_, acc'.toList, c', ?_, ?_⟩), rfl, q _ (I2.hok.fresh (Nat.le_refl _))⟩
  · rw [List.length_map]; exact hz
  · have el : acc'.toList.length = acc'.size := by simp
    refine vals_of_at (by rw [List.length_map, el, hacc.1, lk]) fun j x w h1 h2 => ?_
    obtain ⟨k, hk⟩ := hacc.2 j w (by rw [← Array.getElem?_toList]; exact h2)
    obtain ⟨y, g1, g2⟩ := KV.at' kv hk
    rw [List.getElem?_map, g1] at h1
    cases h1
    exact g2
  · rw [Array.toArray_toList]; exact hS
end
end Fm
set_option maxHeartbeats 1000000
namespace Fm
open PySem L2 Evl RZ
abbrev LkF := Lv → List (Option Nat × Lv)
def cntL (L : LkF) (s b : Lv) : Nat := ((L s).filter fun p => decide (p.2 = b)).length
def srcL (L : LkF) (sp : List Lv) (b : Lv) : List Lv := sp.flatMap fun s => List.replicate (cntL L s b) s
def lfL (L : LkF) (lens : List (Lv × Nat)) (s : Lv) : Nat := ((L s).filter fun p => !(lkp lens p.2).isSome).length
def lnAt (L : LkF) (lens : List (Lv × Nat)) (s : Lv) : Int := maxI 0 ((L s).map fun p => (((lkp lens p.2).getD 0 : Nat) : Int) + 1)
theorem lnAt_nn (L : LkF) (lens : List (Lv × Nat)) (s : Lv) : 0 ≤ lnAt L lens s := by
  unfold lnAt
  cases h : (L s).map fun p => (((lkp lens p.2).getD 0 : Nat) : Int) + 1 with
  | nil => exact Int.le_refl _
  | cons x xs =>
    have h1 := (maxI_ne (d := 0) (ns := x :: xs) (fun z => nomatch z)).1
    rw [← h] at h1 ⊢
    obtain ⟨p, _, hp⟩ := List.mem_map.mp h1
    rw [← hp]
    omega
theorem srcL_count {L : LkF} {sp : List Lv} (hn : sp.Nodup) (b s : Lv) : (srcL L sp b).count s = if s ∈ sp then cntL L s b else 0 := by
  unfold srcL
  induction sp with
  | nil => rfl
  | cons x sp ih =>
    rw [List.nodup_cons] at hn
    rw [List.flatMap_cons, List.count_append, ih hn.2, List.count_replicate]
    by_cases e : x = s
    · subst e
      rw [if_pos (beq_self_eq_true _), if_neg hn.1, if_pos List.mem_cons_self]; omega
    · rw [if_neg (by simpa using e), Nat.zero_add]
      by_cases h : s ∈ sp
      · rw [if_pos h, if_pos (List.mem_cons_of_mem _ h)]
      · rw [if_neg h, if_neg fun z => (List.mem_cons.mp z).elim (fun q => e q.symm) h]
theorem srcL_mem {L : LkF} {sp : List Lv} {b s : Lv} (h : s ∈ srcL L sp b) : s ∈ sp := by
  unfold srcL at h
  obtain ⟨x, hx, hs⟩ := List.mem_flatMap.mp h
  rw [List.eq_of_mem_replicate hs]; exact hx
theorem filter_split {α : Type} {f g h : α → Bool} (hs : ∀ x, f x = (g x || h x)) (hd : ∀ x, (g x && h x) = false) : ∀ xs : List α, (xs.filter f).length = (xs.filter g).length + (xs.filter h).length
  | [] => rfl
  | x :: xs => by
    have ih := filter_split hs hd xs
    have h1 := hs x
    have h2 := hd x
    rw [List.filter_cons, List.filter_cons, List.filter_cons]
    cases hg : g x <;> cases hh : h x
    · rw [hg, hh] at h1
      rw [h1]; simpa using ih
    · rw [hg, hh] at h1
      rw [h1]
      rw [if_pos (show (false || true) = true from rfl), if_neg (fun z => nomatch z), if_pos rfl, List.length_cons, List.length_cons]; omega
    · rw [hg, hh] at h1
      rw [h1]
      rw [if_pos (show (true || false) = true from rfl), if_pos rfl, if_neg (fun z => nomatch z), List.length_cons, List.length_cons]; omega
    · rw [hg, hh] at h2; cases h2
theorem lfL_put {L : LkF} {lens : List (Lv × Nat)} {b : Lv} {v : Nat} (hb : lkp lens b = none) (s : Lv) : lfL L lens s = lfL L (putL lens b v) s + cntL L s b := by
  unfold lfL cntL
  refine filter_split (fun p => ?_) (fun p => ?_) _
  · rw [lkp_put]
    by_cases e : p.2 = b
    · rw [if_pos e, e, hb, decide_eq_true rfl]; rfl
    · rw [if_neg e, decide_eq_false e, Bool.or_false]
  · rw [lkp_put]
    by_cases e : p.2 = b
    · rw [if_pos e]; rfl
    · rw [if_neg e, decide_eq_false e, Bool.and_false]
theorem lfL_zero {L : LkF} {lens : List (Lv × Nat)} {s : Lv} : lfL L lens s = 0 ↔ ∀ p ∈ L s, (lkp lens p.2).isSome = true := by
  unfold lfL
  rw [List.length_eq_zero_iff, List.filter_eq_nil_iff]
  constructor
  · intro h p hp
    have := h p hp
    cases q : lkp lens p.2 with
    | none => rw [q] at this; exact absurd rfl this
    | some _ => rfl
  · intro h p hp
    rw [h p hp]
    exact fun z => nomatch z
structure LenI (L : LkF) (sp : List Lv) (lens : List (Lv × Nat)) : Prop where
  nd : (lens.map Prod.fst).Nodup
  sb : ∀ s ∈ lens.map Prod.fst, s ∈ sp
  at_ : ∀ s n, lkp lens s = some n → (∀ p ∈ L s, (lkp lens p.2).isSome = true) ∧ ((n : Nat) : Int) = lnAt L lens s
structure LenOk (L : LkF) (sp : List Lv) (lens : List (Lv × Nat)) : Prop where
  i : LenI L sp lens
  out : ∀ s ∈ sp, lkp lens s = none → ∃ p ∈ L s, lkp lens p.2 = none
theorem LenI.put {L : LkF} {sp : List Lv} {lens : List (Lv × Nat)} {b : Lv} {v : Nat} (I : LenI L sp lens) (hb : lkp lens b = none) (hs : b ∈ sp) (h : ∀ p ∈ L b, (lkp lens p.2).isSome = true) (hv : ((v : Nat) : Int) = lnAt L lens b) : LenI L sp (putL lens b v) := by
  have same : ∀ s, (∀ p ∈ L s, (lkp lens p.2).isSome = true) → lnAt L (putL lens b v) s = lnAt L lens s ∧ ∀ p ∈ L s, (lkp (putL lens b v) p.2).isSome = true := fun s hl => by
    have hne : ∀ p ∈ L s, p.2 ≠ b := fun p hp z => by have := hl p hp; rw [z, hb] at this; cases this
    refine ⟨?_, fun p hp => by rw [lkp_put, if_neg (hne p hp)]; exact hl p hp⟩
    unfold lnAt
    congr 1
    exact List.map_congr_left fun p hp => by rw [lkp_put, if_neg (hne p hp)]
  refine ⟨putL_nodup I.nd, fun s z => (putL_mem.mp z).elim (fun e => e ▸ hs) (I.sb s), fun s n hsn => ?_⟩
  rw [lkp_put] at hsn
  by_cases e : s = b
  · subst e
    rw [if_pos rfl] at hsn
    cases hsn
    obtain ⟨g1, g2⟩ := same s h
    exact ⟨g2, hv.trans g1.symm⟩
  · rw [if_neg e] at hsn
    obtain ⟨h1, h2⟩ := I.at_ s n hsn
    obtain ⟨g1, g2⟩ := same s h1
    exact ⟨g2, h2.trans g1.symm⟩
structure OpnI (L : LkF) (sp : List Lv) (lens : List (Lv × Nat)) (os : List Lv) : Prop where
  nd : os.Nodup
  sb : ∀ s ∈ os, s ∈ sp
  dj : ∀ s ∈ os, lkp lens s = none
  zero : ∀ s ∈ sp, (lfL L lens s = 0 ↔ (lkp lens s).isSome = true ∨ s ∈ os)
structure OpnJ (L : LkF) (sp : List Lv) (lens : List (Lv × Nat)) (src : List Lv) (i : Nat) (os : List Lv) : Prop where
  nd : os.Nodup
  sb : ∀ s ∈ os, s ∈ sp
  dj : ∀ s ∈ os, lkp lens s = none
  zero : ∀ s ∈ sp, (lfL L lens s + (src.drop i).count s = 0 ↔ (lkp lens s).isSome = true ∨ s ∈ os)
theorem OpnI.pop {L : LkF} {sp : List Lv} {lens : List (Lv × Nat)} {os : List Lv} {b : Lv} {v : Nat} (hn : sp.Nodup) (I : OpnI L sp lens (os ++ [b])) : OpnJ L sp (putL lens b v) (srcL L sp b) 0 os := by
  have nd := List.nodup_append.mp I.nd
  have hbo : b ∉ os := fun z => nd.2.2 b z b List.mem_cons_self rfl
  have hb := I.dj b (List.mem_append_right _ List.mem_cons_self)
  refine ⟨nd.1, fun s hs => I.sb s (List.mem_append_left _ hs), fun s hs => ?_, fun s hs => ?_⟩
  · rw [lkp_put, if_neg fun z => hbo (by rw [← z]; exact hs)]; exact I.dj s (List.mem_append_left _ hs)
  · rw [List.drop_zero, srcL_count hn, if_pos hs, ← lfL_put hb, I.zero s hs, lkp_put]
    by_cases e : s = b
    · rw [if_pos e, e]
      exact ⟨fun _ => .inl rfl, fun _ => .inr (List.mem_append_right _ List.mem_cons_self)⟩
    · rw [if_neg e]
      exact ⟨fun h => h.imp id fun z => (List.mem_append.mp z).elim id fun z => absurd (List.mem_singleton.mp z) e, fun h => h.imp id (List.mem_append_left _)⟩
theorem OpnJ.fin {L : LkF} {sp : List Lv} {lens : List (Lv × Nat)} {src os : List Lv} (I : OpnJ L sp lens src src.length os) : OpnI L sp lens os :=
  ⟨I.nd, I.sb, I.dj, fun s hs => by have := I.zero s hs; rwa [List.drop_length, List.count_nil, Nat.add_zero] at this⟩
theorem OpnJ.step {L : LkF} {sp : List Lv} {lens : List (Lv × Nat)} {src os : List Lv} {i : Nat} {s : Lv} (I : OpnJ L sp lens src i os) (hs : src[i]? = some s) (hsp : s ∈ sp) : (lfL L lens s + (src.drop i).count s = lfL L lens s + (src.drop (i + 1)).count s + 1) ∧ (∀ t, t ≠ s → (src.drop i).count t = (src.drop (i + 1)).count t) ∧ s ∉ os ∧ OpnJ L sp lens src (i + 1) (if lfL L lens s + (src.drop (i + 1)).count s = 0 then os ++ [s] else os) := by
  obtain ⟨hi, hgi⟩ := List.getElem?_eq_some_iff.mp hs
  have hd : src.drop i = s :: src.drop (i + 1) := by rw [List.drop_eq_getElem_cons hi, hgi]
  have h1 : (src.drop i).count s = (src.drop (i + 1)).count s + 1 := by rw [hd, List.count_cons_self]
  have h2 : ∀ t, t ≠ s → (src.drop i).count t = (src.drop (i + 1)).count t := fun t ht => by rw [hd, List.count_cons_of_ne fun z => ht z.symm]
  have hz := I.zero s hsp
  have hno : ¬ ((lkp lens s).isSome = true ∨ s ∈ os) := fun z => by have := hz.mpr z; omega
  have hso : s ∉ os := fun z => hno (.inr z)
  refine ⟨by omega, h2, hso, ?_⟩
  by_cases h0 : lfL L lens s + (src.drop (i + 1)).count s = 0
  · rw [if_pos h0]
    refine ⟨List.nodup_append.mpr ⟨I.nd, List.pairwise_singleton _ _, fun a ha b hb e => hso (by rw [← List.mem_singleton.mp hb, ← e]; exact ha)⟩, fun t ht => ?_, fun t ht => ?_, fun t ht => ?_⟩
    · exact (List.mem_append.mp ht).elim (I.sb t) fun z => by rw [List.mem_singleton.mp z]; exact hsp
    · refine (List.mem_append.mp ht).elim (I.dj t) fun z => ?_
      rw [List.mem_singleton.mp z]
      cases q : lkp lens s with
      | none => rfl
      | some _ => exact absurd (.inl (by rw [q]; rfl)) hno
    · by_cases e : t = s
      · subst e
        exact ⟨fun _ => .inr (List.mem_append_right _ List.mem_cons_self), fun _ => h0⟩
      · rw [← h2 t e, I.zero t ht]
        exact ⟨fun h => h.imp id (List.mem_append_left _), fun h => h.imp id fun z => (List.mem_append.mp z).elim id fun z => absurd (List.mem_singleton.mp z) e⟩
  · rw [if_neg h0]
    refine ⟨I.nd, I.sb, I.dj, fun t ht => ?_⟩
    by_cases e : t = s
    · subst e
      exact ⟨fun h => absurd h h0, fun h => absurd h hno⟩
    · rw [← h2 t e]; exact I.zero t ht
theorem OpnI.new {L : LkF} {sp : List Lv} (hn : sp.Nodup) : OpnI L sp [] (sp.filter fun s => decide ((L s).length = 0)) := by
  have hl : ∀ s, lfL L [] s = (L s).length := fun s => by
    unfold lfL
    rw [List.filter_eq_self.mpr fun p _ => by rw [lkp_nil]; rfl]
  exact ⟨hn.sublist List.filter_sublist, fun s hs => (List.mem_filter.mp hs).1, fun s _ => rfl, fun s hs => by
    rw [hl, lkp_nil]
    exact ⟨fun h => .inr (List.mem_filter.mpr ⟨hs, decide_eq_true h⟩), fun h => h.elim (fun z => nomatch z) fun z => of_decide_eq_true (List.mem_filter.mp z).2⟩⟩
theorem OpnI.out {L : LkF} {sp : List Lv} {lens : List (Lv × Nat)} (I : OpnI L sp lens []) (s : Lv) (hs : s ∈ sp) (h : lkp lens s = none) : ∃ p ∈ L s, lkp lens p.2 = none := by
  refine Classical.byContradiction fun z => ?_
  have h0 : lfL L lens s = 0 := lfL_zero.mpr fun p hp => by
    cases q : lkp lens p.2 with
    | none => exact absurd ⟨p, hp, q⟩ z
    | some _ => rfl
  rcases (I.zero s hs).mp h0 with g | g
  · rw [h] at g; cases g
  · cases g
def SrR (v : V) (x : Addr × List Lv) (H : Hp) : Prop := v = .ref x.1 ∧ ∃ vs, H x.1 = some (.lst vs) ∧ Paired (fun u l => LvR u l H) vs x.2
theorem SrR.kl {H H' : Hp} {v : V} {x : Addr × List Lv} (k : Kl H H') (h : SrR v x H) : SrR v x H' := let ⟨h0, vs, h1, h2⟩ := h; ⟨h0, vs, k _ _ h1 (.inr ⟨_, rfl⟩), Paired.mapP h2 fun _ _ z => z.kl k⟩
theorem srR_d : RKd SrR := fun _ _ _ _ e h => h.kl (Kl.of e)
theorem lkp_of_mem {α : Type} {x : Lv × α} : ∀ {xs : List (Lv × α)}, (xs.map Prod.fst).Nodup → x ∈ xs → lkp xs x.1 = some x.2
  | [], _, h => nomatch h
  | y :: ys, hn, h => by
    rw [List.map_cons, List.nodup_cons] at hn
    rw [lkp_cons]
    rcases List.mem_cons.mp h with rfl | h
    · rw [if_pos rfl]
    · rw [if_neg fun z => hn.1 (by rw [z]; exact List.mem_map.mpr ⟨x, h, rfl⟩)]; exact lkp_of_mem hn.2 h
theorem lkp_mem {α : Type} {s : Lv} {a : α} : ∀ {xs : List (Lv × α)}, lkp xs s = some a → (s, a) ∈ xs
  | [], h => nomatch h
  | y :: ys, h => by
    rw [lkp_cons] at h
    by_cases e : y.1 = s
    · rw [if_pos e] at h; cases h; rw [← e]; exact List.mem_cons_self
    · rw [if_neg e] at h; exact List.mem_cons_of_mem _ (lkp_mem h)
structure SrcH (P : Program) (w : World) (H : Hp) (d : Addr) (ts : List (Lv × (Addr × List Lv))) : Prop where
  dw : DW P w SrR H d ts
  nd : (ts.map Prod.fst).Nodup
  inj : ∀ x ∈ ts, ∀ y ∈ ts, x.2.1 = y.2.1 → x.1 = y.1
theorem SrcH.up {P : Program} {w : World} {H H' : Hp} {d : Addr} {ts : List (Lv × (Addr × List Lv))} (e : Ex H H') (h : SrcH P w H d ts) : SrcH P w H' d ts := ⟨h.dw.up srR_d e, h.nd, h.inj⟩
theorem SrcH.app {P : Program} {w : World} {H : Hp} {d a lb : Addr} {ts : List (Lv × (Addr × List Lv))} {s l : Lv} {xs : List Lv} {vs : List V} (h : SrcH P w H d ts) (hl : lkp ts s = some (a, xs)) (ha : H a = some (.lst vs)) (hp : Paired (fun u l => LvR u l H) vs xs) (hb : LvH H lb l) : SrcH P w (upd H a (.lst (vs ++ [.ref lb]))) d (putL ts s (a, xs ++ [l])) := by
  have hm := lkp_mem hl
  have tup : ∀ b ys, H b = some (.tup ys) → upd H a (.lst (vs ++ [.ref lb])) b = some (.tup ys) := fun b ys hb => by
    rw [upd_ne fun z => ?_]
    · exact hb
    · rw [z, ha] at hb; cases hb
  have lvr : ∀ {u l}, LvR u l H → LvR u l (upd H a (.lst (vs ++ [.ref lb]))) := fun ⟨b, h1, h2⟩ => ⟨b, h1, tup _ _ h2⟩
  obtain ⟨kvs, ⟨ys, g1, g2, g3⟩, g4⟩ := h.dw.at_
  have hda : d ≠ a := fun z => by rw [z, ha] at g1; unfold NDO at g1; cases g1
  have hput : putL ts s (a, xs ++ [l]) = ts.map fun x => if x.1 = s then (x.1, (a, xs ++ [l])) else x := by
    unfold putL
    rw [if_pos (List.any_eq_true.mpr ⟨_, hm, decide_eq_true rfl⟩)]
  have hkeys : (putL ts s (a, xs ++ [l])).map Prod.fst = ts.map Prod.fst := putL_keys (List.mem_map.mpr ⟨_, hm, rfl⟩)
  have key : ∀ (kvs : List (NestedKey × V)) (us : List (Lv × (Addr × List Lv))), (∀ x ∈ us, x ∈ ts) → Paired (DPr SrR H) kvs us → Paired (DPr SrR (upd H a (.lst (vs ++ [.ref lb])))) kvs (us.map fun x => if x.1 = s then (x.1, (a, xs ++ [l])) else x) := by
    intro kvs us hu hk
    induction hk with
    | nil => exact .nil
    | @cons kv x kvs us hx _ ih =>
      rw [List.map_cons]
      refine .cons ?_ (ih fun y hy => hu y (List.mem_cons_of_mem _ hy))
      have hxm := hu x List.mem_cons_self
      obtain ⟨k1, k2, vs', k3, k4⟩ := hx
      by_cases e : x.1 = s
      · rw [if_pos e]
        have : x.2 = (a, xs) := by
          have := lkp_of_mem h.nd hxm
          rw [e, hl] at this
          exact (Option.some.inj this).symm
        rw [this] at k2 k3 k4
        have k3 : H a = some (.lst vs') := k3
        rw [ha] at k3
        cases k3
        exact ⟨k1, k2, vs ++ [.ref lb], upd_same, paired_append (Paired.mapP hp fun _ _ z => lvr z) (.cons ⟨lb, rfl, tup _ _ hb⟩ .nil)⟩
      · rw [if_neg e]
        have hne : x.2.1 ≠ a := fun z => e (h.inj x hxm _ hm z)
        exact ⟨k1, k2, vs', by rw [upd_ne hne]; exact k3, Paired.mapP k4 fun _ _ z => lvr z⟩
  refine ⟨⟨kvs, ⟨ys, by rw [upd_ne hda]; exact g1, g2, g3.up tup⟩, ?_⟩, by rw [hkeys]; exact h.nd, ?_⟩
  · rw [hput]; exact key kvs ts (fun _ h => h) g4
  · have back : ∀ x ∈ putL ts s (a, xs ++ [l]), ∃ y ∈ ts, y.1 = x.1 ∧ y.2.1 = x.2.1 := fun x hx => by
      rw [hput] at hx
      obtain ⟨y, hy, rfl⟩ := List.mem_map.mp hx
      by_cases e : y.1 = s
      · rw [if_pos e]; exact ⟨(s, (a, xs)), hm, e.symm, rfl⟩
      · rw [if_neg e]; exact ⟨y, hy, rfl, rfl⟩
    intro x hx y hy e
    obtain ⟨x', hx', e1, e2⟩ := back x hx
    obtain ⟨y', hy', e3, e4⟩ := back y hy
    rw [← e1, ← e3]
    exact h.inj x' hx' y' hy' (e2.trans (e.trans e4.symm))
end Fm
set_option maxHeartbeats 1000000
namespace Fm
open PySem PySem.W PySem.Calls PyProof.Rows PySem.Spec L2 Evl
def rGetN (P : Program) (w : World) : V → V → Hp → VK → Prop := fun o i H Q => ∃ a v, o = .ref a ∧ NGet P w H a i (some v) ∧ Q v H
def rSetN (P : Program) (w : World) : TSet := fun o i v H Q => ∃ a kvs k, o = .ref a ∧ ND P w H a kvs ∧ NK H i k ∧ k.depth ≤ 8 ∧ (∃ b, i = .ref b) ∧ kvs.length < sizeLine ∧ ∀ xs', ND P w (upd H a (NDO P w a xs')) a (putK kvs k v) → Q (upd H a (NDO P w a xs'))
theorem getN_K {X : Cx} {P : Program} {w : World} (hP : X.prog = P) (hw : X.w = w) (hu : X.A.units + 64 < cLine) : PGet X (rGetN P w) := by
  subst hP hw
  intro pins s σ H o i ov iv Q I ro ri h
  obtain ⟨a, v, rfl, ⟨kvs, k, g, hk, hdp, ht, l⟩, q⟩ := h
  obtain rfl : ov = Value.ref a := ro
  exact nd_getItem hu I g hk hdp ht l.symm ri fun w' s3 I3 rw' => ⟨v, H, I3, rw', q⟩
theorem setN_K {X : Cx} {P : Program} {w : World} (hP : X.prog = P) (hw : X.w = w) (hu : X.A.units + 64 < cLine) : PSet X (rSetN P w) := by
  subst hP hw
  intro pins s σ H o i v ov iv u Q I ro ri rv h
  obtain ⟨a, kvs, k, rfl, g, hk, hdp, ht, hl, q⟩ := h
  obtain rfl : ov = Value.ref a := ro
  exact nd_setItem hu I g hk hdp ht hl ri rv fun xs' s4 I4 g4 => ⟨_, I4, q xs' g4⟩
end Fm
set_option maxHeartbeats 1000000
namespace Fm
open PySem PySem.Spec PyProof.Rows L2
theorem sw_trueD {y : Str} {py pos : Pos} {kx vx : Expr} {scope : Scope} {gs : List Comprehension} {l : Nat} {env : Env} (hk : env.scope.kind = .function) (hy : env.scope.names.lookup y = some .local) (hl : (py.line == pos.line) = true) (ha : (scope.names.any fun (n, k) => n == y && (k == .local || k == .cell)) = false) :
    swapsWith (.DictComp kx vx gs scope pos) (some (.Name y py)) l env = pure true := by
  have h1 : env.kindOf y = some .local := hy
  have h2 : env.blockKind = .function := by
    unfold Env.blockKind
    rw [hk]
    rfl
  unfold swapsWith
  simp only [h2, h1, ha, Expr.pos, hl]
  rfl
end Fm
set_option maxHeartbeats 1000000
namespace Fm
open PySem L2 Evl RZ
theorem q_lockAsg {σ : L2.St} {H : Hp} {te : TE} {tz : TS} {D : Ends} {i : Nat} (h : tLockE te σ H fun v H1 => tz D (σ.set i (some v)) H1) : tSeq (tLock (tAsg te (gName i))) tz D σ H := h
section
variable {P : Program} {w : World} {K : PySem.W.Frag} {σ : L2.St} {H : Hp} {td : TE} {d : Addr} {Q : VK}
theorem m_dcLists {α : Type} {R : V → α → Hp → Prop} {xs : List (Lv × α)} {j : Nat} {vs : List Nat} (h : DW P w R H d xs) (hnd : (xs.map Prod.fst).Nodup) (hm : xs.length ≤ 100000) (hl : ∀ od ys, Ev td σ (upd H d (.frz od (NDO P w d ys))) (.ref d)) (hw : ∀ x, wipe ((wipe σ vs).set j (some x)) vs = wipe σ vs) (he : ∀ (b : Addr) H1, Ev (tVar j) ((wipe σ vs).set j (some (.ref b))) H1 (.ref b))
    (q : ∀ D H' ts, H D = none → Ex H H' → SrcH P w H' D ts → ts.map Prod.fst = xs.map Prod.fst → (∀ x ∈ ts, x.2.2 = [] ∧ H x.2.1 = none) → Q (.ref D) H') : tLockE (tDcN P w (iKeysN P w td) (gName j) tYes (tVar j) (tLst tNil) vs) σ H Q := by
  obtain ⟨kvs, ⟨ys, hd, hz, rel⟩, hk⟩ := h.at_
  have hlen : ys.length = (xs.map Prod.fst).length := by rw [← Paired.length rel, Paired.length hk, List.length_map]
  refine ⟨d, _, hd, True.intro, fun od => ?_⟩
  refine hl od ys _ (Ex.refl _) _ fun H2 e2 => ⟨d, od, ys, rfl, e2 _ _ upd_same, fun D hD => ?_⟩
  have hDd : D ≠ d := fun z => by rw [z, e2 _ _ upd_same] at hD; cases hD
  have hD0 : H D = none := by
    cases hq : H D with
    | none => rfl
    | some o => rw [e2 _ _ (by rw [upd_ne hDd]; exact hq)] at hD; cases hD
  have base : ∀ y o, y ≠ d → H y = some o → H2 y = some o := fun y o hy ho => e2 _ _ (by rw [upd_ne hy]; exact ho)
  refine dcn_it walk_keysN (fun i H' => H' d = some (.frz od (NDO P w d ys)) ∧ (∀ y o, y ≠ d → H y = some o → H' y = some o) ∧ ∃ ts, DW P w SrR H' D ts ∧ ts.map Prod.fst = (xs.map Prod.fst).take i ∧ (∀ x ∈ ts, ∀ y ∈ ts, x.2.1 = y.2.1 → x.1 = y.1) ∧ ∀ x ∈ ts, x.2.2 = [] ∧ H x.2.1 = none) ⟨?_, ?_, ?_⟩ (fun i H' _ p => p.1) ?_ ?_
  · rw [upd_ne hDd.symm]; exact e2 _ _ upd_same
  · intro y o hy ho
    rw [upd_ne fun z => by rw [z, hD0] at ho; cases ho]
    exact base y o hy ho
  · exact ⟨[], ⟨[], ⟨[], upd_same, Nat.zero_le _, .nil⟩, .nil⟩, rfl, fun _ h => (nomatch h), fun _ h => nomatch h⟩
  · rintro i v Hx H3 hi ⟨p1, p2, ts, p3, p4, p5, p6⟩ ⟨rfl, e, hye, rfl⟩
    obtain ⟨kv, hkv, hke, ⟨hnk, _⟩, _⟩ := paired_get rel hye
    obtain ⟨x0, hx0, hk1, _⟩ := paired_at hk hkv
    have hf : (xs.map Prod.fst)[i]? = some x0.1 := by rw [List.getElem?_map, hx0]; rfl
    have ht : (xs.map Prod.fst).take (i + 1) = (xs.map Prod.fst).take i ++ [x0.1] := by rw [List.take_add_one, hf]; rfl
    have tup : ∀ b zs, H b = some (.tup zs) → H3 b = some (.tup zs) := fun b zs hb => p2 b _ (fun z => by rw [z, hd] at hb; unfold NDO at hb; cases hb) hb
    have hb : LvH H3 e.2.1 x0.1 := nk_lv (by rw [← hk1]; exact hnk.up tup)
    refine ⟨hw _, ?_⟩
    dsimp only [tYes]
    rw [if_pos rfl]
    refine he e.2.1 H3 _ (Ex.refl _) _ fun H5 e5 => ⟨Nat.zero_le _, fun a ha => ?_⟩
    have e6 := Ex.new (o := .lst []) ha
    have ha6 : upd H5 a (.lst []) a = some (.lst []) := upd_same
    generalize upd H5 a (.lst []) = H6 at e6 ha6 ⊢
    have e36 := e5.trans e6
    have ha3 : H3 a = none := fresh_back e5 ha
    have had : a ≠ d := fun z => by rw [z, p1] at ha3; cases ha3
    have ha0 : H a = none := by
      cases hq : H a with
      | none => rfl
      | some o => rw [p2 a o had hq] at ha3; cases ha3
    have hau : ∀ x ∈ ts, x.2.1 ≠ a := fun x hx z => by
      have := lkp_of_mem (by rw [p4]; exact hnd.sublist (List.take_sublist _ _)) hx
      have := dpr_val (p3.at_.choose_spec.2) x.1
      rw [‹lkp ts x.1 = _›] at this
      obtain ⟨_, _, _, vs, g, _⟩ := this
      rw [z, ha3] at g; cases g
    obtain ⟨kvs', g1, g2⟩ := (p3.up srR_d e36).at_
    have hl2 := Paired.length g2
    have hl3 : ts.length = i := by
      have := congrArg List.length p4
      rw [List.length_map, List.length_take, List.length_map] at this
      have hil : i < xs.length := (List.getElem?_eq_some_iff.mp hx0).1
      omega
    have hno : x0.1 ∉ ts.map Prod.fst := fun z => by
      rw [p4] at z
      obtain ⟨j2, hj, hgj⟩ := List.mem_take_iff_getElem.mp z
      have hil : i < (xs.map Prod.fst).length := (List.getElem?_eq_some_iff.mp hf).1
      exact List.pairwise_iff_getElem.mp hnd j2 i (by omega) hil (by omega) (hgj.trans (List.getElem?_eq_some_iff.mp hf).2.symm)
    have hDa : D ≠ a := fun z => by obtain ⟨_, ⟨zs, g, _⟩, _⟩ := p3.at_; rw [z, ha3] at g; cases g
    obtain ⟨ysD, gD, _, _⟩ := id g1
    refine ⟨kvs', lvK x0.1, g1, (hb.up e36).nk, lvK_depth _, ⟨_, rfl⟩, by rw [sizeLine_eq]; have hil : i < xs.length := (List.getElem?_eq_some_iff.mp hx0).1; omega, fun ys' g => ⟨?_, ?_, ?_⟩⟩
    · rw [upd_ne hDd.symm]; exact e36 _ _ p1
    · intro y o hy ho
      rw [upd_ne fun z => by rw [z, hD0] at ho; cases ho]
      exact e36 _ _ (p2 y o hy ho)
    · have kl := kl_dict (o := NDO P w D ys') gD
      have hsr : SrR (.ref a) (a, []) H6 := ⟨rfl, [], ha6, .nil⟩
      refine ⟨ts ++ [(x0.1, (a, []))], ?_, by rw [List.map_append, p4, ht]; rfl, fun x hx y hy q => ?_, fun x hx => ?_⟩
      · rw [← putL_new hno]
        exact ⟨_, g, Paired.mapP (dpr_put g2 hsr) fun _ _ z => ⟨z.1, z.2.kl kl⟩⟩
      · rcases List.mem_append.mp hx with hx | hx <;> rcases List.mem_append.mp hy with hy | hy
        · exact p5 x hx y hy q
        · rw [List.mem_singleton.mp hy] at q; exact absurd q (hau x hx)
        · rw [List.mem_singleton.mp hx] at q; exact absurd q.symm (hau y hy)
        · rw [List.mem_singleton.mp hx, List.mem_singleton.mp hy]
      · rcases List.mem_append.mp hx with hx | hx
        · exact p6 x hx
        · rw [List.mem_singleton.mp hx]; exact ⟨rfl, ha0⟩
  · rintro H3 ⟨p1, p2, ts, p3, p4, p5, p6⟩
    refine ⟨p1, ?_⟩
    rw [hlen, List.take_length] at p4
    have kf : Kl H3 (upd H3 d (NDO P w d ys)) := kl_frz p1
    refine q D _ ts hD0 (fun y o ho => ?_) ⟨p3.kl (fun _ _ h => h.kl kf) kf fun o h => by rw [upd_ne hDd]; exact h, by rw [p4]; exact hnd, p5⟩ p4 p6
    by_cases z : y = d
    · rw [z, upd_same, ← hd, ← z]; exact ho
    · rw [upd_ne z]; exact p2 y o z ho
theorem m_lcItemsK {α : Type} {R : V → α → Hp → Prop} {xs : List (Lv × α)} {g : TG} {tt : TT} {te : TE} {vs : List Nat} (f : Lv × α → Bool) (hr : ∀ v x H H', Kl H H' → R v x H → R v x H') (h : DW P w R H d xs) (hm : xs.length ≤ 90000) (hl : ∀ od ys, Ev td σ (upd H d (.frz od (NDO P w d ys))) (.ref d))
    (hs : ∀ x ∈ xs, ∀ (T kb : Addr) (v : V) (H' : Hp) (M : V → Hp → Prop) (N : Hp → Prop), HeldD P w d H H' → H' T = some (.tup [.ref kb, v]) → LvH H' kb x.1 → R v x.2 H' → (f x = false → ∀ H3, Ex H' H3 → N H3) → (f x = true → ∀ H3, Ex H' H3 → M (.ref kb) H3) →
      g (.ref T) (wipe σ vs) H' fun σ2 H2 => wipe σ2 vs = wipe σ vs ∧ tt σ2 H2 fun b H3 => if b = true then te σ2 H3 M else N H3)
    (q : ∀ D us H', H D = none → Ex H H' → H' D = some (.lst us) → Paired (fun u l => LvR u l H') us ((xs.filter f).map Prod.fst) → Q (.ref D) H') : tLockE (tLc (iItemsN P w td) g tt te vs) σ H Q := by
  obtain ⟨kvs, ⟨ys, hd, hz, rel⟩, hk⟩ := h.at_
  have hlen : kvs.length = xs.length := Paired.length hk
  refine ⟨d, _, hd, True.intro, fun od => ?_⟩
  refine hl od ys _ (Ex.refl _) _ fun H2 e2 => ⟨d, od, ys, kvs, rfl, e2 _ _ upd_same, Paired.mapP rel fun _ _ z => ⟨z.1, z.2.2⟩, fun D hD => ?_⟩
  have hDd : D ≠ d := fun z => by rw [z, e2 _ _ upd_same] at hD; cases hD
  have hD0 : H D = none := by
    cases hq : H D with
    | none => rfl
    | some o => rw [e2 _ _ (by rw [upd_ne hDd]; exact hq)] at hD; cases hD
  have base : ∀ y o, y ≠ d → H y = some o → H2 y = some o := fun y o hy ho => e2 _ _ (by rw [upd_ne hy]; exact ho)
  refine lc_it walk_itemsN (fun i H' => H' d = some (.frz od (NDO P w d ys)) ∧ (∀ y o, y ≠ d → H y = some o → H' y = some o) ∧ ∃ us, H' D = some (.lst us) ∧ Paired (fun u l => LvR u l H') us (((xs.take i).filter f).map Prod.fst)) ⟨?_, ?_, ?_⟩ (fun i H' _ p => p.1) ?_ ?_
  · rw [upd_ne hDd.symm]; exact e2 _ _ upd_same
  · intro y o hy ho
    rw [upd_ne fun z => by rw [z, hD0] at ho; cases ho]
    exact base y o hy ho
  · exact ⟨[], upd_same, .nil⟩
  · rintro i v H3 H4 hi ⟨p1, p2, us, p3, p4⟩ ⟨T, kv, e, hkv, hye, rfl, hT, rfl⟩
    obtain ⟨kv', hkv', hke, ⟨hnk, _⟩, _⟩ := paired_get rel hye
    rw [hkv] at hkv'
    cases hkv'
    obtain ⟨x0, hx0, hk1, hk2⟩ := paired_at hk hkv
    have ht : xs.take (i + 1) = xs.take i ++ [x0] := by rw [List.take_add_one, hx0]; rfl
    have e4 := Ex.new (o := .tup [.ref e.2.1, kv.2]) hT
    have hT4 : upd H3 T (.tup [.ref e.2.1, kv.2]) T = some (.tup [.ref e.2.1, kv.2]) := upd_same
    have p14 := e4 _ _ p1
    have p24 : ∀ y o, y ≠ d → H y = some o → upd H3 T (.tup [.ref e.2.1, kv.2]) y = some o := fun y o a b => e4 _ _ (p2 y o a b)
    have p34 := e4 _ _ p3
    have p44 := Paired.mapP p4 fun _ _ z => lvR_d _ _ _ _ e4 z
    generalize upd H3 T (.tup [.ref e.2.1, kv.2]) = H4 at hT4 p14 p24 p34 p44 ⊢
    have HD : HeldD P w d H H4 := ⟨p24, od, ys, hd, p14⟩
    have tup : ∀ b zs, H b = some (.tup zs) → H4 b = some (.tup zs) := fun b zs hb => HD.kl _ _ hb (.inl ⟨_, rfl⟩)
    have hb : LvH H4 e.2.1 x0.1 := nk_lv (by rw [← hk1]; exact hnk.up tup)
    have hxm := List.mem_of_getElem? hx0
    have hul := Paired.length p44
    have hlf := List.length_filter_le f (xs.take i)
    rw [List.length_map] at hul
    rw [List.length_take] at hlf
    refine hs x0 hxm T e.2.1 kv.2 H4 _ _ HD hT4 hb (hr _ _ _ _ HD.kl hk2) (fun hn H5 e5 => ?_) fun hc H5 e5 => ?_
    · refine ⟨e5 _ _ p14, fun y o a b => e5 _ _ (p24 y o a b), us, e5 _ _ p34, ?_⟩
      rw [ht, List.filter_append, List.filter_cons, hn]
      simpa using Paired.mapP p44 fun _ _ z => lvR_d _ _ _ _ e5 z
    · have hu5 := e5 _ _ p34
      have tp : ∀ b ys, H5 b = some (.tup ys) → upd H5 D (.lst (us ++ [.ref e.2.1])) b = some (.tup ys) := fun b ys hb => by
        rw [upd_ne fun z => ?_]
        · exact hb
        · rw [z, hu5] at hb; cases hb
      refine ⟨us, hu5, by rw [sizeLine_eq]; omega, ?_, fun y o a b => ?_, us ++ [.ref e.2.1], upd_same, ?_⟩
      · rw [upd_ne hDd.symm]; exact e5 _ _ p14
      · rw [upd_ne fun z => by rw [z, hD0] at b; cases b]
        exact e5 _ _ (p24 y o a b)
      · rw [ht, List.filter_append, List.filter_cons, hc, List.map_append]
        exact paired_append (Paired.mapP p44 fun _ _ ⟨c, g1, g2⟩ => ⟨c, g1, tp _ _ (e5 _ _ g2)⟩) (.cons ⟨e.2.1, rfl, tp _ _ (e5 _ _ hb)⟩ .nil)
  · rintro H3 ⟨p1, p2, us, p3, p4⟩
    refine ⟨p1, ?_⟩
    rw [hlen, List.take_length] at p4
    have kf : Kl H3 (upd H3 d (NDO P w d ys)) := kl_frz p1
    refine q D us _ hD0 (fun y o ho => ?_) (by rw [upd_ne hDd]; exact p3) (Paired.mapP p4 fun _ _ z => z.kl kf)
    by_cases z : y = d
    · rw [z, upd_same, ← hd, ← z]; exact ho
    · rw [upd_ne z]; exact p2 y o z ho
end
end Fm
set_option maxHeartbeats 1000000
namespace Fm
open PySem L2 Evl RZ
section
variable {P : Program} {w : World} {H H' : Hp} {d b : Addr} {α : Type} {R : V → α → Hp → Prop} {xs : List (Lv × α)}
def Ts (H H' : Hp) : Prop := ∀ b ys, H b = some (.tup ys) → H' b = some (.tup ys)
theorem Ts.of (e : Ex H H') : Ts H H' := fun b ys h => e _ _ h
theorem Kl.ts (k : Kl H H') : Ts H H' := fun b ys h => k _ _ h (.inl ⟨_, rfl⟩)
theorem Ts.trans {H'' : Hp} (a : Ts H H') (b : Ts H' H'') : Ts H H'' := fun c ys h => b _ _ (a _ _ h)
theorem ts_lst {a : Addr} {xs : List V} {o : HO} (h : H a = some (.lst xs)) : Ts H (upd H a o) := fun b ys hb => by
  rw [upd_ne fun z => ?_]
  · exact hb
  · rw [z, h] at hb; cases hb
theorem LvH.ts {l : Lv} (t : Ts H H') (h : LvH H b l) : LvH H' b l := t _ _ h
theorem LvR.ts {v : V} {l : Lv} (t : Ts H H') (h : LvR v l H) : LvR v l H' := let ⟨b, h1, h2⟩ := h; ⟨b, h1, t _ _ h2⟩
theorem DW.mv (r : ∀ v x, R v x H → R v x H') (t : Ts H H') (e : ∀ o, H d = some o → H' d = some o) (h : DW P w R H d xs) : DW P w R H' d xs := by
  obtain ⟨kvs, ⟨ys, h1, h2, h3⟩, h4⟩ := h.at_
  exact ⟨kvs, ⟨ys, e _ h1, h2, h3.up fun b zs hb => t _ _ hb⟩, Paired.mapP h4 fun _ _ z => ⟨z.1, r _ _ z.2⟩⟩
theorem SrcH.mv {ts : List (Lv × (Addr × List Lv))} (t : Ts H H') (e : ∀ o, H d = some o → H' d = some o) (l : ∀ x ∈ ts, ∀ o, H x.2.1 = some o → H' x.2.1 = some o) (h : SrcH P w H d ts) : SrcH P w H' d ts := by
  obtain ⟨kvs, ⟨ys, h1, h2, h3⟩, h4⟩ := h.dw.at_
  refine ⟨⟨kvs, ⟨ys, e _ h1, h2, h3.up fun b zs hb => t _ _ hb⟩, ?_⟩, h.nd, h.inj⟩
  have key : ∀ (kvs : List (NestedKey × V)) (us : List (Lv × (Addr × List Lv))), (∀ x ∈ us, x ∈ ts) → Paired (DPr SrR H) kvs us → Paired (DPr SrR H') kvs us := by
    intro kvs us hu hk
    induction hk with
    | nil => exact .nil
    | cons hx _ ih =>
      refine .cons ?_ (ih fun y hy => hu y (List.mem_cons_of_mem _ hy))
      obtain ⟨k1, k2, vs, k3, k4⟩ := hx
      exact ⟨k1, k2, vs, l _ (hu _ List.mem_cons_self) _ k3, Paired.mapP k4 fun _ _ z => z.ts t⟩
  exact key kvs ts (fun _ h => h) h4
end
theorem fm_some {α β : Type} (g : α → β) : ∀ sp : List (Lv × α), (sp.filterMap fun x => (some (g x.2)).map fun c => (x.1, c)) = sp.map fun x => (x.1, g x.2)
  | [] => rfl
  | x :: sp => by rw [List.filterMap_cons, List.map_cons]; show _ :: _ = _; rw [fm_some g sp]
theorem srcL_take {L : LkF} {sp : List Lv} {i : Nat} {s b : Lv} (h : sp[i]? = some s) : srcL L (sp.take (i + 1)) b = srcL L (sp.take i) b ++ List.replicate (cntL L s b) s := by
  unfold srcL
  rw [List.take_add_one, h, List.flatMap_append]
  simp
theorem srcL_len {L : LkF} {B : Nat} (hB : ∀ s, (L s).length ≤ B) (b : Lv) : ∀ sp : List Lv, (srcL L sp b).length ≤ sp.length * B
  | [] => Nat.zero_le _
  | s :: sp => by
    have h1 := srcL_len hB b sp
    have h2 : cntL L s b ≤ B := Nat.le_trans (List.length_filter_le _ _) (hB s)
    unfold srcL at h1 ⊢
    rw [List.flatMap_cons, List.length_append, List.length_replicate, List.length_cons, Nat.add_mul]
    omega
theorem zero_links {L : LkF} : ∀ sp : List Lv, ((sp.map fun s => (s, (((L s).length : Nat) : Int))).filter fun x => decide (x.2 = 0)).map Prod.fst = sp.filter fun s => decide ((L s).length = 0)
  | [] => rfl
  | s :: sp => by
    rw [List.map_cons, List.filter_cons, List.filter_cons]
    by_cases h : (L s).length = 0
    · rw [if_pos (decide_eq_true (by show (((L s).length : Nat) : Int) = 0; omega)), if_pos (decide_eq_true h), List.map_cons, zero_links sp]
    · rw [if_neg (by rw [decide_eq_false (by show ¬ (((L s).length : Nat) : Int) = 0; omega)]; exact Bool.false_ne_true), if_neg (by rw [decide_eq_false h]; exact Bool.false_ne_true), zero_links sp]
def cntP (ps : List (Option Nat × Lv)) (b : Lv) : Nat := (ps.filter fun p => decide (p.2 = b)).length
theorem cntP_app (ps : List (Option Nat × Lv)) (p : Option Nat × Lv) (b : Lv) : cntP (ps ++ [p]) b = cntP ps b + if p.2 = b then 1 else 0 := by
  unfold cntP
  rw [List.filter_append, List.length_append, List.filter_cons]
  by_cases h : p.2 = b
  · rw [if_pos (decide_eq_true h), if_pos h]; rfl
  · rw [if_neg (by rw [decide_eq_false h]; exact Bool.false_ne_true), if_neg h]; rfl
def spFindN (P : Program) (w : World) (K : PySem.W.Frag) (C : Addr) : Sp := fun vs H Q _ => ∃ (x dx dl dn : Addr) (mv cv dv sv : V) (sp : List Lv) (L : LkF) (B : Nat), vs = [.ref x] ∧ H x = some (.ins C dx (rof mv cv dv sv (.ref dl) (.ref dn))) ∧ DW P w LkR H dl (sp.map fun s => (s, L s)) ∧ sp.Nodup ∧ (∀ s ∈ sp, ∀ p ∈ L s, p.2 ∈ sp) ∧ (∀ s, (L s).length ≤ B) ∧ B ≤ 20 ∧ sp.length * B ≤ 90000 ∧ sp.length ≤ 90000 ∧ dl ≠ dn ∧ DW P w NaR H dn [] ∧
  ∀ lens H', (∀ y o, y ≠ dn → H y = some o → H' y = some o) → DW P w NaR H' dn lens → LenOk L sp lens → Q .non H'
section
variable {P : Program} {w : World} {K : PySem.W.Frag} {mg : Str → Option Value} {base : Heap} {C : Addr}
theorem q_augN {σ : L2.St} {H : Hp} {to ti te : TE} {tget : V → V → Hp → VK → Prop} {tip : TIp} {tset : TSet} {tz : TS} {D : Ends} (h : to σ H fun o H1 => ti σ H1 fun i H2 => tget o i H2 fun x H3 => te σ H3 fun y H4 => tip x y H4 fun z H5 => tset o i z H5 fun H6 => tz D σ H6) : tSeq (tAugS to ti te tget tip tset) tz D σ H := h
theorem m_ckw {σ : L2.St} {H : Hp} {Q : VK} {te te2 : TE} {r : List V → List V → Hp → VK → Prop} (h : te σ H fun v H1 => te2 σ H1 fun z H2 => r [v] [z] H2 Q) : tCKw r (tCons te tNil) (tCons te2 tNil) σ H Q := h
abbrev s_Rounds_find_lengths : Stmt := inClass (top 26) 4
theorem sc_Rounds_find_lengths : FnScope ["self", "lives", "sources", "pairs", "deed", "behind", "left", "open_ones", "source", "many"] ["self"] (defScope s_Rounds_find_lengths) := ⟨rfl, rfl, rfl, by decide +kernel, rfl, by decide +kernel, by decide +kernel⟩
theorem ok_find_lengths {f : Addr} {fd : FuncData} (F : Fun K "find_lengths" "Rounds.find_lengths" s_Rounds_find_lengths f fd) (T : Txt K mg) (T_Rounds : RouT K C) : FnOk P w K mg base CX0 5 f fd ["self"] (spFindN P w K C) := by
  refine F.ok sc_Rounds_find_lengths (fun vs H Q E h => ?_) (fun cdv A outer s H vs Q E hr h => ?_)
  · obtain ⟨_, _, _, _, _, _, _, _, _, _, _, rfl, _⟩ := h
    rfl
  · obtain ⟨x, dx, dl, dn, mv, cv, dv, sv, sp, L, B, rfl, hx, hln, hsn, hcl, hB, hB20, hsB, hsm, hlm, hdn, k⟩ := h
    refine ⟨_, (pss_cons (ps_lock (setDcN_K (P := P) (w := w) (i := 2) (own := [("lives", 1)]) (g := gName 1) rfl rfl hr.units rfl sc_Rounds_find_lengths.nd rfl rfl (sw_trueD rfl rfl rfl (by decide +kernel)) (keysN_K (P := P) (w := w) rfl rfl (fld_KR (K := K) rfl (pv 0) rfl)) (blkOk_by (by kernel_rfl)) (fun _ _ _ _ _ => pg_name (i := 1) sc_Rounds_find_lengths.nd rfl (by first | exact Or.inl rfl | exact Or.inr rfl)) (fun _ _ _ _ _ => pts_nil) (fun _ _ _ _ _ => (pv 1)) (fun _ _ _ _ _ => (pe_lst pa_nil))))
  (pss_cons (ps_lock (ps_for PassesOwn.never rfl (itemsN_K (P := P) (w := w) rfl rfl (fld_KR (K := K) rfl (pv 0) rfl)) (pg_tup rfl (pgs_cons (pg_name (i := 1) sc_Rounds_find_lengths.nd rfl (by first | exact Or.inl rfl | exact Or.inr rfl)) (pgs_cons (pg_name (i := 3) sc_Rounds_find_lengths.nd rfl (by first | exact Or.inl rfl | exact Or.inr rfl)) pgs_nil))) (pss_one (ps_for PassesOwn.never rfl (pi_listK (K := K) rfl (pv 3)) (pg_tup rfl (pgs_cons (pg_name (i := 4) sc_Rounds_find_lengths.nd rfl (by first | exact Or.inl rfl | exact Or.inr rfl)) (pgs_cons (pg_name (i := 5) sc_Rounds_find_lengths.nd rfl (by first | exact Or.inl rfl | exact Or.inr rfl)) pgs_nil))) (pss_one (ps_expr (pe_bm PySem.F.plainAttrs_list PySem.F.slot_list_append PySem.F.type_list_append mt_append (nget_K (P := P) (w := w) rfl rfl hr.units (pv 2) (pv 5) (fun _ _ => rfl)) (pa_cons (pv 1) pa_nil))))))))
  (pss_cons (ps_lock (setDcN_K (P := P) (w := w) (i := 6) (own := [("lives", 1), ("pairs", 3)]) (g := gTup K 2 (gCons (gName 1) (gCons (gName 3) gNil))) rfl rfl hr.units rfl sc_Rounds_find_lengths.nd rfl rfl (sw_trueD rfl rfl rfl (by decide +kernel)) (itemsN_K (P := P) (w := w) rfl rfl (fld_KR (K := K) rfl (pv 0) rfl)) (blkOk_by (by kernel_rfl)) (fun _ _ _ _ _ => pg_tupK (K := K) rfl rfl (pgs_cons (pg_name (i := 1) sc_Rounds_find_lengths.nd rfl (by first | exact Or.inl rfl | exact Or.inr rfl)) (pgs_cons (pg_name (i := 3) sc_Rounds_find_lengths.nd rfl (by first | exact Or.inl rfl | exact Or.inr rfl)) pgs_nil))) (fun _ _ _ _ _ => pts_nil) (fun _ _ _ _ _ => (pv 1)) (fun _ _ _ _ _ => (pe_callB (len_K (K := K) rfl) (by rfl) T.z_len (by decide +kernel) (pa_cons (pv 3) pa_nil)))))
  (pss_cons (ps_lock (ps_setLc (i := 7) (own := [("lives", 1), ("many", 9)]) (g := gTup K 2 (gCons (gName 1) (gCons (gName 9) gNil))) rfl sc_Rounds_find_lengths.nd rfl rfl (sw_true rfl rfl rfl (by decide +kernel)) (itemsN_K (P := P) (w := w) rfl rfl (pv 6)) (blkOk_by (by kernel_rfl)) (fun _ _ _ _ _ => pg_tupK (K := K) rfl rfl (pgs_cons (pg_name (i := 1) sc_Rounds_find_lengths.nd rfl (by first | exact Or.inl rfl | exact Or.inr rfl)) (pgs_cons (pg_name (i := 9) sc_Rounds_find_lengths.nd rfl (by first | exact Or.inl rfl | exact Or.inr rfl)) pgs_nil))) (fun _ _ _ _ _ => (pts_one (pt_cmpR op_eq (pv 9) pe_int (nomark _)))) (fun _ _ _ _ _ => (pv 1))))
  (pss_one (ps_while PassesOwn.never (pt_truthK (K := K) rfl (pv 7) (by intro _; rfl)) (pss_cons (ps_set (i := 1) sc_Rounds_find_lengths.nd rfl (Or.inl rfl) (pe_bm0 PySem.F.plainAttrs_list PySem.F.slot_list_pop PySem.F.type_list_pop mt_pop (pv 7)))
  (pss_cons (nput_K (P := P) (w := w) rfl rfl hr.units (fld_KR (K := K) rfl (pv 0) rfl) (pv 1) (pe_callBK (maxDef_K (K := K) rfl rfl hr.units) (by rfl) T.z_max (by decide +kernel) (pa_cons (pe_lc (own := [("deed", 4), ("behind", 5)]) (g := gTup K 2 (gCons (gName 4) (gCons (gName 5) gNil))) rfl sc_Rounds_find_lengths.nd (pi_listK (K := K) rfl (nget_K (P := P) (w := w) rfl rfl hr.units (fld_KR (K := K) rfl (pv 0) rfl) (pv 1) (fun _ _ => rfl))) (blkOk_by (by kernel_rfl)) (fun _ _ _ _ _ => pg_tupK (K := K) rfl rfl (pgs_cons (pg_name (i := 4) sc_Rounds_find_lengths.nd rfl (by first | exact Or.inl rfl | exact Or.inr rfl)) (pgs_cons (pg_name (i := 5) sc_Rounds_find_lengths.nd rfl (by first | exact Or.inl rfl | exact Or.inr rfl)) pgs_nil))) (fun _ _ _ _ _ => pts_nil) (fun _ _ _ _ _ => (pe_op op_add (nget_K (P := P) (w := w) rfl rfl hr.units (fld_KR (K := K) rfl (pv 0) rfl) (pv 5) (fun _ _ => rfl)) pe_int))) pa_nil) (pk_cons pe_int pk_nil)) rfl)
  (pss_one (ps_for PassesOwn.never rfl (pi_listK (K := K) rfl (nget_K (P := P) (w := w) rfl rfl hr.units (pv 2) (pv 1) (fun _ _ => rfl))) (pg_name (i := 8) sc_Rounds_find_lengths.nd rfl (by first | exact Or.inl rfl | exact Or.inr rfl)) (pss_cons (ps_augS (pv 6) (pv 8) (getN_K (P := P) (w := w) rfl rfl hr.units) pe_int ip_sub (setN_K (P := P) (w := w) rfl rfl hr.units))
  (pss_one (ps_if (pt_cmpR op_eq (nget_K (P := P) (w := w) rfl rfl hr.units (pv 6) (pv 8) (fun _ _ => rfl)) pe_int (nomark _)) (pss_one (ps_expr (pe_bm PySem.F.plainAttrs_list PySem.F.slot_list_append PySem.F.type_list_append mt_append (pv 7) (pa_cons (pv 8) pa_nil)))) pss_nil))))))))))))), ?_⟩
    have hkeys : (sp.map fun s => (s, L s)).map Prod.fst = sp := by rw [List.map_map]; exact List.map_id' sp
    obtain ⟨kvs, hnd, hkvs⟩ := id hln.at_
    obtain ⟨ys0, hys0, _, _⟩ := id hnd
    have hkl : kvs.length = sp.length := by rw [Paired.length hkvs, List.length_map]
    have hxl : x ≠ dl := fun z => by rw [z, hys0] at hx; unfold NDO at hx; cases hx
    refine q_lockAsg (m_dcLists hln (by rw [hkeys]; exact hsn) (by rw [List.length_map]; omega) (fun od ys => ev_fldR (ev_var rfl) (by rw [upd_ne hxl]; exact hx) T_Rounds.cl T_Rounds.n_links rof_links) (fun x => rfl) (fun b H1 => ev_var rfl) fun ds H1 ts0 hds e1 S1 hts0 hemp => ?_)
    rw [hkeys] at hts0
    try dsimp only [List.set]
    have hys1 := e1 _ _ hys0
    have hdsl : ds ≠ dl := fun z => by rw [z, hys0] at hds; cases hds
    have klF : ∀ {H' : Hp}, (∀ y o, y ≠ dl → H y = some o → H' y = some o) → Kl H H' := fun {H'} fr y o hy ho => fr y o (fun z => by
      rw [z, hys0] at hy
      cases hy
      rcases ho with ⟨_, e⟩ | ⟨_, e⟩ <;> (unfold NDO at e; cases e)) hy
    have start : ∀ b ∈ sp, ∃ a, lkp ts0 b = some (a, []) := fun b hb => by
      have h1 : (lkp ts0 b).isSome = true := by rw [lkp_some, hts0]; exact decide_eq_true hb
      obtain ⟨⟨a, l⟩, h2⟩ := Option.isSome_iff_exists.mp h1
      have h3 := (hemp _ (lkp_mem h2)).1
      exact ⟨a, by rw [h2]; simp at h3; rw [h3]⟩
    let St : Obj → NRaw → List (Lv × (Addr × List Lv)) → (Lv → List Lv) → Hp → Prop := fun od xs ts src H' => H' dl = some (.frz od (NDO P w dl xs)) ∧ H1 dl = some (NDO P w dl xs) ∧ (∀ y o, y ≠ dl → H y = some o → H' y = some o) ∧ Ts H1 H' ∧ SrcH P w H' ds ts ∧ ts.map Prod.fst = sp ∧ (∀ x ∈ ts, H x.2.1 = none) ∧ ∀ b ∈ sp, ∃ a, lkp ts b = some (a, src b)
    have StUp : ∀ {od xs ts src H' H''}, Ex H' H'' → St od xs ts src H' → St od xs ts src H'' := fun {od xs ts src H' H''} e ⟨s1, s2, s3, s4, s5, s6⟩ => ⟨e _ _ s1, s2, fun y o a b => e _ _ (s3 y o a b), s4.trans (Ts.of e), s5.up e, s6⟩
    refine q_inR (s_forItemsN (P := P) (w := w) (kvs := kvs) (hnd.up e1) (fun od xs => ev_fldR (ev_var rfl) (by rw [upd_ne hxl]; exact e1 _ _ hx) T_Rounds.cl T_Rounds.n_links rof_links) (fun od xs i σ' H' => ∃ ts z1 z3 z4 z5 z6 z7 z8 z9, σ' = [some (.ref x), z1, some (.ref ds), z3, z4, z5, z6, z7, z8, z9] ∧ St od xs ts (fun b => srcL L (sp.take i) b) H') ?_ ?_ ?_ ?_)
    · intro od xs H2 hx2 e2
      have hxn : ∀ y o, y ≠ dl → H1 y = some o → H2 y = some o := fun y o hy ho => e2 _ _ (by rw [upd_ne hy]; exact ho)
      have ts2 : Ts H1 H2 := fun b ys hb => hxn _ _ (fun z => by rw [z, hys1] at hb; unfold NDO at hb; cases hb) hb
      refine ⟨ts0, _, _, _, _, _, _, _, _, rfl, e2 _ _ upd_same, hx2, fun y o hy ho => hxn _ _ hy (e1 _ _ ho), ts2, S1.mv ts2 (fun o ho => hxn _ _ hdsl ho) (fun y hy o ho => hxn _ _ (fun z => ?_) ho), hts0, fun y hy => (hemp y hy).2, start⟩
      have := (hemp y hy).2
      rw [z, hys0] at this
      cases this
    · rintro od xs i σ' H' ⟨ts, z1, z3, z4, z5, z6, z7, z8, z9, rfl, s1, _, _, s4, _⟩
      exact ⟨s1, fun b ys hb => s4 _ _ hb⟩
    · rintro od xs i kv kb T2 σ' H3 hkv hnk ⟨ts, z1, z3, z4, z5, z6, z7, z8, z9, rfl, S0⟩ hT
      obtain ⟨sx, hsx, hkv1, hkv2⟩ := paired_at hkvs hkv
      rw [List.getElem?_map] at hsx
      obtain ⟨sn, hsnn, rfl⟩ := Option.map_eq_some_iff.mp hsx
      have hsm2 : sn ∈ sp := List.mem_of_getElem? hsnn
      have hil : i < sp.length := (List.getElem?_eq_some_iff.mp hsnn).1
      have hkb : LvH H3 kb sn := nk_lv (by rw [← hkv1]; exact hnk)
      have e4 := Ex.new (o := .tup [.ref kb, kv.2]) hT
      have hT4 : upd H3 T2 (.tup [.ref kb, kv.2]) T2 = some (.tup [.ref kb, kv.2]) := upd_same
      have S4 := StUp e4 S0
      have hkb4 := hkb.up e4
      generalize upd H3 T2 (.tup [.ref kb, kv.2]) = H4 at hT4 S4 hkb4 ⊢
      refine ⟨T2, _, rfl, st_of hT4, rfl, _, _, rfl, _, _, rfl, rfl, ?_⟩
      try dsimp only [List.set]
      obtain ⟨la, us, hla, hus, hpu⟩ := hkv2
      rw [hla]
      have hul := Paired.length hpu
      have fine : ∀ {H' : Hp}, (∀ y o, y ≠ dl → H y = some o → H' y = some o) → H' la = some (.lst us) ∧ Paired (fun u p => DpT u (p.1, some p.2) H') us (L sn) := fun {H'} fr => ⟨klF fr _ _ hus (.inr ⟨_, rfl⟩), Paired.mapP hpu fun _ _ z => z.up fun b ys hb => klF fr _ _ hb (.inl ⟨_, rfl⟩)⟩
      refine s_forL (a := la) (xs := us) (ev_var rfl) (sq_of (fine S4.2.2.1).1) (fun j σ' H' => ∃ ts z4 z5 z6 z7 z8 z9, σ' = [some (.ref x), some (.ref kb), some (.ref ds), some (.ref la), z4, z5, z6, z7, z8, z9] ∧ St od xs ts (fun b => srcL L (sp.take i) b ++ List.replicate (cntP ((L sn).take j) b) sn) H' ∧ LvH H' kb sn) (fun H5 e5 => ⟨ts, _, _, _, _, _, _, rfl, ?_, hkb4.up e5⟩) (fun j σ' H' _ ⟨_, _, _, _, _, _, _, _, S, _⟩ => sq_of (fine S.2.2.1).1) ?_ ?_
      · obtain ⟨a1, a2, a3, a4, a5, a6, a7, a8⟩ := StUp e5 S4
        refine ⟨a1, a2, a3, a4, a5, a6, a7, fun b hb => ?_⟩
        obtain ⟨a, ha⟩ := a8 b hb
        refine ⟨a, ?_⟩
        rw [ha]
        show some (a, srcL L (sp.take i) b) = some (a, srcL L (sp.take i) b ++ List.replicate (cntP ((L sn).take 0) b) sn)
        rw [List.take_zero]
        show _ = some (a, _ ++ [])
        rw [List.append_nil]
      · rintro j u σ' H5 hu ⟨ts, z4, z5, z6, z7, z8, z9, rfl, S5, hkb5⟩
        obtain ⟨p, hp, b, v, rfl, hb, bt, hv, hbt⟩ := paired_at (fine S5.2.2.1).2 hu
        have hbt : v = .ref bt ∧ LvH H5 bt p.2 := ⟨hv, hbt⟩
        obtain ⟨rfl, hbt⟩ := hbt
        have hpm : p ∈ L sn := List.mem_of_getElem? hp
        have hts : p.2 ∈ sp := hcl sn hsm2 p hpm
        have hj1 : (L sn).take (j + 1) = (L sn).take j ++ [p] := by rw [List.take_add_one, hp]; rfl
        refine ⟨b, _, rfl, st_of hb, rfl, _, _, rfl, _, _, rfl, rfl, ?_⟩
        try dsimp only [List.set]
        obtain ⟨a1, a2, a3, a4, a5, a6, a7, a8⟩ := id S5
        obtain ⟨a, ha⟩ := a8 p.2 hts
        obtain ⟨v1, hv1, hv1e, vs, hvs, hpv⟩ := ev_dget (P := P) (w := w) (σ := [some (.ref x), some (.ref kb), some (.ref ds), some (.ref la), some (dvR p.1), some (.ref bt), z6, z7, z8, z9]) (td := tVar 2) (ty := tVar 5) srR_d (ev_var rfl) (ev_var rfl) a5.dw.r hbt ha
        subst hv1e
        have hvl := Paired.length hpv
        have hl1 := srcL_len hB p.2 (sp.take i)
        have hl2 : cntP ((L sn).take j) p.2 ≤ B := Nat.le_trans (List.length_filter_le _ _) (by rw [List.length_take]; have := hB sn; omega)
        rw [List.length_take] at hl1
        have hl3 : min i sp.length * B ≤ sp.length * B := Nat.mul_le_mul_right _ (Nat.min_le_right _ _)
        have hlen : vs.length < 100000 := by
          rw [hvl]
          show (srcL L (sp.take i) p.2 ++ List.replicate _ sn).length < 100000
          rw [List.length_append, List.length_replicate]
          omega
        refine s_app hvs hv1 (ev_var rfl) hlen fun H6 e6 => ?_
        have hvs6 := e6 _ _ hvs
        have S6 := (a5.up e6).app ha hvs6 (Paired.mapP hpv fun _ _ z => lvR_d _ _ _ _ e6 z) (hkb5.up e6)
        have hm := lkp_mem ha
        have haH : H a = none := a7 _ hm
        have hadl : a ≠ dl := fun z => by rw [z, hys0] at haH; cases haH
        have hput : (putL ts p.2 (a, (fun b => srcL L (sp.take i) b ++ List.replicate (cntP ((L sn).take j) b) sn) p.2 ++ [sn])).map Prod.fst = sp := by rw [putL_keys (by rw [a6]; exact hts)]; exact a6
        refine ⟨_, _, _, _, _, _, _, rfl, ⟨?_, a2, fun y o hy ho => ?_, (a4.trans (Ts.of e6)).trans (ts_lst hvs6), S6, hput, fun y hy => ?_, fun b' hb' => ?_⟩, (hkb5.up e6).ts (ts_lst hvs6)⟩
        · rw [upd_ne hadl.symm]; exact e6 _ _ a1
        · rw [upd_ne fun z => by rw [z, haH] at ho; cases ho]; exact e6 _ _ (a3 y o hy ho)
        · have := lkp_of_mem (by rw [hput]; exact hsn) hy
          rw [lkp_put] at this
          by_cases z : y.1 = p.2
          · rw [if_pos z] at this
            rw [← Option.some.inj this]; exact haH
          · rw [if_neg z] at this
            have g := lkp_mem this
            exact a7 (y.1, y.2) g
        · rw [lkp_put]
          by_cases z : b' = p.2
          · rw [if_pos z]
            refine ⟨a, ?_⟩
            show some (a, (srcL L (sp.take i) p.2 ++ List.replicate (cntP ((L sn).take j) p.2) sn) ++ [sn]) = some (a, srcL L (sp.take i) b' ++ List.replicate (cntP ((L sn).take (j + 1)) b') sn)
            rw [z, hj1, cntP_app, if_pos rfl, List.replicate_succ', List.append_assoc]
          · rw [if_neg z]
            obtain ⟨a', ha'⟩ := a8 b' hb'
            refine ⟨a', ?_⟩
            rw [ha']
            show some (a', srcL L (sp.take i) b' ++ List.replicate (cntP ((L sn).take j) b') sn) = some (a', srcL L (sp.take i) b' ++ List.replicate (cntP ((L sn).take (j + 1)) b') sn)
            rw [hj1, cntP_app, if_neg fun q => z q.symm, Nat.add_zero]
      · rintro σ' H5 ⟨ts, z4, z5, z6, z7, z8, z9, rfl, S5, hkb5⟩
        obtain ⟨a1, a2, a3, a4, a5, a6, a7, a8⟩ := S5
        refine ⟨ts, _, _, _, _, _, _, _, _, rfl, a1, a2, a3, a4, a5, a6, a7, fun b hb => ?_⟩
        obtain ⟨a, ha⟩ := a8 b hb
        refine ⟨a, ?_⟩
        rw [ha]
        show some (a, srcL L (sp.take i) b ++ List.replicate (cntP ((L sn).take us.length) b) sn) = some (a, srcL L (sp.take (i + 1)) b)
        rw [hul, List.take_length, srcL_take hsnn]
        rfl
    · rintro od xs σ' H2 ⟨ts, z1, z3, z4, z5, z6, z7, z8, z9, rfl, a1, a2, a3, a4, a5, a6, a7, a8⟩
      rw [hkl, List.take_length] at a8
      have hxs : H dl = some (NDO P w dl xs) := by rw [hys0, ← e1 _ _ hys0, a2]
      have kf : Kl H2 (upd H2 dl (NDO P w dl xs)) := kl_frz a1
      have e3 : Ex H (upd H2 dl (NDO P w dl xs)) := fun y o hy => by
        by_cases z : y = dl
        · rw [z, upd_same, ← hxs, ← z]; exact hy
        · rw [upd_ne z]; exact a3 _ _ z hy
      have hnl : ∀ y ∈ ts, y.2.1 ≠ dl := fun y hy z => by have := a7 y hy; rw [z, hys0] at this; cases this
      have S3 : SrcH P w (upd H2 dl (NDO P w dl xs)) ds ts := a5.mv kf.ts (fun o ho => by rw [upd_ne hdsl]; exact ho) fun y hy o ho => by rw [upd_ne (hnl y hy)]; exact ho
      clear a1 a2 a3 a4 a5 kf S1 start hemp hts0
      generalize upd H2 dl (NDO P w dl xs) = H3 at e3 S3 ⊢
      have hln3 := hln.up lkR_d e3
      have hx3 := e3 _ _ hx
      refine q_lockAsg (m_dcItems (R' := InR) (fun _ ps => some ((ps.length : Nat) : Int)) (fun _ _ _ _ k h => h.kl k) (fun _ _ _ _ _ h => h) hln3 (by rw [hkeys]; exact hsn) (by rw [List.length_map]; omega) (fun od ys => ev_fldR (ev_var rfl) (by rw [upd_ne hxl]; exact hx3) T_Rounds.cl T_Rounds.n_links rof_links) (fun y hy D T2 kb v H' N HD hT hkb hv hno hsome => ?_) fun df H4 hdf e4 d4 => ?_)
      · obtain ⟨la, us, rfl, hus, hpu⟩ := hv
        refine ⟨T2, _, rfl, st_of hT, rfl, _, _, rfl, _, _, rfl, ⟨rfl, rfl, ?_⟩⟩
        dsimp only [tYes]
        rw [if_pos rfl]
        refine (ev_var rfl) H' (Ex.refl _) _ fun Ha ea => ?_
        refine (ev_lnL (ev_var rfl) (sq_of (ea _ _ hus))) Ha (Ex.refl _) _ fun Hb eb => ?_
        exact hsome _ rfl _ Hb (ea.trans eb) (by show V.int _ = V.int _; rw [Paired.length hpu])
      try dsimp only [List.set]
      rw [fm_some fun ps : List (Option Nat × Lv) => ((ps.length : Nat) : Int), List.map_map] at d4
      have d4 : DW P w InR H4 df (sp.map fun s => (s, (((L s).length : Nat) : Int))) := d4
      have S4 := S3.up e4
      have e04 := e3.trans e4
      obtain ⟨_, ⟨yf, hyf, _⟩, _⟩ := id d4.at_
      have hdf3 := hdf
      refine q_lockAsg (m_lcItemsK (fun x => decide (x.2 = 0)) (fun _ _ _ _ _ h => h) d4 (by rw [List.length_map]; exact hsm) (fun od ys => ev_var rfl) (fun y hy T2 kb v H' M N HD hT hkb hv hno hyes => ?_) fun ol us0 H5 hol e5 hol5 hp5 => ?_)
      · have hv : v = .int y.2 := hv
        subst hv
        refine ⟨T2, _, rfl, st_of hT, rfl, _, _, rfl, _, _, rfl, ⟨rfl, rfl, ?_⟩⟩
        refine (et_eq (ev_var rfl) ev_c rfl) H' (Ex.refl _) _ fun Ha ea => ?_
        by_cases z : y.2 = 0
        · rw [if_pos (by rw [decide_eq_true (by rw [z])])]
          exact (ev_var rfl) Ha (Ex.refl _) _ fun Hb eb => hyes (decide_eq_true z) Hb (ea.trans eb)
        · rw [if_neg (by rw [decide_eq_false fun q => z (V.int.inj q)]; exact Bool.false_ne_true)]
          exact hno (decide_eq_false z) Ha ea
      try dsimp only [List.set]
      rw [zero_links] at hp5
      have S5 := S4.up e5
      have d5 := d4.up inR_d e5
      have e05 := e04.trans e5
      have hdn5 := hdn.up naR_d e05
      obtain ⟨_, ⟨yn, hyn, _⟩, _⟩ := id hdn.at_
      obtain ⟨_, ⟨ysd, hysd, _⟩, _⟩ := id S4.dw.at_
      have hsrc5 : ∀ y ∈ ts, ∃ vs, H4 y.2.1 = some (.lst vs) := fun y hy => by
        have := lkp_of_mem S4.nd hy
        have := dpr_val (S4.dw.at_.choose_spec.2) y.1
        rw [‹lkp ts y.1 = _›] at this
        obtain ⟨_, _, _, vs, g, _⟩ := this
        exact ⟨vs, g⟩
      have n_xn : x ≠ dn := fun z => by rw [z, hyn] at hx; unfold NDO at hx; cases hx
      have n_fn : df ≠ dn := fun z => by rw [z, e3 _ _ hyn] at hdf; cases hdf
      have n_on : ol ≠ dn := fun z => by rw [z, e04 _ _ hyn] at hol; cases hol
      have n_of : ol ≠ df := fun z => by rw [z, hyf] at hol; cases hol
      have n_os : ol ≠ ds := fun z => by rw [z, hysd] at hol; cases hol
      have n_fs : df ≠ ds := fun z => by
        obtain ⟨_, ⟨y3, h3, _⟩, _⟩ := id S3.dw.at_
        rw [z, h3] at hdf; cases hdf
      have n_sn : ds ≠ dn := fun z => by rw [z, hyn] at hds; cases hds
      have n_ao : ∀ y ∈ ts, y.2.1 ≠ ol := fun y hy z => by obtain ⟨vs, g⟩ := hsrc5 y hy; rw [z, hol] at g; cases g
      have n_af : ∀ y ∈ ts, y.2.1 ≠ df := fun y hy z => by obtain ⟨vs, g⟩ := hsrc5 y hy; rw [z, hyf] at g; unfold NDO at g; cases g
      have n_an : ∀ y ∈ ts, y.2.1 ≠ dn := fun y hy z => by have := a7 y hy; rw [z, hyn] at this; cases this
      have fresh_o : H ol = none := fresh_back e04 hol
      have fresh_f : H df = none := fresh_back e3 hdf
      let Sw : List (Lv × Nat) → List (Lv × Int) → List Lv → Hp → Prop := fun lens lt os H' => (∀ y o, y ≠ dn → H y = some o → H' y = some o) ∧ DW P w NaR H' dn lens ∧ DW P w InR H' df lt ∧ lt.map Prod.fst = sp ∧ (∃ vs, H' ol = some (.lst vs) ∧ Paired (fun u l => LvR u l H') vs os) ∧ SrcH P w H' ds ts
      have SwUp : ∀ {lens lt os H' H''}, Ex H' H'' → Sw lens lt os H' → Sw lens lt os H'' := fun {lens lt os H' H''} e ⟨s1, s2, s3, s4, ⟨vs, g1, g2⟩, s6⟩ => ⟨fun y o a b => e _ _ (s1 y o a b), s2.up naR_d e, s3.up inR_d e, s4, ⟨vs, e _ _ g1, Paired.mapP g2 fun _ _ z => lvR_d _ _ _ _ e z⟩, s6.up e⟩
      have kw : ∀ {H' : Hp}, (∀ y o, y ≠ dn → H y = some o → H' y = some o) → DW P w LkR H' dl (sp.map fun s => (s, L s)) := fun {H'} fr => by
        have kl : Kl H H' := fun y o hy ho => fr y o (fun z => by
          rw [z, hyn] at hy
          cases hy
          rcases ho with ⟨_, e⟩ | ⟨_, e⟩ <;> (unfold NDO at e; cases e)) hy
        exact hln.kl (fun _ _ h => h.kl kl) kl fun o ho => fr _ _ hlm ho
      refine s_while (fun m σ' H' => ∃ lens lt os z1 z3 z4 z5 z8 z9, σ' = [some (.ref x), z1, some (.ref ds), z3, z4, z5, some (.ref df), some (.ref ol), z8, z9] ∧ Sw lens lt os H' ∧ (∀ s ∈ sp, hF lt s = ((lfL L lens s : Nat) : Int)) ∧ LenI L sp lens ∧ OpnI L sp lens os ∧ m = sp.length - lens.length) _ ⟨[], sp.map fun s => (s, (((L s).length : Nat) : Int)), _, _, _, _, _, _, _, rfl, ⟨fun y o _ h => e05 _ _ h, hdn5, d5, by rw [List.map_map]; exact List.map_id' sp, ⟨us0, hol5, hp5⟩, S5⟩, fun s hs => ?_, ⟨List.nodup_nil, fun _ h => (nomatch h), fun _ _ h => nomatch h⟩, OpnI.new hsn, rfl⟩ ?_
      · unfold hF
        rw [lkp_fun hs]
        show (((L s).length : Nat) : Int) = _
        unfold lfL
        rw [List.filter_eq_self.mpr fun p _ => by rw [lkp_nil]; rfl]
      rintro m σ' H6 ⟨lens, lt, os, z1, z3, z4, z5, z8, z9, rfl, S6, hlt, IL, IO, rfl⟩
      obtain ⟨vs, hvs, hpv⟩ := S6.2.2.2.2.1
      refine ⟨!os.isEmpty, et_is (et_truL (ev_var rfl) (sq_of hvs)) (by rw [paired_em hpv]), fun hb H7 e7 => ?_, fun hb H7 e7 => ?_⟩
      · -- a life
        have hne : vs ≠ [] := fun z => by
          rw [paired_em hpv |>.symm, z] at hb; cases hb
        obtain ⟨vs', v, os', l, rfl, rfl, hpv', b, rfl, hbl⟩ := paired_last hpv hne
        have hlsp : l ∈ sp := IO.sb l (List.mem_append_right _ List.mem_cons_self)
        have hln0 : lkp lens l = none := IO.dj l (List.mem_append_right _ List.mem_cons_self)
        have hz0 : ∀ p ∈ L l, (lkp lens p.2).isSome = true := lfL_zero.mp ((IO.zero l hlsp).mpr (.inr (List.mem_append_right _ List.mem_cons_self)))
        refine ⟨_, fun σ2 H2 h => h, ?_⟩
        refine q_pop (xs := vs') (y := .ref b) (e7 _ _ hvs) (ev_var rfl) fun H8 e8 => ?_
        try dsimp only [List.set]
        have e68 := e7.trans e8
        have hv8 := e68 _ _ hvs
        obtain ⟨s1, s2, s3, s4, _, s6⟩ := SwUp e68 S6
        have t9 := ts_lst (o := .lst vs') hv8
        have b9 : ∀ y o, y ≠ ol → H8 y = some o → upd H8 ol (.lst vs') y = some o := fun y o hy ho => by rw [upd_ne hy]; exact ho
        have S9 : Sw lens lt os' (upd H8 ol (.lst vs')) := ⟨fun y o hy ho => b9 _ _ (fun z => by rw [z, fresh_o] at ho; cases ho) (s1 y o hy ho), s2.mv (R := NaR) (H := H8) (fun _ _ h => h) t9 fun o ho => b9 _ _ n_on.symm ho, s3.mv (R := InR) (H := H8) (fun _ _ h => h) t9 fun o ho => b9 _ _ n_of.symm ho, s4, ⟨vs', upd_same, Paired.mapP hpv' fun _ _ z => (lvR_d _ _ _ _ e68 z).ts t9⟩, s6.mv t9 (fun o ho => b9 _ _ n_os.symm ho) fun y hy o ho => b9 _ _ (n_ao y hy) ho⟩
        have hb9 : LvH (upd H8 ol (.lst vs')) b l := (hbl.up e68).ts t9
        clear s1 s2 s3 s4 s6 t9 b9 hv8
        generalize upd H8 ol (.lst vs') = H9 at S9 hb9 ⊢
        refine q_nputR ?_
        obtain ⟨v1, hv1, la, us, hv1e, hus, hpu⟩ := ev_dget (P := P) (w := w) (σ := [some (.ref x), some (.ref b), some (.ref ds), z3, z4, z5, some (.ref df), some (.ref ol), z8, z9]) (td := tFld K (tVar 0) "links") (ty := tVar 1) lkR_d (ev_fldR (ev_var rfl) (S9.1 _ _ n_xn hx) T_Rounds.cl T_Rounds.n_links rof_links) (ev_var rfl) (kw S9.1).r hb9 (lkp_fun hlsp)
        subst hv1e
        have hul := Paired.length hpu
        have hBl := hB l
        refine m_ckw ?_
        refine m_lcLR (a := la) (xs := us) hv1 (sq_of hus) (fun D i H' => H9 D = none ∧ Ex H9 H' ∧ H' D = some (.lst (((L l).take i).map fun p => V.int ((((lkp lens p.2).getD 0 : Nat) : Int) + 1)))) (fun D H1 e hD => ⟨fresh_back e hD, e.trans (Ex.new hD), upd_same⟩) (fun D i H' _ h => ex_l h.2.1 (sq_of hus)) (fun D i v H' hv h => ?_) (fun D H10 h => ?_)
        · obtain ⟨hD, e9, h2⟩ := h
          obtain ⟨p, hp, b2, v2, rfl, hb2, bt, hbe, hbt⟩ := paired_at hpu hv
          have hbe : v2 = .ref bt ∧ LvH H9 bt p.2 := ⟨hbe, hbt⟩
          obtain ⟨rfl, hbt⟩ := hbe
          have hpm : p ∈ L l := List.mem_of_getElem? hp
          have htk : (L l).take (i + 1) = (L l).take i ++ [p] := by rw [List.take_add_one, hp]; rfl
          refine ⟨b2, _, rfl, st_of (e9 _ _ hb2), rfl, _, _, rfl, _, _, rfl, ⟨rfl, rfl, ?_⟩⟩
          dsimp only [tYes]
          rw [if_pos rfl]
          obtain ⟨n, hn⟩ := Option.isSome_iff_exists.mp (hz0 p hpm)
          obtain ⟨c1, c2, _⟩ := SwUp e9 S9
          obtain ⟨v3, hv3, rfl⟩ := ev_dget (P := P) (w := w) (σ := [some (.ref x), some (.ref b), some (.ref ds), z3, some (dvR p.1), some (.ref bt), some (.ref df), some (.ref ol), z8, z9]) (td := tFld K (tVar 0) "lengths") (ty := tVar 5) naR_d (ev_fldR (ev_var rfl) (c1 _ _ n_xn hx) T_Rounds.cl T_Rounds.n_lengths rof_lengths) (ev_var rfl) c2.r (hbt.up e9) hn
          have hv4 : Ev (tOp (rI0 fun i j => .int (i + j)) (tNGet P w (tFld K (tVar 0) "lengths") (tVar 5)) (tC (.int 1))) [some (.ref x), some (.ref b), some (.ref ds), z3, some (dvR p.1), some (.ref bt), some (.ref df), some (.ref ol), z8, z9] H' (.int (((n : Nat) : Int) + 1)) := ev_i0 hv3 ev_c
          refine hv4 H' (Ex.refl _) _ fun H11 e11 => ?_
          refine ⟨_, e11 _ _ h2, ?_, hD, Ex.mut (e9.trans e11) hD, ?_⟩
          · rw [List.length_map, List.length_take, sizeLine_eq]; omega
          · rw [upd_same, htk, List.map_append, List.map_singleton, hn]; rfl
        obtain ⟨hD, e9, h2⟩ := h
        rw [hul, List.take_length] at h2
        refine ev_c H10 (Ex.refl _) _ fun H11 e11 => ?_
        refine ⟨D, (L l).map fun p => (((lkp lens p.2).getD 0 : Nat) : Int) + 1, 0, rfl, rfl, sq_of (by rw [List.map_map]; exact e11 _ _ h2), ?_⟩
        have S11 := SwUp (e9.trans e11) S9
        have hb11 := hb9.up (e9.trans e11)
        refine (ev_fldR (ev_var rfl) (S11.1 _ _ n_xn hx) T_Rounds.cl T_Rounds.n_lengths rof_lengths) H11 (Ex.refl _) _ fun H12 e12 => ?_
        refine (ev_var rfl) H12 (Ex.refl _) _ fun H13 e13 => ?_
        obtain ⟨c1, c2, c3, c4, ⟨us13, c5, c6⟩, c7⟩ := SwUp (e12.trans e13) S11
        have hb13 := hb11.up (e12.trans e13)
        have hll : lens.length ≤ sp.length := by
          have := nodup_within IL.nd IL.sb
          rwa [List.length_map] at this
        have hnk : l ∉ lens.map Prod.fst := fun z => by
          have h1 : (lkp lens l).isSome = true := by rw [lkp_some]; exact decide_eq_true z
          rw [hln0] at h1; cases h1
        obtain ⟨n, hn⟩ : ∃ n : Nat, ((n : Nat) : Int) = lnAt L lens l := ⟨(lnAt L lens l).toNat, Int.toNat_of_nonneg (lnAt_nn L lens l)⟩
        refine dw_put c2 hb13 (a := n) (by show V.int _ = V.int _; rw [hn]; rfl) (fun _ _ _ _ h => naR_any h) (by omega) fun ys1 kl1 d1 => ?_
        have IL' := IL.put hln0 hlsp hz0 hn
        have IJ := IO.pop (v := n) hsn
        have b14 : ∀ y o, y ≠ dn → H13 y = some o → upd H13 dn (NDO P w dn ys1) y = some o := fun y o hy ho => by rw [upd_ne hy]; exact ho
        have S14 : Sw (putL lens l n) lt os' (upd H13 dn (NDO P w dn ys1)) := ⟨fun y o hy ho => b14 _ _ hy (c1 y o hy ho), d1, c3.mv (R := InR) (H := H13) (fun _ _ h => h) kl1.ts fun o ho => b14 _ _ n_fn ho, c4, ⟨us13, kl1 _ _ c5 (.inr ⟨_, rfl⟩), Paired.mapP c6 fun _ _ z => z.ts kl1.ts⟩, c7.mv kl1.ts (fun o ho => b14 _ _ n_sn ho) fun y hy o ho => b14 _ _ (n_an y hy) ho⟩
        have hb14 := hb13.ts kl1.ts
        clear c1 c2 c3 c4 c5 c6 c7 b14 d1
        generalize upd H13 dn (NDO P w dn ys1) = H14 at S14 hb14 ⊢
        obtain ⟨a, ha⟩ := a8 l hlsp
        have ha : lkp ts l = some (a, srcL L sp l) := ha
        have ham := lkp_mem ha
        obtain ⟨v5, hv5, hv5e, ws, hws, hpw⟩ := ev_dget (P := P) (w := w) (σ := [some (.ref x), some (.ref b), some (.ref ds), z3, z4, z5, some (.ref df), some (.ref ol), z8, z9]) (td := tVar 2) (ty := tVar 1) srR_d (ev_var rfl) (ev_var rfl) S14.2.2.2.2.2.dw.r hb14 ha
        subst hv5e
        have hwl := Paired.length hpw
        have hwl : ws.length = (srcL L sp l).length := hwl
        have hps : ∀ {lens lt os H'}, Sw lens lt os H' → ∃ ws', H' a = some (.lst ws') ∧ Paired (fun u l => LvR u l H') ws' (srcL L sp l) := fun {lens lt os H'} S => by
          have := dpr_val (S.2.2.2.2.2.dw.at_.choose_spec.2) l
          rw [ha] at this
          obtain ⟨_, _, _, vs, g, g2⟩ := this
          exact ⟨vs, g, g2⟩
        refine s_forLn (a := a) (xs := ws) hv5 (sq_of hws) (fun i σ' H' => ∃ lt os z8, σ' = [some (.ref x), some (.ref b), some (.ref ds), z3, z4, z5, some (.ref df), some (.ref ol), z8, z9] ∧ Sw (putL lens l n) lt os H' ∧ H' a = some (.lst ws) ∧ Ts H14 H' ∧ (∀ s ∈ sp, hF lt s = ((lfL L (putL lens l n) s + ((srcL L sp l).drop i).count s : Nat) : Int)) ∧ OpnJ L sp (putL lens l n) (srcL L sp l) i os) (fun H15 e15 => ⟨lt, os', _, rfl, SwUp e15 S14, e15 _ _ hws, Ts.of e15, fun s hs => ?_, IJ⟩) (fun i σ' H' _ ⟨_, _, _, _, _, h, _⟩ => sq_of h) ?_ ?_
        · rw [hlt s hs, List.drop_zero, srcL_count hsn, if_pos hs, lfL_put hln0]
        · rintro i u σ' H15 hu ⟨lt', os'', z8, rfl, S15, hw15, t15, hlt', IJ'⟩
          obtain ⟨sr, hsr, bs, rfl, hbs⟩ := paired_at hpw hu
          have hsr : (srcL L sp l)[i]? = some sr := hsr
          have hsrs : sr ∈ sp := srcL_mem (List.mem_of_getElem? hsr)
          have hbs15 := hbs.ts t15
          obtain ⟨g1, g2, g3, g4⟩ := IJ'.step hsr hsrs
          try dsimp only [List.set]
          have hget : ∀ {lt : List (Lv × Int)}, lt.map Prod.fst = sp → lkp lt sr = some (hF lt sr) := fun {lt} h => by
            have : (lkp lt sr).isSome = true := by rw [lkp_some, h]; exact decide_eq_true hsrs
            obtain ⟨v, hv⟩ := Option.isSome_iff_exists.mp this
            unfold hF
            rw [hv]; rfl
          refine q_augN ?_
          refine (ev_var rfl) H15 (Ex.refl _) _ fun H16 e16 => ?_
          refine (ev_var rfl) H16 (Ex.refl _) _ fun H17 e17 => ?_
          obtain ⟨c1, c2, c3, c4, c5, c7⟩ := SwUp (e16.trans e17) S15
          have hb17 := hbs15.up (e16.trans e17)
          obtain ⟨v6, hg6, hv6⟩ := c3.r.get hb17 (hget c4)
          have hv6 : v6 = .int (hF lt' sr) := hv6
          subst hv6
          refine ⟨df, _, rfl, hg6, ?_⟩
          refine ev_c H17 (Ex.refl _) _ fun H18 e18 => ⟨_, _, rfl, rfl, ?_⟩
          obtain ⟨c1, c2, c3, c4, ⟨us18, c5, c6⟩, c7⟩ := SwUp e18 (show Sw (putL lens l n) lt' os'' H17 from ⟨c1, c2, c3, c4, c5, c7⟩)
          have hb18 := hb17.up e18
          have e1518 := (e16.trans e17).trans e18
          have hltl : lt'.length ≤ 1000000 := by
            have : (lt'.map Prod.fst).length = sp.length := by rw [c4]
            rw [List.length_map] at this
            omega
          refine dw_put c3 hb18 (a := hF lt' sr - 1) rfl (fun _ _ _ _ h => inR_any h) hltl fun ys2 kl2 d2 => ?_
          have b19 : ∀ y o, y ≠ df → H18 y = some o → upd H18 df (NDO P w df ys2) y = some o := fun y o hy ho => by rw [upd_ne hy]; exact ho
          have S19 : Sw (putL lens l n) (putL lt' sr (hF lt' sr - 1)) os'' (upd H18 df (NDO P w df ys2)) := ⟨fun y o hy ho => b19 _ _ (fun z => by rw [z, fresh_f] at ho; cases ho) (c1 y o hy ho), c2.mv (R := NaR) (H := H18) (fun _ _ h => h) kl2.ts fun o ho => b19 _ _ n_fn.symm ho, d2, by rw [putL_keys (by rw [c4]; exact hsrs)]; exact c4, ⟨us18, kl2 _ _ c5 (.inr ⟨_, rfl⟩), Paired.mapP c6 fun _ _ z => z.ts kl2.ts⟩, c7.mv kl2.ts (fun o ho => b19 _ _ n_fs.symm ho) fun y hy o ho => b19 _ _ (n_af y hy) ho⟩
          have hb19 := hb18.ts kl2.ts
          have w19 : upd H18 df (NDO P w df ys2) a = some (.lst ws) := b19 _ _ (n_af _ ham) (e1518 _ _ hw15)
          have t19 : Ts H14 (upd H18 df (NDO P w df ys2)) := (t15.trans (Ts.of e1518)).trans kl2.ts
          have hlt2 : ∀ s ∈ sp, hF (putL lt' sr (hF lt' sr - 1)) s = ((lfL L (putL lens l n) s + ((srcL L sp l).drop (i + 1)).count s : Nat) : Int) := fun s hs => by
            rw [hF_put]
            show (if s = sr then _ else _) = _
            by_cases z : s = sr
            · rw [if_pos z, z, hlt' sr hsrs]; omega
            · rw [if_neg z, hlt' s hs, g2 s z]
          clear c1 c2 c3 c4 c5 c6 c7 b19 d2
          generalize upd H18 df (NDO P w df ys2) = H19 at S19 hb19 w19 t19 ⊢
          obtain ⟨v7, hv7, hv7e⟩ := ev_dget (P := P) (w := w) (σ := [some (.ref x), some (.ref b), some (.ref ds), z3, z4, z5, some (.ref df), some (.ref ol), some (.ref bs), z9]) (td := tVar 6) (ty := tVar 8) inR_d (ev_var rfl) (ev_var rfl) S19.2.2.1.r hb19 (hget S19.2.2.2.1)
          have hv7e : v7 = .int (hF (putL lt' sr (hF lt' sr - 1)) sr) := hv7e
          subst hv7e
          refine s_when (et_eq hv7 ev_c rfl) (fun hb H20 e20 => ?_) (fun hb H20 e20 => ?_)
          · have hz : hF (putL lt' sr (hF lt' sr - 1)) sr = 0 := V.int.inj (of_decide_eq_true hb)
            rw [hlt2 sr hsrs] at hz
            rw [if_pos (by omega)] at g4
            obtain ⟨c1, c2, c3, c4, ⟨us20, c5, c6⟩, c7⟩ := SwUp e20 S19
            have hul20 := Paired.length c6
            have hol20 : os''.length ≤ sp.length := nodup_within IJ'.nd IJ'.sb
            refine s_app c5 (ev_var rfl) (ev_var rfl) (by omega) fun H21 e21 => ?_
            have c5' := e21 _ _ c5
            have t22 := ts_lst (o := .lst (us20 ++ [.ref bs])) c5'
            have b22 : ∀ y o, y ≠ ol → H20 y = some o → upd H21 ol (.lst (us20 ++ [.ref bs])) y = some o := fun y o hy ho => by rw [upd_ne hy]; exact e21 _ _ ho
            have t20 := (Ts.of e21).trans t22
            refine ⟨_, _, _, rfl, ⟨fun y o hy ho => b22 _ _ (fun z => by rw [z, fresh_o] at ho; cases ho) (c1 y o hy ho), c2.mv (R := NaR) (H := H20) (fun _ _ h => h) t20 fun o ho => b22 _ _ n_on.symm ho, c3.mv (R := InR) (H := H20) (fun _ _ h => h) t20 fun o ho => b22 _ _ n_of.symm ho, c4, ⟨_, upd_same, paired_append (Paired.mapP c6 fun _ _ z => z.ts t20) (.cons ⟨bs, rfl, (hb19.up e20).ts t20⟩ .nil)⟩, c7.mv t20 (fun o ho => b22 _ _ n_os.symm ho) fun y hy o ho => b22 _ _ (n_ao y hy) ho⟩, b22 _ _ (n_ao _ ham) (e20 _ _ w19), (t19.trans (Ts.of e20)).trans t20, hlt2, g4⟩
          · have hz : ¬ hF (putL lt' sr (hF lt' sr - 1)) sr = 0 := fun z => of_decide_eq_false hb (by rw [z])
            rw [hlt2 sr hsrs] at hz
            rw [if_neg (by omega)] at g4
            exact ⟨_, os'', _, rfl, SwUp e20 S19, e20 _ _ w19, t19.trans (Ts.of e20), hlt2, g4⟩
        · rintro σ' H15 ⟨lt', os'', z8, rfl, S15, _, _, hlt', IJ'⟩
          rw [hwl] at hlt' IJ'
          refine ⟨sp.length - (putL lens l n).length, ?_, putL lens l n, lt', os'', _, _, _, _, _, _, rfl, S15, fun s hs => ?_, IL', IJ'.fin, rfl⟩
          · have h1 := nodup_within IL'.nd IL'.sb
            rw [List.length_map] at h1
            have h2 : (putL lens l n).length = lens.length + 1 := by rw [putL_new hnk, List.length_append]; rfl
            omega
          · rw [hlt' s hs, List.drop_length, List.count_nil, Nat.add_zero]
      · have hoe : os = [] := by cases os with
          | nil => rfl
          | cons _ _ => cases hb
        subst hoe
        obtain ⟨c1, c2, _⟩ := SwUp e7 S6
        exact k lens H7 c1 c2 ⟨IL, IO.out⟩
end
end Fm
set_option maxHeartbeats 1000000
namespace Fm
open PySem L2 Evl RZ
def lastL (L : LkF) (lens : List (Lv × Nat)) (s : Lv) : List (Option Nat × Lv) := (L s).filter fun p => !(lkp lens p.2).isSome
def lastS (sp : List Lv) (lens : List (Lv × Nat)) : List Lv := sp.filter fun s => !(lkp lens s).isSome
def spLasting (P : Program) (w : World) (K : PySem.W.Frag) (C : Addr) : Sp := fun vs H Q _ => ∃ (x dx dl dn : Addr) (mv cv dv sv : V) (sp : List Lv) (L : LkF) (lens : List (Lv × Nat)), vs = [.ref x] ∧ H x = some (.ins C dx (rof mv cv dv sv (.ref dl) (.ref dn))) ∧ DW P w LkR H dl (sp.map fun s => (s, L s)) ∧ sp.Nodup ∧ (∀ s, (L s).length ≤ 1000) ∧ sp.length ≤ 90000 ∧ dl ≠ dn ∧ DW P w NaR H dn lens ∧
  ∀ D H', H D = none → Ex H H' → DW P w LkR H' D ((lastS sp lens).map fun s => (s, lastL L lens s)) → Q (.ref D) H'
theorem last_fm {L : LkF} {lens : List (Lv × Nat)} : ∀ {sp : List Lv}, ((sp.map fun s => (s, L s)).filterMap fun x => (if (lkp lens x.1).isSome = true then none else some (x.2.filter fun p => !(lkp lens p.2).isSome)).map fun c => (x.1, c)) = (lastS sp lens).map fun s => (s, lastL L lens s)
  | [] => rfl
  | s :: sp => by
    have ih := last_fm (L := L) (lens := lens) (sp := sp)
    unfold lastS at ih ⊢
    rw [List.map_cons, List.filter_cons]
    by_cases h : (lkp lens s).isSome = true
    · rw [List.filterMap_cons_none (by show Option.map _ (if (lkp lens s).isSome = true then _ else _) = none; rw [if_pos h]; rfl), h, ih]
      rw [if_neg (fun z => nomatch z)]
    · rw [List.filterMap_cons_some (b := (s, lastL L lens s)) (by show Option.map _ (if (lkp lens s).isSome = true then _ else _) = _; rw [if_neg h]; rfl), ih]
      have h : (lkp lens s).isSome = false := by simpa using h
      rw [h]; rfl
theorem lkR_k : ∀ v x H H', Kl H H' → LkR v x H → LkR v x H' := fun _ _ _ _ k h => h.kl k
section
variable {P : Program} {w : World} {K : PySem.W.Frag} {mg : Str → Option Value} {base : Heap} {C : Addr}
abbrev s_Rounds_lasting_links : Stmt := inClass (top 26) 5
theorem sc_Rounds_lasting_links : FnScope ["self", "lives", "pairs", "deed", "behind"] ["self"] (defScope s_Rounds_lasting_links) := ⟨rfl, rfl, rfl, by decide +kernel, rfl, by decide +kernel, by decide +kernel⟩
theorem ok_lasting_links {f : Addr} {fd : FuncData} (F : Fun K "lasting_links" "Rounds.lasting_links" s_Rounds_lasting_links f fd) (T : Txt K mg) (T_Rounds : RouT K C) : FnOk P w K mg base CX0 5 f fd ["self"] (spLasting P w K C) := by
  refine F.ok sc_Rounds_lasting_links (fun vs H Q E h => ?_) (fun cdv A outer s H vs Q E hr h => ?_)
  · obtain ⟨_, _, _, _, _, _, _, _, _, _, _, rfl, _⟩ := h
    rfl
  · obtain ⟨x, dx, dl, dn, mv, cv, dv, sv, sp, L, lens, rfl, hx, hln, hsn, hB, hsm, hlm, hdn, k⟩ := h
    refine ⟨_, (pss_one (ps_ret (pe_lock (dcN_K (P := P) (w := w) rfl rfl hr.units (own := [("lives", 1), ("pairs", 2)]) (g := gTup K 2 (gCons (gName 1) (gCons (gName 2) gNil))) rfl sc_Rounds_lasting_links.nd (itemsN_K (P := P) (w := w) rfl rfl (fld_KR (K := K) rfl (pv 0) rfl)) (blkOk_by (by kernel_rfl)) (fun _ _ _ _ _ => pg_tupK (K := K) rfl rfl (pgs_cons (pg_name (i := 1) sc_Rounds_lasting_links.nd rfl (by first | exact Or.inl rfl | exact Or.inr rfl)) (pgs_cons (pg_name (i := 2) sc_Rounds_lasting_links.nd rfl (by first | exact Or.inl rfl | exact Or.inr rfl)) pgs_nil))) (fun _ _ _ _ _ => (pts_one (pt_cmp (nnotin_K (P := P) (w := w) rfl rfl hr.units (pv 1) (fld_KR (K := K) rfl (pv 0) rfl)) rfl))) (fun _ _ _ _ _ => (pv 1)) (fun _ _ _ _ _ => (pe_lc (own := [("deed", 3), ("behind", 4)]) (g := gTup K 2 (gCons (gName 3) (gCons (gName 4) gNil))) rfl sc_Rounds_lasting_links.nd (pi_listK (K := K) rfl (pv 2)) (blkOk_by (by kernel_rfl)) (fun _ _ _ _ _ => pg_tupK (K := K) rfl rfl (pgs_cons (pg_name (i := 3) sc_Rounds_lasting_links.nd rfl (by first | exact Or.inl rfl | exact Or.inr rfl)) (pgs_cons (pg_name (i := 4) sc_Rounds_lasting_links.nd rfl (by first | exact Or.inl rfl | exact Or.inr rfl)) pgs_nil))) (fun _ _ _ _ _ => (pts_one (pt_cmp (nnotin_K (P := P) (w := w) rfl rfl hr.units (pv 4) (fld_KR (K := K) rfl (pv 0) rfl)) rfl))) (fun _ _ _ _ _ => (pe_tup (pa_cons (pv 3) (pa_cons (pv 4) pa_nil)))))))))), ?_⟩
    have hkeys : (sp.map fun s => (s, L s)).map Prod.fst = sp := by rw [List.map_map]; exact List.map_id' sp
    obtain ⟨_, ⟨ys0, hys0, _⟩, _⟩ := id hln.at_
    have hxl : x ≠ dl := fun z => by rw [z, hys0] at hx; unfold NDO at hx; cases hx
    refine s_retQR ?_
    refine m_dcItems (R := LkR) (R' := LkR) (fun s ps => if (lkp lens s).isSome = true then none else some (ps.filter fun p => !(lkp lens p.2).isSome)) lkR_k lkR_k hln (by rw [hkeys]; exact hsn) (by rw [List.length_map]; omega) (fun od ys => ev_fldR (ev_var rfl) (by rw [upd_ne hxl]; exact hx) T_Rounds.cl T_Rounds.n_links rof_links) (fun y hy D T2 kb v H' N HD hT hkb hv hno hsome => ?_) fun D H1 hD e1 d1 => ?_
    · obtain ⟨la, us, rfl, hus, hpu⟩ := hv
      have hul := Paired.length hpu
      have hy2 : y.2.length ≤ 1000 := by
        obtain ⟨s0, _, rfl⟩ := List.mem_map.mp hy
        exact hB s0
      refine ⟨T2, _, rfl, st_of hT, rfl, _, _, rfl, _, _, rfl, ⟨rfl, rfl, ?_⟩⟩
      have hx' := HD.1 _ _ hxl hx
      have dn' := HD.dw (R := NaR) (fun _ _ _ _ _ h => h) (Ne.symm hlm) hdn
      refine (et_B (ev_dni (ev_var rfl) (ev_fldR (ev_var rfl) hx' T_Rounds.cl T_Rounds.n_lengths rof_lengths) naR_d dn'.r hkb)) H' (Ex.refl _) _ fun Ha ea => ?_
      by_cases hl : (lkp lens y.1).isSome = true
      · rw [hl]
        refine iteF9 (hno (by rw [if_pos hl]) Ha ea)
      · have hl : (lkp lens y.1).isSome = false := by simpa using hl
        rw [hl]
        refine iteT9 ?_
        refine (ev_var rfl) Ha (Ex.refl _) _ fun Hb eb => ?_
        have eab := ea.trans eb
        refine m_lcLR (a := la) (xs := us) (ev_var rfl) (sq_of (eab _ _ hus)) (fun D2 i Hx => Hb D2 = none ∧ Ex Hb Hx ∧ ∃ ws, Hx D2 = some (.lst ws) ∧ Paired (fun v p => DpT v (p.1, some p.2) Hx) ws ((y.2.take i).filter fun p => !(lkp lens p.2).isSome)) (fun D2 H1 e1 hD2 => ⟨fresh_back e1 hD2, e1.trans (Ex.new hD2), [], upd_same, .nil⟩) (fun D2 i Hx _ h => ex_l h.2.1 (sq_of (eab _ _ hus))) (fun D2 i v Hx hv h => ?_) (fun D2 Hx h => ?_)
        · obtain ⟨hD2, e2, ws, hws, hpw⟩ := h
          have e02 := eab.trans e2
          obtain ⟨p, hp, b, v4, rfl, hb, bt, hbe, hbt⟩ := paired_at hpu hv
          have hbe : v4 = .ref bt ∧ LvH H' bt p.2 := ⟨hbe, hbt⟩
          obtain ⟨rfl, hbt⟩ := hbe
          have htk : y.2.take (i + 1) = y.2.take i ++ [p] := by rw [List.take_add_one, hp]; rfl
          have hwl := Paired.length hpw
          have hwl2 := List.length_filter_le (fun p : Option Nat × Lv => !(lkp lens p.2).isSome) (y.2.take i)
          rw [List.length_take] at hwl2
          refine ⟨b, _, rfl, st_of (e02 _ _ hb), rfl, _, _, rfl, _, _, rfl, ⟨rfl, rfl, ?_⟩⟩
          have hb2 := hbt.up e02
          refine (et_B (ev_dni (ev_var rfl) (ev_fldR (ev_var rfl) (e02 _ _ hx') T_Rounds.cl T_Rounds.n_lengths rof_lengths) naR_d (dn'.up naR_d e02).r hb2)) Hx (Ex.refl _) _ fun H3 e3 => ?_
          by_cases hl2 : (lkp lens p.2).isSome = true
          · rw [hl2]
            refine iteF9 ⟨hD2, e2.trans e3, ws, e3 _ _ hws, ?_⟩
            rw [htk, List.filter_append, List.filter_cons, hl2]
            simpa using Paired.mapP hpw fun _ _ z => z.up fun b ys hb => e3 _ _ hb
          · have hl2 : (lkp lens p.2).isSome = false := by simpa using hl2
            rw [hl2]
            refine iteT9 ?_
            refine (eu_tup (vs := [dvR p.1, .ref bt]) (ea_cons (ev_var rfl) (ea_cons (ev_var rfl) ea_nil)) (show 2 ≤ 100000 by decide)) H3 (Ex.refl _) _ fun t H4 ht e4 h4 => ?_
            have e34 := e3.trans e4
            have hws4 := e34 _ _ hws
            have tup : ∀ b ys, H4 b = some (.tup ys) → upd H4 D2 (.lst (ws ++ [.ref t])) b = some (.tup ys) := fun b ys hb => by
              rw [upd_ne fun z => ?_]
              · exact hb
              · rw [z, hws4] at hb; cases hb
            refine ⟨ws, hws4, by rw [sizeLine_eq]; omega, hD2, Ex.mut (e2.trans e34) hD2, ws ++ [.ref t], upd_same, ?_⟩
            rw [htk, List.filter_append, List.filter_cons, hl2]
            exact paired_append (Paired.mapP hpw fun _ _ z => z.up fun b ys hb => tup _ _ (e34 _ _ hb)) (.cons ⟨t, .ref bt, rfl, tup _ _ h4, bt, rfl, tup _ _ (e34 _ _ hb2)⟩ .nil)
        · obtain ⟨hD2, e2, ws, hws, hpw⟩ := h
          rw [hul, List.take_length] at hpw
          exact hsome _ (by rw [if_neg (by rw [hl]; exact fun z => nomatch z)]) _ Hx (eab.trans e2) ⟨D2, ws, rfl, hws, hpw⟩
    · have he : ((sp.map fun s => (s, L s)).filterMap fun x => (if (lkp lens x.1).isSome = true then none else some (x.2.filter fun p => !(lkp lens p.2).isSome)).map fun c => (x.1, c)) = (lastS sp lens).map fun s => (s, lastL L lens s) := by
        exact last_fm
      rw [he] at d1
      exact k D H1 hD e1 d1
end
end Fm
set_option maxHeartbeats 1000000
namespace Fm
open PySem L2 Evl RZ
def tchS (rs : List Nat) (acc : List (Nat × Nat)) (c : Nat) : List (Nat × Nat) := if (acc.any fun q => decide (q.1 = rs.getD c 0)) = true then acc else acc ++ [(rs.getD c 0, c)]
def tchA (rs cs : List Nat) : List (Nat × Nat) := cs.foldl (tchS rs) []
def allD (rs cs : List Nat) : List (Option Nat) := none :: (tchA rs cs).map fun q => some q.2
def tchK (acc : List (Nat × Nat)) : List (L2.Key × V) := acc.map fun q => (Sum.inl (q.1 : Int), V.int (q.2 : Nat))
theorem tchS_ok {rs cs0 : List Nat} {acc : List (Nat × Nat)} {c : Nat} (h : ∀ q ∈ acc, q.2 ∈ cs0 ∧ rs.getD q.2 0 = q.1) (hc : c ∈ cs0) : ∀ q ∈ tchS rs acc c, q.2 ∈ cs0 ∧ rs.getD q.2 0 = q.1 := fun q hq => by
  unfold tchS at hq
  split at hq
  · exact h q hq
  · rcases List.mem_append.mp hq with hq | hq
    · exact h q hq
    · rw [List.mem_singleton.mp hq]; exact ⟨hc, rfl⟩
theorem tchS_any {rs : List Nat} {acc : List (Nat × Nat)} {c : Nat} : ∃ q ∈ tchS rs acc c, q.1 = rs.getD c 0 := by
  unfold tchS
  split
  · rename_i h
    obtain ⟨q, hq, h2⟩ := List.any_eq_true.mp h
    exact ⟨q, hq, of_decide_eq_true h2⟩
  · exact ⟨_, List.mem_append_right _ List.mem_cons_self, rfl⟩
theorem tchS_sub {rs : List Nat} {acc : List (Nat × Nat)} {c : Nat} : ∀ q ∈ acc, q ∈ tchS rs acc c := fun q hq => by
  unfold tchS
  split
  · exact hq
  · exact List.mem_append_left _ hq
theorem tchS_len {rs : List Nat} {acc : List (Nat × Nat)} {c : Nat} : (tchS rs acc c).length ≤ acc.length + 1 := by
  unfold tchS
  split
  · omega
  · rw [List.length_append]; exact Nat.le_refl _
theorem tchA_all (rs cs0 : List Nat) : ∀ (cs : List Nat) (acc : List (Nat × Nat)), (∀ c ∈ cs, c ∈ cs0) → (∀ q ∈ acc, q.2 ∈ cs0 ∧ rs.getD q.2 0 = q.1) → (∀ q ∈ cs.foldl (tchS rs) acc, q.2 ∈ cs0 ∧ rs.getD q.2 0 = q.1) ∧ (∀ c ∈ cs, ∃ q ∈ cs.foldl (tchS rs) acc, q.1 = rs.getD c 0) ∧ (∀ q ∈ acc, q ∈ cs.foldl (tchS rs) acc) ∧ (cs.foldl (tchS rs) acc).length ≤ acc.length + cs.length
  | [], acc, _, h => ⟨h, fun _ z => (nomatch z), fun _ z => z, Nat.le_refl _⟩
  | c :: cs, acc, hc, h => by
    obtain ⟨g1, g2, g3, g4⟩ := tchA_all rs cs0 cs (tchS rs acc c) (fun x hx => hc x (List.mem_cons_of_mem _ hx)) (tchS_ok h (hc c List.mem_cons_self))
    rw [List.foldl_cons]
    refine ⟨g1, fun x hx => ?_, fun q hq => g3 q (tchS_sub q hq), ?_⟩
    · rcases List.mem_cons.mp hx with rfl | hx
      · obtain ⟨q, h1, h2⟩ := tchS_any (rs := rs) (acc := acc) (c := x)
        exact ⟨q, g3 q h1, h2⟩
      · exact g2 x hx
    · have := tchS_len (rs := rs) (acc := acc) (c := c)
      rw [List.length_cons]; omega
theorem allD_mem {rs cs : List Nat} : ∀ c, some c ∈ allD rs cs → c ∈ cs := fun c h => by
  unfold allD at h
  rcases List.mem_cons.mp h with h | h
  · cases h
  · obtain ⟨q, hq, e⟩ := List.mem_map.mp h
    cases e
    exact ((tchA_all rs cs cs [] (fun _ h => h) (fun _ h => nomatch h)).1 q hq).1
theorem allD_row {rs cs : List Nat} : ∀ c ∈ cs, ∃ c', some c' ∈ allD rs cs ∧ rs.getD c' 0 = rs.getD c 0 := fun c h => by
  obtain ⟨g1, g2, _, _⟩ := tchA_all rs cs cs [] (fun _ h => h) (fun _ h => nomatch h)
  obtain ⟨q, hq, e⟩ := g2 c h
  exact ⟨q.2, List.mem_cons_of_mem _ (List.mem_map.mpr ⟨q, hq, rfl⟩), by rw [(g1 q hq).2, e]⟩
theorem allD_len (rs cs : List Nat) : (allD rs cs).length ≤ cs.length + 1 := by
  have := (tchA_all rs cs cs [] (fun _ h => h) (fun _ h => nomatch h)).2.2.2
  unfold allD tchA
  rw [List.length_cons, List.length_map]
  simp at this
  omega
theorem tchK_val (acc : List (Nat × Nat)) (r : Nat) : valV (tchK acc) (Sum.inl (r : Int)) = ((acc.find? fun q => decide (q.1 = r)).map fun q => V.int (q.2 : Nat)) := by
  unfold tchK
  induction acc with
  | nil => rfl
  | cons q acc ih =>
    rw [List.map_cons, List.find?_cons]
    by_cases e : q.1 = r
    · rw [decide_eq_true e, valV_pos (by rw [e])]; rfl
    · rw [decide_eq_false e, valV_neg fun z => e (by have := Sum.inl.inj z; omega)]
      exact ih
theorem tchK_put {acc : List (Nat × Nat)} {r c : Nat} (h : (acc.find? fun q => decide (q.1 = r)) = none) : putK (tchK acc) (Sum.inl (r : Int)) (V.int (c : Nat)) = tchK (acc ++ [(r, c)]) := by
  have : ((tchK acc).any fun kv => decide (kv.1 = Sum.inl (r : Int))) = false := by
    rw [Bool.eq_false_iff]
    intro z
    obtain ⟨kv, hkv, e⟩ := List.any_eq_true.mp z
    unfold tchK at hkv
    obtain ⟨q, hq, rfl⟩ := List.mem_map.mp hkv
    have e := of_decide_eq_true e
    have := List.find?_eq_none.mp h q hq
    exact this (decide_eq_true (by have := Sum.inl.inj e; omega))
  unfold putK
  rw [if_neg (by rw [this]; exact Bool.false_ne_true)]
  unfold tchK
  rw [List.map_append]
  rfl
def spAllD (K : PySem.W.Frag) (C : Addr) : Sp := fun vs H Q _ => ∃ (x dx ma ca : Addr) (fl : List (Str × V)) (fs rs cs : List Nat), vs = [.ref x] ∧ H x = some (.ins C dx fl) ∧ fl.lookup ("machine" : Str) = some (.ref ma) ∧ fl.lookup ("cells" : Str) = some (.ref ca) ∧ MaT K H ma fs rs ∧ SqT K H ca (nV cs) ∧ (∀ c ∈ cs, c < rs.length) ∧ cs.length ≤ 1000 ∧
  ∀ u H', H u = none → Ex H H' → H' u = some (.lst ((allD rs cs).map dvR)) → Q (.ref u) H'
section
variable {P : Program} {w : World} {K : PySem.W.Frag} {mg : Str → Option Value} {base : Heap} {C : Addr}
abbrev s_Rounds_all_deeds : Stmt := inClass (top 26) 1
theorem sc_Rounds_all_deeds : FnScope ["self", "touches", "cell"] ["self"] (defScope s_Rounds_all_deeds) := ⟨rfl, rfl, rfl, by decide +kernel, rfl, by decide +kernel, by decide +kernel⟩
theorem ok_all_deeds {f : Addr} {fd : FuncData} (F : Fun K "all_deeds" "Rounds.all_deeds" s_Rounds_all_deeds f fd) (T : Txt K mg) (T_Rounds : RouT K C) : FnOk P w K mg base CX0 2 f fd ["self"] (spAllD K C) := by
  refine F.ok sc_Rounds_all_deeds (fun vs H Q E h => ?_) (fun cdv A outer s H vs Q E hr h => ?_)
  · obtain ⟨_, _, _, _, _, _, _, _, rfl, _⟩ := h
    rfl
  · obtain ⟨x, dx, ma, ca, fl, fs, rs, cs, rfl, hx, fm, fc, hma, hca, hlt, hcl, k⟩ := h
    refine ⟨_, (pss_cons (ps_set (i := 1) sc_Rounds_all_deeds.nd rfl (Or.inl rfl) pe_dnewK)
  (pss_cons (ps_for PassesOwn.never rfl (pi_tupK (K := K) rfl (fld_KR (K := K) rfl (pv 0) rfl)) (pg_name (i := 2) sc_Rounds_all_deeds.nd rfl (by first | exact Or.inl rfl | exact Or.inr rfl)) (pss_one (ps_expr (pe_dsetd (pv 1) (pe_ix (ix_K (K := K) rfl) (pe_ix (ix_K (K := K) rfl) (fld_KR (K := K) rfl (pv 0) rfl) pe_int (fun _ _ => rfl)) (pv 2) (fun _ _ => rfl)) (pv 2) ⟨by rfl, by rfl, by rfl, by rfl⟩))))
  (pss_one (ps_ret (pe_op op_cat (pe_lst (pa_cons pe_non pa_nil)) (pe_listVals rfl (pv 1) (by rfl) T.z_list rfl)))))), ?_⟩
    refine q_asgU9 fun d hd => ?_
    have e1 := Ex.new (o := .dK []) hd
    have hd1 : upd H d (.dK []) d = some (.dK []) := upd_same
    generalize upd H d (.dK []) = H1 at e1 hd1 ⊢
    try dsimp only [List.set]
    refine q_forT (a := ca) (xs := nV cs) (ev_fldR (ev_var rfl) (e1 _ _ hx) T_Rounds.cl T_Rounds.n_cells fc) (ex_t e1 hca) (fun i σ' H' => ∃ z2, σ' = [some (.ref x), some (.ref d), z2] ∧ Ex H H' ∧ H' d = some (.dK (tchK ((cs.take i).foldl (tchS rs) [])))) (fun H2 e2 => ⟨_, rfl, e1.trans e2, e2 _ _ hd1⟩) (fun i σ' H' _ ⟨_, _, e, _⟩ => ex_t e hca) (fun i v σ' H2 hv ⟨z2, hσ, e2, hd2⟩ => ?_) (fun σ' H2 ⟨z2, hσ, e2, hd2⟩ => ?_)
    · subst hσ
      obtain ⟨c, hc, rfl⟩ := nV_get hv
      have hcm := List.mem_of_getElem? hc
      have hcl2 := hlt c hcm
      have htk : (cs.take (i + 1)).foldl (tchS rs) [] = tchS rs ((cs.take i).foldl (tchS rs) []) c := by rw [List.take_add_one, hc, List.foldl_append]; rfl
      have hlen := (tchA_all rs cs (cs.take i) [] (fun y hy => List.mem_of_mem_take hy) (fun _ h => nomatch h)).2.2.2
      rw [List.length_take] at hlen
      simp at hlen
      obtain ⟨fa, ra, m1, m2, m3⟩ := id hma
      try dsimp only [List.set]
      generalize (cs.take i).foldl (tchS rs) [] = acc at hd2 htk hlen
      show tDSetd _ _ _ _ H2 _
      refine (ev_var rfl) H2 (Ex.refl _) _ fun H3 e3 => ⟨d, rfl, .inl ⟨_, .inl (e3 _ _ hd2)⟩, ?_⟩
      refine (ev_ixT (ev_ixT (ev_fldR (ev_var rfl) (e3 _ _ (e2 _ _ hx)) T_Rounds.cl T_Rounds.n_machine fm) ev_c (ex_t (e2.trans e3) m1) rfl) (ev_var rfl) (ex_t (e2.trans e3) m3) (nV_at hcl2)) H3 (Ex.refl _) _ fun H4 e4 => ?_
      refine (ev_var rfl) H4 (Ex.refl _) _ fun H5 e5 => ?_
      have e25 := e3.trans (e4.trans e5)
      have hd5 := e25 _ _ hd2
      refine ⟨tchK acc, Sum.inl (rs.getD c 0 : Nat), hd5, rfl, sz_lt (by unfold tchK; rw [List.length_map]; omega), fun v hv => ?_, fun hv => ?_⟩
      · rw [tchK_val] at hv
        obtain ⟨q, hq, _⟩ := Option.map_eq_some_iff.mp hv
        refine ⟨_, rfl, e2.trans e25, ?_⟩
        rw [hd5, htk]
        unfold tchS
        rw [if_pos (List.any_eq_true.mpr ⟨q, List.mem_of_find?_eq_some hq, by have := List.find?_some hq; exact this⟩)]
      · rw [tchK_val] at hv
        have hv := Option.map_eq_none_iff.mp hv
        refine ⟨_, rfl, Ex.mut (e2.trans e25) hd, ?_⟩
        rw [upd_same, tchK_put hv, htk]
        unfold tchS
        rw [if_neg]
        intro z
        obtain ⟨q, hq, h2⟩ := List.any_eq_true.mp z
        exact List.find?_eq_none.mp hv q hq h2
    · subst hσ
      rw [nV_len, List.take_length] at hd2
      have hlen := allD_len rs cs
      refine s_retQR ?_
      refine m_lstR (ev_c H2 (Ex.refl _) _ fun H3 e3 => ?_)
      refine m_nilR ⟨by show 1 ≤ sizeLine; rw [sizeLine_eq]; decide, fun p hp => ?_⟩
      have e4 := Ex.new (o := .lst [.non]) hp
      have hp4 : upd H3 p (.lst [.non]) p = some (.lst [.non]) := upd_same
      generalize upd H3 p (.lst [.non]) = H4 at e4 hp4 ⊢
      refine (ev_var rfl) H4 (Ex.refl _) _ fun H5 e5 => ⟨d, _, rfl, ((e3.trans e4).trans e5) _ _ hd2, fun u hu => ?_⟩
      have e6 := Ex.new (o := .lst ((tchK (cs.foldl (tchS rs) [])).map Prod.snd)) hu
      have hu6 : upd H5 u (.lst ((tchK (cs.foldl (tchS rs) [])).map Prod.snd)) u = some (.lst ((tchK (cs.foldl (tchS rs) [])).map Prod.snd)) := upd_same
      generalize upd H5 u (.lst ((tchK (cs.foldl (tchS rs) [])).map Prod.snd)) = H6 at e6 hu6 ⊢
      have e26 := (e3.trans e4).trans (e5.trans e6)
      have hds : [V.non] ++ (tchK (cs.foldl (tchS rs) [])).map Prod.snd = (allD rs cs).map dvR := by
        unfold allD tchK tchA
        rw [List.map_map, List.map_cons, List.map_map]
        rfl
      refine ⟨p, u, _, _, rfl, rfl, (e5.trans e6) _ _ hp4, hu6, ?_, fun q hq => ?_⟩
      · rw [← List.length_append, hds, List.length_map, sizeLine_eq]; omega
      · exact k q _ (fresh_back (e2.trans e26) hq) ((e2.trans e26).trans (Ex.new hq)) (by rw [upd_same, hds])
end
end Fm
set_option maxHeartbeats 1000000
namespace Fm
open PySem L2 Evl RZ
theorem lotOk_of {fs rs cs : List Nat} (hmo : MaOk fs rs) (hasc : cs.Pairwise (· < ·)) (hlt : ∀ c ∈ cs, c < rs.length) : LotOk fs rs cs (allD rs cs) ∧ (allD rs cs).length ≤ 5 ∧ cs.length ≤ 4 := by
  have hl4 := hmo.l4
  have hll := hmo.ll
  have hc : cs.length ≤ rs.length := by
    have := nodup_within (xs := cs) (ys := List.range rs.length) (hasc.imp fun h => Nat.ne_of_lt h) fun c hc => List.mem_range.mpr (hlt c hc)
    rwa [List.length_range] at this
  have := allD_len rs cs
  exact ⟨⟨hll, by omega, by omega, by omega, hlt, fun c h => hlt c (allD_mem c h)⟩, by omega, by omega⟩
def Bx (x : Addr) (H H' : Hp) : Prop := ∀ y o, y ≠ x → H y = some o → H' y = some o
theorem Bx.of {x : Addr} {H H' : Hp} (e : Ex H H') : Bx x H H' := fun y o _ h => e y o h
theorem Bx.trans {x : Addr} {H H' H'' : Hp} (a : Bx x H H') (b : Bx x H' H'') : Bx x H H'' := fun y o n h => b y o n (a y o n h)
theorem Bx.upd {x : Addr} {H : Hp} {o : HO} : Bx x H (upd H x o) := fun y _ n h => by rw [upd_ne n]; exact h
theorem bx_fresh {x d : Addr} {u : HO} {H H' : Hp} (b : Bx x H H') (hx : H' x = some u) (hd : H' d = none) : H d = none := by
  cases hq : H d with
  | none => rfl
  | some o =>
    have hn : d ≠ x := fun z => by rw [z, hx] at hd; cases hd
    rw [b d o hn hq] at hd; cases hd
theorem sqT_bx {K : PySem.W.Frag} {x C dx a : Addr} {fl : List (Str × V)} {H H' : Hp} {xs : List V} (hx : H x = some (.ins C dx fl)) (b : Bx x H H') (h : SqT K H a xs) : SqT K H' a xs := by
  rcases h with (h | ⟨q, h⟩) | h
  · exact .inl (.inl (b _ _ (fun z => by rw [z, hx] at h; cases h) h))
  · exact .inl (.inr ⟨q, b _ _ (fun z => by rw [z, hx] at h; cases h) h⟩)
  · exact .inr h
theorem maT_bx {K : PySem.W.Frag} {x C dx m : Addr} {fl : List (Str × V)} {H H' : Hp} {fs rs : List Nat} (hx : H x = some (.ins C dx fl)) (b : Bx x H H') (h : MaT K H m fs rs) : MaT K H' m fs rs := let ⟨a, c, h1, h2, h3⟩ := h; ⟨a, c, sqT_bx hx b h1, sqT_bx hx b h2, sqT_bx hx b h3⟩
theorem kl_bx {x C dx : Addr} {fl : List (Str × V)} {H H' : Hp} (hx : H x = some (.ins C dx fl)) (b : Bx x H H') : Kl H H' := fun y o hy ho => b y o (fun z => by
  rw [z, hx] at hy
  cases hy
  rcases ho with ⟨_, e⟩ | ⟨_, e⟩ <;> cases e) hy
theorem dw_bx {P : Program} {w : World} {α : Type} {R : V → α → Hp → Prop} {x C dx d : Addr} {fl : List (Str × V)} {H H' : Hp} {xs : List (Lv × α)} (r : ∀ v x, R v x H → R v x H') (hx : H x = some (.ins C dx fl)) (b : Bx x H H') (h : DW P w R H d xs) : DW P w R H' d xs := h.kl r (kl_bx hx b) fun o ho => b _ _ (fun z => by
  obtain ⟨_, ⟨ys, g, _⟩, _⟩ := h.at_
  rw [z, hx] at g; unfold NDO at g; cases g) ho
def spRoInit (P : Program) (w : World) (K : PySem.W.Frag) (C : Addr) : Sp := fun vs H Q _ => ∃ (x dx ma ca : Addr) (fs rs cs : List Nat), vs = [.ref x, .ref ma, .ref ca] ∧ H x = some (.ins C dx []) ∧ MaT K H ma fs rs ∧ SqT K H ca (nV cs) ∧ (∀ c ∈ cs, c < rs.length) ∧ fs.length = rs.length ∧ rs.length ≤ 10 ∧ cs.length ≤ 10 ∧ lostL cs fs = false ∧
  ∀ H' da sa dl dn, (∀ y o, y ≠ x → H y = some o → H' y = some o) → RouX K C H' x dx ma ca da (.ref sa) (.ref dl) (.ref dn) fs rs cs (allD rs cs) → LvH H' sa (onlyL cs fs) → DW P w LkR H' dl [] → DW P w NaR H' dn [] → dl ≠ dn → H dl = none → H dn = none → Q .non H'
structure MkRou (P : Program) (w : World) (K : PySem.W.Frag) (mg : Str → Option Value) (base : Heap) (C : Addr) (f : Addr) (fd : FuncData) : Prop where
  M : Mk K C f
  G : FnOk P w K mg base CX0 3 f fd ["self", "machine", "cells"] (spRoInit P w K C)
  g : mg "Rounds" = some (.ref C)
  b : Binds K fd ["self", "machine", "cells"] []
section
variable {P : Program} {w : World} {K : PySem.W.Frag} {mg : Str → Option Value} {base : Heap} {C : Addr}
abbrev s_Rounds___init__ : Stmt := inClass (top 26) 0
theorem sc_Rounds___init__ : FnScope ["self", "machine", "cells"] ["self", "machine", "cells"] (defScope s_Rounds___init__) := ⟨rfl, rfl, rfl, by decide +kernel, rfl, by decide +kernel, by decide +kernel⟩
theorem ok_roinit {f f1 f2 : Addr} {fd fd1 fd2 : FuncData} (F : Fun K "__init__" "Rounds.__init__" s_Rounds___init__ f fd) (T : Txt K mg) (T_Rounds : RouT K C) (M_Rounds_all_deeds : MCal P w K mg base C 2 "all_deeds" f1 fd1 ["self"] (spAllD K C)) (C_only_lot : Cal P w K mg base CX0 1 "only_lot" f2 fd2 ["lives", "cells"] (spOnly K)) : FnOk P w K mg base CX0 3 f fd ["self", "machine", "cells"] (spRoInit P w K C) := by
  refine F.ok sc_Rounds___init__ (fun vs H Q E h => ?_) (fun cdv A outer s H vs Q E hr h => ?_)
  · obtain ⟨_, _, _, _, _, _, _, rfl, _⟩ := h
    rfl
  · obtain ⟨x, dx, ma, ca, fs, rs, cs, rfl, hx, hma, hca, hlt, hll, h10, hc10, hlo, k⟩ := h
    refine ⟨_, (pss_cons (ps_fld (pv 0) (pv 1) rfl)
  (pss_cons (ps_fld (pv 0) (pv 2) rfl)
  (pss_cons (ps_fld (pv 0) (pe_meth0 (pv 0) T_Rounds.cl M_Rounds_all_deeds.m M_Rounds_all_deeds.G (hr.mono (by first | decide | omega)) M_Rounds_all_deeds.b .nil pass0) rfl)
  (pss_cons (ps_fld (pv 0) (pe_call C_only_lot.G (hr.mono (by first | decide | omega)) rfl C_only_lot.g C_only_lot.kp C_only_lot.b .nil pass0 (pa_cons (pe_ix (ix_K (K := K) rfl) (pv 1) pe_int (fun _ _ => rfl)) (pa_cons (pv 2) pa_nil))) rfl)
  (pss_cons (ps_fld (pv 0) (nnew_K (P := P) (w := w) rfl rfl) rfl)
  (pss_one (ps_fld (pv 0) (nnew_K (P := P) (w := w) rfl rfl) rfl))))))), ?_⟩
    have x_ne : ∀ {y : Addr} {o : HO}, H y = some o → (∀ fl, o ≠ .ins C dx fl) → y ≠ x := fun {y o} hy hn z => by rw [z, hx] at hy; exact hn _ (Option.some.inj hy).symm
    refine q_fldSR ?_
    refine (ev_var rfl) H (Ex.refl _) _ fun H1 e1 => (ev_var rfl) H1 (Ex.refl _) _ fun H2 e2 => ⟨x, C, dx, [], rfl, (e1.trans e2) _ _ hx, T_Rounds.cl, T_Rounds.n_machine, by decide, ?_⟩
    have b3 : Bx x H (upd H2 x (.ins C dx (putF "machine" (.ref ma) []))) := (Bx.of (e1.trans e2)).trans Bx.upd
    have x3 : upd H2 x (.ins C dx (putF "machine" (.ref ma) [])) x = some (.ins C dx (putF "machine" (.ref ma) [])) := upd_same
    generalize upd H2 x (.ins C dx (putF "machine" (.ref ma) [])) = H3 at b3 x3 ⊢
    refine q_fldSR ?_
    refine (ev_var rfl) H3 (Ex.refl _) _ fun H4 e4 => (ev_var rfl) H4 (Ex.refl _) _ fun H5 e5 => ⟨x, C, dx, _, rfl, (e4.trans e5) _ _ x3, T_Rounds.cl, T_Rounds.n_cells, by show 1 < 1000; decide, ?_⟩
    have b6 := (b3.trans (Bx.of (e4.trans e5))).trans (Bx.upd (o := .ins C dx (putF "cells" (.ref ca) (putF "machine" (.ref ma) []))))
    have x6 : upd H5 x (.ins C dx (putF "cells" (.ref ca) (putF "machine" (.ref ma) []))) x = some (.ins C dx (putF "cells" (.ref ca) (putF "machine" (.ref ma) []))) := upd_same
    generalize upd H5 x (.ins C dx (putF "cells" (.ref ca) (putF "machine" (.ref ma) []))) = H6 at b6 x6 ⊢
    refine q_fldSR ?_
    refine m_methR (ev_var rfl) x6 (by kernel_rfl) fun H7 e7 => m_nilR ?_
    have b7 := b6.trans (Bx.of e7)
    refine ⟨x, dx, ma, ca, _, fs, rs, cs, rfl, e7 _ _ x6, by kernel_rfl, by kernel_rfl, maT_bx hx b7 hma, sqT_bx hx b7 hca, hlt, by omega, fun da H8 hda e8 hda8 => ?_⟩
    refine (ev_var rfl) H8 (Ex.refl _) _ fun H9 e9 => ⟨x, C, dx, _, rfl, (e7.trans (e8.trans e9)) _ _ x6, T_Rounds.cl, T_Rounds.n_deeds, by show 2 < 1000; decide, ?_⟩
    have dax : da ≠ x := fun z => by rw [z, (e7.trans (Ex.refl _)) _ _ x6] at hda; cases hda
    have b10 := (b7.trans (Bx.of (e8.trans e9))).trans (Bx.upd (o := .ins C dx (putF "deeds" (.ref da) (putF "cells" (.ref ca) (putF "machine" (.ref ma) [])))))
    have d10 : upd H9 x (.ins C dx (putF "deeds" (.ref da) (putF "cells" (.ref ca) (putF "machine" (.ref ma) [])))) da = some (.lst ((allD rs cs).map dvR)) := by rw [upd_ne dax]; exact e9 _ _ hda8
    have x10 : upd H9 x (.ins C dx (putF "deeds" (.ref da) (putF "cells" (.ref ca) (putF "machine" (.ref ma) [])))) x = some (.ins C dx (putF "deeds" (.ref da) (putF "cells" (.ref ca) (putF "machine" (.ref ma) [])))) := upd_same
    generalize upd H9 x (.ins C dx (putF "deeds" (.ref da) (putF "cells" (.ref ca) (putF "machine" (.ref ma) [])))) = H10 at b10 x10 d10 ⊢
    refine q_fldSR ?_
    refine m_callR ?_
    obtain ⟨fa, ra, m1, m2, m3⟩ := maT_bx hx b10 hma
    refine (ea_cons (ev_ixT (ev_var rfl) ev_c m1 rfl) (ea_cons (ev_var rfl) ea_nil) : EvA _ _ H10 [.ref fa, .ref ca]) H10 (Ex.refl _) _ fun H11 e11 => ?_
    refine ⟨fa, ca, fs, cs, rfl, ex_t e11 m2, ex_t e11 (sqT_bx hx b10 hca), fun c hc => by rw [hll]; exact hlt c hc, by omega, hc10, fun z => (by rw [hlo] at z; cases z), fun _ sa H12 hsa e12 hsa12 => ?_⟩
    refine (ev_var rfl) H12 (Ex.refl _) _ fun H13 e13 => ⟨x, C, dx, _, rfl, (e11.trans (e12.trans e13)) _ _ x10, T_Rounds.cl, T_Rounds.n_start, by show 3 < 1000; decide, ?_⟩
    have sax : sa ≠ x := fun z => by rw [z, e11 _ _ x10] at hsa; cases hsa
    have e1013 := e11.trans (e12.trans e13)
    have b14 := (b10.trans (Bx.of e1013)).trans (Bx.upd (o := .ins C dx (putF "start" (.ref sa) (putF "deeds" (.ref da) (putF "cells" (.ref ca) (putF "machine" (.ref ma) []))))))
    have d14 : upd H13 x (.ins C dx (putF "start" (.ref sa) (putF "deeds" (.ref da) (putF "cells" (.ref ca) (putF "machine" (.ref ma) []))))) da = some (.lst ((allD rs cs).map dvR)) := by rw [upd_ne dax]; exact e1013 _ _ d10
    have s14 : upd H13 x (.ins C dx (putF "start" (.ref sa) (putF "deeds" (.ref da) (putF "cells" (.ref ca) (putF "machine" (.ref ma) []))))) sa = some (.tup (nV (onlyL cs fs))) := by rw [upd_ne sax]; exact e13 _ _ hsa12
    have x14 : upd H13 x (.ins C dx (putF "start" (.ref sa) (putF "deeds" (.ref da) (putF "cells" (.ref ca) (putF "machine" (.ref ma) []))))) x = some (.ins C dx (putF "start" (.ref sa) (putF "deeds" (.ref da) (putF "cells" (.ref ca) (putF "machine" (.ref ma) []))))) := upd_same
    generalize upd H13 x (.ins C dx (putF "start" (.ref sa) (putF "deeds" (.ref da) (putF "cells" (.ref ca) (putF "machine" (.ref ma) []))))) = H14 at b14 x14 d14 s14 ⊢
    refine q_fldSR fun dl hdl => ?_
    have e15 := Ex.new (o := NDO P w dl []) hdl
    have l15 : DW P w LkR (upd H14 dl (NDO P w dl [])) dl [] := ⟨[], ⟨[], upd_same, Nat.zero_le _, .nil⟩, .nil⟩
    generalize upd H14 dl (NDO P w dl []) = H15 at e15 l15 ⊢
    refine (ev_var rfl) H15 (Ex.refl _) _ fun H16 e16 => ⟨x, C, dx, _, rfl, (e15.trans e16) _ _ x14, T_Rounds.cl, T_Rounds.n_links, by show 4 < 1000; decide, ?_⟩
    have x16 := (e15.trans e16) _ _ x14
    have B17 := Bx.upd (x := x) (H := H16) (o := .ins C dx (putF "links" (.ref dl) (putF "start" (.ref sa) (putF "deeds" (.ref da) (putF "cells" (.ref ca) (putF "machine" (.ref ma) []))))))
    have b17 := (b14.trans (Bx.of (e15.trans e16))).trans B17
    have d17 := B17 _ _ dax ((e15.trans e16) _ _ d14)
    have s17 := B17 _ _ sax ((e15.trans e16) _ _ s14)
    have l17 := dw_bx (fun v y h => h.kl (kl_bx x16 B17)) x16 B17 (l15.up lkR_d e16)
    have x17 : upd H16 x (.ins C dx (putF "links" (.ref dl) (putF "start" (.ref sa) (putF "deeds" (.ref da) (putF "cells" (.ref ca) (putF "machine" (.ref ma) [])))))) x = some (.ins C dx (putF "links" (.ref dl) (putF "start" (.ref sa) (putF "deeds" (.ref da) (putF "cells" (.ref ca) (putF "machine" (.ref ma) [])))))) := upd_same
    generalize upd H16 x (.ins C dx (putF "links" (.ref dl) (putF "start" (.ref sa) (putF "deeds" (.ref da) (putF "cells" (.ref ca) (putF "machine" (.ref ma) [])))))) = H17 at B17 b17 x17 d17 s17 l17 ⊢
    refine s_fldSR fun dn hdn => ?_
    have e18 := Ex.new (o := NDO P w dn []) hdn
    have n18 : DW P w NaR (upd H17 dn (NDO P w dn [])) dn [] := ⟨[], ⟨[], upd_same, Nat.zero_le _, .nil⟩, .nil⟩
    have hne : dl ≠ dn := fun z => by obtain ⟨_, ⟨ys, g, _⟩, _⟩ := l17.at_; rw [z, hdn] at g; cases g
    generalize upd H17 dn (NDO P w dn []) = H18 at e18 n18 ⊢
    refine (ev_var rfl) H18 (Ex.refl _) _ fun H19 e19 => ⟨x, C, dx, _, rfl, (e18.trans e19) _ _ x17, T_Rounds.cl, T_Rounds.n_lengths, by show 5 < 1000; decide, ?_⟩
    have x19 := (e18.trans e19) _ _ x17
    have B20 := Bx.upd (x := x) (H := H19) (o := .ins C dx (putF "lengths" (.ref dn) (putF "links" (.ref dl) (putF "start" (.ref sa) (putF "deeds" (.ref da) (putF "cells" (.ref ca) (putF "machine" (.ref ma) [])))))))
    have b20 := (b17.trans (Bx.of (e18.trans e19))).trans B20
    refine k _ da sa dl dn b20 ⟨?_, maT_bx hx b20 hma, sqT_bx hx b20 hca, B20 _ _ dax ((e18.trans e19) _ _ d17)⟩ (B20 _ _ sax ((e18.trans e19) _ _ s17)) (dw_bx (fun v y h => h.kl (kl_bx x19 B20)) x19 B20 (l17.up lkR_d (e18.trans e19))) (dw_bx (R := NaR) (H := H19) (fun v y h => h) x19 B20 (n18.up naR_d e19)) hne (bx_fresh b14 x14 hdl) (bx_fresh b17 x17 hdn)
    rw [upd_same, show putF "lengths" (.ref dn) (putF "links" (.ref dl) (putF "start" (.ref sa) (putF "deeds" (.ref da) (putF "cells" (.ref ca) (putF "machine" (.ref ma) []))))) = rof (.ref ma) (.ref ca) (.ref da) (.ref sa) (.ref dl) (.ref dn) by kernel_rfl]
end
end Fm
set_option maxHeartbeats 1000000
namespace Fm
open PySem L2 Evl RZ
def RdsF (P : Program) (w : World) (K : PySem.W.Frag) (C : Addr) (H : Hp) (x : Addr) (fs rs cs : List Nat) (sp : List Lv) (lens : List (Lv × Nat)) : Prop := ∃ dx ma ca da sa dl dn, RouX K C H x dx ma ca da (.ref sa) (.ref dl) (.ref dn) fs rs cs (allD rs cs) ∧ LvH H sa (onlyL cs fs) ∧ DW P w LkR H dl (sp.map fun s => (s, lnkD fs rs cs (allD rs cs) s)) ∧ DW P w NaR H dn lens ∧ dl ≠ dn
theorem RdsF.up {P : Program} {w : World} {K : PySem.W.Frag} {C : Addr} {H H' : Hp} {x : Addr} {fs rs cs : List Nat} {sp : List Lv} {lens : List (Lv × Nat)} (e : Ex H H') (h : RdsF P w K C H x fs rs cs sp lens) : RdsF P w K C H' x fs rs cs sp lens := let ⟨dx, ma, ca, da, sa, dl, dn, h1, h2, h3, h4, h5⟩ := h; ⟨dx, ma, ca, da, sa, dl, dn, h1.up e, h2.up e, h3.up lkR_d e, h4.up naR_d e, h5⟩
structure RdsOk (fs rs cs : List Nat) (sp : List Lv) (lens : List (Lv × Nat)) : Prop where
  nd : sp.Nodup
  st : onlyL cs fs ∈ sp
  cl : ∀ s ∈ sp, ∀ p ∈ lnkD fs rs cs (allD rs cs) s, p.2 ∈ sp
  lv : ∀ s ∈ sp, LvOk rs.length 8 s
  rch : ∀ s ∈ sp, RchL fs rs cs (allD rs cs) (onlyL cs fs) s
  len : LenOk (lnkD fs rs cs (allD rs cs)) sp lens
theorem rouX_bd {P : Program} {w : World} {K : PySem.W.Frag} {C : Addr} {H H' : Hp} {x dx ma ca da d : Addr} {ys : NRaw} {sv lk ln : V} {fs rs cs : List Nat} {ds : List (Option Nat)} (hd : H d = some (NDO P w d ys)) (b : Bx d H H') (h : RouX K C H x dx ma ca da sv lk ln fs rs cs ds) : RouX K C H' x dx ma ca da sv lk ln fs rs cs ds := by
  have kb : ∀ b' o, H b' = some o → (∀ ys, o ≠ NDO P w d ys) → H' b' = some o := fun b' o hb hk => b b' o (fun z => by
    rw [z, hd] at hb
    exact hk ys (Option.some.inj hb).symm) hb
  obtain ⟨a, b2, m1, m2, m3⟩ := h.ma
  have sq : ∀ {b' : Addr} {xs : List V}, SqT K H b' xs → SqT K H' b' xs := fun {b' xs} h => by
    rcases h with (h | ⟨q, h⟩) | h
    · exact .inl (.inl (kb _ _ h fun ys e => by unfold NDO at e; cases e))
    · exact .inl (.inr ⟨q, kb _ _ h fun ys e => by unfold NDO at e; cases e⟩)
    · exact .inr h
  exact ⟨kb _ _ h.obj (fun ys e => by unfold NDO at e; cases e), ⟨a, b2, sq m1, sq m2, sq m3⟩, sq h.ca, kb _ _ h.da (fun ys e => by unfold NDO at e; cases e)⟩
theorem lost_fs {fs rs cs : List Nat} (hf : ∀ x ∈ fs, 1 ≤ x) (hll : fs.length = rs.length) (hlt : ∀ c ∈ cs, c < rs.length) : lostL cs fs = false := by
  unfold lostL
  rw [Bool.eq_false_iff]
  intro z
  obtain ⟨c, hc, h⟩ := List.any_eq_true.mp z
  have h := of_decide_eq_true h
  have hl := hlt c hc
  rw [List.getD_eq_getElem?_getD, List.getElem?_eq_getElem (by omega)] at h
  have := hf _ (List.getElem_mem (show c < fs.length by omega))
  simp at h
  omega
def LotP (K : PySem.W.Frag) (H : Hp) (m cl : Addr) (fs rs cs : List Nat) : Prop := MaT K H m fs rs ∧ MaOk fs rs ∧ SqT K H cl (nV cs) ∧ cs ≠ [] ∧ cs.Pairwise (· < ·) ∧ (∀ c ∈ cs, c < rs.length) ∧ ∀ x ∈ fs, 1 ≤ x ∧ x ≤ 8
theorem LotP.up {K : PySem.W.Frag} {H H' : Hp} {m cl : Addr} {fs rs cs : List Nat} (e : Ex H H') (h : LotP K H m cl fs rs cs) : LotP K H' m cl fs rs cs := ⟨h.1.up e, h.2.1, ex_t e h.2.2.1, h.2.2.2⟩
def spRds (P : Program) (w : World) (K : PySem.W.Frag) (C : Addr) : Sp := fun vs H Q _ => ∃ (m cl : Addr) (fs rs cs : List Nat), vs = [.ref m, .ref cl] ∧ LotP K H m cl fs rs cs ∧
  ∀ x sp lens H', Ex H H' → RdsF P w K C H' x fs rs cs sp lens → RdsOk fs rs cs sp lens → Q (.ref x) H'
theorem rof_no_find_links {m c d s lk ln : V} : (rof m c d s lk ln).lookup ("find_links" : Str) = none := by kernel_rfl
theorem rof_no_find_lengths {m c d s lk ln : V} : (rof m c d s lk ln).lookup ("find_lengths" : Str) = none := by kernel_rfl
theorem q_dropR {σ : L2.St} {H : Hp} {te : TE} {tz : TS} {D : Ends} (h : te σ H fun _ H1 => tz D σ H1) : tSeq (tDrop te) tz D σ H := h
theorem pow_le9 {n : Nat} (h : n ≤ 4) : (8 + 1) ^ n ≤ 6561 := Nat.le_trans (Nat.pow_le_pow_right (by decide) h) (by decide)
section
variable {P : Program} {w : World} {K : PySem.W.Frag} {mg : Str → Option Value} {base : Heap} {C : Addr}
abbrev s_rounds_of : Stmt := top 27
theorem sc_rounds_of : FnScope ["machine", "cells", "rounds"] ["machine", "cells"] (defScope s_rounds_of) := ⟨rfl, rfl, rfl, by decide +kernel, rfl, by decide +kernel, by decide +kernel⟩
theorem ok_rounds_of {f f1 f2 f3 f4 f5 : Addr} {fd fd1 fd2 fd3 fd4 fd5 : FuncData} (F : Fun K "rounds_of" "rounds_of" s_rounds_of f fd) (T : Txt K mg) (T_Rounds : RouT K C) (C_check_machine : Cal P w K mg base CX0 4 "check_machine" f1 fd1 ["value"] (spChkMa K)) (C_check_lot : Cal P w K mg base CX0 5 "check_lot" f2 fd2 ["machine", "value"] (spChkLot K)) (M_Rounds : MkRou P w K mg base C f3 fd3) (M_Rounds_find_links : MCal P w K mg base C 5 "find_links" f4 fd4 ["self"] (spFindL P w K C)) (M_Rounds_find_lengths : MCal P w K mg base C 5 "find_lengths" f5 fd5 ["self"] (spFindN P w K C)) : FnOk P w K mg base CX0 6 f fd ["machine", "cells"] (spRds P w K C) := by
  refine F.ok sc_rounds_of (fun vs H Q E h => ?_) (fun cdv A outer s H vs Q E hr h => ?_)
  · obtain ⟨_, _, _, _, _, rfl, _⟩ := h
    rfl
  · obtain ⟨m, cl, fs, rs, cs, rfl, ⟨hm, hmo, hcl, hne, hasc, hlt, hf⟩, k⟩ := h
    refine ⟨_, (pss_cons (ps_expr (pe_call C_check_machine.G (hr.mono (by first | decide | omega)) rfl C_check_machine.g C_check_machine.kp C_check_machine.b .nil pass0 (pa_cons (pv 0) pa_nil)))
  (pss_cons (ps_expr (pe_call C_check_lot.G (hr.mono (by first | decide | omega)) rfl C_check_lot.g C_check_lot.kp C_check_lot.b .nil pass0 (pa_cons (pv 0) (pa_cons (pv 1) pa_nil))))
  (pss_cons (ps_set (i := 2) sc_rounds_of.nd rfl (Or.inl rfl) (pe_make M_Rounds.M M_Rounds.G (hr.mono (by first | decide | omega)) rfl M_Rounds.g M_Rounds.b .nil pass0 (pa_cons (pv 0) (pa_cons (pv 1) pa_nil))))
  (pss_cons (ps_expr (pe_meth0 (pv 2) T_Rounds.cl M_Rounds_find_links.m M_Rounds_find_links.G (hr.mono (by first | decide | omega)) M_Rounds_find_links.b .nil pass0))
  (pss_cons (ps_expr (pe_meth0 (pv 2) T_Rounds.cl M_Rounds_find_lengths.m M_Rounds_find_lengths.G (hr.mono (by first | decide | omega)) M_Rounds_find_lengths.b .nil pass0))
  (pss_one (ps_ret (pv 2)))))))), ?_⟩
    refine q_call (ea_cons (ev_var rfl) ea_nil) fun H1 e1 => ⟨m, fs, rs, rfl, hm.up e1, hmo, fun H2 e2 => ?_⟩
    have e02 := e1.trans e2
    refine q_call (ea_cons (ev_var rfl) (ea_cons (ev_var rfl) ea_nil)) fun H3 e3 => ⟨m, cl, fs, rs, cs, rfl, hm.up (e02.trans e3), hmo, ex_t (e02.trans e3) hcl, hne, hasc, hlt, fun H4 e4 => ?_⟩
    have e04 := e02.trans (e3.trans e4)
    obtain ⟨lok, hd5, hc4⟩ := lotOk_of hmo hasc hlt
    have hll := hmo.ll
    have hl4 := hmo.l4
    have hlo := lost_fs (fun x hx => (hf x hx).1) hll hlt
    refine q_asgU9 ?_
    refine (ea_cons (ev_var rfl) (ea_cons (ev_var rfl) ea_nil) : EvA _ _ H4 [.ref m, .ref cl]) H4 (Ex.refl _) _ fun H5 e5 x dx hx0 hdx hne2 => ?_
    have e05 := e04.trans e5
    have e6 : Ex H5 (upd (upd H5 dx (.own x)) x (.ins C dx [])) := (Ex.new hdx).trans (Ex.new (by rw [upd_ne (fun z => hne2 z.symm)]; exact hx0))
    have hx6 : upd (upd H5 dx (.own x)) x (.ins C dx []) x = some (.ins C dx []) := upd_same
    generalize upd (upd H5 dx (.own x)) x (.ins C dx []) = H6 at e6 hx6
    have hx0' : H x = none := fresh_back e05 hx0
    refine ⟨x, dx, m, cl, fs, rs, cs, rfl, hx6, hm.up (e05.trans e6), ex_t (e05.trans e6) hcl, hlt, hll, by omega, by omega, hlo, fun H7 da sa dl dn bx rx hsa hdl hdn hln fl5 fn5 => ⟨rfl, ?_⟩⟩
    have e07 : Ex H H7 := fun y o ho => bx y o (fun z => by rw [z, hx0'] at ho; cases ho) ((e05.trans e6) _ _ ho)
    try dsimp only [List.set]
    refine q_dropR ?_
    refine m_methR (ev_var rfl) rx.obj rof_no_find_links fun H8 e8 => m_nilR ?_
    have hfs8 : ∀ y ∈ fs, y ≤ 8 := fun y hy => (hf y hy).2
    have hst : LvOk rs.length 8 (onlyL cs fs) := ⟨by rw [onlyL_len]; exact hll, onlyL_le hfs8⟩
    refine ⟨x, dx, m, cl, da, sa, dl, .ref dn, fs, rs, cs, allD rs cs, onlyL cs fs, 8, rfl, rx.up e8, lok, hsa.up e8, hst, hfs8, Nat.le_trans (pow_le9 (by omega)) (by decide), hdl.up lkR_d e8, fun sp H9 b9 d9 nd9 st9 cl9 lv9 rc9 => ?_⟩
    obtain ⟨_, ⟨yl, hyl, _⟩, _⟩ := id (hdl.up lkR_d e8).at_
    have hdl0 : H dl = none := fresh_back (e05.trans e6) fl5
    have hdn0 : H dn = none := fresh_back (e05.trans e6) fn5
    have e09 : Ex H H9 := fun y o ho => b9 y o (fun z => by rw [z, hdl0] at ho; cases ho) (e8 _ _ (e07 _ _ ho))
    have r9 := rouX_bd hyl b9 (rx.up e8)
    have n9 : DW P w NaR H9 dn [] := (hdn.up naR_d e8).kl (R := NaR) (H := H8) (fun _ _ h => h) (fun y o hy ho => b9 y o (fun z => by
      rw [z, hyl] at hy
      cases hy
      rcases ho with ⟨_, e⟩ | ⟨_, e⟩ <;> (unfold NDO at e; cases e)) hy) fun o ho => b9 _ _ hln.symm ho
    have s9 : LvH H9 sa (onlyL cs fs) := b9 _ _ (fun z => by
      have := hsa.up e8
      unfold LvH at this
      rw [z, hyl] at this; unfold NDO at this; cases this) (hsa.up e8)
    have hB : ∀ s, (lnkD fs rs cs (allD rs cs) s).length ≤ 5 := fun s => Nat.le_trans (lnkD_len _ _ _ _ _) hd5
    have hmany : sp.length ≤ 6561 := Nat.le_trans (lv_many nd9 lv9) (pow_le9 (by omega))
    refine q_dropR ?_
    refine m_methR (ev_var rfl) r9.obj rof_no_find_lengths fun H10 e10 => m_nilR ?_
    have n10 := n9.up naR_d e10
    have r10 := r9.up e10
    refine ⟨x, dx, dl, dn, _, _, _, _, sp, lnkD fs rs cs (allD rs cs), 5, rfl, r10.obj, d9.up lkR_d e10, nd9, cl9, hB, by decide, by omega, by omega, hln, n10, fun lens H11 b11 d11 len => ?_⟩
    obtain ⟨_, ⟨yn, hyn, _⟩, _⟩ := id n10.at_
    have e011 : Ex H H11 := fun y o ho => b11 y o (fun z => by rw [z, hdn0] at ho; cases ho) (e10 _ _ (e09 _ _ ho))
    have r11 := rouX_bd hyn b11 r10
    have kl11 : Kl H10 H11 := fun y o hy ho => b11 y o (fun z => by
      rw [z, hyn] at hy
      cases hy
      rcases ho with ⟨_, e⟩ | ⟨_, e⟩ <;> (unfold NDO at e; cases e)) hy
    have d11' : DW P w LkR H11 dl (sp.map fun s => (s, lnkD fs rs cs (allD rs cs) s)) := (d9.up lkR_d e10).kl (fun _ _ h => h.kl kl11) kl11 fun o ho => b11 _ _ hln ho
    refine s_ret (ev_var rfl) fun H12 e12 => ?_
    exact k x sp lens H12 (e011.trans e12) (RdsF.up e12 ⟨dx, m, cl, da, sa, dl, dn, r11, kl11 _ _ (s9.up e10) (.inl ⟨_, rfl⟩), d11', d11, hln⟩) ⟨nd9, st9, cl9, lv9, rc9, len⟩
end
end Fm
set_option maxHeartbeats 1000000
namespace Fm
open PySem L2 Evl RZ
def cntG (Ll : LkF) : Lv → List (Nat × Lv) := fun s => (Ll s).map fun p => (if p.1 = none then 0 else 1, p.2)
def rgD (Ll : LkF) (q : List (Lv × Nat)) : List (Option Nat) := q.map fun x => (((Ll x.1)[x.2]?).map Prod.fst).getD none
structure EndP (fs rs cs : List Nat) (sp : List Lv) (lens : List (Lv × Nat)) (q : List (Lv × Nat)) (s1 : Lv) (a b : Nat) : Prop where
  cp : CP (cntG (lastL (lnkD fs rs cs (allD rs cs)) lens)) s1 q s1
  ne : q ≠ []
  at_ : s1 ∈ lastS sp lens
  len : q.length ≤ sp.length
  ra : a = q.length / Nat.gcd (cntR (cntG (lastL (lnkD fs rs cs (allD rs cs)) lens)) q) q.length - cntR (cntG (lastL (lnkD fs rs cs (allD rs cs)) lens)) q / Nat.gcd (cntR (cntG (lastL (lnkD fs rs cs (allD rs cs)) lens)) q) q.length
  rb : b = q.length / Nat.gcd (cntR (cntG (lastL (lnkD fs rs cs (allD rs cs)) lens)) q) q.length
  opt : ∀ s p, CP (cntG (lastL (lnkD fs rs cs (allD rs cs)) lens)) s p s → s ∈ lastS sp lens → p.length * (cntR (cntG (lastL (lnkD fs rs cs (allD rs cs)) lens)) q / Nat.gcd (cntR (cntG (lastL (lnkD fs rs cs (allD rs cs)) lens)) q) q.length) ≤ q.length / Nat.gcd (cntR (cntG (lastL (lnkD fs rs cs (allD rs cs)) lens)) q) q.length * cntR (cntG (lastL (lnkD fs rs cs (allD rs cs)) lens)) p
theorem cntG_ok {fs rs cs : List Nat} {sp : List Lv} {lens : List (Lv × Nat)} (ok : RdsOk fs rs cs sp lens) (hB : ∀ s, (lnkD fs rs cs (allD rs cs) s).length ≤ 5) (hm : sp.length ≤ 10000) : Gok (lastS sp lens) (cntG (lastL (lnkD fs rs cs (allD rs cs)) lens)) := by
  have ll : (lastS sp lens).length ≤ sp.length := List.length_filter_le _ _
  refine ⟨ok.nd.sublist List.filter_sublist, fun s hs p hp => ?_, fun s hs p hp => ?_, fun s hs => ?_, by omega⟩
  · obtain ⟨y, hy, rfl⟩ := List.mem_map.mp hp
    obtain ⟨h1, h2⟩ := List.mem_filter.mp hy
    exact List.mem_filter.mpr ⟨ok.cl s (List.mem_filter.mp hs).1 y h1, h2⟩
  · obtain ⟨y, hy, rfl⟩ := List.mem_map.mp hp
    show (if y.1 = none then 0 else 1) ≤ 1
    split <;> omega
  · unfold cntG
    rw [List.length_map]
    have h1 : (lastL (lnkD fs rs cs (allD rs cs)) lens s).length ≤ _ := List.length_filter_le _ _
    have := hB s
    omega
theorem lastL_some {L : LkF} {sp : List Lv} {lens : List (Lv × Nat)} (ok : LenOk L sp lens) {s : Lv} (hs : s ∈ lastS sp lens) : ∃ p, (lastL L lens s)[0]? = some p := by
  obtain ⟨h1, h2⟩ := List.mem_filter.mp hs
  have h3 : lkp lens s = none := by
    cases q : lkp lens s with
    | none => rfl
    | some _ => rw [q] at h2; cases h2
  obtain ⟨p, hp, hn⟩ := ok.out s h1 h3
  have hm : p ∈ lastL L lens s := List.mem_filter.mpr ⟨hp, by rw [hn]; rfl⟩
  cases h : lastL L lens s with
  | nil => rw [h] at hm; cases hm
  | cons x xs => exact ⟨x, rfl⟩
theorem ring_there {fs rs cs : List Nat} {sp : List Lv} {lens : List (Lv × Nat)} (ok : RdsOk fs rs cs sp lens) {s : Lv} (hs : s ∈ lastS sp lens) : ∃ u q, CP (cntG (lastL (lnkD fs rs cs (allD rs cs)) lens)) u q u ∧ q ≠ [] ∧ u ∈ lastS sp lens := by
  let G := cntG (lastL (lnkD fs rs cs (allD rs cs)) lens)
  let r : Lv → Option Nat := fun t => if t ∈ lastS sp lens then some 0 else none
  have hr : ∀ t l, r t = some l → ∃ c t', (G t)[l]? = some (c, t') := fun t l h => by
    have h : (if t ∈ lastS sp lens then some 0 else none) = some l := h
    by_cases ht : t ∈ lastS sp lens
    · rw [if_pos ht] at h
      cases h
      obtain ⟨p, hp⟩ := lastL_some ok.len ht
      refine ⟨(if p.1 = none then 0 else 1), p.2, ?_⟩
      show ((lastL (lnkD fs rs cs (allD rs cs)) lens t).map _)[0]? = _
      rw [List.getElem?_map, hp]
      rfl
    · rw [if_neg ht] at h; cases h
  have stay : ∀ {a e : Lv} {p : List (Lv × Nat)}, RP G r a p e → a ∈ lastS sp lens → e ∈ lastS sp lens ∧ ∀ x ∈ p.map Prod.fst, x ∈ lastS sp lens := fun {a e p} h => by
    induction h with
    | nil => exact fun ha => ⟨ha, fun _ z => nomatch z⟩
    | @cons s t e l c p h1 h2 _ ih =>
      intro ha
      have h2 : ((lastL (lnkD fs rs cs (allD rs cs)) lens s).map _)[l]? = some (c, t) := h2
      have hm := List.mem_of_getElem? h2
      obtain ⟨y, hy, hye⟩ := List.mem_map.mp hm
      cases hye
      obtain ⟨g1, g2⟩ := List.mem_filter.mp hy
      obtain ⟨i1, i2⟩ := ih (List.mem_filter.mpr ⟨ok.cl s (List.mem_filter.mp ha).1 y g1, g2⟩)
      refine ⟨i1, fun x hx => ?_⟩
      rw [List.map_cons] at hx
      rcases List.mem_cons.mp hx with rfl | hx
      · exact ha
      · exact i2 x hx
  rcases RP.far hr s ((lastS sp lens).length + 1) with ⟨p, e, h1, h2, _⟩ | ⟨p, e, h1, h2⟩
  · have := (stay h1 hs).1
    have h2 : (if e ∈ lastS sp lens then some 0 else none) = none := h2
    rw [if_pos this] at h2; cases h2
  · have hd : ¬ (p.map Prod.fst).Nodup := fun z => by
      have := nodup_within z (stay h1 hs).2
      rw [List.length_map] at this
      omega
    obtain ⟨u, q, g1, g2⟩ := h1.dup hd
    refine ⟨u, q, g1.cp, g2, ?_⟩
    cases g1 with
    | nil => exact absurd rfl g2
    | @cons _ t _ l c p' k1 _ _ =>
      have k1 : (if u ∈ lastS sp lens then some 0 else none) = some l := k1
      by_cases hu : u ∈ lastS sp lens
      · exact hu
      · rw [if_neg hu] at k1; cases k1
theorem cntG_at {Ll : LkF} {s t : Lv} {l c : Nat} (h : (cntG Ll s)[l]? = some (c, t)) : ∃ p, (Ll s)[l]? = some p ∧ p.2 = t ∧ c = if p.1 = none then 0 else 1 := by
  unfold cntG at h
  rw [List.getElem?_map] at h
  obtain ⟨p, hp, e⟩ := Option.map_eq_some_iff.mp h
  cases e
  exact ⟨p, hp, rfl, rfl⟩
theorem gcd_sub {t d : Nat} (h : t ≤ d) (hc : Nat.gcd t d = 1) : Nat.gcd (d - t) d = 1 := by
  have h1 := Nat.gcd_dvd_left (d - t) d
  have h2 := Nat.gcd_dvd_right (d - t) d
  have h3 : Nat.gcd (d - t) d ∣ t := by
    have := Nat.dvd_sub h2 h1
    rwa [show d - (d - t) = t by omega] at this
  have := Nat.dvd_gcd h3 h2
  rw [hc] at this
  exact Nat.dvd_one.mp this
theorem rof_no_lasting_links {m c d s lk ln : V} : (rof m c d s lk ln).lookup ("lasting_links" : Str) = none := by kernel_rfl
theorem rif_no_least {a b c : V} : (rif a b c).lookup ("least" : Str) = none := by kernel_rfl
theorem q_asgGR {σ : L2.St} {H : Hp} {D : Ends} {te : TE} {tz : TS} {g : TG} (h : te σ H fun x H1 => g x σ H1 fun σ' H2 => tz D σ' H2) : tSeq (tAsg te g) tz D σ H := h
theorem m_methG {σ : L2.St} {H : Hp} {Q : VK} {ta : TE} {tA : TA} {C : Addr} {m : Str} {sp : Sp} {E : XK} (h : ta σ H fun x H1 => ∃ a dx fl, x = .ref a ∧ H1 a = some (.ins C dx fl) ∧ fl.lookup m = none ∧ tA σ H1 fun vs H2 => sp (x :: (vs ++ [])) H2 Q E) : tMeth C m sp [] E ta tA σ H Q := h
theorem m_makeG {σ : L2.St} {H : Hp} {Q : VK} {t : TA} {C : Addr} {sp : Sp} {dvs : List V} {E : XK} (h : t σ H fun vs H1 => ∀ x dx, H1 x = none → H1 dx = none → dx ≠ x → sp (.ref x :: (vs ++ dvs)) (upd (upd H1 dx (.own x)) x (.ins C dx [])) (fun v H2 => v = .non ∧ Q (.ref x) H2) E) : tMake C sp dvs E t σ H Q := h
theorem m_consCB {Q : List V → Hp → Prop} {σ : L2.St} {H : Hp} {te : TE} {tr : TA} {r : List V → Hp → VK → Prop} (h : te σ H fun x H1 => r [x] H1 fun y H2 => tr σ H2 fun ys H3 => Q (y :: ys) H3) : tCons (tCB r (tCons te tNil)) tr σ H Q := h
def spEndless (K : PySem.W.Frag) : Sp := fun vs H Q _ => ∃ (m cl : Addr) (fs rs cs : List Nat), vs = [.ref m, .ref cl] ∧ LotP K H m cl fs rs cs ∧
  (∀ sp lens H', Ex H H' → RdsOk fs rs cs sp lens → (lkp lens (onlyL cs fs)).isSome = true → Q .non H') ∧
  (∀ sp lens t e0 ra qa q s1 a b H', Ex H H' → RdsOk fs rs cs sp lens → lkp lens (onlyL cs fs) = none → H' t = some (.tup [.ref e0, .ref ra, .ref qa]) → H' e0 = some (.tup []) → H' ra = some (.tup ((rgD (lastL (lnkD fs rs cs (allD rs cs)) lens) q).map dvR)) → H' qa = some (.tup [.int (a : Nat), .int (b : Nat)]) → EndP fs rs cs sp lens q s1 a b → Q (.ref t) H')
section
variable {P : Program} {w : World} {K : PySem.W.Frag} {mg : Str → Option Value} {base : Heap} {C CR : Addr}
abbrev s_endless : Stmt := top 28
theorem sc_endless : FnScope ["machine", "cells", "rounds", "links", "counted", "touches", "deeds", "ring", "lives", "pairs", "deed", "behind", "at"] ["machine", "cells"] (defScope s_endless) := ⟨rfl, rfl, rfl, by decide +kernel, rfl, by decide +kernel, by decide +kernel⟩
theorem ok_endlessR {f f1 f2 f3 f4 f5 : Addr} {fd fd1 fd2 fd3 fd4 fd5 : FuncData} (F : Fun K "endless" "endless" s_endless f fd) (T : Txt K mg) (T_Rounds : RouT K C) (T_Rings : RinT K CR) (C_rounds_of : Cal P w K mg base CX0 6 "rounds_of" f1 fd1 ["machine", "cells"] (spRds P w K C)) (M_Rounds_lasting_links : MCal P w K mg base C 5 "lasting_links" f2 fd2 ["self"] (spLasting P w K C)) (M_Rings : MkRin P w K mg base CR f3 fd3) (M_Rings_least : MCal P w K mg base CR 4 "least" f4 fd4 ["self"] (spLeastR P w K CR)) (C_ratio_of : Cal P w K mg base CX0 1 "ratio_of" f5 fd5 ["top", "low"] (spRat K)) : FnOk P w K mg base CX0 7 f fd ["machine", "cells"] (spEndless K) := by
  refine F.ok sc_endless (fun vs H Q E h => ?_) (fun cdv A outer s H vs Q E hr h => ?_)
  · obtain ⟨_, _, _, _, _, rfl, _⟩ := h
    rfl
  · obtain ⟨m, cl, fs, rs, cs, rfl, LP, k1, k2⟩ := h
    refine ⟨_, (pss_cons (ps_set (i := 2) sc_endless.nd rfl (Or.inl rfl) (pe_call C_rounds_of.G (hr.mono (by first | decide | omega)) rfl C_rounds_of.g C_rounds_of.kp C_rounds_of.b .nil pass0 (pa_cons (pv 0) (pa_cons (pv 1) pa_nil))))
  (pss_cons (ps_if (pt_cmp (nin_K' (P := P) (w := w) rfl rfl hr.units (fld_KR (K := K) rfl (pv 2) rfl) (fld_KR (K := K) rfl (pv 2) rfl)) rfl) (pss_one (ps_ret pe_non)) pss_nil)
  (pss_cons (ps_set (i := 3) sc_endless.nd rfl (Or.inr rfl) (pe_meth0 (pv 2) T_Rounds.cl M_Rounds_lasting_links.m M_Rounds_lasting_links.G (hr.mono (by first | decide | omega)) M_Rounds_lasting_links.b .nil pass0))
  (pss_cons (ps_lock (setDcN_K (P := P) (w := w) (i := 4) (own := [("lives", 8), ("pairs", 9)]) (g := gTup K 2 (gCons (gName 8) (gCons (gName 9) gNil))) rfl rfl hr.units rfl sc_endless.nd rfl rfl (sw_trueD rfl rfl rfl (by decide +kernel)) (itemsN_K (P := P) (w := w) rfl rfl (pv 3)) (blkOk_by (by kernel_rfl)) (fun _ _ _ _ _ => pg_tupK (K := K) rfl rfl (pgs_cons (pg_name (i := 8) sc_endless.nd rfl (by first | exact Or.inl rfl | exact Or.inr rfl)) (pgs_cons (pg_name (i := 9) sc_endless.nd rfl (by first | exact Or.inl rfl | exact Or.inr rfl)) pgs_nil))) (fun _ _ _ _ _ => pts_nil) (fun _ _ _ _ _ => (pv 8)) (fun _ _ _ _ _ => (pe_lc (own := [("deed", 10), ("behind", 11)]) (g := gTup K 2 (gCons (gName 10) (gCons (gName 11) gNil))) rfl sc_endless.nd (pi_listK (K := K) rfl (pv 9)) (blkOk_by (by kernel_rfl)) (fun _ _ _ _ _ => pg_tupK (K := K) rfl rfl (pgs_cons (pg_name (i := 10) sc_endless.nd rfl (by first | exact Or.inl rfl | exact Or.inr rfl)) (pgs_cons (pg_name (i := 11) sc_endless.nd rfl (by first | exact Or.inl rfl | exact Or.inr rfl)) pgs_nil))) (fun _ _ _ _ _ => pts_nil) (fun _ _ _ _ _ => (pe_tup (pa_cons (pe_ifExp (pt_cmpR op_isN (pv 10) pe_non (nomark _)) pe_int pe_int) (pa_cons (pv 11) pa_nil))))))))
  (pss_cons (ps_asg (pe_meth0 (pe_make M_Rings.M M_Rings.G (hr.mono (by first | decide | omega)) rfl M_Rings.g M_Rings.b .nil pass0 (pa_cons (pv 4) pa_nil)) T_Rings.cl M_Rings_least.m M_Rings_least.G (hr.mono (by first | decide | omega)) M_Rings_least.b .nil pass0) (pg_tup rfl (pgs_cons (pg_tup rfl (pgs_cons (pg_name (i := 5) sc_endless.nd rfl (by first | exact Or.inl rfl | exact Or.inr rfl)) (pgs_cons (pg_name (i := 6) sc_endless.nd rfl (by first | exact Or.inl rfl | exact Or.inr rfl)) pgs_nil))) (pgs_cons (pg_name (i := 7) sc_endless.nd rfl (by first | exact Or.inl rfl | exact Or.inr rfl)) pgs_nil))))
  (pss_one (ps_ret (pe_tup (pa_cons (pe_tup pa_nil) (pa_cons (pe_callTy (tpl_K (K := K) rfl) (by rfl) T.z_tuple (by decide +kernel) (pa_cons (pe_lc (own := [("lives", 8), ("at", 12)]) (g := gTup K 2 (gCons (gName 8) (gCons (gName 12) gNil))) rfl sc_endless.nd (pi_listK (K := K) rfl (pv 7)) (blkOk_by (by kernel_rfl)) (fun _ _ _ _ _ => pg_tupK (K := K) rfl rfl (pgs_cons (pg_name (i := 8) sc_endless.nd rfl (by first | exact Or.inl rfl | exact Or.inr rfl)) (pgs_cons (pg_name (i := 12) sc_endless.nd rfl (by first | exact Or.inl rfl | exact Or.inr rfl)) pgs_nil))) (fun _ _ _ _ _ => pts_nil) (fun _ _ _ _ _ => (pe_ix (ix_K (K := K) rfl) (pe_ix (ix_K (K := K) rfl) (nget_K (P := P) (w := w) rfl rfl hr.units (pv 3) (pv 8) (fun _ _ => rfl)) (pv 12) (fun _ _ => rfl)) pe_int (fun _ _ => rfl)))) pa_nil)) (pa_cons (pe_call C_ratio_of.G (hr.mono (by first | decide | omega)) rfl C_ratio_of.g C_ratio_of.kp C_ratio_of.b .nil pass0 (pa_cons (pe_op op_sub (pv 6) (pv 5)) (pa_cons (pv 6) pa_nil))) pa_nil))))))))))), ?_⟩
    obtain ⟨hm, hmo, hcl, hne, hasc, hlt, hf⟩ := id LP
    obtain ⟨lok, hd5, hc4⟩ := lotOk_of hmo hasc hlt
    have hll := hmo.ll
    have hl4 := hmo.l4
    have hB : ∀ s, (lnkD fs rs cs (allD rs cs) s).length ≤ 5 := fun s => Nat.le_trans (lnkD_len _ _ _ _ _) hd5
    refine q_callA (ea_cons (ev_var rfl) (ea_cons (ev_var rfl) ea_nil)) fun H1 e1 => ?_
    refine ⟨m, cl, fs, rs, cs, rfl, LP.up e1, fun x sp lens H2 e2 RF ok => ?_⟩
    have e02 := e1.trans e2
    try dsimp only [List.set]
    have hmany : sp.length ≤ 6561 := Nat.le_trans (lv_many ok.nd ok.lv) (pow_le9 (by omega))
    obtain ⟨dx, ma, ca, da, sa, dl, dn, RX, hsa, hdl, hdn, hln⟩ := RF
    refine q_when (b := (lkp lens (onlyL cs fs)).isSome) (et_B (ev_din (ev_fldR (ev_var rfl) RX.obj T_Rounds.cl T_Rounds.n_start rof_start) (ev_fldR (ev_var rfl) RX.obj T_Rounds.cl T_Rounds.n_lengths rof_lengths) naR_d hdn.r hsa)) (fun hb H3 e3 => ?_) fun hb H3 e3 => ?_
    · exact s_ret ev_c fun H4 e4 => k1 sp lens H4 (e02.trans (e3.trans e4)) ok hb
    have hno : lkp lens (onlyL cs fs) = none := by
      cases q : lkp lens (onlyL cs fs) with
      | none => rfl
      | some _ => rw [q] at hb; cases hb
    have hst : onlyL cs fs ∈ lastS sp lens := List.mem_filter.mpr ⟨ok.st, by rw [hno]; rfl⟩
    have e03 := e02.trans e3
    refine q_asgU9 ?_
    refine m_methR (ev_var rfl) (e3 _ _ RX.obj) rof_no_lasting_links fun H4 e4 => m_nilR ?_
    have e34 := e3.trans e4
    refine ⟨x, dx, dl, dn, _, _, _, _, sp, _, lens, rfl, e34 _ _ RX.obj, hdl.up lkR_d e34, ok.nd, fun s => by have := hB s; omega, by omega, hln, hdn.up naR_d e34, fun dk H5 hdk e5 d5 => ?_⟩
    try dsimp only [List.set]
    have e05 := e02.trans (e34.trans e5)
    have hnd5 : (lastS sp lens).Nodup := ok.nd.sublist List.filter_sublist
    have hkeys : ((lastS sp lens).map fun s => (s, lastL (lnkD fs rs cs (allD rs cs)) lens s)).map Prod.fst = lastS sp lens := by rw [List.map_map]; exact List.map_id' _
    have hlm : (lastS sp lens).length ≤ sp.length := List.length_filter_le _ _
    refine q_lockAsg (m_dcItems (R := LkR) (R' := PsH) (fun _ ps => some (ps.map fun p => (if p.1 = none then 0 else 1, p.2))) lkR_k (fun _ _ _ _ k h => h.kl k) d5 (by rw [hkeys]; exact hnd5) (by rw [List.length_map]; omega) (fun od ys => ev_var rfl) (fun y hy D T2 kb v H' N HD hT hkb hv hno hsome => ?_) fun dc H6 hdc e6 d6 => ?_)
    · obtain ⟨la, us, rfl, hus, hpu⟩ := hv
      have hul := Paired.length hpu
      have hy2 : y.2.length ≤ 5 := by
        obtain ⟨s0, _, rfl⟩ := List.mem_map.mp hy
        exact Nat.le_trans (List.length_filter_le _ _) (hB s0)
      refine ⟨T2, _, rfl, st_of hT, rfl, _, _, rfl, _, _, rfl, ⟨rfl, rfl, ?_⟩⟩
      dsimp only [tYes]
      rw [if_pos rfl]
      refine (ev_var rfl) H' (Ex.refl _) _ fun Ha ea => ?_
      refine m_lcLR (a := la) (xs := us) (ev_var rfl) (sq_of (ea _ _ hus)) (fun D2 i Hx => Ha D2 = none ∧ Ex Ha Hx ∧ ∃ ws, Hx D2 = some (.lst ws) ∧ Paired (fun v p => PrT v p Hx) ws ((y.2.take i).map fun p => (if p.1 = none then 0 else 1, p.2))) (fun D2 H1 e1 hD2 => ⟨fresh_back e1 hD2, e1.trans (Ex.new hD2), [], upd_same, .nil⟩) (fun D2 i Hx _ h => ex_l h.2.1 (sq_of (ea _ _ hus))) (fun D2 i v Hx hv h => ?_) (fun D2 Hx h => ?_)
      · obtain ⟨hD2, e2, ws, hws, hpw⟩ := h
        have e02 := ea.trans e2
        obtain ⟨p, hp, b, v4, rfl, hb, bt, hbe, hbt⟩ := paired_at hpu hv
        have hbe : v4 = .ref bt ∧ LvH H' bt p.2 := ⟨hbe, hbt⟩
        obtain ⟨rfl, hbt⟩ := hbe
        have htk : y.2.take (i + 1) = y.2.take i ++ [p] := by rw [List.take_add_one, hp]; rfl
        have hwl := Paired.length hpw
        rw [List.length_map, List.length_take] at hwl
        refine ⟨b, _, rfl, st_of (e02 _ _ hb), rfl, _, _, rfl, _, _, rfl, ⟨rfl, rfl, ?_⟩⟩
        dsimp only [tYes]
        rw [if_pos rfl]
        have hb2 := hbt.up e02
        have hif : ∀ {σ' : L2.St} {Hx : Hp} (hv : σ'[10]? = some (some (dvR p.1))), Ev (tIf (tTest (tOp (fun x y H Q => y = V.non ∧ Q (V.bl (decide (x = V.non))) H) (tVar 10) (tC V.non))) (tC (V.int 0)) (tC (V.int 1))) σ' Hx (.int ((if p.1 = none then 0 else 1 : Nat) : Int)) := fun {σ' Hx} hv => by
          cases hp1 : p.1 with
          | none =>
            rw [hp1] at hv
            exact ev_if (b := true) (et_isN (x := .non) (ev_var hv)) (fun _ => ev_c) (fun z => nomatch z)
          | some c =>
            rw [hp1] at hv
            exact ev_if (b := false) (et_isN (x := .int (c : Nat)) (ev_var hv)) (fun z => nomatch z) (fun _ => ev_c)
        refine (eu_tup (vs := [.int ((if p.1 = none then 0 else 1 : Nat) : Int), .ref bt]) (ea_cons (hif rfl) (ea_cons (ev_var rfl) ea_nil)) (show 2 ≤ 100000 by decide)) Hx (Ex.refl _) _ fun t H4 ht e4 h4 => ?_
        have hws4 := e4 _ _ hws
        have tup : ∀ b ys, H4 b = some (.tup ys) → upd H4 D2 (.lst (ws ++ [.ref t])) b = some (.tup ys) := fun b ys hb => by
          rw [upd_ne fun z => ?_]
          · exact hb
          · rw [z, hws4] at hb; cases hb
        refine ⟨ws, hws4, by rw [sizeLine_eq]; omega, hD2, Ex.mut (e2.trans e4) hD2, ws ++ [.ref t], upd_same, ?_⟩
        rw [htk, List.map_append]
        exact paired_append (Paired.mapP hpw fun _ _ ⟨b, bt, h1, h2, h3⟩ => ⟨b, bt, h1, tup _ _ (e4 _ _ h2), tup _ _ (e4 _ _ h3)⟩) (.cons ⟨t, bt, rfl, tup _ _ h4, tup _ _ (e4 _ _ hb2)⟩ .nil)
      · obtain ⟨hD2, e2, ws, hws, hpw⟩ := h
        rw [hul, List.take_length] at hpw
        exact hsome _ rfl _ Hx (ea.trans e2) ⟨D2, ws, rfl, hws, hpw⟩
    try dsimp only [List.set]
    rw [fm_some fun ps : List (Option Nat × Lv) => ps.map fun p => (if p.1 = none then 0 else 1, p.2), List.map_map] at d6
    have d6 : DW P w PsH H6 dc ((lastS sp lens).map fun s => (s, cntG (lastL (lnkD fs rs cs (allD rs cs)) lens) s)) := d6
    have e06 := e05.trans e6
    have gok := cntG_ok ok hB (by omega)
    obtain ⟨u0, q0, c0, n0, m0⟩ := ring_there ok hst
    refine q_asgGR (m_methG (m_makeG ?_))
    refine (ea_cons (ev_var rfl) ea_nil : EvA _ _ H6 [.ref dc]) H6 (Ex.refl _) _ fun H7 e7 => ?_
    intro xr dxr hxr hdxr hner
    have e8 : Ex H7 (upd (upd H7 dxr (.own xr)) xr (.ins CR dxr [])) := (Ex.new hdxr).trans (Ex.new (by rw [upd_ne (fun z => hner z.symm)]; exact hxr))
    have hx8 : upd (upd H7 dxr (.own xr)) xr (.ins CR dxr []) xr = some (.ins CR dxr []) := upd_same
    generalize upd (upd H7 dxr (.own xr)) xr (.ins CR dxr []) = H8 at e8 hx8
    have hxr6 : H6 xr = none := fresh_back e7 hxr
    have ex_of : ∀ {H' : Hp}, (∀ y o, y ≠ xr → H8 y = some o → H' y = some o) → Ex H6 H' := fun {H'} b y o ho => b y o (fun z => by rw [z, hxr6] at ho; cases ho) ((e7.trans e8) _ _ ho)
    refine ⟨xr, dxr, dc, rfl, hx8, fun H9 ht ra b9 hx9 => ⟨rfl, xr, dxr, _, rfl, hx9, rif_no_least, m_nilR ?_⟩⟩
    have e69 := ex_of b9
    refine ⟨xr, dxr, dc, ht, ra, lastS sp lens, cntG (lastL (lnkD fs rs cs (allD rs cs)) lens), u0, q0, rfl, hx9, d6.up psH_d e69, gok, c0, n0, m0, fun t a u q s1 tp lo dh dr hs rs2 H10 b10 ht10 ha10 hu10 hcp hqn htp hlo RF hk hcalm hpos hs1 hlen => ?_⟩
    have e610 : Ex H6 H10 := ex_of fun y o hy ho => b10 y o hy (b9 y o hy ho)
    refine ⟨t, _, rfl, st_of ht10, rfl, _, _, rfl, ⟨a, _, rfl, st_of ha10, rfl, _, _, rfl, _, _, rfl, rfl, _, _, rfl, rfl, ?_⟩⟩
    try dsimp only [List.set]
    have hcnt := hcp.cnt gok hs1
    have hql : 0 < q.length := List.length_pos_iff.mpr hqn
    have hat := hcp.at_ gok hs1
    have hg1 : Nat.gcd (cntR (cntG (lastL (lnkD fs rs cs (allD rs cs)) lens)) q) q.length ∣ _ := Nat.gcd_dvd_left _ _
    have hg2 : Nat.gcd (cntR (cntG (lastL (lnkD fs rs cs (allD rs cs)) lens)) q) q.length ∣ _ := Nat.gcd_dvd_right _ _
    have hgp := Nat.gcd_pos_of_pos_right (cntR (cntG (lastL (lnkD fs rs cs (allD rs cs)) lens)) q) hql
    have htl : tp ≤ lo := by rw [htp, hlo]; exact Nat.div_le_div_right hcnt
    have hlop : 0 < lo := by rw [hlo]; exact Nat.div_pos (Nat.le_of_dvd hql hg2) hgp
    have hloq : lo ≤ q.length := by rw [hlo]; exact Nat.div_le_self _ _
    have hcop : Nat.gcd tp lo = 1 := by rw [htp, hlo, Nat.gcd_div hg1 hg2, Nat.div_self hgp]
    refine s_retQR (m_tupR9 (m_consR9 (m_tupR9 (m_nilR ⟨Nat.zero_le _, fun e0 he0 => ?_⟩))))
    have e11 := Ex.new (o := .tup []) he0
    have he011 : upd H10 e0 (.tup []) e0 = some (.tup []) := upd_same
    generalize upd H10 e0 (.tup []) = H11 at e11 he011 ⊢
    refine m_consCB ?_
    obtain ⟨us, hus, hpu⟩ := hu10.up e11
    have hul := Paired.length hpu
    have d11 := d5.up lkR_d ((e6.trans e610).trans e11)
    refine m_lcLR (a := u) (xs := us) (ev_var rfl) (sq_of hus) (fun D2 i Hx => H11 D2 = none ∧ Ex H11 Hx ∧ Hx D2 = some (.lst ((rgD (lastL (lnkD fs rs cs (allD rs cs)) lens) (q.take i)).map dvR))) (fun D2 H1 e1 hD2 => ⟨fresh_back e1 hD2, e1.trans (Ex.new hD2), upd_same⟩) (fun D2 i Hx _ h => ex_l h.2.1 (sq_of hus)) (fun D2 i v Hx hv h => ?_) (fun D2 Hx h => ?_)
    · obtain ⟨hD2, e2, hws⟩ := h
      obtain ⟨y, hy, b, bs, rfl, hb, hbs⟩ := paired_at hpu hv
      have htk : q.take (i + 1) = q.take i ++ [y] := by rw [List.take_add_one, hy]; rfl
      obtain ⟨hysp, tt, hG⟩ := hat y (List.mem_of_getElem? hy)
      obtain ⟨p, hp, _, _⟩ := cntG_at hG
      refine ⟨b, _, rfl, st_of (e2 _ _ hb), rfl, _, _, rfl, _, _, rfl, ⟨rfl, rfl, ?_⟩⟩
      dsimp only [tYes]
      rw [if_pos rfl]
      obtain ⟨v2, hv2, la, ls, rfl, hls, hpl⟩ := ev_dget (P := P) (w := w) (σ := [some (.ref m), some (.ref cl), some (.ref x), some (.ref dk), some (.ref dc), some (.int (tp : Nat)), some (.int (lo : Nat)), some (.ref u), some (.ref bs), none, none, none, some (.int (y.2 : Nat))]) (td := tVar 3) (ty := tVar 8) lkR_d (ev_var rfl) (ev_var rfl) (d11.up lkR_d e2).r (hbs.up e2) (lkp_fun hysp)
      obtain ⟨w1, hw1', b2, bt, rfl, hb2, _⟩ := paired_get hpl hp
      have hv3 : Ev (tOp (rIx K) (tOp (rIx K) (tNGet P w (tVar 3) (tVar 8)) (tVar 12)) (tC (.int 0))) [some (.ref m), some (.ref cl), some (.ref x), some (.ref dk), some (.ref dc), some (.int (tp : Nat)), some (.int (lo : Nat)), some (.ref u), some (.ref bs), none, none, none, some (.int (y.2 : Nat))] Hx (dvR p.1) := ev_ixT (ev_ixL hv2 (ev_var rfl) (sq_of hls) (atI_nat' hw1')) ev_c (st_of hb2) rfl
      refine hv3 Hx (Ex.refl _) _ fun H12 e12 => ?_
      refine ⟨_, e12 _ _ hws, ?_, hD2, Ex.mut (e2.trans e12) hD2, ?_⟩
      · rw [List.length_map, sizeLine_eq]; unfold rgD; rw [List.length_map, List.length_take]; omega
      · rw [upd_same, htk]; unfold rgD; rw [List.map_append, List.map_append, List.map_singleton, List.map_singleton, hp]; rfl
    obtain ⟨hD2, e12, hws⟩ := h
    rw [hul, List.take_length] at hws
    refine ⟨D2, _, rfl, .inl ⟨sq_of hws, fun ra' hra => ?_⟩⟩
    have e13 := Ex.new (o := .tup ((rgD (lastL (lnkD fs rs cs (allD rs cs)) lens) q).map dvR)) hra
    have hra13 : upd Hx ra' (.tup ((rgD (lastL (lnkD fs rs cs (allD rs cs)) lens) q).map dvR)) ra' = some (.tup ((rgD (lastL (lnkD fs rs cs (allD rs cs)) lens) q).map dvR)) := upd_same
    generalize upd Hx ra' (.tup ((rgD (lastL (lnkD fs rs cs (allD rs cs)) lens) q).map dvR)) = H13 at e13 hra13 ⊢
    refine m_consR9 (m_callR ?_)
    refine (ea_cons (ev_is (ev_i0 (g := fun i j => .int (i - j)) (ev_var rfl) (ev_var rfl)) (show V.int _ = V.int ((lo - tp : Nat) : Int) by rw [Int.ofNat_sub htl])) (ea_cons (ev_var rfl) ea_nil)) H13 (Ex.refl _) _ fun H14 e14 => ?_
    refine ⟨lo - tp, lo, rfl, hlop, by omega, by omega, fun qa H15 hqa e15 hqa15 => ?_⟩
    refine m_nilR ⟨by show 3 ≤ sizeLine; rw [sizeLine_eq]; decide, fun tt htt => ?_⟩
    have e16 := Ex.new (o := .tup [.ref e0, .ref ra', .ref qa]) htt
    have e1116 := (e12.trans e13).trans ((e14.trans e15).trans e16)
    rw [gcd_sub htl hcop, Nat.div_one, Nat.div_one] at hqa15
    refine k2 sp lens tt e0 ra' qa q s1 (lo - tp) lo _ ((e06.trans e610).trans (e11.trans e1116)) ok hno upd_same (e1116 _ _ he011) ((e14.trans (e15.trans e16)) _ _ hra13) (e16 _ _ hqa15) ⟨hcp, hqn, hs1, by omega, by rw [htp, hlo], hlo, fun s p hc hs => ?_⟩
    have := (hc.calm gok hcalm hs).1
    rw [wR_cnt] at this
    rw [← htp, ← hlo]
    have : (p.length : Int) * (tp : Int) ≤ (lo : Int) * (cntR (cntG (lastL (lnkD fs rs cs (allD rs cs)) lens)) p : Int) := by omega
    exact_mod_cast this
end
end Fm
set_option maxHeartbeats 1000000
namespace Fm
open PySem L2 Evl RZ
def kpN (fs rs cs : List Nat) (ld rg : List (Option Nat)) : Nat → Option Lv
  | 0 => keptD fs rs cs ld fs
  | n + 1 => (kpN fs rs cs ld rg n).bind (keptD fs rs cs rg)
theorem kpN_down {fs rs cs : List Nat} {ld rg : List (Option Nat)} : ∀ {n : Nat}, (kpN fs rs cs ld rg (n + 1)).isSome = true → (kpN fs rs cs ld rg n).isSome = true := fun {n} h => by
  cases q : kpN fs rs cs ld rg n with
  | none =>
    rw [show kpN fs rs cs ld rg (n + 1) = (kpN fs rs cs ld rg n).bind (keptD fs rs cs rg) from rfl, q] at h
    cases h
  | some _ => rfl
theorem kpN_le {fs rs cs : List Nat} {ld rg : List (Option Nat)} {n : Nat} (h : (kpN fs rs cs ld rg n).isSome = true) : ∀ k, k ≤ n → (kpN fs rs cs ld rg k).isSome = true := fun k hk => by
  induction n with
  | zero => rw [show k = 0 by omega]; exact h
  | succ n ih =>
    by_cases e : k = n + 1
    · rw [e]; exact h
    · exact ih (kpN_down h) (by omega)
theorem kpN_back {fs rs cs : List Nat} {ld rg : List (Option Nat)} {i j : Nat} (hij : i < j) (h : kpN fs rs cs ld rg i = kpN fs rs cs ld rg j) (hj : (kpN fs rs cs ld rg j).isSome = true) : ∀ n, (kpN fs rs cs ld rg n).isSome = true := by
  have shift : ∀ k, kpN fs rs cs ld rg (i + k) = kpN fs rs cs ld rg (j + k) := fun k => by
    induction k with
    | zero => exact h
    | succ k ih =>
      show (kpN fs rs cs ld rg (i + k)).bind _ = (kpN fs rs cs ld rg (j + k)).bind _
      rw [ih]
  intro n
  induction n using Nat.strongRecOn with
  | ind n ih =>
    by_cases hn : n ≤ j
    · exact kpN_le hj n hn
    · have := shift (n - j)
      rw [show j + (n - j) = n by omega] at this
      rw [← this]
      exact ih _ (by omega)
def BlR (v : V) (x : Bool) (_ : Hp) : Prop := v = .bl x
theorem blR_d : RKd BlR := fun _ _ _ _ _ h => h
theorem keptD_ok {fs rs cs : List Nat} {n F : Nat} (hf : ∀ x ∈ fs, x ≤ F) : ∀ {ds : List (Option Nat)} {l l' : Lv}, LvOk n F l → keptD fs rs cs ds l = some l' → LvOk n F l'
  | [], l, l', h, e => by cases e; exact h
  | d :: ds, l, l', h, e => by
    have e : (if lostL cs (livD fs rs l d) = true then none else keptD fs rs cs ds (livD fs rs l d)) = some l' := e
    by_cases g : lostL cs (livD fs rs l d) = true
    · rw [if_pos g] at e; cases e
    · rw [if_neg g] at e
      exact keptD_ok hf ⟨by rw [livD_len]; exact h.1, livD_le hf h.2⟩ e
theorem kpN_ok {fs rs cs : List Nat} {n F : Nat} {ld rg : List (Option Nat)} (hf : ∀ x ∈ fs, x ≤ F) (hl : fs.length = n) : ∀ (k : Nat) {l : Lv}, kpN fs rs cs ld rg k = some l → LvOk n F l
  | 0, l, h => keptD_ok hf ⟨hl, hf⟩ h
  | k + 1, l, h => by
    have h : (kpN fs rs cs ld rg k).bind (keptD fs rs cs rg) = some l := h
    cases q : kpN fs rs cs ld rg k with
    | none => rw [q] at h; cases h
    | some l0 => rw [q] at h; exact keptD_ok hf (kpN_ok hf hl k q) h
def MaL (K : PySem.W.Frag) (H : Hp) (m : Addr) (fs : List Nat) : Prop := ∃ fa ra : Addr, SqT K H m [.ref fa, .ref ra] ∧ LvH H fa fs
theorem MaL.up {K : PySem.W.Frag} {H H' : Hp} {m : Addr} {fs : List Nat} (e : Ex H H') (h : MaL K H m fs) : MaL K H' m fs := let ⟨a, b, h1, h2⟩ := h; ⟨a, b, ex_t e h1, h2.up e⟩
def DsV (K : PySem.W.Frag) (H : Hp) (v : V) (ds : List (Option Nat)) (n : Nat) : Prop := ∃ b, v = .ref b ∧ SqT K H b (ds.map dvR) ∧ ds.length ≤ 400 ∧ ∀ c, some c ∈ ds → c < n
theorem DsV.up {K : PySem.W.Frag} {H H' : Hp} {v : V} {ds : List (Option Nat)} {n : Nat} (e : Ex H H') (h : DsV K H v ds n) : DsV K H' v ds n := let ⟨b, h1, h2, h3⟩ := h; ⟨b, h1, ex_t e h2, h3⟩
def dvD : Option Nat → PyData
  | none => .none
  | some c => .int (c : Nat)
theorem dvD_lay : ∀ ds : List (Option Nat), PyData.canLayAll0 (ds.map dvD) = true
  | [] => by simp [PyData.canLayAll0]
  | none :: ds => by simpa [dvD, PyData.canLayAll0, PyData.canLay0] using dvD_lay ds
  | some c :: ds => by simpa [dvD, PyData.canLayAll0, PyData.canLay0] using dvD_lay ds
theorem dvD_depth : ∀ ds : List (Option Nat), PyData.depthAll (ds.map dvD) = 0
  | [] => by simp [PyData.depthAll]
  | none :: ds => by simpa [dvD, PyData.depthAll, PyData.depth] using dvD_depth ds
  | some c :: ds => by simpa [dvD, PyData.depthAll, PyData.depth] using dvD_depth ds
theorem dvD_shaped (ds : List (Option Nat)) : SeqAt.shaped (.tuple (ds.map dvD)) = true := by
  show (PyData.canLay0 (.tuple (ds.map dvD)) && decide (PyData.depth (.tuple (ds.map dvD)) ≤ 64)) = true
  rw [Bool.and_eq_true]
  exact ⟨by simp only [PyData.canLay0]; exact dvD_lay ds, decide_eq_true (by simp only [PyData.depth, dvD_depth]; omega)⟩
theorem dvD_dp {K : PySem.W.Frag} {H : Hp} : ∀ ds : List (Option Nat), DpAll K H (ds.map dvR) (ds.map dvD)
  | [] => .nil
  | none :: ds => .cons .non (dvD_dp ds)
  | some c :: ds => .cons (.int _) (dvD_dp ds)
theorem dvD_nil (ds : List (Option Nat)) : PyData.eqv (.tuple (ds.map dvD)) (.tuple []) = decide (ds = []) := by
  cases ds with
  | nil => simp [PyData.eqv, PyData.eqvAll]
  | cons z zs => simp [PyData.eqv, PyData.eqvAll]
theorem et_dsNil {K : PySem.W.Frag} {σ : L2.St} {H : Hp} {ta : TE} {b : Addr} {ds : List (Option Nat)} (ha : Ev ta σ H (.ref b)) (h : SqT K H b (ds.map dvR)) : EvT (tTest (tOp (rEqD K) ta (tTup tNil))) σ H (decide (ds = [])) := by
  rw [← dvD_nil]
  refine et_test (fun H1 e1 Q q => ?_)
  refine ha H1 e1 _ fun H2 e2 => ⟨Nat.zero_le _, fun p hp => ?_⟩
  have e3 := Ex.new (o := .tup []) hp
  exact ⟨_, .tuple [], .tup (ex_t ((e1.trans e2).trans e3) h) (dvD_dp ds), .tup (st_of upd_same) .nil, dvD_shaped ds, dvD_shaped [], q _ (e2.trans e3)⟩
theorem et_notN {σ : L2.St} {H : Hp} {ta : TE} {v : V} (ha : Ev ta σ H v) : EvT (tTest (tOp (fun x y H Q => y = V.non ∧ Q (V.bl (!decide (x = V.non))) H) ta (tC .non))) σ H (!decide (v = .non)) := et_test (ev_op ha ev_c fun H1 _ _ q => ⟨rfl, q H1 (Ex.refl H1)⟩)
def LoV (v : V) (o : Option Lv) (H : Hp) : Prop := match o with | none => v = .non | some l => ∃ b, v = .ref b ∧ LvH H b l
def spKeeps (K : PySem.W.Frag) : Sp := fun vs H Q _ => ∃ (m cl : Addr) (lv rv : V) (fs rs cs : List Nat), vs = [.ref m, .ref cl, lv, rv] ∧ LotP K H m cl fs rs cs ∧ MaL K H m fs ∧
  ((lv = .non ∧ ∀ H', Ex H H' → Q (.bl false) H') ∨ ∃ ld rg, DsV K H lv ld rs.length ∧ DsV K H rv rg rs.length ∧ ∀ (b : Bool) H', Ex H H' → (b = true ↔ rg ≠ [] ∧ ∀ n, (kpN fs rs cs ld rg n).isSome = true) → Q (.bl b) H')
section
variable {P : Program} {w : World} {K : PySem.W.Frag} {mg : Str → Option Value} {base : Heap}
abbrev s_keeps : Stmt := top 31
theorem sc_keeps : FnScope ["machine", "cells", "lead", "ring", "met", "lives"] ["machine", "cells", "lead", "ring"] (defScope s_keeps) := ⟨rfl, rfl, rfl, by decide +kernel, rfl, by decide +kernel, by decide +kernel⟩
theorem ok_keepsR {f f1 f2 f3 f4 : Addr} {fd fd1 fd2 fd3 fd4 : FuncData} (F : Fun K "keeps" "keeps" s_keeps f fd) (T : Txt K mg) (C_check_machine : Cal P w K mg base CX0 4 "check_machine" f1 fd1 ["value"] (spChkMa K)) (C_check_lot : Cal P w K mg base CX0 5 "check_lot" f2 fd2 ["machine", "value"] (spChkLot K)) (C_are_deeds : Cal P w K mg base CX0 3 "are_deeds" f3 fd3 ["machine", "value"] (spAreD K)) (C_lives_kept : Cal P w K mg base CX0 4 "lives_kept" f4 fd4 ["machine", "cells", "lives", "deeds"] (spKeptD K)) : FnOk P w K mg base CX0 6 f fd ["machine", "cells", "lead", "ring"] (spKeeps K) := by
  refine F.ok sc_keeps (fun vs H Q E h => ?_) (fun cdv A outer s H vs Q E hr h => ?_)
  · obtain ⟨_, _, _, _, _, _, _, rfl, _⟩ := h
    rfl
  · obtain ⟨m, cl, lv, rv, fs, rs, cs, rfl, LP, hml, kk⟩ := h
    refine ⟨_, (pss_cons (ps_expr (pe_call C_check_machine.G (hr.mono (by first | decide | omega)) rfl C_check_machine.g C_check_machine.kp C_check_machine.b .nil pass0 (pa_cons (pv 0) pa_nil)))
  (pss_cons (ps_expr (pe_call C_check_lot.G (hr.mono (by first | decide | omega)) rfl C_check_lot.g C_check_lot.kp C_check_lot.b .nil pass0 (pa_cons (pv 0) (pa_cons (pv 1) pa_nil))))
  (pss_cons (ps_if (PW.pt (pw_or (pt_not (pt_val (pe_call C_are_deeds.G (hr.mono (by first | decide | omega)) rfl C_are_deeds.g C_are_deeds.kp C_are_deeds.b .nil pass0 (pa_cons (pv 0) (pa_cons (pv 2) pa_nil))))) (pw_or (pt_not (pt_val (pe_call C_are_deeds.G (hr.mono (by first | decide | omega)) rfl C_are_deeds.g C_are_deeds.kp C_are_deeds.b .nil pass0 (pa_cons (pv 0) (pa_cons (pv 3) pa_nil))))) (pw_or1 (pt_cmpR (eqD_K (K := K) rfl hr.units) (pv 3) (pe_tup pa_nil) (nomark _)))))) (pss_one (ps_ret pe_bl)) pss_nil)
  (pss_cons (ps_set (i := 4) sc_keeps.nd rfl (Or.inl rfl) (nnew_K (P := P) (w := w) rfl rfl))
  (pss_cons (ps_set (i := 5) sc_keeps.nd rfl (Or.inl rfl) (pe_call C_lives_kept.G (hr.mono (by first | decide | omega)) rfl C_lives_kept.g C_lives_kept.kp C_lives_kept.b .nil pass0 (pa_cons (pv 0) (pa_cons (pv 1) (pa_cons (pe_ix (ix_K (K := K) rfl) (pv 0) pe_int (fun _ _ => rfl)) (pa_cons (pv 2) pa_nil))))))
  (pss_cons (ps_while PassesOwn.never (PW.pt (pw_and (pt_cmpR op_notN (pv 5) pe_non (nomark _)) (pw_and1 (pt_cmp (nnotin_K (P := P) (w := w) rfl rfl hr.units (pv 5) (pv 4)) rfl)))) (pss_cons (nput_K (P := P) (w := w) rfl rfl hr.units (pv 4) (pv 5) pe_bl rfl)
  (pss_one (ps_set (i := 5) sc_keeps.nd rfl (Or.inl rfl) (pe_call C_lives_kept.G (hr.mono (by first | decide | omega)) rfl C_lives_kept.g C_lives_kept.kp C_lives_kept.b .nil pass0 (pa_cons (pv 0) (pa_cons (pv 1) (pa_cons (pv 5) (pa_cons (pv 3) pa_nil)))))))))
  (pss_one (ps_ret (pe_cmpR op_notN (pv 5) pe_non (nomark _)))))))))), ?_⟩
    obtain ⟨hm, hmo, hcl, hne, hasc, hlt, hf⟩ := id LP
    obtain ⟨lok, hd5, hc4⟩ := lotOk_of hmo hasc hlt
    have hll := hmo.ll
    have hl4 := hmo.l4
    refine q_call (ea_cons (ev_var rfl) ea_nil) fun H1 e1 => ⟨m, fs, rs, rfl, hm.up e1, hmo, fun H2 e2 => ?_⟩
    have e02 := e1.trans e2
    refine q_call (ea_cons (ev_var rfl) (ea_cons (ev_var rfl) ea_nil)) fun H3 e3 => ⟨m, cl, fs, rs, cs, rfl, hm.up (e02.trans e3), hmo, ex_t (e02.trans e3) hcl, hne, hasc, hlt, fun H4 e4 => ?_⟩
    have e04 := e02.trans (e3.trans e4)
    have LM := hml
    have ark : ∀ {Hx : Hp} {v : V} {ds : List (Option Nat)} {Q : VK}, Ex H Hx → DsV K H v ds rs.length → (∀ H', Ex Hx H' → Q (.bl true) H') → spAreD K [.ref m, v] Hx Q E0 := fun {Hx v ds Q} e hv q => by
      obtain ⟨b, rfl, h1, h2, h3⟩ := hv
      exact ⟨m, fs, rs, _, rfl, hm.up e, hmo, .inr ⟨b, ds, rfl, ex_t e h1, h2, fun c hc => by rw [hll]; exact h3 c hc, q⟩⟩
    rcases kk with ⟨rfl, k⟩ | ⟨ld, rg, hlv, hrv, k⟩
    · refine q_when (b := true) (et_is (et_or (b := false) (et_not (a := false) (et_B (ev_callV (ea_cons (ev_var rfl) (ea_cons (ev_var rfl) ea_nil)) fun H5 e5 Q q => ⟨m, fs, rs, _, rfl, hm.up (e04.trans e5), hmo, .inl ⟨rfl, q⟩⟩))) fun z => nomatch z) rfl) (fun _ H5 e5 => ?_) (fun z => nomatch z)
      exact s_ret ev_c fun H6 e6 => k H6 (e04.trans (e5.trans e6))
    obtain ⟨rb, hrb, hrs, hrl, hrc⟩ := id hrv
    obtain ⟨lb, hlb, hls, hll2, hlc⟩ := id hlv
    refine q_when (b := decide (rg = [])) (et_is (et_or (et_not (a := true) (et_B (ev_callV (ea_cons (ev_var rfl) (ea_cons (ev_var rfl) ea_nil)) fun H5 e5 Q q => ark (e04.trans e5) hlv q))) fun _ => et_or (et_not (a := true) (et_B (ev_callV (ea_cons (ev_var rfl) (ea_cons (ev_var rfl) ea_nil)) fun H5 e5 Q q => ark (e04.trans e5) hrv q))) fun _ => et_dsNil (ev_is (ev_var rfl) hrb) (ex_t e04 hrs)) (by cases decide (rg = []) <;> rfl)) (fun hb H5 e5 => ?_) fun hb H5 e5 => ?_
    · exact s_ret ev_c fun H6 e6 => k false H6 (e04.trans (e5.trans e6)) ⟨fun z => (nomatch z), fun z => absurd (of_decide_eq_true hb) z.1⟩
    have hrn := of_decide_eq_false hb
    have e05 := e04.trans e5
    refine q_asgU9 fun md hmd => ?_
    have e6 := Ex.new (o := NDO P w md []) hmd
    have d6 : DW P w BlR (upd H5 md (NDO P w md [])) md [] := ⟨[], ⟨[], upd_same, Nat.zero_le _, .nil⟩, .nil⟩
    generalize upd H5 md (NDO P w md []) = H6 at e6 d6 ⊢
    try dsimp only [List.set]
    have hmd0 : H md = none := fresh_back e05 hmd
    have e06 := e05.trans e6
    obtain ⟨fa, ra, hm0, hfa⟩ := id hml
    have hfs : ∀ y ∈ fs, y ≤ 8 := fun y hy => (hf y hy).2
    have kept : ∀ {Hx : Hp} {b db : Addr} {l : Lv} {ds : List (Option Nat)} {Q : VK}, Ex H Hx → LvH Hx b l → l.length = rs.length → SqT K H db (ds.map dvR) → (∀ c, some c ∈ ds → c < rs.length) → ds.length ≤ 400 → (∀ v H', Ex Hx H' → LoV v (keptD fs rs cs ds l) H' → Q v H') → spKeptD K [.ref m, .ref cl, .ref b, .ref db] Hx Q E0 := fun {Hx b db l ds Q} e hb hl hs hc hd q => by
      refine ⟨m, cl, b, db, fs, rs, cs, l, ds, rfl, hm.up e, ex_t e hcl, st_of hb, ex_t e hs, hll, by omega, hl, by omega, hlt, hc, by omega, fun hn H' e' => q _ H' e' (by rw [hn]; rfl), fun l' hl' b' H' e' _ hw => q _ H' e' (by rw [hl']; exact ⟨b', rfl, hw hb⟩)⟩
    refine q_callA (vs := [.ref m, .ref cl, .ref fa, lv]) (ea_cons (ev_var rfl) (ea_cons (ev_var rfl) (ea_cons (ev_ixT (ev_var rfl) ev_c (ex_t e06 hm0) rfl) (ea_cons (ev_var rfl) ea_nil)))) fun H7 e7 => ?_
    subst hlb hrb
    refine kept (e06.trans e7) (hfa.up (e06.trans e7)) hll hls hlc hll2 fun v H8 e8 hv => ?_
    try dsimp only [List.set]
    have e08 := (e06.trans e7).trans e8
    have hb1 : ∀ {l : Lv} {i : Nat}, kpN fs rs cs ld rg i = some l → LvOk rs.length 8 l := fun {l i} h => kpN_ok hfs hll i h
    refine q_while (fun mm σ' H' => ∃ (i : Nat) (ks : List Lv) (v : V), σ' = [some (.ref m), some (.ref cl), some (.ref lb), some (.ref rb), some (.ref md), some v] ∧ Ex H H' ∧ DW P w BlR H' md (ks.map fun s => (s, true)) ∧ ks.length = i ∧ (∀ j s, ks[j]? = some s → kpN fs rs cs ld rg j = some s) ∧ ks.Nodup ∧ LoV v (kpN fs rs cs ld rg i) H' ∧ mm = 6562 - i) _ ⟨0, [], v, rfl, e08, d6.up blR_d (e7.trans e8), rfl, fun _ _ z => (nomatch z), List.nodup_nil, hv, rfl⟩ ?_
    rintro mm σ' H9 ⟨i, ks, v, rfl, e9, d9, hki, hks, hkn, hv9, rfl⟩
    have hkm : ks.length ≤ 6561 := Nat.le_trans (lv_many hkn fun s hs => by
      obtain ⟨j, hj⟩ := List.getElem?_of_mem hs
      exact hb1 (hks j s hj)) (pow_le9 (by omega))
    cases ho : kpN fs rs cs ld rg i with
    | none =>
      rw [ho] at hv9
      have hv9 : v = .non := hv9
      subst hv9
      refine ⟨false, et_and (a := false) (b := false) (et_notN (v := .non) (ev_var rfl)) (fun z => nomatch z), (fun z => nomatch z), fun _ H10 e10 => ?_⟩
      refine s_ret (v := .bl false) (fun H11 e11 Q q => (ev_var rfl : Ev (tVar 5) _ H11 (.non)) H11 (Ex.refl _) _ fun H12 e12 => ?_) fun H11 e11 => k false H11 (e9.trans (e10.trans e11)) ⟨fun z => (nomatch z), fun z => by have := z.2 i; rw [ho] at this; cases this⟩
      refine ev_c H12 (Ex.refl _) _ fun H13 e13 => ⟨rfl, q H13 (e12.trans e13)⟩
    | some l =>
      rw [ho] at hv9
      obtain ⟨b, rfl, hb⟩ := hv9
      refine ⟨!(lkp (ks.map fun s => (s, true)) l).isSome, et_is (et_and (a := true) (et_notN (v := .ref b) (ev_var rfl)) fun _ => et_B (ev_dni (ev_var rfl) (ev_var rfl) blR_d d9.r hb)) rfl, fun hc H10 e10 => ?_, fun hc H10 e10 => ?_⟩
      · have hno : l ∉ ks := fun z => by
          have h1 : (lkp (ks.map fun s => (s, true)) l).isSome = true := by rw [lkp_fun z]; rfl
          rw [h1] at hc; cases hc
        have hnk : l ∉ (ks.map fun s => (s, true)).map Prod.fst := by
          rw [List.map_map, show (Prod.fst ∘ fun s => (s, true) : Lv → Lv) = id from rfl, List.map_id]; exact hno
        refine ⟨_, fun σ2 H2 h => h, ?_⟩
        refine q_nputR ?_
        refine ev_c H10 (Ex.refl _) _ fun H11 e11 => (ev_var rfl) H11 (Ex.refl _) _ fun H12 e12 => (ev_var rfl) H12 (Ex.refl _) _ fun H13 e13 => ?_
        have e913 := e10.trans (e11.trans (e12.trans e13))
        refine dw_put (d9.up blR_d e913) (hb.up e913) (a := true) rfl (fun _ _ _ _ h => h) (by rw [List.length_map]; omega) fun ys kl d14 => ?_
        rw [putL_new hnk] at d14
        have e14 : Ex H (upd H13 md (NDO P w md ys)) := Ex.mut (e9.trans e913) hmd0
        have hb14 := (hb.up e913).kl kl
        generalize upd H13 md (NDO P w md ys) = H14 at e14 hb14 d14 ⊢
        refine s_asgU9 (m_callR ?_)
        refine (ea_cons (ev_var rfl) (ea_cons (ev_var rfl) (ea_cons (ev_var rfl) (ea_cons (ev_var rfl) ea_nil))) : EvA _ _ H14 [.ref m, .ref cl, .ref b, .ref rb]) H14 (Ex.refl _) _ fun H15 e15 => ?_
        refine kept (e14.trans e15) (hb14.up e15) (hb1 ho).1 hrs hrc hrl fun v2 H16 e16 hv16 => ?_
        refine ⟨6562 - (i + 1), by omega, i + 1, ks ++ [l], v2, rfl, (e14.trans e15).trans e16, ?_, by rw [List.length_append, hki]; rfl, fun j s hj => ?_, List.nodup_append.mpr ⟨hkn, List.pairwise_singleton _ _, fun x hx y hy q => hno (by rw [← List.mem_singleton.mp hy, ← q]; exact hx)⟩, ?_, rfl⟩
        · rw [List.map_append]
          exact d14.up blR_d (e15.trans e16)
        · by_cases hjl : j < ks.length
          · rw [List.getElem?_append_left hjl] at hj; exact hks j s hj
          · have hji : j = i := by
              have := (List.getElem?_eq_some_iff.mp hj).1
              rw [List.length_append] at this
              simp at this
              omega
            subst hji
            rw [List.getElem?_append_right (by omega), hki, Nat.sub_self] at hj
            cases hj
            exact ho
        · show LoV v2 ((kpN fs rs cs ld rg i).bind (keptD fs rs cs rg)) H16
          rw [ho]; exact hv16
      · have hin : l ∈ ks := by
          have h1 : (lkp (ks.map fun s => (s, true)) l).isSome = true := by
            cases q : (lkp (ks.map fun s => (s, true)) l).isSome with
            | true => rfl
            | false => rw [q] at hc; cases hc
          rw [lkp_some] at h1
          have := of_decide_eq_true h1
          rwa [List.map_map, show (Prod.fst ∘ fun s => (s, true) : Lv → Lv) = id from rfl, List.map_id] at this
        obtain ⟨j, hj⟩ := List.getElem?_of_mem hin
        have hji : j < i := by have := (List.getElem?_eq_some_iff.mp hj).1; omega
        refine s_ret (v := .bl true) (fun H11 e11 Q q => (ev_var rfl : Ev (tVar 5) _ H11 (.ref b)) H11 (Ex.refl _) _ fun H12 e12 => ?_) fun H11 e11 => k true H11 (e9.trans (e10.trans e11)) ⟨fun _ => ⟨hrn, kpN_back hji ((hks j l hj).trans ho.symm) (by rw [ho]; rfl)⟩, fun _ => rfl⟩
        refine ev_c H12 (Ex.refl _) _ fun H13 e13 => ⟨rfl, q H13 (e12.trans e13)⟩
end
end Fm
set_option maxHeartbeats 1000000
namespace Fm
open PySem L2 Evl RZ
inductive WkL (L : LkF) : Lv → List (Option Nat) → Lv → Prop where
  | nil {s : Lv} : WkL L s [] s
  | cons {s t e : Lv} {d : Option Nat} {rd : List (Option Nat)} : (d, t) ∈ L s → WkL L t rd e → WkL L s (d :: rd) e
theorem WkL.snoc {L : LkF} {s t e : Lv} {rd : List (Option Nat)} {d : Option Nat} (a : WkL L s rd t) (h : (d, e) ∈ L t) : WkL L s (rd ++ [d]) e := by
  induction a with
  | nil => exact .cons h .nil
  | cons h1 _ ih => exact .cons h1 (ih h)
theorem first_at {m : Int} : ∀ {ns : List Int}, m ∈ ns → ∃ j, ns[j]? = some m ∧ ∀ (i : Nat) z, i < j → ns[i]? = some z → z ≠ m
  | [], h => nomatch h
  | x :: ns, h => by
    by_cases e : x = m
    · exact ⟨0, by rw [e]; rfl, fun i z hi => absurd hi (Nat.not_lt_zero _)⟩
    · obtain ⟨j, h1, h2⟩ := first_at ((List.mem_cons.mp h).resolve_left fun z => e z.symm)
      refine ⟨j + 1, h1, fun i z hi hz => ?_⟩
      cases i with
      | zero => cases hz; exact e
      | succ i => exact h2 i z (by omega) hz
theorem ev_idxMax {K : PySem.W.Frag} {σ : L2.St} {H : Hp} {ta : TE} {a : Addr} {ns : List Int} (ha : Ev ta σ H (.ref a)) (h : H a = some (.lst (ns.map V.int))) (hn : ns ≠ []) : ∃ (j : Nat) (m : Int), ns[j]? = some m ∧ (∀ y ∈ ns, y ≤ m) ∧ Ev (tBM K "list" (rIndex K) ta (tCons (tCB (rMax K) (tCons ta tNil)) tNil)) σ H (.int (j : Nat)) := by
  obtain ⟨g1, g2⟩ := maxI_ne (d := 0) hn
  obtain ⟨j, g3, g4⟩ := first_at g1
  refine ⟨j, _, g3, g2, fun H1 e1 Q q => ha H1 e1 _ fun H2 e2 => ⟨.inl ⟨rfl, _, sq_of ((e1.trans e2) _ _ h)⟩, ?_⟩⟩
  refine ha H2 (e1.trans e2) _ fun H3 e3 => ⟨a, ns, rfl, sq_of ((e1.trans (e2.trans e3)) _ _ h), List.length_pos_iff.mpr hn, fun m hm hmax => ?_⟩
  have hm2 : m = maxI 0 ns := Int.le_antisymm (g2 m hm) (hmax _ g1)
  rw [hm2]
  refine ⟨a, _, _, j, .int (maxI 0 ns), rfl, rfl, sq_of ((e1.trans (e2.trans e3)) _ _ h), rfl, ?_, by rw [List.getElem?_map, g3]; rfl, ?_, fun i z hi hz => ?_, q H3 (e2.trans e3)⟩
  · rw [List.all_map]; exact List.all_eq_true.mpr fun _ _ => rfl
  · show ((maxI 0 ns : Int) == maxI 0 ns) = true
    exact beq_self_eq_true _
  · rw [List.getElem?_map] at hz
    obtain ⟨y, hy, rfl⟩ := Option.map_eq_some_iff.mp hz
    show ((y : Int) == maxI 0 ns) = false
    exact beq_eq_false_iff_ne.mpr (g4 i y hi hy)
def spLongest (K : PySem.W.Frag) : Sp := fun vs H Q _ => ∃ (m cl : Addr) (fs rs cs : List Nat), vs = [.ref m, .ref cl] ∧ LotP K H m cl fs rs cs ∧
  (∀ sp lens H', Ex H H' → RdsOk fs rs cs sp lens → lkp lens (onlyL cs fs) = none → Q .non H') ∧
  (∀ sp lens t ra rd e n H', Ex H H' → RdsOk fs rs cs sp lens → lkp lens (onlyL cs fs) = some n → WkL (lnkD fs rs cs (allD rs cs)) (onlyL cs fs) rd e → rd.length = n → H' t = some (.tup [.int (n : Nat), .ref ra]) → H' ra = some (.tup (rd.map dvR)) → Q (.ref t) H')
section
variable {P : Program} {w : World} {K : PySem.W.Frag} {mg : Str → Option Value} {base : Heap} {C : Addr}
abbrev s_longest : Stmt := top 32
theorem sc_longest : FnScope ["machine", "cells", "rounds", "row", "lives", "pairs", "deed", "lengths", "behind"] ["machine", "cells"] (defScope s_longest) := ⟨rfl, rfl, rfl, by decide +kernel, rfl, by decide +kernel, by decide +kernel⟩
theorem ok_longest {f f1 : Addr} {fd fd1 : FuncData} (F : Fun K "longest" "longest" s_longest f fd) (T : Txt K mg) (T_Rounds : RouT K C) (C_rounds_of : Cal P w K mg base CX0 6 "rounds_of" f1 fd1 ["machine", "cells"] (spRds P w K C)) : FnOk P w K mg base CX0 7 f fd ["machine", "cells"] (spLongest K) := by
  refine F.ok sc_longest (fun vs H Q E h => ?_) (fun cdv A outer s H vs Q E hr h => ?_)
  · obtain ⟨_, _, _, _, _, rfl, _⟩ := h
    rfl
  · obtain ⟨m, cl, fs, rs, cs, rfl, LP, k1, k2⟩ := h
    refine ⟨_, (pss_cons (ps_set (i := 2) sc_longest.nd rfl (Or.inr rfl) (pe_call C_rounds_of.G (hr.mono (by first | decide | omega)) rfl C_rounds_of.g C_rounds_of.kp C_rounds_of.b .nil pass0 (pa_cons (pv 0) (pa_cons (pv 1) pa_nil))))
  (pss_cons (ps_if (pt_cmp (nnotin_K (P := P) (w := w) rfl rfl hr.units (fld_KR (K := K) rfl (pv 2) rfl) (fld_KR (K := K) rfl (pv 2) rfl)) rfl) (pss_one (ps_ret pe_non)) pss_nil)
  (pss_cons (ps_set (i := 3) sc_longest.nd rfl (Or.inl rfl) (pe_lst pa_nil))
  (pss_cons (ps_set (i := 4) sc_longest.nd rfl (Or.inl rfl) (fld_KR (K := K) rfl (pv 2) rfl))
  (pss_cons (ps_while PassesOwn.never (pt_truthK (K := K) rfl (nget_K (P := P) (w := w) rfl rfl hr.units (fld_KR (K := K) rfl (pv 2) rfl) (pv 4) (fun _ _ => rfl)) (by intro _; rfl)) (pss_cons (ps_set (i := 5) sc_longest.nd rfl (Or.inl rfl) (nget_K (P := P) (w := w) rfl rfl hr.units (fld_KR (K := K) rfl (pv 2) rfl) (pv 4) (fun _ _ => rfl)))
  (pss_cons (ps_setLc (i := 7) (own := [("deed", 6), ("behind", 8)]) (g := gTup K 2 (gCons (gName 6) (gCons (gName 8) gNil))) rfl sc_longest.nd rfl rfl (sw_true rfl rfl rfl (by decide +kernel)) (pi_listK (K := K) rfl (pv 5)) (blkOk_by (by kernel_rfl)) (fun _ _ _ _ _ => pg_tupK (K := K) rfl rfl (pgs_cons (pg_name (i := 6) sc_longest.nd rfl (by first | exact Or.inl rfl | exact Or.inr rfl)) (pgs_cons (pg_name (i := 8) sc_longest.nd rfl (by first | exact Or.inl rfl | exact Or.inr rfl)) pgs_nil))) (fun _ _ _ _ _ => pts_nil) (fun _ _ _ _ _ => (nget_K (P := P) (w := w) rfl rfl hr.units (fld_KR (K := K) rfl (pv 2) rfl) (pv 8) (fun _ _ => rfl))))
  (pss_cons (ps_asg (pe_ix (ix_K (K := K) rfl) (pv 5) (pe_bm PySem.F.plainAttrs_list PySem.F.slot_list_index PySem.F.type_list_index mt_index (pv 7) (pa_cons (pe_callB (max_K (K := K) rfl rfl) (by rfl) T.z_max (by decide +kernel) (pa_cons (pv 7) pa_nil)) pa_nil)) (fun _ _ => rfl)) (pg_tup rfl (pgs_cons (pg_name (i := 6) sc_longest.nd rfl (by first | exact Or.inl rfl | exact Or.inr rfl)) (pgs_cons (pg_name (i := 4) sc_longest.nd rfl (by first | exact Or.inl rfl | exact Or.inr rfl)) pgs_nil))))
  (pss_one (ps_expr (pe_bm PySem.F.plainAttrs_list PySem.F.slot_list_append PySem.F.type_list_append mt_append (pv 3) (pa_cons (pv 6) pa_nil))))))))
  (pss_one (ps_ret (pe_tup (pa_cons (pe_callB (len_K (K := K) rfl) (by rfl) T.z_len (by decide +kernel) (pa_cons (pv 3) pa_nil)) (pa_cons (pe_callTy (tpl_K (K := K) rfl) (by rfl) T.z_tuple (by decide +kernel) (pa_cons (pv 3) pa_nil)) pa_nil)))))))))), ?_⟩
    obtain ⟨hm, hmo, hcl, hne, hasc, hlt, hf⟩ := id LP
    obtain ⟨lok, hd5, hc4⟩ := lotOk_of hmo hasc hlt
    have hll := hmo.ll
    have hl4 := hmo.l4
    have hB : ∀ s, (lnkD fs rs cs (allD rs cs) s).length ≤ 5 := fun s => Nat.le_trans (lnkD_len _ _ _ _ _) hd5
    refine q_callA (ea_cons (ev_var rfl) (ea_cons (ev_var rfl) ea_nil)) fun H1 e1 => ?_
    refine ⟨m, cl, fs, rs, cs, rfl, LP.up e1, fun x sp lens H2 e2 RF ok => ?_⟩
    have e02 := e1.trans e2
    try dsimp only [List.set]
    have hmany : sp.length ≤ 6561 := Nat.le_trans (lv_many ok.nd ok.lv) (pow_le9 (by omega))
    obtain ⟨dx, ma, ca, da, sa, dl, dn, RX, hsa, hdl, hdn, hln⟩ := RF
    refine q_when (b := !(lkp lens (onlyL cs fs)).isSome) (et_B (ev_dni (ev_fldR (ev_var rfl) RX.obj T_Rounds.cl T_Rounds.n_start rof_start) (ev_fldR (ev_var rfl) RX.obj T_Rounds.cl T_Rounds.n_lengths rof_lengths) naR_d hdn.r hsa)) (fun hb H3 e3 => ?_) fun hb H3 e3 => ?_
    · refine s_ret ev_c fun H4 e4 => k1 sp lens H4 (e02.trans (e3.trans e4)) ok ?_
      cases q : lkp lens (onlyL cs fs) with
      | none => rfl
      | some _ => rw [q] at hb; cases hb
    obtain ⟨n, hn⟩ : ∃ n, lkp lens (onlyL cs fs) = some n := by
      cases q : lkp lens (onlyL cs fs) with
      | none => rw [q] at hb; cases hb
      | some n => exact ⟨n, rfl⟩
    refine q_asgL (xs := []) (el_lst ea_nil (Nat.zero_le _)) fun u H4 hu e4 hu4 => ?_
    have e24 := e3.trans e4
    refine q_asg (ev_fldR (ev_var rfl) (e24 _ _ RX.obj) T_Rounds.cl T_Rounds.n_start rof_start) fun H5 e5 => ?_
    try dsimp only [List.set]
    have hu2 : H2 u = none := fresh_back e3 hu
    have I := ok.len.i
    have hlen : ∀ s k, lkp lens s = some k → k ≤ lens.length := fun s k hk => by
      have key : ∀ (k : Nat) s, lkp lens s = some k → ∃ ks : List Lv, ks.length = k + 1 ∧ (∀ t ∈ ks, ∃ j, lkp lens t = some j ∧ j ≤ k) ∧ ks.Nodup := by
        intro k
        induction k with
        | zero => exact fun s h => ⟨[s], rfl, fun t ht => ⟨0, by rw [List.mem_singleton.mp ht]; exact h, Nat.le_refl _⟩, List.pairwise_singleton _ _⟩
        | succ k ih =>
          intro s h
          obtain ⟨h1, h2⟩ := I.at_ s _ h
          have hne : (lnkD fs rs cs (allD rs cs) s).map (fun p => (((lkp lens p.2).getD 0 : Nat) : Int) + 1) ≠ [] := fun z => by
            unfold lnAt at h2
            rw [z] at h2
            have h2 : ((k + 1 : Nat) : Int) = 0 := h2
            omega
          have g := (maxI_ne (d := 0) hne).1
          have h2' : (((k + 1 : Nat) : Nat) : Int) = maxI 0 ((lnkD fs rs cs (allD rs cs) s).map (fun p => (((lkp lens p.2).getD 0 : Nat) : Int) + 1)) := h2
          rw [← h2'] at g
          obtain ⟨p, hp, hpe⟩ := List.mem_map.mp g
          obtain ⟨j, hj⟩ := Option.isSome_iff_exists.mp (h1 p hp)
          rw [hj] at hpe
          have hjk : j = k := by
            have : (((some j : Option Nat).getD 0 : Nat) : Int) = (j : Int) := rfl
            omega
          subst hjk
          obtain ⟨ks, a1, a2, a3⟩ := ih p.2 hj
          refine ⟨s :: ks, by rw [List.length_cons, a1], fun t ht => ?_, List.nodup_cons.mpr ⟨fun z => ?_, a3⟩⟩
          · rcases List.mem_cons.mp ht with rfl | ht
            · exact ⟨_, h, Nat.le_refl _⟩
            · obtain ⟨i, b1, b2⟩ := a2 t ht
              exact ⟨i, b1, by omega⟩
          · obtain ⟨i, b1, b2⟩ := a2 s z
            rw [h] at b1
            cases b1
            omega
      obtain ⟨ks, a1, a2, a3⟩ := key k s hk
      have := nodup_within (ys := lens.map Prod.fst) a3 fun t ht => by
        obtain ⟨j, b1, _⟩ := a2 t ht
        have h1 : (lkp lens t).isSome = true := by rw [b1]; rfl
        rw [lkp_some] at h1
        exact of_decide_eq_true h1
      rw [List.length_map] at this
      omega
    have hlm : lens.length ≤ sp.length := by
      have := nodup_within I.nd I.sb
      rwa [List.length_map] at this
    refine q_while (fun mm σ' H' => ∃ (s : Lv) (b : Addr) (rd : List (Option Nat)) (k : Nat) (z5 z6 z7 z8 : Option V), σ' = [some (.ref m), some (.ref cl), some (.ref x), some (.ref u), some (.ref b), z5, z6, z7, z8] ∧ Ex H2 H' ∧ H' u = some (.lst (rd.map dvR)) ∧ LvH H' b s ∧ s ∈ sp ∧ lkp lens s = some k ∧ WkL (lnkD fs rs cs (allD rs cs)) (onlyL cs fs) rd s ∧ rd.length + k = n ∧ mm = k) _ ⟨onlyL cs fs, sa, [], n, _, _, _, _, rfl, e24.trans e5, e5 _ _ hu4, hsa.up (e24.trans e5), ok.st, hn, .nil, by simp, rfl⟩ ?_
    rintro k σ' H6 ⟨s, b, rd, k0, z5, z6, z7, z8, rfl, e6, hu6, hb6, hsp, hk, hwk, hrd, rfl⟩
    obtain ⟨h1, h2⟩ := I.at_ s k hk
    obtain ⟨v1, hv1, la, us, rfl, hus, hpu⟩ := ev_dget (P := P) (w := w) (σ := [some (.ref m), some (.ref cl), some (.ref x), some (.ref u), some (.ref b), z5, z6, z7, z8]) (td := tFld K (tVar 2) "links") (ty := tVar 4) lkR_d (ev_fldR (ev_var rfl) (e6 _ _ RX.obj) T_Rounds.cl T_Rounds.n_links rof_links) (ev_var rfl) (hdl.up lkR_d e6).r hb6 (lkp_fun hsp)
    have hul := Paired.length hpu
    have hbl := hB s
    have hkl := hlen s k hk
    have hnl := hlen _ _ hn
    refine ⟨!us.isEmpty, et_truL hv1 (sq_of hus), fun hbb H7 e7 => ?_, fun hbb H7 e7 => ?_⟩
    · have hLn : lnkD fs rs cs (allD rs cs) s ≠ [] := fun z => by
        rw [z] at hul
        rw [List.eq_nil_of_length_eq_zero hul] at hbb; cases hbb
      refine ⟨_, fun σ2 H2 h => h, ?_⟩
      refine q_asg (v := .ref la) (show Ev _ _ H7 _ from fun H' e' => hv1 H' (e7.trans e')) fun H8 e8 => ?_
      try dsimp only [List.set]
      have e68 := e7.trans e8
      refine q_asgU9 ?_
      refine m_lcLR (a := la) (xs := us) (ev_var rfl) (sq_of (e68 _ _ hus)) (fun D i H' => H8 D = none ∧ Ex H8 H' ∧ H' D = some (.lst (((lnkD fs rs cs (allD rs cs) s).take i).map fun p => V.int (((lkp lens p.2).getD 0 : Nat) : Int)))) (fun D H1 e hD => ⟨fresh_back e hD, e.trans (Ex.new hD), upd_same⟩) (fun D i H' _ h => ex_l h.2.1 (sq_of (e68 _ _ hus))) (fun D i v H' hv h => ?_) (fun D H9 h => ?_)
      · obtain ⟨hD, e9, hws⟩ := h
        have e69 := e68.trans e9
        obtain ⟨p, hp, b2, v2, rfl, hb2, bt, hbe, hbt⟩ := paired_at hpu hv
        have hbe : v2 = .ref bt ∧ LvH H6 bt p.2 := ⟨hbe, hbt⟩
        obtain ⟨rfl, hbt⟩ := hbe
        have hpm := List.mem_of_getElem? hp
        have htk : (lnkD fs rs cs (allD rs cs) s).take (i + 1) = (lnkD fs rs cs (allD rs cs) s).take i ++ [p] := by rw [List.take_add_one, hp]; rfl
        refine ⟨b2, _, rfl, st_of (e69 _ _ hb2), rfl, _, _, rfl, _, _, rfl, ⟨rfl, rfl, ?_⟩⟩
        dsimp only [tYes]
        rw [if_pos rfl]
        obtain ⟨j, hj⟩ := Option.isSome_iff_exists.mp (h1 p hpm)
        obtain ⟨v3, hv3, rfl⟩ := ev_dget (P := P) (w := w) (σ := [some (.ref m), some (.ref cl), some (.ref x), some (.ref u), some (.ref b), some (.ref la), some (dvR p.1), z7, some (.ref bt)]) (td := tFld K (tVar 2) "lengths") (ty := tVar 8) naR_d (ev_fldR (ev_var rfl) ((e6.trans e69) _ _ RX.obj) T_Rounds.cl T_Rounds.n_lengths rof_lengths) (ev_var rfl) (hdn.up naR_d (e6.trans e69)).r (hbt.up e69) hj
        refine hv3 H' (Ex.refl _) _ fun H10 e10 => ?_
        refine ⟨_, e10 _ _ hws, by rw [List.length_map, List.length_take, sizeLine_eq]; omega, hD, Ex.mut (e9.trans e10) hD, ?_⟩
        rw [upd_same, htk, List.map_append, List.map_singleton, hj]; rfl
      obtain ⟨hD, e9, hws⟩ := h
      rw [hul, List.take_length] at hws
      try dsimp only [List.set]
      have e69 := e68.trans e9
      have hws : H9 D = some (.lst (((lnkD fs rs cs (allD rs cs) s).map fun p => (((lkp lens p.2).getD 0 : Nat) : Int)).map V.int)) := by rw [List.map_map]; exact hws
      obtain ⟨j, mx, g1, g2, g3⟩ := ev_idxMax (K := K) (ta := tVar 7) (σ := [some (.ref m), some (.ref cl), some (.ref x), some (.ref u), some (.ref b), some (.ref la), z6, some (.ref D), z8]) (ev_var rfl) hws (fun z => hLn (List.map_eq_nil_iff.mp z))
      rw [List.getElem?_map] at g1
      obtain ⟨p, hp, hpe⟩ := Option.map_eq_some_iff.mp g1
      have hpm := List.mem_of_getElem? hp
      obtain ⟨k', hk'⟩ := Option.isSome_iff_exists.mp (h1 p hpm)
      obtain ⟨u2, hu2', b2, v2, rfl, hb2, bt, hbe, hbt⟩ := paired_get hpu hp
      have hbe : v2 = .ref bt ∧ LvH H6 bt p.2 := ⟨hbe, hbt⟩
      obtain ⟨rfl, hbt⟩ := hbe
      have hkk : k = k' + 1 := by
        have hne : (lnkD fs rs cs (allD rs cs) s).map (fun p => (((lkp lens p.2).getD 0 : Nat) : Int) + 1) ≠ [] := fun z => hLn (List.map_eq_nil_iff.mp z)
        obtain ⟨m1, m2⟩ := maxI_ne (d := 0) hne
        have h2' : ((k : Nat) : Int) = maxI 0 ((lnkD fs rs cs (allD rs cs) s).map (fun p => (((lkp lens p.2).getD 0 : Nat) : Int) + 1)) := h2
        rw [← h2'] at m1 m2
        have a1 := m2 _ (List.mem_map.mpr ⟨p, hpm, rfl⟩)
        obtain ⟨p2, hp2, hpe2⟩ := List.mem_map.mp m1
        have a2 := g2 _ (List.mem_map.mpr ⟨p2, hp2, rfl⟩)
        rw [hk'] at hpe a1
        have a3 : (((some k' : Option Nat).getD 0 : Nat) : Int) = (k' : Int) := rfl
        rw [a3] at hpe a1
        omega
      refine q_asgGR ?_
      have hix : Ev (tOp (rIx K) (tVar 5) (tBM K "list" (rIndex K) (tVar 7) (tCons (tCB (rMax K) (tCons (tVar 7) tNil)) tNil))) [some (.ref m), some (.ref cl), some (.ref x), some (.ref u), some (.ref b), some (.ref la), z6, some (.ref D), z8] H9 (.ref b2) := ev_ixL (ev_var rfl) g3 (sq_of (e69 _ _ hus)) (atI_nat' hu2')
      refine hix H9 (Ex.refl _) _ fun H10 e10 => ?_
      have e610 := e69.trans e10
      refine ⟨b2, _, rfl, st_of (e610 _ _ hb2), rfl, _, _, rfl, _, _, rfl, rfl, ?_⟩
      try dsimp only [List.set]
      have hu10 := e610 _ _ hu6
      refine s_app hu10 (ev_var rfl) (ev_var rfl) (by rw [List.length_map]; omega) fun H11 e11 => ?_
      have hu11 := e11 _ _ hu10
      refine ⟨k', by omega, p.2, bt, rd ++ [p.1], k', _, _, _, _, rfl, Ex.mut (e6.trans (e610.trans e11)) hu2, by rw [upd_same, List.map_append]; rfl, (hbt.up (e610.trans e11)).ts (ts_lst hu11), ok.cl s hsp p hpm, hk', hwk.snoc hpm, by rw [List.length_append]; show rd.length + 1 + k' = n; omega, rfl⟩
    · have hLn : lnkD fs rs cs (allD rs cs) s = [] := by
        cases us with
        | nil => exact List.eq_nil_of_length_eq_zero hul.symm
        | cons _ _ => cases hbb
      have hk0 : k = 0 := by
        unfold lnAt at h2
        rw [hLn] at h2
        have h2 : ((k : Nat) : Int) = 0 := h2
        omega
      refine s_retQR (m_tupR9 (m_consR9 ?_))
      refine (ev_lnL (ev_var rfl) (sq_of (e7 _ _ hu6))) H7 (Ex.refl _) _ fun H8 e8 => ?_
      refine m_consCB ?_
      refine (ev_var rfl) H8 (Ex.refl _) _ fun H9 e9 => ?_
      have e69 := e7.trans (e8.trans e9)
      refine ⟨u, _, rfl, .inl ⟨sq_of (e69 _ _ hu6), fun ra hra => m_nilR ⟨by show 2 ≤ sizeLine; rw [sizeLine_eq]; decide, fun t ht => ?_⟩⟩⟩
      have e10 := Ex.new (o := .tup (rd.map dvR)) hra
      have e11 := Ex.new (o := .tup [.int ((rd.map dvR).length : Nat), .ref ra]) ht
      refine k2 sp lens t ra rd s n _ (e02.trans (e6.trans (e69.trans (e10.trans e11)))) ok hn hwk (by omega) ?_ (e11 _ _ upd_same)
      rw [upd_same, List.length_map, show rd.length = n by omega]
end
end Fm
set_option maxHeartbeats 1000000
namespace Fm
open PySem L2 Evl RZ
theorem enumT_K {X : Cx} {K : PySem.W.Frag} {e : Expr} {ta : TA} {p pos tpos : Pos} {elts : List Expr} {kk : Nat} (hK : X.K = K) (hg : Gl X "enumerate") (hm : X.mg "enumerate" = none) (ha : PA X [e] ta) (hs : starEach [e] X.env = [(false, eval e X.env)] := by rfl) : PI X (.Tuple elts kk tpos) (.Call (.Name "enumerate" p) [e] [] pos) (iEnumT K ta) := by subst hK; exact pi_enumT hg hm ha hs
def dsW (rs : List Nat) : List (Option Nat) := none :: (List.range (nm rs)).map fun r => some (fix r rs)
theorem onlyL_mapI (cs ls : List Nat) : mapI (fun c x => if c ∈ cs then x else .int 0) (nV ls) = nV (onlyL cs ls) := by
  unfold mapI onlyL nV
  rw [List.length_map, List.map_map]
  refine List.map_congr_left fun c hc => ?_
  have hc := List.mem_range.mp hc
  show (if c ∈ cs then (List.map (fun (x : Nat) => V.int (x : Nat)) ls).getD c .non else .int 0) = V.int ((if c ∈ cs then ls.getD c 0 else 0 : Nat) : Int)
  by_cases h : c ∈ cs
  · rw [if_pos h, if_pos h, List.getD_eq_getElem?_getD, List.getElem?_map, List.getElem?_eq_getElem hc, List.getD_eq_getElem?_getD, List.getElem?_eq_getElem hc]; rfl
  · rw [if_neg h, if_neg h]; rfl
def DlT (g : Option Nat → Lv) (u : V) (d : Option Nat) (H : Hp) : Prop := ∃ b c, u = .ref b ∧ H b = some (.tup [dvR d, .ref c]) ∧ LvH H c (g d)
theorem DlT.ts {g : Option Nat → Lv} {u : V} {d : Option Nat} {H H' : Hp} (t : Ts H H') (h : DlT g u d H) : DlT g u d H' := let ⟨b, c, h1, h2, h3⟩ := h; ⟨b, c, h1, t _ _ h2, t _ _ h3⟩
theorem onlyL_at {cs l : List Nat} {c : Nat} (hc : c ∈ cs) (hl : c < l.length) : (onlyL cs l).getD c 0 = l.getD c 0 := by
  unfold onlyL
  rw [List.getD_eq_getElem?_getD, List.getElem?_map, List.getElem?_range hl]
  show (if c ∈ cs then l.getD c 0 else 0) = _
  rw [if_pos hc]
theorem lostL_only {cs l : List Nat} (hl : ∀ c ∈ cs, c < l.length) : lostL cs (onlyL cs l) = lostL cs l := by
  unfold lostL
  rw [Bool.eq_iff_iff, List.any_eq_true, List.any_eq_true]
  constructor
  · rintro ⟨c, hc, h⟩
    exact ⟨c, hc, by rw [onlyL_at hc (hl c hc)] at h; exact h⟩
  · rintro ⟨c, hc, h⟩
    exact ⟨c, hc, by rw [onlyL_at hc (hl c hc)]; exact h⟩
theorem m_appR {K : PySem.W.Frag} {σ : L2.St} {H : Hp} {ta te : TE} {D : Ends} {l : Addr} {xs : List V} (ha : Ev ta σ H (.ref l)) (hl : H l = some (.lst xs)) (k : ∀ H1, Ex H H1 → te σ H1 fun v H2 => rAppend (.ref l) [v] H2 fun _ H3 => D.nx σ H3) : tDrop (tBM K "list" rAppend ta (tCons te tNil)) D σ H :=
  ha H (Ex.refl H) _ fun H1 e1 => ⟨.inl ⟨rfl, xs, sq_of (e1 _ _ hl)⟩, k H1 e1⟩
theorem nm_len {rs : List Nat} (hok : RowsOk rs) : nm rs ≤ rs.length := by
  have : ∀ (k : Nat), k ≤ rs.length → nm (rs.take k) ≤ k := fun k => by
    induction k with
    | zero => intro _; simp [nm]
    | succ k ih =>
      intro hk
      have h1 := ih (by omega)
      have hx : rs[k]? = some rs[k] := List.getElem?_eq_getElem (by omega)
      have h2 := hok k _ hx
      rw [nm_succ hx]
      omega
  have h := this rs.length (Nat.le_refl _)
  rwa [List.take_length] at h
def spLNx (K : PySem.W.Frag) : Sp := fun vs H Q _ => ∃ (m cl lb : Addr) (fs rs cs l : List Nat), vs = [.ref m, .ref cl, .ref lb] ∧ MaF K H m fs rs ∧ MaOk fs rs ∧ SqT K H cl (nV cs) ∧ (∀ c ∈ cs, c < rs.length) ∧ cs.length ≤ 10 ∧ SqT K H lb (nV l) ∧ l.length = rs.length ∧
  ∀ u us H', H u = none → Ex H H' → H' u = some (.lst us) → Paired (fun v p => DpT v (p.1, some p.2) H') us (lnkD fs rs cs (dsW rs) l) → Q (.ref u) H'
section
variable {P : Program} {w : World} {K : PySem.W.Frag} {mg : Str → Option Value} {base : Heap}
abbrev s_law_next : Stmt := top 40
theorem sc_law_next : FnScope ["machine", "cells", "lives", "found", "one", "cell", "kept", "deed", "own", "left"] ["machine", "cells", "lives"] (defScope s_law_next) := ⟨rfl, rfl, rfl, by decide +kernel, rfl, by decide +kernel, by decide +kernel⟩
theorem ok_lnext {f f1 : Addr} {fd fd1 : FuncData} (F : Fun K "_law_next" "_law_next" s_law_next f fd) (T : Txt K mg) (C_law_behind : Cal P w K mg base CX0 1 "_law_behind" f1 fd1 ["machine", "lives", "word", "cell"] (spLBeh K)) : FnOk P w K mg base CX0 2 f fd ["machine", "cells", "lives"] (spLNx K) := by
  refine F.ok sc_law_next (fun vs H Q E h => ?_) (fun cdv A outer s H vs Q E hr h => ?_)
  · obtain ⟨_, _, _, _, _, _, _, rfl, _⟩ := h
    rfl
  · obtain ⟨m, cl, lb, fs, rs, cs, l, rfl, hmf, hmo, hcl, hlt, hc10, hlb, hll, k⟩ := h
    refine ⟨_, (pss_cons (ps_set (i := 3) sc_law_next.nd rfl (Or.inl rfl) (pe_lst (pa_cons (pe_tup (pa_cons pe_non (pa_cons (pe_call C_law_behind.G (hr.mono (by first | decide | omega)) rfl C_law_behind.g C_law_behind.kp C_law_behind.b .nil pass0 (pa_cons (pv 0) (pa_cons (pv 2) (pa_cons pe_str (pa_cons pe_int pa_nil))))) pa_nil))) pa_nil)))
  (pss_cons (ps_for PassesOwn.never rfl (pi_range1 rfl T.z_range (pa_cons (pe_op op_add (pe_callB (maxT_K (K := K) rfl rfl hr.units) (by rfl) T.z_max (by decide +kernel) (pa_cons (pe_ix (ix_K (K := K) rfl) (pv 0) pe_int (fun _ _ => rfl)) pa_nil)) pe_int) pa_nil)) (pg_name (i := 4) sc_law_next.nd rfl (by first | exact Or.inl rfl | exact Or.inr rfl)) (pss_cons (ps_set (i := 5) sc_law_next.nd rfl (Or.inl rfl) (pe_bmT PySem.F.plainAttrs_tuple PySem.F.slot_tuple_index PySem.F.type_tuple_index (idxT_K (K := K) rfl) (pe_ix (ix_K (K := K) rfl) (pv 0) pe_int (fun _ _ => rfl)) (pa_cons (pv 4) pa_nil)))
  (pss_one (ps_expr (pe_bm PySem.F.plainAttrs_list PySem.F.slot_list_append PySem.F.type_list_append mt_append (pv 3) (pa_cons (pe_tup (pa_cons (pv 5) (pa_cons (pe_call C_law_behind.G (hr.mono (by first | decide | omega)) rfl C_law_behind.g C_law_behind.kp C_law_behind.b .nil pass0 (pa_cons (pv 0) (pa_cons (pv 2) (pa_cons pe_str (pa_cons (pv 5) pa_nil))))) pa_nil))) pa_nil))))))
  (pss_cons (ps_setLc (i := 6) (own := [("deed", 7), ("one", 4)]) (g := gTup K 2 (gCons (gName 7) (gCons (gName 4) gNil))) rfl sc_law_next.nd rfl rfl (sw_true rfl rfl rfl (by decide +kernel)) (pi_listK (K := K) rfl (pv 3)) (blkOk_by (by kernel_rfl)) (fun _ _ _ _ _ => pg_tupK (K := K) rfl rfl (pgs_cons (pg_name (i := 7) sc_law_next.nd rfl (by first | exact Or.inl rfl | exact Or.inr rfl)) (pgs_cons (pg_name (i := 4) sc_law_next.nd rfl (by first | exact Or.inl rfl | exact Or.inr rfl)) pgs_nil))) (fun _ _ _ _ _ => pts_nil) (fun _ _ _ _ _ => (pe_tup (pa_cons (pv 7) (pa_cons (pe_callTy (tpl_K (K := K) rfl) (by rfl) T.z_tuple (by decide +kernel) (pa_cons (pe_lc (own := [("own", 8), ("left", 9)]) (g := gTup K 2 (gCons (gName 8) (gCons (gName 9) gNil))) rfl sc_law_next.nd (enumT_K (K := K) rfl (by rfl) T.z_enumerate (pa_cons (pv 4) pa_nil)) (blkOk_by (by kernel_rfl)) (fun _ _ _ _ _ => pg_tupK (K := K) rfl rfl (pgs_cons (pg_name (i := 8) sc_law_next.nd rfl (by first | exact Or.inl rfl | exact Or.inr rfl)) (pgs_cons (pg_name (i := 9) sc_law_next.nd rfl (by first | exact Or.inl rfl | exact Or.inr rfl)) pgs_nil))) (fun _ _ _ _ _ => pts_nil) (fun _ _ _ _ _ => (pe_ifExp (pt_cmpR (in_K (K := K) rfl) (pv 8) (pv 1) (by rfl)) (pv 9) pe_int))) pa_nil)) pa_nil)))))
  (pss_one (ps_ret (pe_lc (own := [("deed", 7), ("one", 4)]) (g := gTup K 2 (gCons (gName 7) (gCons (gName 4) gNil))) rfl sc_law_next.nd (pi_listK (K := K) rfl (pv 6)) (blkOk_by (by kernel_rfl)) (fun _ _ _ _ _ => pg_tupK (K := K) rfl rfl (pgs_cons (pg_name (i := 7) sc_law_next.nd rfl (by first | exact Or.inl rfl | exact Or.inr rfl)) (pgs_cons (pg_name (i := 4) sc_law_next.nd rfl (by first | exact Or.inl rfl | exact Or.inr rfl)) pgs_nil))) (fun _ _ _ _ _ => (pts_one (pt_cmpR (eqD_K (K := K) rfl hr.units) (pe_lc (own := [("own", 8)]) (g := gName 8) rfl sc_law_next.nd (pi_tupK (K := K) rfl (pv 1)) (blkOk_by (by kernel_rfl)) (fun _ _ _ _ _ => pg_name (i := 8) sc_law_next.nd rfl (by first | exact Or.inl rfl | exact Or.inr rfl)) (fun _ _ _ _ _ => (pts_one (pt_cmpR op_eq (pe_ix (ix_K (K := K) rfl) (pv 4) (pv 8) (fun _ _ => rfl)) pe_int (nomark _)))) (fun _ _ _ _ _ => (pv 8))) (pe_lst pa_nil) (nomark _)))) (fun _ _ _ _ _ => (pe_tup (pa_cons (pv 7) (pa_cons (pv 4) pa_nil)))))))))), ?_⟩
    obtain ⟨fa, ra, hm0, hfa, hra, hrn⟩ := id hmf
    have hm := hmf.t
    have hfr := hmo.ll
    have hl4 := hmo.l4
    have hl1 := hmo.l1
    have hnm : nm rs ≤ 10 := Nat.le_trans (nm_len hmo.r) (by omega)
    refine q_asgU9 (m_lstR (m_consR9 (m_tupR9 (m_consR9 (ev_c H (Ex.refl _) _ fun H1 e1 => m_consR9 (m_callR ?_))))))
    refine (ea_cons (ev_var rfl) (ea_cons (ev_var rfl) (ea_cons ev_c (ea_cons ev_c ea_nil))) : EvA _ _ H1 [.ref m, .ref lb, .str "say", .int 0]) H1 (Ex.refl _) _ fun H2 e2 => ?_
    have e02 := e1.trans e2
    refine ⟨m, lb, fs, rs, l, "say", .int 0, .wait, 0, rfl, hm.up e02, ex_t e02 hlb, hfr, hll, by omega, ⟨by decide +kernel, by decide +kernel, fun z => nomatch z⟩, fun b H3 hb e3 h3 => ?_⟩
    refine m_nilR ⟨by show 2 ≤ sizeLine; rw [sizeLine_eq]; decide, fun t ht => ?_⟩
    have e4 := Ex.new (o := .tup [.non, .ref b]) ht
    have ht4 : upd H3 t (.tup [.non, .ref b]) t = some (.tup [.non, .ref b]) := upd_same
    generalize upd H3 t (.tup [.non, .ref b]) = H4 at e4 ht4 ⊢
    refine m_nilR ⟨by show 1 ≤ sizeLine; rw [sizeLine_eq]; decide, fun u hu => ?_⟩
    have e04 := e02.trans (e3.trans e4)
    have e5 := Ex.new (o := .lst [.ref t]) hu
    have hu5 : upd H4 u (.lst [.ref t]) u = some (.lst [.ref t]) := upd_same
    have hu0 : H u = none := fresh_back e04 hu
    generalize upd H4 u (.lst [.ref t]) = H5 at e5 hu5 ⊢
    try dsimp only [List.set]
    have e05 := e04.trans e5
    have st0 : Paired (fun v d => DlT (livD fs rs l) v d H5) [.ref t] [none] := .cons ⟨t, b, rfl, e5 _ _ ht4, (e4.trans e5) _ _ h3⟩ .nil
    obtain ⟨r0, rr, hrs⟩ : ∃ r0 rr, rs = r0 :: rr := by
      cases h : rs with
      | nil => rw [h] at hfr; have hfr : fs.length = 0 := hfr; omega
      | cons a b => exact ⟨a, b, rfl⟩
    have hnmI : (nm rs : Int) = (rr.map fun (x : Nat) => (x : Int)).foldl (fun a y => if a < y then y else a) (r0 : Int) + 1 := by rw [hrs]; exact nm_cons r0 rr
    have hrI : SqT K H ra (((r0 : Int) :: rr.map fun (x : Nat) => (x : Int)).map V.int) := by
      have := hra
      rw [hrs, nV_ints] at this
      exact this
    have hrI2 : SqT K H ra ((rs.map fun (x : Nat) => (x : Int)).map V.int) := by rw [← nV_ints]; exact hra
    refine q_forR1 (n := ((nm rs : Nat) : Int)) (by rw [hnmI]; exact ea_cons (ev_i0 (ev_maxT (ev_ixT (ev_var rfl) ev_c (ex_t e05 hm0) rfl) (ex_t e05 hrI)) ev_c) ea_nil) ⟨by omega, by omega⟩ (fun i σ' H' => ∃ us z4 z5, σ' = [some (.ref m), some (.ref cl), some (.ref lb), some (.ref u), z4, z5, none, none, none, none] ∧ Ex H H' ∧ H' u = some (.lst us) ∧ Paired (fun v d => DlT (livD fs rs l) v d H') us ((dsW rs).take (i + 1))) (fun H6 e6 => ⟨_, _, _, rfl, e05.trans e6, e6 _ _ hu5, Paired.mapP st0 fun _ _ z => z.ts (Ts.of e6)⟩) (fun i σ' H6 hi ⟨us, z4, z5, hσ, e6, hu6, hp6⟩ => ?_) (fun σ' H6 ⟨us, z4, z5, hσ, e6, hu6, hp6⟩ => ?_)
    · subst hσ
      try dsimp only [List.set]
      have hi : i < nm rs := by omega
      have him := nm_mem hmo.r hi
      have hfx := fix_lt him
      have htk : (dsW rs).take (i + 1 + 1) = (dsW rs).take (i + 1) ++ [some (fix i rs)] := by
        rw [List.take_add_one]
        unfold dsW
        rw [List.getElem?_cons_succ, List.getElem?_map, List.getElem?_range hi]
        rfl
      have hul := Paired.length hp6
      rw [List.length_take] at hul
      refine q_asg (v := .int (fix i rs : Nat)) (ev_idxT (ys := rs.map fun (x : Nat) => (x : Int)) (z := (i : Int)) (hrn.up e6) (ev_ixT (ev_var rfl) ev_c (ex_t e6 hm0) rfl) (ev_var rfl) (ex_t e6 hrI2) (by rw [List.getElem?_map, fix_get him]; rfl) fun m' hm' z => by
        rw [List.getElem?_map] at z
        obtain ⟨y, hy, hye⟩ := Option.map_eq_some_iff.mp z
        have : y = i := by omega
        rw [this] at hy
        exact fix_min hm' hy) fun H7 e7 => ?_
      try dsimp only [List.set]
      have e67 := e6.trans e7
      refine m_appR (ev_var rfl) (e7 _ _ hu6) fun H8 e8 => m_tupR9 (m_consR9 ?_)
      refine (ev_var rfl) H8 (Ex.refl _) _ fun H9 e9 => m_consR9 (m_callR ?_)
      have e69 := e67.trans (e8.trans e9)
      refine (ea_cons (ev_var rfl) (ea_cons (ev_var rfl) (ea_cons ev_c (ea_cons (ev_var rfl) ea_nil))) : EvA _ _ H9 [.ref m, .ref lb, .str "touch", .int (fix i rs : Nat)]) H9 (Ex.refl _) _ fun H10 e10 => ?_
      have e610 := e69.trans e10
      refine ⟨m, lb, fs, rs, l, "touch", .int (fix i rs : Nat), .touch, fix i rs, rfl, hm.up e610, ex_t e610 hlb, hfr, hll, by omega, ⟨by decide +kernel, by decide +kernel, fun _ => ⟨rfl, hfx⟩⟩, fun b2 H11 hb2 e11 h11 => ?_⟩
      refine m_nilR ⟨by show 2 ≤ sizeLine; rw [sizeLine_eq]; decide, fun t2 ht2 => ?_⟩
      have e12 := Ex.new (o := .tup [.int (fix i rs : Nat), .ref b2]) ht2
      have ht12 : upd H11 t2 (.tup [.int (fix i rs : Nat), .ref b2]) t2 = some (.tup [.int (fix i rs : Nat), .ref b2]) := upd_same
      generalize upd H11 t2 (.tup [.int (fix i rs : Nat), .ref b2]) = H12 at e12 ht12 ⊢
      have e612 := (e7.trans (e8.trans e9)).trans ((e10.trans e11).trans e12)
      have hu12 := e612 _ _ hu6
      refine ⟨u, us, .ref t2, rfl, rfl, hu12, sz_lt (by omega), us ++ [.ref t2], _, _, rfl, Ex.mut (e6.trans e612) hu0, upd_same, ?_⟩
      rw [htk]
      have tt := ts_lst (o := .lst (us ++ [.ref t2])) hu12
      exact paired_append (Paired.mapP hp6 fun _ _ z => z.ts ((Ts.of e612).trans tt)) (.cons ⟨t2, b2, rfl, tt _ _ ht12, tt _ _ (e12 _ _ h11)⟩ .nil)
    · subst hσ
      have hdl : (dsW rs).length = nm rs + 1 := by unfold dsW; rw [List.length_cons, List.length_map, List.length_range]
      rw [show ((nm rs : Nat) : Int).toNat + 1 = (dsW rs).length by rw [hdl]; omega, List.take_length] at hp6
      have hul := Paired.length hp6
      have hll2 : ∀ d, (livD fs rs l d).length = rs.length := fun d => by rw [livD_len]; exact hll
      refine q_asgU9 ?_
      refine m_lcLR (a := u) (xs := us) (ev_var rfl) (sq_of hu6) (fun D i Hx => H6 D = none ∧ Ex H6 Hx ∧ ∃ ws, Hx D = some (.lst ws) ∧ Paired (fun v d => DlT (fun d => onlyL cs (livD fs rs l d)) v d Hx) ws ((dsW rs).take i)) (fun D H1 e1 hD => ⟨fresh_back e1 hD, e1.trans (Ex.new hD), [], upd_same, .nil⟩) (fun D i Hx _ h => ex_l h.2.1 (sq_of hu6)) (fun D i v Hx hv h => ?_) (fun D Hx h => ?_)
      · obtain ⟨hD, ex, ws, hws, hpw⟩ := h
        obtain ⟨d, hd, b3, c3, rfl, hb3, hc3⟩ := paired_at hp6 hv
        have htk : (dsW rs).take (i + 1) = (dsW rs).take i ++ [d] := by rw [List.take_add_one, hd]; rfl
        have hwl := Paired.length hpw
        rw [List.length_take] at hwl
        refine ⟨b3, _, rfl, st_of (ex _ _ hb3), rfl, _, _, rfl, _, _, rfl, ⟨rfl, rfl, ?_⟩⟩
        dsimp only [tYes]
        rw [if_pos rfl]
        have key := el_lcET (K := K) (σ := [some (.ref m), some (.ref cl), some (.ref lb), some (.ref u), some (.ref c3), z5, none, some (dvR d), none, none]) (H := Hx) (tl := tVar 4) (te := tIf (tTest (tOp (rIn K false) (tVar 8) (tVar 1))) (tVar 9) (tC (.int 0))) (a := c3) (xs := nV (livD fs rs l d)) (i := 8) (j := 9) (vs := List.map (fun x => x.snd) [(("own" : Str), 8), ("left", 9)]) (f := fun c x => if c ∈ cs then x else .int 0) (ev_var rfl) (st_of (ex _ _ hc3)) (fun _ _ => rfl) (by rw [nV_len, hll2]; omega) (fun m' x' H' _ e' => by
          refine ev_if (b := decide (m' ∈ cs)) (et_is (et_test (ev_inK (ev_var rfl) (ev_var rfl) (ex_t ((e6.trans ex).trans e') hcl) rfl (flat_nV cs))) inV_nV) (fun h => ?_) (fun h => ?_)
          · rw [if_pos (of_decide_eq_true h)]; exact ev_var rfl
          · rw [if_neg (of_decide_eq_false h)]; exact ev_c)
        rw [onlyL_mapI] at key
        refine m_tupR9 (m_consR9 ?_)
        refine (ev_var rfl) Hx (Ex.refl _) _ fun Hy ey => m_consR9 ?_
        refine (eu_tplN key) Hy ey _ fun q Hz hq ez hqz => ?_
        refine m_nilR ⟨by show 2 ≤ sizeLine; rw [sizeLine_eq]; decide, fun t3 ht3 => ?_⟩
        have e9 := Ex.new (o := .tup [dvR d, .ref q]) ht3
        have ht9 : upd Hz t3 (.tup [dvR d, .ref q]) t3 = some (.tup [dvR d, .ref q]) := upd_same
        generalize upd Hz t3 (.tup [dvR d, .ref q]) = H9 at e9 ht9 ⊢
        have ex9 := ey.trans (ez.trans e9)
        have hws9 := ex9 _ _ hws
        have tt := ts_lst (o := .lst (ws ++ [.ref t3])) hws9
        refine ⟨ws, hws9, by rw [sizeLine_eq]; omega, hD, Ex.mut (ex.trans ex9) hD, ws ++ [.ref t3], upd_same, ?_⟩
        rw [htk]
        exact paired_append (Paired.mapP hpw fun _ _ z => z.ts ((Ts.of ex9).trans tt)) (.cons ⟨t3, q, rfl, tt _ _ ht9, tt _ _ (e9 _ _ hqz)⟩ .nil)
      obtain ⟨hD, ex, ws, hws, hpw⟩ := h
      rw [hul, List.take_length] at hpw
      have hwl := Paired.length hpw
      try dsimp only [List.set]
      have e0x := e6.trans ex
      refine s_retQR ?_
      refine m_lcLR (a := D) (xs := ws) (ev_var rfl) (sq_of hws) (fun D2 i Hy => Hx D2 = none ∧ Ex Hx Hy ∧ ∃ vs, Hy D2 = some (.lst vs) ∧ Paired (fun v p => DpT v (p.1, some p.2) Hy) vs (lnkD fs rs cs ((dsW rs).take i) l)) (fun D2 H1 e1 hD2 => ⟨fresh_back e1 hD2, e1.trans (Ex.new hD2), [], upd_same, .nil⟩) (fun D2 i Hy _ h => ex_l h.2.1 (sq_of hws)) (fun D2 i v Hy hv h => ?_) (fun D2 Hy h => ?_)
      · obtain ⟨hD2, ey, vs, hvs, hpv⟩ := h
        obtain ⟨d, hd, b3, c3, rfl, hb3, hc3⟩ := paired_at hpw hv
        have htk : (dsW rs).take (i + 1) = (dsW rs).take i ++ [d] := by rw [List.take_add_one, hd]; rfl
        have hvl := Paired.length hpv
        have hvl2 := lnkD_len fs rs cs ((dsW rs).take i) l
        rw [List.length_take] at hvl2
        refine ⟨b3, _, rfl, st_of (ey _ _ hb3), rfl, _, _, rfl, _, _, rfl, ⟨rfl, rfl, ?_⟩⟩
        have hol : (onlyL cs (livD fs rs l d)).length = rs.length := by rw [onlyL_len]; exact hll2 d
        have key := el_lcT (K := K) (σ := [some (.ref m), some (.ref cl), some (.ref lb), some (.ref u), some (.ref c3), z5, some (.ref D), some (dvR d), none, none]) (H := Hy) (a := cl) (tl := tVar 1) (j := 8) (vs := List.map (fun x => x.snd) [(("own" : Str), 8)]) (zs := cs) (tt := tTest (tOp rEq (tOp (rIx K) (tVar 4) (tVar 8)) (tC (.int 0)))) (te := tVar 8) (fun c => .int (c : Nat)) (fun c => decide ((onlyL cs (livD fs rs l d)).getD c 0 = 0)) (fun c => .int (c : Nat)) (ev_var rfl) (ex_t (e0x.trans ey) hcl) (fun _ => rfl) (by omega) (fun c H1 hc e1 => et_is (et_eq (ev_ixT (ev_var rfl) (ev_var rfl) (st_of (e1 _ _ (ey _ _ hc3))) (nV_at (by rw [hol]; exact hlt c hc))) ev_c rfl) (decide_eq_decide.mpr ⟨fun z => by have : (((onlyL cs (livD fs rs l d)).getD c 0 : Nat) : Int) = 0 := V.int.inj z; omega, fun z => by rw [z]; rfl⟩)) (fun c H1 hc e1 _ => ev_var rfl)
        have hmp : ((cs.filter fun c => decide ((onlyL cs (livD fs rs l d)).getD c 0 = 0)).map fun c => V.int (c : Nat)) = ((cs.filter fun c => decide ((onlyL cs (livD fs rs l d)).getD c 0 = 0)).map fun (c : Nat) => (c : Int)).map V.int := by rw [List.map_map]; rfl
        rw [hmp] at key
        refine (et_test (ev_eqNil key)) Hy (Ex.refl _) _ fun Hz ez => ?_
        have hlost : (((cs.filter fun c => decide ((onlyL cs (livD fs rs l d)).getD c 0 = 0)).map fun (c : Nat) => (c : Int)).isEmpty) = !(lostL cs (livD fs rs l d)) := by
          rw [List.isEmpty_map, ← lostL_only (fun c hc => by rw [hll2]; exact hlt c hc)]
          unfold lostL
          rw [Bool.eq_iff_iff]
          constructor
          · intro h
            have h := List.isEmpty_iff.mp h
            have h := List.filter_eq_nil_iff.mp h
            rw [Bool.not_eq_true']
            rw [Bool.eq_false_iff]
            intro z
            obtain ⟨c, hc, h2⟩ := List.any_eq_true.mp z
            exact h c hc h2
          · intro h
            rw [Bool.not_eq_true'] at h
            refine List.isEmpty_iff.mpr (List.filter_eq_nil_iff.mpr fun c hc z => ?_)
            have : (cs.any fun c => decide ((onlyL cs (livD fs rs l d)).getD c 0 = 0)) = true := List.any_eq_true.mpr ⟨c, hc, z⟩
            rw [h] at this; cases this
        rw [hlost]
        by_cases hlo : lostL cs (livD fs rs l d) = true
        · rw [hlo]
          refine iteF9 ⟨hD2, ey.trans ez, vs, ez _ _ hvs, ?_⟩
          have : lnkD fs rs cs ((dsW rs).take (i + 1)) l = lnkD fs rs cs ((dsW rs).take i) l := by
            unfold lnkD
            rw [htk, List.filterMap_append, List.filterMap_cons_none (by show Option.map _ (if lostL cs (livD fs rs l d) = true then none else _) = none; rw [if_pos hlo]; rfl)]
            simp
          rw [this]
          exact Paired.mapP hpv fun _ _ z => z.up fun b ys hb => ez _ _ hb
        · have hlo : lostL cs (livD fs rs l d) = false := by simpa using hlo
          rw [hlo]
          refine iteT9 ?_
          refine (eu_tup (vs := [dvR d, .ref c3]) (ea_cons (ev_var rfl) (ea_cons (ev_var rfl) ea_nil)) (show 2 ≤ 100000 by decide)) Hz (Ex.refl _) _ fun t3 H9 ht3 e9 ht9 => ?_
          have ez9 := ez.trans e9
          have hvs9 := ez9 _ _ hvs
          have tt := ts_lst (o := .lst (vs ++ [.ref t3])) hvs9
          refine ⟨vs, hvs9, by rw [sizeLine_eq]; omega, hD2, Ex.mut (ey.trans ez9) hD2, vs ++ [.ref t3], upd_same, ?_⟩
          have : lnkD fs rs cs ((dsW rs).take (i + 1)) l = lnkD fs rs cs ((dsW rs).take i) l ++ [(d, onlyL cs (livD fs rs l d))] := by
            unfold lnkD
            rw [htk, List.filterMap_append, List.filterMap_cons_some (b := (d, onlyL cs (livD fs rs l d))) (by show Option.map _ (if lostL cs (livD fs rs l d) = true then none else _) = _; rw [if_neg (by rw [hlo]; exact Bool.false_ne_true)]; rfl)]
            rfl
          rw [this]
          exact paired_append (Paired.mapP hpv fun _ _ z => z.up fun b ys hb => tt _ _ (ez9 _ _ hb)) (.cons ⟨t3, .ref c3, rfl, tt _ _ ht9, c3, rfl, tt _ _ ((ey.trans ez9) _ _ hc3)⟩ .nil)
      · obtain ⟨hD2, ey, vs, hvs, hpv⟩ := h
        rw [hwl, List.take_length] at hpv
        exact k D2 vs Hy (fresh_back e0x hD2) (e0x.trans ey) hvs hpv
end
end Fm
set_option maxHeartbeats 1000000
namespace Fm
open PySem L2 Evl RZ
def spLMaL (K : PySem.W.Frag) : Sp := fun vs H Q _ => ∃ (r s : Addr) (ns : List Int) (mo fd : Nat), vs = [.ref r, .int (mo : Nat), .int (fd : Nat)] ∧ RowAt K H r s ns ∧ 0 < mo ∧ mo ≤ 4 ∧ 0 < fd ∧ fd ≤ 8 ∧
  ∀ m fs rs H', MaF K H' m fs rs → MaL K H' m fs → MaOk fs rs → fs.length ≤ mo → (∀ x ∈ fs, x ≤ fd) → RowAt K H' r s ns → Ex (rem H r) H' → Q (.ref m) H'
section
variable {P : Program} {w : World} {K : PySem.W.Frag} {mg : Str → Option Value} {base : Heap}
theorem ok_lmachineL {f f1 : Addr} {fd fd1 : FuncData} (F : Fun K "_law_machine" "_law_machine" s_law_machine f fd) (T : Txt K mg) (C_law_taken : Cal P w K mg base CX0 1 "_law_taken" f1 fd1 ["row", "many"] (spTak K)) : FnOk P w K mg base CX0 2 f fd ["row", "most", "fade"] (spLMaL K) := by
  refine F.ok sc_law_machine (fun vs H Q E h => ?_) (fun cdv A outer s H vs Q E hr h => ?_)
  · obtain ⟨_, _, _, _, _, rfl, _⟩ := h
    rfl
  · obtain ⟨r, s, ns, mo, fd, rfl, R, hm0, hm4, hf0, hf8, k⟩ := h
    refine ⟨_, (pss_cons (ps_par3 (i := 3) (j := 4) (l := 5) (by rfl) sc_law_machine.nd rfl rfl rfl (by decide) (by decide) (by decide) rfl rfl rfl (pa_cons (pe_op op_add pe_int (pe_call C_law_taken.G (hr.mono (by first | decide | omega)) rfl C_law_taken.g C_law_taken.kp C_law_taken.b .nil pass0 (pa_cons (pv 0) (pa_cons (pv 1) pa_nil)))) (pa_cons (pe_lst pa_nil) (pa_cons pe_int pa_nil))) (by rfl))
  (pss_cons (ps_for PassesOwn.never rfl (pi_range1 rfl T.z_range (pa_cons (pv 3) pa_nil)) (pg_name (i := 6) sc_law_machine.nd rfl (by first | exact Or.inl rfl | exact Or.inr rfl)) (pss_cons (ps_expr (pe_bm PySem.F.plainAttrs_list PySem.F.slot_list_append PySem.F.type_list_append mt_append (pv 4) (pa_cons (pe_call C_law_taken.G (hr.mono (by first | decide | omega)) rfl C_law_taken.g C_law_taken.kp C_law_taken.b .nil pass0 (pa_cons (pv 0) (pa_cons (pe_op op_add (pv 5) pe_int) pa_nil))) pa_nil)))
  (pss_one (ps_set (i := 5) sc_law_machine.nd rfl (Or.inl rfl) (pe_callB (call_max2 rfl) (by rfl) T.z_max (by decide +kernel) (pa_cons (pv 5) (pa_cons (pe_op op_add (pe_ix (ix_K (K := K) rfl) (pv 4) (pe_un un_neg pe_int) (fun _ _ => rfl)) pe_int) pa_nil)))))))
  (pss_one (ps_ret (pe_tup (pa_cons (pe_callTy (tpl_K (K := K) rfl) (by rfl) T.z_tuple (by decide +kernel) (pa_cons (pe_lc (own := [("cell", 6)]) (g := gName 6) rfl sc_law_machine.nd (pi_range1 rfl T.z_range (pa_cons (pv 3) pa_nil)) (blkOk_by (by kernel_rfl)) (fun _ _ _ _ _ => pg_name (i := 6) sc_law_machine.nd rfl (by first | exact Or.inl rfl | exact Or.inr rfl)) (fun _ _ _ _ _ => pts_nil) (fun _ _ _ _ _ => (pe_op op_add pe_int (pe_call C_law_taken.G (hr.mono (by first | decide | omega)) rfl C_law_taken.g C_law_taken.kp C_law_taken.b .nil pass0 (pa_cons (pv 0) (pa_cons (pv 2) pa_nil)))))) pa_nil)) (pa_cons (pe_callTy (tplF_K (K := K) rfl) (by rfl) T.z_tuple (by decide +kernel) (pa_cons (pv 4) pa_nil)) pa_nil))))))), ?_⟩
    refine m_op ev_c fun H1 e1 => m_call (ea_cons (ev_var rfl) (ea_cons (ev_var rfl) ea_nil)) fun H2 e2 => ?_
    refine ⟨r, s, ns, mo, rfl, R.up (e1.trans e2), hm0, by omega, fun n H3 hn R3 e3 => ?_⟩
    have e03 : Ex (rem H r) H3 := Ex.past (rem_ex.trans (e1.trans e2)) rem_eq e3
    refine ⟨_, _, rfl, rfl, Nat.zero_le _, fun l hl => ?_⟩
    have hlr : l ≠ r := by
      obtain ⟨ys, hys⟩ := R3.lst
      exact (ne_of_none hys hl).symm
    have hl0 : rem H r l = none := fresh_back e03 hl
    have hs0 : (1 : Int) + ((n : Nat) : Int) = ((n + 1 : Nat) : Int) := by omega
    refine ⟨.int ((n + 1 : Nat) : Int), .ref l, .int ((0 : Nat) : Int), by rw [← hs0]; rfl, ?_⟩
    dsimp only
    have R4 : RowAt K (upd H3 l (.lst [])) r s ns := R3.up (Ex.new hl)
    refine q_forR1 (n := ((n + 1 : Nat) : Int)) (ea_cons (ev_var rfl) ea_nil) ⟨by omega, by omega⟩
      (fun j σ H' => ∃ (rs : List Nat) (z : Option V), Ex (rem H r) H' ∧ RowC H' r s ∧ H' l = some (.lst (nV rs)) ∧ rs.length = j ∧ RowsOk rs ∧ σ = [some (.ref r), some (.int (mo : Nat)), some (.int (fd : Nat)), some (.int ((n + 1 : Nat) : Int)), some (.ref l), some (.int (nm rs : Nat)), z])
      (fun H4 e4 => ⟨[], _, (Ex.mut e03 hl0).trans e4, R4.c.up e4, e4 _ _ upd_same, rfl, fun i r h => by simp at h, rfl⟩) ?_ ?_
    · rintro j σ H4 hj ⟨rs, z, e4, c4, l4, hrl, hok, rfl⟩
      have R4 := R.to e4 c4
      have hnmb : nm rs ≤ rs.length := by
        have : ∀ (k : Nat), k ≤ rs.length → nm (rs.take k) ≤ k := fun k => by
          induction k with
          | zero => intro _; simp [nm]
          | succ k ih =>
            intro hk
            have h1 := ih (by omega)
            have hx : rs[k]? = some rs[k] := List.getElem?_eq_getElem (by omega)
            have h2 := hok k _ hx
            rw [nm_succ hx]
            omega
        have h := this rs.length (Nat.le_refl _)
        rwa [List.take_length] at h
      refine m_appQ (ev_var rfl) l4 fun H5 e5 => m_call (ea_cons (ev_var rfl) (ea_cons (ev_succ (n := nm rs) (ev_var rfl)) ea_nil)) fun H6 e6 => ?_
      refine ⟨r, s, ns, nm rs + 1, rfl, R4.up (e5.trans e6), by omega, by omega, fun x H7 hx R7 e7 => ?_⟩
      have l7 : H7 l = some (.lst (nV rs)) := e7 _ _ (by rw [rem_ne hlr]; exact (e5.trans e6) _ _ l4)
      refine ⟨l, nV rs, _, rfl, rfl, l7, sz_lt (by rw [nV_len]; omega), ?_⟩
      have e07 : Ex (rem H r) H7 := Ex.past (e4.trans (e5.trans e6)) rem_eq e7
      have e08 : Ex (rem H r) (upd H7 l (.lst (nV rs ++ [.int (x : Nat)]))) := Ex.mut e07 hl0
      have c8 : RowC (upd H7 l (.lst (nV rs ++ [.int (x : Nat)]))) r s := by
        obtain ⟨a', b', c', h1, h2⟩ := R7.c
        exact ⟨a', b', c', by rw [upd_ne hlr.symm]; exact h1, h2⟩
      have l8 : upd H7 l (.lst (nV rs ++ [.int (x : Nat)])) l = some (.lst (nV (rs ++ [x]))) := by rw [upd_same, nV_app]; rfl
      generalize upd H7 l (.lst (nV rs ++ [.int (x : Nat)])) = H8 at e08 c8 l8 ⊢
      have hlast : atI (nV (rs ++ [x])) (-1) = some (.int (x : Nat)) := by
        rw [nV_app]
        unfold atI ixN
        simp [nV]
        rw [if_pos (by omega)]
        show (List.map (fun (x : Nat) => V.int (x : Nat)) rs ++ [V.int (x : Nat)])[(-1 + ((rs.length : Int) + 1)).toNat]? = _
        rw [show (-1 + ((rs.length : Int) + 1)).toNat = rs.length by omega, List.getElem?_append_right (by rw [List.length_map]; exact Nat.le_refl _)]
        simp
      have hmax : ((nm (rs ++ [x]) : Nat) : Int) = (if (nm rs : Int) < (x : Int) + 1 then (x : Int) + 1 else (nm rs : Int)) := by
        rw [nm_app]
        split <;> omega
      refine s_asg (v := .int ((nm (rs ++ [x]) : Nat) : Int)) (by rw [hmax]; exact ev_max2 (ev_var rfl) (ev_i0 (ev_ixL (ev_var rfl) (ev_neg ev_c) (sq_of l8) hlast) ev_c)) fun H9 e9 => ?_
      exact ⟨rs ++ [x], some (.int (j : Int)), e08.trans e9, c8.up e9, e9 _ _ l8, by simp [hrl], rowsOk_app hok (by omega), rfl⟩
    · rintro σ H4 ⟨rs, z, e4, c4, l4, hrl, hok, rfl⟩
      have hrn : rs.length = n + 1 := by rw [hrl]; omega
      have R4 := R.to e4 c4
      refine m_retTup ?_
      refine m_consCB ?_
      refine ⟨_, rfl, ((n + 1 : Nat) : Int), rfl, by omega, by omega, fun D hD => lc_range (lo := 0) (n := n + 1) (fun i H' => ∃ fs : List Nat, Ex (rem H4 r) H' ∧ RowC H' r s ∧ H' D = some (.lst (nV fs)) ∧ fs.length = i ∧ ∀ x ∈ fs, 1 ≤ x ∧ x ≤ fd) ⟨[], rem_ex.trans (Ex.new hD), R4.c.up (Ex.new hD), upd_same, rfl, by simp⟩ ?_ ?_⟩
      · have hDr : D ≠ r := by
          obtain ⟨ys, hys⟩ := R4.lst
          exact (ne_of_none hys hD).symm
        rintro i H5 hi ⟨fs, e5, c5, h5, hfl, hfs⟩
        have R5 := R4.to e5 c5
        refine ⟨rfl, ?_⟩
        refine yes_lc ?_
        rw [if_pos rfl]
        refine m_op ev_c fun H6 e6 => m_call (ea_cons (ev_var rfl) (ea_cons (ev_var rfl) ea_nil)) fun H7 e7 => ?_
        refine ⟨r, s, ns, fd, rfl, R5.up (e6.trans e7), hf0, by omega, fun x H8 hx R8 e8 => ?_⟩
        have h8 : H8 D = some (.lst (nV fs)) := e8 _ _ (by rw [rem_ne hDr]; exact (e6.trans e7) _ _ h5)
        have e48 : Ex (rem H4 r) H8 := Ex.past (e5.trans (e6.trans e7)) rem_eq e8
        refine ⟨_, _, rfl, rfl, nV fs, h8, sz_lt (by rw [nV_len]; omega), fs ++ [x + 1], ?_, ?_, ?_, by simp [hfl], ?_⟩
        · exact Ex.mut e48 (by rw [rem_ne hDr]; exact hD)
        · obtain ⟨a', b', c', h1, h2⟩ := R8.c
          exact ⟨a', b', c', by rw [upd_ne hDr.symm]; exact h1, h2⟩
        · rw [upd_same, nV_app]
          have : (1 : Int) + (x : Int) = ((x + 1 : Nat) : Int) := by omega
          show some (HO.lst (nV fs ++ [V.int ((1 : Int) + (x : Int))])) = _
          rw [this]
          rfl
        · intro y hy
          rcases List.mem_append.mp hy with hy | hy
          · exact hfs y hy
          · rw [List.mem_singleton.mp hy]
            omega
      · rintro H5 ⟨fs, e5, c5, h5, hfl, hfs⟩
        have R5 := R4.to e5 c5
        have l5 : H5 l = some (.lst (nV rs)) := e5 _ _ (by rw [rem_ne hlr]; exact l4)
        refine ⟨D, nV fs, rfl, .inl ⟨sq_of h5, fun a ha => ?_⟩⟩
        have ea := Ex.new (o := .tup (nV fs)) ha
        refine ⟨_, rfl, l, nV rs, rfl, sq_of (ea _ _ l5), fun b ob hb hcb hdb => ?_⟩
        have eb := Ex.new (o := .frz ob (.tup (nV rs))) hb
        refine ⟨by show 2 ≤ sizeLine; rw [sizeLine_eq]; decide, fun m hm => ?_⟩
        have em := Ex.new (o := .tup [.ref a, .ref b]) hm
        refine k m fs rs _ ⟨a, b, st_of upd_same, st_of (em _ _ (eb _ _ upd_same)), .inl (.inr ⟨ob, em _ _ upd_same⟩), ⟨ob, _, em _ _ upd_same, hcb, hdb⟩⟩ ⟨a, b, st_of upd_same, em _ _ (eb _ _ upd_same)⟩ ⟨by omega, by omega, by omega, fun x hx => ⟨(hfs x hx).1, by have := (hfs x hx).2; omega⟩, hok⟩ (by omega) (fun x hx => (hfs x hx).2) (R5.up (ea.trans (eb.trans em))) ?_
        exact (Ex.past e4 rem_eq e5).trans (ea.trans (eb.trans em))
end
end Fm
set_option maxHeartbeats 1000000
namespace Fm
open PySem L2 Evl RZ
theorem setOfT_K {X : Cx} {K : PySem.W.Frag} {P : Program} {w : World} (hK : X.K = K) (hP : X.prog = P) (hw : X.w = w) (hc : X.calm = true) (hu : X.A.units + 64 < cLine) : CallR X (.type "set") (rSetOfT K P w) := by subst hK hP hw; exact cr_setOfT hc hu
theorem sortedT_K {X : Cx} {K : PySem.W.Frag} {P : Program} {w : World} (hK : X.K = K) (hP : X.prog = P) (hw : X.w = w) (hc : X.calm = true) : CallR X (.builtin "sorted") (rSortedT K P w) := by subst hK hP hw; exact cr_sortedT hc
theorem m_cb2 {σ : L2.St} {H : Hp} {Q : VK} {te : TE} {r1 r2 : List V → Hp → VK → Prop} (h : te σ H fun v H1 => r2 [v] H1 fun y H2 => r1 [y] H2 Q) : tCB r1 (tCons (tCB r2 (tCons te tNil)) tNil) σ H Q := h
abbrev KsL := List (Addr × Lv)
theorem ks_of {H : Hp} {us : List V} {ls : List Lv} (h : Paired (fun u l => LvR u l H) us ls) : ∃ ks : KsL, us = ks.map (fun p => V.ref p.1) ∧ ks.map Prod.snd = ls ∧ ∀ p ∈ ks, LvH H p.1 p.2 := by
  induction h with
  | nil => exact ⟨[], rfl, rfl, fun _ z => nomatch z⟩
  | @cons u l us ls h _ ih =>
    obtain ⟨b, rfl, hb⟩ := h
    obtain ⟨ks, h1, h2, h3⟩ := ih
    refine ⟨(b, l) :: ks, by rw [h1]; rfl, by rw [← h2]; rfl, fun p hp => ?_⟩
    rcases List.mem_cons.mp hp with rfl | hp
    · exact hb
    · exact h3 p hp
theorem ks_pair {H : Hp} : ∀ {ks : KsL}, (∀ p ∈ ks, LvH H p.1 p.2) → Paired (fun u l => LvR u l H) (ks.map fun p => V.ref p.1) (ks.map Prod.snd)
  | [], _ => .nil
  | p :: ks, h => .cons ⟨p.1, rfl, h p List.mem_cons_self⟩ (ks_pair fun q hq => h q (List.mem_cons_of_mem _ hq))
def ksI (p : Addr × Lv) : Addr × List Int := (p.1, p.2.map fun (x : Nat) => (x : Int))
def ksN (q : Addr × List Int) : Addr × Lv := (q.1, q.2.map Int.toNat)
theorem ksN_I (p : Addr × Lv) : ksN (ksI p) = p := by
  unfold ksN ksI
  rw [List.map_map]
  exact Prod.ext rfl (by show p.2.map _ = p.2; exact List.map_id' p.2)
theorem sort_set {P : Program} {w : World} {K : PySem.W.Frag} {H : Hp} {l : Addr} {ks : KsL} {d : Nat} {Q : VK} (hl : SqL K H l (ks.map fun p => V.ref p.1)) (hk : ∀ p ∈ ks, LvH H p.1 p.2 ∧ p.2.length = d ∧ ∀ x ∈ p.2, x < 60) (hd : 1 ≤ d) (hz : ks.length < 64)
    (q : ∀ (p : Addr) (L : KsL) H', Ex H H' → H p = none → H' p = some (.lst (L.map fun q => V.ref q.1)) → (∀ q ∈ L, q ∈ ks) → (∀ q ∈ ks, q.2 ∈ L.map Prod.snd) → (L.map Prod.snd).Nodup → Q (.ref p) H') :
    rSetOfT K P w [.ref l] H fun y H2 => rSortedT K P w [y] H2 Q := by
  refine ⟨l, ks.map ksI, rfl, by rw [List.map_map]; exact hl, fun p hp => ?_, by rw [List.length_map]; exact hz, fun a L ha hL1 hL2 => ?_⟩
  · obtain ⟨p0, hp0, rfl⟩ := List.mem_map.mp hp
    have := (hk p0 hp0).1
    show SqT K H p0.1 ((p0.2.map fun (x : Nat) => (x : Int)).map V.int)
    rw [← nV_ints]
    exact st_of this
  have e1 := Ex.new (o := SetTO P w a L) ha
  have hof : ∀ p ∈ L, ∃ p0 ∈ ks, ksI p0 = p := fun p hp => by
    obtain ⟨p0, h1, h2⟩ := List.mem_map.mp (hL1 p hp)
    exact ⟨p0, h1, h2⟩
  refine ⟨a, L, d, 60, rfl, upd_same, fun p hp => ?_, hd, fun p hp => ?_, fun L' p hperm hnd h64 _ hp => ?_⟩
  · obtain ⟨p0, h1, rfl⟩ := hof p hp
    have := (hk p0 h1).1
    show SqT K _ p0.1 ((p0.2.map fun (x : Nat) => (x : Int)).map V.int)
    rw [← nV_ints]
    exact st_of (e1 _ _ this)
  · obtain ⟨p0, h1, rfl⟩ := hof p hp
    obtain ⟨_, g1, g2⟩ := hk p0 h1
    refine ⟨by show (p0.2.map _).length = d; rw [List.length_map]; exact g1, fun m hm => ?_⟩
    obtain ⟨x, hx, rfl⟩ := List.mem_map.mp hm
    have := g2 x hx
    omega
  · have hof' : ∀ q ∈ L', ∃ p0 ∈ ks, ksI p0 = q := fun q hq => hof q (hperm.mem_iff.mp hq)
    have hback : (L'.map ksN).map ksI = L' := by
      rw [List.map_map]
      conv => rhs; rw [← List.map_id L']
      refine List.map_congr_left fun q hq => ?_
      obtain ⟨p0, _, rfl⟩ := hof' q hq
      show ksI (ksN (ksI p0)) = ksI p0
      rw [ksN_I]
    have e2 := Ex.new (o := .lst (L'.map fun q => V.ref q.1)) hp
    refine q p (L'.map ksN) _ (e1.trans e2) (fresh_back e1 hp) (by rw [upd_same, List.map_map]; rfl) (fun r hr => ?_) (fun r hr => ?_) ?_
    · obtain ⟨q0, hq0, rfl⟩ := List.mem_map.mp hr
      obtain ⟨p0, h1, rfl⟩ := hof' q0 hq0
      rw [ksN_I]; exact h1
    · have := hL2 (ksI r) (List.mem_map.mpr ⟨r, hr, rfl⟩)
      obtain ⟨q0, hq0, h2⟩ := List.mem_map.mp this
      obtain ⟨p0, h3, rfl⟩ := hof q0 hq0
      refine List.mem_map.mpr ⟨ksN (ksI p0), List.mem_map.mpr ⟨ksI p0, hperm.mem_iff.mpr hq0, rfl⟩, ?_⟩
      rw [ksN_I]
      have h2 : p0.2.map (fun (x : Nat) => (x : Int)) = r.2.map (fun (x : Nat) => (x : Int)) := h2
      exact ofNat_map_inj h2
    · have h1 : ((L'.map ksN).map fun p => (ksI p).2).Nodup := by
        have : (L'.map ksN).map (fun p => (ksI p).2) = L'.map Prod.snd := by
          conv => rhs; rw [← hback]
          rw [List.map_map (f := ksI)]; rfl
        rw [this]; exact hnd
      have h2 : (((L'.map ksN).map Prod.snd).map fun l => l.map fun (x : Nat) => (x : Int)).Nodup := by rw [List.map_map]; exact h1
      exact List.Pairwise.of_map _ (fun a b hab z => hab (by rw [z])) h2
theorem et_niLv {K : PySem.W.Frag} {σ : L2.St} {H : Hp} {ta tb : TE} {b a : Addr} {l : Lv} {ls : List Lv} {us : List V} (ha : Ev ta σ H (.ref b)) (hb : LvH H b l) (hl : Ev tb σ H (.ref a)) (h : H a = some (.lst us)) (hp : Paired (fun u l => LvR u l H) us ls) : EvT (tTest (tOp (rNotInD K) ta tb)) σ H (!decide (l ∈ ls)) := by
  have hany : ((ls.map lvD).any fun z => PyData.eqv z (lvD l)) = decide (l ∈ ls) := by
    clear hp
    induction ls with
    | nil => rfl
    | cons x ls ih =>
      rw [List.map_cons, List.any_cons, ih, lvD_eqv]
      by_cases e : x = l
      · have hm : l ∈ x :: ls := by subst e; exact List.mem_cons_self
        rw [decide_eq_true e, decide_eq_true hm]; rfl
      · rw [decide_eq_false e, Bool.false_or]
        exact decide_eq_decide.mpr ⟨List.mem_cons_of_mem _, fun z => (List.mem_cons.mp z).resolve_left fun q => e q.symm⟩
  have dpa : ∀ {H' : Hp}, Ex H H' → DpAll K H' us (ls.map lvD) := fun {H'} e => by
    have := Paired.mapP hp fun _ _ z => lvR_d _ _ _ _ e z
    clear hp hany h
    induction this with
    | nil => exact .nil
    | cons h _ ih =>
      obtain ⟨c, rfl, hc⟩ := h
      exact .cons hc.dp ih
  have sh : SeqAt.shaped (.list (ls.map lvD)) = true := by
    show (PyData.canLay0 (.list (ls.map lvD)) && decide (PyData.depth (.list (ls.map lvD)) ≤ 64)) = true
    have h1 : PyData.canLayAll0 (ls.map lvD) = true ∧ PyData.depthAll (ls.map lvD) ≤ 2 := by
      clear hany dpa hp
      induction ls with
      | nil => simp [PyData.canLayAll0, PyData.depthAll]
      | cons x ls ih =>
        have h1 : (lvD x).canLay0 = true := by unfold lvD; simp only [PyData.canLay0]; exact iD_lay _
        have h2 : (lvD x).depth ≤ 2 := by unfold lvD; simp only [PyData.depth, iD_depth]; decide
        refine ⟨?_, ?_⟩
        · simp only [List.map_cons, PyData.canLayAll0]; rw [h1, ih.1]; rfl
        · have := ih.2
          simp only [List.map_cons, PyData.depthAll]; omega
    rw [Bool.and_eq_true]
    exact ⟨by simp only [PyData.canLay0]; exact h1.1, decide_eq_true (by have := h1.2; simp only [PyData.depth]; omega)⟩
  rw [← hany]
  refine et_test (fun H1 e1 Q q => ha H1 e1 _ fun H2 e2 => hl H2 (e1.trans e2) _ fun H3 e3 => ?_)
  have e03 := e1.trans (e2.trans e3)
  exact ⟨lvD l, ls.map lvD, (hb.up e03).dp, .lst (sq_of (e03 _ _ h)) (dpa e03), lvD_shaped l, sh, q H3 (e2.trans e3)⟩
structure AgOk (fs rs cs : List Nat) (F : Nat) (sp : List Lv) : Prop where
  nd : sp.Nodup
  st : onlyL cs fs ∈ sp
  cl : ∀ s ∈ sp, ∀ p ∈ lnkD fs rs cs (dsW rs) s, p.2 ∈ sp
  lv : ∀ s ∈ sp, LvOk rs.length F s
  rch : ∀ s ∈ sp, RchL fs rs cs (dsW rs) (onlyL cs fs) s
def spLAg (P : Program) (w : World) (K : PySem.W.Frag) : Sp := fun vs H Q _ => ∃ (m cl : Addr) (fs rs cs : List Nat) (F : Nat), vs = [.ref m, .ref cl] ∧ MaF K H m fs rs ∧ MaOk fs rs ∧ SqT K H cl (nV cs) ∧ (∀ c ∈ cs, c < rs.length) ∧ cs.length ≤ 10 ∧ (∀ x ∈ fs, x ≤ F) ∧ F < 60 ∧ (F + 1) ^ rs.length ≤ 300 ∧
  ∀ t sa fd sp H', H t = none → Ex H H' → H' t = some (.tup [.ref sa, .ref fd]) → LvH H' sa (onlyL cs fs) → DW P w LkR H' fd (sp.map fun s => (s, lnkD fs rs cs (dsW rs) s)) → AgOk fs rs cs F sp → Q (.ref t) H'
section
variable {P : Program} {w : World} {K : PySem.W.Frag} {mg : Str → Option Value} {base : Heap}
abbrev s_law_ages : Stmt := top 41
theorem sc_law_ages : FnScope ["machine", "cells", "start", "order", "found", "turn", "lives", "nexts", "cell", "fade", "deed", "one", "later"] ["machine", "cells"] (defScope s_law_ages) := ⟨rfl, rfl, rfl, by decide +kernel, rfl, by decide +kernel, by decide +kernel⟩
theorem ok_lages {f f1 : Addr} {fd fd1 : FuncData} (F : Fun K "_law_ages" "_law_ages" s_law_ages f fd) (T : Txt K mg) (C_law_next : Cal P w K mg base CX0 2 "_law_next" f1 fd1 ["machine", "cells", "lives"] (spLNx K)) : FnOk P w K mg base CX0 3 f fd ["machine", "cells"] (spLAg P w K) := by
  refine F.ok sc_law_ages (fun vs H Q E h => ?_) (fun cdv A outer s H vs Q E hr h => ?_)
  · obtain ⟨_, _, _, _, _, _, rfl, _⟩ := h
    rfl
  · obtain ⟨m, cl, fs, rs, cs, FM, rfl, hmf, hmo, hcl, hlt, hc10, hF, hF60, h300, k⟩ := h
    refine ⟨_, (pss_cons (ps_set (i := 2) sc_law_ages.nd rfl (Or.inl rfl) (pe_callTy (tpl_K (K := K) rfl) (by rfl) T.z_tuple (by decide +kernel) (pa_cons (pe_lc (own := [("cell", 8), ("fade", 9)]) (g := gTup K 2 (gCons (gName 8) (gCons (gName 9) gNil))) rfl sc_law_ages.nd (pi_enumT (by rfl) T.z_enumerate (pa_cons (pe_ix (ix_K (K := K) rfl) (pv 0) pe_int (fun _ _ => rfl)) pa_nil)) (blkOk_by (by kernel_rfl)) (fun _ _ _ _ _ => pg_tupK (K := K) rfl rfl (pgs_cons (pg_name (i := 8) sc_law_ages.nd rfl (by first | exact Or.inl rfl | exact Or.inr rfl)) (pgs_cons (pg_name (i := 9) sc_law_ages.nd rfl (by first | exact Or.inl rfl | exact Or.inr rfl)) pgs_nil))) (fun _ _ _ _ _ => pts_nil) (fun _ _ _ _ _ => (pe_ifExp (pt_cmpR (in_K (K := K) rfl) (pv 8) (pv 1) (by rfl)) (pv 9) pe_int))) pa_nil)))
  (pss_cons (ps_asg (pe_tup (pa_cons (pe_lst (pa_cons (pv 2) pa_nil)) (pa_cons (nnew_K (P := P) (w := w) rfl rfl) pa_nil))) (pg_tup rfl (pgs_cons (pg_name (i := 3) sc_law_ages.nd rfl (by first | exact Or.inl rfl | exact Or.inr rfl)) (pgs_cons (pg_name (i := 4) sc_law_ages.nd rfl (by first | exact Or.inl rfl | exact Or.inr rfl)) pgs_nil))))
  (pss_cons (ps_for PassesOwn.never rfl (pi_range1 rfl T.z_range (pa_cons pe_int pa_nil)) (pg_name (i := 5) sc_law_ages.nd rfl (by first | exact Or.inl rfl | exact Or.inr rfl)) (pss_one (ps_for PassesOwn.never rfl (pi_listK (K := K) rfl (pe_slice (sll_K (K := K) rfl) (pv 3) (po_some (pv 5)) (po_some (pe_op op_add (pv 5) pe_int)))) (pg_name (i := 6) sc_law_ages.nd rfl (by first | exact Or.inl rfl | exact Or.inr rfl)) (pss_cons (nput_K (P := P) (w := w) rfl rfl hr.units (pv 4) (pv 6) (pe_call C_law_next.G (hr.mono (by first | decide | omega)) rfl C_law_next.g C_law_next.kp C_law_next.b .nil pass0 (pa_cons (pv 0) (pa_cons (pv 1) (pa_cons (pv 6) pa_nil)))) rfl)
  (pss_cons (ps_set (i := 7) sc_law_ages.nd rfl (Or.inl rfl) (pe_callB (sortedT_K (K := K) (P := P) (w := w) rfl rfl rfl rfl) (by rfl) T.z_sorted (by decide +kernel) (pa_cons (pe_callTy (setOfT_K (K := K) (P := P) (w := w) rfl rfl rfl rfl hr.units) (by rfl) T.z_set (by decide +kernel) (pa_cons (pe_lc (own := [("deed", 10), ("one", 11)]) (g := gTup K 2 (gCons (gName 10) (gCons (gName 11) gNil))) rfl sc_law_ages.nd (pi_listK (K := K) rfl (nget_K (P := P) (w := w) rfl rfl hr.units (pv 4) (pv 6) (fun _ _ => rfl))) (blkOk_by (by kernel_rfl)) (fun _ _ _ _ _ => pg_tupK (K := K) rfl rfl (pgs_cons (pg_name (i := 10) sc_law_ages.nd rfl (by first | exact Or.inl rfl | exact Or.inr rfl)) (pgs_cons (pg_name (i := 11) sc_law_ages.nd rfl (by first | exact Or.inl rfl | exact Or.inr rfl)) pgs_nil))) (fun _ _ _ _ _ => pts_nil) (fun _ _ _ _ _ => (pv 11))) pa_nil)) pa_nil)))
  (pss_one (ps_set (i := 3) sc_law_ages.nd rfl (Or.inr rfl) (pe_op op_cat (pv 3) (pe_lc (own := [("later", 12)]) (g := gName 12) rfl sc_law_ages.nd (pi_listK (K := K) rfl (pv 7)) (blkOk_by (by kernel_rfl)) (fun _ _ _ _ _ => pg_name (i := 12) sc_law_ages.nd rfl (by first | exact Or.inl rfl | exact Or.inr rfl)) (fun _ _ _ _ _ => (pts_one (pt_cmpR (notInD_K (K := K) rfl (room65 hr)) (pv 12) (pv 3) (by rfl)))) (fun _ _ _ _ _ => (pv 12)))))))))))
  (pss_one (ps_ret (pe_tup (pa_cons (pv 2) (pa_cons (pv 4) pa_nil)))))))), ?_⟩
    obtain ⟨fa, ra, hm0, hfa, hra, hrn⟩ := id hmf
    have hfr := hmo.ll
    have hl1 := hmo.l1
    have hl4 := hmo.l4
    have key := el_lcET (K := K) (σ := [some (.ref m), some (.ref cl), none, none, none, none, none, none, none, none, none, none, none]) (H := H) (tl := tOp (rIx K) (tVar 0) (tC (.int 0))) (te := tIf (tTest (tOp (rIn K false) (tVar 8) (tVar 1))) (tVar 9) (tC (.int 0))) (a := fa) (xs := nV fs) (i := 8) (j := 9) (vs := List.map (fun x => x.snd) [(("cell" : Str), 8), ("fade", 9)]) (f := fun c x => if c ∈ cs then x else .int 0) (ev_ixT (ev_var rfl) ev_c hm0 rfl) hfa (fun _ _ => rfl) (by rw [nV_len]; omega) (fun m' x' H' _ e' => by
      refine ev_if (b := decide (m' ∈ cs)) (et_is (et_test (ev_inK (ev_var rfl) (ev_var rfl) (ex_t e' hcl) rfl (flat_nV cs))) inV_nV) (fun h => ?_) (fun h => ?_)
      · rw [if_pos (of_decide_eq_true h)]; exact ev_var rfl
      · rw [if_neg (of_decide_eq_false h)]; exact ev_c)
    rw [onlyL_mapI] at key
    refine q_asgU (eu_tplN key) fun sa H1 hsa e1 hsa1 => ?_
    try dsimp only [List.set]
    refine q_asgGR (m_tupR9 (m_consR9 (m_lstR (m_consR9 ?_))))
    refine (ev_var rfl) H1 (Ex.refl _) _ fun H2 e2 => m_nilR ⟨by show 1 ≤ sizeLine; rw [sizeLine_eq]; decide, fun ol hol => m_consR9 fun fd hfd => m_nilR ⟨by show 2 ≤ sizeLine; rw [sizeLine_eq]; decide, fun t0 ht0 => ?_⟩⟩
    have e3 := Ex.new (o := .lst [.ref sa]) hol
    have e4 := Ex.new (o := NDO P w fd []) hfd
    have e5 := Ex.new (o := .tup [.ref ol, .ref fd]) ht0
    have ht5 : upd (upd (upd H2 ol (.lst [.ref sa])) fd (NDO P w fd [])) t0 (.tup [.ref ol, .ref fd]) t0 = some (.tup [.ref ol, .ref fd]) := upd_same
    have hol5 := (e4.trans e5) _ _ (upd_same (H := H2) (a := ol) (o := .lst [.ref sa]))
    have d5 : DW P w LkR (upd (upd (upd H2 ol (.lst [.ref sa])) fd (NDO P w fd [])) t0 (.tup [.ref ol, .ref fd])) fd [] := ⟨[], ⟨[], e5 _ _ upd_same, Nat.zero_le _, .nil⟩, .nil⟩
    have e15 := e2.trans (e3.trans (e4.trans e5))
    have hfd0 : H fd = none := fresh_back (e1.trans (e2.trans e3)) hfd
    generalize upd (upd (upd H2 ol (.lst [.ref sa])) fd (NDO P w fd [])) t0 (.tup [.ref ol, .ref fd]) = H5 at ht5 hol5 d5 e15 ⊢
    refine ⟨t0, _, rfl, st_of ht5, rfl, _, _, rfl, _, _, rfl, rfl, ?_⟩
    try dsimp only [List.set]
    have e05 := e1.trans e15
    have hsa0 : LvH H5 sa (onlyL cs fs) := e15 _ _ hsa1
    have hst : LvOk rs.length FM (onlyL cs fs) := ⟨by rw [onlyL_len]; exact hfr, onlyL_le hF⟩
    let St : Nat → List Lv → Addr → Hp → Prop := fun t od oa H' => Ex H H' ∧ LvH H' sa (onlyL cs fs) ∧ (∃ us, H' oa = some (.lst us) ∧ Paired (fun u l => LvR u l H') us od) ∧ DW P w LkR H' fd ((od.take t).map fun s => (s, lnkD fs rs cs (dsW rs) s)) ∧ od.Nodup ∧ onlyL cs fs ∈ od ∧ (∀ s ∈ od.take t, ∀ p ∈ lnkD fs rs cs (dsW rs) s, p.2 ∈ od) ∧ (∀ s ∈ od, LvOk rs.length FM s) ∧ (∀ s ∈ od, RchL fs rs cs (dsW rs) (onlyL cs fs) s)
    have StUp : ∀ {t od oa H' H''}, Ex H' H'' → St t od oa H' → St t od oa H'' := fun {t od oa H' H''} e ⟨s1, s2, ⟨us, g1, g2⟩, s4, s5⟩ => ⟨s1.trans e, s2.up e, ⟨us, e _ _ g1, Paired.mapP g2 fun _ _ z => lvR_d _ _ _ _ e z⟩, s4.up lkR_d e, s5⟩
    have small : ∀ {od : List Lv}, od.Nodup → (∀ s ∈ od, LvOk rs.length FM s) → od.length ≤ 300 := fun {od} h1 h2 => Nat.le_trans (lv_many h1 h2) h300
    refine q_forR1 (n := 300) (ea_cons ev_c ea_nil) ⟨by decide, by decide⟩ (fun t σ' H' => ∃ od oa z5 z6 z7 z8 z9 z10 z11 z12, σ' = [some (.ref m), some (.ref cl), some (.ref sa), some (.ref oa), some (.ref fd), z5, z6, z7, z8, z9, z10, z11, z12] ∧ St t od oa H') (fun H6 e6 => ⟨[onlyL cs fs], ol, _, _, _, _, _, _, _, _, rfl, e05.trans e6, hsa0.up e6, ⟨_, e6 _ _ hol5, .cons ⟨sa, rfl, hsa0.up e6⟩ .nil⟩, d5.up lkR_d e6, List.pairwise_singleton _ _, List.mem_cons_self, fun _ h => (nomatch h), fun s hs => by rw [List.mem_singleton.mp hs]; exact hst, fun s hs => by rw [List.mem_singleton.mp hs]; exact .here⟩) (fun t σ' H6 ht ⟨od, oa, z5, z6, z7, z8, z9, z10, z11, z12, hσ, S⟩ => ?_) (fun σ' H6 ⟨od, oa, z5, z6, z7, z8, z9, z10, z11, z12, hσ, S⟩ => ?_)
    · subst hσ
      try dsimp only [List.set]
      obtain ⟨s1, s2, ⟨us, hus, hpu⟩, s4, s5, s6, s7, s8, s9⟩ := id S
      have hul := Paired.length hpu
      refine s_for1 (o := us[t]?) ?_ (fun hno H7 e7 => ?_) (fun pc v H7 hv hpc e7 h7 => ?_)
      · have := el_sl (K := K) (σ := [some (.ref m), some (.ref cl), some (.ref sa), some (.ref oa), some (.ref fd), some (.int (t : Int)), z6, z7, z8, z9, z10, z11, z12]) (H := H6) (te := tVar 3) (a := oa) (xs := us) (ev_var rfl) (eo_some2 (ta := tVar 5) (i := (t : Int)) (ev_var rfl)) (eo_some2 (ta := tOp (rI0 fun i j => .int (i + j)) (tVar 5) (tC (.int 1))) (i := (t : Int) + 1) (ev_i0 (g := fun i j => .int (i + j)) (ev_var rfl) ev_c)) (sq_of hus)
        rw [cutV_one] at this
        exact this
      · have htl : od.length ≤ t := by
          rw [← hul]
          rcases Nat.lt_or_ge t us.length with h | h
          · rw [List.getElem?_eq_getElem h] at hno; cases hno
          · exact h
        refine ⟨od, oa, _, _, _, _, _, _, _, _, rfl, ?_⟩
        obtain ⟨a1, a2, a3, a4, a5, a6, a7, a8, a9⟩ := StUp e7 S
        rw [List.take_of_length_le htl] at a4 a7
        exact ⟨a1, a2, a3, by rw [List.take_of_length_le (by omega)]; exact a4, a5, a6, by rw [List.take_of_length_le (by omega)]; exact a7, a8, a9⟩
      · obtain ⟨s, hs, b, rfl, hb⟩ := paired_at hpu hv
        have htl : t < od.length := (List.getElem?_eq_some_iff.mp hs).1
        have hsm := List.mem_of_getElem? hs
        have htk : od.take (t + 1) = od.take t ++ [s] := by rw [List.take_add_one, hs]; rfl
        have hno : s ∉ od.take t := fun z => by
          obtain ⟨j, hj, hgj⟩ := List.mem_take_iff_getElem.mp z
          exact List.pairwise_iff_getElem.mp s5 j t (by omega) htl (by omega) (hgj.trans (List.getElem?_eq_some_iff.mp hs).2.symm)
        have h300' := small s5 s8
        refine (?_ : tSeq _ _ _ _ _)
        try dsimp only [List.set]
        have S7 := StUp e7 S
        have hb7 := hb.up e7
        refine q_nputR (m_callR ?_)
        refine (ea_cons (ev_var rfl) (ea_cons (ev_var rfl) (ea_cons (ev_var rfl) ea_nil)) : EvA _ _ H7 [.ref m, .ref cl, .ref b]) H7 (Ex.refl _) _ fun H8 e8 => ?_
        have e08 := S7.1.trans e8
        refine ⟨m, cl, b, fs, rs, cs, s, rfl, hmf.up e08, hmo, ex_t e08 hcl, hlt, hc10, st_of (hb7.up e8), (s8 s hsm).1, fun u ws H9 hu e9 hws hpw => ?_⟩
        refine (ev_var rfl) H9 (Ex.refl _) _ fun H10 e10 => (ev_var rfl) H10 (Ex.refl _) _ fun H11 e11 => ?_
        have e711 := e8.trans (e9.trans (e10.trans e11))
        obtain ⟨a1, a2, ⟨us', a3, a3'⟩, a4, a5⟩ := StUp e711 S7
        have hu11 := (e10.trans e11) _ _ hws
        have hlk : LkR (.ref u) (lnkD fs rs cs (dsW rs) s) H11 := ⟨u, ws, rfl, hu11, Paired.mapP hpw fun _ _ z => z.up fun b ys hb => (e10.trans e11) _ _ hb⟩
        refine dw_put a4 (hb7.up e711) hlk (fun _ _ _ kl h => h.kl kl) (by rw [List.length_map, List.length_take]; omega) fun ys kl d12 => ?_
        have hnk : s ∉ ((od.take t).map fun s => (s, lnkD fs rs cs (dsW rs) s)).map Prod.fst := by
          rw [List.map_map, show (Prod.fst ∘ fun s => (s, lnkD fs rs cs (dsW rs) s) : Lv → Lv) = id from rfl, List.map_id]; exact hno
        rw [putL_new hnk] at d12
        have d12 : DW P w LkR (upd H11 fd (NDO P w fd ys)) fd ((od.take (t + 1)).map fun s => (s, lnkD fs rs cs (dsW rs) s)) := by rw [htk, List.map_append]; exact d12
        have e12 : Ex H (upd H11 fd (NDO P w fd ys)) := Ex.mut a1 hfd0
        have o12 : upd H11 fd (NDO P w fd ys) oa = some (.lst us') := kl _ _ a3 (.inr ⟨_, rfl⟩)
        have p12 := Paired.mapP a3' fun _ _ z => z.kl kl
        have sa12 := a2.kl kl
        have hb12 := (hb7.up e711).kl kl
        have hpc12 : upd H11 fd (NDO P w fd ys) pc = some (.lst [.ref b]) := kl _ _ (e711 _ _ h7) (.inr ⟨_, rfl⟩)
        clear a1 a2 a3 a3' a4 S7 hlk hpw hws
        generalize upd H11 fd (NDO P w fd ys) = H12 at d12 e12 o12 p12 sa12 hb12 hpc12 ⊢
        have hsin : s ∈ od.take (t + 1) := by rw [htk]; exact List.mem_append_right _ List.mem_cons_self
        refine q_asgU9 (m_cb2 ?_)
        obtain ⟨v1, hv1, la, vs, hv1e, hvs, hpv⟩ := ev_dget (P := P) (w := w) (σ := [some (.ref m), some (.ref cl), some (.ref sa), some (.ref oa), some (.ref fd), some (.int (t : Int)), some (.ref b), z7, z8, z9, z10, z11, z12]) (td := tVar 4) (ty := tVar 6) lkR_d (ev_var rfl) (ev_var rfl) d12.r hb12 (lkp_fun hsin)
        subst hv1e
        have hvl := Paired.length hpv
        have hds : (dsW rs).length ≤ 11 := by
          have := nm_len hmo.r
          unfold dsW
          rw [List.length_cons, List.length_map, List.length_range]; omega
        have hLl := lnkD_len fs rs cs (dsW rs) s
        refine m_lcLR (a := la) (xs := vs) hv1 (sq_of hvs) (fun D i Hx => H12 D = none ∧ Ex H12 Hx ∧ ∃ ws, Hx D = some (.lst ws) ∧ Paired (fun u l => LvR u l Hx) ws (((lnkD fs rs cs (dsW rs) s).take i).map Prod.snd)) (fun D H1 e1 hD => ⟨fresh_back e1 hD, e1.trans (Ex.new hD), [], upd_same, .nil⟩) (fun D i Hx _ h => ex_l h.2.1 (sq_of hvs)) (fun D i v Hx hv h => ?_) (fun D Hx h => ?_)
        · obtain ⟨hD, ex, ws, hws, hpw⟩ := h
          obtain ⟨p, hp, b3, v3, rfl, hb3, bt, hv3, hbt⟩ := paired_at hpv hv
          have hv3 : v3 = .ref bt ∧ LvH H12 bt p.2 := ⟨hv3, hbt⟩
          obtain ⟨rfl, hbt⟩ := hv3
          have htk2 : (lnkD fs rs cs (dsW rs) s).take (i + 1) = (lnkD fs rs cs (dsW rs) s).take i ++ [p] := by rw [List.take_add_one, hp]; rfl
          have hwl := Paired.length hpw
          rw [List.length_map, List.length_take] at hwl
          refine ⟨b3, _, rfl, st_of (ex _ _ hb3), rfl, _, _, rfl, _, _, rfl, ⟨rfl, rfl, ?_⟩⟩
          dsimp only [tYes]
          rw [if_pos rfl]
          refine (ev_var rfl) Hx (Ex.refl _) _ fun Hy ey => ?_
          have hws4 := ey _ _ hws
          have tt := ts_lst (o := .lst (ws ++ [.ref bt])) hws4
          refine ⟨ws, hws4, by rw [sizeLine_eq]; omega, hD, Ex.mut (ex.trans ey) hD, ws ++ [.ref bt], upd_same, ?_⟩
          rw [htk2, List.map_append]
          exact paired_append (Paired.mapP hpw fun _ _ z => z.ts ((Ts.of ey).trans tt)) (.cons ⟨bt, rfl, (hbt.up (ex.trans ey)).ts tt⟩ .nil)
        obtain ⟨hD, ex, ws, hws, hpw⟩ := h
        rw [hvl, List.take_length] at hpw
        obtain ⟨ks, rfl, hk2, hk3⟩ := ks_of hpw
        have hkm : ∀ p ∈ ks, ∃ y ∈ lnkD fs rs cs (dsW rs) s, y.2 = p.2 := fun p hp => by
          have : p.2 ∈ ks.map Prod.snd := List.mem_map.mpr ⟨p, hp, rfl⟩
          rw [hk2] at this
          obtain ⟨y, h1, h2⟩ := List.mem_map.mp this
          exact ⟨y, h1, h2⟩
        have hkok : ∀ p ∈ ks, LvOk rs.length FM p.2 := fun p hp => by
          obtain ⟨y, h1, h2⟩ := hkm p hp
          rw [← h2]; exact lnkD_ok hF (s8 s hsm) y h1
        have hkl : ks.length ≤ 11 := by
          have := congrArg List.length hk2
          rw [List.length_map, List.length_map] at this
          omega
        refine sort_set (d := rs.length) (sq_of hws) (fun p hp => ⟨hk3 p hp, (hkok p hp).1, fun x hx => by have := (hkok p hp).2 x hx; omega⟩) (by omega) (by omega) fun na L H13 e13 hna hna13 hL1 hL2 hL3 => ?_
        try dsimp only [List.set]
        have ex13 := ex.trans e13
        have hLh : ∀ q ∈ L, LvH H13 q.1 q.2 := fun q hq => (hk3 q (hL1 q hq)).up e13
        have hpL := ks_pair hLh
        have hLl2 : L.length ≤ ks.length := by
          have := nodup_within (ys := ks.map Prod.snd) hL3 fun x hx => by
            obtain ⟨q, hq, rfl⟩ := List.mem_map.mp hx
            exact List.mem_map.mpr ⟨q, hL1 q hq, rfl⟩
          rwa [List.length_map, List.length_map] at this
        refine s_asgU9 ?_
        have p13 := Paired.mapP p12 fun _ _ z => lvR_d _ _ _ _ ex13 z
        have o13 := ex13 _ _ o12
        refine (ev_var rfl) H13 (Ex.refl _) _ fun H14 e14 => ?_
        refine m_lcLR (a := na) (xs := L.map fun q => V.ref q.1) (ev_var rfl) (sq_of (e14 _ _ hna13)) (fun D i Hx => H14 D = none ∧ Ex H14 Hx ∧ ∃ ws, Hx D = some (.lst ws) ∧ Paired (fun u l => LvR u l Hx) ws (((L.map Prod.snd).take i).filter fun l => !decide (l ∈ od))) (fun D H1 e1 hD => ⟨fresh_back e1 hD, e1.trans (Ex.new hD), [], upd_same, .nil⟩) (fun D i Hx _ h => ex_l h.2.1 (sq_of (e14 _ _ hna13))) (fun D i v Hx hv h => ?_) (fun D2 Hx h => ?_)
        · obtain ⟨hD, ex, ws, hws, hpw⟩ := h
          obtain ⟨l2, hl2, b3, rfl, hb3⟩ := paired_at hpL hv
          have htk2 : (L.map Prod.snd).take (i + 1) = (L.map Prod.snd).take i ++ [l2] := by rw [List.take_add_one, hl2]; rfl
          have hwl := Paired.length hpw
          have hwl2 := List.length_filter_le (fun l => !decide (l ∈ od)) ((L.map Prod.snd).take i)
          rw [List.length_take, List.length_map] at hwl2
          have ex14 := e14.trans ex
          refine ⟨rfl, ?_⟩
          refine (et_niLv (ls := od) (ev_var rfl) (hb3.up ex14) (ev_var rfl) (ex14 _ _ o13) (Paired.mapP p13 fun _ _ z => lvR_d _ _ _ _ ex14 z)) Hx (Ex.refl _) _ fun Hy ey => ?_
          by_cases hin : l2 ∈ od
          · rw [decide_eq_true hin]
            refine iteF9 ⟨hD, ex.trans ey, ws, ey _ _ hws, ?_⟩
            rw [htk2, List.filter_append, List.filter_cons, decide_eq_true hin]
            simpa using Paired.mapP hpw fun _ _ z => lvR_d _ _ _ _ ey z
          · rw [decide_eq_false hin]
            refine iteT9 ?_
            refine (ev_var rfl) Hy (Ex.refl _) _ fun Hz ez => ?_
            have hwsz := (ey.trans ez) _ _ hws
            have tt := ts_lst (o := .lst (ws ++ [.ref b3])) hwsz
            refine ⟨ws, hwsz, by rw [sizeLine_eq]; omega, hD, Ex.mut (ex.trans (ey.trans ez)) hD, ws ++ [.ref b3], upd_same, ?_⟩
            rw [htk2, List.filter_append, List.filter_cons, decide_eq_false hin]
            exact paired_append (Paired.mapP hpw fun _ _ z => z.ts ((Ts.of (ey.trans ez)).trans tt)) (.cons ⟨b3, rfl, (hb3.up (ex14.trans (ey.trans ez))).ts tt⟩ .nil)
        obtain ⟨hD2, ex2, ws2, hws2, hpw2⟩ := h
        rw [List.length_map, show (L.map Prod.snd).take L.length = L.map Prod.snd from List.take_of_length_le (by rw [List.length_map]; exact Nat.le_refl _)] at hpw2
        have hw2l := Paired.length hpw2
        have hw2f := List.length_filter_le (fun l => !decide (l ∈ od)) (L.map Prod.snd)
        rw [List.length_map] at hw2f
        have e13x := e14.trans ex2
        have hul' := Paired.length p12
        refine ⟨oa, D2, us', ws2, rfl, rfl, e13x _ _ o13, hws2, by rw [sizeLine_eq]; omega, fun na2 hna2 => ?_⟩
        have e16 := Ex.new (o := .lst (us' ++ ws2)) hna2
        have hn16 : upd Hx na2 (.lst (us' ++ ws2)) na2 = some (.lst (us' ++ ws2)) := upd_same
        generalize upd Hx na2 (.lst (us' ++ ws2)) = H16 at e16 hn16 ⊢
        have e1216 := (ex13.trans e13x).trans e16
        have nod : (od ++ (L.map Prod.snd).filter fun l => !decide (l ∈ od)).Nodup := List.nodup_append.mpr ⟨s5, hL3.sublist List.filter_sublist, fun x hx y hy e => by
          have := (List.mem_filter.mp hy).2
          rw [← e, decide_eq_true hx] at this; cases this⟩
        have newm : ∀ x ∈ (L.map Prod.snd).filter fun l => !decide (l ∈ od), ∃ y ∈ lnkD fs rs cs (dsW rs) s, y.2 = x := fun x hx => by
          obtain ⟨q, hq, rfl⟩ := List.mem_map.mp (List.mem_filter.mp hx).1
          exact hkm q (hL1 q hq)
        refine ⟨e1216 _ _ hpc12, od ++ (L.map Prod.snd).filter (fun l => !decide (l ∈ od)), na2, _, _, _, _, _, _, _, _, rfl, e12.trans e1216, sa12.up e1216, ⟨_, hn16, paired_append (Paired.mapP p13 fun _ _ z => lvR_d _ _ _ _ (e13x.trans e16) z) (Paired.mapP hpw2 fun _ _ z => lvR_d _ _ _ _ e16 z)⟩, ?_, nod, List.mem_append_left _ s6, fun x hx p hp => ?_, fun x hx => ?_, fun x hx => ?_⟩
        · rw [List.take_append_of_le_length (by omega)]
          exact d12.up lkR_d e1216
        · rw [List.take_append_of_le_length (by omega), htk] at hx
          rcases List.mem_append.mp hx with z | z
          · exact List.mem_append_left _ (s7 x z p hp)
          · rw [List.mem_singleton.mp z] at hp
            by_cases hin : p.2 ∈ od
            · exact List.mem_append_left _ hin
            · refine List.mem_append_right _ (List.mem_filter.mpr ⟨?_, by rw [decide_eq_false hin]; rfl⟩)
              have : p.2 ∈ ks.map Prod.snd := by rw [hk2]; exact List.mem_map.mpr ⟨p, hp, rfl⟩
              obtain ⟨q, hq, hq2⟩ := List.mem_map.mp this
              rw [← hq2]; exact hL2 q hq
        · rcases List.mem_append.mp hx with z | z
          · exact s8 x z
          · obtain ⟨y, hy, rfl⟩ := newm x z
            exact lnkD_ok hF (s8 s hsm) y hy
        · rcases List.mem_append.mp hx with z | z
          · exact s9 x z
          · obtain ⟨y, hy, rfl⟩ := newm x z
            exact .next (s9 s hsm) hy
    · subst hσ
      obtain ⟨s1, s2, _, s4, s5, s6, s7, s8, s9⟩ := S
      have h300' := small s5 s8
      rw [show ((300 : Int)).toNat = 300 from rfl, List.take_of_length_le h300'] at s4 s7
      refine s_retU (eu_tup (vs := [.ref sa, .ref fd]) (ea_cons (ev_var rfl) (ea_cons (ev_var rfl) ea_nil)) (show 2 ≤ 100000 by decide)) fun t H7 ht e7 h7 => ?_
      exact k t sa fd od H7 (fresh_back s1 ht) (s1.trans e7) h7 (s2.up e7) (s4.up lkR_d e7) ⟨s5, s6, s7, s8, s9⟩
end
end Fm
set_option maxHeartbeats 1000000
namespace Fm
open PySem PySem.W PySem.Calls PyProof.Rows PySem.Spec L2 Evl RZ
def rSortLv (K : PySem.W.Frag) (P : Program) (w : World) : List V → Hp → VK → Prop := fun vs H Q => ∃ (a : Addr) (kvs : List (NestedKey × V)) (ls : List Lv) (d : Nat), vs = [V.ref a] ∧ NDR P w H a kvs ∧ kvs.map Prod.fst = ls.map lvK ∧ ls.length < 64 ∧ 1 ≤ d ∧ (∀ l ∈ ls, l.length = d ∧ ∀ x ∈ l, x < 60) ∧
  ∀ (L : KsL) (p : Addr), (∀ q ∈ L, LvH H q.1 q.2) → (L.map Prod.snd).Perm ls → H p = none → Q (.ref p) (upd H p (.lst (L.map fun q => V.ref q.1)))
section
variable {X : Cx}
theorem cr_sortLv (hc : X.calm = true) : CallR X (.builtin "sorted") (rSortLv X.K X.prog X.w) := by
  intro pins s σ H vs us Q I r h
  obtain ⟨a, kvs, ls, d, rfl, g, hks, h64, hd1, hls, q⟩ := h
  rw [Vals.ref1 r]
  obtain ⟨hs, ks, z, rel, dd⟩ := nd_of I g
  obtain ⟨o, es, ep, ho, hx, hdt, he, _, hn⟩ := dd
  have l1 : es.size = ks.length := size_of_entries he
  have l2 : kvs.length = ks.length := Paired.length rel
  have l3 : kvs.length = ls.length := by
    have := congrArg List.length hks
    rwa [List.length_map, List.length_map] at this
  obtain ⟨T, hTd⟩ : ∃ T : KsL, T = (ks.zip ls).map fun z => (z.1.2.1, z.2) := ⟨_, rfl⟩
  have hT : ∀ q ∈ T, LvH H q.1 q.2 := fun q hq => by
    rw [hTd] at hq
    obtain ⟨⟨k, l⟩, hkl, rfl⟩ := List.mem_map.mp hq
    obtain ⟨i, hi⟩ := List.getElem?_of_mem hkl
    have hi := List.getElem?_zip_eq_some.mp hi
    obtain ⟨kv, h1, h2, ⟨h3, _⟩, _⟩ := paired_get rel hi.1
    have e1 : (kvs.map Prod.fst)[i]? = some kv.1 := by rw [List.getElem?_map, h1]; rfl
    rw [hks, List.getElem?_map, hi.2] at e1
    have e1 : lvK l = kv.1 := Option.some.inj e1
    show LvH H k.2.1 l
    exact nk_lv (by rw [e1]; exact h3)
  have hT1 : T.map Prod.fst = ks.map fun x => x.2.1 := by
    rw [hTd, List.map_map]
    rw [show (Prod.fst ∘ fun z : (NestedKey × Addr × Value) × Lv => (z.1.2.1, z.2)) = (fun x : NestedKey × Addr × Value => x.2.1) ∘ Prod.fst from rfl, ← List.map_map, List.map_fst_zip (by omega)]
  have hT2 : T.map Prod.snd = ls := by
    rw [hTd, List.map_map, show (Prod.snd ∘ fun z : (NestedKey × Addr × Value) × Lv => (z.1.2.1, z.2)) = Prod.snd from rfl, List.map_snd_zip (by omega)]
  refine Calls.call_function_entry PyProof.Rows.kind_sorted PyProof.Rows.plain_sorted PyProof.Rows.entry_sorted (PyProof.Rows.args_sorted1 _) ?_
  unfold Builtin.«sorted»
  refine wpAny_bind (m := checkCount "sorted" 1 1 _) (wpAny_pure ?_)
  refine wpAny_bind (PySem.W.kdu_collect (A := X.A.in1) (kdl_raw hs hx hdt) (I.ok.hd hc) ho (by rw [sizeLine_eq]; omega) fun h' tk acc hk hacc => ?_)
  have ea : acc.toList = T.map fun q => Value.ref q.1 := by
    have : T.map (fun q => Value.ref q.1) = (T.map Prod.fst).map Value.ref := by rw [List.map_map]; rfl
    rw [this, hT1, List.map_map]
    have hl : acc.toList.length = ks.length := by rw [Array.length_toList, hacc.1]; exact l1
    apply List.ext_getElem?
    intro j
    rw [List.getElem?_map]
    cases hj : acc.toList[j]? with
    | none =>
      have h1 := List.getElem?_eq_none_iff.mp hj
      rw [List.getElem?_eq_none (by omega)]
      all_goals rfl
    | some v =>
      obtain ⟨en, hen, hv⟩ := hacc.2 j v (by rw [← Array.getElem?_toList]; exact hj)
      have qe := entry_at he j
      rw [hen] at qe
      cases hb : ks[j]? with
      | none =>
        rw [hb] at qe
        exact nomatch (show some en = none from qe)
      | some b =>
        rw [hb] at qe
        have e2 : en = entryOfKey (nestedKind X.prog X.w) b := Option.some.inj qe
        rw [hv, e2]
        all_goals rfl
  have hTl : T.length = ls.length := by rw [← hT2, List.length_map]
  have I1 : Inv X pins σ H { s with heap := h', toks := tk } := I.kept hk
  refine wpAny_bind (wpAny_newList ?_ (by rw [ea, List.length_map, sizeLine_eq]; omega))
  have hoL : (h'.push (seqObj "list" acc.toList.toArray 0)).get? h'.objs.size = some (seqObj "list" acc.toList.toArray 0) := Heap.get?_push_size _ rfl
  have tk2 : ∀ q ∈ T, TS.TupInts (h'.push (seqObj "list" acc.toList.toArray 0)) (.ref q.1) (q.2.map fun (x : Nat) => (x : Int)) := fun q hq => by
    have h1 := tupI_raw I1 (t := q.1) (ns := q.2.map fun (x : Nat) => (x : Int)) (by rw [← nV_ints]; exact st_of (hT q hq))
    exact h1.keeps fun b o e _ => Heap.get?_push_of_some _ e
  have x : TS.TupsOk (h'.push (seqObj "list" acc.toList.toArray 0)) d 60 acc.toList := fun v hv => by
    rw [ea] at hv
    obtain ⟨q, hq, rfl⟩ := List.mem_map.mp hv
    have hql : q.2 ∈ ls := by rw [← hT2]; exact List.mem_map.mpr ⟨q, hq, rfl⟩
    refine ⟨_, tk2 q hq, by rw [List.length_map]; exact (hls _ hql).1, fun m hm => ?_⟩
    obtain ⟨y, hy, rfl⟩ := List.mem_map.mp hm
    have := (hls _ hql).2 y hy
    omega
  show wpAny _ _ _ _ _ { s with heap := h'.push (seqObj "list" acc.toList.toArray 0), toks := tk }
  refine wpAny_bind (wpAny_holding (TS.call_sort_tups (s := { s with heap := h'.push (seqObj "list" acc.toList.toArray 0), toks := tk }) hoL (by rw [ea, List.length_map]; omega) hd1 x fun out a1 a2 => ?_))
  obtain ⟨c, hcc⟩ := PyProof.Rows.sortedHeap_at (vs := acc.toList) (out := out) hoL
  have ord : ∀ ws : List Value, (∀ v ∈ ws, v ∈ T.map fun q => Value.ref q.1) → ∃ L1 : KsL, ws = L1.map (fun q => Value.ref q.1) ∧ ∀ q ∈ L1, q ∈ T := by
    intro ws
    induction ws with
    | nil => intro _; exact ⟨[], rfl, fun q hq => (by cases hq)⟩
    | cons v ws ih =>
      intro hv
      obtain ⟨q, hq, e⟩ := List.mem_map.mp (hv v List.mem_cons_self)
      obtain ⟨L1, e1, hs⟩ := ih fun u hu => hv u (List.mem_cons_of_mem _ hu)
      refine ⟨q :: L1, by rw [List.map_cons, e, e1], fun r hr => ?_⟩
      rcases List.mem_cons.mp hr with z | z
      · rw [z]; exact hq
      · exact hs r z
  obtain ⟨L1, e1, hL1⟩ := ord out.toList fun v hv => by rw [← ea]; exact a1.mem_iff.mp hv
  have one : ∀ q ∈ T, ∀ r ∈ T, q.1 = r.1 → q.2 = r.2 := fun q hq r hr e => by
    have b1 := hT q hq
    have b2 := hT r hr
    unfold LvH at b1 b2
    rw [e, b2] at b1
    have := Option.some.inj b1
    injection this with this
    exact (ofNat_map_inj (by have := this; rw [nV_ints, nV_ints] at this; exact (List.map_inj_right fun a b h => V.int.inj h).mp this)).symm
  have pm : (L1.map Prod.snd).Perm ls := by
    have p1 : (L1.map fun q => Value.ref q.1).Perm (T.map fun q => Value.ref q.1) := by rw [← e1, ← ea]; exact a1
    let g : Value → Lv := fun v => match T.find? fun q => decide (Value.ref q.1 = v) with | some q => q.2 | none => []
    have hg : ∀ q ∈ T, g (.ref q.1) = q.2 := fun q hq => by
      show (match T.find? fun r => decide (Value.ref r.1 = Value.ref q.1) with | some r => r.2 | none => []) = q.2
      cases hf : T.find? fun r => decide (Value.ref r.1 = Value.ref q.1) with
      | none => exact absurd (decide_eq_true rfl) (List.find?_eq_none.mp hf q hq)
      | some r =>
        have h1 := List.mem_of_find?_eq_some hf
        have h2 : decide (Value.ref r.1 = Value.ref q.1) = true := List.find?_some (p := fun r : Addr × Lv => decide (Value.ref r.1 = Value.ref q.1)) hf
        have h2 := of_decide_eq_true h2
        injection h2 with h2
        exact one r h1 q hq h2
    have p2 := p1.map g
    rw [List.map_map, List.map_map] at p2
    have m1 : L1.map (g ∘ fun q => Value.ref q.1) = L1.map Prod.snd := List.map_congr_left fun q hq => hg q (hL1 q hq)
    have m2 : T.map (g ∘ fun q => Value.ref q.1) = T.map Prod.snd := List.map_congr_left fun q hq => hg q hq
    rw [m1, m2, hT2] at p2
    exact p2
  have hlen : (L1.map fun q => V.ref q.1).length ≤ sizeLine := by
    have := pm.length_eq
    rw [List.length_map] at this
    rw [List.length_map, sizeLine_eq]; omega
  refine wpAny_pure ⟨_, rfl, .ref h'.objs.size, upd H h'.objs.size (.lst (L1.map fun q => V.ref q.1)), I1.laid (t' := tk) (fun b u e => ?_) (Nat.le_refl _)
    (show ObjOk X.prog X.w _ _ _ (.lst (L1.map fun q => V.ref q.1)) from ⟨hlen, out.toList, c, ?_, by rw [Array.toArray_toList]; exact hcc⟩), rfl, q L1 _ (fun r hr => hT r (hL1 r hr)) pm (I1.hok.fresh (Nat.le_refl _))⟩
  · have hb : b < h'.objs.size := Heap.lt_size e
    rw [PyProof.Rows.sortedHeap_old (Nat.ne_of_lt hb) (by rw [size_push']; exact Nat.lt_succ_of_lt hb)]
    exact Heap.get?_push_of_some _ e
  · rw [e1]
    have : ∀ L : KsL, Vals (L.map fun q => V.ref q.1) (L.map fun q => Value.ref q.1) := fun L => by
      induction L with
      | nil => exact .nil
      | cons q L ih => exact .cons rfl ih
    exact this L1
end
theorem sortLv_K {X : Cx} {K : PySem.W.Frag} {P : Program} {w : World} (hK : X.K = K) (hP : X.prog = P) (hw : X.w = w) (hc : X.calm = true) : CallR X (.builtin "sorted") (rSortLv K P w) := by subst hK hP hw; exact cr_sortLv hc
end Fm
set_option maxHeartbeats 1000000
namespace Fm
open PySem PySem.W PySem.Calls PyProof.Rows PySem.Spec L2 Evl
def tDisp1N (P : Program) (w : World) (te tf : TE) : TE := fun σ H Q => ∀ p, H p = none → te σ (upd H p (NDO P w p [])) fun y H1 => tf σ H1 fun z H2 => ∃ k b, y = .ref b ∧ NK H2 (.ref b) k ∧ k.depth ≤ 8 ∧ H2 p = some (NDO P w p []) ∧ ∀ xs', ND P w (upd H2 p (NDO P w p xs')) p [(k, z)] → Q (.ref p) (upd H2 p (NDO P w p xs'))
section
variable {X : Cx} {e f : Expr} {te tf : TE} {pos : Pos}
theorem pe_disp1N (hu : X.A.units + 64 < cLine) (he : PE X e te) (hf : PE X f tf) : PE X (.Dict [some e] [f] pos) (tDisp1N X.prog X.w te tf) := by
  refine ⟨fun pins s σ H Q I q => ?_⟩
  have hn := I.hok.fresh (Nat.le_refl s.heap.objs.size)
  obtain ⟨s', hs', I1⟩ := nd_new I
  subst hs'
  have hp : PPs X pos [some e] [f] [(te, tf)] := pps_cons he hf pps_nil
  have hall : [some e].all (·.isSome) = true := rfl
  have hz := zip_pairTrees [some e] [f] X.env pos hall rfl
  have hlen := pairTrees_length [some e] [f] X.env pos hall rfl
  rw [arm_eval_Dict, hz, dictDisplay_pairs (pairTrees [some e] [f] X.env pos) (fun z => by rw [z] at hlen; cases hlen) (by rw [hlen]; show 1 < 17; decide)]
  refine wpAny_bind (wpAny_standAt (wpAny_bind (wpAny_subDictH (knd := nestedKind X.prog X.w) (by show X.A.units + 8 < cLine; omega) (by rw [hlen]; show 1 ≤ 15; decide) ?_)))
  let Qp : List (V × V) → Hp → Prop := fun ps H2 => match ps with
    | [(y, z)] => ∃ k b, y = .ref b ∧ NK H2 (.ref b) k ∧ k.depth ≤ 8 ∧ H2 s.heap.objs.size = some (NDO X.prog X.w s.heap.objs.size []) ∧ ∀ xs', ND X.prog X.w (upd H2 s.heap.objs.size (NDO X.prog X.w s.heap.objs.size xs')) s.heap.objs.size [(k, z)] → Q (.ref s.heap.objs.size) (upd H2 s.heap.objs.size (NDO X.prog X.w s.heap.objs.size xs'))
    | _ => False
  have q' : tPairs [(te, tf)] σ (upd H s.heap.objs.size (NDO X.prog X.w s.heap.objs.size [])) Qp := q _ hn
  refine thn (hp.run pins _ σ _ Qp I1 q') fun ws s2 ⟨ps, H2, I2, rel, hq⟩ => ?_
  cases rel with
  | nil => exact hq.elim
  | @cons p wv ps ws h1 t =>
    cases t with
    | cons _ _ => exact hq.elim
    | nil =>
      obtain ⟨y, z⟩ := p
      obtain ⟨k, b, rfl, hk, hdp, hd2, q2⟩ := hq
      obtain ⟨u, r⟩ := wv
      obtain ⟨ru, rr⟩ := h1
      have ru : RelV (.ref b) u := ru
      have rr : RelV z r := rr
      obtain rfl : u = Value.ref b := ru
      obtain ⟨⟨hd, o, es, ep, a1, a2, a3, a4, a5⟩, _⟩ := (show ObjOk X.prog X.w H2 s2.heap s.heap.objs.size (NDO X.prog X.w s.heap.objs.size []) from I2.hok _ _ hd2)
      have dd : s2.heap.DictOfH (nestedKind X.prog X.w) s.heap.objs.size [] := ⟨o, es, ep, a1, a2, a3, a4, fun _ z => (nomatch z), a5⟩
      have hki : (nestedKind X.prog X.w).is s2.heap k b := ⟨nk_is I2.hok hk rfl, hdp⟩
      refine ⟨[(k, b, r)], ⟨rfl, rfl, hki, True.intro⟩, dd, fun h' tk dd' hs => ?_⟩
      have he : ∃ q, h'.get? s.heap.objs.size = some q := let ⟨q, _, _, hq, _⟩ := dd'; ⟨q, hq⟩
      have dd' : h'.DictOfH (nestedKind X.prog X.w) s.heap.objs.size [(k, b, r)] := dd'
      refine wpAny_pure ⟨.ref s.heap.objs.size, _, d_write (t' := tk) I2 (by rw [hd2]; exact True.intro) hs he (ndo_ok hd dd'), rfl, q2 [(k, b, r)] ⟨[(k, b, r)], upd_same, by show 1 ≤ sizeLine; rw [sizeLine_eq]; decide, .cons ⟨rfl, ⟨?_, hdp⟩, rr⟩ .nil⟩⟩
      refine hk.up fun c ys hc => ?_
      rw [upd_ne fun e => by rw [e, hd2] at hc; cases hc]
      exact hc
end
theorem disp1N_K {X : Cx} {P : Program} {w : World} {e f : Expr} {te tf : TE} {pos : Pos} (hP : X.prog = P) (hw : X.w = w) (hu : X.A.units + 64 < cLine) (he : PE X e te) (hf : PE X f tf) : PE X (.Dict [some e] [f] pos) (tDisp1N P w te tf) := by subst hP hw; exact pe_disp1N hu he hf
end Fm
set_option maxHeartbeats 1000000
namespace Fm
open PySem L2 Evl RZ
def wv (d : Option Nat) : Nat := if d = none then 1 else 0
inductive WkW (L : LkF) (s : Lv) : Nat → Nat → Lv → Prop where
  | nil : WkW L s 0 0 s
  | snoc {n k : Nat} {e t : Lv} {d : Option Nat} : WkW L s n k e → (d, t) ∈ L e → WkW L s (n + 1) (k + wv d) t
theorem WkW.le {L : LkF} {s e : Lv} {n k : Nat} (h : WkW L s n k e) : k ≤ n := by
  induction h with
  | nil => exact Nat.le_refl _
  | @snoc n k e t d _ _ ih =>
    have : wv d ≤ 1 := by unfold wv; split <;> omega
    omega
theorem WkW.sub {L : LkF} {sp : List Lv} {s e : Lv} {n k : Nat} (hc : ∀ s ∈ sp, ∀ p ∈ L s, p.2 ∈ sp) (hs : s ∈ sp) (h : WkW L s n k e) : e ∈ sp := by
  induction h with
  | nil => exact hs
  | snoc _ h1 ih => exact hc _ ih _ h1
structure SumI (L : LkF) (s : Lv) (n : Nat) (sums : List (Lv × Nat)) : Prop where
  nd : (sums.map Prod.fst).Nodup
  at_ : ∀ l k, lkp sums l = some k → WkW L s n k l
  all : ∀ l k, WkW L s n k l → ∃ m, lkp sums l = some m ∧ k ≤ m
structure LatI (L : LkF) (s : Lv) (n : Nat) (sums : List (Lv × Nat)) (i : Nat) (ps : List (Option Nat × Lv)) (cur : Nat) (lat : List (Lv × Nat)) : Prop where
  nd : (lat.map Prod.fst).Nodup
  at_ : ∀ l k, lkp lat l = some k → WkW L s (n + 1) k l
  old : ∀ x ∈ sums.take i, ∀ p ∈ L x.1, ∃ m, lkp lat p.2 = some m ∧ x.2 + wv p.1 ≤ m
  cur : ∀ p ∈ ps, ∃ m, lkp lat p.2 = some m ∧ cur + wv p.1 ≤ m
theorem LatI.put {L : LkF} {s : Lv} {n i c : Nat} {sums lat : List (Lv × Nat)} {ps : List (Option Nat × Lv)} {p : Option Nat × Lv} (I : LatI L s n sums i ps c lat) (hw : WkW L s (n + 1) (c + wv p.1) p.2) : LatI L s n sums i (ps ++ [p]) c (putL lat p.2 (max ((lkp lat p.2).getD 0) (c + wv p.1))) := by
  have up : ∀ {l : Lv} {m k : Nat}, lkp lat l = some m → k ≤ m → ∃ m', lkp (putL lat p.2 (max ((lkp lat p.2).getD 0) (c + wv p.1))) l = some m' ∧ k ≤ m' := fun {l m k} h1 h2 => by
    rw [lkp_put]
    by_cases e : l = p.2
    · rw [if_pos e]
      refine ⟨_, rfl, ?_⟩
      rw [← e, h1]
      show k ≤ max m _
      omega
    · rw [if_neg e]; exact ⟨m, h1, h2⟩
  refine ⟨putL_nodup I.nd, fun l k h => ?_, fun x hx q hq => ?_, fun q hq => ?_⟩
  · rw [lkp_put] at h
    by_cases e : l = p.2
    · rw [if_pos e] at h
      cases h
      rw [e]
      cases hl : lkp lat p.2 with
      | none =>
        show WkW L s (n + 1) (max 0 (c + wv p.1)) p.2
        rw [Nat.max_eq_right (Nat.zero_le _)]; exact hw
      | some m =>
        show WkW L s (n + 1) (max m (c + wv p.1)) p.2
        rcases Nat.le_total m (c + wv p.1) with g | g
        · rw [Nat.max_eq_right g]; exact hw
        · rw [Nat.max_eq_left g]; exact I.at_ _ _ hl
    · rw [if_neg e] at h; exact I.at_ _ _ h
  · obtain ⟨m, h1, h2⟩ := I.old x hx q hq
    exact up h1 h2
  · rcases List.mem_append.mp hq with hq | hq
    · obtain ⟨m, h1, h2⟩ := I.cur q hq
      exact up h1 h2
    · rw [List.mem_singleton.mp hq, lkp_put, if_pos rfl]
      exact ⟨_, rfl, Nat.le_max_right _ _⟩
theorem LatI.fin {L : LkF} {s : Lv} {n : Nat} {sums lat : List (Lv × Nat)} {c : Nat} (S : SumI L s n sums) (I : LatI L s n sums sums.length [] c lat) : SumI L s (n + 1) lat := by
  refine ⟨I.nd, I.at_, fun l k h => ?_⟩
  cases h with
  | @snoc _ k e t d h1 h2 =>
    obtain ⟨m, g1, g2⟩ := S.all e k h1
    obtain ⟨m', g3, g4⟩ := I.old (e, m) (by rw [List.take_length]; exact lkp_mem g1) (d, l) h2
    exact ⟨m', g3, by simp only at g4; omega⟩
def BestI (L : LkF) (sp : List Lv) (done : Lv → Nat → Prop) : Option (Nat × Nat) → Prop
  | none => ∀ s n k, done s n → ¬ WkW L s n k s
  | some (a, b) => 0 < b ∧ b ≤ sp.length ∧ a ≤ b ∧ (∃ s ∈ sp, WkW L s b a s) ∧ ∀ s n k, done s n → WkW L s n k s → k * b ≤ a * n
theorem BestI.imp {L : LkF} {sp : List Lv} {d d' : Lv → Nat → Prop} {o : Option (Nat × Nat)} (h : ∀ s n, d' s n → d s n) (b : BestI L sp d o) : BestI L sp d' o := by
  cases o with
  | none => exact fun s n k hd => b s n k (h s n hd)
  | some q => exact ⟨b.1, b.2.1, b.2.2.1, b.2.2.2.1, fun s n k hd => b.2.2.2.2 s n k (h s n hd)⟩
theorem ratio_trans {k n a b m t : Nat} (hb : 0 < b) (h1 : k * b ≤ a * n) (h2 : a * t ≤ m * b) : k * t ≤ m * n := by
  refine (Nat.mul_le_mul_left_iff hb).mp ?_
  have e1 : b * (k * t) = (k * b) * t := by rw [← Nat.mul_assoc, Nat.mul_comm b k]
  have e2 : b * (m * n) = (m * b) * n := by rw [← Nat.mul_assoc, Nat.mul_comm b m]
  rw [e1, e2]
  have h3 := Nat.mul_le_mul_right t h1
  have h4 := Nat.mul_le_mul_right n h2
  have e3 : a * n * t = a * t * n := by rw [Nat.mul_assoc, Nat.mul_comm n t, ← Nat.mul_assoc]
  omega
theorem BestI.step {L : LkF} {sp : List Lv} {d : Lv → Nat → Prop} {o : Option (Nat × Nat)} {s : Lv} {t : Nat} {sums : List (Lv × Nat)} (hs : s ∈ sp) (ht : t + 1 ≤ sp.length) (S : SumI L s (t + 1) sums) (b : BestI L sp d o) :
    BestI L sp (fun s' n => d s' n ∨ (s' = s ∧ n = t + 1)) (match lkp sums s with | none => o | some m => (match o with | none => some (m, t + 1) | some (x, y) => if x * (t + 1) < m * y then some (m, t + 1) else some (x, y))) := by
  cases hl : lkp sums s with
  | none =>
    have hno : ∀ k, ¬ WkW L s (t + 1) k s := fun k h => by obtain ⟨m, g, _⟩ := S.all s k h; rw [hl] at g; cases g
    cases o with
    | none =>
      intro s' n k hd
      rcases hd with h | ⟨rfl, rfl⟩
      · exact b s' n k h
      · exact hno k
    | some q =>
      obtain ⟨x, y⟩ := q
      refine ⟨b.1, b.2.1, b.2.2.1, b.2.2.2.1, fun s' n k hd hw => ?_⟩
      rcases hd with h | ⟨rfl, rfl⟩
      · exact b.2.2.2.2 s' n k h hw
      · exact absurd hw (hno k)
  | some m =>
    have hm := S.at_ s m hl
    have hle : ∀ k, WkW L s (t + 1) k s → k ≤ m := fun k h => by obtain ⟨m', g, g2⟩ := S.all s k h; rw [hl] at g; cases g; exact g2
    cases o with
    | none =>
      refine ⟨Nat.succ_pos _, ht, hm.le, ⟨s, hs, hm⟩, fun s' n k hd hw => ?_⟩
      rcases hd with h | ⟨rfl, rfl⟩
      · exact absurd hw (b s' n k h)
      · exact Nat.mul_le_mul_right _ (hle k hw)
    | some q =>
      obtain ⟨x, y⟩ := q
      show BestI L sp _ (if x * (t + 1) < m * y then some (m, t + 1) else some (x, y))
      by_cases hc : x * (t + 1) < m * y
      · rw [if_pos hc]
        refine ⟨Nat.succ_pos _, ht, hm.le, ⟨s, hs, hm⟩, fun s' n k hd hw => ?_⟩
        rcases hd with h | ⟨rfl, rfl⟩
        · exact ratio_trans b.1 (b.2.2.2.2 s' n k h hw) (Nat.le_of_lt hc)
        · exact Nat.mul_le_mul_right _ (hle k hw)
      · rw [if_neg hc]
        refine ⟨b.1, b.2.1, b.2.2.1, b.2.2.2.1, fun s' n k hd hw => ?_⟩
        rcases hd with h | ⟨rfl, rfl⟩
        · exact b.2.2.2.2 s' n k h hw
        · have := Nat.mul_le_mul_right y (hle k hw)
          omega
theorem q_parR {σ : L2.St} {H : Hp} {D : Ends} {tz : TS} {ta : TA} {i j : Nat} (h : ta σ H fun vs H1 => ∃ v w, vs = [v, w] ∧ tz D ((σ.set i (some v)).set j (some w)) H1) : tSeq (tPar i j ta) tz D σ H := h
theorem ev_ngetV {P : Program} {w : World} {σ : L2.St} {H : Hp} {td ty : TE} {d b : Addr} {s : Lv} {kvs : List (NestedKey × V)} {v : V} (hd : Ev td σ H (.ref d)) (hy : Ev ty σ H (.ref b)) (h : NDR P w H d kvs) (hb : LvH H b s) (e : valV kvs (lvK s) = some v) : Ev (tNGet P w td ty) σ H v := fun H1 e1 Q q => hd H1 e1 _ fun H2 e2 => hy H2 (e1.trans e2) _ fun H3 e3 => ⟨d, v, rfl, ⟨kvs, lvK s, h.up ((e1.trans e2).trans e3), (hb.up ((e1.trans e2).trans e3)).nk, lvK_depth s, ⟨b, rfl⟩, e.symm⟩, q H3 (e2.trans e3)⟩
theorem m_cb1 {σ : L2.St} {H : Hp} {Q : VK} {te : TE} {r : List V → Hp → VK → Prop} (h : te σ H fun v H1 => r [v] H1 Q) : tCB r (tCons te tNil) σ H Q := h
theorem m_cbT {σ : L2.St} {H : Hp} {Q : VK} {ta tb : TE} {r : List V → Hp → VK → Prop} (h : ta σ H fun v H1 => tb σ H1 fun u H2 => r [v, u] H2 Q) : tCB r (tCons ta (tCons tb tNil)) σ H Q := h
def BsR (v : V) (o : Option (Nat × Nat)) (H : Hp) : Prop := match o with | none => v = .non | some (x, y) => ∃ a, v = .ref a ∧ H a = some (.tup [.int (x : Nat), .int (y : Nat)])
theorem BsR.up {v : V} {o : Option (Nat × Nat)} {H H' : Hp} (e : Ex H H') (h : BsR v o H) : BsR v o H' := by
  cases o with
  | none => exact h
  | some q => obtain ⟨a, h1, h2⟩ := h; exact ⟨a, h1, e _ _ h2⟩
def spLMost (P : Program) (w : World) : Sp := fun vs H Q _ => ∃ (fd : Addr) (sp : List Lv) (L : LkF) (d : Nat), vs = [.ref fd] ∧ DW P w LkR H fd (sp.map fun s => (s, L s)) ∧ sp.Nodup ∧ (∀ s ∈ sp, ∀ p ∈ L s, p.2 ∈ sp) ∧ (∀ s, (L s).length ≤ 20) ∧ sp.length < 64 ∧ 1 ≤ d ∧ (∀ s ∈ sp, s.length = d ∧ ∀ x ∈ s, x < 60) ∧
  ∀ v o H', Ex H H' → BsR v o H' → BestI L sp (fun s n => s ∈ sp ∧ 1 ≤ n ∧ n ≤ sp.length) o → Q v H'
section
variable {P : Program} {w : World} {K : PySem.W.Frag} {mg : Str → Option Value} {base : Heap}
abbrev s_law_most : Stmt := top 42
theorem sc_law_most : FnScope ["found", "best", "nodes", "start", "sums", "turn", "later", "lives", "deed", "other"] ["found"] (defScope s_law_most) := ⟨rfl, rfl, rfl, by decide +kernel, rfl, by decide +kernel, by decide +kernel⟩
theorem ok_lmost {f : Addr} {fd : FuncData} (F : Fun K "_law_most" "_law_most" s_law_most f fd) (T : Txt K mg) : FnOk P w K mg base CX0 2 f fd ["found"] (spLMost P w) := by
  refine F.ok sc_law_most (fun vs H Q E h => ?_) (fun cdv A outer s H vs Q E hr h => ?_)
  · obtain ⟨_, _, _, _, rfl, _⟩ := h
    rfl
  · obtain ⟨fd, sp, L, d, rfl, hfd, hsn, hcl, hL, hsl, hd1, hlv, k⟩ := h
    refine ⟨_, (pss_cons (ps_par (i := 1) (j := 2) (by rfl) sc_law_most.nd rfl rfl (by decide) rfl rfl (pa_cons pe_non (pa_cons (pe_callB (sortLv_K (K := K) (P := P) (w := w) rfl rfl rfl rfl) (by rfl) T.z_sorted (by decide +kernel) (pa_cons (pv 0) pa_nil)) pa_nil)) (by rfl))
  (pss_cons (ps_for PassesOwn.never rfl (pi_listK (K := K) rfl (pv 2)) (pg_name (i := 3) sc_law_most.nd rfl (by first | exact Or.inl rfl | exact Or.inr rfl)) (pss_cons (ps_set (i := 4) sc_law_most.nd rfl (Or.inl rfl) (disp1N_K (P := P) (w := w) rfl rfl hr.units (pv 3) pe_int))
  (pss_one (ps_for PassesOwn.never rfl (pi_range1 rfl T.z_range (pa_cons (pe_callB (len_K (K := K) rfl) (by rfl) T.z_len (by decide +kernel) (pa_cons (pv 2) pa_nil)) pa_nil)) (pg_name (i := 5) sc_law_most.nd rfl (by first | exact Or.inl rfl | exact Or.inr rfl)) (pss_cons (ps_set (i := 6) sc_law_most.nd rfl (Or.inl rfl) (nnew_K (P := P) (w := w) rfl rfl))
  (pss_cons (ps_lock (ps_for PassesOwn.never rfl (keysN_K (P := P) (w := w) rfl rfl (pv 4)) (pg_name (i := 7) sc_law_most.nd rfl (by first | exact Or.inl rfl | exact Or.inr rfl)) (pss_one (ps_for PassesOwn.never rfl (pi_listK (K := K) rfl (nget_K (P := P) (w := w) rfl rfl hr.units (pv 0) (pv 7) (fun _ _ => rfl))) (pg_tup rfl (pgs_cons (pg_name (i := 8) sc_law_most.nd rfl (by first | exact Or.inl rfl | exact Or.inr rfl)) (pgs_cons (pg_name (i := 9) sc_law_most.nd rfl (by first | exact Or.inl rfl | exact Or.inr rfl)) pgs_nil))) (pss_one (nput_K (P := P) (w := w) rfl rfl hr.units (pv 6) (pv 9) (pe_callB (call_max2 rfl) (by rfl) T.z_max (by decide +kernel) (pa_cons (ngetd_K (P := P) (w := w) rfl rfl hr.units (pv 6) (pv 9) pe_int ⟨by rfl, by rfl, by rfl, by rfl⟩) (pa_cons (pe_op op_add (nget_K (P := P) (w := w) rfl rfl hr.units (pv 4) (pv 7) (fun _ _ => rfl)) (pe_ifExp (pt_cmpR op_isN (pv 8) pe_non (nomark _)) pe_int pe_int)) pa_nil))) rfl))))))
  (pss_cons (ps_set (i := 4) sc_law_most.nd rfl (Or.inl rfl) (pv 6))
  (pss_one (ps_if (PW.pt (pw_and (pt_cmp (nin_K' (P := P) (w := w) rfl rfl hr.units (pv 3) (pv 4)) rfl) (pw_and1 (PW.pt (pw_or (pt_cmpR op_isN (pv 1) pe_non (nomark _)) (pw_or1 (pt_cmpR op_gt (pe_op op_mul (nget_K (P := P) (w := w) rfl rfl hr.units (pv 4) (pv 3) (fun _ _ => rfl)) (pe_ix (ix_K (K := K) rfl) (pv 1) pe_int (fun _ _ => rfl))) (pe_op op_mul (pe_ix (ix_K (K := K) rfl) (pv 1) pe_int (fun _ _ => rfl)) (pe_op op_add (pv 5) pe_int)) (nomark _)))))))) (pss_one (ps_set (i := 1) sc_law_most.nd rfl (Or.inl rfl) (pe_tup (pa_cons (nget_K (P := P) (w := w) rfl rfl hr.units (pv 4) (pv 3) (fun _ _ => rfl)) (pa_cons (pe_op op_add (pv 5) pe_int) pa_nil))))) pss_nil)))))))))
  (pss_one (ps_ret (pv 1))))), ?_⟩
    obtain ⟨kvs, hnd, hkvs⟩ := hfd.at_
    have hkk : kvs.map Prod.fst = sp.map lvK := by
      have : ∀ (kvs : List (NestedKey × V)) (sp : List Lv), Paired (DPr LkR H) kvs (sp.map fun s => (s, L s)) → kvs.map Prod.fst = sp.map lvK := fun kvs sp h => by
        induction sp generalizing kvs with
        | nil => cases h; rfl
        | cons s sp ih =>
          cases h with
          | cons h t => rw [List.map_cons, List.map_cons, ih _ t, h.1]
      exact this kvs sp hkvs
    refine q_parR (m_consR9 (ev_c H (Ex.refl _) _ fun H1 e1 => m_consR9 (m_cb1 ?_)))
    refine (ev_var rfl) H1 (Ex.refl _) _ fun H2 e2 => ?_
    have e02 := e1.trans e2
    refine ⟨fd, kvs, sp, d, rfl, (hnd.up e02).r, hkk, hsl, hd1, hlv, fun Ln na hLn hperm hna => m_nilR ⟨_, _, rfl, ?_⟩⟩
    have e3 := Ex.new (o := .lst (Ln.map fun q => V.ref q.1)) hna
    have hna3 : upd H2 na (.lst (Ln.map fun q => V.ref q.1)) na = some (.lst (Ln.map fun q => V.ref q.1)) := upd_same
    have hL3 : ∀ q ∈ Ln, LvH (upd H2 na (.lst (Ln.map fun q => V.ref q.1))) q.1 q.2 := fun q hq => (hLn q hq).up e3
    generalize upd H2 na (.lst (Ln.map fun q => V.ref q.1)) = H3 at e3 hna3 hL3 ⊢
    try dsimp only [List.set]
    have e03 := e02.trans e3
    have hlen : Ln.length = sp.length := by have := hperm.length_eq; rwa [List.length_map] at this
    have hmemL : ∀ l, l ∈ Ln.map Prod.snd ↔ l ∈ sp := fun l => hperm.mem_iff
    refine q_forLn (a := na) (xs := Ln.map fun q => V.ref q.1) (ev_var rfl) (sq_of hna3) (fun i σ' H' => ∃ v o z3 z4 z5 z6 z7 z8 z9, σ' = [some (.ref fd), some v, some (.ref na), z3, z4, z5, z6, z7, z8, z9] ∧ Ex H3 H' ∧ BsR v o H' ∧ BestI L sp (fun s n => s ∈ (Ln.map Prod.snd).take i ∧ 1 ≤ n ∧ n ≤ sp.length) o) (fun H4 e4 => ⟨.non, none, _, _, _, _, _, _, _, rfl, e4, rfl, fun s n k hd => nomatch hd.1⟩) (fun i σ' H' _ ⟨_, _, _, _, _, _, _, _, _, _, e, _⟩ => sq_of (e _ _ hna3)) (fun i u σ' H4 hu ⟨v, o, z3, z4, z5, z6, z7, z8, z9, hσ, e4, hv, hb⟩ => ?_) (fun σ' H4 ⟨v, o, z3, z4, z5, z6, z7, z8, z9, hσ, e4, hv, hb⟩ => ?_)
    · subst hσ
      rw [List.getElem?_map] at hu
      obtain ⟨q, hq, rfl⟩ := Option.map_eq_some_iff.mp hu
      have hqm := List.mem_of_getElem? hq
      obtain ⟨sb, s⟩ := q
      have hs : s ∈ sp := (hmemL s).mp (List.mem_map.mpr ⟨_, hqm, rfl⟩)
      have hsb : LvH H4 sb s := (hL3 _ hqm).up e4
      have htk : (Ln.map Prod.snd).take (i + 1) = (Ln.map Prod.snd).take i ++ [s] := by rw [List.take_add_one, List.getElem?_map, hq]; rfl
      try dsimp only [List.set]
      refine q_asgU9 fun d0 hd0 => ?_
      have e5 := Ex.new (o := NDO P w d0 []) hd0
      have hd5 : upd H4 d0 (NDO P w d0 []) d0 = some (NDO P w d0 []) := upd_same
      generalize upd H4 d0 (NDO P w d0 []) = H5 at e5 hd5 ⊢
      refine (ev_var rfl) H5 (Ex.refl _) _ fun H6 e6 => ?_
      refine ev_c H6 (Ex.refl _) _ fun H7 e7 => ?_
      have e57 := e6.trans e7
      refine ⟨lvK s, sb, rfl, (hsb.up (e5.trans e57)).nk, lvK_depth s, e57 _ _ hd5, fun xs' hnd' => ?_⟩
      have hd00 : H4 d0 = none := hd0
      have e8 : Ex H4 (upd H7 d0 (NDO P w d0 xs')) := Ex.mut (e5.trans e57) hd0
      have s8 : DW P w NaR (upd H7 d0 (NDO P w d0 xs')) d0 [(s, 0)] := ⟨_, hnd', .cons ⟨rfl, rfl⟩ .nil⟩
      generalize upd H7 d0 (NDO P w d0 xs') = H8 at e8 s8 ⊢
      try dsimp only [List.set]
      have e38 := e4.trans e8
      refine s_forR1 (n := ((sp.length : Nat) : Int)) (ea_cons (ev_is (ev_lnL (ev_var rfl) (sq_of (e38 _ _ hna3))) (by rw [List.length_map, hlen])) ea_nil) ⟨by omega, by omega⟩ (fun t σ' H' => ∃ v o ds sums z5 z6 z7 z8 z9, σ' = [some (.ref fd), some v, some (.ref na), some (.ref sb), some (.ref ds), z5, z6, z7, z8, z9] ∧ Ex H3 H' ∧ BsR v o H' ∧ DW P w NaR H' ds sums ∧ SumI L s t sums ∧ BestI L sp (fun s' n => (s' ∈ (Ln.map Prod.snd).take i ∧ 1 ≤ n ∧ n ≤ sp.length) ∨ (s' = s ∧ 1 ≤ n ∧ n ≤ t)) o ∧ H3 ds = none) (fun H9 e9 => ⟨v, o, d0, [(s, 0)], _, _, _, _, _, rfl, e38.trans e9, hv.up (e8.trans e9), s8.up naR_d e9, ⟨List.pairwise_singleton _ _, fun l k h => ?_, fun l k h => ?_⟩, hb.imp fun s' n hd => hd.resolve_right fun z => by omega, fresh_back e4 hd0⟩) (fun t σ' H9 ht ⟨v, o, ds, sums, z5, z6, z7, z8, z9, hσ, e9, hv, hsums, hS, hB, hds3⟩ => ?_) (fun σ' H9 ⟨v, o, ds, sums, z5, z6, z7, z8, z9, hσ, e9, hv, hsums, hS, hB, hds3⟩ => ?_)
      · rw [lkp_cons, lkp_nil] at h
        by_cases e : s = l
        · rw [if_pos e] at h
          cases h
          rw [← e]; exact .nil
        · rw [if_neg e] at h; cases h
      · cases h
        exact ⟨0, by rw [lkp_cons, if_pos rfl], Nat.le_refl _⟩
      · subst hσ
        have ht : t < sp.length := by omega
        try dsimp only [List.set]
        refine q_asgU9 fun dl hdl => ?_
        have e10 := Ex.new (o := NDO P w dl []) hdl
        have l10 : DW P w NaR (upd H9 dl (NDO P w dl [])) dl [] := ⟨[], ⟨[], upd_same, Nat.zero_le _, .nil⟩, .nil⟩
        have sums10 := hsums.up naR_d e10
        generalize upd H9 dl (NDO P w dl []) = H10 at e10 l10 sums10 ⊢
        try dsimp only [List.set]
        obtain ⟨kvS, hndS, hkvS⟩ := id sums10.at_
        obtain ⟨ysS, hysS, _, _⟩ := id hndS
        have hkSl : kvS.length = sums.length := Paired.length hkvS
        have hdsl : dl ≠ ds := fun z => by obtain ⟨_, ⟨y0, g, _⟩, _⟩ := hsums.at_; rw [z, g] at hdl; cases hdl
        have hsumk : ∀ x ∈ sums, x.1 ∈ sp ∧ WkW L s t x.2 x.1 := fun x hx => by
          have := hS.at_ x.1 x.2 (lkp_of_mem hS.nd hx)
          exact ⟨this.sub hcl hs, this⟩
        have hsl2 : sums.length ≤ sp.length := by
          have := nodup_within hS.nd fun x hx => by
            obtain ⟨y, hy, rfl⟩ := List.mem_map.mp hx
            exact (hsumk y hy).1
          rwa [List.length_map] at this
        have hfd0 : ∀ {o}, H fd = some o → H3 fd = some o := fun h => e03 _ _ h
        obtain ⟨ysF, hysF, _, _⟩ := id hnd
        have hfds : fd ≠ ds := fun z => by have := e03 _ _ hysF; rw [z, hds3] at this; cases this
        have e310 := e9.trans e10
        let St : Obj → NRaw → List (Lv × Nat) → Hp → Prop := fun od xs lat H' => H' ds = some (.frz od (NDO P w ds xs)) ∧ H10 ds = some (NDO P w ds xs) ∧ (∀ y o, y ≠ ds → H9 y = some o → H' y = some o) ∧ Ts H10 H' ∧ DW P w NaR H' dl lat
        have StUp : ∀ {od xs lat H' H''}, Ex H' H'' → St od xs lat H' → St od xs lat H'' := fun {od xs lat H' H''} e ⟨s1, s2, s3, s4, s5⟩ => ⟨e _ _ s1, s2, fun y o a b => e _ _ (s3 y o a b), s4.trans (Ts.of e), s5.up naR_d e⟩
        have klS : ∀ {od xs lat H'}, St od xs lat H' → Kl H9 H' := fun {od xs lat H'} ⟨_, s2, s3, _⟩ y o hy ho => s3 y o (fun z => by
          have := e10 _ _ hy
          rw [z, s2] at this
          have := Option.some.inj this
          rw [← this] at ho
          rcases ho with ⟨_, e⟩ | ⟨_, e⟩ <;> (unfold NDO at e; cases e)) hy
        have fdS : ∀ {od xs lat H'}, St od xs lat H' → DW P w LkR H' fd (sp.map fun s => (s, L s)) := fun {od xs lat H'} S => (hfd.up lkR_d (e03.trans e9)).kl (fun _ _ h => h.kl (klS S)) (klS S) fun o ho => S.2.2.1 _ _ hfds ho
        have sumS : ∀ {od xs lat H'}, St od xs lat H' → DR P w NaR H' ds sums := fun {od xs lat H'} S => by
          obtain ⟨ks, ⟨y1, g1, g2, g3⟩, g4⟩ := sums10.at_
          refine ⟨ks, ⟨y1, .inr ⟨od, ?_⟩, g2, g3.up fun b ys hb => S.2.2.2.1 _ _ hb⟩, Paired.mapP g4 fun _ _ z => ⟨z.1, z.2⟩⟩
          have := S.2.1
          rw [g1] at this
          have := Option.some.inj this
          rw [this]; exact S.1
        refine q_inR (s_forKeysR (P := P) (w := w) (kvs := kvS) hndS (fun od xs => ev_var rfl) (fun od xs j σ' H' => ∃ lat z7 z8 z9, σ' = [some (.ref fd), some v, some (.ref na), some (.ref sb), some (.ref ds), some (.int (t : Int)), some (.ref dl), z7, z8, z9] ∧ St od xs lat H' ∧ LatI L s t sums j [] 0 lat) ?_ ?_ ?_ ?_)
        · intro od xs H11 hx2 e11
          have hxn : ∀ y o, y ≠ ds → H10 y = some o → H11 y = some o := fun y o hy ho => e11 _ _ (by rw [upd_ne hy]; exact ho)
          have ts : Ts H10 H11 := fun b ys hb => hxn _ _ (fun z => by rw [z, hx2] at hb; unfold NDO at hb; cases hb) hb
          exact ⟨[], _, _, _, rfl, ⟨e11 _ _ upd_same, hx2, fun y o hy ho => hxn _ _ hy (e10 _ _ ho), ts, l10.mv (R := NaR) (H := H10) (fun _ _ h => h) ts fun o ho => hxn _ _ hdsl ho⟩, List.nodup_nil, fun _ _ h => (nomatch h), fun x hx => (by rw [List.take_zero] at hx; cases hx), fun _ h => nomatch h⟩
        · rintro od xs j σ' H' ⟨lat, z7, z8, z9, rfl, S, _⟩
          exact ⟨S.1, fun b ys hb => S.2.2.2.1 _ _ hb⟩
        · rintro od xs j kv kb σ' H11 hkv hnk ⟨lat, z7, z8, z9, rfl, S, I⟩
          obtain ⟨x, hx, hkv1, _⟩ := paired_at hkvS hkv
          have hnk := hkv1 ▸ hnk
          have hkb : LvH H11 kb x.1 := nk_lv hnk
          have hxm := List.mem_of_getElem? hx
          obtain ⟨hxs, hxw⟩ := hsumk x hxm
          have hxl := hxw.le
          have hxt : sums.take (j + 1) = sums.take j ++ [x] := by rw [List.take_add_one, hx]; rfl
          try dsimp only [List.set]
          obtain ⟨v1, hv1, la, us, hv1e, hus, hpu⟩ : ∃ v, valV kvs (lvK x.1) = some v ∧ LkR v (L x.1) H := by
            have := dpr_val hkvs x.1
            rw [lkp_fun hxs] at this
            exact this
          subst hv1e
          have hul := Paired.length hpu
          have hLl := hL x.1
          have e09 := e03.trans e9
          have fine : ∀ {lat H'}, St od xs lat H' → NDR P w H' fd kvs ∧ H' la = some (.lst us) ∧ Paired (fun u p => DpT u (p.1, some p.2) H') us (L x.1) := fun {lat H'} S' => by
            have kl := (Kl.of e09).trans (klS S')
            obtain ⟨y1, g1, g2, g3⟩ := hnd
            exact ⟨⟨y1, .inl (S'.2.2.1 _ _ hfds (e09 _ _ g1)), g2, g3.up fun b ys hb => kl _ _ hb (.inl ⟨_, rfl⟩)⟩, kl _ _ hus (.inr ⟨_, rfl⟩), Paired.mapP hpu fun _ _ z => z.up fun b ys hb => kl _ _ hb (.inl ⟨_, rfl⟩)⟩
          refine s_forL (a := la) (xs := us) (ev_ngetV (ev_var rfl) (ev_var rfl) (fine S).1 hkb hv1) (sq_of (fine S).2.1) (fun jj σ' H' => ∃ lat z8 z9, σ' = [some (.ref fd), some v, some (.ref na), some (.ref sb), some (.ref ds), some (.int (t : Int)), some (.ref dl), some (.ref kb), z8, z9] ∧ St od xs lat H' ∧ LvH H' kb x.1 ∧ LatI L s t sums j ((L x.1).take jj) x.2 lat) (fun H12 e12 => ⟨lat, _, _, rfl, StUp e12 S, hkb.up e12, I.nd, I.at_, I.old, fun _ h => nomatch h⟩) (fun jj σ' H' _ ⟨_, _, _, _, S', _⟩ => sq_of (fine S').2.1) ?_ ?_
          · rintro jj u σ' H12 hu ⟨lat, z8, z9, rfl, S12, hkb12, I12⟩
            obtain ⟨p, hp, b, v2, rfl, hb2, bt, hv2, hbt⟩ := paired_at (fine S12).2.2 hu
            have hv2 : v2 = .ref bt ∧ LvH H12 bt p.2 := ⟨hv2, hbt⟩
            obtain ⟨rfl, hbt⟩ := hv2
            have hpm : p ∈ L x.1 := List.mem_of_getElem? hp
            have hptk : (L x.1).take (jj + 1) = (L x.1).take jj ++ [p] := by rw [List.take_add_one, hp]; rfl
            have hps := hcl _ hxs p hpm
            refine ⟨b, _, rfl, st_of hb2, rfl, _, _, rfl, _, _, rfl, rfl, ?_⟩
            try dsimp only [List.set]
            have hlatl : lat.length ≤ sp.length := by
              have := nodup_within I12.nd fun y hy => by
                have h1 : (lkp lat y).isSome = true := by rw [lkp_some]; exact decide_eq_true hy
                obtain ⟨m, hm⟩ := Option.isSome_iff_exists.mp h1
                exact (I12.at_ y m hm).sub hcl hs
              rwa [List.length_map] at this
            show sNPut _ _ _ _ _ _ _ _
            refine m_cbT ?_
            refine (ev_var rfl) H12 (Ex.refl _) _ fun H13 e13 => ?_
            have S13 := StUp e13 S12
            obtain ⟨kl0, hk1, hk2⟩ := S13.2.2.2.2.at_
            refine ⟨dl, kl0, rfl, hk1.r, ?_⟩
            refine (ev_var rfl) H13 (Ex.refl _) _ fun H14 e14 => ?_
            refine ev_c H14 (Ex.refl _) _ fun H15 e15 => ?_
            have e1215 := e13.trans (e14.trans e15)
            have S15 := StUp e1215 S12
            obtain ⟨g, hg, hgs, hgv⟩ := S15.2.2.2.2.r.opt (hbt.up e1215)
            refine ⟨g, hg, ?_⟩
            have hgd : g.getD (.int 0) = .int (((lkp lat p.2).getD 0 : Nat) : Int) := by
              cases hq : lkp lat p.2 with
              | none =>
                rw [hq] at hgs
                cases g with
                | none => rfl
                | some _ => cases hgs
              | some m =>
                obtain ⟨v3, rfl, hv3⟩ := hgv m hq
                have hv3 : v3 = .int (m : Nat) := hv3
                rw [hv3]; rfl
            rw [hgd]
            have hif : ∀ {σ' : L2.St} {Hx : Hp} (hv : σ'[8]? = some (some (dvR p.1))), Ev (tIf (tTest (tOp (fun x y H Q => y = V.non ∧ Q (V.bl (decide (x = V.non))) H) (tVar 8) (tC V.non))) (tC (V.int 1)) (tC (V.int 0))) σ' Hx (.int ((wv p.1 : Nat) : Int)) := fun {σ' Hx} hv => by
              unfold wv
              cases hp1 : p.1 with
              | none =>
                rw [hp1] at hv
                exact ev_if (b := true) (et_isN (x := .non) (ev_var hv)) (fun _ => ev_c) (fun z => nomatch z)
              | some c =>
                rw [hp1] at hv
                exact ev_if (b := false) (et_isN (x := .int (c : Nat)) (ev_var hv)) (fun z => nomatch z) (fun _ => ev_c)
            obtain ⟨v4, hv4, hv4e⟩ : ∃ v4, Ev (tNGet P w (tVar 4) (tVar 7)) [some (.ref fd), some v, some (.ref na), some (.ref sb), some (.ref ds), some (.int (t : Int)), some (.ref dl), some (.ref kb), some (dvR p.1), some (.ref bt)] H15 v4 ∧ NaR v4 x.2 H15 := ev_dget naR_d (ev_var rfl) (ev_var rfl) (sumS S15) (hkb12.up e1215) (lkp_of_mem hS.nd hxm)
            have hv4e : v4 = .int (x.2 : Nat) := hv4e
            subst hv4e
            refine (ev_i0 (g := fun i j => .int (i + j)) hv4 (hif rfl)) H15 (Ex.refl _) _ fun H16 e16 => ⟨_, _, rfl, ?_⟩
            refine (ev_var rfl) H16 (Ex.refl _) _ fun H17 e17 => (ev_var rfl) H17 (Ex.refl _) _ fun H18 e18 => ?_
            have e1218 := e1215.trans (e16.trans (e17.trans e18))
            obtain ⟨c1, c2, c3, c4, c5⟩ := StUp e1218 S12
            have hmax : (if (((x.2 : Nat) : Int) + ((wv p.1 : Nat) : Int)) > ((((lkp lat p.2).getD 0 : Nat)) : Int) then (((x.2 : Nat) : Int) + ((wv p.1 : Nat) : Int)) else ((((lkp lat p.2).getD 0 : Nat)) : Int)) = ((max ((lkp lat p.2).getD 0) (x.2 + wv p.1) : Nat) : Int) := by
              split <;> omega
            refine dw_put c5 (hbt.up e1218) (a := max ((lkp lat p.2).getD 0) (x.2 + wv p.1)) (by show V.int _ = V.int _; rw [← hmax]) (fun _ _ _ _ h => naR_any h) (by omega) fun ys2 kl2 d2 => ?_
            have b19 : ∀ y o, y ≠ dl → H18 y = some o → upd H18 dl (NDO P w dl ys2) y = some o := fun y o hy ho => by rw [upd_ne hy]; exact ho
            refine ⟨_, _, _, rfl, ⟨b19 _ _ hdsl.symm c1, c2, fun y o hy ho => b19 _ _ (fun z => by rw [z, hdl] at ho; cases ho) (c3 y o hy ho), c4.trans kl2.ts, d2⟩, (hkb12.up e1218).kl kl2, ?_⟩
            rw [hptk]
            exact I12.put (.snoc hxw hpm)
          · rintro σ' H12 ⟨lat, z8, z9, rfl, S12, hkb12, I12⟩
            rw [hul, List.take_length] at I12
            refine ⟨lat, _, _, _, rfl, S12, I12.nd, I12.at_, fun y hy q hq => ?_, fun _ h => nomatch h⟩
            rw [hxt] at hy
            rcases List.mem_append.mp hy with hy | hy
            · exact I12.old y hy q hq
            · rw [List.mem_singleton.mp hy] at hq ⊢
              exact I12.cur q hq
        · rintro od xs σ' H11 ⟨lat, z7, z8, z9, rfl, S, I⟩
          rw [hkSl] at I
          have hS2 := LatI.fin hS I
          obtain ⟨c1, c2, c3, c4, c5⟩ := S
          have kf : Kl H11 (upd H11 ds (NDO P w ds xs)) := kl_frz c1
          have hx9 : ∀ o, H9 ds = some o → o = NDO P w ds xs := fun o ho => by
            have := e10 _ _ ho
            rw [c2] at this
            exact (Option.some.inj this).symm
          have e12 : Ex H9 (upd H11 ds (NDO P w ds xs)) := fun y o hy => by
            by_cases z : y = ds
            · rw [z] at hy ⊢
              rw [upd_same, hx9 o hy]
            · rw [upd_ne z]; exact c3 _ _ z hy
          have d12 : DW P w NaR (upd H11 ds (NDO P w ds xs)) dl lat := c5.mv (R := NaR) (H := H11) (fun _ _ h => h) kf.ts fun o ho => by rw [upd_ne hdsl]; exact ho
          clear c1 c3 c4 c5 kf
          generalize upd H11 ds (NDO P w ds xs) = H12 at e12 d12 ⊢
          refine q_asg (ev_var rfl) fun H13 e13 => ?_
          try dsimp only [List.set]
          have e913 := e12.trans e13
          have d13 := d12.up naR_d e13
          have hsb13 : LvH H13 sb s := (hL3 _ hqm).up (e9.trans e913)
          have hv13 := hv.up e913
          have hB2 := hB.step hs (show t + 1 ≤ sp.length by omega) hS2
          have hsplit : ∀ s' n, ((s' ∈ (Ln.map Prod.snd).take i ∧ 1 ≤ n ∧ n ≤ sp.length) ∨ (s' = s ∧ 1 ≤ n ∧ n ≤ t + 1)) → (((s' ∈ (Ln.map Prod.snd).take i ∧ 1 ≤ n ∧ n ≤ sp.length) ∨ (s' = s ∧ 1 ≤ n ∧ n ≤ t)) ∨ (s' = s ∧ n = t + 1)) := fun s' n h => by
            rcases h with h | ⟨h1, h2, h3⟩
            · exact .inl (.inl h)
            · by_cases e : n = t + 1
              · exact .inr ⟨h1, e⟩
              · exact .inl (.inr ⟨h1, h2, by omega⟩)
          have hB3 := hB2.imp hsplit
          have hds3' : H3 dl = none := fresh_back e9 hdl
          cases hls : lkp lat s with
          | none =>
            rw [hls] at hB3
            refine s_when (b := false) (et_and (a := false) (b := false) (et_is (et_B (ev_din (ev_var rfl) (ev_var rfl) naR_d d13.r hsb13)) (by rw [hls]; rfl)) fun z => nomatch z) (fun z => nomatch z) fun _ H14 e14 => ?_
            exact ⟨v, o, dl, lat, _, _, _, _, _, rfl, e9.trans (e913.trans e14), hv13.up e14, d13.up naR_d e14, hS2, hB3, hds3'⟩
          | some mm =>
            rw [hls] at hB3
            have hml := (hS2.at_ s mm hls).le
            have hin : EvT (tB (tNIn P w (tVar 3) (tVar 4))) [some (.ref fd), some v, some (.ref na), some (.ref sb), some (.ref dl), some (.int (t : Int)), some (.ref dl), z7, z8, z9] H13 true := et_is (et_B (ev_din (ev_var rfl) (ev_var rfl) naR_d d13.r hsb13)) (by rw [hls]; rfl)
            have hget : ∀ {Hx : Hp}, Ex H13 Hx → Ev (tNGet P w (tVar 4) (tVar 3)) [some (.ref fd), some v, some (.ref na), some (.ref sb), some (.ref dl), some (.int (t : Int)), some (.ref dl), z7, z8, z9] Hx (.int ((mm : Nat) : Int)) := fun {Hx} e => by
              obtain ⟨v5, hv5, hv5e⟩ := ev_dget (P := P) (w := w) (σ := [some (.ref fd), some v, some (.ref na), some (.ref sb), some (.ref dl), some (.int (t : Int)), some (.ref dl), z7, z8, z9]) (td := tVar 4) (ty := tVar 3) naR_d (ev_var rfl) (ev_var rfl) (d13.up naR_d e).r (hsb13.up e) hls
              have hv5e : v5 = .int (mm : Nat) := hv5e
              rw [hv5e] at hv5
              exact hv5
            have better : ∀ {Hx : Hp}, Ex H13 Hx → (BestI L sp (fun s' n => (s' ∈ (Ln.map Prod.snd).take i ∧ 1 ≤ n ∧ n ≤ sp.length) ∨ (s' = s ∧ 1 ≤ n ∧ n ≤ t + 1)) (some (mm, t + 1))) → ∀ (D : Ends), (∀ a Hy, Ex Hx Hy → BsR (.ref a) (some (mm, t + 1)) Hy → D.nx [some (.ref fd), some (.ref a), some (.ref na), some (.ref sb), some (.ref dl), some (.int (t : Int)), some (.ref dl), z7, z8, z9] Hy) → tAsg (tTup (tCons (tNGet P w (tVar 4) (tVar 3)) (tCons (tOp (rI0 fun i j => V.int (i + j)) (tVar 5) (tC (V.int 1))) tNil))) (gName 1) D [some (.ref fd), some v, some (.ref na), some (.ref sb), some (.ref dl), some (.int (t : Int)), some (.ref dl), z7, z8, z9] Hx := fun {Hx} e hb D q => by
              refine s_asgU9 ?_
              refine (eu_tup (vs := [.int ((mm : Nat) : Int), .int ((t + 1 : Nat) : Int)]) (ea_cons (hget e) (ea_cons (ev_is (ev_i0 (g := fun i j => .int (i + j)) (ev_var rfl) ev_c) rfl) ea_nil)) (show 2 ≤ 100000 by decide)) Hx (Ex.refl _) _ fun a Hy ha ey hy => ?_
              exact q a Hy ey ⟨a, rfl, hy⟩
            cases o with
            | none =>
              have hv13 : v = .non := hv13
              subst hv13
              refine s_when (b := true) (et_is (et_and hin fun _ => et_or (b := false) (et_isN (x := .non) (ev_var rfl)) fun z => nomatch z) rfl) (fun _ H14 e14 => ?_) fun z => nomatch z
              refine better e14 hB3 _ fun a Hy ey hy => ?_
              exact ⟨.ref a, some (mm, t + 1), dl, lat, _, _, _, _, _, rfl, e9.trans (e913.trans (e14.trans ey)), hy, d13.up naR_d (e14.trans ey), hS2, hB3, hds3'⟩
            | some xy =>
              obtain ⟨b1, b2⟩ := xy
              obtain ⟨ba, rfl, hba⟩ := hv13
              have hbb : b2 ≤ 63 ∧ b1 ≤ b2 := by
                obtain ⟨_, g2, g3, _⟩ := hB
                exact ⟨by omega, g3⟩
              have hc1 : ∀ {Hx : Hp}, Ex H13 Hx → SqT K Hx ba [.int (b1 : Nat), .int (b2 : Nat)] := fun e => st_of (e _ _ hba)
              have htest : EvT (tTest (tOp (rI0 fun i j => V.bl (decide (j < i))) (tOp (rI CMul fun i j => V.int (i * j)) (tNGet P w (tVar 4) (tVar 3)) (tOp (rIx K) (tVar 1) (tC (V.int 1)))) (tOp (rI CMul fun i j => V.int (i * j)) (tOp (rIx K) (tVar 1) (tC (V.int 0))) (tOp (rI0 fun i j => V.int (i + j)) (tVar 5) (tC (V.int 1)))))) [some (.ref fd), some (.ref ba), some (.ref na), some (.ref sb), some (.ref dl), some (.int (t : Int)), some (.ref dl), z7, z8, z9] H13 (decide (b1 * (t + 1) < mm * b2)) := by
                refine et_is (et_i0 (g := fun i j => decide (j < i)) (ev_iC (g := fun i j => .int (i * j)) (hget (Ex.refl _)) (ev_ixT (ev_var rfl) ev_c (hc1 (Ex.refl _)) rfl) (.inl ⟨by omega, by omega⟩)) (ev_iC (g := fun i j => .int (i * j)) (ev_ixT (ev_var rfl) ev_c (hc1 (Ex.refl _)) rfl) (ev_i0 (g := fun i j => .int (i + j)) (ev_var rfl) ev_c) (.inl ⟨by omega, by omega⟩))) ?_
                refine decide_eq_decide.mpr ⟨fun z => ?_, fun z => ?_⟩
                · exact_mod_cast z
                · exact_mod_cast z
              refine s_when (b := decide (b1 * (t + 1) < mm * b2)) (et_is (et_and hin fun _ => et_or (a := false) (et_isN (x := .ref ba) (ev_var rfl)) fun _ => htest) (by simp)) (fun hc H14 e14 => ?_) fun hc H14 e14 => ?_
              · have hc := of_decide_eq_true hc
                have hB3 : BestI L sp _ (if b1 * (t + 1) < mm * b2 then some (mm, t + 1) else some (b1, b2)) := hB3
                rw [if_pos hc] at hB3
                refine better e14 hB3 _ fun a Hy ey hy => ?_
                exact ⟨.ref a, some (mm, t + 1), dl, lat, _, _, _, _, _, rfl, e9.trans (e913.trans (e14.trans ey)), hy, d13.up naR_d (e14.trans ey), hS2, hB3, hds3'⟩
              · have hc := of_decide_eq_false hc
                have hB3 : BestI L sp _ (if b1 * (t + 1) < mm * b2 then some (mm, t + 1) else some (b1, b2)) := hB3
                rw [if_neg hc] at hB3
                exact ⟨.ref ba, some (b1, b2), dl, lat, _, _, _, _, _, rfl, e9.trans (e913.trans e14), BsR.up e14 ⟨ba, rfl, hba⟩, d13.up naR_d e14, hS2, hB3, hds3'⟩
      · subst hσ
        rw [show ((sp.length : Nat) : Int).toNat = sp.length by omega] at hB
        refine ⟨v, o, _, _, _, _, _, _, _, rfl, e9, hv, hB.imp fun s' n hd => ?_⟩
        obtain ⟨h1, h2, h3⟩ := hd
        rw [htk] at h1
        rcases List.mem_append.mp h1 with z | z
        · exact .inl ⟨z, h2, h3⟩
        · exact .inr ⟨List.mem_singleton.mp z, h2, h3⟩
    · subst hσ
      rw [List.length_map, show (Ln.map Prod.snd).take Ln.length = Ln.map Prod.snd from List.take_of_length_le (by rw [List.length_map]; exact Nat.le_refl _)] at hb
      exact s_ret (ev_var rfl) fun H5 e5 => k v o H5 (e03.trans (e4.trans e5)) (hv.up e5) (hb.imp fun s n hd => ⟨(hmemL s).mpr hd.1, hd.2⟩)
end
end Fm
set_option maxHeartbeats 1000000
namespace Fm
open PySem L2 Evl
section
variable {P : Program} {w : World} {K : PySem.W.Frag} {mg : Str → Option Value} {base : Heap}
abbrev s_law_is : Stmt := top 37
theorem sc_law_is : FnScope ["found", "due"] ["found", "due"] (defScope s_law_is) := ⟨rfl, rfl, rfl, by decide +kernel, rfl, by decide +kernel, by decide +kernel⟩
theorem ok_is {f : Addr} {fd : FuncData} (F : Fun K "_law_is" "_law_is" s_law_is f fd) (T : Txt K mg) : FnOk P w K mg base CX0 1 f fd ["found", "due"] (fun vs H Q _ => ∃ b : Bool, vs = [.bl b, .bl b] ∧ ∀ H', Ex H H' → Q (.bl true) H') := by
  refine F.ok sc_law_is (fun vs H Q E h => ?_) (fun cdv A outer s H vs Q E hr h => ?_)
  · obtain ⟨_, rfl, _⟩ := h
    rfl
  · obtain ⟨b, rfl, k⟩ := h
    refine ⟨_, (pss_one (ps_ret (pe_and (pe_callB (isi_K (K := K) rfl) (by rfl) T.z_isinstance (by decide +kernel) (pa_cons (pv 0) (pa_cons (pe_bltn (v := .ty "bool") (by rfl) T.z_bool (by decide +kernel) rfl) pa_nil))) (pe_one (pe_cmpR op_eq (pv 0) (pv 1) (nomark _)))))), ?_⟩
    refine s_ret (v := .bl (true && decide (V.bl b = V.bl b))) (ev_andV (ev_isi (t := "bool") (ev_var rfl) (.base (.bl b)) (by decide +kernel)) fun _ => ev_op (ev_var rfl) (ev_var rfl) (rv_eq rfl)) fun H1 e1 => ?_
    rw [decide_eq_true rfl]
    exact k H1 e1
end
end Fm
set_option maxHeartbeats 1000000
namespace Fm
open PySem L2 Evl RZ
theorem livW_at {fs rs l : List Nat} {i : Nat} (hi : i < l.length) : (livD fs rs l none).getD i 0 = l.getD i 0 - 1 := by
  show (l.map (· - 1)).getD i 0 = _
  rw [List.getD_eq_getElem?_getD, List.getElem?_map, List.getElem?_eq_getElem hi, List.getD_eq_getElem?_getD, List.getElem?_eq_getElem hi]
  rfl
theorem livT_at {fs rs l : List Nat} {c i : Nat} (hi : i < l.length) : (livD fs rs l (some c)).getD i 0 = tch fs rs l c i := by
  show ((List.range l.length).map (tch fs rs l c)).getD i 0 = _
  rw [List.getD_eq_getElem?_getD, List.getElem?_map, List.getElem?_range hi]
  rfl
def GeC (cs l s : List Nat) : Prop := ∀ c ∈ cs, s.getD c 0 ≤ l.getD c 0
theorem livD_ge {fs rs cs l s : List Nat} {d : Option Nat} (hl : ∀ c ∈ cs, c < l.length) (hs : ∀ c ∈ cs, c < s.length) (h : GeC cs l s) : GeC cs (livD fs rs l d) (livD fs rs s d) := fun c hc => by
  have h1 := h c hc
  cases d with
  | none => rw [livW_at (hl c hc), livW_at (hs c hc)]; omega
  | some c' =>
    rw [livT_at (hl c hc), livT_at (hs c hc)]
    unfold tch
    by_cases h0 : s.getD c 0 = 0
    · rw [if_pos h0]; exact Nat.zero_le _
    · have h0' : ¬ l.getD c 0 = 0 := by omega
      rw [if_neg h0, if_neg h0']
      by_cases hr : rs.getD c 0 = rs.getD c' 0
      · rw [if_pos hr, if_pos hr]; exact Nat.le_refl _
      · rw [if_neg hr, if_neg hr]; omega
theorem mem_lnkD {fs rs cs : List Nat} {ds : List (Option Nat)} {s t : Lv} {d : Option Nat} : (d, t) ∈ lnkD fs rs cs ds s ↔ d ∈ ds ∧ lostL cs (livD fs rs s d) = false ∧ t = onlyL cs (livD fs rs s d) := by
  unfold lnkD
  rw [List.mem_filterMap]
  constructor
  · rintro ⟨d', hd, h⟩
    obtain ⟨b, hb, e⟩ := Option.map_eq_some_iff.mp h
    cases e
    unfold behD at hb
    split at hb
    · cases hb
    · rename_i hn
      cases hb
      exact ⟨hd, by simpa using hn, rfl⟩
  · rintro ⟨hd, hl, rfl⟩
    refine ⟨d, hd, ?_⟩
    unfold behD
    rw [if_neg (by rw [hl]; exact Bool.false_ne_true)]
    rfl
theorem lost_of {cs l : List Nat} : lostL cs l = false ↔ ∀ c ∈ cs, 0 < l.getD c 0 := by
  unfold lostL
  rw [Bool.eq_false_iff]
  constructor
  · intro h c hc
    refine Nat.pos_of_ne_zero fun z => h (List.any_eq_true.mpr ⟨c, hc, decide_eq_true z⟩)
  · intro h z
    obtain ⟨c, hc, h2⟩ := List.any_eq_true.mp z
    have := h c hc
    have := of_decide_eq_true h2
    omega
theorem ge_step {fs rs cs l s t : List Nat} {ds : List (Option Nat)} {d : Option Nat} (hl : ∀ c ∈ cs, c < l.length) (hs : ∀ c ∈ cs, c < s.length) (h : GeC cs l s) (hm : (d, t) ∈ lnkD fs rs cs ds s) : lostL cs (livD fs rs l d) = false ∧ GeC cs (livD fs rs l d) t := by
  obtain ⟨_, h1, rfl⟩ := mem_lnkD.mp hm
  have g := livD_ge (fs := fs) (rs := rs) (d := d) hl hs h
  refine ⟨lost_of.mpr fun c hc => Nat.lt_of_lt_of_le (lost_of.mp h1 c hc) (g c hc), fun c hc => ?_⟩
  rw [onlyL_at hc (by rw [livD_len]; exact hs c hc)]
  exact g c hc
theorem ge_walk {fs rs cs : List Nat} {ds : List (Option Nat)} {s e : Lv} {rd : List (Option Nat)} (w : WkL (lnkD fs rs cs ds) s rd e) : ∀ {l : Lv}, (∀ c ∈ cs, c < l.length) → s.length = l.length → GeC cs l s → ∃ l', keptD fs rs cs rd l = some l' ∧ GeC cs l' e ∧ l'.length = l.length ∧ e.length = l.length := by
  induction w with
  | nil => exact fun hl hs h => ⟨_, rfl, h, rfl, hs⟩
  | @cons s t e d rd h1 _ ih =>
    intro l hl hs h
    obtain ⟨g1, g2⟩ := ge_step hl (by rw [hs]; exact hl) h h1
    have ht : t.length = s.length := by
      obtain ⟨_, _, rfl⟩ := mem_lnkD.mp h1
      rw [onlyL_len, livD_len]
    obtain ⟨l', k1, k2, k3, k4⟩ := ih (l := livD fs rs l d) (by rw [livD_len]; exact hl) (by rw [livD_len]; omega) g2
    refine ⟨l', ?_, k2, by rw [k3, livD_len], by rw [k4, livD_len]⟩
    show (if lostL cs (livD fs rs l d) = true then none else _) = _
    rw [g1]
    exact k1
theorem WkL.mono {L L' : LkF} (h : ∀ s, ∀ p ∈ L s, p ∈ L' s) {s e : Lv} {rd : List (Option Nat)} (w : WkL L s rd e) : WkL L' s rd e := by
  induction w with
  | nil => exact .nil
  | cons h1 _ ih => exact .cons (h _ _ h1) ih
theorem lastL_sub {L : LkF} {lens : List (Lv × Nat)} : ∀ s, ∀ p ∈ lastL L lens s, p ∈ L s := fun _ _ h => (List.mem_filter.mp h).1
theorem CP.walk {Ll : LkF} {s e : Lv} {q : List (Lv × Nat)} (a : CP (cntG Ll) s q e) : WkL Ll s (rgD Ll q) e := by
  induction a with
  | nil => exact .nil
  | @cons s t e l c p h1 _ ih =>
    obtain ⟨y, hy, hy2, _⟩ := cntG_at h1
    have hm := List.mem_of_getElem? hy
    unfold rgD at ih ⊢
    rw [List.map_cons]
    refine .cons (t := t) ?_ ih
    show ((((Ll s)[l]?).map Prod.fst).getD none, t) ∈ Ll s
    rw [hy, ← hy2]
    exact hm
theorem rch_le {fs rs cs : List Nat} {ds : List (Option Nat)} {l : Lv} (hll : fs.length = rs.length) (h : RchL fs rs cs ds (onlyL cs fs) l) : l.length = fs.length ∧ ∀ i, l.getD i 0 ≤ fs.getD i 0 := by
  have only : ∀ x : Lv, x.length = fs.length → (∀ i, x.getD i 0 ≤ fs.getD i 0) → (onlyL cs x).length = fs.length ∧ ∀ i, (onlyL cs x).getD i 0 ≤ fs.getD i 0 := fun x hx h => by
    refine ⟨by rw [onlyL_len]; exact hx, fun i => ?_⟩
    by_cases hi : i < x.length
    · unfold onlyL
      rw [List.getD_eq_getElem?_getD, List.getElem?_map, List.getElem?_range hi]
      show (if i ∈ cs then x.getD i 0 else 0) ≤ _
      split
      · exact h i
      · exact Nat.zero_le _
    · have : (onlyL cs x)[i]? = none := List.getElem?_eq_none (by rw [onlyL_len]; omega)
      rw [List.getD_eq_getElem?_getD, this]; exact Nat.zero_le _
  induction h with
  | here => exact only fs rfl fun _ => Nat.le_refl _
  | @next l p _ hp ih =>
    obtain ⟨d, t⟩ := p
    obtain ⟨_, _, rfl⟩ := mem_lnkD.mp hp
    refine only _ (by rw [livD_len]; exact ih.1) fun i => ?_
    by_cases hi : i < l.length
    · cases d with
      | none => rw [livW_at hi]; have := ih.2 i; omega
      | some c =>
        rw [livT_at hi]
        unfold tch
        have := ih.2 i
        split
        · exact Nat.zero_le _
        · split <;> omega
    · have : (livD fs rs l d)[i]? = none := List.getElem?_eq_none (by rw [livD_len]; omega)
      rw [List.getD_eq_getElem?_getD, this]; exact Nat.zero_le _
theorem le_nm {rs : List Nat} {r : Nat} (h : r ∈ rs) : r < nm rs := by
  have key : ∀ (l : List Nat) (a : Nat), a ≤ l.foldl (fun n r => max n (r + 1)) a ∧ ∀ x ∈ l, x + 1 ≤ l.foldl (fun n r => max n (r + 1)) a := by
    intro l
    induction l with
    | nil => exact fun a => ⟨Nat.le_refl _, fun _ z => nomatch z⟩
    | cons y l ih =>
      intro a
      obtain ⟨h1, h2⟩ := ih (max a (y + 1))
      rw [List.foldl_cons]
      refine ⟨by omega, fun x hx => ?_⟩
      rcases List.mem_cons.mp hx with rfl | hx
      · omega
      · exact h2 x hx
  exact (key rs 0).2 r h
theorem touch_row {fs rs l : List Nat} {c c' : Nat} (h : rs.getD c 0 = rs.getD c' 0) : livD fs rs l (some c) = livD fs rs l (some c') := by
  show touchL fs rs l c = touchL fs rs l c'
  unfold touchL
  refine List.map_congr_left fun i _ => ?_
  unfold tch
  rw [h]
theorem touch_far {fs rs cs l : List Nat} {c : Nat} (hl : ∀ c ∈ cs, c < l.length) (h : ∀ c1 ∈ cs, rs.getD c1 0 ≠ rs.getD c 0) : onlyL cs (livD fs rs l (some c)) = onlyL cs (livD fs rs l none) ∧ lostL cs (livD fs rs l (some c)) = lostL cs (livD fs rs l none) := by
  have e : ∀ c1 ∈ cs, (livD fs rs l (some c)).getD c1 0 = (livD fs rs l none).getD c1 0 := fun c1 h1 => by
    rw [livT_at (hl c1 h1), livW_at (hl c1 h1)]
    unfold tch
    rw [if_neg (h c1 h1)]
    split <;> omega
  have o : onlyL cs (livD fs rs l (some c)) = onlyL cs (livD fs rs l none) := by
    unfold onlyL
    rw [livD_len, livD_len]
    refine List.map_congr_left fun i _ => ?_
    by_cases hi : i ∈ cs
    · rw [if_pos hi, if_pos hi, e i hi]
    · rw [if_neg hi, if_neg hi]
  refine ⟨o, ?_⟩
  rw [← lostL_only (l := livD fs rs l (some c)) (by rw [livD_len]; exact hl), o, lostL_only (by rw [livD_len]; exact hl)]
theorem nx_to {fs rs cs : List Nat} {s t : Lv} {d : Option Nat} (hl : ∀ c ∈ cs, c < s.length) (h : (d, t) ∈ lnkD fs rs cs (dsW rs) s) : ∃ d', (d', t) ∈ lnkD fs rs cs (allD rs cs) s ∧ wv d ≤ wv d' := by
  obtain ⟨hd, h1, h2⟩ := mem_lnkD.mp h
  cases d with
  | none => exact ⟨none, mem_lnkD.mpr ⟨List.mem_cons_self, h1, h2⟩, Nat.le_refl _⟩
  | some c =>
    by_cases hx : ∃ c1 ∈ cs, rs.getD c1 0 = rs.getD c 0
    · obtain ⟨c1, g1, g2⟩ := hx
      obtain ⟨c', g3, g4⟩ := allD_row (rs := rs) c1 g1
      have e := touch_row (fs := fs) (l := s) (g4.trans g2)
      exact ⟨some c', mem_lnkD.mpr ⟨g3, by rw [e]; exact h1, by rw [e]; exact h2⟩, Nat.le_refl _⟩
    · obtain ⟨e1, e2⟩ := touch_far (fs := fs) (l := s) (c := c) hl fun c1 g1 g2 => hx ⟨c1, g1, g2⟩
      exact ⟨none, mem_lnkD.mpr ⟨List.mem_cons_self, by rw [← e2]; exact h1, by rw [← e1]; exact h2⟩, by show 0 ≤ 1; omega⟩
theorem nx_from {fs rs cs : List Nat} {s t : Lv} {d : Option Nat} (hr : ∀ c ∈ cs, c < rs.length) (h : (d, t) ∈ lnkD fs rs cs (allD rs cs) s) : ∃ d', (d', t) ∈ lnkD fs rs cs (dsW rs) s ∧ wv d ≤ wv d' := by
  obtain ⟨hd, h1, h2⟩ := mem_lnkD.mp h
  cases d with
  | none => exact ⟨none, mem_lnkD.mpr ⟨List.mem_cons_self, h1, h2⟩, Nat.le_refl _⟩
  | some c =>
    have hc := hr c (allD_mem c hd)
    have hm : rs.getD c 0 ∈ rs := by rw [List.getD_eq_getElem?_getD, List.getElem?_eq_getElem hc]; exact List.getElem_mem hc
    have hf := fix_get hm
    have e := touch_row (fs := fs) (rs := rs) (l := s) (c := c) (c' := fix (rs.getD c 0) rs) (by rw [List.getD_eq_getElem?_getD (l := rs) (i := fix _ _), hf]; rfl)
    refine ⟨some (fix (rs.getD c 0) rs), mem_lnkD.mpr ⟨List.mem_cons_of_mem _ (List.mem_map.mpr ⟨_, List.mem_range.mpr (le_nm hm), rfl⟩), by rw [← e]; exact h1, by rw [← e]; exact h2⟩, Nat.le_refl _⟩
theorem nx_walk {L L' : LkF} {sp : List Lv} (hc : ∀ s ∈ sp, ∀ p ∈ L s, p.2 ∈ sp) (h : ∀ s ∈ sp, ∀ d t, (d, t) ∈ L s → ∃ d', (d', t) ∈ L' s ∧ wv d ≤ wv d') {s e : Lv} {n k : Nat} (hs : s ∈ sp) (w : WkW L s n k e) : ∃ k', WkW L' s n k' e ∧ k ≤ k' := by
  induction w with
  | nil => exact ⟨0, .nil, Nat.le_refl _⟩
  | @snoc n k e t d h1 h2 ih =>
    obtain ⟨k', g1, g2⟩ := ih
    obtain ⟨d', g3, g4⟩ := h e (h1.sub hc hs) d t h2
    exact ⟨k' + wv d', .snoc g1 g3, by omega⟩
theorem WkW.cons {L : LkF} {s t e : Lv} {n k : Nat} {d : Option Nat} (h : (d, t) ∈ L s) (w : WkW L t n k e) : WkW L s (n + 1) (wv d + k) e := by
  induction w with
  | nil =>
    have := WkW.snoc (WkW.nil (L := L) (s := s)) h
    rw [show 0 + wv d = wv d + 0 by omega] at this
    exact this
  | @snoc n k e t' d' _ h2 ih =>
    have := WkW.snoc ih h2
    rw [show wv d + k + wv d' = wv d + (k + wv d') by omega] at this
    exact this
theorem CP.wkW {Ll : LkF} {s e : Lv} {q : List (Lv × Nat)} (a : CP (cntG Ll) s q e) : ∃ k, WkW Ll s q.length k e ∧ k + cntR (cntG Ll) q = q.length := by
  induction a with
  | nil => exact ⟨0, .nil, rfl⟩
  | @cons s t e l c p h1 _ ih =>
    obtain ⟨k, g1, g2⟩ := ih
    obtain ⟨y, hy, hy2, hyc⟩ := cntG_at h1
    have hm := List.mem_of_getElem? hy
    refine ⟨wv y.1 + k, .cons (by rw [← hy2]; exact hm) g1, ?_⟩
    unfold cntR at g2 ⊢
    rw [List.map_cons, List.sum_cons, cnR_of h1, List.length_cons, hyc]
    unfold wv
    split <;> omega
theorem CP.snoc {G : Lv → List (Nat × Lv)} {s t e : Lv} {p : List (Lv × Nat)} {l c : Nat} (a : CP G s p t) (h : (G t)[l]? = some (c, e)) : CP G s (p ++ [(t, l)]) e := by
  induction a with
  | nil => exact .cons h .nil
  | cons h1 _ ih => exact .cons h1 (ih h)
theorem cntR_app (G : Lv → List (Nat × Lv)) (p q : List (Lv × Nat)) : cntR G (p ++ q) = cntR G p + cntR G q := by
  unfold cntR
  rw [List.map_append, List.sum_append]
theorem len_walk {L : LkF} {sp : List Lv} {lens : List (Lv × Nat)} (I : LenI L sp lens) {s e : Lv} {n k j : Nat} (w : WkW L s n k e) (h : lkp lens s = some j) : ∃ j', lkp lens e = some j' ∧ j' + n ≤ j := by
  induction w with
  | nil => exact ⟨j, h, Nat.le_refl _⟩
  | @snoc n k e t d _ h2 ih =>
    obtain ⟨j1, g1, g2⟩ := ih
    obtain ⟨g3, g4⟩ := I.at_ e j1 g1
    obtain ⟨j2, hj2⟩ := Option.isSome_iff_exists.mp (g3 _ h2)
    refine ⟨j2, hj2, ?_⟩
    have hne : (L e).map (fun p => (((lkp lens p.2).getD 0 : Nat) : Int) + 1) ≠ [] := fun z => by
      rw [List.map_eq_nil_iff.mp z] at h2; cases h2
    have := (maxI_ne (d := 0) hne).2 _ (List.mem_map.mpr ⟨_, h2, rfl⟩)
    have g4' : ((j1 : Nat) : Int) = maxI 0 ((L e).map (fun p => (((lkp lens p.2).getD 0 : Nat) : Int) + 1)) := g4
    rw [← g4', hj2] at this
    have : ((j2 : Nat) : Int) + 1 ≤ (j1 : Int) := this
    omega
theorem last_walk {L : LkF} {sp : List Lv} {lens : List (Lv × Nat)} (I : LenI L sp lens) (hc : ∀ s ∈ sp, ∀ p ∈ L s, p.2 ∈ sp) {s e : Lv} {n k : Nat} (hs : s ∈ sp) (w : WkW L s n k e) (he : lkp lens e = none) : ∃ p, CP (cntG (lastL L lens)) s p e ∧ p.length = n ∧ cntR (cntG (lastL L lens)) p + k = n := by
  induction w with
  | nil => exact ⟨[], .nil, rfl, rfl⟩
  | @snoc n k e t d h1 h2 ih =>
    have hen : lkp lens e = none := by
      cases q : lkp lens e with
      | none => rfl
      | some j => have := (I.at_ e j q).1 _ h2; rw [he] at this; cases this
    obtain ⟨p, g1, g2, g3⟩ := ih hen
    have hm : (d, t) ∈ lastL L lens e := List.mem_filter.mpr ⟨h2, by rw [he]; rfl⟩
    obtain ⟨l, hl⟩ := List.getElem?_of_mem hm
    have hG : (cntG (lastL L lens) e)[l]? = some (if d = none then 0 else 1, t) := by unfold cntG; rw [List.getElem?_map, hl]; rfl
    refine ⟨p ++ [(e, l)], g1.snoc hG, by rw [List.length_append, g2]; rfl, ?_⟩
    rw [cntR_app]
    have : cntR (cntG (lastL L lens)) [(e, l)] = if d = none then 0 else 1 := by unfold cntR; rw [List.map_singleton, cnR_of hG]; simp
    rw [this]
    unfold wv
    split <;> omega
end Fm
set_option maxHeartbeats 1000000
namespace Fm
open PySem L2 Evl RZ
theorem rch_wk {fs rs cs : List Nat} {ds : List (Option Nat)} {st l : Lv} (h : RchL fs rs cs ds st l) : ∃ n k, WkW (lnkD fs rs cs ds) st n k l := by
  induction h with
  | here => exact ⟨0, 0, .nil⟩
  | @next l p _ hp ih =>
    obtain ⟨n, k, w⟩ := ih
    exact ⟨n + 1, _, .snoc w hp⟩
section
variable {fs rs cs : List Nat} {F : Nat} {sp sp2 : List Lv} {lens : List (Lv × Nat)} {o : Option (Nat × Nat)} {q : List (Lv × Nat)} {s1 : Lv} {a b : Nat}
theorem sp_law (hr : ∀ c ∈ cs, c < rs.length) (ok : RdsOk fs rs cs sp lens) (ag : AgOk fs rs cs F sp2) : ∀ s ∈ sp, s ∈ sp2 := fun s hs => by
  have h := ok.rch s hs
  clear hs
  induction h with
  | here => exact ag.st
  | @next l p _ hp ih =>
    obtain ⟨d', g, _⟩ := nx_from hr (show (p.1, p.2) ∈ _ from hp)
    exact ag.cl _ ih (d', p.2) g
theorem law_sp (hr : ∀ c ∈ cs, c < rs.length) (ok : RdsOk fs rs cs sp lens) (ag : AgOk fs rs cs F sp2) : ∀ s ∈ sp2, s ∈ sp := fun s hs => by
  have h := ag.rch s hs
  clear hs
  induction h with
  | here => exact ok.st
  | @next l p _ hp ih =>
    obtain ⟨d', g, _⟩ := nx_to (by rw [(ok.lv _ ih).1]; exact hr) (show (p.1, p.2) ∈ _ from hp)
    exact ok.cl _ ih (d', p.2) g
theorem to_prog (hr : ∀ c ∈ cs, c < rs.length) (ok : RdsOk fs rs cs sp lens) (ag : AgOk fs rs cs F sp2) {s e : Lv} {n k : Nat} (hs : s ∈ sp2) (w : WkW (lnkD fs rs cs (dsW rs)) s n k e) : ∃ k', WkW (lnkD fs rs cs (allD rs cs)) s n k' e ∧ k ≤ k' :=
  nx_walk ag.cl (fun s hs d t h => nx_to (by rw [(ag.lv s hs).1]; exact hr) h) hs w
theorem to_law (hr : ∀ c ∈ cs, c < rs.length) (ok : RdsOk fs rs cs sp lens) {s e : Lv} {n k : Nat} (hs : s ∈ sp) (w : WkW (lnkD fs rs cs (allD rs cs)) s n k e) : ∃ k', WkW (lnkD fs rs cs (dsW rs)) s n k' e ∧ k ≤ k' :=
  nx_walk ok.cl (fun s _ d t h => nx_from hr h) hs w
theorem most_none (hr : ∀ c ∈ cs, c < rs.length) (ok : RdsOk fs rs cs sp lens) (ag : AgOk fs rs cs F sp2) {n : Nat} (hn : lkp lens (onlyL cs fs) = some n) {done : Lv → Nat → Prop} (hb : BestI (lnkD fs rs cs (dsW rs)) sp2 done o) : o = none := by
  cases o with
  | none => rfl
  | some xy =>
    obtain ⟨x, y⟩ := xy
    obtain ⟨hy, _, _, ⟨s, hs, w⟩, _⟩ := hb
    obtain ⟨m, k, w0⟩ := rch_wk (ag.rch s hs)
    obtain ⟨k1, w1, _⟩ := to_prog hr ok ag ag.st w0
    obtain ⟨j, hj, _⟩ := len_walk ok.len.i w1 hn
    obtain ⟨k2, w2, _⟩ := to_prog hr ok ag hs w
    obtain ⟨j', hj', hle⟩ := len_walk ok.len.i w2 hj
    rw [hj] at hj'
    cases hj'
    omega
theorem most_some (hr : ∀ c ∈ cs, c < rs.length) (ok : RdsOk fs rs cs sp lens) (ag : AgOk fs rs cs F sp2) (E : EndP fs rs cs sp lens q s1 a b) (hb : BestI (lnkD fs rs cs (dsW rs)) sp2 (fun s n => s ∈ sp2 ∧ 1 ≤ n ∧ n ≤ sp2.length) o) : ∃ m1 m2, o = some (m1, m2) ∧ a * m2 = m1 * b ∧ 0 < m2 ∧ m2 ≤ sp2.length ∧ m1 ≤ m2 := by
  have hsp : sp.length ≤ sp2.length := nodup_within ok.nd (sp_law hr ok ag)
  obtain ⟨hs1, _⟩ := List.mem_filter.mp E.at_
  have hql : 0 < q.length := List.length_pos_iff.mpr E.ne
  obtain ⟨k, w, hk⟩ := E.cp.wkW
  have w' : WkW (lnkD fs rs cs (allD rs cs)) s1 q.length k s1 := by
    have mono : ∀ {n k e}, WkW (lastL (lnkD fs rs cs (allD rs cs)) lens) s1 n k e → WkW (lnkD fs rs cs (allD rs cs)) s1 n k e := fun {n k e} w => by
      induction w with
      | nil => exact .nil
      | snoc _ h ih => exact .snoc ih (lastL_sub _ _ h)
    exact mono w
  obtain ⟨k2, w2, hk2⟩ := to_law hr ok hs1 w'
  have hdone : s1 ∈ sp2 ∧ 1 ≤ q.length ∧ q.length ≤ sp2.length := ⟨sp_law hr ok ag s1 hs1, hql, Nat.le_trans E.len hsp⟩
  cases o with
  | none => exact absurd w2 (hb s1 q.length k2 hdone)
  | some xy =>
    obtain ⟨m1, m2⟩ := xy
    obtain ⟨hm2, hm2l, hm12, ⟨s, hs, ws⟩, hopt⟩ := hb
    refine ⟨m1, m2, rfl, ?_, hm2, hm2l, hm12⟩
    have h1 := hopt s1 q.length k2 hdone w2
    obtain ⟨k3, w3, hk3⟩ := to_prog hr ok ag hs ws
    have hssp := law_sp hr ok ag s hs
    have hsn : lkp lens s = none := by
      cases hq : lkp lens s with
      | none => rfl
      | some j =>
        obtain ⟨j', g1, g2⟩ := len_walk ok.len.i w3 hq
        rw [hq] at g1
        cases g1
        omega
    obtain ⟨p, g1, g2, g3⟩ := last_walk ok.len.i ok.cl hssp w3 hsn
    have h2 := E.opt s p g1 (List.mem_filter.mpr ⟨hssp, by rw [hsn]; rfl⟩)
    rw [g2] at h2
    have ha := E.ra
    have hbq := E.rb
    have d1 := Nat.gcd_dvd_left (cntR (cntG (lastL (lnkD fs rs cs (allD rs cs)) lens)) q) q.length
    have d2 := Nat.gcd_dvd_right (cntR (cntG (lastL (lnkD fs rs cs (allD rs cs)) lens)) q) q.length
    have hgp := Nat.gcd_pos_of_pos_right (cntR (cntG (lastL (lnkD fs rs cs (allD rs cs)) lens)) q) hql
    generalize hg : Nat.gcd (cntR (cntG (lastL (lnkD fs rs cs (allD rs cs)) lens)) q) q.length = g at *
    generalize hcq : cntR (cntG (lastL (lnkD fs rs cs (allD rs cs)) lens)) q = c at *
    generalize hcp : cntR (cntG (lastL (lnkD fs rs cs (allD rs cs)) lens)) p = cp at *
    have ec : c = g * (c / g) := (Nat.mul_div_cancel' d1).symm
    have en : q.length = g * (q.length / g) := (Nat.mul_div_cancel' d2).symm
    rw [← hbq] at h2 ha en
    generalize c / g = t at *
    have htb : t ≤ b := by
      refine (Nat.mul_le_mul_left_iff hgp).mp ?_
      rw [← ec, ← en]; omega
    have e1 : a * m2 + t * m2 = b * m2 := by rw [ha, ← Nat.add_mul, Nat.sub_add_cancel htb]
    have u1 : m2 * t + b * k3 ≤ b * m2 := by
      have : b * cp + b * k3 = b * m2 := by rw [← Nat.mul_add, g3]
      omega
    have u2 : b * m1 ≤ b * k3 := Nat.mul_le_mul_left b hk3
    rw [Nat.mul_comm m2 t] at u1
    have l1 : (k * m2) ≤ m1 * q.length := Nat.le_trans (Nat.mul_le_mul_right m2 hk2) h1
    have l2 : g * (a * m2) ≤ g * (m1 * b) := by
      have e2 : g * (a * m2) = k * m2 := by
        have : k = g * a := by
          have h3 : k + g * t = g * b := by rw [← ec, ← en]; exact hk
          rw [ha, Nat.mul_sub]
          omega
        rw [this, Nat.mul_assoc]
      have e3 : g * (m1 * b) = m1 * q.length := by rw [Nat.mul_left_comm, ← en]
      rw [e2, e3]; exact l1
    have l3 := (Nat.mul_le_mul_left_iff hgp).mp l2
    rw [Nat.mul_comm b m1] at u2
    omega
theorem end_keeps (hll : fs.length = rs.length) (hr : ∀ c ∈ cs, c < rs.length) (ok : RdsOk fs rs cs sp lens) (E : EndP fs rs cs sp lens q s1 a b) : ∀ n, (kpN fs rs cs [] (rgD (lastL (lnkD fs rs cs (allD rs cs)) lens) q) n).isSome = true := by
  obtain ⟨hs1, _⟩ := List.mem_filter.mp E.at_
  obtain ⟨h1, h2⟩ := rch_le hll (ok.rch s1 hs1)
  have wk := E.cp.walk.mono (L' := lnkD fs rs cs (allD rs cs)) lastL_sub
  have key : ∀ n, ∃ l, kpN fs rs cs [] (rgD (lastL (lnkD fs rs cs (allD rs cs)) lens) q) n = some l ∧ GeC cs l s1 ∧ l.length = fs.length := by
    intro n
    induction n with
    | zero => exact ⟨fs, rfl, fun c _ => h2 c, rfl⟩
    | succ n ih =>
      obtain ⟨l, g1, g2, g3⟩ := ih
      obtain ⟨l', k1, k2, k3, _⟩ := ge_walk wk (by rw [g3, hll]; exact hr) (by rw [h1, g3]) g2
      refine ⟨l', ?_, k2, by rw [k3, g3]⟩
      show (kpN fs rs cs [] _ n).bind _ = _
      rw [g1]; exact k1
  intro n
  obtain ⟨l, g, _⟩ := key n
  rw [g]; rfl
theorem waits_cnt {Ll : LkF} {s e : Lv} {q : List (Lv × Nat)} (a : CP (cntG Ll) s q e) : ((rgD Ll q).filter fun d => decide (d = none)).length + cntR (cntG Ll) q = q.length := by
  induction a with
  | nil => rfl
  | @cons s t e l c p h1 _ ih =>
    obtain ⟨y, hy, hy2, hyc⟩ := cntG_at h1
    unfold rgD cntR at ih ⊢
    rw [List.map_cons, List.map_cons, List.sum_cons, cnR_of h1, List.length_cons, List.filter_cons]
    have e : (((Ll s)[l]?).map Prod.fst).getD none = y.1 := by rw [hy]; rfl
    rw [e, hyc]
    by_cases hn : y.1 = none
    · rw [if_pos (decide_eq_true hn), if_pos hn, List.length_cons]; omega
    · rw [if_neg (by rw [decide_eq_false hn]; exact Bool.false_ne_true), if_neg hn]; omega
theorem rgD_len (Ll : LkF) (q : List (Lv × Nat)) : (rgD Ll q).length = q.length := by unfold rgD; rw [List.length_map]
end
theorem kpN_all {fs rs cs : List Nat} {ld rg : List (Option Nat)} {F N : Nat} (hf : ∀ x ∈ fs, x ≤ F) (hN : (F + 1) ^ fs.length ≤ N) (h : (kpN fs rs cs ld rg N).isSome = true) : ∀ n, (kpN fs rs cs ld rg n).isSome = true := by
  let ls : List Lv := (List.range (N + 1)).map fun i => (kpN fs rs cs ld rg i).getD []
  have hat : ∀ i, i ≤ N → kpN fs rs cs ld rg i = some ((kpN fs rs cs ld rg i).getD []) := fun i hi => by
    obtain ⟨l, hl⟩ := Option.isSome_iff_exists.mp (kpN_le h i hi)
    rw [hl]; rfl
  by_cases hn : ls.Nodup
  · have := lv_many (n := fs.length) (F := F) hn fun s hs => by
      obtain ⟨i, hi, rfl⟩ := List.mem_map.mp hs
      exact kpN_ok hf rfl i (hat i (by have := List.mem_range.mp hi; omega))
    have hl : ls.length = N + 1 := by show ((List.range (N + 1)).map _).length = _; rw [List.length_map, List.length_range]
    omega
  · have : ∃ i j, i < j ∧ j ≤ N ∧ (kpN fs rs cs ld rg i).getD [] = (kpN fs rs cs ld rg j).getD [] := by
      refine Classical.byContradiction fun z => hn ?_
      show ((List.range (N + 1)).map _).Nodup
      refine List.pairwise_map.mpr (List.Pairwise.imp_of_mem (fun {i j} hi hj hij e => z ⟨i, j, hij, by have := List.mem_range.mp hj; omega, e⟩) List.pairwise_lt_range)
    obtain ⟨i, j, hij, hj, e⟩ := this
    exact kpN_back hij (by rw [hat i (by omega), hat j hj, e]) (kpN_le h j hj)
def ldSum (fs cs : List Nat) : Nat := (cs.map fun c => 840 / fs.getD c 0).sum
theorem ldS_eq {q : Nat × Nat} {f S : Nat} (hq : q.1 * 840 = S * q.2) (hf : 0 < f) (hd : f ∣ 840) (hp : 0 < q.2) : (ldS q f).1 * 840 = (S + 840 / f) * (ldS q f).2 := by
  unfold ldS
  have hpos : 0 < q.2 * f := Nat.mul_pos hp hf
  have d1 := Nat.gcd_dvd_left (q.1 * f + q.2) (q.2 * f)
  have d2 := Nat.gcd_dvd_right (q.1 * f + q.2) (q.2 * f)
  have hg := Nat.gcd_pos_of_pos_right (q.1 * f + q.2) hpos
  generalize Nat.gcd (q.1 * f + q.2) (q.2 * f) = g at *
  have e840 : 840 = 840 / f * f := (Nat.div_mul_cancel hd).symm
  have main : (q.1 * f + q.2) * 840 = (S + 840 / f) * (q.2 * f) := by
    have h1 : q.1 * f * 840 = S * (q.2 * f) := by rw [Nat.mul_right_comm, hq, Nat.mul_assoc]
    have h2 : q.2 * 840 = 840 / f * (q.2 * f) := by
      conv => lhs; rw [e840]
      rw [Nat.mul_left_comm]
    rw [Nat.add_mul, h1, h2, ← Nat.add_mul]
  obtain ⟨x, hx⟩ := d1
  obtain ⟨y, hy⟩ := d2
  rw [hx, hy] at main
  show (q.1 * f + q.2) / g * 840 = (S + 840 / f) * (q.2 * f / g)
  rw [hx, hy, Nat.mul_div_cancel_left _ hg, Nat.mul_div_cancel_left _ hg]
  refine Nat.eq_of_mul_eq_mul_left hg ?_
  rw [← Nat.mul_assoc, main, Nat.mul_left_comm]
theorem load_eq {fs cs : List Nat} (h : ∀ c ∈ cs, 0 < fs.getD c 0 ∧ fs.getD c 0 ∣ 840) : (loadD fs cs).1 * 840 = ldSum fs cs * (loadD fs cs).2 ∧ 0 < (loadD fs cs).2 := by
  have key : ∀ (cs : List Nat) (q : Nat × Nat) (S : Nat), (∀ c ∈ cs, 0 < fs.getD c 0 ∧ fs.getD c 0 ∣ 840) → q.1 * 840 = S * q.2 → 0 < q.2 → ((cs.map fun c => fs.getD c 0).foldl ldS q).1 * 840 = (S + ldSum fs cs) * ((cs.map fun c => fs.getD c 0).foldl ldS q).2 ∧ 0 < ((cs.map fun c => fs.getD c 0).foldl ldS q).2 := by
    intro cs
    induction cs with
    | nil => exact fun q S _ h1 h2 => ⟨by unfold ldSum; simpa using h1, h2⟩
    | cons c cs ih =>
      intro q S hc h1 h2
      obtain ⟨g1, g2⟩ := hc c List.mem_cons_self
      obtain ⟨k1, k2⟩ := ih (ldS q (fs.getD c 0)) (S + 840 / fs.getD c 0) (fun x hx => hc x (List.mem_cons_of_mem _ hx)) (ldS_eq h1 g1 g2 h2) (ldS_pos h2 g1)
      rw [List.map_cons, List.foldl_cons]
      refine ⟨?_, k2⟩
      rw [k1]
      unfold ldSum
      rw [List.map_cons, List.sum_cons, Nat.add_assoc]
  have := key cs (0, 1) 0 h (by decide) (by decide)
  rw [Nat.zero_add] at this
  exact this
def tchN (rs : List Nat) (c : Nat) : Option Nat → Nat
  | some c' => if rs.getD c' 0 = rs.getD c 0 then 1 else 0
  | none => 0
def tchT (rs : List Nat) (c : Nat) (rd : List (Option Nat)) : Nat := (rd.map (tchN rs c)).sum
theorem life_walk {fs rs cs : List Nat} {ds : List (Option Nat)} {s e : Lv} {rd : List (Option Nat)} {c : Nat} (hc : c ∈ cs) (w : WkL (lnkD fs rs cs ds) s rd e) : ∀ (_ : c < s.length), e.getD c 0 + rd.length ≤ s.getD c 0 + tchT rs c rd * fs.getD c 0 := by
  induction w with
  | nil => intro _; unfold tchT; simp
  | @cons s t e d rd h1 _ ih =>
    intro hs
    obtain ⟨_, h2, h3⟩ := mem_lnkD.mp h1
    have hpos := lost_of.mp h2 c hc
    have htc : t.getD c 0 = (livD fs rs s d).getD c 0 := by rw [h3, onlyL_at hc (by rw [livD_len]; exact hs)]
    have ht := ih (by rw [h3, onlyL_len, livD_len]; exact hs)
    have step : t.getD c 0 + 1 ≤ s.getD c 0 + tchN rs c d * fs.getD c 0 := by
      rw [htc]
      cases d with
      | none => rw [livW_at hs] at hpos ⊢; show _ ≤ _ + 0 * _; omega
      | some c' =>
        rw [livT_at hs] at hpos ⊢
        unfold tch at hpos ⊢
        show _ ≤ s.getD c 0 + (if rs.getD c' 0 = rs.getD c 0 then 1 else 0) * fs.getD c 0
        by_cases h0 : s.getD c 0 = 0
        · rw [if_pos h0] at hpos; omega
        · rw [if_neg h0] at hpos ⊢
          by_cases hr : rs.getD c 0 = rs.getD c' 0
          · rw [if_pos hr] at hpos ⊢
            rw [if_pos hr.symm]; omega
          · rw [if_neg hr] at hpos ⊢
            rw [if_neg (fun z : rs.getD c' 0 = rs.getD c 0 => hr z.symm)]; omega
    have e1 : tchT rs c (d :: rd) = tchN rs c d + tchT rs c rd := by unfold tchT; rw [List.map_cons, List.sum_cons]
    rw [e1, Nat.add_mul, List.length_cons]
    omega
theorem one_row {rs : List Nat} (hd : ∀ i j, i < rs.length → j < rs.length → rs.getD i 0 = rs.getD j 0 → i = j) {c' : Nat} (hc' : c' < rs.length) : ∀ {cs : List Nat}, cs.Nodup → (∀ c ∈ cs, c < rs.length) → (cs.map fun c => tchN rs c (some c')).sum ≤ 1
  | [], _, _ => Nat.zero_le _
  | c :: cs, hn, hl => by
    rw [List.nodup_cons] at hn
    rw [List.map_cons, List.sum_cons]
    by_cases h : rs.getD c' 0 = rs.getD c 0
    · have e := hd c' c hc' (hl c List.mem_cons_self) h
      have h0 : (cs.map fun c => tchN rs c (some c')).sum = 0 := by
        have : ∀ x ∈ cs, tchN rs x (some c') = 0 := fun x hx => by
          unfold tchN
          refine if_neg fun z => hn.1 ?_
          rw [← e, hd c' x hc' (hl x (List.mem_cons_of_mem _ hx)) z]; exact hx
        rw [List.map_congr_left this]
        clear this
        induction cs with
        | nil => rfl
        | cons y ys ih => rw [List.map_cons, List.sum_cons, ih ⟨fun z => hn.1 (List.mem_cons_of_mem _ z), (List.nodup_cons.mp hn.2).2⟩ (fun x hx => hl x (by rcases List.mem_cons.mp hx with rfl | hx; exact List.mem_cons_self; exact List.mem_cons_of_mem _ (List.mem_cons_of_mem _ hx)))]
      have h1 : tchN rs c (some c') ≤ 1 := by
        show (if rs.getD c' 0 = rs.getD c 0 then 1 else 0) ≤ 1
        split <;> omega
      omega
    · have := one_row hd hc' hn.2 fun x hx => hl x (List.mem_cons_of_mem _ hx)
      have h0 : tchN rs c (some c') = 0 := by unfold tchN; exact if_neg h
      omega
theorem rows_sum {rs cs : List Nat} (hd : ∀ i j, i < rs.length → j < rs.length → rs.getD i 0 = rs.getD j 0 → i = j) (hn : cs.Nodup) (hl : ∀ c ∈ cs, c < rs.length) : ∀ {rd : List (Option Nat)}, (∀ c, some c ∈ rd → c < rs.length) → (cs.map fun c => tchT rs c rd).sum + (rd.filter fun d => decide (d = none)).length ≤ rd.length
  | [], _ => by
    have : (cs.map fun c => tchT rs c []).sum = 0 := by
      clear hn hl
      induction cs with
      | nil => rfl
      | cons c cs ih => rw [List.map_cons, List.sum_cons, ih]; rfl
    rw [this]; exact Nat.le_refl _
  | d :: rd, h => by
    have ih := rows_sum hd hn hl (rd := rd) fun c hc => h c (List.mem_cons_of_mem _ hc)
    have e : (cs.map fun c => tchT rs c (d :: rd)).sum = (cs.map fun c => tchN rs c d).sum + (cs.map fun c => tchT rs c rd).sum := by
      clear ih h hn hl
      induction cs with
      | nil => rfl
      | cons c cs ih =>
        rw [List.map_cons, List.map_cons, List.map_cons, List.sum_cons, List.sum_cons, List.sum_cons, ih]
        have : tchT rs c (d :: rd) = tchN rs c d + tchT rs c rd := by unfold tchT; rw [List.map_cons, List.sum_cons]
        omega
    rw [e, List.filter_cons, List.length_cons]
    cases d with
    | none =>
      have h0 : (cs.map fun c => tchN rs c none).sum = 0 := by
        clear ih h hn hl e
        induction cs with
        | nil => rfl
        | cons c cs ih => rw [List.map_cons, List.sum_cons, ih]; rfl
      rw [h0, if_pos (decide_eq_true rfl), List.length_cons]; omega
    | some c =>
      have := one_row hd (h c List.mem_cons_self) hn hl
      rw [if_neg (by rw [decide_eq_false (fun z => nomatch z)]; exact Bool.false_ne_true)]; omega
theorem load_share {fs rs cs : List Nat} {sp : List Lv} {lens : List (Lv × Nat)} {q : List (Lv × Nat)} {s1 : Lv} {a b : Nat} (hll : fs.length = rs.length) (hr : ∀ c ∈ cs, c < rs.length) (hasc : cs.Pairwise (· < ·)) (hf : ∀ c ∈ cs, 0 < fs.getD c 0 ∧ fs.getD c 0 ∣ 840) (hd : ∀ i j, i < rs.length → j < rs.length → rs.getD i 0 = rs.getD j 0 → i = j) (ok : RdsOk fs rs cs sp lens) (E : EndP fs rs cs sp lens q s1 a b) : a * (loadD fs cs).2 + (loadD fs cs).1 * b ≤ b * (loadD fs cs).2 := by
  obtain ⟨e1, hlow⟩ := load_eq hf
  obtain ⟨hs1, _⟩ := List.mem_filter.mp E.at_
  have hql : 0 < q.length := List.length_pos_iff.mpr E.ne
  have wk := E.cp.walk.mono (L' := lnkD fs rs cs (allD rs cs)) lastL_sub
  have hsl : s1.length = rs.length := (ok.lv s1 hs1).1
  have hper : ∀ c ∈ cs, q.length ≤ tchT rs c (rgD (lastL (lnkD fs rs cs (allD rs cs)) lens) q) * fs.getD c 0 := fun c hc => by
    have := life_walk hc wk (by rw [hsl]; exact hr c hc)
    rw [rgD_len] at this
    omega
  have hmem : ∀ c, some c ∈ rgD (lastL (lnkD fs rs cs (allD rs cs)) lens) q → c < rs.length := fun c hc => by
    have key : ∀ {s e : Lv} {rd : List (Option Nat)}, WkL (lnkD fs rs cs (allD rs cs)) s rd e → some c ∈ rd → c < rs.length := fun {s e rd} w => by
      induction w with
      | nil => exact fun z => nomatch z
      | cons h1 _ ih =>
        intro z
        rcases List.mem_cons.mp z with z | z
        · obtain ⟨hd', _, _⟩ := mem_lnkD.mp h1
          rw [← z] at hd'
          exact hr c (allD_mem c hd')
        · exact ih z
    exact key wk hc
  have hsum := rows_sum hd (hasc.imp fun h => Nat.ne_of_lt h) hr hmem
  rw [rgD_len] at hsum
  have hw := waits_cnt E.cp
  have hS : ldSum fs cs * q.length ≤ 840 * (cs.map fun c => tchT rs c (rgD (lastL (lnkD fs rs cs (allD rs cs)) lens) q)).sum := by
    have : ∀ cs' : List Nat, (∀ c ∈ cs', c ∈ cs) → ldSum fs cs' * q.length ≤ 840 * (cs'.map fun c => tchT rs c (rgD (lastL (lnkD fs rs cs (allD rs cs)) lens) q)).sum := by
      intro cs'
      induction cs' with
      | nil => intro _; unfold ldSum; simp
      | cons c cs' ih =>
        intro h
        have h1 := ih fun x hx => h x (List.mem_cons_of_mem _ hx)
        have hcm := h c List.mem_cons_self
        have h2 := Nat.mul_le_mul_left (840 / fs.getD c 0) (hper c hcm)
        have e840 : 840 / fs.getD c 0 * fs.getD c 0 = 840 := Nat.div_mul_cancel (hf c hcm).2
        have h3 : 840 / fs.getD c 0 * (tchT rs c (rgD (lastL (lnkD fs rs cs (allD rs cs)) lens) q) * fs.getD c 0) = 840 * tchT rs c (rgD (lastL (lnkD fs rs cs (allD rs cs)) lens) q) := by
          rw [Nat.mul_comm (tchT _ _ _), ← Nat.mul_assoc, e840]
        rw [h3] at h2
        unfold ldSum at h1 ⊢
        rw [List.map_cons, List.sum_cons, List.map_cons, List.sum_cons, Nat.add_mul, Nat.mul_add]
        omega
    exact this cs fun _ h => h
  have ha := E.ra
  have hbq := E.rb
  have d1 := Nat.gcd_dvd_left (cntR (cntG (lastL (lnkD fs rs cs (allD rs cs)) lens)) q) q.length
  have d2 := Nat.gcd_dvd_right (cntR (cntG (lastL (lnkD fs rs cs (allD rs cs)) lens)) q) q.length
  have hgp := Nat.gcd_pos_of_pos_right (cntR (cntG (lastL (lnkD fs rs cs (allD rs cs)) lens)) q) hql
  have hcle : cntR (cntG (lastL (lnkD fs rs cs (allD rs cs)) lens)) q ≤ q.length := by omega
  have hS2 : ldSum fs cs * q.length ≤ 840 * cntR (cntG (lastL (lnkD fs rs cs (allD rs cs)) lens)) q := Nat.le_trans hS (Nat.mul_le_mul_left 840 (by omega))
  clear hS hsum hw hper hmem
  generalize Nat.gcd (cntR (cntG (lastL (lnkD fs rs cs (allD rs cs)) lens)) q) q.length = g at *
  generalize cntR (cntG (lastL (lnkD fs rs cs (allD rs cs)) lens)) q = c at *
  have ec : c = g * (c / g) := (Nat.mul_div_cancel' d1).symm
  have en : q.length = g * (q.length / g) := (Nat.mul_div_cancel' d2).symm
  rw [← hbq] at ha en
  generalize c / g = t at *
  have htb : t ≤ b := by
    refine (Nat.mul_le_mul_left_iff hgp).mp ?_
    rw [← ec, ← en]; exact hcle
  have hSb : ldSum fs cs * b ≤ 840 * t := by
    refine (Nat.mul_le_mul_left_iff hgp).mp ?_
    have x1 : g * (ldSum fs cs * b) = ldSum fs cs * q.length := by rw [Nat.mul_left_comm, ← en]
    have x2 : g * (840 * t) = 840 * c := by rw [Nat.mul_left_comm, ← ec]
    rw [x1, x2]; exact hS2
  generalize loadD fs cs = ld at *
  generalize ldSum fs cs = S at *
  refine (Nat.mul_le_mul_left_iff (show 0 < 840 by decide)).mp ?_
  have y1 : 840 * (ld.1 * b) = S * b * ld.2 := by
    have : 840 * (ld.1 * b) = ld.1 * 840 * b := by rw [← Nat.mul_assoc, Nat.mul_comm 840]
    rw [this, e1, Nat.mul_right_comm]
  have y2 : S * b * ld.2 ≤ 840 * t * ld.2 := Nat.mul_le_mul_right _ hSb
  have y3 : 840 * (a * ld.2) + 840 * t * ld.2 = 840 * (b * ld.2) := by
    rw [ha, Nat.mul_assoc 840 t, ← Nat.mul_add, ← Nat.add_mul, Nat.sub_add_cancel htb]
  rw [Nat.mul_add, y1]
  omega
end Fm
set_option maxHeartbeats 1000000
namespace Fm
open PySem L2 Evl
structure BaseE (K : PySem.W.Frag) (mg : Str → Option Value) (x : Str) (C : Addr) : Prop where
  gC : mg x = some (.ref C)
  kC : PySem.W.keepIn K (.ref C) = true
  q : PySem.W.excIn K C [.type "ValueError", .type "Exception", .type "BaseException", .type "object"] "ValueError.__new__" = true
  ex : PySem.W.subIn K (.ref C) (.type "BaseException") = some true
  ty : PySem.W.typeIn K (.ref C) = some (.type "type")
  te : PySem.W.exmOne K (.ref C) (.ref C) = some true
def ErrB (C : Addr) (H : Hp) (E : XK) : Prop := ∀ H', Ex H H' → E (.ref C) none H'
theorem ErrB.up {C : Addr} {H H' : Hp} {E : XK} (e : Ex H H') (h : ErrB C H E) : ErrB C H' E := fun H2 e2 => h H2 (e.trans e2)
theorem log_small {i : Int} (h1 : -1000000 ≤ i) (h2 : i ≤ 1000000) : i.natAbs.log2 < 1920 := by
  have h : i.natAbs < 2 ^ 20 := by omega
  by_cases z : i.natAbs = 0
  · rw [z]; decide
  · have := (Nat.log2_lt z).mpr h
    omega
theorem text_len {i : Int} (h1 : -1000000 ≤ i) (h2 : i ≤ 1000000) : (Str.ofString (toString i)).length ≤ 10000 := by
  have e := int_text_length_le (k := 1920) (by decide) (log_small h1 h2)
  rw [PySem.ofString_length]
  omega
theorem strA (a b : Str) : (a ++ b).length = a.length + b.length := Array.size_append
theorem s_callX {sp : Sp} {W : L2.St → XK} {ta : TA} {vs : List V} {D : Ends} {σ : L2.St} {H : Hp} (h : EvA ta σ H vs) (k : ∀ H1, Ex H H1 → sp vs H1 (fun _ H2 => D.nx σ H2) (W σ)) : tDrop (tCallS sp W ta) D σ H := h H (Ex.refl H) _ k
end Fm
set_option maxHeartbeats 1000000
namespace Fm
open PySem L2 Evl RZ
def spChkCeX (K : PySem.W.Frag) (C : Addr) : Sp := fun vs H _ E => ∃ (m : Addr) (fs rs : List Nat) (v : V) (o : Option Int), vs = [.ref m, v] ∧ MaT K H m fs rs ∧ MaOk fs rs ∧ IntV K H v o ∧ inRange o 0 ((fs.length : Int) - 1) = false ∧ ErrB C H E
section
variable {P : Program} {w : World} {K : PySem.W.Frag} {mg : Str → Option Value} {base : Heap}
def spChkCeOfX (K : PySem.W.Frag) (CBC : Addr) : Sp := fun vs H Q E => ∃ (n : Nat) (v : V) (o : Option Int), vs = [.int (n : Nat), v] ∧ n ≤ 1000 ∧ IntV K H v o ∧ inRange o 0 ((n : Int) - 1) = false ∧ ∀ H', Ex H H' → E (.ref CBC) none H'
theorem okX_check_cell_of {f f1 CBC : Addr} {fd fd1 : FuncData} (F : Fun K "check_cell_of" "check_cell_of" s_check_cell_of f fd) (T : Txt K mg) (B_BadCell : BaseE K mg "BadCell" CBC) (C_is_integer : Cal P w K mg base CX0 2 "is_integer" f1 fd1 ["value", "low", "high"] (spIsInt K)) : FnOk P w K mg base (L2.CX P w) 3 f fd ["cells", "value"] (spChkCeOfX K CBC) := by
  refine F.okX sc_check_cell_of (fun vs H Q E h => ?_) (fun cdv A outer s H vs Q E hr h => ?_)
  · obtain ⟨_, _, _, rfl, _⟩ := h
    rfl
  · obtain ⟨n, v, o, rfl, hn, hv, ho, k⟩ := h
    refine ⟨_, (pss_one (ps_if (pt_not (pt_val (pe_call C_is_integer.G (hr.mono (by first | decide | omega)) rfl C_is_integer.g C_is_integer.kp C_is_integer.b .nil pass0 (pa_cons (pv 1) (pa_cons pe_int (pa_cons (pe_op op_sub (pv 0) pe_int) pa_nil)))))) (pss_one (ps_raise rfl (takes_of rfl rfl rfl rfl) (SkE.pmk_own1 PySem.F.excBase_ValueError B_BadCell.q B_BadCell.gC B_BadCell.kC (raises_own B_BadCell.ex B_BadCell.ty) rfl (pe_joined (PJ.cons pe_str (PJ.cons (pe_fmt (pv 0)) PJ.nil)))))) pss_nil)), ?_⟩
    refine s_when (b := true) (et_not (a := false) (et_B (ev_callV (ea_cons (ev_var rfl) (ea_cons ev_c (ea_cons (ev_i0 (ev_var rfl) ev_c) ea_nil))) fun H1 e1 Q' q => ⟨_, 0, (n : Int) - 1, o, rfl, hv.up e1, fun H2 e2 => by
      rw [ho]
      exact q H2 e2⟩))) (fun _ H1 e1 => ?_) fun z => nomatch z
    have l1 := text_len (i := (n : Int)) (by omega) (by omega)
    refine ⟨_, rfl, ?_, ?_⟩
    · rw [strA, sizeLine_eq]
      decide +kernel
    refine ⟨_, rfl, .inr ⟨(n : Int), rfl, log_small (by omega) (by omega), _, rfl, ?_, ?_⟩⟩
    · rw [strA, strA, sizeLine_eq]
      have : (Str.empty.length : Nat) + ("no cell of " : Str).length ≤ 1000 := by decide +kernel
      omega
    exact k H1 e1
theorem okX_check_cell {f f1 CBC : Addr} {fd fd1 : FuncData} (F : Fun K "check_cell" "check_cell" s_check_cell f fd) (T : Txt K mg) (C_check_cell_ofX : Cal P w K mg base (L2.CX P w) 3 "check_cell_of" f1 fd1 ["cells", "value"] (spChkCeOfX K CBC)) : FnOk P w K mg base (L2.CX P w) 4 f fd ["machine", "value"] (spChkCeX K CBC) := by
  refine F.okX sc_check_cell (fun vs H Q E h => ?_) (fun cdv A outer s H vs Q E hr h => ?_)
  · obtain ⟨_, _, _, _, _, rfl, _⟩ := h
    rfl
  · obtain ⟨m, fs, rs, v, o, rfl, ⟨a, b, hm, ha, hb⟩, ok, hv, ho, k⟩ := h
    refine ⟨_, (pss_one (ps_expr (pe_callS C_check_cell_ofX.G (hr.mono (by first | decide | omega)) rfl C_check_cell_ofX.g C_check_cell_ofX.kp C_check_cell_ofX.b (fun σ => passAt (takes_of rfl rfl rfl rfl) σ) (pa_cons (pe_callB (len_K (K := K) rfl) (by rfl) T.z_len (by decide +kernel) (pa_cons (pe_ix (ix_K (K := K) rfl) (pv 0) pe_int (fun _ _ => rfl)) pa_nil)) (pa_cons (pv 1) pa_nil))))), ?_⟩
    have hll := ok.ll
    have hl4 := ok.l4
    exact s_callX (ea_cons (ev_lnT (ev_ixT (ev_var rfl) ev_c hm rfl) ha) (ea_cons (ev_var rfl) ea_nil)) fun H1 e1 => ⟨(nV fs).length, v, o, rfl, by rw [nV_len]; omega, hv.up e1, by rw [nV_len]; exact ho, fun H2 e2 => k H2 (e1.trans e2)⟩
end
end Fm
set_option maxHeartbeats 1000000
namespace Fm
open PySem L2 Evl RZ
section
variable {P : Program} {w : World} {K : PySem.W.Frag} {mg : Str → Option Value} {base : Heap} {k : Nat} {f : Addr} {fd : FuncData} {ps : List Str} {sp sp' : Sp}
theorem FnOk.lift8 (F : FnOk P w K mg base CX0 k f fd ps sp) : FnOk P w K mg base (L2.CX P w) k f fd ps sp :=
  ⟨F.len, fun A outer s H args us vs Q E hr e0 hb r h => codeAny_mono (F.run A outer s H args us vs Q E hr e0 hb r h) fun r s' hq => by
    cases r with
    | ok u => cases u <;> exact hq
    | error e => exact False.elim hq⟩
theorem FnOk.or8 (F : FnOk P w K mg base CX0 k f fd ps sp) (F' : FnOk P w K mg base (L2.CX P w) k f fd ps sp') : FnOk P w K mg base (L2.CX P w) k f fd ps (fun vs H Q E => sp vs H Q E ∨ sp' vs H Q E) :=
  ⟨fun vs H Q E h => h.elim (F.len vs H Q E) (F'.len vs H Q E), fun A outer s H args us vs Q E hr e b v h => h.elim ((FnOk.lift8 F).run A outer s H args us vs Q E hr e b v) (F'.run A outer s H args us vs Q E hr e b v)⟩
end
theorem m_callSR {σ : L2.St} {H : Hp} {Q : VK} {tA : TA} {sp : Sp} {e : L2.St → XK} (h : tA σ H fun vs H1 => sp vs H1 Q (e σ)) : tCallS sp e tA σ H Q := h
inductive BadLot (K : PySem.W.Frag) (H : Hp) (n : Nat) : V → Prop where
  | non : BadLot K H n .non
  | lst {a : Addr} {xs : List V} : SqL K H a xs → BadLot K H n (.ref a)
  | void {a : Addr} : SqT K H a [] → BadLot K H n (.ref a)
  | far {a : Addr} {c : Nat} : SqT K H a [.int (c : Nat)] → n ≤ c → BadLot K H n (.ref a)
  | bl {a : Addr} {b : Bool} : SqT K H a [.bl b] → BadLot K H n (.ref a)
  | two {a : Addr} : SqT K H a [.int 0, .int 0] → 0 < n → BadLot K H n (.ref a)
theorem BadLot.up {K : PySem.W.Frag} {H H' : Hp} {n : Nat} {v : V} (e : Ex H H') (h : BadLot K H n v) : BadLot K H' n v := by
  cases h with
  | non => exact .non
  | lst h => exact .lst (ex_l e h)
  | void h => exact .void (ex_t e h)
  | far h h1 => exact .far (ex_t e h) h1
  | bl h => exact .bl (ex_t e h)
  | two h h1 => exact .two (ex_t e h) h1
def spLotX (K : PySem.W.Frag) (C : Addr) : Sp := fun vs H _ E => ∃ (m : Addr) (fs rs : List Nat) (v : V), vs = [.ref m, v] ∧ MaT K H m fs rs ∧ MaOk fs rs ∧ BadLot K H fs.length v ∧ ErrB C H E
section
variable {P : Program} {w : World} {K : PySem.W.Frag} {mg : Str → Option Value} {base : Heap} {C CR : Addr}
theorem okX_check_lot {f f1 CBC : Addr} {fd fd1 : FuncData} (F : Fun K "check_lot" "check_lot" s_check_lot f fd) (T : Txt K mg) (B_BadCell : BaseE K mg "BadCell" CBC) (C_check_cellX : Cal P w K mg base (L2.CX P w) 4 "check_cell" f1 fd1 ["machine", "value"] (fun vs H Q E => spChkCe K vs H Q E ∨ spChkCeX K CBC vs H Q E)) : FnOk P w K mg base (L2.CX P w) 5 f fd ["machine", "value"] (spLotX K CBC) := by
  refine F.okX sc_check_lot (fun vs H Q E h => ?_) (fun cdv A outer s H vs Q E hr h => ?_)
  · obtain ⟨_, _, _, _, rfl, _⟩ := h
    rfl
  · obtain ⟨m, fs, rs, v, rfl, hm, hmo, hb, k⟩ := h
    refine ⟨_, (pss_cons (ps_if (PW.pt (pw_or (pt_not (pt_val (pe_callB (isi_K (K := K) rfl) (by rfl) T.z_isinstance (by decide +kernel) (pa_cons (pv 1) (pa_cons (pe_bltn (v := .ty "tuple") (by rfl) T.z_tuple (by decide +kernel) rfl) pa_nil))))) (pw_or1 (pt_cmpR (eqD_K (K := K) rfl hr.units) (pv 1) (pe_tup pa_nil) (nomark _))))) (pss_one (ps_raise rfl (takes_of rfl rfl rfl rfl) (SkE.pmk_own1 PySem.F.excBase_ValueError B_BadCell.q B_BadCell.gC B_BadCell.kC (raises_own B_BadCell.ex B_BadCell.ty) rfl pe_str))) pss_nil)
  (pss_cons (ps_set (i := 2) sc_check_lot.nd rfl (Or.inl rfl) (pe_un un_neg pe_int))
  (pss_one (ps_for (passes_of rfl) rfl (pi_tupK (K := K) rfl (pv 1)) (pg_name (i := 3) sc_check_lot.nd rfl (by first | exact Or.inl rfl | exact Or.inr rfl)) (pss_cons (ps_expr (pe_callS C_check_cellX.G (hr.mono (by first | decide | omega)) rfl C_check_cellX.g C_check_cellX.kp C_check_cellX.b (fun σ => passAt (takes_of rfl rfl rfl rfl) σ) (pa_cons (pv 0) (pa_cons (pv 3) pa_nil))))
  (pss_cons (ps_if (pt_cmpR op_le (pv 3) (pv 2) (nomark _)) (pss_one (ps_raise rfl (takes_of rfl rfl rfl rfl) (SkE.pmk_own1 PySem.F.excBase_ValueError B_BadCell.q B_BadCell.gC B_BadCell.kC (raises_own B_BadCell.ex B_BadCell.ty) rfl pe_str))) pss_nil)
  (pss_one (ps_set (i := 2) sc_check_lot.nd rfl (Or.inl rfl) (pv 3))))))))), ?_⟩
    have rz : ∀ {Hx : Hp} {σ : L2.St} {t : Str} {D : V → Hp → Prop}, Ex H Hx → (∀ x H1, Ex Hx H1 → D x H1) → tC (.str t) σ Hx D := fun {Hx σ t D} e q => ev_c Hx (Ex.refl _) _ fun H1 e1 => q _ H1 e1
    have neq : ∀ {a : Addr} {x : V} {xs : List V} {d : PyData} {ds : List PyData}, v = .ref a → SqT K H a (x :: xs) → (∀ H', Dp K H' x d) → (∀ H', DpAll K H' xs ds) → SeqAt.shaped (.tuple (d :: ds)) = true → EvT (tTest (tOp (rEqD K) (tVar 1) (tTup tNil))) [some (.ref m), some v, none, none] H false := fun {a x xs d ds} hv ha hd hds hsh => by
      have h0 : PyData.eqv (.tuple (d :: ds)) (.tuple []) = false := by simp [PyData.eqv, PyData.eqvAll]
      rw [← h0]
      refine et_test (fun H1 e1 Q q => ?_)
      refine (ev_var rfl : Ev (tVar 1) [some (.ref m), some v, none, none] H v) H1 e1 _ fun H2 e2 => ⟨Nat.zero_le _, fun p hp => ?_⟩
      have e3 := Ex.new (o := .tup []) hp
      subst hv
      exact ⟨_, .tuple [], .tup (ex_t ((e1.trans e2).trans e3) ha) (.cons (hd _) (hds _)), .tup (st_of upd_same) .nil, hsh, by rfl, q _ (e2.trans e3)⟩
    have kind : (EvT (tOr (tNot (tB (tCB (rIsi K) (tCons (tVar 1) (tCons (tC (V.ty "tuple")) tNil))))) (tTest (tOp (rEqD K) (tVar 1) (tTup tNil)))) [some (.ref m), some v, none, none] H true) ∨ (∃ a x xs d ds, v = .ref a ∧ SqT K H a (x :: xs) ∧ (∀ H', Dp K H' x d) ∧ (∀ H', DpAll K H' xs ds) ∧ SeqAt.shaped (.tuple (d :: ds)) = true ∧ ((∃ o, IntV K H x o ∧ inRange o 0 ((fs.length : Int) - 1) = false) ∨ (x = .int 0 ∧ xs = [.int 0] ∧ 0 < fs.length))) := by
      cases hb with
      | non => exact .inl (et_is (et_or (b := false) (et_not (a := false) (et_B (ev_isi (t := "NoneType") (b := false) (ev_var rfl) (.base .non) (by decide +kernel)))) fun z => nomatch z) rfl)
      | lst h => exact .inl (et_is (et_or (b := false) (et_not (a := false) (et_B (ev_isi (t := "list") (b := false) (ev_var rfl) (ty_lst h) (by decide +kernel)))) fun z => nomatch z) rfl)
      | @void a h =>
        refine .inl (et_is (et_or (b := true) (et_not (a := true) (et_B (ev_isi (t := "tuple") (b := true) (ev_var rfl) (ty_tup h) (by decide +kernel)))) fun _ => ?_) rfl)
        have := lvD_eqv [] []
        rw [show decide (([] : Lv) = []) = true from rfl] at this
        rw [← this]
        refine et_test (fun H1 e1 Q q => ?_)
        refine (ev_var rfl : Ev (tVar 1) [some (.ref m), some (.ref a), none, none] H (.ref a)) H1 e1 _ fun H2 e2 => ⟨Nat.zero_le _, fun p hp => ?_⟩
        have e3 := Ex.new (o := .tup []) hp
        exact ⟨lvD [], lvD [], .tup (ex_t ((e1.trans e2).trans e3) h) .nil, .tup (st_of upd_same) .nil, lvD_shaped [], lvD_shaped [], q _ (e2.trans e3)⟩
      | @far a c h h1 => exact .inr ⟨a, _, [], .int _, [], rfl, h, fun _ => .int _, fun _ => .nil, lvD_shaped [c], .inl ⟨some (c : Int), rfl, by show (decide ((0 : Int) ≤ (c : Int)) && decide ((c : Int) ≤ (fs.length : Int) - 1)) = false; rw [decide_eq_false (show ¬ (c : Int) ≤ (fs.length : Int) - 1 by omega), Bool.and_false]⟩⟩
      | @bl a b h => exact .inr ⟨a, _, [], .bool b, [], rfl, h, fun _ => .bl b, fun _ => .nil, by cases b <;> rfl, .inl ⟨none, IntV.bl, rfl⟩⟩
      | @two a h h1 => exact .inr ⟨a, _, _, .int 0, [.int 0], rfl, h, fun _ => .int 0, fun _ => .cons (.int 0) .nil, lvD_shaped [0, 0], .inr ⟨rfl, rfl, h1⟩⟩
    rcases kind with hk | ⟨a, x, xs, d, ds, rfl, ha, hd, hds, hsh, hx⟩
    · exact q_when (b := true) hk (fun _ H1 e1 => rz (e1) fun _ H2 e2 => k H2 (e1.trans e2)) (fun z => nomatch z)
    · refine q_when (b := false) (et_is (et_or (b := false) (et_not (a := true) (et_B (ev_isi (t := "tuple") (b := true) (ev_var rfl) (ty_tup ha) (by decide +kernel)))) fun _ => neq rfl ha hd hds hsh) rfl) (fun z => nomatch z) fun _ H1 e1 => ?_
      refine q_asg (ev_neg ev_c) fun H2 e2 => ?_
      try dsimp only [List.set]
      have e02 := e1.trans e2
      have hll := hmo.ll
      rcases hx with ⟨o, h1, h2⟩ | ⟨rfl, rfl, h0⟩
      · refine s_forT (a := a) (xs := x :: xs) (ev_var rfl) (ex_t e02 ha) (fun i σ' H' => i = 0 ∧ ∃ z3, σ' = [some (.ref m), some (.ref a), some (.int (-1)), z3] ∧ Ex H H') (fun H3 e3 => ⟨rfl, _, rfl, e02.trans e3⟩) (fun i σ' H' _ ⟨_, _, _, e⟩ => ex_t e ha) (fun i v σ' H' hv ⟨hi, z3, hσ, e⟩ => ?_) (fun σ' H' ⟨hi, _⟩ => nomatch hi)
        subst hi hσ
        cases hv
        try dsimp only [List.set]
        refine q_dropR (m_callSR ?_)
        refine (ea_cons (ev_var rfl) (ea_cons (ev_var rfl) ea_nil) : EvA _ _ H' [.ref m, x]) H' (Ex.refl _) _ fun H4 e4 => .inr ?_
        exact ⟨m, fs, rs, x, o, rfl, hm.up (e.trans e4), hmo, by have := h1.up (e.trans e4); exact this, h2, fun H5 e5 => k H5 ((e.trans e4).trans e5)⟩
      · refine s_forT (a := a) (xs := [.int 0, .int 0]) (ev_var rfl) (ex_t e02 ha) (fun i σ' H' => i ≤ 1 ∧ ∃ z3, σ' = [some (.ref m), some (.ref a), some (.int ((i : Int) - 1)), z3] ∧ Ex H H') (fun H3 e3 => ⟨by decide, _, rfl, e02.trans e3⟩) (fun i σ' H' _ ⟨_, _, _, e⟩ => ex_t e ha) (fun i v σ' H' hv ⟨hi, z3, hσ, e⟩ => ?_) (fun σ' H' ⟨hi, _⟩ => absurd hi (by show ¬ 2 ≤ 1; decide))
        subst hσ
        have hv0 : v = .int 0 := by
          match i, hi, hv with
          | 0, _, hv => cases hv; rfl
          | 1, _, hv => cases hv; rfl
        subst hv0
        try dsimp only [List.set]
        refine q_dropR (m_callSR ?_)
        refine (ea_cons (ev_var rfl) (ea_cons (ev_var rfl) ea_nil) : EvA _ _ H' [.ref m, .int 0]) H' (Ex.refl _) _ fun H4 e4 => .inl ?_
        refine ⟨m, fs, rs, 0, rfl, hm.up (e.trans e4), hmo, by omega, fun H5 e5 => ?_⟩
        refine q_when (b := decide ((0 : Int) ≤ (i : Int) - 1)) (et_i0 (g := fun i j => decide (i ≤ j)) (ev_var rfl) (ev_var rfl)) (fun hb H6 e6 => rz ((e.trans e4).trans (e5.trans e6)) fun _ H7 e7 => k H7 (((e.trans e4).trans (e5.trans e6)).trans e7)) fun hb H6 e6 => ?_
        have hi0 : i = 0 := by have := of_decide_eq_false hb; omega
        subst hi0
        refine s_asg (ev_var rfl) fun H7 e7 => ?_
        exact ⟨by decide, _, rfl, ((e.trans e4).trans (e5.trans e6)).trans e7⟩
theorem okX_rounds_of {f f1 f2 f3 f4 f5 CBC : Addr} {fd fd1 fd2 fd3 fd4 fd5 : FuncData} (F : Fun K "rounds_of" "rounds_of" s_rounds_of f fd) (T : Txt K mg) (T_Rounds : RouT K C) (C_check_machine : Cal P w K mg base CX0 4 "check_machine" f1 fd1 ["value"] (spChkMa K)) (C_check_lotX : Cal P w K mg base (L2.CX P w) 5 "check_lot" f2 fd2 ["machine", "value"] (spLotX K CBC)) (M_Rounds : MkRou P w K mg base C f3 fd3) (M_Rounds_find_links : MCal P w K mg base C 5 "find_links" f4 fd4 ["self"] (spFindL P w K C)) (M_Rounds_find_lengths : MCal P w K mg base C 5 "find_lengths" f5 fd5 ["self"] (spFindN P w K C)) : FnOk P w K mg base (L2.CX P w) 6 f fd ["machine", "cells"] (spLotX K CBC) := by
  refine F.okX sc_rounds_of (fun vs H Q E h => ?_) (fun cdv A outer s H vs Q E hr h => ?_)
  · obtain ⟨_, _, _, _, rfl, _⟩ := h
    rfl
  · obtain ⟨m, fs, rs, v, rfl, hm, hmo, hb, k⟩ := h
    refine ⟨_, (pss_cons (ps_expr (pe_call C_check_machine.G (hr.mono (by first | decide | omega)) rfl C_check_machine.g C_check_machine.kp C_check_machine.b .nil pass0 (pa_cons (pv 0) pa_nil)))
  (pss_cons (ps_expr (pe_callS C_check_lotX.G (hr.mono (by first | decide | omega)) rfl C_check_lotX.g C_check_lotX.kp C_check_lotX.b (fun σ => passAt (takes_of rfl rfl rfl rfl) σ) (pa_cons (pv 0) (pa_cons (pv 1) pa_nil))))
  (pss_cons (ps_set (i := 2) sc_rounds_of.nd rfl (Or.inl rfl) (pe_make M_Rounds.M M_Rounds.G (hr.mono (by first | decide | omega)) rfl M_Rounds.g M_Rounds.b .nil pass0 (pa_cons (pv 0) (pa_cons (pv 1) pa_nil))))
  (pss_cons (ps_expr (pe_meth0 (pv 2) T_Rounds.cl M_Rounds_find_links.m M_Rounds_find_links.G (hr.mono (by first | decide | omega)) M_Rounds_find_links.b .nil pass0))
  (pss_cons (ps_expr (pe_meth0 (pv 2) T_Rounds.cl M_Rounds_find_lengths.m M_Rounds_find_lengths.G (hr.mono (by first | decide | omega)) M_Rounds_find_lengths.b .nil pass0))
  (pss_one (ps_ret (pv 2)))))))), ?_⟩
    refine q_call (ea_cons (ev_var rfl) ea_nil) fun H1 e1 => ⟨m, fs, rs, rfl, hm.up e1, hmo, fun H2 e2 => ?_⟩
    refine q_dropR (m_callSR ?_)
    refine (ea_cons (ev_var rfl) (ea_cons (ev_var rfl) ea_nil) : EvA _ _ H2 [.ref m, v]) H2 (Ex.refl _) _ fun H3 e3 => ?_
    have e03 := (e1.trans e2).trans e3
    exact ⟨m, fs, rs, v, rfl, hm.up e03, hmo, hb.up e03, fun H4 e4 => k H4 (e03.trans e4)⟩
theorem okX_endlessR {f f1 f2 f3 f4 f5 CBC : Addr} {fd fd1 fd2 fd3 fd4 fd5 : FuncData} (F : Fun K "endless" "endless" s_endless f fd) (T : Txt K mg) (T_Rounds : RouT K C) (T_Rings : RinT K CR) (C_rounds_ofX : Cal P w K mg base (L2.CX P w) 6 "rounds_of" f1 fd1 ["machine", "cells"] (spLotX K CBC)) (M_Rounds_lasting_links : MCal P w K mg base C 5 "lasting_links" f2 fd2 ["self"] (spLasting P w K C)) (M_Rings : MkRin P w K mg base CR f3 fd3) (M_Rings_least : MCal P w K mg base CR 4 "least" f4 fd4 ["self"] (spLeastR P w K CR)) (C_ratio_of : Cal P w K mg base CX0 1 "ratio_of" f5 fd5 ["top", "low"] (spRat K)) : FnOk P w K mg base (L2.CX P w) 7 f fd ["machine", "cells"] (spLotX K CBC) := by
  refine F.okX sc_endless (fun vs H Q E h => ?_) (fun cdv A outer s H vs Q E hr h => ?_)
  · obtain ⟨_, _, _, _, rfl, _⟩ := h
    rfl
  · obtain ⟨m, fs, rs, v, rfl, hm, hmo, hb, k⟩ := h
    refine ⟨_, (pss_cons (ps_set (i := 2) sc_endless.nd rfl (Or.inl rfl) (pe_callS C_rounds_ofX.G (hr.mono (by first | decide | omega)) rfl C_rounds_ofX.g C_rounds_ofX.kp C_rounds_ofX.b (fun σ => passAt (takes_of rfl rfl rfl rfl) σ) (pa_cons (pv 0) (pa_cons (pv 1) pa_nil))))
  (pss_cons (ps_if (pt_cmp (nin_K' (P := P) (w := w) rfl rfl hr.units (fld_KR (K := K) rfl (pv 2) rfl) (fld_KR (K := K) rfl (pv 2) rfl)) rfl) (pss_one (ps_ret pe_non)) pss_nil)
  (pss_cons (ps_set (i := 3) sc_endless.nd rfl (Or.inr rfl) (pe_meth0 (pv 2) T_Rounds.cl M_Rounds_lasting_links.m M_Rounds_lasting_links.G (hr.mono (by first | decide | omega)) M_Rounds_lasting_links.b .nil pass0))
  (pss_cons (ps_lock (setDcN_K (P := P) (w := w) (i := 4) (own := [("lives", 8), ("pairs", 9)]) (g := gTup K 2 (gCons (gName 8) (gCons (gName 9) gNil))) rfl rfl hr.units rfl sc_endless.nd rfl rfl (sw_trueD rfl rfl rfl (by decide +kernel)) (itemsN_K (P := P) (w := w) rfl rfl (pv 3)) (blkOk_by (by kernel_rfl)) (fun _ _ _ _ _ => pg_tupK (K := K) rfl rfl (pgs_cons (pg_name (i := 8) sc_endless.nd rfl (by first | exact Or.inl rfl | exact Or.inr rfl)) (pgs_cons (pg_name (i := 9) sc_endless.nd rfl (by first | exact Or.inl rfl | exact Or.inr rfl)) pgs_nil))) (fun _ _ _ _ _ => pts_nil) (fun _ _ _ _ _ => (pv 8)) (fun _ _ _ _ _ => (pe_lc (own := [("deed", 10), ("behind", 11)]) (g := gTup K 2 (gCons (gName 10) (gCons (gName 11) gNil))) rfl sc_endless.nd (pi_listK (K := K) rfl (pv 9)) (blkOk_by (by kernel_rfl)) (fun _ _ _ _ _ => pg_tupK (K := K) rfl rfl (pgs_cons (pg_name (i := 10) sc_endless.nd rfl (by first | exact Or.inl rfl | exact Or.inr rfl)) (pgs_cons (pg_name (i := 11) sc_endless.nd rfl (by first | exact Or.inl rfl | exact Or.inr rfl)) pgs_nil))) (fun _ _ _ _ _ => pts_nil) (fun _ _ _ _ _ => (pe_tup (pa_cons (pe_ifExp (pt_cmpR op_isN (pv 10) pe_non (nomark _)) pe_int pe_int) (pa_cons (pv 11) pa_nil))))))))
  (pss_cons (ps_asg (pe_meth0 (pe_make M_Rings.M M_Rings.G (hr.mono (by first | decide | omega)) rfl M_Rings.g M_Rings.b .nil pass0 (pa_cons (pv 4) pa_nil)) T_Rings.cl M_Rings_least.m M_Rings_least.G (hr.mono (by first | decide | omega)) M_Rings_least.b .nil pass0) (pg_tup rfl (pgs_cons (pg_tup rfl (pgs_cons (pg_name (i := 5) sc_endless.nd rfl (by first | exact Or.inl rfl | exact Or.inr rfl)) (pgs_cons (pg_name (i := 6) sc_endless.nd rfl (by first | exact Or.inl rfl | exact Or.inr rfl)) pgs_nil))) (pgs_cons (pg_name (i := 7) sc_endless.nd rfl (by first | exact Or.inl rfl | exact Or.inr rfl)) pgs_nil))))
  (pss_one (ps_ret (pe_tup (pa_cons (pe_tup pa_nil) (pa_cons (pe_callTy (tpl_K (K := K) rfl) (by rfl) T.z_tuple (by decide +kernel) (pa_cons (pe_lc (own := [("lives", 8), ("at", 12)]) (g := gTup K 2 (gCons (gName 8) (gCons (gName 12) gNil))) rfl sc_endless.nd (pi_listK (K := K) rfl (pv 7)) (blkOk_by (by kernel_rfl)) (fun _ _ _ _ _ => pg_tupK (K := K) rfl rfl (pgs_cons (pg_name (i := 8) sc_endless.nd rfl (by first | exact Or.inl rfl | exact Or.inr rfl)) (pgs_cons (pg_name (i := 12) sc_endless.nd rfl (by first | exact Or.inl rfl | exact Or.inr rfl)) pgs_nil))) (fun _ _ _ _ _ => pts_nil) (fun _ _ _ _ _ => (pe_ix (ix_K (K := K) rfl) (pe_ix (ix_K (K := K) rfl) (nget_K (P := P) (w := w) rfl rfl hr.units (pv 3) (pv 8) (fun _ _ => rfl)) (pv 12) (fun _ _ => rfl)) pe_int (fun _ _ => rfl)))) pa_nil)) (pa_cons (pe_call C_ratio_of.G (hr.mono (by first | decide | omega)) rfl C_ratio_of.g C_ratio_of.kp C_ratio_of.b .nil pass0 (pa_cons (pe_op op_sub (pv 6) (pv 5)) (pa_cons (pv 6) pa_nil))) pa_nil))))))))))), ?_⟩
    refine q_asgU9 (m_callSR ?_)
    refine (ea_cons (ev_var rfl) (ea_cons (ev_var rfl) ea_nil) : EvA _ _ H [.ref m, v]) H (Ex.refl _) _ fun H3 e3 => ?_
    exact ⟨m, fs, rs, v, rfl, hm.up e3, hmo, hb.up e3, fun H4 e4 => k H4 (e3.trans e4)⟩
end
end Fm
set_option maxHeartbeats 1000000
namespace Fm
open PySem PySem.Spec PyProof.Rows L2 Evl RZ
theorem dup_less : ∀ {ns : List Int}, ¬ ns.Nodup → ∃ l : List Int, l.length + 1 = ns.length ∧ ∀ x ∈ ns, x ∈ l
  | [], h => absurd List.nodup_nil h
  | n :: ns, h => by
    by_cases hn : n ∈ ns
    · refine ⟨ns, rfl, fun x hx => ?_⟩
      rcases List.mem_cons.mp hx with rfl | hx
      · exact hn
      · exact hx
    · obtain ⟨l, h1, h2⟩ := dup_less (ns := ns) fun z => h (List.nodup_cons.mpr ⟨hn, z⟩)
      refine ⟨n :: l, by rw [List.length_cons, List.length_cons, h1], fun x hx => ?_⟩
      rcases List.mem_cons.mp hx with rfl | hx
      · exact List.mem_cons_self
      · exact List.mem_cons_of_mem _ (h2 x hx)
def tLenSetT (K : PySem.W.Frag) (ta : TE) : TE := fun σ H Q => ta σ H fun x H1 => ∃ (l : Addr) (ns : List Int), x = V.ref l ∧ SqT K H1 l (ns.map V.int) ∧ ns.length < 64 ∧ ∀ c : Nat, (c = ns.length → ns.Nodup) → Q (.int (c : Nat)) H1
theorem pe_lenSetT {X : Cx} {K : PySem.W.Frag} (hK : X.K = K) {a : Expr} {ta : TE} {p p2 q pos : Pos} (hc : X.calm = true) (hg : Gl X "len") (hm : X.mg "len" = none) (hg2 : Gl X "set") (hm2 : X.mg "set" = none) (ha : PE X a ta)
    (na : starEach [a] X.env = (false, eval a X.env) :: starEach [] X.env := by rfl) : PE X (.Call (.Name "len" p) [.Call (.Name "set" p2) [a] [] q] [] pos) (tLenSetT K ta) := by
  subst hK
  refine ⟨fun pins s σ H Q I h => ?_⟩
  refine Call_ (ld_blt I hg hm PySem.boot_len ?_)
  refine PyProof.Rows.callWith_builtin1 (PyProof.Rows.args_cons ?_ rfl) rfl rfl
  refine Call_ (ld_blt I hg2 hm2 PyProof.Rows.boot_set ?_)
  refine PyProof.Rows.callWith_type1 (PyProof.Rows.args_cons (thn (ha.run pins s σ H _ I h) fun v s1 ⟨x, H1, I1, r1, q1⟩ => PyProof.Rows.args_nil ?_) na) na rfl
  obtain ⟨l, ns, rfl, hq, h1, q1⟩ := q1
  cases r1
  obtain ⟨its, r, pl, hz⟩ := I1.tuple hq
  refine call_set_tupI ns (I1.ok.hd hc) (let ⟨o, e, c, n, d⟩ := pl; ⟨o, e, c, n, d⟩) (by simpa using r.ints) (by unfold scanBound; omega) fun h' tk c hS hcl hk => ?_
  obtain ⟨o, es, ep, t, ho, hex, hdd, _, hnd, hmem, hb, hf, hn, _⟩ := hS
  refine PyProof.Rows.args_nil ?_
  have I2 : Inv X pins σ H1 { s1 with heap := h', toks := tk } := I1.kept hk
  refine call_len_set ho hex hdd hf (by rw [hn]; omega) ⟨.int (c : Nat), H1, I2.tok _, ⟨_, by rw [hn]⟩, q1 c fun hcn => ?_⟩
  refine Classical.byContradiction fun z => ?_
  obtain ⟨l', g1, g2⟩ := dup_less z
  have := nodup_within hnd (ys := l') fun k hk => g2 k (of_decide_eq_true ((hmem k).mpr hk))
  rw [List.length_map, Array.length_toList] at this
  omega
end Fm
set_option maxHeartbeats 1000000
namespace Fm
open PySem PySem.Spec PyProof.Rows L2
theorem tuple_mul0 (l : Addr) (x : Int) (n : Nat) (dd : Option Addr) (sl : Array (Option Value)) (u : Tok) (c0 : (decide (x < -(2 ^ 63)) || decide (x ≥ 2 ^ 63)) = false) :
    Meets (Builtin.«tuple.__mul__» ⟨[.ref l, .int x u], []⟩) (fun _ R s => s.heap.get? l = some { cls := .type "tuple", dict := dd, data := .seq #[] n, slots := sl } ∧
      R (.ok (.ret (Value.ref l))) s) :=
  .of_wp fun prog w A R s h => by
    obtain ⟨hp, g, d, tk, os⟩ := s
    obtain ⟨hl, h⟩ := h
    have f1 := AutoSeq1.idx_int
    have c1 : ((#[] : Array Value).isEmpty || x == 1) = true := by rw [show (#[] : Array Value).isEmpty = true from rfl, Bool.true_or]
    wp_walk using wpAny_loadPart' hl
    repeat (first
      | (refine wpAny_ite_false (decide_eq_false (by rw [c0]; exact Bool.false_ne_true)) ?_; wp_walk using wpAny_loadPart' hl)
      | (refine wpAny_ite_true (decide_eq_true (by rw [c1])) ?_; wp_walk using wpAny_loadPart' hl))
    exact ⟨_, rfl, h⟩
def rRepE (K : PySem.W.Frag) : R2 := fun x y H Q => ∃ l k xs, x = .ref l ∧ y = .int k ∧ SqT K H l xs ∧ 2 ≤ k ∧ k ≤ 1000 ∧ xs.length ≤ 1000 ∧ (xs = [] → Q (.ref l) H) ∧ (xs ≠ [] → ∀ p, H p = none → Q (.ref p) (upd H p (.tup (List.replicate k.toNat xs).flatten)))
section
variable {X : Cx} {K : PySem.W.Frag}
theorem op_repE : OpR X (binaryOp .Mult) (rRepE X.K) := by
  intro pins s σ H x y v u Q I rx ry h
  obtain ⟨l, k, xs, rfl, rfl, hT, h1, h2, hz, q1, q2⟩ := h
  by_cases hk : xs = []
  · subst hk
    cases rx
    obtain ⟨t, rfl⟩ := ry
    obtain ⟨its, r, ⟨⟨cls, dd, data, sl⟩, ho, hc, n, hd⟩, hs⟩ := I.tuple hT
    simp only at hc hd
    subst hc hd
    have hi : its = [] := List.length_eq_zero_iff.mp r.length.symm
    subst hi
    refine wpAny_binaryOp_repeat_ref (T := "tuple") (U := "int") (by decide) ⟨_, ho, rfl⟩ (fun s' => typeIs_int s' k t) noFill_tuple_mul F.fills_int_mul F.slot_int_rmul repeat_tuple F.slot_int_index.lookup
      (call_meets F.slot_int_rmul (typeIs_int s k t) F.entry_int_rmul (F.args_int_rmul_2 _ _) (int_rmul_tuple k t l #[] n dd sl)
        ⟨ho, rfl, ⟨_, ho, rfl⟩, call_meets F.slot_tuple_mul ⟨_, ho, rfl⟩ F.entry_tuple_mul (F.args_tuple_mul_2 _ _) (tuple_mul0 l k n dd sl t (by rw [decide_eq_false (by omega), decide_eq_false (by omega)]; rfl)) ⟨ho, ?_⟩⟩)
    exact ⟨.ref l, H, I, rfl, q1 rfl⟩
  · exact op_repT pins s σ H _ _ v u Q I rx ry ⟨l, k, xs, rfl, rfl, hT, hk, h1, h2, hz, q2 hk⟩
theorem repE_K (h : X.K = K) : OpR X (binaryOp .Mult) (rRepE K) := h ▸ op_repE
end
end Fm
set_option maxHeartbeats 1000000
namespace Fm
open PySem PySem.Spec PyProof.Rows L2 Evl RZ
theorem ex_remB {B H : Hp} {r : Addr} (e : Ex B H) (h : B r = none) : Ex B (rem H r) := fun b o hb => by
  rw [rem_ne (fun z => by rw [z, h] at hb; cases hb)]
  exact e b o hb
def Kt8 (H H' : Hp) : Prop := ∀ b o, H b = some o → (∃ ys, o = .tup ys ∨ ∃ q, o = .frz q (.tup ys)) → H' b = some o
theorem Kt8.sq {K : PySem.W.Frag} {H H' : Hp} {a : Addr} {xs : List V} (k   : Kt8 H H') (h : SqT K H a xs) : SqT K H' a xs := by
  rcases h with h | h
  · rcases h with h | ⟨q, h⟩
    · exact .inl (.inl (k _ _ h ⟨_, .inl rfl⟩))
    · exact .inl (.inr ⟨q, k _ _ h ⟨xs, .inr ⟨q, rfl⟩⟩⟩)
  · exact .inr h
theorem kt_rem8 {H : Hp} {r : Addr} {ys : List V} (hr : H r = some (.lst ys)) : Kt8 H (rem H r) := fun b o hb ht => by
  rw [rem_ne fun z => ?_]
  · exact hb
  · rw [z, hr] at hb
    cases hb
    obtain ⟨zs, e | ⟨q, e⟩⟩ := ht <;> cases e
theorem MaF.kt8 {K : PySem.W.Frag} {H H' : Hp} {m : Addr} {fs rs : List Nat} (k : Kt8 H H') (h : MaF K H m fs rs) : MaF K H' m fs rs := let ⟨a, b, h1, h2, h3, o, xs, h4, h5⟩ := h; ⟨a, b, k.sq h1, k.sq h2, k.sq h3, o, xs, k _ _ h4 ⟨xs, .inr ⟨o, rfl⟩⟩, h5⟩
theorem lvH_kt {H H' : Hp} {b : Addr} {l : Lv} (k : Kt8 H H') (h : LvH H b l) : LvH H' b l := k _ _ h ⟨_, .inl rfl⟩
theorem MaL.kt {K : PySem.W.Frag} {H H' : Hp} {m : Addr} {fs : List Nat} (k : Kt8 H H') (h : MaL K H m fs) : MaL K H' m fs := let ⟨a, b, h1, h2⟩ := h; ⟨a, b, k.sq h1, lvH_kt k h2⟩
section
variable {K : PySem.W.Frag} {σ : L2.St} {H : Hp} {Q : VK}
abbrev tBeh8 (K : PySem.W.Frag) : TE := tCall (spLBeh K) [] E0 (tCons (tVar 2) (tCons (tVar 14) (tCons (tIf (tTest (tOp (fun x y H Q => y = V.non ∧ Q (V.bl (decide (x = V.non))) H) (tVar 15) (tC V.non))) (tC (V.str "say")) (tC (V.str "touch"))) (tCons (tVar 15) tNil))))
theorem m_beh8 {m lb : Addr} {fs rs l : List Nat} {d : Option Nat} (h2 : σ[2]? = some (some (.ref m))) (h14 : σ[14]? = some (some (.ref lb))) (h15 : σ[15]? = some (some (dvR d))) (hm : MaT K H m fs rs) (hmo : MaOk fs rs) (hl : SqT K H lb (nV l)) (hln : l.length = rs.length) (hd : ∀ c, d = some c → c < rs.length)
    (k : ∀ b H', Ex H H' → LvH H' b (livD fs rs l d) → Q (.ref b) H') : tBeh8 K σ H Q := by
  have hll := hmo.ll
  have hl4 := hmo.l4
  cases d with
  | none =>
    refine (ea_cons (ev_var h2) (ea_cons (ev_var h14) (ea_cons (ev_if (b := true) (et_is (et_isN (ev_var h15)) (by rfl)) (fun _ => ev_c) (fun z => nomatch z)) (ea_cons (ev_var h15) ea_nil))) : EvA _ _ H [.ref m, .ref lb, .str "say", .non]) H (Ex.refl _) _ fun H2 e2 => ?_
    exact ⟨m, lb, fs, rs, l, "say", .non, .wait, 0, rfl, hm.up e2, ex_t e2 hl, hll, hln, by omega, ⟨by decide +kernel, by decide +kernel, fun z => nomatch z⟩, fun b H3 _ e3 h3 => k b H3 (e2.trans e3) h3⟩
  | some c =>
    refine (ea_cons (ev_var h2) (ea_cons (ev_var h14) (ea_cons (ev_if (b := false) (et_is (et_isN (ev_var h15)) (by rfl)) (fun z => nomatch z) (fun _ => ev_c)) (ea_cons (ev_var h15) ea_nil))) : EvA _ _ H [.ref m, .ref lb, .str "touch", .int (c : Nat)]) H (Ex.refl _) _ fun H2 e2 => ?_
    exact ⟨m, lb, fs, rs, l, "touch", .int (c : Nat), .touch, c, rfl, hm.up e2, ex_t e2 hl, hll, hln, by omega, ⟨by decide +kernel, by decide +kernel, fun _ => ⟨rfl, hd c rfl⟩⟩, fun b H3 _ e3 h3 => k b H3 (e2.trans e3) h3⟩
abbrev tZero8 (K : PySem.W.Frag) : TE := tLc (iTup K (tVar 4)) (gName 25) (tTest (tOp rEq (tOp (rIx K) (tVar 14) (tVar 25)) (tC (.int 0)))) (tVar 25) (List.map (fun x => x.snd) [(("cell" : Str), 25)])
theorem el_zero8 {cl lb : Addr} {cs l : List Nat} {a0 a1 a2 a3 a5 a6 a7 a8 a9 a10 a11 a12 a13 a15 a16 a17 a18 a19 a20 a21 a22 a23 a24 : Option V} (hσ : σ = [a0, a1, a2, a3, some (.ref cl), a5, a6, a7, a8, a9, a10, a11, a12, a13, some (.ref lb), a15, a16, a17, a18, a19, a20, a21, a22, a23, a24, none, none]) (hcl : SqT K H cl (nV cs)) (hlb : SqT K H lb (nV l)) (hlt : ∀ c ∈ cs, c < l.length) (hc : cs.length ≤ 10) :
    EvL (tZero8 K) σ H (((cs.filter fun c => decide (l.getD c 0 = 0)).map fun (c : Nat) => (c : Int)).map V.int) := by
  subst hσ
  have hmp : ((cs.filter fun c => decide (l.getD c 0 = 0)).map fun c => V.int (c : Nat)) = ((cs.filter fun c => decide (l.getD c 0 = 0)).map fun (c : Nat) => (c : Int)).map V.int := by rw [List.map_map]; rfl
  rw [← hmp]
  exact el_lcT (K := K) (a := cl) (tl := tVar 4) (j := 25) (zs := cs) (fun c => .int (c : Nat)) (fun c => decide (l.getD c 0 = 0)) (fun c => .int (c : Nat)) (ev_var rfl) hcl (fun _ => rfl) (by omega) (fun c H1 hc e1 => et_is (et_eq (ev_ixT (ev_var rfl) (ev_var rfl) (ex_t e1 hlb) (nV_at (hlt c hc))) ev_c rfl) (decide_eq_decide.mpr ⟨fun z => by have : ((l.getD c 0 : Nat) : Int) = 0 := V.int.inj z; omega, fun z => by rw [z]; rfl⟩)) (fun c H1 hc e1 _ => ev_var rfl)
theorem lost_empty (cs l : List Nat) : (((cs.filter fun c => decide (l.getD c 0 = 0)).map fun (c : Nat) => (c : Int)).isEmpty) = !(lostL cs l) := by
  rw [List.isEmpty_map]
  unfold lostL
  rw [Bool.eq_iff_iff]
  constructor
  · intro h
    have h := List.isEmpty_iff.mp h
    have h := List.filter_eq_nil_iff.mp h
    rw [Bool.not_eq_true']
    rw [Bool.eq_false_iff]
    intro z
    obtain ⟨c, hc, h2⟩ := List.any_eq_true.mp z
    exact h c hc h2
  · intro h
    rw [Bool.not_eq_true'] at h
    refine List.isEmpty_iff.mpr (List.filter_eq_nil_iff.mpr fun c hc z => ?_)
    have : (cs.any fun c => decide (l.getD c 0 = 0)) = true := List.any_eq_true.mpr ⟨c, hc, z⟩
    rw [h] at this; cases this
theorem ev_alive8 {cl lb : Addr} {cs l : List Nat} {a0 a1 a2 a3 a5 a6 a7 a8 a9 a10 a11 a12 a13 a15 a16 a17 a18 a19 a20 a21 a22 a23 a24 : Option V} (hσ : σ = [a0, a1, a2, a3, some (.ref cl), a5, a6, a7, a8, a9, a10, a11, a12, a13, some (.ref lb), a15, a16, a17, a18, a19, a20, a21, a22, a23, a24, none, none]) (hcl : SqT K H cl (nV cs)) (hlb : SqT K H lb (nV l)) (hlt : ∀ c ∈ cs, c < l.length) (hc : cs.length ≤ 10) :
    Ev (tOp (rEqD K) (tZero8 K) (tLst tNil)) σ H (.bl (!(lostL cs l))) := by
  rw [← lost_empty]
  exact ev_eqNil (el_zero8 hσ hcl hlb hlt hc)
theorem ev_lost8 {cl lb : Addr} {cs l : List Nat} {a0 a1 a2 a3 a5 a6 a7 a8 a9 a10 a11 a12 a13 a15 a16 a17 a18 a19 a20 a21 a22 a23 a24 : Option V} (hσ : σ = [a0, a1, a2, a3, some (.ref cl), a5, a6, a7, a8, a9, a10, a11, a12, a13, some (.ref lb), a15, a16, a17, a18, a19, a20, a21, a22, a23, a24, none, none]) (hcl : SqT K H cl (nV cs)) (hlb : SqT K H lb (nV l)) (hlt : ∀ c ∈ cs, c < l.length) (hc : cs.length ≤ 10) :
    Ev (tOp (rNeD K) (tZero8 K) (tLst tNil)) σ H (.bl (lostL cs l)) := by
  have e : lostL cs l = !(((cs.filter fun c => decide (l.getD c 0 = 0)).map fun (c : Nat) => (c : Int)).isEmpty) := by rw [lost_empty, Bool.not_not]
  rw [e]
  exact ev_neNil (el_zero8 hσ hcl hlb hlt hc)
end
end Fm
set_option maxHeartbeats 1000000
namespace Fm
open PySem PySem.Spec PyProof.Rows L2 Evl RZ
theorem keptD_fold {fs rs cs : List Nat} : ∀ {ds : List (Option Nat)} {l l' : Lv}, keptD fs rs cs ds l = some l' → l' = ds.foldl (livD fs rs) l ∧ (lostL cs l = false → lostL cs l' = false)
  | [], l, l', h => by cases h; exact ⟨rfl, id⟩
  | d :: ds, l, l', h => by
    have h : (if lostL cs (livD fs rs l d) = true then none else keptD fs rs cs ds (livD fs rs l d)) = some l' := h
    by_cases e : lostL cs (livD fs rs l d) = true
    · rw [if_pos e] at h; cases h
    · rw [if_neg e] at h
      obtain ⟨h1, h2⟩ := keptD_fold h
      exact ⟨h1, fun _ => h2 (by simpa using e)⟩
theorem kept_take {fs rs cs : List Nat} {ds : List (Option Nat)} {l : Lv} (i : Nat) (h : (keptD fs rs cs ds l).isSome = true) : (keptD fs rs cs (ds.take i) l).isSome = true := by
  rw [← List.take_append_drop i ds, keptD_app] at h
  cases q : keptD fs rs cs (ds.take i) l with
  | none => rw [q] at h; cases h
  | some _ => rfl
theorem kept_snoc {fs rs cs : List Nat} {ds : List (Option Nat)} {d : Option Nat} {l l' : Lv} (h : keptD fs rs cs ds l = some l') : keptD fs rs cs (ds ++ [d]) l = if lostL cs (livD fs rs l' d) = true then none else some (livD fs rs l' d) := by
  rw [keptD_app, h]; rfl
theorem kpN_flat {fs rs cs : List Nat} {rg : List (Option Nat)} : ∀ n, kpN fs rs cs [] rg n = keptD fs rs cs (List.replicate n rg).flatten fs
  | 0 => rfl
  | n + 1 => by
    show (kpN fs rs cs [] rg n).bind _ = _
    rw [kpN_flat n, List.replicate_succ', List.flatten_append, keptD_app]
    show _ = Option.bind _ (keptD fs rs cs ([rg].flatten))
    rw [List.flatten_singleton]
theorem rep_mem {α : Type} {rg : List α} {n : Nat} {x : α} (h : x ∈ (List.replicate n rg).flatten) : x ∈ rg := by
  obtain ⟨l, h1, h2⟩ := List.mem_flatten.mp h
  rw [List.eq_of_mem_replicate h1] at h2; exact h2
theorem rep_map {α β : Type} (f : α → β) (rg : List α) (n : Nat) : (List.replicate n (rg.map f)).flatten = ((List.replicate n rg).flatten).map f := by
  rw [List.map_flatten, List.map_replicate]
theorem rep_len {α : Type} (rg : List α) (n : Nat) : ((List.replicate n rg).flatten).length = n * rg.length := by
  induction n with
  | zero => simp
  | succ n ih => rw [List.replicate_succ, List.flatten_cons, List.length_append, ih, Nat.succ_mul, Nat.add_comm]
def addL8 (L : LkF) (later : List Lv) (s : Lv) : List Lv := later ++ ((L s).map Prod.snd).filter fun x => !decide (x ∈ later)
def layN8 (L : LkF) (layer : List Lv) : List Lv := layer.foldl (addL8 L) []
theorem addL8_mem {L : LkF} {later : List Lv} {s x : Lv} : x ∈ addL8 L later s ↔ x ∈ later ∨ ∃ p ∈ L s, p.2 = x := by
  unfold addL8
  rw [List.mem_append, List.mem_filter, List.mem_map]
  constructor
  · rintro (h | ⟨h, _⟩)
    · exact .inl h
    · exact .inr h
  · rintro (h | h)
    · exact .inl h
    · by_cases g : x ∈ later
      · exact .inl g
      · exact .inr ⟨h, by rw [decide_eq_false g]; rfl⟩
theorem layF8_mem {L : LkF} {x : Lv} : ∀ {layer acc : List Lv}, x ∈ layer.foldl (addL8 L) acc ↔ x ∈ acc ∨ ∃ s ∈ layer, ∃ p ∈ L s, p.2 = x
  | [], acc => ⟨.inl, fun h => h.elim id fun ⟨_, z, _⟩ => nomatch z⟩
  | s :: layer, acc => by
    rw [List.foldl_cons, layF8_mem, addL8_mem]
    constructor
    · rintro ((h | h) | ⟨s', h1, h2⟩)
      · exact .inl h
      · exact .inr ⟨s, List.mem_cons_self, h⟩
      · exact .inr ⟨s', List.mem_cons_of_mem _ h1, h2⟩
    · rintro (h | ⟨s', h1, h2⟩)
      · exact .inl (.inl h)
      · rcases List.mem_cons.mp h1 with rfl | h1
        · exact .inl (.inr h2)
        · exact .inr ⟨s', h1, h2⟩
def Few8 (k : Nat) (xs : List Lv) : Prop := ∃ hs : List Lv, hs.Nodup ∧ (∀ x ∈ hs, x ∈ xs) ∧ xs.length ≤ k * hs.length
theorem Few8.add {L : LkF} {k : Nat} (hk : ∀ s, (L s).length ≤ k) {xs : List Lv} {s : Lv} (h : Few8 k xs) : Few8 k (addL8 L xs s) := by
  obtain ⟨hs, h1, h2, h3⟩ := h
  unfold addL8
  have hl := List.length_filter_le (fun x => !decide (x ∈ xs)) ((L s).map Prod.snd)
  rw [List.length_map] at hl
  have hk := hk s
  have hm : ∀ x ∈ ((L s).map Prod.snd).filter (fun x => !decide (x ∈ xs)), x ∉ xs := fun x hx z => by
    have := (List.mem_filter.mp hx).2
    rw [decide_eq_true z] at this; cases this
  generalize ((L s).map Prod.snd).filter (fun x => !decide (x ∈ xs)) = c at hl hm ⊢
  cases c with
  | nil => exact ⟨hs, h1, fun x hx => List.mem_append_left _ (h2 x hx), by rw [List.append_nil]; exact h3⟩
  | cons y c =>
    refine ⟨y :: hs, List.nodup_cons.mpr ⟨fun z => hm y List.mem_cons_self (h2 y z), h1⟩, fun x hx => ?_, ?_⟩
    · rcases List.mem_cons.mp hx with rfl | hx
      · exact List.mem_append_right _ List.mem_cons_self
      · exact List.mem_append_left _ (h2 x hx)
    · rw [List.length_append, List.length_cons (as := hs), Nat.mul_succ]
      omega
theorem few8_fold {L : LkF} {k : Nat} (hk : ∀ s, (L s).length ≤ k) : ∀ {layer acc : List Lv}, Few8 k acc → Few8 k (layer.foldl (addL8 L) acc)
  | [], acc, h => h
  | s :: layer, acc, h => few8_fold hk (layer := layer) (h.add hk)
theorem Few8.le {k : Nat} {xs sp : List Lv} (h : Few8 k xs) (hs : ∀ x ∈ xs, x ∈ sp) : xs.length ≤ k * sp.length := by
  obtain ⟨hs', h1, h2, h3⟩ := h
  exact Nat.le_trans h3 (Nat.mul_le_mul_left k (nodup_within h1 fun x hx => hs x (h2 x hx)))
def LayI (L : LkF) (st : Lv) (t : Nat) (ls : List Lv) : Prop := ∀ x, x ∈ ls ↔ ∃ k, WkW L st t k x
theorem LayI.next {L : LkF} {st : Lv} {t : Nat} {ls : List Lv} (h : LayI L st t ls) : LayI L st (t + 1) (layN8 L ls) := fun x => by
  unfold layN8
  rw [layF8_mem]
  constructor
  · rintro (h1 | ⟨s, hs, p, hp, rfl⟩)
    · cases h1
    · obtain ⟨k, w⟩ := (h s).mp hs
      exact ⟨_, .snoc w (d := p.1) hp⟩
  · rintro ⟨k, w⟩
    cases w with
    | @snoc _ k e t d w h1 => exact .inr ⟨e, (h e).mpr ⟨k, w⟩, (d, x), h1, rfl⟩
theorem WkL.take {L : LkF} {s e : Lv} {rd : List (Option Nat)} (w : WkL L s rd e) : ∀ j, j ≤ rd.length → ∃ e', WkL L s (rd.take j) e' := by
  induction w with
  | nil => intro j _; exact ⟨_, by rw [List.take_nil]; exact .nil⟩
  | @cons s t e d rd h1 _ ih =>
    intro j hj
    cases j with
    | zero => exact ⟨s, .nil⟩
    | succ j =>
      obtain ⟨e', h⟩ := ih j (Nat.le_of_succ_le_succ hj)
      exact ⟨e', .cons h1 h⟩
theorem WkL.wkW {L : LkF} {s e : Lv} {rd : List (Option Nat)} (w : WkL L s rd e) : ∃ k, WkW L s rd.length k e := by
  induction w with
  | nil => exact ⟨0, .nil⟩
  | cons h1 _ ih =>
    obtain ⟨k, h⟩ := ih
    exact ⟨_, WkW.cons h1 h⟩
theorem walk_nd {L : LkF} {sp : List Lv} {lens : List (Lv × Nat)} (I : LenI L sp lens) (hc : ∀ s ∈ sp, ∀ p ∈ L s, p.2 ∈ sp) {s e : Lv} {rd : List (Option Nat)} (w : WkL L s rd e) : ∀ {j : Nat}, s ∈ sp → lkp lens s = some j → ∃ us : List Lv, us.length = rd.length + 1 ∧ us.Nodup ∧ ∀ u ∈ us, u ∈ sp ∧ ∃ i, i ≤ j ∧ lkp lens u = some i := by
  induction w with
  | @nil s => intro j hs hj; exact ⟨[s], rfl, List.pairwise_singleton _ _, fun u hu => by rw [List.mem_singleton.mp hu]; exact ⟨hs, j, Nat.le_refl _, hj⟩⟩
  | @cons s t e d rd h1 _ ih =>
    intro j hs hj
    obtain ⟨j', g1, g2⟩ := len_walk I (WkW.cons h1 .nil) hj
    obtain ⟨us, u1, u2, u3⟩ := ih (hc s hs _ h1) g1
    refine ⟨s :: us, by rw [List.length_cons, u1, List.length_cons], List.nodup_cons.mpr ⟨fun z => ?_, u2⟩, fun u hu => ?_⟩
    · obtain ⟨_, i, hi, he⟩ := u3 s z
      rw [hj] at he; cases he
      omega
    · rcases List.mem_cons.mp hu with rfl | hu
      · exact ⟨hs, j, Nat.le_refl _, hj⟩
      · obtain ⟨a, i, b, c⟩ := u3 u hu
        exact ⟨a, i, by omega, c⟩
section
variable {fs rs cs : List Nat} {F : Nat} {sp sp2 : List Lv} {lens : List (Lv × Nat)}
theorem lay_nil (hr : ∀ c ∈ cs, c < rs.length) (ok : RdsOk fs rs cs sp lens) (ag : AgOk fs rs cs F sp2) {n : Nat} (hn : lkp lens (onlyL cs fs) = some n) {rd : List (Option Nat)} {e : Lv} (hw : WkL (lnkD fs rs cs (allD rs cs)) (onlyL cs fs) rd e) (hl : rd.length = n) {t : Nat} {ls : List Lv} (I : LayI (lnkD fs rs cs (dsW rs)) (onlyL cs fs) t ls) : ls ≠ [] ↔ t ≤ n := by
  constructor
  · intro h
    obtain ⟨x, hx⟩ := List.exists_mem_of_ne_nil ls h
    obtain ⟨k, w⟩ := (I x).mp hx
    obtain ⟨k1, w1, _⟩ := to_prog hr ok ag ag.st w
    obtain ⟨j, _, h2⟩ := len_walk ok.len.i w1 hn
    omega
  · intro h z
    obtain ⟨e', w⟩ := hw.take t (by omega)
    obtain ⟨k, w⟩ := w.wkW
    rw [List.length_take, Nat.min_eq_left (by omega)] at w
    obtain ⟨k2, w2, _⟩ := to_law hr ok ok.st w
    have := (I e').mpr ⟨k2, w2⟩
    rw [z] at this; cases this
theorem long_le (hr : ∀ c ∈ cs, c < rs.length) (ok : RdsOk fs rs cs sp lens) (ag : AgOk fs rs cs F sp2) {n : Nat} (hn : lkp lens (onlyL cs fs) = some n) {rd : List (Option Nat)} {e : Lv} (hw : WkL (lnkD fs rs cs (allD rs cs)) (onlyL cs fs) rd e) (hl : rd.length = n) : n < sp2.length := by
  obtain ⟨us, u1, u2, u3⟩ := walk_nd ok.len.i ok.cl hw ok.st hn
  have h1 := nodup_within u2 fun x hx => sp_law hr ok ag x (u3 x hx).1
  omega
theorem len_some {sp' : List Lv} {lens' : List (Lv × Nat)} (hr : ∀ c ∈ cs, c < rs.length) (ok : RdsOk fs rs cs sp lens) (ok' : RdsOk fs rs cs sp' lens') (h : (lkp lens (onlyL cs fs)).isSome = true) : (lkp lens' (onlyL cs fs)).isSome = true := by
  obtain ⟨n, hn⟩ := Option.isSome_iff_exists.mp h
  cases q : lkp lens' (onlyL cs fs) with
  | some _ => rfl
  | none =>
    have long : ∀ m, ∃ e k, e ∈ sp' ∧ lkp lens' e = none ∧ WkW (lnkD fs rs cs (allD rs cs)) (onlyL cs fs) m k e := fun m => by
      induction m with
      | zero => exact ⟨_, 0, ok'.st, q, .nil⟩
      | succ m ih =>
        obtain ⟨e, k, h1, h2, h3⟩ := ih
        obtain ⟨p, hp, hq⟩ := ok'.len.out e h1 h2
        exact ⟨p.2, _, ok'.cl e h1 p hp, hq, .snoc h3 (d := p.1) hp⟩
    obtain ⟨e, k, _, _, w⟩ := long (n + 1)
    obtain ⟨j, _, h2⟩ := len_walk ok.len.i w hn
    omega
end
theorem ev_neNilLv {K : PySem.W.Frag} {σ : L2.St} {H : Hp} {ta : TE} {a : Addr} {ls : List Lv} {us : List V} (ha : Ev ta σ H (.ref a)) (h : H a = some (.lst us)) (hp : Paired (fun u l => LvR u l H) us ls) : Ev (tOp (rNeD K) ta (tLst tNil)) σ H (.bl (!ls.isEmpty)) := fun H1 e1 Q q => ha H1 e1 _ fun H2 e2 => ⟨Nat.zero_le _, fun l hl => by
  have e3 := Ex.new (o := .lst []) hl
  have e03 := (e1.trans e2).trans e3
  have dpa : DpAll K (upd H2 l (.lst [])) us (ls.map lvD) := by
    have := Paired.mapP hp fun _ _ z => lvR_d _ _ _ _ e03 z
    clear hp h q
    induction this with
    | nil => exact .nil
    | cons h _ ih =>
      obtain ⟨c, rfl, hc⟩ := h
      exact .cons hc.dp ih
  have sh : ∀ ls : List Lv, SeqAt.shaped (.list (ls.map lvD)) = true := fun ls => by
    show (PyData.canLay0 (.list (ls.map lvD)) && decide (PyData.depth (.list (ls.map lvD)) ≤ 64)) = true
    have h1 : PyData.canLayAll0 (ls.map lvD) = true ∧ PyData.depthAll (ls.map lvD) ≤ 2 := by
      clear hp dpa h q
      induction ls with
      | nil => simp [PyData.canLayAll0, PyData.depthAll]
      | cons x ls ih =>
        have h1 : (lvD x).canLay0 = true := by unfold lvD; simp only [PyData.canLay0]; exact iD_lay _
        have h2 : (lvD x).depth ≤ 2 := by unfold lvD; simp only [PyData.depth, iD_depth]; decide
        refine ⟨?_, ?_⟩
        · simp only [List.map_cons, PyData.canLayAll0]; rw [h1, ih.1]; rfl
        · have := ih.2
          simp only [List.map_cons, PyData.depthAll]; omega
    rw [Bool.and_eq_true]
    exact ⟨by simp only [PyData.canLay0]; exact h1.1, decide_eq_true (by have := h1.2; simp only [PyData.depth]; omega)⟩
  have hq : PyData.eqv (.list (ls.map lvD)) (.list (([] : List Lv).map lvD)) = ls.isEmpty := by
    cases ls with
    | nil => simp [PyData.eqv, PyData.eqvAll]
    | cons z zs => simp [PyData.eqv, PyData.eqvAll]
  refine ⟨.list (ls.map lvD), .list (([] : List Lv).map lvD), .lst (sq_of (e03 _ _ h)) dpa, .lst (sq_of upd_same) .nil, sh ls, sh [], ?_⟩
  rw [hq]
  exact q _ (e2.trans e3)⟩
end Fm
set_option maxHeartbeats 1000000
namespace Fm
open PySem PySem.Spec PyProof.Rows L2 Evl RZ
theorem wk_mem {fs rs cs : List Nat} {s e : Lv} {rd : List (Option Nat)} {c : Nat} (w : WkL (lnkD fs rs cs (allD rs cs)) s rd e) : some c ∈ rd → c ∈ cs := by
  induction w with
  | nil => exact fun z => nomatch z
  | cons h1 _ ih =>
    intro z
    rcases List.mem_cons.mp z with z | z
    · obtain ⟨hd', _, _⟩ := mem_lnkD.mp h1
      rw [← z] at hd'
      exact allD_mem c hd'
    · exact ih z
theorem end_all8 {fs rs cs : List Nat} {F : Nat} {sp sp2 : List Lv} {lens : List (Lv × Nat)} {q : List (Lv × Nat)} {s1 : Lv} {a b : Nat} (hll : fs.length = rs.length) (hr : ∀ c ∈ cs, c < rs.length) (ok : RdsOk fs rs cs sp lens) (ag : AgOk fs rs cs F sp2) (E : EndP fs rs cs sp lens q s1 a b) :
    ∃ rg, rg = rgD (lastL (lnkD fs rs cs (allD rs cs)) lens) q ∧ rg ≠ [] ∧ rg.length ≤ sp2.length ∧ (∀ n, (kpN fs rs cs [] rg n).isSome = true) ∧ (rg.filter fun d => decide (d = none)).length * b = a * rg.length ∧ (∀ c, some c ∈ rg → c < rs.length) ∧ a ≤ b ∧ b ≤ sp2.length := by
  have hql : 0 < q.length := List.length_pos_iff.mpr E.ne
  have hqs : q.length ≤ sp2.length := Nat.le_trans E.len (nodup_within ok.nd (sp_law hr ok ag))
  have wk := E.cp.walk.mono (L' := lnkD fs rs cs (allD rs cs)) lastL_sub
  refine ⟨_, rfl, fun z => ?_, by rw [rgD_len]; exact hqs, end_keeps hll hr ok E, ?_, fun c hc => hr c (wk_mem wk hc), ?_, ?_⟩
  · have := rgD_len (lastL (lnkD fs rs cs (allD rs cs)) lens) q
    rw [z] at this
    have : 0 = q.length := this
    omega
  · have hw := waits_cnt E.cp
    rw [rgD_len]
    have ha := E.ra
    have hb := E.rb
    have d1 := Nat.gcd_dvd_left (cntR (cntG (lastL (lnkD fs rs cs (allD rs cs)) lens)) q) q.length
    have d2 := Nat.gcd_dvd_right (cntR (cntG (lastL (lnkD fs rs cs (allD rs cs)) lens)) q) q.length
    have hg := Nat.gcd_pos_of_pos_right (cntR (cntG (lastL (lnkD fs rs cs (allD rs cs)) lens)) q) hql
    generalize Nat.gcd (cntR (cntG (lastL (lnkD fs rs cs (allD rs cs)) lens)) q) q.length = g at *
    generalize cntR (cntG (lastL (lnkD fs rs cs (allD rs cs)) lens)) q = c at *
    generalize ((rgD (lastL (lnkD fs rs cs (allD rs cs)) lens) q).filter fun d => decide (d = none)).length = x at *
    have ec : c = g * (c / g) := (Nat.mul_div_cancel' d1).symm
    have en : q.length = g * (q.length / g) := (Nat.mul_div_cancel' d2).symm
    rw [← hb] at ha en
    generalize c / g = t at *
    have hx : x = g * a := by
      rw [ha, Nat.mul_sub, ← en, ← ec]; omega
    rw [hx, en, Nat.mul_assoc, Nat.mul_left_comm]
  · rw [E.ra, E.rb]; exact Nat.sub_le _ _
  · rw [E.rb]; exact Nat.le_trans (Nat.div_le_self _ _) hqs
section
variable {K : PySem.W.Frag} {σ : L2.St} {H : Hp} {Q : VK} {D : Ends} {X1 tz tu : TS} {ta tb te : TE} {tt : TT} {tA tr : TA} {g : TG} {vs : List Nat}
theorem ev_sumL {ns : List Int} (ha : EvL ta σ H (ns.map V.int)) : Ev (tCB (rSum K) (tCons ta tNil)) σ H (.int ns.sum) := fun H1 e Q q => ha H1 e _ fun p H2 _ e2 h2 => ⟨p, ns, rfl, sq_of h2, q H2 e2⟩
theorem sum_ld (fs cs : List Nat) : (cs.map fun c => ((840 / fs.getD c 0 : Nat) : Int)).sum = ((ldSum fs cs : Nat) : Int) := by
  unfold ldSum
  induction cs with
  | nil => rfl
  | cons c cs ih => rw [List.map_cons, List.sum_cons, List.map_cons, List.sum_cons, ih]; omega
theorem ldSum_le (fs cs : List Nat) : ldSum fs cs ≤ cs.length * 840 := by
  unfold ldSum
  induction cs with
  | nil => exact Nat.le_refl _
  | cons c cs ih =>
    rw [List.map_cons, List.sum_cons, List.length_cons, Nat.succ_mul]
    have := Nat.div_le_self 840 (fs.getD c 0)
    omega
theorem ev_due8 {ma cl fa ra : Addr} {fs cs : List Nat} {a0 a1 a3 a5 a6 a7 a8 a9 a10 a11 a12 a13 a14 a15 a16 a17 a18 a19 a20 a21 a22 a23 a24 : Option V} (hσ : σ = [a0, a1, some (.ref ma), a3, some (.ref cl), a5, a6, a7, a8, a9, a10, a11, a12, a13, a14, a15, a16, a17, a18, a19, a20, a21, a22, a23, a24, none, none]) (hm : SqT K H ma [.ref fa, .ref ra]) (hfa : SqT K H fa (nV fs)) (hcl : SqT K H cl (nV cs)) (hlt : ∀ c ∈ cs, c < fs.length ∧ 0 < fs.getD c 0 ∧ fs.getD c 0 ≤ 8) (hc : cs.length ≤ 10) :
    Ev (tCB (rSum K) (tCons (tLc (iTup K (tVar 4)) (gName 25) tYes (tOp (rI CMul fun i j => V.int (i * j)) (tOp (rI CDivN fun i j => V.int (i.fdiv j)) (tOp (rI CDivN fun i j => V.int (i.fdiv j)) (tC (V.int 840)) (tC (V.int 1))) (tOp (rIx K) (tOp (rIx K) (tVar 2) (tC (V.int 0))) (tVar 25))) (tC (V.int 1))) (List.map (fun x => x.snd) [(("cell" : Str), 25)])) tNil)) σ H (.int ((ldSum fs cs : Nat) : Int)) := by
  subst hσ
  rw [← sum_ld]
  refine ev_sumL ?_
  have hmp : ((cs.map fun c => ((840 / fs.getD c 0 : Nat) : Int)).map V.int) = ((cs.filter fun _ => true).map fun c => V.int ((840 / fs.getD c 0 : Nat) : Int)) := by rw [List.map_map, List.filter_eq_self.mpr fun _ _ => rfl]; rfl
  rw [hmp]
  exact el_lcT (K := K) (a := cl) (tl := tVar 4) (j := 25) (zs := cs) (fun c => .int (c : Nat)) (fun _ => true) (fun c => .int ((840 / fs.getD c 0 : Nat) : Int)) (ev_var rfl) hcl (fun _ => rfl) (by omega) (fun c H1 _ _ => et_yes) (fun c H1 hc1 e1 _ => by
    obtain ⟨h1, h2, h3⟩ := hlt c hc1
    refine ev_is (ev_iC (g := fun i j => .int (i * j)) (i := (840 / fs.getD c 0 : Nat)) (j := 1) (ev_is (ev_iC (g := fun i j => .int (i.fdiv j)) (i := 840) (j := (fs.getD c 0 : Nat)) (ev_is (ev_iC (g := fun i j => .int (i.fdiv j)) (i := 840) (j := 1) ev_c ev_c ⟨by decide, by decide⟩) rfl) (ev_ixT (ev_ixT (ev_var rfl) ev_c (ex_t e1 hm) rfl) (ev_var rfl) (ex_t e1 hfa) (nV_at h1)) ⟨by omega, by omega⟩) ?_) ev_c (.inr ⟨by decide, by decide⟩)) ?_
    · have : ((840 : Nat) : Int).fdiv ((fs.getD c 0 : Nat) : Int) = ((840 / fs.getD c 0 : Nat) : Int) := (Int.ofNat_fdiv 840 (fs.getD c 0)).symm
      exact congrArg V.int this
    · rw [Int.mul_one])
theorem ev_lenE8 {xs : List V} (ha : EvL ta σ H xs) : Ev (tCB (fun xs H Q => ∃ x n, xs = [x] ∧ LenV K x H n ∧ Q (.int n) H) (tCons ta tNil)) σ H (.int (xs.length : Int)) := fun H1 e Q q =>
  ha H1 e _ fun p H2 _ e2 h2 => ⟨_, _, rfl, .inl ⟨xs, sq_of h2, rfl⟩, q H2 e2⟩
def cdO : Option Nat → Nat
  | none => 0
  | some c => c + 1
def enO (n : Nat) : V := if n = 0 then .non else .int ((n - 1 : Nat) : Int)
theorem enO_cd (d : Option Nat) : enO (cdO d) = dvR d := by
  cases d with
  | none => rfl
  | some c => show (if c + 1 = 0 then V.non else .int ((c + 1 - 1 : Nat) : Int)) = _; rw [if_neg (Nat.succ_ne_zero c)]; rfl
theorem el_none8 {ra : Addr} {rg : List (Option Nat)} {a0 a1 a2 a3 a4 a5 a6 a7 a8 a9 a10 a11 a12 a13 a14 a16 a18 a19 a20 a21 a22 a23 a24 a25 a26 : Option V} (hσ : σ = [a0, a1, a2, a3, a4, a5, a6, a7, a8, a9, a10, a11, a12, a13, a14, none, a16, some (.ref ra), a18, a19, a20, a21, a22, a23, a24, a25, a26]) (hra : SqT K H ra (rg.map dvR)) (hz : rg.length ≤ 1000) :
    ∃ xs : List V, xs.length = (rg.filter fun d => decide (d = none)).length ∧ EvL (tLc (iTup K (tVar 17)) (gName 15) (tTest (tOp (fun x y H Q => y = V.non ∧ Q (V.bl (decide (x = V.non))) H) (tVar 15) (tC V.non))) (tVar 15) (List.map (fun x => x.snd) [(("deed" : Str), 15)])) σ H xs := by
  subst hσ
  have hmp : rg.map dvR = (rg.map cdO).map enO := by rw [List.map_map]; exact List.map_congr_left fun d _ => (enO_cd d).symm
  rw [hmp] at hra
  refine ⟨_, ?_, el_lcT (K := K) (a := ra) (tl := tVar 17) (j := 15) (zs := rg.map cdO) enO (fun n => decide (n = 0)) enO (ev_var rfl) hra (fun _ => rfl) (by rw [List.length_map]; omega) (fun c H1 _ _ => et_is (et_isN (ev_var rfl)) ?_) (fun c H1 _ _ _ => ev_var rfl)⟩
  · rw [List.length_map]
    clear hra hmp hz
    induction rg with
    | nil => rfl
    | cons d rg ih =>
      rw [List.map_cons, List.filter_cons, List.filter_cons]
      cases d with
      | none => rw [if_pos (by rfl), if_pos (by rfl), List.length_cons, List.length_cons, ih]
      | some c => rw [if_neg (by rw [decide_eq_false (show ¬ cdO (some c) = 0 from Nat.succ_ne_zero c)]; exact Bool.false_ne_true), if_neg (by rw [decide_eq_false (fun z => nomatch z)]; exact Bool.false_ne_true), ih]
  · unfold enO
    by_cases h : c = 0
    · rw [if_pos h]; rw [decide_eq_true rfl, decide_eq_true h]
    · rw [if_neg h]; rw [decide_eq_false h]; exact decide_eq_false fun z => nomatch z
theorem m_lcRc8 {sp : Sp} {E : XK} {ws : List V} {R : Nat → Hp → Hp → Prop} (hA : EvA tA σ H ws) (h : ∀ H1, Ex H H1 → ∀ Q' : VK, (∀ (n : Nat) H2, R n H1 H2 → Q' (.int (n : Nat)) H2) → sp (ws ++ []) H1 Q' E)
    (k : ∀ (n : Nat) H1 H2, Ex H H1 → R n H1 H2 → n ≤ 100000 ∧ ∀ D, H2 D = none → ∃ Pv : Nat → Hp → Prop, Pv 0 (upd H2 D (.lst [])) ∧ (∀ i H', i < n → Pv i H' → g (.int ((0 : Int) + i)) (wipe σ vs) H' fun σ2 H2 => wipe σ2 vs = wipe σ vs ∧ tt σ2 H2 fun b H3 =>
      if b = true then te σ2 H3 fun y H4 => ∃ acc, H4 D = some (.lst acc) ∧ acc.length < sizeLine ∧ Pv (i + 1) (upd H4 D (.lst (acc ++ [y]))) else Pv (i + 1) H3) ∧ ∀ H', Pv n H' → Q (.ref D) H') : tLc (iRng1 (tCons (tCall sp [] E tA) tNil)) g tt te vs σ H Q :=
  hA H (Ex.refl H) _ fun H1 e1 => h H1 e1 _ fun n H2 r => by
    obtain ⟨k1, k2⟩ := k n H1 H2 e1 r
    refine ⟨(n : Int), rfl, by omega, by omega, fun D hD => ?_⟩
    obtain ⟨Pv, p0, p1, p2⟩ := k2 D hD
    exact lc_range (lo := 0) (n := n) Pv p0 p1 p2
theorem q_forTs8 {xs : List V} (h : ∀ Q : VK, (∀ a H1, Ex H H1 → SqT K H1 a xs → Q (.ref a) H1) → te σ H Q) (Pv : Addr → Nat → L2.St → Hp → Prop) (h0 : ∀ a H1, Ex H H1 → SqT K H1 a xs → Pv a 0 σ H1) (hl : ∀ a i σ' H', i ≤ xs.length → Pv a i σ' H' → SqT K H' a xs)
    (hs : ∀ a i x σ' H', xs[i]? = some x → Pv a i σ' H' → g x σ' H' fun σ2 H2 => tu { D with nx := Pv a (i + 1), ct := Pv a (i + 1), bk := tz D } σ2 H2) (hd : ∀ a σ' H', Pv a xs.length σ' H' → tz D σ' H') : tSeq (tFor (iTup K te) g tu) tz D σ H :=
  h _ fun a H1 e hx => ⟨a, rfl, ⟨xs, hx⟩, for_tup (D := { D with nx := tz D }) (Pv a) (h0 a H1 e hx) (hl a) (hs a) (hd a)⟩
theorem m_lead8 {e0 ra : Addr} {rg : List (Option Nat)} (h16 : σ[16]? = some (some (.ref e0))) (h17 : σ[17]? = some (some (.ref ra))) (h0 : SqT K H e0 []) (h1 : SqT K H ra (rg.map dvR)) (hne : rg ≠ []) (hz : rg.length ≤ 1000) (k : ∀ a H1, Ex H H1 → SqT K H1 a (((List.replicate 20 rg).flatten).map dvR) → Q (.ref a) H1) :
    tOp (rCatA K) (tVar 16) (tOp (rRepE K) (tVar 17) (tC (.int 20))) σ H Q := by
  refine (ev_var h16) H (Ex.refl _) _ fun H1 e1 => (ev_var h17) H1 (Ex.refl _) _ fun H2 e2 => ev_c H2 (Ex.refl _) _ fun H3 e3 => ?_
  have e := e1.trans (e2.trans e3)
  refine ⟨ra, 20, rg.map dvR, rfl, rfl, ex_t e h1, by decide, by decide, by rw [List.length_map]; exact hz, fun z => absurd (List.map_eq_nil_iff.mp z) hne, fun _ p hp => ?_⟩
  have en := Ex.new (o := .tup (List.replicate (20 : Int).toNat (rg.map dvR)).flatten) hp
  refine ⟨e0, p, [], _, rfl, rfl, ex_t (e.trans en) h0, st_of upd_same, ?_, fun _ => k p _ (e.trans en) ?_, fun z => absurd rfl z, fun z => absurd rfl z⟩
  · rw [rep_map, List.length_map, rep_len]
    show 0 + 20 * rg.length ≤ sizeLine
    rw [sizeLine_eq]; omega
  · rw [← rep_map]; exact st_of upd_same
theorem m_odd8 {oa : Addr} {od : List (Option Nat)} (h22 : σ[22]? = some (some (.ref oa))) (h1 : SqT K H oa (od.map dvR)) (hz : od.length ≤ 1000) (k : ∀ a H1, Ex H H1 → SqT K H1 a (((List.replicate 60 od).flatten).map dvR) → Q (.ref a) H1) :
    tOp (rRepE K) (tVar 22) (tC (.int 60)) σ H Q := by
  refine (ev_var h22) H (Ex.refl _) _ fun H1 e1 => ev_c H1 (Ex.refl _) _ fun H3 e3 => ?_
  have e := e1.trans e3
  refine ⟨oa, 60, od.map dvR, rfl, rfl, ex_t e h1, by decide, by decide, by rw [List.length_map]; exact hz, fun z => ?_, fun _ p hp => ?_⟩
  · have hn := List.map_eq_nil_iff.mp z
    refine k oa H3 e ?_
    rw [← rep_map, z, show (List.replicate 60 ([] : List V)).flatten = [] from rfl, ← z]
    exact ex_t e h1
  · have en := Ex.new (o := .tup (List.replicate (60 : Int).toNat (od.map dvR)).flatten) hp
    refine k p _ (e.trans en) ?_
    rw [← rep_map]; exact st_of upd_same
theorem ev_neTupO {a : Addr} {od : List (Option Nat)} (ha : Ev ta σ H (.ref a)) (hq : SqT K H a (od.map dvR)) : Ev (tOp (rNeD K) ta (tTup tNil)) σ H (.bl (decide (od ≠ []))) := fun H1 e Q q => ha H1 e _ fun H2 e2 => ⟨Nat.zero_le _, fun l hl => by
  have e3 := Ex.new (o := .tup []) hl
  have dp : ∀ (H' : Hp) (od : List (Option Nat)), DpAll K H' (od.map dvR) (od.map dvD) := fun H' od => by
    induction od with
    | nil => exact .nil
    | cons d od ih =>
      cases d with
      | none => exact .cons .non ih
      | some c => exact .cons (.int _) ih
  have sh : ∀ od : List (Option Nat), SeqAt.shaped (.tuple (od.map dvD)) = true := fun od => by
    show (PyData.canLay0 (.tuple (od.map dvD)) && decide (PyData.depth (.tuple (od.map dvD)) ≤ 64)) = true
    have h1 : PyData.canLayAll0 (od.map dvD) = true ∧ PyData.depthAll (od.map dvD) ≤ 2 := by
      clear hq q
      induction od with
      | nil => simp [PyData.canLayAll0, PyData.depthAll]
      | cons d od ih =>
        have h1 : (dvD d).canLay0 = true := by cases d <;> simp [dvD, PyData.canLay0]
        have h2 : (dvD d).depth ≤ 2 := by cases d <;> simp [dvD, PyData.depth]
        refine ⟨?_, ?_⟩
        · simp only [List.map_cons, PyData.canLayAll0]; rw [h1, ih.1]; rfl
        · have := ih.2
          simp only [List.map_cons, PyData.depthAll]; omega
    rw [Bool.and_eq_true]
    exact ⟨by simp only [PyData.canLay0]; exact h1.1, decide_eq_true (by have := h1.2; simp only [PyData.depth]; omega)⟩
  have hq2 : PyData.eqv (.tuple (od.map dvD)) (.tuple (([] : List (Option Nat)).map dvD)) = !decide (od ≠ []) := by
    cases od with
    | nil => simp [PyData.eqv, PyData.eqvAll]
    | cons z zs => simp [PyData.eqv, PyData.eqvAll]
  refine ⟨.tuple (od.map dvD), .tuple (([] : List (Option Nat)).map dvD), .tup (ex_t ((e.trans e2).trans e3) hq) (dp _ _), .tup (st_of upd_same) .nil, sh od, sh [], ?_⟩
  rw [hq2, Bool.not_not]
  exact q _ (e2.trans e3)⟩
end
end Fm
set_option maxHeartbeats 2000000
namespace Fm
open PySem PySem.Spec PyProof.Rows L2 Evl RZ
def spLaw8 (K : PySem.W.Frag) : Sp := fun vs H Q _ => ∃ (s : Addr) (ns : List Int), vs = [.ref s] ∧ SqL K H s (ns.map V.int) ∧ ∀ H', Q (.bl true) H'
section
variable {σ : L2.St} {H : Hp} {D : Ends} {X1 tz tu : TS} {ta tb te : TE} {tt : TT} {tA tr : TA} {r : R2}
theorem q_cut8 {R : L2.St → Hp → Prop} (hk : ∀ σ' H', R σ' H' → tz D σ' H') (h : (∀ σ' H', R σ' H' → tz D σ' H') → tSeq X1 tz D σ H) : tSeq X1 tz D σ H := h hk
theorem m_op8 {Q : VK} (h : ta σ H fun x H1 => tb σ H1 fun y H2 => r x y H2 Q) : tOp r ta tb σ H Q := h
theorem m_test8 {Q : Bool → Hp → Prop} (h : te σ H fun x H1 => ∃ b, x = .bl b ∧ Q b H1) : tTest te σ H Q := h
theorem q_when8 (h : tt σ H fun b H1 => if b = true then tu { D with nx := tz D } σ H1 else tz D σ H1) : tSeq (tIfS tt tu tNext) tz D σ H := h
theorem m_or8 {t u : TT} {Q : Bool → Hp → Prop} (h : t σ H fun c H1 => if c = true then Q true H1 else u σ H1 Q) : tOr t u σ H Q := h
theorem q_par38 {i j l : Nat} (h : tA σ H fun vs H1 => ∃ u v w, vs = [u, v, w] ∧ tz D (((σ.set i (some u)).set j (some v)).set l (some w)) H1) : tSeq (tPar3 i j l tA) tz D σ H := h
theorem m_consR8 {Q : List V → Hp → Prop} (h : te σ H fun x H1 => tr σ H1 fun xs H2 => Q (x :: xs) H2) : tCons te tr σ H Q := h
theorem m_nil8 {Q : List V → Hp → Prop} (h : Q [] H) : tNil σ H Q := h
theorem m_callR8 {sp : Sp} {E : XK} {Q : VK} (h : tA σ H fun vs H1 => sp (vs ++ []) H1 Q E) : tCall sp [] E tA σ H Q := h
theorem m_if8 {Q : VK} {b : Bool} (h : EvT tt σ H b) (h1 : b = true → ∀ H1, Ex H H1 → ta σ H1 Q) (h2 : b = false → ∀ H1, Ex H H1 → tb σ H1 Q) : tIf tt ta tb σ H Q := h H (Ex.refl _) _ fun H1 e1 => by
  cases b with
  | true => exact iteT9 (h1 rfl H1 e1)
  | false => exact iteF9 (h2 rfl H1 e1)
theorem s_par8 {i j : Nat} (h : tA σ H fun vs H1 => ∃ v w, vs = [v, w] ∧ D.nx ((σ.set i (some v)).set j (some w)) H1) : tPar i j tA D σ H := h
theorem ev_lenDW {P : Program} {w : World} {α : Type} {R : V → α → Hp → Prop} {d : Addr} {xs : List (Lv × α)} (ha : Ev ta σ H (.ref d)) (h : DW P w R H d xs) : Ev (tCB (rLnN P w) (tCons ta tNil)) σ H (.int (xs.length : Nat)) := fun H1 e Q q => ha H1 e _ fun H2 e2 => by
  obtain ⟨kvs, h1, h2⟩ := h.at_
  refine ⟨d, kvs, rfl, h1.r.up (e.trans e2), ?_⟩
  rw [Paired.length h2]
  exact q H2 e2
theorem ev_chainEq {tc : TE} {x y z : V} (ha : Ev ta σ H x) (hb : Ev tb σ H y) (hc : Ev tc σ H z) (h1 : scal x y = true) (h2 : scal y z = true) : Ev (tChain rEq rEq ta tb tc) σ H (.bl (decide (x = y) && decide (y = z))) := fun H1 e1 Q q =>
  ha H1 e1 _ fun H2 e2 => hb H2 (e1.trans e2) _ fun H3 e3 => ⟨h1, _, rfl, by
    by_cases h : x = y
    · rw [decide_eq_true h, Bool.true_and] at q
      rw [decide_eq_true h]
      exact iteT9 (hc H3 (e1.trans (e2.trans e3)) _ fun H4 e4 => ⟨h2, q H4 (e2.trans (e3.trans e4))⟩)
    · rw [decide_eq_false h, Bool.false_and] at q
      rw [decide_eq_false h]
      exact iteF9 (q H3 (e2.trans e3))⟩
theorem s_when8 (h : tt σ H fun b H1 => if b = true then tu D σ H1 else tNext D σ H1) : tIfS tt tu tNext D σ H := h
theorem m_notB8 {Q : Bool → Hp → Prop} (h : te σ H fun x H1 => ∃ c, x = .bl c ∧ Q (!c) H1) : tNot (tB te) σ H Q := h
theorem q_try8 {sp : Sp} {Wf : Ends → L2.St → XK} (h : tA σ H fun vs H1 => sp vs H1 (fun _ H2 => tz D σ H2) (Wf { D with nx := tz D } σ)) : tSeq (fun D σ H => tDrop (tCallS sp (Wf D) tA) D σ H) tz D σ H := h
theorem ev_notN8 {x : V} (ha : Ev ta σ H x) : Ev (tOp (fun x y H Q => y = V.non ∧ Q (V.bl (!decide (x = V.non))) H) ta (tC .non)) σ H (.bl (!decide (x = .non))) := ev_op ha ev_c fun H1 _ _ q => ⟨rfl, q H1 (Ex.refl H1)⟩
theorem eqv_nilT (zs : List Int) : PyData.eqv (.tuple (iD zs)) (.tuple (iD [])) = zs.isEmpty := by
  cases zs with
  | nil => simp [iD, PyData.eqv, PyData.eqvAll]
  | cons z zs => simp [iD, PyData.eqv, PyData.eqvAll]
theorem iD_shapedT8 (zs : List Int) : SeqAt.shaped (.tuple (iD zs)) = true := by
  show (PyData.canLay0 (.tuple (iD zs)) && decide (PyData.depth (.tuple (iD zs)) ≤ 64)) = true
  rw [Bool.and_eq_true]
  exact ⟨by simp only [PyData.canLay0]; exact iD_lay zs, decide_eq_true (by simp only [PyData.depth, iD_depth]; omega)⟩
theorem ev_neTup {K : PySem.W.Frag} {a : Addr} {zs : List Nat} (ha : Ev ta σ H (.ref a)) (hq : SqT K H a (nV zs)) : Ev (tOp (rNeD K) ta (tTup tNil)) σ H (.bl (!zs.isEmpty)) := fun H1 e Q q => ha H1 e _ fun H2 e2 => ⟨Nat.zero_le _, fun l hl => by
  have e3 := Ex.new (o := .tup []) hl
  refine ⟨.tuple (iD (zs.map fun (x : Nat) => (x : Int))), .tuple (iD []), .tup (ex_t ((e.trans e2).trans e3) hq) (by rw [nV_ints]; exact dp_ints _), .tup (st_of upd_same) (dp_ints []), iD_shapedT8 _, iD_shapedT8 _, ?_⟩
  rw [eqv_nilT, List.isEmpty_map]
  exact q _ (e2.trans e3)⟩
end
theorem asc_len {xs : List Nat} {n : Nat} (h : xs.Pairwise (· < ·)) (hl : ∀ c ∈ xs, c < n) : xs.length ≤ n := by
  have := nodup_within (ys := List.range n) (h.imp fun h => Nat.ne_of_lt h) fun c hc => List.mem_range.mpr (hl c hc)
  rwa [List.length_range] at this
section
variable {P : Program} {w : World} {K : PySem.W.Frag} {mg : Str → Option Value} {base : Heap} {C CB : Addr}
abbrev s_law : Stmt := top 43
theorem sc_law : FnScope ["script", "row", "machine", "many", "cells", "start", "found", "most", "told", "far", "layer", "ticks", "turn", "later", "lives", "deed", "lead", "ring", "share", "top", "low", "due", "odd", "fine", "e", "cell", "one"] ["script"] (defScope s_law) := ⟨rfl, rfl, rfl, by decide +kernel, rfl, by decide +kernel, by decide +kernel⟩
theorem ok_law8 {f f1 f2 f3 f4 f5 f6 f7 f8 f9 f10 f11 CBN : Addr} {fd fd1 fd2 fd3 fd4 fd5 fd6 fd7 fd8 fd9 fd10 fd11 : FuncData} (F : Fun K "law" "law" s_law f fd) (T : Txt K mg) (Z_sum : mg "sum" = none)
  (C_law_taken : Cal P w K mg base CX0 1 "_law_taken" f1 fd1 ["row", "many"] (spTak K))
  (C_law_pick : Cal P w K mg base CX0 2 "_law_pick" f2 fd2 ["row", "things"] (spPick K))
  (C_law_is : Cal P w K mg base CX0 1 "_law_is" f3 fd3 ["found", "due"] (fun vs H Q _ => ∃ b : Bool, vs = [.bl b, .bl b] ∧ ∀ H', Ex H H' → Q (.bl true) H'))
  (C_law_machine : Cal P w K mg base CX0 2 "_law_machine" f4 fd4 ["row", "most", "fade"] (spLMaL K))
  (C_law_behind : Cal P w K mg base CX0 1 "_law_behind" f5 fd5 ["machine", "lives", "word", "cell"] (spLBeh K))
  (C_law_ages : Cal P w K mg base CX0 3 "_law_ages" f6 fd6 ["machine", "cells"] (spLAg P w K))
  (C_law_most : Cal P w K mg base CX0 2 "_law_most" f7 fd7 ["found"] (spLMost P w))
  (C_endless : Cal P w K mg base CX0 7 "endless" f8 fd8 ["machine", "cells"] (spEndless K))
  (C_endlessX : Cal P w K mg base (L2.CX P w) 7 "endless" f8 fd8 ["machine", "cells"] (spLotX K CBN))
  (C_keeps : Cal P w K mg base CX0 6 "keeps" f9 fd9 ["machine", "cells", "lead", "ring"] (spKeeps K))
  (C_longest : Cal P w K mg base CX0 7 "longest" f10 fd10 ["machine", "cells"] (spLongest K))
  (C_load : Cal P w K mg base CX0 6 "load" f11 fd11 ["machine", "cells"] (spLoad K))
  (B_BadCell : BaseE K mg "BadCell" CBN) : FnOk P w K mg base CX0 8 f fd ["script"] (spLaw8 K) := by
  refine F.ok sc_law (fun vs H Q E h => ?_) (fun cdv A outer s0 H vs Q E hr h => ?_)
  · obtain ⟨_, _, rfl, _⟩ := h
    rfl
  · obtain ⟨s, ns, rfl, hs, k⟩ := h
    refine ⟨_, (pss_cons (ps_set (i := 1) sc_law.nd rfl (Or.inr rfl) (pe_lst (pa_cons (pv 0) (pa_cons pe_int (pa_cons pe_int (pa_cons pe_int pa_nil))))))
  (pss_cons (ps_set (i := 2) sc_law.nd rfl (Or.inr rfl) (pe_call C_law_machine.G (hr.mono (by first | decide | omega)) rfl C_law_machine.g C_law_machine.kp C_law_machine.b .nil pass0 (pa_cons (pv 1) (pa_cons pe_int (pa_cons pe_int pa_nil)))))
  (pss_cons (ps_set (i := 3) sc_law.nd rfl (Or.inr rfl) (pe_callB (len_K (K := K) rfl) (by rfl) T.z_len (by decide +kernel) (pa_cons (pe_ix (ix_K (K := K) rfl) (pv 2) pe_int (fun _ _ => rfl)) pa_nil)))
  (pss_cons (ps_set (i := 4) sc_law.nd rfl (Or.inl rfl) (pe_callTy (tpl_K (K := K) rfl) (by rfl) T.z_tuple (by decide +kernel) (pa_cons (pe_lc (own := [("cell", 25)]) (g := gName 25) rfl sc_law.nd (pi_range1 rfl T.z_range (pa_cons (pv 3) pa_nil)) (blkOk_by (by kernel_rfl)) (fun _ _ _ _ _ => pg_name (i := 25) sc_law.nd rfl (by first | exact Or.inl rfl | exact Or.inr rfl)) (fun _ _ _ _ _ => (pts_one (pt_cmpR op_gt (pe_call C_law_taken.G (hr.mono (by first | decide | omega)) rfl C_law_taken.g C_law_taken.kp C_law_taken.b .nil pass0 (pa_cons (pv 1) (pa_cons pe_int pa_nil))) pe_int (nomark _)))) (fun _ _ _ _ _ => (pv 25))) pa_nil)))
  (pss_cons (ps_set (i := 4) sc_law.nd rfl (Or.inl rfl) (pe_ifExp (pt_cmpR (neD_K (K := K) rfl hr.units) (pv 4) (pe_tup pa_nil) (nomark _)) (pv 4) (pe_tup (pa_cons (pe_op op_sub (pv 3) pe_int) pa_nil))))
  (pss_cons (ps_asg (pe_call C_law_ages.G (hr.mono (by first | decide | omega)) rfl C_law_ages.g C_law_ages.kp C_law_ages.b .nil pass0 (pa_cons (pv 2) (pa_cons (pv 4) pa_nil))) (pg_tup rfl (pgs_cons (pg_name (i := 5) sc_law.nd rfl (by first | exact Or.inl rfl | exact Or.inr rfl)) (pgs_cons (pg_name (i := 6) sc_law.nd rfl (by first | exact Or.inl rfl | exact Or.inr rfl)) pgs_nil))))
  (pss_cons (ps_par3 (i := 7) (j := 8) (l := 9) (by rfl) sc_law.nd rfl rfl rfl (by decide) (by decide) (by decide) rfl rfl rfl (pa_cons (pe_call C_law_most.G (hr.mono (by first | decide | omega)) rfl C_law_most.g C_law_most.kp C_law_most.b .nil pass0 (pa_cons (pv 6) pa_nil)) (pa_cons (pe_call C_endless.G (hr.mono (by first | decide | omega)) rfl C_endless.g C_endless.kp C_endless.b .nil pass0 (pa_cons (pv 2) (pa_cons (pv 4) pa_nil))) (pa_cons (pe_call C_longest.G (hr.mono (by first | decide | omega)) rfl C_longest.g C_longest.kp C_longest.b .nil pass0 (pa_cons (pv 2) (pa_cons (pv 4) pa_nil))) pa_nil))) (by rfl))
  (pss_cons (ps_if (PW.pt (pw_or (pt_cmpR op_ne (pe_cmpR op_isN (pv 8) pe_non (nomark _)) (pe_cmpR op_isN (pv 7) pe_non (nomark _)) (nomark _)) (pw_or1 (pt_cmpR op_ne (pe_cmpR op_isN (pv 9) pe_non (nomark _)) (pe_cmpR op_notN (pv 8) pe_non (nomark _)) (nomark _))))) (pss_one (ps_ret pe_bl)) pss_nil)
  (pss_cons (ps_if (pt_cmpR op_isN (pv 8) pe_non (nomark _)) (pss_cons (ps_par (i := 10) (j := 11) (by rfl) sc_law.nd rfl rfl (by decide) rfl rfl (pa_cons (pe_lst (pa_cons (pv 5) pa_nil)) (pa_cons pe_int pa_nil)) (by rfl))
  (pss_cons (ps_for PassesOwn.never rfl (pi_range1 rfl T.z_range (pa_cons (pe_callB (lenN_K (P := P) (w := w) rfl rfl) (by rfl) T.z_len (by decide +kernel) (pa_cons (pv 6) pa_nil)) pa_nil)) (pg_name (i := 12) sc_law.nd rfl (by first | exact Or.inl rfl | exact Or.inr rfl)) (pss_cons (ps_set (i := 13) sc_law.nd rfl (Or.inr rfl) (pe_lst pa_nil))
  (pss_cons (ps_for PassesOwn.never rfl (pi_listK (K := K) rfl (pv 10)) (pg_name (i := 14) sc_law.nd rfl (by first | exact Or.inl rfl | exact Or.inr rfl)) (pss_one (ps_set (i := 13) sc_law.nd rfl (Or.inr rfl) (pe_op op_cat (pv 13) (pe_lc (own := [("deed", 15), ("one", 26)]) (g := gTup K 2 (gCons (gName 15) (gCons (gName 26) gNil))) rfl sc_law.nd (pi_listK (K := K) rfl (nget_K (P := P) (w := w) rfl rfl hr.units (pv 6) (pv 14) (fun _ _ => rfl))) (blkOk_by (by kernel_rfl)) (fun _ _ _ _ _ => pg_tupK (K := K) rfl rfl (pgs_cons (pg_name (i := 15) sc_law.nd rfl (by first | exact Or.inl rfl | exact Or.inr rfl)) (pgs_cons (pg_name (i := 26) sc_law.nd rfl (by first | exact Or.inl rfl | exact Or.inr rfl)) pgs_nil))) (fun _ _ _ _ _ => (pts_one (pt_cmpR (notInD_K (K := K) rfl (room65 hr)) (pv 26) (pv 13) (by rfl)))) (fun _ _ _ _ _ => (pv 26)))))))
  (pss_one (ps_par (i := 10) (j := 11) (by rfl) sc_law.nd rfl rfl (by decide) rfl rfl (pa_cons (pv 13) (pa_cons (pe_op op_add (pv 11) (pe_ifExp (pt_cmpR (neD_K (K := K) rfl hr.units) (pv 13) (pe_lst pa_nil) (nomark _)) pe_int pe_int)) pa_nil)) (by rfl))))))
  (pss_cons (ps_set (i := 14) sc_law.nd rfl (Or.inr rfl) (pe_ix (ix_K (K := K) rfl) (pv 2) pe_int (fun _ _ => rfl)))
  (pss_cons (ps_for PassesOwn.never rfl (pi_tupK (K := K) rfl (pe_ix (ix_K (K := K) rfl) (pv 9) pe_int (fun _ _ => rfl))) (pg_name (i := 15) sc_law.nd rfl (by first | exact Or.inl rfl | exact Or.inr rfl)) (pss_one (ps_set (i := 14) sc_law.nd rfl (Or.inr rfl) (pe_call C_law_behind.G (hr.mono (by first | decide | omega)) rfl C_law_behind.g C_law_behind.kp C_law_behind.b .nil pass0 (pa_cons (pv 2) (pa_cons (pv 14) (pa_cons (pe_ifExp (pt_cmpR op_isN (pv 15) pe_non (nomark _)) pe_str pe_str) (pa_cons (pv 15) pa_nil))))))))
  (pss_one (ps_ret (pe_and (pe_chain op_eq op_eq (pe_ix (ix_K (K := K) rfl) (pv 9) pe_int (fun _ _ => rfl)) (pv 11) (pe_callB (len_K (K := K) rfl) (by rfl) T.z_len (by decide +kernel) (pa_cons (pe_ix (ix_K (K := K) rfl) (pv 9) pe_int (fun _ _ => rfl)) pa_nil))) (pe_one (pe_cmpR (eqD_K (K := K) rfl hr.units) (pe_lc (own := [("cell", 25)]) (g := gName 25) rfl sc_law.nd (pi_tupK (K := K) rfl (pv 4)) (blkOk_by (by kernel_rfl)) (fun _ _ _ _ _ => pg_name (i := 25) sc_law.nd rfl (by first | exact Or.inl rfl | exact Or.inr rfl)) (fun _ _ _ _ _ => (pts_one (pt_cmpR op_eq (pe_ix (ix_K (K := K) rfl) (pv 14) (pv 25) (fun _ _ => rfl)) pe_int (nomark _)))) (fun _ _ _ _ _ => (pv 25))) (pe_lst pa_nil) (nomark _)))))))))) pss_nil)
  (pss_cons (ps_asg (pv 8) (pg_tup rfl (pgs_cons (pg_name (i := 16) sc_law.nd rfl (by first | exact Or.inl rfl | exact Or.inr rfl)) (pgs_cons (pg_name (i := 17) sc_law.nd rfl (by first | exact Or.inl rfl | exact Or.inr rfl)) (pgs_cons (pg_name (i := 18) sc_law.nd rfl (by first | exact Or.inl rfl | exact Or.inr rfl)) pgs_nil)))))
  (pss_cons (ps_if (PW.pt (pw_or (pt_cmpR op_ne (pe_op op_mul (pe_ix (ix_K (K := K) rfl) (pv 18) pe_int (fun _ _ => rfl)) (pe_ix (ix_K (K := K) rfl) (pv 7) pe_int (fun _ _ => rfl))) (pe_op op_mul (pe_ix (ix_K (K := K) rfl) (pv 7) pe_int (fun _ _ => rfl)) (pe_ix (ix_K (K := K) rfl) (pv 18) pe_int (fun _ _ => rfl))) (nomark _)) (pw_or1 (pt_cmpR op_isnot_bl (pe_call C_keeps.G (hr.mono (by first | decide | omega)) rfl C_keeps.g C_keeps.kp C_keeps.b .nil pass0 (pa_cons (pv 2) (pa_cons (pv 4) (pa_cons (pv 16) (pa_cons (pv 17) pa_nil))))) pe_bl (nomark _))))) (pss_one (ps_ret pe_bl)) pss_nil)
  (pss_cons (ps_if (pt_cmpR op_ne (pe_op op_mul (pe_callB (len_K (K := K) rfl) (by rfl) T.z_len (by decide +kernel) (pa_cons (pe_lc (own := [("deed", 15)]) (g := gName 15) rfl sc_law.nd (pi_tupK (K := K) rfl (pv 17)) (blkOk_by (by kernel_rfl)) (fun _ _ _ _ _ => pg_name (i := 15) sc_law.nd rfl (by first | exact Or.inl rfl | exact Or.inr rfl)) (fun _ _ _ _ _ => (pts_one (pt_cmpR op_isN (pv 15) pe_non (nomark _)))) (fun _ _ _ _ _ => (pv 15))) pa_nil)) (pe_ix (ix_K (K := K) rfl) (pv 18) pe_int (fun _ _ => rfl))) (pe_op op_mul (pe_ix (ix_K (K := K) rfl) (pv 18) pe_int (fun _ _ => rfl)) (pe_callB (len_K (K := K) rfl) (by rfl) T.z_len (by decide +kernel) (pa_cons (pv 17) pa_nil))) (nomark _)) (pss_one (ps_ret pe_bl)) pss_nil)
  (pss_cons (ps_set (i := 14) sc_law.nd rfl (Or.inr rfl) (pe_ix (ix_K (K := K) rfl) (pv 2) pe_int (fun _ _ => rfl)))
  (pss_cons (ps_for PassesOwn.never rfl (pi_tupK (K := K) rfl (pe_op (catA_K (K := K) rfl) (pv 16) (pe_op (repE_K (K := K) rfl) (pv 17) pe_int))) (pg_name (i := 15) sc_law.nd rfl (by first | exact Or.inl rfl | exact Or.inr rfl)) (pss_cons (ps_set (i := 14) sc_law.nd rfl (Or.inr rfl) (pe_call C_law_behind.G (hr.mono (by first | decide | omega)) rfl C_law_behind.g C_law_behind.kp C_law_behind.b .nil pass0 (pa_cons (pv 2) (pa_cons (pv 14) (pa_cons (pe_ifExp (pt_cmpR op_isN (pv 15) pe_non (nomark _)) pe_str pe_str) (pa_cons (pv 15) pa_nil))))))
  (pss_one (ps_if (pt_cmpR (neD_K (K := K) rfl hr.units) (pe_lc (own := [("cell", 25)]) (g := gName 25) rfl sc_law.nd (pi_tupK (K := K) rfl (pv 4)) (blkOk_by (by kernel_rfl)) (fun _ _ _ _ _ => pg_name (i := 25) sc_law.nd rfl (by first | exact Or.inl rfl | exact Or.inr rfl)) (fun _ _ _ _ _ => (pts_one (pt_cmpR op_eq (pe_ix (ix_K (K := K) rfl) (pv 14) (pv 25) (fun _ _ => rfl)) pe_int (nomark _)))) (fun _ _ _ _ _ => (pv 25))) (pe_lst pa_nil) (nomark _)) (pss_one (ps_ret pe_bl)) pss_nil))))
  (pss_cons (ps_asg (pe_call C_load.G (hr.mono (by first | decide | omega)) rfl C_load.g C_load.kp C_load.b .nil pass0 (pa_cons (pv 2) (pa_cons (pv 4) pa_nil))) (pg_tup rfl (pgs_cons (pg_name (i := 19) sc_law.nd rfl (by first | exact Or.inl rfl | exact Or.inr rfl)) (pgs_cons (pg_name (i := 20) sc_law.nd rfl (by first | exact Or.inl rfl | exact Or.inr rfl)) pgs_nil))))
  (pss_cons (ps_set (i := 21) sc_law.nd rfl (Or.inl rfl) (pe_callB (sum_K (K := K) rfl rfl) (by rfl) Z_sum (by decide +kernel) (pa_cons (pe_lc (own := [("cell", 25)]) (g := gName 25) rfl sc_law.nd (pi_tupK (K := K) rfl (pv 4)) (blkOk_by (by kernel_rfl)) (fun _ _ _ _ _ => pg_name (i := 25) sc_law.nd rfl (by first | exact Or.inl rfl | exact Or.inr rfl)) (fun _ _ _ _ _ => pts_nil) (fun _ _ _ _ _ => (pe_op op_mul (pe_op op_fdivN (pe_op op_fdivN pe_int pe_int) (pe_ix (ix_K (K := K) rfl) (pe_ix (ix_K (K := K) rfl) (pv 2) pe_int (fun _ _ => rfl)) (pv 25) (fun _ _ => rfl))) pe_int))) pa_nil)))
  (pss_cons (ps_if (PW.pt (pw_and (pt_cmpR op_ne (pe_op op_mul (pv 19) pe_int) (pe_op op_mul (pv 21) (pv 20)) (nomark _)) (pw_and1 (pt_cmpR (eqD_K (K := K) rfl hr.units) (pe_lc (own := [("cell", 25)]) (g := gName 25) rfl sc_law.nd (pi_tupK (K := K) rfl (pv 4)) (blkOk_by (by kernel_rfl)) (fun _ _ _ _ _ => pg_name (i := 25) sc_law.nd rfl (by first | exact Or.inl rfl | exact Or.inr rfl)) (fun _ _ _ _ _ => (pts_one (pt_cmpR op_ne (pe_op op_modN pe_int (pe_ix (ix_K (K := K) rfl) (pe_ix (ix_K (K := K) rfl) (pv 2) pe_int (fun _ _ => rfl)) (pv 25) (fun _ _ => rfl))) pe_int (nomark _)))) (fun _ _ _ _ _ => (pv 25))) (pe_lst pa_nil) (nomark _))))) (pss_one (ps_ret pe_bl)) pss_nil)
  (pss_cons (ps_if (PW.pt (pw_and (pt_cmpR op_eq (pe_lenSetT (K := K) rfl rfl (by rfl) T.z_len (by rfl) T.z_set (pe_ix (ix_K (K := K) rfl) (pv 2) pe_int (fun _ _ => rfl))) (pv 3) (nomark _)) (pw_and1 (pt_cmpR op_gt (pe_op op_add (pe_op op_mul (pe_ix (ix_K (K := K) rfl) (pv 18) pe_int (fun _ _ => rfl)) (pv 20)) (pe_op op_mul (pv 19) (pe_ix (ix_K (K := K) rfl) (pv 18) pe_int (fun _ _ => rfl)))) (pe_op op_mul (pe_ix (ix_K (K := K) rfl) (pv 18) pe_int (fun _ _ => rfl)) (pv 20)) (nomark _))))) (pss_one (ps_ret pe_bl)) pss_nil)
  (pss_cons (ps_set (i := 22) sc_law.nd rfl (Or.inl rfl) (pe_callTy (tpl_K (K := K) rfl) (by rfl) T.z_tuple (by decide +kernel) (pa_cons (pe_lc (own := [("turn", 12)]) (g := gName 12) rfl sc_law.nd (pi_range1 rfl T.z_range (pa_cons (pe_call C_law_taken.G (hr.mono (by first | decide | omega)) rfl C_law_taken.g C_law_taken.kp C_law_taken.b .nil pass0 (pa_cons (pv 1) (pa_cons pe_int pa_nil))) pa_nil)) (blkOk_by (by kernel_rfl)) (fun _ _ _ _ _ => pg_name (i := 12) sc_law.nd rfl (by first | exact Or.inl rfl | exact Or.inr rfl)) (fun _ _ _ _ _ => pts_nil) (fun _ _ _ _ _ => (pe_call C_law_pick.G (hr.mono (by first | decide | omega)) rfl C_law_pick.g C_law_pick.kp C_law_pick.b .nil pass0 (pa_cons (pv 1) (pa_cons (pe_lst (pa_cons pe_non (pa_cons pe_int (pa_cons (pe_op op_sub (pv 3) pe_int) pa_nil)))) pa_nil))))) pa_nil)))
  (pss_cons (ps_asg (pe_tup (pa_cons (pe_cmpR (neD_K (K := K) rfl hr.units) (pv 22) (pe_tup pa_nil) (nomark _)) (pa_cons (pe_ix (ix_K (K := K) rfl) (pv 2) pe_int (fun _ _ => rfl)) pa_nil))) (pg_tup rfl (pgs_cons (pg_name (i := 23) sc_law.nd rfl (by first | exact Or.inl rfl | exact Or.inr rfl)) (pgs_cons (pg_name (i := 14) sc_law.nd rfl (by first | exact Or.inl rfl | exact Or.inr rfl)) pgs_nil))))
  (pss_cons (ps_for PassesOwn.never rfl (pi_tupK (K := K) rfl (pe_op (repE_K (K := K) rfl) (pv 22) pe_int)) (pg_name (i := 15) sc_law.nd rfl (by first | exact Or.inl rfl | exact Or.inr rfl)) (pss_cons (ps_set (i := 14) sc_law.nd rfl (Or.inr rfl) (pe_call C_law_behind.G (hr.mono (by first | decide | omega)) rfl C_law_behind.g C_law_behind.kp C_law_behind.b .nil pass0 (pa_cons (pv 2) (pa_cons (pv 14) (pa_cons (pe_ifExp (pt_cmpR op_isN (pv 15) pe_non (nomark _)) pe_str pe_str) (pa_cons (pv 15) pa_nil))))))
  (pss_one (ps_set (i := 23) sc_law.nd rfl (Or.inl rfl) (pe_and (pv 23) (pe_one (pe_cmpR (eqD_K (K := K) rfl hr.units) (pe_lc (own := [("cell", 25)]) (g := gName 25) rfl sc_law.nd (pi_tupK (K := K) rfl (pv 4)) (blkOk_by (by kernel_rfl)) (fun _ _ _ _ _ => pg_name (i := 25) sc_law.nd rfl (by first | exact Or.inl rfl | exact Or.inr rfl)) (fun _ _ _ _ _ => (pts_one (pt_cmpR op_eq (pe_ix (ix_K (K := K) rfl) (pv 14) (pv 25) (fun _ _ => rfl)) pe_int (nomark _)))) (fun _ _ _ _ _ => (pv 25))) (pe_lst pa_nil) (nomark _))))))))
  (pss_cons (ps_if (PW.pt (pw_or (pt_not (pt_val (pe_call C_law_is.G (hr.mono (by first | decide | omega)) rfl C_law_is.g C_law_is.kp C_law_is.b .nil pass0 (pa_cons (pe_call C_keeps.G (hr.mono (by first | decide | omega)) rfl C_keeps.g C_keeps.kp C_keeps.b .nil pass0 (pa_cons (pv 2) (pa_cons (pv 4) (pa_cons (pe_tup pa_nil) (pa_cons (pv 22) pa_nil))))) (pa_cons (pv 23) pa_nil))))) (pw_or1 (pt_cmpR op_isnot_bl (pe_call C_keeps.G (hr.mono (by first | decide | omega)) rfl C_keeps.g C_keeps.kp C_keeps.b .nil pass0 (pa_cons (pv 2) (pa_cons (pv 4) (pa_cons pe_non (pa_cons (pv 22) pa_nil))))) pe_bl (nomark _))))) (pss_one (ps_ret pe_bl)) pss_nil)
  (pss_cons (ps_try_as (i := 24) (Wout := fun _ _ _ _ => False) rfl rfl sc_law.nd rfl rfl ⟨rfl, by decide, Or.inl B_BadCell.gC⟩ takes0
  (fun W pn xe tk _ => (pss_one (ps_expr (pe_callS C_endlessX.G (hr.mono (by first | decide | omega)) rfl C_endlessX.g C_endlessX.kp C_endlessX.b (fun σ => passAt tk σ) (pa_cons (pv 2) (pa_cons (pe_call C_law_pick.G (hr.mono (by first | decide | omega)) rfl C_law_pick.g C_law_pick.kp C_law_pick.b .nil pass0 (pa_cons (pv 1) (pa_cons (pe_lst (pa_cons pe_non (pa_cons (pe_tup pa_nil) (pa_cons (pe_tup (pa_cons (pv 3) pa_nil)) (pa_cons (pe_tup (pa_cons pe_int (pa_cons pe_int pa_nil))) (pa_cons (pe_lst (pa_cons pe_int pa_nil)) (pa_cons (pe_tup (pa_cons pe_bl pa_nil)) pa_nil))))))) pa_nil))) pa_nil))))))
  (fun a oe cls d pn hz hf => (pss_one (ps_ret pe_bl))))
  (pss_one (ps_ret pe_bl))))))))))))))))))))))))), ?_⟩
    refine q_asgL (xs := [.ref s, .int 0, .int 7508, .int 0]) (el_lst (ea_cons (ev_var rfl) (ea_cons ev_c (ea_cons ev_c (ea_cons ev_c ea_nil)))) (by show 4 ≤ 100000; decide)) fun r H1 hr0 e1 hr1 => ?_
    have R1 : RowAt K H1 r s ns := ⟨⟨0, 7508, 0, hr1, Int.le_refl _⟩, ex_l e1 hs⟩
    refine q_callA (ea_cons (ev_var rfl) (ea_cons ev_c (ea_cons ev_c ea_nil))) fun H2 e2 => ?_
    refine ⟨r, s, ns, 2, 5, rfl, R1.up e2, by decide, by decide, by decide, by decide, fun ma fs rs H3 hmf hml hmo hl2 hf5 R3 _ => ?_⟩
    obtain ⟨y3, hy3⟩ := R3.lst
    have mB := hmf.kt8 (kt_rem8 hy3)
    have lB := hml.kt (kt_rem8 hy3)
    have eB : Ex (rem H3 r) H3 := rem_ex
    have hBr : rem H3 r r = none := rem_eq
    generalize rem H3 r = B at mB lB eB hBr
    obtain ⟨fa, ra, hm0, hfa, hra, _⟩ := id mB
    have hl1 := hmo.l1
    have hll := hmo.ll
    refine q_asg (v := .int (fs.length : Nat)) (ev_is (ev_lnT (ev_ixT (ev_var rfl) ev_c (ex_t eB hm0) rfl) (ex_t eB hfa)) (by rw [nV_len])) fun H4 e4 => ?_
    have eB4 := eB.trans e4
    have R4 := R3.up e4
    try dsimp only [List.set]
    refine q_cut8 (R := fun σ' H' => ∃ (cl : Addr) (cs : List Nat), σ' = [some (.ref s), some (.ref r), some (.ref ma), some (.int (fs.length : Nat)), some (.ref cl), none, none, none, none, none, none, none, none, none, none, none, none, none, none, none, none, none, none, none, none, none, none] ∧ SqT K H' cl (nV cs) ∧ cs.Pairwise (· < ·) ∧ (∀ c ∈ cs, c < fs.length) ∧ RowAt K H' r s ns ∧ Ex B H') ?_ (fun hk => ?_)
    · rintro σ' H5 ⟨cl, cs0, rfl, hcl0, hasc0, hlt0, R5, eB5⟩
      refine q_cut8 (R := fun σ' H' => ∃ (cl : Addr) (cs : List Nat), σ' = [some (.ref s), some (.ref r), some (.ref ma), some (.int (fs.length : Nat)), some (.ref cl), none, none, none, none, none, none, none, none, none, none, none, none, none, none, none, none, none, none, none, none, none, none] ∧ SqT K H' cl (nV cs) ∧ cs.Pairwise (· < ·) ∧ (∀ c ∈ cs, c < fs.length) ∧ cs ≠ [] ∧ RowAt K H' r s ns ∧ Ex B H') ?_ (fun hk => ?_)
      · clear hcl0 hasc0 hlt0 R5 eB5
        rintro σ' H6 ⟨cl, cs, rfl, hcl, hasc, hlt, hne, R6, eB6⟩
        have hc10 := asc_len hasc hlt
        have hltr : ∀ c ∈ cs, c < rs.length := fun c hc => hll ▸ hlt c hc
        have hf8 : ∀ x ∈ fs, 1 ≤ x ∧ x ≤ 8 := hmo.f
        have hpw : (5 + 1) ^ rs.length ≤ 36 := Nat.le_trans (Nat.pow_le_pow_right (by decide) (show rs.length ≤ 2 by omega)) (by decide)
        have LP : ∀ {Hx : Hp}, Ex H6 Hx → LotP K Hx ma cl fs rs cs := fun {Hx} e => ⟨(mB.up (eB6.trans e)).t, hmo, ex_t e hcl, hne, hasc, hltr, hf8⟩
        refine q_asgGR (m_callR8 ?_)
        refine (ea_cons (ev_var rfl) (ea_cons (ev_var rfl) ea_nil) : EvA _ _ H6 [.ref ma, .ref cl]) H6 (Ex.refl _) _ fun H7 e7 => ?_
        refine ⟨ma, cl, fs, rs, cs, 5, rfl, mB.up (eB6.trans e7), hmo, ex_t e7 hcl, hltr, by omega, hf5, by decide, by omega, fun t sa fd sp2 H8 ht e8 ht8 hsa hdw ag => ?_⟩
        refine ⟨t, _, rfl, st_of ht8, rfl, _, _, rfl, _, _, rfl, rfl, ?_⟩
        try dsimp only [List.set]
        have e68 := e7.trans e8
        have hspl : sp2.length ≤ 36 := Nat.le_trans (lv_many ag.nd ag.lv) hpw
        have hdsl : (dsW rs).length ≤ 3 := by
          have := nm_len hmo.r
          unfold dsW
          rw [List.length_cons, List.length_map, List.length_range]; omega
        refine q_par38 (m_consR8 (m_callR8 ?_))
        refine (ea_cons (ev_var rfl) ea_nil : EvA _ _ H8 [.ref fd]) H8 (Ex.refl _) _ fun H9 e9 => ?_
        refine ⟨fd, sp2, lnkD fs rs cs (dsW rs), rs.length, rfl, hdw.up lkR_d e9, ag.nd, ag.cl, fun s => Nat.le_trans (lnkD_len fs rs cs (dsW rs) s) (by omega), by omega, by omega, fun s hs => ⟨(ag.lv s hs).1, fun x hx => by have := (ag.lv s hs).2 x hx; omega⟩, fun mv o H10 e10 hbs hbest => ?_⟩
        refine m_consR8 (m_callR8 ?_)
        refine (ea_cons (ev_var rfl) (ea_cons (ev_var rfl) ea_nil) : EvA _ _ H10 [.ref ma, .ref cl]) H10 (Ex.refl _) _ fun H11 e11 => ?_
        have e811 := e9.trans (e10.trans e11)
        refine ⟨ma, cl, fs, rs, cs, rfl, LP (e68.trans e811), fun sp lens H12 e12 ok hsome => ?_, fun sp lens tt0 e0 ra2 qa q s1 a b H12 e12 ok hnone ht12 he0 hra2 hqa E => ?_⟩
        · -- no endless ring
          refine m_consR8 (m_callR8 ?_)
          refine (ea_cons (ev_var rfl) (ea_cons (ev_var rfl) ea_nil) : EvA _ _ H12 [.ref ma, .ref cl]) H12 (Ex.refl _) _ fun H13 e13 => ?_
          have e813 := e811.trans (e12.trans e13)
          refine ⟨ma, cl, fs, rs, cs, rfl, LP (e68.trans e813), fun sp' lens' H14 e14 ok' hno => ?_, fun sp' lens' tl ral rd en n H14 e14 ok' hn hwk hrl htl hral => ?_⟩
          · have := len_some hltr ok ok' hsome
            rw [hno] at this; cases this
          obtain rfl := most_none hltr ok' ag hn hbest
          obtain rfl : mv = .non := hbs
          refine m_nil8 ⟨.non, .non, .ref tl, rfl, ?_⟩
          try dsimp only [List.set]
          clear hbest hsome ok
          have e814 := e813.trans e14
          refine q_when (b := false || false) (et_or (et_is (et_ne (ev_isN (ev_var rfl)) (ev_isN (ev_var rfl)) rfl) rfl) fun _ => et_is (et_ne (ev_isN (ev_var rfl)) (ev_notN8 (ev_var rfl)) rfl) rfl) (fun z => nomatch z) fun _ H15 e15 => ?_
          refine q_when (b := true) (et_is (et_isN (ev_var rfl)) rfl) (fun _ H16 e16 => ?_) (fun z => nomatch z)
          have e816 := e814.trans (e15.trans e16)
          have dw16 := hdw.up lkR_d e816
          have sa16 := hsa.up e816
          have tl16 : H16 tl = some (.tup [.int (n : Nat), .ref ral]) := (e15.trans e16) _ _ htl
          have rl16 : H16 ral = some (.tup (rd.map dvR)) := (e15.trans e16) _ _ hral
          have m16 := mB.up (eB6.trans (e68.trans e816))
          have cl16 := ex_t (e68.trans e816) hcl
          have fa16 : SqT K H16 fa (nV fs) := ex_t (eB6.trans (e68.trans e816)) hfa
          have hm016 := ex_t (eB6.trans (e68.trans e816)) hm0
          have hlong := long_le hltr ok' ag hn hwk hrl
          clear e816 e814 e813 e811 e15 e16 e14 e13 e12 e11 e10 e9 hdw hsa htl hral
          refine q_parR (m_consR8 (m_lstR (m_consR8 ?_)))
          refine (ev_var rfl) H16 (Ex.refl _) _ fun H17 e17 => m_nil8 ⟨by show 1 ≤ sizeLine; rw [sizeLine_eq]; decide, fun la hla => m_consR8 ?_⟩
          have e18 := e17.trans (Ex.new (o := .lst [.ref sa]) hla)
          have la18 : upd H17 la (.lst [.ref sa]) la = some (.lst [.ref sa]) := upd_same
          generalize upd H17 la (.lst [.ref sa]) = H18 at e18 la18 ⊢
          refine ev_c H18 (Ex.refl _) _ fun H19 e19 => m_nil8 ⟨.ref la, .int ((0 : Nat) : Int), rfl, ?_⟩
          try dsimp only [List.set]
          have e1619 := e18.trans e19
          have LL : ∀ s, (lnkD fs rs cs (dsW rs) s).length ≤ 3 := fun s => Nat.le_trans (lnkD_len fs rs cs (dsW rs) s) hdsl
          refine q_forR1 (n := ((sp2.length : Nat) : Int)) (ea_cons (ev_is (ev_lenDW (ev_var rfl) (dw16.up lkR_d e1619)) (by rw [List.length_map])) ea_nil) ⟨by omega, by omega⟩
            (fun t σ' H' => ∃ la ls z12 z13 z14 us, σ' = [some (.ref s), some (.ref r), some (.ref ma), some (.int (fs.length : Nat)), some (.ref cl), some (.ref sa), some (.ref fd), some .non, some .non, some (.ref tl), some (.ref la), some (.int ((min t n : Nat) : Int)), z12, z13, z14, none, none, none, none, none, none, none, none, none, none, none, none] ∧ Ex H16 H' ∧ H' la = some (.lst us) ∧ Paired (fun u l => LvR u l H') us ls ∧ LayI (lnkD fs rs cs (dsW rs)) (onlyL cs fs) t ls ∧ Few8 3 ls)
            (fun H20 e20 => ⟨la, [onlyL cs fs], _, _, _, _, by rw [Nat.zero_min], e1619.trans e20, (e19.trans e20) _ _ la18, .cons ⟨sa, rfl, sa16.up (e1619.trans e20)⟩ .nil, fun x => ⟨fun h => by rw [List.mem_singleton.mp h]; exact ⟨0, .nil⟩, fun ⟨k, w⟩ => by cases w; exact List.mem_singleton.mpr rfl⟩, [onlyL cs fs], List.pairwise_singleton _ _, fun _ h => h, by show 1 ≤ 3 * 1; decide⟩) ?_ ?_
          · rintro t σ' H20 ht ⟨la, ls, z12, z13, z14, us, rfl, e20, hla, hpl, hLay, hFew⟩
            have ht : t < sp2.length := by omega
            try dsimp only [List.set]
            have hlsub : ∀ x ∈ ls, x ∈ sp2 := fun x hx => by
              obtain ⟨k, w⟩ := (hLay x).mp hx
              exact w.sub ag.cl ag.st
            have hlen := hFew.le hlsub
            refine q_asgL (xs := []) (el_lst ea_nil (by decide)) fun na H21 hna e21 hna21 => ?_
            try dsimp only [List.set]
            have e1621 := e20.trans e21
            have hla21 := e21 _ _ hla
            have hpl21 := Paired.mapP hpl fun _ _ z => lvR_d _ _ _ _ e21 z
            refine q_forL (a := la) (xs := us) (ev_var rfl) (sq_of hla21) (fun i σ' H' => ∃ na z14 lat, σ' = [some (.ref s), some (.ref r), some (.ref ma), some (.int (fs.length : Nat)), some (.ref cl), some (.ref sa), some (.ref fd), some .non, some .non, some (.ref tl), some (.ref la), some (.int ((min t n : Nat) : Int)), some (.int (t : Int)), some (.ref na), z14, none, none, none, none, none, none, none, none, none, none, none, none] ∧ Ex H21 H' ∧ H' na = some (.lst lat) ∧ Paired (fun u l => LvR u l H') lat ((ls.take i).foldl (addL8 (lnkD fs rs cs (dsW rs))) []))
              (fun H22 e22 => ⟨na, _, [], rfl, e22, e22 _ _ hna21, .nil⟩) (fun i σ' H' _ ⟨_, _, _, _, e, _⟩ => ex_l e (sq_of hla21)) (fun i v σ' H22 hv ⟨na, z14, lat, hσ, e22, hna22, hpw⟩ => ?_) (fun σ' H22 ⟨na, z14, lat, hσ, e22, hna22, hpw⟩ => ?_)
            · subst hσ
              obtain ⟨x, hx, b, rfl, hb⟩ := paired_at hpl21 hv
              have hxm := List.mem_of_getElem? hx
              have htk : (ls.take (i + 1)).foldl (addL8 (lnkD fs rs cs (dsW rs))) [] = addL8 (lnkD fs rs cs (dsW rs)) ((ls.take i).foldl (addL8 (lnkD fs rs cs (dsW rs))) []) x := by rw [List.take_add_one, hx, List.foldl_append]; rfl
              have hacc : ∀ y ∈ (ls.take i).foldl (addL8 (lnkD fs rs cs (dsW rs))) [], y ∈ sp2 := fun y hy => by
                rcases layF8_mem.mp hy with h | ⟨x', h1, p, h2, h3⟩
                · cases h
                · rw [← h3]; exact ag.cl _ (hlsub _ (List.mem_of_mem_take h1)) p h2
              have hfa := (few8_fold LL (layer := ls.take i) (acc := []) ⟨[], .nil, fun _ h => h, Nat.zero_le _⟩).le hacc
              rw [htk]
              generalize (ls.take i).foldl (addL8 (lnkD fs rs cs (dsW rs))) [] = acc at hpw hacc hfa ⊢
              try dsimp only [List.set]
              refine s_asgU9 (m_op8 ?_)
              refine (ev_var rfl) H22 (Ex.refl _) _ fun H23 e23 => ?_
              have e1623 := e1621.trans (e22.trans e23)
              have hb23 := hb.up (e22.trans e23)
              obtain ⟨v1, hv1, lb, vs, hv1e, hvs, hpv⟩ := ev_dget (P := P) (w := w) (σ := [some (.ref s), some (.ref r), some (.ref ma), some (.int (fs.length : Nat)), some (.ref cl), some (.ref sa), some (.ref fd), some .non, some .non, some (.ref tl), some (.ref la), some (.int ((min t n : Nat) : Int)), some (.int (t : Int)), some (.ref na), some (.ref b), none, none, none, none, none, none, none, none, none, none, none, none]) (td := tVar 6) (ty := tVar 14) lkR_d (ev_var rfl) (ev_var rfl) (dw16.up lkR_d e1623).r hb23 (lkp_fun (hlsub x hxm))
              subst hv1e
              have hna23 := e23 _ _ hna22
              have hpw23 := Paired.mapP hpw fun _ _ z => lvR_d _ _ _ _ e23 z
              have hvl := Paired.length hpv
              have hLx := LL x
              have hlatl := Paired.length hpw
              refine m_lcLR (a := lb) (xs := vs) hv1 (sq_of hvs) (fun D i Hx => H23 D = none ∧ Ex H23 Hx ∧ ∃ ws, Hx D = some (.lst ws) ∧ Paired (fun u l => LvR u l Hx) ws ((((lnkD fs rs cs (dsW rs) x).take i).map Prod.snd).filter fun y => !decide (y ∈ acc))) (fun D H1 e1 hD => ⟨fresh_back e1 hD, e1.trans (Ex.new hD), [], upd_same, .nil⟩) (fun D i Hx _ h => ex_l h.2.1 (sq_of hvs)) (fun D j v Hx hv h => ?_) (fun D Hx h => ?_)
              · obtain ⟨hD, ex, ws, hws, hpw2⟩ := h
                obtain ⟨p, hp, b3, v3, rfl, hb3, bt, hv3, hbt⟩ := paired_at hpv hv
                have hv3 : v3 = .ref bt ∧ LvH H23 bt p.2 := ⟨hv3, hbt⟩
                obtain ⟨rfl, hbt⟩ := hv3
                have htk2 : ((lnkD fs rs cs (dsW rs) x).take (j + 1)).map Prod.snd = ((lnkD fs rs cs (dsW rs) x).take j).map Prod.snd ++ [p.2] := by rw [List.take_add_one, hp, List.map_append]; rfl
                have hwl := Paired.length hpw2
                have hwl2 := List.length_filter_le (fun y => !decide (y ∈ acc)) (((lnkD fs rs cs (dsW rs) x).take j).map Prod.snd)
                rw [List.length_map, List.length_take] at hwl2
                refine ⟨b3, _, rfl, st_of (ex _ _ hb3), rfl, _, _, rfl, _, _, rfl, ⟨rfl, rfl, ?_⟩⟩
                refine (et_niLv (ls := acc) (ev_var rfl) (hbt.up ex) (ev_var rfl) (ex _ _ hna23) (Paired.mapP hpw23 fun _ _ z => lvR_d _ _ _ _ ex z)) Hx (Ex.refl _) _ fun Hy ey => ?_
                by_cases hin : p.2 ∈ acc
                · rw [decide_eq_true hin]
                  refine iteF9 ⟨hD, ex.trans ey, ws, ey _ _ hws, ?_⟩
                  rw [htk2, List.filter_append, List.filter_cons, decide_eq_true hin]
                  simpa using Paired.mapP hpw2 fun _ _ z => lvR_d _ _ _ _ ey z
                · rw [decide_eq_false hin]
                  refine iteT9 ?_
                  refine (ev_var rfl) Hy (Ex.refl _) _ fun Hz ez => ?_
                  have hwsz := (ey.trans ez) _ _ hws
                  have tt := ts_lst (o := .lst (ws ++ [.ref bt])) hwsz
                  refine ⟨ws, hwsz, by rw [sizeLine_eq]; omega, hD, Ex.mut (ex.trans (ey.trans ez)) hD, ws ++ [.ref bt], upd_same, ?_⟩
                  rw [htk2, List.filter_append, List.filter_cons, decide_eq_false hin]
                  exact paired_append (Paired.mapP hpw2 fun _ _ z => z.ts ((Ts.of (ey.trans ez)).trans tt)) (.cons ⟨bt, rfl, (hbt.up (ex.trans (ey.trans ez))).ts tt⟩ .nil)
              obtain ⟨hD, ex, ws, hws, hpw2⟩ := h
              rw [hvl, List.take_length] at hpw2
              have hwl := Paired.length hpw2
              have hwl2 := List.length_filter_le (fun y => !decide (y ∈ acc)) ((lnkD fs rs cs (dsW rs) x).map Prod.snd)
              rw [List.length_map] at hwl2
              refine ⟨na, D, lat, ws, rfl, rfl, ex _ _ hna23, hws, by rw [sizeLine_eq]; omega, fun na2 hna2 => ?_⟩
              have e24 := Ex.new (o := .lst (lat ++ ws)) hna2
              refine ⟨na2, _, lat ++ ws, rfl, (e22.trans e23).trans (ex.trans e24), upd_same, ?_⟩
              exact paired_append (Paired.mapP hpw23 fun _ _ z => lvR_d _ _ _ _ (ex.trans e24) z) (Paired.mapP hpw2 fun _ _ z => lvR_d _ _ _ _ e24 z)
            · subst hσ
              have hul := Paired.length hpl
              rw [hul, List.take_length] at hpw
              have hLay' := hLay.next
              have hFew' : Few8 3 (layN8 (lnkD fs rs cs (dsW rs)) ls) := few8_fold LL ⟨[], .nil, fun _ h => h, Nat.zero_le _⟩
              have hnil := lay_nil hltr ok' ag hn hwk hrl hLay'
              try dsimp only [List.set]
              refine s_par8 (m_consR8 ?_)
              refine (ev_var rfl) H22 (Ex.refl _) _ fun H23 e23 => m_consR8 ?_
              have e1623 := e1621.trans (e22.trans e23)
              have hna23 := e23 _ _ hna22
              have hpw23 := Paired.mapP hpw fun _ _ z => lvR_d _ _ _ _ e23 z
              refine (ev_i0 (g := fun i j => .int (i + j)) (i := ((min t n : Nat) : Int)) (j := if t + 1 ≤ n then 1 else 0) (ev_var rfl) (ev_if (b := decide (t + 1 ≤ n)) (et_is (et_test (ev_neNilLv (ev_var rfl) hna23 hpw23)) ?_) (fun z => ?_) (fun z => ?_))) H23 (Ex.refl _) _ fun H24 e24 => ?_
              · rw [Bool.eq_iff_iff, decide_eq_true_iff, ← hnil]
                show _ ↔ layN8 (lnkD fs rs cs (dsW rs)) ls ≠ []
                unfold layN8
                cases (ls.foldl (addL8 (lnkD fs rs cs (dsW rs))) []) with
                | nil => exact ⟨fun z => (nomatch z), fun z => absurd rfl z⟩
                | cons _ _ => exact ⟨fun _ z => (nomatch z), fun _ => rfl⟩
              · rw [if_pos (of_decide_eq_true z)]; exact ev_c
              · rw [if_neg (of_decide_eq_false z)]; exact ev_c
              · refine m_nil8 ⟨.ref na, .int ((min (t + 1) n : Nat) : Int), ?_, ?_⟩
                · congr 3
                  split <;> omega
                · exact ⟨na, layN8 (lnkD fs rs cs (dsW rs)) ls, _, _, _, _, rfl, e1623.trans e24, e24 _ _ hna23, Paired.mapP hpw23 fun _ _ z => lvR_d _ _ _ _ e24 z, hLay', hFew'⟩
          · rintro σ' H20 ⟨la, ls, z12, z13, z14, us, rfl, e20, hla, hpl, hLay, hFew⟩
            rw [show min ((sp2.length : Nat) : Int).toNat n = n by omega]
            try dsimp only [List.set]
            refine q_asg (v := .ref fa) (ev_ixT (ev_var rfl) ev_c (ex_t e20 hm016) rfl) fun H21 e21 => ?_
            try dsimp only [List.set]
            have e1621 := e20.trans e21
            have hds : ∀ c, some c ∈ rd → c < rs.length := fun c hc => hltr c (wk_mem hwk hc)
            refine q_forT (a := ral) (xs := rd.map dvR) (ev_ixT (ev_var rfl) ev_c (st_of (e1621 _ _ tl16)) rfl) (st_of (e1621 _ _ rl16)) (fun i σ' H' => ∃ lb l z15, σ' = [some (.ref s), some (.ref r), some (.ref ma), some (.int (fs.length : Nat)), some (.ref cl), some (.ref sa), some (.ref fd), some .non, some .non, some (.ref tl), some (.ref la), some (.int ((n : Nat) : Int)), z12, z13, some (.ref lb), z15, none, none, none, none, none, none, none, none, none, none, none] ∧ Ex H16 H' ∧ SqT K H' lb (nV l) ∧ l = (rd.take i).foldl (livD fs rs) fs ∧ l.length = rs.length) (fun H22 e22 => ⟨fa, fs, _, rfl, e1621.trans e22, ex_t (e1621.trans e22) fa16, rfl, hll⟩) (fun i σ' H' _ ⟨_, _, _, _, e, _⟩ => ex_t e (st_of rl16)) (fun i v σ' H22 hv ⟨lb, l, z15, hσ, e22, hlb, hl, hln⟩ => ?_) (fun σ' H22 ⟨lb, l, z15, hσ, e22, hlb, hl, hln⟩ => ?_)
            · subst hσ
              rw [List.getElem?_map] at hv
              obtain ⟨d, hd, rfl⟩ := Option.map_eq_some_iff.mp hv
              have hdm := List.mem_of_getElem? hd
              try dsimp only [List.set]
              refine s_asgU9 (m_beh8 (d := d) rfl rfl rfl (m16.up e22).t hmo hlb hln (fun c h => hds c (h ▸ hdm)) fun b H23 e23 hb => ?_)
              exact ⟨b, livD fs rs l d, _, rfl, e22.trans e23, st_of hb, by rw [List.take_add_one, hd, List.foldl_append, ← hl]; rfl, by rw [livD_len]; exact hln⟩
            · subst hσ
              rw [List.length_map, List.take_length] at hl
              have hrch := rch_le hll (ds := allD rs cs) (cs := cs) .here
              obtain ⟨l', hk', _, _⟩ := ge_walk hwk (l := fs) hlt (by rw [hrch.1]) fun c _ => hrch.2 c
              obtain ⟨h1, h2⟩ := keptD_fold hk'
              have hal : lostL cs l = false := by
                rw [hl, ← h1]
                refine h2 (lost_of.mpr fun c hc => ?_)
                have := hf8 (fs.getD c 0) (by rw [List.getD_eq_getElem?_getD, List.getElem?_eq_getElem (hlt c hc)]; exact List.getElem_mem _)
                omega
              try dsimp only [List.set]
              refine s_ret (v := .bl true) (ev_is (ev_andV (ev_chainEq (ev_ixT (ev_var rfl) ev_c (st_of (e22 _ _ tl16)) rfl) (ev_var rfl) (ev_lnT (ev_ixT (ev_var rfl) ev_c (st_of (e22 _ _ tl16)) rfl) (st_of (e22 _ _ rl16))) rfl rfl) fun _ => ev_alive8 rfl (ex_t e22 cl16) hlb (by rw [hln]; exact hltr) (by omega)) ?_) fun H23 e23 => k _
              rw [hal, List.length_map, hrl, decide_eq_true rfl]
              rfl
        · -- an endless ring
          refine m_consR8 (m_callR8 ?_)
          refine (ea_cons (ev_var rfl) (ea_cons (ev_var rfl) ea_nil) : EvA _ _ H12 [.ref ma, .ref cl]) H12 (Ex.refl _) _ fun H13 e13 => ?_
          have e813 := e811.trans (e12.trans e13)
          refine ⟨ma, cl, fs, rs, cs, rfl, LP (e68.trans e813), fun sp' lens' H14 e14 ok' hno => ?_, fun sp' lens' tl ral rd en n H14 e14 ok' hn hwk hrl htl hral => ?_⟩
          rotate_left
          · have := len_some hltr ok' ok (by rw [hn]; rfl)
            rw [hnone] at this; cases this
          obtain ⟨m1, m2, rfl, hmm, hm0', hm2l, hm12⟩ := most_some hltr ok ag E hbest
          obtain ⟨ba, rfl, hba⟩ := hbs
          have hba : H10 ba = some (.tup [.int (m1 : Nat), .int (m2 : Nat)]) := hba
          obtain ⟨rg, hrg, hrne, hrl, hkeep, hwait, hmem, hab, hbl⟩ := end_all8 hll hltr ok ag E
          rw [← hrg] at hra2
          have hf840 : ∀ c ∈ cs, 0 < fs.getD c 0 ∧ fs.getD c 0 ∣ 840 := fun c hc => by
            have hm : fs.getD c 0 ∈ fs := by rw [List.getD_eq_getElem?_getD, List.getElem?_eq_getElem (hlt c hc)]; exact List.getElem_mem _
            have h1 := (hf8 _ hm).1
            have h2 := hf5 _ hm
            generalize fs.getD c 0 = x at h1 h2 ⊢
            refine ⟨h1, ?_⟩
            have : x = 1 ∨ x = 2 ∨ x = 3 ∨ x = 4 ∨ x = 5 := by omega
            rcases this with rfl | rfl | rfl | rfl | rfl <;> decide
          have hshare := fun hd => load_share hll hltr hasc hf840 hd ok E
          obtain ⟨hld, hlow⟩ := load_eq hf840
          refine m_nil8 ⟨.ref ba, .ref tt0, .non, rfl, ?_⟩
          try dsimp only [List.set]
          clear hbest ok ok' hno E hrg hnone
          refine q_when (b := false || false) (et_or (et_is (et_ne (ev_isN (ev_var rfl)) (ev_isN (ev_var rfl)) rfl) rfl) fun _ => et_is (et_ne (ev_isN (ev_var rfl)) (ev_notN8 (ev_var rfl)) rfl) rfl) (fun z => nomatch z) fun _ H15 e15 => ?_
          refine q_when (b := false) (et_is (et_isN (ev_var rfl)) rfl) (fun z => nomatch z) fun _ H16 e16 => ?_
          have e616 : Ex H6 H16 := (e68.trans (e813.trans e14)).trans (e15.trans e16)
          have t016 : H16 tt0 = some (.tup [.ref e0, .ref ra2, .ref qa]) := (e13.trans (e14.trans (e15.trans e16))) _ _ ht12
          have e016 : SqT K H16 e0 ([] : List V) := st_of ((e13.trans (e14.trans (e15.trans e16))) _ _ he0)
          have ra16 : SqT K H16 ra2 (rg.map dvR) := st_of ((e13.trans (e14.trans (e15.trans e16))) _ _ hra2)
          have qa16 : SqT K H16 qa [.int (a : Nat), .int (b : Nat)] := st_of ((e13.trans (e14.trans (e15.trans e16))) _ _ hqa)
          have ba16 : SqT K H16 ba [.int (m1 : Nat), .int (m2 : Nat)] := st_of ((e11.trans (e12.trans (e13.trans (e14.trans (e15.trans e16))))) _ _ hba)
          have eB16 := eB6.trans e616
          have R16 := R6.up e616
          have cl16 := ex_t e616 hcl
          have LP16 : ∀ {Hx : Hp}, Ex H16 Hx → LotP K Hx ma cl fs rs cs := fun {Hx} e => LP (e616.trans e)
          clear e616 LP e16 e15 e14 e13 e813 e12 e811 e11 e10 e9 hba hqa hra2 he0 ht12 hdw hsa e68 ht8 ht e8 e7 hcl R6 eB6
          refine q_asgGR ((ev_var rfl) H16 (Ex.refl _) _ fun H17 e17 => ?_)
          refine ⟨tt0, _, rfl, st_of (e17 _ _ t016), rfl, _, _, rfl, _, _, rfl, _, _, rfl, rfl, ?_⟩
          try dsimp only [List.set]
          refine q_when8 (m_or8 ?_)
          refine (et_is (et_ne (ev_iC (g := fun i j => .int (i * j)) (i := (a : Nat)) (j := (m2 : Nat)) (ev_ixT (ev_var rfl) ev_c (ex_t e17 qa16) rfl) (ev_ixT (ev_var rfl) ev_c (ex_t e17 ba16) rfl) (.inl ⟨by omega, by omega⟩)) (ev_iC (g := fun i j => .int (i * j)) (i := (m1 : Nat)) (j := (b : Nat)) (ev_ixT (ev_var rfl) ev_c (ex_t e17 ba16) rfl) (ev_ixT (ev_var rfl) ev_c (ex_t e17 qa16) rfl) (.inl ⟨by omega, by omega⟩)) rfl) (b := false) (by
            have : ((a : Nat) : Int) * ((m2 : Nat) : Int) = ((m1 : Nat) : Int) * ((b : Nat) : Int) := by exact_mod_cast hmm
            rw [this, decide_eq_true rfl]; rfl)) H17 (Ex.refl _) _ fun H18 e18 => iteF9 (m_test8 (m_op8 (m_callR8 ?_)))
          refine (ea_cons (ev_var rfl) (ea_cons (ev_var rfl) (ea_cons (ev_var rfl) (ea_cons (ev_var rfl) ea_nil))) : EvA _ _ H18 [.ref ma, .ref cl, .ref e0, .ref ra2]) H18 (Ex.refl _) _ fun H19 e19 => ?_
          have e1619 := e17.trans (e18.trans e19)
          refine ⟨ma, cl, .ref e0, .ref ra2, fs, rs, cs, rfl, LP16 e1619, lB.up (eB16.trans e1619), .inr ⟨[], rg, ⟨e0, rfl, ex_t e1619 e016, by decide, fun _ z => nomatch z⟩, ⟨ra2, rfl, ex_t e1619 ra16, by omega, hmem⟩, fun kb H20 e20 hkb => ?_⟩⟩
          obtain rfl : kb = true := hkb.mpr ⟨hrne, hkeep⟩
          refine ev_c H20 (Ex.refl _) _ fun H21 e21 => ⟨true, true, rfl, rfl, _, rfl, ?_⟩
          rw [show (!decide (true = true)) = false from rfl]
          refine iteF9 ?_
          have e1621 := e1619.trans (e20.trans e21)
          obtain ⟨xs, hxs, hev⟩ := el_none8 (K := K) (σ := [some (.ref s), some (.ref r), some (.ref ma), some (.int (fs.length : Nat)), some (.ref cl), some (.ref sa), some (.ref fd), some (.ref ba), some (.ref tt0), some .non, none, none, none, none, none, none, some (.ref e0), some (.ref ra2), some (.ref qa), none, none, none, none, none, none, none, none]) (H := H21) (rg := rg) rfl (ex_t e1621 ra16) (by omega)
          refine q_when (b := false) (et_is (et_ne (ev_iC (g := fun i j => .int (i * j)) (i := (xs.length : Nat)) (j := (b : Nat)) (ev_lenE8 hev) (ev_ixT (ev_var rfl) ev_c (ex_t e1621 qa16) rfl) (.inr ⟨by omega, by omega⟩)) (ev_iC (g := fun i j => .int (i * j)) (i := (a : Nat)) (j := (rg.length : Nat)) (ev_ixT (ev_var rfl) ev_c (ex_t e1621 qa16) rfl) (ev_is (ev_lnT (ev_var rfl) (ex_t e1621 ra16)) (by rw [List.length_map])) (.inl ⟨by omega, by omega⟩)) rfl) (by
            rw [hxs]
            have : (((rg.filter fun d => decide (d = none)).length : Nat) : Int) * ((b : Nat) : Int) = ((a : Nat) : Int) * ((rg.length : Nat) : Int) := by exact_mod_cast hwait
            rw [this, decide_eq_true rfl]; rfl)) (fun z => nomatch z) fun _ H22 e22 => ?_
          have e1622 := e1621.trans e22
          refine q_asg (v := .ref fa) (ev_ixT (ev_var rfl) ev_c (ex_t (eB16.trans e1622) hm0) rfl) fun H23 e23 => ?_
          try dsimp only [List.set]
          have e1623 := e1622.trans e23
          have hk20 : (keptD fs rs cs (List.replicate 20 rg).flatten fs).isSome = true := by rw [← kpN_flat]; exact hkeep 20
          refine q_forTs8 (xs := ((List.replicate 20 rg).flatten).map dvR) (fun Q' q' => m_lead8 rfl rfl (ex_t e1623 e016) (ex_t e1623 ra16) hrne (by omega) q')
            (fun a20 i σ' H' => ∃ lb l z15, σ' = [some (.ref s), some (.ref r), some (.ref ma), some (.int (fs.length : Nat)), some (.ref cl), some (.ref sa), some (.ref fd), some (.ref ba), some (.ref tt0), some .non, none, none, none, none, some (.ref lb), z15, some (.ref e0), some (.ref ra2), some (.ref qa), none, none, none, none, none, none, none, none] ∧ Ex H16 H' ∧ SqT K H' a20 (((List.replicate 20 rg).flatten).map dvR) ∧ SqT K H' lb (nV l) ∧ keptD fs rs cs (((List.replicate 20 rg).flatten).take i) fs = some l ∧ l.length = rs.length)
            (fun a20 H24 e24 h24 => ⟨fa, fs, _, rfl, e1623.trans e24, h24, ex_t (eB16.trans (e1623.trans e24)) hfa, rfl, hll⟩) (fun a20 i σ' H' _ ⟨_, _, _, _, _, h, _⟩ => h) ?_ ?_
          · rintro a20 i v σ' H24 hv ⟨lb, l, z15, rfl, e24, h24, hlb, hkl, hln⟩
            rw [List.getElem?_map] at hv
            obtain ⟨d, hd, rfl⟩ := Option.map_eq_some_iff.mp hv
            have hdm := rep_mem (List.mem_of_getElem? hd)
            have hsn := kept_snoc (d := d) hkl
            rw [show ((List.replicate 20 rg).flatten).take i ++ [d] = ((List.replicate 20 rg).flatten).take (i + 1) by rw [List.take_add_one, hd]; rfl] at hsn
            have his := kept_take (i + 1) hk20
            try dsimp only [List.set]
            refine q_asgU9 (m_beh8 (d := d) rfl rfl rfl (mB.up (eB16.trans e24)).t hmo hlb hln (fun c h => hmem c (h ▸ hdm)) fun b2 H25 e25 hb => ?_)
            try dsimp only [List.set]
            have hln2 : (livD fs rs l d).length = rs.length := by rw [livD_len]; exact hln
            have hlo : lostL cs (livD fs rs l d) = false := by
              by_cases z : lostL cs (livD fs rs l d) = true
              · rw [if_pos z] at hsn
                rw [hsn] at his; cases his
              · simpa using z
            refine s_when8 ((et_test (ev_lost8 rfl (ex_t (e24.trans e25) cl16) (st_of hb) (by rw [hln2]; exact hltr) (by omega))) H25 (Ex.refl _) _ fun H26 e26 => ?_)
            rw [hlo]
            refine iteF9 ?_
            rw [hlo] at hsn
            exact ⟨b2, livD fs rs l d, _, rfl, e24.trans (e25.trans e26), ex_t (e25.trans e26) h24, st_of (e26 _ _ hb), hsn, hln2⟩
          · rintro a20 σ' H24 ⟨lb, l, z15, rfl, e24, _⟩
            try dsimp only [List.set]
            refine q_asgGR (m_callR8 ?_)
            refine (ea_cons (ev_var rfl) (ea_cons (ev_var rfl) ea_nil) : EvA _ _ H24 [.ref ma, .ref cl]) H24 (Ex.refl _) _ fun H25 e25 => ?_
            refine ⟨ma, cl, fs, rs, cs, rfl, (mB.up (eB16.trans (e24.trans e25))).t, hmo, ex_t (e24.trans e25) cl16, hne, hasc, hltr, by omega, hf8, fun t H26 e26 ht => ?_⟩
            refine ⟨t, _, rfl, st_of ht, rfl, _, _, rfl, _, _, rfl, rfl, ?_⟩
            try dsimp only [List.set]
            have e1626 := e24.trans (e25.trans e26)
            clear e25 e26 ht
            generalize loadD fs cs = ld at hld hlow hshare ⊢
            have hltf : ∀ c ∈ cs, c < fs.length ∧ 0 < fs.getD c 0 ∧ fs.getD c 0 ≤ 8 := fun c hc => by
              have hm : fs.getD c 0 ∈ fs := by rw [List.getD_eq_getElem?_getD, List.getElem?_eq_getElem (hlt c hc)]; exact List.getElem_mem _
              exact ⟨hlt c hc, (hf8 _ hm).1, (hf8 _ hm).2⟩
            have hds := ldSum_le fs cs
            have hds2 : cs.length * 840 ≤ 2 * 840 := Nat.mul_le_mul_right 840 (by omega)
            refine q_asg (ev_due8 rfl (ex_t (eB16.trans e1626) hm0) (ex_t (eB16.trans e1626) hfa) (ex_t e1626 cl16) hltf (by omega)) fun H27 e27 => ?_
            try dsimp only [List.set]
            refine q_when (b := false && true) (et_and (et_is (et_ne (ev_iC (g := fun i j => .int (i * j)) (i := (ld.1 : Nat)) (j := 840) (ev_var rfl) ev_c (.inr ⟨by decide, by decide⟩)) (ev_iC (g := fun i j => .int (i * j)) (i := (ldSum fs cs : Nat)) (j := (ld.2 : Nat)) (ev_var rfl) (ev_var rfl) (.inl ⟨by omega, by omega⟩)) rfl) (by
              have : ((ld.1 : Nat) : Int) * 840 = ((ldSum fs cs : Nat) : Int) * ((ld.2 : Nat) : Int) := by exact_mod_cast hld
              rw [this, decide_eq_true rfl]; rfl)) fun z => nomatch z) (fun z => nomatch z) fun _ H28 e28 => ?_
            have e1628 := e1626.trans (e27.trans e28)
            refine q_cut8 (R := fun σ' H' => σ' = [some (.ref s), some (.ref r), some (.ref ma), some (.int (fs.length : Nat)), some (.ref cl), some (.ref sa), some (.ref fd), some (.ref ba), some (.ref tt0), some .non, none, none, none, none, some (.ref lb), z15, some (.ref e0), some (.ref ra2), some (.ref qa), some (.int (ld.1 : Nat)), some (.int (ld.2 : Nat)), some (.int (ldSum fs cs : Nat)), none, none, none, none, none] ∧ Ex H16 H') ?_ (fun hk => ?_)
            · rintro σ' H30 ⟨rfl, e30⟩
              have R30 := R16.up e30
              obtain ⟨y30, hy30⟩ := R30.lst
              have mC := (mB.up (eB16.trans e30)).kt8 (kt_rem8 hy30)
              have lC := (lB.up (eB16.trans e30)).kt (kt_rem8 hy30)
              have hm0C := (kt_rem8 hy30).sq (ex_t (eB16.trans e30) hm0)
              have hfaC := (kt_rem8 hy30).sq (ex_t (eB16.trans e30) hfa)
              have clC := (kt_rem8 hy30).sq (ex_t e30 cl16)
              have eC : Ex (rem H30 r) H30 := rem_ex
              have hCr : rem H30 r r = none := rem_eq
              clear e30 R16 LP16 cl16 qa16 ba16 ra16 e016 t016 eB16 e1623 e1628 e1626 e24 e28 e27 e23 e1622 e22 e1621 e21 e20 e1619 e19 e18 e17 mB lB hm0 hfa hra hshare hld hlow hkeep hwait hmm hk20 hev hxs hy30
              generalize rem H30 r = C at mC lC hm0C hfaC clC eC hCr
              refine q_cut8 (R := fun σ' H' => ∃ (oa : Addr) (od : List (Option Nat)) (z12 : Option V), σ' = [some (.ref s), some (.ref r), some (.ref ma), some (.int (fs.length : Nat)), some (.ref cl), some (.ref sa), some (.ref fd), some (.ref ba), some (.ref tt0), some .non, none, none, z12, none, some (.ref lb), z15, some (.ref e0), some (.ref ra2), some (.ref qa), some (.int (ld.1 : Nat)), some (.int (ld.2 : Nat)), some (.int (ldSum fs cs : Nat)), some (.ref oa), none, none, none, none] ∧ SqT K H' oa (od.map dvR) ∧ od.length ≤ 4 ∧ (∀ c, some c ∈ od → c < rs.length) ∧ RowAt K H' r s ns ∧ Ex C H') ?_ (fun hk => ?_)
              · rintro σ' H31 ⟨oa, od, z12, rfl, hod, hol, hom, R31, e31⟩
                try dsimp only [List.set]
                refine q_asgGR (m_tupR9 (m_consR8 ((ev_neTupO (ev_var rfl) hod) H31 (Ex.refl _) _ fun H32 e32 => m_consR8 ((ev_ixT (ev_var rfl) ev_c (ex_t (e31.trans e32) hm0C) rfl) H32 (Ex.refl _) _ fun H33 e33 => m_nil8 ⟨by show 2 ≤ sizeLine; rw [sizeLine_eq]; decide, fun p2 hp2 => ?_⟩))))
                have e34 := Ex.new (o := .tup [.bl (decide (od ≠ [])), .ref fa]) hp2
                refine ⟨p2, _, rfl, st_of upd_same, rfl, _, _, rfl, _, _, rfl, rfl, ?_⟩
                try dsimp only [List.set]
                have e3134 := e32.trans (e33.trans e34)
                generalize upd H33 p2 (.tup [.bl (decide (od ≠ [])), .ref fa]) = H34 at e3134 ⊢
                have eC34 := e31.trans e3134
                have R34 := R31.up e3134
                have hod34 := ex_t e3134 hod
                refine q_forTs8 (xs := ((List.replicate 60 od).flatten).map dvR) (fun Q' q' => m_odd8 rfl hod34 (by omega) q')
                  (fun a60 i σ' H' => ∃ lb l z15 b', σ' = [some (.ref s), some (.ref r), some (.ref ma), some (.int (fs.length : Nat)), some (.ref cl), some (.ref sa), some (.ref fd), some (.ref ba), some (.ref tt0), some .non, none, none, z12, none, some (.ref lb), z15, some (.ref e0), some (.ref ra2), some (.ref qa), some (.int (ld.1 : Nat)), some (.int (ld.2 : Nat)), some (.int (ldSum fs cs : Nat)), some (.ref oa), some (.bl b'), none, none, none] ∧ Ex H34 H' ∧ SqT K H' a60 (((List.replicate 60 od).flatten).map dvR) ∧ SqT K H' lb (nV l) ∧ l = (((List.replicate 60 od).flatten).take i).foldl (livD fs rs) fs ∧ l.length = rs.length ∧ b' = (decide (od ≠ []) && (keptD fs rs cs (((List.replicate 60 od).flatten).take i) fs).isSome))
                  (fun a60 H35 e35 h35 => ⟨fa, fs, _, _, rfl, e35, h35, ex_t (eC34.trans e35) hfaC, rfl, hll, by show _ = (_ && true); rw [Bool.and_true]⟩) (fun a60 i σ' H' _ ⟨_, _, _, _, _, _, h, _⟩ => h) ?_ ?_
                · rintro a60 i v σ' H35 hv ⟨lb, l, z15, b', rfl, e35, h35, hlb, hl, hln, hb'⟩
                  rw [List.getElem?_map] at hv
                  obtain ⟨d, hd, rfl⟩ := Option.map_eq_some_iff.mp hv
                  have hdm := rep_mem (List.mem_of_getElem? hd)
                  have hone : od ≠ [] := fun z => by rw [z] at hdm; cases hdm
                  have htk : ((List.replicate 60 od).flatten).take (i + 1) = ((List.replicate 60 od).flatten).take i ++ [d] := by rw [List.take_add_one, hd]; rfl
                  try dsimp only [List.set]
                  refine q_asgU9 (m_beh8 (d := d) rfl rfl rfl (mC.up (eC34.trans e35)).t hmo hlb hln (fun c h => hom c (h ▸ hdm)) fun b2 H36 e36 hb => ?_)
                  try dsimp only [List.set]
                  have hln2 : (livD fs rs l d).length = rs.length := by rw [livD_len]; exact hln
                  refine s_asg (v := .bl (b' && !(lostL cs (livD fs rs l d)))) (ev_andV (ev_var rfl) fun _ => ev_alive8 rfl (ex_t (eC34.trans (e35.trans e36)) clC) (st_of hb) (by rw [hln2]; exact hltr) (by omega)) fun H37 e37 => ?_
                  refine ⟨b2, livD fs rs l d, _, _, rfl, e35.trans (e36.trans e37), ex_t (e36.trans e37) h35, st_of (e37 _ _ hb), by rw [htk, List.foldl_append, ← hl]; rfl, hln2, ?_⟩
                  rw [hb', htk, decide_eq_true hone, Bool.true_and, Bool.true_and]
                  cases hq : keptD fs rs cs (((List.replicate 60 od).flatten).take i) fs with
                  | none => rw [keptD_app, hq]; rfl
                  | some l0 =>
                    obtain rfl : l0 = l := by rw [hl]; exact (keptD_fold hq).1
                    rw [kept_snoc hq]
                    cases lostL cs (livD fs rs l0 d) <;> rfl
                · rintro a60 σ' H35 ⟨lb, l, z15, b', rfl, e35, h35, hlb, hl, hln, hb'⟩
                  rw [List.length_map, List.take_length] at hb'
                  try dsimp only [List.set]
                  have LPC : ∀ {Hx : Hp}, Ex C Hx → LotP K Hx ma cl fs rs cs := fun {Hx} e => ⟨(mC.up e).t, hmo, ex_t e clC, hne, hasc, hltr, hf8⟩
                  have hbb : b' = true ↔ od ≠ [] ∧ ∀ n, (kpN fs rs cs [] od n).isSome = true := by
                    rw [hb', Bool.and_eq_true, decide_eq_true_iff]
                    refine and_congr Iff.rfl ⟨fun z => ?_, fun z => by rw [← kpN_flat]; exact z 60⟩
                    rw [← kpN_flat] at z
                    exact kpN_all hf5 (Nat.le_trans (show (5 + 1) ^ fs.length ≤ 36 by rw [hll]; exact hpw) (by decide)) z
                  have eC35 := eC34.trans e35
                  have R35 := R34.up e35
                  have hod35 := ex_t e35 hod34
                  clear hb' e3134 e34 e33 e32
                  refine q_when8 (m_or8 (m_notB8 (m_callR8 (m_consR8 (m_callR8 ?_)))))
                  refine m_consR8 ((ev_var rfl) H35 (Ex.refl _) _ fun H36 e36 => m_consR8 ((ev_var rfl) H36 (Ex.refl _) _ fun H37 e37 => m_consR8 (m_tupR9 (m_nil8 ⟨Nat.zero_le _, fun p3 hp3 => m_consR8 ?_⟩))))
                  have e38 := Ex.new (o := .tup []) hp3
                  have hp38 : upd H37 p3 (.tup []) p3 = some (.tup []) := upd_same
                  generalize upd H37 p3 (.tup []) = H38 at e38 hp38 ⊢
                  refine (ev_var rfl) H38 (Ex.refl _) _ fun H39 e39 => m_nil8 ?_
                  have e3539 := e36.trans (e37.trans (e38.trans e39))
                  refine ⟨ma, cl, .ref p3, .ref oa, fs, rs, cs, rfl, LPC (eC35.trans e3539), lC.up (eC35.trans e3539), .inr ⟨[], od, ⟨p3, rfl, st_of (e39 _ _ hp38), by decide, fun _ z => nomatch z⟩, ⟨oa, rfl, ex_t e3539 hod35, by omega, hom⟩, fun kb H40 e40 hkb => ?_⟩⟩
                  obtain rfl : kb = b' := by rw [Bool.eq_iff_iff, hkb, hbb]
                  refine m_consR8 ((ev_var rfl) H40 (Ex.refl _) _ fun H41 e41 => m_nil8 ?_)
                  refine ⟨kb, rfl, fun H42 e42 => ⟨true, rfl, iteF9 (m_test8 (m_op8 (m_callR8 ?_)))⟩⟩
                  have e3542 := e3539.trans (e40.trans (e41.trans e42))
                  refine (ea_cons (ev_var rfl) (ea_cons (ev_var rfl) (ea_cons ev_c (ea_cons (ev_var rfl) ea_nil))) : EvA _ _ H42 [.ref ma, .ref cl, .non, .ref oa]) H42 (Ex.refl _) _ fun H43 e43 => ?_
                  have e3543 := e3542.trans e43
                  refine ⟨ma, cl, .non, .ref oa, fs, rs, cs, rfl, LPC (eC35.trans e3543), lC.up (eC35.trans e3543), .inl ⟨rfl, fun H44 e44 => ?_⟩⟩
                  refine ev_c H44 (Ex.refl _) _ fun H45 e45 => ⟨false, false, rfl, rfl, _, rfl, ?_⟩
                  rw [show (!decide (false = false)) = false from rfl]
                  refine iteF9 ?_
                  have e3545 := e3543.trans (e44.trans e45)
                  have eC45 := eC35.trans e3545
                  have R45 := R35.up e3545
                  clear e3545 e3543 e3542 e3539 R35 R34 hod35 hod34
                  refine q_try8 ?_
                  refine m_consR8 ((ev_var rfl) H45 (Ex.refl _) _ fun H46 e46 => m_consR8 (m_callR8 (m_consR8 ((ev_var rfl) H46 (Ex.refl _) _ fun H47 e47 => m_consR8 (m_lstR (m_consR8 (ev_c H47 (Ex.refl _) _ fun H48 e48 => ?_)))))))
                  refine m_consR8 ((eu_tup (vs := []) ea_nil (by decide)) H48 (Ex.refl _) _ fun t1 H49 ht1 e49 h49 => m_consR8 ((eu_tup (vs := [.int ((fs.length : Nat) : Int)]) (ea_cons (ev_var rfl) ea_nil) (show 1 ≤ 100000 by decide)) H49 (Ex.refl _) _ fun t2 H50 ht2 e50 h50 => m_consR8 ((eu_tup (vs := [.int 0, .int 0]) (ea_cons ev_c (ea_cons ev_c ea_nil)) (show 2 ≤ 100000 by decide)) H50 (Ex.refl _) _ fun t3 H51 ht3 e51 h51 => m_consR8 ((el_lst (vs := [.int 0]) (ea_cons ev_c ea_nil) (show 1 ≤ 100000 by decide)) H51 (Ex.refl _) _ fun t4 H52 ht4 e52 h52 => m_consR8 ((eu_tup (vs := [.bl true]) (ea_cons ev_c ea_nil) (show 1 ≤ 100000 by decide)) H52 (Ex.refl _) _ fun t5 H53 ht5 e53 h53 => m_nil8 ⟨by show 6 ≤ sizeLine; rw [sizeLine_eq]; decide, fun t6 ht6 => m_nil8 ?_⟩)))))
                  have e54 := Ex.new (o := .lst [.non, .ref t1, .ref t2, .ref t3, .ref t4, .ref t5]) ht6
                  have h54 : upd H53 t6 (.lst [.non, .ref t1, .ref t2, .ref t3, .ref t4, .ref t5]) t6 = some (.lst [.non, .ref t1, .ref t2, .ref t3, .ref t4, .ref t5]) := upd_same
                  generalize upd H53 t6 (.lst [.non, .ref t1, .ref t2, .ref t3, .ref t4, .ref t5]) = H54 at e54 h54 ⊢
                  have e4551 := (e46.trans (e47.trans e48)).trans (e49.trans (e50.trans e51))
                  have e4553 := e4551.trans (e52.trans e53)
                  have e4554 := e4553.trans e54
                  have R54 := R45.up e4554
                  have t6r : t6 ≠ r := by
                    obtain ⟨ys, hys⟩ := (R45.up e4553).lst
                    exact (ne_of_none hys ht6).symm
                  have t4r : t4 ≠ r := by
                    obtain ⟨ys, hys⟩ := (R45.up e4551).lst
                    exact (ne_of_none hys ht4).symm
                  refine ⟨r, s, t6, ns, _, rfl, R54, sq_of h54, t6r, by show 0 < 6; decide, by show 6 < 1000000; decide, fun x H55 hx R55 e55 => ?_⟩
                  obtain ⟨y54, hy54⟩ := R54.lst
                  have kt := kt_rem8 hy54
                  have hbad : BadLot K (rem H54 r) fs.length x := by
                    rcases List.mem_cons.mp hx with rfl | hx
                    · exact .non
                    rcases List.mem_cons.mp hx with rfl | hx
                    · exact .void (kt.sq (st_of ((e50.trans (e51.trans (e52.trans (e53.trans e54)))) _ _ h49)))
                    rcases List.mem_cons.mp hx with rfl | hx
                    · exact .far (kt.sq (st_of ((e51.trans (e52.trans (e53.trans e54))) _ _ h50))) (Nat.le_refl _)
                    rcases List.mem_cons.mp hx with rfl | hx
                    · exact .two (kt.sq (st_of ((e52.trans (e53.trans e54)) _ _ h51))) hl1
                    rcases List.mem_cons.mp hx with rfl | hx
                    · exact .lst (sq_of (by rw [rem_ne t4r]; exact (e53.trans e54) _ _ h52))
                    · rw [List.mem_singleton.mp hx]
                      exact .bl (kt.sq (st_of (e54 _ _ h53)))
                  have eC55 : Ex C H55 := Ex.past (eC45.trans e4554) hCr e55
                  refine m_nil8 ?_
                  refine ⟨ma, fs, rs, x, rfl, (mC.up eC55).t, hmo, hbad.up e55, fun H56 e56 => ⟨true, B_BadCell.te, fun _ a0 ha0 => ?_, fun z => nomatch z⟩⟩
                  exact s_ret ev_c fun H57 e57 => k _
              · refine q_asgU9 (m_cb1 ?_)
                refine m_lcRc8 (R := fun n H1 H2 => n < 5 ∧ RowAt K H1 r s ns ∧ RowAt K H2 r s ns ∧ Ex C H1 ∧ Ex (rem H1 r) H2) (ea_cons (ev_var rfl) (ea_cons ev_c ea_nil)) (fun H31 e31 Q' q' => ⟨r, s, ns, 5, rfl, R30.up e31, by decide, by decide, fun n H32 hn R32 e32 => q' n H32 ⟨hn, R30.up e31, R32, eC.trans e31, e32⟩⟩) fun n H31 H32 e31 ⟨hn, R31, R32, eC31, e32⟩ => ⟨by omega, fun D hD => ⟨fun i H' => ∃ od : List (Option Nat), Ex (rem H32 r) H' ∧ RowC H' r s ∧ H' D = some (.lst (od.map dvR)) ∧ od.length = i ∧ ∀ c, some c ∈ od → c < rs.length, ⟨[], rem_ex.trans (Ex.new hD), (R32.up (Ex.new hD)).c, upd_same, rfl, fun _ z => nomatch z⟩, ?_, ?_⟩⟩
                · rintro i H5 hi ⟨od, e5, c5, h5, hol, hom⟩
                  have R5 := R32.to e5 c5
                  have hDr : D ≠ r := by
                    obtain ⟨ys, hys⟩ := R32.lst
                    exact (ne_of_none hys hD).symm
                  have hCD : rem H32 r D = none := by rw [rem_ne hDr]; exact hD
                  refine ⟨rfl, ?_⟩
                  refine yes_lc ?_
                  rw [if_pos rfl]
                  refine m_callR8 (m_consR8 ((ev_var rfl) H5 (Ex.refl _) _ fun H6 e6 => m_consR8 ((el_lst (vs := [.non, .int ((0 : Nat) : Int), .int ((fs.length - 1 : Nat) : Int)]) (ea_cons ev_c (ea_cons ev_c (ea_cons (ev_is (ev_i0 (g := fun i j => .int (i - j)) (i := ((fs.length : Nat) : Int)) (j := 1) (ev_var rfl) ev_c) (congrArg V.int (by omega))) ea_nil))) (by show 3 ≤ 100000; decide)) H6 (Ex.refl _) _ fun tl2 H7 htl2 e7 h7 => m_nil8 ?_)))
                  have R7 := R5.up (e6.trans e7)
                  have htr : tl2 ≠ r := by
                    obtain ⟨ys, hys⟩ := (R5.up e6).lst
                    exact (ne_of_none hys htl2).symm
                  refine ⟨r, s, tl2, ns, _, rfl, R7, sq_of h7, htr, by show 0 < 3; decide, by show 3 < 1000000; decide, fun x H8 hx R8 e8 => ?_⟩
                  have hxd : ∃ d, x = dvR d ∧ ∀ c, d = some c → c < rs.length := by
                    rcases List.mem_cons.mp hx with rfl | hx
                    · exact ⟨none, rfl, fun _ z => nomatch z⟩
                    · rcases List.mem_cons.mp hx with rfl | hx
                      · exact ⟨some 0, rfl, fun c z => by cases z; omega⟩
                      · rw [List.mem_singleton.mp hx]
                        exact ⟨some (fs.length - 1), rfl, fun c z => by cases z; omega⟩
                  obtain ⟨d, rfl, hd⟩ := hxd
                  have h8 : H8 D = some (.lst (od.map dvR)) := e8 _ _ (by rw [rem_ne hDr]; exact (e6.trans e7) _ _ h5)
                  have e58 : Ex (rem H32 r) H8 := Ex.past (e5.trans (e6.trans e7)) rem_eq e8
                  refine ⟨od.map dvR, h8, sz_lt (by rw [List.length_map]; omega), od ++ [d], Ex.mut e58 hCD, ?_, ?_, by rw [List.length_append, hol]; rfl, fun c hc => ?_⟩
                  · obtain ⟨a', b', c', h1, h2⟩ := R8.c
                    exact ⟨a', b', c', by rw [upd_ne hDr.symm]; exact h1, h2⟩
                  · rw [upd_same, List.map_append]; rfl
                  · rcases List.mem_append.mp hc with hc | hc
                    · exact hom c hc
                    · exact hd c (List.mem_singleton.mp hc).symm
                · rintro H5 ⟨od, e5, c5, h5, hol, hom⟩
                  have R5 := R32.to e5 c5
                  refine ⟨D, od.map dvR, rfl, .inl ⟨sq_of h5, fun a3 ha3 => ?_⟩⟩
                  have ea := Ex.new (o := .tup (od.map dvR)) ha3
                  have eC32 : Ex C (rem H32 r) := ex_remB (Ex.past eC31 hCr e32) hCr
                  exact hk _ _ ⟨a3, od, _, rfl, st_of upd_same, by omega, hom, R5.up ea, eC32.trans (e5.trans ea)⟩
            · refine q_when8 ?_
              refine m_test8 (m_op8 ?_)
              refine (ev_ixT (ev_var rfl) ev_c (ex_t (eB16.trans e1628) hm0) rfl) H28 (Ex.refl _) _ fun H29 e29 => ?_
              have hra29 := ex_t (eB16.trans (e1628.trans e29)) hra
              rw [nV_ints] at hra29
              refine ⟨ra, rs.map fun (x : Nat) => (x : Int), rfl, hra29, by rw [List.length_map]; omega, fun c hc => ?_⟩
              refine (ev_var rfl) H29 (Ex.refl _) _ fun H30 e30 => ⟨rfl, _, rfl, ?_⟩
              have e1630 := e1628.trans (e29.trans e30)
              by_cases hcn : V.int ((c : Nat) : Int) = V.int ((fs.length : Nat) : Int)
              · rw [decide_eq_true hcn]
                refine iteT9 ?_
                have hcn : c = fs.length := by have := V.int.inj hcn; omega
                have hnd := hc (by rw [List.length_map, hcn]; exact hll)
                have hsh := hshare fun i j hi hj h => by
                  have hp := List.pairwise_map.mp hnd
                  rw [List.getD_eq_getElem?_getD, List.getD_eq_getElem?_getD, List.getElem?_eq_getElem hi, List.getElem?_eq_getElem hj] at h
                  have h : rs[i] = rs[j] := h
                  rcases Nat.lt_trichotomy i j with z | z | z
                  · exact absurd (congrArg (fun (x : Nat) => (x : Int)) h) (List.pairwise_iff_getElem.mp hp i j hi hj z)
                  · exact z
                  · exact absurd (congrArg (fun (x : Nat) => (x : Int)) h.symm) (List.pairwise_iff_getElem.mp hp j i hj hi z)
                refine (et_is (et_test (ev_i0 (g := fun i j => V.bl (decide (j < i))) (i := ((a : Nat) : Int) * ((ld.2 : Nat) : Int) + ((ld.1 : Nat) : Int) * ((b : Nat) : Int)) (j := ((b : Nat) : Int) * ((ld.2 : Nat) : Int)) (ev_i0 (g := fun i j => .int (i + j)) (ev_iC (g := fun i j => .int (i * j)) (i := (a : Nat)) (j := (ld.2 : Nat)) (ev_ixT (ev_var rfl) ev_c (ex_t e1630 qa16) rfl) (ev_var rfl) (.inl ⟨by omega, by omega⟩)) (ev_iC (g := fun i j => .int (i * j)) (i := (ld.1 : Nat)) (j := (b : Nat)) (ev_var rfl) (ev_ixT (ev_var rfl) ev_c (ex_t e1630 qa16) rfl) (.inr ⟨by omega, by omega⟩))) (ev_iC (g := fun i j => .int (i * j)) (i := (b : Nat)) (j := (ld.2 : Nat)) (ev_ixT (ev_var rfl) ev_c (ex_t e1630 qa16) rfl) (ev_var rfl) (.inl ⟨by omega, by omega⟩)))) (b := false) (decide_eq_false (by
                  have : ((a : Nat) : Int) * ((ld.2 : Nat) : Int) + ((ld.1 : Nat) : Int) * ((b : Nat) : Int) ≤ ((b : Nat) : Int) * ((ld.2 : Nat) : Int) := by exact_mod_cast hsh
                  omega))) H30 (Ex.refl _) _ fun H31 e31 => iteF9 ?_
                exact hk _ _ ⟨rfl, e1630.trans e31⟩
              · rw [decide_eq_false hcn]
                refine iteF9 (iteF9 ?_)
                exact hk _ _ ⟨rfl, e1630⟩
      · refine q_asgU9 ?_
        have hc10 := asc_len hasc0 hlt0
        refine m_if8 (b := !(cs0.isEmpty)) (et_test (ev_neTup (ev_var rfl) hcl0)) (fun hb H6 e6 => ?_) (fun hb H6 e6 => ?_)
        · refine (ev_var rfl) H6 (Ex.refl _) _ fun H7 e7 => ?_
          have e57 := e6.trans e7
          exact hk _ _ ⟨cl, cs0, rfl, ex_t e57 hcl0, hasc0, hlt0, fun z => (by rw [z] at hb; cases hb), R5.up e57, eB5.trans e57⟩
        · refine (eu_tup (vs := [.int ((fs.length - 1 : Nat) : Int)]) (ea_cons (ev_is (ev_i0 (g := fun i j => .int (i - j)) (i := ((fs.length : Nat) : Int)) (j := 1) (ev_var rfl) ev_c) (congrArg V.int (by omega))) ea_nil) (by show 1 ≤ 100000; decide)) H6 (Ex.refl _) _ fun a H7 ha e7 h7 => ?_
          have e57 := e6.trans e7
          exact hk _ _ ⟨a, [fs.length - 1], rfl, st_of h7, List.pairwise_singleton _ _, fun c hc => (by rw [List.mem_singleton.mp hc]; omega), List.cons_ne_nil _ _, R5.up e57, eB5.trans e57⟩
    · refine q_asgU9 (m_cb1 ?_)
      refine ⟨_, rfl, ((fs.length : Nat) : Int), rfl, by omega, by omega, fun D hD => lc_range (lo := 0) (n := fs.length) (fun i H' => ∃ xs : List Nat, Ex (rem H4 r) H' ∧ RowC H' r s ∧ H' D = some (.lst (nV xs)) ∧ xs.Pairwise (· < ·) ∧ ∀ c ∈ xs, c < i) ?_ ?_ ?_⟩
      · have e5 := Ex.new (o := .lst []) hD
        exact ⟨[], rem_ex.trans e5, (R4.up e5).c, upd_same, .nil, fun _ z => nomatch z⟩
      · rintro i H5 hi ⟨xs, e5, c5, h5, hasc, hlt⟩
        have R5 := R4.to e5 c5
        have hDr : D ≠ r := by
          obtain ⟨ys, hys⟩ := R4.lst
          exact (ne_of_none hys hD).symm
        have hBD : rem H4 r D = none := by rw [rem_ne hDr]; exact hD
        have hxl := asc_len hasc hlt
        refine ⟨rfl, ?_⟩
        refine m_test8 (m_op8 ?_)
        refine m_call (ea_cons (ev_var rfl) (ea_cons ev_c ea_nil)) fun H6 e6 => ?_
        refine ⟨r, s, ns, 3, rfl, R5.up e6, by decide, by decide, fun x H7 hx R7 e7 => ?_⟩
        have h7 : H7 D = some (.lst (nV xs)) := e7 _ _ (by rw [rem_ne hDr]; exact e6 _ _ h5)
        have e57 : Ex (rem H4 r) H7 := Ex.past (e5.trans e6) rem_eq e7
        refine ⟨(x : Int), 0, rfl, rfl, _, rfl, ?_⟩
        by_cases h0 : (0 : Int) < (x : Int)
        · rw [decide_eq_true h0]
          refine iteT9 ?_
          refine (ev_var rfl) H7 (Ex.refl _) _ fun H8 e8 => ?_
          have h8 := e8 _ _ h7
          refine ⟨nV xs, h8, sz_lt (by rw [nV_len]; omega), xs ++ [i], Ex.mut (e57.trans e8) hBD, ?_, ?_, ?_, ?_⟩
          · obtain ⟨a', b', c', h1, h2⟩ := (R7.up e8).c
            exact ⟨a', b', c', by rw [upd_ne hDr.symm]; exact h1, h2⟩
          · rw [upd_same, nV_app]
            show some (HO.lst (nV xs ++ [V.int ((0 : Int) + (i : Int))])) = _
            rw [Int.zero_add]
            rfl
          · refine List.pairwise_append.mpr ⟨hasc, List.pairwise_singleton _ _, fun a ha b hb => ?_⟩
            rw [List.mem_singleton.mp hb]; exact hlt a ha
          · intro c hc
            rcases List.mem_append.mp hc with hc | hc
            · have := hlt c hc; omega
            · rw [List.mem_singleton.mp hc]; omega
        · rw [decide_eq_false h0]
          refine iteF9 ?_
          exact ⟨xs, e57, R7.c, h7, hasc, fun c hc => by have := hlt c hc; omega⟩
      · rintro H5 ⟨xs, e5, c5, h5, hasc, hlt⟩
        have R5 := R4.to e5 c5
        refine ⟨D, nV xs, rfl, .inl ⟨sq_of h5, fun a ha => ?_⟩⟩
        have ea := Ex.new (o := .tup (nV xs)) ha
        exact hk _ _ ⟨a, xs, rfl, st_of upd_same, hasc, hlt, R5.up ea, (ex_remB eB4 hBr).trans (e5.trans ea)⟩
end
end Fm
set_option maxHeartbeats 8000000
namespace Fm
open PySem PySem.W PySem.Calls PyProof.Rows PySem.HandSPX L2 Evl
theorem exm_own {K : PySem.W.Frag} {S : Addr} (h1 : PySem.W.subIn K (.ref S) (.type "BaseException") = some true) (h2 : PySem.W.isClsIn K S = true) (h3 : PySem.W.typeIn K (.ref S) = some (.type "type")) (h4 : PySem.W.subIn K (.ref S) (.ref S) = some true) : PySem.W.exmOne K (.ref S) (.ref S) = some true := by
  have e1 : (PySem.W.subIn K (.ref S) (.type "BaseException") == some true) = true := by rw [h1]; rfl
  have h5 : (PySem.W.clsIn K S).isSome = true := h2
  have e2 : ((PySem.W.clsIn K S).isSome && PySem.W.typeIn K (.ref S) == some (.type "type")) = true := by rw [h5, h3]; rfl
  unfold PySem.W.exmOne
  rw [if_pos e1]
  show (if ((PySem.W.clsIn K S).isSome && PySem.W.typeIn K (.ref S) == some (.type "type")) = true then PySem.W.subIn K (.ref S) (.ref S) else none) = some true
  rw [if_pos e2]
  exact h4
theorem all_mk {l : PySem.W.OpenLaw} {w : World} {K : PySem.W.Frag} {h : Heap} {mg : Str → Option Value} {fa : Addr} (X : K.In h) (G : h.Ns mainGlobals mg) (hfa : mg "law" = some (.ref fa))
    {X_Rings : Addr}
    {X_Rounds : Addr}
    {f0 : Addr} {od0 an0 : Option Addr} {sl0 : Array (Option Value)} {oc0 kV0 dc0 pm0 cd0 ct0 : Value}
    {f1 : Addr} {od1 an1 : Option Addr} {sl1 : Array (Option Value)} {oc1 kV1 dc1 pm1 cd1 ct1 : Value}
    {f2 : Addr} {od2 an2 : Option Addr} {sl2 : Array (Option Value)} {oc2 kV2 dc2 pm2 cd2 ct2 : Value}
    {f3 : Addr} {od3 an3 : Option Addr} {sl3 : Array (Option Value)} {oc3 kV3 dc3 pm3 cd3 ct3 : Value}
    {f4 : Addr} {od4 an4 : Option Addr} {sl4 : Array (Option Value)} {oc4 kV4 dc4 pm4 cd4 ct4 : Value}
    {f5 : Addr} {od5 an5 : Option Addr} {sl5 : Array (Option Value)} {oc5 kV5 dc5 pm5 cd5 ct5 : Value}
    {f6 : Addr} {od6 an6 : Option Addr} {sl6 : Array (Option Value)} {oc6 kV6 dc6 pm6 cd6 ct6 : Value}
    {f7 : Addr} {od7 an7 : Option Addr} {sl7 : Array (Option Value)} {oc7 kV7 dc7 pm7 cd7 ct7 : Value}
    {f8 : Addr} {od8 an8 : Option Addr} {sl8 : Array (Option Value)} {oc8 kV8 dc8 pm8 cd8 ct8 : Value}
    {f9 : Addr} {od9 an9 : Option Addr} {sl9 : Array (Option Value)} {oc9 kV9 dc9 pm9 cd9 ct9 : Value}
    {f10 : Addr} {od10 an10 : Option Addr} {sl10 : Array (Option Value)} {oc10 kV10 dc10 pm10 cd10 ct10 : Value}
    {f11 : Addr} {od11 an11 : Option Addr} {sl11 : Array (Option Value)} {oc11 kV11 dc11 pm11 cd11 ct11 : Value}
    {f12 : Addr} {od12 an12 : Option Addr} {sl12 : Array (Option Value)} {oc12 kV12 dc12 pm12 cd12 ct12 : Value}
    {f13 : Addr} {od13 an13 : Option Addr} {sl13 : Array (Option Value)} {oc13 kV13 dc13 pm13 cd13 ct13 : Value}
    {f14 : Addr} {od14 an14 : Option Addr} {sl14 : Array (Option Value)} {oc14 kV14 dc14 pm14 cd14 ct14 : Value}
    {f15 : Addr} {od15 an15 : Option Addr} {sl15 : Array (Option Value)} {oc15 kV15 dc15 pm15 cd15 ct15 : Value}
    {f16 : Addr} {od16 an16 : Option Addr} {sl16 : Array (Option Value)} {oc16 kV16 dc16 pm16 cd16 ct16 : Value}
    {f17 : Addr} {od17 an17 : Option Addr} {sl17 : Array (Option Value)} {oc17 kV17 dc17 pm17 cd17 ct17 : Value}
    {f18 : Addr} {od18 an18 : Option Addr} {sl18 : Array (Option Value)} {oc18 kV18 dc18 pm18 cd18 ct18 : Value}
    {f19 : Addr} {od19 an19 : Option Addr} {sl19 : Array (Option Value)} {oc19 kV19 dc19 pm19 cd19 ct19 : Value}
    {f20 : Addr} {od20 an20 : Option Addr} {sl20 : Array (Option Value)} {oc20 kV20 dc20 pm20 cd20 ct20 : Value}
    {f21 : Addr} {od21 an21 : Option Addr} {sl21 : Array (Option Value)} {oc21 kV21 dc21 pm21 cd21 ct21 : Value}
    {f22 : Addr} {od22 an22 : Option Addr} {sl22 : Array (Option Value)} {oc22 kV22 dc22 pm22 cd22 ct22 : Value}
    {f23 : Addr} {od23 an23 : Option Addr} {sl23 : Array (Option Value)} {oc23 kV23 dc23 pm23 cd23 ct23 : Value}
    {f24 : Addr} {od24 an24 : Option Addr} {sl24 : Array (Option Value)} {oc24 kV24 dc24 pm24 cd24 ct24 : Value}
    {f25 : Addr} {od25 an25 : Option Addr} {sl25 : Array (Option Value)} {oc25 kV25 dc25 pm25 cd25 ct25 : Value}
    {f26 : Addr} {od26 an26 : Option Addr} {sl26 : Array (Option Value)} {oc26 kV26 dc26 pm26 cd26 ct26 : Value}
    {f27 : Addr} {od27 an27 : Option Addr} {sl27 : Array (Option Value)} {oc27 kV27 dc27 pm27 cd27 ct27 : Value}
    {f28 : Addr} {od28 an28 : Option Addr} {sl28 : Array (Option Value)} {oc28 kV28 dc28 pm28 cd28 ct28 : Value}
    {f29 : Addr} {od29 an29 : Option Addr} {sl29 : Array (Option Value)} {oc29 kV29 dc29 pm29 cd29 ct29 : Value}
    {f30 : Addr} {od30 an30 : Option Addr} {sl30 : Array (Option Value)} {oc30 kV30 dc30 pm30 cd30 ct30 : Value}
    {f31 : Addr} {od31 an31 : Option Addr} {sl31 : Array (Option Value)} {oc31 kV31 dc31 pm31 cd31 ct31 : Value}
    {f32 : Addr} {od32 an32 : Option Addr} {sl32 : Array (Option Value)} {oc32 kV32 dc32 pm32 cd32 ct32 : Value}
    {f33 : Addr} {od33 an33 : Option Addr} {sl33 : Array (Option Value)} {oc33 kV33 dc33 pm33 cd33 ct33 : Value}
    {f34 : Addr} {od34 an34 : Option Addr} {sl34 : Array (Option Value)} {oc34 kV34 dc34 pm34 cd34 ct34 : Value}
    {f35 : Addr} {od35 an35 : Option Addr} {sl35 : Array (Option Value)} {oc35 kV35 dc35 pm35 cd35 ct35 : Value}
    {f36 : Addr} {od36 an36 : Option Addr} {sl36 : Array (Option Value)} {oc36 kV36 dc36 pm36 cd36 ct36 : Value}
    {f37 : Addr} {od37 an37 : Option Addr} {sl37 : Array (Option Value)} {oc37 kV37 dc37 pm37 cd37 ct37 : Value}
    {f38 : Addr} {od38 an38 : Option Addr} {sl38 : Array (Option Value)} {oc38 kV38 dc38 pm38 cd38 ct38 : Value}
    {f39 : Addr} {od39 an39 : Option Addr} {sl39 : Array (Option Value)} {oc39 kV39 dc39 pm39 cd39 ct39 : Value}
    {f40 : Addr} {od40 an40 : Option Addr} {sl40 : Array (Option Value)} {oc40 kV40 dc40 pm40 cd40 ct40 : Value}
    {t_MOST_CELLS : Tok}
    {t_MOST_FADE : Tok}
    {t_MOST_DEEDS : Tok}
    {cb : Addr}
    (xg_Rings : PySem.W.nsIn K mainGlobals "Rings" = some (some (.ref X_Rings)))
    (xp_Rings : PySem.W.plainGet K X_Rings Str.empty = true)
    (xh_Rings : PySem.W.hasDictIn K X_Rings = true)
    (xo_Rings : PySem.W.plainOver K X_Rings = true)
    (xs_Rings : PySem.W.findIn K (.ref X_Rings) "__setattr__" = some (some (.builtin "object.__setattr__")))
    (xm_Rings : PySem.W.makesIn K X_Rings = true)
    (xk_Rings : PySem.W.keepIn K (.ref X_Rings) = true)
    (xn_Rings_links : PySem.W.findIn K (.ref X_Rings) "links" = some none)
    (xn_Rings_heights : PySem.W.findIn K (.ref X_Rings) "heights" = some none)
    (xn_Rings_raised : PySem.W.findIn K (.ref X_Rings) "raised" = some none)
    (xg_Rounds : PySem.W.nsIn K mainGlobals "Rounds" = some (some (.ref X_Rounds)))
    (xp_Rounds : PySem.W.plainGet K X_Rounds Str.empty = true)
    (xh_Rounds : PySem.W.hasDictIn K X_Rounds = true)
    (xo_Rounds : PySem.W.plainOver K X_Rounds = true)
    (xs_Rounds : PySem.W.findIn K (.ref X_Rounds) "__setattr__" = some (some (.builtin "object.__setattr__")))
    (xm_Rounds : PySem.W.makesIn K X_Rounds = true)
    (xk_Rounds : PySem.W.keepIn K (.ref X_Rounds) = true)
    (xn_Rounds_machine : PySem.W.findIn K (.ref X_Rounds) "machine" = some none)
    (xn_Rounds_cells : PySem.W.findIn K (.ref X_Rounds) "cells" = some none)
    (xn_Rounds_deeds : PySem.W.findIn K (.ref X_Rounds) "deeds" = some none)
    (xn_Rounds_start : PySem.W.findIn K (.ref X_Rounds) "start" = some none)
    (xn_Rounds_links : PySem.W.findIn K (.ref X_Rounds) "links" = some none)
    (xn_Rounds_lengths : PySem.W.findIn K (.ref X_Rounds) "lengths" = some none)
    (a0 : PySem.W.nsIn K mainGlobals "is_whole" = some (some (.ref f0)))
    (l0 : K.lookup f0 = some ⟨oc0, od0, .func (PySem.W.fnOf "is_whole" "is_whole" (defArgs s_is_whole) (defBody s_is_whole) (defScope s_is_whole) .none kV0 dc0 pm0 an0 cd0 ct0), sl0⟩)
    (c0 : PySem.W.codeIn K cd0 "is_whole" = true)
    (k0 : PySem.W.keepIn K (.ref f0) = true)
    (a1 : PySem.W.nsIn K mainGlobals "is_integer" = some (some (.ref f1)))
    (l1 : K.lookup f1 = some ⟨oc1, od1, .func (PySem.W.fnOf "is_integer" "is_integer" (defArgs s_is_integer) (defBody s_is_integer) (defScope s_is_integer) .none kV1 dc1 pm1 an1 cd1 ct1), sl1⟩)
    (c1 : PySem.W.codeIn K cd1 "is_integer" = true)
    (k1 : PySem.W.keepIn K (.ref f1) = true)
    (a2 : PySem.W.nsIn K mainGlobals "are_fades" = some (some (.ref f2)))
    (l2 : K.lookup f2 = some ⟨oc2, od2, .func (PySem.W.fnOf "are_fades" "are_fades" (defArgs s_are_fades) (defBody s_are_fades) (defScope s_are_fades) .none kV2 dc2 pm2 an2 cd2 ct2), sl2⟩)
    (c2 : PySem.W.codeIn K cd2 "are_fades" = true)
    (k2 : PySem.W.keepIn K (.ref f2) = true)
    (a3 : PySem.W.nsIn K mainGlobals "are_rows" = some (some (.ref f3)))
    (l3 : K.lookup f3 = some ⟨oc3, od3, .func (PySem.W.fnOf "are_rows" "are_rows" (defArgs s_are_rows) (defBody s_are_rows) (defScope s_are_rows) .none kV3 dc3 pm3 an3 cd3 ct3), sl3⟩)
    (c3 : PySem.W.codeIn K cd3 "are_rows" = true)
    (k3 : PySem.W.keepIn K (.ref f3) = true)
    (a4 : PySem.W.nsIn K mainGlobals "check_machine" = some (some (.ref f4)))
    (l4 : K.lookup f4 = some ⟨oc4, od4, .func (PySem.W.fnOf "check_machine" "check_machine" (defArgs s_check_machine) (defBody s_check_machine) (defScope s_check_machine) .none kV4 dc4 pm4 an4 cd4 ct4), sl4⟩)
    (c4 : PySem.W.codeIn K cd4 "check_machine" = true)
    (k4 : PySem.W.keepIn K (.ref f4) = true)
    (a5 : PySem.W.nsIn K mainGlobals "check_cell_of" = some (some (.ref f5)))
    (l5 : K.lookup f5 = some ⟨oc5, od5, .func (PySem.W.fnOf "check_cell_of" "check_cell_of" (defArgs s_check_cell_of) (defBody s_check_cell_of) (defScope s_check_cell_of) .none kV5 dc5 pm5 an5 cd5 ct5), sl5⟩)
    (c5 : PySem.W.codeIn K cd5 "check_cell_of" = true)
    (k5 : PySem.W.keepIn K (.ref f5) = true)
    (a6 : PySem.W.nsIn K mainGlobals "check_cell" = some (some (.ref f6)))
    (l6 : K.lookup f6 = some ⟨oc6, od6, .func (PySem.W.fnOf "check_cell" "check_cell" (defArgs s_check_cell) (defBody s_check_cell) (defScope s_check_cell) .none kV6 dc6 pm6 an6 cd6 ct6), sl6⟩)
    (c6 : PySem.W.codeIn K cd6 "check_cell" = true)
    (k6 : PySem.W.keepIn K (.ref f6) = true)
    (a7 : PySem.W.nsIn K mainGlobals "check_lot" = some (some (.ref f7)))
    (l7 : K.lookup f7 = some ⟨oc7, od7, .func (PySem.W.fnOf "check_lot" "check_lot" (defArgs s_check_lot) (defBody s_check_lot) (defScope s_check_lot) .none kV7 dc7 pm7 an7 cd7 ct7), sl7⟩)
    (c7 : PySem.W.codeIn K cd7 "check_lot" = true)
    (k7 : PySem.W.keepIn K (.ref f7) = true)
    (a8 : PySem.W.nsIn K mainGlobals "lives_waited" = some (some (.ref f8)))
    (l8 : K.lookup f8 = some ⟨oc8, od8, .func (PySem.W.fnOf "lives_waited" "lives_waited" (defArgs s_lives_waited) (defBody s_lives_waited) (defScope s_lives_waited) .none kV8 dc8 pm8 an8 cd8 ct8), sl8⟩)
    (c8 : PySem.W.codeIn K cd8 "lives_waited" = true)
    (k8 : PySem.W.keepIn K (.ref f8) = true)
    (a9 : PySem.W.nsIn K mainGlobals "lives_touched" = some (some (.ref f9)))
    (l9 : K.lookup f9 = some ⟨oc9, od9, .func (PySem.W.fnOf "lives_touched" "lives_touched" (defArgs s_lives_touched) (defBody s_lives_touched) (defScope s_lives_touched) .none kV9 dc9 pm9 an9 cd9 ct9), sl9⟩)
    (c9 : PySem.W.codeIn K cd9 "lives_touched" = true)
    (k9 : PySem.W.keepIn K (.ref f9) = true)
    (a10 : PySem.W.nsIn K mainGlobals "ratio_of" = some (some (.ref f10)))
    (l10 : K.lookup f10 = some ⟨oc10, od10, .func (PySem.W.fnOf "ratio_of" "ratio_of" (defArgs s_ratio_of) (defBody s_ratio_of) (defScope s_ratio_of) .none kV10 dc10 pm10 an10 cd10 ct10), sl10⟩)
    (c10 : PySem.W.codeIn K cd10 "ratio_of" = true)
    (k10 : PySem.W.keepIn K (.ref f10) = true)
    (a11 : PySem.W.findIn K (.ref X_Rings) "__init__" = some (some (.ref f11)))
    (i11 : PySem.W.isFn K (.ref f11) = true)
    (l11 : K.lookup f11 = some ⟨oc11, od11, .func (PySem.W.fnOf "__init__" "Rings.__init__" (defArgs s_Rings___init__) (defBody s_Rings___init__) (defScope s_Rings___init__) .none kV11 dc11 pm11 an11 cd11 ct11), sl11⟩)
    (c11 : PySem.W.codeIn K cd11 "Rings.__init__" = true)
    (k11 : PySem.W.keepIn K (.ref f11) = true)
    (a12 : PySem.W.findIn K (.ref X_Rings) "raise_once" = some (some (.ref f12)))
    (i12 : PySem.W.isFn K (.ref f12) = true)
    (l12 : K.lookup f12 = some ⟨oc12, od12, .func (PySem.W.fnOf "raise_once" "Rings.raise_once" (defArgs s_Rings_raise_once) (defBody s_Rings_raise_once) (defScope s_Rings_raise_once) .none kV12 dc12 pm12 an12 cd12 ct12), sl12⟩)
    (c12 : PySem.W.codeIn K cd12 "Rings.raise_once" = true)
    (k12 : PySem.W.keepIn K (.ref f12) = true)
    (a13 : PySem.W.findIn K (.ref X_Rings) "ring_from" = some (some (.ref f13)))
    (i13 : PySem.W.isFn K (.ref f13) = true)
    (l13 : K.lookup f13 = some ⟨oc13, od13, .func (PySem.W.fnOf "ring_from" "Rings.ring_from" (defArgs s_Rings_ring_from) (defBody s_Rings_ring_from) (defScope s_Rings_ring_from) .none kV13 dc13 pm13 an13 cd13 ct13), sl13⟩)
    (c13 : PySem.W.codeIn K cd13 "Rings.ring_from" = true)
    (k13 : PySem.W.keepIn K (.ref f13) = true)
    (a14 : PySem.W.findIn K (.ref X_Rings) "ring_raised" = some (some (.ref f14)))
    (i14 : PySem.W.isFn K (.ref f14) = true)
    (l14 : K.lookup f14 = some ⟨oc14, od14, .func (PySem.W.fnOf "ring_raised" "Rings.ring_raised" (defArgs s_Rings_ring_raised) (defBody s_Rings_ring_raised) (defScope s_Rings_ring_raised) .none kV14 dc14 pm14 an14 cd14 ct14), sl14⟩)
    (c14 : PySem.W.codeIn K cd14 "Rings.ring_raised" = true)
    (k14 : PySem.W.keepIn K (.ref f14) = true)
    (a15 : PySem.W.findIn K (.ref X_Rings) "lesser" = some (some (.ref f15)))
    (i15 : PySem.W.isFn K (.ref f15) = true)
    (l15 : K.lookup f15 = some ⟨oc15, od15, .func (PySem.W.fnOf "lesser" "Rings.lesser" (defArgs s_Rings_lesser) (defBody s_Rings_lesser) (defScope s_Rings_lesser) .none kV15 dc15 pm15 an15 cd15 ct15), sl15⟩)
    (c15 : PySem.W.codeIn K cd15 "Rings.lesser" = true)
    (k15 : PySem.W.keepIn K (.ref f15) = true)
    (a16 : PySem.W.findIn K (.ref X_Rings) "least" = some (some (.ref f16)))
    (i16 : PySem.W.isFn K (.ref f16) = true)
    (l16 : K.lookup f16 = some ⟨oc16, od16, .func (PySem.W.fnOf "least" "Rings.least" (defArgs s_Rings_least) (defBody s_Rings_least) (defScope s_Rings_least) .none kV16 dc16 pm16 an16 cd16 ct16), sl16⟩)
    (c16 : PySem.W.codeIn K cd16 "Rings.least" = true)
    (k16 : PySem.W.keepIn K (.ref f16) = true)
    (a17 : PySem.W.nsIn K mainGlobals "lives_done" = some (some (.ref f17)))
    (l17 : K.lookup f17 = some ⟨oc17, od17, .func (PySem.W.fnOf "lives_done" "lives_done" (defArgs s_lives_done) (defBody s_lives_done) (defScope s_lives_done) .none kV17 dc17 pm17 an17 cd17 ct17), sl17⟩)
    (c17 : PySem.W.codeIn K cd17 "lives_done" = true)
    (k17 : PySem.W.keepIn K (.ref f17) = true)
    (a18 : PySem.W.nsIn K mainGlobals "only_lot" = some (some (.ref f18)))
    (l18 : K.lookup f18 = some ⟨oc18, od18, .func (PySem.W.fnOf "only_lot" "only_lot" (defArgs s_only_lot) (defBody s_only_lot) (defScope s_only_lot) .none kV18 dc18 pm18 an18 cd18 ct18), sl18⟩)
    (c18 : PySem.W.codeIn K cd18 "only_lot" = true)
    (k18 : PySem.W.keepIn K (.ref f18) = true)
    (a19 : PySem.W.findIn K (.ref X_Rounds) "__init__" = some (some (.ref f19)))
    (i19 : PySem.W.isFn K (.ref f19) = true)
    (l19 : K.lookup f19 = some ⟨oc19, od19, .func (PySem.W.fnOf "__init__" "Rounds.__init__" (defArgs s_Rounds___init__) (defBody s_Rounds___init__) (defScope s_Rounds___init__) .none kV19 dc19 pm19 an19 cd19 ct19), sl19⟩)
    (c19 : PySem.W.codeIn K cd19 "Rounds.__init__" = true)
    (k19 : PySem.W.keepIn K (.ref f19) = true)
    (a20 : PySem.W.findIn K (.ref X_Rounds) "all_deeds" = some (some (.ref f20)))
    (i20 : PySem.W.isFn K (.ref f20) = true)
    (l20 : K.lookup f20 = some ⟨oc20, od20, .func (PySem.W.fnOf "all_deeds" "Rounds.all_deeds" (defArgs s_Rounds_all_deeds) (defBody s_Rounds_all_deeds) (defScope s_Rounds_all_deeds) .none kV20 dc20 pm20 an20 cd20 ct20), sl20⟩)
    (c20 : PySem.W.codeIn K cd20 "Rounds.all_deeds" = true)
    (k20 : PySem.W.keepIn K (.ref f20) = true)
    (a21 : PySem.W.findIn K (.ref X_Rounds) "links_from" = some (some (.ref f21)))
    (i21 : PySem.W.isFn K (.ref f21) = true)
    (l21 : K.lookup f21 = some ⟨oc21, od21, .func (PySem.W.fnOf "links_from" "Rounds.links_from" (defArgs s_Rounds_links_from) (defBody s_Rounds_links_from) (defScope s_Rounds_links_from) .none kV21 dc21 pm21 an21 cd21 ct21), sl21⟩)
    (c21 : PySem.W.codeIn K cd21 "Rounds.links_from" = true)
    (k21 : PySem.W.keepIn K (.ref f21) = true)
    (a22 : PySem.W.findIn K (.ref X_Rounds) "find_links" = some (some (.ref f22)))
    (i22 : PySem.W.isFn K (.ref f22) = true)
    (l22 : K.lookup f22 = some ⟨oc22, od22, .func (PySem.W.fnOf "find_links" "Rounds.find_links" (defArgs s_Rounds_find_links) (defBody s_Rounds_find_links) (defScope s_Rounds_find_links) .none kV22 dc22 pm22 an22 cd22 ct22), sl22⟩)
    (c22 : PySem.W.codeIn K cd22 "Rounds.find_links" = true)
    (k22 : PySem.W.keepIn K (.ref f22) = true)
    (a23 : PySem.W.findIn K (.ref X_Rounds) "find_lengths" = some (some (.ref f23)))
    (i23 : PySem.W.isFn K (.ref f23) = true)
    (l23 : K.lookup f23 = some ⟨oc23, od23, .func (PySem.W.fnOf "find_lengths" "Rounds.find_lengths" (defArgs s_Rounds_find_lengths) (defBody s_Rounds_find_lengths) (defScope s_Rounds_find_lengths) .none kV23 dc23 pm23 an23 cd23 ct23), sl23⟩)
    (c23 : PySem.W.codeIn K cd23 "Rounds.find_lengths" = true)
    (k23 : PySem.W.keepIn K (.ref f23) = true)
    (a24 : PySem.W.findIn K (.ref X_Rounds) "lasting_links" = some (some (.ref f24)))
    (i24 : PySem.W.isFn K (.ref f24) = true)
    (l24 : K.lookup f24 = some ⟨oc24, od24, .func (PySem.W.fnOf "lasting_links" "Rounds.lasting_links" (defArgs s_Rounds_lasting_links) (defBody s_Rounds_lasting_links) (defScope s_Rounds_lasting_links) .none kV24 dc24 pm24 an24 cd24 ct24), sl24⟩)
    (c24 : PySem.W.codeIn K cd24 "Rounds.lasting_links" = true)
    (k24 : PySem.W.keepIn K (.ref f24) = true)
    (a25 : PySem.W.nsIn K mainGlobals "rounds_of" = some (some (.ref f25)))
    (l25 : K.lookup f25 = some ⟨oc25, od25, .func (PySem.W.fnOf "rounds_of" "rounds_of" (defArgs s_rounds_of) (defBody s_rounds_of) (defScope s_rounds_of) .none kV25 dc25 pm25 an25 cd25 ct25), sl25⟩)
    (c25 : PySem.W.codeIn K cd25 "rounds_of" = true)
    (k25 : PySem.W.keepIn K (.ref f25) = true)
    (a26 : PySem.W.nsIn K mainGlobals "endless" = some (some (.ref f26)))
    (l26 : K.lookup f26 = some ⟨oc26, od26, .func (PySem.W.fnOf "endless" "endless" (defArgs s_endless) (defBody s_endless) (defScope s_endless) .none kV26 dc26 pm26 an26 cd26 ct26), sl26⟩)
    (c26 : PySem.W.codeIn K cd26 "endless" = true)
    (k26 : PySem.W.keepIn K (.ref f26) = true)
    (a27 : PySem.W.nsIn K mainGlobals "are_deeds" = some (some (.ref f27)))
    (l27 : K.lookup f27 = some ⟨oc27, od27, .func (PySem.W.fnOf "are_deeds" "are_deeds" (defArgs s_are_deeds) (defBody s_are_deeds) (defScope s_are_deeds) .none kV27 dc27 pm27 an27 cd27 ct27), sl27⟩)
    (c27 : PySem.W.codeIn K cd27 "are_deeds" = true)
    (k27 : PySem.W.keepIn K (.ref f27) = true)
    (a28 : PySem.W.nsIn K mainGlobals "lives_kept" = some (some (.ref f28)))
    (l28 : K.lookup f28 = some ⟨oc28, od28, .func (PySem.W.fnOf "lives_kept" "lives_kept" (defArgs s_lives_kept) (defBody s_lives_kept) (defScope s_lives_kept) .none kV28 dc28 pm28 an28 cd28 ct28), sl28⟩)
    (c28 : PySem.W.codeIn K cd28 "lives_kept" = true)
    (k28 : PySem.W.keepIn K (.ref f28) = true)
    (a29 : PySem.W.nsIn K mainGlobals "keeps" = some (some (.ref f29)))
    (l29 : K.lookup f29 = some ⟨oc29, od29, .func (PySem.W.fnOf "keeps" "keeps" (defArgs s_keeps) (defBody s_keeps) (defScope s_keeps) .none kV29 dc29 pm29 an29 cd29 ct29), sl29⟩)
    (c29 : PySem.W.codeIn K cd29 "keeps" = true)
    (k29 : PySem.W.keepIn K (.ref f29) = true)
    (a30 : PySem.W.nsIn K mainGlobals "longest" = some (some (.ref f30)))
    (l30 : K.lookup f30 = some ⟨oc30, od30, .func (PySem.W.fnOf "longest" "longest" (defArgs s_longest) (defBody s_longest) (defScope s_longest) .none kV30 dc30 pm30 an30 cd30 ct30), sl30⟩)
    (c30 : PySem.W.codeIn K cd30 "longest" = true)
    (k30 : PySem.W.keepIn K (.ref f30) = true)
    (a31 : PySem.W.nsIn K mainGlobals "load" = some (some (.ref f31)))
    (l31 : K.lookup f31 = some ⟨oc31, od31, .func (PySem.W.fnOf "load" "load" (defArgs s_load) (defBody s_load) (defScope s_load) .none kV31 dc31 pm31 an31 cd31 ct31), sl31⟩)
    (c31 : PySem.W.codeIn K cd31 "load" = true)
    (k31 : PySem.W.keepIn K (.ref f31) = true)
    (a32 : PySem.W.nsIn K mainGlobals "_law_taken" = some (some (.ref f32)))
    (l32 : K.lookup f32 = some ⟨oc32, od32, .func (PySem.W.fnOf "_law_taken" "_law_taken" (defArgs s_law_taken) (defBody s_law_taken) (defScope s_law_taken) .none kV32 dc32 pm32 an32 cd32 ct32), sl32⟩)
    (c32 : PySem.W.codeIn K cd32 "_law_taken" = true)
    (k32 : PySem.W.keepIn K (.ref f32) = true)
    (a33 : PySem.W.nsIn K mainGlobals "_law_pick" = some (some (.ref f33)))
    (l33 : K.lookup f33 = some ⟨oc33, od33, .func (PySem.W.fnOf "_law_pick" "_law_pick" (defArgs s_law_pick) (defBody s_law_pick) (defScope s_law_pick) .none kV33 dc33 pm33 an33 cd33 ct33), sl33⟩)
    (c33 : PySem.W.codeIn K cd33 "_law_pick" = true)
    (k33 : PySem.W.keepIn K (.ref f33) = true)
    (a34 : PySem.W.nsIn K mainGlobals "_law_is" = some (some (.ref f34)))
    (l34 : K.lookup f34 = some ⟨oc34, od34, .func (PySem.W.fnOf "_law_is" "_law_is" (defArgs s_law_is) (defBody s_law_is) (defScope s_law_is) .none kV34 dc34 pm34 an34 cd34 ct34), sl34⟩)
    (c34 : PySem.W.codeIn K cd34 "_law_is" = true)
    (k34 : PySem.W.keepIn K (.ref f34) = true)
    (a35 : PySem.W.nsIn K mainGlobals "_law_machine" = some (some (.ref f35)))
    (l35 : K.lookup f35 = some ⟨oc35, od35, .func (PySem.W.fnOf "_law_machine" "_law_machine" (defArgs s_law_machine) (defBody s_law_machine) (defScope s_law_machine) .none kV35 dc35 pm35 an35 cd35 ct35), sl35⟩)
    (c35 : PySem.W.codeIn K cd35 "_law_machine" = true)
    (k35 : PySem.W.keepIn K (.ref f35) = true)
    (a36 : PySem.W.nsIn K mainGlobals "_law_behind" = some (some (.ref f36)))
    (l36 : K.lookup f36 = some ⟨oc36, od36, .func (PySem.W.fnOf "_law_behind" "_law_behind" (defArgs s_law_behind) (defBody s_law_behind) (defScope s_law_behind) .none kV36 dc36 pm36 an36 cd36 ct36), sl36⟩)
    (c36 : PySem.W.codeIn K cd36 "_law_behind" = true)
    (k36 : PySem.W.keepIn K (.ref f36) = true)
    (a37 : PySem.W.nsIn K mainGlobals "_law_next" = some (some (.ref f37)))
    (l37 : K.lookup f37 = some ⟨oc37, od37, .func (PySem.W.fnOf "_law_next" "_law_next" (defArgs s_law_next) (defBody s_law_next) (defScope s_law_next) .none kV37 dc37 pm37 an37 cd37 ct37), sl37⟩)
    (c37 : PySem.W.codeIn K cd37 "_law_next" = true)
    (k37 : PySem.W.keepIn K (.ref f37) = true)
    (a38 : PySem.W.nsIn K mainGlobals "_law_ages" = some (some (.ref f38)))
    (l38 : K.lookup f38 = some ⟨oc38, od38, .func (PySem.W.fnOf "_law_ages" "_law_ages" (defArgs s_law_ages) (defBody s_law_ages) (defScope s_law_ages) .none kV38 dc38 pm38 an38 cd38 ct38), sl38⟩)
    (c38 : PySem.W.codeIn K cd38 "_law_ages" = true)
    (k38 : PySem.W.keepIn K (.ref f38) = true)
    (a39 : PySem.W.nsIn K mainGlobals "_law_most" = some (some (.ref f39)))
    (l39 : K.lookup f39 = some ⟨oc39, od39, .func (PySem.W.fnOf "_law_most" "_law_most" (defArgs s_law_most) (defBody s_law_most) (defScope s_law_most) .none kV39 dc39 pm39 an39 cd39 ct39), sl39⟩)
    (c39 : PySem.W.codeIn K cd39 "_law_most" = true)
    (k39 : PySem.W.keepIn K (.ref f39) = true)
    (a40 : PySem.W.nsIn K mainGlobals "law" = some (some (.ref f40)))
    (l40 : K.lookup f40 = some ⟨oc40, od40, .func (PySem.W.fnOf "law" "law" (defArgs s_law) (defBody s_law) (defScope s_law) .none kV40 dc40 pm40 an40 cd40 ct40), sl40⟩)
    (c40 : PySem.W.codeIn K cd40 "law" = true)
    (k40 : PySem.W.keepIn K (.ref f40) = true)
    (n_gcd : PySem.W.nsIn K mainGlobals "gcd" = some (some (.builtin "math.gcd")))
    (z_sum : PySem.W.nsIn K mainGlobals "sum" = some none)
    (z_int : PySem.W.nsIn K mainGlobals "int" = some none)
    (z_len : PySem.W.nsIn K mainGlobals "len" = some none)
    (z_range : PySem.W.nsIn K mainGlobals "range" = some none)
    (z_isinstance : PySem.W.nsIn K mainGlobals "isinstance" = some none)
    (z_bool : PySem.W.nsIn K mainGlobals "bool" = some none)
    (z_tuple : PySem.W.nsIn K mainGlobals "tuple" = some none)
    (z_list : PySem.W.nsIn K mainGlobals "list" = some none)
    (z_str : PySem.W.nsIn K mainGlobals "str" = some none)
    (z_any : PySem.W.nsIn K mainGlobals "any" = some none)
    (z_sorted : PySem.W.nsIn K mainGlobals "sorted" = some none)
    (z_reversed : PySem.W.nsIn K mainGlobals "reversed" = some none)
    (z_enumerate : PySem.W.nsIn K mainGlobals "enumerate" = some none)
    (z_all : PySem.W.nsIn K mainGlobals "all" = some none)
    (z_zip : PySem.W.nsIn K mainGlobals "zip" = some none)
    (z_max : PySem.W.nsIn K mainGlobals "max" = some none)
    (z_min : PySem.W.nsIn K mainGlobals "min" = some none)
    (z_set : PySem.W.nsIn K mainGlobals "set" = some none)
    (z_dict : PySem.W.nsIn K mainGlobals "dict" = some none)
    (n_MOST_CELLS : PySem.W.nsIn K mainGlobals "MOST_CELLS" = some (some (.int 4 t_MOST_CELLS)))
    (n_MOST_FADE : PySem.W.nsIn K mainGlobals "MOST_FADE" = some (some (.int 8 t_MOST_FADE)))
    (n_MOST_DEEDS : PySem.W.nsIn K mainGlobals "MOST_DEEDS" = some (some (.int 400 t_MOST_DEEDS)))
    (cb_g : PySem.W.nsIn K mainGlobals "BadCell" = some (some (.ref cb)))
    (cb_k : PySem.W.keepIn K (.ref cb) = true)
    (cb_q : PySem.W.excIn K cb [.type "ValueError", .type "Exception", .type "BaseException", .type "object"] "ValueError.__new__" = true)
    (cb_ex : PySem.W.subIn K (.ref cb) (.type "BaseException") = some true)
    (cb_ty : PySem.W.typeIn K (.ref cb) = some (.type "type"))
    (cb_c : PySem.W.isClsIn K cb = true)
    (cb_s : PySem.W.subIn K (.ref cb) (.ref cb) = some true)
    : ∃ fd : FuncData, (∀ (s : Shared) (v : Value), BindsTo s fd ⟨[v], []⟩ [("script", v)]) ∧ ∀ base : Heap, K.In base → base.Ns mainGlobals mg → FnOk l.prog w K mg base CX0 8 fa fd ["script"] (spLaw8 K) := by
  have e := hfa.symm.trans (PySem.W.mg_of X G a40)
  cases e
  have T : Txt K mg := { z_int := PySem.W.mg_none_of X G z_int, z_len := PySem.W.mg_none_of X G z_len, z_range := PySem.W.mg_none_of X G z_range, z_isinstance := PySem.W.mg_none_of X G z_isinstance, z_bool := PySem.W.mg_none_of X G z_bool, z_tuple := PySem.W.mg_none_of X G z_tuple, z_list := PySem.W.mg_none_of X G z_list, z_str := PySem.W.mg_none_of X G z_str, z_any := PySem.W.mg_none_of X G z_any, z_sorted := PySem.W.mg_none_of X G z_sorted, z_reversed := PySem.W.mg_none_of X G z_reversed, z_enumerate := PySem.W.mg_none_of X G z_enumerate, z_all := PySem.W.mg_none_of X G z_all, z_zip := PySem.W.mg_none_of X G z_zip, z_max := PySem.W.mg_none_of X G z_max, z_min := PySem.W.mg_none_of X G z_min, z_set := PySem.W.mg_none_of X G z_set, z_dict := PySem.W.mg_none_of X G z_dict, c_MOST_CELLS := ⟨_, PySem.W.mg_of X G n_MOST_CELLS⟩, c_MOST_FADE := ⟨_, PySem.W.mg_of X G n_MOST_FADE⟩, c_MOST_DEEDS := ⟨_, PySem.W.mg_of X G n_MOST_DEEDS⟩ }
  have G_gcd : mg "gcd" = some (.builtin "math.gcd") := PySem.W.mg_of X G n_gcd
  have Z_sum : mg "sum" = none := PySem.W.mg_none_of X G z_sum
  have B_BadCell : BaseE K mg "BadCell" cb := ⟨PySem.W.mg_of X G cb_g, cb_k, cb_q, cb_ex, cb_ty, exm_own cb_ex cb_c cb_ty cb_s⟩
  have Cl_Rings : Cls K X_Rings := ⟨xp_Rings, xh_Rings, xo_Rings, xs_Rings⟩
  have T_Rings : RinT K X_Rings := { cl := Cl_Rings, n_links := xn_Rings_links, n_heights := xn_Rings_heights, n_raised := xn_Rings_raised }
  have Cl_Rounds : Cls K X_Rounds := ⟨xp_Rounds, xh_Rounds, xo_Rounds, xs_Rounds⟩
  have T_Rounds : RouT K X_Rounds := { cl := Cl_Rounds, n_machine := xn_Rounds_machine, n_cells := xn_Rounds_cells, n_deeds := xn_Rounds_deeds, n_start := xn_Rounds_start, n_links := xn_Rounds_links, n_lengths := xn_Rounds_lengths }
  have F0 := fun_mk (st := s_is_whole) l0 c0 k0
  have b0 := F0.binds (ps := ["value"]) fun _ _ _ _ _ _ us hl => match us, hl with | [_], _ => rfl
  have g0 := PySem.W.mg_of X G a0
  have F1 := fun_mk (st := s_is_integer) l1 c1 k1
  have b1 := F1.binds (ps := ["value", "low", "high"]) fun _ _ _ _ _ _ us hl => match us, hl with | [_, _, _], _ => rfl
  have g1 := PySem.W.mg_of X G a1
  have F2 := fun_mk (st := s_are_fades) l2 c2 k2
  have b2 := F2.binds (ps := ["value"]) fun _ _ _ _ _ _ us hl => match us, hl with | [_], _ => rfl
  have g2 := PySem.W.mg_of X G a2
  have F3 := fun_mk (st := s_are_rows) l3 c3 k3
  have b3 := F3.binds (ps := ["value"]) fun _ _ _ _ _ _ us hl => match us, hl with | [_], _ => rfl
  have g3 := PySem.W.mg_of X G a3
  have F4 := fun_mk (st := s_check_machine) l4 c4 k4
  have b4 := F4.binds (ps := ["value"]) fun _ _ _ _ _ _ us hl => match us, hl with | [_], _ => rfl
  have g4 := PySem.W.mg_of X G a4
  have F5 := fun_mk (st := s_check_cell_of) l5 c5 k5
  have b5 := F5.binds (ps := ["cells", "value"]) fun _ _ _ _ _ _ us hl => match us, hl with | [_, _], _ => rfl
  have g5 := PySem.W.mg_of X G a5
  have F6 := fun_mk (st := s_check_cell) l6 c6 k6
  have b6 := F6.binds (ps := ["machine", "value"]) fun _ _ _ _ _ _ us hl => match us, hl with | [_, _], _ => rfl
  have g6 := PySem.W.mg_of X G a6
  have F7 := fun_mk (st := s_check_lot) l7 c7 k7
  have b7 := F7.binds (ps := ["machine", "value"]) fun _ _ _ _ _ _ us hl => match us, hl with | [_, _], _ => rfl
  have g7 := PySem.W.mg_of X G a7
  have F8 := fun_mk (st := s_lives_waited) l8 c8 k8
  have b8 := F8.binds (ps := ["lives"]) fun _ _ _ _ _ _ us hl => match us, hl with | [_], _ => rfl
  have g8 := PySem.W.mg_of X G a8
  have F9 := fun_mk (st := s_lives_touched) l9 c9 k9
  have b9 := F9.binds (ps := ["machine", "lives", "cell"]) fun _ _ _ _ _ _ us hl => match us, hl with | [_, _, _], _ => rfl
  have g9 := PySem.W.mg_of X G a9
  have F10 := fun_mk (st := s_ratio_of) l10 c10 k10
  have b10 := F10.binds (ps := ["top", "low"]) fun _ _ _ _ _ _ us hl => match us, hl with | [_, _], _ => rfl
  have g10 := PySem.W.mg_of X G a10
  have F11 := fun_mk (st := s_Rings___init__) l11 c11 k11
  have b11 := F11.binds (ps := ["self", "links"]) fun _ _ _ _ _ _ us hl => match us, hl with | [_, _], _ => rfl
  have F12 := fun_mk (st := s_Rings_raise_once) l12 c12 k12
  have b12 := F12.binds (ps := ["self", "top", "low"]) fun _ _ _ _ _ _ us hl => match us, hl with | [_, _, _], _ => rfl
  have F13 := fun_mk (st := s_Rings_ring_from) l13 c13 k13
  have b13 := F13.binds (ps := ["self", "first"]) fun _ _ _ _ _ _ us hl => match us, hl with | [_, _], _ => rfl
  have F14 := fun_mk (st := s_Rings_ring_raised) l14 c14 k14
  have b14 := F14.binds (ps := ["self"]) fun _ _ _ _ _ _ us hl => match us, hl with | [_], _ => rfl
  have F15 := fun_mk (st := s_Rings_lesser) l15 c15 k15
  have b15 := F15.binds (ps := ["self", "top", "low"]) fun _ _ _ _ _ _ us hl => match us, hl with | [_, _, _], _ => rfl
  have F16 := fun_mk (st := s_Rings_least) l16 c16 k16
  have b16 := F16.binds (ps := ["self"]) fun _ _ _ _ _ _ us hl => match us, hl with | [_], _ => rfl
  have F17 := fun_mk (st := s_lives_done) l17 c17 k17
  have b17 := F17.binds (ps := ["machine", "lives", "deed"]) fun _ _ _ _ _ _ us hl => match us, hl with | [_, _, _], _ => rfl
  have g17 := PySem.W.mg_of X G a17
  have F18 := fun_mk (st := s_only_lot) l18 c18 k18
  have b18 := F18.binds (ps := ["lives", "cells"]) fun _ _ _ _ _ _ us hl => match us, hl with | [_, _], _ => rfl
  have g18 := PySem.W.mg_of X G a18
  have F19 := fun_mk (st := s_Rounds___init__) l19 c19 k19
  have b19 := F19.binds (ps := ["self", "machine", "cells"]) fun _ _ _ _ _ _ us hl => match us, hl with | [_, _, _], _ => rfl
  have F20 := fun_mk (st := s_Rounds_all_deeds) l20 c20 k20
  have b20 := F20.binds (ps := ["self"]) fun _ _ _ _ _ _ us hl => match us, hl with | [_], _ => rfl
  have F21 := fun_mk (st := s_Rounds_links_from) l21 c21 k21
  have b21 := F21.binds (ps := ["self", "lives"]) fun _ _ _ _ _ _ us hl => match us, hl with | [_, _], _ => rfl
  have F22 := fun_mk (st := s_Rounds_find_links) l22 c22 k22
  have b22 := F22.binds (ps := ["self"]) fun _ _ _ _ _ _ us hl => match us, hl with | [_], _ => rfl
  have F23 := fun_mk (st := s_Rounds_find_lengths) l23 c23 k23
  have b23 := F23.binds (ps := ["self"]) fun _ _ _ _ _ _ us hl => match us, hl with | [_], _ => rfl
  have F24 := fun_mk (st := s_Rounds_lasting_links) l24 c24 k24
  have b24 := F24.binds (ps := ["self"]) fun _ _ _ _ _ _ us hl => match us, hl with | [_], _ => rfl
  have F25 := fun_mk (st := s_rounds_of) l25 c25 k25
  have b25 := F25.binds (ps := ["machine", "cells"]) fun _ _ _ _ _ _ us hl => match us, hl with | [_, _], _ => rfl
  have g25 := PySem.W.mg_of X G a25
  have F26 := fun_mk (st := s_endless) l26 c26 k26
  have b26 := F26.binds (ps := ["machine", "cells"]) fun _ _ _ _ _ _ us hl => match us, hl with | [_, _], _ => rfl
  have g26 := PySem.W.mg_of X G a26
  have F27 := fun_mk (st := s_are_deeds) l27 c27 k27
  have b27 := F27.binds (ps := ["machine", "value"]) fun _ _ _ _ _ _ us hl => match us, hl with | [_, _], _ => rfl
  have g27 := PySem.W.mg_of X G a27
  have F28 := fun_mk (st := s_lives_kept) l28 c28 k28
  have b28 := F28.binds (ps := ["machine", "cells", "lives", "deeds"]) fun _ _ _ _ _ _ us hl => match us, hl with | [_, _, _, _], _ => rfl
  have g28 := PySem.W.mg_of X G a28
  have F29 := fun_mk (st := s_keeps) l29 c29 k29
  have b29 := F29.binds (ps := ["machine", "cells", "lead", "ring"]) fun _ _ _ _ _ _ us hl => match us, hl with | [_, _, _, _], _ => rfl
  have g29 := PySem.W.mg_of X G a29
  have F30 := fun_mk (st := s_longest) l30 c30 k30
  have b30 := F30.binds (ps := ["machine", "cells"]) fun _ _ _ _ _ _ us hl => match us, hl with | [_, _], _ => rfl
  have g30 := PySem.W.mg_of X G a30
  have F31 := fun_mk (st := s_load) l31 c31 k31
  have b31 := F31.binds (ps := ["machine", "cells"]) fun _ _ _ _ _ _ us hl => match us, hl with | [_, _], _ => rfl
  have g31 := PySem.W.mg_of X G a31
  have F32 := fun_mk (st := s_law_taken) l32 c32 k32
  have b32 := F32.binds (ps := ["row", "many"]) fun _ _ _ _ _ _ us hl => match us, hl with | [_, _], _ => rfl
  have g32 := PySem.W.mg_of X G a32
  have F33 := fun_mk (st := s_law_pick) l33 c33 k33
  have b33 := F33.binds (ps := ["row", "things"]) fun _ _ _ _ _ _ us hl => match us, hl with | [_, _], _ => rfl
  have g33 := PySem.W.mg_of X G a33
  have F34 := fun_mk (st := s_law_is) l34 c34 k34
  have b34 := F34.binds (ps := ["found", "due"]) fun _ _ _ _ _ _ us hl => match us, hl with | [_, _], _ => rfl
  have g34 := PySem.W.mg_of X G a34
  have F35 := fun_mk (st := s_law_machine) l35 c35 k35
  have b35 := F35.binds (ps := ["row", "most", "fade"]) fun _ _ _ _ _ _ us hl => match us, hl with | [_, _, _], _ => rfl
  have g35 := PySem.W.mg_of X G a35
  have F36 := fun_mk (st := s_law_behind) l36 c36 k36
  have b36 := F36.binds (ps := ["machine", "lives", "word", "cell"]) fun _ _ _ _ _ _ us hl => match us, hl with | [_, _, _, _], _ => rfl
  have g36 := PySem.W.mg_of X G a36
  have F37 := fun_mk (st := s_law_next) l37 c37 k37
  have b37 := F37.binds (ps := ["machine", "cells", "lives"]) fun _ _ _ _ _ _ us hl => match us, hl with | [_, _, _], _ => rfl
  have g37 := PySem.W.mg_of X G a37
  have F38 := fun_mk (st := s_law_ages) l38 c38 k38
  have b38 := F38.binds (ps := ["machine", "cells"]) fun _ _ _ _ _ _ us hl => match us, hl with | [_, _], _ => rfl
  have g38 := PySem.W.mg_of X G a38
  have F39 := fun_mk (st := s_law_most) l39 c39 k39
  have b39 := F39.binds (ps := ["found"]) fun _ _ _ _ _ _ us hl => match us, hl with | [_], _ => rfl
  have g39 := PySem.W.mg_of X G a39
  have F40 := fun_mk (st := s_law) l40 c40 k40
  refine ⟨PySem.W.fnOf "law" "law" (defArgs s_law) (defBody s_law) (defScope s_law) .none kV40 dc40 pm40 an40 cd40 ct40, fun s v => .of_eq rfl, fun base _ _ => ?_⟩
  have C_is_whole : Cal l.prog w K mg base CX0 1 "is_whole" f0 _ ["value"] (spIsWhole K) := ⟨ok_is_whole F0 T, g0, k0, b0⟩
  have C_is_integer : Cal l.prog w K mg base CX0 2 "is_integer" f1 _ ["value", "low", "high"] (spIsInt K) := ⟨ok_is_integer F1 T C_is_whole, g1, k1, b1⟩
  have C_are_fades : Cal l.prog w K mg base CX0 3 "are_fades" f2 _ ["value"] (spFades K) := ⟨ok_fades F2 T C_is_integer, g2, k2, b2⟩
  have C_are_rows : Cal l.prog w K mg base CX0 3 "are_rows" f3 _ ["value"] (spRows K) := ⟨ok_rows F3 T C_is_integer, g3, k3, b3⟩
  have C_check_machine : Cal l.prog w K mg base CX0 4 "check_machine" f4 _ ["value"] (spChkMa K) := ⟨ok_check_machine F4 T C_are_fades C_are_rows, g4, k4, b4⟩
  have C_check_cell_of : Cal l.prog w K mg base CX0 3 "check_cell_of" f5 _ ["cells", "value"] spChkCeOf := ⟨ok_check_cell_of F5 T C_is_integer, g5, k5, b5⟩
  have C_check_cell : Cal l.prog w K mg base CX0 4 "check_cell" f6 _ ["machine", "value"] (spChkCe K) := ⟨ok_check_cell F6 T C_check_cell_of, g6, k6, b6⟩
  have C_check_lot : Cal l.prog w K mg base CX0 5 "check_lot" f7 _ ["machine", "value"] (spChkLot K) := ⟨ok_check_lot F7 T C_check_cell, g7, k7, b7⟩
  have C_check_cell_ofX : Cal l.prog w K mg base (L2.CX l.prog w) 3 "check_cell_of" f5 _ ["cells", "value"] (spChkCeOfX K cb) := ⟨okX_check_cell_of F5 T B_BadCell C_is_integer, g5, k5, b5⟩
  have C_check_cellX : Cal l.prog w K mg base (L2.CX l.prog w) 4 "check_cell" f6 _ ["machine", "value"] (fun vs H Q E => spChkCe K vs H Q E ∨ spChkCeX K cb vs H Q E) := ⟨FnOk.or8 (ok_check_cell F6 T C_check_cell_of) (okX_check_cell F6 T C_check_cell_ofX), g6, k6, b6⟩
  have C_check_lotX : Cal l.prog w K mg base (L2.CX l.prog w) 5 "check_lot" f7 _ ["machine", "value"] (spLotX K cb) := ⟨okX_check_lot F7 T B_BadCell C_check_cellX, g7, k7, b7⟩
  have C_lives_waited : Cal l.prog w K mg base CX0 2 "lives_waited" f8 _ ["lives"] (spWaited K) := ⟨ok_waited F8 T, g8, k8, b8⟩
  have C_lives_touched : Cal l.prog w K mg base CX0 2 "lives_touched" f9 _ ["machine", "lives", "cell"] (spTouched K) := ⟨ok_touched F9 T, g9, k9, b9⟩
  have C_ratio_of : Cal l.prog w K mg base CX0 1 "ratio_of" f10 _ ["top", "low"] (spRat K) := ⟨ok_ratio_of F10 T G_gcd, g10, k10, b10⟩
  have M_Rings : MkRin l.prog w K mg base X_Rings f11 _ := ⟨⟨xm_Rings, a11, i11, xk_Rings⟩, ok_rinit F11 T T_Rings, PySem.W.mg_of X G xg_Rings, b11⟩
  have M_Rings_raise_once : MCal l.prog w K mg base X_Rings 1 "raise_once" f12 _ ["self", "top", "low"] (spRaise l.prog w K X_Rings) := ⟨ok_raise_once F12 T T_Rings, ⟨a12, i12, k12⟩, b12⟩
  have M_Rings_ring_from : MCal l.prog w K mg base X_Rings 1 "ring_from" f13 _ ["self", "first"] (spRingF l.prog w K X_Rings) := ⟨ok_ring_from F13 T T_Rings, ⟨a13, i13, k13⟩, b13⟩
  have M_Rings_ring_raised : MCal l.prog w K mg base X_Rings 2 "ring_raised" f14 _ ["self"] (spRingR l.prog w K X_Rings) := ⟨ok_ring_raised F14 T T_Rings M_Rings_ring_from, ⟨a14, i14, k14⟩, b14⟩
  have M_Rings_lesser : MCal l.prog w K mg base X_Rings 3 "lesser" f15 _ ["self", "top", "low"] (spLesser l.prog w K X_Rings) := ⟨ok_lesser F15 T T_Rings M_Rings_raise_once M_Rings_ring_raised, ⟨a15, i15, k15⟩, b15⟩
  have M_Rings_least : MCal l.prog w K mg base X_Rings 4 "least" f16 _ ["self"] (spLeastR l.prog w K X_Rings) := ⟨ok_leastR F16 T Z_sum T_Rings M_Rings_lesser C_ratio_of, ⟨a16, i16, k16⟩, b16⟩
  have C_lives_done : Cal l.prog w K mg base CX0 3 "lives_done" f17 _ ["machine", "lives", "deed"] (spDone K) := ⟨ok_lives_done F17 T C_lives_waited C_lives_touched, g17, k17, b17⟩
  have C_only_lot : Cal l.prog w K mg base CX0 1 "only_lot" f18 _ ["lives", "cells"] (spOnly K) := ⟨ok_only_lot F18 T, g18, k18, b18⟩
  have M_Rounds_all_deeds : MCal l.prog w K mg base X_Rounds 2 "all_deeds" f20 _ ["self"] (spAllD K X_Rounds) := ⟨ok_all_deeds F20 T T_Rounds, ⟨a20, i20, k20⟩, b20⟩
  have M_Rounds : MkRou l.prog w K mg base X_Rounds f19 _ := ⟨⟨xm_Rounds, a19, i19, xk_Rounds⟩, ok_roinit F19 T T_Rounds M_Rounds_all_deeds C_only_lot, PySem.W.mg_of X G xg_Rounds, b19⟩
  have M_Rounds_links_from : MCal l.prog w K mg base X_Rounds 4 "links_from" f21 _ ["self", "lives"] (spLnkF K X_Rounds) := ⟨ok_links_from F21 T T_Rounds C_only_lot C_lives_done, ⟨a21, i21, k21⟩, b21⟩
  have M_Rounds_find_links : MCal l.prog w K mg base X_Rounds 5 "find_links" f22 _ ["self"] (spFindL l.prog w K X_Rounds) := ⟨ok_find_links F22 T T_Rounds M_Rounds_links_from, ⟨a22, i22, k22⟩, b22⟩
  have M_Rounds_find_lengths : MCal l.prog w K mg base X_Rounds 5 "find_lengths" f23 _ ["self"] (spFindN l.prog w K X_Rounds) := ⟨ok_find_lengths F23 T T_Rounds, ⟨a23, i23, k23⟩, b23⟩
  have M_Rounds_lasting_links : MCal l.prog w K mg base X_Rounds 5 "lasting_links" f24 _ ["self"] (spLasting l.prog w K X_Rounds) := ⟨ok_lasting_links F24 T T_Rounds, ⟨a24, i24, k24⟩, b24⟩
  have C_rounds_of : Cal l.prog w K mg base CX0 6 "rounds_of" f25 _ ["machine", "cells"] (spRds l.prog w K X_Rounds) := ⟨ok_rounds_of F25 T T_Rounds C_check_machine C_check_lot M_Rounds M_Rounds_find_links M_Rounds_find_lengths, g25, k25, b25⟩
  have C_rounds_ofX : Cal l.prog w K mg base (L2.CX l.prog w) 6 "rounds_of" f25 _ ["machine", "cells"] (spLotX K cb) := ⟨okX_rounds_of F25 T T_Rounds C_check_machine C_check_lotX M_Rounds M_Rounds_find_links M_Rounds_find_lengths, g25, k25, b25⟩
  have C_endless : Cal l.prog w K mg base CX0 7 "endless" f26 _ ["machine", "cells"] (spEndless K) := ⟨ok_endlessR F26 T T_Rounds T_Rings C_rounds_of M_Rounds_lasting_links M_Rings M_Rings_least C_ratio_of, g26, k26, b26⟩
  have C_endlessX : Cal l.prog w K mg base (L2.CX l.prog w) 7 "endless" f26 _ ["machine", "cells"] (spLotX K cb) := ⟨okX_endlessR F26 T T_Rounds T_Rings C_rounds_ofX M_Rounds_lasting_links M_Rings M_Rings_least C_ratio_of, g26, k26, b26⟩
  have C_are_deeds : Cal l.prog w K mg base CX0 3 "are_deeds" f27 _ ["machine", "value"] (spAreD K) := ⟨ok_are_deeds F27 T C_is_integer, g27, k27, b27⟩
  have C_lives_kept : Cal l.prog w K mg base CX0 4 "lives_kept" f28 _ ["machine", "cells", "lives", "deeds"] (spKeptD K) := ⟨ok_lives_kept F28 T C_lives_done, g28, k28, b28⟩
  have C_keeps : Cal l.prog w K mg base CX0 6 "keeps" f29 _ ["machine", "cells", "lead", "ring"] (spKeeps K) := ⟨ok_keepsR F29 T C_check_machine C_check_lot C_are_deeds C_lives_kept, g29, k29, b29⟩
  have C_longest : Cal l.prog w K mg base CX0 7 "longest" f30 _ ["machine", "cells"] (spLongest K) := ⟨ok_longest F30 T T_Rounds C_rounds_of, g30, k30, b30⟩
  have C_load : Cal l.prog w K mg base CX0 6 "load" f31 _ ["machine", "cells"] (spLoad K) := ⟨ok_load F31 T C_check_machine C_check_lot C_ratio_of, g31, k31, b31⟩
  have C_law_taken : Cal l.prog w K mg base CX0 1 "_law_taken" f32 _ ["row", "many"] (spTak K) := ⟨ok_tak F32 T, g32, k32, b32⟩
  have C_law_pick : Cal l.prog w K mg base CX0 2 "_law_pick" f33 _ ["row", "things"] (spPick K) := ⟨ok_pick F33 T C_law_taken, g33, k33, b33⟩
  have C_law_is : Cal l.prog w K mg base CX0 1 "_law_is" f34 _ ["found", "due"] (fun vs H Q _ => ∃ b : Bool, vs = [.bl b, .bl b] ∧ ∀ H', Ex H H' → Q (.bl true) H') := ⟨ok_is F34 T, g34, k34, b34⟩
  have C_law_machine : Cal l.prog w K mg base CX0 2 "_law_machine" f35 _ ["row", "most", "fade"] (spLMaL K) := ⟨ok_lmachineL F35 T C_law_taken, g35, k35, b35⟩
  have C_law_behind : Cal l.prog w K mg base CX0 1 "_law_behind" f36 _ ["machine", "lives", "word", "cell"] (spLBeh K) := ⟨ok_lbehind F36 T, g36, k36, b36⟩
  have C_law_next : Cal l.prog w K mg base CX0 2 "_law_next" f37 _ ["machine", "cells", "lives"] (spLNx K) := ⟨ok_lnext F37 T C_law_behind, g37, k37, b37⟩
  have C_law_ages : Cal l.prog w K mg base CX0 3 "_law_ages" f38 _ ["machine", "cells"] (spLAg l.prog w K) := ⟨ok_lages F38 T C_law_next, g38, k38, b38⟩
  have C_law_most : Cal l.prog w K mg base CX0 2 "_law_most" f39 _ ["found"] (spLMost l.prog w) := ⟨ok_lmost F39 T, g39, k39, b39⟩
  exact ok_law8 F40 T Z_sum C_law_taken C_law_pick C_law_is C_law_machine C_law_behind C_law_ages C_law_most C_endless C_endlessX C_keeps C_longest C_load B_BadCell
theorem walk {l : PySem.W.OpenLaw} {q : Program} {loose : List Str} {XP : (Str → Option Value) → Heap → Prop} {YP : World → Heap → Prop} {d : DefRec} {K : Params → PySem.W.Frag} (hn : l.most = some 63) (hdf : d.params.defaults = [])
    (hY : ∀ (w : World) (h : Heap), YP w h → (K w.params).In h)
    (F : ∀ (w : World) (mg : Str → Option Value) (fa : Addr) (h : Heap), (K w.params).In h → h.Ns mainGlobals mg → mg d.name = some (.ref fa) →
      ∃ fd : FuncData, (∀ (s : Shared) (u : Value), BindsTo s fd ⟨[u], []⟩ [("script", u)]) ∧ ∀ base : Heap, (K w.params).In base → base.Ns mainGlobals mg → FnOk l.prog w (K w.params) mg base CX0 8 fa fd ["script"] (spLaw8 (K w.params))) :
    PySem.W.WalkO q loose XP YP l.row.toRowW d [] (fun f vs => PySem.call f vs) :=
  L2.walk_of (n := 63) (k := 8) (x := "script") (CX := fun _ => CX0) (sp := fun w => spLaw8 (K w.params)) hn (by decide) hdf ⟨rfl, by decide, by decide⟩ hY F (fun _ _ a ns hl _ hS => ⟨a, ns, rfl, hS, fun _ => rfl⟩) fun _ _ _ _ _ z => z
end Fm
open PySem PySem.W PyProof.Rows in
set_option maxRecDepth 100000 in
set_option maxHeartbeats 0 in
theorem PySem.Challenge.cw_fademill_k08_whole_rounds_holds : PySem.Challenge.rw_fademill_k08_whole_rounds.Holds := by
  w_on; o_law; k_headL; (case hw => w_witness2)
  k_fill
  refine Fm.walk (l := PySem.Challenge.rw_fademill_k08_whole_rounds) rfl rfl (fun w h Y => PySem.W.kIn_of Y) ?F
  case F =>
    intro w mg fa h KX G hmg
    refine' Fm.all_mk KX G hmg ?xg_Rings ?xp_Rings ?xh_Rings ?xo_Rings ?xs_Rings ?xm_Rings ?xk_Rings ?xn_Rings_links ?xn_Rings_heights ?xn_Rings_raised ?xg_Rounds ?xp_Rounds ?xh_Rounds ?xo_Rounds ?xs_Rounds ?xm_Rounds ?xk_Rounds ?xn_Rounds_machine ?xn_Rounds_cells ?xn_Rounds_deeds ?xn_Rounds_start ?xn_Rounds_links ?xn_Rounds_lengths ?a0 ?l0 ?c0 ?k0 ?a1 ?l1 ?c1 ?k1 ?a2 ?l2 ?c2 ?k2 ?a3 ?l3 ?c3 ?k3 ?a4 ?l4 ?c4 ?k4 ?a5 ?l5 ?c5 ?k5 ?a6 ?l6 ?c6 ?k6 ?a7 ?l7 ?c7 ?k7 ?a8 ?l8 ?c8 ?k8 ?a9 ?l9 ?c9 ?k9 ?a10 ?l10 ?c10 ?k10 ?a11 ?i11 ?l11 ?c11 ?k11 ?a12 ?i12 ?l12 ?c12 ?k12 ?a13 ?i13 ?l13 ?c13 ?k13 ?a14 ?i14 ?l14 ?c14 ?k14 ?a15 ?i15 ?l15 ?c15 ?k15 ?a16 ?i16 ?l16 ?c16 ?k16 ?a17 ?l17 ?c17 ?k17 ?a18 ?l18 ?c18 ?k18 ?a19 ?i19 ?l19 ?c19 ?k19 ?a20 ?i20 ?l20 ?c20 ?k20 ?a21 ?i21 ?l21 ?c21 ?k21 ?a22 ?i22 ?l22 ?c22 ?k22 ?a23 ?i23 ?l23 ?c23 ?k23 ?a24 ?i24 ?l24 ?c24 ?k24 ?a25 ?l25 ?c25 ?k25 ?a26 ?l26 ?c26 ?k26 ?a27 ?l27 ?c27 ?k27 ?a28 ?l28 ?c28 ?k28 ?a29 ?l29 ?c29 ?k29 ?a30 ?l30 ?c30 ?k30 ?a31 ?l31 ?c31 ?k31 ?a32 ?l32 ?c32 ?k32 ?a33 ?l33 ?c33 ?k33 ?a34 ?l34 ?c34 ?k34 ?a35 ?l35 ?c35 ?k35 ?a36 ?l36 ?c36 ?k36 ?a37 ?l37 ?c37 ?k37 ?a38 ?l38 ?c38 ?k38 ?a39 ?l39 ?c39 ?k39 ?a40 ?l40 ?c40 ?k40 ?n_gcd ?z_sum ?z_int ?z_len ?z_range ?z_isinstance ?z_bool ?z_tuple ?z_list ?z_str ?z_any ?z_sorted ?z_reversed ?z_enumerate ?z_all ?z_zip ?z_max ?z_min ?z_set ?z_dict ?n_MOST_CELLS ?n_MOST_FADE ?n_MOST_DEEDS ?cb_g ?cb_k ?cb_q ?cb_ex ?cb_ty ?cb_c ?cb_s
    (case xg_Rings => as_aux_lemma => k_is)
    (case xp_Rings => as_aux_lemma => k_is)
    (case xh_Rings => as_aux_lemma => k_is)
    (case xo_Rings => as_aux_lemma => k_is)
    (case xs_Rings => as_aux_lemma => k_is)
    (case xm_Rings => as_aux_lemma => k_is)
    (case xk_Rings => as_aux_lemma => k_is)
    (case xn_Rings_links => as_aux_lemma => k_is)
    (case xn_Rings_heights => as_aux_lemma => k_is)
    (case xn_Rings_raised => as_aux_lemma => k_is)
    (case xg_Rounds => as_aux_lemma => k_is)
    (case xp_Rounds => as_aux_lemma => k_is)
    (case xh_Rounds => as_aux_lemma => k_is)
    (case xo_Rounds => as_aux_lemma => k_is)
    (case xs_Rounds => as_aux_lemma => k_is)
    (case xm_Rounds => as_aux_lemma => k_is)
    (case xk_Rounds => as_aux_lemma => k_is)
    (case xn_Rounds_machine => as_aux_lemma => k_is)
    (case xn_Rounds_cells => as_aux_lemma => k_is)
    (case xn_Rounds_deeds => as_aux_lemma => k_is)
    (case xn_Rounds_start => as_aux_lemma => k_is)
    (case xn_Rounds_links => as_aux_lemma => k_is)
    (case xn_Rounds_lengths => as_aux_lemma => k_is)
    (case a0 => as_aux_lemma => k_is)
    (case l0 => as_aux_lemma => k_is)
    (case c0 => as_aux_lemma => k_is)
    (case k0 => as_aux_lemma => k_is)
    (case a1 => as_aux_lemma => k_is)
    (case l1 => as_aux_lemma => k_is)
    (case c1 => as_aux_lemma => k_is)
    (case k1 => as_aux_lemma => k_is)
    (case a2 => as_aux_lemma => k_is)
    (case l2 => as_aux_lemma => k_is)
    (case c2 => as_aux_lemma => k_is)
    (case k2 => as_aux_lemma => k_is)
    (case a3 => as_aux_lemma => k_is)
    (case l3 => as_aux_lemma => k_is)
    (case c3 => as_aux_lemma => k_is)
    (case k3 => as_aux_lemma => k_is)
    (case a4 => as_aux_lemma => k_is)
    (case l4 => as_aux_lemma => k_is)
    (case c4 => as_aux_lemma => k_is)
    (case k4 => as_aux_lemma => k_is)
    (case a5 => as_aux_lemma => k_is)
    (case l5 => as_aux_lemma => k_is)
    (case c5 => as_aux_lemma => k_is)
    (case k5 => as_aux_lemma => k_is)
    (case a6 => as_aux_lemma => k_is)
    (case l6 => as_aux_lemma => k_is)
    (case c6 => as_aux_lemma => k_is)
    (case k6 => as_aux_lemma => k_is)
    (case a7 => as_aux_lemma => k_is)
    (case l7 => as_aux_lemma => k_is)
    (case c7 => as_aux_lemma => k_is)
    (case k7 => as_aux_lemma => k_is)
    (case a8 => as_aux_lemma => k_is)
    (case l8 => as_aux_lemma => k_is)
    (case c8 => as_aux_lemma => k_is)
    (case k8 => as_aux_lemma => k_is)
    (case a9 => as_aux_lemma => k_is)
    (case l9 => as_aux_lemma => k_is)
    (case c9 => as_aux_lemma => k_is)
    (case k9 => as_aux_lemma => k_is)
    (case a10 => as_aux_lemma => k_is)
    (case l10 => as_aux_lemma => k_is)
    (case c10 => as_aux_lemma => k_is)
    (case k10 => as_aux_lemma => k_is)
    (case a11 => as_aux_lemma => k_is)
    (case i11 => as_aux_lemma => k_is)
    (case l11 => as_aux_lemma => k_is)
    (case c11 => as_aux_lemma => k_is)
    (case k11 => as_aux_lemma => k_is)
    (case a12 => as_aux_lemma => k_is)
    (case i12 => as_aux_lemma => k_is)
    (case l12 => as_aux_lemma => k_is)
    (case c12 => as_aux_lemma => k_is)
    (case k12 => as_aux_lemma => k_is)
    (case a13 => as_aux_lemma => k_is)
    (case i13 => as_aux_lemma => k_is)
    (case l13 => as_aux_lemma => k_is)
    (case c13 => as_aux_lemma => k_is)
    (case k13 => as_aux_lemma => k_is)
    (case a14 => as_aux_lemma => k_is)
    (case i14 => as_aux_lemma => k_is)
    (case l14 => as_aux_lemma => k_is)
    (case c14 => as_aux_lemma => k_is)
    (case k14 => as_aux_lemma => k_is)
    (case a15 => as_aux_lemma => k_is)
    (case i15 => as_aux_lemma => k_is)
    (case l15 => as_aux_lemma => k_is)
    (case c15 => as_aux_lemma => k_is)
    (case k15 => as_aux_lemma => k_is)
    (case a16 => as_aux_lemma => k_is)
    (case i16 => as_aux_lemma => k_is)
    (case l16 => as_aux_lemma => k_is)
    (case c16 => as_aux_lemma => k_is)
    (case k16 => as_aux_lemma => k_is)
    (case a17 => as_aux_lemma => k_is)
    (case l17 => as_aux_lemma => k_is)
    (case c17 => as_aux_lemma => k_is)
    (case k17 => as_aux_lemma => k_is)
    (case a18 => as_aux_lemma => k_is)
    (case l18 => as_aux_lemma => k_is)
    (case c18 => as_aux_lemma => k_is)
    (case k18 => as_aux_lemma => k_is)
    (case a19 => as_aux_lemma => k_is)
    (case i19 => as_aux_lemma => k_is)
    (case l19 => as_aux_lemma => k_is)
    (case c19 => as_aux_lemma => k_is)
    (case k19 => as_aux_lemma => k_is)
    (case a20 => as_aux_lemma => k_is)
    (case i20 => as_aux_lemma => k_is)
    (case l20 => as_aux_lemma => k_is)
    (case c20 => as_aux_lemma => k_is)
    (case k20 => as_aux_lemma => k_is)
    (case a21 => as_aux_lemma => k_is)
    (case i21 => as_aux_lemma => k_is)
    (case l21 => as_aux_lemma => k_is)
    (case c21 => as_aux_lemma => k_is)
    (case k21 => as_aux_lemma => k_is)
    (case a22 => as_aux_lemma => k_is)
    (case i22 => as_aux_lemma => k_is)
    (case l22 => as_aux_lemma => k_is)
    (case c22 => as_aux_lemma => k_is)
    (case k22 => as_aux_lemma => k_is)
    (case a23 => as_aux_lemma => k_is)
    (case i23 => as_aux_lemma => k_is)
    (case l23 => as_aux_lemma => k_is)
    (case c23 => as_aux_lemma => k_is)
    (case k23 => as_aux_lemma => k_is)
    (case a24 => as_aux_lemma => k_is)
    (case i24 => as_aux_lemma => k_is)
    (case l24 => as_aux_lemma => k_is)
    (case c24 => as_aux_lemma => k_is)
    (case k24 => as_aux_lemma => k_is)
    (case a25 => as_aux_lemma => k_is)
    (case l25 => as_aux_lemma => k_is)
    (case c25 => as_aux_lemma => k_is)
    (case k25 => as_aux_lemma => k_is)
    (case a26 => as_aux_lemma => k_is)
    (case l26 => as_aux_lemma => k_is)
    (case c26 => as_aux_lemma => k_is)
    (case k26 => as_aux_lemma => k_is)
    (case a27 => as_aux_lemma => k_is)
    (case l27 => as_aux_lemma => k_is)
    (case c27 => as_aux_lemma => k_is)
    (case k27 => as_aux_lemma => k_is)
    (case a28 => as_aux_lemma => k_is)
    (case l28 => as_aux_lemma => k_is)
    (case c28 => as_aux_lemma => k_is)
    (case k28 => as_aux_lemma => k_is)
    (case a29 => as_aux_lemma => k_is)
    (case l29 => as_aux_lemma => k_is)
    (case c29 => as_aux_lemma => k_is)
    (case k29 => as_aux_lemma => k_is)
    (case a30 => as_aux_lemma => k_is)
    (case l30 => as_aux_lemma => k_is)
    (case c30 => as_aux_lemma => k_is)
    (case k30 => as_aux_lemma => k_is)
    (case a31 => as_aux_lemma => k_is)
    (case l31 => as_aux_lemma => k_is)
    (case c31 => as_aux_lemma => k_is)
    (case k31 => as_aux_lemma => k_is)
    (case a32 => as_aux_lemma => k_is)
    (case l32 => as_aux_lemma => k_is)
    (case c32 => as_aux_lemma => k_is)
    (case k32 => as_aux_lemma => k_is)
    (case a33 => as_aux_lemma => k_is)
    (case l33 => as_aux_lemma => k_is)
    (case c33 => as_aux_lemma => k_is)
    (case k33 => as_aux_lemma => k_is)
    (case a34 => as_aux_lemma => k_is)
    (case l34 => as_aux_lemma => k_is)
    (case c34 => as_aux_lemma => k_is)
    (case k34 => as_aux_lemma => k_is)
    (case a35 => as_aux_lemma => k_is)
    (case l35 => as_aux_lemma => k_is)
    (case c35 => as_aux_lemma => k_is)
    (case k35 => as_aux_lemma => k_is)
    (case a36 => as_aux_lemma => k_is)
    (case l36 => as_aux_lemma => k_is)
    (case c36 => as_aux_lemma => k_is)
    (case k36 => as_aux_lemma => k_is)
    (case a37 => as_aux_lemma => k_is)
    (case l37 => as_aux_lemma => k_is)
    (case c37 => as_aux_lemma => k_is)
    (case k37 => as_aux_lemma => k_is)
    (case a38 => as_aux_lemma => k_is)
    (case l38 => as_aux_lemma => k_is)
    (case c38 => as_aux_lemma => k_is)
    (case k38 => as_aux_lemma => k_is)
    (case a39 => as_aux_lemma => k_is)
    (case l39 => as_aux_lemma => k_is)
    (case c39 => as_aux_lemma => k_is)
    (case k39 => as_aux_lemma => k_is)
    (case a40 => as_aux_lemma => k_is)
    (case l40 => as_aux_lemma => k_is)
    (case c40 => as_aux_lemma => k_is)
    (case k40 => as_aux_lemma => k_is)
    (case n_gcd => as_aux_lemma => k_is)
    (case z_sum => as_aux_lemma => k_is)
    (case z_int => as_aux_lemma => k_is)
    (case z_len => as_aux_lemma => k_is)
    (case z_range => as_aux_lemma => k_is)
    (case z_isinstance => as_aux_lemma => k_is)
    (case z_bool => as_aux_lemma => k_is)
    (case z_tuple => as_aux_lemma => k_is)
    (case z_list => as_aux_lemma => k_is)
    (case z_str => as_aux_lemma => k_is)
    (case z_any => as_aux_lemma => k_is)
    (case z_sorted => as_aux_lemma => k_is)
    (case z_reversed => as_aux_lemma => k_is)
    (case z_enumerate => as_aux_lemma => k_is)
    (case z_all => as_aux_lemma => k_is)
    (case z_zip => as_aux_lemma => k_is)
    (case z_max => as_aux_lemma => k_is)
    (case z_min => as_aux_lemma => k_is)
    (case z_set => as_aux_lemma => k_is)
    (case z_dict => as_aux_lemma => k_is)
    (case n_MOST_CELLS => as_aux_lemma => k_is)
    (case n_MOST_FADE => as_aux_lemma => k_is)
    (case n_MOST_DEEDS => as_aux_lemma => k_is)
    (case cb_g => as_aux_lemma => k_is)
    (case cb_k => as_aux_lemma => k_is)
    (case cb_q => as_aux_lemma => k_exc)
    (case cb_ex => as_aux_lemma => k_is)
    (case cb_ty => as_aux_lemma => k_is)
    (case cb_c => as_aux_lemma => k_is)
    (case cb_s => as_aux_lemma => first | rfl | k_is)
#print axioms PySem.Challenge.cw_fademill_k08_whole_rounds_holds
