import PyProof.Rows.All
import Wide.All
import OpenK.AllK
import Wide.FinOn
import HandS.ForMost
import HandS.Exc
import HandS.TryOnly
import HandS.ExcOwn
import HandS.WordsExc
import HandS.IsInst
import HandS.Wide
import HandS.Style
import PyProof.CollectStr
import PyProof.Rows.RuleB_pow
import HandS.Codes
import HandS.ExcInit
import HandS.ExcField
import HandS.Property
import HandS.Defaults
import PyProof.TupleOfStr
import PySem.Challenge.RW_betweenlists_k03_keys_and_orders
import HandS.Text
import HandS.Replace
import HandS.Star
import HandS.CallSlots
import HandS.Nested
import HandS.FromBytesMap
import KE.SortKeyHeap
import HandS.ExcValue
import KE.LtData
import HandS.EndTab
import KE.KNestM
set_option Elab.async false
set_option linter.all false
set_option maxRecDepth 100000
set_option maxHeartbeats 4000000
namespace Bt
open PySem PySem.Spec PyProof.Rows L2
/-! ### heaps that grow, or that change at one place -/
/-- all but what stands at p is as it was -/
def But (p : Addr) (H H' : Hp) : Prop := ∀ b o, b ≠ p → H b = some o → H' b = some o
theorem But.refl {p : Addr} {H : Hp} : But p H H := fun _ _ _ h => h
theorem But.trans {p : Addr} {H H1 H2 : Hp} (a : But p H H1) (b : But p H1 H2) : But p H H2 := fun c o n h => b c o n (a c o n h)
theorem But.of {p : Addr} {H H' : Hp} (a : Same H H') : But p H H' := fun c o _ h => a c o h
theorem But.upd {p : Addr} {H : Hp} {o : HO} : But p H (upd H p o) := fun b u n h => by rw [upd_ne n]; exact h
theorem Same.new {H : Hp} {p : Addr} {o : HO} (h : H p = none) : Same H (upd H p o) := fun a u e => by
  rw [upd_ne (ne_of_none e h)]; exact e
theorem But.new {q p : Addr} {H : Hp} {o : HO} (h : H p = none) : But q H (L2.upd H p o) := But.of (Same.new h)
theorem But.free {p : Addr} {H H' : Hp} (e : But p H H') {l : Addr} (n : l ≠ p) (h : H' l = none) : H l = none := by
  cases q : H l with
  | none => rfl
  | some o =>
    rw [e l o n q] at h
    cases h
theorem sz {n : Nat} (h : n ≤ 100000) : n ≤ sizeLine := Nat.le_trans h (by decide)
theorem szlt {n : Nat} (h : n < 100000) : n < sizeLine := Nat.lt_of_lt_of_le h (by decide)

/-! ### operators, of several kinds at once -/
section
variable {X : Cx}
def rAddStr : R2 := fun x y H Q => ∃ i j, x = .str i ∧ y = .str j ∧ i.length + j.length ≤ sizeLine ∧ Q (.str (i ++ j)) H
def rAddU : R2 := fun x y H Q => rI0 (fun i j => .int (i + j)) x y H Q ∨ (rAddStr x y H Q ∨ rCat x y H Q)
theorem op_addU : OpR X (binaryOp .Add) rAddU := OpR.or op_add (OpR.or op_add_str op_cat)
def rSub : R2 := rI0 fun i j => .int (i - j)
theorem op_subU : OpR X (binaryOp .Sub) rSub := op_sub
def rMod : R2 := rI (fun _ j => 0 < j) fun i j => .int (i % j)
theorem op_modU : OpR X (binaryOp .Mod) rMod := op_mod
def rFdiv : R2 := rI CDiv fun i j => .int (i / j)
theorem op_fdivU : OpR X (binaryOp .FloorDiv) rFdiv := op_fdiv
def rMulI : R2 := rI CMul fun i j => .int (i * j)
def rMulU : R2 := fun x y H Q => rMulI x y H Q ∨ (rI CMulW (fun i j => .int (i * j)) x y H Q ∨ rRep x y H Q)
theorem op_mulU : OpR X (binaryOp .Mult) rMulU := OpR.or op_mul (OpR.or op_mulW op_rep)
def rLtI : R2 := rI0 fun i j => .bl (decide (i < j))
def rLeI : R2 := rI0 fun i j => .bl (decide (i ≤ j))
def rGtI : R2 := rI0 fun i j => .bl (decide (j < i))
def rGeI : R2 := rI0 fun i j => .bl (decide (j ≤ i))
theorem op_ltI : OpR X (compareOp .Lt) rLtI := op_lt
theorem op_leI : OpR X (compareOp .LtE) rLeI := op_le
theorem op_gtI : OpR X (compareOp .Gt) rGtI := op_gt
theorem op_geI : OpR X (compareOp .GtE) rGeI := op_ge
def rEqU (K : PySem.W.Frag) : R2 := fun x y H Q => rEq x y H Q ∨ rEqD K x y H Q
theorem op_eqU (hu : X.A.units + 64 < cLine) : OpR X (compareOp .Eq) (rEqU X.K) := OpR.or op_eq (op_eqD hu)
def rNeU (K : PySem.W.Frag) : R2 := fun x y H Q => rNe x y H Q ∨ rNeD K x y H Q
theorem op_neU (hu : X.A.units + 64 < cLine) : OpR X (compareOp .NotEq) (rNeU X.K) := OpR.or op_ne (op_neD hu)
end
section
variable {H : Hp} {Q : VK} {i j : Int} {x y : V} {σ : L2.St} {K : PySem.W.Frag}
theorem q_var {n : Nat} {v : V} (h : σ[n]? = some (some v)) (q : Q v H) : tVar n σ H Q := ⟨v, h, q⟩
theorem q_add (q : Q (.int (i + j)) H) : rAddU (.int i) (.int j) H Q := .inl ⟨i, j, rfl, rfl, q⟩
theorem q_addS {a b : Str} (h : a.length + b.length ≤ sizeLine) (q : Q (.str (a ++ b)) H) : rAddU (.str a) (.str b) H Q := .inr (.inl ⟨a, b, rfl, rfl, h, q⟩)
theorem q_cat {l b : Addr} {xs zs : List V} (hl : H l = some (.lst xs)) (hb : H b = some (.lst zs)) (hz : xs.length + zs.length ≤ sizeLine) (q : ∀ p H', H p = none → Same H H' → H' p = some (.lst (xs ++ zs)) → Q (.ref p) H') : rAddU (.ref l) (.ref b) H Q :=
  .inr (.inr ⟨l, b, xs, zs, rfl, rfl, hl, hb, hz, fun p n => q p _ n (Same.new n) upd_same⟩)
theorem q_sub (q : Q (.int (i - j)) H) : rSub (.int i) (.int j) H Q := ⟨i, j, rfl, rfl, q⟩
theorem q_mod (h : 0 < j) (q : Q (.int (i % j)) H) : rMod (.int i) (.int j) H Q := ⟨i, j, rfl, rfl, h, q⟩
theorem q_fdiv (h : 0 < j) (h2 : j < 1073741824) (q : Q (.int (i / j)) H) : rFdiv (.int i) (.int j) H Q := ⟨i, j, rfl, rfl, ⟨h, h2⟩, q⟩
theorem q_mulL (h : -(2 ^ 64) < i ∧ i < 2 ^ 64) (q : Q (.int (i * j)) H) : rMulU (.int i) (.int j) H Q := .inl ⟨i, j, rfl, rfl, .inl h, q⟩
theorem q_mulR (h : -(2 ^ 64) < j ∧ j < 2 ^ 64) (q : Q (.int (i * j)) H) : rMulU (.int i) (.int j) H Q := .inl ⟨i, j, rfl, rfl, .inr h, q⟩
theorem q_lt (q : Q (.bl (decide (i < j))) H) : rLtI (.int i) (.int j) H Q := ⟨i, j, rfl, rfl, q⟩
theorem q_le (q : Q (.bl (decide (i ≤ j))) H) : rLeI (.int i) (.int j) H Q := ⟨i, j, rfl, rfl, q⟩
theorem q_gt (q : Q (.bl (decide (j < i))) H) : rGtI (.int i) (.int j) H Q := ⟨i, j, rfl, rfl, q⟩
theorem q_ge (q : Q (.bl (decide (j ≤ i))) H) : rGeI (.int i) (.int j) H Q := ⟨i, j, rfl, rfl, q⟩
theorem q_eq (h : scal x y = true) (q : Q (.bl (decide (x = y))) H) : rEqU K x y H Q := .inl ⟨h, q⟩
theorem q_ne (h : scal x y = true) (q : Q (.bl (!decide (x = y))) H) : rNeU K x y H Q := .inl ⟨h, q⟩
theorem q_eqD {d e : PyData} (hd : Dp K H x d) (he : Dp K H y e) (sd : SeqAt.shaped d = true) (se : SeqAt.shaped e = true) (q : Q (.bl (PyData.eqv d e)) H) : rEqU K x y H Q := .inr ⟨d, e, hd, he, sd, se, q⟩
theorem q_neD {d e : PyData} (hd : Dp K H x d) (he : Dp K H y e) (sd : SeqAt.shaped d = true) (se : SeqAt.shaped e = true) (q : Q (.bl (!PyData.eqv d e)) H) : rNeU K x y H Q := .inr ⟨d, e, hd, he, sd, se, q⟩
theorem q_ixL {p : Addr} {xs : List V} {v : V} (h : SqL K H p xs) (ha : atI xs i = some v) (q : Q v H) : rIx K (.ref p) (.int i) H Q := .inl ⟨p, xs, i, v, rfl, rfl, h, ha, q⟩
theorem q_ixT {p : Addr} {xs : List V} {v : V} (h : SqT K H p xs) (ha : atI xs i = some v) (q : Q v H) : rIx K (.ref p) (.int i) H Q := .inr (.inl ⟨p, xs, i, v, rfl, rfl, h, ha, q⟩)
theorem q_ixS {z : Str} {c : Nat} (hz : z.length ≤ sizeLine) (ha : atI z.cps.toList i = some c) (q : Q (.str ⟨#[c]⟩) H) : rIx K (.str z) (.int i) H Q := .inr (.inr ⟨z, i, c, rfl, rfl, hz, ha, q⟩)
theorem q_test {b : Bool} {R : Bool → Prop} (q : R b) : ∃ k, V.bl b = .bl k ∧ R k := ⟨b, rfl, q⟩
end

/-- a display's new object -/
def rNewT (Q : VK) (xs : List V) (H : Hp) : Prop := xs.length ≤ sizeLine ∧ ∀ p, H p = none → Q (.ref p) (upd H p (.tup xs))
def rNewL (Q : VK) (xs : List V) (H : Hp) : Prop := xs.length ≤ sizeLine ∧ ∀ p, H p = none → Q (.ref p) (upd H p (.lst xs))
/-! ### steps: one lemma a word -/
section
variable {σ : L2.St} {H : Hp} {Q : VK} {R : Bool → Hp → Prop} {D : Ends} {ta tb tc te to : TE} {t u : TS} {c d : TT} {ts tr : TA} {r r' : R2} {g : TG} {K : PySem.W.Frag} {v : V} {n i : Nat}
theorem s_seq (h : t { D with nx := u D } σ H) : tSeq t u D σ H := h
theorem s_next (h : D.nx σ H) : tNext D σ H := h
theorem s_drop (h : te σ H fun _ H1 => D.nx σ H1) : tDrop te D σ H := h
theorem s_ret (h : te σ H D.rt) : tRet te D σ H := h
theorem s_retN (h : D.rt .non H) : tRetN D σ H := h
theorem s_ifS (h : c σ H fun b H1 => if b = true then t D σ H1 else u D σ H1) : tIfS c t u D σ H := h
theorem s_asg (h : te σ H fun x H1 => g x σ H1 D.nx) : tAsg te g D σ H := h
theorem s_gname {N : L2.St → Hp → Prop} (h : N (σ.set i (some v)) H) : gName i v σ H N := h
theorem s_var (h : σ[i]? = some (some v)) (q : Q v H) : tVar i σ H Q := ⟨v, h, q⟩
theorem s_c (q : Q v H) : tC v σ H Q := q
theorem s_op (h : ta σ H fun x H1 => tb σ H1 fun y H2 => r x y H2 Q) : tOp r ta tb σ H Q := h
theorem s_test (h : te σ H fun x H' => ∃ k, x = .bl k ∧ R k H') : tTest te σ H R := h
theorem s_B (h : te σ H fun x H' => ∃ k, x = .bl k ∧ R k H') : tB te σ H R := h
theorem s_andT (h : c σ H fun b H1 => if b = true then d σ H1 R else R false H1) : tAnd c d σ H R := h
theorem s_orT (h : c σ H fun b H1 => if b = true then R true H1 else d σ H1 R) : tOr c d σ H R := h
theorem s_notT (h : c σ H fun b H1 => R (!b) H1) : tNot c σ H R := h
theorem s_andV (h : ta σ H fun x H1 => ∃ c, x = .bl c ∧ if c = true then tb σ H1 Q else Q (.bl false) H1) : tAndV ta tb σ H Q := h
theorem s_orV (h : ta σ H fun x H1 => ∃ c, x = .bl c ∧ if c = true then Q (.bl true) H1 else tb σ H1 Q) : tOrV ta tb σ H Q := h
theorem s_notV (h : ta σ H fun x H1 => ∃ c, x = .bl c ∧ Q (.bl (!c)) H1) : tNotV ta σ H Q := h
theorem s_ifV (h : c σ H fun b H1 => if b = true then ta σ H1 Q else tb σ H1 Q) : tIf c ta tb σ H Q := h
theorem s_chain (h : ta σ H fun x H1 => tb σ H1 fun y H2 => r x y H2 fun z H3 => ∃ k, z = .bl k ∧ (if k = true then tc σ H3 fun w' H4 => r' y w' H4 Q else Q (.bl false) H3)) : tChain r r' ta tb tc σ H Q := h
theorem s_nil {R : List V → Hp → Prop} (q : R [] H) : tNil σ H R := q
theorem s_cons {R : List V → Hp → Prop} (h : te σ H fun x H1 => ts σ H1 fun xs H2 => R (x :: xs) H2) : tCons te ts σ H R := h
/-- a display: the new object by what is known of it -/
theorem s_tup (h : ts σ H fun xs H1 => rNewT Q xs H1) : tTup ts σ H Q := h
theorem s_lst (h : ts σ H fun xs H1 => rNewL Q xs H1) : tLst ts σ H Q := h
theorem q_newT {xs : List V} (hl : xs.length ≤ sizeLine) (q : ∀ p H', H p = none → Same H H' → H' p = some (.tup xs) → Q (.ref p) H') : rNewT Q xs H := ⟨hl, fun p n => q p _ n (Same.new n) upd_same⟩
theorem q_newL {xs : List V} (hl : xs.length ≤ sizeLine) (q : ∀ p H', H p = none → Same H H' → H' p = some (.lst xs) → Q (.ref p) H') : rNewL Q xs H := ⟨hl, fun p n => q p _ n (Same.new n) upd_same⟩
theorem new_by {o : HO} {R : Addr → Hp → Prop} (h : ∀ p H', H p = none → Same H H' → H' p = some o → R p H') : ∀ p, H p = none → R p (upd H p o) := fun p n => h p _ n (Same.new n) upd_same
theorem s_call {sp : Sp} {dvs : List V} {E : XK} (h : ts σ H fun vs H1 => sp (vs ++ dvs) H1 Q E) : tCall sp dvs E ts σ H Q := h
theorem s_CB {f : List V → Hp → VK → Prop} (h : ts σ H fun vs H1 => f vs H1 Q) : tCB f ts σ H Q := h
theorem s_BM {T : String} {f : V → List V → Hp → VK → Prop} (h : to σ H fun x H1 => tyV K T x H1 ∧ ts σ H1 fun xs H2 => f x xs H2 Q) : tBM K T f to ts σ H Q := h
theorem s_sl {f : V → Option Int → Option Int → Hp → VK → Prop} {tl th : TO} (h : te σ H fun x H1 => tl σ H1 fun l H2 => th σ H2 fun u H3 => f x l u H3 Q) : tSl f te tl th σ H Q := h
theorem s_noPart {R : Option Int → Hp → Prop} (q : R none H) : tNoPart σ H R := q
theorem s_part {R : Option Int → Hp → Prop} (h : te σ H fun x H1 => ∃ i, x = .int i ∧ R (some i) H1) : tPart te σ H R := h
theorem s_gsub {f : TSet} {N : L2.St → Hp → Prop} (h : to σ H fun o H1 => te σ H1 fun i H2 => f o i v H2 fun H3 => N σ H3) : gSub to te f v σ H N := h
theorem s_int {j : Int} {R : Int → Prop} (q : R j) : ∃ i, V.int j = .int i ∧ R i := ⟨j, rfl, q⟩
theorem s_ifT {A B : Prop} (h : A) : if true = true then A else B := by rw [if_pos rfl]; exact h
theorem s_ifF {A B : Prop} (h : B) : if false = true then A else B := by rw [if_neg Bool.false_ne_true]; exact h
theorem s_if {k : Bool} {A B : Prop} (h : k = true → A) (h' : k = false → B) : if k = true then A else B := by
  cases k with
  | true => exact s_ifT (h rfl)
  | false => exact s_ifF (h' rfl)
theorem q_setL {p : Addr} {xs : List V} {k : Int} {j : Nat} {R : Hp → Prop} (h : H p = some (.lst xs)) (hj : ixN xs.length k = some j) (q : R (upd H p (.lst (xs.set j v)))) : rSetL (.ref p) (.int k) v H R := ⟨p, xs, k, j, rfl, rfl, h, hj, q⟩
theorem s_if1 {k : Bool} {A B : Prop} (e : k = true) (h : A) : if k = true then A else B := by subst e; exact s_ifT h
theorem s_if0 {k : Bool} {A B : Prop} (e : k = false) (h : B) : if k = true then A else B := by subst e; exact s_ifF h
theorem s_ifD {p : Prop} {inst : Decidable p} {A B : Prop} (h : p → A) (h' : ¬ p → B) : if @decide p inst = true then A else B := by
  by_cases z : p
  · rw [decide_eq_true z]; exact s_ifT (h z)
  · rw [decide_eq_false z]; exact s_ifF (h' z)
end
end Bt
namespace Bt
open PySem PySem.Spec PyProof.Rows L2
section
variable {X : Cx}
/-! ### a power of any base -/
def CPowW (i j : Int) : Prop := 0 ≤ j ∧ (Builtin.Int.intBits i : Int) * j ≤ 2 ^ 27
theorem op_powW : OpR X (binaryOp .Pow) (rI CPowW fun i j => .int (i ^ j.toNat)) := opI fun _ _ _ _ _ _ _ hc q => pow_int hc.1 hc.2 q
/-! ### text[::-1] -/
def revT (z : Str) : Str := ⟨((Builtin.Str.strSliceIndices none none (-1) z.length).filterMap (z.cps[·]?)).toArray⟩
def tRevS (te : TE) : TE := fun σ H Q => te σ H fun x H1 => ∃ z, x = .str z ∧ (revT z).length ≤ sizeLine ∧ Q (.str (revT z)) H1
theorem pe_revS {e : Expr} {te : TE} {k : Nat} {p1 p2 p3 pos : Pos} (he : PE X e te) : PE X (.Subscript e (.Slice none none (some (.UnaryOp .USub (.Constant (.int 1) k p1) p2)) p3) pos) (tRevS te) := by
  refine ⟨fun pins s σ H Q I h => ?_⟩
  refine Subscript_ (thn (he.run pins s σ H _ I h) fun v s1 ⟨x, H1, I1, r1, q1⟩ => ?_)
  obtain ⟨z, ex, hz, q⟩ := q1
  subst ex
  obtain ⟨t, rfl⟩ := r1
  have hst : PO X (some (.UnaryOp .USub (.Constant (.int 1) k p1) p2)) (tPart (tUn (rU fun i => .int (-i)) (tC (.int 1)))) := po_some (pe_un un_neg pe_int)
  refine wpAny_Slice (thn (po_none.run pins s1 σ H1 (fun o H2 => o = none ∧ H2 = H1) I1 ⟨rfl, rfl⟩) fun vl s2 ⟨l, H2, I2, pl, el, e2⟩ => ?_)
  subst el e2
  refine thn (po_none.run pins s2 σ H2 (fun o H3 => o = none ∧ H3 = H2) I2 ⟨rfl, rfl⟩) fun vu s3 ⟨u, H3, I3, pu, eu, e3⟩ => ?_
  subst eu e3
  refine thn (hst.run pins s3 σ H3 (fun o H4 => o = some (-1) ∧ H4 = H3) I3 ⟨1, rfl, -1, rfl, rfl, rfl⟩) fun vs s4 ⟨o, H4, I4, ps, eo, e4⟩ => ?_
  subst eo e4
  have I5 : Inv X pins σ H4 { s4 with heap := s4.heap.push { cls := .type "slice", data := .fields #[vl, vu, vs] } } := I4.kept (t' := s4.toks) fun b ob q => Heap.get?_push_of_some _ q
  obtain ⟨l, rfl, el⟩ := IsPart.raw pl
  obtain ⟨u, rfl, eu⟩ := IsPart.raw pu
  obtain ⟨st, rfl, es⟩ := IsPart.raw ps
  show wpAny (model X.prog X.w) X.A (subscriptTail e (.Slice none none (some (.UnaryOp .USub (.Constant (.int 1) k p1) p2)) p3) (.str z t) (.ref s4.heap.objs.size)) (EP X pins σ Q) X.xe { s4 with heap := s4.heap.push { cls := .type "slice", data := .fields #[partValue l, partValue u, partValue st] } }
  have e1 : ((st.map (·.1)).getD 1) = -1 := by rw [es]; rfl
  refine tail_any (ops := [.ref s4.heap.objs.size, .str z t]) (typeIs_str _ _ _) (F.slot_str_getitem.lookup) ?_ (by with_unfolding_all rfl)
  refine wpAny_getItem_str_slice (l := l) (u := u) (st := st) (Heap.IsSliceOf.new _ _ _ _) (by rw [e1]; rfl) ?_
  show Made.post (if ((((st.map (·.1)).getD 1) == 1 && (Builtin.Str.strSliceIndices (l.map (·.1)) (u.map (·.1)) ((st.map (·.1)).getD 1) z.length).length == z.length) = true) then Made.val (.str z t)
    else Made.str ⟨((Builtin.Str.strSliceIndices (l.map (·.1)) (u.map (·.1)) ((st.map (·.1)).getD 1) z.length).filterMap (z.cps[·]?)).toArray⟩) (EP X pins σ Q) _
  rw [e1, el, eu, if_neg (by simp)]
  exact ⟨hz, .str _, H4, I5.tok _, ⟨_, rfl⟩, q⟩
end
/-! ### sorted(text) -/
/-- the signs of a text, each as a text -/
def signs (z : Str) : List Str := z.cps.toList.map fun c => ⟨#[c]⟩
theorem strs_of_signs {z : Str} {acc : Array Value} (h : ItemsOf (SignAt z) acc z.cps.size) : StrsAre acc.toList (signs z) := by
  have key : ∀ (l : List Value) (m : List Nat), l.length = m.length → (∀ (j : Nat) (v : Value) (c : Nat), l[j]? = some v → m[j]? = some c → ∃ u, v = .str ⟨#[c]⟩ u) → StrsAre l (m.map fun c => ⟨#[c]⟩) := by
    intro l
    induction l with
    | nil =>
      intro m hl _
      cases m with
      | nil => exact .nil
      | cons a r => cases hl
    | cons x l ih =>
      intro m hl hm
      cases m with
      | nil => cases hl
      | cons c r =>
        obtain ⟨u, e⟩ := hm 0 x c rfl rfl
        rw [e]
        exact .cons _ _ (ih r (Nat.succ.inj hl) fun j v d h1 h2 => hm (j + 1) v d (by simpa using h1) (by simpa using h2))
  refine key _ _ (by rw [Array.length_toList, Array.length_toList, h.1]) fun j v c h1 h2 => ?_
  obtain ⟨d, u, e1, e2⟩ := h.2 j v (by rw [← Array.getElem?_toList]; exact h1)
  rw [← Array.getElem?_toList, h2] at e1
  cases e1
  exact ⟨u, e2⟩
section
variable {X : Cx}
def rSortTx : List V → Hp → VK → Prop := fun vs H Q => ∃ z : Str, vs = [V.str z] ∧ z.length < 64 ∧ ∀ (ys : List Str) (p : Addr), ys.Perm (signs z) → sortedS ys = true → H p = none → Q (.ref p) (upd H p (.lst (ys.map V.str)))
theorem cr_sortedTx (hc : X.calm = true) : CallR X (.builtin "sorted") rSortTx := by
  intro pins s σ H vs us Q I r h
  obtain ⟨z, rfl, h64, q⟩ := h
  obtain ⟨u, rfl, rx⟩ := vals1 r
  obtain ⟨t, rfl⟩ := rx
  have hz : z.cps.size ≤ sizeLine := sz (Nat.le_of_lt (Nat.lt_trans h64 (by decide)))
  refine PySem.Calls.call_function_entry kind_sorted plain_sorted entry_sorted (args_sorted1 _) ?_
  unfold Builtin.«sorted»
  refine wpAny_bind (m := checkCount "sorted" 1 1 _) (wpAny_pure ?_)
  refine wpAny_bind (wpAny_collect_str (show X.A.in1.handled = none from I.ok.hd hc) z t (fun s' acc k eg ed eo hacc => ?_) hz)
  have hS := strs_of_signs hacc
  have hlen : acc.toList.length < 64 := by rw [Array.length_toList, hacc.1]; exact h64
  refine wpAny_bind (wpAny_newList ?_ (sz (by omega)))
  obtain ⟨hp, g, d, tk, os⟩ := s'
  dsimp only at eg ed eo
  subst eg ed eo
  have ho : (hp.push (seqObj "list" acc.toList.toArray 0)).get? hp.objs.size = some (seqObj "list" acc.toList.toArray 0) := Heap.get?_push_size _ rfl
  refine wpAny_bind (wpAny_holding (wpAny_call_entry slot_list_sort ⟨_, ho, rfl⟩ entry_list_sort (list_sort_treeK strKind_oneLt ho hS.keysOf (fun v₁ v₂ rest e => keyKind_strs (by rw [← e]; exact hS)) hlen fun st' a1 a2 => ⟨_, rfl, ?_⟩) (args_list_sort _)))
  obtain ⟨ss', h1, h2, h3⟩ := sorted_out_str hS a1 a2
  obtain ⟨ep, he⟩ := sortedHeap_at (vs := acc.toList) (out := (arrOf st').map (·.2)) (n := 0) ho
  have I1 : Inv X pins σ H ⟨hp, s.gens, s.drawn, tk, s.os⟩ := I.kept (t' := tk) k
  have old : ∀ b o, hp.get? b = some o → (sortedHeap (hp.push (seqObj "list" acc.toList.toArray 0)) hp.objs.size acc.toList ((arrOf st').map (·.2))).get? b = some o := fun b o e2 => by
    have hlt := Heap.lt_size e2
    rw [sortedHeap_old (Nat.ne_of_lt hlt) (by rw [size_push']; exact Nat.lt_succ_of_lt hlt), Heap.get?_push_ne _ _ _ (Nat.ne_of_lt hlt)]
    exact e2
  refine wpAny_pure ⟨_, rfl, ?_⟩
  have hl2 : (ss'.map V.str).length ≤ sizeLine := by rw [List.length_map, h2.length_eq]; exact sz (by unfold signs; rw [List.length_map, Array.length_toList]; exact Nat.le_of_lt (Nat.lt_trans h64 (by decide)))
  exact ⟨.ref _, upd H hp.objs.size (.lst (ss'.map V.str)), I1.laid (t' := tk) old (Nat.le_refl _) ⟨hl2, ((arrOf st').map (·.2)).toList, ep, vals_of_strs h1, he⟩, rfl, q ss' _ h2 h3 (I1.hok.fresh (Nat.le_refl _))⟩
end
end Bt
namespace Bt
open PySem PySem.Spec PyProof.Rows L2
variable {X : Cx}
/-! ### tuple(text) -/
theorem vals_of_signs {z : Str} {acc : Array Value} (h : ItemsOf (SignAt z) acc z.cps.size) : Vals ((signs z).map V.str) acc.toList := vals_of_strs (strs_of_signs h)
def rTupTx : List V → Hp → VK → Prop := fun vs H Q => ∃ z : Str, vs = [V.str z] ∧ z.length ≤ sizeLine ∧ ∀ p, H p = none → Q (.ref p) (upd H p (.tup ((signs z).map V.str)))
theorem q_tupTx {H : Hp} {Q : VK} {z : Str} (h : z.length ≤ sizeLine) (q : ∀ p H', H p = none → Same H H' → H' p = some (.tup ((signs z).map V.str)) → Q (.ref p) H') : rTupTx [.str z] H Q := ⟨z, rfl, h, fun p n => q p _ n (Same.new n) upd_same⟩
theorem call_tupleTx (hc : X.calm = true) : CallR X (.type "tuple") rTupTx := by
  intro pins s σ H vs us Q I r h
  obtain ⟨z, rfl, hz, q⟩ := h
  obtain ⟨u, rfl, rx⟩ := vals1 r
  obtain ⟨t, rfl⟩ := rx
  refine call_tuple_str (I.ok.hd hc) z t (fun h' tk acc k hacc => ?_) hz
  have I1 : Inv X pins σ H { s with heap := h', toks := tk } := I.kept (t' := tk) k
  have hl : ((signs z).map V.str).length ≤ sizeLine := by
    unfold signs
    rw [List.length_map, List.length_map, Array.length_toList]
    exact hz
  refine ⟨.ref h'.objs.size, _, I1.laid (t' := tk) (a := h'.objs.size) (o := .tup ((signs z).map V.str)) (fun b o e => Heap.get?_push_of_some _ e) (Nat.le_refl _) ⟨hl, acc.toList, vals_of_signs hacc, ?_⟩, rfl, q _ (I1.hok.fresh (Nat.le_refl _))⟩
  have e : acc.toList.toArray = acc := by simp
  rw [e]
  exact IsTup.new _ _
/-! ### C(e, ..), C's __init__ may raise; what is raised is wished for at the caller's slots -/
section
variable {CX : CXT} {k : Nat} {C f : Addr} {fd : FuncData} {ps : List Str} {sp : Sp} {dvs : List V} {ds : List Value} {E : L2.St → XK} {x : Str} {p pos : Pos} {e : Expr} {es : List Expr} {t : TA}
def tMakeS (C : Addr) (sp : Sp) (dvs : List V) (E : L2.St → XK) (t : TA) : TE := fun σ H Q => t σ H fun vs H1 => ∀ x dx, H1 x = none → H1 dx = none → dx ≠ x →
  sp (.ref x :: (vs ++ dvs)) (upd (upd H1 dx (.own x)) x (.ins C dx [])) (fun v H2 => v = .non ∧ Q (.ref x) H2) (E σ)
theorem run_makeS {pins : List (Addr × Obj)} {σ : L2.St} {H : Hp} {s : Shared} {Q : VK} {us : List Value} {vs : List V} (M : Mk X.K C f) (F : FnOk X.prog X.w X.K X.mg X.base CX k f fd ps sp) (hr : Room (k + 1) X.A) (hb : Binds X.K fd ps ds) (hd : Vals dvs ds)
    (hx : PassesAt CX X σ (E σ)) (I : Inv X pins σ H s) (r : Vals vs us)
    (h : ∀ x dx, H x = none → H dx = none → dx ≠ x → sp (.ref x :: (vs ++ dvs)) (upd (upd H dx (.own x)) x (.ins C dx [])) (fun v H2 => v = .non ∧ Q (.ref x) H2) (E σ)) :
    wpAny (model X.prog X.w) X.A (call (.ref C) us) (EP X pins σ Q) X.xe s := by
  have hq := h (s.heap.objs.size + 1) s.heap.objs.size (I.hok.fresh (Nat.le_succ _)) (I.hok.fresh (Nat.le_refl _)) (Nat.ne_of_lt (Nat.lt_succ_self _))
  have I2 := Inv.made (C := C) I
  have r2 : Vals (V.ref (s.heap.objs.size + 1) :: (vs ++ dvs)) (Value.ref (s.heap.objs.size + 1) :: (us ++ ds)) := .cons rfl (r.append hd)
  have hl : (Value.ref (s.heap.objs.size + 1) :: us ++ ds).length = ps.length := by
    have e := r2.length
    rw [F.len _ _ _ _ hq] at e
    exact e.symm
  refine wpAny_call (make_map (f := f) I.kIn M.makes M.init (beq_iff_eq.mp M.fn) (codeAny_mono (F.run _ X.stack _ _ ⟨Value.ref (s.heap.objs.size + 1) :: us, []⟩ (Value.ref (s.heap.objs.size + 1) :: (us ++ ds)) _ _ (E σ) (hr.make C us [])
    (I2.env0.make C us []) (hb _ (Value.ref (s.heap.objs.size + 1) :: us) I2.kIn hl) r2 hq) fun r s' hq' => ?_))
  cases r with
  | error e => exact hx pins _ _ e s' I2 hq'
  | ok fl =>
    cases fl with
    | ret u =>
      obtain ⟨v, H', I3, rv, ev, q3⟩ := I2.after hq'
      subst ev
      exact ⟨rv, ⟨V.ref (s.heap.objs.size + 1), H', I3, rfl, q3⟩⟩
    | next => exact False.elim hq'
    | brk => exact False.elim hq'
    | cont => exact False.elim hq'
theorem pe_makeS (M : Mk X.K C f) (F : FnOk X.prog X.w X.K X.mg X.base CX k f fd ps sp) (hr : Room (k + 1) X.A) (hg : Gl X x) (hm : X.mg x = some (.ref C)) (hb : Binds X.K fd ps ds) (hd : Vals dvs ds) (hx : ∀ σ, PassesAt CX X σ (E σ))
    (ha : PA X (e :: es) t) (hdb : (x == ("__debug__" : Str)) = false := by decide) (he : starEach (e :: es) X.env = (false, eval e X.env) :: starEach es X.env := by rfl) (hpl : (backTo pos (starEach es X.env)).any (·.1) = false := by rfl) :
    PE X (.Call (.Name x p) (e :: es) [] pos) (tMakeS C sp dvs E t) := by
  refine ⟨fun pins s σ H Q I h => ?_⟩
  refine wpAny_Call_Name_kw (ld_glob I hg hm ?_ hdb)
  refine PySem.W.callWith_K (h₀ := X.base) I.ok.mod.kin M.kp (thn (ha.run pos pins s σ H _ I h) fun us s1 ⟨vs, H1, I1, r, q⟩ => ⟨I1.kIn, ?_⟩) he hpl
  exact run_makeS M F hr hb hd (hx σ) I1 r q
end
/-! ### a comprehension over a text -/
theorem lc_str {z : Str} {g : TG} {tt : TT} {te : TE} {vs : List Nat} {σ : L2.St} {H1 : Hp} {D : Addr} {Qd : Hp → Prop} (Pv : Nat → Hp → Prop) (h0 : Pv 0 (upd H1 D (.lst [])))
    (hs : ∀ i (c : Nat) H, z.cps.toList[i]? = some c → Pv i H → g (.str ⟨#[c]⟩) (wipe σ vs) H fun σ2 H2 => wipe σ2 vs = wipe σ vs ∧ tt σ2 H2 fun b H3 =>
      if b = true then te σ2 H3 fun y H4 => ∃ acc, H4 D = some (.lst acc) ∧ acc.length < sizeLine ∧ Pv (i + 1) (upd H4 D (.lst (acc ++ [y]))) else Pv (i + 1) H3) (hd : ∀ H, Pv z.cps.size H → Qd H) :
    ∃ W : Nat → Nat → Hp → Prop, (∃ m, W 0 m (upd H1 D (.lst []))) ∧ ∀ i m H, W i m H →
      ((Its z).stop i H ∧ Qd H) ∨ ((Its z).go i H ∧ ∃ Nx : Hp → Prop, (∀ H', Nx H' → ∃ m', m' < m ∧ W (i + 1) m' H') ∧ ∀ x H', (Its z).yld i H x H' → g x (wipe σ vs) H' fun σ2 H2 => wipe σ2 vs = wipe σ vs ∧ tt σ2 H2 fun b H3 =>
        if b = true then te σ2 H3 fun y H4 => ∃ acc, H4 D = some (.lst acc) ∧ acc.length < sizeLine ∧ Nx (upd H4 D (.lst (acc ++ [y]))) else Nx H3) := by
  refine ⟨fun i m H => m = z.cps.size - i ∧ i ≤ z.cps.size ∧ Pv i H, ⟨z.cps.size, by simp, Nat.zero_le _, h0⟩, ?_⟩
  rintro i m H ⟨rfl, hi, p⟩
  by_cases hlt : i < z.cps.size
  · refine .inr ⟨hlt, Pv (i + 1), fun H' p' => ⟨z.cps.size - (i + 1), by omega, rfl, hlt, p'⟩, fun x H' y => ?_⟩
    obtain ⟨e, c, hc, ex⟩ := y
    subst e ex
    exact hs i c _ (by rw [Array.getElem?_toList]; exact hc) p
  · have e : i = z.cps.size := by omega
    subst e
    exact .inl ⟨Nat.le_refl _, hd H p⟩
theorem s_lc {wi : TI} {g : TG} {tt : TT} {te : TE} {vs : List Nat} {σ : L2.St} {H : Hp} {Q : VK} (h : wi σ H fun J H1 => ∀ D, H1 D = none → ∃ W : Nat → Nat → Hp → Prop, (∃ m, W 0 m (upd H1 D (.lst []))) ∧ ∀ i m H, W i m H →
  (J.stop i H ∧ Q (.ref D) H) ∨ (J.go i H ∧ ∃ Nx : Hp → Prop, (∀ H', Nx H' → ∃ m', m' < m ∧ W (i + 1) m' H') ∧ ∀ x H', J.yld i H x H' → g x (wipe σ vs) H' fun σ2 H2 => wipe σ2 vs = wipe σ vs ∧ tt σ2 H2 fun b H3 =>
    if b = true then te σ2 H3 fun y H4 => ∃ acc, H4 D = some (.lst acc) ∧ acc.length < sizeLine ∧ Nx (upd H4 D (.lst (acc ++ [y]))) else Nx H3)) : tLc wi g tt te vs σ H Q := h
theorem s_yes {σ : L2.St} {H : Hp} {R : Bool → Hp → Prop} (h : R true H) : tYes σ H R := h
theorem same_mut {H H' : Hp} {p : Addr} {o : HO} (e : Same H H') (h : H p = none) : Same H (upd H' p o) := fun a u ha => by
  rw [upd_ne (ne_of_none ha h)]
  exact e a u ha
theorem take_map_more {α β : Type} {f : α → β} {l : List α} {j : Nat} {x : α} (h : l[j]? = some x) : (l.take (j + 1)).map f = (l.take j).map f ++ [f x] := by
  rw [List.take_add_one, h, List.map_append]
  rfl
theorem s_iStr {te : TE} {σ : L2.St} {H : Hp} {R : It → Hp → Prop} (h : te σ H fun v H1 => ∃ x, v = .str x ∧ R (Its x) H1) : iStr te σ H R := h
theorem s_M0 {to : TE} {r : V → List V → Hp → VK → Prop} {σ : L2.St} {H : Hp} {Q : VK} (h : to σ H fun x H1 => (∃ a, x = .str a) ∧ r x [] H1 Q) : tM0 r to σ H Q := h
/-! ### x == y, x an instance of an own class with __eq__ -/
def rEqOwn (K : PySem.W.Frag) (C : Addr) (sp : Sp) (E : XK) : R2 := fun x y H Q => ∃ a dx fs t, x = .ref a ∧ H a = some (.ins C dx fs) ∧ TyX K H y t ∧ PySem.W.notFirst K C t = true ∧ sp [x, y] H (fun v H' => ∃ b, v = .bl b ∧ Q v H') E
theorem op_eqOwn {CX : CXT} {n : Nat} {C f : Addr} {fd : FuncData} {ps : List Str} {sp : Sp} {E : XK} (F : FnOk X.prog X.w X.K X.mg X.base CX n f fd ps sp) (hr : Room n X.A)
    (hs : PySem.W.findIn X.K (.ref C) "__eq__" = some (some (.ref f))) (hf : PySem.W.isFn X.K (.ref f) = true) (hb : Binds X.K fd ps []) (hx : Passes CX X E) : OpR X (compareOp .Eq) (rEqOwn X.K C sp E) := by
  intro pins s σ H x y v u Q I rx ry hq
  obtain ⟨a, dx, fs, t, rfl, ha, ty, hn, hsp⟩ := hq
  cases rx
  obtain ⟨mA, J, _⟩ := ins_get I.hok ha
  obtain ⟨od, J, _⟩ := J.look
  obtain ⟨m, hF⟩ := I.fr
  obtain ⟨P, Z, p, _⟩ := kit_of I ry ty
  show wpAny (model X.prog X.w) X.A (richCompare .Eq (.ref a) u) (EP X pins σ Q) X.xe s
  refine PySem.W.cmp_K (op := .Eq) (tb := t) hr.units0 hF I.ok.mod.kin J (Z.ty _ _ I.kIn p) hn hs hf ?_
  have hl := F.len _ _ _ _ hsp
  have r2 : Vals [V.ref a, y] [Value.ref a, u] := .cons rfl (.cons ry .nil)
  refine wpAny_call (codeAny_mono (F.run X.A X.stack s H ⟨[.ref a, u], []⟩ [.ref a, u] [.ref a, y] _ E hr I.env0 (by
    have := hb s [.ref a, u] I.kIn (by simpa using hl)
    simpa using this) r2 hsp) fun r s' hq => ?_)
  cases r with
  | error e => exact hx pins σ H s e s' I hq
  | ok fl =>
    cases fl with
    | ret w =>
      obtain ⟨z, H', I', rz, b, ez, q⟩ := I.after hq
      subst ez
      cases rz
      exact ⟨.bl b, H', I', rfl, q⟩
    | next => exact False.elim hq
    | brk => exact False.elim hq
    | cont => exact False.elim hq
end Bt
namespace Bt
open PySem PyProof.Rows
/-! ### letters -/
abbrev sg (c : Nat) : Str := ⟨#[c]⟩
def alphaS : Str := "abcdefghijklmnopqrstuvwxyz"
def alpha : List Nat := (List.range 26).map (97 + ·)
theorem alphaS_cps : alphaS.cps.toList = alpha := by decide +kernel
theorem alpha_len : alpha.length = 26 := by decide
theorem mem_alpha {c : Nat} : c ∈ alpha ↔ 97 ≤ c ∧ c ≤ 122 := by
  unfold alpha
  rw [List.mem_map]
  constructor
  · rintro ⟨a, h, rfl⟩
    have := List.mem_range.mp h
    omega
  · rintro ⟨h1, h2⟩
    exact ⟨c - 97, List.mem_range.mpr (by omega), by omega⟩
theorem alpha_nd : alpha.Nodup := by decide
/-- the letters of a form -/
def Letters (z : Str) : Prop := z.cps.toList.Perm alpha
instance {z : Str} : Decidable (Letters z) := inferInstanceAs (Decidable (List.Perm _ _))
theorem rising_pw : ∀ (cs : List Nat) (p : Nat), risingS (sg p) (cs.map sg) = true → (p :: cs).Pairwise (· ≤ ·)
  | [], p, _ => List.pairwise_singleton _ _
  | c :: cs, p, h => by
    have h' : (!Spec.ltCps [c] [p] && risingS (sg c) (cs.map sg)) = true := h
    obtain ⟨h1, h2⟩ := Bool.and_eq_true_iff.mp h'
    have ih := rising_pw cs c h2
    have hpc : p ≤ c := by
      rw [ltCps_eq] at h1
      rcases Nat.lt_or_ge c p with k | k
      · have : ([c] : List Nat) < [p] := List.Lex.rel k
        simp [this] at h1
      · exact k
    refine List.pairwise_cons.mpr ⟨fun a ha => ?_, ih⟩
    rcases List.mem_cons.mp ha with e | ha
    · rw [e]; exact hpc
    · exact Nat.le_trans hpc ((List.pairwise_cons.mp ih).1 a ha)
theorem sorted_pw (cs : List Nat) (h : sortedS (cs.map sg) = true) : cs.Pairwise (· ≤ ·) := by
  cases cs with
  | nil => exact List.Pairwise.nil
  | cons c cs => exact rising_pw cs c h
theorem sg_inj : Function.Injective sg := fun a b h => by
  have : (#[a] : Array Nat) = #[b] := congrArg Str.cps h
  simpa using this
theorem signs_eq (z : Str) : signs z = z.cps.toList.map sg := rfl
theorem perm_signs {z : Str} {ys : List Str} (h : ys.Perm (signs z)) : ∃ cs : List Nat, ys = cs.map sg ∧ cs.Perm z.cps.toList := by
  let f : Str → Nat := fun s => s.cps.toList.headD 0
  have fs : ∀ c, f (sg c) = c := fun c => rfl
  refine ⟨ys.map f, ?_, ?_⟩
  · rw [List.map_map]
    have : ∀ y ∈ ys, (sg ∘ f) y = y := fun y hy => by
      have := h.mem_iff.mp hy
      rw [signs_eq, List.mem_map] at this
      obtain ⟨c, _, rfl⟩ := this
      rfl
    exact ((List.map_congr_left this).trans (List.map_id _)).symm
  · have := h.map f
    rw [signs_eq, List.map_map] at this
    have e : (z.cps.toList).map (f ∘ sg) = z.cps.toList := (List.map_congr_left (fun c _ => fs c)).trans (List.map_id _)
    rw [e] at this
    exact this
theorem eqvAll_strs : ∀ (xs ys : List Str), PyData.eqvAll (xs.map .str) (ys.map .str) = decide (xs = ys)
  | [], [] => by simp [PyData.eqvAll]
  | [], y :: ys => by simp [PyData.eqvAll]
  | x :: xs, [] => by simp [PyData.eqvAll]
  | x :: xs, y :: ys => by
    have ih := eqvAll_strs xs ys
    simp only [List.map_cons, PyData.eqvAll, PyData.eqv, ih]
    by_cases h1 : x = y <;> by_cases h2 : xs = ys <;> simp [h1, h2]
theorem sorted_eq_iff {z w : Str} {ys ws : List Str} (h1 : ys.Perm (signs z)) (s1 : sortedS ys = true) (h2 : ws.Perm (signs w)) (s2 : sortedS ws = true) :
    PyData.eqv (.list (ys.map .str)) (.list (ws.map .str)) = decide (z.cps.toList.Perm w.cps.toList) := by
  obtain ⟨cs, rfl, p1⟩ := perm_signs h1
  obtain ⟨ds, rfl, p2⟩ := perm_signs h2
  have q1 := sorted_pw cs s1
  have q2 := sorted_pw ds s2
  show PyData.eqvAll _ _ = _
  rw [eqvAll_strs]
  apply decide_eq_decide.mpr
  constructor
  · intro e
    have e2 : cs = ds := by
      have := congrArg (List.map fun s : Str => s.cps.toList.headD 0) e
      simpa [List.map_map, Function.comp_def] using this
    subst e2
    exact p1.symm.trans p2
  · intro e
    have p : cs.Perm ds := (p1.trans e).trans p2.symm
    rw [p.eq_of_pairwise (fun a b _ _ h1 h2 => Nat.le_antisymm h1 h2) q1 q2]
end Bt
namespace Bt
open PySem PySem.Spec PyProof.Rows L2
/-! ### a def as it stands behind the top, by its name alone -/
structure Df (K : PySem.W.Frag) (mg : Str → Option Value) (x : Str) (st : Stmt) (ps : List Str) : Prop where
  ex : ∃ (f : Addr) (fd : FuncData), Fun K x x st f fd ∧ mg x = some (.ref f) ∧ Binds K fd ps []
/-- a def that raises nothing, with its promise -/
structure Cal (P : Program) (w : World) (K : PySem.W.Frag) (mg : Str → Option Value) (base : Heap) (k : Nat) (x : Str) (sp : Sp) : Prop where
  ex : ∃ (f : Addr) (fd : FuncData) (ps : List Str), FnOk P w K mg base CX0 k f fd ps sp ∧ mg x = some (.ref f) ∧ PySem.W.keepIn K (.ref f) = true ∧ Binds K fd ps []
/-- one that may raise -/
structure CalX (P : Program) (w : World) (K : PySem.W.Frag) (mg : Str → Option Value) (base : Heap) (k : Nat) (x : Str) (sp : Sp) : Prop where
  ex : ∃ (f : Addr) (fd : FuncData) (ps : List Str), FnOk P w K mg base (L2.CX P w) k f fd ps sp ∧ mg x = some (.ref f) ∧ PySem.W.keepIn K (.ref f) = true ∧ Binds K fd ps []
section
variable {P : Program} {w : World} {K : PySem.W.Frag} {mg : Str → Option Value} {base : Heap} {x : Str} {st : Stmt} {N ps : List Str} {k : Nat} {sp : Sp}
theorem Df.cal (D : Df K mg x st ps) (S : FnScope N ps (defScope st)) (len : ∀ vs H Q E, sp vs H Q E → vs.length = ps.length)
    (hbody : ∀ (f : Addr) (cdv : Value) (A : Around) (outer : List Env) (s : Shared) (H : Hp) (vs : List V) (Q : VK) (E : XK), Room k (A.deeper (envOfC x (defScope st) s.heap.objs.size f cdv)) → sp vs H Q E →
      ∃ t, PSs (cxOf CX0 P w K mg base N x (defScope st) f cdv A outer s H E).nox (defBody st) t ∧ t { nx := fun _ H' => Q .non H', rt := Q } (start N vs) H) : Cal P w K mg base (k + 1) x sp := by
  obtain ⟨f, fd, F, g, b⟩ := D.ex
  exact ⟨⟨f, fd, ps, F.ok S len (hbody f), g, F.kp, b⟩⟩
theorem Df.calX (D : Df K mg x st ps) (S : FnScope N ps (defScope st)) (len : ∀ vs H Q E, sp vs H Q E → vs.length = ps.length)
    (hbody : ∀ (f : Addr) (cdv : Value) (A : Around) (outer : List Env) (s : Shared) (H : Hp) (vs : List V) (Q : VK) (E : XK), Room k (A.deeper (envOfC x (defScope st) s.heap.objs.size f cdv)) → sp vs H Q E →
      ∃ t, PSs (cxOf (L2.CX P w) P w K mg base N x (defScope st) f cdv A outer s H E) (defBody st) t ∧ t { nx := fun _ H' => Q .non H', rt := Q } (start N vs) H) : CalX P w K mg base (k + 1) x sp := by
  obtain ⟨f, fd, F, g, b⟩ := D.ex
  exact ⟨⟨f, fd, ps, F.okX S len (hbody f), g, F.kp, b⟩⟩
end
section
variable {X : Cx} {k j : Nat} {x : Str} {sp : Sp} {p pos : Pos} {e : Expr} {es : List Expr} {t : TA}
theorem pe_c (c : Cal X.prog X.w X.K X.mg X.base k x sp) (hr : Room j X.A) (hk : k ≤ j) (hg : Gl X x) (ha : PA X (e :: es) t)
    (hdb : (x == ("__debug__" : Str)) = false := by decide) (he : starEach (e :: es) X.env = (false, eval e X.env) :: starEach es X.env := by rfl) (hpl : (backTo pos (starEach es X.env)).any (·.1) = false := by rfl) :
    PE X (.Call (.Name x p) (e :: es) [] pos) (tCall sp [] E0 t) := by
  obtain ⟨f, fd, ps, F, hm, kp, b⟩ := c.ex
  exact pe_call F (hr.mono hk) hg hm kp b .nil pass0 ha hdb he hpl
/-- a def that may raise, called where it does not -/
theorem pe_cx0 (c : CalX X.prog X.w X.K X.mg X.base k x sp) (hr : Room j X.A) (hk : k ≤ j) (hg : Gl X x) (ha : PA X (e :: es) t)
    (hdb : (x == ("__debug__" : Str)) = false := by decide) (he : starEach (e :: es) X.env = (false, eval e X.env) :: starEach es X.env := by rfl) (hpl : (backTo pos (starEach es X.env)).any (·.1) = false := by rfl) :
    PE X (.Call (.Name x p) (e :: es) [] pos) (tCall sp [] E0 t) := by
  obtain ⟨f, fd, ps, F, hm, kp, b⟩ := c.ex
  exact pe_call F (hr.mono hk) hg hm kp b .nil passL ha hdb he hpl
end
/-! ### kinds of values -/
/-- a value of a built-in kind, with its type's name -/
def Ty (K : PySem.W.Frag) (H : Hp) (x : V) (T : String) : Prop := TyX K H x (.type T)
theorem kit_is {K : PySem.W.Frag} {a b : String} (h : (a == b) = true) : PySem.W.kitOne K (.type a) (.type b) = some true := kit_ty (by
  have e : a = b := by simpa using h
  subst e
  unfold kitB
  rw [if_pos (by simp)])
/-- the kinds that data have, and what isinstance says of them -/
inductive Kd : String → Prop where
  | non : Kd "NoneType" | bl : Kd "bool" | int : Kd "int" | str : Kd "str" | lst : Kd "list" | tup : Kd "tuple" | dct : Kd "dict"
def subKd (a b : String) : Bool := a == b || (a == "bool" && b == "int")
theorem kit_kd {K : PySem.W.Frag} {a b : String} (ha : Kd a) (hb : Kd b) : PySem.W.kitOne K (.type a) (.type b) = some (subKd a b) := by
  cases ha <;> cases hb <;> exact kit_ty (by decide +kernel)
/-- a plain value: data at its top -/
def Pl (K : PySem.W.Frag) (H : Hp) (x : V) (T : String) : Prop := TyX K H x (.type T) ∧ Kd T
theorem q_isi {K : PySem.W.Frag} {H : Hp} {Q : VK} {x : V} {a b : String} (h : Pl K H x a) (hb : Kd b) (q : Q (.bl (subKd a b)) H) : rIsi K [x, .ty b] H Q :=
  ⟨x, .ty b, .type a, .type b, subKd a b, rfl, .ty b, h.1, kit_kd h.2 hb, q⟩
theorem Pl.non {K : PySem.W.Frag} {H : Hp} : Pl K H .non "NoneType" := ⟨.base .non, .non⟩
theorem Pl.bl {K : PySem.W.Frag} {H : Hp} {b : Bool} : Pl K H (.bl b) "bool" := ⟨.base (.bl b), .bl⟩
theorem Pl.int {K : PySem.W.Frag} {H : Hp} {i : Int} : Pl K H (.int i) "int" := ⟨.base (.int i), .int⟩
theorem Pl.str {K : PySem.W.Frag} {H : Hp} {z : Str} : Pl K H (.str z) "str" := ⟨.base (.str z), .str⟩
theorem Pl.lst {K : PySem.W.Frag} {H : Hp} {a : Addr} {xs : List V} (h : H a = some (.lst xs)) : Pl K H (.ref a) "list" := ⟨.base (.lst h), .lst⟩
theorem Pl.tup {K : PySem.W.Frag} {H : Hp} {a : Addr} {xs : List V} (h : H a = some (.tup xs)) : Pl K H (.ref a) "tuple" := ⟨.base (.tup h), .tup⟩
theorem TyX.mono {K : PySem.W.Frag} {H H' : Hp} {x : V} {t : Value} (S : Same H H') (h : TyX K H x t) : TyX K H' x t := by
  cases h with
  | base b =>
    cases b with
    | non => exact .base .non
    | bl z => exact .base (.bl z)
    | int z => exact .base (.int z)
    | str z => exact .base (.str z)
    | flt z => exact .base (.flt z)
    | lst e => exact .base (.lst (S _ _ e))
    | frz e => exact .base (.frz (S _ _ e))
    | tup e => exact .base (.tup (S _ _ e))
    | dK e => exact .base (.dK (S _ _ e))
    | dT e => exact .base (.dT (S _ _ e))
    | ins e cl ha hn htk hm => exact .base (.ins (S _ _ e) cl ha hn htk hm)
  | byt b => exact .byt b
  | set e => exact .set (S _ _ e)
  | kList e c => exact .kList e c
  | kTuple e c => exact .kTuple e c
  | kDict e c => exact .kDict e c
  | fTuple e => exact .fTuple (S _ _ e)
  | fDict e => exact .fDict (S _ _ e)
theorem Pl.mono {K : PySem.W.Frag} {H H' : Hp} {x : V} {T : String} (S : Same H H') (h : Pl K H x T) : Pl K H' x T := ⟨TyX.mono S h.1, h.2⟩
theorem ty_ne {a b : String} {p : Prop} (e : Value.type a = Value.type b) (h : a ≠ b) : p := absurd (Value.type.inj e) h
theorem Pl.is_str {K : PySem.W.Frag} {H : Hp} {z : Str} {T : String} (h : Pl K H (.str z) T) : T = "str" := by
  have key : ∀ t, TyX K H (.str z) t → t = .type "str" := fun t h => by
    cases h with
    | base b => cases b; rfl
  exact Value.type.inj (key _ h.1)
theorem Pl.is_int {K : PySem.W.Frag} {H : Hp} {z : Int} {T : String} (h : Pl K H (.int z) T) : T = "int" := by
  have key : ∀ t, TyX K H (.int z) t → t = .type "int" := fun t h => by
    cases h with
    | base b => cases b; rfl
  exact Value.type.inj (key _ h.1)
theorem Pl.is_bl {K : PySem.W.Frag} {H : Hp} {z : Bool} {T : String} (h : Pl K H (.bl z) T) : T = "bool" := by
  have key : ∀ t, TyX K H (.bl z) t → t = .type "bool" := fun t h => by
    cases h with
    | base b => cases b; rfl
  exact Value.type.inj (key _ h.1)
theorem Pl.of_str {K : PySem.W.Frag} {H : Hp} {x : V} {T : String} (h : Pl K H x T) (e : T = "str") : ∃ z, x = .str z := by
  have key : ∀ t, TyX K H x t → t = .type "str" → ∃ z, x = .str z := fun t h e => by
    cases h with
    | base b =>
      cases b with
      | str z => exact ⟨z, rfl⟩
      | ins _ _ _ _ _ _ => cases e
      | _ => exact ty_ne e (by decide)
    | _ => exact ty_ne e (by decide)
  exact key _ h.1 (by rw [e])
theorem Pl.of_int {K : PySem.W.Frag} {H : Hp} {x : V} {T : String} (h : Pl K H x T) (e : T = "int") : ∃ z, x = .int z := by
  have key : ∀ t, TyX K H x t → t = .type "int" → ∃ z, x = .int z := fun t h e => by
    cases h with
    | base b =>
      cases b with
      | int z => exact ⟨z, rfl⟩
      | ins _ _ _ _ _ _ => cases e
      | _ => exact ty_ne e (by decide)
    | _ => exact ty_ne e (by decide)
  exact key _ h.1 (by rw [e])
/-- the object at a stands where the abstract heap has grown -/
theorem q_sortTx {H : Hp} {Q : VK} {z : Str} (h : z.length < 64) (q : ∀ (ys : List Str) (p : Addr) H', H p = none → Same H H' → H' p = some (.lst (ys.map V.str)) → ys.Perm (signs z) → sortedS ys = true → Q (.ref p) H') : rSortTx [.str z] H Q :=
  ⟨z, rfl, h, fun ys p h1 h2 n => q ys p _ n (Same.new n) upd_same h1 h2⟩
theorem dp_strs {K : PySem.W.Frag} {H : Hp} : ∀ ys : List Str, DpAll K H (ys.map V.str) (ys.map PyData.str)
  | [] => .nil
  | y :: ys => .cons (.str y) (dp_strs ys)
theorem dp_lst_strs {K : PySem.W.Frag} {H : Hp} {p : Addr} {ys : List Str} (h : H p = some (.lst (ys.map V.str))) : Dp K H (.ref p) (.list (ys.map PyData.str)) := .lst (SqL.of h) (dp_strs ys)
def Asc (z : Str) : Prop := ∀ c ∈ z.cps.toList, c < 128
theorem Asc.ok {z : Str} (h : Asc z) : PyData.strOk z = true := by
  unfold PyData.strOk
  rw [← Array.all_toList, List.all_eq_true]
  intro c hc
  have := h c hc
  exact decide_eq_true (by omega)
theorem canLay_strs : ∀ (ys : List Str), (∀ y ∈ ys, Asc y) → PyData.canLayAll0 (ys.map PyData.str) = true
  | [], _ => rfl
  | y :: ys, h => by
    simp only [List.map_cons, PyData.canLayAll0, PyData.canLay0, Bool.and_eq_true]
    exact ⟨(h y List.mem_cons_self).ok, canLay_strs ys fun z hz => h z (List.mem_cons_of_mem _ hz)⟩
theorem depth_strs : ∀ (ys : List Str), PyData.depthAll (ys.map PyData.str) = 0
  | [] => rfl
  | y :: ys => by simp only [List.map_cons, PyData.depthAll, PyData.depth, depth_strs ys]; rfl
theorem shaped_strs {ys : List Str} (h : ∀ y ∈ ys, Asc y) : SeqAt.shaped (.list (ys.map PyData.str)) = true := by
  unfold SeqAt.shaped
  rw [Bool.and_eq_true]
  refine ⟨?_, ?_⟩
  · simp only [PyData.canLay0]; exact canLay_strs ys h
  · simp only [PyData.depth, depth_strs]; decide
theorem asc_signs {z : Str} (h : Asc z) : ∀ y ∈ signs z, Asc y := fun y hy c hc => by
  unfold signs at hy
  obtain ⟨d, hd, rfl⟩ := List.mem_map.mp hy
  have : c = d := by simpa using hc
  subst this
  exact h _ hd
theorem shaped_sorted {z : Str} {ys : List Str} (h : Asc z) (p : ys.Perm (signs z)) : SeqAt.shaped (.list (ys.map PyData.str)) = true := shaped_strs fun y hy => asc_signs h y (p.mem_iff.mp hy)
theorem asc_alpha : Asc alphaS := fun c hc => by
  rw [alphaS_cps] at hc
  have := (mem_alpha.mp hc).2
  omega
end Bt
namespace Bt
open PySem PySem.Spec PyProof.Rows L2
theorem SqT_mono {K : PySem.W.Frag} {H H' : Hp} {a : Addr} {xs : List V} (e : Same H H') (h : SqT K H a xs) : SqT K H' a xs := by
  rcases h with (h | ⟨o, h⟩) | h
  · exact .inl (.inl (e _ _ h))
  · exact .inl (.inr ⟨o, e _ _ h⟩)
  · exact .inr h
mutual
theorem Dp.mono {K : PySem.W.Frag} {H H' : Hp} (S : Same H H') : ∀ {v : V} {d : PyData}, Dp K H v d → Dp K H' v d
  | _, _, .non => .non
  | _, _, .bl b => .bl b
  | _, _, .int i => .int i
  | _, _, .str x => .str x
  | _, _, .lst h r => .lst (S.seq h) (DpAll.mono S r)
  | _, _, .tup h r => .tup (SqT_mono S h) (DpAll.mono S r)
theorem DpAll.mono {K : PySem.W.Frag} {H H' : Hp} (S : Same H H') : ∀ {vs : List V} {ds : List PyData}, DpAll K H vs ds → DpAll K H' vs ds
  | _, _, .nil => .nil
  | _, _, .cons h r => .cons (Dp.mono S h) (DpAll.mono S r)
end
/-! ### an own error with one field, stored by its __init__ -/
def spExc (C : Addr) (fld : Str) : Sp := fun vs H Q _ => ∃ a v, vs = [.ref a, v] ∧ H a = some (exo a C none) ∧ ∀ dx, H dx = none → dx ≠ a → Q .non (upd (upd H dx (exd dx [(fld, v)])) a (exo a C (some dx)))
structure ExcF (K : PySem.W.Frag) (mg : Str → Option Value) (x fld : Str) (C : Addr) : Prop where
  g : mg x = some (.ref C)
  T : OexC K C
  no : PySem.W.findIn K (.ref C) fld = some none
  xf : XfC K C
  te : PySem.W.exmOne K (.ref C) (.ref C) = some true
  init : ∃ (f : Addr) (fd : FuncData) (qual : Str) (params : Arguments) (scope : Scope) (q1 q2 q3 q4 : Pos),
    PySem.W.findIn K (.ref C) "__init__" = some (some (.ref f)) ∧ PySem.W.typeIn K (.ref f) = some (.type "function") ∧
    FunD K "__init__" qual params [.Assign [.Attribute (.Name "self" q1) fld q2] (.Name fld q3) q4] scope [.non] [] f fd ∧ FnScope ["self", fld] ["self", fld] scope ∧ Binds K fd ["self", fld] []
section
variable {P : Program} {w : World} {K : PySem.W.Frag} {mg : Str → Option Value} {base : Heap} {x fld : Str} {C : Addr}
theorem exc_init {f : Addr} {fd : FuncData} {qual : Str} {params : Arguments} {scope : Scope} {q1 q2 q3 q4 : Pos} (T : OexC K C) (no : PySem.W.findIn K (.ref C) fld = some none)
    (F : FunD K "__init__" qual params [.Assign [.Attribute (.Name "self" q1) fld q2] (.Name fld q3) q4] scope [.non] [] f fd) (S : FnScope ["self", fld] ["self", fld] scope) (hd : (fld == ("__debug__" : Str)) = false) (hcd : (fld == ("__classdict__" : Str)) = false) :
    FnOk P w K mg base CX0 1 f fd ["self", fld] (spExc C fld) := by
  refine F.ok S (fun vs H Q E h => ?_) (fun cdv A outer s H vs Q E hr h => ?_)
  · obtain ⟨a, v, rfl, _⟩ := h
    rfl
  · obtain ⟨a, v, rfl, ha, k⟩ := h
    have v1 : Vis scope "self" := (S.par "self" List.mem_cons_self).elim .inl fun z => .inr (.inl z)
    have v2 : Vis scope fld := (S.par fld (List.mem_cons_of_mem _ List.mem_cons_self)).elim .inl fun z => .inr (.inl z)
    refine ⟨_, pss_one (ps_ost (pe_var (i := 0) rfl v1 (by decide) (by decide)) (pe_var (i := 1) rfl v2 hd hcd) (by rfl)), ?_⟩
    exact ⟨v, rfl, .ref a, rfl, a, C, rfl, T, no, .inl ⟨ha, fun dx n ne => k dx n ne⟩⟩
end
section
variable {X : Cx} {x fld : Str} {C : Addr} {k : Nat} {W : WX} {e : Expr} {te : TE} {p pos pos2 : Pos}
/-- what is wished may be weakened -/
def tMono (te : TE) : TE := fun σ H Q => ∃ Q' : VK, te σ H Q' ∧ ∀ v H1, Q' v H1 → Q v H1
theorem PE.mono (he : PE X e te) : PE X e (tMono te) := ⟨fun pins s σ H Q I h => by
  obtain ⟨Q', h1, h2⟩ := h
  refine thn (he.run pins s σ H Q' I h1) fun u s' z => ?_
  obtain ⟨v, H', I', r, q⟩ := z
  exact ⟨v, H', I', r, h2 v H' q⟩⟩
/-- raise C(e) -/
def tRaise1 (C : Addr) (fld : Str) (W : WX) (te : TE) : TS := fun _ σ H => te σ H fun v H1 => ∀ d H3, H1 d = none → Same H1 H3 → H3 d = some (.xd [(fld, v)]) → W (.ref C) (some d) σ H3
theorem ps_raise1 (hc : X.calm = true) (B : ExcF X.K X.mg x fld C) (hr : Room k X.A) (hk : 2 ≤ k) (tk : Takes X W) (he : PE X e te) (hg : Gl X x := by rfl) (hd : (fld == ("__debug__" : Str)) = false := by decide) (hcd : (fld == ("__classdict__" : Str)) = false := by decide)
    (hdb : (x == ("__debug__" : Str)) = false := by decide) (h1 : starEach (e :: []) X.env = (false, eval e X.env) :: starEach [] X.env := by rfl) (h2 : (backTo pos (starEach [] X.env)).any (·.1) = false := by rfl) :
    PS X (.Raise (some (.Call (.Name x p) [e] [] pos)) none pos2) (tRaise1 C fld W te) := by
  obtain ⟨f, fd, qual, params, scope, q1, q2, q3, q4, i1, i2, F, S, b⟩ := B.init
  have m := pmk_oex (sp := spExc C fld) (dvs := []) (p := p) (pos := pos) B.T i1 i2 (exc_init B.T B.no F S hd hcd) (hr.mono hk) b .nil pass0 hg B.g (pa_cons (PE.mono he) pa_nil h1) hdb h1 h2
  have q := ps_raise (pos := pos2) hc tk m
  refine ⟨fun pins s σ H D I h => q.run pins s σ H D I ?_⟩
  have key : ∀ v H1, (∀ d H3, H1 d = none → Same H1 H3 → H3 d = some (.xd [(fld, v)]) → W (.ref C) (some d) σ H3) →
      ([v].length ≤ 1000 ∧ ∀ a, H1 a = none → spExc C fld (.ref a :: ([v] ++ [])) (upd H1 a (exo a C none))
        (fun v H2 => v = .non ∧ ∃ (d : Addr) (fs : List (Str × V)), H2 a = some (exo a C (some d)) ∧ H2 d = some (exd d fs) ∧ H1 d = none ∧ W (.ref C) (some d) σ (upd (del H2 a) d (.xd fs))) (fun _ _ _ => False)) := fun v H1 z => by
    refine ⟨by show 1 ≤ 1000; decide, fun a ha => ⟨a, v, rfl, upd_same, fun dx n ne => ⟨rfl, dx, _, upd_same, by rw [upd_ne ne, upd_same], ?_, ?_⟩⟩⟩
    · rw [upd_ne ne] at n; exact n
    · have n1 : H1 dx = none := by rw [upd_ne ne] at n; exact n
      refine z dx _ n1 (fun b o e => ?_) upd_same
      have nb : b ≠ dx := ne_of_none e n1
      have na : b ≠ a := ne_of_none e ha
      rw [upd_ne nb, del_ne na, upd_ne na, upd_ne nb, upd_ne na]
      exact e
  exact ⟨_, h, fun v H1 z => key v H1 z⟩
theorem s_raise1 {C : Addr} {fld : Str} {W : WX} {te : TE} {D : Ends} {σ : L2.St} {H : Hp} (h : te σ H fun v H1 => ∀ d H3, H1 d = none → Same H1 H3 → H3 d = some (.xd [(fld, v)]) → W (.ref C) (some d) σ H3) : tRaise1 C fld W te D σ H := h
end
end Bt
namespace Bt
open PySem PySem.Spec PyProof.Rows L2
def top (i : Nat) : Stmt := PySem.Challenge.pw_betweenlists_k03_keys_and_orders.main.body.getD i (.Pass ⟨0, 0, 0, 0⟩)
abbrev s_InvalidName___init__ : Stmt := inClass (top 2) 0
theorem sc_InvalidName___init__ : FnScope ["self", "value"] ["self", "value"] (defScope s_InvalidName___init__) := ⟨rfl, rfl, rfl, by decide +kernel, rfl, by decide +kernel, by decide +kernel⟩
abbrev s_InvalidForm___init__ : Stmt := inClass (top 3) 0
theorem sc_InvalidForm___init__ : FnScope ["self", "value"] ["self", "value"] (defScope s_InvalidForm___init__) := ⟨rfl, rfl, rfl, by decide +kernel, rfl, by decide +kernel, by decide +kernel⟩
abbrev s_InvalidNumber___init__ : Stmt := inClass (top 4) 0
theorem sc_InvalidNumber___init__ : FnScope ["self", "value"] ["self", "value"] (defScope s_InvalidNumber___init__) := ⟨rfl, rfl, rfl, by decide +kernel, rfl, by decide +kernel, by decide +kernel⟩
abbrev s_InvalidList___init__ : Stmt := inClass (top 5) 0
theorem sc_InvalidList___init__ : FnScope ["self", "value"] ["self", "value"] (defScope s_InvalidList___init__) := ⟨rfl, rfl, rfl, by decide +kernel, rfl, by decide +kernel, by decide +kernel⟩
abbrev s_is_whole : Stmt := top 9
theorem sc_is_whole : FnScope ["value"] ["value"] (defScope s_is_whole) := ⟨rfl, rfl, rfl, by decide +kernel, rfl, by decide +kernel, by decide +kernel⟩
abbrev s_is_name : Stmt := top 10
theorem sc_is_name : FnScope ["value", "letter"] ["value"] (defScope s_is_name) := ⟨rfl, rfl, rfl, by decide +kernel, rfl, by decide +kernel, by decide +kernel⟩
abbrev s_is_name_list : Stmt := top 11
theorem sc_is_name_list : FnScope ["value", "item"] ["value"] (defScope s_is_name_list) := ⟨rfl, rfl, rfl, by decide +kernel, rfl, by decide +kernel, by decide +kernel⟩
abbrev s_check_name : Stmt := top 13
theorem sc_check_name : FnScope ["value"] ["value"] (defScope s_check_name) := ⟨rfl, rfl, rfl, by decide +kernel, rfl, by decide +kernel, by decide +kernel⟩
abbrev s_check_least : Stmt := top 14
theorem sc_check_least : FnScope ["value", "least"] ["value", "least"] (defScope s_check_least) := ⟨rfl, rfl, rfl, by decide +kernel, rfl, by decide +kernel, by decide +kernel⟩
abbrev s_key_in : Stmt := top 17
theorem sc_key_in : FnScope ["form", "name", "ranks", "letter"] ["form", "name"] (defScope s_key_in) := ⟨rfl, rfl, rfl, by decide +kernel, rfl, by decide +kernel, by decide +kernel⟩
abbrev s__are_letters : Stmt := top 18
theorem sc__are_letters : FnScope ["value"] ["value"] (defScope s__are_letters) := ⟨rfl, rfl, rfl, by decide +kernel, rfl, by decide +kernel, by decide +kernel⟩
abbrev s__are_chains : Stmt := top 19
theorem sc__are_chains : FnScope ["value"] ["value"] (defScope s__are_chains) := ⟨rfl, rfl, rfl, by decide +kernel, rfl, by decide +kernel, by decide +kernel⟩
abbrev s_Form___init__ : Stmt := inClass (top 20) 0
theorem sc_Form___init__ : FnScope ["self", "letters", "chains"] ["self", "letters", "chains"] (defScope s_Form___init__) := ⟨rfl, rfl, rfl, by decide +kernel, rfl, by decide +kernel, by decide +kernel⟩
abbrev s_Form_letters : Stmt := inClass (top 20) 1
theorem sc_Form_letters : FnScope ["self"] ["self"] (defScope s_Form_letters) := ⟨rfl, rfl, rfl, by decide +kernel, rfl, by decide +kernel, by decide +kernel⟩
abbrev s_Form_chains : Stmt := inClass (top 20) 2
theorem sc_Form_chains : FnScope ["self"] ["self"] (defScope s_Form_chains) := ⟨rfl, rfl, rfl, by decide +kernel, rfl, by decide +kernel, by decide +kernel⟩
abbrev s_Form___call__ : Stmt := inClass (top 20) 3
theorem sc_Form___call__ : FnScope ["self", "name"] ["self", "name"] (defScope s_Form___call__) := ⟨rfl, rfl, rfl, by decide +kernel, rfl, by decide +kernel, by decide +kernel⟩
abbrev s_Form_ordered : Stmt := inClass (top 20) 4
theorem sc_Form_ordered : FnScope ["self", "names"] ["self", "names"] (defScope s_Form_ordered) := ⟨rfl, rfl, rfl, by decide +kernel, rfl, by decide +kernel, by decide +kernel⟩
abbrev s_Form___mul__ : Stmt := inClass (top 20) 5
theorem sc_Form___mul__ : FnScope ["self", "other"] ["self", "other"] (defScope s_Form___mul__) := ⟨rfl, rfl, rfl, by decide +kernel, rfl, by decide +kernel, by decide +kernel⟩
abbrev s_Form___rmul__ : Stmt := inClass (top 20) 6
theorem sc_Form___rmul__ : FnScope ["self", "other"] ["self", "other"] (defScope s_Form___rmul__) := ⟨rfl, rfl, rfl, by decide +kernel, rfl, by decide +kernel, by decide +kernel⟩
abbrev s_Form___floordiv__ : Stmt := inClass (top 20) 7
theorem sc_Form___floordiv__ : FnScope ["self", "other"] ["self", "other"] (defScope s_Form___floordiv__) := ⟨rfl, rfl, rfl, by decide +kernel, rfl, by decide +kernel, by decide +kernel⟩
abbrev s_Form___eq__ : Stmt := inClass (top 20) 8
theorem sc_Form___eq__ : FnScope ["self", "other"] ["self", "other"] (defScope s_Form___eq__) := ⟨rfl, rfl, rfl, by decide +kernel, rfl, by decide +kernel, by decide +kernel⟩
abbrev s__law_purse : Stmt := top 22
theorem sc__law_purse : FnScope ["_law_script", "_law_at", "_law_cell"] ["_law_script", "_law_at"] (defScope s__law_purse) := ⟨rfl, rfl, rfl, by decide +kernel, rfl, by decide +kernel, by decide +kernel⟩
abbrev s__law_draw : Stmt := top 23
theorem sc__law_draw : FnScope ["_law_purse_here", "_law_many", "_law_drawn", "_law_number"] ["_law_purse_here", "_law_many"] (defScope s__law_draw) := ⟨rfl, rfl, rfl, by decide +kernel, rfl, by decide +kernel, by decide +kernel⟩
abbrev s__law_name : Stmt := top 24
theorem sc__law_name : FnScope ["_law_purse_here", "_law_name_here", "_law_turn"] ["_law_purse_here"] (defScope s__law_name) := ⟨rfl, rfl, rfl, by decide +kernel, rfl, by decide +kernel, by decide +kernel⟩
abbrev s__law_names : Stmt := top 25
theorem sc__law_names : FnScope ["_law_purse_here", "_law_many", "_law_names_here", "_law_turn", "_law_name_here"] ["_law_purse_here", "_law_many"] (defScope s__law_names) := ⟨rfl, rfl, rfl, by decide +kernel, rfl, by decide +kernel, by decide +kernel⟩
abbrev s__law_form : Stmt := top 26
theorem sc__law_form : FnScope ["_law_purse_here", "_law_letters", "_law_way", "_law_at", "_law_turn", "_law_rest", "_law_many"] ["_law_purse_here"] (defScope s__law_form) := ⟨rfl, rfl, rfl, by decide +kernel, rfl, by decide +kernel, by decide +kernel⟩
abbrev s__law_key : Stmt := top 27
theorem sc__law_key : FnScope ["_law_form_here", "_law_name_here", "_law_ranks", "_law_letter"] ["_law_form_here", "_law_name_here"] (defScope s__law_key) := ⟨rfl, rfl, rfl, by decide +kernel, rfl, by decide +kernel, by decide +kernel⟩
abbrev s__law_ordered : Stmt := top 28
theorem sc__law_ordered : FnScope ["_law_form_here", "_law_names_here"] ["_law_form_here", "_law_names_here"] (defScope s__law_ordered) := ⟨rfl, rfl, rfl, by decide +kernel, rfl, by decide +kernel, by decide +kernel⟩
abbrev s__law_whole : Stmt := top 29
theorem sc__law_whole : FnScope ["_law_value"] ["_law_value"] (defScope s__law_whole) := ⟨rfl, rfl, rfl, by decide +kernel, rfl, by decide +kernel, by decide +kernel⟩
abbrev s__law_no_name : Stmt := top 30
theorem sc__law_no_name : FnScope ["_law_form_here", "_law_value", "_law_found", "e"] ["_law_form_here", "_law_value"] (defScope s__law_no_name) := ⟨rfl, rfl, rfl, by decide +kernel, rfl, by decide +kernel, by decide +kernel⟩
abbrev s__law_no_list : Stmt := top 31
theorem sc__law_no_list : FnScope ["_law_form_here", "_law_value", "_law_given", "_law_found", "e"] ["_law_form_here", "_law_value"] (defScope s__law_no_list) := ⟨rfl, rfl, rfl, by decide +kernel, rfl, by decide +kernel, by decide +kernel⟩
abbrev s__law_right_key : Stmt := top 32
theorem sc__law_right_key : FnScope ["_law_form_here", "_law_spec", "_law_name_here", "_law_told", "_law_due", "_law_rank"] ["_law_form_here", "_law_spec", "_law_name_here"] (defScope s__law_right_key) := ⟨rfl, rfl, rfl, by decide +kernel, rfl, by decide +kernel, by decide +kernel⟩
abbrev s__law_strangers : Stmt := top 33
theorem sc__law_strangers : FnScope ["_law_name_here", "_law_found"] ["_law_name_here"] (defScope s__law_strangers) := ⟨rfl, rfl, rfl, by decide +kernel, rfl, by decide +kernel, by decide +kernel⟩
abbrev s_law : Stmt := top 34
theorem sc_law : FnScope ["_law_script", "_law_at", "_law_purse_here", "_law_spec", "_law_form_here", "_law_names_here", "_law_handed", "_law_told", "_law_one", "_law_other", "_law_strangers_here", "_law_place", "_law_name_here"] ["_law_script"] (defScope s_law) := ⟨rfl, rfl, rfl, by decide +kernel, rfl, by decide +kernel, by decide +kernel⟩
theorem words_ : True := by
  k_with "s" => first
    | ((with_reducible refine' s_var ?hv ?_); (case hv => exact rfl))
    | with_reducible first
      | refine' s_c ?_ | refine' s_op ?_ | refine' s_asg ?_ | refine' s_gname ?_ | refine' s_seq ?_ | refine' s_next ?_ | refine' s_ret ?_ | refine' s_ifS ?_ | refine' s_drop ?_ | refine' s_retN ?_
      | refine' s_test ?_ | refine' s_B ?_ | refine' q_test ?_ | refine' s_int ?_ | refine' s_cons ?_ | refine' s_nil ?_ | refine' s_call ?_ | refine' s_CB ?_ | refine' s_andT ?_ | refine' s_orT ?_ | refine' s_notT ?_
      | refine' s_andV ?_ | refine' s_orV ?_ | refine' s_notV ?_ | refine' s_ifV ?_ | refine' s_chain ?_ | refine' s_sl ?_ | refine' s_noPart ?_ | refine' s_part ?_ | refine' s_gsub ?_ | refine' s_BM ?_ | refine' s_tup ?_ | refine' s_lst ?_
      | refine' q_add ?_ | refine' q_sub ?_ | refine' q_lt ?_ | refine' q_le ?_ | refine' q_gt ?_ | refine' q_ge ?_ | refine' s_ifT ?_ | refine' s_ifF ?_
      | (refine' q_mod ?hm ?_; (case hm => first | omega | decide)) | (refine' q_fdiv ?hm ?hn ?_; (case hm => first | omega | decide); (case hn => first | omega | decide))
      | (refine' q_mulR ?hm ?_; (case hm => first | omega | decide)) | (refine' q_mulL ?hm ?_; (case hm => first | omega | decide))
    | dsimp only
  k_with "r" => repeat (k_extra "s")
  trivial
structure Txt (K : PySem.W.Frag) (mg : Str → Option Value) : Prop where
  n_isinstance : mg "isinstance" = none
  n_int : mg "int" = none
  n_bool : mg "bool" = none
  n_str : mg "str" = none
  n_sorted : mg "sorted" = none
  v_LETTERS : ∃ t, mg "LETTERS" = some (.str alphaS t)
  v_MOST_CHAINS : ∃ t, mg "MOST_CHAINS" = some (.int 1000 t)
  n_tuple : mg "tuple" = none
  d_is_whole : Df K mg "is_whole" s_is_whole ["value"]
  d__are_letters : Df K mg "_are_letters" s__are_letters ["value"]
  d__are_chains : Df K mg "_are_chains" s__are_chains ["value"]
/-- what a Form stores -/
def frm (l c : V) : List (Str × V) := putF "_chains" c (putF "_letters" l [])
theorem lc_ne : ¬ (("_letters" : Str) = "_chains") := by decide +kernel
theorem frm_l (l c : V) : (frm l c).lookup ("_letters" : Str) = some l := by
  unfold frm
  rw [lookup_putF, if_neg lc_ne, lookup_putF, if_pos rfl]
theorem frm_c (l c : V) : (frm l c).lookup ("_chains" : Str) = some c := by
  unfold frm
  rw [lookup_putF, if_pos rfl]
structure FormC (K : PySem.W.Frag) (mg : Str → Option Value) (C : Addr) : Prop where
  cl : Cls K C
  g : mg "Form" = some (.ref C)
  makes : PySem.W.makesIn K C = true
  kp : PySem.W.keepIn K (.ref C) = true
  nL : NoAttr K C "_letters"
  nC : NoAttr K C "_chains"
  init : ∃ (f : Addr) (fd : FuncData) (d1 d2 : List Value), PySem.W.findIn K (.ref C) "__init__" = some (some (.ref f)) ∧ PySem.W.isFn K (.ref f) = true ∧
    FunD K "__init__" "Form.__init__" (defArgs s_Form___init__) (defBody s_Form___init__) (defScope s_Form___init__) [.str alphaS, .int 1] [] f fd ∧
    Binds K fd ["self", "letters", "chains"] [] ∧ Vals [.int 1] d1 ∧ Binds K fd ["self", "letters", "chains"] d1 ∧ Vals [.str alphaS, .int 1] d2 ∧ Binds K fd ["self", "letters", "chains"] d2
  pL : ∃ (p f : Addr) (fd : FuncData), PropOf K C "letters" p f ∧ Fun K "letters" "Form.letters" s_Form_letters f fd ∧ Binds K fd ["self"] []
  pC : ∃ (p f : Addr) (fd : FuncData), PropOf K C "chains" p f ∧ Fun K "chains" "Form.chains" s_Form_chains f fd ∧ Binds K fd ["self"] []
  eq : ∃ (f : Addr) (fd : FuncData), PySem.W.findIn K (.ref C) "__eq__" = some (some (.ref f)) ∧ PySem.W.isFn K (.ref f) = true ∧ Fun K "__eq__" "Form.__eq__" s_Form___eq__ f fd ∧ Binds K fd ["self", "other"] []
  i1 : PySem.W.findIn K (.ref C) "__class__" = some (some (.builtin "object.__class__"))
  i2 : PySem.W.specialIn K (.builtin "object.__class__") "__get__" = some (some (.builtin "getset_descriptor.__get__"))
  i3 : PySem.W.takesIn K (.builtin "object.__class__") = some true
  i4 : PySem.W.mroIn K C (.type "object") = some true
  kY : PySem.W.kitOne K (.ref C) (.ref C) = some true
  kN : ∀ T, Kd T → PySem.W.kitOne K (.type T) (.ref C) = some false
  nf : ∀ T, Kd T → PySem.W.notFirst K C (.type T) = true
  nfS : PySem.W.notFirst K C (.ref C) = true
section
variable {P : Program} {w : World} {K : PySem.W.Frag} {mg : Str → Option Value} {base : Heap}
/-! ### is_whole -/
def wholeV : V → Bool
  | .int _ => true
  | _ => false
def spWhole (K : PySem.W.Frag) : Sp := fun vs H Q _ => ∃ x T, vs = [x] ∧ Pl K H x T ∧ Q (.bl (T == "int")) H
theorem ok_is_whole (T : Txt K mg) : Cal P w K mg base 1 "is_whole" (spWhole K) := by
  refine T.d_is_whole.cal sc_is_whole (fun vs H Q E h => ?_) (fun f cdv A outer s H vs Q E hr h => ?_)
  · obtain ⟨x, T, rfl, _⟩ := h
    rfl
  · obtain ⟨x, ty, rfl, hx, k⟩ := h
    refine ⟨_, (pss_one (ps_ret (pe_and (pe_callB call_isi (by rfl) T.n_isinstance (by decide +kernel) (pa_cons (pv 0) (pa_cons (pe_bltn (v := .ty "int") (by rfl) T.n_int (by decide +kernel) rfl) pa_nil))) (pe_one (pe_not (pe_callB call_isi (by rfl) T.n_isinstance (by decide +kernel) (pa_cons (pv 0) (pa_cons (pe_bltn (v := .ty "bool") (by rfl) T.n_bool (by decide +kernel) rfl) pa_nil)))))))), ?_⟩
    k_extra "r"
    refine q_isi hx .int ?_
    k_extra "r"
    cases hx.2 <;> k_extra "r" <;> first | exact k | (refine s_if (fun _ => ?_) (fun z => absurd z (by decide)); k_extra "r"; refine q_isi hx .bl ?_; k_extra "r"; exact k)
/-! ### _are_letters -/
def spLetters (K : PySem.W.Frag) : Sp := fun vs H Q _ => ∃ x T, vs = [x] ∧ Pl K H x T ∧ (∀ z, x = .str z → z.length < 64 ∧ Asc z) ∧ ((∀ z, x = .str z → ¬ Letters z) → ∀ H', Same H H' → Q (.bl false) H') ∧ ((∃ z, x = .str z ∧ Letters z) → ∀ H', Same H H' → Q (.bl true) H')
theorem ok__are_letters (T : Txt K mg) : Cal P w K mg base 1 "_are_letters" (spLetters K) := by
  refine T.d__are_letters.cal sc__are_letters (fun vs H Q E h => ?_) (fun f cdv A outer s H vs Q E hr h => ?_)
  · obtain ⟨x, T, rfl, _⟩ := h
    rfl
  · obtain ⟨x, ty, rfl, hx, hz, kN, kY⟩ := h
    have hu := hr.units
    refine ⟨_, (pss_one (ps_ret (pe_and (pe_callB call_isi (by rfl) T.n_isinstance (by decide +kernel) (pa_cons (pv 0) (pa_cons (pe_bltn (v := .ty "str") (by rfl) T.n_str (by decide +kernel) rfl) pa_nil)))
      (pe_one (pe_cmpR (op_eqU hu) (pe_callB (cr_sortedTx (by rfl)) (by rfl) T.n_sorted (by decide +kernel) (pa_cons (pv 0) pa_nil)) (pe_callB (cr_sortedTx (by rfl)) (by rfl) T.n_sorted (by decide +kernel) (pa_cons (pe_glob (v := .str alphaS) (by rfl) T.v_LETTERS.choose_spec ⟨_, rfl⟩) pa_nil)) (by rfl)))))), ?_⟩
    k_extra "r"
    refine q_isi hx .str ?_
    by_cases e : ty = "str"
    · obtain ⟨z, rfl⟩ := hx.of_str e
      obtain ⟨h64, asc⟩ := hz z rfl
      subst e
      k_extra "r"
      refine s_if1 rfl ?_
      k_extra "r"
      refine q_sortTx h64 fun ys p1 H1 n1 S1 h1 q1 q2 => ?_
      k_extra "r"
      refine q_sortTx (by decide) fun ws p2 H2 n2 S2 h2 r1 r2 => ?_
      refine q_eqD (dp_lst_strs (S2 _ _ h1)) (dp_lst_strs h2) (shaped_sorted asc q1) (shaped_sorted asc_alpha r1) ?_
      rw [sorted_eq_iff q1 q2 r1 r2, alphaS_cps]
      by_cases l : Letters z
      · rw [decide_eq_true (show z.cps.toList.Perm alpha from l)]
        exact kY ⟨z, rfl, l⟩ _ (S1.trans S2)
      · rw [decide_eq_false (show ¬ z.cps.toList.Perm alpha from l)]
        exact kN (fun z' e => by cases e; exact l) _ (S1.trans S2)
    · have e2 : subKd ty "str" = false := by
        cases hx.2 <;> first | rfl | exact absurd rfl e
      rw [e2]
      k_extra "r"
      refine kN (fun z ez => ?_) H (Same.refl H)
      subst ez
      exact absurd hx.is_str e
/-! ### _are_chains -/
def spChains (K : PySem.W.Frag) : Sp := fun vs H Q _ => ∃ x T, vs = [x] ∧ Pl K H x T ∧ ((∀ i, x = .int i → ¬ (1 ≤ i ∧ i ≤ 1000)) → Q (.bl false) H) ∧ ((∃ i, x = .int i ∧ 1 ≤ i ∧ i ≤ 1000) → Q (.bl true) H)
theorem ok__are_chains (T : Txt K mg) : Cal P w K mg base 2 "_are_chains" (spChains K) := by
  refine T.d__are_chains.cal sc__are_chains (fun vs H Q E h => ?_) (fun f cdv A outer s H vs Q E hr h => ?_)
  · obtain ⟨x, T, rfl, _⟩ := h
    rfl
  · obtain ⟨x, ty, rfl, hx, kN, kY⟩ := h
    refine ⟨_, (pss_one (ps_ret (pe_and (pe_c (ok_is_whole T) hr (by decide) rfl (pa_cons (pv 0) pa_nil)) (pe_one (pe_chain op_leI op_leI pe_int (pv 0) (pe_glob (v := .int 1000) (by rfl) T.v_MOST_CHAINS.choose_spec ⟨_, rfl⟩)))))), ?_⟩
    k_extra "r"
    refine ⟨x, ty, rfl, hx, ?_⟩
    by_cases e : ty = "int"
    · obtain ⟨i, rfl⟩ := hx.of_int e
      subst e
      k_extra "r"
      refine s_if1 rfl ?_
      k_extra "r"
      by_cases h1 : 1 ≤ i
      · rw [decide_eq_true h1]
        k_extra "r"
        by_cases h2 : i ≤ 1000
        · rw [decide_eq_true h2]
          exact kY ⟨i, rfl, h1, h2⟩
        · rw [decide_eq_false h2]
          exact kN fun j ej => by cases ej; omega
      · rw [decide_eq_false h1]
        k_extra "r"
        exact kN fun j ej => by cases ej; omega
    · k_extra "r"
      refine s_if0 (beq_eq_false_iff_ne.mpr e) ?_
      refine kN fun i ei => ?_
      subst ei
      exact absurd hx.is_int e
/-! ### Form.__init__ -/
def Valid (l c : V) : Prop := (∃ z, l = .str z ∧ Letters z) ∧ ∃ i, c = .int i ∧ 1 ≤ i ∧ i ≤ 1000
theorem valid_dec (l c : V) : Valid l c ∨ ¬ Valid l c := Classical.em _
def spFormInit (K : PySem.W.Frag) (C CI : Addr) : Sp := fun vs H Q E => ∃ p dx l c T1 T2, vs = [.ref p, l, c] ∧ H p = some (.ins C dx []) ∧ Pl K H l T1 ∧ Pl K H c T2 ∧ (∀ z, l = .str z → z.length < 64 ∧ Asc z) ∧
  (Valid l c → ∀ H', H' p = some (.ins C dx (frm l c)) → But p H H' → Q .non H') ∧
  (¬ Valid l c → ∀ H' t d, Same H H' → H t = none → H d = none → H' d = some (.xd [("value", .ref t)]) → H' t = some (.tup [l, c]) → E (.ref CI) (some d) H')
theorem ok_form_init {C CI f : Addr} {fd : FuncData} (T : Txt K mg) (FC : FormC K mg C) (XI : ExcF K mg "InvalidForm" "value" CI)
    (F : FunD K "__init__" "Form.__init__" (defArgs s_Form___init__) (defBody s_Form___init__) (defScope s_Form___init__) [.str alphaS, .int 1] [] f fd) :
    FnOk P w K mg base (L2.CX P w) 4 f fd ["self", "letters", "chains"] (spFormInit K C CI) := by
  refine F.ok sc_Form___init__ (fun vs H Q E h => ?_) (fun cdv A outer s H vs Q E hr h => ?_)
  · obtain ⟨p, dx, l, c, _, _, rfl, _⟩ := h
    rfl
  · obtain ⟨p, dx, l, c, T1, T2, rfl, hp, hl, hc, hz, kY, kN⟩ := h
    refine ⟨_, (pss_cons (ps_if (pt_not (PW.pt (pw_and (pt_val (pe_c (ok__are_letters T) hr (by decide) rfl (pa_cons (pv 1) pa_nil))) (pw_and1 (pt_val (pe_c (ok__are_chains T) hr (by decide) rfl (pa_cons (pv 2) pa_nil))))))) (pss_one (ps_raise1 rfl XI hr (by decide) (takes_of rfl rfl rfl rfl) (pe_tup (pa_cons (pv 1) (pa_cons (pv 2) pa_nil))))) pss_nil)
      (pss_cons (ps_fld (pv 0) (pv 1) rfl)
      (pss_one (ps_fld (pv 0) (pv 2) rfl)))), ?_⟩
    have raise : ¬ Valid l c → ∀ H1, Same H H1 → ∀ Z : Ends, tRaise1 CI "value" (fun cls d σ H => E cls d H) (tTup (tCons (tVar 1) (tCons (tVar 2) tNil))) Z (start ["self", "letters", "chains"] [.ref p, l, c]) H1 := fun nv H1 S1 Z => by
      refine s_raise1 ?_
      k_extra "r"
      refine ⟨by show 2 ≤ sizeLine; decide, fun t nt d H3 nd S3 hd => ?_⟩
      have n1 : H1 d = none := by
        cases e : H1 d with
        | none => rfl
        | some o => exact absurd ((Same.new nt) d o e) (by rw [nd]; intro z; cases z)
      exact kN nv H3 t d (fun b o e => S3 _ _ (Same.new nt _ _ (S1 _ _ e))) (S1.free nt) (S1.free n1) hd (S3 _ _ upd_same)
    k_extra "r"
    refine ⟨l, T1, rfl, hl, hz, fun hno H1 S1 => ?_, fun hyes H1 S1 => ?_⟩
    · k_extra "r"
      exact raise (fun v => by obtain ⟨⟨z, ez, lz⟩, _⟩ := v; exact hno z ez lz) H1 S1 ⟨fun _ _ => False, Q, fun _ _ => False, fun _ _ => False⟩
    · k_extra "r"
      refine ⟨c, T2, rfl, hc.mono S1, fun hno => ?_, fun hyc => ?_⟩
      · k_extra "r"
        exact raise (fun v => by obtain ⟨_, i, ei, li⟩ := v; exact hno i ei li) H1 S1 ⟨fun _ _ => False, Q, fun _ _ => False, fun _ _ => False⟩
      · k_extra "r"
        refine ⟨_, rfl, _, rfl, p, C, dx, [], rfl, S1 _ _ hp, FC.cl, FC.nL, (by show 0 < 1000; decide), ?_⟩
        refine ⟨_, rfl, _, rfl, p, C, dx, _, rfl, upd_same, FC.cl, FC.nC, (by show 1 < 1000; decide), ?_⟩
        refine kY ⟨hyes, hyc⟩ _ upd_same fun b o n e => ?_
        rw [upd_ne n, upd_ne n]
        exact S1 _ _ e
/-! ### a form that stands -/
def FormAt (C : Addr) (H : Hp) (a : Addr) (z : Str) (c : Int) : Prop := ∃ dx, H a = some (.ins C dx (frm (.str z) (.int c)))
theorem FormAt.mono {C : Addr} {H H' : Hp} {a : Addr} {z : Str} {c : Int} (S : Same H H') (h : FormAt C H a z c) : FormAt C H' a z c := let ⟨dx, e⟩ := h; ⟨dx, S _ _ e⟩
theorem FormAt.ty {C : Addr} {H : Hp} {a : Addr} {z : Str} {c : Int} (FC : FormC K mg C) (h : FormAt C H a z c) : TyX K H (.ref a) (.ref C) := let ⟨_, e⟩ := h; .base (.ins e FC.cl FC.i1 FC.i2 FC.i3 FC.i4)
theorem ok_form_letters {C f : Addr} {fd : FuncData} (FC : FormC K mg C) (F : Fun K "letters" "Form.letters" s_Form_letters f fd) : FnOk P w K mg base CX0 1 f fd ["self"] (getSp C "_letters") := by
  obtain ⟨oc, od, kV, doc, pm, an, cdv, ct, osl, rfl, lk, hcd⟩ := F.ex
  exact fn_getter lk hcd sc_Form_letters rfl rfl FC.cl FC.nL
theorem ok_form_chains {C f : Addr} {fd : FuncData} (FC : FormC K mg C) (F : Fun K "chains" "Form.chains" s_Form_chains f fd) : FnOk P w K mg base CX0 1 f fd ["self"] (getSp C "_chains") := by
  obtain ⟨oc, od, kV, doc, pm, an, cdv, ct, osl, rfl, lk, hcd⟩ := F.ex
  exact fn_getter lk hcd sc_Form_chains rfl rfl FC.cl FC.nC
end
section
variable {X : Cx} {C : Addr} {e : Expr} {pos : Pos} {te : TE} {k : Nat}
theorem pe_letters (FC : FormC X.K X.mg C) (hr : Room k X.A) (hk : 2 ≤ k) (he : PE X e te) (hab : attributeBase e "letters" X.env (eval e X.env) = eval e X.env := by rfl) : PE X (.Attribute e "letters" pos) (tProp C (getSp C "_letters") [] E0 te) := by
  obtain ⟨p, f, fd, hp, F, b⟩ := FC.pL
  exact pe_prop he FC.cl hp (ok_form_letters FC F) (hr.mono hk) b .nil pass0 hab
theorem pe_chains (FC : FormC X.K X.mg C) (hr : Room k X.A) (hk : 2 ≤ k) (he : PE X e te) (hab : attributeBase e "chains" X.env (eval e X.env) = eval e X.env := by rfl) : PE X (.Attribute e "chains" pos) (tProp C (getSp C "_chains") [] E0 te) := by
  obtain ⟨p, f, fd, hp, F, b⟩ := FC.pC
  exact pe_prop he FC.cl hp (ok_form_chains FC F) (hr.mono hk) b .nil pass0 hab
theorem s_letters {σ : L2.St} {H : Hp} {Q : VK} (h : te σ H fun x H1 => ∃ a z c, x = .ref a ∧ FormAt C H1 a z c ∧ Q (.str z) H1) : ∃ Q', te σ H Q' ∧ ∀ x H1, Q' x H1 → (∃ a dx fs, x = .ref a ∧ H1 a = some (.ins C dx fs) ∧ getSp C "_letters" (.ref a :: []) H1 Q E0) :=
  ⟨_, h, fun x H1 ⟨a, z, c, ex, ⟨dx, ea⟩, q⟩ => ⟨a, dx, _, ex, ea, a, dx, _, _, rfl, ea, frm_l _ _, q⟩⟩
end
theorem q_letters {C a : Addr} {H : Hp} {Q : VK} {z : Str} {c : Int} (h : FormAt C H a z c) (q : Q (.str z) H) : ∃ b dx fs, V.ref a = .ref b ∧ H b = some (.ins C dx fs) ∧ getSp C "_letters" (.ref b :: []) H Q E0 :=
  let ⟨dx, e⟩ := h; ⟨a, dx, _, rfl, e, a, dx, _, _, rfl, e, frm_l _ _, q⟩
theorem q_chains {C a : Addr} {H : Hp} {Q : VK} {z : Str} {c : Int} (h : FormAt C H a z c) (q : Q (.int c) H) : ∃ b dx fs, V.ref a = .ref b ∧ H b = some (.ins C dx fs) ∧ getSp C "_chains" (.ref b :: []) H Q E0 :=
  let ⟨dx, e⟩ := h; ⟨a, dx, _, rfl, e, a, dx, _, _, rfl, e, frm_c _ _, q⟩
theorem s_prop {C : Addr} {sp : Sp} {dvs : List V} {E : XK} {ta : TE} {σ : L2.St} {H : Hp} {Q : VK} (h : ta σ H fun x H1 => ∃ a dx fs, x = .ref a ∧ H1 a = some (.ins C dx fs) ∧ sp (.ref a :: dvs) H1 Q E) : tProp C sp dvs E ta σ H Q := h
section
variable {P : Program} {w : World} {K : PySem.W.Frag} {mg : Str → Option Value} {base : Heap}
/-! ### Form.__eq__ -/
def spFormEq (K : PySem.W.Frag) (C : Addr) : Sp := fun vs H Q _ => ∃ a y z c, vs = [.ref a, y] ∧ FormAt C H a z c ∧ ((∃ b z' c', y = .ref b ∧ FormAt C H b z' c' ∧ Q (.bl (decide (z = z' ∧ c = c'))) H) ∨ ∃ T, Pl K H y T ∧ Q (.bl false) H)
theorem ok_form_eq {C f : Addr} {fd : FuncData} (T : Txt K mg) (FC : FormC K mg C) (F : Fun K "__eq__" "Form.__eq__" s_Form___eq__ f fd) : FnOk P w K mg base CX0 3 f fd ["self", "other"] (spFormEq K C) := by
  refine F.ok sc_Form___eq__ (fun vs H Q E h => ?_) (fun cdv A outer s H vs Q E hr h => ?_)
  · obtain ⟨a, y, z, c, rfl, _⟩ := h
    rfl
  · obtain ⟨a, y, z, c, rfl, ha, hy⟩ := h
    refine ⟨_, (pss_one (ps_ret (pe_and (pe_callB call_isi (by rfl) T.n_isinstance (by decide +kernel) (pa_cons (pv 1) (pa_cons (pe_glob (v := .ref C) (by rfl) FC.g rfl) pa_nil)))
      (pe_and (pe_cmpR op_eq (pe_letters FC hr (by decide) (pv 0)) (pe_letters FC hr (by decide) (pv 1)) (by rfl)) (pe_one (pe_cmpR op_eq (pe_chains FC hr (by decide) (pv 0)) (pe_chains FC hr (by decide) (pv 1)) (by rfl))))))), ?_⟩
    k_extra "r"
    rcases hy with ⟨b, z', c', rfl, hb, q⟩ | ⟨ty, hy, q⟩
    · refine ⟨.ref b, .ref C, .ref C, .ref C, true, rfl, .own C, hb.ty FC, FC.kY, ?_⟩
      k_extra "r"
      refine s_prop ?_
      k_extra "r"
      refine q_letters ha ?_
      refine s_prop ?_
      k_extra "r"
      refine q_letters hb ⟨rfl, ?_⟩
      k_extra "r"
      by_cases e1 : z = z'
      · subst e1
        refine s_if1 (by simp) ?_
        refine s_prop ?_
        k_extra "r"
        refine q_chains ha ?_
        refine s_prop ?_
        k_extra "r"
        refine q_chains hb ⟨rfl, ?_⟩
        have : decide (V.int c = V.int c') = decide (z = z ∧ c = c') := decide_eq_decide.mpr ⟨fun e => ⟨rfl, by cases e; rfl⟩, fun e => by rw [e.2]⟩
        rw [this]
        exact q
      · refine s_if0 (by simp [e1]) ?_
        have : decide (z = z' ∧ c = c') = false := decide_eq_false fun e => e1 e.1
        rw [this] at q
        exact q
    · refine ⟨y, .ref C, .type ty, .ref C, false, rfl, .own C, hy.1, FC.kN _ hy.2, ?_⟩
      k_extra "r"
      exact q
end
end Bt
namespace Bt
open PySem PySem.Spec PyProof.Rows L2
theorem app_cps (a b : Str) : (a ++ b).cps.toList = a.cps.toList ++ b.cps.toList := by
  show (a.cps ++ b.cps).toList = _
  simp
theorem len_cps (z : Str) : z.length = z.cps.toList.length := (Array.length_toList).symm
theorem app_len (a b : Str) : (a ++ b).length = a.length + b.length := by
  rw [len_cps, len_cps, len_cps, app_cps, List.length_append]
theorem cut_cps (z : Str) (lo hi : Option Int) : (cutS z lo hi).cps.toList = (z.cps.toList.drop (HT.sIx z.length 0 lo)).take (HT.sIx z.length z.length hi - HT.sIx z.length 0 lo) := rfl
theorem cut_from {z : Str} {i : Int} (h0 : 0 ≤ i) : (cutS z (some i) none).cps.toList = z.cps.toList.drop i.toNat := by
  obtain ⟨k, rfl⟩ : ∃ k : Nat, i = k := ⟨i.toNat, by omega⟩
  rw [cut_cps, HT.sIx_nat, HT.sIx_none, Int.toNat_natCast, len_cps]
  rcases Nat.le_total k z.cps.toList.length with h | h
  · rw [Nat.min_eq_left h, List.take_of_length_le (by rw [List.length_drop]; omega)]
  · rw [Nat.min_eq_right h, List.drop_of_length_le (Nat.le_refl _), List.drop_of_length_le h, List.take_nil]
theorem cut_to {z : Str} {j : Int} (h0 : 0 ≤ j) : (cutS z none (some j)).cps.toList = z.cps.toList.take j.toNat := by
  obtain ⟨k, rfl⟩ : ∃ k : Nat, j = k := ⟨j.toNat, by omega⟩
  rw [cut_cps, HT.sIx_nat, HT.sIx_none, Int.toNat_natCast, len_cps, List.drop_zero, Nat.sub_zero]
  rcases Nat.le_total k z.cps.toList.length with h | h
  · rw [Nat.min_eq_left h]
  · rw [Nat.min_eq_right h, List.take_of_length_le (Nat.le_refl _), List.take_of_length_le h]
theorem cut_mid {z : Str} {i j : Int} (h0 : 0 ≤ i) (h1 : 0 ≤ j) (h2 : i ≤ z.length) (h3 : j ≤ z.length) : (cutS z (some i) (some j)).cps.toList = (z.cps.toList.drop i.toNat).take (j.toNat - i.toNat) := by
  obtain ⟨k, rfl⟩ : ∃ k : Nat, i = k := ⟨i.toNat, by omega⟩
  obtain ⟨m, rfl⟩ : ∃ k : Nat, j = k := ⟨j.toNat, by omega⟩
  rw [cut_cps, HT.sIx_nat, HT.sIx_nat, Int.toNat_natCast, Int.toNat_natCast, Nat.min_eq_left (by omega), Nat.min_eq_left (by omega)]
theorem Letters.len {z : Str} (h : Letters z) : z.length = 26 := by rw [len_cps, h.length_eq, alpha_len]
theorem Letters.asc {z : Str} (h : Letters z) : Asc z := fun c hc => by
  have := (mem_alpha.mp (h.mem_iff.mp hc)).2
  omega
theorem letters_alpha : Letters alphaS := by unfold Letters; rw [alphaS_cps]
theorem letters_rev : Letters (revT alphaS) := by decide +kernel
theorem perm_rot {l : List Nat} (k : Nat) : (l.drop k ++ l.take k).Perm l := by
  refine List.perm_append_comm.trans ?_
  rw [List.take_append_drop]
theorem letters_rot {z a b : Str} {k : Nat} (h : Letters z) (ha : a.cps.toList = z.cps.toList.drop k) (hb : b.cps.toList = z.cps.toList.take k) : Letters (a ++ b) := by
  unfold Letters
  rw [app_cps, ha, hb]
  exact (perm_rot k).trans h
theorem perm_pull {l : List Nat} {t a : Nat} {c : Nat} (hta : t ≤ a) (hc : l[a]? = some c) : (l.take t ++ [c] ++ ((l.drop t).take (a - t) ++ l.drop (a + 1))).Perm l := by
  obtain ⟨ha, ec⟩ := List.getElem?_eq_some_iff.mp hc
  have e1 : l = l.take t ++ ((l.drop t).take (a - t) ++ (c :: l.drop (a + 1))) := by
    have h1 : l.drop t = (l.drop t).take (a - t) ++ (l.drop t).drop (a - t) := (List.take_append_drop _ _).symm
    have h2 : (l.drop t).drop (a - t) = l.drop a := by rw [List.drop_drop]; congr 1; omega
    have h3 : l.drop a = c :: l.drop (a + 1) := by rw [List.drop_eq_getElem_cons ha, ec]
    rw [← h3, ← h2, ← h1, List.take_append_drop]
  have e2 : (l.take t ++ [c] ++ ((l.drop t).take (a - t) ++ l.drop (a + 1))).Perm (l.take t ++ ((l.drop t).take (a - t) ++ (c :: l.drop (a + 1)))) := by
    rw [List.append_assoc]
    refine List.Perm.append_left _ ?_
    show ([c] ++ ((l.drop t).take (a - t) ++ l.drop (a + 1))).Perm _
    exact (List.perm_middle (a := c) (l₁ := (l.drop t).take (a - t)) (l₂ := l.drop (a + 1))).symm
  rw [← e1] at e2
  exact e2
theorem letters_pull {z x y r : Str} {t a c : Nat} (h : Letters z) (hta : t ≤ a) (hc : z.cps.toList[a]? = some c) (hx : x.cps.toList = z.cps.toList.take t) (hy : y.cps.toList = [c]) (hr : r.cps.toList = (z.cps.toList.drop t).take (a - t) ++ z.cps.toList.drop (a + 1)) : Letters (x ++ y ++ r) := by
  unfold Letters
  rw [app_cps, app_cps, hx, hy, hr]
  exact (perm_pull hta hc).trans h
end Bt
namespace Bt
open PySem PySem.Spec PyProof.Rows L2
theorem words2_ : True := by
  k_with "s" => first
    | ((with_reducible refine' s_var ?hv ?_); (case hv => exact rfl))
    | with_reducible first
      | refine' s_c ?_ | refine' s_op ?_ | refine' s_asg ?_ | refine' s_gname ?_ | refine' s_seq ?_ | refine' s_next ?_ | refine' s_ret ?_ | refine' s_ifS ?_ | refine' s_drop ?_ | refine' s_retN ?_
      | refine' s_test ?_ | refine' s_B ?_ | refine' q_test ?_ | refine' s_int ?_ | refine' s_cons ?_ | refine' s_nil ?_ | refine' s_call ?_ | refine' s_CB ?_ | refine' s_andT ?_ | refine' s_orT ?_ | refine' s_notT ?_
      | refine' s_andV ?_ | refine' s_orV ?_ | refine' s_notV ?_ | refine' s_ifV ?_ | refine' s_chain ?_ | refine' s_sl ?_ | refine' s_noPart ?_ | refine' s_part ?_ | refine' s_gsub ?_ | refine' s_BM ?_ | refine' s_tup ?_ | refine' s_lst ?_
      | refine' q_add ?_ | refine' q_sub ?_ | refine' q_lt ?_ | refine' q_le ?_ | refine' q_gt ?_ | refine' q_ge ?_ | refine' s_ifT ?_ | refine' s_ifF ?_
      | (refine' q_mod ?hm ?_; (case hm => first | omega | decide)) | (refine' q_fdiv ?hm ?hn ?_; (case hm => first | omega | decide); (case hn => first | omega | decide))
      | (refine' q_mulR ?hm ?_; (case hm => first | omega | decide)) | (refine' q_mulL ?hm ?_; (case hm => first | omega | decide))
    | dsimp only
  k_with "r" => repeat (k_extra "s")
  trivial
/-! ### the purse -/
def Purse (H : Hp) (p : Addr) : Prop := ∃ a b c : Int, H p = some (.lst [.int a, .int b, .int c]) ∧ 0 ≤ b ∧ b < 2147483629
theorem Purse.mono {H H' : Hp} {p : Addr} (S : Same H H') (h : Purse H p) : Purse H' p := let ⟨a, b, c, e, h⟩ := h; ⟨a, b, c, S _ _ e, h⟩
def spDraw : Sp := fun vs H Q _ => ∃ (p : Addr) (m : Int), vs = [.ref p, .int m] ∧ Purse H p ∧ 0 < m ∧ m < 1073741824 ∧ ∀ n H', 0 ≤ n → n < m → Purse H' p → But p H H' → Q (.int n) H'
structure TxtL (K : PySem.W.Frag) (mg : Str → Option Value) : Prop where
  n_range : mg "range" = none
  n_sum : mg "sum" = none
  d__law_purse : Df K mg "_law_purse" s__law_purse ["_law_script", "_law_at"]
  d__law_draw : Df K mg "_law_draw" s__law_draw ["_law_purse_here", "_law_many"]
  d__law_form : Df K mg "_law_form" s__law_form ["_law_purse_here"]
section
variable {P : Program} {w : World} {K : PySem.W.Frag} {mg : Str → Option Value} {base : Heap}
theorem ok__law_draw (L : TxtL K mg) : Cal P w K mg base 1 "_law_draw" spDraw := by
  refine L.d__law_draw.cal sc__law_draw (fun vs H Q E h => ?_) (fun f cdv A outer s H vs Q E hr h => ?_)
  · obtain ⟨p, m, rfl, _⟩ := h
    rfl
  · obtain ⟨p, m, rfl, ⟨a, b, c, hp, b0, b1⟩, m0, m1, k⟩ := h
    refine ⟨_, (pss_cons (ps_if (pt_cmpR op_gtI (pe_ix ix_seq (pv 0) pe_int (fun _ _ => rfl)) pe_int (by rfl)) (pss_cons (ps_set (i := 2) sc__law_draw.nd rfl (.inl rfl) (pe_op op_modU (pe_ix ix_seq (pv 0) pe_int (fun _ _ => rfl)) (pv 1)))
        (pss_cons (ps_asg (pe_op op_fdivU (pe_ix ix_seq (pv 0) pe_int (fun _ _ => rfl)) (pv 1)) (pg_sub (pv 0) pe_int set_list))
        (pss_one (ps_ret (pv 2))))) pss_nil)
      (pss_cons (ps_asg (pe_op op_addU (pe_ix ix_seq (pv 0) pe_int (fun _ _ => rfl)) pe_int) (pg_sub (pv 0) pe_int set_list))
      (pss_cons (ps_set (i := 3) sc__law_draw.nd rfl (.inl rfl) (pe_op op_modU (pe_op op_addU (pe_op op_addU (pe_op op_mulU (pe_ix ix_seq (pv 0) pe_int (fun _ _ => rfl)) pe_int) (pe_op op_mulU (pe_ix ix_seq (pv 0) pe_int (fun _ _ => rfl)) pe_int)) pe_int) pe_int))
      (pss_cons (ps_set (i := 3) sc__law_draw.nd rfl (.inl rfl) (pe_op op_modU (pe_op op_addU (pe_op op_mulU (pv 3) (pv 3)) (pe_ix ix_seq (pv 0) pe_int (fun _ _ => rfl))) pe_int))
      (pss_cons (ps_set (i := 3) sc__law_draw.nd rfl (.inl rfl) (pe_op op_modU (pe_op op_addU (pe_op op_mulU (pv 3) (pv 3)) pe_int) pe_int))
      (pss_one (ps_ret (pe_op op_modU (pe_op op_fdivU (pv 3) pe_int) (pv 1))))))))), ?_⟩
    k_extra "r"
    refine q_ixL (SqL.of hp) (at_of (j := 0) rfl rfl) ?_
    k_extra "r"
    refine s_ifD (fun c0 => ?_) (fun c0 => ?_)
    · k_extra "r"
      refine q_ixL (SqL.of hp) (at_of (j := 0) rfl rfl) ?_
      k_extra "r"
      refine q_ixL (SqL.of hp) (at_of (j := 0) rfl rfl) ?_
      k_extra "r"
      refine q_setL hp rfl ?_
      k_extra "r"
      exact k _ _ (Int.emod_nonneg _ (by omega)) (Int.emod_lt_of_pos _ m0) ⟨_, _, _, upd_same, b0, b1⟩ But.upd
    · k_extra "r"
      refine q_ixL (SqL.of hp) (at_of (j := 2) rfl rfl) ?_
      k_extra "r"
      refine q_setL hp rfl ?_
      have hp2 : (upd H p (.lst ([V.int a, V.int b, V.int c].set 2 (.int (c + 1))))) p = some (.lst [.int a, .int b, .int (c + 1)]) := upd_same
      k_extra "r"
      refine q_ixL (SqL.of hp2) (at_of (j := 1) rfl rfl) ?_
      k_extra "r"
      refine q_ixL (SqL.of hp2) (at_of (j := 2) rfl rfl) ?_
      k_extra "r"
      have g1 := Int.emod_nonneg (b * 48271 + (c + 1) * 1299709 + 907) (show (2147483629 : Int) ≠ 0 by decide)
      have g2 := Int.emod_lt_of_pos (b * 48271 + (c + 1) * 1299709 + 907) (show (0 : Int) < 2147483629 by decide)
      generalize (b * 48271 + (c + 1) * 1299709 + 907) % 2147483629 = x1 at g1 g2 ⊢
      k_extra "r"
      refine q_ixL (SqL.of hp2) (at_of (j := 2) rfl rfl) ?_
      k_extra "r"
      have g3 := Int.emod_nonneg (x1 * x1 + (c + 1)) (show (2147483587 : Int) ≠ 0 by decide)
      have g4 := Int.emod_lt_of_pos (x1 * x1 + (c + 1)) (show (0 : Int) < 2147483587 by decide)
      generalize (x1 * x1 + (c + 1)) % 2147483587 = x2 at g3 g4 ⊢
      k_extra "r"
      exact k _ _ (Int.emod_nonneg _ (by omega)) (Int.emod_lt_of_pos _ m0) ⟨_, _, _, hp2, b0, b1⟩ But.upd
theorem cutV_ints {ns : List Int} {lo hi : Option Int} : ∃ ms : List Int, cutV (ns.map V.int) lo hi = ms.map V.int := ⟨_, by unfold cutV; rw [← List.map_drop, ← List.map_take]⟩
theorem big_pos : (0 : Int) < ((10 : Int) ^ (60 : Int).toNat) ^ (10 : Int).toNat := Int.pow_pos (Int.pow_pos (by decide))
def spPurse (K : PySem.W.Frag) : Sp := fun vs H Q _ => ∃ (a : Addr) (ns : List Int) (k : Int), vs = [.ref a, .int k] ∧ SqL K H a (ns.map V.int) ∧ 0 ≤ k ∧ k < 1000 ∧ ∀ p H', H p = none → Same H H' → Purse H' p → Q (.ref p) H'
theorem ok__law_purse (T : Txt K mg) (L : TxtL K mg) : Cal P w K mg base 1 "_law_purse" (spPurse K) := by
  refine L.d__law_purse.cal sc__law_purse (fun vs H Q E h => ?_) (fun f cdv A outer s H vs Q E hr h => ?_)
  · obtain ⟨a, ns, k, rfl, _⟩ := h
    rfl
  · obtain ⟨a, ns, at_, rfl, hs, k0, k1, k⟩ := h
    refine ⟨_, (pss_cons (ps_set (i := 2) sc__law_purse.nd rfl (.inl rfl) (pe_callTy call_int1 (by rfl) T.n_int (by decide +kernel) (pa_cons (pe_callB (cr_sum rfl) (by rfl) L.n_sum (by decide +kernel) (pa_cons (pe_slice sl_list (pv 0) (po_some (pv 1)) (po_some (pe_op op_addU (pv 1) pe_int))) pa_nil)) pa_nil)))
      (pss_one (ps_ret (pe_lst (pa_cons (pe_op op_mulU (pe_callTy call_int1 (by rfl) T.n_int (by decide +kernel) (pa_cons (pe_cmpR op_geI (pv 2) (pe_op op_powW pe_int pe_int) (by rfl)) pa_nil)) (pe_op op_modU (pv 2) (pe_op op_powW (pe_op op_powW pe_int pe_int) pe_int))) (pa_cons (pe_op op_modU (pv 2) pe_int) (pa_cons (pe_op op_mulU pe_int (pv 1)) pa_nil))))))), ?_⟩
    k_extra "r"
    refine ⟨a, _, rfl, hs, fun l hl => ?_⟩
    obtain ⟨ms, em⟩ := cutV_ints (ns := ns) (lo := some at_) (hi := some (at_ + 1))
    rw [em]
    k_extra "r"
    refine ⟨l, ms, rfl, SqL.of upd_same, ?_⟩
    k_extra "r"
    refine .inl ⟨_, rfl, ?_⟩
    k_extra "r"
    refine ⟨_, _, rfl, rfl, ⟨by decide, by decide +kernel⟩, ?_⟩
    k_extra "r"
    refine .inr ⟨_, rfl, ?_⟩
    k_extra "r"
    refine ⟨_, _, rfl, rfl, ⟨by decide, by decide +kernel⟩, ?_⟩
    k_extra "r"
    refine ⟨_, _, rfl, rfl, ⟨by decide, by decide +kernel⟩, ?_⟩
    refine q_mod big_pos ?_
    refine q_mulL ?_ ?_
    · split <;> decide
    k_extra "r"
    refine ⟨by show 3 ≤ sizeLine; decide, fun p np => ?_⟩
    refine k p _ (by rw [upd_ne (fun e => by rw [e, upd_same] at np; cases np)] at np; exact np) (fun b o e => ?_) ⟨_, _, _, upd_same, Int.emod_nonneg _ (by decide), Int.emod_lt_of_pos _ (by decide)⟩
    exact Same.new np _ _ (Same.new hl _ _ e)
/-! ### the form's draw -/
def spForm : Sp := fun vs H Q _ => ∃ (p : Addr), vs = [.ref p] ∧ Purse H p ∧ ∀ t H' z c, H t = none → H' t = some (.tup [.str z, .int c]) → Letters z → 1 ≤ c → c ≤ 1000 → Purse H' p → But p H H' → Q (.ref t) H'
theorem ok__law_form (T : Txt K mg) (L : TxtL K mg) : Cal P w K mg base 2 "_law_form" spForm := by
  refine L.d__law_form.cal sc__law_form (fun vs H Q E h => ?_) (fun f cdv A outer s H vs Q E hr h => ?_)
  · obtain ⟨p, rfl, _⟩ := h
    rfl
  · obtain ⟨p, rfl, hp, k⟩ := h
    refine ⟨_, (pss_cons (ps_set (i := 1) sc__law_form.nd rfl (.inl rfl) pe_str)
      (pss_cons (ps_set (i := 2) sc__law_form.nd rfl (.inl rfl) (pe_c (ok__law_draw L) hr (by decide) rfl (pa_cons (pv 0) (pa_cons pe_int pa_nil))))
      (C8.pss_cut (ps_if (pt_cmpR op_eq (pv 2) pe_int (by rfl)) (pss_one (ps_set (i := 1) sc__law_form.nd rfl (.inl rfl) (pe_revS (pv 1)))) pss_nil)
      (C8.pss_cut (ps_if (pt_cmpR op_eq (pv 2) pe_int (by rfl)) (pss_cons (ps_set (i := 3) sc__law_form.nd rfl (.inl rfl) (pe_c (ok__law_draw L) hr (by decide) rfl (pa_cons (pv 0) (pa_cons pe_int pa_nil))))
        (pss_one (ps_set (i := 1) sc__law_form.nd rfl (.inl rfl) (pe_op op_addU (pe_slice sl_str (pv 1) (po_some (pv 3)) po_none) (pe_slice sl_str (pv 1) po_none (po_some (pv 3))))))) pss_nil)
      (C8.pss_cut (ps_if (pt_cmpR op_eq (pv 2) pe_int (by rfl)) (pss_one (ps_for PassesOwn.never rfl (pi_range1 rfl L.n_range (pa_cons pe_int pa_nil)) (pg_name (i := 4) sc__law_form.nd rfl (.inl rfl))
          (pss_cons (ps_set (i := 3) sc__law_form.nd rfl (.inl rfl) (pe_op op_addU (pv 4) (pe_c (ok__law_draw L) hr (by decide) rfl (pa_cons (pv 0) (pa_cons (pe_op op_subU pe_int (pv 4)) pa_nil)))))
            (pss_cons (ps_set (i := 5) sc__law_form.nd rfl (.inl rfl) (pe_op op_addU (pe_slice sl_str (pv 1) (po_some (pv 4)) (po_some (pv 3))) (pe_slice sl_str (pv 1) (po_some (pe_op op_addU (pv 3) pe_int)) po_none)))
            (pss_one (ps_set (i := 1) sc__law_form.nd rfl (.inl rfl) (pe_op op_addU (pe_op op_addU (pe_slice sl_str (pv 1) po_none (po_some (pv 4))) (pe_ix ix_seq (pv 1) (pv 3) (fun _ _ => rfl))) (pv 5)))))))) pss_nil)
      (pss_cons (ps_set (i := 6) sc__law_form.nd rfl (.inl rfl) (pe_ix ix_seq (pe_lst (pa_cons pe_int (pa_cons pe_int (pa_cons pe_int (pa_cons pe_int pa_nil))))) (pe_c (ok__law_draw L) hr (by decide) rfl (pa_cons (pv 0) (pa_cons pe_int pa_nil))) (fun _ _ => rfl)))
      (pss_one (ps_ret (pe_tup (pa_cons (pv 1) (pa_cons (pe_op op_addU pe_int (pe_c (ok__law_draw L) hr (by decide) rfl (pa_cons (pv 0) (pa_cons (pv 6) pa_nil)))) pa_nil))))))))))), ?_⟩
    k_extra "r"
    refine ⟨p, 5, rfl, hp, by decide, by decide, fun n H1 n0 n5 hp1 b1 => ?_⟩
    k_extra "r"
    -- what is known between the ifs
    let Mid : L2.St → Hp → Prop := fun σ H' => ∃ (z : Str) (a1 a2 a3 : Option V), σ = [some (.ref p), some (.str z), some (.int n), a1, a2, a3, none] ∧ Letters z ∧ Purse H' p ∧ But p H H'
    refine ⟨fun σ H' => ∃ (z : Str), σ = [some (.ref p), some (.str z), some (.int n), none, none, none, none] ∧ Letters z ∧ Purse H' p ∧ But p H H', ?_, ?_⟩
    · k_extra "r"
      refine ⟨rfl, ?_⟩
      k_extra "r"
      refine s_ifD (fun c => ?_) (fun c => ?_)
      · k_extra "r"
        refine ⟨_, rfl, alphaS, rfl, by decide +kernel, ?_⟩
        exact ⟨revT alphaS, rfl, letters_rev, hp1, b1⟩
      · k_extra "r"
        exact ⟨alphaS, rfl, letters_alpha, hp1, b1⟩
    · rintro σ H2 ⟨z, rfl, lz, hp2, b2⟩
      refine ⟨Mid, ?_, ?_⟩
      · k_extra "r"
        refine ⟨rfl, ?_⟩
        k_extra "r"
        refine s_ifD (fun c => ?_) (fun c => ?_)
        · k_extra "r"
          refine ⟨p, 26, rfl, hp2, by decide, by decide, fun m H3 m0 m1 hp3 b3 => ?_⟩
          k_extra "r"
          have hz : z.length ≤ sizeLine := sz (by rw [lz.len]; decide)
          refine ⟨z, rfl, hz, ?_⟩
          k_extra "r"
          refine ⟨z, rfl, hz, ?_⟩
          have e1 := cut_from (z := z) m0
          have e2 := cut_to (z := z) m0
          have lr := letters_rot lz e1 e2
          refine q_addS (by rw [← app_len, lr.len]; exact sz (by decide)) ?_
          k_extra "r"
          exact ⟨_, _, _, _, rfl, lr, hp3, b2.trans b3⟩
        · exact ⟨z, none, none, none, rfl, lz, hp2, b2⟩
      · rintro σ H3 ⟨z, a1, a2, a3, rfl, lz, hp3, b3⟩
        refine ⟨Mid, ?_, ?_⟩
        · k_extra "r"
          refine ⟨rfl, ?_⟩
          k_extra "r"
          refine s_ifD (fun c => ?_) (fun c => ?_)
          · k_extra "r"
            refine ⟨25, rfl, by decide, by decide, for_range (lo := 0) (n := 25) (fun i σ H' => Mid σ H') ⟨z, a1, a2, a3, rfl, lz, hp3, b3⟩ ?_ ?_⟩
            · rintro i σ H4 hi ⟨z, a1, a2, a3, rfl, lz, hp4, b4⟩
              k_extra "r"
              refine ⟨p, 26 - (0 + (i : Int)), rfl, hp4, by omega, by omega, fun m H5 m0 m1 hp5 b5 => ?_⟩
              k_extra "r"
              have hz : z.length ≤ sizeLine := sz (by rw [lz.len]; decide)
              have h26 := lz.len
              obtain ⟨a, ha⟩ : ∃ a : Nat, 0 + (i : Int) + m = a := ⟨(0 + (i : Int) + m).toNat, by omega⟩
              have ei : (0 : Int) + (i : Int) = (i : Int) := by omega
              rw [ha, ei]
              refine ⟨z, rfl, hz, ?_⟩
              k_extra "r"
              refine ⟨z, rfl, hz, ?_⟩
              have e1 := cut_mid (z := z) (i := (i : Int)) (j := (a : Int)) (by omega) (by omega) (by omega) (by omega)
              have e2 := cut_from (z := z) (i := (a : Int) + 1) (by omega)
              have e3 := cut_to (z := z) (j := (i : Int)) (by omega)
              have q2 : ((a : Int) + 1).toNat = a + 1 := by omega
              rw [Int.toNat_natCast, Int.toNat_natCast] at e1
              rw [q2] at e2
              rw [Int.toNat_natCast] at e3
              have la : a < z.cps.toList.length := by rw [← len_cps]; omega
              have hc : z.cps.toList[a]? = some z.cps.toList[a] := List.getElem?_eq_getElem la
              have er : (cutS z (some (i : Int)) (some (a : Int)) ++ cutS z (some ((a : Int) + 1)) none).cps.toList = (z.cps.toList.drop i).take (a - i) ++ z.cps.toList.drop (a + 1) := by rw [app_cps, e1, e2]
              have lr : Letters (cutS z none (some (i : Int)) ++ ⟨#[z.cps.toList[a]]⟩ ++ (cutS z (some (i : Int)) (some (a : Int)) ++ cutS z (some ((a : Int) + 1)) none)) := letters_pull lz (by omega) hc e3 rfl er
              have lrl := lr.len
              rw [app_len, app_len] at lrl
              refine q_addS (by rw [← app_len]; exact sz (by omega)) ?_
              k_extra "r"
              refine ⟨z, rfl, hz, ?_⟩
              k_extra "r"
              refine q_ixS hz (atI_nat hc) ?_
              refine q_addS (sz (by omega)) ?_
              k_extra "r"
              refine q_addS (by rw [app_len]; exact sz (by omega)) ?_
              k_extra "r"
              exact ⟨_, _, _, _, rfl, lr, hp5, b4.trans b5⟩
            · rintro σ H4 h4
              exact h4
          · exact ⟨z, a1, a2, a3, rfl, lz, hp3, b3⟩
        · rintro σ H4 ⟨z, a1, a2, a3, rfl, lz, hp4, b4⟩
          k_extra "r"
          refine ⟨by show 4 ≤ sizeLine; decide, fun q nq => ?_⟩
          k_extra "r"
          have npq : q ≠ p := fun e => by
            obtain ⟨_, _, _, e2, _⟩ := hp4
            rw [e, e2] at nq
            cases nq
          refine ⟨p, 4, rfl, hp4.mono (Same.new nq), by decide, by decide, fun m H5 m0 m1 hp5 b5 => ?_⟩
          have hq : H5 q = some (.lst [.int 1, .int 1, .int 4, .int 1000]) := b5 q _ npq upd_same
          k_extra "r"
          obtain ⟨mm, em, g1, g2⟩ : ∃ mm : Int, atI [V.int 1, V.int 1, V.int 4, V.int 1000] m = some (.int mm) ∧ 1 ≤ mm ∧ mm ≤ 1000 := by
            have : m = 0 ∨ m = 1 ∨ m = 2 ∨ m = 3 := by omega
            rcases this with rfl | rfl | rfl | rfl
            · exact ⟨1, rfl, by decide, by decide⟩
            · exact ⟨1, rfl, by decide, by decide⟩
            · exact ⟨4, rfl, by decide, by decide⟩
            · exact ⟨1000, rfl, by decide, by decide⟩
          refine q_ixL (SqL.of hq) em ?_
          k_extra "r"
          refine ⟨p, mm, rfl, hp5, by omega, by omega, fun y H6 y0 y1 hp6 b6 => ?_⟩
          k_extra "r"
          refine ⟨by show 2 ≤ sizeLine; decide, fun t nt => ?_⟩
          have b46 : But p H H6 := ((b4.trans (But.of (Same.new nq))).trans b5).trans b6
          have ntp : t ≠ p := fun e => by
            obtain ⟨_, _, _, e2, _⟩ := hp6
            rw [e, e2] at nt
            cases nt
          exact k t _ z (1 + y) (b46.free ntp nt) upd_same lz (by omega) (by omega) (hp6.mono (Same.new nt)) (b46.trans (But.of (Same.new nt)))
end
end Bt
namespace Bt
open PySem PySem.Spec PyProof.Rows L2
section
variable {X : Cx}
/-- a tuple == an instance of an own class: the class's own __eq__ answers -/
def rEqTupOwn (K : PySem.W.Frag) (C : Addr) (sp : Sp) (E : XK) : R2 := fun x y H Q => ∃ t xs a dx fs, x = .ref t ∧ H t = some (.tup xs) ∧ y = .ref a ∧ H a = some (.ins C dx fs) ∧ sp [y, x] H (fun v H' => ∃ b, v = .bl b ∧ Q v H') E
theorem op_eqTupOwn {CX : CXT} {n : Nat} {C f : Addr} {fd : FuncData} {ps : List Str} {sp : Sp} {E : XK} (F : FnOk X.prog X.w X.K X.mg X.base CX n f fd ps sp) (hr : Room n X.A)
    (hs : PySem.W.findIn X.K (.ref C) "__eq__" = some (some (.ref f))) (hf : PySem.W.isFn X.K (.ref f) = true) (hb : Binds X.K fd ps []) (hx : Passes CX X E)
    (hsub : PySem.W.subIn X.K (.ref C) (.type "tuple") = some false) (hmro : PySem.W.mroIn X.K C (.type "tuple") = some false) : OpR X (compareOp .Eq) (rEqTupOwn X.K C sp E) := by
  intro pins s σ H x y v u Q I rx ry hq
  obtain ⟨t, xs, a, dx, fs, rfl, ht, rfl, ha, hsp⟩ := hq
  cases rx
  cases ry
  obtain ⟨mA, J, _⟩ := ins_get I.hok ha
  obtain ⟨od, J, _⟩ := J.look
  obtain ⟨m, hF⟩ := I.fr
  obtain ⟨its, r, pl, hz⟩ := I.tuple (.inl (.inl ht))
  have XK := I.kIn
  have hT : s.TypeIs (.ref t) "tuple" := pl.typeIs
  show wpAny (model X.prog X.w) X.A (richCompare .Eq (.ref t) (.ref a)) (EP X pins σ Q) X.xe s
  have inst : PySem.W.Looks (model X.prog X.w) s.heap (isInstance (.ref a) (.type "tuple")) false := J.type.andThen (PySem.W.looks_mroIn XK hmro)
  unfold richCompare
  simp only [oneThing_ref]
  refine wpAny_holding (wpAny_bind (wpAny_cRoomFor hr.units0 ?_))
  refine wpAny_bind (wpAny_typeOf hT (wpAny_bind (J.type.here ?_)))
  rw [if_pos (by rfl)]
  refine wpAny_bind ((PySem.W.looks_subIn XK hsub).here ?_)
  simp only [Bool.false_eq_true, if_false]
  refine wpAny_bind (wpAny_tryCompare_declines hT PySem.F.slot_tuple_eq (wpAny_call_entry PySem.F.slot_tuple_eq hT PySem.F.entry_tuple_eq ?_ (PySem.F.args_tuple_eq_2 _ _)))
  have hl := F.len _ _ _ _ hsp
  have r2 : Vals [V.ref a, V.ref t] [Value.ref a, Value.ref t] := .cons rfl (.cons rfl .nil)
  have back : ∀ s' : Shared, s' = s → wpAny (model X.prog X.w) X.A (tryCompare (.ref a) "__eq__" (.ref t)) (fun r s' => ∃ v, r = some v ∧ EP X pins σ Q v s') X.xe s' := fun s' e => by
    subst e
    unfold tryCompare
    refine wpAny_bind (PySem.W.ifBound_K XK J hs hf (wpAny_call (codeAny_mono (F.run X.A X.stack s' H ⟨[.ref a, .ref t], []⟩ [.ref a, .ref t] [.ref a, .ref t] _ E hr I.env0 (by
      have := hb s' [.ref a, .ref t] I.kIn (by simpa using hl)
      simpa using this) r2 hsp) fun r s' hq => ?_)))
    cases r with
    | error e => exact hx pins σ H _ e s' I hq
    | ok fl =>
      cases fl with
      | ret w =>
        obtain ⟨z, H', I', rz, b, ez, q⟩ := I.after hq
        subst ez
        cases rz
        exact wpAny_pure ⟨_, rfl, .bl b, H', I', rfl, q⟩
      | next => exact False.elim hq
      | brk => exact False.elim hq
      | cont => exact False.elim hq
  have step : ∀ s' : Shared, s' = s → wpAny (model X.prog X.w) X.A.in1 (Builtin.«tuple.__eq__» ⟨[.ref t, .ref a], []⟩) (fun fin s'' => fin = Fin.done (Flow.ret Value.notImplemented) ∧ s'' = s) X.xe s' := fun s' e => by
    subst e
    obtain ⟨hp, g, d, tk, os⟩ := s'
    unfold Builtin.«tuple.__eq__»
    wp_delta
    repeat (first | with_reducible refine inst.at ?_ | wp_step)
    exact ⟨rfl, rfl⟩
  refine wpAny_mono (step s rfl) (fun fin s' z => ?_) fun _ _ x => x
  obtain ⟨e1, e2⟩ := z
  subst e1 e2
  refine ⟨_, rfl, rfl, ?_⟩
  rw [if_pos (by rfl)]
  refine wpAny_bind (wpAny_mono (back _ rfl) (fun r s' z => ?_) fun _ _ x => x)
  obtain ⟨v, rfl, q⟩ := z
  exact wpAny_pure q
end
/-- for i, x in enumerate(xs) -/
theorem for_enum {K : PySem.W.Frag} {a : Addr} {xs : List V} {g : TG} {tb : TS} {D : Ends} {σ : L2.St} {H : Hp} (Pv : Nat → L2.St → Hp → Prop) (h0 : Pv 0 σ H) (hl : ∀ i σ H, i ≤ xs.length → Pv i σ H → SqL K H a xs)
    (hs : ∀ i x σ H T, xs[i]? = some x → Pv i σ H → H T = none → g (.ref T) σ (upd H T (.tup [.int (i : Nat), x])) fun σ2 H2 => tb { D with nx := Pv (i + 1), ct := Pv (i + 1), bk := D.nx } σ2 H2) (hd : ∀ σ H, Pv xs.length σ H → D.nx σ H) :
    ∃ W : Nat → Nat → L2.St → Hp → Prop, (∃ m, W 0 m σ H) ∧ ∀ i m σ H, W i m σ H →
      ((Ite K a).stop i H ∧ D.nx σ H) ∨ ((Ite K a).go i H ∧ ∃ N : L2.St → Hp → Prop, (∀ σ' H', N σ' H' → ∃ m', m' < m ∧ W (i + 1) m' σ' H') ∧ ∀ x H', (Ite K a).yld i H x H' → g x σ H' fun σ2 H2 => tb { D with nx := N, ct := N, bk := D.nx } σ2 H2) := by
  refine ⟨fun i m σ H => m = xs.length - i ∧ i ≤ xs.length ∧ Pv i σ H, ⟨xs.length, by simp, Nat.zero_le _, h0⟩, ?_⟩
  rintro i m σ H ⟨rfl, hi, p⟩
  have q := hl i σ H hi p
  by_cases hlt : i < xs.length
  · refine .inr ⟨⟨xs, xs[i], q, by simp [hlt]⟩, Pv (i + 1), fun σ' H' p' => ⟨xs.length - (i + 1), by omega, rfl, hlt, p'⟩, fun x H' y => ?_⟩
    obtain ⟨T, x0, e1, nT, e2, y⟩ := y
    subst e1 e2
    exact hs i x0 σ _ T (y xs q) p nT
  · have e : i = xs.length := by omega
    subst e
    exact .inl ⟨⟨xs, q, Nat.le_refl _⟩, hd σ H p⟩
theorem s_iList {K : PySem.W.Frag} {te : TE} {σ : L2.St} {H : Hp} {R : It → Hp → Prop} (h : te σ H fun x H1 => ∃ a, x = .ref a ∧ (∃ xs, SqL K H1 a xs) ∧ R (Itl K a) H1) : iList K te σ H R := h
theorem s_iEnum {K : PySem.W.Frag} {ts : TA} {σ : L2.St} {H : Hp} {R : It → Hp → Prop} (h : ts σ H fun vs H1 => ∃ a xs, vs = [.ref a] ∧ SqL K H1 a xs ∧ R (Ite K a) H1) : iEnum K ts σ H R := h
theorem same_but {p : Addr} {H0 H1 H2 : Hp} (S : Same H0 H1) (n : H0 p = none) (b : But p H1 H2) : Same H0 H2 := fun c o h => b c o (ne_of_none h n) (S c o h)
theorem s_par {i j : Nat} {ta : TA} {D : Ends} {σ : L2.St} {H : Hp} (h : ta σ H fun vs H1 => ∃ v w, vs = [v, w] ∧ D.nx ((σ.set i (some v)).set j (some w)) H1) : tPar i j ta D σ H := h
theorem s_gcons {t : TG} {u : TGs} {v : V} {r : List V} {σ : L2.St} {H : Hp} {N : L2.St → Hp → Prop} (h : t v σ H fun σ' H' => u r σ' H' N) : gCons t u (v :: r) σ H N := ⟨v, r, rfl, h⟩
theorem s_gnil {σ : L2.St} {H : Hp} {N : L2.St → Hp → Prop} (h : N σ H) : gNil [] σ H N := ⟨rfl, h⟩
theorem q_gtup {K : PySem.W.Frag} {n : Nat} {t : TGs} {a : Addr} {xs : List V} {σ : L2.St} {H : Hp} {N : L2.St → Hp → Prop} (h : SqT K H a xs) (hl : xs.length = n) (q : t xs σ H N) : gTup K n t (.ref a) σ H N := ⟨a, xs, rfl, h, hl, q⟩
theorem q_slL {K : PySem.W.Frag} {a : Addr} {xs : List V} {lo hi : Option Int} {H : Hp} {Q : VK} (h : SqL K H a xs) (q : ∀ p H', H p = none → Same H H' → H' p = some (.lst (cutV xs lo hi)) → Q (.ref p) H') : rSlL K (.ref a) lo hi H Q := ⟨a, xs, rfl, h, fun p n => q p _ n (Same.new n) upd_same⟩
theorem q_append {l : Addr} {xs : List V} {y : V} {H : Hp} {Q : VK} (h : H l = some (.lst xs)) (hl : xs.length < sizeLine) (q : ∀ H', But l H H' → H' l = some (.lst (xs ++ [y])) → Q .non H') : rAppend (.ref l) [y] H Q := ⟨l, xs, y, rfl, rfl, h, hl, q _ But.upd upd_same⟩
/-- a for over J from here on -/
def ForIt (J : It) (g : TG) (tb : TS) (D : Ends) (σ : L2.St) (H : Hp) : Prop := ∃ W : Nat → Nat → L2.St → Hp → Prop, (∃ m, W 0 m σ H) ∧ ∀ i m σ H, W i m σ H →
  (J.stop i H ∧ D.nx σ H) ∨ (J.go i H ∧ ∃ N : L2.St → Hp → Prop, (∀ σ' H', N σ' H' → ∃ m', m' < m ∧ W (i + 1) m' σ' H') ∧ ∀ x H', J.yld i H x H' → g x σ H' fun σ2 H2 => tb { D with nx := N, ct := N, bk := D.nx } σ2 H2)
theorem s_for {wi : TI} {g : TG} {tb : TS} {D : Ends} {σ : L2.St} {H : Hp} (h : wi σ H fun J H1 => ForIt J g tb D σ H1) : tFor wi g tb D σ H := h
section
variable {K : PySem.W.Frag} {a : Addr} {xs : List V} {g : TG} {tb : TS} {D : Ends} {σ : L2.St} {H : Hp}
theorem q_forL (Pv : Nat → L2.St → Hp → Prop) (h0 : Pv 0 σ H) (hl : ∀ i σ H, i ≤ xs.length → Pv i σ H → SqL K H a xs)
    (hs : ∀ i x σ H, xs[i]? = some x → Pv i σ H → g x σ H fun σ2 H2 => tb { D with nx := Pv (i + 1), ct := Pv (i + 1), bk := D.nx } σ2 H2) (hd : ∀ σ H, Pv xs.length σ H → D.nx σ H) : ForIt (Itl K a) g tb D σ H := for_list Pv h0 hl hs hd
theorem q_forE (Pv : Nat → L2.St → Hp → Prop) (h0 : Pv 0 σ H) (hl : ∀ i σ H, i ≤ xs.length → Pv i σ H → SqL K H a xs)
    (hs : ∀ i x σ H T, xs[i]? = some x → Pv i σ H → H T = none → g (.ref T) σ (upd H T (.tup [.int (i : Nat), x])) fun σ2 H2 => tb { D with nx := Pv (i + 1), ct := Pv (i + 1), bk := D.nx } σ2 H2) (hd : ∀ σ H, Pv xs.length σ H → D.nx σ H) : ForIt (Ite K a) g tb D σ H := for_enum Pv h0 hl hs hd
theorem q_forR {lo : Int} {n : Nat} (Pv : Nat → L2.St → Hp → Prop) (h0 : Pv 0 σ H)
    (hs : ∀ i σ H, i < n → Pv i σ H → g (.int (lo + i)) σ H fun σ2 H2 => tb { D with nx := Pv (i + 1), ct := Pv (i + 1), bk := D.nx } σ2 H2) (hd : ∀ σ H, Pv n σ H → D.nx σ H) : ForIt (Itr lo n) g tb D σ H := for_range Pv h0 hs hd
end
theorem s_rng1 {ta : TA} {σ : L2.St} {H : Hp} {R : It → Hp → Prop} (h : ta σ H fun vs H1 => ∃ j : Int, vs = [.int j] ∧ -(2 ^ 62) ≤ j ∧ j < 2 ^ 62 ∧ R (Itr 0 j.toNat) H1) : iRng1 ta σ H R := h
end Bt
namespace Bt
open PySem PySem.Spec PyProof.Rows L2
theorem words6_ : True := by
  k_with "s" => first
    | ((with_reducible refine' s_var ?hv ?_); (case hv => exact rfl))
    | with_reducible first
      | refine' s_c ?_ | refine' s_op ?_ | refine' s_asg ?_ | refine' s_gname ?_ | refine' s_seq ?_ | refine' s_next ?_ | refine' s_ret ?_ | refine' s_ifS ?_ | refine' s_drop ?_ | refine' s_retN ?_
      | refine' s_test ?_ | refine' s_B ?_ | refine' q_test ?_ | refine' s_int ?_ | refine' s_cons ?_ | refine' s_nil ?_ | refine' s_call ?_ | refine' s_CB ?_ | refine' s_andT ?_ | refine' s_orT ?_ | refine' s_notT ?_
      | refine' s_andV ?_ | refine' s_orV ?_ | refine' s_notV ?_ | refine' s_ifV ?_ | refine' s_chain ?_ | refine' s_sl ?_ | refine' s_noPart ?_ | refine' s_part ?_ | refine' s_gsub ?_ | refine' s_BM ?_ | refine' s_tup ?_ | refine' s_lst ?_
      | refine' q_add ?_ | refine' q_sub ?_ | refine' q_lt ?_ | refine' q_le ?_ | refine' q_gt ?_ | refine' q_ge ?_ | refine' s_ifT ?_ | refine' s_ifF ?_ | refine' s_yes ?_ | refine' s_iStr ?_ | refine' s_M0 ?_ | refine' s_make ?_ | refine' s_makeS ?_ | refine' s_prop ?_ | refine' s_raise1 ?_ | refine' s_for ?_ | refine' s_rng1 ?_ | refine' s_par ?_ | refine' s_gcons ?_ | refine' s_gnil ?_ | refine' s_iList ?_ | refine' s_iEnum ?_
      | (refine' q_mod ?hm ?_; (case hm => first | omega | decide)) | (refine' q_fdiv ?hm ?hn ?_; (case hm => first | omega | decide); (case hn => first | omega | decide))
      | (refine' q_mulR ?hm ?_; (case hm => first | omega | decide)) | (refine' q_mulL ?hm ?_; (case hm => first | omega | decide))
    | dsimp only
  k_with "r" => repeat (k_extra "s")
  trivial
/-! ### names -/
def Nm (z : Str) : Prop := 1 ≤ z.length ∧ z.length ≤ 8 ∧ ∀ c ∈ z.cps.toList, c ∈ alpha
theorem Nm.asc {z : Str} (h : Nm z) : Asc z := fun c hc => by
  have := mem_alpha.mp (h.2.2 c hc)
  omega
theorem Nm.sz {z : Str} (h : Nm z) : z.length ≤ sizeLine := Bt.sz (by have := h.2.1; omega)
def NmV (x : V) : Prop := ∃ z, x = .str z ∧ Nm z
structure TxtN (K : PySem.W.Frag) (mg : Str → Option Value) : Prop where
  n_len : mg "len" = none
  n_all : mg "all" = none
  v_LONGEST_NAME : ∃ t, mg "LONGEST_NAME" = some (.int 8 t)
  d_is_name : Df K mg "is_name" s_is_name ["value"]
  d__law_name : Df K mg "_law_name" s__law_name ["_law_purse_here"]
  d__law_names : Df K mg "_law_names" s__law_names ["_law_purse_here", "_law_many"]
  d_check_name : Df K mg "check_name" s_check_name ["value"]
section
variable {P : Program} {w : World} {K : PySem.W.Frag} {mg : Str → Option Value} {base : Heap}
theorem s_ifND {p : Prop} {inst : Decidable p} {A B : Prop} (h : p → B) (h' : ¬ p → A) : if (!@decide p inst) = true then A else B := by
  by_cases c : p
  · rw [decide_eq_true c]; exact h c
  · rw [decide_eq_false c]; exact h' c
theorem take_all (z : Str) : z.cps.toList.take z.cps.size = z.cps.toList := List.take_of_length_le (by rw [Array.length_toList]; exact Nat.le_refl _)
def rLenS : List V → Hp → VK → Prop := fun xs H Q => ∃ z, xs = [.str z] ∧ z.length ≤ sizeLine ∧ Q (.int z.length) H
theorem call_lenS {X : Cx} : CallR X (.builtin "len") rLenS := call_len_str
theorem q_lenS {H : Hp} {Q : VK} {z : Str} (h : z.length ≤ sizeLine) (q : Q (.int z.length) H) : rLenS [.str z] H Q := ⟨z, rfl, h, q⟩
def rInC : R2 := fun x y H Q => ∃ (c : Nat) (z : Str), x = .str ⟨#[c]⟩ ∧ y = .str z ∧ Q (.bl (decide (c ∈ z.cps.toList))) H
theorem op_inC {X : Cx} : OpR X (compareOp .In) rInC := op_in_sign
theorem q_inC {H : Hp} {Q : VK} {c : Nat} {z : Str} (q : Q (.bl (decide (c ∈ z.cps.toList))) H) : rInC (.str ⟨#[c]⟩) (.str z) H Q := ⟨c, z, rfl, rfl, q⟩
def rAllB (K : PySem.W.Frag) : List V → Hp → VK → Prop := fun vs H Q => ∃ (a : Addr) (bs : List Bool), vs = [V.ref a] ∧ SqL K H a (bs.map V.bl) ∧ Q (.bl (bs.all id)) H
theorem call_allB {X : Cx} (hc : X.calm = true) : CallR X (.builtin "all") (rAllB X.K) := cr_all hc
theorem q_allB {H : Hp} {Q : VK} {a : Addr} {bs : List Bool} (h : SqL K H a (bs.map V.bl)) (q : Q (.bl (bs.all id)) H) : rAllB K [.ref a] H Q := ⟨a, bs, rfl, h, q⟩
def spName (K : PySem.W.Frag) : Sp := fun vs H Q _ => ∃ x T, vs = [x] ∧ Pl K H x T ∧ (∀ z, x = .str z → z.length < 64) ∧ (¬ NmV x → ∀ H', Same H H' → Q (.bl false) H') ∧ (NmV x → ∀ H', Same H H' → Q (.bl true) H')
theorem ok_is_name (T : Txt K mg) (N : TxtN K mg) : Cal P w K mg base 1 "is_name" (spName K) := by
  refine N.d_is_name.cal sc_is_name (fun vs H Q E h => ?_) (fun f cdv A outer s H vs Q E hr h => ?_)
  · obtain ⟨x, T, rfl, _⟩ := h
    rfl
  · obtain ⟨x, ty, rfl, hx, hz, kN, kY⟩ := h
    refine ⟨_, (pss_cons (ps_if (pt_not (PW.pt (pw_and (pt_val (pe_callB call_isi (by rfl) T.n_isinstance (by decide +kernel) (pa_cons (pv 0) (pa_cons (pe_bltn (v := .ty "str") (by rfl) T.n_str (by decide +kernel) rfl) pa_nil)))) (pw_and1 (pt_chain op_leI op_leI pe_int (pe_callB call_lenS (by rfl) N.n_len (by decide +kernel) (pa_cons (pv 0) pa_nil)) (pe_glob (v := .int 8) (by rfl) N.v_LONGEST_NAME.choose_spec ⟨_, rfl⟩)))))) (pss_one (ps_ret pe_bl)) pss_nil)
      (pss_one (ps_ret (pe_callB (call_allB rfl) (by rfl) N.n_all (by decide +kernel) (pa_cons (pe_lc (own := [("letter", 1)]) (g := gName 1) (tt := tYes) rfl sc_is_name.nd (pi_str (pv 0)) (blkOk_by (own := [("letter", 1)]) (N := ["value", "letter"]) (sc := defScope s_is_name) (by decide +kernel)) (fun _ _ _ _ _ => pg_name (i := 1) sc_is_name.nd rfl (Or.inl rfl)) (fun _ _ _ _ _ => pts_nil) (fun _ _ _ _ _ => (pe_cmpR op_inC (pv 1) (pe_glob (v := .str alphaS) (by rfl) T.v_LETTERS.choose_spec ⟨_, rfl⟩) (by rfl)))) pa_nil))))), ?_⟩
    k_extra "r"
    refine q_isi hx .str ?_
    by_cases e : ty = "str"
    · obtain ⟨z, rfl⟩ := hx.of_str e
      have h64 := hz z rfl
      have hs : z.length ≤ sizeLine := Bt.sz (by omega)
      subst e
      k_extra "r"
      refine s_if1 rfl ?_
      k_extra "r"
      refine q_lenS hs ?_
      k_extra "r"
      have inv : Nm z → z.length ≥ 1 ∧ z.length ≤ 8 := fun h => ⟨h.1, h.2.1⟩
      refine s_ifD (fun c1 => ?_) (fun c1 => ?_)
      · k_extra "r"
        refine s_ifND (fun c2 => ?_) (fun c2 => ?_)
        · k_extra "r"
          refine s_lc ?_
          k_extra "r"
          refine ⟨z, rfl, fun D nD => lc_str (z := z) (fun i H' => Same H H' ∧ H' D = some (.lst (((z.cps.toList.take i).map fun c => decide (c ∈ alphaS.cps.toList)).map V.bl))) ⟨Same.new nD, upd_same⟩ ?_ ?_⟩
          · rintro j d H' hj ⟨S', hD⟩
            k_extra "r"
            refine ⟨rfl, ?_⟩
            k_extra "r"
            refine q_inC ⟨_, hD, ?_, same_mut S' nD, ?_⟩
            · rw [List.length_map, List.length_map, List.length_take]
              exact szlt (by have := (List.getElem?_eq_some_iff.mp hj).1; rw [← len_cps] at this; omega)
            · rw [upd_same, take_map_more hj, List.map_append]
              rfl
          · rintro H2 ⟨S2, h2⟩
            rw [take_all] at h2
            k_extra "r"
            refine q_allB (SqL.of h2) ?_
            by_cases v : Nm z
            · rw [show (List.all _ id : Bool) = true from ?_]
              · exact kY ⟨z, rfl, v⟩ _ S2
              · rw [List.all_map, List.all_eq_true]
                intro c hc
                show decide _ = true
                rw [alphaS_cps]
                exact decide_eq_true (v.2.2 c hc)
            · rw [show (List.all _ id : Bool) = false from ?_]
              · exact kN (fun u => by obtain ⟨_, e, u⟩ := u; cases e; exact v u) _ S2
              · rw [Bool.eq_false_iff]
                intro hall
                rw [List.all_map, List.all_eq_true] at hall
                refine v ⟨by omega, by omega, fun c hc => ?_⟩
                have := of_decide_eq_true (show decide _ = true from hall c hc)
                rw [alphaS_cps] at this
                exact this
        · k_extra "r"
          exact kN (fun v => by obtain ⟨_, e, v⟩ := v; cases e; have := v.2.1; omega) _ (Same.refl H)
      · k_extra "r"
        exact kN (fun v => by obtain ⟨_, e, v⟩ := v; cases e; have := v.1; omega) _ (Same.refl H)
    · have e2 : subKd ty "str" = false := by
        cases hx.2 <;> first | rfl | exact absurd rfl e
      rw [e2]
      k_extra "r"
      refine kN (fun v => ?_) H (Same.refl H)
      obtain ⟨z, ez, _⟩ := v
      subst ez
      exact absurd hx.is_str e
def AlC (z : Str) : Prop := ∀ c ∈ z.cps.toList, c ∈ alpha
def spName1 : Sp := fun vs H Q _ => ∃ p, vs = [.ref p] ∧ Purse H p ∧ ∀ z H', Nm z → Purse H' p → But p H H' → Q (.str z) H'
theorem ok__law_name (L : TxtL K mg) (N : TxtN K mg) : Cal P w K mg base 2 "_law_name" spName1 := by
  refine N.d__law_name.cal sc__law_name (fun vs H Q E h => ?_) (fun f cdv A outer s H vs Q E hr h => ?_)
  · obtain ⟨p, rfl, _⟩ := h
    rfl
  · obtain ⟨p, rfl, hp, k⟩ := h
    refine ⟨_, (pss_cons (ps_set (i := 1) sc__law_name.nd rfl (.inl rfl) pe_str)
      (pss_cons (ps_for PassesOwn.never rfl (pi_range1 rfl L.n_range (pa_cons (pe_op op_addU pe_int (pe_c (ok__law_draw L) hr (by decide) rfl (pa_cons (pv 0) (pa_cons pe_int pa_nil)))) pa_nil)) (pg_name (i := 2) sc__law_name.nd rfl (.inl rfl))
        (pss_one (ps_set (i := 1) sc__law_name.nd rfl (.inl rfl) (pe_op op_addU (pv 1) (pe_ix ix_seq pe_str (pe_c (ok__law_draw L) hr (by decide) rfl (pa_cons (pv 0) (pa_cons pe_int pa_nil))) (fun _ _ => rfl))))))
      (pss_one (ps_ret (pv 1))))), ?_⟩
    k_extra "r"
    refine ⟨p, 8, rfl, hp, by decide, by decide, fun n H1 n0 n1 p1 b1 => ?_⟩
    k_extra "r"
    refine ⟨_, rfl, by omega, by omega, q_forR (fun i σ H2 => ∃ z v, σ = [some (.ref p), some (.str z), v] ∧ z.length = i ∧ AlC z ∧ Purse H2 p ∧ But p H H2) ⟨_, none, rfl, rfl, (fun c hc => by cases hc), p1, b1⟩ ?_ ?_⟩
    · rintro i σ H2 hi ⟨z, v, rfl, hz, az, p2, b2⟩
      k_extra "r"
      refine ⟨p, 26, rfl, p2, by decide, by decide, fun m H3 m0 m1 p3 b3 => ?_⟩
      obtain ⟨j, rfl⟩ : ∃ j : Nat, m = j := ⟨m.toNat, by omega⟩
      have hj : j < 26 := by omega
      have ej : alphaS.cps.toList[j]? = some (97 + j) := by
        rw [alphaS_cps]
        unfold alpha
        rw [List.getElem?_map, List.getElem?_range hj]
        rfl
      refine q_ixS (by show alphaS.length ≤ sizeLine; exact Bt.sz (by decide)) (atI_nat ej) ?_
      refine q_addS (Bt.sz (by rw [hz]; show i + 1 ≤ 100000; omega)) ?_
      k_extra "r"
      refine ⟨_, _, rfl, ?_, ?_, p3, b2.trans b3⟩
      · rw [app_len, hz]
        rfl
      · intro c hc
        rw [app_cps, List.mem_append] at hc
        rcases hc with hc | hc
        · exact az c hc
        · have ec : c = 97 + j := by simpa using hc
          exact mem_alpha.mpr (by omega)
    · rintro σ H2 ⟨z, v, rfl, hz, az, p2, b2⟩
      k_extra "r"
      exact k z H2 ⟨by omega, by omega, az⟩ p2 b2
theorem eqv_strs (xs ys : List Str) : PyData.eqv (.list (xs.map .str)) (.list (ys.map .str)) = decide (xs = ys) := by
  rw [← eqvAll_strs]
  simp only [PyData.eqv]
theorem inV_strs (z : Str) (zs : List Str) : inV (.str z) (zs.map V.str) = decide (z ∈ zs) := by
  unfold inV
  rw [List.any_map, Bool.eq_iff_iff, List.any_eq_true, decide_eq_true_iff]
  constructor
  · rintro ⟨y, hy, e⟩
    have e2 : (y == z) = true := e
    rw [← eq_of_beq e2]
    exact hy
  · intro h
    exact ⟨z, h, (beq_self_eq_true z : (z == z) = true)⟩
theorem flat_strs (zs : List Str) : (zs.map V.str).all flatV = true := by
  rw [List.all_map, List.all_eq_true]
  exact fun _ _ => rfl
theorem q_notinStrs {H : Hp} {Q : VK} {l : Addr} {z : Str} {zs : List Str} (h : H l = some (.lst (zs.map V.str))) (q : Q (.bl (!decide (z ∈ zs))) H) : rIn K true (.str z) (.ref l) H Q :=
  ⟨l, _, rfl, .inl (SqL.of h), rfl, flat_strs zs, by rw [inV_strs]; exact q⟩
theorem atI_last {α : Type} (xs : List α) (x : α) : atI (xs ++ [x]) (-1) = some x := by
  unfold atI
  have e : ixN (xs ++ [x]).length (-1) = some xs.length := by
    rw [List.length_append]
    unfold ixN
    rw [if_neg (by decide), if_pos (by show (-(((xs.length + 1 : Nat)) : Int)) ≤ -1; omega)]
    congr 1
    show (-1 + (((xs.length + 1 : Nat)) : Int)).toNat = xs.length
    omega
  rw [e]
  simp
def spNames : Sp := fun vs H Q _ => ∃ (p : Addr) (m : Nat), vs = [.ref p, .int m] ∧ Purse H p ∧ m ≤ 1000 ∧
  ∀ l H' zs, H l = none → H' l = some (.lst (zs.map V.str)) → (∀ z ∈ zs, Nm z) → zs.Nodup → zs.length ≤ m → (1 ≤ m → zs ≠ []) → Purse H' p → But p H H' → Q (.ref l) H'
theorem ok__law_names (L : TxtL K mg) (N : TxtN K mg) : Cal P w K mg base 3 "_law_names" spNames := by
  refine N.d__law_names.cal sc__law_names (fun vs H Q E h => ?_) (fun f cdv A outer s H vs Q E hr h => ?_)
  · obtain ⟨p, m, rfl, _⟩ := h
    rfl
  · obtain ⟨p, m, rfl, hp, hm, k⟩ := h
    have hu := hr.units
    refine ⟨_, (pss_cons (ps_set (i := 2) sc__law_names.nd rfl (.inl rfl) (pe_lst pa_nil))
      (pss_cons (ps_for PassesOwn.never rfl (pi_range1 rfl L.n_range (pa_cons (pv 1) pa_nil)) (pg_name (i := 3) sc__law_names.nd rfl (.inl rfl))
        (pss_cons (ps_set (i := 4) sc__law_names.nd rfl (.inl rfl) (pe_c (ok__law_name L N) hr (by decide) rfl (pa_cons (pv 0) pa_nil)))
          (C8.pss_cut (ps_if (PW.pt (pw_and (pt_cmpR (op_neU hu) (pv 2) (pe_lst pa_nil) (by rfl)) (pw_and1 (pt_cmpR (op_eqU hu) (pe_c (ok__law_draw L) hr (by decide) rfl (pa_cons (pv 0) (pa_cons pe_int pa_nil))) pe_int (by rfl))))) (pss_one (ps_set (i := 4) sc__law_names.nd rfl (.inl rfl) (pe_slice sl_str (pe_op op_addU (pe_ix ix_seq (pv 2) (pe_un un_neg pe_int) (fun _ _ => rfl)) (pv 4)) po_none (po_some (pe_op op_addU pe_int (pe_c (ok__law_draw L) hr (by decide) rfl (pa_cons (pv 0) (pa_cons pe_int pa_nil)))))))) pss_nil)
          (pss_one (ps_if (pt_cmpR op_notIn_seq (pv 4) (pv 2) (by rfl)) (pss_one (ps_expr (pe_bm PySem.F.plainAttrs_list PySem.F.slot_list_append PySem.F.type_list_append mt_append (pv 2) (pa_cons (pv 4) pa_nil)))) pss_nil)))))
      (pss_one (ps_ret (pv 2))))), ?_⟩
    k_extra "r"
    refine q_newL (by show 0 ≤ sizeLine; decide) fun l H1 n1 S1 h1 => ?_
    k_extra "r"
    have hlp : l ≠ p := by
      obtain ⟨_, _, _, e, _⟩ := hp
      exact fun z => by rw [z, e] at n1; cases n1
    refine ⟨_, rfl, by omega, by omega, q_forR (fun i σ H2 => ∃ zs v u, σ = [some (.ref p), some (.int m), some (.ref l), v, u] ∧ H2 l = some (.lst (zs.map V.str)) ∧ (∀ z ∈ zs, Nm z) ∧ zs.Nodup ∧ zs.length ≤ i ∧ (1 ≤ i → zs ≠ []) ∧ Purse H2 p ∧ But p H H2)
      ⟨[], none, none, rfl, h1, (fun z hz => by cases hz), .nil, Nat.le_refl _, (fun z => absurd z (by decide)), hp.mono S1, But.of S1⟩ ?_ ?_⟩
    · rintro i σ H2 hi ⟨zs, v, u, rfl, h2, nz, nd, hl, hne, p2, b2⟩
      k_extra "r"
      refine ⟨p, rfl, p2, fun z H3 hz p3 b3 => ?_⟩
      have h3 := b3 _ _ hlp h2
      k_extra "r"
      refine ⟨fun σ H4 => ∃ z v, σ = [some (.ref p), some (.int m), some (.ref l), v, some (.str z)] ∧ Nm z ∧ H4 l = some (.lst (zs.map V.str)) ∧ Purse H4 p ∧ But p H H4, ?_, ?_⟩
      · k_extra "r"
        refine q_newL (by show 0 ≤ sizeLine; decide) fun l0 H4 n4 S4 h4 => ?_
        refine q_neD (dp_lst_strs (S4 _ _ h3)) (dp_lst_strs (ys := []) h4) (shaped_strs fun y hy => (nz y hy).asc) (shaped_strs fun y hy => by cases hy) ?_
        rw [eqv_strs]
        k_extra "r"
        refine s_ifND (fun c => ?_) (fun c => ?_)
        · k_extra "r"
          exact ⟨z, _, rfl, hz, S4 _ _ h3, p3.mono S4, b2.trans (b3.trans (But.of S4))⟩
        · k_extra "r"
          refine ⟨p, 3, rfl, p3.mono S4, by decide, by decide, fun n5 H5 n50 n51 p5 b5 => ?_⟩
          refine q_eq rfl ?_
          k_extra "r"
          refine s_if (fun _ => ?_) (fun _ => ?_)
          · k_extra "r"
            obtain ⟨zs0, y, rfl⟩ : ∃ zs0 y, zs = zs0 ++ [y] := ⟨zs.dropLast, zs.getLast c, (List.dropLast_concat_getLast c).symm⟩
            have ny := nz y (by simp)
            have h5 := b5 _ _ hlp (S4 _ _ h3)
            refine ⟨_, rfl, ?_⟩
            rw [List.map_append] at h5
            refine q_ixL (SqL.of h5) (atI_last _ _) ?_
            k_extra "r"
            have hsum : (y ++ z).length ≤ 16 := by rw [app_len]; have := ny.2.1; have := hz.2.1; omega
            refine q_addS (by rw [← app_len]; exact Bt.sz (by omega)) ?_
            k_extra "r"
            refine ⟨p, 8, rfl, p5, by decide, by decide, fun n6 H6 n60 n61 p6 b6 => ?_⟩
            k_extra "r"
            refine ⟨_, rfl, Bt.sz (by omega), ?_⟩
            k_extra "r"
            have ecut : (cutS (y ++ z) none (some (1 + n6))).cps.toList = (y ++ z).cps.toList.take (1 + n6).toNat := cut_to (by omega)
            refine ⟨_, _, rfl, ⟨?_, ?_, fun c2 hc2 => ?_⟩, ?_, p6, ?_⟩
            · rw [len_cps, ecut, List.length_take, ← len_cps, app_len]
              have := ny.1
              omega
            · rw [len_cps, ecut, List.length_take]
              omega
            · rw [ecut] at hc2
              have hc3 := List.mem_of_mem_take hc2
              rw [app_cps, List.mem_append] at hc3
              rcases hc3 with hc3 | hc3
              · exact ny.2.2 _ hc3
              · exact hz.2.2 _ hc3
            · rw [List.map_append]
              exact b6 _ _ hlp h5
            · exact b2.trans (b3.trans ((But.of S4).trans (b5.trans b6)))
          · k_extra "r"
            exact ⟨z, _, rfl, hz, b5 _ _ hlp (S4 _ _ h3), p5, b2.trans (b3.trans ((But.of S4).trans b5))⟩
      · rintro σ H4 ⟨z4, v4, rfl, hz4, h4, p4, b4⟩
        k_extra "r"
        refine q_notinStrs h4 ?_
        k_extra "r"
        refine s_ifND (fun c => ?_) (fun c => ?_)
        · k_extra "r"
          exact ⟨zs, _, _, rfl, h4, nz, nd, by omega, (fun _ e => by rw [e] at c; cases c), p4, b4⟩
        · k_extra "r"
          refine ⟨.inl ⟨rfl, _, SqL.of h4⟩, ?_⟩
          k_extra "r"
          refine q_append h4 (by rw [List.length_map]; exact szlt (by omega)) fun H5 b5 h5 => ?_
          k_extra "r"
          have h5' : H5 l = some (.lst ((zs ++ [z4]).map V.str)) := by rw [h5, List.map_append]; rfl
          refine ⟨zs ++ [z4], _, _, rfl, h5', fun y hy => ?_, ?_, by rw [List.length_append]; show zs.length + 1 ≤ i + 1; omega, (fun _ e => by simp at e), ?_, ?_⟩
          · rcases List.mem_append.mp hy with hy | hy
            · exact nz y hy
            · rw [List.mem_singleton.mp hy]; exact hz4
          · refine List.nodup_append.mpr ⟨nd, by simp, fun a ha b hb e => ?_⟩
            rw [List.mem_singleton.mp hb] at e
            exact c (e ▸ ha)
          · obtain ⟨a, b, c, e, h⟩ := p4
            exact ⟨a, b, c, b5 _ _ hlp.symm e, h⟩
          · exact fun b o hb e => b5 b o (fun z => by rw [z] at e; rw [e] at n1; cases n1) (b4 b o hb e)
    · rintro σ H2 ⟨zs, v, u, rfl, h2, nz, nd, hl, hne, p2, b2⟩
      k_extra "r"
      exact k l H2 zs n1 h2 nz nd hl hne p2 b2
end
end Bt
namespace Bt
open PySem PySem.Spec PyProof.Rows L2
/-! ### sum of a tuple of ints -/
theorem sum_tup {prog : Program} {w : World} {A : Around} {E : Value → Shared → Prop} {s : Shared} {l : Addr} {its : List Value} {ns : List Int} {Q : Value → Shared → Prop} (hh : A.handled = none) (hl : IsTup s.heap l its.toArray) (hi : IntsAre its ns)
    (h : ∀ h' tk t', (∀ b o, s.heap.get? b = some o → h'.get? b = some o) → Q (.int ns.sum t') { s with heap := h', toks := tk }) : wpAny (model prog w) A (call (.builtin "sum") [.ref l]) Q E s := by
  obtain ⟨xs, e⟩ := hi.allInts.items
  have hn : numsOf (intItems xs).toList = ns := by rw [← e]; exact hi.numsOf
  rw [nums_intItems] at hn
  rw [e] at hl
  have hlt : l < s.heap.objs.size := by obtain ⟨_, e, _⟩ := hl; exact Heap.lt_size e
  refine call_sum_walkG (iter_tuple hl ?_)
  refine ⟨_, _, _, _, _, _, numAt xs, rfl, Walks.tuple (A := A.in1) hh _ l (Nat.ne_of_lt hlt) (intItems xs), ⟨⟨_, Heap.get?_push_size _ rfl, rfl, rfl⟩, ?_⟩, fun b hb => ?_, (fun _ _ => intItems_at), fun h' tk t' hk => ?_⟩
  · obtain ⟨o, ho, hc, n, hd⟩ := hl
    exact ⟨o, Heap.get?_push_of_some _ ho, hc, n, hd⟩
  · show b < (s.heap.push _).objs.size
    rw [Heap.size_push]
    rcases List.mem_cons.mp hb with rfl | hb
    · exact Nat.lt_succ_self _
    · rw [List.mem_singleton.mp hb]
      exact Nat.lt_succ_of_lt hlt
  · have := h h' tk t' fun b o e => hk b o (fun hm => by
      rw [List.mem_singleton.mp hm] at e
      exact absurd (Heap.lt_size e) (Nat.lt_irrefl _)) (Heap.get?_push_of_some _ e)
    rw [preSum_eq, List.take_of_length_le (by simp [intItems]), hn]
    exact this
def rSumT (K : PySem.W.Frag) : List V → Hp → VK → Prop := fun vs H Q => ∃ (a : Addr) (ns : List Int), vs = [V.ref a] ∧ SqT K H a (ns.map V.int) ∧ Q (.int ns.sum) H
theorem cr_sumT {X : Cx} (hc : X.calm = true) : CallR X (.builtin "sum") (rSumT X.K) := by
  intro pins s σ H vs us Q I r h
  obtain ⟨a, ns, rfl, hs, q⟩ := h
  obtain ⟨its, rv, hl, _⟩ := I.tuple hs
  rw [Vals.ref1 r]
  exact sum_tup (I.ok.hd hc) hl rv.ints fun h' tk t' hk => ⟨.int _, H, I.kept hk, ⟨_, rfl⟩, q⟩
theorem q_sumT {K : PySem.W.Frag} {H : Hp} {Q : VK} {a : Addr} {ns : List Int} (h : SqT K H a (ns.map V.int)) (q : Q (.int ns.sum) H) : rSumT K [.ref a] H Q := ⟨a, ns, rfl, h, q⟩
def rSumL (K : PySem.W.Frag) : List V → Hp → VK → Prop := fun vs H Q => ∃ (a : Addr) (ns : List Int), vs = [V.ref a] ∧ SqL K H a (ns.map V.int) ∧ Q (.int ns.sum) H
theorem cr_sumL {X : Cx} (hc : X.calm = true) : CallR X (.builtin "sum") (rSumL X.K) := cr_sum hc
theorem q_sumL {K : PySem.W.Frag} {H : Hp} {Q : VK} {a : Addr} {ns : List Int} (h : SqL K H a (ns.map V.int)) (q : Q (.int ns.sum) H) : rSumL K [.ref a] H Q := ⟨a, ns, rfl, h, q⟩
def rTupL (K : PySem.W.Frag) : List V → Hp → VK → Prop := fun xs H Q => ∃ p ys, xs = [.ref p] ∧ ((SqL K H p ys ∧ ∀ l, H l = none → Q (.ref l) (upd H l (.tup ys))) ∨ (SqT K H p ys ∧ Q (.ref p) H))
theorem call_tupL {X : Cx} : CallR X (.type "tuple") (rTupL X.K) := call_tuple_of
theorem q_tupL {K : PySem.W.Frag} {H : Hp} {Q : VK} {p : Addr} {ys : List V} (h : SqL K H p ys) (q : ∀ l H', H l = none → Same H H' → H' l = some (.tup ys) → Q (.ref l) H') : rTupL K [.ref p] H Q := ⟨p, ys, rfl, .inl ⟨h, fun l n => q l _ n (Same.new n) upd_same⟩⟩
end Bt
namespace Bt
open PySem PySem.Spec PyProof.Rows L2
theorem words7_ : True := by
  k_with "s" => first
    | ((with_reducible refine' s_var ?hv ?_); (case hv => exact rfl))
    | with_reducible first
      | refine' s_c ?_ | refine' s_op ?_ | refine' s_asg ?_ | refine' s_gname ?_ | refine' s_seq ?_ | refine' s_next ?_ | refine' s_ret ?_ | refine' s_ifS ?_ | refine' s_drop ?_ | refine' s_retN ?_
      | refine' s_test ?_ | refine' s_B ?_ | refine' q_test ?_ | refine' s_int ?_ | refine' s_cons ?_ | refine' s_nil ?_ | refine' s_call ?_ | refine' s_CB ?_ | refine' s_andT ?_ | refine' s_orT ?_ | refine' s_notT ?_
      | refine' s_andV ?_ | refine' s_orV ?_ | refine' s_notV ?_ | refine' s_ifV ?_ | refine' s_chain ?_ | refine' s_sl ?_ | refine' s_noPart ?_ | refine' s_part ?_ | refine' s_gsub ?_ | refine' s_BM ?_ | refine' s_tup ?_ | refine' s_lst ?_
      | refine' q_add ?_ | refine' q_sub ?_ | refine' q_lt ?_ | refine' q_le ?_ | refine' q_gt ?_ | refine' q_ge ?_ | refine' s_ifT ?_ | refine' s_ifF ?_ | refine' s_yes ?_ | refine' s_prop ?_ | refine' s_iStr ?_ | refine' s_M0 ?_ | refine' s_make ?_ | refine' s_makeS ?_ | refine' s_prop ?_ | refine' s_raise1 ?_ | refine' s_for ?_ | refine' s_rng1 ?_ | refine' s_par ?_ | refine' s_gcons ?_ | refine' s_gnil ?_ | refine' s_iList ?_ | refine' s_iEnum ?_
      | (refine' q_mod ?hm ?_; (case hm => first | omega | decide)) | (refine' q_fdiv ?hm ?hn ?_; (case hm => first | omega | decide); (case hn => first | omega | decide))
      | (refine' q_mulR ?hm ?_; (case hm => first | omega | decide)) | (refine' q_mulL ?hm ?_; (case hm => first | omega | decide))
    | dsimp only
  k_with "r" => repeat (k_extra "s")
  trivial
/-! ### keys -/
def rkOf (l : Str) (c : Nat) : Nat := (Builtin.Str.occurrences l ⟨#[c]⟩ 0 l.length 1).headD 0
def rIdx : V → List V → Hp → VK → Prop := fun x xs H Q => ∃ a b i rest, x = .str a ∧ xs = [.str b] ∧ Builtin.Str.occurrences a b 0 a.length 1 = i :: rest ∧ Q (.int (i : Nat)) H
theorem mt_idx {X : Cx} : MtR X "str.index" rIdx := mt_sindex
theorem q_idx {H : Hp} {Q : VK} {l : Str} {c : Nat} (h : c ∈ l.cps.toList) (q : Q (.int (rkOf l c)) H) : rIdx (.str l) [.str ⟨#[c]⟩] H Q := by
  have f := PySem.StrLaws.found_one l c
  rw [decide_eq_true h] at f
  unfold rkOf at q
  cases e : Builtin.Str.occurrences l ⟨#[c]⟩ 0 l.length 1 with
  | nil => rw [e] at f; cases f
  | cons i rest =>
    rw [e] at q
    exact ⟨l, _, i, rest, rfl, rfl, e, q⟩
def rks (l z : Str) : List Int := z.cps.toList.map fun c => (rkOf l c : Int)
theorem take_rks (l z : Str) : (rks l z).take z.cps.size = rks l z := List.take_of_length_le (by unfold rks; rw [List.length_map, Array.length_toList]; exact Nat.le_refl _)
structure TxtK (K : PySem.W.Frag) (mg : Str → Option Value) : Prop where
  d_key_in : Df K mg "key_in" s_key_in ["form", "name"]
  d__law_key : Df K mg "_law_key" s__law_key ["_law_form_here", "_law_name_here"]
section
variable {P : Program} {w : World} {K : PySem.W.Frag} {mg : Str → Option Value} {base : Heap}
def spKey (C : Addr) : Sp := fun vs H Q _ => ∃ a z l c, vs = [.ref a, .str z] ∧ FormAt C H a l c ∧ Letters l ∧ 1 ≤ c ∧ Nm z ∧
  ∀ t r H', H t = none → Same H H' → H' r = some (.tup ((rks l z).map V.int)) → H' t = some (.tup [.int ((rks l z).sum % c), .ref r]) → Q (.ref t) H'
theorem ok_key_in {C : Addr} (T : Txt K mg) (L : TxtL K mg) (FC : FormC K mg C) (TK : TxtK K mg) : Cal P w K mg base 3 "key_in" (spKey C) := by
  refine TK.d_key_in.cal sc_key_in (fun vs H Q E h => ?_) (fun f cdv A outer s H vs Q E hr h => ?_)
  · obtain ⟨a, z, l, c, rfl, _⟩ := h
    rfl
  · obtain ⟨a, z, l, c, rfl, ha, ll, c1, nz, k⟩ := h
    refine ⟨_, (pss_cons (ps_set (i := 2) sc_key_in.nd rfl (.inl rfl) (pe_callTy call_tupL (by rfl) T.n_tuple (by decide +kernel) (pa_cons (pe_lc (own := [("letter", 3)]) (g := gName 3) (tt := tYes) (te := tBM K "str" rIdx (tProp C (getSp C "_letters") [] E0 (tVar 0)) (tCons (tVar 3) tNil)) rfl sc_key_in.nd (pi_str (pv 1)) (blkOk_by (own := [("letter", 3)]) (N := ["form", "name", "ranks", "letter"]) (sc := defScope s_key_in) (by decide +kernel)) (fun _ _ _ _ _ => pg_name (i := 3) sc_key_in.nd rfl (Or.inl rfl)) (fun _ _ _ _ _ => pts_nil) (fun s1 H1 C1 cl1 fp1 => by exact pe_bm PySem.F.plainAttrs_str PySem.F.slot_str_index PySem.F.type_str_index mt_idx (pe_letters FC hr (by decide) (pv 0)) (pa_cons (pv 3) pa_nil))) pa_nil)))
      (pss_one (ps_ret (pe_tup (pa_cons (pe_op op_modU (pe_callB (cr_sumT rfl) (by rfl) L.n_sum (by decide +kernel) (pa_cons (pv 2) pa_nil)) (pe_chains FC hr (by decide) (pv 0))) (pa_cons (pv 2) pa_nil)))))), ?_⟩
    k_extra "r"
    refine s_lc ?_
    k_extra "r"
    refine ⟨z, rfl, fun D nD => lc_str (z := z) (fun i H' => Same H H' ∧ H' D = some (.lst (((rks l z).take i).map V.int))) ⟨Same.new nD, upd_same⟩ ?_ ?_⟩
    · rintro j d H' hj ⟨S', hD⟩
      k_extra "r"
      refine ⟨rfl, ?_⟩
      k_extra "r"
      refine q_letters (ha.mono S') ⟨rfl, ?_⟩
      k_extra "r"
      have hd : d ∈ l.cps.toList := ll.mem_iff.mpr (nz.2.2 d (List.mem_of_getElem? hj))
      have hk : (rks l z)[j]? = some (rkOf l d : Int) := by unfold rks; rw [List.getElem?_map, hj]; rfl
      refine q_idx hd ⟨_, hD, ?_, same_mut S' nD, ?_⟩
      · rw [List.length_map, List.length_take]
        exact szlt (by have := (List.getElem?_eq_some_iff.mp hj).1; rw [← len_cps] at this; have := nz.2.1; omega)
      · rw [upd_same, take_map_more hk]
    · rintro H2 ⟨S2, h2⟩
      rw [take_rks] at h2
      k_extra "r"
      refine q_tupL (SqL.of h2) fun r H3 n3 S3 h3 => ?_
      k_extra "r"
      refine q_sumT (SqT.of h3) ?_
      k_extra "r"
      refine q_chains (ha.mono (S2.trans S3)) ?_
      k_extra "r"
      refine q_newT (by show 2 ≤ sizeLine; decide) fun t H4 n4 S4 h4 => ?_
      exact k t r H4 ((S2.trans S3).free n4) ((S2.trans S3).trans S4) (S4 _ _ h3) h4
def spLKey : Sp := fun vs H Q _ => ∃ a z l c, vs = [.ref a, .str z] ∧ H a = some (.tup [.str l, .int c]) ∧ Letters l ∧ 1 ≤ c ∧ Nm z ∧
  ∀ t r H', H t = none → Same H H' → H' r = some (.lst ((rks l z).map V.int)) → H' t = some (.tup [.int ((rks l z).sum % c), .ref r]) → Q (.ref t) H'
theorem ok__law_key (L : TxtL K mg) (TK : TxtK K mg) : Cal P w K mg base 1 "_law_key" spLKey := by
  refine TK.d__law_key.cal sc__law_key (fun vs H Q E h => ?_) (fun f cdv A outer s H vs Q E hr h => ?_)
  · obtain ⟨a, z, l, c, rfl, _⟩ := h
    rfl
  · obtain ⟨a, z, l, c, rfl, ha, ll, c1, nz, k⟩ := h
    refine ⟨_, (pss_cons (ps_setLc (i := 2) (own := [("_law_letter", 3)]) (g := gName 3) (tt := tYes) (te := tBM K "str" rIdx (tOp (rIx K) (tVar 0) (tC (.int 0))) (tCons (tVar 3) tNil)) rfl sc__law_key.nd rfl rfl (sw_true rfl rfl rfl (by decide +kernel)) (pi_str (pv 1)) (blkOk_by (own := [("_law_letter", 3)]) (N := ["_law_form_here", "_law_name_here", "_law_ranks", "_law_letter"]) (sc := defScope s__law_key) (by decide +kernel)) (fun _ _ _ _ _ => pg_name (i := 3) sc__law_key.nd rfl (Or.inl rfl)) (fun _ _ _ _ _ => pts_nil) (fun _ _ _ _ _ => by exact (pe_bm PySem.F.plainAttrs_str PySem.F.slot_str_index PySem.F.type_str_index mt_idx (pe_ix ix_seq (pv 0) pe_int (fun _ _ => rfl)) (pa_cons (pv 3) pa_nil))))
      (pss_one (ps_ret (pe_tup (pa_cons (pe_op op_modU (pe_callB (cr_sumL rfl) (by rfl) L.n_sum (by decide +kernel) (pa_cons (pv 2) pa_nil)) (pe_ix ix_seq (pv 0) pe_int (fun _ _ => rfl))) (pa_cons (pv 2) pa_nil)))))), ?_⟩
    k_extra "r"
    refine s_lc ?_
    k_extra "r"
    refine ⟨z, rfl, fun D nD => lc_str (z := z) (fun i H' => Same H H' ∧ H' D = some (.lst (((rks l z).take i).map V.int))) ⟨Same.new nD, upd_same⟩ ?_ ?_⟩
    · rintro j d H' hj ⟨S', hD⟩
      k_extra "r"
      refine ⟨rfl, ?_⟩
      k_extra "r"
      refine q_ixT (SqT.of (S' _ _ ha)) (at_of (j := 0) rfl rfl) ⟨rfl, ?_⟩
      k_extra "r"
      have hd : d ∈ l.cps.toList := ll.mem_iff.mpr (nz.2.2 d (List.mem_of_getElem? hj))
      have hk : (rks l z)[j]? = some (rkOf l d : Int) := by unfold rks; rw [List.getElem?_map, hj]; rfl
      refine q_idx hd ⟨_, hD, ?_, same_mut S' nD, ?_⟩
      · rw [List.length_map, List.length_take]
        exact szlt (by have := (List.getElem?_eq_some_iff.mp hj).1; rw [← len_cps] at this; have := nz.2.1; omega)
      · rw [upd_same, take_map_more hk]
    · rintro H2 ⟨S2, h2⟩
      rw [take_rks] at h2
      k_extra "r"
      refine q_sumL (SqL.of h2) ?_
      k_extra "r"
      refine q_ixT (SqT.of (S2 _ _ ha)) (at_of (j := 1) rfl rfl) ?_
      k_extra "r"
      refine q_newT (by show 2 ≤ sizeLine; decide) fun t H4 n4 S4 h4 => ?_
      exact k t D H4 (S2.free n4) (S2.trans S4) (S4 _ _ h2) h4
end
end Bt
namespace Bt
open PySem PySem.Spec PyProof.Rows L2
theorem words8_ : True := by
  k_with "s" => first
    | ((with_reducible refine' s_var ?hv ?_); (case hv => exact rfl))
    | with_reducible first
      | refine' s_c ?_ | refine' s_op ?_ | refine' s_asg ?_ | refine' s_gname ?_ | refine' s_seq ?_ | refine' s_next ?_ | refine' s_ret ?_ | refine' s_ifS ?_ | refine' s_drop ?_ | refine' s_retN ?_
      | refine' s_test ?_ | refine' s_B ?_ | refine' q_test ?_ | refine' s_int ?_ | refine' s_cons ?_ | refine' s_nil ?_ | refine' s_call ?_ | refine' s_CB ?_ | refine' s_andT ?_ | refine' s_orT ?_ | refine' s_notT ?_
      | refine' s_andV ?_ | refine' s_orV ?_ | refine' s_notV ?_ | refine' s_ifV ?_ | refine' s_chain ?_ | refine' s_sl ?_ | refine' s_noPart ?_ | refine' s_part ?_ | refine' s_gsub ?_ | refine' s_BM ?_ | refine' s_tup ?_ | refine' s_lst ?_
      | refine' q_add ?_ | refine' q_sub ?_ | refine' q_lt ?_ | refine' q_le ?_ | refine' q_gt ?_ | refine' q_ge ?_ | refine' s_ifT ?_ | refine' s_ifF ?_ | refine' s_yes ?_ | refine' s_prop ?_ | refine' s_iList ?_ | refine' s_iStr ?_ | refine' s_M0 ?_ | refine' s_make ?_ | refine' s_makeS ?_ | refine' s_prop ?_ | refine' s_raise1 ?_ | refine' s_for ?_ | refine' s_rng1 ?_ | refine' s_par ?_ | refine' s_gcons ?_ | refine' s_gnil ?_ | refine' s_iList ?_ | refine' s_iEnum ?_
      | (refine' q_mod ?hm ?_; (case hm => first | omega | decide)) | (refine' q_fdiv ?hm ?hn ?_; (case hm => first | omega | decide); (case hn => first | omega | decide))
      | (refine' q_mulR ?hm ?_; (case hm => first | omega | decide)) | (refine' q_mulL ?hm ?_; (case hm => first | omega | decide))
    | dsimp only
  k_with "r" => repeat (k_extra "s")
  trivial
/-! ### lists of names -/
open Classical in
noncomputable def nmB (x : V) : Bool := decide (NmV x)
theorem nmB_t {x : V} (h : NmV x) : nmB x = true := by unfold nmB; simp [h]
theorem nmB_f {x : V} (h : ¬ NmV x) : nmB x = false := by unfold nmB; simp [h]
def NameArg (K : PySem.W.Frag) (H : Hp) (y : V) : Prop := ∃ T, Pl K H y T ∧ ∀ z, y = .str z → z.length < 64
theorem NameArg.mono {K : PySem.W.Frag} {H H' : Hp} {y : V} (S : Same H H') (h : NameArg K H y) : NameArg K H' y := let ⟨T, a, b⟩ := h; ⟨T, a.mono S, b⟩
structure TxtS (K : PySem.W.Frag) (mg : Str → Option Value) : Prop where
  n_list : mg "list" = none
  d_is_name_list : Df K mg "is_name_list" s_is_name_list ["value"]
section
variable {P : Program} {w : World} {K : PySem.W.Frag} {mg : Str → Option Value} {base : Heap}
def spNameList (K : PySem.W.Frag) : Sp := fun vs H Q _ => ∃ x T, vs = [x] ∧ Pl K H x T ∧ ((T ≠ "list" ∧ Q (.bl false) H) ∨ (T = "list" ∧ ∃ a xs, x = .ref a ∧ H a = some (.lst xs) ∧ xs.length ≤ 100 ∧ (∀ y ∈ xs, NameArg K H y) ∧ ∀ H', Same H H' → Q (.bl (xs.all nmB)) H'))
theorem ok_is_name_list (T : Txt K mg) (N : TxtN K mg) (TS : TxtS K mg) : Cal P w K mg base 2 "is_name_list" (spNameList K) := by
  refine TS.d_is_name_list.cal sc_is_name_list (fun vs H Q E h => ?_) (fun f cdv A outer s H vs Q E hr h => ?_)
  · obtain ⟨x, ty, rfl, _⟩ := h
    rfl
  · obtain ⟨x, ty, rfl, hx, k⟩ := h
    refine ⟨_, (pss_one (ps_ret (pe_and (pe_callB call_isi (by rfl) T.n_isinstance (by decide +kernel) (pa_cons (pv 0) (pa_cons (pe_bltn (v := .ty "list") (by rfl) TS.n_list (by decide +kernel) rfl) pa_nil))) (pe_one (pe_callB (call_allB rfl) (by rfl) N.n_all (by decide +kernel) (pa_cons (pe_lc (own := [("item", 1)]) (g := gName 1) (tt := tYes) (te := tCall (spName K) [] E0 (tCons (tVar 1) tNil)) rfl sc_is_name_list.nd (pi_list (pv 0)) (blkOk_by (own := [("item", 1)]) (N := ["value", "item"]) (sc := defScope s_is_name_list) (by decide +kernel)) (fun _ _ _ _ _ => pg_name (i := 1) sc_is_name_list.nd rfl (Or.inl rfl)) (fun _ _ _ _ _ => pts_nil) (fun _ _ _ _ _ => by exact (pe_c (ok_is_name T N) hr (by decide) rfl (pa_cons (pv 1) pa_nil)))) pa_nil)))))), ?_⟩
    k_extra "r"
    refine q_isi hx .lst ?_
    rcases k with ⟨hn, k⟩ | ⟨e, a, xs, rfl, ha, hl, hy, k⟩
    · have e2 : subKd ty "list" = false := by
        cases hx.2 <;> first | rfl | exact absurd rfl hn
      rw [e2]
      k_extra "r"
      exact k
    · subst e
      k_extra "r"
      refine s_if1 rfl ?_
      k_extra "r"
      refine s_lc ?_
      k_extra "r"
      refine ⟨a, rfl, ⟨xs, SqL.of ha⟩, fun D nD => lc_list (K := K) (a := a) (xs := xs) (fun i H' => Same H H' ∧ H' D = some (.lst (((xs.take i).map nmB).map V.bl))) ⟨Same.new nD, upd_same⟩ (fun i H' _ h => SqL.of (h.1 _ _ ha)) ?_ ?_⟩
      · rintro j y H' hj ⟨S', hD⟩
        k_extra "r"
        refine ⟨rfl, ?_⟩
        k_extra "r"
        obtain ⟨ty, hp, h64⟩ := (hy y (List.mem_of_getElem? hj)).mono S'
        have hlen : (((xs.take j).map nmB).map V.bl).length < sizeLine := by
          rw [List.length_map, List.length_map, List.length_take]
          exact szlt (by omega)
        have htk : (((xs.take j).map nmB).map V.bl) ++ [V.bl (nmB y)] = ((xs.take (j + 1)).map nmB).map V.bl := by
          rw [take_map_more hj, List.map_append]
          rfl
        refine ⟨y, ty, rfl, hp, h64, fun hn H2 S2 => ?_, fun hn H2 S2 => ?_⟩
        · exact ⟨_, S2 _ _ hD, hlen, same_mut (S'.trans S2) nD, by rw [upd_same, ← htk, nmB_f hn]⟩
        · exact ⟨_, S2 _ _ hD, hlen, same_mut (S'.trans S2) nD, by rw [upd_same, ← htk, nmB_t hn]⟩
      · rintro H2 ⟨S2, h2⟩
        rw [List.take_length] at h2
        k_extra "r"
        refine q_allB (SqL.of h2) ?_
        rw [List.all_map]
        exact k H2 S2
end
end Bt
namespace Bt
open PySem PySem.Spec PyProof.Rows L2
/-! ### o(e, ..), o an instance with an own __call__ that may raise; what is raised is wished for at the caller's slots -/
section
variable {X : Cx} {CX : CXT} {k : Nat} {C g : Addr} {fd : FuncData} {ps : List Str} {sp : Sp} {E : L2.St → XK} {pos : Pos} {fe e : Expr} {es : List Expr} {tf : TE} {t : TA}
def tCallOS (C : Addr) (sp : Sp) (E : L2.St → XK) (tf : TE) (t : TA) : TE := fun σ H Q => tf σ H fun y H1 => ∃ a, y = V.ref a ∧ t σ H1 fun vs H2 => (∃ dx fs, H2 a = some (.ins C dx fs)) ∧ sp (V.ref a :: vs) H2 Q (E σ)
theorem run_callOS {pins : List (Addr × Obj)} {σ : L2.St} {H : Hp} {s : Shared} {Q : VK} {a : Addr} {us : List Value} {vs : List V} (c : StX.CallO X.K C g) (F : FnOk X.prog X.w X.K X.mg X.base CX k g fd ps sp) (hr : Room k X.A) (hb : Binds X.K fd ps [])
    (hx : PassesAt CX X σ (E σ)) (I : Inv X pins σ H s) (hi : ∃ dx fs, H a = some (.ins C dx fs)) (r : Vals vs us) (h : sp (V.ref a :: vs) H Q (E σ)) : wpAny (model X.prog X.w) X.A (call (.ref a) us) (EP X pins σ Q) X.xe s := by
  obtain ⟨ox, od, J, hd⟩ := StX.insC_at I (.inr hi)
  have r2 : Vals (V.ref a :: vs) (Value.ref a :: us) := .cons rfl r
  have hl : ((Value.ref a :: us) ++ []).length = ps.length := by rw [List.append_nil, ← r2.length]; exact F.len _ _ _ _ h
  have hb' := hb s (Value.ref a :: us) I.kIn hl
  rw [List.append_nil] at hb'
  refine wpAny_call (PySem.W.kco_code I.kIn J hd c.at_ c.fn c.fi (codeAny_mono (F.run X.A X.stack s H ⟨Value.ref a :: us, []⟩ (Value.ref a :: us) (V.ref a :: vs) Q (E σ) hr I.env0 hb' r2 h) fun r s' hq => ?_))
  cases r with
  | error e => exact hx pins H s e s' I hq
  | ok fl =>
    cases fl with
    | ret u => exact I.after hq
    | next => exact False.elim hq
    | brk => exact False.elim hq
    | cont => exact False.elim hq
theorem pe_callOS (hf : PE X fe tf) (c : StX.CallO X.K C g) (F : FnOk X.prog X.w X.K X.mg X.base CX k g fd ps sp) (hr : Room k X.A) (hb : Binds X.K fd ps []) (hx : ∀ σ, PassesAt CX X σ (E σ)) (ha : PA X (e :: es) t)
    (ht : eval (.Call fe (e :: es) [] pos) X.env = (do callWith pos (← eval fe X.env) [] (backTo pos (starEach (e :: es) X.env)) (backToKw pos (keywordEach [] X.env))) := by rfl)
    (he : starEach (e :: es) X.env = (false, eval e X.env) :: starEach es X.env := by rfl) (hpl : (backTo pos (starEach es X.env)).any (·.1) = false := by rfl) : PE X (.Call fe (e :: es) [] pos) (tCallOS C sp E tf t) := by
  refine ⟨fun pins s σ H Q I h => ?_⟩
  refine Call_ (thn (hf.run pins s σ H _ I h) fun u s1 ⟨y, H1, I1, ry, a, ey, q⟩ => ?_) ht
  subst ey
  obtain rfl : u = Value.ref a := ry
  refine StX.callO_with (thn (ha.run pos pins s1 σ H1 _ I1 q) fun us s2 ⟨vs, H2, I2, r, hi, q2⟩ => ?_) he hpl
  obtain ⟨ox, od, J, hd⟩ := StX.insC_at I2 (.inr hi)
  exact ⟨⟨C, ox, od, J, hd⟩, run_callOS c F hr hb (hx σ) I2 hi r q2⟩
theorem s_callOS {σ : L2.St} {H : Hp} {Q : VK} (h : tf σ H fun y H1 => ∃ a, y = V.ref a ∧ t σ H1 fun vs H2 => (∃ dx fs, H2 a = some (.ins C dx fs)) ∧ sp (V.ref a :: vs) H2 Q (E σ)) : tCallOS C sp E tf t σ H Q := h
end
end Bt
namespace Bt
open PySem PySem.Spec PyProof.Rows L2
theorem s_callSD {sp : Sp} {dvs : List V} {E : L2.St → XK} {t : TA} {σ : L2.St} {H : Hp} {Q : VK} (h : t σ H fun vs H1 => sp (vs ++ dvs) H1 Q (E σ)) : tCallSD sp dvs E t σ H Q := h
theorem wordsU_ : True := by
  k_with "s" => first
    | ((with_reducible refine' s_var ?hv ?_); (case hv => exact rfl))
    | with_reducible first
      | refine' s_c ?_ | refine' s_op ?_ | refine' s_asg ?_ | refine' s_gname ?_ | refine' s_seq ?_ | refine' s_next ?_ | refine' s_ret ?_ | refine' s_ifS ?_ | refine' s_drop ?_ | refine' s_retN ?_
      | refine' s_test ?_ | refine' s_B ?_ | refine' q_test ?_ | refine' s_int ?_ | refine' s_cons ?_ | refine' s_nil ?_ | refine' s_call ?_ | refine' s_CB ?_ | refine' s_andT ?_ | refine' s_orT ?_ | refine' s_notT ?_
      | refine' s_andV ?_ | refine' s_orV ?_ | refine' s_notV ?_ | refine' s_ifV ?_ | refine' s_chain ?_ | refine' s_sl ?_ | refine' s_noPart ?_ | refine' s_part ?_ | refine' s_gsub ?_ | refine' s_BM ?_ | refine' s_tup ?_ | refine' s_lst ?_
      | refine' q_add ?_ | refine' q_sub ?_ | refine' q_lt ?_ | refine' q_le ?_ | refine' q_gt ?_ | refine' q_ge ?_ | refine' s_ifT ?_ | refine' s_ifF ?_ | refine' s_yes ?_ | refine' s_prop ?_ | refine' s_iList ?_ | refine' s_callOS ?_ | refine' s_iStr ?_ | refine' s_M0 ?_ | refine' s_make ?_ | refine' s_makeS ?_ | refine' s_ownL ?_ | refine' s_ownR ?_ | refine' s_callSD ?_ | refine' s_prop ?_ | refine' s_raise1 ?_ | refine' s_for ?_ | refine' s_rng1 ?_ | refine' s_par ?_ | refine' s_gcons ?_ | refine' s_gnil ?_ | refine' s_iList ?_ | refine' s_iEnum ?_
      | (refine' q_mod ?hm ?_; (case hm => first | omega | decide)) | (refine' q_fdiv ?hm ?hn ?_; (case hm => first | omega | decide); (case hn => first | omega | decide))
      | (refine' q_mulR ?hm ?_; (case hm => first | omega | decide)) | (refine' q_mulL ?hm ?_; (case hm => first | omega | decide))
    | dsimp only
  k_with "r" => repeat (k_extra "s")
  trivial
section
variable {X : Cx} {k j : Nat} {x : Str} {sp : Sp} {p pos : Pos} {e : Expr} {es : List Expr} {t : TA} {W : WX}
theorem pe_cxS (c : CalX X.prog X.w X.K X.mg X.base k x sp) (hr : Room j X.A) (hk : k ≤ j) (tk : Takes X W) (hg : Gl X x) (ha : PA X (e :: es) t)
    (hdb : (x == ("__debug__" : Str)) = false := by decide) (he : starEach (e :: es) X.env = (false, eval e X.env) :: starEach es X.env := by rfl) (hpl : (backTo pos (starEach es X.env)).any (·.1) = false := by rfl) :
    PE X (.Call (.Name x p) (e :: es) [] pos) (tCallSD sp [] (fun σ => WE W σ) t) := by
  obtain ⟨f, fd, ps, F, hm, kp, b⟩ := c.ex
  exact pe_callSD F (hr.mono hk) hg hm kp b .nil (fun σ => passAt tk σ) ha hdb he hpl
end
/-! ### form(name) -/
section
variable {P : Program} {w : World} {K : PySem.W.Frag} {mg : Str → Option Value} {base : Heap}
def KeyAt (H H' : Hp) (l : Str) (c : Int) (z : Str) (t : Addr) : Prop := ∃ r, H t = none ∧ Same H H' ∧ H' r = some (.tup ((rks l z).map V.int)) ∧ H' t = some (.tup [.int ((rks l z).sum % c), .ref r])
def spCheckName (K : PySem.W.Frag) (CN : Addr) : Sp := fun vs H Q E => ∃ x, vs = [x] ∧ NameArg K H x ∧ (NmV x → ∀ H', Same H H' → Q .non H') ∧ (¬ NmV x → ∀ H' d, Same H H' → H d = none → H' d = some (.xd [("value", x)]) → E (.ref CN) (some d) H')
theorem ok_check_name {CN : Addr} (T : Txt K mg) (N : TxtN K mg) (XN : ExcF K mg "InvalidName" "value" CN) : CalX P w K mg base 3 "check_name" (spCheckName K CN) := by
  refine N.d_check_name.calX sc_check_name (fun vs H Q E h => ?_) (fun f cdv A outer s H vs Q E hr h => ?_)
  · obtain ⟨x, rfl, _⟩ := h
    rfl
  · obtain ⟨x, rfl, ⟨ty, hx, h64⟩, kY, kN⟩ := h
    refine ⟨_, (pss_one (ps_if (pt_not (pt_val (pe_c (ok_is_name T N) hr (by decide) rfl (pa_cons (pv 0) pa_nil)))) (pss_one (ps_raise1 rfl XN hr (by decide) (takes_of rfl rfl rfl rfl) (pv 0))) pss_nil)), ?_⟩
    k_extra "r"
    refine ⟨x, ty, rfl, hx, h64, fun hn H1 S1 => ?_, fun hn H1 S1 => ?_⟩
    · k_extra "r"
      refine s_if1 rfl ?_
      refine s_raise1 ?_
      k_extra "r"
      exact fun d H3 nd S3 hd => kN hn H3 d (S1.trans S3) (S1.free nd) hd
    · k_extra "r"
      refine s_if0 rfl ?_
      k_extra "r"
      exact kY hn H1 S1
def spFCall (K : PySem.W.Frag) (C CN : Addr) : Sp := fun vs H Q E => ∃ a x l c, vs = [.ref a, x] ∧ FormAt C H a l c ∧ Letters l ∧ 1 ≤ c ∧ NameArg K H x ∧ (∀ z, x = .str z → Nm z → ∀ t H', KeyAt H H' l c z t → Q (.ref t) H') ∧
  (¬ NmV x → ∀ H' d, Same H H' → H d = none → H' d = some (.xd [("value", x)]) → E (.ref CN) (some d) H')
theorem ok_form_call {C CN f : Addr} {fd : FuncData} (T : Txt K mg) (L : TxtL K mg) (N : TxtN K mg) (TK : TxtK K mg) (FC : FormC K mg C) (XN : ExcF K mg "InvalidName" "value" CN) (F : Fun K "__call__" "Form.__call__" s_Form___call__ f fd) :
    FnOk P w K mg base (L2.CX P w) 4 f fd ["self", "name"] (spFCall K C CN) := by
  refine F.okX sc_Form___call__ (fun vs H Q E h => ?_) (fun cdv A outer s H vs Q E hr h => ?_)
  · obtain ⟨a, x, l, c, rfl, _⟩ := h
    rfl
  · obtain ⟨a, x, l, c, rfl, ha, ll, c1, hx, kY, kN⟩ := h
    refine ⟨_, (pss_cons (ps_expr (pe_cxS (ok_check_name T N XN) hr (by decide) (takes_of rfl rfl rfl rfl) rfl (pa_cons (pv 1) pa_nil)))
      (pss_one (ps_ret (pe_c (ok_key_in T L FC TK) hr (by decide) rfl (pa_cons (pv 0) (pa_cons (pv 1) pa_nil)))))), ?_⟩
    k_extra "r"
    refine ⟨x, rfl, hx, fun hn H1 S1 => ?_, fun hn H1 d S1 nd hd => kN hn H1 d S1 nd hd⟩
    obtain ⟨z, rfl, nz⟩ := hn
    k_extra "r"
    exact ⟨a, z, l, c, rfl, ha.mono S1, ll, c1, nz, fun t r H3 nt S3 h1 h2 => kY z rfl nz t H3 ⟨r, S1.free nt, S1.trans S3, h1, h2⟩⟩
end
end Bt
namespace Bt
open PySem PySem.Spec PyProof.Rows L2
theorem words10_ : True := by
  k_with "s" => first
    | ((with_reducible refine' s_var ?hv ?_); (case hv => exact rfl))
    | with_reducible first
      | refine' s_c ?_ | refine' s_op ?_ | refine' s_asg ?_ | refine' s_gname ?_ | refine' s_seq ?_ | refine' s_next ?_ | refine' s_ret ?_ | refine' s_ifS ?_ | refine' s_drop ?_ | refine' s_retN ?_
      | refine' s_test ?_ | refine' s_B ?_ | refine' q_test ?_ | refine' s_int ?_ | refine' s_cons ?_ | refine' s_nil ?_ | refine' s_call ?_ | refine' s_CB ?_ | refine' s_andT ?_ | refine' s_orT ?_ | refine' s_notT ?_
      | refine' s_andV ?_ | refine' s_orV ?_ | refine' s_notV ?_ | refine' s_ifV ?_ | refine' s_chain ?_ | refine' s_sl ?_ | refine' s_noPart ?_ | refine' s_part ?_ | refine' s_gsub ?_ | refine' s_BM ?_ | refine' s_tup ?_ | refine' s_lst ?_
      | refine' q_add ?_ | refine' q_sub ?_ | refine' q_lt ?_ | refine' q_le ?_ | refine' q_gt ?_ | refine' q_ge ?_ | refine' s_ifT ?_ | refine' s_ifF ?_ | refine' s_yes ?_ | refine' s_prop ?_ | refine' s_iList ?_ | refine' s_callOS ?_ | refine' s_iStr ?_ | refine' s_M0 ?_ | refine' s_make ?_ | refine' s_makeS ?_ | refine' s_prop ?_ | refine' s_raise1 ?_ | refine' s_for ?_ | refine' s_rng1 ?_ | refine' s_par ?_ | refine' s_gcons ?_ | refine' s_gnil ?_ | refine' s_iList ?_ | refine' s_iEnum ?_
      | (refine' q_mod ?hm ?_; (case hm => first | omega | decide)) | (refine' q_fdiv ?hm ?hn ?_; (case hm => first | omega | decide); (case hn => first | omega | decide))
      | (refine' q_mulR ?hm ?_; (case hm => first | omega | decide)) | (refine' q_mulL ?hm ?_; (case hm => first | omega | decide))
    | dsimp only
  k_with "r" => repeat (k_extra "s")
  trivial
/-! ### the law's own looks at keys -/
structure FormX (K : PySem.W.Frag) (C : Addr) : Prop where
  call : ∃ (g : Addr) (fd : FuncData), StX.CallO K C g ∧ Fun K "__call__" "Form.__call__" s_Form___call__ g fd ∧ Binds K fd ["self", "name"] []
structure TxtV (K : PySem.W.Frag) (mg : Str → Option Value) : Prop where
  d__law_whole : Df K mg "_law_whole" s__law_whole ["_law_value"]
  d__law_right_key : Df K mg "_law_right_key" s__law_right_key ["_law_form_here", "_law_spec", "_law_name_here"]
  d__law_no_name : Df K mg "_law_no_name" s__law_no_name ["_law_form_here", "_law_value"]
section
variable {X : Cx} {k : Nat} {C CN : Addr} {fe e : Expr} {tf te : TE} {pos : Pos}
theorem pe_fcall (T : Txt X.K X.mg) (L : TxtL X.K X.mg) (N : TxtN X.K X.mg) (TK : TxtK X.K X.mg) (FC : FormC X.K X.mg C) (XN : ExcF X.K X.mg "InvalidName" "value" CN) (FX : FormX X.K C) (hr : Room k X.A) (hk : 4 ≤ k) (hf : PE X fe tf) (ha : PE X e te)
    (ht : eval (.Call fe [e] [] pos) X.env = (do callWith pos (← eval fe X.env) [] (backTo pos (starEach [e] X.env)) (backToKw pos (keywordEach [] X.env))) := by rfl)
    (he : starEach [e] X.env = (false, eval e X.env) :: starEach [] X.env := by rfl) (hpl : (backTo pos (starEach [] X.env)).any (·.1) = false := by rfl) :
    PE X (.Call fe [e] [] pos) (tCallOS C (spFCall X.K C CN) (fun _ => E0) tf (tCons te tNil)) := by
  obtain ⟨g, fd, c, F, b⟩ := FX.call
  exact pe_callOS hf c (ok_form_call T L N TK FC XN F) (hr.mono hk) b (fun σ pins H s e s' I q => passL pins σ H s e s' I q) (pa_cons ha pa_nil he) ht he hpl
theorem pe_fcallS {W : WX} (T : Txt X.K X.mg) (L : TxtL X.K X.mg) (N : TxtN X.K X.mg) (TK : TxtK X.K X.mg) (FC : FormC X.K X.mg C) (XN : ExcF X.K X.mg "InvalidName" "value" CN) (FX : FormX X.K C) (hr : Room k X.A) (hk : 4 ≤ k) (tk : Takes X W) (hf : PE X fe tf) (ha : PE X e te)
    (ht : eval (.Call fe [e] [] pos) X.env = (do callWith pos (← eval fe X.env) [] (backTo pos (starEach [e] X.env)) (backToKw pos (keywordEach [] X.env))) := by rfl)
    (he : starEach [e] X.env = (false, eval e X.env) :: starEach [] X.env := by rfl) (hpl : (backTo pos (starEach [] X.env)).any (·.1) = false := by rfl) :
    PE X (.Call fe [e] [] pos) (tCallOS C (spFCall X.K C CN) (fun σ => WE W σ) tf (tCons te tNil)) := by
  obtain ⟨g, fd, c, F, b⟩ := FX.call
  exact pe_callOS hf c (ok_form_call T L N TK FC XN F) (hr.mono hk) b (fun σ => passAt tk σ) (pa_cons ha pa_nil he) ht he hpl
end
section
variable {P : Program} {w : World} {K : PySem.W.Frag} {mg : Str → Option Value} {base : Heap}
theorem ok__law_whole (T : Txt K mg) (M : TxtV K mg) : Cal P w K mg base 1 "_law_whole" (spWhole K) := by
  refine M.d__law_whole.cal sc__law_whole (fun vs H Q E h => ?_) (fun f cdv A outer s H vs Q E hr h => ?_)
  · obtain ⟨x, T, rfl, _⟩ := h
    rfl
  · obtain ⟨x, ty, rfl, hx, k⟩ := h
    refine ⟨_, (pss_one (ps_ret (pe_and (pe_callB call_isi (by rfl) T.n_isinstance (by decide +kernel) (pa_cons (pv 0) (pa_cons (pe_bltn (v := .ty "int") (by rfl) T.n_int (by decide +kernel) rfl) pa_nil))) (pe_one (pe_not (pe_callB call_isi (by rfl) T.n_isinstance (by decide +kernel) (pa_cons (pv 0) (pa_cons (pe_bltn (v := .ty "bool") (by rfl) T.n_bool (by decide +kernel) rfl) pa_nil)))))))), ?_⟩
    k_extra "r"
    refine q_isi hx .int ?_
    k_extra "r"
    cases hx.2 <;> k_extra "r" <;> first | exact k | (refine s_if (fun _ => ?_) (fun z => absurd z (by decide)); k_extra "r"; refine q_isi hx .bl ?_; k_extra "r"; exact k)
def spNoName (K : PySem.W.Frag) (C : Addr) : Sp := fun vs H Q _ => ∃ a x d l c, vs = [.ref a, x] ∧ FormAt C H a l c ∧ Letters l ∧ 1 ≤ c ∧ NameArg K H x ∧ ¬ NmV x ∧ Dp K H x d ∧ SeqAt.shaped (.list [d]) = true ∧ ∀ H', Same H H' → Q (.bl true) H'
theorem ok__law_no_name {C CN : Addr} (T : Txt K mg) (L : TxtL K mg) (N : TxtN K mg) (TK : TxtK K mg) (FC : FormC K mg C) (XN : ExcF K mg "InvalidName" "value" CN) (FX : FormX K C) (M : TxtV K mg) : Cal P w K mg base 5 "_law_no_name" (spNoName K C) := by
  refine M.d__law_no_name.cal sc__law_no_name (fun vs H Q E h => ?_) (fun f cdv A outer s H vs Q E hr h => ?_)
  · obtain ⟨a, x, d, l, c, rfl, _⟩ := h
    rfl
  · obtain ⟨a, x, dd, l, c, rfl, ha, ll, c1, hx, nn, px, sh, k⟩ := h
    have hu := hr.units
    refine ⟨_, (pss_cons (ps_set (i := 2) sc__law_no_name.nd rfl (.inl rfl) (pe_lst (pa_cons pe_str pa_nil)))
      (pss_cons (ps_try_as (i := 3) (tb := fun W => tDrop (tCallOS C (spFCall K C CN) (fun σ => WE W σ) (tVar 0) (tCons (tVar 1) tNil))) (ts := fun a cls d => tAsg (tLst (tCons (tXf a cls d CN "value" (tVar 3)) tNil)) (gName 2)) (Wout := fun _ _ _ _ => False) rfl rfl sc__law_no_name.nd rfl rfl ⟨rfl, by decide, Or.inl XN.g⟩ takes0
        (fun W pn xe tk _ => pss_one (ps_expr (by exact (pe_fcallS T L N TK FC XN FX hr (by decide) tk (pv 0) (pv 1)))))
        (fun a oe cls d pn hz hf => pss_one (ps_set (i := 2) sc__law_no_name.nd rfl (Or.inl rfl) (by exact pe_lst (pa_cons (pe_xf XN.xf XN.no hz hf (pv 3)) pa_nil)))))
      (pss_one (ps_ret (pe_cmpR (op_eqU hu) (pv 2) (pe_lst (pa_cons (pv 1) pa_nil)) (by rfl)))))), ?_⟩
    k_extra "r"
    refine q_newL (by show 1 ≤ sizeLine; decide) fun l0 H1 n1 S1 h1 => ?_
    k_extra "r"
    refine ⟨a, rfl, ?_⟩
    k_extra "r"
    refine ⟨(ha.mono S1).imp fun dx e => ⟨_, e⟩, a, x, l, c, rfl, ha.mono S1, ll, c1, hx.mono S1, fun z ez nz => absurd ⟨z, ez, nz⟩ nn, fun _ H2 d S2 nd hd => ⟨true, XN.te, fun _ a0 ha0 => ?_, fun q => Bool.noConfusion q⟩⟩
    k_extra "r"
    refine ⟨_, rfl, rfl, rfl, d, _, x, rfl, hd, (by simp [List.lookup]), ?_⟩
    k_extra "r"
    refine q_newL (by show 1 ≤ sizeLine; decide) fun l1 H3 n3 S3 h3 => ?_
    k_extra "r"
    refine q_newL (by show 1 ≤ sizeLine; decide) fun l2 H4 n4 S4 h4 => ?_
    have S04 : Same H H4 := S1.trans (S2.trans (S3.trans S4))
    have e1 : ∀ {u : Addr}, H4 u = some (.lst [x]) → Dp K H4 (.ref u) (.list [dd]) := fun h => .lst (SqL.of h) (.cons (Dp.mono S04 px) .nil)
    refine q_eqD (e1 (S4 _ _ h3)) (e1 h4) sh sh ?_
    rw [SeqAt.eqv_refl _ (SeqAt.canLay_of_shaped sh)]
    exact k _ S04
theorem dp_ints {K : PySem.W.Frag} {H : Hp} : ∀ ns : List Int, DpAll K H (ns.map V.int) (ns.map PyData.int)
  | [] => .nil
  | n :: ns => .cons (.int n) (dp_ints ns)
theorem dp_lst_ints {K : PySem.W.Frag} {H : Hp} {p : Addr} {ns : List Int} (h : H p = some (.lst (ns.map V.int))) : Dp K H (.ref p) (.list (ns.map PyData.int)) := .lst (SqL.of h) (dp_ints ns)
theorem canLay_ints : ∀ ns : List Int, PyData.canLayAll0 (ns.map PyData.int) = true
  | [] => by simp [PyData.canLayAll0]
  | n :: ns => by simp [PyData.canLayAll0, PyData.canLay0, canLay_ints ns]
theorem depth_ints : ∀ ns : List Int, PyData.depthAll (ns.map PyData.int) = 0
  | [] => by simp [PyData.depthAll]
  | n :: ns => by simp [PyData.depthAll, PyData.depth, depth_ints ns]
end
end Bt
namespace Bt
open PySem PySem.Spec PyProof.Rows L2
theorem words11_ : True := by
  k_with "s" => first
    | ((with_reducible refine' s_var ?hv ?_); (case hv => exact rfl))
    | with_reducible first
      | refine' s_c ?_ | refine' s_op ?_ | refine' s_asg ?_ | refine' s_gname ?_ | refine' s_seq ?_ | refine' s_next ?_ | refine' s_ret ?_ | refine' s_ifS ?_ | refine' s_drop ?_ | refine' s_retN ?_
      | refine' s_test ?_ | refine' s_B ?_ | refine' q_test ?_ | refine' s_int ?_ | refine' s_cons ?_ | refine' s_nil ?_ | refine' s_call ?_ | refine' s_CB ?_ | refine' s_andT ?_ | refine' s_orT ?_ | refine' s_notT ?_
      | refine' s_andV ?_ | refine' s_orV ?_ | refine' s_notV ?_ | refine' s_ifV ?_ | refine' s_chain ?_ | refine' s_sl ?_ | refine' s_noPart ?_ | refine' s_part ?_ | refine' s_gsub ?_ | refine' s_BM ?_ | refine' s_tup ?_ | refine' s_lst ?_
      | refine' q_add ?_ | refine' q_sub ?_ | refine' q_lt ?_ | refine' q_le ?_ | refine' q_gt ?_ | refine' q_ge ?_ | refine' s_ifT ?_ | refine' s_ifF ?_ | refine' s_yes ?_ | refine' s_prop ?_ | refine' s_iList ?_ | refine' s_callOS ?_ | refine' s_iStr ?_ | refine' s_M0 ?_ | refine' s_make ?_ | refine' s_makeS ?_ | refine' s_prop ?_ | refine' s_raise1 ?_ | refine' s_for ?_ | refine' s_rng1 ?_ | refine' s_par ?_ | refine' s_gcons ?_ | refine' s_gnil ?_ | refine' s_iList ?_ | refine' s_iEnum ?_
      | (refine' q_mod ?hm ?_; (case hm => first | omega | decide)) | (refine' q_fdiv ?hm ?hn ?_; (case hm => first | omega | decide); (case hn => first | omega | decide))
      | (refine' q_mulR ?hm ?_; (case hm => first | omega | decide)) | (refine' q_mulL ?hm ?_; (case hm => first | omega | decide))
    | dsimp only
  k_with "r" => repeat (k_extra "s")
  trivial
/-! ### the key of a name is right -/
theorem shaped_ints (ns : List Int) : SeqAt.shaped (.list (ns.map PyData.int)) = true := by
  unfold SeqAt.shaped
  rw [Bool.and_eq_true]
  refine ⟨?_, ?_⟩
  · simp only [PyData.canLay0]; exact canLay_ints ns
  · simp only [PyData.depth, depth_ints]; decide
theorem s_iTup {K : PySem.W.Frag} {te : TE} {σ : L2.St} {H : Hp} {R : It → Hp → Prop} (h : te σ H fun x H1 => ∃ a, x = .ref a ∧ (∃ xs, SqT K H1 a xs) ∧ R (Itt K a) H1) : iTup K te σ H R := h
def rListOf (K : PySem.W.Frag) : List V → Hp → VK → Prop := fun xs H Q => ∃ p ys, xs = [.ref p] ∧ (SqL K H p ys ∨ SqT K H p ys) ∧ ∀ l, H l = none → Q (.ref l) (upd H l (.lst ys))
theorem call_listOf {X : Cx} : CallR X (.type "list") (rListOf X.K) := call_list_of
theorem q_listT {K : PySem.W.Frag} {H : Hp} {Q : VK} {p : Addr} {ys : List V} (h : SqT K H p ys) (q : ∀ l H', H l = none → Same H H' → H' l = some (.lst ys) → Q (.ref l) H') : rListOf K [.ref p] H Q := ⟨p, ys, rfl, .inr h, fun l n => q l _ n (Same.new n) upd_same⟩
theorem q_listL {K : PySem.W.Frag} {H : Hp} {Q : VK} {p : Addr} {ys : List V} (h : SqL K H p ys) (q : ∀ l H', H l = none → Same H H' → H' l = some (.lst ys) → Q (.ref l) H') : rListOf K [.ref p] H Q := ⟨p, ys, rfl, .inl h, fun l n => q l _ n (Same.new n) upd_same⟩
def rLenQ (K : PySem.W.Frag) : List V → Hp → VK → Prop := fun xs H Q => ∃ p ys, xs = [.ref p] ∧ (SqL K H p ys ∨ SqT K H p ys) ∧ Q (.int ys.length) H
theorem call_lenQ {X : Cx} : CallR X (.builtin "len") (rLenQ X.K) := call_len_seq
theorem q_lenT {K : PySem.W.Frag} {H : Hp} {Q : VK} {p : Addr} {ys : List V} (h : SqT K H p ys) (q : Q (.int ys.length) H) : rLenQ K [.ref p] H Q := ⟨p, ys, rfl, .inr h, q⟩
section
variable {P : Program} {w : World} {K : PySem.W.Frag} {mg : Str → Option Value} {base : Heap}
def spRightKey (C : Addr) : Sp := fun vs H Q _ => ∃ a q z l c, vs = [.ref a, .ref q, .str z] ∧ FormAt C H a l c ∧ H q = some (.tup [.str l, .int c]) ∧ Letters l ∧ 1 ≤ c ∧ Nm z ∧ ∀ H', Same H H' → Q (.bl true) H'
theorem ok__law_right_key {C CN : Addr} (T : Txt K mg) (L : TxtL K mg) (N : TxtN K mg) (TK : TxtK K mg) (TS : TxtS K mg) (FC : FormC K mg C) (XN : ExcF K mg "InvalidName" "value" CN) (FX : FormX K C) (M : TxtV K mg) : Cal P w K mg base 5 "_law_right_key" (spRightKey C) := by
  refine M.d__law_right_key.cal sc__law_right_key (fun vs H Q E h => ?_) (fun f cdv A outer s H vs Q E hr h => ?_)
  · obtain ⟨a, q, z, l, c, rfl, _⟩ := h
    rfl
  · obtain ⟨a, q, z, l, c, rfl, ha, hq, ll, c1, nz, k⟩ := h
    have hu := hr.units
    refine ⟨_, (pss_cons (ps_par (i := 3) (j := 4) (by rfl) sc__law_right_key.nd rfl rfl (by decide) rfl rfl (pa_cons (pe_fcall T L N TK FC XN FX hr (by decide) (pv 0) (pv 2)) (pa_cons (pe_c (ok__law_key L TK) hr (by decide) rfl (pa_cons (pv 1) (pa_cons (pv 2) pa_nil))) pa_nil)) (by rfl))
      (pss_cons (ps_if (PW.pt (pw_or (pt_not (pt_val (pe_callB call_isi (by rfl) T.n_isinstance (by decide +kernel) (pa_cons (pv 3) (pa_cons (pe_bltn (v := .ty "tuple") (by rfl) T.n_tuple (by decide +kernel) rfl) pa_nil))))) (pw_or (pt_cmpR (op_neU hu) (pe_callB call_lenQ (by rfl) N.n_len (by decide +kernel) (pa_cons (pv 3) pa_nil)) pe_int (by rfl)) (pw_or (pt_not (pt_val (pe_callB call_isi (by rfl) T.n_isinstance (by decide +kernel) (pa_cons (pe_ix ix_seq (pv 3) pe_int (fun _ _ => rfl)) (pa_cons (pe_bltn (v := .ty "tuple") (by rfl) T.n_tuple (by decide +kernel) rfl) pa_nil))))) (pw_or1 (pt_not (pt_val (pe_c (ok__law_whole T M) hr (by decide) rfl (pa_cons (pe_ix ix_seq (pv 3) pe_int (fun _ _ => rfl)) pa_nil))))))))) (pss_one (ps_ret pe_bl)) pss_nil)
      (pss_cons (ps_if (pt_cmpR (op_neU hu) (pe_lc (own := [("_law_rank", 5)]) (g := gName 5) (tt := tNot (tB (tCall (spWhole K) [] E0 (tCons (tVar 5) tNil)))) (te := tVar 5) rfl sc__law_right_key.nd (pi_tup (pe_ix ix_seq (pv 3) pe_int (fun _ _ => rfl))) (blkOk_by (own := [("_law_rank", 5)]) (N := ["_law_form_here", "_law_spec", "_law_name_here", "_law_told", "_law_due", "_law_rank"]) (sc := defScope s__law_right_key) (by decide +kernel)) (fun _ _ _ _ _ => pg_name (i := 5) sc__law_right_key.nd rfl (Or.inl rfl)) (fun _ _ _ _ _ => by exact pts_one (pt_not (pt_val (pe_c (ok__law_whole T M) hr (by decide) rfl (pa_cons (pv 5) pa_nil))))) (fun _ _ _ _ _ => by exact (pv 5))) (pe_lst pa_nil) (by rfl)) (pss_one (ps_ret pe_bl)) pss_nil)
      (pss_one (ps_ret (pe_and (pe_cmpR (op_eqU hu) (pe_ix ix_seq (pv 3) pe_int (fun _ _ => rfl)) (pe_ix ix_seq (pv 4) pe_int (fun _ _ => rfl)) (by rfl)) (pe_one (pe_cmpR (op_eqU hu) (pe_callTy call_listOf (by rfl) TS.n_list (by decide +kernel) (pa_cons (pe_ix ix_seq (pv 3) pe_int (fun _ _ => rfl)) pa_nil)) (pe_ix ix_seq (pv 4) pe_int (fun _ _ => rfl)) (by rfl))))))))), ?_⟩
    k_extra "r"
    refine ⟨a, rfl, ?_⟩
    k_extra "r"
    refine ⟨ha.imp fun dx e => ⟨_, e⟩, a, .str z, l, c, rfl, ha, ll, c1, ⟨_, Pl.str, fun z' e => by cases e; have := nz.2.1; omega⟩, fun z' e nz' t H1 kt => ?_, fun n => absurd ⟨z, rfl, nz⟩ n⟩
    cases e
    obtain ⟨r, nt, S1, hr1, ht1⟩ := kt
    k_extra "r"
    refine ⟨q, z, l, c, rfl, S1 _ _ hq, ll, c1, nz, fun t2 r2 H2 nt2 S2 hr2 ht2 => ?_⟩
    have ht1' := S2 _ _ ht1
    have hr1' := S2 _ _ hr1
    k_extra "r"
    refine ⟨_, _, rfl, ?_⟩
    k_extra "r"
    refine q_isi (Pl.tup ht1') .tup ?_
    k_extra "r"
    refine s_if0 rfl ?_
    k_extra "r"
    refine q_lenT (SqT.of ht1') ?_
    refine q_ne rfl ?_
    k_extra "r"
    refine s_if0 (by rfl) ?_
    k_extra "r"
    refine q_ixT (SqT.of ht1') (at_of (j := 1) rfl rfl) ?_
    k_extra "r"
    refine q_isi (Pl.tup hr1') .tup ?_
    k_extra "r"
    refine s_if0 rfl ?_
    k_extra "r"
    refine q_ixT (SqT.of ht1') (at_of (j := 0) rfl rfl) ?_
    k_extra "r"
    refine ⟨_, _, rfl, Pl.int, ?_⟩
    k_extra "r"
    refine s_if0 rfl ?_
    k_extra "r"
    refine s_lc ?_
    refine s_iTup ?_
    k_extra "r"
    refine q_ixT (SqT.of ht1') (at_of (j := 1) rfl rfl) ?_
    refine ⟨r, rfl, ⟨_, SqT.of hr1'⟩, fun D nD => lc_tup (K := K) (a := r) (xs := (rks l z).map V.int) (fun i H' => Same H2 H' ∧ H' D = some (.lst [])) ⟨Same.new nD, upd_same⟩ (fun i H' _ h => SqT.of (h.1 _ _ hr1')) ?_ ?_⟩
    · rintro j y H' hj ⟨S', hD⟩
      k_extra "r"
      refine ⟨rfl, ?_⟩
      k_extra "r"
      obtain ⟨n, rfl⟩ : ∃ n, y = V.int n := by
        rw [List.getElem?_map] at hj
        cases e : (rks l z)[j]? with
        | none => rw [e] at hj; cases hj
        | some n => rw [e] at hj; exact ⟨n, (Option.some.inj hj).symm⟩
      refine ⟨_, _, rfl, Pl.int, ?_⟩
      k_extra "r"
      exact s_if0 rfl ⟨S', hD⟩
    · rintro H3 ⟨S3, h3⟩
      k_extra "r"
      refine q_newL (by show 0 ≤ sizeLine; decide) fun l0 H4 n4 S4 h4 => ?_
      refine q_neD (dp_lst_ints (ns := []) (S4 _ _ h3)) (dp_lst_ints (ns := []) h4) (shaped_ints []) (shaped_ints []) ?_
      rw [SeqAt.eqv_refl _ (SeqAt.canLay_of_shaped (shaped_ints []))]
      k_extra "r"
      refine s_if0 rfl ?_
      have S24 := S3.trans S4
      k_extra "r"
      refine q_ixT (SqT.of (S24 _ _ ht1')) (at_of (j := 0) rfl rfl) ?_
      k_extra "r"
      refine q_ixT (SqT.of (S24 _ _ ht2)) (at_of (j := 0) rfl rfl) ?_
      refine q_eq rfl ⟨_, rfl, ?_⟩
      refine s_if1 (by simp) ?_
      k_extra "r"
      refine q_ixT (SqT.of (S24 _ _ ht1')) (at_of (j := 1) rfl rfl) ?_
      k_extra "r"
      refine q_listT (SqT.of (S24 _ _ hr1')) fun l5 H5 n5 S5 h5 => ?_
      k_extra "r"
      refine q_ixT (SqT.of (S5 _ _ (S24 _ _ ht2))) (at_of (j := 1) rfl rfl) ?_
      refine q_eqD (dp_lst_ints h5) (dp_lst_ints (S5 _ _ (S24 _ _ hr2))) (shaped_ints _) (shaped_ints _) ?_
      rw [SeqAt.eqv_refl _ (SeqAt.canLay_of_shaped (shaped_ints _))]
      exact k H5 (S1.trans (S2.trans (S24.trans S5)))
end
end Bt
namespace Bt
open PySem PySem.Spec PyProof.Rows L2
theorem words12_ : True := by
  k_with "s" => first
    | ((with_reducible refine' s_var ?hv ?_); (case hv => exact rfl))
    | with_reducible first
      | refine' s_c ?_ | refine' s_op ?_ | refine' s_asg ?_ | refine' s_gname ?_ | refine' s_seq ?_ | refine' s_next ?_ | refine' s_ret ?_ | refine' s_ifS ?_ | refine' s_drop ?_ | refine' s_retN ?_
      | refine' s_test ?_ | refine' s_B ?_ | refine' q_test ?_ | refine' s_int ?_ | refine' s_cons ?_ | refine' s_nil ?_ | refine' s_call ?_ | refine' s_CB ?_ | refine' s_andT ?_ | refine' s_orT ?_ | refine' s_notT ?_
      | refine' s_andV ?_ | refine' s_orV ?_ | refine' s_notV ?_ | refine' s_ifV ?_ | refine' s_chain ?_ | refine' s_sl ?_ | refine' s_noPart ?_ | refine' s_part ?_ | refine' s_gsub ?_ | refine' s_BM ?_ | refine' s_tup ?_ | refine' s_lst ?_
      | refine' q_add ?_ | refine' q_sub ?_ | refine' q_lt ?_ | refine' q_le ?_ | refine' q_gt ?_ | refine' q_ge ?_ | refine' s_ifT ?_ | refine' s_ifF ?_ | refine' s_yes ?_ | refine' s_prop ?_ | refine' s_iList ?_ | refine' s_callOS ?_ | refine' s_iStr ?_ | refine' s_M0 ?_ | refine' s_make ?_ | refine' s_makeS ?_ | refine' s_prop ?_ | refine' s_raise1 ?_ | refine' s_for ?_ | refine' s_rng1 ?_ | refine' s_par ?_ | refine' s_gcons ?_ | refine' s_gnil ?_ | refine' s_iList ?_ | refine' s_iEnum ?_
      | (refine' q_mod ?hm ?_; (case hm => first | omega | decide)) | (refine' q_fdiv ?hm ?hn ?_; (case hm => first | omega | decide); (case hn => first | omega | decide))
      | (refine' q_mulR ?hm ?_; (case hm => first | omega | decide)) | (refine' q_mulL ?hm ?_; (case hm => first | omega | decide))
    | dsimp only
  k_with "r" => repeat (k_extra "s")
  trivial
/-! ### values that are no names -/
theorem asc_app' {a b : Str} (ha : Asc a) (hb : Asc b) : Asc (a ++ b) := fun c hc => by
  rw [app_cps, List.mem_append] at hc
  rcases hc with hc | hc
  · exact ha c hc
  · exact hb c hc
theorem nn_mem {z : Str} {c : Nat} (h : c ∈ z.cps.toList) (n : ¬ (97 ≤ c ∧ c ≤ 122)) : ¬ Nm z := fun m => n (mem_alpha.mp (m.2.2 c h))
theorem nn_long {z : Str} (h : 9 ≤ z.length) : ¬ Nm z := fun m => by have := m.2.1; omega
theorem mem_r {a b : Str} {c : Nat} (h : c ∈ b.cps.toList) : c ∈ (a ++ b).cps.toList := by rw [app_cps]; exact List.mem_append.mpr (.inr h)
theorem mem_l {a b : Str} {c : Nat} (h : c ∈ a.cps.toList) : c ∈ (a ++ b).cps.toList := by rw [app_cps]; exact List.mem_append.mpr (.inl h)
def BadN (K : PySem.W.Frag) (H : Hp) (x : V) : Prop := ∃ T d, Pl K H x T ∧ Dp K H x d ∧ d.canLay0 = true ∧ d.depth ≤ 10 ∧ (∀ z, x = .str z → z.length < 64) ∧ ¬ NmV x
theorem BadN.mono {K : PySem.W.Frag} {H H' : Hp} {x : V} (S : Same H H') (h : BadN K H x) : BadN K H' x := let ⟨T, d, a, b, c⟩ := h; ⟨T, d, a.mono S, Dp.mono S b, c⟩
theorem BadN.str {K : PySem.W.Frag} {H : Hp} {z : Str} (h : z.length < 64) (a : Asc z) (n : ¬ Nm z) : BadN K H (.str z) := ⟨_, _, Pl.str, .str z, by simp only [PyData.canLay0]; exact a.ok, by simp [PyData.depth], fun z' e => by cases e; exact h, fun v => by obtain ⟨_, e, v⟩ := v; cases e; exact n v⟩
theorem no_nmV {x : V} (h : ∀ z, x ≠ .str z) : ¬ NmV x := fun v => by obtain ⟨z, e, _⟩ := v; exact h z e
theorem up_cps {z : Str} (nz : Nm z) : (Txt.upper z).cps.toList = z.cps.toList.map PyProof.Rows.up1 := by
  have e : z = SX.S z.cps.toList := rfl
  have hA : z.cps.toList.all (· < 128) = true := List.all_eq_true.mpr fun c hc => decide_eq_true (nz.asc c hc)
  rw [show Txt.upper z = Txt.upper (SX.S z.cps.toList) from rfl, SX.upper_S hA]
theorem upper_nm {z : Str} (nz : Nm z) : (Txt.upper z).length < 64 ∧ Asc (Txt.upper z) ∧ ¬ Nm (Txt.upper z) := by
  have e := up_cps nz
  have up : ∀ c ∈ z.cps.toList, PyProof.Rows.up1 c = c - 32 ∧ 97 ≤ c ∧ c ≤ 122 := fun c hc => by
    have := mem_alpha.mp (nz.2.2 c hc)
    unfold PyProof.Rows.up1
    rw [if_pos this]
    exact ⟨rfl, this⟩
  have hl : (Txt.upper z).length = z.length := by rw [len_cps, e, List.length_map, ← len_cps]
  refine ⟨by have := nz.2.1; omega, fun c hc => ?_, fun m => ?_⟩
  · rw [e, List.mem_map] at hc
    obtain ⟨b, hb, rfl⟩ := hc
    have := up b hb
    omega
  · have hpos : 0 < z.cps.toList.length := by rw [← len_cps]; exact nz.1
    have hb : z.cps.toList[0] ∈ z.cps.toList := List.getElem_mem hpos
    have h1 := m.2.2 (PyProof.Rows.up1 z.cps.toList[0]) (by rw [e]; exact List.mem_map.mpr ⟨_, hb, rfl⟩)
    have := mem_alpha.mp h1
    have := up _ hb
    omega
theorem q_addS50 {a b : Str} {H : Hp} {Q : VK} (ha : a.length ≤ 50) (hb : b.length ≤ 50) (q : Q (.str (a ++ b)) H) : rAddU (.str a) (.str b) H Q := q_addS (Bt.sz (by omega)) q
theorem cut_nm {z : Str} (nz : Nm z) (k : Int) (hk : 0 ≤ k) : (cutS z none (some k)).length ≤ 8 ∧ Asc (cutS z none (some k)) := by
  have e := cut_to (z := z) hk
  refine ⟨?_, fun c hc => ?_⟩
  · rw [len_cps, e, List.length_take]
    have := nz.2.1
    rw [len_cps] at this
    omega
  · rw [e] at hc
    exact nz.asc c (List.mem_of_mem_take hc)
structure TxtW (K : PySem.W.Frag) (mg : Str → Option Value) : Prop where
  d__law_strangers : Df K mg "_law_strangers" s__law_strangers ["_law_name_here"]
section
variable {P : Program} {w : World} {K : PySem.W.Frag} {mg : Str → Option Value} {base : Heap}
def spStrangers (K : PySem.W.Frag) : Sp := fun vs H Q _ => ∃ z, vs = [.str z] ∧ Nm z ∧ ∀ l H' xs, H l = none → Same H H' → H' l = some (.lst xs) → xs.length ≤ 30 → (∀ Hd : Hp, (∀ b o, H' b = some o → H b = none → Hd b = some o) → ∀ x ∈ xs, BadN K Hd x) → Q (.ref l) H'
theorem ok__law_strangers (W : TxtW K mg) : Cal P w K mg base 1 "_law_strangers" (spStrangers K) := by
  refine W.d__law_strangers.cal sc__law_strangers (fun vs H Q E h => ?_) (fun f cdv A outer s H vs Q E hr h => ?_)
  · obtain ⟨z, rfl, _⟩ := h
    rfl
  · obtain ⟨z, rfl, nz, k⟩ := h
    refine ⟨_, (pss_cons (ps_set (i := 1) sc__law_strangers.nd rfl (.inl rfl) (pe_lst (pa_cons pe_str (pa_cons (pe_op op_addU (pv 0) pe_str) (pa_cons (pe_upper (pv 0)) (pa_cons (pe_op op_addU (pe_slice sl_str (pv 0) po_none (po_some pe_int)) pe_str) (pa_cons (pe_op op_addU (pe_slice sl_str (pv 0) po_none (po_some pe_int)) pe_str) (pa_cons pe_str (pa_cons (pe_op op_addU pe_str (pe_slice sl_str (pv 0) po_none (po_some pe_int))) pa_nil)))))))))
      (pss_cons (ps_set (i := 1) sc__law_strangers.nd rfl (.inl rfl) (pe_op op_addU (pv 1) (pe_lst (pa_cons (pe_op op_addU (pe_slice sl_str (pv 0) po_none (po_some pe_int)) pe_str) (pa_cons pe_non (pa_cons pe_bl (pa_cons pe_int (pa_cons (pe_lst (pa_cons (pv 0) pa_nil)) (pa_cons (pe_tup (pa_cons (pv 0) pa_nil)) (pa_cons (pe_op op_addU (pe_slice sl_str (pv 0) po_none (po_some pe_int)) pe_str) (pa_cons pe_str (pa_cons pe_str pa_nil))))))))))))
      (pss_one (ps_ret (pe_op op_addU (pv 1) (pe_lst (pa_cons (pe_op op_addU pe_str (pe_slice sl_str (pv 0) po_none (po_some pe_int))) (pa_cons (pe_op op_addU (pe_slice sl_str (pv 0) po_none (po_some pe_int)) pe_str) (pa_cons (pe_op op_addU (pv 0) pe_str) pa_nil))))))))), ?_⟩
    have hz := nz.sz
    have h50 : z.length ≤ 50 := by have := nz.2.1; omega
    have h7 : (cutS z none (some 7)).length ≤ 50 := by have := (cut_nm nz 7 (by decide)).1; omega
    have h3 : (cutS z none (some 3)).length ≤ 50 := by have := (cut_nm nz 3 (by decide)).1; omega
    have h2 : (cutS z none (some 2)).length ≤ 50 := by have := (cut_nm nz 2 (by decide)).1; omega
    k_extra "r"
    refine q_addS50 h50 (by decide +kernel) ?_
    k_extra "r"
    refine ⟨⟨_, rfl⟩, _, rfl, rfl, (by omega), ?_⟩
    k_extra "r"
    refine ⟨z, rfl, hz, ?_⟩
    k_extra "r"
    refine q_addS50 h7 (by decide +kernel) ?_
    k_extra "r"
    refine ⟨z, rfl, hz, ?_⟩
    k_extra "r"
    refine q_addS50 h7 (by decide +kernel) ?_
    k_extra "r"
    refine ⟨z, rfl, hz, ?_⟩
    k_extra "r"
    refine q_addS50 (by decide +kernel) h7 ?_
    k_extra "r"
    refine q_newL (by show 7 ≤ sizeLine; decide) fun l1 H1 n1 S1 hl1 => ?_
    k_extra "r"
    refine ⟨z, rfl, hz, ?_⟩
    k_extra "r"
    refine q_addS50 h7 (by decide +kernel) ?_
    k_extra "r"
    refine q_newL (by show 1 ≤ sizeLine; decide) fun l2 H2 n2 S2 hl2 => ?_
    k_extra "r"
    refine q_newT (by show 1 ≤ sizeLine; decide) fun l3 H3 n3 S3 hl3 => ?_
    k_extra "r"
    refine ⟨z, rfl, hz, ?_⟩
    k_extra "r"
    refine q_addS50 h3 (by decide +kernel) ?_
    k_extra "r"
    refine q_newL (by show 9 ≤ sizeLine; decide) fun l4 H4 n4 S4 hl4 => ?_
    refine q_cat (S4 _ _ (S3 _ _ (S2 _ _ hl1))) hl4 (by show 7 + 9 ≤ sizeLine; decide) (fun l5 H5 n5 S5 hl5 => ?_)
    k_extra "r"
    refine ⟨z, rfl, hz, ?_⟩
    k_extra "r"
    refine q_addS50 (by decide +kernel) h2 ?_
    k_extra "r"
    refine ⟨z, rfl, hz, ?_⟩
    k_extra "r"
    refine q_addS50 h3 (by decide +kernel) ?_
    k_extra "r"
    refine q_addS50 h50 (by decide +kernel) ?_
    k_extra "r"
    refine q_newL (by show 3 ≤ sizeLine; decide) fun l6 H6 n6 S6 hl6 => ?_
    refine q_cat (S6 _ _ hl5) hl6 (by show 16 + 3 ≤ sizeLine; decide) (fun l7 H7 n7 S7 hl7 => ?_)
    have S07 : Same H H7 := S1.trans (S2.trans (S3.trans (S4.trans (S5.trans (S6.trans S7)))))
    have b2 : H7 l2 = some (.lst [.str z]) := S7 _ _ (S6 _ _ (S5 _ _ (S4 _ _ (S3 _ _ hl2))))
    have b3 : H7 l3 = some (.tup [.str z]) := S7 _ _ (S6 _ _ (S5 _ _ (S4 _ _ hl3)))
    have one : ∀ (c : Nat), Asc (⟨#[c]⟩ : Str) ↔ c < 128 := fun c => ⟨fun h => h c (by simp), fun h d hd => (show d = c by simpa using hd) ▸ h⟩
    have zs : PyData.strOk z = true := nz.asc.ok
    refine k l7 H7 _ ((((((S1.trans S2).trans S3).trans S4).trans S5).trans S6).free n7) S07 hl7 (by show 19 ≤ 30; decide) fun Hd kd => ?_
    have b2 := kd _ _ b2 (S1.free n2)
    have b3 := kd _ _ b3 ((S1.trans S2).free n3)
    have sR : ∀ {p : Str} {c : Nat}, p.length ≤ 8 → Asc p → c < 128 → ¬ (97 ≤ c ∧ c ≤ 122) → BadN K Hd (.str (p ++ ⟨#[c]⟩)) := fun hp ap hc nc =>
      .str (by rw [app_len]; show _ + 1 < 64; omega) (asc_app' ap ((one _).mpr hc)) (nn_mem (mem_r (by simp)) nc)
    have sL : ∀ {p : Str} {c : Nat}, p.length ≤ 8 → Asc p → c < 128 → ¬ (97 ≤ c ∧ c ≤ 122) → BadN K Hd (.str (⟨#[c]⟩ ++ p)) := fun hp ap hc nc =>
      .str (by rw [app_len]; show 1 + _ < 64; omega) (asc_app' ((one _).mpr hc) ap) (nn_mem (mem_l (by simp)) nc)
    have s1 : ∀ {c : Nat}, c < 128 → ¬ (97 ≤ c ∧ c ≤ 122) → BadN K Hd (.str ⟨#[c]⟩) := fun hc nc => .str (by show 1 < 64; decide) ((one _).mpr hc) (nn_mem (c := _) (by simp) nc)
    have a7 := cut_nm nz 7 (by decide)
    have a3 := cut_nm nz 3 (by decide)
    have a2 := cut_nm nz 2 (by decide)
    intro x hx
    simp only [List.cons_append, List.nil_append, List.mem_cons, List.not_mem_nil, or_false] at hx
    rcases hx with rfl | rfl | rfl | rfl | rfl | rfl | rfl | rfl | rfl | rfl | rfl | rfl | rfl | rfl | rfl | rfl | rfl | rfl | rfl
    · exact .str (by decide +kernel) (fun c hc => by cases hc) fun m => absurd m.1 (by decide +kernel)
    · exact .str (by rw [app_len]; show _ + 8 < 64; omega) (asc_app' nz.asc (fun c hc => by revert c; decide +kernel)) (nn_long (by rw [app_len]; show 9 ≤ _ + 8; have := nz.1; omega))
    · exact .str (upper_nm nz).1 (upper_nm nz).2.1 (upper_nm nz).2.2
    · exact sR (c := 45) a7.1 a7.2 (by decide) (by decide)
    · exact sR (c := 32) a7.1 a7.2 (by decide) (by decide)
    · exact s1 (c := 10) (by decide) (by decide)
    · exact sL (c := 32) a7.1 a7.2 (by decide) (by decide)
    · exact sR (c := 49) a7.1 a7.2 (by decide) (by decide)
    · exact ⟨_, _, Pl.non, .non, by simp [PyData.canLay0], by simp [PyData.depth], (fun _ e => nomatch e), no_nmV fun _ e => nomatch e⟩
    · exact ⟨_, _, Pl.bl, .bl _, by simp [PyData.canLay0], by simp [PyData.depth], (fun _ e => nomatch e), no_nmV fun _ e => nomatch e⟩
    · exact ⟨_, _, Pl.int, .int _, by simp [PyData.canLay0], by simp [PyData.depth], (fun _ e => nomatch e), no_nmV fun _ e => nomatch e⟩
    · exact ⟨_, .list [.str z], Pl.lst b2, .lst (SqL.of b2) (.cons (.str z) .nil), by simp [PyData.canLay0, PyData.canLayAll0, zs], by simp [PyData.depth, PyData.depthAll], (fun _ e => nomatch e), no_nmV fun _ e => nomatch e⟩
    · exact ⟨_, .tuple [.str z], Pl.tup b3, .tup (SqT.of b3) (.cons (.str z) .nil), by simp [PyData.canLay0, PyData.canLayAll0, zs], by simp [PyData.depth, PyData.depthAll], (fun _ e => nomatch e), no_nmV fun _ e => nomatch e⟩
    · exact sR (c := 95) a3.1 a3.2 (by decide) (by decide)
    · exact s1 (c := 123) (by decide) (by decide)
    · exact s1 (c := 96) (by decide) (by decide)
    · exact sL (c := 64) a2.1 a2.2 (by decide) (by decide)
    · exact sR (c := 10) a3.1 a3.2 (by decide) (by decide)
    · exact sR (c := 10) nz.2.1 nz.asc (by decide) (by decide)
end
end Bt
namespace Bt
open PySem PySem.Spec PyProof.Rows L2 LamX NdefX
/-! ### a lambda as a value -/
structure LF where
  qual : Str
  params : Arguments
  body : Expr
  scope : Scope
  cl : List (Str × Addr)
  c : Addr
abbrev LF.fd (F : LF) (pm ctv : Value) : FuncData := PySem.W.kla_fn "<lambda>" F.qual F.params F.body F.scope F.cl pm (.ref F.c) ctv
def FnL (f : Addr) (F : LF) : HO := .ext fun h => ∃ (od : Option Addr) (sl : Array (Option Value)) (pm ctv : Value), h.get? f = some (⟨.type "function", od, .func (F.fd pm ctv), sl⟩ : Obj)
theorem fnL_at {P : Program} {w : World} {H : Hp} {h : Heap} {f : Addr} {F : LF} (hok : HOk P w H h) (e : H f = some (FnL f F)) : ∃ (od : Option Addr) (sl : Array (Option Value)) (pm ctv : Value), h.get? f = some (⟨.type "function", od, .func (F.fd pm ctv), sl⟩ : Obj) := by
  obtain ⟨z, _, _⟩ := hok f _ e
  exact z
section
variable {X : Cx} {pins : List (Addr × Obj)} {σ : L2.St} {H : Hp} {s : Shared}
theorem inv_lf {F : LF} {o : Obj} {t' : Nat} {pm ctv : Value} {h : Heap} (I : Inv X pins σ H { s with heap := h, toks := t' }) (ho : o = { cls := .type "function", data := .func (F.fd pm ctv) }) :
    Inv X pins σ (upd H h.objs.size (FnL h.objs.size F)) { s with heap := h.push o, toks := t' } := by
  subst ho
  refine I.laid (t' := t') (a := h.objs.size) (fun b u e => Heap.get?_push_of_some _ e) (Nat.le_refl _) ?_
  have e : (h.push ({ cls := .type "function", data := .func (F.fd pm ctv) } : Obj)).get? h.objs.size = some ({ cls := .type "function", data := .func (F.fd pm ctv) } : Obj) := Heap.get?_push_size _ rfl
  exact ⟨⟨_, _, pm, ctv, e⟩, ⟨_, e⟩, fun h1 h2 ⟨od, sl, p, t, z⟩ st => ⟨od, sl, p, t, st _ z⟩⟩
/-- the heap with one more row in the table at P: the code object c' of the place pos -/
def putT (H : Hp) (P c' : Addr) (ps : Array Value) (pos : Pos) (q : Str) : Hp := upd (upd H P (.tbl (ps ++ #[rawInt pos.line, rawInt pos.col, .ref c']))) c' (CodeO c' q)
section
variable {P c' : Addr} {ps : Array Value} {pos : Pos} {q : Str}
theorem putT_code : putT H P c' ps pos q c' = some (CodeO c' q) := upd_same
theorem putT_tab (hP : H P = some (.tbl ps)) (nC : H c' = none) : putT H P c' ps pos q P = some (.tbl (ps ++ #[rawInt pos.line, rawInt pos.col, .ref c'])) := (upd_ne (ne_of_none hP nC)).trans upd_same
theorem putT_ne {b : Addr} (h1 : b ≠ P) (h2 : b ≠ c') : putT H P c' ps pos q b = H b := (upd_ne h2).trans (upd_ne h1)
theorem putT_old (hP : H P = some (.tbl ps)) (nC : H c' = none) : ExtN H (putT H P c' ps pos q) := fun b o e n =>
  (putT_ne (fun z => by subst z; exact n ps (Option.some.inj (e.symm.trans hP))) (ne_of_none e nC)).trans e
theorem putT_none {b : Addr} (e : putT H P c' ps pos q b = none) : H b = none := upd_none (upd_none e)
theorem putT_tabs {T : List NTab} {nm : Nat → Nat → Str} (hT : TabsN T H) (hP : H P = some (.tbl ps)) (nC : H c' = none) (ok : TriplesOk ps.toList) (own : ∀ (p' : Pos) (cv : Value), codeAmong p' ps.toList = some cv → ∃ d, cv = .ref d ∧ H d = some (CodeO d (nm p'.line p'.col)))
    (hq : nm pos.line pos.col = q) (hu : ∀ p ∈ T, p.1 = P → p.2 = nm) : TabsN T (putT H P c' ps pos q) := by
  have lift : ∀ {d : Addr} {r : Str}, H d = some (CodeO d r) → putT H P c' ps pos q d = some (CodeO d r) := fun e => putT_old hP nC _ _ e codeO_ne
  rintro ⟨R, mm⟩ hp
  by_cases hR : R = P
  · subst hR
    obtain rfl : mm = nm := hu _ hp rfl
    refine ⟨_, putT_tab hP nC, ?_⟩
    rw [show (ps ++ #[rawInt pos.line, rawInt pos.col, Value.ref c']).toList = ps.toList ++ [rawInt pos.line, rawInt pos.col, .ref c'] by simp]
    refine ⟨TriplesOk_snoc _ _ _ _ ok, fun p' cv hcv => (among_app2 _ ok hcv).elim (fun old => ?_) (fun new => ?_)⟩
    · obtain ⟨d, ed, hd⟩ := own p' cv old
      exact ⟨d, ed, lift hd⟩
    · obtain ⟨ec, el, ek⟩ := new
      exact ⟨c', ec, by rw [putT_code, ← hq, el, ek]⟩
  · obtain ⟨qs, t1, t2, t3⟩ := hT _ hp
    refine ⟨qs, (putT_ne hR (ne_of_none t1 nC)).trans t1, t2, fun p' cv hcv => ?_⟩
    obtain ⟨d, ed, hd⟩ := t3 p' cv hcv
    exact ⟨d, ed, lift hd⟩
end
/-- what the maker of a lambda goes on with -/
def LamK (T : List NTab) (H : Hp) (mk : Addr → LF) (f c' : Addr) (H1 : Hp) : Prop :=
  ExtN H H1 ∧ (∀ b, H1 b = none → H b = none) ∧ TabsN T H1 ∧ H f = none ∧ H1 f = some (FnL f (mk c')) ∧ H1 c' = some (CodeO c' (mk c').qual)
theorem lamK_of {T : List NTab} {H H0 : Hp} {mk : Addr → LF} {f c' : Addr} (old : ExtN H H0) (bk : ∀ b, H0 b = none → H b = none) (ht : TabsN T H0) (hc : H0 c' = some (CodeO c' (mk c').qual)) (nf : H0 f = none) : LamK T H mk f c' (upd H0 f (FnL f (mk c'))) := by
  have st : ∀ {b : Addr} {o : HO}, H0 b = some o → upd H0 f (FnL f (mk c')) b = some o := fun e => (upd_ne (ne_of_none e nf)).trans e
  exact ⟨fun b o e n => st (old b o e n), fun b e => bk b (upd_none e), ht.ext fun _ _ e => st e, bk f nf, upd_same, st hc⟩
theorem lam_makeN {T : List NTab} {nm : Nat → Nat → Str} {c P : Addr} {params : Arguments} {body : Expr} {scope : Scope} {pos : Pos} {mk : Addr → LF} {E : Value → Shared → Prop} {Q : Value → Shared → Prop} (I : Inv X pins σ H s) (TB : TabB X.base X.mg c P) (hcode : X.env.code = .ref c)
    (hm : (P, nm) ∈ T) (hu : ∀ p ∈ T, p.1 = P → p.2 = nm) (hT : TabsN T H) (hdef : defaultsOf params X.env = ([], [])) (hfree : ∀ y ∈ scope.names, y.2 = .free → ∃ c, X.env.cells.lookup y.1 = some c)
    (hmk : ∀ d, mk d = ⟨X.env.qual ++ "<lambda>", params, body, scope, cloFrom X.env.cells scope.names [], d⟩) (hn : nm pos.line pos.col = X.env.qual ++ "<lambda>")
    (go : ∀ (f c' : Addr) (H1 : Hp) (s' : Shared), Inv X pins σ H1 s' → LamK T H mk f c' H1 → Q (.ref f) s') :
    wpAny (model X.prog X.w) X.A (eval (.Lambda params body scope pos) X.env) Q E s := by
  have tab := hT _ hm
  obtain ⟨ps, hP, ok, own⟩ := (tab : TabN H P nm)
  have gP := I.hok P _ hP
  have code := TB.code.keeps I.bk
  have glob := I.mod.glob.keeps I.bk
  have bm := TB.bm.keeps I.bk
  have qual : ∀ d, (mk d).qual = X.env.qual ++ "<lambda>" := fun d => by rw [hmk]
  refine PySem.W.kla_eval hdef ?_
  rcases hc : codeAmong pos ps.toList with _ | cv
  · refine PySem.W.kla_makeFunction (closure_ok hfree) I.ok.glob glob hcode code gP ok hc TB.gP bm ?_
    intro c' ctv g tk keep up lt rec_ row
    obtain ⟨d0, oc, vs, t, e0, l1, l2, l3⟩ := rec_
    cases e0
    have nC : H c' = none := I.hok.fresh up
    have J : Inv X pins σ (putT H P c' ps pos (X.env.qual ++ "<lambda>")) { s with heap := g, toks := tk } := inv_table I hP (fun b o n e => keep b o n e) row up ⟨oc, vs, t, l1, l2, l3⟩
    have nf := J.hok.fresh (Nat.le_refl g.objs.size)
    refine go _ c' _ _ (inv_lf (F := mk c') J (by rw [hmk])) (lamK_of (putT_old hP nC) (fun _ e => putT_none e) (putT_tabs hT hP nC ok own hn hu) ?_ nf)
    rw [qual]
    exact putT_code
  · obtain ⟨d, rfl, hd⟩ := own pos cv hc
    refine PySem.W.kla_makeFunctionHit (closure_ok hfree) I.ok.glob glob hcode code gP ok hc bm ?_
    intro ctv g tk keep _
    have J : Inv X pins σ H { s with heap := g, toks := tk } := I.kept keep
    refine go _ d _ _ (inv_lf (F := mk d) J (by rw [hmk])) (lamK_of (fun _ _ e _ => e) (fun _ e => e) hT ?_ (J.hok.fresh (Nat.le_refl g.objs.size)))
    rw [qual, ← hn]
    exact hd
end
def tLamV (T : List NTab) (mk : Addr → LF) : TE := fun σ H Q => TabsN T H ∧ ∀ (f c' : Addr) (H1 : Hp), LamK T H mk f c' H1 → Q (.ref f) H1
theorem pe_lambda {X : Cx} {T : List NTab} {nm : Nat → Nat → Str} {c P : Addr} {params : Arguments} {body : Expr} {scope : Scope} {pos : Pos} (TB : TabB X.base X.mg c P) (hcode : X.env.code = .ref c) (hm : (P, nm) ∈ T) (hn : nm pos.line pos.col = X.env.qual ++ "<lambda>") (hu : ∀ p ∈ T, p.1 = P → p.2 = nm)
    (hfree : ∀ y ∈ scope.names, y.2 = .free → X.env.scope.names.lookup y.1 = some .cell ∨ X.env.scope.names.lookup y.1 = some .free) (hdef : defaultsOf params X.env = ([], []) := by rfl) :
    PE X (.Lambda params body scope pos) (tLamV T fun d => ⟨X.env.qual ++ "<lambda>", params, body, scope, cloFrom X.env.cells scope.names [], d⟩) := by
  refine ⟨fun pins s σ H Q I h => ?_⟩
  obtain ⟨hT, go⟩ := h
  exact lam_makeN I TB hcode hm hu hT hdef (fun y hy e => (hfree y hy e).elim (fun z => I.ok.has _ (.inl z)) fun z => I.ok.has _ (.inr z)) (fun _ => rfl) hn fun f c' H1 s' J k => ⟨.ref f, H1, J, rfl, go f c' H1 k⟩
end Bt
namespace Bt
open PySem PySem.Spec PyProof.Rows L2 LamX NdefX
/-! ### a lambda's run -/
abbrev LF.nf (F : LF) : NF := ⟨"<lambda>", F.qual, F.params, [], F.scope, F.cl, F.c⟩
theorem lam_run {CX : CXT} {P : Program} {w : World} {K : PySem.W.Frag} {mg : Str → Option Value} {base : Heap} {N ps fr : List Str} {F : LF} {f : Addr} {k : Nat} {A : Around} {outer : List Env} {s : Shared} {H : Hp} {us : List Value} {vs : List V} {ws : List (Option V)} {Q : VK} {E : XK} {t : TE}
    (S : NScope N ps fr F.scope) (hb : ∀ (pm ctv : Value) (xs : List Value), xs.length = ps.length → bindArgs (F.fd pm ctv) ⟨xs, []⟩ = pure (ps.zip xs)) (hl : vs.length = ps.length) (hr : Room (k + 1) A) (e0 : Env0 P w K mg base A outer s H)
    (hf : H f = some (FnL f F)) (hc : H F.c = some (CodeO F.c F.qual)) (C : CellsAt F.cl fr ws s.heap H) (r : Vals vs us)
    (body : PE (ncx CX P w K mg base N F.nf f A outer s H E) F.body t) (q : t (startF N vs ws) H Q) : codeAny (model P w) A (.call (.ref f) ⟨us, []⟩) (CR CX outer P w H s Q E) s := by
  have lim := e0.mod.nolimit.keeps fun b o e => (e0.bs b o e).1
  obtain ⟨_, _, pm, ctv, at_⟩ := fnL_at e0.hok hf
  refine PySem.W.kla_callFunE hr.depth at_ rfl S.co S.gen rfl (codeO_at e0.hok hc) ?_
  rw [hb pm ctv us (r.length.symm.trans hl)]
  refine wpAny_pure (wpAny_newFunctionEnv S.nocell (fun y hy => S.par y.1 (List.of_mem_zip hy).1) (fun g hns hsb => ⟨lim.fresh _ hsb, ?_⟩) S.kind)
  have old : ∀ b o, s.heap.get? b = some o → g.get? b = some o := fun b o e => hsb.extBut b o (Nat.ne_of_lt (Heap.lt_size e)) (Heap.get?_push_of_some _ e)
  have J := inv_startN (CX := CX) (F := F.nf) (f := f) (E := E) (tk := s.toks + (ps.zip us).length) S hr.hd e0 hl r C hns old
  refine PySem.W.kla_codeExpr (wpAny_mono (body.run [] _ _ H Q J q) (fun v s' z => ?_) fun _ _ z => z)
  obtain ⟨x, H', J', rv, qv⟩ := z
  exact ⟨x, H', J'.os, J'.bare, J'.base, J'.hok, rv, qv⟩
end Bt
namespace Bt
open PySem PySem.Spec PyProof.Rows L2 LamX NdefX
open FbM (Rec rec_new)
open PySem.W (EachIs AllAlike Sortable KeyedOut KeepsBut dataLe dataKind sortVals copyHeap)
/-! ### sorted(xs, key=f), f an own def or lambda: the turns, the state carried by the frame's invariant -/
section
variable {X : Cx} {pins : List (Addr × Obj)} {σ : L2.St} {H : Hp} {s : Shared} {a kS : Addr} {e1 : Nat} {bs : List Str} {k : Str → PyData} {q : Addr}
/-- the state behind the keys ds -/
structure KeySt (X : Cx) (pins : List (Addr × Obj)) (σ : L2.St) (H : Hp) (a kS : Addr) (e1 : Nat) (ds : List PyData) (s : Shared) : Prop where
  ex : ∃ (Hn : Hp) (kA : Array Value) (e : Nat), Inv X pins σ Hn s ∧ Same H Hn ∧ Hn a = none ∧ Hn kS = none ∧ s.heap.get? a = some (seqObj "list" #[] e1) ∧ s.heap.get? kS = some (seqObj "list" kA e) ∧
    EachIs (fun v d => ∃ y, RelV y v ∧ Dp X.K Hn y d) kA.toList ds
/-- one key: from any state of the frame, the heap grown -/
def KeyRun (X : Cx) (pins : List (Addr × Obj)) (σ : L2.St) (H : Hp) (q : Addr) (bs : List Str) (k : Str → PyData) : Prop :=
  ∀ (b : Str) (u : Value), b ∈ bs → RelV (.str b) u → ∀ (s' : Shared) (Hn : Hp), Inv X pins σ Hn s' → Same H Hn →
    codeAny (model X.prog X.w) X.A.in1.in1 (.call (.ref q) ⟨[u], []⟩) (CR CX0 X.stack X.prog X.w Hn s' (fun y H2 => Same Hn H2 ∧ Dp X.K H2 y (k b)) E0) s'
theorem same_none {H H' : Hp} {b : Addr} (S : Same H H') (h : H' b = none) : H b = none := by
  cases e : H b with
  | none => rfl
  | some o =>
    rw [S b o e] at h
    cases h
theorem key_loop {P : PySem.Fin → Shared → Prop} {E : Value → Shared → Prop} (ra : Rec X pins a) (rk : Rec X pins kS) (hka : kS ≠ a) {us : List Value} (hv : Vals (bs.map V.str) us) (hz : us.length ≤ 1000) (turn : KeyRun X pins σ H q bs k)
    (st : KeySt X pins σ H a kS e1 [] s) (done : ∀ s' Hn kA e, Inv X pins σ Hn s' → Same H Hn → Hn a = none → Hn kS = none → s'.heap.get? a = some (seqObj "list" #[] e1) → s'.heap.get? kS = some (seqObj "list" kA e) →
      EachIs (fun v d => ∃ y, RelV y v ∧ Dp X.K Hn y d) kA.toList (bs.map k) → wpAny (model X.prog X.w) X.A.in1.in1 (ksk_end a false us.toArray e1 (.ref kS) kA) P E s') :
    wpAny (model X.prog X.w) X.A.in1.in1 (ksk_rest a (.ref q) false us.toArray e1 (.ref kS)) P E s := by
  have hlen : us.length = bs.length := by rw [← hv.length, List.length_map]
  unfold ksk_rest
  refine wpAny_bind (wpAny_rule ?_)
  first
    | rw [List.forIn_toArray]
    | rw [← Array.forIn_toList]
  refine wpAny_bind (ksk_fold (fun i s' => KeySt X pins σ H a kS e1 ((bs.map k).take i) s') us 0 s (by rw [List.take_zero]; exact st) ?turns ?last)
  case turns =>
    intro j u s' hu S
    simp only [Nat.zero_add] at S ⊢
    have hj : j < bs.length := by
      have := (List.getElem?_eq_some_iff.mp hu).1
      omega
    have hb : bs[j]? = some bs[j] := List.getElem?_eq_getElem hj
    have hx : (bs.map V.str)[j]? = some (V.str bs[j]) := by rw [List.getElem?_map, hb]; rfl
    obtain ⟨u', hu', ru⟩ := hv.get hx
    have e : u' = u := Option.some.inj (hu'.symm.trans hu)
    subst e
    obtain ⟨Hn, kA, e, I, sm, na, nk, ga, gk, ks⟩ := S
    have hkz : kA.size ≤ 1000 := by
      have h1 := ks.length
      rw [Array.length_toList, List.length_take] at h1
      omega
    refine wpAny_bind (wpAny_attempt (wpAny_call (codeAny_mono (turn _ _ (List.mem_of_getElem? hb) ru s' Hn I sm) fun rr s2 hrr => ?_)))
    cases rr with
    | error er => exact False.elim hrr
    | ok fl =>
      cases fl with
      | next => exact False.elim hrr
      | brk => exact False.elim hrr
      | cont => exact False.elim hrr
      | ret v =>
        obtain ⟨y, H2, os, bare, un, hok, ry, sm2, dy⟩ := (show CE X.stack X.prog X.w Hn s' _ v s2 from hrr)
        have I2 : Inv X pins σ H2 s2 := I.call' os un hok bare (fun b z => absurd z List.not_mem_nil)
        have ga2 := un.keep _ _ ga na ra.fr List.not_mem_nil
        have gk2 := un.keep _ _ gk nk rk.fr List.not_mem_nil
        have na2 : H2 a = none := un.free _ _ ga na List.not_mem_nil
        have nk2 : H2 kS = none := un.free _ _ gk nk List.not_mem_nil
        have sb := Heap.SameBut.update s2.heap kS (Obj.mapSeq (·.push v))
        obtain ⟨c2, hc2⟩ : ∃ c2, (s2.heap.update kS (Obj.mapSeq (·.push v))).get? kS = some (seqObj "list" (kA.push v) c2) := ⟨_, get?_update_seq gk2 (·.push v)⟩
        refine wpAny_bind (listUpdate_at gk2 rfl ?_ (sz (by omega)) (by rw [Array.size_push]; exact Nat.le_succ_of_le (szlt (by omega))))
        have I3 : Inv X pins σ H2 { s2 with heap := s2.heap.update kS (Obj.mapSeq (·.push v)) } := rk.turn (t' := s2.toks) I2 nk2 fun c o hc e => sb.extBut c o hc e
        refine wpAny_pure ⟨rfl, H2, kA.push v, c2, I3, fun b o z => sm2 _ _ (sm _ _ z), na2, nk2, (sb.2 a hka.symm).trans ga2, hc2, ?_⟩
        have ek : (bs.map k).take (j + 1) = (bs.map k).take j ++ [k bs[j]] := by
          rw [List.take_add_one, List.getElem?_map, hb]
          simp
        have ea : (kA.push v).toList = kA.toList ++ [v] := by simp
        rw [ea, ek]
        exact PySem.W.each_snoc ⟨y, ry, dy⟩ (ks.mono fun v d z => by
          obtain ⟨y', r', d'⟩ := z
          exact ⟨y', r', Dp.mono sm2 d'⟩)
  case last =>
    intro s' S
    obtain ⟨Hn, kA, e, I, sm, na, nk, ga, gk, ks⟩ := S
    have e3 : (bs.map k).take (0 + us.length) = bs.map k := List.take_of_length_le (by rw [List.length_map]; omega)
    rw [e3] at ks
    refine wpAny_bind (listItems_at gk rfl ?_)
    exact done s' Hn kA e I sm na nk ga gk ks
/-- the whole sort: the new list stands at D -/
theorem key_sorted {P : PySem.Fin → Shared → Prop} {E : Value → Shared → Prop} (ra : Rec X pins a) (rk : Rec X pins kS) (hka : kS ≠ a) {us : List Value} (hv : Vals (bs.map V.str) us) (hz : us.length ≤ 1000) (hal : AllAlike (bs.map k)) (hsk : Sortable (bs.map k)) (hu : ∀ b, b ∈ bs → X.A.in1.in1.units + (k b).depth < cLine) (turn : KeyRun X pins σ H q bs k)
    (st : KeySt X pins σ H a kS e1 [] s) (done : ∀ s' Hn, Inv X pins σ (upd Hn a (.lst ((bs.mergeSort (dataLe false k)).map V.str))) s' → Same H Hn → Hn a = none → P (.done (.ret .none)) s') :
    wpAny (model X.prog X.w) X.A.in1.in1 (ksk_rest a (.ref q) false us.toArray e1 (.ref kS)) P E s := by
  have hlen : us.length = bs.length := by rw [← hv.length, List.length_map]
  refine key_loop ra rk hka hv hz turn st fun s' Hn kA e I sm na nk ga gk ks => ?_
  have hsz : kA.size = us.length := by
    have h1 := ks.length
    rw [Array.length_toList, List.length_map] at h1
    omega
  have rd : EachIs (fun v d => ∃ as, Reads s'.heap v d as) kA.toList (bs.map k) := ks.mono fun v d z => by
    obtain ⟨y, r, dp⟩ := z
    exact Dp.reads I d y v dp r
  obtain ⟨G, g1, g2⟩ := restrict s'.heap fun b => decide (b ≠ kS) && decide (b ≠ a)
  obtain ⟨G0, f1, f2⟩ := restrict s'.heap fun b => decide (b ≠ kS)
  have gk0 : G.get? kS = none := g2 kS (by simp)
  have ga0 : G.get? a = none := g2 a (by simp)
  have gs : ∀ b o, b ≠ kS → b ≠ a → s'.heap.get? b = some o → G.get? b = some o := fun b o h1 h2 z => (g1 b (by simp [h1, h2])).trans z
  have gb : ∀ b o, G.get? b = some o → s'.heap.get? b = some o := fun b o z => by
    have h1 : b ≠ kS := fun q => by rw [q, gk0] at z; cases z
    have h2 : b ≠ a := fun q => by rw [q, ga0] at z; cases z
    exact (g1 b (by simp [h1, h2])).symm.trans z
  have fs : ∀ b o, b ≠ kS → s'.heap.get? b = some o → G0.get? b = some o := fun b o h1 z => (f1 b (by simp [h1])).trans z
  have fb : ∀ b o, G0.get? b = some o → b ≠ kS ∧ s'.heap.get? b = some o := fun b o z => by
    have h1 : b ≠ kS := fun q => by rw [q, f2 kS (by simp)] at z; cases z
    exact ⟨h1, (f1 b (by simp [h1])).symm.trans z⟩
  have I0 : Inv X pins σ Hn { s' with heap := G0 } := rk.turn (t' := s'.toks) I nk fs
  have I1 : Inv X pins σ Hn { s' with heap := G } := ra.turn (s := { s' with heap := G0 }) (h' := G) (t' := s'.toks) I0 na fun c o hc z => gs c o (fb c o z).1 hc (fb c o z).2
  have kp : KeepsBut a G s'.heap := fun b o _ z => gb b o z
  have eo : EachIs (fun v b => RelV (V.str b) v) us bs := by
    have key : ∀ {l : List Str} {vs : List Value}, Vals (l.map V.str) vs → EachIs (fun v b => RelV (V.str b) v) vs l := fun {l} => by
      induction l with
      | nil => intro vs r; cases r; exact .nil
      | cons x l ih => intro vs r; cases r with | cons h1 h2 => exact .cons h1 (ih h2)
    exact key hv
  have ou : EachIs (fun v b => RelV (V.str b) v) (sortVals (dataKind s'.heap (bs.map k)) false kA.toList us) (bs.mergeSort (dataLe false k)) := PySem.W.keyedOut_each k ⟨s'.heap, kA.toList, hal, rfl, rd⟩ eo
  refine PySem.W.keyH_end (κ := dataKind s'.heap (bs.map k)) (h₁ := G) (vs := us) kp gk0 gk ga hka (PySem.W.SortsAt.data (s := s') rd hal hsk fun d hd => ?_) hsz (sz (by omega)) fun h' tk c k3 n3 => ?_
  · obtain ⟨b, hb, rfl⟩ := List.mem_map.mp hd
    exact hu b hb
  · have J := Inv.laidN (t' := tk) (h' := h') (o := .lst ((bs.mergeSort (dataLe false k)).map V.str)) I1 (fun b u z => k3 b u (fun q => by rw [q] at z; exact nomatch (ga0.symm.trans z)) z) ga0 na ?_
    · exact done _ Hn J sm na
    · refine ⟨?_, _, c, ?_, n3⟩
      · rw [List.length_map, List.length_mergeSort]
        exact sz (by omega)
      · have key : ∀ {l : List Str} {vs : List Value}, EachIs (fun v b => RelV (V.str b) v) vs l → Vals (l.map V.str) vs := fun {l} => by
          induction l with
          | nil => intro vs r; cases r; exact .nil
          | cons x l ih => intro vs r; cases r with | cons h1 h2 => exact .cons h1 (ih h2)
        exact key ou
theorem sorted_key_inv {l : Addr} {Q : Value → Shared → Prop} {E : Value → Shared → Prop} (I : Inv X pins σ H s) (hl : SqL X.K H l (bs.map V.str)) (hz : bs.length ≤ 1000) (hal : AllAlike (bs.map k)) (hsk : Sortable (bs.map k)) (hu : ∀ b, b ∈ bs → X.A.in1.in1.units + (k b).depth < cLine) (turn : KeyRun X pins σ H q bs k)
    (go : ∀ D s' Hn, Inv X pins σ (upd Hn D (.lst ((bs.mergeSort (dataLe false k)).map V.str))) s' → Same H Hn → Hn D = none → Q (.ref D) s') :
    wpAny (model X.prog X.w) X.A (call (.builtin "sorted") [.ref l] [(Str.ofString "key", .ref q)]) Q E s := by
  obtain ⟨us, hv, pl, _⟩ := I.list hl
  have hlen : us.length = bs.length := by rw [← hv.length, List.length_map]
  refine PySem.W.sorted_of_sort pl.isList (sz (by omega)) (ksk_s1 _ _) (fun _ => ksk_l1 _ _) fun E' => ?_
  rw [ksk_t1]
  have ho := PySem.W.copyHeap_at s.heap us
  have old : ∀ b o, s.heap.get? b = some o → b ≠ s.heap.objs.size + 1 ∧ (copyHeap s.heap us).get? b = some o := fun b o e => ⟨Nat.ne_of_lt (Nat.lt_succ_of_lt (Heap.lt_size e)), PySem.W.copyHeap_old e⟩
  have la : s.heap.objs.size + 1 < (copyHeap s.heap us).objs.size := Heap.lt_size ho
  obtain ⟨e1, ho1⟩ : ∃ e1, ((copyHeap s.heap us).update (s.heap.objs.size + 1) (Obj.mapSeq fun _ => (#[] : Array Value))).get? (s.heap.objs.size + 1) = some (seqObj "list" #[] e1) := ⟨_, get?_update_seq ho fun _ => #[]⟩
  unfold ksk_tree
  refine wpAny_bind (listItems_at ho rfl ?_)
  refine wpAny_bind (listUpdate_at ho rfl ?_ (by rw [List.size_toArray]; exact sz (by omega)) (Nat.zero_le _))
  refine wpAny_bind (seqEpoch_at ho1 rfl ?_)
  refine wpAny_bind (wpAny_newTuple ?_ (by show us.length ≤ _; exact sz (by omega)))
  refine wpAny_bind (wpAny_newList ?_ (Nat.zero_le _))
  refine wpAny_holding ?_
  generalize hg : ((copyHeap s.heap us).update (s.heap.objs.size + 1) (Obj.mapSeq fun _ => (#[] : Array Value))).push (seqObj "tuple" us.toArray 0) = g
  have keep : ∀ b o, b ≠ s.heap.objs.size + 1 → (copyHeap s.heap us).get? b = some o → (g.push (seqObj "list" #[] 0)).get? b = some o := fun b o hb e => by
    rw [← hg]
    exact Heap.get?_push_of_some _ (Heap.get?_push_of_some _ ((Heap.get?_update_other _ _ (Ne.symm hb)).trans e))
  have ga : (g.push (seqObj "list" #[] 0)).get? (s.heap.objs.size + 1) = some (seqObj "list" #[] e1) := by
    rw [← hg]
    exact Heap.get?_push_of_some _ (Heap.get?_push_of_some _ ho1)
  have lg : (copyHeap s.heap us).objs.size ≤ g.objs.size := by
    rw [← hg, size_push', Heap.size_update]
    exact Nat.le_succ _
  have I1 : Inv X pins σ H { s with heap := g.push (seqObj "list" #[] 0) } := I.kept (t' := s.toks) fun b o e => keep b o (old b o e).1 (old b o e).2
  have na : H (s.heap.objs.size + 1) = none := I.hok.fresh (Nat.le_succ _)
  have nk : H g.objs.size = none := I.hok.fresh (Nat.le_trans (Nat.le_of_lt (Nat.lt_of_succ_lt la)) lg)
  refine key_sorted (a := s.heap.objs.size + 1) (kS := g.objs.size) (rec_new I (Nat.le_succ _)) (rec_new I (Nat.le_trans (Nat.le_of_lt (Nat.lt_of_succ_lt la)) lg)) (Nat.ne_of_gt (Nat.lt_of_lt_of_le la lg)) hv (by omega) hal hsk hu turn
    ⟨H, #[], 0, I1, fun _ _ e => e, na, nk, ga, Heap.get?_push_size _ rfl, .nil⟩ fun s' Hn J sm n => ⟨rfl, go _ s' Hn J sm n⟩
end
end Bt
namespace Bt
open PySem PySem.Spec PyProof.Rows L2 LamX NdefX
open PySem.W (AllAlike Sortable dataLe)
/-! ### the rule: sorted(xs, key=lambda x: ..) -/
/-- what the sort asks and gives: xs a list of texts, the keys by k -/
def rSK (K : PySem.W.Frag) (run : Hp → Str → VK → Prop) (x : V) (H : Hp) (Q : VK) : Prop := ∃ (l : Addr) (bs : List Str) (k : Str → PyData), x = .ref l ∧ SqL K H l (bs.map V.str) ∧ bs.length ≤ 1000 ∧ AllAlike (bs.map k) ∧ Sortable (bs.map k) ∧ (∀ b ∈ bs, (k b).depth ≤ 8) ∧
  (∀ b ∈ bs, ∀ Hn, Same H Hn → run Hn b fun y H3 => Same Hn H3 ∧ Dp K H3 y (k b)) ∧
  ∀ D Hn H3, Same H Hn → Hn D = none → Same Hn H3 → H3 D = some (.lst ((bs.mergeSort (dataLe false k)).map V.str)) → Q (.ref D) H3
def tSK (K : PySem.W.Frag) (T : List NTab) (mk : Addr → LF) (N' : List Str) (js : List Nat) (tb : TE) (ta : TA) : TE := fun σ H Q => ta σ H fun xs H1 => ∃ x, xs = [x] ∧ TabsN T H1 ∧ ∀ f c' H2, LamK T H1 mk f c' H2 → rSK K (fun Hn b R => tb (startF N' [.str b] (js.map (slotAt σ))) Hn R) x H2 Q
section
variable {X : Cx} {T : List NTab} {nm : Nat → Nat → Str} {c P : Addr} {params : Arguments} {body e : Expr} {scope : Scope} {p pos lpos kpos : Pos} {tb : TE} {ta : TA} {N' fr : List Str} {x : Str} {js : List Nat} {j : Nat}
theorem pe_sortKey (TB : TabB X.base X.mg c P) (hcode : X.env.code = .ref c) (hm : (P, nm) ∈ T) (hn : nm lpos.line lpos.col = X.env.qual ++ "<lambda>") (hu : ∀ p ∈ T, p.1 = P → p.2 = nm)
    (hfree : ∀ y ∈ scope.names, y.2 = .free → X.env.scope.names.lookup y.1 = some .cell ∨ X.env.scope.names.lookup y.1 = some .free) (S : NScope N' [x] fr scope) (hfr : ∀ y ∈ fr, (y, NameKind.free) ∈ scope.names) (hjs : js.map (fun j => X.N[j]?) = fr.map some)
    (hr : Room (j + 3) X.A) (hg : Gl X "sorted") (hs : X.mg "sorted" = none) (ha : PA X (e :: []) ta)
    (hbody : ∀ (d f : Addr) (s' : Shared) (Hn : Hp), Room j (X.A.in1.in1.deeper (envF (LF.nf ⟨X.env.qual ++ "<lambda>", params, body, scope, cloFrom X.env.cells scope.names [], d⟩) f s'.heap.objs.size)) →
      PE (ncx CX0 X.prog X.w X.K X.mg X.base N' (LF.nf ⟨X.env.qual ++ "<lambda>", params, body, scope, cloFrom X.env.cells scope.names [], d⟩) f X.A.in1.in1 X.stack s' Hn E0) body tb)
    (hb : ∀ (d : Addr) (pm ctv v : Value), bindArgs (LF.fd ⟨X.env.qual ++ "<lambda>", params, body, scope, cloFrom X.env.cells scope.names [], d⟩ pm ctv) ⟨[v], []⟩ = pure [(x, v)])
    (hdef : defaultsOf params X.env = ([], []) := by rfl) (h1 : backTo pos (starEach (e :: []) X.env) = (false, eval e X.env) :: backTo pos (starEach [] X.env) := by rfl) (h2 : (backTo pos (starEach (e :: []) X.env)).any (·.1) = false := by rfl)
    (h3 : (backToKw pos (keywordEach [⟨some "key", .Lambda params body scope lpos, kpos⟩] X.env)).all (·.1.isSome) = true := by rfl) (h4 : (backToKw pos (keywordEach [⟨some "key", .Lambda params body scope lpos, kpos⟩] X.env)).any (·.1.isNone) = false := by rfl)
    (h5 : (backToKw pos (keywordEach [⟨some "key", .Lambda params body scope lpos, kpos⟩] X.env)).filterMap (·.1) = [Str.ofString "key"] := by rfl) :
    PE X (.Call (.Name "sorted" p) [e] [⟨some "key", .Lambda params body scope lpos, kpos⟩] pos) (tSK X.K T (fun d => ⟨X.env.qual ++ "<lambda>", params, body, scope, cloFrom X.env.cells scope.names [], d⟩) N' js tb ta) := by
  have lam := pe_lambda (T := T) (params := params) (body := body) (pos := lpos) TB hcode hm hn hu hfree hdef
  refine ⟨fun pins s σ H Q I h => ?_⟩
  refine wpAny_Call_Name_kw (ld_blt I hg hs (by decide +kernel : bootBuiltins "sorted" = some (.builtin "sorted")) ?_ (by decide) (by decide))
  refine PyProof.Rows.callWith_kw (thn (ha.run pos pins s σ H _ I h) fun us s1 z1 => ?_) h1 h2 h3 h4
  obtain ⟨vs, H1, I1, r1, y, ey, tab, go⟩ := z1
  refine thn ((pk_cons lam pk_nil).run pos pins s1 σ H1 (fun zs H2 => ∃ f c', zs = [.ref f] ∧ LamK T H1 _ f c' H2) I1 ⟨tab, fun f c' H2 L => s_nil ⟨f, c', rfl, L⟩⟩) fun ws s2 z2 => ?_
  obtain ⟨zs, H2, I2, r2, f, c', ez, L⟩ := z2
  subst ey ez
  rw [h5]
  obtain ⟨l, bs, k, rfl, hl, hz, hal, hsk, hd, runs, fin⟩ := go f c' H2 L
  cases r1 with
  | @cons _ u _ ur ra rr =>
    cases rr
    cases r2 with
    | @cons _ w _ wr rf rw' =>
      cases rw'
      obtain rfl : u = Value.ref l := ra
      obtain rfl : w = Value.ref f := rf
      have ri : Room (j + 1) X.A.in1.in1 := (Room.in1 (k := j + 2) hr).in1
      refine sorted_key_inv I2 hl hz hal hsk (fun b hb => ?_) (fun b u hb' ru s' Hn J sm => ?_) fun D s' Hn J sm n => ⟨.ref D, _, J, rfl, fin D Hn _ sm n (Same.new n) upd_same⟩
      · have := hd b hb
        have := ri.units
        omega
      · have e0 := J.env0
        have e1 : Env0 X.prog X.w X.K X.mg X.base X.A.in1.in1 X.stack s' Hn := ⟨e0.1, e0.mod, e0.bs, e0.bsz, e0.funs, e0.frf, e0.hok, e0.bare⟩
        have Lf := L.2.2.2.2.1
        have Lc := L.2.2.2.2.2
        exact lam_run (us := [u]) (vs := [.str b]) S (fun pm ctv xs hx => by
          match xs, hx with
          | [v], _ => exact hb c' pm ctv v) rfl ri e1 (sm _ _ Lf) (sm _ _ Lc) (cells_of J (Caps.made J.ok hfree hfr hjs)) (.cons ru .nil) (hbody c' f s' Hn (ri.deeper _)) (runs b hb' Hn sm)
end
end Bt
namespace Bt
open PySem PySem.Spec PyProof.Rows L2 LamX NdefX
open PySem.W (AllAlike Sortable dataLe dataLt alike)
/-! ### heaps that grow but for the tables of code objects -/
theorem ext_lst {H H' : Hp} {a : Addr} {xs : List V} (S : ExtN H H') (h : H a = some (.lst xs)) : H' a = some (.lst xs) := S _ _ h fun _ z => nomatch z
theorem ext_tup {H H' : Hp} {a : Addr} {xs : List V} (S : ExtN H H') (h : H a = some (.tup xs)) : H' a = some (.tup xs) := S _ _ h fun _ z => nomatch z
theorem ext_ins {H H' : Hp} {a C dx : Addr} {fs : List (Str × V)} (S : ExtN H H') (h : H a = some (.ins C dx fs)) : H' a = some (.ins C dx fs) := S _ _ h fun _ z => nomatch z
theorem ext_xd {H H' : Hp} {a : Addr} {fs : List (Str × V)} (S : ExtN H H') (h : H a = some (.xd fs)) : H' a = some (.xd fs) := S _ _ h fun _ z => nomatch z
theorem ext_same {H H' : Hp} (S : Same H H') : ExtN H H' := ExtN.of S
theorem SqT_monoN {K : PySem.W.Frag} {H H' : Hp} {a : Addr} {xs : List V} (e : ExtN H H') (h : SqT K H a xs) : SqT K H' a xs := by
  rcases h with (h | ⟨o, h⟩) | h
  · exact .inl (.inl (ext_tup e h))
  · exact .inl (.inr ⟨o, e _ _ h fun _ z => nomatch z⟩)
  · exact .inr h
theorem SqL_monoN {K : PySem.W.Frag} {H H' : Hp} {a : Addr} {xs : List V} (e : ExtN H H') (h : SqL K H a xs) : SqL K H' a xs := by
  rcases h with (h | ⟨o, h⟩) | h
  · exact .inl (.inl (ext_lst e h))
  · exact .inl (.inr ⟨o, e _ _ h fun _ z => nomatch z⟩)
  · exact .inr h
mutual
theorem Dp.monoN {K : PySem.W.Frag} {H H' : Hp} (S : ExtN H H') : ∀ {v : V} {d : PyData}, Dp K H v d → Dp K H' v d
  | _, _, .non => .non
  | _, _, .bl b => .bl b
  | _, _, .int i => .int i
  | _, _, .str x => .str x
  | _, _, .lst h r => .lst (SqL_monoN S h) (DpAll.monoN S r)
  | _, _, .tup h r => .tup (SqT_monoN S h) (DpAll.monoN S r)
theorem DpAll.monoN {K : PySem.W.Frag} {H H' : Hp} (S : ExtN H H') : ∀ {vs : List V} {ds : List PyData}, DpAll K H vs ds → DpAll K H' vs ds
  | _, _, .nil => .nil
  | _, _, .cons h r => .cons (Dp.monoN S h) (DpAll.monoN S r)
end
theorem TyX.monoN {K : PySem.W.Frag} {H H' : Hp} {x : V} {t : Value} (S : ExtN H H') (h : TyX K H x t) : TyX K H' x t := by
  cases h with
  | base b =>
    cases b with
    | non => exact .base .non
    | bl z => exact .base (.bl z)
    | int z => exact .base (.int z)
    | str z => exact .base (.str z)
    | flt z => exact .base (.flt z)
    | lst e => exact .base (.lst (ext_lst S e))
    | frz e => exact .base (.frz (S _ _ e fun _ z => nomatch z))
    | tup e => exact .base (.tup (ext_tup S e))
    | dK e => exact .base (.dK (S _ _ e fun _ z => nomatch z))
    | dT e => exact .base (.dT (S _ _ e fun _ z => nomatch z))
    | ins e cl ha hn htk hm => exact .base (.ins (ext_ins S e) cl ha hn htk hm)
  | byt b => exact .byt b
  | set e => exact .set (S _ _ e fun _ z => nomatch z)
  | kList e c => exact .kList e c
  | kTuple e c => exact .kTuple e c
  | kDict e c => exact .kDict e c
  | fTuple e => exact .fTuple (S _ _ e fun _ z => nomatch z)
  | fDict e => exact .fDict (S _ _ e fun _ z => nomatch z)
theorem Pl.monoN {K : PySem.W.Frag} {H H' : Hp} {x : V} {T : String} (S : ExtN H H') (h : Pl K H x T) : Pl K H' x T := ⟨TyX.monoN S h.1, h.2⟩
/-- a list's object is written: the tables stay -/
theorem TabsN.but {T : List NTab} {H H' : Hp} {p : Addr} {xs : List V} (t : TabsN T H) (hp : H p = some (.lst xs)) (B : But p H H') : TabsN T H' := by
  rintro ⟨P, nm⟩ hm
  obtain ⟨ps, h1, h2, h3⟩ := t _ hm
  have ne : ∀ {b : Addr} {o : HO}, H b = some o → o ≠ .lst xs → b ≠ p := fun e n z => by
    rw [z, hp] at e
    exact n (Option.some.inj e).symm
  refine ⟨ps, B _ _ (ne h1 fun z => nomatch z) h1, h2, fun pos cv hc => ?_⟩
  obtain ⟨c, e1, e2⟩ := h3 pos cv hc
  exact ⟨c, e1, B _ _ (ne e2 fun z => by
    have z' : HO.ext _ = HO.lst xs := z
    cases z') e2⟩
/-! ### a def whose code object is known -/
structure FunC (K : PySem.W.Frag) (x qual : Str) (st : Stmt) (f : Addr) (fd : FuncData) (c : Addr) : Prop where
  ex : ∃ (oc : Value) (od : Option Addr) (kV doc pm : Value) (an : Option Addr) (ct : Value) (osl : Array (Option Value)),
    fd = PySem.W.fnOf x qual (defArgs st) (defBody st) (defScope st) .none kV doc pm an (.ref c) ct ∧ K.lookup f = some ⟨oc, od, .func fd, osl⟩ ∧ PySem.W.codeIn K (.ref c) qual = true
  kp : PySem.W.keepIn K (.ref f) = true
section
variable {P : Program} {w : World} {K : PySem.W.Frag} {mg : Str → Option Value} {base : Heap} {x qual : Str} {st : Stmt} {f c : Addr} {fd : FuncData} {N ps : List Str} {k : Nat} {sp : Sp}
theorem FunC.fn (F : FunC K x qual st f fd c) : Fun K x qual st f fd := by
  obtain ⟨oc, od, kV, doc, pm, an, ct, osl, rfl, lk, hc⟩ := F.ex
  exact ⟨⟨oc, od, kV, doc, pm, an, .ref c, ct, osl, rfl, lk, hc⟩, F.kp⟩
theorem FunC.ok (F : FunC K x qual st f fd c) (S : FnScope N ps (defScope st)) (len : ∀ vs H Q E, sp vs H Q E → vs.length = ps.length)
    (hbody : ∀ (A : Around) (outer : List Env) (s : Shared) (H : Hp) (vs : List V) (Q : VK) (E : XK), Room k (A.deeper (envOfC qual (defScope st) s.heap.objs.size f (.ref c))) → sp vs H Q E →
      ∃ t, PSs (cxOf CX0 P w K mg base N qual (defScope st) f (.ref c) A outer s H E).nox (defBody st) t ∧ t { nx := fun _ H' => Q .non H', rt := Q } (start N vs) H) : FnOk P w K mg base CX0 (k + 1) f fd ps sp := by
  obtain ⟨oc, od, kV, doc, pm, an, ct, osl, rfl, lk, hc⟩ := F.ex
  refine fn_of lk hc S len fun A outer s H vs Q E hr hs => ?_
  obtain ⟨t, h, q⟩ := hbody A outer s H vs Q E hr hs
  exact ⟨t, h.nox, q⟩
theorem FunC.okX (F : FunC K x qual st f fd c) (S : FnScope N ps (defScope st)) (len : ∀ vs H Q E, sp vs H Q E → vs.length = ps.length)
    (hbody : ∀ (A : Around) (outer : List Env) (s : Shared) (H : Hp) (vs : List V) (Q : VK) (E : XK), Room k (A.deeper (envOfC qual (defScope st) s.heap.objs.size f (.ref c))) → sp vs H Q E →
      ∃ t, PSs (cxOf (L2.CX P w) P w K mg base N qual (defScope st) f (.ref c) A outer s H E) (defBody st) t ∧ t { nx := fun _ H' => Q .non H', rt := Q } (start N vs) H) : FnOk P w K mg base (L2.CX P w) (k + 1) f fd ps sp := by
  obtain ⟨oc, od, kV, doc, pm, an, ct, osl, rfl, lk, hc⟩ := F.ex
  exact fn_of lk hc S len hbody
end
/-! ### keys of two kinds that sort alike -/
def kTup (g : Str → Int) (r : Str → List Int) (z : Str) : PyData := .tuple [.int (g z), .tuple ((r z).map .int)]
def kLst (g : Str → Int) (r : Str → List Int) (z : Str) : PyData := .tuple [.int (g z), .list ((r z).map .int)]
section
variable {g : Str → Int} {r : Str → List Int} {bs : List Str}
theorem alike_tup (xs ys : List Int) : alike (.tuple (xs.map .int)) (.tuple (ys.map .int)) = true := by simp [alike, PySem.W.alike_ints]
theorem alike_lst (xs ys : List Int) : alike (.list (xs.map .int)) (.list (ys.map .int)) = true := by simp [alike, PySem.W.alike_ints]
theorem kTup_alike : AllAlike (bs.map (kTup g r)) := AllAlike.of fun b b' => by
  show alike (.tuple [.int (g b), .tuple ((r b).map .int)]) (.tuple [.int (g b'), .tuple ((r b').map .int)]) = true
  rw [alike, PySem.W.alikeAll, PySem.W.alikeAll, alike_tup]
  simp [alike, PySem.W.alikeAll]
theorem kLst_alike : AllAlike (bs.map (kLst g r)) := AllAlike.of fun b b' => by
  show alike (.tuple [.int (g b), .list ((r b).map .int)]) (.tuple [.int (g b'), .list ((r b').map .int)]) = true
  rw [alike, PySem.W.alikeAll, PySem.W.alikeAll, alike_lst]
  simp [alike, PySem.W.alikeAll]
theorem kTup_sort : Sortable (bs.map (kTup g r)) := Sortable.tuples fun b => ⟨_, _, rfl⟩
theorem kLst_sort : Sortable (bs.map (kLst g r)) := Sortable.tuples fun b => ⟨_, _, rfl⟩
theorem kTup_depth (z : Str) : (kTup g r z).depth ≤ 8 := by
  show PyData.depth (.tuple [.int (g z), .tuple ((r z).map .int)]) ≤ 8
  simp only [PyData.depth, PyData.depthAll, PySem.W.depth_ints]
  decide
theorem kLst_depth (z : Str) : (kLst g r z).depth ≤ 8 := by
  show PyData.depth (.tuple [.int (g z), .list ((r z).map .int)]) ≤ 8
  simp only [PyData.depth, PyData.depthAll, PySem.W.depth_ints]
  decide
theorem key_lt (z z' : Str) : dataLt (kTup g r z) (kTup g r z') = dataLt (kLst g r z) (kLst g r z') := by
  unfold kTup kLst
  rw [PySem.W.dataLt_pair (by simp [alike]) (alike_tup _ _), PySem.W.dataLt_pair (by simp [alike]) (alike_lst _ _)]
  have e1 : PyData.eqv (.tuple ((r z).map .int)) (.tuple ((r z').map .int)) = PyData.eqv (.list ((r z).map .int)) (.list ((r z').map .int)) := by simp [PyData.eqv]
  have e2 : dataLt (.tuple ((r z).map .int)) (.tuple ((r z').map .int)) = dataLt (.list ((r z).map .int)) (.list ((r z').map .int)) := by rw [PySem.W.dataLt_tuple, PySem.W.dataLt_list]
  rw [e1, e2]
theorem key_le : dataLe false (kTup g r) = dataLe false (kLst g r) := by
  rw [PySem.W.dataLe_eq, PySem.W.dataLe_eq]
  funext a b
  show (!dataLt (kTup g r b) (kTup g r a)) = (!dataLt (kLst g r b) (kLst g r a))
  rw [key_lt]
end
end Bt
namespace Bt
open PySem PySem.Spec PyProof.Rows L2
/-! ### o.m(e, ..), m may raise: what is raised is wished for at the caller's slots -/
section
variable {X : Cx} {CX : CXT} {k : Nat} {C g : Addr} {fd : FuncData} {ps : List Str} {sp : Sp} {E : L2.St → XK} {pos apos : Pos} {o e : Expr} {es : List Expr} {to : TE} {t : TA} {m : Str}
def tMethE (C : Addr) (m : Str) (sp : Sp) (E : L2.St → XK) (to : TE) (t : TA) : TE := fun σ H Q => to σ H fun y H1 => ∃ a dx fs, y = V.ref a ∧ H1 a = some (.ins C dx fs) ∧ fs.lookup m = none ∧ t σ H1 fun vs H2 => sp (V.ref a :: vs) H2 Q (E σ)
theorem pe_methE {pl : Sem Bool} (ho : PE X o to) (c : Cls X.K C) (hm : Meth X.K C m g) (F : FnOk X.prog X.w X.K X.mg X.base CX k g fd ps sp) (hr : Room k X.A) (hb : Binds X.K fd ps []) (hx : ∀ σ, PassesAt CX X σ (E σ)) (ha : PA X (e :: es) t)
    (ht : eval (.Call (.Attribute o m apos) (e :: es) [] pos) X.env = (do
      let y ← eval o X.env
      standAt apos.atName
      let (f, first) ← holding [y] (getMethod y m pl)
      callWith pos f first (backTo pos (starEach (e :: es) X.env)) (backToKw pos (keywordEach [] X.env))) := by rfl)
    (hst : starEach (e :: es) X.env = (false, eval e X.env) :: starEach es X.env := by rfl) (hpl : (backTo pos (starEach es X.env)).any (·.1) = false := by rfl) :
    PE X (.Call (.Attribute o m apos) (e :: es) [] pos) (tMethE C m sp E to t) := by
  refine ⟨fun pins s σ H Q I h => ?_⟩
  refine PySem.W.methodCall_KW (pl := pl) (thn (ho.run pins s σ H _ I h) fun u s1 z => ?_) ht
  obtain ⟨y, H1, I1, ry, a, dx, fs, ey, ea, l, q⟩ := z
  subst ey
  obtain rfl : u = Value.ref a := ry
  refine getmeth_ok I1 ea c hm l (PySem.W.callWith_K (first := [.ref a]) (h₀ := X.base) I.ok.mod.kin hm.kp (thn (ha.run pos pins s1 σ H1 _ I1 q) fun us s2 z2 => ?_) hst hpl)
  obtain ⟨vs, H2, I2, r, q2⟩ := z2
  refine ⟨I2.kIn, ?_⟩
  exact run_fnSD (us := .ref a :: us) (vs := .ref a :: vs) (dvs := []) F hr hb .nil (hx σ) I2 (.cons rfl r) (by rw [List.append_nil]; exact q2)
theorem s_methE {σ : L2.St} {H : Hp} {Q : VK} (h : to σ H fun y H1 => ∃ a dx fs, y = V.ref a ∧ H1 a = some (.ins C dx fs) ∧ fs.lookup m = none ∧ t σ H1 fun vs H2 => sp (V.ref a :: vs) H2 Q (E σ)) : tMethE C m sp E to t σ H Q := h
end
end Bt
namespace Bt
open PySem PySem.Spec PyProof.Rows L2 LamX NdefX
open PySem.W (dataLe)
theorem words14_ : True := by
  k_with "s" => first
    | ((with_reducible refine' s_var ?hv ?_); (case hv => exact rfl))
    | with_reducible first
      | refine' s_c ?_ | refine' s_op ?_ | refine' s_asg ?_ | refine' s_gname ?_ | refine' s_seq ?_ | refine' s_next ?_ | refine' s_ret ?_ | refine' s_ifS ?_ | refine' s_drop ?_ | refine' s_retN ?_
      | refine' s_test ?_ | refine' s_B ?_ | refine' q_test ?_ | refine' s_int ?_ | refine' s_cons ?_ | refine' s_nil ?_ | refine' s_call ?_ | refine' s_CB ?_ | refine' s_andT ?_ | refine' s_orT ?_ | refine' s_notT ?_
      | refine' s_andV ?_ | refine' s_orV ?_ | refine' s_notV ?_ | refine' s_ifV ?_ | refine' s_chain ?_ | refine' s_sl ?_ | refine' s_noPart ?_ | refine' s_part ?_ | refine' s_gsub ?_ | refine' s_BM ?_ | refine' s_tup ?_ | refine' s_lst ?_
      | refine' q_add ?_ | refine' q_sub ?_ | refine' q_lt ?_ | refine' q_le ?_ | refine' q_gt ?_ | refine' q_ge ?_ | refine' s_ifT ?_ | refine' s_ifF ?_ | refine' s_yes ?_ | refine' s_prop ?_ | refine' s_iList ?_ | refine' s_callOS ?_ | refine' s_iStr ?_ | refine' s_M0 ?_ | refine' s_make ?_ | refine' s_makeS ?_ | refine' s_prop ?_ | refine' s_raise1 ?_ | refine' s_for ?_ | refine' s_rng1 ?_ | refine' s_par ?_ | refine' s_gcons ?_ | refine' s_gnil ?_ | refine' s_iList ?_ | refine' s_iEnum ?_
      | (refine' q_mod ?hm ?_; (case hm => first | omega | decide)) | (refine' q_fdiv ?hm ?hn ?_; (case hm => first | omega | decide); (case hn => first | omega | decide))
      | (refine' q_mulR ?hm ?_; (case hm => first | omega | decide)) | (refine' q_mulL ?hm ?_; (case hm => first | omega | decide))
    | dsimp only
  k_with "r" => repeat (k_extra "s")
  trivial
/-! ### the sorted names -/
abbrev qL : Str := "_law_ordered.<locals>.<lambda>"
abbrev qF : Str := "Form.ordered.<locals>.<lambda>"
structure Tb (base : Heap) (mg : Str → Option Value) (T : List NTab) (cL PL cF PF : Addr) : Prop where
  bL : TabB base mg cL PL
  bF : TabB base mg cF PF
  eT : T = [(PL, fun _ _ => qL), (PF, fun _ _ => qF)]
  ne : PL ≠ PF
theorem Tb.mL {base : Heap} {mg : Str → Option Value} {T : List NTab} {cL PL cF PF : Addr} (B : Tb base mg T cL PL cF PF) : (PL, fun _ _ => qL) ∈ T := by rw [B.eT]; exact List.mem_cons_self
theorem Tb.mF {base : Heap} {mg : Str → Option Value} {T : List NTab} {cL PL cF PF : Addr} (B : Tb base mg T cL PL cF PF) : (PF, fun _ _ => qF) ∈ T := by rw [B.eT]; exact List.mem_cons_of_mem _ List.mem_cons_self
theorem Tb.uL {base : Heap} {mg : Str → Option Value} {T : List NTab} {cL PL cF PF : Addr} (B : Tb base mg T cL PL cF PF) : ∀ p ∈ T, p.1 = PL → p.2 = fun _ _ => qL := fun p hp e => by
  rw [B.eT] at hp
  rcases List.mem_cons.mp hp with rfl | hp
  · rfl
  · rw [List.mem_singleton.mp hp] at e
    exact absurd e.symm B.ne
theorem Tb.uF {base : Heap} {mg : Str → Option Value} {T : List NTab} {cL PL cF PF : Addr} (B : Tb base mg T cL PL cF PF) : ∀ p ∈ T, p.1 = PF → p.2 = fun _ _ => qF := fun p hp e => by
  rw [B.eT] at hp
  rcases List.mem_cons.mp hp with rfl | hp
  · exact absurd e B.ne
  · rw [List.mem_singleton.mp hp]
abbrev gK (l : Str) (c : Int) (z : Str) : Int := (rks l z).sum % c
def srt (l : Str) (c : Int) (bs : List Str) : List Str := bs.mergeSort (dataLe false (kLst (gK l c) (rks l)))
structure TxtY (K : PySem.W.Frag) (mg : Str → Option Value) (cL cF C : Addr) : Prop where
  n_sorted' : True
  d__law_ordered : ∃ (f : Addr) (fd : FuncData), FunC K "_law_ordered" "_law_ordered" s__law_ordered f fd cL ∧ mg "_law_ordered" = some (.ref f) ∧ Binds K fd ["_law_form_here", "_law_names_here"] []
section
variable {P : Program} {w : World} {K : PySem.W.Frag} {mg : Str → Option Value} {base : Heap} {T : List NTab} {cL PL cF PF C : Addr}
def spLOrd (K : PySem.W.Frag) (T : List NTab) : Sp := fun vs H Q _ => ∃ a p l c bs, vs = [.ref a, .ref p] ∧ H a = some (.tup [.str l, .int c]) ∧ Letters l ∧ 1 ≤ c ∧ SqL K H p (bs.map V.str) ∧ bs.length ≤ 1000 ∧ (∀ b ∈ bs, Nm b) ∧ TabsN T H ∧
  ∀ D H', H D = none → ExtN H H' → TabsN T H' → H' D = some (.lst ((srt l c bs).map V.str)) → Q (.ref D) H'
theorem ok__law_ordered (X0 : Txt K mg) (L : TxtL K mg) (TK : TxtK K mg) (Y : TxtY K mg cL cF C) (B : Tb base mg T cL PL cF PF) : Cal P w K mg base 5 "_law_ordered" (spLOrd K T) := by
  obtain ⟨f, fd, F, g, b⟩ := Y.d__law_ordered
  refine ⟨f, fd, _, F.ok (k := 4) sc__law_ordered (fun vs H Q E h => ?_) (fun A outer s H vs Q E hr h => ?_), g, F.kp, b⟩
  · obtain ⟨a, p, l, c, bs, rfl, _⟩ := h
    rfl
  · obtain ⟨a, p, l, c, bs, rfl, ha, ll, c1, hp, hz, hn, ht, k⟩ := h
    refine ⟨_, (pss_one (ps_ret (pe_sortKey (j := 1) (T := T) (N' := ["_law_name_here", "_law_form_here"]) (fr := ["_law_form_here"]) (js := [0]) B.bL rfl B.mL rfl B.uL (ndef_free (sc := defScope s__law_ordered) (fr := ["_law_form_here"]) (by decide +kernel)) (nscope_by (by decide +kernel)) (ndef_fr (sc := defScope s__law_ordered) (by decide +kernel)) rfl hr rfl X0.n_sorted (pa_cons (pv 1) pa_nil)
      (fun d f s' Hn hr2 => by exact pe_c (ok__law_key L TK) hr2 (by decide) rfl (pa_cons (pv 1) (pa_cons (pv 0) pa_nil))) (fun _ _ _ _ => rfl)))), ?_⟩
    k_extra "r"
    refine ⟨.ref p, rfl, .ref p, rfl, ht, fun f1 c' H2 lk => ?_⟩
    obtain ⟨x2, b2, t2, n2, f2, c2⟩ := lk
    refine ⟨p, bs, kLst (gK l c) (rks l), rfl, SqL_monoN x2 hp, hz, kLst_alike, kLst_sort, fun z _ => kLst_depth z, fun z hb Hn S3 => ?_, fun D Hn H3 S3 nD S4 h4 => ?_⟩
    · k_extra "r"
      refine ⟨a, z, l, c, rfl, S3 _ _ (ext_tup x2 ha), ll, c1, hn z hb, fun t r H4 nt S4 h1 h2 => ⟨S4, ?_⟩⟩
      exact .tup (SqT.of h2) (.cons (.int _) (.cons (dp_lst_ints h1) .nil))
    · exact k D H3 (b2 _ (same_none S3 nD)) (x2.trans (ext_same (S3.trans S4))) (t2.ext fun _ _ e => (S3.trans S4) _ _ e) h4
/-- the names in a list, where all are names -/
theorem all_names : ∀ {xs : List V}, xs.all nmB = true → ∃ bs : List Str, xs = bs.map V.str ∧ ∀ b ∈ bs, Nm b
  | [], _ => ⟨[], rfl, fun _ h => absurd h List.not_mem_nil⟩
  | x :: xs, h => by
    rw [List.all_cons, Bool.and_eq_true] at h
    obtain ⟨bs, e, hb⟩ := all_names h.2
    have hx : NmV x := by
      refine Classical.byContradiction fun n => ?_
      rw [nmB_f n] at h
      exact nomatch h.1
    obtain ⟨z, ez, nz⟩ := hx
    subst ez e
    exact ⟨z :: bs, rfl, fun b m => by
      rcases List.mem_cons.mp m with rfl | m
      · exact nz
      · exact hb b m⟩
def spFOrd (K : PySem.W.Frag) (C CI : Addr) (T : List NTab) : Sp := fun vs H Q E => ∃ a x l c Ty, vs = [.ref a, x] ∧ FormAt C H a l c ∧ Letters l ∧ 1 ≤ c ∧ TabsN T H ∧ Pl K H x Ty ∧
  (Ty = "list" → ∃ p xs, x = .ref p ∧ H p = some (.lst xs) ∧ xs.length ≤ 100 ∧ (∀ y ∈ xs, NameArg K H y) ∧
    ∀ bs : List Str, xs = bs.map V.str → (∀ b ∈ bs, Nm b) → ∀ D H', H D = none → ExtN H H' → TabsN T H' → H' D = some (.lst ((srt l c bs).map V.str)) → Q (.ref D) H') ∧
  ((Ty = "list" → ∃ p xs, x = .ref p ∧ H p = some (.lst xs) ∧ xs.all nmB = false) → ∀ H' d, Same H H' → H d = none → H' d = some (.xd [("value", x)]) → E (.ref CI) (some d) H')
theorem ok_form_ordered {CI f : Addr} {fd : FuncData} (X0 : Txt K mg) (L : TxtL K mg) (N : TxtN K mg) (TK : TxtK K mg) (TS : TxtS K mg) (FC : FormC K mg C) (XI : ExcF K mg "InvalidList" "value" CI) (B : Tb base mg T cL PL cF PF)
    (F : FunC K "ordered" "Form.ordered" s_Form_ordered f fd cF) : FnOk P w K mg base (L2.CX P w) 7 f fd ["self", "names"] (spFOrd K C CI T) := by
  refine F.okX sc_Form_ordered (fun vs H Q E h => ?_) (fun A outer s H vs Q E hr h => ?_)
  · obtain ⟨a, x, l, c, Ty, rfl, _⟩ := h
    rfl
  · obtain ⟨a, x, l, c, Ty, rfl, ha, ll, c1, ht, hx, kY, kN⟩ := h
    refine ⟨_, (pss_cons (ps_if (pt_not (pt_val (pe_c (ok_is_name_list X0 N TS) hr (by decide) rfl (pa_cons (pv 1) pa_nil)))) (pss_one (ps_raise1 rfl XI hr (by decide) (takes_of rfl rfl rfl rfl) (pv 1))) pss_nil)
      (pss_one (ps_ret (pe_sortKey (j := 3) (T := T) (N' := ["name", "self"]) (fr := ["self"]) (js := [0]) B.bF rfl B.mF rfl B.uF (ndef_free (sc := defScope s_Form_ordered) (fr := ["self"]) (by decide +kernel)) (nscope_by (by decide +kernel)) (ndef_fr (sc := defScope s_Form_ordered) (by decide +kernel)) rfl hr rfl X0.n_sorted (pa_cons (pv 1) pa_nil)
      (fun d f s' Hn hr2 => by exact pe_c (ok_key_in X0 L FC TK) hr2 (by decide) rfl (pa_cons (pv 1) (pa_cons (pv 0) pa_nil))) (fun _ _ _ _ => rfl))))), ?_⟩
    k_extra "r"
    refine ⟨x, Ty, rfl, hx, ?_⟩
    by_cases e : Ty = "list"
    · obtain ⟨p, xs, rfl, hp, hz, hn, kY⟩ := kY e
      refine .inr ⟨e, p, xs, rfl, hp, hz, hn, fun H1 S1 => ?_⟩
      k_extra "r"
      cases hb : xs.all nmB with
      | false =>
        refine s_if1 rfl ?_
        refine s_raise1 ?_
        k_extra "r"
        exact fun d H3 nd S3 hd => kN (fun _ => ⟨p, xs, rfl, hp, hb⟩) H3 d (S1.trans S3) (S1.free nd) hd
      | true =>
        obtain ⟨bs, rfl, nb⟩ := all_names hb
        refine s_if0 rfl ?_
        k_extra "r"
        refine ⟨.ref p, rfl, .ref p, rfl, ht.ext fun _ _ e => S1 _ _ e, fun f1 c' H2 lk => ?_⟩
        obtain ⟨x2, b2, t2, n2, f2, c2⟩ := lk
        have x02 : ExtN H H2 := (ext_same S1).trans x2
        refine ⟨p, bs, kTup (gK l c) (rks l), rfl, SqL.of (ext_lst x02 hp), by rw [List.length_map] at hz; omega, kTup_alike, kTup_sort, fun z _ => kTup_depth z, fun z hb Hn S3 => ?_, fun D Hn H3 S3 nD S4 h4 => ?_⟩
        · k_extra "r"
          obtain ⟨dx, ea⟩ := ha
          refine ⟨a, z, l, c, rfl, ⟨dx, S3 _ _ (ext_ins x02 ea)⟩, ll, c1, nb z hb, fun t r H4 nt S4 h1 h2 => ⟨S4, ?_⟩⟩
          exact .tup (SqT.of h2) (.cons (.int _) (.cons (.tup (SqT.of h1) (dp_ints _)) .nil))
        · refine kY bs rfl nb D H3 (S1.free (b2 _ (same_none S3 nD))) (x02.trans (ext_same (S3.trans S4))) (t2.ext fun _ _ e => (S3.trans S4) _ _ e) ?_
          rw [h4, key_le]
          rfl
    · refine .inl ⟨e, ?_⟩
      k_extra "r"
      refine s_if1 rfl ?_
      refine s_raise1 ?_
      k_extra "r"
      exact fun d H3 nd S3 hd => kN (fun z => absurd z e) H3 d S3 nd hd
end
end Bt
namespace Bt
open PySem PySem.Spec PyProof.Rows L2 LamX NdefX
theorem words15_ : True := by
  k_with "s" => first
    | ((with_reducible refine' s_var ?hv ?_); (case hv => exact rfl))
    | with_reducible first
      | refine' s_c ?_ | refine' s_op ?_ | refine' s_asg ?_ | refine' s_gname ?_ | refine' s_seq ?_ | refine' s_next ?_ | refine' s_ret ?_ | refine' s_ifS ?_ | refine' s_drop ?_ | refine' s_retN ?_
      | refine' s_test ?_ | refine' s_B ?_ | refine' q_test ?_ | refine' s_int ?_ | refine' s_cons ?_ | refine' s_nil ?_ | refine' s_call ?_ | refine' s_CB ?_ | refine' s_andT ?_ | refine' s_orT ?_ | refine' s_notT ?_
      | refine' s_andV ?_ | refine' s_orV ?_ | refine' s_notV ?_ | refine' s_ifV ?_ | refine' s_chain ?_ | refine' s_sl ?_ | refine' s_noPart ?_ | refine' s_part ?_ | refine' s_gsub ?_ | refine' s_BM ?_ | refine' s_tup ?_ | refine' s_lst ?_
      | refine' q_add ?_ | refine' q_sub ?_ | refine' q_lt ?_ | refine' q_le ?_ | refine' q_gt ?_ | refine' q_ge ?_ | refine' s_ifT ?_ | refine' s_ifF ?_ | refine' s_yes ?_ | refine' s_prop ?_ | refine' s_iList ?_ | refine' s_callOS ?_ | refine' s_iStr ?_ | refine' s_M0 ?_ | refine' s_make ?_ | refine' s_makeS ?_ | refine' s_prop ?_ | refine' s_raise1 ?_ | refine' s_for ?_ | refine' s_rng1 ?_ | refine' s_par ?_ | refine' s_gcons ?_ | refine' s_gnil ?_ | refine' s_iList ?_ | refine' s_iEnum ?_
      | (refine' q_mod ?hm ?_; (case hm => first | omega | decide)) | (refine' q_fdiv ?hm ?hn ?_; (case hm => first | omega | decide); (case hn => first | omega | decide))
      | (refine' q_mulR ?hm ?_; (case hm => first | omega | decide)) | (refine' q_mulL ?hm ?_; (case hm => first | omega | decide))
    | dsimp only
  k_with "r" => repeat (k_extra "s")
  trivial
/-! ### form.ordered(names), asked by the law -/
structure FormO (K : PySem.W.Frag) (C cF : Addr) : Prop where
  ord : ∃ (f : Addr) (fd : FuncData), Meth K C "ordered" f ∧ FunC K "ordered" "Form.ordered" s_Form_ordered f fd cF ∧ Binds K fd ["self", "names"] []
structure TxtZ (K : PySem.W.Frag) (mg : Str → Option Value) : Prop where
  d__law_no_list : Df K mg "_law_no_list" s__law_no_list ["_law_form_here", "_law_value"]
section
variable {X : Cx} {k : Nat} {T : List NTab} {C CI cL PL cF PF : Addr} {o e : Expr} {to te : TE} {pos apos : Pos}
theorem pe_ord (X0 : Txt X.K X.mg) (L : TxtL X.K X.mg) (N : TxtN X.K X.mg) (TK : TxtK X.K X.mg) (TS : TxtS X.K X.mg) (FC : FormC X.K X.mg C) (XI : ExcF X.K X.mg "InvalidList" "value" CI) (B : Tb X.base X.mg T cL PL cF PF) (FO : FormO X.K C cF) (hr : Room k X.A) (hk : 7 ≤ k) (ho : PE X o to) (ha : PE X e te)
    {pl : Sem Bool} (ht : eval (.Call (.Attribute o "ordered" apos) [e] [] pos) X.env = (do
      let ov ← eval o X.env
      standAt apos.atName
      let (f, first) ← holding [ov] (getMethod ov "ordered" pl)
      callWith pos f first (backTo pos (starEach [e] X.env)) (backToKw pos (keywordEach [] X.env))) := by rfl)
    (he : starEach [e] X.env = (false, eval e X.env) :: starEach [] X.env := by rfl) (hpl : (backTo pos (starEach [] X.env)).any (·.1) = false := by rfl) :
    PE X (.Call (.Attribute o "ordered" apos) [e] [] pos) (tMethE C "ordered" (spFOrd X.K C CI T) (fun _ => E0) to (tCons te tNil)) := by
  obtain ⟨f, fd, m, F, b⟩ := FO.ord
  exact pe_methE (pl := pl) ho FC.cl m (ok_form_ordered X0 L N TK TS FC XI B F) (hr.mono hk) b (fun σ pins H s e s' I q => passL pins σ H s e s' I q) (pa_cons ha pa_nil he) ht he hpl
theorem pe_ordS {W : WX} (X0 : Txt X.K X.mg) (L : TxtL X.K X.mg) (N : TxtN X.K X.mg) (TK : TxtK X.K X.mg) (TS : TxtS X.K X.mg) (FC : FormC X.K X.mg C) (XI : ExcF X.K X.mg "InvalidList" "value" CI) (B : Tb X.base X.mg T cL PL cF PF) (FO : FormO X.K C cF) (hr : Room k X.A) (hk : 7 ≤ k) (tk : Takes X W) (ho : PE X o to) (ha : PE X e te)
    {pl : Sem Bool} (ht : eval (.Call (.Attribute o "ordered" apos) [e] [] pos) X.env = (do
      let ov ← eval o X.env
      standAt apos.atName
      let (f, first) ← holding [ov] (getMethod ov "ordered" pl)
      callWith pos f first (backTo pos (starEach [e] X.env)) (backToKw pos (keywordEach [] X.env))) := by rfl)
    (he : starEach [e] X.env = (false, eval e X.env) :: starEach [] X.env := by rfl) (hpl : (backTo pos (starEach [] X.env)).any (·.1) = false := by rfl) :
    PE X (.Call (.Attribute o "ordered" apos) [e] [] pos) (tMethE C "ordered" (spFOrd X.K C CI T) (fun σ => WE W σ) to (tCons te tNil)) := by
  obtain ⟨f, fd, m, F, b⟩ := FO.ord
  exact pe_methE (pl := pl) ho FC.cl m (ok_form_ordered X0 L N TK TS FC XI B F) (hr.mono hk) b (fun σ => passAt tk σ) (pa_cons ha pa_nil he) ht he hpl
end
section
variable {P : Program} {w : World} {K : PySem.W.Frag} {mg : Str → Option Value} {base : Heap} {T : List NTab} {C CI cL PL cF PF : Addr}
def BadL (K : PySem.W.Frag) (H : Hp) (x : V) : Prop := (∃ Ty d, Pl K H x Ty ∧ Ty ≠ "list" ∧ Dp K H x d ∧ d.canLay0 = true ∧ d.depth ≤ 12) ∨
  ∃ p xs ds, x = .ref p ∧ H p = some (.lst xs) ∧ xs.length ≤ 99 ∧ DpAll K H xs ds ∧ PyData.canLayAll0 ds = true ∧ PyData.depthAll ds ≤ 12 ∧ (∀ y ∈ xs, NameArg K H y) ∧ xs.all nmB = false
def spNoList (K : PySem.W.Frag) (C : Addr) (T : List NTab) : Sp := fun vs H Q _ => ∃ a x l c, vs = [.ref a, x] ∧ FormAt C H a l c ∧ Letters l ∧ 1 ≤ c ∧ TabsN T H ∧ BadL K H x ∧ ∀ H', Same H H' → Q (.bl true) H'
theorem dp_snoc {H : Hp} : ∀ {xs : List V} {ds : List PyData} {y : V} {d : PyData}, DpAll K H xs ds → Dp K H y d → DpAll K H (xs ++ [y]) (ds ++ [d])
  | _, _, _, _, .nil, h => .cons h .nil
  | _, _, _, _, .cons h r, h2 => .cons h (dp_snoc r h2)
theorem canLay_snoc : ∀ (ds : List PyData) (d : PyData), PyData.canLayAll0 (ds ++ [d]) = (PyData.canLayAll0 ds && PyData.canLay0 d)
  | [], d => by simp [PyData.canLayAll0]
  | x :: ds, d => by
    show PyData.canLayAll0 (x :: (ds ++ [d])) = _
    simp only [PyData.canLayAll0, canLay_snoc ds d, Bool.and_assoc]
theorem depth_snoc : ∀ (ds : List PyData) (d : PyData), PyData.depthAll (ds ++ [d]) = max (PyData.depthAll ds) (PyData.depth d)
  | [], d => by simp [PyData.depthAll]
  | x :: ds, d => by
    show PyData.depthAll (x :: (ds ++ [d])) = _
    simp only [PyData.depthAll, depth_snoc ds d, Nat.max_assoc]
theorem frm_no {l c : V} : (frm l c).lookup (Str.ofString "ordered") = none := rfl
theorem ok__law_no_list (X0 : Txt K mg) (L : TxtL K mg) (N : TxtN K mg) (TK : TxtK K mg) (TS : TxtS K mg) (FC : FormC K mg C) (XI : ExcF K mg "InvalidList" "value" CI) (B : Tb base mg T cL PL cF PF) (FO : FormO K C cF) (M : TxtZ K mg) : Cal P w K mg base 8 "_law_no_list" (spNoList K C T) := by
  refine M.d__law_no_list.cal sc__law_no_list (fun vs H Q E h => ?_) (fun f cdv A outer s H vs Q E hr h => ?_)
  · obtain ⟨a, x, l, c, rfl, _⟩ := h
    rfl
  · obtain ⟨a, x, l, c, rfl, ha, ll, c1, ht, hx, k⟩ := h
    have hu := hr.units
    refine ⟨_, (pss_cons (ps_par (i := 2) (j := 3) (by rfl) sc__law_no_list.nd rfl rfl (by decide) rfl rfl (pa_cons (pv 1) (pa_cons (pe_lst (pa_cons pe_str pa_nil)) pa_nil)) (by rfl))
      (pss_cons (ps_if (pt_val (pe_callB call_isi (by rfl) X0.n_isinstance (by decide +kernel) (pa_cons (pv 2) (pa_cons (pe_bltn (v := .ty "list") (by rfl) TS.n_list (by decide +kernel) rfl) pa_nil)))) (pss_one (ps_set (i := 2) sc__law_no_list.nd rfl (.inl rfl) (pe_callTy call_listOf (by rfl) TS.n_list (by decide +kernel) (pa_cons (pv 2) pa_nil)))) pss_nil)
      (pss_cons (ps_try_as (i := 4) (tb := fun W => tDrop (tMethE C "ordered" (spFOrd K C CI T) (fun σ => WE W σ) (tVar 0) (tCons (tVar 2) tNil))) (ts := fun a cls d => tAsg (tLst (tCons (tXf a cls d CI "value" (tVar 4)) tNil)) (gName 3)) (Wout := fun _ _ _ _ => False) rfl rfl sc__law_no_list.nd rfl rfl ⟨rfl, by decide, Or.inl XI.g⟩ L2.takes0
        (fun W pn xe tk _ => pss_one (ps_expr (by exact (pe_ordS X0 L N TK TS FC XI B FO hr (by decide) tk (pv 0) (pv 2)))))
        (fun a oe cls d pn hz hf => pss_one (ps_set (i := 3) sc__law_no_list.nd rfl (Or.inl rfl) (by exact pe_lst (pa_cons (pe_xf XI.xf XI.no hz hf (pv 4)) pa_nil)))))
      (pss_cons (ps_if (pt_cmpR (op_neU hu) (pv 3) (pe_lst (pa_cons (pv 1) pa_nil)) (by rfl)) (pss_one (ps_ret pe_bl)) pss_nil)
      (pss_cons (ps_if (pt_val (pe_callB call_isi (by rfl) X0.n_isinstance (by decide +kernel) (pa_cons (pv 2) (pa_cons (pe_bltn (v := .ty "list") (by rfl) TS.n_list (by decide +kernel) rfl) pa_nil)))) (pss_one (ps_expr (pe_bm PySem.F.plainAttrs_list PySem.F.slot_list_append PySem.F.type_list_append mt_append (pv 2) (pa_cons pe_str pa_nil)))) pss_nil)
      (pss_one (ps_ret (pe_cmpR (op_eqU hu) (pv 3) (pe_lst (pa_cons (pv 2) pa_nil)) (by rfl))))))))), ?_⟩
    k_extra "r"
    refine q_newL (by show 1 ≤ sizeLine; decide) fun l0 H1 n1 S1 h1 => ?_
    k_extra "r"
    refine ⟨_, _, rfl, ?_⟩
    k_extra "r"
    rcases hx with ⟨Ty, d, hx, ne, dx, cl, dp⟩ | ⟨p, xs, ds, rfl, hp, hz, dd, cl, dp, na, al⟩
    · refine q_isi (hx.mono S1) .lst ?_
      have e2 : subKd Ty "list" = false := by
        cases hx.2 <;> first | rfl | exact absurd rfl ne
      rw [e2]
      k_extra "r"
      obtain ⟨dx0, ea⟩ := ha
      refine ⟨.ref a, rfl, a, dx0, _, rfl, S1 _ _ ea, frm_no, ?_⟩
      k_extra "r"
      refine ⟨a, x, l, c, Ty, rfl, ⟨dx0, S1 _ _ ea⟩, ll, c1, ht.ext fun _ _ e => S1 _ _ e, hx.mono S1, fun z => absurd z ne, fun _ H2 d2 S2 nd hd => ⟨true, XI.te, fun _ a0 ha0 => ?_, fun q => Bool.noConfusion q⟩⟩
      k_extra "r"
      refine ⟨_, rfl, rfl, rfl, d2, _, x, rfl, hd, (by simp [List.lookup]), ?_⟩
      k_extra "r"
      refine q_newL (by show 1 ≤ sizeLine; decide) fun l1 H3 n3 S3 h3 => ?_
      k_extra "r"
      refine q_newL (by show 1 ≤ sizeLine; decide) fun l2 H4 n4 S4 h4 => ?_
      have S04 : Same H H4 := S1.trans (S2.trans (S3.trans S4))
      have sh : SeqAt.shaped (.list [d]) = true := by
        unfold SeqAt.shaped
        rw [Bool.and_eq_true, decide_eq_true_eq]
        simp only [PyData.canLay0, PyData.canLayAll0, PyData.depth, PyData.depthAll, cl, Bool.and_true]
        exact ⟨trivial, by omega⟩
      refine q_neD (.lst (SqL.of (S4 _ _ h3)) (.cons (Dp.mono S04 dx) .nil)) (.lst (SqL.of h4) (.cons (Dp.mono S04 dx) .nil)) sh sh ?_
      rw [SeqAt.eqv_refl _ (SeqAt.canLay_of_shaped sh)]
      refine q_test (s_if0 rfl ?_)
      k_extra "r"
      refine q_isi (hx.mono S04) .lst ?_
      rw [e2]
      k_extra "r"
      refine q_newL (by show 1 ≤ sizeLine; decide) fun l3 H5 n5 S5 h5 => ?_
      refine q_eqD (.lst (SqL.of (S5 _ _ (S4 _ _ h3))) (.cons (Dp.mono (S04.trans S5) dx) .nil)) (.lst (SqL.of h5) (.cons (Dp.mono (S04.trans S5) dx) .nil)) sh sh ?_
      rw [SeqAt.eqv_refl _ (SeqAt.canLay_of_shaped sh)]
      exact k _ (S04.trans S5)
    · refine q_isi (Pl.lst (S1 _ _ hp)) .lst ?_
      refine q_test (s_if1 rfl ?_)
      k_extra "r"
      refine q_listL (SqL.of (S1 _ _ hp)) fun g H2 n2 S2 h2 => ?_
      k_extra "r"
      obtain ⟨dx0, ea⟩ := ha
      have S02 := S1.trans S2
      refine ⟨.ref a, rfl, a, dx0, _, rfl, S02 _ _ ea, frm_no, ?_⟩
      k_extra "r"
      refine ⟨a, .ref g, l, c, "list", rfl, ⟨dx0, S02 _ _ ea⟩, ll, c1, ht.ext fun _ _ e => S02 _ _ e, Pl.lst h2, fun _ => ⟨g, xs, rfl, h2, by omega, fun y hy => (na y hy).mono S02, fun bs e nb => ?_⟩, fun _ H3 d2 S3 nd hd => ⟨true, XI.te, fun _ a0 ha0 => ?_, fun q => Bool.noConfusion q⟩⟩
      · exfalso
        have : xs.all nmB = true := by
          rw [e, List.all_eq_true]
          intro y hy
          obtain ⟨b, hb, rfl⟩ := List.mem_map.mp hy
          exact nmB_t ⟨b, rfl, nb b hb⟩
        rw [al] at this
        cases this
      k_extra "r"
      refine ⟨_, rfl, rfl, rfl, d2, _, .ref g, rfl, hd, (by simp [List.lookup]), ?_⟩
      k_extra "r"
      refine q_newL (by show 1 ≤ sizeLine; decide) fun l1 H4 n4 S4 h4 => ?_
      k_extra "r"
      refine q_newL (by show 1 ≤ sizeLine; decide) fun l2 H5 n5 S5 h5 => ?_
      have S25 : Same H2 H5 := S3.trans (S4.trans S5)
      have S05 : Same H H5 := S02.trans S25
      have sh : SeqAt.shaped (.list [.list ds]) = true := by
        unfold SeqAt.shaped
        rw [Bool.and_eq_true, decide_eq_true_eq]
        simp only [PyData.canLay0, PyData.canLayAll0, PyData.depth, PyData.depthAll, cl, Bool.and_true]
        exact ⟨trivial, by omega⟩
      have hg : H5 g = some (.lst xs) := S25 _ _ h2
      refine q_neD (.lst (SqL.of (S5 _ _ h4)) (.cons (.lst (SqL.of hg) (DpAll.mono S05 dd)) .nil)) (.lst (SqL.of h5) (.cons (.lst (SqL.of (S05 _ _ hp)) (DpAll.mono S05 dd)) .nil)) sh sh ?_
      rw [SeqAt.eqv_refl _ (SeqAt.canLay_of_shaped sh)]
      refine q_test (s_if0 rfl ?_)
      k_extra "r"
      refine q_isi (Pl.lst hg) .lst ?_
      refine q_test (s_if1 rfl ?_)
      k_extra "r"
      refine ⟨.inl ⟨rfl, _, SqL.of hg⟩, ?_⟩
      k_extra "r"
      refine q_append hg (szlt (by omega)) fun H6 b6 hg6 => ?_
      k_extra "r"
      refine q_newL (by show 1 ≤ sizeLine; decide) fun l3 H7 n7 S7 h7 => ?_
      have ng : H g = none := S1.free n2
      have S07 : Same H H7 := fun b o e => S7 _ _ (b6 _ _ (fun z => by rw [z, ng] at e; cases e) (S05 _ _ e))
      have l1g : l1 ≠ g := fun z => by rw [z] at n4; exact nomatch n4.symm.trans (S3 _ _ h2)
      have hl1 : H7 l1 = some (.lst [V.ref g]) := S7 _ _ (b6 _ _ l1g (S5 _ _ h4))
      have hg7 := S7 _ _ hg6
      have dd7 := dp_snoc (DpAll.mono S07 dd) (Dp.str (K := K) (H := H7) (Str.ofString "later"))
      have sh7 : SeqAt.shaped (.list [.list (ds ++ [.str (Str.ofString "later")])]) = true := by
        unfold SeqAt.shaped
        rw [Bool.and_eq_true, decide_eq_true_eq]
        simp only [PyData.canLay0, PyData.canLayAll0, PyData.depth, PyData.depthAll, canLay_snoc, depth_snoc, cl, Bool.and_true, Bool.true_and]
        exact ⟨by decide +kernel, by omega⟩
      refine q_eqD (.lst (SqL.of hl1) (.cons (.lst (SqL.of hg7) dd7) .nil)) (.lst (SqL.of h7) (.cons (.lst (SqL.of hg7) dd7) .nil)) sh7 sh7 ?_
      rw [SeqAt.eqv_refl _ (SeqAt.canLay_of_shaped sh7)]
      exact k _ S07
end
end Bt
namespace Bt
open PySem PySem.Spec PyProof.Rows L2
theorem words3_ : True := by
  k_with "s" => first
    | ((with_reducible refine' s_var ?hv ?_); (case hv => exact rfl))
    | with_reducible first
      | refine' s_c ?_ | refine' s_op ?_ | refine' s_asg ?_ | refine' s_gname ?_ | refine' s_seq ?_ | refine' s_next ?_ | refine' s_ret ?_ | refine' s_ifS ?_ | refine' s_drop ?_ | refine' s_retN ?_
      | refine' s_test ?_ | refine' s_B ?_ | refine' q_test ?_ | refine' s_int ?_ | refine' s_cons ?_ | refine' s_nil ?_ | refine' s_call ?_ | refine' s_CB ?_ | refine' s_andT ?_ | refine' s_orT ?_ | refine' s_notT ?_
      | refine' s_andV ?_ | refine' s_orV ?_ | refine' s_notV ?_ | refine' s_ifV ?_ | refine' s_chain ?_ | refine' s_sl ?_ | refine' s_noPart ?_ | refine' s_part ?_ | refine' s_gsub ?_ | refine' s_BM ?_ | refine' s_tup ?_ | refine' s_lst ?_
      | refine' q_add ?_ | refine' q_sub ?_ | refine' q_lt ?_ | refine' q_le ?_ | refine' q_gt ?_ | refine' q_ge ?_ | refine' s_ifT ?_ | refine' s_ifF ?_
      | (refine' q_mod ?hm ?_; (case hm => first | omega | decide)) | (refine' q_fdiv ?hm ?hn ?_; (case hm => first | omega | decide); (case hn => first | omega | decide))
      | (refine' q_mulR ?hm ?_; (case hm => first | omega | decide)) | (refine' q_mulL ?hm ?_; (case hm => first | omega | decide))
    | dsimp only
  k_with "r" => repeat (k_extra "s")
  trivial
/-! ### Form(..) -/
section
variable {X : Cx} {C CI : Addr} {k : Nat} {p pos : Pos} {e e2 : Expr} {ta tb : TE}
theorem pe_form2S {W : WX} (T : Txt X.K X.mg) (FC : FormC X.K X.mg C) (XI : ExcF X.K X.mg "InvalidForm" "value" CI) (hr : Room k X.A) (hk : 5 ≤ k) (tk : Takes X W) (h1 : PE X e ta) (h2 : PE X e2 tb) (hg : Gl X "Form" := by rfl)
    (s1 : starEach (e :: [e2]) X.env = (false, eval e X.env) :: starEach [e2] X.env := by rfl) (s2 : starEach (e2 :: []) X.env = (false, eval e2 X.env) :: starEach [] X.env := by rfl) (s3 : (backTo pos (starEach [e2] X.env)).any (·.1) = false := by rfl) :
    PE X (.Call (.Name "Form" p) [e, e2] [] pos) (tMakeS C (spFormInit X.K C CI) [] (fun σ => WE W σ) (tCons ta (tCons tb tNil))) := by
  obtain ⟨f, fd, d1, d2, i1, i2, F, b, _, _, _, _⟩ := FC.init
  exact pe_makeS ⟨FC.makes, i1, i2, FC.kp⟩ (ok_form_init T FC XI F) (hr.mono hk) hg FC.g b .nil (fun σ => passAt tk σ) (pa_cons h1 (pa_cons h2 pa_nil s2) s1) (by decide) s1 s3
theorem pe_form2 (T : Txt X.K X.mg) (FC : FormC X.K X.mg C) (XI : ExcF X.K X.mg "InvalidForm" "value" CI) (hr : Room k X.A) (hk : 5 ≤ k) (h1 : PE X e ta) (h2 : PE X e2 tb) (hg : Gl X "Form" := by rfl)
    (s1 : starEach (e :: [e2]) X.env = (false, eval e X.env) :: starEach [e2] X.env := by rfl) (s2 : starEach (e2 :: []) X.env = (false, eval e2 X.env) :: starEach [] X.env := by rfl) (s3 : (backTo pos (starEach [e2] X.env)).any (·.1) = false := by rfl) :
    PE X (.Call (.Name "Form" p) [e, e2] [] pos) (tMake C (spFormInit X.K C CI) [] E0 (tCons ta (tCons tb tNil))) := by
  obtain ⟨f, fd, d1, d2, i1, i2, F, b, _, _, _, _⟩ := FC.init
  exact pe_make ⟨FC.makes, i1, i2, FC.kp⟩ (ok_form_init T FC XI F) (hr.mono hk) hg FC.g b .nil passL (pa_cons h1 (pa_cons h2 pa_nil s2) s1) (by decide) s1 s3
theorem pe_form1 (T : Txt X.K X.mg) (FC : FormC X.K X.mg C) (XI : ExcF X.K X.mg "InvalidForm" "value" CI) (hr : Room k X.A) (hk : 5 ≤ k) (h1 : PE X e ta) (hg : Gl X "Form" := by rfl)
    (s1 : starEach (e :: []) X.env = (false, eval e X.env) :: starEach [] X.env := by rfl) (s3 : (backTo pos (starEach [] X.env)).any (·.1) = false := by rfl) :
    PE X (.Call (.Name "Form" p) [e] [] pos) (tMake C (spFormInit X.K C CI) [.int 1] E0 (tCons ta tNil)) := by
  obtain ⟨f, fd, d1, d2, i1, i2, F, _, v1, b1, _, _⟩ := FC.init
  exact pe_make ⟨FC.makes, i1, i2, FC.kp⟩ (ok_form_init T FC XI F) (hr.mono hk) hg FC.g b1 v1 passL (pa_cons h1 pa_nil s1) (by decide) s1 s3
theorem pe_form0 (T : Txt X.K X.mg) (FC : FormC X.K X.mg C) (XI : ExcF X.K X.mg "InvalidForm" "value" CI) (hr : Room k X.A) (hk : 5 ≤ k) (hg : Gl X "Form" := by rfl) :
    PE X (.Call (.Name "Form" p) [] [] pos) (tMake C (spFormInit X.K C CI) [.str alphaS, .int 1] E0 tNil) := by
  obtain ⟨f, fd, d1, d2, i1, i2, F, _, _, _, v2, b2⟩ := FC.init
  exact pe_make0 ⟨FC.makes, i1, i2, FC.kp⟩ (ok_form_init T FC XI F) (hr.mono hk) hg FC.g b2 v2 passL
end
theorem s_make {C : Addr} {sp : Sp} {dvs : List V} {E : XK} {t : TA} {σ : L2.St} {H : Hp} {Q : VK} (h : t σ H fun vs H1 => ∀ x dx, H1 x = none → H1 dx = none → dx ≠ x → sp (.ref x :: (vs ++ dvs)) (upd (upd H1 dx (.own x)) x (.ins C dx [])) (fun v H2 => v = .non ∧ Q (.ref x) H2) E) : tMake C sp dvs E t σ H Q := h
theorem s_makeS {C : Addr} {sp : Sp} {dvs : List V} {E : L2.St → XK} {t : TA} {σ : L2.St} {H : Hp} {Q : VK} (h : t σ H fun vs H1 => ∀ x dx, H1 x = none → H1 dx = none → dx ≠ x → sp (.ref x :: (vs ++ dvs)) (upd (upd H1 dx (.own x)) x (.ins C dx [])) (fun v H2 => v = .non ∧ Q (.ref x) H2) (E σ)) : tMakeS C sp dvs E t σ H Q := h
theorem same_made {H : Hp} {x dx C : Addr} (nx : H x = none) (nd : H dx = none) : Same H (upd (upd H dx (.own x)) x (.ins C dx [])) := fun b o e => by
  rw [upd_ne (ne_of_none e nx), upd_ne (ne_of_none e nd)]; exact e
theorem q_form {K : PySem.W.Frag} {C CI : Addr} {H : Hp} {Q : Addr → Hp → Prop} {E : XK} {z : Str} {c : Int} (lz : Letters z) (c0 : 1 ≤ c) (c1 : c ≤ 1000) (q : ∀ a H', H a = none → Same H H' → FormAt C H' a z c → Q a H') :
    ∀ x dx, H x = none → H dx = none → dx ≠ x → spFormInit K C CI [.ref x, .str z, .int c] (upd (upd H dx (.own x)) x (.ins C dx [])) (fun v H2 => v = .non ∧ Q x H2) E := fun x dx nx nd ne =>
  ⟨x, dx, .str z, .int c, _, _, rfl, upd_same, Pl.str, Pl.int, fun z' e => by cases e; exact ⟨by rw [lz.len]; decide, lz.asc⟩, fun _ H' hx b => ⟨rfl, q x H' nx (fun a o e => b a o (ne_of_none e nx) (same_made nx nd _ _ e)) ⟨dx, hx⟩⟩,
    fun nv => absurd ⟨⟨z, rfl, lz⟩, c, rfl, c0, c1⟩ nv⟩
theorem q_formX {K : PySem.W.Frag} {C CI : Addr} {H : Hp} {Q : Addr → Hp → Prop} {E : XK} {l c : V} {T1 T2 : String} (hl : Pl K H l T1) (hc : Pl K H c T2) (hz : ∀ z, l = .str z → z.length < 64 ∧ Asc z) (nv : ¬ Valid l c)
    (q : ∀ H' t d, Same H H' → H t = none → H d = none → H' d = some (.xd [("value", .ref t)]) → H' t = some (.tup [l, c]) → E (.ref CI) (some d) H') :
    ∀ x dx, H x = none → H dx = none → dx ≠ x → spFormInit K C CI [.ref x, l, c] (upd (upd H dx (.own x)) x (.ins C dx [])) (fun v H2 => v = .non ∧ Q x H2) E := fun x dx nx nd ne =>
  ⟨x, dx, l, c, T1, T2, rfl, upd_same, hl.mono (same_made nx nd), hc.mono (same_made nx nd), hz, fun v => absurd v nv, fun _ H' t d S nt ndd hd ht => q H' t d (fun b o e => S _ _ (same_made nx nd _ _ e)) ((same_made nx nd).free nt) ((same_made nx nd).free ndd) hd ht⟩
end Bt
namespace Bt
open PySem PySem.Spec PyProof.Rows L2
open PySem.W (dataLt alike)
/-! ### a < b of data that are alike -/
def rLtD (K : PySem.W.Frag) : R2 := fun x y H Q => ∃ d e, Dp K H x d ∧ Dp K H y e ∧ alike d e = true ∧ d ≠ .none ∧ d.depth ≤ 60 ∧ Q (.bl (dataLt d e)) H
theorem op_ltD {X : Cx} (hu : X.A.units + 64 < cLine) : OpR X (compareOp .Lt) (rLtD X.K) := by
  intro pins s σ H x y v u Q I rx ry h
  obtain ⟨d, e, dx, dy, al, nn, dp, q⟩ := h
  obtain ⟨as, r1⟩ := Dp.reads I d x v dx rx
  obtain ⟨bs, r2⟩ := Dp.reads I e y u dy ry
  show wpAny (model X.prog X.w) X.A (richCompare .Lt v u) (EP X pins σ Q) X.xe s
  exact PySem.W.rcLt_alike d e X.A s v u as bs r1 r2 al nn (by omega) X.prog X.w _ _ ⟨.bl _, H, I, rfl, q⟩
theorem q_ltD {K : PySem.W.Frag} {x y : V} {H : Hp} {Q : VK} {d e : PyData} (dx : Dp K H x d) (dy : Dp K H y e) (al : alike d e = true) (nn : d ≠ .none) (dp : d.depth ≤ 60) (q : Q (.bl (dataLt d e)) H) : rLtD K x y H Q := ⟨d, e, dx, dy, al, nn, dp, q⟩
end Bt
namespace Bt
open PySem PySem.Spec PyProof.Rows L2 LamX NdefX
open PySem.W (dataLe dataLt alike)
theorem words16_ : True := by
  k_with "s" => first
    | ((with_reducible refine' s_var ?hv ?_); (case hv => exact rfl))
    | with_reducible first
      | refine' s_c ?_ | refine' s_op ?_ | refine' s_asg ?_ | refine' s_gname ?_ | refine' s_seq ?_ | refine' s_next ?_ | refine' s_ret ?_ | refine' s_ifS ?_ | refine' s_drop ?_ | refine' s_retN ?_
      | refine' s_test ?_ | refine' s_B ?_ | refine' q_test ?_ | refine' s_int ?_ | refine' s_cons ?_ | refine' s_nil ?_ | refine' s_call ?_ | refine' s_CB ?_ | refine' s_andT ?_ | refine' s_orT ?_ | refine' s_notT ?_
      | refine' s_andV ?_ | refine' s_orV ?_ | refine' s_notV ?_ | refine' s_ifV ?_ | refine' s_chain ?_ | refine' s_sl ?_ | refine' s_noPart ?_ | refine' s_part ?_ | refine' s_gsub ?_ | refine' s_BM ?_ | refine' s_tup ?_ | refine' s_lst ?_
      | refine' q_add ?_ | refine' q_sub ?_ | refine' q_lt ?_ | refine' q_le ?_ | refine' q_gt ?_ | refine' q_ge ?_ | refine' s_ifT ?_ | refine' s_ifF ?_ | refine' s_yes ?_ | refine' s_prop ?_ | refine' s_iList ?_ | refine' s_callOS ?_ | refine' s_iStr ?_ | refine' s_M0 ?_ | refine' s_make ?_ | refine' s_makeS ?_ | refine' s_prop ?_ | refine' s_raise1 ?_ | refine' s_for ?_ | refine' s_rng1 ?_ | refine' s_par ?_ | refine' s_gcons ?_ | refine' s_gnil ?_ | refine' s_iList ?_ | refine' s_iEnum ?_
      | (refine' q_mod ?hm ?_; (case hm => first | omega | decide)) | (refine' q_fdiv ?hm ?hn ?_; (case hm => first | omega | decide); (case hn => first | omega | decide))
      | (refine' q_mulR ?hm ?_; (case hm => first | omega | decide)) | (refine' q_mulL ?hm ?_; (case hm => first | omega | decide))
    | dsimp only
  k_with "r" => repeat (k_extra "s")
  trivial
/-! ### the law -/
structure TxtA (K : PySem.W.Frag) (mg : Str → Option Value) : Prop where
  n_bool : mg "bool" = none
def rRevL (K : PySem.W.Frag) (Q : VK) (x : V) (H : Hp) : Prop := ∃ a xs, x = .ref a ∧ SqL K H a xs ∧ ∀ p, H p = none → Q (.ref p) (upd H p (.lst xs.reverse))
theorem s_revL {K : PySem.W.Frag} {te : TE} {σ : L2.St} {H : Hp} {Q : VK} (h : te σ H fun x H1 => rRevL K Q x H1) : tRevL K te σ H Q := h
theorem q_revL {K : PySem.W.Frag} {H : Hp} {Q : VK} {a : Addr} {xs : List V} (h : SqL K H a xs) (q : ∀ p H', H p = none → Same H H' → H' p = some (.lst xs.reverse) → Q (.ref p) H') : rRevL K Q (.ref a) H := ⟨a, xs, rfl, h, fun p n => q p _ n (Same.new n) upd_same⟩
theorem q_rep {l : Addr} {k : Int} {xs : List V} {H : Hp} {Q : VK} (h : H l = some (.lst xs)) (h1 : 0 ≤ k) (h2 : k < 1000) (hz : xs.length * k.toNat ≤ 1000) (q : ∀ p H', H p = none → Same H H' → H' p = some (.lst (List.replicate k.toNat xs).flatten) → Q (.ref p) H') : rMulU (.ref l) (.int k) H Q :=
  .inr (.inr ⟨l, k, xs, rfl, rfl, h, by omega, by omega, sz (by omega), fun p n => q p _ n (Same.new n) upd_same⟩)
theorem s_mono {te : TE} {σ : L2.St} {H : Hp} {Q : VK} (R : VK) (h : te σ H R) (k : ∀ v H1, R v H1 → Q v H1) : tMono te σ H Q := ⟨R, h, k⟩
theorem SqL_but {K : PySem.W.Frag} {H H' : Hp} {a p : Addr} {xs : List V} (n : a ≠ p) (B : But p H H') (h : SqL K H a xs) : SqL K H' a xs := by
  rcases h with (h | ⟨o, h⟩) | h
  · exact .inl (.inl (B _ _ n h))
  · exact .inl (.inr ⟨o, B _ _ n h⟩)
  · exact .inr h
def Sc1 (K : PySem.W.Frag) (H : Hp) (p a : Addr) (xs : List V) : Prop := (a ≠ p ∧ SqL K H a xs) ∨ ∀ H', SqL K H' a xs
theorem Sc1.of {K : PySem.W.Frag} {H H' : Hp} {p a : Addr} {xs : List V} (h : SqL K H a xs) (n : H p = none) (S : Same H H') : Sc1 K H' p a xs := by
  rcases h with (h | ⟨o, h⟩) | h
  · exact .inl ⟨ne_of_none h n, .inl (.inl (S _ _ h))⟩
  · exact .inl ⟨ne_of_none h n, .inl (.inr ⟨o, S _ _ h⟩)⟩
  · exact .inr fun _ => .inr h
theorem Sc1.sq {K : PySem.W.Frag} {H : Hp} {p a : Addr} {xs : List V} (h : Sc1 K H p a xs) : SqL K H a xs := h.elim (fun z => z.2) fun z => z H
theorem Sc1.ext {K : PySem.W.Frag} {H H' : Hp} {p a : Addr} {xs : List V} (S : ExtN H H') (h : Sc1 K H p a xs) : Sc1 K H' p a xs := h.imp (fun z => ⟨z.1, SqL_monoN S z.2⟩) id
theorem Sc1.but {K : PySem.W.Frag} {H H' : Hp} {p a : Addr} {xs : List V} (B : But p H H') (h : Sc1 K H p a xs) : Sc1 K H' p a xs := h.imp (fun z => ⟨z.1, SqL_but z.1 B z.2⟩) id
theorem nil_ne {K : PySem.W.Frag} {H H' : Hp} {Q : VK} {D l0 : Addr} (S : Same H H') (h : H D = some (.lst [])) (h0 : H' l0 = some (.lst [])) (q : Q (.bl false) H') : rNeU K (.ref D) (.ref l0) H' Q := by
  refine q_neD (dp_lst_ints (ns := []) (S _ _ h)) (dp_lst_ints (ns := []) h0) (shaped_ints []) (shaped_ints []) ?_
  rw [SeqAt.eqv_refl _ (SeqAt.canLay_of_shaped (shaped_ints []))]
  exact q
theorem same_ne {K : PySem.W.Frag} {H : Hp} {Q : VK} {a b : Addr} {zs : List Str} (nz : ∀ z ∈ zs, Nm z) (h : H a = some (.lst (zs.map V.str))) (h0 : H b = some (.lst (zs.map V.str))) (q : Q (.bl false) H) : rNeU K (.ref a) (.ref b) H Q := by
  have sh : SeqAt.shaped (.list (zs.map PyData.str)) = true := shaped_strs fun y hy => (nz y hy).asc
  refine q_neD (dp_lst_strs h) (dp_lst_strs h0) sh sh ?_
  rw [SeqAt.eqv_refl _ (SeqAt.canLay_of_shaped sh)]
  exact q
theorem srt_mem {l : Str} {c : Int} {bs : List Str} {z : Str} : z ∈ srt l c bs ↔ z ∈ bs := (List.mergeSort_perm bs _).mem_iff
theorem nameArg_str {K : PySem.W.Frag} {H : Hp} {z : Str} (h : Nm z) : NameArg K H (.str z) := ⟨_, Pl.str, fun y e => by cases e; have := h.2.1; omega⟩
theorem map_str_inj {xs ys : List Str} (h : xs.map V.str = ys.map V.str) : xs = ys := by
  induction xs generalizing ys with
  | nil => cases ys with | nil => rfl | cons y ys => cases h
  | cons x xs ih => cases ys with
    | nil => cases h
    | cons y ys =>
      rw [List.map_cons, List.map_cons, List.cons.injEq] at h
      rw [ih h.2, V.str.inj h.1]
/-- form.ordered of a list of names -/
theorem sp_ordered {K : PySem.W.Frag} {C CI : Addr} {T : List NTab} {H : Hp} {Q : VK} {E : XK} {f h : Addr} {l : Str} {c : Int} {zs : List Str} (fo : FormAt C H f l c) (ll : Letters l) (c1 : 1 ≤ c) (tb : TabsN T H) (hh : H h = some (.lst (zs.map V.str))) (nz : ∀ z ∈ zs, Nm z) (le : zs.length ≤ 20)
    (q : ∀ D H', H D = none → ExtN H H' → TabsN T H' → H' D = some (.lst ((srt l c zs).map V.str)) → Q (.ref D) H') : spFOrd K C CI T [.ref f, .ref h] H Q E := by
  refine ⟨f, .ref h, l, c, "list", rfl, fo, ll, c1, tb, Pl.lst hh, fun _ => ⟨h, zs.map V.str, rfl, hh, by rw [List.length_map]; omega, fun y hy => ?_, fun bs e nb D H' nD x t hD => ?_⟩, fun bad => ?_⟩
  · obtain ⟨z, hz, rfl⟩ := List.mem_map.mp hy
    exact nameArg_str (nz z hz)
  · have e2 := map_str_inj e
    subst e2
    exact q D H' nD x t hD
  · exfalso
    obtain ⟨p, xs, e, hp, al⟩ := bad rfl
    cases e
    rw [hh] at hp
    cases hp
    have : (zs.map V.str).all nmB = true := by
      rw [List.all_eq_true]
      intro y hy
      obtain ⟨b, hb, rfl⟩ := List.mem_map.mp hy
      exact nmB_t ⟨b, rfl, nz b hb⟩
    rw [al] at this
    cases this
theorem ext_but {H H1 H2 : Hp} {p : Addr} (x : ExtN H H1) (n : H p = none) (B : But p H1 H2) : ExtN H H2 := fun b o e m => B _ _ (ne_of_none e n) (x _ _ e m)
theorem sp_lordered {K : PySem.W.Frag} {T : List NTab} {H : Hp} {Q : VK} {E : XK} {q n : Addr} {l : Str} {c : Int} {zs : List Str} (hq : H q = some (.tup [.str l, .int c])) (ll : Letters l) (c1 : 1 ≤ c) (tb : TabsN T H) (hn : H n = some (.lst (zs.map V.str))) (nz : ∀ z ∈ zs, Nm z) (le : zs.length ≤ 20)
    (k : ∀ D H', H D = none → ExtN H H' → TabsN T H' → H' D = some (.lst ((srt l c zs).map V.str)) → Q (.ref D) H') : spLOrd K T [.ref q, .ref n] H Q E := ⟨q, n, l, c, zs, rfl, hq, ll, c1, SqL.of hn, by omega, nz, tb, k⟩
theorem dp_kTup {K : PySem.W.Frag} {H : Hp} {t r : Addr} {l : Str} {c : Int} {z : Str} (h1 : H r = some (.tup ((rks l z).map V.int))) (h2 : H t = some (.tup [.int ((rks l z).sum % c), .ref r])) : Dp K H (.ref t) (kTup (gK l c) (rks l) z) :=
  .tup (SqT.of h2) (.cons (.int _) (.cons (.tup (SqT.of h1) (dp_ints _)) .nil))
theorem dp_kLst {K : PySem.W.Frag} {H : Hp} {t r : Addr} {l : Str} {c : Int} {z : Str} (h1 : H r = some (.lst ((rks l z).map V.int))) (h2 : H t = some (.tup [.int ((rks l z).sum % c), .ref r])) : Dp K H (.ref t) (kLst (gK l c) (rks l) z) :=
  .tup (SqT.of h2) (.cons (.int _) (.cons (dp_lst_ints h1) .nil))
theorem kTup_al {g : Str → Int} {r : Str → List Int} (x y : Str) : alike (kTup g r x) (kTup g r y) = true := kTup_alike (g := g) (r := r) (bs := [x, y]) _ (by simp) _ (by simp)
theorem kLst_al {g : Str → Int} {r : Str → List Int} (x y : Str) : alike (kLst g r x) (kLst g r y) = true := kLst_alike (g := g) (r := r) (bs := [x, y]) _ (by simp) _ (by simp)
theorem badN_noName {K : PySem.W.Frag} {C : Addr} {H : Hp} {Q : VK} {E : XK} {f : Addr} {x : V} {l : Str} {c : Int} (fo : FormAt C H f l c) (ll : Letters l) (c1 : 1 ≤ c) (b : BadN K H x) (q : ∀ H', Same H H' → Q (.bl true) H') : spNoName K C [.ref f, x] H Q E := by
  obtain ⟨Ty, d, hx, dx, cl, dp, h64, nn⟩ := b
  refine ⟨f, x, d, l, c, rfl, fo, ll, c1, ⟨Ty, hx, h64⟩, nn, dx, ?_, q⟩
  unfold SeqAt.shaped
  rw [Bool.and_eq_true, decide_eq_true_eq]
  simp only [PyData.canLay0, PyData.canLayAll0, PyData.depth, PyData.depthAll, cl, Bool.and_true]
  exact ⟨trivial, by omega⟩
theorem cut_names (zs : List Str) (lo hi : Option Int) : ∃ ys : List Str, cutV (zs.map V.str) lo hi = ys.map V.str ∧ (∀ y ∈ ys, y ∈ zs) ∧ ys.length ≤ zs.length := by
  refine ⟨(zs.drop (HT.sIx (zs.map V.str).length 0 lo)).take (HT.sIx (zs.map V.str).length (zs.map V.str).length hi - HT.sIx (zs.map V.str).length 0 lo), ?_, fun y hy => List.mem_of_mem_drop (List.mem_of_mem_take hy), ?_⟩
  · unfold cutV
    rw [← List.map_drop, ← List.map_take]
  · rw [List.length_take, List.length_drop]
    omega
theorem q_slN {K : PySem.W.Frag} {H : Hp} {Q : VK} {a : Addr} {zs : List Str} {lo hi : Option Int} (h : H a = some (.lst (zs.map V.str))) (q : ∀ (p : Addr) H' (ys : List Str), H p = none → Same H H' → H' p = some (.lst (ys.map V.str)) → (∀ y ∈ ys, y ∈ zs) → ys.length ≤ zs.length → Q (.ref p) H') : rSlL K (.ref a) lo hi H Q := by
  obtain ⟨ys, e, h1, h2⟩ := cut_names zs lo hi
  refine ⟨a, zs.map V.str, rfl, SqL.of h, fun p n => ?_⟩
  rw [e]
  exact q p _ ys n (Same.new n) upd_same h1 h2
theorem dp_app {K : PySem.W.Frag} {H : Hp} : ∀ {xs ys : List V} {ds es : List PyData}, DpAll K H xs ds → DpAll K H ys es → DpAll K H (xs ++ ys) (ds ++ es)
  | _, _, _, _, .nil, h => h
  | _, _, _, _, .cons h r, h2 => .cons h (dp_app r h2)
theorem canLay_app : ∀ (ds es : List PyData), PyData.canLayAll0 (ds ++ es) = (PyData.canLayAll0 ds && PyData.canLayAll0 es)
  | [], es => by simp [PyData.canLayAll0]
  | x :: ds, es => by
    show PyData.canLayAll0 (x :: (ds ++ es)) = _
    simp only [PyData.canLayAll0, canLay_app ds es, Bool.and_assoc]
theorem depth_app : ∀ (ds es : List PyData), PyData.depthAll (ds ++ es) = max (PyData.depthAll ds) (PyData.depthAll es)
  | [], es => by simp [PyData.depthAll]
  | x :: ds, es => by
    show PyData.depthAll (x :: (ds ++ es)) = _
    simp only [PyData.depthAll, depth_app ds es, Nat.max_assoc]
theorem badL_of {K : PySem.W.Frag} {H : Hp} {p : Addr} {y1 y2 : List Str} {x : V} (h : H p = some (.lst (y1.map V.str ++ [x] ++ y2.map V.str))) (n1 : ∀ y ∈ y1, Nm y) (n2 : ∀ y ∈ y2, Nm y) (l1 : y1.length ≤ 20) (l2 : y2.length ≤ 20) (b : BadN K H x) : BadL K H (.ref p) := by
  obtain ⟨Ty, d, hx, dx, cl, dp, h64, nn⟩ := b
  refine .inr ⟨p, _, y1.map PyData.str ++ [d] ++ y2.map PyData.str, rfl, h, ?_, dp_app (dp_app (dp_strs y1) (.cons dx .nil)) (dp_strs y2), ?_, ?_, fun y hy => ?_, ?_⟩
  · simp only [List.length_append, List.length_map, List.length_singleton]
    omega
  · rw [canLay_app, canLay_app, canLay_strs y1 fun y hy => (n1 y hy).asc, canLay_strs y2 fun y hy => (n2 y hy).asc]
    simp only [PyData.canLayAll0, cl, Bool.and_true]
  · rw [depth_app, depth_app, depth_strs, depth_strs]
    simp only [PyData.depthAll]
    omega
  · rcases List.mem_append.mp hy with hy | hy
    · rcases List.mem_append.mp hy with hy | hy
      · obtain ⟨z, hz, rfl⟩ := List.mem_map.mp hy
        exact nameArg_str (n1 z hz)
      · rw [List.mem_singleton.mp hy]
        exact ⟨Ty, hx, h64⟩
    · obtain ⟨z, hz, rfl⟩ := List.mem_map.mp hy
      exact nameArg_str (n2 z hz)
  · rw [List.all_append, List.all_append, List.all_cons, nmB_f nn]
    simp
structure St3 (K : PySem.W.Frag) (C : Addr) (T : List NTab) (H : Hp) (a : Addr) (ns : List Int) (p f q n : Addr) (l : Str) (c : Int) (zs : List Str) : Prop where
  sc : Sc1 K H p a (ns.map V.int)
  np : n ≠ p
  tb : TabsN T H
  pu : Purse H p
  fo : FormAt C H f l c
  sp : H q = some (.tup [.str l, .int c])
  nm : H n = some (.lst (zs.map V.str))
  ok : ∀ z ∈ zs, Nm z
  ne : zs ≠ []
  le : zs.length ≤ 20
section
variable {K : PySem.W.Frag} {C : Addr} {T : List NTab} {H H' : Hp} {a p f q n : Addr} {ns : List Int} {l : Str} {c : Int} {zs : List Str}
theorem Purse.ext (S : ExtN H H') (h : Purse H p) : Purse H' p := let ⟨x, y, z, e, h⟩ := h; ⟨x, y, z, ext_lst S e, h⟩
theorem FormAt.ext (S : ExtN H H') (h : FormAt C H f l c) : FormAt C H' f l c := let ⟨dx, e⟩ := h; ⟨dx, ext_ins S e⟩
theorem Purse.lst (h : Purse H p) : ∃ xs, H p = some (.lst xs) := let ⟨_, _, _, e, _⟩ := h; ⟨_, e⟩
theorem tabs_butP {p : Addr} (t : TabsN T H) (h : Purse H p) (B : But p H H') : TabsN T H' := let ⟨_, e⟩ := h.lst; Bt.TabsN.but t e B
theorem St3.ext (S : ExtN H H') (t : TabsN T H') (s : St3 K C T H a ns p f q n l c zs) : St3 K C T H' a ns p f q n l c zs :=
  ⟨s.sc.ext S, s.np, t, s.pu.ext S, s.fo.ext S, ext_tup S s.sp, ext_lst S s.nm, s.ok, s.ne, s.le⟩
theorem St3.same (S : Same H H') (s : St3 K C T H a ns p f q n l c zs) : St3 K C T H' a ns p f q n l c zs := s.ext (ext_same S) (s.tb.ext fun _ _ e => S _ _ e)
theorem St3.but (B : But p H H') (pu : Purse H' p) (s : St3 K C T H a ns p f q n l c zs) : St3 K C T H' a ns p f q n l c zs :=
  ⟨s.sc.but B, s.np, tabs_butP s.tb s.pu B, pu, let ⟨dx, e⟩ := s.fo; ⟨dx, B _ _ (fun z => by obtain ⟨xs, h⟩ := s.pu.lst; rw [z, h] at e; cases e) e⟩, B _ _ (fun z => by obtain ⟨xs, h⟩ := s.pu.lst; have e := s.sp; rw [z, h] at e; cases e) s.sp, B _ _ s.np s.nm, s.ok, s.ne, s.le⟩
end
section
variable {P : Program} {w : World} {K : PySem.W.Frag} {mg : Str → Option Value} {base : Heap} {T : List NTab} {C CI CN CF cL PL cF PF : Addr}
def spLaw (K : PySem.W.Frag) (T : List NTab) : Sp := fun vs H Q _ => ∃ (a : Addr) (ns : List Int), vs = [.ref a] ∧ SqL K H a (ns.map V.int) ∧ ns.length ≤ 63 ∧ TabsN T H ∧ ∀ H', Q (.bl true) H'
theorem ok_law {f : Addr} {fd : FuncData} (X0 : Txt K mg) (L : TxtL K mg) (N : TxtN K mg) (TK : TxtK K mg) (TS : TxtS K mg) (M : TxtV K mg) (W0 : TxtW K mg) (Y : TxtY K mg cL cF C) (Z : TxtZ K mg) (A0 : TxtA K mg) (FC : FormC K mg C) (FX : FormX K C) (FO : FormO K C cF)
    (XF : ExcF K mg "InvalidForm" "value" CF) (XN : ExcF K mg "InvalidName" "value" CN) (XI : ExcF K mg "InvalidList" "value" CI) (B : Tb base mg T cL PL cF PF) (F : Fun K "law" "law" s_law f fd) : FnOk P w K mg base CX0 9 f fd ["_law_script"] (spLaw K T) := by
  refine F.ok sc_law (fun vs H Q E h => ?_) (fun cdv A outer s H vs Q E hr h => ?_)
  · obtain ⟨a, ns, rfl, _⟩ := h
    rfl
  · obtain ⟨a, ns, rfl, hs, h63, ht, k⟩ := h
    have hu := hr.units
    refine ⟨_, (pss_cons (ps_for PassesOwn.never rfl (pi_range1 rfl L.n_range (pa_cons pe_int pa_nil)) (pg_name (i := 1) sc_law.nd rfl (.inl rfl))
        (pss_cons (ps_set (i := 2) sc_law.nd rfl (.inl rfl) (pe_c (ok__law_purse X0 L) hr (by decide) rfl (pa_cons (pv 0) (pa_cons (pv 1) pa_nil))))
          (pss_cons (ps_set (i := 3) sc_law.nd rfl (.inr rfl) (pe_c (ok__law_form X0 L) hr (by decide) rfl (pa_cons (pv 2) pa_nil)))
          (pss_cons (ps_set (i := 4) sc_law.nd rfl (.inr rfl) (pe_form2 X0 FC XF hr (by decide) (pe_ix ix_seq (pv 3) pe_int (fun _ _ => rfl)) (pe_ix ix_seq (pv 3) pe_int (fun _ _ => rfl))))
          (pss_cons (ps_set (i := 5) sc_law.nd rfl (.inr rfl) (pe_c (ok__law_names L N) hr (by decide) rfl (pa_cons (pv 2) (pa_cons pe_int pa_nil))))
          (pss_cons (ps_set (i := 5) sc_law.nd rfl (.inr rfl) (pe_op op_addU (pv 5) (pe_op op_mulU (pe_lst (pa_cons (pe_ix ix_seq (pv 5) (pe_c (ok__law_draw L) hr (by decide) rfl (pa_cons (pv 2) (pa_cons (pe_callB call_len_seq (by rfl) N.n_len (by decide +kernel) (pa_cons (pv 5) pa_nil)) pa_nil))) (fun _ _ => rfl)) pa_nil)) (pe_c (ok__law_draw L) hr (by decide) rfl (pa_cons (pv 2) (pa_cons pe_int pa_nil))))))
          (pss_cons (ps_set (i := 5) sc_law.nd rfl (.inr rfl) (PE.mono (pe_ifExp (pt_cmpR (op_eqU hu) (pe_c (ok__law_draw L) hr (by decide) rfl (pa_cons (pv 2) (pa_cons pe_int pa_nil))) pe_int (by rfl)) (pe_revL (pv 5)) (pv 5))))
          (pss_cons (ps_if (pt_cmpR (op_neU hu) (pe_lc (own := [("_law_name_here", 12)]) (g := gName 12) (tt := tNot (tB (tCall (spRightKey C) [] E0 (tCons (tVar 4) (tCons (tVar 3) (tCons (tVar 12) tNil)))))) (te := tVar 12) rfl sc_law.nd (pi_list (pv 5)) (blkOk_by (own := [("_law_name_here", 12)]) (N := ["_law_script", "_law_at", "_law_purse_here", "_law_spec", "_law_form_here", "_law_names_here", "_law_handed", "_law_told", "_law_one", "_law_other", "_law_strangers_here", "_law_place", "_law_name_here"]) (sc := defScope s_law) (by decide +kernel)) (fun _ _ _ _ _ => pg_name (i := 12) sc_law.nd rfl (Or.inl rfl)) (fun _ _ _ _ _ => by exact pts_one (pt_not (pt_val (pe_c (ok__law_right_key X0 L N TK TS FC XN FX M) hr (by decide) rfl (pa_cons (pv 4) (pa_cons (pv 3) (pa_cons (pv 12) pa_nil))))))) (fun _ _ _ _ _ => by exact (pv 12))) (pe_lst pa_nil) (by rfl)) (pss_one (ps_ret pe_bl)) pss_nil)
          (pss_cons (ps_set (i := 6) sc_law.nd rfl (.inl rfl) (pe_callTy call_listOf (by rfl) TS.n_list (by decide +kernel) (pa_cons (pv 5) pa_nil)))
          (pss_cons (ps_set (i := 7) sc_law.nd rfl (.inl rfl) (pe_ord X0 L N TK TS FC XI B FO hr (by decide) (pv 4) (pv 6)))
          (pss_cons (ps_if (PW.pt (pw_or (pt_not (pt_val (pe_callB call_isi (by rfl) X0.n_isinstance (by decide +kernel) (pa_cons (pv 7) (pa_cons (pe_bltn (v := .ty "list") (by rfl) TS.n_list (by decide +kernel) rfl) pa_nil))))) (pw_or (pt_cmpR (op_neU hu) (pv 7) (pe_c (ok__law_ordered X0 L TK Y B) hr (by decide) rfl (pa_cons (pv 3) (pa_cons (pv 5) pa_nil))) (by rfl)) (pw_or1 (pt_cmpR (op_neU hu) (pv 6) (pv 5) (by rfl)))))) (pss_one (ps_ret pe_bl)) pss_nil)
          (pss_cons (ps_expr (pe_bm PySem.F.plainAttrs_list PySem.F.slot_list_append PySem.F.type_list_append mt_append (pv 7) (pa_cons pe_str pa_nil)))
          (pss_cons (ps_if (PW.pt (pw_or (pt_cmpR (op_neU hu) (pe_ord X0 L N TK TS FC XI B FO hr (by decide) (pv 4) (pv 6)) (pe_c (ok__law_ordered X0 L TK Y B) hr (by decide) rfl (pa_cons (pv 3) (pa_cons (pv 5) pa_nil))) (by rfl)) (pw_or1 (pt_cmpR (op_neU hu) (pe_ord X0 L N TK TS FC XI B FO hr (by decide) (pv 4) (pe_lst pa_nil)) (pe_lst pa_nil) (by rfl))))) (pss_one (ps_ret pe_bl)) pss_nil)
          (pss_cons (ps_for PassesOwn.never rfl (pi_list (pv 5)) (pg_name (i := 8) sc_law.nd rfl (.inl rfl))
            (pss_one (ps_for PassesOwn.never rfl (pi_list (pv 5)) (pg_name (i := 9) sc_law.nd rfl (.inl rfl))
                (pss_one (ps_if (pt_cmpR op_ne (pe_callTy call_bool1 (by rfl) A0.n_bool (by decide +kernel) (pa_cons (pe_cmpR (op_ltD hu) (pe_fcall X0 L N TK FC XN FX hr (by decide) (pv 4) (pv 8)) (pe_fcall X0 L N TK FC XN FX hr (by decide) (pv 4) (pv 9)) (by rfl)) pa_nil)) (pe_cmpR (op_ltD hu) (pe_c (ok__law_key L TK) hr (by decide) rfl (pa_cons (pv 3) (pa_cons (pv 8) pa_nil))) (pe_c (ok__law_key L TK) hr (by decide) rfl (pa_cons (pv 3) (pa_cons (pv 9) pa_nil))) (by rfl)) (by rfl)) (pss_one (ps_ret pe_bl)) pss_nil)))))
          (pss_cons (ps_set (i := 10) sc_law.nd rfl (.inl rfl) (pe_c (ok__law_strangers W0) hr (by decide) rfl (pa_cons (pe_ix ix_seq (pv 5) pe_int (fun _ _ => rfl)) pa_nil)))
          (pss_cons (ps_if (pt_cmpR (op_neU hu) (pe_lc (own := [("_law_one", 8)]) (g := gName 8) (tt := tNot (tB (tCall (spNoName K C) [] E0 (tCons (tVar 4) (tCons (tVar 8) tNil))))) (te := tVar 8) rfl sc_law.nd (pi_list (pv 10)) (blkOk_by (own := [("_law_one", 8)]) (N := ["_law_script", "_law_at", "_law_purse_here", "_law_spec", "_law_form_here", "_law_names_here", "_law_handed", "_law_told", "_law_one", "_law_other", "_law_strangers_here", "_law_place", "_law_name_here"]) (sc := defScope s_law) (by decide +kernel)) (fun _ _ _ _ _ => pg_name (i := 8) sc_law.nd rfl (Or.inl rfl)) (fun _ _ _ _ _ => by exact pts_one (pt_not (pt_val (pe_c (ok__law_no_name X0 L N TK FC XN FX M) hr (by decide) rfl (pa_cons (pv 4) (pa_cons (pv 8) pa_nil)))))) (fun _ _ _ _ _ => by exact (pv 8))) (pe_lst pa_nil) (by rfl)) (pss_one (ps_ret pe_bl)) pss_nil)
          (pss_cons (ps_set (i := 11) sc_law.nd rfl (.inr rfl) (pe_c (ok__law_draw L) hr (by decide) rfl (pa_cons (pv 2) (pa_cons (pe_op op_addU (pe_callB call_len_seq (by rfl) N.n_len (by decide +kernel) (pa_cons (pv 5) pa_nil)) pe_int) pa_nil))))
          (pss_cons (ps_if (pt_cmpR (op_neU hu) (pe_lc (own := [("_law_one", 8)]) (g := gName 8) (tt := tNot (tB (tCall (spNoList K C T) [] E0 (tCons (tVar 4) (tCons (tOp rAddU (tOp rAddU (tSl (rSlL K) (tVar 5) tNoPart (tPart (tVar 11))) (tLst (tCons (tVar 8) tNil))) (tSl (rSlL K) (tVar 5) (tPart (tVar 11)) tNoPart)) tNil))))) (te := tVar 8) rfl sc_law.nd (pi_list (pv 10)) (blkOk_by (own := [("_law_one", 8)]) (N := ["_law_script", "_law_at", "_law_purse_here", "_law_spec", "_law_form_here", "_law_names_here", "_law_handed", "_law_told", "_law_one", "_law_other", "_law_strangers_here", "_law_place", "_law_name_here"]) (sc := defScope s_law) (by decide +kernel)) (fun _ _ _ _ _ => pg_name (i := 8) sc_law.nd rfl (Or.inl rfl)) (fun _ _ _ _ _ => by exact pts_one (pt_not (pt_val (pe_c (ok__law_no_list X0 L N TK TS FC XI B FO Z) hr (by decide) rfl (pa_cons (pv 4) (pa_cons (pe_op op_addU (pe_op op_addU (pe_slice sl_list (pv 5) po_none (po_some (pv 11))) (pe_lst (pa_cons (pv 8) pa_nil))) (pe_slice sl_list (pv 5) (po_some (pv 11)) po_none)) pa_nil)))))) (fun _ _ _ _ _ => by exact (pv 8))) (pe_lst pa_nil) (by rfl)) (pss_one (ps_ret pe_bl)) pss_nil)
          (pss_one (ps_if (pt_cmpR (op_neU hu) (pe_lc (own := [("_law_one", 8)]) (g := gName 8) (tt := tNot (tB (tCall (spNoList K C T) [] E0 (tCons (tVar 4) (tCons (tVar 8) tNil))))) (te := tVar 8) rfl sc_law.nd (pi_list (pe_lst (pa_cons (pe_callTy call_tupL (by rfl) X0.n_tuple (by decide +kernel) (pa_cons (pv 5) pa_nil)) (pa_cons (pe_ix ix_seq (pv 5) pe_int (fun _ _ => rfl)) (pa_cons pe_non (pa_cons pe_int pa_nil)))))) (blkOk_by (own := [("_law_one", 8)]) (N := ["_law_script", "_law_at", "_law_purse_here", "_law_spec", "_law_form_here", "_law_names_here", "_law_handed", "_law_told", "_law_one", "_law_other", "_law_strangers_here", "_law_place", "_law_name_here"]) (sc := defScope s_law) (by decide +kernel)) (fun _ _ _ _ _ => pg_name (i := 8) sc_law.nd rfl (Or.inl rfl)) (fun _ _ _ _ _ => by exact pts_one (pt_not (pt_val (pe_c (ok__law_no_list X0 L N TK TS FC XI B FO Z) hr (by decide) rfl (pa_cons (pv 4) (pa_cons (pv 8) pa_nil)))))) (fun _ _ _ _ _ => by exact (pv 8))) (pe_lst pa_nil) (by rfl)) (pss_one (ps_ret pe_bl)) pss_nil))))))))))))))))))))
      (pss_one (ps_ret pe_bl))), ?_⟩
    k_extra "r"
    refine ⟨3, rfl, by decide, by decide, q_forR (lo := 0) (n := 3) (fun i σ H' => ∃ v1 v2 v3 v4 v5 v6 v7 v8 v9 v10 v11 : Option V, σ = [some (.ref a), v1, v2, v3, v4, v5, v6, v7, v8, v9, v10, v11, none] ∧ SqL K H' a (ns.map V.int) ∧ TabsN T H') ⟨_, _, _, _, _, _, _, _, _, _, _, rfl, hs, ht⟩ ?_ ?_⟩
    · rintro i σ H0 hi ⟨v1, v2, v3, v4, v5, v6, v7, v8, v9, v10, v11, rfl, hs0, ht0⟩
      k_extra "r"
      refine ⟨a, ns, 0 + (i : Int), rfl, hs0, by omega, by omega, fun p H1 np S1 hp1 => ?_⟩
      k_extra "r"
      refine ⟨p, rfl, hp1, fun q H2 l c nq hq ll c1 c2 hp2 b2 => ?_⟩
      have sc1 : Sc1 K H1 p a (ns.map V.int) := Sc1.of hs0 np S1
      have t1 : TabsN T H1 := ht0.ext fun _ _ e => S1 _ _ e
      have sc2 := sc1.but b2
      have t2 : TabsN T H2 := tabs_butP t1 hp1 b2
      k_extra "r"
      refine q_ixT (SqT.of hq) (at_of (j := 0) rfl rfl) ?_
      k_extra "r"
      refine q_ixT (SqT.of hq) (at_of (j := 1) rfl rfl) ?_
      k_extra "r"
      refine q_form ll c1 c2 fun f0 H3 nf S3 hf => ?_
      k_extra "r"
      refine ⟨p, 9, rfl, hp2.mono S3, by decide, fun n H4 zs nn hn nz nd le9 ne9 hp4 b4 => ?_⟩
      have nnp : n ≠ p := fun e => by
        obtain ⟨xs, hx⟩ := (hp2.mono S3).lst
        rw [e, hx] at nn
        cases nn
      have st4 : St3 K C T H4 a ns p f0 q n l c zs :=
        ⟨(sc2.ext (ext_same S3)).but b4, nnp, tabs_butP (t2.ext fun _ _ e => S3 _ _ e) (hp2.mono S3) b4, hp4,
          let ⟨dx, e⟩ := hf; ⟨dx, b4 _ _ (fun z => by obtain ⟨xs, h⟩ := (hp2.mono S3).lst; rw [z, h] at e; cases e) e⟩,
          b4 _ _ (fun z => by obtain ⟨xs, h⟩ := hp2.lst; rw [z, h] at hq; cases hq) (S3 _ _ hq), hn, nz, ne9 (by decide), by omega⟩
      have zpos : 0 < zs.length := List.length_pos_iff.mpr st4.ne
      k_extra "r"
      refine ⟨n, _, rfl, .inl (SqL.of st4.nm), ?_⟩
      k_extra "r"
      refine ⟨p, _, rfl, st4.pu, by rw [List.length_map]; omega, by rw [List.length_map]; omega, fun j H5 j0 j1 hp5 b5 => ?_⟩
      have st5 := st4.but b5 hp5
      rw [List.length_map] at j1
      obtain ⟨jn, rfl⟩ : ∃ jn : Nat, j = jn := ⟨j.toNat, by omega⟩
      have hj : (zs.map V.str)[jn]? = some (V.str zs[jn]) := by rw [List.getElem?_map, List.getElem?_eq_getElem (by omega)]; rfl
      refine q_ixL (SqL.of st5.nm) (at_of (j := jn) rfl hj) ?_
      k_extra "r"
      refine q_newL (by show 1 ≤ sizeLine; decide) fun n1 H6 nn1 S6 h6 => ?_
      have st6 := st5.same S6
      k_extra "r"
      refine ⟨p, 3, rfl, st6.pu, by decide, by decide, fun m H7 m0 m1 hp7 b7 => ?_⟩
      have st7 := st6.but b7 hp7
      have n1p : n1 ≠ p := fun e => by
        obtain ⟨xs, hx⟩ := st5.pu.lst
        rw [e, hx] at nn1
        cases nn1
      have h7 := b7 _ _ n1p h6
      refine q_rep h7 m0 (by omega) (by show 1 * m.toNat ≤ 1000; omega) fun n2 H8 nn2 S8 h8 => ?_
      have e8 : (List.replicate m.toNat [V.str zs[jn]]).flatten = (List.replicate m.toNat zs[jn]).map V.str := by rw [List.map_replicate]; simp
      rw [e8] at h8
      have st8 := st7.same S8
      refine q_cat st8.nm h8 (by rw [List.length_map, List.length_map, List.length_replicate]; exact sz (by omega)) fun n3 H9 nn3 S9 h9 => ?_
      rw [← List.map_append] at h9
      have st9' := st8.same S9
      obtain ⟨zs2, ez2⟩ : ∃ z, z = zs ++ List.replicate m.toNat zs[jn] := ⟨_, rfl⟩
      rw [← ez2] at h9
      have n3p : n3 ≠ p := fun e => by
        obtain ⟨xs, hx⟩ := st8.pu.lst
        rw [e, hx] at nn3
        cases nn3
      have st9 : St3 K C T H9 a ns p f0 q n3 l c zs2 := ⟨st9'.sc, n3p, st9'.tb, st9'.pu, st9'.fo, st9'.sp, h9, by
        intro z hz
        rw [ez2] at hz
        rcases List.mem_append.mp hz with hz | hz
        · exact nz z hz
        · rw [(List.mem_replicate.mp hz).2]
          exact nz _ (List.getElem_mem _), by rw [ez2]; exact fun e => st4.ne (List.append_eq_nil_iff.mp e).1, by rw [ez2, List.length_append, List.length_replicate]; omega⟩
      k_extra "r"
      refine s_mono (fun v H' => ∃ n' zs', v = .ref n' ∧ St3 K C T H' a ns p f0 q n' l c zs') ?_ ?_
      · k_extra "r"
        refine ⟨p, 2, rfl, st9.pu, by decide, by decide, fun m' H10 m0' m1' hp10 b10 => ?_⟩
        have st10 := st9.but b10 hp10
        k_extra "r"
        refine q_eq rfl (q_test (s_if (fun _ => ?_) (fun _ => ?_)))
        · refine s_revL ?_
          k_extra "r"
          refine q_revL (SqL.of st10.nm) fun n' H11 nn' S11 h11 => ⟨n', zs2.reverse, rfl, ?_⟩
          have st11 := st10.same S11
          rw [← List.map_reverse] at h11
          refine ⟨st11.sc, fun e => ?_, st11.tb, st11.pu, st11.fo, st11.sp, h11, fun z hz => st11.ok z (List.mem_reverse.mp hz), fun e => st11.ne (List.reverse_eq_nil_iff.mp e), by rw [List.length_reverse]; exact st11.le⟩
          obtain ⟨xs, hx⟩ := st10.pu.lst
          rw [e, hx] at nn'
          cases nn'
        · k_extra "r"
          exact ⟨n3, zs2, rfl, st10⟩
      · rintro v H10 ⟨n', zs', rfl, st10⟩
        k_extra "r"
        clear st4 st5 st6 st7 st8 st9' st9
        refine s_lc ?_
        k_extra "r"
        refine ⟨n', rfl, ⟨_, SqL.of st10.nm⟩, fun D nD => lc_list (K := K) (a := n') (xs := zs'.map V.str) (fun i H' => Same H10 H' ∧ H' D = some (.lst [])) ⟨Same.new nD, upd_same⟩ (fun i H' _ h => SqL.of (h.1 _ _ st10.nm)) ?_ ?_⟩
        · rintro j y H' hj ⟨S', hD⟩
          k_extra "r"
          refine ⟨rfl, ?_⟩
          k_extra "r"
          obtain ⟨z, hz, rfl⟩ := List.mem_map.mp (List.mem_of_getElem? hj)
          have st' := st10.same S'
          refine ⟨f0, q, z, l, c, rfl, st'.fo, st'.sp, ll, c1, st'.ok z hz, fun H2 S2 => ?_⟩
          k_extra "r"
          exact s_if0 rfl ⟨S'.trans S2, S2 _ _ hD⟩
        rintro H11 ⟨S11, h11⟩
        k_extra "r"
        refine q_newL (by show 0 ≤ sizeLine; decide) fun l0 H12 n12 S12 h12 => ?_
        refine nil_ne S12 h11 h12 (q_test (s_if0 rfl ?_))
        have st12 := st10.same (S11.trans S12)
        clear st10 h11 h12 n12 nD
        k_extra "r"
        refine q_listL (SqL.of st12.nm) fun hd H13 n13 S13 h13 => ?_
        have st13 := st12.same S13
        k_extra "r"
        obtain ⟨dx13, ea13⟩ := st13.fo
        refine ⟨.ref f0, rfl, f0, dx13, _, rfl, ea13, frm_no, ?_⟩
        k_extra "r"
        refine sp_ordered st13.fo ll c1 st13.tb h13 st13.ok st13.le fun td H14 n14 x14 t14 h14 => ?_
        have st14 := st13.ext x14 t14
        have hd14 := ext_lst x14 h13
        k_extra "r"
        refine q_isi (Pl.lst h14) .lst ?_
        refine q_test (s_if0 rfl ?_)
        k_extra "r"
        refine sp_lordered st14.sp ll c1 st14.tb st14.nm st14.ok st14.le fun to H15 n15 x15 t15 h15 => ?_
        have nsr : ∀ z ∈ srt l c zs', Nm z := fun z hz => st14.ok z (srt_mem.mp hz)
        refine same_ne nsr (ext_lst x15 h14) h15 (q_test (s_if0 rfl ?_))
        have st15 := st14.ext x15 t15
        k_extra "r"
        refine same_ne st15.ok (ext_lst x15 hd14) st15.nm (q_test (s_if0 rfl ?_))
        k_extra "r"
        refine ⟨.inl ⟨rfl, _, SqL.of (ext_lst x15 h14)⟩, ?_⟩
        k_extra "r"
        refine q_append (ext_lst x15 h14) (by rw [List.length_map, show (srt l c zs').length = zs'.length from List.length_mergeSort _]; exact szlt (by have := st13.le; omega)) fun H16 b16 h16 => ?_
        have x16 : ExtN H13 H16 := ext_but (x14.trans x15) n14 b16
        have st16 := st13.ext x16 (Bt.TabsN.but t15 (ext_lst x15 h14) b16)
        have hd16 := ext_lst x16 h13
        clear st12 st14 st15 h14 h15 t14 t15 n14 n15
        k_extra "r"
        obtain ⟨dx16, ea16⟩ := st16.fo
        refine ⟨.ref f0, rfl, f0, dx16, _, rfl, ea16, frm_no, ?_⟩
        k_extra "r"
        refine sp_ordered st16.fo ll c1 st16.tb hd16 st16.ok st16.le fun tf H17 n17 x17 t17 h17 => ?_
        have st17 := st16.ext x17 t17
        k_extra "r"
        refine sp_lordered st17.sp ll c1 st17.tb st17.nm st17.ok st17.le fun tg H18 n18 x18 t18 h18 => ?_
        refine same_ne nsr (ext_lst x18 h17) h18 (q_test (s_if0 rfl ?_))
        have st18 := st17.ext x18 t18
        clear st16 st17 h17 h18 t17 t18
        k_extra "r"
        obtain ⟨dx18, ea18⟩ := st18.fo
        refine ⟨.ref f0, rfl, f0, dx18, _, rfl, ea18, frm_no, ?_⟩
        k_extra "r"
        refine q_newL (by show 0 ≤ sizeLine; decide) fun le19 H19 n19 S19 h19 => ?_
        have st19 := st18.same S19
        k_extra "r"
        refine sp_ordered (zs := []) st19.fo ll c1 st19.tb h19 (fun z hz => absurd hz List.not_mem_nil) (by show 0 ≤ 20; decide) fun th H20 n20 x20 t20 h20 => ?_
        have st20 := st19.ext x20 t20
        k_extra "r"
        refine q_newL (by show 0 ≤ sizeLine; decide) fun le21 H21 n21 S21 h21 => ?_
        have e20 : (srt l c []).map V.str = [] := by
          have : srt l c [] = [] := List.eq_nil_of_length_eq_zero (by unfold srt; rw [List.length_mergeSort]; rfl)
          rw [this]; rfl
        rw [e20] at h20
        refine nil_ne S21 h20 h21 (q_test (s_if0 rfl ?_))
        have st21 := st20.same S21
        clear st18 st19 st20 h19 h20 h21 t20 n19 n20 n21
        k_extra "r"
        refine ⟨n', rfl, ⟨_, SqL.of st21.nm⟩, q_forL (K := K) (a := n') (xs := zs'.map V.str) (fun _ σ H' => ∃ v8 v9 : Option V, σ = [some (.ref a), some (.int (0 + (i : Int))), some (.ref p), some (.ref q), some (.ref f0), some (.ref n'), some (.ref hd), some (.ref td), v8, v9, v10, v11, none] ∧ St3 K C T H' a ns p f0 q n' l c zs') ⟨_, _, rfl, st21⟩ (fun i σ H' _ h => by obtain ⟨_, _, _, s⟩ := h; exact SqL.of s.nm) ?_ ?_⟩
        · rintro j1 y1 σ H22 hj1 ⟨v8, v9, rfl, st22⟩
          obtain ⟨z1, hz1, rfl⟩ := List.mem_map.mp (List.mem_of_getElem? hj1)
          k_extra "r"
          refine ⟨n', rfl, ⟨_, SqL.of st22.nm⟩, q_forL (K := K) (a := n') (xs := zs'.map V.str) (fun _ σ H' => ∃ v9 : Option V, σ = [some (.ref a), some (.int (0 + (i : Int))), some (.ref p), some (.ref q), some (.ref f0), some (.ref n'), some (.ref hd), some (.ref td), some (.str z1), v9, v10, v11, none] ∧ St3 K C T H' a ns p f0 q n' l c zs') ⟨_, rfl, st22⟩ (fun i σ H' _ h => by obtain ⟨_, _, s⟩ := h; exact SqL.of s.nm) ?_ ?_⟩
          · rintro j2 y2 σ H23 hj2 ⟨v9, rfl, st23⟩
            obtain ⟨z2, hz2, rfl⟩ := List.mem_map.mp (List.mem_of_getElem? hj2)
            k_extra "r"
            refine ⟨f0, rfl, ?_⟩
            k_extra "r"
            have nz1 := st23.ok z1 hz1
            have nz2 := st23.ok z2 hz2
            refine ⟨st23.fo.imp fun dx e => ⟨_, e⟩, f0, .str z1, l, c, rfl, st23.fo, ll, c1, nameArg_str nz1, fun z ez _ t1 H24 kt1 => ?_, fun bad => absurd ⟨z1, rfl, nz1⟩ bad⟩
            cases ez
            obtain ⟨r1, _, S24, hr1, ht1⟩ := kt1
            have st24 := st23.same S24
            k_extra "r"
            refine ⟨f0, rfl, ?_⟩
            k_extra "r"
            refine ⟨st24.fo.imp fun dx e => ⟨_, e⟩, f0, .str z2, l, c, rfl, st24.fo, ll, c1, nameArg_str nz2, fun z ez _ t2 H25 kt2 => ?_, fun bad => absurd ⟨z2, rfl, nz2⟩ bad⟩
            cases ez
            obtain ⟨r2, _, S25, hr2, ht2⟩ := kt2
            have st25 := st24.same S25
            refine q_ltD (dp_kTup (S25 _ _ hr1) (S25 _ _ ht1)) (dp_kTup hr2 ht2) (kTup_al _ _) (fun e => nomatch e) (Nat.le_trans (kTup_depth _) (by decide)) ?_
            k_extra "r"
            refine .inr ⟨_, rfl, ?_⟩
            k_extra "r"
            refine ⟨q, z1, l, c, rfl, st25.sp, ll, c1, nz1, fun t3 r3 H26 n26 S26 hr3 ht3 => ?_⟩
            have st26 := st25.same S26
            k_extra "r"
            refine ⟨q, z2, l, c, rfl, st26.sp, ll, c1, nz2, fun t4 r4 H27 n27 S27 hr4 ht4 => ?_⟩
            have st27 := st26.same S27
            refine q_ltD (dp_kLst (S27 _ _ hr3) (S27 _ _ ht3)) (dp_kLst hr4 ht4) (kLst_al _ _) (fun e => nomatch e) (Nat.le_trans (kLst_depth _) (by decide)) ?_
            refine ⟨rfl, q_test (s_if0 (by rw [key_lt]; simp) ?_)⟩
            k_extra "r"
            exact ⟨_, rfl, st27⟩
          · rintro σ H23 ⟨v9, rfl, st23⟩
            k_extra "r"
            exact ⟨_, _, rfl, st23⟩
        rintro σ H22 ⟨v8, v9, rfl, st22⟩
        clear st21
        k_extra "r"
        obtain ⟨z0, zr, ez⟩ : ∃ z0 zr, zs' = z0 :: zr := by
          cases h : zs' with
          | nil => exact absurd h st22.ne
          | cons z0 zr => exact ⟨_, _, rfl⟩
        have nz0 : Nm z0 := st22.ok z0 (by rw [ez]; exact List.mem_cons_self)
        have hat : (zs'.map V.str)[0]? = some (V.str z0) := by rw [ez]; rfl
        refine q_ixL (SqL.of st22.nm) (at_of (j := 0) rfl hat) ?_
        k_extra "r"
        refine ⟨z0, rfl, nz0, fun ls H23 xs nls S23 hls xl bad => ?_⟩
        have st23 := st22.same S23
        k_extra "r"
        refine s_lc ?_
        k_extra "r"
        refine ⟨ls, rfl, ⟨_, SqL.of hls⟩, fun D nD => lc_list (K := K) (a := ls) (xs := xs) (fun i H' => Same H23 H' ∧ H' D = some (.lst [])) ⟨Same.new nD, upd_same⟩ (fun i H' _ h => SqL.of (h.1 _ _ hls)) ?_ ?_⟩
        · rintro j y H' hj ⟨S', hD⟩
          k_extra "r"
          refine ⟨rfl, ?_⟩
          k_extra "r"
          refine badN_noName (st23.same S').fo ll c1 (bad H' (fun b o e _ => S' _ _ e) y (List.mem_of_getElem? hj)) fun H2 S2 => ?_
          k_extra "r"
          exact s_if0 rfl ⟨S'.trans S2, S2 _ _ hD⟩
        rintro H24 ⟨S24, h24⟩
        k_extra "r"
        refine q_newL (by show 0 ≤ sizeLine; decide) fun l25 H25 n25 S25 h25 => ?_
        refine nil_ne S25 h24 h25 (q_test (s_if0 rfl ?_))
        have st25 := st23.same (S24.trans S25)
        k_extra "r"
        refine ⟨n', _, rfl, .inl (SqL.of st25.nm), ?_⟩
        k_extra "r"
        refine ⟨p, _, rfl, st25.pu, by rw [List.length_map]; omega, by rw [List.length_map]; have := st25.le; omega, fun j H26 j0 j1 hp26 b26 => ?_⟩
        have st26 := st25.but b26 hp26
        have lsp : ls ≠ p := fun e => by
          obtain ⟨xs, hx⟩ := st22.pu.lst
          rw [e, hx] at nls
          cases nls
        have hls26 : H26 ls = some (.lst xs) := b26 _ _ lsp (S25 _ _ (S24 _ _ hls))
        have bad26 : ∀ H', Same H26 H' → ∀ x ∈ xs, BadN K H' x := fun H' S' => bad H' fun b o e n => S' _ _ (b26 _ _ (fun z => by
          obtain ⟨xs, hx⟩ := st22.pu.lst
          rw [z, hx] at n
          cases n) (S25 _ _ (S24 _ _ e)))
        clear st22 st23 st25 h24 h25 bad hls
        k_extra "r"
        refine s_lc ?_
        k_extra "r"
        refine ⟨ls, rfl, ⟨_, SqL.of hls26⟩, fun D nD => lc_list (K := K) (a := ls) (xs := xs) (fun i H' => Same H26 H' ∧ H' D = some (.lst [])) ⟨Same.new nD, upd_same⟩ (fun i H' _ h => SqL.of (h.1 _ _ hls26)) ?_ ?_⟩
        · rintro j' y H' hj ⟨S', hD⟩
          k_extra "r"
          refine ⟨rfl, ?_⟩
          k_extra "r"
          have st' := st26.same S'
          refine q_slN st'.nm fun a1 Ha y1 na1 Sa ha1 m1 le1 => ?_
          k_extra "r"
          refine q_newL (by show 1 ≤ sizeLine; decide) fun a2 Hb na2 Sb ha2 => ?_
          refine q_cat (Sb _ _ ha1) ha2 (by rw [List.length_map]; exact sz (by show _ + 1 ≤ 100000; have := st'.le; omega)) fun a3 Hc na3 Sc ha3 => ?_
          have stc := st'.same (Sa.trans (Sb.trans Sc))
          k_extra "r"
          refine q_slN stc.nm fun a4 Hd y2 na4 Sd ha4 m2 le2 => ?_
          refine q_cat (Sd _ _ ha3) ha4 (by rw [List.length_append, List.length_map, List.length_map]; exact sz (by show _ + 1 + _ ≤ 100000; have := st'.le; omega)) fun a5 He na5 Se ha5 => ?_
          have S6 : Same H26 He := S'.trans (Sa.trans (Sb.trans (Sc.trans (Sd.trans Se))))
          have ste := stc.same (Sd.trans Se)
          k_extra "r"
          refine ⟨f0, .ref a5, l, c, rfl, ste.fo, ll, c1, ste.tb, badL_of ha5 (fun y hy => ste.ok y (m1 y hy)) (fun y hy => ste.ok y (m2 y hy)) (Nat.le_trans le1 ste.le) (Nat.le_trans le2 ste.le) (bad26 He S6 y (List.mem_of_getElem? hj)), fun H2 S2 => ?_⟩
          k_extra "r"
          exact s_if0 rfl ⟨S6.trans S2, S2 _ _ (((((Sa.trans Sb).trans Sc).trans Sd).trans Se) _ _ hD)⟩
        rintro H27 ⟨S27, h27⟩
        k_extra "r"
        refine q_newL (by show 0 ≤ sizeLine; decide) fun l28 H28 n28 S28 h28 => ?_
        refine nil_ne S28 h27 h28 (q_test (s_if0 rfl ?_))
        have st28 := st26.same (S27.trans S28)
        clear st26 h27 h28 bad26
        k_extra "r"
        refine s_lc ?_
        k_extra "r"
        refine q_tupL (SqL.of st28.nm) fun tu H29 n29 S29 h29 => ?_
        have st29 := st28.same S29
        k_extra "r"
        refine q_ixL (SqL.of st29.nm) (at_of (j := 0) rfl hat) ?_
        k_extra "r"
        refine q_newL (by show 4 ≤ sizeLine; decide) fun lw H30 n30 S30 h30 => ?_
        have st30 := st29.same S30
        refine ⟨lw, rfl, ⟨_, SqL.of h30⟩, fun D nD => lc_list (K := K) (a := lw) (xs := [.ref tu, .str z0, .non, .int 0]) (fun i H' => Same H30 H' ∧ H' D = some (.lst [])) ⟨Same.new nD, upd_same⟩ (fun i H' _ h => SqL.of (h.1 _ _ h30)) ?_ ?_⟩
        · rintro j' y H' hj ⟨S', hD⟩
          k_extra "r"
          refine ⟨rfl, ?_⟩
          k_extra "r"
          have st' := st30.same S'
          have by_ : BadL K H' y := by
            have hm := List.mem_of_getElem? hj
            simp only [List.mem_cons, List.not_mem_nil, or_false] at hm
            rcases hm with rfl | rfl | rfl | rfl
            · have htu : H' tu = some (.tup (zs'.map V.str)) := S' _ _ (S30 _ _ h29)
              exact .inl ⟨_, .tuple (zs'.map PyData.str), Pl.tup htu, (by decide), .tup (SqT.of htu) (dp_strs zs'), by simp only [PyData.canLay0]; exact canLay_strs zs' fun y hy => (st'.ok y hy).asc, by simp only [PyData.depth, depth_strs]; decide⟩
            · exact .inl ⟨_, .str z0, Pl.str, (by decide), .str z0, by simp only [PyData.canLay0]; exact nz0.asc.ok, by simp [PyData.depth]⟩
            · exact .inl ⟨_, .none, Pl.non, (by decide), .non, by simp [PyData.canLay0], by simp [PyData.depth]⟩
            · exact .inl ⟨_, .int 0, Pl.int, (by decide), .int 0, by simp [PyData.canLay0], by simp [PyData.depth]⟩
          refine ⟨f0, y, l, c, rfl, st'.fo, ll, c1, st'.tb, by_, fun H2 S2 => ?_⟩
          k_extra "r"
          exact s_if0 rfl ⟨S'.trans S2, S2 _ _ hD⟩
        rintro H31 ⟨S31, h31⟩
        k_extra "r"
        refine q_newL (by show 0 ≤ sizeLine; decide) fun l32 H32 n32 S32 h32 => ?_
        refine nil_ne S32 h31 h32 (q_test (s_if0 rfl ?_))
        have st32 := st30.same (S31.trans S32)
        k_extra "r"
        exact ⟨_, _, _, _, _, _, _, _, _, _, _, rfl, st32.sc.sq, st32.tb⟩
    · rintro σ H0 ⟨v1, v2, v3, v4, v5, v6, v7, v8, v9, v10, v11, rfl, hs0, ht0⟩
      k_extra "r"
      exact k H0
end
end Bt
namespace Bt
open PySem PySem.Spec PyProof.Rows L2
/-! ### what the end wants of the classes -/
theorem ve_own {CB : Addr} : PySem.HandSPX.refsVE [.ref CB, .type "ValueError", .type "Exception", .type "BaseException", .type "object"] = true := show PySem.HandSPX.refsVE [.type "ValueError", .type "Exception", .type "BaseException", .type "object"] = true by decide +kernel
theorem exm_self {K : PySem.W.Frag} {S : Addr} (h1 : PySem.W.subIn K (.ref S) (.type "BaseException") = some true) (h2 : PySem.W.isClsIn K S = true) (h3 : PySem.W.typeIn K (.ref S) = some (.type "type")) (h4 : PySem.W.subIn K (.ref S) (.ref S) = some true) :
    PySem.W.exmOne K (.ref S) (.ref S) = some true := by
  have e1 : (PySem.W.subIn K (.ref S) (.type "BaseException") == some true) = true := by rw [h1] <;> rfl
  have e2 : ((PySem.W.clsIn K S).isSome && PySem.W.typeIn K (.ref S) == some (.type "type")) = true := by
    have h2' : (PySem.W.clsIn K S).isSome = true := h2
    rw [h2', h3] <;> rfl
  show (if (PySem.W.subIn K (.ref S) (.type "BaseException") == some true) = true then (if ((PySem.W.clsIn K S).isSome && PySem.W.typeIn K (.ref S) == some (.type "type")) = true then PySem.W.subIn K (.ref S) (.ref S) else none) else none) = some true
  rw [if_pos e1, if_pos e2]
  exact h4
theorem exc_binds {K : PySem.W.Frag} {qual fld : Str} {params : Arguments} {body : List Stmt} {scope : Scope} {f : Addr} {fd : FuncData} (F : FunD K "__init__" qual params body scope [.non] [] f fd)
    (h : ∀ (T : Addr) (kV doc pm : Value) (an : Option Addr) (cdv ct : Value) (us its : List Value), us.length = 2 → its.length = 1 →
      ∃ k, bindArgs (PySem.W.fnOf "__init__" qual params body scope (.ref T) kV doc pm an cdv ct) ⟨us, []⟩ = seqItems? (.ref T) >>= k ∧ k (some its.toArray) = pure ((["self", fld] : List Str).zip (us ++ its.drop 1))) : Binds K fd ["self", fld] [] := by
  obtain ⟨ds, hv, hb⟩ := F.binds1 (ps := ["self", fld]) 2 1 (by simp) rfl h
  cases hv
  exact hb
theorem kit_own {K : PySem.W.Frag} {C : Addr} : PySem.W.kitOne K (.ref C) (.ref C) = some true := by
  unfold PySem.W.kitOne
  rw [if_pos (by simp)]
theorem sub_no {K : PySem.W.Frag} {C : Addr} {T : String} (h : Kd T) : PySem.W.subIn K (.type T) (.ref C) = some false := by
  cases h <;> rfl
theorem kit_no {K : PySem.W.Frag} {C : Addr} {T : String} (h2 : PySem.W.isClsIn K C = true) (h3 : PySem.W.typeIn K (.ref C) = some (.type "type")) (h : Kd T) : PySem.W.kitOne K (.type T) (.ref C) = some false := by
  have e2 : ((PySem.W.clsIn K C).isSome && PySem.W.typeIn K (.ref C) == some (.type "type")) = true := by
    have h2' : (PySem.W.clsIn K C).isSome = true := h2
    rw [h2', h3] <;> rfl
  show (if ((Value.type T) == (Value.ref C)) = true then some true else (if ((PySem.W.clsIn K C).isSome && PySem.W.typeIn K (.ref C) == some (.type "type")) = true then PySem.W.subIn K (.type T) (.ref C) else none)) = some false
  rw [if_neg (by cases h <;> exact fun z => nomatch z), if_pos e2]
  exact sub_no h
theorem nf_kd {K : PySem.W.Frag} {C : Addr} {T : String} (h : Kd T) : PySem.W.notFirst K C (.type T) = true := by
  unfold PySem.W.notFirst
  rw [sub_no h]
  exact Bool.or_true _
theorem nf_own {K : PySem.W.Frag} {C : Addr} : PySem.W.notFirst K C (.ref C) = true := by
  unfold PySem.W.notFirst
  simp
end Bt
namespace Bt
open PySem PySem.Spec PyProof.Rows L2
/-! ### what the top has written, and the law's own head -/
theorem all_mk {l : PySem.W.OpenLaw} {w : World} {K : PySem.W.Frag} {h : Heap} {mg : Str → Option Value} {fa f_is_whole f_is_name f_is_name_list f_check_name f_key_in f__are_letters f__are_chains f__law_purse f__law_draw f__law_form f__law_name f__law_names f__law_key f__law_whole f__law_right_key f__law_no_name f__law_no_list f__law_strangers f_law C_InvalidForm f_x_InvalidForm T_x_InvalidForm N_InvalidForm C_InvalidName f_x_InvalidName T_x_InvalidName N_InvalidName C_InvalidList f_x_InvalidList T_x_InvalidList N_InvalidList CF f_Fi T_Fi p_FL f_FL p_FC f_FC f_FE f_L c_Lo P_L f_O c_Oo P_O f_C : Addr} {od_is_whole an_is_whole od_is_name an_is_name od_is_name_list an_is_name_list od_check_name an_check_name od_key_in an_key_in od__are_letters an__are_letters od__are_chains an__are_chains od__law_purse an__law_purse od__law_draw an__law_draw od__law_form an__law_form od__law_name an__law_name od__law_names an__law_names od__law_key an__law_key od__law_whole an__law_whole od__law_right_key an__law_right_key od__law_no_name an__law_no_name od__law_no_list an__law_no_list od__law_strangers an__law_strangers od_law an_law od_x_InvalidForm an_x_InvalidForm od_x_InvalidName an_x_InvalidName od_x_InvalidList an_x_InvalidList odTF od_Fi an_Fi od_FL an_FL od_FC an_FC od_FE an_FE od_L an_L odc_L od_O an_O odc_O od_C an_C : Option Addr} {sl_is_whole sl_is_name sl_is_name_list sl_check_name sl_key_in sl__are_letters sl__are_chains sl__law_purse sl__law_draw sl__law_form sl__law_name sl__law_names sl__law_key sl__law_whole sl__law_right_key sl__law_no_name sl__law_no_list sl__law_strangers sl_law sl_x_InvalidForm sl_x_InvalidName sl_x_InvalidList slTF sl_Fi sl_FL sl_FC sl_FE sl_L slc_L sl_O slc_O sl_C : Array (Option Value)} {oc_is_whole kV_is_whole dc_is_whole pm_is_whole cd_is_whole ct_is_whole oc_is_name kV_is_name dc_is_name pm_is_name cd_is_name ct_is_name oc_is_name_list kV_is_name_list dc_is_name_list pm_is_name_list cd_is_name_list ct_is_name_list oc_check_name kV_check_name dc_check_name pm_check_name cd_check_name ct_check_name oc_key_in kV_key_in dc_key_in pm_key_in cd_key_in ct_key_in oc__are_letters kV__are_letters dc__are_letters pm__are_letters cd__are_letters ct__are_letters oc__are_chains kV__are_chains dc__are_chains pm__are_chains cd__are_chains ct__are_chains oc__law_purse kV__law_purse dc__law_purse pm__law_purse cd__law_purse ct__law_purse oc__law_draw kV__law_draw dc__law_draw pm__law_draw cd__law_draw ct__law_draw oc__law_form kV__law_form dc__law_form pm__law_form cd__law_form ct__law_form oc__law_name kV__law_name dc__law_name pm__law_name cd__law_name ct__law_name oc__law_names kV__law_names dc__law_names pm__law_names cd__law_names ct__law_names oc__law_key kV__law_key dc__law_key pm__law_key cd__law_key ct__law_key oc__law_whole kV__law_whole dc__law_whole pm__law_whole cd__law_whole ct__law_whole oc__law_right_key kV__law_right_key dc__law_right_key pm__law_right_key cd__law_right_key ct__law_right_key oc__law_no_name kV__law_no_name dc__law_no_name pm__law_no_name cd__law_no_name ct__law_no_name oc__law_no_list kV__law_no_list dc__law_no_list pm__law_no_list cd__law_no_list ct__law_no_list oc__law_strangers kV__law_strangers dc__law_strangers pm__law_strangers cd__law_strangers ct__law_strangers oc_law kV_law dc_law pm_law cd_law ct_law oc_x_InvalidForm kV_x_InvalidForm dc_x_InvalidForm pm_x_InvalidForm cd_x_InvalidForm ct_x_InvalidForm oc_x_InvalidName kV_x_InvalidName dc_x_InvalidName pm_x_InvalidName cd_x_InvalidName ct_x_InvalidName oc_x_InvalidList kV_x_InvalidList dc_x_InvalidList pm_x_InvalidList cd_x_InvalidList ct_x_InvalidList ocTF oc_Fi kV_Fi dc_Fi pm_Fi cd_Fi ct_Fi oc_FL kV_FL dc_FL pm_FL cd_FL ct_FL oc_FC kV_FC dc_FC pm_FC cd_FC ct_FC oc_FE kV_FE dc_FE pm_FE cd_FE ct_FE oc_L kV_L dc_L pm_L ct_L oc_O kV_O dc_O pm_O ct_O oc_C kV_C dc_C pm_C cd_C ct_C : Value} {tk_LETTERS tk_MOST_CHAINS tk_LONGEST_NAME : Tok} {nm_InvalidForm q_InvalidForm : Str} {bs_InvalidForm : List Value} {CB_InvalidForm : Addr} {sn_InvalidForm : List Str} {sub_InvalidForm : List Value} {ab_InvalidForm : Bool} {col_InvalidForm : Option Bool} {dd_InvalidForm : Option Addr} {m0_InvalidForm m1_InvalidForm m2_InvalidForm m3_InvalidForm m5_InvalidForm : Option Value} {ocT_InvalidForm : Value} {odT_InvalidForm : Option Addr} {nT_InvalidForm : Nat} {slT_InvalidForm : Array (Option Value)} {nm_InvalidName q_InvalidName : Str} {bs_InvalidName : List Value} {CB_InvalidName : Addr} {sn_InvalidName : List Str} {sub_InvalidName : List Value} {ab_InvalidName : Bool} {col_InvalidName : Option Bool} {dd_InvalidName : Option Addr} {m0_InvalidName m1_InvalidName m2_InvalidName m3_InvalidName m5_InvalidName : Option Value} {ocT_InvalidName : Value} {odT_InvalidName : Option Addr} {nT_InvalidName : Nat} {slT_InvalidName : Array (Option Value)} {nm_InvalidList q_InvalidList : Str} {bs_InvalidList : List Value} {CB_InvalidList : Addr} {sn_InvalidList : List Str} {sub_InvalidList : List Value} {ab_InvalidList : Bool} {col_InvalidList : Option Bool} {dd_InvalidList : Option Addr} {m0_InvalidList m1_InvalidList m2_InvalidList m3_InvalidList m5_InvalidList : Option Value} {ocT_InvalidList : Value} {odT_InvalidList : Option Addr} {nT_InvalidList : Nat} {slT_InvalidList : Array (Option Value)} {nTF : Nat} {t1F t2F : Tok} {rFL rFC : List Value} {vs_L : Array Value} {vs_O : Array Value} (X : K.In h) (G : h.Ns mainGlobals mg) (hfa : mg "law" = some (.ref fa))
    (z_isinstance : PySem.W.nsIn K mainGlobals "isinstance" = some none)
    (z_int : PySem.W.nsIn K mainGlobals "int" = some none)
    (z_bool : PySem.W.nsIn K mainGlobals "bool" = some none)
    (z_str : PySem.W.nsIn K mainGlobals "str" = some none)
    (z_sorted : PySem.W.nsIn K mainGlobals "sorted" = some none)
    (z_tuple : PySem.W.nsIn K mainGlobals "tuple" = some none)
    (z_range : PySem.W.nsIn K mainGlobals "range" = some none)
    (z_sum : PySem.W.nsIn K mainGlobals "sum" = some none)
    (z_len : PySem.W.nsIn K mainGlobals "len" = some none)
    (z_all : PySem.W.nsIn K mainGlobals "all" = some none)
    (z_list : PySem.W.nsIn K mainGlobals "list" = some none)
    (v_LETTERS : PySem.W.nsIn K mainGlobals "LETTERS" = some (some (.str alphaS tk_LETTERS)))
    (v_MOST_CHAINS : PySem.W.nsIn K mainGlobals "MOST_CHAINS" = some (some (.int 1000 tk_MOST_CHAINS)))
    (v_LONGEST_NAME : PySem.W.nsIn K mainGlobals "LONGEST_NAME" = some (some (.int 8 tk_LONGEST_NAME)))
    (a_is_whole : PySem.W.nsIn K mainGlobals "is_whole" = some (some (.ref f_is_whole)))
    (l_is_whole : K.lookup f_is_whole = some ⟨oc_is_whole, od_is_whole, .func (PySem.W.fnOf "is_whole" "is_whole" (defArgs s_is_whole) (defBody s_is_whole) (defScope s_is_whole) .none kV_is_whole dc_is_whole pm_is_whole an_is_whole cd_is_whole ct_is_whole), sl_is_whole⟩)
    (c_is_whole : PySem.W.codeIn K cd_is_whole "is_whole" = true)
    (k_is_whole : PySem.W.keepIn K (.ref f_is_whole) = true)
    (a_is_name : PySem.W.nsIn K mainGlobals "is_name" = some (some (.ref f_is_name)))
    (l_is_name : K.lookup f_is_name = some ⟨oc_is_name, od_is_name, .func (PySem.W.fnOf "is_name" "is_name" (defArgs s_is_name) (defBody s_is_name) (defScope s_is_name) .none kV_is_name dc_is_name pm_is_name an_is_name cd_is_name ct_is_name), sl_is_name⟩)
    (c_is_name : PySem.W.codeIn K cd_is_name "is_name" = true)
    (k_is_name : PySem.W.keepIn K (.ref f_is_name) = true)
    (a_is_name_list : PySem.W.nsIn K mainGlobals "is_name_list" = some (some (.ref f_is_name_list)))
    (l_is_name_list : K.lookup f_is_name_list = some ⟨oc_is_name_list, od_is_name_list, .func (PySem.W.fnOf "is_name_list" "is_name_list" (defArgs s_is_name_list) (defBody s_is_name_list) (defScope s_is_name_list) .none kV_is_name_list dc_is_name_list pm_is_name_list an_is_name_list cd_is_name_list ct_is_name_list), sl_is_name_list⟩)
    (c_is_name_list : PySem.W.codeIn K cd_is_name_list "is_name_list" = true)
    (k_is_name_list : PySem.W.keepIn K (.ref f_is_name_list) = true)
    (a_check_name : PySem.W.nsIn K mainGlobals "check_name" = some (some (.ref f_check_name)))
    (l_check_name : K.lookup f_check_name = some ⟨oc_check_name, od_check_name, .func (PySem.W.fnOf "check_name" "check_name" (defArgs s_check_name) (defBody s_check_name) (defScope s_check_name) .none kV_check_name dc_check_name pm_check_name an_check_name cd_check_name ct_check_name), sl_check_name⟩)
    (c_check_name : PySem.W.codeIn K cd_check_name "check_name" = true)
    (k_check_name : PySem.W.keepIn K (.ref f_check_name) = true)
    (a_key_in : PySem.W.nsIn K mainGlobals "key_in" = some (some (.ref f_key_in)))
    (l_key_in : K.lookup f_key_in = some ⟨oc_key_in, od_key_in, .func (PySem.W.fnOf "key_in" "key_in" (defArgs s_key_in) (defBody s_key_in) (defScope s_key_in) .none kV_key_in dc_key_in pm_key_in an_key_in cd_key_in ct_key_in), sl_key_in⟩)
    (c_key_in : PySem.W.codeIn K cd_key_in "key_in" = true)
    (k_key_in : PySem.W.keepIn K (.ref f_key_in) = true)
    (a__are_letters : PySem.W.nsIn K mainGlobals "_are_letters" = some (some (.ref f__are_letters)))
    (l__are_letters : K.lookup f__are_letters = some ⟨oc__are_letters, od__are_letters, .func (PySem.W.fnOf "_are_letters" "_are_letters" (defArgs s__are_letters) (defBody s__are_letters) (defScope s__are_letters) .none kV__are_letters dc__are_letters pm__are_letters an__are_letters cd__are_letters ct__are_letters), sl__are_letters⟩)
    (c__are_letters : PySem.W.codeIn K cd__are_letters "_are_letters" = true)
    (k__are_letters : PySem.W.keepIn K (.ref f__are_letters) = true)
    (a__are_chains : PySem.W.nsIn K mainGlobals "_are_chains" = some (some (.ref f__are_chains)))
    (l__are_chains : K.lookup f__are_chains = some ⟨oc__are_chains, od__are_chains, .func (PySem.W.fnOf "_are_chains" "_are_chains" (defArgs s__are_chains) (defBody s__are_chains) (defScope s__are_chains) .none kV__are_chains dc__are_chains pm__are_chains an__are_chains cd__are_chains ct__are_chains), sl__are_chains⟩)
    (c__are_chains : PySem.W.codeIn K cd__are_chains "_are_chains" = true)
    (k__are_chains : PySem.W.keepIn K (.ref f__are_chains) = true)
    (a__law_purse : PySem.W.nsIn K mainGlobals "_law_purse" = some (some (.ref f__law_purse)))
    (l__law_purse : K.lookup f__law_purse = some ⟨oc__law_purse, od__law_purse, .func (PySem.W.fnOf "_law_purse" "_law_purse" (defArgs s__law_purse) (defBody s__law_purse) (defScope s__law_purse) .none kV__law_purse dc__law_purse pm__law_purse an__law_purse cd__law_purse ct__law_purse), sl__law_purse⟩)
    (c__law_purse : PySem.W.codeIn K cd__law_purse "_law_purse" = true)
    (k__law_purse : PySem.W.keepIn K (.ref f__law_purse) = true)
    (a__law_draw : PySem.W.nsIn K mainGlobals "_law_draw" = some (some (.ref f__law_draw)))
    (l__law_draw : K.lookup f__law_draw = some ⟨oc__law_draw, od__law_draw, .func (PySem.W.fnOf "_law_draw" "_law_draw" (defArgs s__law_draw) (defBody s__law_draw) (defScope s__law_draw) .none kV__law_draw dc__law_draw pm__law_draw an__law_draw cd__law_draw ct__law_draw), sl__law_draw⟩)
    (c__law_draw : PySem.W.codeIn K cd__law_draw "_law_draw" = true)
    (k__law_draw : PySem.W.keepIn K (.ref f__law_draw) = true)
    (a__law_form : PySem.W.nsIn K mainGlobals "_law_form" = some (some (.ref f__law_form)))
    (l__law_form : K.lookup f__law_form = some ⟨oc__law_form, od__law_form, .func (PySem.W.fnOf "_law_form" "_law_form" (defArgs s__law_form) (defBody s__law_form) (defScope s__law_form) .none kV__law_form dc__law_form pm__law_form an__law_form cd__law_form ct__law_form), sl__law_form⟩)
    (c__law_form : PySem.W.codeIn K cd__law_form "_law_form" = true)
    (k__law_form : PySem.W.keepIn K (.ref f__law_form) = true)
    (a__law_name : PySem.W.nsIn K mainGlobals "_law_name" = some (some (.ref f__law_name)))
    (l__law_name : K.lookup f__law_name = some ⟨oc__law_name, od__law_name, .func (PySem.W.fnOf "_law_name" "_law_name" (defArgs s__law_name) (defBody s__law_name) (defScope s__law_name) .none kV__law_name dc__law_name pm__law_name an__law_name cd__law_name ct__law_name), sl__law_name⟩)
    (c__law_name : PySem.W.codeIn K cd__law_name "_law_name" = true)
    (k__law_name : PySem.W.keepIn K (.ref f__law_name) = true)
    (a__law_names : PySem.W.nsIn K mainGlobals "_law_names" = some (some (.ref f__law_names)))
    (l__law_names : K.lookup f__law_names = some ⟨oc__law_names, od__law_names, .func (PySem.W.fnOf "_law_names" "_law_names" (defArgs s__law_names) (defBody s__law_names) (defScope s__law_names) .none kV__law_names dc__law_names pm__law_names an__law_names cd__law_names ct__law_names), sl__law_names⟩)
    (c__law_names : PySem.W.codeIn K cd__law_names "_law_names" = true)
    (k__law_names : PySem.W.keepIn K (.ref f__law_names) = true)
    (a__law_key : PySem.W.nsIn K mainGlobals "_law_key" = some (some (.ref f__law_key)))
    (l__law_key : K.lookup f__law_key = some ⟨oc__law_key, od__law_key, .func (PySem.W.fnOf "_law_key" "_law_key" (defArgs s__law_key) (defBody s__law_key) (defScope s__law_key) .none kV__law_key dc__law_key pm__law_key an__law_key cd__law_key ct__law_key), sl__law_key⟩)
    (c__law_key : PySem.W.codeIn K cd__law_key "_law_key" = true)
    (k__law_key : PySem.W.keepIn K (.ref f__law_key) = true)
    (a__law_whole : PySem.W.nsIn K mainGlobals "_law_whole" = some (some (.ref f__law_whole)))
    (l__law_whole : K.lookup f__law_whole = some ⟨oc__law_whole, od__law_whole, .func (PySem.W.fnOf "_law_whole" "_law_whole" (defArgs s__law_whole) (defBody s__law_whole) (defScope s__law_whole) .none kV__law_whole dc__law_whole pm__law_whole an__law_whole cd__law_whole ct__law_whole), sl__law_whole⟩)
    (c__law_whole : PySem.W.codeIn K cd__law_whole "_law_whole" = true)
    (k__law_whole : PySem.W.keepIn K (.ref f__law_whole) = true)
    (a__law_right_key : PySem.W.nsIn K mainGlobals "_law_right_key" = some (some (.ref f__law_right_key)))
    (l__law_right_key : K.lookup f__law_right_key = some ⟨oc__law_right_key, od__law_right_key, .func (PySem.W.fnOf "_law_right_key" "_law_right_key" (defArgs s__law_right_key) (defBody s__law_right_key) (defScope s__law_right_key) .none kV__law_right_key dc__law_right_key pm__law_right_key an__law_right_key cd__law_right_key ct__law_right_key), sl__law_right_key⟩)
    (c__law_right_key : PySem.W.codeIn K cd__law_right_key "_law_right_key" = true)
    (k__law_right_key : PySem.W.keepIn K (.ref f__law_right_key) = true)
    (a__law_no_name : PySem.W.nsIn K mainGlobals "_law_no_name" = some (some (.ref f__law_no_name)))
    (l__law_no_name : K.lookup f__law_no_name = some ⟨oc__law_no_name, od__law_no_name, .func (PySem.W.fnOf "_law_no_name" "_law_no_name" (defArgs s__law_no_name) (defBody s__law_no_name) (defScope s__law_no_name) .none kV__law_no_name dc__law_no_name pm__law_no_name an__law_no_name cd__law_no_name ct__law_no_name), sl__law_no_name⟩)
    (c__law_no_name : PySem.W.codeIn K cd__law_no_name "_law_no_name" = true)
    (k__law_no_name : PySem.W.keepIn K (.ref f__law_no_name) = true)
    (a__law_no_list : PySem.W.nsIn K mainGlobals "_law_no_list" = some (some (.ref f__law_no_list)))
    (l__law_no_list : K.lookup f__law_no_list = some ⟨oc__law_no_list, od__law_no_list, .func (PySem.W.fnOf "_law_no_list" "_law_no_list" (defArgs s__law_no_list) (defBody s__law_no_list) (defScope s__law_no_list) .none kV__law_no_list dc__law_no_list pm__law_no_list an__law_no_list cd__law_no_list ct__law_no_list), sl__law_no_list⟩)
    (c__law_no_list : PySem.W.codeIn K cd__law_no_list "_law_no_list" = true)
    (k__law_no_list : PySem.W.keepIn K (.ref f__law_no_list) = true)
    (a__law_strangers : PySem.W.nsIn K mainGlobals "_law_strangers" = some (some (.ref f__law_strangers)))
    (l__law_strangers : K.lookup f__law_strangers = some ⟨oc__law_strangers, od__law_strangers, .func (PySem.W.fnOf "_law_strangers" "_law_strangers" (defArgs s__law_strangers) (defBody s__law_strangers) (defScope s__law_strangers) .none kV__law_strangers dc__law_strangers pm__law_strangers an__law_strangers cd__law_strangers ct__law_strangers), sl__law_strangers⟩)
    (c__law_strangers : PySem.W.codeIn K cd__law_strangers "_law_strangers" = true)
    (k__law_strangers : PySem.W.keepIn K (.ref f__law_strangers) = true)
    (a_law : PySem.W.nsIn K mainGlobals "law" = some (some (.ref f_law)))
    (l_law : K.lookup f_law = some ⟨oc_law, od_law, .func (PySem.W.fnOf "law" "law" (defArgs s_law) (defBody s_law) (defScope s_law) .none kV_law dc_law pm_law an_law cd_law ct_law), sl_law⟩)
    (c_law : PySem.W.codeIn K cd_law "law" = true)
    (k_law : PySem.W.keepIn K (.ref f_law) = true)
    (g_InvalidForm : PySem.W.nsIn K mainGlobals "InvalidForm" = some (some (.ref C_InvalidForm)))
    (xL_InvalidForm : K.lookup C_InvalidForm = some (excClassObj nm_InvalidForm q_InvalidForm C_InvalidForm N_InvalidForm bs_InvalidForm [.ref CB_InvalidForm, .type "ValueError", .type "Exception", .type "BaseException", .type "object"] true sn_InvalidForm sub_InvalidForm ab_InvalidForm col_InvalidForm dd_InvalidForm m0_InvalidForm m1_InvalidForm m2_InvalidForm m3_InvalidForm m5_InvalidForm "ValueError.__new__"))
    (sa_InvalidForm : PySem.W.findIn K (.ref C_InvalidForm) "__setattr__" = some (some (.builtin "object.__setattr__")))
    (ga_InvalidForm : PySem.W.findIn K (.ref C_InvalidForm) "__getattribute__" = some (some (.builtin "BaseException.__getattribute__")))
    (gg_InvalidForm : PySem.W.findIn K (.ref C_InvalidForm) "__getattr__" = some none)
    (no_InvalidForm : PySem.W.findIn K (.ref C_InvalidForm) "value" = some none)
    (in_InvalidForm : PySem.W.findIn K (.ref C_InvalidForm) "__init__" = some (some (.ref f_x_InvalidForm)))
    (ti_InvalidForm : PySem.W.typeIn K (.ref f_x_InvalidForm) = some (.type "function"))
    (l_x_InvalidForm : K.lookup f_x_InvalidForm = some ⟨oc_x_InvalidForm, od_x_InvalidForm, .func (PySem.W.fnOf "__init__" "InvalidForm.__init__" (defArgs s_InvalidForm___init__) (defBody s_InvalidForm___init__) (defScope s_InvalidForm___init__) (.ref T_x_InvalidForm) kV_x_InvalidForm dc_x_InvalidForm pm_x_InvalidForm an_x_InvalidForm cd_x_InvalidForm ct_x_InvalidForm), sl_x_InvalidForm⟩)
    (c_x_InvalidForm : PySem.W.codeIn K cd_x_InvalidForm "InvalidForm.__init__" = true)
    (k_x_InvalidForm : PySem.W.keepIn K (.ref f_x_InvalidForm) = true)
    (lT_InvalidForm : K.lookup T_x_InvalidForm = some ⟨ocT_InvalidForm, odT_InvalidForm, .seq #[.none] nT_InvalidForm, slT_InvalidForm⟩)
    (kC_InvalidForm : PySem.W.keepIn K (.ref C_InvalidForm) = true)
    (eC_InvalidForm : PySem.W.subIn K (.ref C_InvalidForm) (.type "BaseException") = some true)
    (tC_InvalidForm : PySem.W.typeIn K (.ref C_InvalidForm) = some (.type "type"))
    (hC_InvalidForm : PySem.W.hasDictIn K C_InvalidForm = true)
    (iC_InvalidForm : PySem.W.isClsIn K C_InvalidForm = true)
    (sC_InvalidForm : PySem.W.subIn K (.ref C_InvalidForm) (.ref C_InvalidForm) = some true)
    (g_InvalidName : PySem.W.nsIn K mainGlobals "InvalidName" = some (some (.ref C_InvalidName)))
    (xL_InvalidName : K.lookup C_InvalidName = some (excClassObj nm_InvalidName q_InvalidName C_InvalidName N_InvalidName bs_InvalidName [.ref CB_InvalidName, .type "ValueError", .type "Exception", .type "BaseException", .type "object"] true sn_InvalidName sub_InvalidName ab_InvalidName col_InvalidName dd_InvalidName m0_InvalidName m1_InvalidName m2_InvalidName m3_InvalidName m5_InvalidName "ValueError.__new__"))
    (sa_InvalidName : PySem.W.findIn K (.ref C_InvalidName) "__setattr__" = some (some (.builtin "object.__setattr__")))
    (ga_InvalidName : PySem.W.findIn K (.ref C_InvalidName) "__getattribute__" = some (some (.builtin "BaseException.__getattribute__")))
    (gg_InvalidName : PySem.W.findIn K (.ref C_InvalidName) "__getattr__" = some none)
    (no_InvalidName : PySem.W.findIn K (.ref C_InvalidName) "value" = some none)
    (in_InvalidName : PySem.W.findIn K (.ref C_InvalidName) "__init__" = some (some (.ref f_x_InvalidName)))
    (ti_InvalidName : PySem.W.typeIn K (.ref f_x_InvalidName) = some (.type "function"))
    (l_x_InvalidName : K.lookup f_x_InvalidName = some ⟨oc_x_InvalidName, od_x_InvalidName, .func (PySem.W.fnOf "__init__" "InvalidName.__init__" (defArgs s_InvalidName___init__) (defBody s_InvalidName___init__) (defScope s_InvalidName___init__) (.ref T_x_InvalidName) kV_x_InvalidName dc_x_InvalidName pm_x_InvalidName an_x_InvalidName cd_x_InvalidName ct_x_InvalidName), sl_x_InvalidName⟩)
    (c_x_InvalidName : PySem.W.codeIn K cd_x_InvalidName "InvalidName.__init__" = true)
    (k_x_InvalidName : PySem.W.keepIn K (.ref f_x_InvalidName) = true)
    (lT_InvalidName : K.lookup T_x_InvalidName = some ⟨ocT_InvalidName, odT_InvalidName, .seq #[.none] nT_InvalidName, slT_InvalidName⟩)
    (kC_InvalidName : PySem.W.keepIn K (.ref C_InvalidName) = true)
    (eC_InvalidName : PySem.W.subIn K (.ref C_InvalidName) (.type "BaseException") = some true)
    (tC_InvalidName : PySem.W.typeIn K (.ref C_InvalidName) = some (.type "type"))
    (hC_InvalidName : PySem.W.hasDictIn K C_InvalidName = true)
    (iC_InvalidName : PySem.W.isClsIn K C_InvalidName = true)
    (sC_InvalidName : PySem.W.subIn K (.ref C_InvalidName) (.ref C_InvalidName) = some true)
    (g_InvalidList : PySem.W.nsIn K mainGlobals "InvalidList" = some (some (.ref C_InvalidList)))
    (xL_InvalidList : K.lookup C_InvalidList = some (excClassObj nm_InvalidList q_InvalidList C_InvalidList N_InvalidList bs_InvalidList [.ref CB_InvalidList, .type "ValueError", .type "Exception", .type "BaseException", .type "object"] true sn_InvalidList sub_InvalidList ab_InvalidList col_InvalidList dd_InvalidList m0_InvalidList m1_InvalidList m2_InvalidList m3_InvalidList m5_InvalidList "ValueError.__new__"))
    (sa_InvalidList : PySem.W.findIn K (.ref C_InvalidList) "__setattr__" = some (some (.builtin "object.__setattr__")))
    (ga_InvalidList : PySem.W.findIn K (.ref C_InvalidList) "__getattribute__" = some (some (.builtin "BaseException.__getattribute__")))
    (gg_InvalidList : PySem.W.findIn K (.ref C_InvalidList) "__getattr__" = some none)
    (no_InvalidList : PySem.W.findIn K (.ref C_InvalidList) "value" = some none)
    (in_InvalidList : PySem.W.findIn K (.ref C_InvalidList) "__init__" = some (some (.ref f_x_InvalidList)))
    (ti_InvalidList : PySem.W.typeIn K (.ref f_x_InvalidList) = some (.type "function"))
    (l_x_InvalidList : K.lookup f_x_InvalidList = some ⟨oc_x_InvalidList, od_x_InvalidList, .func (PySem.W.fnOf "__init__" "InvalidList.__init__" (defArgs s_InvalidList___init__) (defBody s_InvalidList___init__) (defScope s_InvalidList___init__) (.ref T_x_InvalidList) kV_x_InvalidList dc_x_InvalidList pm_x_InvalidList an_x_InvalidList cd_x_InvalidList ct_x_InvalidList), sl_x_InvalidList⟩)
    (c_x_InvalidList : PySem.W.codeIn K cd_x_InvalidList "InvalidList.__init__" = true)
    (k_x_InvalidList : PySem.W.keepIn K (.ref f_x_InvalidList) = true)
    (lT_InvalidList : K.lookup T_x_InvalidList = some ⟨ocT_InvalidList, odT_InvalidList, .seq #[.none] nT_InvalidList, slT_InvalidList⟩)
    (kC_InvalidList : PySem.W.keepIn K (.ref C_InvalidList) = true)
    (eC_InvalidList : PySem.W.subIn K (.ref C_InvalidList) (.type "BaseException") = some true)
    (tC_InvalidList : PySem.W.typeIn K (.ref C_InvalidList) = some (.type "type"))
    (hC_InvalidList : PySem.W.hasDictIn K C_InvalidList = true)
    (iC_InvalidList : PySem.W.isClsIn K C_InvalidList = true)
    (sC_InvalidList : PySem.W.subIn K (.ref C_InvalidList) (.ref C_InvalidList) = some true)
    (g_F : PySem.W.nsIn K mainGlobals "Form" = some (some (.ref CF)))
    (pg_F : PySem.W.plainGet K CF Str.empty = true)
    (hd_F : PySem.W.hasDictIn K CF = true)
    (po_F : PySem.W.plainOver K CF = true)
    (sa_F : PySem.W.findIn K (.ref CF) "__setattr__" = some (some (.builtin "object.__setattr__")))
    (mk_F : PySem.W.makesIn K CF = true)
    (kc_F : PySem.W.keepIn K (.ref CF) = true)
    (nL_F : PySem.W.findIn K (.ref CF) "_letters" = some none)
    (nC_F : PySem.W.findIn K (.ref CF) "_chains" = some none)
    (in_F : PySem.W.findIn K (.ref CF) "__init__" = some (some (.ref f_Fi)))
    (if_F : PySem.W.isFn K (.ref f_Fi) = true)
    (l_Fi : K.lookup f_Fi = some ⟨oc_Fi, od_Fi, .func (PySem.W.fnOf "__init__" "Form.__init__" (defArgs s_Form___init__) (defBody s_Form___init__) (defScope s_Form___init__) (.ref T_Fi) kV_Fi dc_Fi pm_Fi an_Fi cd_Fi ct_Fi), sl_Fi⟩)
    (c_Fi : PySem.W.codeIn K cd_Fi "Form.__init__" = true)
    (k_Fi : PySem.W.keepIn K (.ref f_Fi) = true)
    (lT_F : K.lookup T_Fi = some ⟨ocTF, odTF, .seq #[.str alphaS t1F, .int 1 t2F] nTF, slTF⟩)
    (at_FL : PySem.W.findIn K (.ref CF) "letters" = some (some (.ref p_FL)))
    (gt_FL : PySem.W.specialIn K (.ref p_FL) "__get__" = some (some (.builtin "property.__get__")))
    (tk_FL : PySem.W.takesIn K (.ref p_FL) = some true)
    (rc_FL : PySem.W.recIn K p_FL "property" = some (.ref f_FL :: rFL))
    (l_FL : K.lookup f_FL = some ⟨oc_FL, od_FL, .func (PySem.W.fnOf "letters" "Form.letters" (defArgs s_Form_letters) (defBody s_Form_letters) (defScope s_Form_letters) .none kV_FL dc_FL pm_FL an_FL cd_FL ct_FL), sl_FL⟩)
    (c_FL : PySem.W.codeIn K cd_FL "Form.letters" = true)
    (k_FL : PySem.W.keepIn K (.ref f_FL) = true)
    (at_FC : PySem.W.findIn K (.ref CF) "chains" = some (some (.ref p_FC)))
    (gt_FC : PySem.W.specialIn K (.ref p_FC) "__get__" = some (some (.builtin "property.__get__")))
    (tk_FC : PySem.W.takesIn K (.ref p_FC) = some true)
    (rc_FC : PySem.W.recIn K p_FC "property" = some (.ref f_FC :: rFC))
    (l_FC : K.lookup f_FC = some ⟨oc_FC, od_FC, .func (PySem.W.fnOf "chains" "Form.chains" (defArgs s_Form_chains) (defBody s_Form_chains) (defScope s_Form_chains) .none kV_FC dc_FC pm_FC an_FC cd_FC ct_FC), sl_FC⟩)
    (c_FC : PySem.W.codeIn K cd_FC "Form.chains" = true)
    (k_FC : PySem.W.keepIn K (.ref f_FC) = true)
    (eq_F : PySem.W.findIn K (.ref CF) "__eq__" = some (some (.ref f_FE)))
    (ie_F : PySem.W.isFn K (.ref f_FE) = true)
    (l_FE : K.lookup f_FE = some ⟨oc_FE, od_FE, .func (PySem.W.fnOf "__eq__" "Form.__eq__" (defArgs s_Form___eq__) (defBody s_Form___eq__) (defScope s_Form___eq__) .none kV_FE dc_FE pm_FE an_FE cd_FE ct_FE), sl_FE⟩)
    (c_FE : PySem.W.codeIn K cd_FE "Form.__eq__" = true)
    (k_FE : PySem.W.keepIn K (.ref f_FE) = true)
    (i1_F : PySem.W.findIn K (.ref CF) "__class__" = some (some (.builtin "object.__class__")))
    (i2_F : PySem.W.specialIn K (.builtin "object.__class__") "__get__" = some (some (.builtin "getset_descriptor.__get__")))
    (i3_F : PySem.W.takesIn K (.builtin "object.__class__") = some true)
    (i4_F : PySem.W.mroIn K CF (.type "object") = some true)
    (cC_F : PySem.W.isClsIn K CF = true)
    (tC_F : PySem.W.typeIn K (.ref CF) = some (.type "type"))
    (a_L : PySem.W.nsIn K mainGlobals "_law_ordered" = some (some (.ref f_L)))
    (l_L : K.lookup f_L = some ⟨oc_L, od_L, .func (PySem.W.fnOf "_law_ordered" "_law_ordered" (defArgs s__law_ordered) (defBody s__law_ordered) (defScope s__law_ordered) .none kV_L dc_L pm_L an_L (.ref c_Lo) ct_L), sl_L⟩)
    (c_L : PySem.W.codeIn K (.ref c_Lo) "_law_ordered" = true)
    (k_L : PySem.W.keepIn K (.ref f_L) = true)
    (lc_L : K.lookup c_Lo = some ⟨.type "code", odc_L, .fields vs_L, slc_L⟩)
    (p_L : vs_L[11]? = some (.ref P_L))
    (hd_L : PySem.W.codeHdIn K c_Lo P_L = true)
    (n_L : K.lookup P_L = none)
    (t_L : h.get? P_L = some { cls := .none, data := .fields #[] })
    (at_O : PySem.W.findIn K (.ref CF) "ordered" = some (some (.ref f_O)))
    (fn_O : PySem.W.isFn K (.ref f_O) = true)
    (l_O : K.lookup f_O = some ⟨oc_O, od_O, .func (PySem.W.fnOf "ordered" "Form.ordered" (defArgs s_Form_ordered) (defBody s_Form_ordered) (defScope s_Form_ordered) .none kV_O dc_O pm_O an_O (.ref c_Oo) ct_O), sl_O⟩)
    (c_O : PySem.W.codeIn K (.ref c_Oo) "Form.ordered" = true)
    (k_O : PySem.W.keepIn K (.ref f_O) = true)
    (lc_O : K.lookup c_Oo = some ⟨.type "code", odc_O, .fields vs_O, slc_O⟩)
    (p_O : vs_O[11]? = some (.ref P_O))
    (hd_O : PySem.W.codeHdIn K c_Oo P_O = true)
    (n_O : K.lookup P_O = none)
    (t_O : h.get? P_O = some { cls := .none, data := .fields #[] })
    (at_C : PySem.W.findIn K (.ref CF) "__call__" = some (some (.ref f_C)))
    (fn_C : PySem.W.isFn K (.ref f_C) = true)
    (l_C : K.lookup f_C = some ⟨oc_C, od_C, .func (PySem.W.fnOf "__call__" "Form.__call__" (defArgs s_Form___call__) (defBody s_Form___call__) (defScope s_Form___call__) .none kV_C dc_C pm_C an_C cd_C ct_C), sl_C⟩)
    (c_C : PySem.W.codeIn K cd_C "Form.__call__" = true)
    (k_C : PySem.W.keepIn K (.ref f_C) = true)
    (fi_C : PySem.W.fnIn K f_C = true)
    (ne_T : P_L ≠ P_O) :
    LamX.LawAtS l w K CX0 9 63 "_law_script" mg fa h := by
  have e := hfa.symm.trans (PySem.W.mg_of X G a_law)
  cases e
  have N_isinstance : mg "isinstance" = none := PySem.W.mg_none_of X G z_isinstance
  have N_int : mg "int" = none := PySem.W.mg_none_of X G z_int
  have N_bool : mg "bool" = none := PySem.W.mg_none_of X G z_bool
  have N_str : mg "str" = none := PySem.W.mg_none_of X G z_str
  have N_sorted : mg "sorted" = none := PySem.W.mg_none_of X G z_sorted
  have N_tuple : mg "tuple" = none := PySem.W.mg_none_of X G z_tuple
  have N_range : mg "range" = none := PySem.W.mg_none_of X G z_range
  have N_sum : mg "sum" = none := PySem.W.mg_none_of X G z_sum
  have N_len : mg "len" = none := PySem.W.mg_none_of X G z_len
  have N_all : mg "all" = none := PySem.W.mg_none_of X G z_all
  have N_list : mg "list" = none := PySem.W.mg_none_of X G z_list
  have V_LETTERS : ∃ t, mg "LETTERS" = some (.str alphaS t) := ⟨_, PySem.W.mg_of X G v_LETTERS⟩
  have V_MOST_CHAINS : ∃ t, mg "MOST_CHAINS" = some (.int 1000 t) := ⟨_, PySem.W.mg_of X G v_MOST_CHAINS⟩
  have V_LONGEST_NAME : ∃ t, mg "LONGEST_NAME" = some (.int 8 t) := ⟨_, PySem.W.mg_of X G v_LONGEST_NAME⟩
  have D_is_whole : Df K mg "is_whole" s_is_whole ["value"] := ⟨f_is_whole, _, fun_mk (st := s_is_whole) l_is_whole c_is_whole k_is_whole, PySem.W.mg_of X G a_is_whole, (fun_mk (st := s_is_whole) l_is_whole c_is_whole k_is_whole).binds fun _ _ _ _ _ _ us hl => match us, hl with | [_], _ => rfl⟩
  have D_is_name : Df K mg "is_name" s_is_name ["value"] := ⟨f_is_name, _, fun_mk (st := s_is_name) l_is_name c_is_name k_is_name, PySem.W.mg_of X G a_is_name, (fun_mk (st := s_is_name) l_is_name c_is_name k_is_name).binds fun _ _ _ _ _ _ us hl => match us, hl with | [_], _ => rfl⟩
  have D_is_name_list : Df K mg "is_name_list" s_is_name_list ["value"] := ⟨f_is_name_list, _, fun_mk (st := s_is_name_list) l_is_name_list c_is_name_list k_is_name_list, PySem.W.mg_of X G a_is_name_list, (fun_mk (st := s_is_name_list) l_is_name_list c_is_name_list k_is_name_list).binds fun _ _ _ _ _ _ us hl => match us, hl with | [_], _ => rfl⟩
  have D_check_name : Df K mg "check_name" s_check_name ["value"] := ⟨f_check_name, _, fun_mk (st := s_check_name) l_check_name c_check_name k_check_name, PySem.W.mg_of X G a_check_name, (fun_mk (st := s_check_name) l_check_name c_check_name k_check_name).binds fun _ _ _ _ _ _ us hl => match us, hl with | [_], _ => rfl⟩
  have D_key_in : Df K mg "key_in" s_key_in ["form", "name"] := ⟨f_key_in, _, fun_mk (st := s_key_in) l_key_in c_key_in k_key_in, PySem.W.mg_of X G a_key_in, (fun_mk (st := s_key_in) l_key_in c_key_in k_key_in).binds fun _ _ _ _ _ _ us hl => match us, hl with | [_, _], _ => rfl⟩
  have D__are_letters : Df K mg "_are_letters" s__are_letters ["value"] := ⟨f__are_letters, _, fun_mk (st := s__are_letters) l__are_letters c__are_letters k__are_letters, PySem.W.mg_of X G a__are_letters, (fun_mk (st := s__are_letters) l__are_letters c__are_letters k__are_letters).binds fun _ _ _ _ _ _ us hl => match us, hl with | [_], _ => rfl⟩
  have D__are_chains : Df K mg "_are_chains" s__are_chains ["value"] := ⟨f__are_chains, _, fun_mk (st := s__are_chains) l__are_chains c__are_chains k__are_chains, PySem.W.mg_of X G a__are_chains, (fun_mk (st := s__are_chains) l__are_chains c__are_chains k__are_chains).binds fun _ _ _ _ _ _ us hl => match us, hl with | [_], _ => rfl⟩
  have D__law_purse : Df K mg "_law_purse" s__law_purse ["_law_script", "_law_at"] := ⟨f__law_purse, _, fun_mk (st := s__law_purse) l__law_purse c__law_purse k__law_purse, PySem.W.mg_of X G a__law_purse, (fun_mk (st := s__law_purse) l__law_purse c__law_purse k__law_purse).binds fun _ _ _ _ _ _ us hl => match us, hl with | [_, _], _ => rfl⟩
  have D__law_draw : Df K mg "_law_draw" s__law_draw ["_law_purse_here", "_law_many"] := ⟨f__law_draw, _, fun_mk (st := s__law_draw) l__law_draw c__law_draw k__law_draw, PySem.W.mg_of X G a__law_draw, (fun_mk (st := s__law_draw) l__law_draw c__law_draw k__law_draw).binds fun _ _ _ _ _ _ us hl => match us, hl with | [_, _], _ => rfl⟩
  have D__law_form : Df K mg "_law_form" s__law_form ["_law_purse_here"] := ⟨f__law_form, _, fun_mk (st := s__law_form) l__law_form c__law_form k__law_form, PySem.W.mg_of X G a__law_form, (fun_mk (st := s__law_form) l__law_form c__law_form k__law_form).binds fun _ _ _ _ _ _ us hl => match us, hl with | [_], _ => rfl⟩
  have D__law_name : Df K mg "_law_name" s__law_name ["_law_purse_here"] := ⟨f__law_name, _, fun_mk (st := s__law_name) l__law_name c__law_name k__law_name, PySem.W.mg_of X G a__law_name, (fun_mk (st := s__law_name) l__law_name c__law_name k__law_name).binds fun _ _ _ _ _ _ us hl => match us, hl with | [_], _ => rfl⟩
  have D__law_names : Df K mg "_law_names" s__law_names ["_law_purse_here", "_law_many"] := ⟨f__law_names, _, fun_mk (st := s__law_names) l__law_names c__law_names k__law_names, PySem.W.mg_of X G a__law_names, (fun_mk (st := s__law_names) l__law_names c__law_names k__law_names).binds fun _ _ _ _ _ _ us hl => match us, hl with | [_, _], _ => rfl⟩
  have D__law_key : Df K mg "_law_key" s__law_key ["_law_form_here", "_law_name_here"] := ⟨f__law_key, _, fun_mk (st := s__law_key) l__law_key c__law_key k__law_key, PySem.W.mg_of X G a__law_key, (fun_mk (st := s__law_key) l__law_key c__law_key k__law_key).binds fun _ _ _ _ _ _ us hl => match us, hl with | [_, _], _ => rfl⟩
  have D__law_whole : Df K mg "_law_whole" s__law_whole ["_law_value"] := ⟨f__law_whole, _, fun_mk (st := s__law_whole) l__law_whole c__law_whole k__law_whole, PySem.W.mg_of X G a__law_whole, (fun_mk (st := s__law_whole) l__law_whole c__law_whole k__law_whole).binds fun _ _ _ _ _ _ us hl => match us, hl with | [_], _ => rfl⟩
  have D__law_right_key : Df K mg "_law_right_key" s__law_right_key ["_law_form_here", "_law_spec", "_law_name_here"] := ⟨f__law_right_key, _, fun_mk (st := s__law_right_key) l__law_right_key c__law_right_key k__law_right_key, PySem.W.mg_of X G a__law_right_key, (fun_mk (st := s__law_right_key) l__law_right_key c__law_right_key k__law_right_key).binds fun _ _ _ _ _ _ us hl => match us, hl with | [_, _, _], _ => rfl⟩
  have D__law_no_name : Df K mg "_law_no_name" s__law_no_name ["_law_form_here", "_law_value"] := ⟨f__law_no_name, _, fun_mk (st := s__law_no_name) l__law_no_name c__law_no_name k__law_no_name, PySem.W.mg_of X G a__law_no_name, (fun_mk (st := s__law_no_name) l__law_no_name c__law_no_name k__law_no_name).binds fun _ _ _ _ _ _ us hl => match us, hl with | [_, _], _ => rfl⟩
  have D__law_no_list : Df K mg "_law_no_list" s__law_no_list ["_law_form_here", "_law_value"] := ⟨f__law_no_list, _, fun_mk (st := s__law_no_list) l__law_no_list c__law_no_list k__law_no_list, PySem.W.mg_of X G a__law_no_list, (fun_mk (st := s__law_no_list) l__law_no_list c__law_no_list k__law_no_list).binds fun _ _ _ _ _ _ us hl => match us, hl with | [_, _], _ => rfl⟩
  have D__law_strangers : Df K mg "_law_strangers" s__law_strangers ["_law_name_here"] := ⟨f__law_strangers, _, fun_mk (st := s__law_strangers) l__law_strangers c__law_strangers k__law_strangers, PySem.W.mg_of X G a__law_strangers, (fun_mk (st := s__law_strangers) l__law_strangers c__law_strangers k__law_strangers).binds fun _ _ _ _ _ _ us hl => match us, hl with | [_], _ => rfl⟩
  have FD_InvalidForm : FunD K "__init__" "InvalidForm.__init__" (defArgs s_InvalidForm___init__) (defBody s_InvalidForm___init__) (defScope s_InvalidForm___init__) [.non] [] f_x_InvalidForm _ := ⟨⟨_, _, _, _, _, _, _, _, _, _, rfl, l_x_InvalidForm, c_x_InvalidForm, .inr ⟨by simp, T_x_InvalidForm, _, [.none], _, rfl, lT_InvalidForm, rfl, .cons rfl .nil⟩, .inl rfl⟩, k_x_InvalidForm⟩
  have BD_InvalidForm := exc_binds FD_InvalidForm (fld := "value") fun _ _ _ _ _ _ _ us its hu hi => match us, its, hu, hi with | [_, _], [_], _, _ => ⟨_, rfl, rfl⟩
  have XF_InvalidForm : ExcF K mg "InvalidForm" "value" C_InvalidForm :=
    { g := PySem.W.mg_of X G g_InvalidForm, T := ⟨⟨_, _, _, _, _, _, _, _, _, _, _, _, _, _, _, xL_InvalidForm, ve_own⟩, sa_InvalidForm, eC_InvalidForm, tC_InvalidForm, kC_InvalidForm⟩, no := no_InvalidForm, xf := ⟨ga_InvalidForm, gg_InvalidForm, eC_InvalidForm, hC_InvalidForm⟩,
      te := exm_self eC_InvalidForm iC_InvalidForm tC_InvalidForm sC_InvalidForm, init := ⟨f_x_InvalidForm, _, _, _, _, _, _, _, _, in_InvalidForm, ti_InvalidForm, FD_InvalidForm, sc_InvalidForm___init__, BD_InvalidForm⟩ }
  have FD_InvalidName : FunD K "__init__" "InvalidName.__init__" (defArgs s_InvalidName___init__) (defBody s_InvalidName___init__) (defScope s_InvalidName___init__) [.non] [] f_x_InvalidName _ := ⟨⟨_, _, _, _, _, _, _, _, _, _, rfl, l_x_InvalidName, c_x_InvalidName, .inr ⟨by simp, T_x_InvalidName, _, [.none], _, rfl, lT_InvalidName, rfl, .cons rfl .nil⟩, .inl rfl⟩, k_x_InvalidName⟩
  have BD_InvalidName := exc_binds FD_InvalidName (fld := "value") fun _ _ _ _ _ _ _ us its hu hi => match us, its, hu, hi with | [_, _], [_], _, _ => ⟨_, rfl, rfl⟩
  have XF_InvalidName : ExcF K mg "InvalidName" "value" C_InvalidName :=
    { g := PySem.W.mg_of X G g_InvalidName, T := ⟨⟨_, _, _, _, _, _, _, _, _, _, _, _, _, _, _, xL_InvalidName, ve_own⟩, sa_InvalidName, eC_InvalidName, tC_InvalidName, kC_InvalidName⟩, no := no_InvalidName, xf := ⟨ga_InvalidName, gg_InvalidName, eC_InvalidName, hC_InvalidName⟩,
      te := exm_self eC_InvalidName iC_InvalidName tC_InvalidName sC_InvalidName, init := ⟨f_x_InvalidName, _, _, _, _, _, _, _, _, in_InvalidName, ti_InvalidName, FD_InvalidName, sc_InvalidName___init__, BD_InvalidName⟩ }
  have FD_InvalidList : FunD K "__init__" "InvalidList.__init__" (defArgs s_InvalidList___init__) (defBody s_InvalidList___init__) (defScope s_InvalidList___init__) [.non] [] f_x_InvalidList _ := ⟨⟨_, _, _, _, _, _, _, _, _, _, rfl, l_x_InvalidList, c_x_InvalidList, .inr ⟨by simp, T_x_InvalidList, _, [.none], _, rfl, lT_InvalidList, rfl, .cons rfl .nil⟩, .inl rfl⟩, k_x_InvalidList⟩
  have BD_InvalidList := exc_binds FD_InvalidList (fld := "value") fun _ _ _ _ _ _ _ us its hu hi => match us, its, hu, hi with | [_, _], [_], _, _ => ⟨_, rfl, rfl⟩
  have XF_InvalidList : ExcF K mg "InvalidList" "value" C_InvalidList :=
    { g := PySem.W.mg_of X G g_InvalidList, T := ⟨⟨_, _, _, _, _, _, _, _, _, _, _, _, _, _, _, xL_InvalidList, ve_own⟩, sa_InvalidList, eC_InvalidList, tC_InvalidList, kC_InvalidList⟩, no := no_InvalidList, xf := ⟨ga_InvalidList, gg_InvalidList, eC_InvalidList, hC_InvalidList⟩,
      te := exm_self eC_InvalidList iC_InvalidList tC_InvalidList sC_InvalidList, init := ⟨f_x_InvalidList, _, _, _, _, _, _, _, _, in_InvalidList, ti_InvalidList, FD_InvalidList, sc_InvalidList___init__, BD_InvalidList⟩ }
  have FDF : FunD K "__init__" "Form.__init__" (defArgs s_Form___init__) (defBody s_Form___init__) (defScope s_Form___init__) [.str alphaS, .int 1] [] f_Fi _ := ⟨⟨_, _, _, _, _, _, _, _, _, _, rfl, l_Fi, c_Fi, .inr ⟨by simp, T_Fi, _, [.str alphaS t1F, .int 1 t2F], _, rfl, lT_F, rfl, .cons ⟨_, rfl⟩ (.cons ⟨_, rfl⟩ .nil)⟩, .inl rfl⟩, k_Fi⟩
  obtain ⟨d0F, v0F, b0F⟩ := FDF.binds1 (ps := ["self", "letters", "chains"]) 3 2 (by simp) rfl fun _ _ _ _ _ _ _ us its hu hi => match us, its, hu, hi with | [_, _, _], [_, _], _, _ => ⟨_, rfl, rfl⟩
  cases v0F
  obtain ⟨d1F, v1F, b1F⟩ := FDF.binds1 (ps := ["self", "letters", "chains"]) 2 1 (by simp) rfl fun _ _ _ _ _ _ _ us its hu hi => match us, its, hu, hi with | [_, _], [_, _], _, _ => ⟨_, rfl, rfl⟩
  obtain ⟨d2F, v2F, b2F⟩ := FDF.binds1 (ps := ["self", "letters", "chains"]) 1 0 (by simp) rfl fun _ _ _ _ _ _ _ us its hu hi => match us, its, hu, hi with | [_], [_, _], _, _ => ⟨_, rfl, rfl⟩
  have FL := fun_mk (st := s_Form_letters) l_FL c_FL k_FL
  have FCh := fun_mk (st := s_Form_chains) l_FC c_FC k_FC
  have FE := fun_mk (st := s_Form___eq__) l_FE c_FE k_FE
  have FC : FormC K mg CF :=
    { cl := ⟨pg_F, hd_F, po_F, sa_F⟩, g := PySem.W.mg_of X G g_F, makes := mk_F, kp := kc_F, nL := nL_F, nC := nC_F,
      init := ⟨f_Fi, _, d1F, d2F, in_F, if_F, FDF, b0F, v1F, b1F, v2F, b2F⟩,
      pL := ⟨p_FL, f_FL, _, ⟨at_FL, gt_FL, tk_FL, ⟨_, rc_FL⟩⟩, FL, FL.binds (ps := ["self"]) fun _ _ _ _ _ _ us hl => match us, hl with | [_], _ => rfl⟩, pC := ⟨p_FC, f_FC, _, ⟨at_FC, gt_FC, tk_FC, ⟨_, rc_FC⟩⟩, FCh, FCh.binds (ps := ["self"]) fun _ _ _ _ _ _ us hl => match us, hl with | [_], _ => rfl⟩,
      eq := ⟨f_FE, _, eq_F, ie_F, FE, FE.binds (ps := ["self", "other"]) fun _ _ _ _ _ _ us hl => match us, hl with | [_, _], _ => rfl⟩, i1 := i1_F, i2 := i2_F, i3 := i3_F, i4 := i4_F, kY := kit_own, kN := fun _ h => kit_no cC_F tC_F h, nf := fun _ h => nf_kd h, nfS := nf_own }
  have FC_L : FunC K "_law_ordered" "_law_ordered" s__law_ordered f_L _ c_Lo := ⟨⟨_, _, _, _, _, _, _, _, rfl, l_L, c_L⟩, k_L⟩
  have FC_O : FunC K "ordered" "Form.ordered" s_Form_ordered f_O _ c_Oo := ⟨⟨_, _, _, _, _, _, _, _, rfl, l_O, c_O⟩, k_O⟩
  have FnC := fun_mk (st := s_Form___call__) l_C c_C k_C
  have FX : FormX K CF := ⟨f_C, _, ⟨at_C, fn_C, fi_C⟩, FnC, FnC.binds (ps := ["self", "name"]) fun _ _ _ _ _ _ us hl => match us, hl with | [_, _], _ => rfl⟩
  have FO : FormO K CF c_Oo := ⟨f_O, _, ⟨at_O, fn_O, k_O⟩, FC_O, FC_O.fn.binds (ps := ["self", "names"]) fun _ _ _ _ _ _ us hl => match us, hl with | [_, _], _ => rfl⟩
  have D__law_ordered : TxtY K mg c_Lo c_Oo CF := ⟨trivial, f_L, _, FC_L, PySem.W.mg_of X G a_L, FC_L.fn.binds (ps := ["_law_form_here", "_law_names_here"]) fun _ _ _ _ _ _ us hl => match us, hl with | [_, _], _ => rfl⟩
  have T0 : Txt K mg := ⟨N_isinstance, N_int, N_bool, N_str, N_sorted, V_LETTERS, V_MOST_CHAINS, N_tuple, D_is_whole, D__are_letters, D__are_chains⟩
  have L : TxtL K mg := ⟨N_range, N_sum, D__law_purse, D__law_draw, D__law_form⟩
  have NN : TxtN K mg := ⟨N_len, N_all, V_LONGEST_NAME, D_is_name, D__law_name, D__law_names, D_check_name⟩
  have TK : TxtK K mg := ⟨D_key_in, D__law_key⟩
  have TS : TxtS K mg := ⟨N_list, D_is_name_list⟩
  have M : TxtV K mg := ⟨D__law_whole, D__law_right_key, D__law_no_name⟩
  have W0 : TxtW K mg := ⟨D__law_strangers⟩
  have Z : TxtZ K mg := ⟨D__law_no_list⟩
  have A0 : TxtA K mg := ⟨N_bool⟩
  refine ⟨PySem.W.fnOf "law" "law" (defArgs s_law) (defBody s_law) (defScope s_law) .none kV_law dc_law pm_law an_law cd_law ct_law, [(c_Lo, P_L), (c_Oo, P_O)], spLaw K [(P_L, fun _ _ => qL), (P_O, fun _ _ => qF)], fun p hp => ?_, fun p hp => ?_, fun p hp => ?_, fun s v => .of_eq rfl, fun H a ns hl _ hT hS => ⟨a, ns, rfl, hS, hl, fun p hp => ?_, fun _ => rfl⟩, fun base _ _ hB => ?_⟩
  · rcases List.mem_cons.mp hp with rfl | hp
    · exact t_L
    · rw [List.mem_singleton.mp hp]; exact t_O
  · rcases List.mem_cons.mp hp with rfl | hp
    · exact n_L
    · rw [List.mem_singleton.mp hp]; exact n_O
  · rcases List.mem_cons.mp hp with rfl | hp
    · exact PySem.W.codeHd_of_K X hd_L
    · rw [List.mem_singleton.mp hp]; exact PySem.W.codeHd_of_K X hd_O
  · rcases List.mem_cons.mp hp with rfl | hp
    · exact NdefX.TabN.nil (hT (c_Lo, P_L) List.mem_cons_self)
    · rw [List.mem_singleton.mp hp]; exact NdefX.TabN.nil (hT (c_Oo, P_O) (List.mem_cons_of_mem _ List.mem_cons_self))
  · have B : Tb base mg [(P_L, fun _ _ => qL), (P_O, fun _ _ => qF)] c_Lo P_L c_Oo P_O := ⟨hB (c_Lo, P_L) List.mem_cons_self, hB (c_Oo, P_O) (List.mem_cons_of_mem _ List.mem_cons_self), rfl, ne_T⟩
    exact ok_law T0 L NN TK TS M W0 D__law_ordered Z A0 FC FX FO XF_InvalidForm XF_InvalidName XF_InvalidList B (fun_mk (st := s_law) l_law c_law k_law)
end Bt
open PySem PySem.W PyProof.Rows
set_option maxRecDepth 100000 in
set_option maxHeartbeats 0 in
theorem PySem.Challenge.cw_betweenlists_k03_keys_and_orders_holds : PySem.Challenge.rw_betweenlists_k03_keys_and_orders.Holds := by
  w_on; o_law; k_head; (case hw => w_witness2)
  k_fill
  refine LamX.walk_ofTs (l := PySem.Challenge.rw_betweenlists_k03_keys_and_orders) (n := 63) (k := 9) (x := "_law_script") (CX := fun _ => L2.CX0) rfl (by decide) rfl ⟨rfl, by decide, by decide⟩ (fun w h Y => PySem.W.km_in_of Y) ?F (fun _ _ _ _ _ z => z)
  case F =>
    intro w mg fa h Y KX G hmg
    have hT8 := PySem.W.km_tabs_of Y
    refine' Bt.all_mk KX G hmg ?z_isinstance ?z_int ?z_bool ?z_str ?z_sorted ?z_tuple ?z_range ?z_sum ?z_len ?z_all ?z_list ?v_LETTERS ?v_MOST_CHAINS ?v_LONGEST_NAME ?a_is_whole ?l_is_whole ?c_is_whole ?k_is_whole ?a_is_name ?l_is_name ?c_is_name ?k_is_name ?a_is_name_list ?l_is_name_list ?c_is_name_list ?k_is_name_list ?a_check_name ?l_check_name ?c_check_name ?k_check_name ?a_key_in ?l_key_in ?c_key_in ?k_key_in ?a__are_letters ?l__are_letters ?c__are_letters ?k__are_letters ?a__are_chains ?l__are_chains ?c__are_chains ?k__are_chains ?a__law_purse ?l__law_purse ?c__law_purse ?k__law_purse ?a__law_draw ?l__law_draw ?c__law_draw ?k__law_draw ?a__law_form ?l__law_form ?c__law_form ?k__law_form ?a__law_name ?l__law_name ?c__law_name ?k__law_name ?a__law_names ?l__law_names ?c__law_names ?k__law_names ?a__law_key ?l__law_key ?c__law_key ?k__law_key ?a__law_whole ?l__law_whole ?c__law_whole ?k__law_whole ?a__law_right_key ?l__law_right_key ?c__law_right_key ?k__law_right_key ?a__law_no_name ?l__law_no_name ?c__law_no_name ?k__law_no_name ?a__law_no_list ?l__law_no_list ?c__law_no_list ?k__law_no_list ?a__law_strangers ?l__law_strangers ?c__law_strangers ?k__law_strangers ?a_law ?l_law ?c_law ?k_law ?g_InvalidForm ?xL_InvalidForm ?sa_InvalidForm ?ga_InvalidForm ?gg_InvalidForm ?no_InvalidForm ?in_InvalidForm ?ti_InvalidForm ?l_x_InvalidForm ?c_x_InvalidForm ?k_x_InvalidForm ?lT_InvalidForm ?kC_InvalidForm ?eC_InvalidForm ?tC_InvalidForm ?hC_InvalidForm ?iC_InvalidForm ?sC_InvalidForm ?g_InvalidName ?xL_InvalidName ?sa_InvalidName ?ga_InvalidName ?gg_InvalidName ?no_InvalidName ?in_InvalidName ?ti_InvalidName ?l_x_InvalidName ?c_x_InvalidName ?k_x_InvalidName ?lT_InvalidName ?kC_InvalidName ?eC_InvalidName ?tC_InvalidName ?hC_InvalidName ?iC_InvalidName ?sC_InvalidName ?g_InvalidList ?xL_InvalidList ?sa_InvalidList ?ga_InvalidList ?gg_InvalidList ?no_InvalidList ?in_InvalidList ?ti_InvalidList ?l_x_InvalidList ?c_x_InvalidList ?k_x_InvalidList ?lT_InvalidList ?kC_InvalidList ?eC_InvalidList ?tC_InvalidList ?hC_InvalidList ?iC_InvalidList ?sC_InvalidList ?g_F ?pg_F ?hd_F ?po_F ?sa_F ?mk_F ?kc_F ?nL_F ?nC_F ?in_F ?if_F ?l_Fi ?c_Fi ?k_Fi ?lT_F ?at_FL ?gt_FL ?tk_FL ?rc_FL ?l_FL ?c_FL ?k_FL ?at_FC ?gt_FC ?tk_FC ?rc_FC ?l_FC ?c_FC ?k_FC ?eq_F ?ie_F ?l_FE ?c_FE ?k_FE ?i1_F ?i2_F ?i3_F ?i4_F ?cC_F ?tC_F ?a_L ?l_L ?c_L ?k_L ?lc_L ?p_L ?hd_L ?n_L ?t_L ?at_O ?fn_O ?l_O ?c_O ?k_O ?lc_O ?p_O ?hd_O ?n_O ?t_O ?at_C ?fn_C ?l_C ?c_C ?k_C ?fi_C ?ne_T
    (case z_isinstance => k_is); (case z_int => k_is); (case z_bool => k_is); (case z_str => k_is); (case z_sorted => k_is); (case z_tuple => k_is)
    (case z_range => k_is); (case z_sum => k_is); (case z_len => k_is); (case z_all => k_is); (case z_list => k_is); (case v_LETTERS => k_is)
    (case v_MOST_CHAINS => k_is); (case v_LONGEST_NAME => k_is); (case a_is_whole => k_is); (case l_is_whole => k_is); (case c_is_whole => k_is); (case k_is_whole => k_is)
    (case a_is_name => k_is); (case l_is_name => k_is); (case c_is_name => k_is); (case k_is_name => k_is); (case a_is_name_list => k_is); (case l_is_name_list => k_is)
    (case c_is_name_list => k_is); (case k_is_name_list => k_is); (case a_check_name => k_is); (case l_check_name => k_is); (case c_check_name => k_is); (case k_check_name => k_is)
    (case a_key_in => k_is); (case l_key_in => k_is); (case c_key_in => k_is); (case k_key_in => k_is); (case a__are_letters => k_is); (case l__are_letters => k_is)
    (case c__are_letters => k_is); (case k__are_letters => k_is); (case a__are_chains => k_is); (case l__are_chains => k_is); (case c__are_chains => k_is); (case k__are_chains => k_is)
    (case a__law_purse => k_is); (case l__law_purse => k_is); (case c__law_purse => k_is); (case k__law_purse => k_is); (case a__law_draw => k_is); (case l__law_draw => k_is)
    (case c__law_draw => k_is); (case k__law_draw => k_is); (case a__law_form => k_is); (case l__law_form => k_is); (case c__law_form => k_is); (case k__law_form => k_is)
    (case a__law_name => k_is); (case l__law_name => k_is); (case c__law_name => k_is); (case k__law_name => k_is); (case a__law_names => k_is); (case l__law_names => k_is)
    (case c__law_names => k_is); (case k__law_names => k_is); (case a__law_key => k_is); (case l__law_key => k_is); (case c__law_key => k_is); (case k__law_key => k_is)
    (case a__law_whole => k_is); (case l__law_whole => k_is); (case c__law_whole => k_is); (case k__law_whole => k_is); (case a__law_right_key => k_is); (case l__law_right_key => k_is)
    (case c__law_right_key => k_is); (case k__law_right_key => k_is); (case a__law_no_name => k_is); (case l__law_no_name => k_is); (case c__law_no_name => k_is); (case k__law_no_name => k_is)
    (case a__law_no_list => k_is); (case l__law_no_list => k_is); (case c__law_no_list => k_is); (case k__law_no_list => k_is); (case a__law_strangers => k_is); (case l__law_strangers => k_is)
    (case c__law_strangers => k_is); (case k__law_strangers => k_is); (case a_law => k_is); (case l_law => k_is); (case c_law => k_is); (case k_law => k_is)
    (case g_InvalidForm => k_is); (case xL_InvalidForm => k_is); (case sa_InvalidForm => k_is); (case ga_InvalidForm => k_is); (case gg_InvalidForm => k_is); (case no_InvalidForm => k_is)
    (case in_InvalidForm => k_is); (case ti_InvalidForm => k_is); (case l_x_InvalidForm => k_is); (case c_x_InvalidForm => k_is); (case k_x_InvalidForm => k_is); (case lT_InvalidForm => k_is)
    (case kC_InvalidForm => k_is); (case eC_InvalidForm => k_is); (case tC_InvalidForm => k_is); (case hC_InvalidForm => k_is); (case iC_InvalidForm => k_is); (case sC_InvalidForm => first | rfl | k_is)
    (case g_InvalidName => k_is); (case xL_InvalidName => k_is); (case sa_InvalidName => k_is); (case ga_InvalidName => k_is); (case gg_InvalidName => k_is); (case no_InvalidName => k_is)
    (case in_InvalidName => k_is); (case ti_InvalidName => k_is); (case l_x_InvalidName => k_is); (case c_x_InvalidName => k_is); (case k_x_InvalidName => k_is); (case lT_InvalidName => k_is)
    (case kC_InvalidName => k_is); (case eC_InvalidName => k_is); (case tC_InvalidName => k_is); (case hC_InvalidName => k_is); (case iC_InvalidName => k_is); (case sC_InvalidName => first | rfl | k_is)
    (case g_InvalidList => k_is); (case xL_InvalidList => k_is); (case sa_InvalidList => k_is); (case ga_InvalidList => k_is); (case gg_InvalidList => k_is); (case no_InvalidList => k_is)
    (case in_InvalidList => k_is); (case ti_InvalidList => k_is); (case l_x_InvalidList => k_is); (case c_x_InvalidList => k_is); (case k_x_InvalidList => k_is); (case lT_InvalidList => k_is)
    (case kC_InvalidList => k_is); (case eC_InvalidList => k_is); (case tC_InvalidList => k_is); (case hC_InvalidList => k_is); (case iC_InvalidList => k_is); (case sC_InvalidList => first | rfl | k_is)
    (case g_F => k_is); (case pg_F => k_is); (case hd_F => k_is); (case po_F => k_is); (case sa_F => k_is); (case mk_F => k_is)
    (case kc_F => k_is); (case nL_F => k_is); (case nC_F => k_is); (case in_F => k_is); (case if_F => k_is); (case l_Fi => k_is)
    (case c_Fi => k_is); (case k_Fi => k_is); (case lT_F => k_is); (case at_FL => k_is); (case gt_FL => k_is); (case tk_FL => k_is)
    (case rc_FL => k_is); (case l_FL => k_is); (case c_FL => k_is); (case k_FL => k_is); (case at_FC => k_is); (case gt_FC => k_is)
    (case tk_FC => k_is); (case rc_FC => k_is); (case l_FC => k_is); (case c_FC => k_is); (case k_FC => k_is); (case eq_F => k_is)
    (case ie_F => k_is); (case l_FE => k_is); (case c_FE => k_is); (case k_FE => k_is); (case i1_F => k_is); (case i2_F => k_is)
    (case i3_F => k_is); (case i4_F => k_is); (case cC_F => k_is); (case tC_F => k_is); (case a_L => k_is); (case l_L => k_is)
    (case c_L => k_is); (case k_L => k_is); (case lc_L => k_is); (case p_L => rfl); (case hd_L => first | kernel_rfl | decide +kernel); (case n_L => first | rfl | kernel_rfl | decide +kernel)
    (case t_L => exact hT8 _ (by decide)); (case at_O => k_is); (case fn_O => k_is); (case l_O => k_is); (case c_O => k_is); (case k_O => k_is)
    (case lc_O => k_is); (case p_O => rfl); (case hd_O => first | kernel_rfl | decide +kernel); (case n_O => first | rfl | kernel_rfl | decide +kernel); (case t_O => exact hT8 _ (by decide)); (case at_C => k_is)
    (case fn_C => k_is); (case l_C => k_is); (case c_C => k_is); (case k_C => k_is); (case fi_C => k_is); (case ne_T => decide)
