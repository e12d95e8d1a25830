import PyProof.Rows.All
import Wide.All
import OpenK.AllK
import Wide.FinOn
import HandS.ForMost
import HandS.Exc
import HandS.TryOnly
import HandS.ExcOwn
import HandS.WordsExc
import HandS.IsInst
import HandS.Wide
import HandS.Style
import PyProof.CollectStr
import PyProof.Rows.RuleB_pow
import HandS.Codes
import HandS.ExcInit
import HandS.ExcField
import HandS.Property
import HandS.Defaults
import PyProof.TupleOfStr
import HandS.ExcIs
import HandS.MakeKw
import HandS.MakeKwOnly
import HandS.ExcValue
import PySem.Challenge.RW_betweenlists_k01_errors_made
import HandS.Star
import HandS.CallSlots
import HandS.Nested
import HandS.FromBytesMap
import KE.SortKeyHeap
import KE.LtData
import PyProof.NeKinds
set_option Elab.async false
set_option linter.all false
set_option maxRecDepth 100000
set_option maxHeartbeats 4000000
namespace Bt
open PySem PySem.Spec PyProof.Rows L2
/-! ### heaps that grow, or that change at one place -/
/-- all but what stands at p is as it was -/
def But (p : Addr) (H H' : Hp) : Prop := ∀ b o, b ≠ p → H b = some o → H' b = some o
theorem But.refl {p : Addr} {H : Hp} : But p H H := fun _ _ _ h => h
theorem But.trans {p : Addr} {H H1 H2 : Hp} (a : But p H H1) (b : But p H1 H2) : But p H H2 := fun c o n h => b c o n (a c o n h)
theorem But.of {p : Addr} {H H' : Hp} (a : Same H H') : But p H H' := fun c o _ h => a c o h
theorem But.upd {p : Addr} {H : Hp} {o : HO} : But p H (upd H p o) := fun b u n h => by rw [upd_ne n]; exact h
theorem Same.new {H : Hp} {p : Addr} {o : HO} (h : H p = none) : Same H (upd H p o) := fun a u e => by
  rw [upd_ne (ne_of_none e h)]; exact e
theorem But.new {q p : Addr} {H : Hp} {o : HO} (h : H p = none) : But q H (L2.upd H p o) := But.of (Same.new h)
theorem But.free {p : Addr} {H H' : Hp} (e : But p H H') {l : Addr} (n : l ≠ p) (h : H' l = none) : H l = none := by
  cases q : H l with
  | none => rfl
  | some o =>
    rw [e l o n q] at h
    cases h
theorem sz {n : Nat} (h : n ≤ 100000) : n ≤ sizeLine := Nat.le_trans h (by decide)
theorem szlt {n : Nat} (h : n < 100000) : n < sizeLine := Nat.lt_of_lt_of_le h (by decide)

/-! ### operators, of several kinds at once -/
section
variable {X : Cx}
def rAddStr : R2 := fun x y H Q => ∃ i j, x = .str i ∧ y = .str j ∧ i.length + j.length ≤ sizeLine ∧ Q (.str (i ++ j)) H
def rAddU : R2 := fun x y H Q => rI0 (fun i j => .int (i + j)) x y H Q ∨ (rAddStr x y H Q ∨ rCat x y H Q)
theorem op_addU : OpR X (binaryOp .Add) rAddU := OpR.or op_add (OpR.or op_add_str op_cat)
def rSub : R2 := rI0 fun i j => .int (i - j)
theorem op_subU : OpR X (binaryOp .Sub) rSub := op_sub
def rMod : R2 := rI (fun _ j => 0 < j) fun i j => .int (i % j)
theorem op_modU : OpR X (binaryOp .Mod) rMod := op_mod
def rFdiv : R2 := rI CDiv fun i j => .int (i / j)
theorem op_fdivU : OpR X (binaryOp .FloorDiv) rFdiv := op_fdiv
def rMulI : R2 := rI CMul fun i j => .int (i * j)
def rMulU : R2 := fun x y H Q => rMulI x y H Q ∨ (rI CMulW (fun i j => .int (i * j)) x y H Q ∨ rRep x y H Q)
theorem op_mulU : OpR X (binaryOp .Mult) rMulU := OpR.or op_mul (OpR.or op_mulW op_rep)
def rLtI : R2 := rI0 fun i j => .bl (decide (i < j))
def rLeI : R2 := rI0 fun i j => .bl (decide (i ≤ j))
def rGtI : R2 := rI0 fun i j => .bl (decide (j < i))
def rGeI : R2 := rI0 fun i j => .bl (decide (j ≤ i))
theorem op_ltI : OpR X (compareOp .Lt) rLtI := op_lt
theorem op_leI : OpR X (compareOp .LtE) rLeI := op_le
theorem op_gtI : OpR X (compareOp .Gt) rGtI := op_gt
theorem op_geI : OpR X (compareOp .GtE) rGeI := op_ge
def rEqU (K : PySem.W.Frag) : R2 := fun x y H Q => rEq x y H Q ∨ rEqD K x y H Q
theorem op_eqU (hu : X.A.units + 64 < cLine) : OpR X (compareOp .Eq) (rEqU X.K) := OpR.or op_eq (op_eqD hu)
def rNeU (K : PySem.W.Frag) : R2 := fun x y H Q => rNe x y H Q ∨ rNeD K x y H Q
theorem op_neU (hu : X.A.units + 64 < cLine) : OpR X (compareOp .NotEq) (rNeU X.K) := OpR.or op_ne (op_neD hu)
end
section
variable {H : Hp} {Q : VK} {i j : Int} {x y : V} {σ : L2.St} {K : PySem.W.Frag}
theorem q_var {n : Nat} {v : V} (h : σ[n]? = some (some v)) (q : Q v H) : tVar n σ H Q := ⟨v, h, q⟩
theorem q_add (q : Q (.int (i + j)) H) : rAddU (.int i) (.int j) H Q := .inl ⟨i, j, rfl, rfl, q⟩
theorem q_addS {a b : Str} (h : a.length + b.length ≤ sizeLine) (q : Q (.str (a ++ b)) H) : rAddU (.str a) (.str b) H Q := .inr (.inl ⟨a, b, rfl, rfl, h, q⟩)
theorem q_cat {l b : Addr} {xs zs : List V} (hl : H l = some (.lst xs)) (hb : H b = some (.lst zs)) (hz : xs.length + zs.length ≤ sizeLine) (q : ∀ p H', H p = none → Same H H' → H' p = some (.lst (xs ++ zs)) → Q (.ref p) H') : rAddU (.ref l) (.ref b) H Q :=
  .inr (.inr ⟨l, b, xs, zs, rfl, rfl, hl, hb, hz, fun p n => q p _ n (Same.new n) upd_same⟩)
theorem q_sub (q : Q (.int (i - j)) H) : rSub (.int i) (.int j) H Q := ⟨i, j, rfl, rfl, q⟩
theorem q_mod (h : 0 < j) (q : Q (.int (i % j)) H) : rMod (.int i) (.int j) H Q := ⟨i, j, rfl, rfl, h, q⟩
theorem q_fdiv (h : 0 < j) (h2 : j < 1073741824) (q : Q (.int (i / j)) H) : rFdiv (.int i) (.int j) H Q := ⟨i, j, rfl, rfl, ⟨h, h2⟩, q⟩
theorem q_mulL (h : -(2 ^ 64) < i ∧ i < 2 ^ 64) (q : Q (.int (i * j)) H) : rMulU (.int i) (.int j) H Q := .inl ⟨i, j, rfl, rfl, .inl h, q⟩
theorem q_mulR (h : -(2 ^ 64) < j ∧ j < 2 ^ 64) (q : Q (.int (i * j)) H) : rMulU (.int i) (.int j) H Q := .inl ⟨i, j, rfl, rfl, .inr h, q⟩
theorem q_lt (q : Q (.bl (decide (i < j))) H) : rLtI (.int i) (.int j) H Q := ⟨i, j, rfl, rfl, q⟩
theorem q_le (q : Q (.bl (decide (i ≤ j))) H) : rLeI (.int i) (.int j) H Q := ⟨i, j, rfl, rfl, q⟩
theorem q_gt (q : Q (.bl (decide (j < i))) H) : rGtI (.int i) (.int j) H Q := ⟨i, j, rfl, rfl, q⟩
theorem q_ge (q : Q (.bl (decide (j ≤ i))) H) : rGeI (.int i) (.int j) H Q := ⟨i, j, rfl, rfl, q⟩
theorem q_eq (h : scal x y = true) (q : Q (.bl (decide (x = y))) H) : rEqU K x y H Q := .inl ⟨h, q⟩
theorem q_ne (h : scal x y = true) (q : Q (.bl (!decide (x = y))) H) : rNeU K x y H Q := .inl ⟨h, q⟩
theorem q_eqD {d e : PyData} (hd : Dp K H x d) (he : Dp K H y e) (sd : SeqAt.shaped d = true) (se : SeqAt.shaped e = true) (q : Q (.bl (PyData.eqv d e)) H) : rEqU K x y H Q := .inr ⟨d, e, hd, he, sd, se, q⟩
theorem q_neD {d e : PyData} (hd : Dp K H x d) (he : Dp K H y e) (sd : SeqAt.shaped d = true) (se : SeqAt.shaped e = true) (q : Q (.bl (!PyData.eqv d e)) H) : rNeU K x y H Q := .inr ⟨d, e, hd, he, sd, se, q⟩
theorem q_ixL {p : Addr} {xs : List V} {v : V} (h : SqL K H p xs) (ha : atI xs i = some v) (q : Q v H) : rIx K (.ref p) (.int i) H Q := .inl ⟨p, xs, i, v, rfl, rfl, h, ha, q⟩
theorem q_ixT {p : Addr} {xs : List V} {v : V} (h : SqT K H p xs) (ha : atI xs i = some v) (q : Q v H) : rIx K (.ref p) (.int i) H Q := .inr (.inl ⟨p, xs, i, v, rfl, rfl, h, ha, q⟩)
theorem q_ixS {z : Str} {c : Nat} (hz : z.length ≤ sizeLine) (ha : atI z.cps.toList i = some c) (q : Q (.str ⟨#[c]⟩) H) : rIx K (.str z) (.int i) H Q := .inr (.inr ⟨z, i, c, rfl, rfl, hz, ha, q⟩)
theorem q_test {b : Bool} {R : Bool → Prop} (q : R b) : ∃ k, V.bl b = .bl k ∧ R k := ⟨b, rfl, q⟩
end

/-- a display's new object -/
def rNewT (Q : VK) (xs : List V) (H : Hp) : Prop := xs.length ≤ sizeLine ∧ ∀ p, H p = none → Q (.ref p) (upd H p (.tup xs))
def rNewL (Q : VK) (xs : List V) (H : Hp) : Prop := xs.length ≤ sizeLine ∧ ∀ p, H p = none → Q (.ref p) (upd H p (.lst xs))
/-! ### steps: one lemma a word -/
section
variable {σ : L2.St} {H : Hp} {Q : VK} {R : Bool → Hp → Prop} {D : Ends} {ta tb tc te to : TE} {t u : TS} {c d : TT} {ts tr : TA} {r r' : R2} {g : TG} {K : PySem.W.Frag} {v : V} {n i : Nat}
theorem s_seq (h : t { D with nx := u D } σ H) : tSeq t u D σ H := h
theorem s_next (h : D.nx σ H) : tNext D σ H := h
theorem s_drop (h : te σ H fun _ H1 => D.nx σ H1) : tDrop te D σ H := h
theorem s_ret (h : te σ H D.rt) : tRet te D σ H := h
theorem s_retN (h : D.rt .non H) : tRetN D σ H := h
theorem s_ifS (h : c σ H fun b H1 => if b = true then t D σ H1 else u D σ H1) : tIfS c t u D σ H := h
theorem s_asg (h : te σ H fun x H1 => g x σ H1 D.nx) : tAsg te g D σ H := h
theorem s_gname {N : L2.St → Hp → Prop} (h : N (σ.set i (some v)) H) : gName i v σ H N := h
theorem s_var (h : σ[i]? = some (some v)) (q : Q v H) : tVar i σ H Q := ⟨v, h, q⟩
theorem s_c (q : Q v H) : tC v σ H Q := q
theorem s_op (h : ta σ H fun x H1 => tb σ H1 fun y H2 => r x y H2 Q) : tOp r ta tb σ H Q := h
theorem s_test (h : te σ H fun x H' => ∃ k, x = .bl k ∧ R k H') : tTest te σ H R := h
theorem s_B (h : te σ H fun x H' => ∃ k, x = .bl k ∧ R k H') : tB te σ H R := h
theorem s_andT (h : c σ H fun b H1 => if b = true then d σ H1 R else R false H1) : tAnd c d σ H R := h
theorem s_orT (h : c σ H fun b H1 => if b = true then R true H1 else d σ H1 R) : tOr c d σ H R := h
theorem s_notT (h : c σ H fun b H1 => R (!b) H1) : tNot c σ H R := h
theorem s_andV (h : ta σ H fun x H1 => ∃ c, x = .bl c ∧ if c = true then tb σ H1 Q else Q (.bl false) H1) : tAndV ta tb σ H Q := h
theorem s_orV (h : ta σ H fun x H1 => ∃ c, x = .bl c ∧ if c = true then Q (.bl true) H1 else tb σ H1 Q) : tOrV ta tb σ H Q := h
theorem s_notV (h : ta σ H fun x H1 => ∃ c, x = .bl c ∧ Q (.bl (!c)) H1) : tNotV ta σ H Q := h
theorem s_ifV (h : c σ H fun b H1 => if b = true then ta σ H1 Q else tb σ H1 Q) : tIf c ta tb σ H Q := h
theorem s_chain (h : ta σ H fun x H1 => tb σ H1 fun y H2 => r x y H2 fun z H3 => ∃ k, z = .bl k ∧ (if k = true then tc σ H3 fun w' H4 => r' y w' H4 Q else Q (.bl false) H3)) : tChain r r' ta tb tc σ H Q := h
theorem s_nil {R : List V → Hp → Prop} (q : R [] H) : tNil σ H R := q
theorem s_cons {R : List V → Hp → Prop} (h : te σ H fun x H1 => ts σ H1 fun xs H2 => R (x :: xs) H2) : tCons te ts σ H R := h
/-- a display: the new object by what is known of it -/
theorem s_tup (h : ts σ H fun xs H1 => rNewT Q xs H1) : tTup ts σ H Q := h
theorem s_lst (h : ts σ H fun xs H1 => rNewL Q xs H1) : tLst ts σ H Q := h
theorem q_newT {xs : List V} (hl : xs.length ≤ sizeLine) (q : ∀ p H', H p = none → Same H H' → H' p = some (.tup xs) → Q (.ref p) H') : rNewT Q xs H := ⟨hl, fun p n => q p _ n (Same.new n) upd_same⟩
theorem q_newL {xs : List V} (hl : xs.length ≤ sizeLine) (q : ∀ p H', H p = none → Same H H' → H' p = some (.lst xs) → Q (.ref p) H') : rNewL Q xs H := ⟨hl, fun p n => q p _ n (Same.new n) upd_same⟩
theorem new_by {o : HO} {R : Addr → Hp → Prop} (h : ∀ p H', H p = none → Same H H' → H' p = some o → R p H') : ∀ p, H p = none → R p (upd H p o) := fun p n => h p _ n (Same.new n) upd_same
theorem s_call {sp : Sp} {dvs : List V} {E : XK} (h : ts σ H fun vs H1 => sp (vs ++ dvs) H1 Q E) : tCall sp dvs E ts σ H Q := h
theorem s_CB {f : List V → Hp → VK → Prop} (h : ts σ H fun vs H1 => f vs H1 Q) : tCB f ts σ H Q := h
theorem s_BM {T : String} {f : V → List V → Hp → VK → Prop} (h : to σ H fun x H1 => tyV K T x H1 ∧ ts σ H1 fun xs H2 => f x xs H2 Q) : tBM K T f to ts σ H Q := h
theorem s_sl {f : V → Option Int → Option Int → Hp → VK → Prop} {tl th : TO} (h : te σ H fun x H1 => tl σ H1 fun l H2 => th σ H2 fun u H3 => f x l u H3 Q) : tSl f te tl th σ H Q := h
theorem s_noPart {R : Option Int → Hp → Prop} (q : R none H) : tNoPart σ H R := q
theorem s_part {R : Option Int → Hp → Prop} (h : te σ H fun x H1 => ∃ i, x = .int i ∧ R (some i) H1) : tPart te σ H R := h
theorem s_gsub {f : TSet} {N : L2.St → Hp → Prop} (h : to σ H fun o H1 => te σ H1 fun i H2 => f o i v H2 fun H3 => N σ H3) : gSub to te f v σ H N := h
theorem s_int {j : Int} {R : Int → Prop} (q : R j) : ∃ i, V.int j = .int i ∧ R i := ⟨j, rfl, q⟩
theorem s_ifT {A B : Prop} (h : A) : if true = true then A else B := by rw [if_pos rfl]; exact h
theorem s_ifF {A B : Prop} (h : B) : if false = true then A else B := by rw [if_neg Bool.false_ne_true]; exact h
theorem s_if {k : Bool} {A B : Prop} (h : k = true → A) (h' : k = false → B) : if k = true then A else B := by
  cases k with
  | true => exact s_ifT (h rfl)
  | false => exact s_ifF (h' rfl)
theorem q_setL {p : Addr} {xs : List V} {k : Int} {j : Nat} {R : Hp → Prop} (h : H p = some (.lst xs)) (hj : ixN xs.length k = some j) (q : R (upd H p (.lst (xs.set j v)))) : rSetL (.ref p) (.int k) v H R := ⟨p, xs, k, j, rfl, rfl, h, hj, q⟩
theorem s_if1 {k : Bool} {A B : Prop} (e : k = true) (h : A) : if k = true then A else B := by subst e; exact s_ifT h
theorem s_if0 {k : Bool} {A B : Prop} (e : k = false) (h : B) : if k = true then A else B := by subst e; exact s_ifF h
theorem s_ifD {p : Prop} {inst : Decidable p} {A B : Prop} (h : p → A) (h' : ¬ p → B) : if @decide p inst = true then A else B := by
  by_cases z : p
  · rw [decide_eq_true z]; exact s_ifT (h z)
  · rw [decide_eq_false z]; exact s_ifF (h' z)
end
end Bt
namespace Bt
open PySem PySem.Spec PyProof.Rows L2
section
variable {X : Cx}
/-! ### a power of any base -/
def CPowW (i j : Int) : Prop := 0 ≤ j ∧ (Builtin.Int.intBits i : Int) * j ≤ 2 ^ 27
theorem op_powW : OpR X (binaryOp .Pow) (rI CPowW fun i j => .int (i ^ j.toNat)) := opI fun _ _ _ _ _ _ _ hc q => pow_int hc.1 hc.2 q
/-! ### text[::-1] -/
def revT (z : Str) : Str := ⟨((Builtin.Str.strSliceIndices none none (-1) z.length).filterMap (z.cps[·]?)).toArray⟩
def tRevS (te : TE) : TE := fun σ H Q => te σ H fun x H1 => ∃ z, x = .str z ∧ (revT z).length ≤ sizeLine ∧ Q (.str (revT z)) H1
theorem pe_revS {e : Expr} {te : TE} {k : Nat} {p1 p2 p3 pos : Pos} (he : PE X e te) : PE X (.Subscript e (.Slice none none (some (.UnaryOp .USub (.Constant (.int 1) k p1) p2)) p3) pos) (tRevS te) := by
  refine ⟨fun pins s σ H Q I h => ?_⟩
  refine Subscript_ (thn (he.run pins s σ H _ I h) fun v s1 ⟨x, H1, I1, r1, q1⟩ => ?_)
  obtain ⟨z, ex, hz, q⟩ := q1
  subst ex
  obtain ⟨t, rfl⟩ := r1
  have hst : PO X (some (.UnaryOp .USub (.Constant (.int 1) k p1) p2)) (tPart (tUn (rU fun i => .int (-i)) (tC (.int 1)))) := po_some (pe_un un_neg pe_int)
  refine wpAny_Slice (thn (po_none.run pins s1 σ H1 (fun o H2 => o = none ∧ H2 = H1) I1 ⟨rfl, rfl⟩) fun vl s2 ⟨l, H2, I2, pl, el, e2⟩ => ?_)
  subst el e2
  refine thn (po_none.run pins s2 σ H2 (fun o H3 => o = none ∧ H3 = H2) I2 ⟨rfl, rfl⟩) fun vu s3 ⟨u, H3, I3, pu, eu, e3⟩ => ?_
  subst eu e3
  refine thn (hst.run pins s3 σ H3 (fun o H4 => o = some (-1) ∧ H4 = H3) I3 ⟨1, rfl, -1, rfl, rfl, rfl⟩) fun vs s4 ⟨o, H4, I4, ps, eo, e4⟩ => ?_
  subst eo e4
  have I5 : Inv X pins σ H4 { s4 with heap := s4.heap.push { cls := .type "slice", data := .fields #[vl, vu, vs] } } := I4.kept (t' := s4.toks) fun b ob q => Heap.get?_push_of_some _ q
  obtain ⟨l, rfl, el⟩ := IsPart.raw pl
  obtain ⟨u, rfl, eu⟩ := IsPart.raw pu
  obtain ⟨st, rfl, es⟩ := IsPart.raw ps
  show wpAny (model X.prog X.w) X.A (subscriptTail e (.Slice none none (some (.UnaryOp .USub (.Constant (.int 1) k p1) p2)) p3) (.str z t) (.ref s4.heap.objs.size)) (EP X pins σ Q) X.xe { s4 with heap := s4.heap.push { cls := .type "slice", data := .fields #[partValue l, partValue u, partValue st] } }
  have e1 : ((st.map (·.1)).getD 1) = -1 := by rw [es]; rfl
  refine tail_any (ops := [.ref s4.heap.objs.size, .str z t]) (typeIs_str _ _ _) (F.slot_str_getitem.lookup) ?_ (by with_unfolding_all rfl)
  refine wpAny_getItem_str_slice (l := l) (u := u) (st := st) (Heap.IsSliceOf.new _ _ _ _) (by rw [e1]; rfl) ?_
  show Made.post (if ((((st.map (·.1)).getD 1) == 1 && (Builtin.Str.strSliceIndices (l.map (·.1)) (u.map (·.1)) ((st.map (·.1)).getD 1) z.length).length == z.length) = true) then Made.val (.str z t)
    else Made.str ⟨((Builtin.Str.strSliceIndices (l.map (·.1)) (u.map (·.1)) ((st.map (·.1)).getD 1) z.length).filterMap (z.cps[·]?)).toArray⟩) (EP X pins σ Q) _
  rw [e1, el, eu, if_neg (by simp)]
  exact ⟨hz, .str _, H4, I5.tok _, ⟨_, rfl⟩, q⟩
end
/-! ### sorted(text) -/
/-- the signs of a text, each as a text -/
def signs (z : Str) : List Str := z.cps.toList.map fun c => ⟨#[c]⟩
theorem strs_of_signs {z : Str} {acc : Array Value} (h : ItemsOf (SignAt z) acc z.cps.size) : StrsAre acc.toList (signs z) := by
  have key : ∀ (l : List Value) (m : List Nat), l.length = m.length → (∀ (j : Nat) (v : Value) (c : Nat), l[j]? = some v → m[j]? = some c → ∃ u, v = .str ⟨#[c]⟩ u) → StrsAre l (m.map fun c => ⟨#[c]⟩) := by
    intro l
    induction l with
    | nil =>
      intro m hl _
      cases m with
      | nil => exact .nil
      | cons a r => cases hl
    | cons x l ih =>
      intro m hl hm
      cases m with
      | nil => cases hl
      | cons c r =>
        obtain ⟨u, e⟩ := hm 0 x c rfl rfl
        rw [e]
        exact .cons _ _ (ih r (Nat.succ.inj hl) fun j v d h1 h2 => hm (j + 1) v d (by simpa using h1) (by simpa using h2))
  refine key _ _ (by rw [Array.length_toList, Array.length_toList, h.1]) fun j v c h1 h2 => ?_
  obtain ⟨d, u, e1, e2⟩ := h.2 j v (by rw [← Array.getElem?_toList]; exact h1)
  rw [← Array.getElem?_toList, h2] at e1
  cases e1
  exact ⟨u, e2⟩
section
variable {X : Cx}
def rSortTx : List V → Hp → VK → Prop := fun vs H Q => ∃ z : Str, vs = [V.str z] ∧ z.length < 64 ∧ ∀ (ys : List Str) (p : Addr), ys.Perm (signs z) → sortedS ys = true → H p = none → Q (.ref p) (upd H p (.lst (ys.map V.str)))
theorem cr_sortedTx (hc : X.calm = true) : CallR X (.builtin "sorted") rSortTx := by
  intro pins s σ H vs us Q I r h
  obtain ⟨z, rfl, h64, q⟩ := h
  obtain ⟨u, rfl, rx⟩ := vals1 r
  obtain ⟨t, rfl⟩ := rx
  have hz : z.cps.size ≤ sizeLine := sz (Nat.le_of_lt (Nat.lt_trans h64 (by decide)))
  refine PySem.Calls.call_function_entry kind_sorted plain_sorted entry_sorted (args_sorted1 _) ?_
  unfold Builtin.«sorted»
  refine wpAny_bind (m := checkCount "sorted" 1 1 _) (wpAny_pure ?_)
  refine wpAny_bind (wpAny_collect_str (show X.A.in1.handled = none from I.ok.hd hc) z t (fun s' acc k eg ed eo hacc => ?_) hz)
  have hS := strs_of_signs hacc
  have hlen : acc.toList.length < 64 := by rw [Array.length_toList, hacc.1]; exact h64
  refine wpAny_bind (wpAny_newList ?_ (sz (by omega)))
  obtain ⟨hp, g, d, tk, os⟩ := s'
  dsimp only at eg ed eo
  subst eg ed eo
  have ho : (hp.push (seqObj "list" acc.toList.toArray 0)).get? hp.objs.size = some (seqObj "list" acc.toList.toArray 0) := Heap.get?_push_size _ rfl
  refine wpAny_bind (wpAny_holding (wpAny_call_entry slot_list_sort ⟨_, ho, rfl⟩ entry_list_sort (list_sort_treeK strKind_oneLt ho hS.keysOf (fun v₁ v₂ rest e => keyKind_strs (by rw [← e]; exact hS)) hlen fun st' a1 a2 => ⟨_, rfl, ?_⟩) (args_list_sort _)))
  obtain ⟨ss', h1, h2, h3⟩ := sorted_out_str hS a1 a2
  obtain ⟨ep, he⟩ := sortedHeap_at (vs := acc.toList) (out := (arrOf st').map (·.2)) (n := 0) ho
  have I1 : Inv X pins σ H ⟨hp, s.gens, s.drawn, tk, s.os⟩ := I.kept (t' := tk) k
  have old : ∀ b o, hp.get? b = some o → (sortedHeap (hp.push (seqObj "list" acc.toList.toArray 0)) hp.objs.size acc.toList ((arrOf st').map (·.2))).get? b = some o := fun b o e2 => by
    have hlt := Heap.lt_size e2
    rw [sortedHeap_old (Nat.ne_of_lt hlt) (by rw [size_push']; exact Nat.lt_succ_of_lt hlt), Heap.get?_push_ne _ _ _ (Nat.ne_of_lt hlt)]
    exact e2
  refine wpAny_pure ⟨_, rfl, ?_⟩
  have hl2 : (ss'.map V.str).length ≤ sizeLine := by rw [List.length_map, h2.length_eq]; exact sz (by unfold signs; rw [List.length_map, Array.length_toList]; exact Nat.le_of_lt (Nat.lt_trans h64 (by decide)))
  exact ⟨.ref _, upd H hp.objs.size (.lst (ss'.map V.str)), I1.laid (t' := tk) old (Nat.le_refl _) ⟨hl2, ((arrOf st').map (·.2)).toList, ep, vals_of_strs h1, he⟩, rfl, q ss' _ h2 h3 (I1.hok.fresh (Nat.le_refl _))⟩
end
end Bt
namespace Bt
open PySem PySem.Spec PyProof.Rows L2
variable {X : Cx}
/-! ### tuple(text) -/
theorem vals_of_signs {z : Str} {acc : Array Value} (h : ItemsOf (SignAt z) acc z.cps.size) : Vals ((signs z).map V.str) acc.toList := vals_of_strs (strs_of_signs h)
def rTupTx : List V → Hp → VK → Prop := fun vs H Q => ∃ z : Str, vs = [V.str z] ∧ z.length ≤ sizeLine ∧ ∀ p, H p = none → Q (.ref p) (upd H p (.tup ((signs z).map V.str)))
theorem q_tupTx {H : Hp} {Q : VK} {z : Str} (h : z.length ≤ sizeLine) (q : ∀ p H', H p = none → Same H H' → H' p = some (.tup ((signs z).map V.str)) → Q (.ref p) H') : rTupTx [.str z] H Q := ⟨z, rfl, h, fun p n => q p _ n (Same.new n) upd_same⟩
theorem call_tupleTx (hc : X.calm = true) : CallR X (.type "tuple") rTupTx := by
  intro pins s σ H vs us Q I r h
  obtain ⟨z, rfl, hz, q⟩ := h
  obtain ⟨u, rfl, rx⟩ := vals1 r
  obtain ⟨t, rfl⟩ := rx
  refine call_tuple_str (I.ok.hd hc) z t (fun h' tk acc k hacc => ?_) hz
  have I1 : Inv X pins σ H { s with heap := h', toks := tk } := I.kept (t' := tk) k
  have hl : ((signs z).map V.str).length ≤ sizeLine := by
    unfold signs
    rw [List.length_map, List.length_map, Array.length_toList]
    exact hz
  refine ⟨.ref h'.objs.size, _, I1.laid (t' := tk) (a := h'.objs.size) (o := .tup ((signs z).map V.str)) (fun b o e => Heap.get?_push_of_some _ e) (Nat.le_refl _) ⟨hl, acc.toList, vals_of_signs hacc, ?_⟩, rfl, q _ (I1.hok.fresh (Nat.le_refl _))⟩
  have e : acc.toList.toArray = acc := by simp
  rw [e]
  exact IsTup.new _ _
/-! ### C(e, ..), C's __init__ may raise; what is raised is wished for at the caller's slots -/
section
variable {CX : CXT} {k : Nat} {C f : Addr} {fd : FuncData} {ps : List Str} {sp : Sp} {dvs : List V} {ds : List Value} {E : L2.St → XK} {x : Str} {p pos : Pos} {e : Expr} {es : List Expr} {t : TA}
def tMakeS (C : Addr) (sp : Sp) (dvs : List V) (E : L2.St → XK) (t : TA) : TE := fun σ H Q => t σ H fun vs H1 => ∀ x dx, H1 x = none → H1 dx = none → dx ≠ x →
  sp (.ref x :: (vs ++ dvs)) (upd (upd H1 dx (.own x)) x (.ins C dx [])) (fun v H2 => v = .non ∧ Q (.ref x) H2) (E σ)
theorem run_makeS {pins : List (Addr × Obj)} {σ : L2.St} {H : Hp} {s : Shared} {Q : VK} {us : List Value} {vs : List V} (M : Mk X.K C f) (F : FnOk X.prog X.w X.K X.mg X.base CX k f fd ps sp) (hr : Room (k + 1) X.A) (hb : Binds X.K fd ps ds) (hd : Vals dvs ds)
    (hx : PassesAt CX X σ (E σ)) (I : Inv X pins σ H s) (r : Vals vs us)
    (h : ∀ x dx, H x = none → H dx = none → dx ≠ x → sp (.ref x :: (vs ++ dvs)) (upd (upd H dx (.own x)) x (.ins C dx [])) (fun v H2 => v = .non ∧ Q (.ref x) H2) (E σ)) :
    wpAny (model X.prog X.w) X.A (call (.ref C) us) (EP X pins σ Q) X.xe s := by
  have hq := h (s.heap.objs.size + 1) s.heap.objs.size (I.hok.fresh (Nat.le_succ _)) (I.hok.fresh (Nat.le_refl _)) (Nat.ne_of_lt (Nat.lt_succ_self _))
  have I2 := Inv.made (C := C) I
  have r2 : Vals (V.ref (s.heap.objs.size + 1) :: (vs ++ dvs)) (Value.ref (s.heap.objs.size + 1) :: (us ++ ds)) := .cons rfl (r.append hd)
  have hl : (Value.ref (s.heap.objs.size + 1) :: us ++ ds).length = ps.length := by
    have e := r2.length
    rw [F.len _ _ _ _ hq] at e
    exact e.symm
  refine wpAny_call (make_map (f := f) I.kIn M.makes M.init (beq_iff_eq.mp M.fn) (codeAny_mono (F.run _ X.stack _ _ ⟨Value.ref (s.heap.objs.size + 1) :: us, []⟩ (Value.ref (s.heap.objs.size + 1) :: (us ++ ds)) _ _ (E σ) (hr.make C us [])
    (I2.env0.make C us []) (hb _ (Value.ref (s.heap.objs.size + 1) :: us) I2.kIn hl) r2 hq) fun r s' hq' => ?_))
  cases r with
  | error e => exact hx pins _ _ e s' I2 hq'
  | ok fl =>
    cases fl with
    | ret u =>
      obtain ⟨v, H', I3, rv, ev, q3⟩ := I2.after hq'
      subst ev
      exact ⟨rv, ⟨V.ref (s.heap.objs.size + 1), H', I3, rfl, q3⟩⟩
    | next => exact False.elim hq'
    | brk => exact False.elim hq'
    | cont => exact False.elim hq'
theorem pe_makeS (M : Mk X.K C f) (F : FnOk X.prog X.w X.K X.mg X.base CX k f fd ps sp) (hr : Room (k + 1) X.A) (hg : Gl X x) (hm : X.mg x = some (.ref C)) (hb : Binds X.K fd ps ds) (hd : Vals dvs ds) (hx : ∀ σ, PassesAt CX X σ (E σ))
    (ha : PA X (e :: es) t) (hdb : (x == ("__debug__" : Str)) = false := by decide) (he : starEach (e :: es) X.env = (false, eval e X.env) :: starEach es X.env := by rfl) (hpl : (backTo pos (starEach es X.env)).any (·.1) = false := by rfl) :
    PE X (.Call (.Name x p) (e :: es) [] pos) (tMakeS C sp dvs E t) := by
  refine ⟨fun pins s σ H Q I h => ?_⟩
  refine wpAny_Call_Name_kw (ld_glob I hg hm ?_ hdb)
  refine PySem.W.callWith_K (h₀ := X.base) I.ok.mod.kin M.kp (thn (ha.run pos pins s σ H _ I h) fun us s1 ⟨vs, H1, I1, r, q⟩ => ⟨I1.kIn, ?_⟩) he hpl
  exact run_makeS M F hr hb hd (hx σ) I1 r q
end
/-! ### a comprehension over a text -/
theorem lc_str {z : Str} {g : TG} {tt : TT} {te : TE} {vs : List Nat} {σ : L2.St} {H1 : Hp} {D : Addr} {Qd : Hp → Prop} (Pv : Nat → Hp → Prop) (h0 : Pv 0 (upd H1 D (.lst [])))
    (hs : ∀ i (c : Nat) H, z.cps.toList[i]? = some c → Pv i H → g (.str ⟨#[c]⟩) (wipe σ vs) H fun σ2 H2 => wipe σ2 vs = wipe σ vs ∧ tt σ2 H2 fun b H3 =>
      if b = true then te σ2 H3 fun y H4 => ∃ acc, H4 D = some (.lst acc) ∧ acc.length < sizeLine ∧ Pv (i + 1) (upd H4 D (.lst (acc ++ [y]))) else Pv (i + 1) H3) (hd : ∀ H, Pv z.cps.size H → Qd H) :
    ∃ W : Nat → Nat → Hp → Prop, (∃ m, W 0 m (upd H1 D (.lst []))) ∧ ∀ i m H, W i m H →
      ((Its z).stop i H ∧ Qd H) ∨ ((Its z).go i H ∧ ∃ Nx : Hp → Prop, (∀ H', Nx H' → ∃ m', m' < m ∧ W (i + 1) m' H') ∧ ∀ x H', (Its z).yld i H x H' → g x (wipe σ vs) H' fun σ2 H2 => wipe σ2 vs = wipe σ vs ∧ tt σ2 H2 fun b H3 =>
        if b = true then te σ2 H3 fun y H4 => ∃ acc, H4 D = some (.lst acc) ∧ acc.length < sizeLine ∧ Nx (upd H4 D (.lst (acc ++ [y]))) else Nx H3) := by
  refine ⟨fun i m H => m = z.cps.size - i ∧ i ≤ z.cps.size ∧ Pv i H, ⟨z.cps.size, by simp, Nat.zero_le _, h0⟩, ?_⟩
  rintro i m H ⟨rfl, hi, p⟩
  by_cases hlt : i < z.cps.size
  · refine .inr ⟨hlt, Pv (i + 1), fun H' p' => ⟨z.cps.size - (i + 1), by omega, rfl, hlt, p'⟩, fun x H' y => ?_⟩
    obtain ⟨e, c, hc, ex⟩ := y
    subst e ex
    exact hs i c _ (by rw [Array.getElem?_toList]; exact hc) p
  · have e : i = z.cps.size := by omega
    subst e
    exact .inl ⟨Nat.le_refl _, hd H p⟩
theorem s_lc {wi : TI} {g : TG} {tt : TT} {te : TE} {vs : List Nat} {σ : L2.St} {H : Hp} {Q : VK} (h : wi σ H fun J H1 => ∀ D, H1 D = none → ∃ W : Nat → Nat → Hp → Prop, (∃ m, W 0 m (upd H1 D (.lst []))) ∧ ∀ i m H, W i m H →
  (J.stop i H ∧ Q (.ref D) H) ∨ (J.go i H ∧ ∃ Nx : Hp → Prop, (∀ H', Nx H' → ∃ m', m' < m ∧ W (i + 1) m' H') ∧ ∀ x H', J.yld i H x H' → g x (wipe σ vs) H' fun σ2 H2 => wipe σ2 vs = wipe σ vs ∧ tt σ2 H2 fun b H3 =>
    if b = true then te σ2 H3 fun y H4 => ∃ acc, H4 D = some (.lst acc) ∧ acc.length < sizeLine ∧ Nx (upd H4 D (.lst (acc ++ [y]))) else Nx H3)) : tLc wi g tt te vs σ H Q := h
theorem s_yes {σ : L2.St} {H : Hp} {R : Bool → Hp → Prop} (h : R true H) : tYes σ H R := h
theorem same_mut {H H' : Hp} {p : Addr} {o : HO} (e : Same H H') (h : H p = none) : Same H (upd H' p o) := fun a u ha => by
  rw [upd_ne (ne_of_none ha h)]
  exact e a u ha
theorem take_map_more {α β : Type} {f : α → β} {l : List α} {j : Nat} {x : α} (h : l[j]? = some x) : (l.take (j + 1)).map f = (l.take j).map f ++ [f x] := by
  rw [List.take_add_one, h, List.map_append]
  rfl
theorem s_iStr {te : TE} {σ : L2.St} {H : Hp} {R : It → Hp → Prop} (h : te σ H fun v H1 => ∃ x, v = .str x ∧ R (Its x) H1) : iStr te σ H R := h
theorem s_M0 {to : TE} {r : V → List V → Hp → VK → Prop} {σ : L2.St} {H : Hp} {Q : VK} (h : to σ H fun x H1 => (∃ a, x = .str a) ∧ r x [] H1 Q) : tM0 r to σ H Q := h
/-! ### x == y, x an instance of an own class with __eq__ -/
def rEqOwn (K : PySem.W.Frag) (C : Addr) (sp : Sp) (E : XK) : R2 := fun x y H Q => ∃ a dx fs t, x = .ref a ∧ H a = some (.ins C dx fs) ∧ TyX K H y t ∧ PySem.W.notFirst K C t = true ∧ sp [x, y] H (fun v H' => ∃ b, v = .bl b ∧ Q v H') E
theorem op_eqOwn {CX : CXT} {n : Nat} {C f : Addr} {fd : FuncData} {ps : List Str} {sp : Sp} {E : XK} (F : FnOk X.prog X.w X.K X.mg X.base CX n f fd ps sp) (hr : Room n X.A)
    (hs : PySem.W.findIn X.K (.ref C) "__eq__" = some (some (.ref f))) (hf : PySem.W.isFn X.K (.ref f) = true) (hb : Binds X.K fd ps []) (hx : Passes CX X E) : OpR X (compareOp .Eq) (rEqOwn X.K C sp E) := by
  intro pins s σ H x y v u Q I rx ry hq
  obtain ⟨a, dx, fs, t, rfl, ha, ty, hn, hsp⟩ := hq
  cases rx
  obtain ⟨mA, J, _⟩ := ins_get I.hok ha
  obtain ⟨od, J, _⟩ := J.look
  obtain ⟨m, hF⟩ := I.fr
  obtain ⟨P, Z, p, _⟩ := kit_of I ry ty
  show wpAny (model X.prog X.w) X.A (richCompare .Eq (.ref a) u) (EP X pins σ Q) X.xe s
  refine PySem.W.cmp_K (op := .Eq) (tb := t) hr.units0 hF I.ok.mod.kin J (Z.ty _ _ I.kIn p) hn hs hf ?_
  have hl := F.len _ _ _ _ hsp
  have r2 : Vals [V.ref a, y] [Value.ref a, u] := .cons rfl (.cons ry .nil)
  refine wpAny_call (codeAny_mono (F.run X.A X.stack s H ⟨[.ref a, u], []⟩ [.ref a, u] [.ref a, y] _ E hr I.env0 (by
    have := hb s [.ref a, u] I.kIn (by simpa using hl)
    simpa using this) r2 hsp) fun r s' hq => ?_)
  cases r with
  | error e => exact hx pins σ H s e s' I hq
  | ok fl =>
    cases fl with
    | ret w =>
      obtain ⟨z, H', I', rz, b, ez, q⟩ := I.after hq
      subst ez
      cases rz
      exact ⟨.bl b, H', I', rfl, q⟩
    | next => exact False.elim hq
    | brk => exact False.elim hq
    | cont => exact False.elim hq
end Bt
namespace Bt
open PySem PyProof.Rows
/-! ### letters -/
abbrev sg (c : Nat) : Str := ⟨#[c]⟩
def alphaS : Str := "abcdefghijklmnopqrstuvwxyz"
def alpha : List Nat := (List.range 26).map (97 + ·)
theorem alphaS_cps : alphaS.cps.toList = alpha := by decide +kernel
theorem alpha_len : alpha.length = 26 := by decide
theorem mem_alpha {c : Nat} : c ∈ alpha ↔ 97 ≤ c ∧ c ≤ 122 := by
  unfold alpha
  rw [List.mem_map]
  constructor
  · rintro ⟨a, h, rfl⟩
    have := List.mem_range.mp h
    omega
  · rintro ⟨h1, h2⟩
    exact ⟨c - 97, List.mem_range.mpr (by omega), by omega⟩
theorem alpha_nd : alpha.Nodup := by decide
/-- the letters of a form -/
def Letters (z : Str) : Prop := z.cps.toList.Perm alpha
instance {z : Str} : Decidable (Letters z) := inferInstanceAs (Decidable (List.Perm _ _))
theorem rising_pw : ∀ (cs : List Nat) (p : Nat), risingS (sg p) (cs.map sg) = true → (p :: cs).Pairwise (· ≤ ·)
  | [], p, _ => List.pairwise_singleton _ _
  | c :: cs, p, h => by
    have h' : (!Spec.ltCps [c] [p] && risingS (sg c) (cs.map sg)) = true := h
    obtain ⟨h1, h2⟩ := Bool.and_eq_true_iff.mp h'
    have ih := rising_pw cs c h2
    have hpc : p ≤ c := by
      rw [ltCps_eq] at h1
      rcases Nat.lt_or_ge c p with k | k
      · have : ([c] : List Nat) < [p] := List.Lex.rel k
        simp [this] at h1
      · exact k
    refine List.pairwise_cons.mpr ⟨fun a ha => ?_, ih⟩
    rcases List.mem_cons.mp ha with e | ha
    · rw [e]; exact hpc
    · exact Nat.le_trans hpc ((List.pairwise_cons.mp ih).1 a ha)
theorem sorted_pw (cs : List Nat) (h : sortedS (cs.map sg) = true) : cs.Pairwise (· ≤ ·) := by
  cases cs with
  | nil => exact List.Pairwise.nil
  | cons c cs => exact rising_pw cs c h
theorem sg_inj : Function.Injective sg := fun a b h => by
  have : (#[a] : Array Nat) = #[b] := congrArg Str.cps h
  simpa using this
theorem signs_eq (z : Str) : signs z = z.cps.toList.map sg := rfl
theorem perm_signs {z : Str} {ys : List Str} (h : ys.Perm (signs z)) : ∃ cs : List Nat, ys = cs.map sg ∧ cs.Perm z.cps.toList := by
  let f : Str → Nat := fun s => s.cps.toList.headD 0
  have fs : ∀ c, f (sg c) = c := fun c => rfl
  refine ⟨ys.map f, ?_, ?_⟩
  · rw [List.map_map]
    have : ∀ y ∈ ys, (sg ∘ f) y = y := fun y hy => by
      have := h.mem_iff.mp hy
      rw [signs_eq, List.mem_map] at this
      obtain ⟨c, _, rfl⟩ := this
      rfl
    exact ((List.map_congr_left this).trans (List.map_id _)).symm
  · have := h.map f
    rw [signs_eq, List.map_map] at this
    have e : (z.cps.toList).map (f ∘ sg) = z.cps.toList := (List.map_congr_left (fun c _ => fs c)).trans (List.map_id _)
    rw [e] at this
    exact this
theorem eqvAll_strs : ∀ (xs ys : List Str), PyData.eqvAll (xs.map .str) (ys.map .str) = decide (xs = ys)
  | [], [] => by simp [PyData.eqvAll]
  | [], y :: ys => by simp [PyData.eqvAll]
  | x :: xs, [] => by simp [PyData.eqvAll]
  | x :: xs, y :: ys => by
    have ih := eqvAll_strs xs ys
    simp only [List.map_cons, PyData.eqvAll, PyData.eqv, ih]
    by_cases h1 : x = y <;> by_cases h2 : xs = ys <;> simp [h1, h2]
theorem sorted_eq_iff {z w : Str} {ys ws : List Str} (h1 : ys.Perm (signs z)) (s1 : sortedS ys = true) (h2 : ws.Perm (signs w)) (s2 : sortedS ws = true) :
    PyData.eqv (.list (ys.map .str)) (.list (ws.map .str)) = decide (z.cps.toList.Perm w.cps.toList) := by
  obtain ⟨cs, rfl, p1⟩ := perm_signs h1
  obtain ⟨ds, rfl, p2⟩ := perm_signs h2
  have q1 := sorted_pw cs s1
  have q2 := sorted_pw ds s2
  show PyData.eqvAll _ _ = _
  rw [eqvAll_strs]
  apply decide_eq_decide.mpr
  constructor
  · intro e
    have e2 : cs = ds := by
      have := congrArg (List.map fun s : Str => s.cps.toList.headD 0) e
      simpa [List.map_map, Function.comp_def] using this
    subst e2
    exact p1.symm.trans p2
  · intro e
    have p : cs.Perm ds := (p1.trans e).trans p2.symm
    rw [p.eq_of_pairwise (fun a b _ _ h1 h2 => Nat.le_antisymm h1 h2) q1 q2]
end Bt
namespace Bt
open PySem PySem.Spec PyProof.Rows L2
/-! ### a def as it stands behind the top, by its name alone -/
structure Df (K : PySem.W.Frag) (mg : Str → Option Value) (x : Str) (st : Stmt) (ps : List Str) : Prop where
  ex : ∃ (f : Addr) (fd : FuncData), Fun K x x st f fd ∧ mg x = some (.ref f) ∧ Binds K fd ps []
/-- a def that raises nothing, with its promise -/
structure Cal (P : Program) (w : World) (K : PySem.W.Frag) (mg : Str → Option Value) (base : Heap) (k : Nat) (x : Str) (sp : Sp) : Prop where
  ex : ∃ (f : Addr) (fd : FuncData) (ps : List Str), FnOk P w K mg base CX0 k f fd ps sp ∧ mg x = some (.ref f) ∧ PySem.W.keepIn K (.ref f) = true ∧ Binds K fd ps []
/-- one that may raise -/
structure CalX (P : Program) (w : World) (K : PySem.W.Frag) (mg : Str → Option Value) (base : Heap) (k : Nat) (x : Str) (sp : Sp) : Prop where
  ex : ∃ (f : Addr) (fd : FuncData) (ps : List Str), FnOk P w K mg base (L2.CX P w) k f fd ps sp ∧ mg x = some (.ref f) ∧ PySem.W.keepIn K (.ref f) = true ∧ Binds K fd ps []
section
variable {P : Program} {w : World} {K : PySem.W.Frag} {mg : Str → Option Value} {base : Heap} {x : Str} {st : Stmt} {N ps : List Str} {k : Nat} {sp : Sp}
theorem Df.cal (D : Df K mg x st ps) (S : FnScope N ps (defScope st)) (len : ∀ vs H Q E, sp vs H Q E → vs.length = ps.length)
    (hbody : ∀ (f : Addr) (cdv : Value) (A : Around) (outer : List Env) (s : Shared) (H : Hp) (vs : List V) (Q : VK) (E : XK), Room k (A.deeper (envOfC x (defScope st) s.heap.objs.size f cdv)) → sp vs H Q E →
      ∃ t, PSs (cxOf CX0 P w K mg base N x (defScope st) f cdv A outer s H E).nox (defBody st) t ∧ t { nx := fun _ H' => Q .non H', rt := Q } (start N vs) H) : Cal P w K mg base (k + 1) x sp := by
  obtain ⟨f, fd, F, g, b⟩ := D.ex
  exact ⟨⟨f, fd, ps, F.ok S len (hbody f), g, F.kp, b⟩⟩
theorem Df.calX (D : Df K mg x st ps) (S : FnScope N ps (defScope st)) (len : ∀ vs H Q E, sp vs H Q E → vs.length = ps.length)
    (hbody : ∀ (f : Addr) (cdv : Value) (A : Around) (outer : List Env) (s : Shared) (H : Hp) (vs : List V) (Q : VK) (E : XK), Room k (A.deeper (envOfC x (defScope st) s.heap.objs.size f cdv)) → sp vs H Q E →
      ∃ t, PSs (cxOf (L2.CX P w) P w K mg base N x (defScope st) f cdv A outer s H E) (defBody st) t ∧ t { nx := fun _ H' => Q .non H', rt := Q } (start N vs) H) : CalX P w K mg base (k + 1) x sp := by
  obtain ⟨f, fd, F, g, b⟩ := D.ex
  exact ⟨⟨f, fd, ps, F.okX S len (hbody f), g, F.kp, b⟩⟩
end
section
variable {X : Cx} {k j : Nat} {x : Str} {sp : Sp} {p pos : Pos} {e : Expr} {es : List Expr} {t : TA}
theorem pe_c (c : Cal X.prog X.w X.K X.mg X.base k x sp) (hr : Room j X.A) (hk : k ≤ j) (hg : Gl X x) (ha : PA X (e :: es) t)
    (hdb : (x == ("__debug__" : Str)) = false := by decide) (he : starEach (e :: es) X.env = (false, eval e X.env) :: starEach es X.env := by rfl) (hpl : (backTo pos (starEach es X.env)).any (·.1) = false := by rfl) :
    PE X (.Call (.Name x p) (e :: es) [] pos) (tCall sp [] E0 t) := by
  obtain ⟨f, fd, ps, F, hm, kp, b⟩ := c.ex
  exact pe_call F (hr.mono hk) hg hm kp b .nil pass0 ha hdb he hpl
/-- a def that may raise, called where it does not -/
theorem pe_cx0 (c : CalX X.prog X.w X.K X.mg X.base k x sp) (hr : Room j X.A) (hk : k ≤ j) (hg : Gl X x) (ha : PA X (e :: es) t)
    (hdb : (x == ("__debug__" : Str)) = false := by decide) (he : starEach (e :: es) X.env = (false, eval e X.env) :: starEach es X.env := by rfl) (hpl : (backTo pos (starEach es X.env)).any (·.1) = false := by rfl) :
    PE X (.Call (.Name x p) (e :: es) [] pos) (tCall sp [] E0 t) := by
  obtain ⟨f, fd, ps, F, hm, kp, b⟩ := c.ex
  exact pe_call F (hr.mono hk) hg hm kp b .nil passL ha hdb he hpl
end
/-! ### kinds of values -/
/-- a value of a built-in kind, with its type's name -/
def Ty (K : PySem.W.Frag) (H : Hp) (x : V) (T : String) : Prop := TyX K H x (.type T)
theorem kit_is {K : PySem.W.Frag} {a b : String} (h : (a == b) = true) : PySem.W.kitOne K (.type a) (.type b) = some true := kit_ty (by
  have e : a = b := by simpa using h
  subst e
  unfold kitB
  rw [if_pos (by simp)])
/-- the kinds that data have, and what isinstance says of them -/
inductive Kd : String → Prop where
  | non : Kd "NoneType" | bl : Kd "bool" | int : Kd "int" | str : Kd "str" | lst : Kd "list" | tup : Kd "tuple" | dct : Kd "dict"
def subKd (a b : String) : Bool := a == b || (a == "bool" && b == "int")
theorem kit_kd {K : PySem.W.Frag} {a b : String} (ha : Kd a) (hb : Kd b) : PySem.W.kitOne K (.type a) (.type b) = some (subKd a b) := by
  cases ha <;> cases hb <;> exact kit_ty (by decide +kernel)
/-- a plain value: data at its top -/
def Pl (K : PySem.W.Frag) (H : Hp) (x : V) (T : String) : Prop := TyX K H x (.type T) ∧ Kd T
theorem q_isi {K : PySem.W.Frag} {H : Hp} {Q : VK} {x : V} {a b : String} (h : Pl K H x a) (hb : Kd b) (q : Q (.bl (subKd a b)) H) : rIsi K [x, .ty b] H Q :=
  ⟨x, .ty b, .type a, .type b, subKd a b, rfl, .ty b, h.1, kit_kd h.2 hb, q⟩
theorem Pl.non {K : PySem.W.Frag} {H : Hp} : Pl K H .non "NoneType" := ⟨.base .non, .non⟩
theorem Pl.bl {K : PySem.W.Frag} {H : Hp} {b : Bool} : Pl K H (.bl b) "bool" := ⟨.base (.bl b), .bl⟩
theorem Pl.int {K : PySem.W.Frag} {H : Hp} {i : Int} : Pl K H (.int i) "int" := ⟨.base (.int i), .int⟩
theorem Pl.str {K : PySem.W.Frag} {H : Hp} {z : Str} : Pl K H (.str z) "str" := ⟨.base (.str z), .str⟩
theorem Pl.lst {K : PySem.W.Frag} {H : Hp} {a : Addr} {xs : List V} (h : H a = some (.lst xs)) : Pl K H (.ref a) "list" := ⟨.base (.lst h), .lst⟩
theorem Pl.tup {K : PySem.W.Frag} {H : Hp} {a : Addr} {xs : List V} (h : H a = some (.tup xs)) : Pl K H (.ref a) "tuple" := ⟨.base (.tup h), .tup⟩
theorem TyX.mono {K : PySem.W.Frag} {H H' : Hp} {x : V} {t : Value} (S : Same H H') (h : TyX K H x t) : TyX K H' x t := by
  cases h with
  | base b =>
    cases b with
    | non => exact .base .non
    | bl z => exact .base (.bl z)
    | int z => exact .base (.int z)
    | str z => exact .base (.str z)
    | flt z => exact .base (.flt z)
    | lst e => exact .base (.lst (S _ _ e))
    | frz e => exact .base (.frz (S _ _ e))
    | tup e => exact .base (.tup (S _ _ e))
    | dK e => exact .base (.dK (S _ _ e))
    | dT e => exact .base (.dT (S _ _ e))
    | ins e cl ha hn htk hm => exact .base (.ins (S _ _ e) cl ha hn htk hm)
  | byt b => exact .byt b
  | set e => exact .set (S _ _ e)
  | kList e c => exact .kList e c
  | kTuple e c => exact .kTuple e c
  | kDict e c => exact .kDict e c
  | fTuple e => exact .fTuple (S _ _ e)
  | fDict e => exact .fDict (S _ _ e)
theorem Pl.mono {K : PySem.W.Frag} {H H' : Hp} {x : V} {T : String} (S : Same H H') (h : Pl K H x T) : Pl K H' x T := ⟨TyX.mono S h.1, h.2⟩
theorem ty_ne {a b : String} {p : Prop} (e : Value.type a = Value.type b) (h : a ≠ b) : p := absurd (Value.type.inj e) h
theorem Pl.is_str {K : PySem.W.Frag} {H : Hp} {z : Str} {T : String} (h : Pl K H (.str z) T) : T = "str" := by
  have key : ∀ t, TyX K H (.str z) t → t = .type "str" := fun t h => by
    cases h with
    | base b => cases b; rfl
  exact Value.type.inj (key _ h.1)
theorem Pl.is_int {K : PySem.W.Frag} {H : Hp} {z : Int} {T : String} (h : Pl K H (.int z) T) : T = "int" := by
  have key : ∀ t, TyX K H (.int z) t → t = .type "int" := fun t h => by
    cases h with
    | base b => cases b; rfl
  exact Value.type.inj (key _ h.1)
theorem Pl.is_bl {K : PySem.W.Frag} {H : Hp} {z : Bool} {T : String} (h : Pl K H (.bl z) T) : T = "bool" := by
  have key : ∀ t, TyX K H (.bl z) t → t = .type "bool" := fun t h => by
    cases h with
    | base b => cases b; rfl
  exact Value.type.inj (key _ h.1)
theorem Pl.of_str {K : PySem.W.Frag} {H : Hp} {x : V} {T : String} (h : Pl K H x T) (e : T = "str") : ∃ z, x = .str z := by
  have key : ∀ t, TyX K H x t → t = .type "str" → ∃ z, x = .str z := fun t h e => by
    cases h with
    | base b =>
      cases b with
      | str z => exact ⟨z, rfl⟩
      | ins _ _ _ _ _ _ => cases e
      | _ => exact ty_ne e (by decide)
    | _ => exact ty_ne e (by decide)
  exact key _ h.1 (by rw [e])
theorem Pl.of_int {K : PySem.W.Frag} {H : Hp} {x : V} {T : String} (h : Pl K H x T) (e : T = "int") : ∃ z, x = .int z := by
  have key : ∀ t, TyX K H x t → t = .type "int" → ∃ z, x = .int z := fun t h e => by
    cases h with
    | base b =>
      cases b with
      | int z => exact ⟨z, rfl⟩
      | ins _ _ _ _ _ _ => cases e
      | _ => exact ty_ne e (by decide)
    | _ => exact ty_ne e (by decide)
  exact key _ h.1 (by rw [e])
/-- the object at a stands where the abstract heap has grown -/
theorem q_sortTx {H : Hp} {Q : VK} {z : Str} (h : z.length < 64) (q : ∀ (ys : List Str) (p : Addr) H', H p = none → Same H H' → H' p = some (.lst (ys.map V.str)) → ys.Perm (signs z) → sortedS ys = true → Q (.ref p) H') : rSortTx [.str z] H Q :=
  ⟨z, rfl, h, fun ys p h1 h2 n => q ys p _ n (Same.new n) upd_same h1 h2⟩
theorem dp_strs {K : PySem.W.Frag} {H : Hp} : ∀ ys : List Str, DpAll K H (ys.map V.str) (ys.map PyData.str)
  | [] => .nil
  | y :: ys => .cons (.str y) (dp_strs ys)
theorem dp_lst_strs {K : PySem.W.Frag} {H : Hp} {p : Addr} {ys : List Str} (h : H p = some (.lst (ys.map V.str))) : Dp K H (.ref p) (.list (ys.map PyData.str)) := .lst (SqL.of h) (dp_strs ys)
def Asc (z : Str) : Prop := ∀ c ∈ z.cps.toList, c < 128
theorem Asc.ok {z : Str} (h : Asc z) : PyData.strOk z = true := by
  unfold PyData.strOk
  rw [← Array.all_toList, List.all_eq_true]
  intro c hc
  have := h c hc
  exact decide_eq_true (by omega)
theorem canLay_strs : ∀ (ys : List Str), (∀ y ∈ ys, Asc y) → PyData.canLayAll0 (ys.map PyData.str) = true
  | [], _ => rfl
  | y :: ys, h => by
    simp only [List.map_cons, PyData.canLayAll0, PyData.canLay0, Bool.and_eq_true]
    exact ⟨(h y List.mem_cons_self).ok, canLay_strs ys fun z hz => h z (List.mem_cons_of_mem _ hz)⟩
theorem depth_strs : ∀ (ys : List Str), PyData.depthAll (ys.map PyData.str) = 0
  | [] => rfl
  | y :: ys => by simp only [List.map_cons, PyData.depthAll, PyData.depth, depth_strs ys]; rfl
theorem shaped_strs {ys : List Str} (h : ∀ y ∈ ys, Asc y) : SeqAt.shaped (.list (ys.map PyData.str)) = true := by
  unfold SeqAt.shaped
  rw [Bool.and_eq_true]
  refine ⟨?_, ?_⟩
  · simp only [PyData.canLay0]; exact canLay_strs ys h
  · simp only [PyData.depth, depth_strs]; decide
theorem asc_signs {z : Str} (h : Asc z) : ∀ y ∈ signs z, Asc y := fun y hy c hc => by
  unfold signs at hy
  obtain ⟨d, hd, rfl⟩ := List.mem_map.mp hy
  have : c = d := by simpa using hc
  subst this
  exact h _ hd
theorem shaped_sorted {z : Str} {ys : List Str} (h : Asc z) (p : ys.Perm (signs z)) : SeqAt.shaped (.list (ys.map PyData.str)) = true := shaped_strs fun y hy => asc_signs h y (p.mem_iff.mp hy)
theorem asc_alpha : Asc alphaS := fun c hc => by
  rw [alphaS_cps] at hc
  have := (mem_alpha.mp hc).2
  omega
end Bt
namespace Bt
open PySem PySem.Spec PyProof.Rows L2
theorem SqT_mono {K : PySem.W.Frag} {H H' : Hp} {a : Addr} {xs : List V} (e : Same H H') (h : SqT K H a xs) : SqT K H' a xs := by
  rcases h with (h | ⟨o, h⟩) | h
  · exact .inl (.inl (e _ _ h))
  · exact .inl (.inr ⟨o, e _ _ h⟩)
  · exact .inr h
mutual
theorem Dp.mono {K : PySem.W.Frag} {H H' : Hp} (S : Same H H') : ∀ {v : V} {d : PyData}, Dp K H v d → Dp K H' v d
  | _, _, .non => .non
  | _, _, .bl b => .bl b
  | _, _, .int i => .int i
  | _, _, .str x => .str x
  | _, _, .lst h r => .lst (S.seq h) (DpAll.mono S r)
  | _, _, .tup h r => .tup (SqT_mono S h) (DpAll.mono S r)
theorem DpAll.mono {K : PySem.W.Frag} {H H' : Hp} (S : Same H H') : ∀ {vs : List V} {ds : List PyData}, DpAll K H vs ds → DpAll K H' vs ds
  | _, _, .nil => .nil
  | _, _, .cons h r => .cons (Dp.mono S h) (DpAll.mono S r)
end
/-! ### an own error with one field, stored by its __init__ -/
def spExc (C : Addr) (fld : Str) : Sp := fun vs H Q _ => ∃ a v, vs = [.ref a, v] ∧ H a = some (exo a C none) ∧ ∀ dx, H dx = none → dx ≠ a → Q .non (upd (upd H dx (exd dx [(fld, v)])) a (exo a C (some dx)))
structure ExcF (K : PySem.W.Frag) (mg : Str → Option Value) (x fld : Str) (C : Addr) : Prop where
  g : mg x = some (.ref C)
  T : OexC K C
  no : PySem.W.findIn K (.ref C) fld = some none
  xf : XfC K C
  te : PySem.W.exmOne K (.ref C) (.ref C) = some true
  init : ∃ (f : Addr) (fd : FuncData) (qual : Str) (params : Arguments) (scope : Scope) (q1 q2 q3 q4 : Pos),
    PySem.W.findIn K (.ref C) "__init__" = some (some (.ref f)) ∧ PySem.W.typeIn K (.ref f) = some (.type "function") ∧
    FunD K "__init__" qual params [.Assign [.Attribute (.Name "self" q1) fld q2] (.Name fld q3) q4] scope [.non] [] f fd ∧ FnScope ["self", fld] ["self", fld] scope ∧ Binds K fd ["self", fld] []
section
variable {P : Program} {w : World} {K : PySem.W.Frag} {mg : Str → Option Value} {base : Heap} {x fld : Str} {C : Addr}
theorem exc_init {f : Addr} {fd : FuncData} {qual : Str} {params : Arguments} {scope : Scope} {q1 q2 q3 q4 : Pos} (T : OexC K C) (no : PySem.W.findIn K (.ref C) fld = some none)
    (F : FunD K "__init__" qual params [.Assign [.Attribute (.Name "self" q1) fld q2] (.Name fld q3) q4] scope [.non] [] f fd) (S : FnScope ["self", fld] ["self", fld] scope) (hd : (fld == ("__debug__" : Str)) = false) (hcd : (fld == ("__classdict__" : Str)) = false) :
    FnOk P w K mg base CX0 1 f fd ["self", fld] (spExc C fld) := by
  refine F.ok S (fun vs H Q E h => ?_) (fun cdv A outer s H vs Q E hr h => ?_)
  · obtain ⟨a, v, rfl, _⟩ := h
    rfl
  · obtain ⟨a, v, rfl, ha, k⟩ := h
    have v1 : Vis scope "self" := (S.par "self" List.mem_cons_self).elim .inl fun z => .inr (.inl z)
    have v2 : Vis scope fld := (S.par fld (List.mem_cons_of_mem _ List.mem_cons_self)).elim .inl fun z => .inr (.inl z)
    refine ⟨_, pss_one (ps_ost (pe_var (i := 0) rfl v1 (by decide) (by decide)) (pe_var (i := 1) rfl v2 hd hcd) (by rfl)), ?_⟩
    exact ⟨v, rfl, .ref a, rfl, a, C, rfl, T, no, .inl ⟨ha, fun dx n ne => k dx n ne⟩⟩
end
section
variable {X : Cx} {x fld : Str} {C : Addr} {k : Nat} {W : WX} {e : Expr} {te : TE} {p pos pos2 : Pos}
/-- what is wished may be weakened -/
def tMono (te : TE) : TE := fun σ H Q => ∃ Q' : VK, te σ H Q' ∧ ∀ v H1, Q' v H1 → Q v H1
theorem PE.mono (he : PE X e te) : PE X e (tMono te) := ⟨fun pins s σ H Q I h => by
  obtain ⟨Q', h1, h2⟩ := h
  refine thn (he.run pins s σ H Q' I h1) fun u s' z => ?_
  obtain ⟨v, H', I', r, q⟩ := z
  exact ⟨v, H', I', r, h2 v H' q⟩⟩
/-- raise C(e) -/
def tRaise1 (C : Addr) (fld : Str) (W : WX) (te : TE) : TS := fun _ σ H => te σ H fun v H1 => ∀ d H3, H1 d = none → Same H1 H3 → H3 d = some (.xd [(fld, v)]) → W (.ref C) (some d) σ H3
theorem ps_raise1 (hc : X.calm = true) (B : ExcF X.K X.mg x fld C) (hr : Room k X.A) (hk : 2 ≤ k) (tk : Takes X W) (he : PE X e te) (hg : Gl X x := by rfl) (hd : (fld == ("__debug__" : Str)) = false := by decide) (hcd : (fld == ("__classdict__" : Str)) = false := by decide)
    (hdb : (x == ("__debug__" : Str)) = false := by decide) (h1 : starEach (e :: []) X.env = (false, eval e X.env) :: starEach [] X.env := by rfl) (h2 : (backTo pos (starEach [] X.env)).any (·.1) = false := by rfl) :
    PS X (.Raise (some (.Call (.Name x p) [e] [] pos)) none pos2) (tRaise1 C fld W te) := by
  obtain ⟨f, fd, qual, params, scope, q1, q2, q3, q4, i1, i2, F, S, b⟩ := B.init
  have m := pmk_oex (sp := spExc C fld) (dvs := []) (p := p) (pos := pos) B.T i1 i2 (exc_init B.T B.no F S hd hcd) (hr.mono hk) b .nil pass0 hg B.g (pa_cons (PE.mono he) pa_nil h1) hdb h1 h2
  have q := ps_raise (pos := pos2) hc tk m
  refine ⟨fun pins s σ H D I h => q.run pins s σ H D I ?_⟩
  have key : ∀ v H1, (∀ d H3, H1 d = none → Same H1 H3 → H3 d = some (.xd [(fld, v)]) → W (.ref C) (some d) σ H3) →
      ([v].length ≤ 1000 ∧ ∀ a, H1 a = none → spExc C fld (.ref a :: ([v] ++ [])) (upd H1 a (exo a C none))
        (fun v H2 => v = .non ∧ ∃ (d : Addr) (fs : List (Str × V)), H2 a = some (exo a C (some d)) ∧ H2 d = some (exd d fs) ∧ H1 d = none ∧ W (.ref C) (some d) σ (upd (del H2 a) d (.xd fs))) (fun _ _ _ => False)) := fun v H1 z => by
    refine ⟨by show 1 ≤ 1000; decide, fun a ha => ⟨a, v, rfl, upd_same, fun dx n ne => ⟨rfl, dx, _, upd_same, by rw [upd_ne ne, upd_same], ?_, ?_⟩⟩⟩
    · rw [upd_ne ne] at n; exact n
    · have n1 : H1 dx = none := by rw [upd_ne ne] at n; exact n
      refine z dx _ n1 (fun b o e => ?_) upd_same
      have nb : b ≠ dx := ne_of_none e n1
      have na : b ≠ a := ne_of_none e ha
      rw [upd_ne nb, del_ne na, upd_ne na, upd_ne nb, upd_ne na]
      exact e
  exact ⟨_, h, fun v H1 z => key v H1 z⟩
theorem s_raise1 {C : Addr} {fld : Str} {W : WX} {te : TE} {D : Ends} {σ : L2.St} {H : Hp} (h : te σ H fun v H1 => ∀ d H3, H1 d = none → Same H1 H3 → H3 d = some (.xd [(fld, v)]) → W (.ref C) (some d) σ H3) : tRaise1 C fld W te D σ H := h
end
end Bt
namespace Bt
open PySem PySem.Spec PyProof.Rows L2
/-! ### an own error as a value that is kept: made, asked for its class, its fields read -/
section
variable {X : Cx} {C : Addr} {x : Str} {p pos : Pos} {e : Expr} {es : List Expr} {ta : TA} {k : Nat} {fI : Addr} {fd : FuncData} {ps : List Str} {sp : Sp} {ds : List Value} {dvs : List V} {CX : CXT}
/-- C(e, ..) as a value -/
def tExo (C : Addr) (sp : Sp) (dvs : List V) (ta : TA) : TE := fun σ H Q => ta σ H fun vs H1 => vs.length ≤ 1000 ∧ ∀ a, H1 a = none → sp (.ref a :: (vs ++ dvs)) (upd H1 a (exo a C none)) (fun v H2 => v = .non ∧ Q (.ref a) H2) (fun _ _ _ => False)
theorem run_exo {pins : List (Addr × Obj)} {σ : L2.St} {H1 : Hp} {s1 : Shared} {Q : VK} {us : List Value} {vs : List V} (T : OexC X.K C) (iC : PySem.W.findIn X.K (.ref C) "__init__" = some (some (.ref fI))) (tI : PySem.W.typeIn X.K (.ref fI) = some (.type "function"))
    (FK : FnOk X.prog X.w X.K X.mg X.base CX k fI fd ps sp) (hr : Room (k + 1) X.A) (hb : Binds X.K fd ps ds) (hd : Vals dvs ds) (hx : Passes CX X (fun _ _ _ => False)) (I1 : Inv X pins σ H1 s1) (r1 : Vals vs us) (hz : vs.length ≤ 1000)
    (q1 : ∀ a, H1 a = none → sp (.ref a :: (vs ++ dvs)) (upd H1 a (exo a C none)) (fun v H2 => v = .non ∧ Q (.ref a) H2) (fun _ _ _ => False)) :
    wpAny (model X.prog X.w) X.A (call (.ref C) us) (EP X pins σ Q) X.xe s1 := by
  obtain ⟨nn, qq, MN, bb, bmm, snn, suu, abb, coo, ddd, w0, w1, w2, w3, w5, hCC, hVE⟩ := T.cls
  obtain ⟨hp, gg, dd, tt, oo⟩ := s1
  have z1 : hp.objs.size ≤ hp.objs.size + 1 := Nat.le_succ _
  have hfree : H1 (hp.objs.size + 1) = none := I1.hok.fresh z1
  have hq := q1 (hp.objs.size + 1) hfree
  have hnew : ((hp.push (PySem.W.kdv_tup us)).push (PySem.HandSPX.excO C hp.objs.size)).get? (hp.objs.size + 1) = some (PySem.HandSPX.excO C hp.objs.size) := by heap_get
  have J2 : Inv X pins σ (upd H1 (hp.objs.size + 1) (exo (hp.objs.size + 1) C none)) ⟨(hp.push (PySem.W.kdv_tup us)).push (PySem.HandSPX.excO C hp.objs.size), gg, dd, tt, oo⟩ :=
    I1.laid (a := hp.objs.size + 1) (t' := tt) (fun b o z => Heap.get?_push_of_some _ (Heap.get?_push_of_some _ z)) z1 (exo_ok hnew)
  have rr : Vals (V.ref (hp.objs.size + 1) :: (vs ++ dvs)) (Value.ref (hp.objs.size + 1) :: (us ++ ds)) := .cons rfl (r1.append hd)
  have ll : (Value.ref (hp.objs.size + 1) :: us ++ ds).length = ps.length := by
    have y := rr.length
    rw [FK.len _ _ _ _ hq] at y
    exact y.symm
  have lu : us.length ≤ sizeLine := by
    have y := Paired.length r1
    rw [sizeLine_eq]
    omega
  have hrun := FK.run _ X.stack _ _ ⟨Value.ref (hp.objs.size + 1) :: us, []⟩ (Value.ref (hp.objs.size + 1) :: (us ++ ds)) _ _ (fun _ _ _ => False) (hr.make C us []) (J2.env0.make C us []) (hb _ (Value.ref (hp.objs.size + 1) :: us) J2.kIn ll) rr hq
  refine wpAny_call (PySem.HandSPX.call_own F.excBase_ValueError (fun Y => PySem.HandSPX.refsVE_contains Y bmm hVE) (I1.kIn _ _ hCC) (PySem.W.looks_findIn I1.kIn iC) (fun self => PySem.W.bind_fn I1.kIn self tI) lu (codeAny_mono hrun fun r s' hq' => ?_))
  cases r with
  | error er => exact hx pins σ _ _ er s' J2 hq'
  | ok fl =>
    cases fl with
    | ret u =>
      obtain ⟨z, H2, I3, rz, ez, q⟩ := J2.after hq'
      subst ez
      exact ⟨rz, .ref (hp.objs.size + 1), H2, I3, rfl, q⟩
    | next => exact False.elim hq'
    | brk => exact False.elim hq'
    | cont => exact False.elim hq'
theorem pe_exo (T : OexC X.K C) (iC : PySem.W.findIn X.K (.ref C) "__init__" = some (some (.ref fI))) (tI : PySem.W.typeIn X.K (.ref fI) = some (.type "function")) (FK : FnOk X.prog X.w X.K X.mg X.base CX k fI fd ps sp) (hr : Room (k + 1) X.A)
    (hb : Binds X.K fd ps ds) (hd : Vals dvs ds) (hx : Passes CX X (fun _ _ _ => False)) (hg : Gl X x) (hm : X.mg x = some (.ref C)) (ha : PA X (e :: es) ta)
    (hdb : (x == ("__debug__" : Str)) = false := by decide) (he : starEach (e :: es) X.env = (false, eval e X.env) :: starEach es X.env := by rfl) (hpl : (backTo pos (starEach es X.env)).any (·.1) = false := by rfl) :
    PE X (.Call (.Name x p) (e :: es) [] pos) (tExo C sp dvs ta) := by
  refine ⟨fun pins s σ H Q I h => ?_⟩
  refine wpAny_Call_Name_kw (ld_glob I hg hm ?_ hdb)
  refine PySem.W.callWith_K (h₀ := X.base) I.ok.mod.kin T.kC (thn (ha.run pos pins s σ H _ I h) fun us s1 ⟨vs, H1, I1, r1, hz, q1⟩ => ⟨I1.kIn, ?_⟩) he hpl
  exact run_exo T iC tI FK hr hb hd hx I1 r1 hz q1
end
section
open PySem.W PySem.Calls
variable {pr : Program} {wd : World} {AR : Around} {EX : Value → Shared → Prop} {st : Shared} {KK : Frag} {y D : Addr} {oy : Obj} {oD : Option Obj}
/-- e.__class__, whatever e's dict holds -/
theorem err_class {Q : Option Value → Shared → Prop} (CC : ExcC KK D) (hIn : KK.In st.heap) (at_ : InstAt st.heap y oy D oD) (hf : findObj KK D oD "__class__" = some (.bind (.builtin "getset_descriptor.__get__") (.builtin "object.__class__")))
    (fin : Q (some (.ref D)) { st with toks := st.toks + 1 }) : wpAny (model pr wd) AR (getAttr? (.ref y) "__class__") Q EX st := by
  obtain ⟨hh, gs, dr, tk, os⟩ := st
  have k0 := at_.type (M := model pr wd)
  have k1 := looks_findIn (M := model pr wd) hIn CC.hg
  have k2 := looks_findIn (M := model pr wd) hIn CC.hk
  have k3 := looks_find (M := model pr wd) hIn at_ hf
  have kb : Looks (model pr wd) hh (isInstance (.ref y) (.type "BaseException")) true := k0.andThen (looks_subIn hIn CC.hs)
  have ne2 : (Value.builtin "BaseException.__getattribute__" == Value.builtin "object.__getattribute__") = false := by decide +kernel
  unfold getAttr? getAttrBy?
  unfold getAttrBy
  refine wpAny_bind (wpAny_mkText (wpAny_bind (wpAny_attempt (wpAny_holding (wpAny_bind (k0.at (wpAny_bind (k1.at ?_))))))))
  show wpAny _ _ (if (onTheHeap (.ref D) && Value.builtin "BaseException.__getattribute__" == .builtin "object.__getattribute__") = true then _ else _) _ _ _
  rw [show (onTheHeap (.ref D) && Value.builtin "BaseException.__getattribute__" == .builtin "object.__getattribute__") = false by rw [ne2]; rfl, if_neg (by decide)]
  unfold getAttrByItsOwn
  unfold hookBefore
  refine wpAny_bind ?_
  rw [if_pos (by rfl : onTheHeap (.ref D) = true)]
  refine k2.at (wpAny_bind (wpAny_attempt (wpAny_holding ?_)))
  unfold callGetattribute
  rw [show (false && onTheHeap (.builtin "BaseException.__getattribute__")) = false from rfl, if_neg (by decide)]
  unfold boundAndCalled
  rw [PySem.F.excAttr_ValueError.ga.bind (.ref y)]
  refine wpAny_bind (wpAny_pure ?_)
  show wpAny _ _ (call (.builtin "BaseException.__getattribute__") [.ref y, .str "__class__" tk]) _ _ _
  refine wpAny_call (codeAny_call_builtin PySem.F.excAttr_ValueError.ga.plain PySem.F.entry_bexc_ga (@check_slot (model pr wd) _ _ ⟨hh, gs, dr, tk + 1, os⟩ "BaseException.__getattribute__" "BaseException" "__getattribute__" (.ref y) [.str "__class__" tk] [] _ (by decide +kernel) (by decide +kernel) kb (PySem.F.args_bexc_ga (.ref y) (.str "__class__" tk)) ?_))
  unfold Builtin.«object.__getattribute__»
  refine wpAny_bind (wpAny_of_eq (a := ((.ref y : Value), [Value.str "__class__" tk])) (by first | rfl | (simp only [slotArgs]; rfl)) (wpAny_bind (wpAny_pure (wpAny_bind (k0.at (wpAny_bind (k3.at ?_)))))))
  show wpAny _ _ (holding [.builtin "object.__class__"] (call (.builtin "getset_descriptor.__get__") [.builtin "object.__class__", .ref y, .ref D]) >>= ret) _ _ _
  refine wpAny_bind (wpAny_holding (wpAny_call (class_get (s := ⟨hh, gs, dr, tk + 1, os⟩) (ox := oy) (od := oD) hIn at_ CC.hm (wpAny_pure ?_))))
  show wpAny _ _ (handedOut (.ref D)) _ _ _
  rw [handedOut_of (v := .ref D) rfl]
  first
    | exact wpAny_pure fin
    | exact wpAny_pure (wpAny_pure fin)
    | exact wpAny_pure (wpAny_bind (wpAny_pure (wpAny_pure fin)))
theorem err_cls (CC : ExcC KK D) : ∃ cd, clsIn KK D = some cd := by
  have hd := CC.hd
  obtain ⟨cd, hc, _⟩ := any_some hd
  exact ⟨cd, hc⟩
theorem err_kit (CC : ExcC KK D) (hf : findObj KK D oD "__class__" = some (.bind (.builtin "getset_descriptor.__get__") (.builtin "object.__class__"))) : KitX KK (.ref y) (.ref D) (fun h => InstAt h y oy D oD) where
  ty := fun _ _ _ z => z.type
  it := fun M h z1 _ => by
    obtain ⟨cd, hc⟩ := err_cls CC
    intro A1 Q1 E1 s1 kp q1
    unfold clsIn at hc
    split at hc
    · next ho =>
      unfold isType
      unfold loadHead
      exact wpAny_bind (wpAny_loadPart (kp _ _ (z1 _ _ ho)) (wpAny_pure q1))
    · cases hc
  ne := fun h tp dd its n sl z1 htp => by
    obtain ⟨cd, hc⟩ := err_cls CC
    refine Bool.eq_false_iff.mpr fun q => ?_
    obtain rfl : D = tp := Value.ref.inj (beq_iff_eq.mp q)
    unfold clsIn at hc
    split at hc
    · next ho => cases (z1 _ _ ho).symm.trans htp
    · cases hc
  ca := fun z1 z2 z3 => err_class CC z1 z2 hf z3
end
/-- isinstance(e, c) -/
def rIsX (K : PySem.W.Frag) : List V → Hp → VK → Prop := fun xs H Q => ∃ (a D : Addr) (dd : Option Addr) (c : V) (cv : Value) (b : Bool), xs = [.ref a, c] ∧ H a = some (exo a D dd) ∧ (∀ d, dd = some d → ∃ fs, H d = some (exd d fs)) ∧ ExcC K D ∧ ClsV c cv ∧ PySem.W.kitOne K (.ref D) cv = some b ∧ Q (.bl b) H
theorem call_isX {X : Cx} : CallR X (.builtin "isinstance") (rIsX X.K) := by
  intro pins s σ H xs us Q I r h
  obtain ⟨a, D, dd, c, cv, b, rfl, ha, hdd, hD, hc, hk, q⟩ := h
  cases r with
  | cons rx rr =>
  cases rr with
  | cons rt rr =>
  cases rr
  cases rx
  have ec := hc.eq rt
  subst ec
  obtain ⟨t1, hget⟩ := exo_at I.hok ha
  cases dd with
  | none =>
    have J : PySem.W.InstAt s.heap a _ D none := ⟨hget, rfl, rfl, trivial⟩
    exact PySem.W.kia_one (PySem.W.handS_kitx_exc hD.hg hD.hk hD.hs hD.hd hD.ha hD.hn hD.ht hD.hm) I.kIn J hk (fun z => nomatch z) fun tk => ⟨.bl b, H, I.kept (t' := tk) fun _ _ z => z, rfl, q⟩
  | some d =>
    obtain ⟨fs, hd⟩ := hdd d rfl
    obtain ⟨mA, hns, _⟩ := exd_at I.hok hd
    obtain ⟨od, ho, _⟩ := lookIn_ns hns
    have J : PySem.W.InstAt s.heap a _ D (some od) := ⟨hget, rfl, rfl, ho⟩
    have hf : PySem.W.findObj X.K D (some od) "__class__" = some (.bind (.builtin "getset_descriptor.__get__") (.builtin "object.__class__")) := PySem.W.findObj_data (by obtain ⟨cd, hc⟩ := err_cls hD; rw [hc]; rfl) hD.ha hD.hn hD.ht
    exact PySem.W.kia_one (err_kit hD hf) I.kIn J hk (fun z => nomatch z) fun tk => ⟨.bl b, H, I.kept (t' := tk) fun _ _ z => z, rfl, q⟩
/-- e.f -/
def tExf (K : PySem.W.Frag) (f : Str) (te : TE) : TE := fun σ H Q => te σ H fun y H1 => ∃ (a C d : Addr) (fs : List (Str × V)) (v : V), y = .ref a ∧ H1 a = some (exo a C (some d)) ∧ H1 d = some (exd d fs) ∧ XfC K C ∧ PySem.W.findIn K (.ref C) f = some none ∧ fs.lookup f = some v ∧ Q v H1
theorem pe_exf {X : Cx} {e : Expr} {te : TE} {pos : Pos} {f : Str} (he : PE X e te) (hb : attributeBase e f X.env (eval e X.env) = eval e X.env := by rfl) : PE X (.Attribute e f pos) (tExf X.K f te) := by
  refine ⟨fun pins s σ H Q I h => ?_⟩
  refine attr_of hb (thn (he.run pins s σ H _ I h) fun u s1 hh => ?_)
  obtain ⟨y, H1, I1, ry, a, C, d, fs, v, rfl, ha, hd, T, hno, l, q⟩ := hh
  obtain rfl : u = Value.ref a := ry
  obtain ⟨t1, hget⟩ := exo_at I1.hok ha
  obtain ⟨mA, hns, rel⟩ := exd_at I1.hok hd
  obtain ⟨od, ho, hl⟩ := lookIn_ns hns
  obtain ⟨u, hu, ru⟩ := RelO.some_of (v := v) (o := mA f) (by rw [← l]; exact rel f)
  have J : PySem.W.InstAt s1.heap a _ C (some od) := ⟨hget, rfl, rfl, ho⟩
  exact HandSPX.exc_get I1.kIn J T.ga T.gg T.exC (PySem.W.findObj_own T.hdC hno rfl (by rw [hl, hu])) (handed_of ru) ⟨v, H1, I1.tok _, ru, q⟩
end Bt
namespace Bt
open PySem PySem.Spec PyProof.Rows L2
section
open PySem.HandSPX
variable {M : Model} {A : Around} {E : Value → Shared → Prop} {hp : Heap} {gs : Array GenState} {dr : Drawn} {tk : Nat} {os : OsState}
variable {n1 n2 : Str} {C N : Addr} {b1 b2 bmB : List Value} {hdct : Bool} {s1 : List Str} {s2 : List Value} {ab : Bool} {col : Option Bool} {dd : Option Addr} {w0 w1 w2 w3 w5 : Option Value} {B newId initId : String}
theorem chk_newK (FB : ExcBaseFacts B newId initId bmB) (hT : ∀ Y : String, b2.contains (.type Y) = bmB.contains (.type Y)) {rest : List Value} {kw : List (Str × Value)} {Q : Unit → Shared → Prop}
    (hC : hp.get? C = some (excClassObj n1 n2 C N b1 b2 hdct s1 s2 ab col dd w0 w1 w2 w3 w5 newId)) (hq : Q () ⟨hp, gs, dr, tk, os⟩) : wpAny M A (checkBuiltinCall newId ⟨.ref C :: rest, kw⟩) Q E ⟨hp, gs, dr, tk, os⟩ := by
  have z1 : (Value.ref C :: b2).contains (.type B) = true := by rw [List.contains_cons, hT, FB.hasB, Bool.or_true]
  have z2 := FB.noStar
  simp only [checkBuiltinCall, FB.newKind, FB.newSplit, FB.newRow]
  repeat (first | refine wpAny_loadPart_at hC ?_ | (refine wpAny_isSubtype_exc hC ?_; rw [z1]) | refine wpAny_staticBase_exc hC ?_ | refine wpAny_madeBy_exc hC ?_ | simp only [bne_self_eq_false, Bool.false_eq_true, if_false] | wp_step)
  exact hq
end
section
open PySem.HandSPX
variable {pr : Program} {wd : World} {A : Around} {E : Value → Shared → Prop} {R : Result → Shared → Prop} {hp : Heap} {gs : Array GenState} {dr : Drawn} {tk : Nat} {os : OsState}
variable {n1 n2 : Str} {C N : Addr} {b1 b2 bmB : List Value} {hdct : Bool} {s1 : List Str} {s2 : List Value} {ab : Bool} {col : Option Bool} {dd : Option Addr} {w0 w1 w2 w3 w5 : Option Value} {B newId initId : String}
theorem newK (FB : ExcBaseFacts B newId initId bmB) (hT : ∀ Y : String, b2.contains (.type Y) = bmB.contains (.type Y)) {rest : List Value} {kw : List (Str × Value)}
    (hC : hp.get? C = some (excClassObj n1 n2 C N b1 b2 hdct s1 s2 ab col dd w0 w1 w2 w3 w5 newId))
    (hq : R (.ok (.ret (.ref (hp.objs.size + 1)))) ⟨(hp.push (W.kdv_tup rest)).push (excO C hp.objs.size), gs, dr, tk, os⟩) (lr : rest.length ≤ sizeLine) :
    codeAny (model pr wd) A (.builtin newId ⟨.ref C :: rest, kw⟩) R ⟨hp, gs, dr, tk, os⟩ := by
  have y0 := FB.ends
  have y1 : (Value.ref C :: b2).contains (.type B) = true := by rw [List.contains_cons, hT, FB.hasB, Bool.or_true]
  have y2 : (Value.ref C :: b2).contains (.type "AttributeError") = false := by rw [List.contains_cons, hT, FB.noAttr]; rfl
  have y3 : (Value.ref C :: b2).contains (.type "NameError") = false := by rw [List.contains_cons, hT, FB.noName]; rfl
  refine codeAny_builtinAt FB.entry ?_
  unfold Builtin.«BaseException.__new__»
  refine PySem.wpAt_bind ?_
  show PySem.wpAt _ _ _ (stack >>= _) _ _ _
  refine PySem.wpAt_bind (PySem.wpAt_stack fun p q => PySem.wpAt_of_wpAny ?_)
  wp_walk
  refine PySem.wpAt_of_wpAny ?_
  rw [FB.owner]
  repeat (first | with_reducible refine wpAny_madeHere_exc FB.canon hC ?_ | with_reducible refine wpAny_loadPart_at hC ?_ | (with_reducible refine wpAny_isSubtype_exc hC ?_; first | rw [y1] | rw [y2] | rw [y3]) | wp_step)
  show R _ _
  rw [Heap.size_push]
  exact hq
theorem typeK (FB : ExcBaseFacts B newId initId bmB) (hT : ∀ Y : String, b2.contains (.type Y) = bmB.contains (.type Y)) {rest : List Value} {kw : List (Str × Value)} {fI : Addr} {Q : Fin → Shared → Prop}
    (hC : hp.get? C = some (excClassObj n1 n2 C N b1 b2 hdct s1 s2 ab col dd w0 w1 w2 w3 w5 newId))
    (hi : W.Looks (model pr wd) hp (typeLookup (.ref C) "__init__") (some (.ref fI))) (hb : ∀ z, W.Looks (model pr wd) hp (bindSpecial (.ref fI) z) (.ref fI, [z])) (lr : rest.length ≤ sizeLine)
    (hq : codeAny (model pr wd) A (.call (.ref fI) ⟨.ref (hp.objs.size + 1) :: rest, kw⟩) (fun r s' => match r with | .ok (.ret v) => v = .none ∧ Q (.done (.ret (.ref (hp.objs.size + 1)))) s' | .ok _ => False | .error e => E e s')
      ⟨(hp.push (W.kdv_tup rest)).push (excO C hp.objs.size), gs, dr, tk, os⟩) :
    wpAny (model pr wd) A (Builtin.«type.__call__» ⟨.ref C :: rest, kw⟩) Q E ⟨hp, gs, dr, tk, os⟩ := by
  repeat (first | with_reducible refine wpAny_loadPart_at hC ?_ | with_reducible refine wpAny_madeBy_exc hC ?_ | wp_step)
  refine codeAny_call_builtin_code (Code.quiet_builtin _ FB.quiet) (chk_newK FB hT hC (newK FB hT hC ?_ lr))
  show wpAny _ _ _ _ _ _
  have kp : ∀ b o, hp.get? b = some o → ((hp.push (W.kdv_tup rest)).push (excO C hp.objs.size)).get? b = some o := fun b o z => Heap.get?_push_of_some _ (Heap.get?_push_of_some _ z)
  have hC2 := kp _ _ hC
  have hx : ((hp.push (W.kdv_tup rest)).push (excO C hp.objs.size)).get? (hp.objs.size + 1) = some (excO C hp.objs.size) := by heap_get
  have y1 : (Value.ref C :: b2).contains (.ref C) = true := by simp
  have l1 := hi.keeps kp
  have l2 := (hb (.ref (hp.objs.size + 1))).keeps kp
  unfold isInstance
  repeat (first | with_reducible refine wpAny_loadPart_at hx ?_ | (with_reducible refine wpAny_isSubtype_exc hC2 ?_; rw [y1]) | wp_step)
  show wpAny _ _ (typeLookup (.ref C) _) _ _ _
  refine l1.at (wpAny_holding (wpAny_bind (l2.at (wpAny_bind (wpAny_call (codeAny_mono hq fun r s' z => ?_))))))
  rcases r with e | (v | _ | _ | _) <;> first | exact z | exact z.elim | skip
  obtain ⟨rfl, z⟩ := z
  first
    | exact wpAny_pure (wpAny_pure z)
    | (wp_walk; exact z)
theorem callK (FB : ExcBaseFacts B newId initId bmB) (hT : ∀ Y : String, b2.contains (.type Y) = bmB.contains (.type Y)) {rest : List Value} {kw : List (Str × Value)} {fI : Addr}
    (hC : hp.get? C = some (excClassObj n1 n2 C N b1 b2 hdct s1 s2 ab col dd w0 w1 w2 w3 w5 newId))
    (hi : W.Looks (model pr wd) hp (typeLookup (.ref C) "__init__") (some (.ref fI))) (hb : ∀ z, W.Looks (model pr wd) hp (bindSpecial (.ref fI) z) (.ref fI, [z])) (lr : rest.length ≤ sizeLine)
    (hq : codeAny (model pr wd) (A.under (.builtin "type.__call__" ⟨.ref C :: rest, kw⟩)) (.call (.ref fI) ⟨.ref (hp.objs.size + 1) :: rest, kw⟩) (W.InitBack (hp.objs.size + 1) R)
      ⟨(hp.push (W.kdv_tup rest)).push (excO C hp.objs.size), gs, dr, tk, os⟩) :
    codeAny (model pr wd) A (.call (.ref C) ⟨rest, kw⟩) R ⟨hp, gs, dr, tk, os⟩ := by
  have y1 := tc_lookup
  have y2 := tc_bind (.ref C)
  have y3 : (⟨hp, gs, dr, tk, os⟩ : Shared).TypeIs (.ref C) "type" := ⟨_, hC, rfl⟩
  refine codeAny_of_tree ?_
  show wpAny _ _ (callAny (.ref C) _) _ _ _
  repeat (any_goals (first | assumption | with_reducible refine wpAny_loadPart_at hC ?_ | wp_step))
  refine ⟨rfl, codeAny_call_builtin_at (Code.quiet_builtin _ (by decide +kernel)) entry_typeCall (wpAny_check_type_call_sub hC (typeK FB hT hC hi hb lr (codeAny_mono hq fun r s' z => ?_)))⟩
  rcases r with e | (v | _ | _ | _) <;> exact z
end
section
variable {X : Cx} {C : Addr} {x : Str} {p pos : Pos} {k : Nat} {fI : Addr} {fd : FuncData} {ps ks : List Str} {sp : Sp} {ds : List Value} {dvs : List V} {CX : CXT} {kws : List Keyword} {tk : TA} {g : List Value → List Value → List Value} {gV : List V → List V → List V}
/-- C(f = e, ..) as a value -/
def tExoK (C : Addr) (m : Nat) (sp : Sp) (gV : List V → List V → List V) (tk : TA) : TE := fun σ H Q => tk σ H fun zs H1 => zs.length = m ∧ ∀ a, H1 a = none → sp (gV [.ref a] zs) (upd H1 a (exo a C none)) (fun v H2 => v = .non ∧ Q (.ref a) H2) (fun _ _ _ => False)
theorem pe_exoK (T : OexC X.K C) (iC : PySem.W.findIn X.K (.ref C) "__init__" = some (some (.ref fI))) (tI : PySem.W.typeIn X.K (.ref fI) = some (.type "function")) (FK : FnOk X.prog X.w X.K X.mg X.base CX k fI fd ps sp) (hr : Room (k + 1) X.A)
    (hb : KBn X.K fd ps 1 ks g gV) (hx : Passes CX X (fun _ _ _ => False)) (hg : Gl X x) (hm : X.mg x = some (.ref C)) (hkw : PK X kws tk)
    (hall : (backToKw pos (keywordEach kws X.env)).all (·.1.isSome) = true := by rfl) (hks : (backToKw pos (keywordEach kws X.env)).filterMap (·.1) = ks := by rfl) (hdb : (x == ("__debug__" : Str)) = false := by decide)
    (hpl : ((backTo pos (starEach [] X.env)).any (·.1) || (backToKw pos (keywordEach kws X.env)).any (·.1.isNone)) = false := by rfl) :
    PE X (.Call (.Name x p) [] kws pos) (tExoK C ks.length sp gV tk) := by
  refine ⟨fun pins s σ H Q I h => ?_⟩
  refine wpAny_Call_Name_kw (ld_glob I hg hm ?_ hdb)
  refine PySem.W.callWith_KW0 (h₀ := X.base) I.ok.mod.kin T.kC hall ?_ hpl
  refine thn (hkw.run pos pins s σ H _ I h) fun ws s2 ⟨zs, H1, I1, rz, l2, q1⟩ => ⟨I1.kIn, ?_⟩
  rw [hks]
  obtain ⟨nn, qq, MN, bb, bmm, snn, suu, abb, coo, ddd, w0, w1, w2, w3, w5, hCC, hVE⟩ := T.cls
  obtain ⟨hp, gg, dd, tt, oo⟩ := s2
  have z1 : hp.objs.size ≤ hp.objs.size + 1 := Nat.le_succ _
  have hfree : H1 (hp.objs.size + 1) = none := I1.hok.fresh z1
  have hq := q1 (hp.objs.size + 1) hfree
  have hnew : ((hp.push (PySem.W.kdv_tup [])).push (PySem.HandSPX.excO C hp.objs.size)).get? (hp.objs.size + 1) = some (PySem.HandSPX.excO C hp.objs.size) := by heap_get
  have J2 : Inv X pins σ (upd H1 (hp.objs.size + 1) (exo (hp.objs.size + 1) C none)) ⟨(hp.push (PySem.W.kdv_tup [])).push (PySem.HandSPX.excO C hp.objs.size), gg, dd, tt, oo⟩ :=
    I1.laid (a := hp.objs.size + 1) (t' := tt) (fun b o z => Heap.get?_push_of_some _ (Heap.get?_push_of_some _ z)) z1 (exo_ok hnew)
  have r1 : Vals [V.ref (hp.objs.size + 1)] [Value.ref (hp.objs.size + 1)] := .cons rfl .nil
  have r2 := hb.rel r1 rz
  have e2 : ws.length = ks.length := rz.length.symm.trans l2
  have hrun := FK.run _ X.stack _ _ ⟨[Value.ref (hp.objs.size + 1)], ks.zip ws⟩ (g [Value.ref (hp.objs.size + 1)] ws) _ _ (fun _ _ _ => False) (hr.make C [] (ks.zip ws)) (J2.env0.make C [] (ks.zip ws)) (hb.to _ [Value.ref (hp.objs.size + 1)] ws J2.kIn rfl e2) r2 hq
  refine wpAny_call (callK F.excBase_ValueError (fun Y => PySem.HandSPX.refsVE_contains Y bmm hVE) (I1.kIn _ _ hCC) (PySem.W.looks_findIn I1.kIn iC) (fun z => PySem.W.bind_fn I1.kIn z tI) (Nat.zero_le _) (codeAny_mono hrun fun r s' hq' => ?_))
  cases r with
  | error er => exact hx pins σ _ _ er s' J2 hq'
  | ok fl =>
    cases fl with
    | ret u =>
      obtain ⟨z, H2, I3, rz, ez, q⟩ := J2.after hq'
      subst ez
      exact ⟨rz, .ref (hp.objs.size + 1), H2, I3, rfl, q⟩
    | next => exact False.elim hq'
    | brk => exact False.elim hq'
    | cont => exact False.elim hq'
/-- C() as a value, all fields by their defaults -/
theorem pe_exo0 (T : OexC X.K C) (iC : PySem.W.findIn X.K (.ref C) "__init__" = some (some (.ref fI))) (tI : PySem.W.typeIn X.K (.ref fI) = some (.type "function")) (FK : FnOk X.prog X.w X.K X.mg X.base CX k fI fd ps sp) (hr : Room (k + 1) X.A)
    (hb : Binds X.K fd ps ds) (hd : Vals dvs ds) (hx : Passes CX X (fun _ _ _ => False)) (hg : Gl X x) (hm : X.mg x = some (.ref C)) (hdb : (x == ("__debug__" : Str)) = false := by decide) :
    PE X (.Call (.Name x p) [] [] pos) (tExo C sp dvs tNil) := by
  refine ⟨fun pins s σ H Q I h => ?_⟩
  refine wpAny_Call_Name_kw (ld_glob I hg hm ?_ hdb)
  obtain ⟨hz, q1⟩ := h
  exact PySem.W.callWith_K0 I.kIn T.kC (run_exo T iC tI FK hr hb hd hx I .nil hz q1)
end
end Bt
namespace Bt
open PySem PySem.Spec PyProof.Rows L2
/-! ### an own error without an own __init__ -/
def tExc0 (C : Addr) : TE := fun _ H Q => ∀ a, H a = none → Q (.ref a) (upd H a (ExO (.ref C) a))
theorem pe_exc0 {X : Cx} {C : Addr} {bmB : List Value} {B newId initId : String} {x : Str} {p pos : Pos} (FB : ExcBaseFacts B newId initId bmB) (q : PySem.W.excIn X.K C bmB newId = true) (gC : X.mg x = some (.ref C)) (kC : PySem.W.keepIn X.K (.ref C) = true) (hg : Gl X x)
    (hdb : (x == ("__debug__" : Str)) = false := by decide) : PE X (.Call (.Name x p) [] [] pos) (tExc0 C) := by
  refine ⟨fun pins s σ H Q I h => ?_⟩
  refine wpAny_Call_Name_kw (ld_glob I hg gC ?_ hdb)
  refine PySem.W.callWith_K0 I.kIn kC ?_
  obtain ⟨bm, N, nm, qn, bs, hdct, sn, sub, ab, col, dd, k0, k1, k2, k3, k5, mN, hC, hN, hni, T⟩ := exc_obj I.kIn q
  refine wpAny_call_exc_subT FB T hC hN hni (fun h' a hm => ?_) (Nat.zero_le _)
  have hn : H a = none := I.hok.gone hm.new
  obtain ⟨t, ht, _, _⟩ := hm.there
  exact ⟨.ref a, upd H a (ExO (.ref C) a), I.laidN hm.keeps hm.new hn (exO_ok ht ⟨rfl, rfl⟩ rfl rfl rfl (show 4 < 6 by decide)), rfl, h a hn⟩
/-- isinstance(e, c), e with or without fields -/
def rIsY (K : PySem.W.Frag) : List V → Hp → VK → Prop := fun xs H Q => rIsX K xs H Q ∨ ∃ (a D : Addr) (c : V) (cv : Value) (b : Bool), xs = [.ref a, c] ∧ H a = some (ExO (.ref D) a) ∧ ExcC K D ∧ ClsV c cv ∧ PySem.W.kitOne K (.ref D) cv = some b ∧ Q (.bl b) H
theorem call_isY {X : Cx} : CallR X (.builtin "isinstance") (rIsY X.K) := by
  intro pins s σ H xs us Q I r h
  rcases h with h | ⟨a, D, c, cv, b, rfl, ha, hD, hc, hk, q⟩
  · exact call_isX pins s σ H xs us Q I r h
  · cases r with
    | cons rx rr =>
    cases rr with
    | cons rt rr =>
    cases rr
    cases rx
    have ec := hc.eq rt
    subst ec
    obtain ⟨⟨oe, vs, hget, hz, hv, _⟩, _, _⟩ := I.hok a _ ha
    have J : PySem.W.InstAt s.heap a oe D none := by
      obtain ⟨oc, od, oda, osl⟩ := oe
      obtain ⟨h1, h2⟩ := hz
      dsimp only at h1 h2 hv
      subst h1 h2 hv
      exact ⟨hget, rfl, rfl, trivial⟩
    exact PySem.W.kia_one (PySem.W.handS_kitx_exc hD.hg hD.hk hD.hs hD.hd hD.ha hD.hn hD.ht hD.hm) I.kIn J hk (fun z => nomatch z) fun tk => ⟨.bl b, H, I.kept (t' := tk) fun _ _ z => z, rfl, q⟩
end Bt
namespace Bt
open PySem PySem.Spec PyProof.Rows L2
def top (i : Nat) : Stmt := PySem.Challenge.pw_betweenlists_k01_errors_made.main.body.getD i (.Pass ⟨0, 0, 0, 0⟩)
abbrev s_InvalidName___init__ : Stmt := inClass (top 2) 0
theorem sc_InvalidName___init__ : FnScope ["self", "value"] ["self", "value"] (defScope s_InvalidName___init__) := ⟨rfl, rfl, rfl, by decide +kernel, rfl, by decide +kernel, by decide +kernel⟩
abbrev s_InvalidPlace___init__ : Stmt := inClass (top 3) 0
theorem sc_InvalidPlace___init__ : FnScope ["self", "value"] ["self", "value"] (defScope s_InvalidPlace___init__) := ⟨rfl, rfl, rfl, by decide +kernel, rfl, by decide +kernel, by decide +kernel⟩
abbrev s_InvalidForm___init__ : Stmt := inClass (top 4) 0
theorem sc_InvalidForm___init__ : FnScope ["self", "value"] ["self", "value"] (defScope s_InvalidForm___init__) := ⟨rfl, rfl, rfl, by decide +kernel, rfl, by decide +kernel, by decide +kernel⟩
abbrev s_InvalidLook___init__ : Stmt := inClass (top 5) 0
theorem sc_InvalidLook___init__ : FnScope ["self", "value"] ["self", "value"] (defScope s_InvalidLook___init__) := ⟨rfl, rfl, rfl, by decide +kernel, rfl, by decide +kernel, by decide +kernel⟩
abbrev s_InvalidLog___init__ : Stmt := inClass (top 6) 0
theorem sc_InvalidLog___init__ : FnScope ["self", "value"] ["self", "value"] (defScope s_InvalidLog___init__) := ⟨rfl, rfl, rfl, by decide +kernel, rfl, by decide +kernel, by decide +kernel⟩
abbrev s_InvalidRules___init__ : Stmt := inClass (top 7) 0
theorem sc_InvalidRules___init__ : FnScope ["self", "value"] ["self", "value"] (defScope s_InvalidRules___init__) := ⟨rfl, rfl, rfl, by decide +kernel, rfl, by decide +kernel, by decide +kernel⟩
abbrev s_InvalidDemand___init__ : Stmt := inClass (top 8) 0
theorem sc_InvalidDemand___init__ : FnScope ["self", "value"] ["self", "value"] (defScope s_InvalidDemand___init__) := ⟨rfl, rfl, rfl, by decide +kernel, rfl, by decide +kernel, by decide +kernel⟩
abbrev s_InvalidStory___init__ : Stmt := inClass (top 9) 0
theorem sc_InvalidStory___init__ : FnScope ["self", "value"] ["self", "value"] (defScope s_InvalidStory___init__) := ⟨rfl, rfl, rfl, by decide +kernel, rfl, by decide +kernel, by decide +kernel⟩
abbrev s_InvalidChange___init__ : Stmt := inClass (top 10) 0
theorem sc_InvalidChange___init__ : FnScope ["self", "value"] ["self", "value"] (defScope s_InvalidChange___init__) := ⟨rfl, rfl, rfl, by decide +kernel, rfl, by decide +kernel, by decide +kernel⟩
abbrev s_InvalidNumber___init__ : Stmt := inClass (top 11) 0
theorem sc_InvalidNumber___init__ : FnScope ["self", "value"] ["self", "value"] (defScope s_InvalidNumber___init__) := ⟨rfl, rfl, rfl, by decide +kernel, rfl, by decide +kernel, by decide +kernel⟩
abbrev s_InvalidList___init__ : Stmt := inClass (top 12) 0
theorem sc_InvalidList___init__ : FnScope ["self", "value"] ["self", "value"] (defScope s_InvalidList___init__) := ⟨rfl, rfl, rfl, by decide +kernel, rfl, by decide +kernel, by decide +kernel⟩
abbrev s_InvalidText___init__ : Stmt := inClass (top 13) 0
theorem sc_InvalidText___init__ : FnScope ["self", "line"] ["self", "line"] (defScope s_InvalidText___init__) := ⟨rfl, rfl, rfl, by decide +kernel, rfl, by decide +kernel, by decide +kernel⟩
abbrev s_Missing___init__ : Stmt := inClass (top 14) 0
theorem sc_Missing___init__ : FnScope ["self", "place"] ["self", "place"] (defScope s_Missing___init__) := ⟨rfl, rfl, rfl, by decide +kernel, rfl, by decide +kernel, by decide +kernel⟩
abbrev s_Occupied___init__ : Stmt := inClass (top 15) 0
theorem sc_Occupied___init__ : FnScope ["self", "place"] ["self", "place"] (defScope s_Occupied___init__) := ⟨rfl, rfl, rfl, by decide +kernel, rfl, by decide +kernel, by decide +kernel⟩
abbrev s_Barred___init__ : Stmt := inClass (top 16) 0
theorem sc_Barred___init__ : FnScope ["self", "one", "other"] ["self", "one", "other"] (defScope s_Barred___init__) := ⟨rfl, rfl, rfl, by decide +kernel, rfl, by decide +kernel, by decide +kernel⟩
abbrev s_Failed___init__ : Stmt := inClass (top 17) 0
theorem sc_Failed___init__ : FnScope ["self", "step", "why"] ["self", "step", "why"] (defScope s_Failed___init__) := ⟨rfl, rfl, rfl, by decide +kernel, rfl, by decide +kernel, by decide +kernel⟩
abbrev s__law_kinds : Stmt := top 20
theorem sc__law_kinds : FnScope ["_law_error", "_law_kinds_here"] ["_law_error"] (defScope s__law_kinds) := ⟨rfl, rfl, rfl, by decide +kernel, rfl, by decide +kernel, by decide +kernel⟩
abbrev s__law_right : Stmt := top 21
theorem sc__law_right : FnScope ["_law_errors", "_law_at", "_law_error", "_law_k"] ["_law_errors"] (defScope s__law_right) := ⟨rfl, rfl, rfl, by decide +kernel, rfl, by decide +kernel, by decide +kernel⟩
abbrev s__law_values : Stmt := top 22
theorem sc__law_values : FnScope ["_law_errors", "_law_values_here", "_law_error"] ["_law_errors"] (defScope s__law_values) := ⟨rfl, rfl, rfl, by decide +kernel, rfl, by decide +kernel, by decide +kernel⟩
abbrev s__law_placed : Stmt := top 23
theorem sc__law_placed : FnScope ["_law_left", "_law_right_here", "_law_errors"] ["_law_left", "_law_right_here"] (defScope s__law_placed) := ⟨rfl, rfl, rfl, by decide +kernel, rfl, by decide +kernel, by decide +kernel⟩
abbrev s__law_named : Stmt := top 24
theorem sc__law_named : FnScope ["_law_left", "_law_right_here", "_law_errors"] ["_law_left", "_law_right_here"] (defScope s__law_named) := ⟨rfl, rfl, rfl, by decide +kernel, rfl, by decide +kernel, by decide +kernel⟩
abbrev s__law_bare : Stmt := top 25
theorem sc__law_bare : FnScope ["_law_errors"] [] (defScope s__law_bare) := ⟨rfl, rfl, rfl, by decide +kernel, rfl, by decide +kernel, by decide +kernel⟩
abbrev s__law_thing : Stmt := top 26
theorem sc__law_thing : FnScope ["_law_cell", "_law_number"] ["_law_cell"] (defScope s__law_thing) := ⟨rfl, rfl, rfl, by decide +kernel, rfl, by decide +kernel, by decide +kernel⟩
abbrev s_law : Stmt := top 27
theorem sc_law : FnScope ["_law_script", "_law_left", "_law_right_here", "_law_due", "_law_some", "_law_others", "_law_errors", "_law_bare_here", "_law_short", "_law_told", "_law_held"] ["_law_script"] (defScope s_law) := ⟨rfl, rfl, rfl, by decide +kernel, rfl, by decide +kernel, by decide +kernel⟩
end Bt
namespace Bt
open PySem PySem.Spec PyProof.Rows L2
/-! ### the errors of the package, as values -/
theorem PE.imp {X : Cx} {e : Expr} {t t' : TE} (he : PE X e t) (h : ∀ σ H Q, t' σ H Q → t σ H Q) : PE X e t' := ⟨fun pins s σ H Q I z => he.run pins s σ H Q I (h σ H Q z)⟩
theorem exoP {H1 : Hp} {a dx C : Addr} {fs : List (Str × V)} (na : H1 a = none) (nd : upd H1 a (exo a C none) dx = none) (ne : dx ≠ a) : Same H1 (upd (upd (upd H1 a (exo a C none)) dx (exd dx fs)) a (exo a C (some dx))) := fun b o z => by
  have n2 : H1 dx = none := by rw [upd_ne ne] at nd; exact nd
  rw [upd_ne (ne_of_none z na), upd_ne (ne_of_none z n2), upd_ne (ne_of_none z na)]
  exact z
/-- an error with one field, made -/
def tEr1 (C : Addr) (fld : Str) (te : TE) : TE := fun σ H Q => te σ H fun v H1 => ∀ a d H2, H1 a = none → Same H1 H2 → H2 a = some (exo a C (some d)) → H2 d = some (exd d [(fld, v)]) → Q (.ref a) H2
structure Er1 (K : PySem.W.Frag) (mg : Str → Option Value) (x fld : Str) (C : Addr) : Prop where
  g : mg x = some (.ref C)
  T : OexC K C
  no : PySem.W.findIn K (.ref C) fld = some none
  xf : XfC K C
  init : ∃ (f : Addr) (fd : FuncData) (qual : Str) (params : Arguments) (scope : Scope) (q1 q2 q3 q4 : Pos),
    PySem.W.findIn K (.ref C) "__init__" = some (some (.ref f)) ∧ PySem.W.typeIn K (.ref f) = some (.type "function") ∧
    FunD K "__init__" qual params [.Assign [.Attribute (.Name "self" q1) fld q2] (.Name fld q3) q4] scope [.non] [] f fd ∧ FnScope ["self", fld] ["self", fld] scope ∧ Binds K fd ["self", fld] [] ∧
    (∃ ds, Vals [V.non] ds ∧ Binds K fd ["self", fld] ds) ∧ ∃ g gV, KBn K fd ["self", fld] 1 [fld] g gV ∧ ∀ a v, gV [a] [v] = [a, v]
section
variable {X : Cx} {x fld : Str} {C : Addr} {k : Nat} {e : Expr} {te : TE} {p pos kpos : Pos}
theorem er1_key {H1 : Hp} {v : V} {Q : VK} (z : ∀ a d H2, H1 a = none → Same H1 H2 → H2 a = some (exo a C (some d)) → H2 d = some (exd d [(fld, v)]) → Q (.ref a) H2) :
    ∀ a, H1 a = none → spExc C fld [.ref a, v] (upd H1 a (exo a C none)) (fun v H2 => v = .non ∧ Q (.ref a) H2) (fun _ _ _ => False) := fun a na =>
  ⟨a, v, rfl, upd_same, fun dx nd ne => ⟨rfl, z a dx _ na (exoP na nd ne) upd_same (by rw [upd_ne ne, upd_same])⟩⟩
theorem pe_er1 (B : Er1 X.K X.mg x fld C) (hr : Room k X.A) (hk : 2 ≤ k) (he : PE X e te) (hg : Gl X x := by rfl) (hd : (fld == ("__debug__" : Str)) = false := by decide) (hcd : (fld == ("__classdict__" : Str)) = false := by decide)
    (hdb : (x == ("__debug__" : Str)) = false := by decide) (h1 : starEach (e :: []) X.env = (false, eval e X.env) :: starEach [] X.env := by rfl) (h2 : (backTo pos (starEach [] X.env)).any (·.1) = false := by rfl) :
    PE X (.Call (.Name x p) [e] [] pos) (tEr1 C fld te) := by
  obtain ⟨f, fd, qual, params, scope, q1, q2, q3, q4, i1, i2, F, S, b, _, _⟩ := B.init
  refine PE.imp (pe_exo (sp := spExc C fld) (dvs := []) B.T i1 i2 (exc_init B.T B.no F S hd hcd) (hr.mono hk) b .nil pass0 hg B.g (pa_cons (PE.mono he) pa_nil h1) hdb h1 h2) fun σ H Q z => ?_
  exact ⟨_, z, fun v H1 z => ⟨by show 1 ≤ 1000; decide, er1_key z⟩⟩
theorem pe_er1_0 (B : Er1 X.K X.mg x fld C) (hr : Room k X.A) (hk : 2 ≤ k) (hg : Gl X x := by rfl) (hd : (fld == ("__debug__" : Str)) = false := by decide) (hcd : (fld == ("__classdict__" : Str)) = false := by decide)
    (hdb : (x == ("__debug__" : Str)) = false := by decide) : PE X (.Call (.Name x p) [] [] pos) (tEr1 C fld (tC .non)) := by
  obtain ⟨f, fd, qual, params, scope, q1, q2, q3, q4, i1, i2, F, S, _, ⟨ds, v0, b0⟩, _⟩ := B.init
  refine PE.imp (pe_exo0 (sp := spExc C fld) (dvs := [.non]) B.T i1 i2 (exc_init B.T B.no F S hd hcd) (hr.mono hk) b0 v0 pass0 hg B.g hdb) fun σ H Q z => ?_
  exact ⟨by show 0 ≤ 1000; decide, er1_key z⟩
theorem pe_er1K (B : Er1 X.K X.mg x fld C) (hr : Room k X.A) (hk : 2 ≤ k) (he : PE X e te) (hg : Gl X x := by rfl) (hd : (fld == ("__debug__" : Str)) = false := by decide) (hcd : (fld == ("__classdict__" : Str)) = false := by decide)
    (hdb : (x == ("__debug__" : Str)) = false := by decide) (hall : (backToKw pos (keywordEach [⟨some fld, e, kpos⟩] X.env)).all (·.1.isSome) = true := by rfl) (hks : (backToKw pos (keywordEach [⟨some fld, e, kpos⟩] X.env)).filterMap (·.1) = [fld] := by rfl)
    (hpl : ((backTo pos (starEach [] X.env)).any (·.1) || (backToKw pos (keywordEach [⟨some fld, e, kpos⟩] X.env)).any (·.1.isNone)) = false := by rfl) :
    PE X (.Call (.Name x p) [] [⟨some fld, e, kpos⟩] pos) (tEr1 C fld te) := by
  obtain ⟨f, fd, qual, params, scope, q1, q2, q3, q4, i1, i2, F, S, _, _, g, gV, kb, eg⟩ := B.init
  refine PE.imp (pe_exoK (sp := spExc C fld) B.T i1 i2 (exc_init B.T B.no F S hd hcd) (hr.mono hk) kb pass0 hg B.g (pk_cons (PE.mono he) pk_nil) hall hks hdb hpl) fun σ H Q z => ?_
  exact ⟨_, z, fun v H1 z => ⟨rfl, fun a na => by rw [eg]; exact er1_key z a na⟩⟩
end
/-! two fields -/
def tEr2 (C : Addr) (f1 f2 : Str) (t1 t2 : TE) : TE := fun σ H Q => t1 σ H fun v H0 => t2 σ H0 fun u H1 => ∀ a d H2, H1 a = none → Same H1 H2 → H2 a = some (exo a C (some d)) → H2 d = some (exd d [(f2, u), (f1, v)]) → Q (.ref a) H2
/-- the second one asked first -/
def tEr2K (C : Addr) (f1 f2 : Str) (t1 t2 : TE) : TE := fun σ H Q => t2 σ H fun u H0 => t1 σ H0 fun v H1 => ∀ a d H2, H1 a = none → Same H1 H2 → H2 a = some (exo a C (some d)) → H2 d = some (exd d [(f2, u), (f1, v)]) → Q (.ref a) H2
def spExc2 (C : Addr) (f1 f2 : Str) : Sp := fun vs H Q _ => ∃ a v u, vs = [.ref a, v, u] ∧ H a = some (exo a C none) ∧ ∀ dx, H dx = none → dx ≠ a → Q .non (upd (upd (upd H dx (exd dx [(f1, v)])) a (exo a C (some dx))) dx (exd dx [(f2, u), (f1, v)]))
structure Er2 (K : PySem.W.Frag) (mg : Str → Option Value) (x f1 f2 : Str) (C : Addr) : Prop where
  g : mg x = some (.ref C)
  T : OexC K C
  no1 : PySem.W.findIn K (.ref C) f1 = some none
  no2 : PySem.W.findIn K (.ref C) f2 = some none
  xf : XfC K C
  init : ∃ (f : Addr) (fd : FuncData) (qual : Str) (params : Arguments) (scope : Scope) (q1 q2 q3 q4 q5 q6 q7 q8 : Pos),
    PySem.W.findIn K (.ref C) "__init__" = some (some (.ref f)) ∧ PySem.W.typeIn K (.ref f) = some (.type "function") ∧
    FunD K "__init__" qual params [.Assign [.Attribute (.Name "self" q1) f1 q2] (.Name f1 q3) q4, .Assign [.Attribute (.Name "self" q5) f2 q6] (.Name f2 q7) q8] scope [.non, .non] [] f fd ∧ FnScope ["self", f1, f2] ["self", f1, f2] scope ∧ Binds K fd ["self", f1, f2] [] ∧
    (∃ ds, Vals [V.non] ds ∧ Binds K fd ["self", f1, f2] ds) ∧ (∃ ds, Vals [V.non, V.non] ds ∧ Binds K fd ["self", f1, f2] ds) ∧
    (∃ g gV, KBn K fd ["self", f1, f2] 1 [f2, f1] g gV ∧ ∀ a u v, gV [a] [u, v] = [a, v, u]) ∧ ∃ g gV, KBn K fd ["self", f1, f2] 1 [f2] g gV ∧ ∀ a u, gV [a] [u] = [a, .non, u]
section
variable {P : Program} {w : World} {K : PySem.W.Frag} {mg : Str → Option Value} {base : Heap} {x f1 f2 : Str} {C : Addr}
theorem exc_init2 {f : Addr} {fd : FuncData} {qual : Str} {params : Arguments} {scope : Scope} {q1 q2 q3 q4 q5 q6 q7 q8 : Pos} (T : OexC K C) (n1 : PySem.W.findIn K (.ref C) f1 = some none) (n2 : PySem.W.findIn K (.ref C) f2 = some none)
    (F : FunD K "__init__" qual params [.Assign [.Attribute (.Name "self" q1) f1 q2] (.Name f1 q3) q4, .Assign [.Attribute (.Name "self" q5) f2 q6] (.Name f2 q7) q8] scope [.non, .non] [] f fd) (S : FnScope ["self", f1, f2] ["self", f1, f2] scope)
    (d1 : (f1 == ("__debug__" : Str)) = false) (c1 : (f1 == ("__classdict__" : Str)) = false) (d2 : (f2 == ("__debug__" : Str)) = false) (c2 : (f2 == ("__classdict__" : Str)) = false) :
    FnOk P w K mg base CX0 1 f fd ["self", f1, f2] (spExc2 C f1 f2) := by
  refine F.ok S (fun vs H Q E h => ?_) (fun cdv A outer s H vs Q E hr h => ?_)
  · obtain ⟨a, v, u, rfl, _⟩ := h
    rfl
  · obtain ⟨a, v, u, rfl, ha, k⟩ := h
    have v1 : Vis scope "self" := (S.par "self" List.mem_cons_self).elim .inl fun z => .inr (.inl z)
    have v2 : Vis scope f1 := (S.par f1 (List.mem_cons_of_mem _ List.mem_cons_self)).elim .inl fun z => .inr (.inl z)
    have v3 : Vis scope f2 := (S.par f2 (List.mem_cons_of_mem _ (List.mem_cons_of_mem _ List.mem_cons_self))).elim .inl fun z => .inr (.inl z)
    refine ⟨_, pss_cons (ps_ost (pe_var (i := 0) rfl v1 (by decide) (by decide)) (pe_var (i := 1) rfl v2 d1 c1) (by rfl)) (pss_one (ps_ost (pe_var (i := 0) rfl v1 (by decide) (by decide)) (pe_var (i := 2) rfl v3 d2 c2) (by rfl))), ?_⟩
    refine ⟨v, rfl, .ref a, rfl, a, C, rfl, T, n1, .inl ⟨ha, fun dx n ne => ?_⟩⟩
    refine ⟨u, rfl, .ref a, rfl, a, C, rfl, T, n2, .inr ⟨dx, [(f1, v)], upd_same, by rw [upd_ne ne, upd_same], by show 1 ≤ 900; decide, ?_⟩⟩
    exact k dx n ne
end
section
variable {X : Cx} {x f1 f2 : Str} {C : Addr} {k : Nat} {e e2 : Expr} {t1 t2 : TE} {p pos kp1 kp2 : Pos}
theorem er2_key {H1 : Hp} {v u : V} {Q : VK} (z : ∀ a d H2, H1 a = none → Same H1 H2 → H2 a = some (exo a C (some d)) → H2 d = some (exd d [(f2, u), (f1, v)]) → Q (.ref a) H2) :
    ∀ a, H1 a = none → spExc2 C f1 f2 [.ref a, v, u] (upd H1 a (exo a C none)) (fun v H2 => v = .non ∧ Q (.ref a) H2) (fun _ _ _ => False) := fun a na =>
  ⟨a, v, u, rfl, upd_same, fun dx nd ne => ⟨rfl, z a dx _ na (fun b o y => by
    have n2 : H1 dx = none := by rw [upd_ne ne] at nd; exact nd
    rw [upd_ne (ne_of_none y n2)]
    exact exoP na nd ne b o y) (by rw [upd_ne (Ne.symm ne), upd_same]) upd_same⟩⟩
theorem pe_er2 (B : Er2 X.K X.mg x f1 f2 C) (hr : Room k X.A) (hk : 2 ≤ k) (he : PE X e t1) (he2 : PE X e2 t2) (hg : Gl X x := by rfl) (d1 : (f1 == ("__debug__" : Str)) = false := by decide) (c1 : (f1 == ("__classdict__" : Str)) = false := by decide) (d2 : (f2 == ("__debug__" : Str)) = false := by decide) (c2 : (f2 == ("__classdict__" : Str)) = false := by decide)
    (hdb : (x == ("__debug__" : Str)) = false := by decide) (h1 : starEach (e :: [e2]) X.env = (false, eval e X.env) :: starEach [e2] X.env := by rfl) (h2 : starEach (e2 :: []) X.env = (false, eval e2 X.env) :: starEach [] X.env := by rfl) (h3 : (backTo pos (starEach [e2] X.env)).any (·.1) = false := by rfl) :
    PE X (.Call (.Name x p) [e, e2] [] pos) (tEr2 C f1 f2 t1 t2) := by
  obtain ⟨f, fd, qual, params, scope, q1, q2, q3, q4, q5, q6, q7, q8, i1, i2, F, S, b, _⟩ := B.init
  refine PE.imp (pe_exo (sp := spExc2 C f1 f2) (dvs := []) B.T i1 i2 (exc_init2 B.T B.no1 B.no2 F S d1 c1 d2 c2) (hr.mono hk) b .nil pass0 hg B.g (pa_cons (PE.mono he) (pa_cons (PE.mono he2) pa_nil h2) h1) hdb h1 h3) fun σ H Q z => ?_
  exact ⟨_, z, fun v H0 z => ⟨_, z, fun u H1 z => ⟨by show 2 ≤ 1000; decide, er2_key z⟩⟩⟩
theorem pe_er2_1 (B : Er2 X.K X.mg x f1 f2 C) (hr : Room k X.A) (hk : 2 ≤ k) (he : PE X e t1) (hg : Gl X x := by rfl) (d1 : (f1 == ("__debug__" : Str)) = false := by decide) (c1 : (f1 == ("__classdict__" : Str)) = false := by decide) (d2 : (f2 == ("__debug__" : Str)) = false := by decide) (c2 : (f2 == ("__classdict__" : Str)) = false := by decide)
    (hdb : (x == ("__debug__" : Str)) = false := by decide) (h1 : starEach (e :: []) X.env = (false, eval e X.env) :: starEach [] X.env := by rfl) (h3 : (backTo pos (starEach [] X.env)).any (·.1) = false := by rfl) :
    PE X (.Call (.Name x p) [e] [] pos) (tEr2 C f1 f2 t1 (tC .non)) := by
  obtain ⟨f, fd, qual, params, scope, q1, q2, q3, q4, q5, q6, q7, q8, i1, i2, F, S, _, ⟨ds, v0, b0⟩, _⟩ := B.init
  refine PE.imp (pe_exo (sp := spExc2 C f1 f2) (dvs := [.non]) B.T i1 i2 (exc_init2 B.T B.no1 B.no2 F S d1 c1 d2 c2) (hr.mono hk) b0 v0 pass0 hg B.g (pa_cons (PE.mono he) pa_nil h1) hdb h1 h3) fun σ H Q z => ?_
  exact ⟨_, z, fun v H0 z => ⟨by show 1 ≤ 1000; decide, er2_key z⟩⟩
theorem pe_er2_0 (B : Er2 X.K X.mg x f1 f2 C) (hr : Room k X.A) (hk : 2 ≤ k) (hg : Gl X x := by rfl) (d1 : (f1 == ("__debug__" : Str)) = false := by decide) (c1 : (f1 == ("__classdict__" : Str)) = false := by decide) (d2 : (f2 == ("__debug__" : Str)) = false := by decide) (c2 : (f2 == ("__classdict__" : Str)) = false := by decide)
    (hdb : (x == ("__debug__" : Str)) = false := by decide) : PE X (.Call (.Name x p) [] [] pos) (tEr2 C f1 f2 (tC .non) (tC .non)) := by
  obtain ⟨f, fd, qual, params, scope, q1, q2, q3, q4, q5, q6, q7, q8, i1, i2, F, S, _, _, ⟨ds, v0, b0⟩, _⟩ := B.init
  refine PE.imp (pe_exo0 (sp := spExc2 C f1 f2) (dvs := [.non, .non]) B.T i1 i2 (exc_init2 B.T B.no1 B.no2 F S d1 c1 d2 c2) (hr.mono hk) b0 v0 pass0 hg B.g hdb) fun σ H Q z => ?_
  exact ⟨by show 0 ≤ 1000; decide, er2_key z⟩
theorem pe_er2K (B : Er2 X.K X.mg x f1 f2 C) (hr : Room k X.A) (hk : 2 ≤ k) (he : PE X e t1) (he2 : PE X e2 t2) (hg : Gl X x := by rfl) (d1 : (f1 == ("__debug__" : Str)) = false := by decide) (c1 : (f1 == ("__classdict__" : Str)) = false := by decide) (d2 : (f2 == ("__debug__" : Str)) = false := by decide) (c2 : (f2 == ("__classdict__" : Str)) = false := by decide)
    (hdb : (x == ("__debug__" : Str)) = false := by decide) (hall : (backToKw pos (keywordEach [⟨some f2, e2, kp2⟩, ⟨some f1, e, kp1⟩] X.env)).all (·.1.isSome) = true := by rfl) (hks : (backToKw pos (keywordEach [⟨some f2, e2, kp2⟩, ⟨some f1, e, kp1⟩] X.env)).filterMap (·.1) = [f2, f1] := by rfl)
    (hpl : ((backTo pos (starEach [] X.env)).any (·.1) || (backToKw pos (keywordEach [⟨some f2, e2, kp2⟩, ⟨some f1, e, kp1⟩] X.env)).any (·.1.isNone)) = false := by rfl) :
    PE X (.Call (.Name x p) [] [⟨some f2, e2, kp2⟩, ⟨some f1, e, kp1⟩] pos) (tEr2K C f1 f2 t1 t2) := by
  obtain ⟨f, fd, qual, params, scope, q1, q2, q3, q4, q5, q6, q7, q8, i1, i2, F, S, _, _, _, ⟨g, gV, kb, eg⟩, _⟩ := B.init
  refine PE.imp (pe_exoK (sp := spExc2 C f1 f2) B.T i1 i2 (exc_init2 B.T B.no1 B.no2 F S d1 c1 d2 c2) (hr.mono hk) kb pass0 hg B.g (pk_cons (PE.mono he2) (pk_cons (PE.mono he) pk_nil)) hall hks hdb hpl) fun σ H Q z => ?_
  exact ⟨_, z, fun u H0 z => ⟨_, z, fun v H1 z => ⟨rfl, fun a na => by rw [eg]; exact er2_key z a na⟩⟩⟩
theorem pe_er2L (B : Er2 X.K X.mg x f1 f2 C) (hr : Room k X.A) (hk : 2 ≤ k) (he2 : PE X e2 t2) (hg : Gl X x := by rfl) (d1 : (f1 == ("__debug__" : Str)) = false := by decide) (c1 : (f1 == ("__classdict__" : Str)) = false := by decide) (d2 : (f2 == ("__debug__" : Str)) = false := by decide) (c2 : (f2 == ("__classdict__" : Str)) = false := by decide)
    (hdb : (x == ("__debug__" : Str)) = false := by decide) (hall : (backToKw pos (keywordEach [⟨some f2, e2, kp2⟩] X.env)).all (·.1.isSome) = true := by rfl) (hks : (backToKw pos (keywordEach [⟨some f2, e2, kp2⟩] X.env)).filterMap (·.1) = [f2] := by rfl)
    (hpl : ((backTo pos (starEach [] X.env)).any (·.1) || (backToKw pos (keywordEach [⟨some f2, e2, kp2⟩] X.env)).any (·.1.isNone)) = false := by rfl) :
    PE X (.Call (.Name x p) [] [⟨some f2, e2, kp2⟩] pos) (tEr2K C f1 f2 (tC .non) t2) := by
  obtain ⟨f, fd, qual, params, scope, q1, q2, q3, q4, q5, q6, q7, q8, i1, i2, F, S, _, _, _, _, g, gV, kb, eg⟩ := B.init
  refine PE.imp (pe_exoK (sp := spExc2 C f1 f2) B.T i1 i2 (exc_init2 B.T B.no1 B.no2 F S d1 c1 d2 c2) (hr.mono hk) kb pass0 hg B.g (pk_cons (PE.mono he2) pk_nil) hall hks hdb hpl) fun σ H Q z => ?_
  exact ⟨_, z, fun u H0 z => ⟨rfl, fun a na => by rw [eg]; exact er2_key z a na⟩⟩
end
end Bt
namespace Bt
open PySem PySem.Spec PyProof.Rows L2
theorem app_cps (a b : Str) : (a ++ b).cps.toList = a.cps.toList ++ b.cps.toList := by
  show (a.cps ++ b.cps).toList = _
  simp
theorem len_cps (z : Str) : z.length = z.cps.toList.length := (Array.length_toList).symm
theorem app_len (a b : Str) : (a ++ b).length = a.length + b.length := by
  rw [len_cps, len_cps, len_cps, app_cps, List.length_append]
theorem cut_cps (z : Str) (lo hi : Option Int) : (cutS z lo hi).cps.toList = (z.cps.toList.drop (HT.sIx z.length 0 lo)).take (HT.sIx z.length z.length hi - HT.sIx z.length 0 lo) := rfl
theorem cut_from {z : Str} {i : Int} (h0 : 0 ≤ i) : (cutS z (some i) none).cps.toList = z.cps.toList.drop i.toNat := by
  obtain ⟨k, rfl⟩ : ∃ k : Nat, i = k := ⟨i.toNat, by omega⟩
  rw [cut_cps, HT.sIx_nat, HT.sIx_none, Int.toNat_natCast, len_cps]
  rcases Nat.le_total k z.cps.toList.length with h | h
  · rw [Nat.min_eq_left h, List.take_of_length_le (by rw [List.length_drop]; omega)]
  · rw [Nat.min_eq_right h, List.drop_of_length_le (Nat.le_refl _), List.drop_of_length_le h, List.take_nil]
theorem cut_to {z : Str} {j : Int} (h0 : 0 ≤ j) : (cutS z none (some j)).cps.toList = z.cps.toList.take j.toNat := by
  obtain ⟨k, rfl⟩ : ∃ k : Nat, j = k := ⟨j.toNat, by omega⟩
  rw [cut_cps, HT.sIx_nat, HT.sIx_none, Int.toNat_natCast, len_cps, List.drop_zero, Nat.sub_zero]
  rcases Nat.le_total k z.cps.toList.length with h | h
  · rw [Nat.min_eq_left h]
  · rw [Nat.min_eq_right h, List.take_of_length_le (Nat.le_refl _), List.take_of_length_le h]
theorem cut_mid {z : Str} {i j : Int} (h0 : 0 ≤ i) (h1 : 0 ≤ j) (h2 : i ≤ z.length) (h3 : j ≤ z.length) : (cutS z (some i) (some j)).cps.toList = (z.cps.toList.drop i.toNat).take (j.toNat - i.toNat) := by
  obtain ⟨k, rfl⟩ : ∃ k : Nat, i = k := ⟨i.toNat, by omega⟩
  obtain ⟨m, rfl⟩ : ∃ k : Nat, j = k := ⟨j.toNat, by omega⟩
  rw [cut_cps, HT.sIx_nat, HT.sIx_nat, Int.toNat_natCast, Int.toNat_natCast, Nat.min_eq_left (by omega), Nat.min_eq_left (by omega)]
theorem Letters.len {z : Str} (h : Letters z) : z.length = 26 := by rw [len_cps, h.length_eq, alpha_len]
theorem Letters.asc {z : Str} (h : Letters z) : Asc z := fun c hc => by
  have := (mem_alpha.mp (h.mem_iff.mp hc)).2
  omega
theorem letters_alpha : Letters alphaS := by unfold Letters; rw [alphaS_cps]
theorem letters_rev : Letters (revT alphaS) := by decide +kernel
theorem perm_rot {l : List Nat} (k : Nat) : (l.drop k ++ l.take k).Perm l := by
  refine List.perm_append_comm.trans ?_
  rw [List.take_append_drop]
theorem letters_rot {z a b : Str} {k : Nat} (h : Letters z) (ha : a.cps.toList = z.cps.toList.drop k) (hb : b.cps.toList = z.cps.toList.take k) : Letters (a ++ b) := by
  unfold Letters
  rw [app_cps, ha, hb]
  exact (perm_rot k).trans h
theorem perm_pull {l : List Nat} {t a : Nat} {c : Nat} (hta : t ≤ a) (hc : l[a]? = some c) : (l.take t ++ [c] ++ ((l.drop t).take (a - t) ++ l.drop (a + 1))).Perm l := by
  obtain ⟨ha, ec⟩ := List.getElem?_eq_some_iff.mp hc
  have e1 : l = l.take t ++ ((l.drop t).take (a - t) ++ (c :: l.drop (a + 1))) := by
    have h1 : l.drop t = (l.drop t).take (a - t) ++ (l.drop t).drop (a - t) := (List.take_append_drop _ _).symm
    have h2 : (l.drop t).drop (a - t) = l.drop a := by rw [List.drop_drop]; congr 1; omega
    have h3 : l.drop a = c :: l.drop (a + 1) := by rw [List.drop_eq_getElem_cons ha, ec]
    rw [← h3, ← h2, ← h1, List.take_append_drop]
  have e2 : (l.take t ++ [c] ++ ((l.drop t).take (a - t) ++ l.drop (a + 1))).Perm (l.take t ++ ((l.drop t).take (a - t) ++ (c :: l.drop (a + 1)))) := by
    rw [List.append_assoc]
    refine List.Perm.append_left _ ?_
    show ([c] ++ ((l.drop t).take (a - t) ++ l.drop (a + 1))).Perm _
    exact (List.perm_middle (a := c) (l₁ := (l.drop t).take (a - t)) (l₂ := l.drop (a + 1))).symm
  rw [← e1] at e2
  exact e2
theorem letters_pull {z x y r : Str} {t a c : Nat} (h : Letters z) (hta : t ≤ a) (hc : z.cps.toList[a]? = some c) (hx : x.cps.toList = z.cps.toList.take t) (hy : y.cps.toList = [c]) (hr : r.cps.toList = (z.cps.toList.drop t).take (a - t) ++ z.cps.toList.drop (a + 1)) : Letters (x ++ y ++ r) := by
  unfold Letters
  rw [app_cps, app_cps, hx, hy, hr]
  exact (perm_pull hta hc).trans h
end Bt
namespace Bt
open PySem PySem.Spec PyProof.Rows L2
section
variable {X : Cx}
/-- a tuple == an instance of an own class: the class's own __eq__ answers -/
def rEqTupOwn (K : PySem.W.Frag) (C : Addr) (sp : Sp) (E : XK) : R2 := fun x y H Q => ∃ t xs a dx fs, x = .ref t ∧ H t = some (.tup xs) ∧ y = .ref a ∧ H a = some (.ins C dx fs) ∧ sp [y, x] H (fun v H' => ∃ b, v = .bl b ∧ Q v H') E
theorem op_eqTupOwn {CX : CXT} {n : Nat} {C f : Addr} {fd : FuncData} {ps : List Str} {sp : Sp} {E : XK} (F : FnOk X.prog X.w X.K X.mg X.base CX n f fd ps sp) (hr : Room n X.A)
    (hs : PySem.W.findIn X.K (.ref C) "__eq__" = some (some (.ref f))) (hf : PySem.W.isFn X.K (.ref f) = true) (hb : Binds X.K fd ps []) (hx : Passes CX X E)
    (hsub : PySem.W.subIn X.K (.ref C) (.type "tuple") = some false) (hmro : PySem.W.mroIn X.K C (.type "tuple") = some false) : OpR X (compareOp .Eq) (rEqTupOwn X.K C sp E) := by
  intro pins s σ H x y v u Q I rx ry hq
  obtain ⟨t, xs, a, dx, fs, rfl, ht, rfl, ha, hsp⟩ := hq
  cases rx
  cases ry
  obtain ⟨mA, J, _⟩ := ins_get I.hok ha
  obtain ⟨od, J, _⟩ := J.look
  obtain ⟨m, hF⟩ := I.fr
  obtain ⟨its, r, pl, hz⟩ := I.tuple (.inl (.inl ht))
  have XK := I.kIn
  have hT : s.TypeIs (.ref t) "tuple" := pl.typeIs
  show wpAny (model X.prog X.w) X.A (richCompare .Eq (.ref t) (.ref a)) (EP X pins σ Q) X.xe s
  have inst : PySem.W.Looks (model X.prog X.w) s.heap (isInstance (.ref a) (.type "tuple")) false := J.type.andThen (PySem.W.looks_mroIn XK hmro)
  unfold richCompare
  simp only [oneThing_ref]
  refine wpAny_holding (wpAny_bind (wpAny_cRoomFor hr.units0 ?_))
  refine wpAny_bind (wpAny_typeOf hT (wpAny_bind (J.type.here ?_)))
  rw [if_pos (by rfl)]
  refine wpAny_bind ((PySem.W.looks_subIn XK hsub).here ?_)
  simp only [Bool.false_eq_true, if_false]
  refine wpAny_bind (wpAny_tryCompare_declines hT PySem.F.slot_tuple_eq (wpAny_call_entry PySem.F.slot_tuple_eq hT PySem.F.entry_tuple_eq ?_ (PySem.F.args_tuple_eq_2 _ _)))
  have hl := F.len _ _ _ _ hsp
  have r2 : Vals [V.ref a, V.ref t] [Value.ref a, Value.ref t] := .cons rfl (.cons rfl .nil)
  have back : ∀ s' : Shared, s' = s → wpAny (model X.prog X.w) X.A (tryCompare (.ref a) "__eq__" (.ref t)) (fun r s' => ∃ v, r = some v ∧ EP X pins σ Q v s') X.xe s' := fun s' e => by
    subst e
    unfold tryCompare
    refine wpAny_bind (PySem.W.ifBound_K XK J hs hf (wpAny_call (codeAny_mono (F.run X.A X.stack s' H ⟨[.ref a, .ref t], []⟩ [.ref a, .ref t] [.ref a, .ref t] _ E hr I.env0 (by
      have := hb s' [.ref a, .ref t] I.kIn (by simpa using hl)
      simpa using this) r2 hsp) fun r s' hq => ?_)))
    cases r with
    | error e => exact hx pins σ H _ e s' I hq
    | ok fl =>
      cases fl with
      | ret w =>
        obtain ⟨z, H', I', rz, b, ez, q⟩ := I.after hq
        subst ez
        cases rz
        exact wpAny_pure ⟨_, rfl, .bl b, H', I', rfl, q⟩
      | next => exact False.elim hq
      | brk => exact False.elim hq
      | cont => exact False.elim hq
  have step : ∀ s' : Shared, s' = s → wpAny (model X.prog X.w) X.A.in1 (Builtin.«tuple.__eq__» ⟨[.ref t, .ref a], []⟩) (fun fin s'' => fin = Fin.done (Flow.ret Value.notImplemented) ∧ s'' = s) X.xe s' := fun s' e => by
    subst e
    obtain ⟨hp, g, d, tk, os⟩ := s'
    unfold Builtin.«tuple.__eq__»
    wp_delta
    repeat (first | with_reducible refine inst.at ?_ | wp_step)
    exact ⟨rfl, rfl⟩
  refine wpAny_mono (step s rfl) (fun fin s' z => ?_) fun _ _ x => x
  obtain ⟨e1, e2⟩ := z
  subst e1 e2
  refine ⟨_, rfl, rfl, ?_⟩
  rw [if_pos (by rfl)]
  refine wpAny_bind (wpAny_mono (back _ rfl) (fun r s' z => ?_) fun _ _ x => x)
  obtain ⟨v, rfl, q⟩ := z
  exact wpAny_pure q
end
/-- for i, x in enumerate(xs) -/
theorem for_enum {K : PySem.W.Frag} {a : Addr} {xs : List V} {g : TG} {tb : TS} {D : Ends} {σ : L2.St} {H : Hp} (Pv : Nat → L2.St → Hp → Prop) (h0 : Pv 0 σ H) (hl : ∀ i σ H, i ≤ xs.length → Pv i σ H → SqL K H a xs)
    (hs : ∀ i x σ H T, xs[i]? = some x → Pv i σ H → H T = none → g (.ref T) σ (upd H T (.tup [.int (i : Nat), x])) fun σ2 H2 => tb { D with nx := Pv (i + 1), ct := Pv (i + 1), bk := D.nx } σ2 H2) (hd : ∀ σ H, Pv xs.length σ H → D.nx σ H) :
    ∃ W : Nat → Nat → L2.St → Hp → Prop, (∃ m, W 0 m σ H) ∧ ∀ i m σ H, W i m σ H →
      ((Ite K a).stop i H ∧ D.nx σ H) ∨ ((Ite K a).go i H ∧ ∃ N : L2.St → Hp → Prop, (∀ σ' H', N σ' H' → ∃ m', m' < m ∧ W (i + 1) m' σ' H') ∧ ∀ x H', (Ite K a).yld i H x H' → g x σ H' fun σ2 H2 => tb { D with nx := N, ct := N, bk := D.nx } σ2 H2) := by
  refine ⟨fun i m σ H => m = xs.length - i ∧ i ≤ xs.length ∧ Pv i σ H, ⟨xs.length, by simp, Nat.zero_le _, h0⟩, ?_⟩
  rintro i m σ H ⟨rfl, hi, p⟩
  have q := hl i σ H hi p
  by_cases hlt : i < xs.length
  · refine .inr ⟨⟨xs, xs[i], q, by simp [hlt]⟩, Pv (i + 1), fun σ' H' p' => ⟨xs.length - (i + 1), by omega, rfl, hlt, p'⟩, fun x H' y => ?_⟩
    obtain ⟨T, x0, e1, nT, e2, y⟩ := y
    subst e1 e2
    exact hs i x0 σ _ T (y xs q) p nT
  · have e : i = xs.length := by omega
    subst e
    exact .inl ⟨⟨xs, q, Nat.le_refl _⟩, hd σ H p⟩
theorem s_iList {K : PySem.W.Frag} {te : TE} {σ : L2.St} {H : Hp} {R : It → Hp → Prop} (h : te σ H fun x H1 => ∃ a, x = .ref a ∧ (∃ xs, SqL K H1 a xs) ∧ R (Itl K a) H1) : iList K te σ H R := h
theorem s_iEnum {K : PySem.W.Frag} {ts : TA} {σ : L2.St} {H : Hp} {R : It → Hp → Prop} (h : ts σ H fun vs H1 => ∃ a xs, vs = [.ref a] ∧ SqL K H1 a xs ∧ R (Ite K a) H1) : iEnum K ts σ H R := h
theorem same_but {p : Addr} {H0 H1 H2 : Hp} (S : Same H0 H1) (n : H0 p = none) (b : But p H1 H2) : Same H0 H2 := fun c o h => b c o (ne_of_none h n) (S c o h)
theorem s_par {i j : Nat} {ta : TA} {D : Ends} {σ : L2.St} {H : Hp} (h : ta σ H fun vs H1 => ∃ v w, vs = [v, w] ∧ D.nx ((σ.set i (some v)).set j (some w)) H1) : tPar i j ta D σ H := h
theorem s_gcons {t : TG} {u : TGs} {v : V} {r : List V} {σ : L2.St} {H : Hp} {N : L2.St → Hp → Prop} (h : t v σ H fun σ' H' => u r σ' H' N) : gCons t u (v :: r) σ H N := ⟨v, r, rfl, h⟩
theorem s_gnil {σ : L2.St} {H : Hp} {N : L2.St → Hp → Prop} (h : N σ H) : gNil [] σ H N := ⟨rfl, h⟩
theorem q_gtup {K : PySem.W.Frag} {n : Nat} {t : TGs} {a : Addr} {xs : List V} {σ : L2.St} {H : Hp} {N : L2.St → Hp → Prop} (h : SqT K H a xs) (hl : xs.length = n) (q : t xs σ H N) : gTup K n t (.ref a) σ H N := ⟨a, xs, rfl, h, hl, q⟩
theorem q_slL {K : PySem.W.Frag} {a : Addr} {xs : List V} {lo hi : Option Int} {H : Hp} {Q : VK} (h : SqL K H a xs) (q : ∀ p H', H p = none → Same H H' → H' p = some (.lst (cutV xs lo hi)) → Q (.ref p) H') : rSlL K (.ref a) lo hi H Q := ⟨a, xs, rfl, h, fun p n => q p _ n (Same.new n) upd_same⟩
theorem q_append {l : Addr} {xs : List V} {y : V} {H : Hp} {Q : VK} (h : H l = some (.lst xs)) (hl : xs.length < sizeLine) (q : ∀ H', But l H H' → H' l = some (.lst (xs ++ [y])) → Q .non H') : rAppend (.ref l) [y] H Q := ⟨l, xs, y, rfl, rfl, h, hl, q _ But.upd upd_same⟩
/-- a for over J from here on -/
def ForIt (J : It) (g : TG) (tb : TS) (D : Ends) (σ : L2.St) (H : Hp) : Prop := ∃ W : Nat → Nat → L2.St → Hp → Prop, (∃ m, W 0 m σ H) ∧ ∀ i m σ H, W i m σ H →
  (J.stop i H ∧ D.nx σ H) ∨ (J.go i H ∧ ∃ N : L2.St → Hp → Prop, (∀ σ' H', N σ' H' → ∃ m', m' < m ∧ W (i + 1) m' σ' H') ∧ ∀ x H', J.yld i H x H' → g x σ H' fun σ2 H2 => tb { D with nx := N, ct := N, bk := D.nx } σ2 H2)
theorem s_for {wi : TI} {g : TG} {tb : TS} {D : Ends} {σ : L2.St} {H : Hp} (h : wi σ H fun J H1 => ForIt J g tb D σ H1) : tFor wi g tb D σ H := h
section
variable {K : PySem.W.Frag} {a : Addr} {xs : List V} {g : TG} {tb : TS} {D : Ends} {σ : L2.St} {H : Hp}
theorem q_forL (Pv : Nat → L2.St → Hp → Prop) (h0 : Pv 0 σ H) (hl : ∀ i σ H, i ≤ xs.length → Pv i σ H → SqL K H a xs)
    (hs : ∀ i x σ H, xs[i]? = some x → Pv i σ H → g x σ H fun σ2 H2 => tb { D with nx := Pv (i + 1), ct := Pv (i + 1), bk := D.nx } σ2 H2) (hd : ∀ σ H, Pv xs.length σ H → D.nx σ H) : ForIt (Itl K a) g tb D σ H := for_list Pv h0 hl hs hd
theorem q_forE (Pv : Nat → L2.St → Hp → Prop) (h0 : Pv 0 σ H) (hl : ∀ i σ H, i ≤ xs.length → Pv i σ H → SqL K H a xs)
    (hs : ∀ i x σ H T, xs[i]? = some x → Pv i σ H → H T = none → g (.ref T) σ (upd H T (.tup [.int (i : Nat), x])) fun σ2 H2 => tb { D with nx := Pv (i + 1), ct := Pv (i + 1), bk := D.nx } σ2 H2) (hd : ∀ σ H, Pv xs.length σ H → D.nx σ H) : ForIt (Ite K a) g tb D σ H := for_enum Pv h0 hl hs hd
theorem q_forR {lo : Int} {n : Nat} (Pv : Nat → L2.St → Hp → Prop) (h0 : Pv 0 σ H)
    (hs : ∀ i σ H, i < n → Pv i σ H → g (.int (lo + i)) σ H fun σ2 H2 => tb { D with nx := Pv (i + 1), ct := Pv (i + 1), bk := D.nx } σ2 H2) (hd : ∀ σ H, Pv n σ H → D.nx σ H) : ForIt (Itr lo n) g tb D σ H := for_range Pv h0 hs hd
end
theorem s_rng1 {ta : TA} {σ : L2.St} {H : Hp} {R : It → Hp → Prop} (h : ta σ H fun vs H1 => ∃ j : Int, vs = [.int j] ∧ -(2 ^ 62) ≤ j ∧ j < 2 ^ 62 ∧ R (Itr 0 j.toNat) H1) : iRng1 ta σ H R := h
end Bt
namespace Bt
open PySem PySem.Spec PyProof.Rows L2
/-! ### sum of a tuple of ints -/
theorem sum_tup {prog : Program} {w : World} {A : Around} {E : Value → Shared → Prop} {s : Shared} {l : Addr} {its : List Value} {ns : List Int} {Q : Value → Shared → Prop} (hh : A.handled = none) (hl : IsTup s.heap l its.toArray) (hi : IntsAre its ns)
    (h : ∀ h' tk t', (∀ b o, s.heap.get? b = some o → h'.get? b = some o) → Q (.int ns.sum t') { s with heap := h', toks := tk }) : wpAny (model prog w) A (call (.builtin "sum") [.ref l]) Q E s := by
  obtain ⟨xs, e⟩ := hi.allInts.items
  have hn : numsOf (intItems xs).toList = ns := by rw [← e]; exact hi.numsOf
  rw [nums_intItems] at hn
  rw [e] at hl
  have hlt : l < s.heap.objs.size := by obtain ⟨_, e, _⟩ := hl; exact Heap.lt_size e
  refine call_sum_walkG (iter_tuple hl ?_)
  refine ⟨_, _, _, _, _, _, numAt xs, rfl, Walks.tuple (A := A.in1) hh _ l (Nat.ne_of_lt hlt) (intItems xs), ⟨⟨_, Heap.get?_push_size _ rfl, rfl, rfl⟩, ?_⟩, fun b hb => ?_, (fun _ _ => intItems_at), fun h' tk t' hk => ?_⟩
  · obtain ⟨o, ho, hc, n, hd⟩ := hl
    exact ⟨o, Heap.get?_push_of_some _ ho, hc, n, hd⟩
  · show b < (s.heap.push _).objs.size
    rw [Heap.size_push]
    rcases List.mem_cons.mp hb with rfl | hb
    · exact Nat.lt_succ_self _
    · rw [List.mem_singleton.mp hb]
      exact Nat.lt_succ_of_lt hlt
  · have := h h' tk t' fun b o e => hk b o (fun hm => by
      rw [List.mem_singleton.mp hm] at e
      exact absurd (Heap.lt_size e) (Nat.lt_irrefl _)) (Heap.get?_push_of_some _ e)
    rw [preSum_eq, List.take_of_length_le (by simp [intItems]), hn]
    exact this
def rSumT (K : PySem.W.Frag) : List V → Hp → VK → Prop := fun vs H Q => ∃ (a : Addr) (ns : List Int), vs = [V.ref a] ∧ SqT K H a (ns.map V.int) ∧ Q (.int ns.sum) H
theorem cr_sumT {X : Cx} (hc : X.calm = true) : CallR X (.builtin "sum") (rSumT X.K) := by
  intro pins s σ H vs us Q I r h
  obtain ⟨a, ns, rfl, hs, q⟩ := h
  obtain ⟨its, rv, hl, _⟩ := I.tuple hs
  rw [Vals.ref1 r]
  exact sum_tup (I.ok.hd hc) hl rv.ints fun h' tk t' hk => ⟨.int _, H, I.kept hk, ⟨_, rfl⟩, q⟩
theorem q_sumT {K : PySem.W.Frag} {H : Hp} {Q : VK} {a : Addr} {ns : List Int} (h : SqT K H a (ns.map V.int)) (q : Q (.int ns.sum) H) : rSumT K [.ref a] H Q := ⟨a, ns, rfl, h, q⟩
def rSumL (K : PySem.W.Frag) : List V → Hp → VK → Prop := fun vs H Q => ∃ (a : Addr) (ns : List Int), vs = [V.ref a] ∧ SqL K H a (ns.map V.int) ∧ Q (.int ns.sum) H
theorem cr_sumL {X : Cx} (hc : X.calm = true) : CallR X (.builtin "sum") (rSumL X.K) := cr_sum hc
theorem q_sumL {K : PySem.W.Frag} {H : Hp} {Q : VK} {a : Addr} {ns : List Int} (h : SqL K H a (ns.map V.int)) (q : Q (.int ns.sum) H) : rSumL K [.ref a] H Q := ⟨a, ns, rfl, h, q⟩
def rTupL (K : PySem.W.Frag) : List V → Hp → VK → Prop := fun xs H Q => ∃ p ys, xs = [.ref p] ∧ ((SqL K H p ys ∧ ∀ l, H l = none → Q (.ref l) (upd H l (.tup ys))) ∨ (SqT K H p ys ∧ Q (.ref p) H))
theorem call_tupL {X : Cx} : CallR X (.type "tuple") (rTupL X.K) := call_tuple_of
theorem q_tupL {K : PySem.W.Frag} {H : Hp} {Q : VK} {p : Addr} {ys : List V} (h : SqL K H p ys) (q : ∀ l H', H l = none → Same H H' → H' l = some (.tup ys) → Q (.ref l) H') : rTupL K [.ref p] H Q := ⟨p, ys, rfl, .inl ⟨h, fun l n => q l _ n (Same.new n) upd_same⟩⟩
end Bt
namespace Bt
open PySem PySem.Spec PyProof.Rows L2
/-! ### o(e, ..), o an instance with an own __call__ that may raise; what is raised is wished for at the caller's slots -/
section
variable {X : Cx} {CX : CXT} {k : Nat} {C g : Addr} {fd : FuncData} {ps : List Str} {sp : Sp} {E : L2.St → XK} {pos : Pos} {fe e : Expr} {es : List Expr} {tf : TE} {t : TA}
def tCallOS (C : Addr) (sp : Sp) (E : L2.St → XK) (tf : TE) (t : TA) : TE := fun σ H Q => tf σ H fun y H1 => ∃ a, y = V.ref a ∧ t σ H1 fun vs H2 => (∃ dx fs, H2 a = some (.ins C dx fs)) ∧ sp (V.ref a :: vs) H2 Q (E σ)
theorem run_callOS {pins : List (Addr × Obj)} {σ : L2.St} {H : Hp} {s : Shared} {Q : VK} {a : Addr} {us : List Value} {vs : List V} (c : StX.CallO X.K C g) (F : FnOk X.prog X.w X.K X.mg X.base CX k g fd ps sp) (hr : Room k X.A) (hb : Binds X.K fd ps [])
    (hx : PassesAt CX X σ (E σ)) (I : Inv X pins σ H s) (hi : ∃ dx fs, H a = some (.ins C dx fs)) (r : Vals vs us) (h : sp (V.ref a :: vs) H Q (E σ)) : wpAny (model X.prog X.w) X.A (call (.ref a) us) (EP X pins σ Q) X.xe s := by
  obtain ⟨ox, od, J, hd⟩ := StX.insC_at I (.inr hi)
  have r2 : Vals (V.ref a :: vs) (Value.ref a :: us) := .cons rfl r
  have hl : ((Value.ref a :: us) ++ []).length = ps.length := by rw [List.append_nil, ← r2.length]; exact F.len _ _ _ _ h
  have hb' := hb s (Value.ref a :: us) I.kIn hl
  rw [List.append_nil] at hb'
  refine wpAny_call (PySem.W.kco_code I.kIn J hd c.at_ c.fn c.fi (codeAny_mono (F.run X.A X.stack s H ⟨Value.ref a :: us, []⟩ (Value.ref a :: us) (V.ref a :: vs) Q (E σ) hr I.env0 hb' r2 h) fun r s' hq => ?_))
  cases r with
  | error e => exact hx pins H s e s' I hq
  | ok fl =>
    cases fl with
    | ret u => exact I.after hq
    | next => exact False.elim hq
    | brk => exact False.elim hq
    | cont => exact False.elim hq
theorem pe_callOS (hf : PE X fe tf) (c : StX.CallO X.K C g) (F : FnOk X.prog X.w X.K X.mg X.base CX k g fd ps sp) (hr : Room k X.A) (hb : Binds X.K fd ps []) (hx : ∀ σ, PassesAt CX X σ (E σ)) (ha : PA X (e :: es) t)
    (ht : eval (.Call fe (e :: es) [] pos) X.env = (do callWith pos (← eval fe X.env) [] (backTo pos (starEach (e :: es) X.env)) (backToKw pos (keywordEach [] X.env))) := by rfl)
    (he : starEach (e :: es) X.env = (false, eval e X.env) :: starEach es X.env := by rfl) (hpl : (backTo pos (starEach es X.env)).any (·.1) = false := by rfl) : PE X (.Call fe (e :: es) [] pos) (tCallOS C sp E tf t) := by
  refine ⟨fun pins s σ H Q I h => ?_⟩
  refine Call_ (thn (hf.run pins s σ H _ I h) fun u s1 ⟨y, H1, I1, ry, a, ey, q⟩ => ?_) ht
  subst ey
  obtain rfl : u = Value.ref a := ry
  refine StX.callO_with (thn (ha.run pos pins s1 σ H1 _ I1 q) fun us s2 ⟨vs, H2, I2, r, hi, q2⟩ => ?_) he hpl
  obtain ⟨ox, od, J, hd⟩ := StX.insC_at I2 (.inr hi)
  exact ⟨⟨C, ox, od, J, hd⟩, run_callOS c F hr hb (hx σ) I2 hi r q2⟩
theorem s_callOS {σ : L2.St} {H : Hp} {Q : VK} (h : tf σ H fun y H1 => ∃ a, y = V.ref a ∧ t σ H1 fun vs H2 => (∃ dx fs, H2 a = some (.ins C dx fs)) ∧ sp (V.ref a :: vs) H2 Q (E σ)) : tCallOS C sp E tf t σ H Q := h
end
end Bt
namespace Bt
open PySem PySem.Spec PyProof.Rows L2 LamX NdefX
/-! ### a lambda as a value -/
structure LF where
  qual : Str
  params : Arguments
  body : Expr
  scope : Scope
  cl : List (Str × Addr)
  c : Addr
abbrev LF.fd (F : LF) (pm ctv : Value) : FuncData := PySem.W.kla_fn "<lambda>" F.qual F.params F.body F.scope F.cl pm (.ref F.c) ctv
def FnL (f : Addr) (F : LF) : HO := .ext fun h => ∃ (od : Option Addr) (sl : Array (Option Value)) (pm ctv : Value), h.get? f = some (⟨.type "function", od, .func (F.fd pm ctv), sl⟩ : Obj)
theorem fnL_at {P : Program} {w : World} {H : Hp} {h : Heap} {f : Addr} {F : LF} (hok : HOk P w H h) (e : H f = some (FnL f F)) : ∃ (od : Option Addr) (sl : Array (Option Value)) (pm ctv : Value), h.get? f = some (⟨.type "function", od, .func (F.fd pm ctv), sl⟩ : Obj) := by
  obtain ⟨z, _, _⟩ := hok f _ e
  exact z
section
variable {X : Cx} {pins : List (Addr × Obj)} {σ : L2.St} {H : Hp} {s : Shared}
theorem inv_lf {F : LF} {o : Obj} {t' : Nat} {pm ctv : Value} {h : Heap} (I : Inv X pins σ H { s with heap := h, toks := t' }) (ho : o = { cls := .type "function", data := .func (F.fd pm ctv) }) :
    Inv X pins σ (upd H h.objs.size (FnL h.objs.size F)) { s with heap := h.push o, toks := t' } := by
  subst ho
  refine I.laid (t' := t') (a := h.objs.size) (fun b u e => Heap.get?_push_of_some _ e) (Nat.le_refl _) ?_
  have e : (h.push ({ cls := .type "function", data := .func (F.fd pm ctv) } : Obj)).get? h.objs.size = some ({ cls := .type "function", data := .func (F.fd pm ctv) } : Obj) := Heap.get?_push_size _ rfl
  exact ⟨⟨_, _, pm, ctv, e⟩, ⟨_, e⟩, fun h1 h2 ⟨od, sl, p, t, z⟩ st => ⟨od, sl, p, t, st _ z⟩⟩
/-- the heap with one more row in the table at P: the code object c' of the place pos -/
def putT (H : Hp) (P c' : Addr) (ps : Array Value) (pos : Pos) (q : Str) : Hp := upd (upd H P (.tbl (ps ++ #[rawInt pos.line, rawInt pos.col, .ref c']))) c' (CodeO c' q)
section
variable {P c' : Addr} {ps : Array Value} {pos : Pos} {q : Str}
theorem putT_code : putT H P c' ps pos q c' = some (CodeO c' q) := upd_same
theorem putT_tab (hP : H P = some (.tbl ps)) (nC : H c' = none) : putT H P c' ps pos q P = some (.tbl (ps ++ #[rawInt pos.line, rawInt pos.col, .ref c'])) := (upd_ne (ne_of_none hP nC)).trans upd_same
theorem putT_ne {b : Addr} (h1 : b ≠ P) (h2 : b ≠ c') : putT H P c' ps pos q b = H b := (upd_ne h2).trans (upd_ne h1)
theorem putT_old (hP : H P = some (.tbl ps)) (nC : H c' = none) : ExtN H (putT H P c' ps pos q) := fun b o e n =>
  (putT_ne (fun z => by subst z; exact n ps (Option.some.inj (e.symm.trans hP))) (ne_of_none e nC)).trans e
theorem putT_none {b : Addr} (e : putT H P c' ps pos q b = none) : H b = none := upd_none (upd_none e)
theorem putT_tabs {T : List NTab} {nm : Nat → Nat → Str} (hT : TabsN T H) (hP : H P = some (.tbl ps)) (nC : H c' = none) (ok : TriplesOk ps.toList) (own : ∀ (p' : Pos) (cv : Value), codeAmong p' ps.toList = some cv → ∃ d, cv = .ref d ∧ H d = some (CodeO d (nm p'.line p'.col)))
    (hq : nm pos.line pos.col = q) (hu : ∀ p ∈ T, p.1 = P → p.2 = nm) : TabsN T (putT H P c' ps pos q) := by
  have lift : ∀ {d : Addr} {r : Str}, H d = some (CodeO d r) → putT H P c' ps pos q d = some (CodeO d r) := fun e => putT_old hP nC _ _ e codeO_ne
  rintro ⟨R, mm⟩ hp
  by_cases hR : R = P
  · subst hR
    obtain rfl : mm = nm := hu _ hp rfl
    refine ⟨_, putT_tab hP nC, ?_⟩
    rw [show (ps ++ #[rawInt pos.line, rawInt pos.col, Value.ref c']).toList = ps.toList ++ [rawInt pos.line, rawInt pos.col, .ref c'] by simp]
    refine ⟨TriplesOk_snoc _ _ _ _ ok, fun p' cv hcv => (among_app2 _ ok hcv).elim (fun old => ?_) (fun new => ?_)⟩
    · obtain ⟨d, ed, hd⟩ := own p' cv old
      exact ⟨d, ed, lift hd⟩
    · obtain ⟨ec, el, ek⟩ := new
      exact ⟨c', ec, by rw [putT_code, ← hq, el, ek]⟩
  · obtain ⟨qs, t1, t2, t3⟩ := hT _ hp
    refine ⟨qs, (putT_ne hR (ne_of_none t1 nC)).trans t1, t2, fun p' cv hcv => ?_⟩
    obtain ⟨d, ed, hd⟩ := t3 p' cv hcv
    exact ⟨d, ed, lift hd⟩
end
/-- what the maker of a lambda goes on with -/
def LamK (T : List NTab) (H : Hp) (mk : Addr → LF) (f c' : Addr) (H1 : Hp) : Prop :=
  ExtN H H1 ∧ (∀ b, H1 b = none → H b = none) ∧ TabsN T H1 ∧ H f = none ∧ H1 f = some (FnL f (mk c')) ∧ H1 c' = some (CodeO c' (mk c').qual)
theorem lamK_of {T : List NTab} {H H0 : Hp} {mk : Addr → LF} {f c' : Addr} (old : ExtN H H0) (bk : ∀ b, H0 b = none → H b = none) (ht : TabsN T H0) (hc : H0 c' = some (CodeO c' (mk c').qual)) (nf : H0 f = none) : LamK T H mk f c' (upd H0 f (FnL f (mk c'))) := by
  have st : ∀ {b : Addr} {o : HO}, H0 b = some o → upd H0 f (FnL f (mk c')) b = some o := fun e => (upd_ne (ne_of_none e nf)).trans e
  exact ⟨fun b o e n => st (old b o e n), fun b e => bk b (upd_none e), ht.ext fun _ _ e => st e, bk f nf, upd_same, st hc⟩
theorem lam_makeN {T : List NTab} {nm : Nat → Nat → Str} {c P : Addr} {params : Arguments} {body : Expr} {scope : Scope} {pos : Pos} {mk : Addr → LF} {E : Value → Shared → Prop} {Q : Value → Shared → Prop} (I : Inv X pins σ H s) (TB : TabB X.base X.mg c P) (hcode : X.env.code = .ref c)
    (hm : (P, nm) ∈ T) (hu : ∀ p ∈ T, p.1 = P → p.2 = nm) (hT : TabsN T H) (hdef : defaultsOf params X.env = ([], [])) (hfree : ∀ y ∈ scope.names, y.2 = .free → ∃ c, X.env.cells.lookup y.1 = some c)
    (hmk : ∀ d, mk d = ⟨X.env.qual ++ "<lambda>", params, body, scope, cloFrom X.env.cells scope.names [], d⟩) (hn : nm pos.line pos.col = X.env.qual ++ "<lambda>")
    (go : ∀ (f c' : Addr) (H1 : Hp) (s' : Shared), Inv X pins σ H1 s' → LamK T H mk f c' H1 → Q (.ref f) s') :
    wpAny (model X.prog X.w) X.A (eval (.Lambda params body scope pos) X.env) Q E s := by
  have tab := hT _ hm
  obtain ⟨ps, hP, ok, own⟩ := (tab : TabN H P nm)
  have gP := I.hok P _ hP
  have code := TB.code.keeps I.bk
  have glob := I.mod.glob.keeps I.bk
  have bm := TB.bm.keeps I.bk
  have qual : ∀ d, (mk d).qual = X.env.qual ++ "<lambda>" := fun d => by rw [hmk]
  refine PySem.W.kla_eval hdef ?_
  rcases hc : codeAmong pos ps.toList with _ | cv
  · refine PySem.W.kla_makeFunction (closure_ok hfree) I.ok.glob glob hcode code gP ok hc TB.gP bm ?_
    intro c' ctv g tk keep up lt rec_ row
    obtain ⟨d0, oc, vs, t, e0, l1, l2, l3⟩ := rec_
    cases e0
    have nC : H c' = none := I.hok.fresh up
    have J : Inv X pins σ (putT H P c' ps pos (X.env.qual ++ "<lambda>")) { s with heap := g, toks := tk } := inv_table I hP (fun b o n e => keep b o n e) row up ⟨oc, vs, t, l1, l2, l3⟩
    have nf := J.hok.fresh (Nat.le_refl g.objs.size)
    refine go _ c' _ _ (inv_lf (F := mk c') J (by rw [hmk])) (lamK_of (putT_old hP nC) (fun _ e => putT_none e) (putT_tabs hT hP nC ok own hn hu) ?_ nf)
    rw [qual]
    exact putT_code
  · obtain ⟨d, rfl, hd⟩ := own pos cv hc
    refine PySem.W.kla_makeFunctionHit (closure_ok hfree) I.ok.glob glob hcode code gP ok hc bm ?_
    intro ctv g tk keep _
    have J : Inv X pins σ H { s with heap := g, toks := tk } := I.kept keep
    refine go _ d _ _ (inv_lf (F := mk d) J (by rw [hmk])) (lamK_of (fun _ _ e _ => e) (fun _ e => e) hT ?_ (J.hok.fresh (Nat.le_refl g.objs.size)))
    rw [qual, ← hn]
    exact hd
end
def tLamV (T : List NTab) (mk : Addr → LF) : TE := fun σ H Q => TabsN T H ∧ ∀ (f c' : Addr) (H1 : Hp), LamK T H mk f c' H1 → Q (.ref f) H1
theorem pe_lambda {X : Cx} {T : List NTab} {nm : Nat → Nat → Str} {c P : Addr} {params : Arguments} {body : Expr} {scope : Scope} {pos : Pos} (TB : TabB X.base X.mg c P) (hcode : X.env.code = .ref c) (hm : (P, nm) ∈ T) (hn : nm pos.line pos.col = X.env.qual ++ "<lambda>") (hu : ∀ p ∈ T, p.1 = P → p.2 = nm)
    (hfree : ∀ y ∈ scope.names, y.2 = .free → X.env.scope.names.lookup y.1 = some .cell ∨ X.env.scope.names.lookup y.1 = some .free) (hdef : defaultsOf params X.env = ([], []) := by rfl) :
    PE X (.Lambda params body scope pos) (tLamV T fun d => ⟨X.env.qual ++ "<lambda>", params, body, scope, cloFrom X.env.cells scope.names [], d⟩) := by
  refine ⟨fun pins s σ H Q I h => ?_⟩
  obtain ⟨hT, go⟩ := h
  exact lam_makeN I TB hcode hm hu hT hdef (fun y hy e => (hfree y hy e).elim (fun z => I.ok.has _ (.inl z)) fun z => I.ok.has _ (.inr z)) (fun _ => rfl) hn fun f c' H1 s' J k => ⟨.ref f, H1, J, rfl, go f c' H1 k⟩
end Bt
namespace Bt
open PySem PySem.Spec PyProof.Rows L2 LamX NdefX
/-! ### a lambda's run -/
abbrev LF.nf (F : LF) : NF := ⟨"<lambda>", F.qual, F.params, [], F.scope, F.cl, F.c⟩
theorem lam_run {CX : CXT} {P : Program} {w : World} {K : PySem.W.Frag} {mg : Str → Option Value} {base : Heap} {N ps fr : List Str} {F : LF} {f : Addr} {k : Nat} {A : Around} {outer : List Env} {s : Shared} {H : Hp} {us : List Value} {vs : List V} {ws : List (Option V)} {Q : VK} {E : XK} {t : TE}
    (S : NScope N ps fr F.scope) (hb : ∀ (pm ctv : Value) (xs : List Value), xs.length = ps.length → bindArgs (F.fd pm ctv) ⟨xs, []⟩ = pure (ps.zip xs)) (hl : vs.length = ps.length) (hr : Room (k + 1) A) (e0 : Env0 P w K mg base A outer s H)
    (hf : H f = some (FnL f F)) (hc : H F.c = some (CodeO F.c F.qual)) (C : CellsAt F.cl fr ws s.heap H) (r : Vals vs us)
    (body : PE (ncx CX P w K mg base N F.nf f A outer s H E) F.body t) (q : t (startF N vs ws) H Q) : codeAny (model P w) A (.call (.ref f) ⟨us, []⟩) (CR CX outer P w H s Q E) s := by
  have lim := e0.mod.nolimit.keeps fun b o e => (e0.bs b o e).1
  obtain ⟨_, _, pm, ctv, at_⟩ := fnL_at e0.hok hf
  refine PySem.W.kla_callFunE hr.depth at_ rfl S.co S.gen rfl (codeO_at e0.hok hc) ?_
  rw [hb pm ctv us (r.length.symm.trans hl)]
  refine wpAny_pure (wpAny_newFunctionEnv S.nocell (fun y hy => S.par y.1 (List.of_mem_zip hy).1) (fun g hns hsb => ⟨lim.fresh _ hsb, ?_⟩) S.kind)
  have old : ∀ b o, s.heap.get? b = some o → g.get? b = some o := fun b o e => hsb.extBut b o (Nat.ne_of_lt (Heap.lt_size e)) (Heap.get?_push_of_some _ e)
  have J := inv_startN (CX := CX) (F := F.nf) (f := f) (E := E) (tk := s.toks + (ps.zip us).length) S hr.hd e0 hl r C hns old
  refine PySem.W.kla_codeExpr (wpAny_mono (body.run [] _ _ H Q J q) (fun v s' z => ?_) fun _ _ z => z)
  obtain ⟨x, H', J', rv, qv⟩ := z
  exact ⟨x, H', J'.os, J'.bare, J'.base, J'.hok, rv, qv⟩
end Bt
namespace Bt
open PySem PySem.Spec PyProof.Rows L2 LamX NdefX
open FbM (Rec rec_new)
open PySem.W (EachIs AllAlike Sortable KeyedOut KeepsBut dataLe dataKind sortVals copyHeap)
/-! ### sorted(xs, key=f), f an own def or lambda: the turns, the state carried by the frame's invariant -/
section
variable {X : Cx} {pins : List (Addr × Obj)} {σ : L2.St} {H : Hp} {s : Shared} {a kS : Addr} {e1 : Nat} {bs : List Str} {k : Str → PyData} {q : Addr}
/-- the state behind the keys ds -/
structure KeySt (X : Cx) (pins : List (Addr × Obj)) (σ : L2.St) (H : Hp) (a kS : Addr) (e1 : Nat) (ds : List PyData) (s : Shared) : Prop where
  ex : ∃ (Hn : Hp) (kA : Array Value) (e : Nat), Inv X pins σ Hn s ∧ Same H Hn ∧ Hn a = none ∧ Hn kS = none ∧ s.heap.get? a = some (seqObj "list" #[] e1) ∧ s.heap.get? kS = some (seqObj "list" kA e) ∧
    EachIs (fun v d => ∃ y, RelV y v ∧ Dp X.K Hn y d) kA.toList ds
/-- one key: from any state of the frame, the heap grown -/
def KeyRun (X : Cx) (pins : List (Addr × Obj)) (σ : L2.St) (H : Hp) (q : Addr) (bs : List Str) (k : Str → PyData) : Prop :=
  ∀ (b : Str) (u : Value), b ∈ bs → RelV (.str b) u → ∀ (s' : Shared) (Hn : Hp), Inv X pins σ Hn s' → Same H Hn →
    codeAny (model X.prog X.w) X.A.in1.in1 (.call (.ref q) ⟨[u], []⟩) (CR CX0 X.stack X.prog X.w Hn s' (fun y H2 => Same Hn H2 ∧ Dp X.K H2 y (k b)) E0) s'
theorem same_none {H H' : Hp} {b : Addr} (S : Same H H') (h : H' b = none) : H b = none := by
  cases e : H b with
  | none => rfl
  | some o =>
    rw [S b o e] at h
    cases h
theorem key_loop {P : PySem.Fin → Shared → Prop} {E : Value → Shared → Prop} (ra : Rec X pins a) (rk : Rec X pins kS) (hka : kS ≠ a) {us : List Value} (hv : Vals (bs.map V.str) us) (hz : us.length ≤ 1000) (turn : KeyRun X pins σ H q bs k)
    (st : KeySt X pins σ H a kS e1 [] s) (done : ∀ s' Hn kA e, Inv X pins σ Hn s' → Same H Hn → Hn a = none → Hn kS = none → s'.heap.get? a = some (seqObj "list" #[] e1) → s'.heap.get? kS = some (seqObj "list" kA e) →
      EachIs (fun v d => ∃ y, RelV y v ∧ Dp X.K Hn y d) kA.toList (bs.map k) → wpAny (model X.prog X.w) X.A.in1.in1 (ksk_end a false us.toArray e1 (.ref kS) kA) P E s') :
    wpAny (model X.prog X.w) X.A.in1.in1 (ksk_rest a (.ref q) false us.toArray e1 (.ref kS)) P E s := by
  have hlen : us.length = bs.length := by rw [← hv.length, List.length_map]
  unfold ksk_rest
  refine wpAny_bind (wpAny_rule ?_)
  first
    | rw [List.forIn_toArray]
    | rw [← Array.forIn_toList]
  refine wpAny_bind (ksk_fold (fun i s' => KeySt X pins σ H a kS e1 ((bs.map k).take i) s') us 0 s (by rw [List.take_zero]; exact st) ?turns ?last)
  case turns =>
    intro j u s' hu S
    simp only [Nat.zero_add] at S ⊢
    have hj : j < bs.length := by
      have := (List.getElem?_eq_some_iff.mp hu).1
      omega
    have hb : bs[j]? = some bs[j] := List.getElem?_eq_getElem hj
    have hx : (bs.map V.str)[j]? = some (V.str bs[j]) := by rw [List.getElem?_map, hb]; rfl
    obtain ⟨u', hu', ru⟩ := hv.get hx
    have e : u' = u := Option.some.inj (hu'.symm.trans hu)
    subst e
    obtain ⟨Hn, kA, e, I, sm, na, nk, ga, gk, ks⟩ := S
    have hkz : kA.size ≤ 1000 := by
      have h1 := ks.length
      rw [Array.length_toList, List.length_take] at h1
      omega
    refine wpAny_bind (wpAny_attempt (wpAny_call (codeAny_mono (turn _ _ (List.mem_of_getElem? hb) ru s' Hn I sm) fun rr s2 hrr => ?_)))
    cases rr with
    | error er => exact False.elim hrr
    | ok fl =>
      cases fl with
      | next => exact False.elim hrr
      | brk => exact False.elim hrr
      | cont => exact False.elim hrr
      | ret v =>
        obtain ⟨y, H2, os, bare, un, hok, ry, sm2, dy⟩ := (show CE X.stack X.prog X.w Hn s' _ v s2 from hrr)
        have I2 : Inv X pins σ H2 s2 := I.call' os un hok bare (fun b z => absurd z List.not_mem_nil)
        have ga2 := un.keep _ _ ga na ra.fr List.not_mem_nil
        have gk2 := un.keep _ _ gk nk rk.fr List.not_mem_nil
        have na2 : H2 a = none := un.free _ _ ga na List.not_mem_nil
        have nk2 : H2 kS = none := un.free _ _ gk nk List.not_mem_nil
        have sb := Heap.SameBut.update s2.heap kS (Obj.mapSeq (·.push v))
        obtain ⟨c2, hc2⟩ : ∃ c2, (s2.heap.update kS (Obj.mapSeq (·.push v))).get? kS = some (seqObj "list" (kA.push v) c2) := ⟨_, get?_update_seq gk2 (·.push v)⟩
        refine wpAny_bind (listUpdate_at gk2 rfl ?_ (sz (by omega)) (by rw [Array.size_push]; exact Nat.le_succ_of_le (szlt (by omega))))
        have I3 : Inv X pins σ H2 { s2 with heap := s2.heap.update kS (Obj.mapSeq (·.push v)) } := rk.turn (t' := s2.toks) I2 nk2 fun c o hc e => sb.extBut c o hc e
        refine wpAny_pure ⟨rfl, H2, kA.push v, c2, I3, fun b o z => sm2 _ _ (sm _ _ z), na2, nk2, (sb.2 a hka.symm).trans ga2, hc2, ?_⟩
        have ek : (bs.map k).take (j + 1) = (bs.map k).take j ++ [k bs[j]] := by
          rw [List.take_add_one, List.getElem?_map, hb]
          simp
        have ea : (kA.push v).toList = kA.toList ++ [v] := by simp
        rw [ea, ek]
        exact PySem.W.each_snoc ⟨y, ry, dy⟩ (ks.mono fun v d z => by
          obtain ⟨y', r', d'⟩ := z
          exact ⟨y', r', Dp.mono sm2 d'⟩)
  case last =>
    intro s' S
    obtain ⟨Hn, kA, e, I, sm, na, nk, ga, gk, ks⟩ := S
    have e3 : (bs.map k).take (0 + us.length) = bs.map k := List.take_of_length_le (by rw [List.length_map]; omega)
    rw [e3] at ks
    refine wpAny_bind (listItems_at gk rfl ?_)
    exact done s' Hn kA e I sm na nk ga gk ks
/-- the whole sort: the new list stands at D -/
theorem key_sorted {P : PySem.Fin → Shared → Prop} {E : Value → Shared → Prop} (ra : Rec X pins a) (rk : Rec X pins kS) (hka : kS ≠ a) {us : List Value} (hv : Vals (bs.map V.str) us) (hz : us.length ≤ 1000) (hal : AllAlike (bs.map k)) (hsk : Sortable (bs.map k)) (hu : ∀ b, b ∈ bs → X.A.in1.in1.units + (k b).depth < cLine) (turn : KeyRun X pins σ H q bs k)
    (st : KeySt X pins σ H a kS e1 [] s) (done : ∀ s' Hn, Inv X pins σ (upd Hn a (.lst ((bs.mergeSort (dataLe false k)).map V.str))) s' → Same H Hn → Hn a = none → P (.done (.ret .none)) s') :
    wpAny (model X.prog X.w) X.A.in1.in1 (ksk_rest a (.ref q) false us.toArray e1 (.ref kS)) P E s := by
  have hlen : us.length = bs.length := by rw [← hv.length, List.length_map]
  refine key_loop ra rk hka hv hz turn st fun s' Hn kA e I sm na nk ga gk ks => ?_
  have hsz : kA.size = us.length := by
    have h1 := ks.length
    rw [Array.length_toList, List.length_map] at h1
    omega
  have rd : EachIs (fun v d => ∃ as, Reads s'.heap v d as) kA.toList (bs.map k) := ks.mono fun v d z => by
    obtain ⟨y, r, dp⟩ := z
    exact Dp.reads I d y v dp r
  obtain ⟨G, g1, g2⟩ := restrict s'.heap fun b => decide (b ≠ kS) && decide (b ≠ a)
  obtain ⟨G0, f1, f2⟩ := restrict s'.heap fun b => decide (b ≠ kS)
  have gk0 : G.get? kS = none := g2 kS (by simp)
  have ga0 : G.get? a = none := g2 a (by simp)
  have gs : ∀ b o, b ≠ kS → b ≠ a → s'.heap.get? b = some o → G.get? b = some o := fun b o h1 h2 z => (g1 b (by simp [h1, h2])).trans z
  have gb : ∀ b o, G.get? b = some o → s'.heap.get? b = some o := fun b o z => by
    have h1 : b ≠ kS := fun q => by rw [q, gk0] at z; cases z
    have h2 : b ≠ a := fun q => by rw [q, ga0] at z; cases z
    exact (g1 b (by simp [h1, h2])).symm.trans z
  have fs : ∀ b o, b ≠ kS → s'.heap.get? b = some o → G0.get? b = some o := fun b o h1 z => (f1 b (by simp [h1])).trans z
  have fb : ∀ b o, G0.get? b = some o → b ≠ kS ∧ s'.heap.get? b = some o := fun b o z => by
    have h1 : b ≠ kS := fun q => by rw [q, f2 kS (by simp)] at z; cases z
    exact ⟨h1, (f1 b (by simp [h1])).symm.trans z⟩
  have I0 : Inv X pins σ Hn { s' with heap := G0 } := rk.turn (t' := s'.toks) I nk fs
  have I1 : Inv X pins σ Hn { s' with heap := G } := ra.turn (s := { s' with heap := G0 }) (h' := G) (t' := s'.toks) I0 na fun c o hc z => gs c o (fb c o z).1 hc (fb c o z).2
  have kp : KeepsBut a G s'.heap := fun b o _ z => gb b o z
  have eo : EachIs (fun v b => RelV (V.str b) v) us bs := by
    have key : ∀ {l : List Str} {vs : List Value}, Vals (l.map V.str) vs → EachIs (fun v b => RelV (V.str b) v) vs l := fun {l} => by
      induction l with
      | nil => intro vs r; cases r; exact .nil
      | cons x l ih => intro vs r; cases r with | cons h1 h2 => exact .cons h1 (ih h2)
    exact key hv
  have ou : EachIs (fun v b => RelV (V.str b) v) (sortVals (dataKind s'.heap (bs.map k)) false kA.toList us) (bs.mergeSort (dataLe false k)) := PySem.W.keyedOut_each k ⟨s'.heap, kA.toList, hal, rfl, rd⟩ eo
  refine PySem.W.keyH_end (κ := dataKind s'.heap (bs.map k)) (h₁ := G) (vs := us) kp gk0 gk ga hka (PySem.W.SortsAt.data (s := s') rd hal hsk fun d hd => ?_) hsz (sz (by omega)) fun h' tk c k3 n3 => ?_
  · obtain ⟨b, hb, rfl⟩ := List.mem_map.mp hd
    exact hu b hb
  · have J := Inv.laidN (t' := tk) (h' := h') (o := .lst ((bs.mergeSort (dataLe false k)).map V.str)) I1 (fun b u z => k3 b u (fun q => by rw [q] at z; exact nomatch (ga0.symm.trans z)) z) ga0 na ?_
    · exact done _ Hn J sm na
    · refine ⟨?_, _, c, ?_, n3⟩
      · rw [List.length_map, List.length_mergeSort]
        exact sz (by omega)
      · have key : ∀ {l : List Str} {vs : List Value}, EachIs (fun v b => RelV (V.str b) v) vs l → Vals (l.map V.str) vs := fun {l} => by
          induction l with
          | nil => intro vs r; cases r; exact .nil
          | cons x l ih => intro vs r; cases r with | cons h1 h2 => exact .cons h1 (ih h2)
        exact key ou
theorem sorted_key_inv {l : Addr} {Q : Value → Shared → Prop} {E : Value → Shared → Prop} (I : Inv X pins σ H s) (hl : SqL X.K H l (bs.map V.str)) (hz : bs.length ≤ 1000) (hal : AllAlike (bs.map k)) (hsk : Sortable (bs.map k)) (hu : ∀ b, b ∈ bs → X.A.in1.in1.units + (k b).depth < cLine) (turn : KeyRun X pins σ H q bs k)
    (go : ∀ D s' Hn, Inv X pins σ (upd Hn D (.lst ((bs.mergeSort (dataLe false k)).map V.str))) s' → Same H Hn → Hn D = none → Q (.ref D) s') :
    wpAny (model X.prog X.w) X.A (call (.builtin "sorted") [.ref l] [(Str.ofString "key", .ref q)]) Q E s := by
  obtain ⟨us, hv, pl, _⟩ := I.list hl
  have hlen : us.length = bs.length := by rw [← hv.length, List.length_map]
  refine PySem.W.sorted_of_sort pl.isList (sz (by omega)) (ksk_s1 _ _) (fun _ => ksk_l1 _ _) fun E' => ?_
  rw [ksk_t1]
  have ho := PySem.W.copyHeap_at s.heap us
  have old : ∀ b o, s.heap.get? b = some o → b ≠ s.heap.objs.size + 1 ∧ (copyHeap s.heap us).get? b = some o := fun b o e => ⟨Nat.ne_of_lt (Nat.lt_succ_of_lt (Heap.lt_size e)), PySem.W.copyHeap_old e⟩
  have la : s.heap.objs.size + 1 < (copyHeap s.heap us).objs.size := Heap.lt_size ho
  obtain ⟨e1, ho1⟩ : ∃ e1, ((copyHeap s.heap us).update (s.heap.objs.size + 1) (Obj.mapSeq fun _ => (#[] : Array Value))).get? (s.heap.objs.size + 1) = some (seqObj "list" #[] e1) := ⟨_, get?_update_seq ho fun _ => #[]⟩
  unfold ksk_tree
  refine wpAny_bind (listItems_at ho rfl ?_)
  refine wpAny_bind (listUpdate_at ho rfl ?_ (by rw [List.size_toArray]; exact sz (by omega)) (Nat.zero_le _))
  refine wpAny_bind (seqEpoch_at ho1 rfl ?_)
  refine wpAny_bind (wpAny_newTuple ?_ (by show us.length ≤ _; exact sz (by omega)))
  refine wpAny_bind (wpAny_newList ?_ (Nat.zero_le _))
  refine wpAny_holding ?_
  generalize hg : ((copyHeap s.heap us).update (s.heap.objs.size + 1) (Obj.mapSeq fun _ => (#[] : Array Value))).push (seqObj "tuple" us.toArray 0) = g
  have keep : ∀ b o, b ≠ s.heap.objs.size + 1 → (copyHeap s.heap us).get? b = some o → (g.push (seqObj "list" #[] 0)).get? b = some o := fun b o hb e => by
    rw [← hg]
    exact Heap.get?_push_of_some _ (Heap.get?_push_of_some _ ((Heap.get?_update_other _ _ (Ne.symm hb)).trans e))
  have ga : (g.push (seqObj "list" #[] 0)).get? (s.heap.objs.size + 1) = some (seqObj "list" #[] e1) := by
    rw [← hg]
    exact Heap.get?_push_of_some _ (Heap.get?_push_of_some _ ho1)
  have lg : (copyHeap s.heap us).objs.size ≤ g.objs.size := by
    rw [← hg, size_push', Heap.size_update]
    exact Nat.le_succ _
  have I1 : Inv X pins σ H { s with heap := g.push (seqObj "list" #[] 0) } := I.kept (t' := s.toks) fun b o e => keep b o (old b o e).1 (old b o e).2
  have na : H (s.heap.objs.size + 1) = none := I.hok.fresh (Nat.le_succ _)
  have nk : H g.objs.size = none := I.hok.fresh (Nat.le_trans (Nat.le_of_lt (Nat.lt_of_succ_lt la)) lg)
  refine key_sorted (a := s.heap.objs.size + 1) (kS := g.objs.size) (rec_new I (Nat.le_succ _)) (rec_new I (Nat.le_trans (Nat.le_of_lt (Nat.lt_of_succ_lt la)) lg)) (Nat.ne_of_gt (Nat.lt_of_lt_of_le la lg)) hv (by omega) hal hsk hu turn
    ⟨H, #[], 0, I1, fun _ _ e => e, na, nk, ga, Heap.get?_push_size _ rfl, .nil⟩ fun s' Hn J sm n => ⟨rfl, go _ s' Hn J sm n⟩
end
end Bt
namespace Bt
open PySem PySem.Spec PyProof.Rows L2 LamX NdefX
open PySem.W (AllAlike Sortable dataLe)
/-! ### the rule: sorted(xs, key=lambda x: ..) -/
/-- what the sort asks and gives: xs a list of texts, the keys by k -/
def rSK (K : PySem.W.Frag) (run : Hp → Str → VK → Prop) (x : V) (H : Hp) (Q : VK) : Prop := ∃ (l : Addr) (bs : List Str) (k : Str → PyData), x = .ref l ∧ SqL K H l (bs.map V.str) ∧ bs.length ≤ 1000 ∧ AllAlike (bs.map k) ∧ Sortable (bs.map k) ∧ (∀ b ∈ bs, (k b).depth ≤ 8) ∧
  (∀ b ∈ bs, ∀ Hn, Same H Hn → run Hn b fun y H3 => Same Hn H3 ∧ Dp K H3 y (k b)) ∧
  ∀ D Hn H3, Same H Hn → Hn D = none → Same Hn H3 → H3 D = some (.lst ((bs.mergeSort (dataLe false k)).map V.str)) → Q (.ref D) H3
def tSK (K : PySem.W.Frag) (T : List NTab) (mk : Addr → LF) (N' : List Str) (js : List Nat) (tb : TE) (ta : TA) : TE := fun σ H Q => ta σ H fun xs H1 => ∃ x, xs = [x] ∧ TabsN T H1 ∧ ∀ f c' H2, LamK T H1 mk f c' H2 → rSK K (fun Hn b R => tb (startF N' [.str b] (js.map (slotAt σ))) Hn R) x H2 Q
section
variable {X : Cx} {T : List NTab} {nm : Nat → Nat → Str} {c P : Addr} {params : Arguments} {body e : Expr} {scope : Scope} {p pos lpos kpos : Pos} {tb : TE} {ta : TA} {N' fr : List Str} {x : Str} {js : List Nat} {j : Nat}
theorem pe_sortKey (TB : TabB X.base X.mg c P) (hcode : X.env.code = .ref c) (hm : (P, nm) ∈ T) (hn : nm lpos.line lpos.col = X.env.qual ++ "<lambda>") (hu : ∀ p ∈ T, p.1 = P → p.2 = nm)
    (hfree : ∀ y ∈ scope.names, y.2 = .free → X.env.scope.names.lookup y.1 = some .cell ∨ X.env.scope.names.lookup y.1 = some .free) (S : NScope N' [x] fr scope) (hfr : ∀ y ∈ fr, (y, NameKind.free) ∈ scope.names) (hjs : js.map (fun j => X.N[j]?) = fr.map some)
    (hr : Room (j + 3) X.A) (hg : Gl X "sorted") (hs : X.mg "sorted" = none) (ha : PA X (e :: []) ta)
    (hbody : ∀ (d f : Addr) (s' : Shared) (Hn : Hp), Room j (X.A.in1.in1.deeper (envF (LF.nf ⟨X.env.qual ++ "<lambda>", params, body, scope, cloFrom X.env.cells scope.names [], d⟩) f s'.heap.objs.size)) →
      PE (ncx CX0 X.prog X.w X.K X.mg X.base N' (LF.nf ⟨X.env.qual ++ "<lambda>", params, body, scope, cloFrom X.env.cells scope.names [], d⟩) f X.A.in1.in1 X.stack s' Hn E0) body tb)
    (hb : ∀ (d : Addr) (pm ctv v : Value), bindArgs (LF.fd ⟨X.env.qual ++ "<lambda>", params, body, scope, cloFrom X.env.cells scope.names [], d⟩ pm ctv) ⟨[v], []⟩ = pure [(x, v)])
    (hdef : defaultsOf params X.env = ([], []) := by rfl) (h1 : backTo pos (starEach (e :: []) X.env) = (false, eval e X.env) :: backTo pos (starEach [] X.env) := by rfl) (h2 : (backTo pos (starEach (e :: []) X.env)).any (·.1) = false := by rfl)
    (h3 : (backToKw pos (keywordEach [⟨some "key", .Lambda params body scope lpos, kpos⟩] X.env)).all (·.1.isSome) = true := by rfl) (h4 : (backToKw pos (keywordEach [⟨some "key", .Lambda params body scope lpos, kpos⟩] X.env)).any (·.1.isNone) = false := by rfl)
    (h5 : (backToKw pos (keywordEach [⟨some "key", .Lambda params body scope lpos, kpos⟩] X.env)).filterMap (·.1) = [Str.ofString "key"] := by rfl) :
    PE X (.Call (.Name "sorted" p) [e] [⟨some "key", .Lambda params body scope lpos, kpos⟩] pos) (tSK X.K T (fun d => ⟨X.env.qual ++ "<lambda>", params, body, scope, cloFrom X.env.cells scope.names [], d⟩) N' js tb ta) := by
  have lam := pe_lambda (T := T) (params := params) (body := body) (pos := lpos) TB hcode hm hn hu hfree hdef
  refine ⟨fun pins s σ H Q I h => ?_⟩
  refine wpAny_Call_Name_kw (ld_blt I hg hs (by decide +kernel : bootBuiltins "sorted" = some (.builtin "sorted")) ?_ (by decide) (by decide))
  refine PyProof.Rows.callWith_kw (thn (ha.run pos pins s σ H _ I h) fun us s1 z1 => ?_) h1 h2 h3 h4
  obtain ⟨vs, H1, I1, r1, y, ey, tab, go⟩ := z1
  refine thn ((pk_cons lam pk_nil).run pos pins s1 σ H1 (fun zs H2 => ∃ f c', zs = [.ref f] ∧ LamK T H1 _ f c' H2) I1 ⟨tab, fun f c' H2 L => s_nil ⟨f, c', rfl, L⟩⟩) fun ws s2 z2 => ?_
  obtain ⟨zs, H2, I2, r2, f, c', ez, L⟩ := z2
  subst ey ez
  rw [h5]
  obtain ⟨l, bs, k, rfl, hl, hz, hal, hsk, hd, runs, fin⟩ := go f c' H2 L
  cases r1 with
  | @cons _ u _ ur ra rr =>
    cases rr
    cases r2 with
    | @cons _ w _ wr rf rw' =>
      cases rw'
      obtain rfl : u = Value.ref l := ra
      obtain rfl : w = Value.ref f := rf
      have ri : Room (j + 1) X.A.in1.in1 := (Room.in1 (k := j + 2) hr).in1
      refine sorted_key_inv I2 hl hz hal hsk (fun b hb => ?_) (fun b u hb' ru s' Hn J sm => ?_) fun D s' Hn J sm n => ⟨.ref D, _, J, rfl, fin D Hn _ sm n (Same.new n) upd_same⟩
      · have := hd b hb
        have := ri.units
        omega
      · have e0 := J.env0
        have e1 : Env0 X.prog X.w X.K X.mg X.base X.A.in1.in1 X.stack s' Hn := ⟨e0.1, e0.mod, e0.bs, e0.bsz, e0.funs, e0.frf, e0.hok, e0.bare⟩
        have Lf := L.2.2.2.2.1
        have Lc := L.2.2.2.2.2
        exact lam_run (us := [u]) (vs := [.str b]) S (fun pm ctv xs hx => by
          match xs, hx with
          | [v], _ => exact hb c' pm ctv v) rfl ri e1 (sm _ _ Lf) (sm _ _ Lc) (cells_of J (Caps.made J.ok hfree hfr hjs)) (.cons ru .nil) (hbody c' f s' Hn (ri.deeper _)) (runs b hb' Hn sm)
end
end Bt
namespace Bt
open PySem PySem.Spec PyProof.Rows L2 LamX NdefX
open PySem.W (AllAlike Sortable dataLe dataLt alike)
/-! ### heaps that grow but for the tables of code objects -/
theorem ext_lst {H H' : Hp} {a : Addr} {xs : List V} (S : ExtN H H') (h : H a = some (.lst xs)) : H' a = some (.lst xs) := S _ _ h fun _ z => nomatch z
theorem ext_tup {H H' : Hp} {a : Addr} {xs : List V} (S : ExtN H H') (h : H a = some (.tup xs)) : H' a = some (.tup xs) := S _ _ h fun _ z => nomatch z
theorem ext_ins {H H' : Hp} {a C dx : Addr} {fs : List (Str × V)} (S : ExtN H H') (h : H a = some (.ins C dx fs)) : H' a = some (.ins C dx fs) := S _ _ h fun _ z => nomatch z
theorem ext_xd {H H' : Hp} {a : Addr} {fs : List (Str × V)} (S : ExtN H H') (h : H a = some (.xd fs)) : H' a = some (.xd fs) := S _ _ h fun _ z => nomatch z
theorem ext_same {H H' : Hp} (S : Same H H') : ExtN H H' := ExtN.of S
theorem SqT_monoN {K : PySem.W.Frag} {H H' : Hp} {a : Addr} {xs : List V} (e : ExtN H H') (h : SqT K H a xs) : SqT K H' a xs := by
  rcases h with (h | ⟨o, h⟩) | h
  · exact .inl (.inl (ext_tup e h))
  · exact .inl (.inr ⟨o, e _ _ h fun _ z => nomatch z⟩)
  · exact .inr h
theorem SqL_monoN {K : PySem.W.Frag} {H H' : Hp} {a : Addr} {xs : List V} (e : ExtN H H') (h : SqL K H a xs) : SqL K H' a xs := by
  rcases h with (h | ⟨o, h⟩) | h
  · exact .inl (.inl (ext_lst e h))
  · exact .inl (.inr ⟨o, e _ _ h fun _ z => nomatch z⟩)
  · exact .inr h
mutual
theorem Dp.monoN {K : PySem.W.Frag} {H H' : Hp} (S : ExtN H H') : ∀ {v : V} {d : PyData}, Dp K H v d → Dp K H' v d
  | _, _, .non => .non
  | _, _, .bl b => .bl b
  | _, _, .int i => .int i
  | _, _, .str x => .str x
  | _, _, .lst h r => .lst (SqL_monoN S h) (DpAll.monoN S r)
  | _, _, .tup h r => .tup (SqT_monoN S h) (DpAll.monoN S r)
theorem DpAll.monoN {K : PySem.W.Frag} {H H' : Hp} (S : ExtN H H') : ∀ {vs : List V} {ds : List PyData}, DpAll K H vs ds → DpAll K H' vs ds
  | _, _, .nil => .nil
  | _, _, .cons h r => .cons (Dp.monoN S h) (DpAll.monoN S r)
end
theorem TyX.monoN {K : PySem.W.Frag} {H H' : Hp} {x : V} {t : Value} (S : ExtN H H') (h : TyX K H x t) : TyX K H' x t := by
  cases h with
  | base b =>
    cases b with
    | non => exact .base .non
    | bl z => exact .base (.bl z)
    | int z => exact .base (.int z)
    | str z => exact .base (.str z)
    | flt z => exact .base (.flt z)
    | lst e => exact .base (.lst (ext_lst S e))
    | frz e => exact .base (.frz (S _ _ e fun _ z => nomatch z))
    | tup e => exact .base (.tup (ext_tup S e))
    | dK e => exact .base (.dK (S _ _ e fun _ z => nomatch z))
    | dT e => exact .base (.dT (S _ _ e fun _ z => nomatch z))
    | ins e cl ha hn htk hm => exact .base (.ins (ext_ins S e) cl ha hn htk hm)
  | byt b => exact .byt b
  | set e => exact .set (S _ _ e fun _ z => nomatch z)
  | kList e c => exact .kList e c
  | kTuple e c => exact .kTuple e c
  | kDict e c => exact .kDict e c
  | fTuple e => exact .fTuple (S _ _ e fun _ z => nomatch z)
  | fDict e => exact .fDict (S _ _ e fun _ z => nomatch z)
theorem Pl.monoN {K : PySem.W.Frag} {H H' : Hp} {x : V} {T : String} (S : ExtN H H') (h : Pl K H x T) : Pl K H' x T := ⟨TyX.monoN S h.1, h.2⟩
/-- a list's object is written: the tables stay -/
theorem TabsN.but {T : List NTab} {H H' : Hp} {p : Addr} {xs : List V} (t : TabsN T H) (hp : H p = some (.lst xs)) (B : But p H H') : TabsN T H' := by
  rintro ⟨P, nm⟩ hm
  obtain ⟨ps, h1, h2, h3⟩ := t _ hm
  have ne : ∀ {b : Addr} {o : HO}, H b = some o → o ≠ .lst xs → b ≠ p := fun e n z => by
    rw [z, hp] at e
    exact n (Option.some.inj e).symm
  refine ⟨ps, B _ _ (ne h1 fun z => nomatch z) h1, h2, fun pos cv hc => ?_⟩
  obtain ⟨c, e1, e2⟩ := h3 pos cv hc
  exact ⟨c, e1, B _ _ (ne e2 fun z => by
    have z' : HO.ext _ = HO.lst xs := z
    cases z') e2⟩
/-! ### a def whose code object is known -/
structure FunC (K : PySem.W.Frag) (x qual : Str) (st : Stmt) (f : Addr) (fd : FuncData) (c : Addr) : Prop where
  ex : ∃ (oc : Value) (od : Option Addr) (kV doc pm : Value) (an : Option Addr) (ct : Value) (osl : Array (Option Value)),
    fd = PySem.W.fnOf x qual (defArgs st) (defBody st) (defScope st) .none kV doc pm an (.ref c) ct ∧ K.lookup f = some ⟨oc, od, .func fd, osl⟩ ∧ PySem.W.codeIn K (.ref c) qual = true
  kp : PySem.W.keepIn K (.ref f) = true
section
variable {P : Program} {w : World} {K : PySem.W.Frag} {mg : Str → Option Value} {base : Heap} {x qual : Str} {st : Stmt} {f c : Addr} {fd : FuncData} {N ps : List Str} {k : Nat} {sp : Sp}
theorem FunC.fn (F : FunC K x qual st f fd c) : Fun K x qual st f fd := by
  obtain ⟨oc, od, kV, doc, pm, an, ct, osl, rfl, lk, hc⟩ := F.ex
  exact ⟨⟨oc, od, kV, doc, pm, an, .ref c, ct, osl, rfl, lk, hc⟩, F.kp⟩
theorem FunC.ok (F : FunC K x qual st f fd c) (S : FnScope N ps (defScope st)) (len : ∀ vs H Q E, sp vs H Q E → vs.length = ps.length)
    (hbody : ∀ (A : Around) (outer : List Env) (s : Shared) (H : Hp) (vs : List V) (Q : VK) (E : XK), Room k (A.deeper (envOfC qual (defScope st) s.heap.objs.size f (.ref c))) → sp vs H Q E →
      ∃ t, PSs (cxOf CX0 P w K mg base N qual (defScope st) f (.ref c) A outer s H E).nox (defBody st) t ∧ t { nx := fun _ H' => Q .non H', rt := Q } (start N vs) H) : FnOk P w K mg base CX0 (k + 1) f fd ps sp := by
  obtain ⟨oc, od, kV, doc, pm, an, ct, osl, rfl, lk, hc⟩ := F.ex
  refine fn_of lk hc S len fun A outer s H vs Q E hr hs => ?_
  obtain ⟨t, h, q⟩ := hbody A outer s H vs Q E hr hs
  exact ⟨t, h.nox, q⟩
theorem FunC.okX (F : FunC K x qual st f fd c) (S : FnScope N ps (defScope st)) (len : ∀ vs H Q E, sp vs H Q E → vs.length = ps.length)
    (hbody : ∀ (A : Around) (outer : List Env) (s : Shared) (H : Hp) (vs : List V) (Q : VK) (E : XK), Room k (A.deeper (envOfC qual (defScope st) s.heap.objs.size f (.ref c))) → sp vs H Q E →
      ∃ t, PSs (cxOf (L2.CX P w) P w K mg base N qual (defScope st) f (.ref c) A outer s H E) (defBody st) t ∧ t { nx := fun _ H' => Q .non H', rt := Q } (start N vs) H) : FnOk P w K mg base (L2.CX P w) (k + 1) f fd ps sp := by
  obtain ⟨oc, od, kV, doc, pm, an, ct, osl, rfl, lk, hc⟩ := F.ex
  exact fn_of lk hc S len hbody
end
/-! ### keys of two kinds that sort alike -/
def kTup (g : Str → Int) (r : Str → List Int) (z : Str) : PyData := .tuple [.int (g z), .tuple ((r z).map .int)]
def kLst (g : Str → Int) (r : Str → List Int) (z : Str) : PyData := .tuple [.int (g z), .list ((r z).map .int)]
section
variable {g : Str → Int} {r : Str → List Int} {bs : List Str}
theorem alike_tup (xs ys : List Int) : alike (.tuple (xs.map .int)) (.tuple (ys.map .int)) = true := by simp [alike, PySem.W.alike_ints]
theorem alike_lst (xs ys : List Int) : alike (.list (xs.map .int)) (.list (ys.map .int)) = true := by simp [alike, PySem.W.alike_ints]
theorem kTup_alike : AllAlike (bs.map (kTup g r)) := AllAlike.of fun b b' => by
  show alike (.tuple [.int (g b), .tuple ((r b).map .int)]) (.tuple [.int (g b'), .tuple ((r b').map .int)]) = true
  rw [alike, PySem.W.alikeAll, PySem.W.alikeAll, alike_tup]
  simp [alike, PySem.W.alikeAll]
theorem kLst_alike : AllAlike (bs.map (kLst g r)) := AllAlike.of fun b b' => by
  show alike (.tuple [.int (g b), .list ((r b).map .int)]) (.tuple [.int (g b'), .list ((r b').map .int)]) = true
  rw [alike, PySem.W.alikeAll, PySem.W.alikeAll, alike_lst]
  simp [alike, PySem.W.alikeAll]
theorem kTup_sort : Sortable (bs.map (kTup g r)) := Sortable.tuples fun b => ⟨_, _, rfl⟩
theorem kLst_sort : Sortable (bs.map (kLst g r)) := Sortable.tuples fun b => ⟨_, _, rfl⟩
theorem kTup_depth (z : Str) : (kTup g r z).depth ≤ 8 := by
  show PyData.depth (.tuple [.int (g z), .tuple ((r z).map .int)]) ≤ 8
  simp only [PyData.depth, PyData.depthAll, PySem.W.depth_ints]
  decide
theorem kLst_depth (z : Str) : (kLst g r z).depth ≤ 8 := by
  show PyData.depth (.tuple [.int (g z), .list ((r z).map .int)]) ≤ 8
  simp only [PyData.depth, PyData.depthAll, PySem.W.depth_ints]
  decide
theorem key_lt (z z' : Str) : dataLt (kTup g r z) (kTup g r z') = dataLt (kLst g r z) (kLst g r z') := by
  unfold kTup kLst
  rw [PySem.W.dataLt_pair (by simp [alike]) (alike_tup _ _), PySem.W.dataLt_pair (by simp [alike]) (alike_lst _ _)]
  have e1 : PyData.eqv (.tuple ((r z).map .int)) (.tuple ((r z').map .int)) = PyData.eqv (.list ((r z).map .int)) (.list ((r z').map .int)) := by simp [PyData.eqv]
  have e2 : dataLt (.tuple ((r z).map .int)) (.tuple ((r z').map .int)) = dataLt (.list ((r z).map .int)) (.list ((r z').map .int)) := by rw [PySem.W.dataLt_tuple, PySem.W.dataLt_list]
  rw [e1, e2]
theorem key_le : dataLe false (kTup g r) = dataLe false (kLst g r) := by
  rw [PySem.W.dataLe_eq, PySem.W.dataLe_eq]
  funext a b
  show (!dataLt (kTup g r b) (kTup g r a)) = (!dataLt (kLst g r b) (kLst g r a))
  rw [key_lt]
end
end Bt
namespace Bt
open PySem PySem.Spec PyProof.Rows L2
/-! ### o.m(e, ..), m may raise: what is raised is wished for at the caller's slots -/
section
variable {X : Cx} {CX : CXT} {k : Nat} {C g : Addr} {fd : FuncData} {ps : List Str} {sp : Sp} {E : L2.St → XK} {pos apos : Pos} {o e : Expr} {es : List Expr} {to : TE} {t : TA} {m : Str}
def tMethE (C : Addr) (m : Str) (sp : Sp) (E : L2.St → XK) (to : TE) (t : TA) : TE := fun σ H Q => to σ H fun y H1 => ∃ a dx fs, y = V.ref a ∧ H1 a = some (.ins C dx fs) ∧ fs.lookup m = none ∧ t σ H1 fun vs H2 => sp (V.ref a :: vs) H2 Q (E σ)
theorem pe_methE {pl : Sem Bool} (ho : PE X o to) (c : Cls X.K C) (hm : Meth X.K C m g) (F : FnOk X.prog X.w X.K X.mg X.base CX k g fd ps sp) (hr : Room k X.A) (hb : Binds X.K fd ps []) (hx : ∀ σ, PassesAt CX X σ (E σ)) (ha : PA X (e :: es) t)
    (ht : eval (.Call (.Attribute o m apos) (e :: es) [] pos) X.env = (do
      let y ← eval o X.env
      standAt apos.atName
      let (f, first) ← holding [y] (getMethod y m pl)
      callWith pos f first (backTo pos (starEach (e :: es) X.env)) (backToKw pos (keywordEach [] X.env))) := by rfl)
    (hst : starEach (e :: es) X.env = (false, eval e X.env) :: starEach es X.env := by rfl) (hpl : (backTo pos (starEach es X.env)).any (·.1) = false := by rfl) :
    PE X (.Call (.Attribute o m apos) (e :: es) [] pos) (tMethE C m sp E to t) := by
  refine ⟨fun pins s σ H Q I h => ?_⟩
  refine PySem.W.methodCall_KW (pl := pl) (thn (ho.run pins s σ H _ I h) fun u s1 z => ?_) ht
  obtain ⟨y, H1, I1, ry, a, dx, fs, ey, ea, l, q⟩ := z
  subst ey
  obtain rfl : u = Value.ref a := ry
  refine getmeth_ok I1 ea c hm l (PySem.W.callWith_K (first := [.ref a]) (h₀ := X.base) I.ok.mod.kin hm.kp (thn (ha.run pos pins s1 σ H1 _ I1 q) fun us s2 z2 => ?_) hst hpl)
  obtain ⟨vs, H2, I2, r, q2⟩ := z2
  refine ⟨I2.kIn, ?_⟩
  exact run_fnSD (us := .ref a :: us) (vs := .ref a :: vs) (dvs := []) F hr hb .nil (hx σ) I2 (.cons rfl r) (by rw [List.append_nil]; exact q2)
theorem s_methE {σ : L2.St} {H : Hp} {Q : VK} (h : to σ H fun y H1 => ∃ a dx fs, y = V.ref a ∧ H1 a = some (.ins C dx fs) ∧ fs.lookup m = none ∧ t σ H1 fun vs H2 => sp (V.ref a :: vs) H2 Q (E σ)) : tMethE C m sp E to t σ H Q := h
end
end Bt
namespace Bt
open PySem PySem.Spec PyProof.Rows L2
open PySem.W (dataLt alike)
/-! ### a < b of data that are alike -/
def rLtD (K : PySem.W.Frag) : R2 := fun x y H Q => ∃ d e, Dp K H x d ∧ Dp K H y e ∧ alike d e = true ∧ d ≠ .none ∧ d.depth ≤ 60 ∧ Q (.bl (dataLt d e)) H
theorem op_ltD {X : Cx} (hu : X.A.units + 64 < cLine) : OpR X (compareOp .Lt) (rLtD X.K) := by
  intro pins s σ H x y v u Q I rx ry h
  obtain ⟨d, e, dx, dy, al, nn, dp, q⟩ := h
  obtain ⟨as, r1⟩ := Dp.reads I d x v dx rx
  obtain ⟨bs, r2⟩ := Dp.reads I e y u dy ry
  show wpAny (model X.prog X.w) X.A (richCompare .Lt v u) (EP X pins σ Q) X.xe s
  exact PySem.W.rcLt_alike d e X.A s v u as bs r1 r2 al nn (by omega) X.prog X.w _ _ ⟨.bl _, H, I, rfl, q⟩
theorem q_ltD {K : PySem.W.Frag} {x y : V} {H : Hp} {Q : VK} {d e : PyData} (dx : Dp K H x d) (dy : Dp K H y e) (al : alike d e = true) (nn : d ≠ .none) (dp : d.depth ≤ 60) (q : Q (.bl (dataLt d e)) H) : rLtD K x y H Q := ⟨d, e, dx, dy, al, nn, dp, q⟩
end Bt
namespace Bt
open PySem PySem.Spec PyProof.Rows L2
/-! ### == of lists and of tuples whose items are the same objects, or data -/
mutual
inductive EqV (K : PySem.W.Frag) (H : Hp) : Nat → V → V → Bool → Prop where
  | same {n : Nat} (a : Addr) : EqV K H n (.ref a) (.ref a) true
  | data {n : Nat} {x y : V} {d e : PyData} : Dp K H x d → Dp K H y e → SeqAt.shaped d = true → SeqAt.shaped e = true → EqV K H n x y (PyData.eqv d e)
  | lst {n : Nat} {a b : Addr} {xs ys : List V} {bs : List Bool} : a ≠ b → SqL K H a xs → SqL K H b ys → EqVs K H n xs ys bs → EqV K H (n + 1) (.ref a) (.ref b) (bs.all id)
inductive EqVs (K : PySem.W.Frag) (H : Hp) : Nat → List V → List V → List Bool → Prop where
  | nil {n : Nat} : EqVs K H n [] [] []
  | cons {n : Nat} {x y : V} {b : Bool} {xs ys : List V} {bs : List Bool} : EqV K H n x y b → EqVs K H n xs ys bs → EqVs K H n (x :: xs) (y :: ys) (b :: bs)
end
theorem all_range (bs : List Bool) : ((List.range bs.length).all fun j => (bs[j]?).getD true) = bs.all id := by
  rw [Bool.eq_iff_iff, List.all_eq_true, List.all_eq_true]
  constructor
  · intro h b hb
    obtain ⟨j, hj, e⟩ := List.mem_iff_getElem.mp hb
    have := h j (List.mem_range.mpr hj)
    rw [List.getElem?_eq_getElem hj, e] at this
    exact this
  · intro h j hj
    have hj := List.mem_range.mp hj
    rw [List.getElem?_eq_getElem hj]
    exact h _ (List.getElem_mem hj)
section
variable {X : Cx} {pins : List (Addr × Obj)} {σ : L2.St} {H : Hp} {s : Shared}
mutual
theorem eqV_at (I : Inv X pins σ H s) : ∀ (n : Nat) (x y : V) (b : Bool), EqV X.K H n x y b → ∀ (A : Around), A.units + n + 64 < cLine → ∀ (u v : Value), RelV x u → RelV y v → SeqAt.EqAt A s u v b
  | _, _, _, _, .same a, A, hu, u, v, rx, ry => by
    obtain rfl : u = Value.ref a := rx
    obtain rfl : v = Value.ref a := ry
    exact SeqAt.EqAt.same _
  | _, _, _, _, .data hd he sd se, A, hu, u, v, rx, ry => by
    obtain ⟨as, r1⟩ := Dp.reads I _ _ u hd rx
    obtain ⟨bs, r2⟩ := Dp.reads I _ _ v he ry
    exact SeqAt.eqAt_reads _ _ A s u v as bs r1 r2 (SeqAt.canLay_of_shaped sd) (SeqAt.canLay_of_shaped se) (SeqAt.room_of_shaped sd (by omega))
  | _, _, _, _, @EqV.lst _ _ n a b xs ys bs ne h1 h2 h3, A, hu, u, v, rx, ry => by
    obtain rfl : u = Value.ref a := rx
    obtain rfl : v = Value.ref b := ry
    obtain ⟨us, r1, p1, _⟩ := I.list h1
    obtain ⟨vs, r2, p2, _⟩ := I.list h2
    have hi : A.in1.units + n + 64 < cLine := by show A.units + 1 + n + 64 < cLine; omega
    obtain ⟨l1, l2, k⟩ := eqVs_at I _ _ _ _ h3 _ hi _ _ r1 r2
    have e : bs.all id = (List.range us.toArray.size).all fun j => (bs[j]?).getD true := by rw [List.size_toArray, l1, all_range]
    rw [e]
    refine SeqAt.EqAt.of_refs ne (SeqAt.RcAt.lists (items := us.toArray) (items2 := vs.toArray) ?_ ?_ (by simp [l1, l2]) (by omega) (fun j j1 j2 => ?_))
    · obtain ⟨o, n, ho, hc, _, hd⟩ := p1
      exact ⟨o, ho, hc, n, hd⟩
    · obtain ⟨o, n, ho, hc, _, hd⟩ := p2
      exact ⟨o, ho, hc, n, hd⟩
    · simpa using k j (by simpa using j1) (by simpa using j2)
theorem eqVs_at (I : Inv X pins σ H s) : ∀ (n : Nat) (xs ys : List V) (bs : List Bool), EqVs X.K H n xs ys bs → ∀ (A : Around), A.units + n + 64 < cLine → ∀ (us vs : List Value), Vals xs us → Vals ys vs → us.length = bs.length ∧ vs.length = bs.length ∧
    ∀ j (h1 : j < us.length) (h2 : j < vs.length), SeqAt.EqAt A s us[j] vs[j] ((bs[j]?).getD true)
  | _, _, _, _, .nil, A, hu, us, vs, r1, r2 => by
    cases r1
    cases r2
    exact ⟨rfl, rfl, fun j h1 _ => absurd h1 (Nat.not_lt_zero _)⟩
  | _, _, _, _, .cons h hs, A, hu, us, vs, r1, r2 => by
    cases r1 with
    | cons ra r1 =>
      cases r2 with
      | cons rb r2 =>
        obtain ⟨l1, l2, k⟩ := eqVs_at I _ _ _ _ hs _ hu _ _ r1 r2
        refine ⟨by simp [l1], by simp [l2], fun j h1 h2 => ?_⟩
        cases j with
        | zero => exact eqV_at I _ _ _ _ h _ hu _ _ ra rb
        | succ j => simpa using k j (by simpa using h1) (by simpa using h2)
end
end
def rEqI (K : PySem.W.Frag) (n : Nat) : R2 := fun x y H Q => ∃ a b xs ys bs, x = .ref a ∧ y = .ref b ∧ ((SqL K H a xs ∧ SqL K H b ys) ∨ (SqT K H a xs ∧ SqT K H b ys)) ∧ EqVs K H n xs ys bs ∧ Q (.bl (bs.all id)) H
def rNeI (K : PySem.W.Frag) (n : Nat) : R2 := fun x y H Q => ∃ a b xs ys bs, x = .ref a ∧ y = .ref b ∧ ((SqL K H a xs ∧ SqL K H b ys) ∨ (SqT K H a xs ∧ SqT K H b ys)) ∧ EqVs K H n xs ys bs ∧ Q (.bl (!bs.all id)) H
theorem op_eqI {X : Cx} {n : Nat} (hu : X.A.units + n + 65 < cLine) : OpR X (compareOp .Eq) (rEqI X.K n) := by
  intro pins s σ H x y v u Q I rx ry h
  obtain ⟨a, b, xs, ys, bs, rfl, rfl, hs, he, q⟩ := h
  obtain rfl : v = Value.ref a := rx
  obtain rfl : u = Value.ref b := ry
  have hi : X.A.in1.units + n + 64 < cLine := by show X.A.units + 1 + n + 64 < cLine; omega
  rcases hs with ⟨h1, h2⟩ | ⟨h1, h2⟩
  · obtain ⟨us, r1, p1, _⟩ := I.list h1
    obtain ⟨vs, r2, p2, _⟩ := I.list h2
    obtain ⟨l1, l2, k⟩ := eqVs_at I _ _ _ _ he _ hi _ _ r1 r2
    refine SeqAt.eq_listAt (items := us.toArray) (items2 := vs.toArray) (e := fun j => (bs[j]?).getD true) ?_ ?_ (by simp [l1, l2]) (by omega) (fun j j1 j2 => ?_) ⟨.bl _, H, I, rfl, ?_⟩
    · obtain ⟨o, n, ho, hc, _, hd⟩ := p1
      exact ⟨o, ho, hc, n, hd⟩
    · obtain ⟨o, n, ho, hc, _, hd⟩ := p2
      exact ⟨o, ho, hc, n, hd⟩
    · simpa using k j (by simpa using j1) (by simpa using j2)
    · rw [List.size_toArray, l1, all_range]
      exact q
  · obtain ⟨us, r1, p1, _⟩ := I.tuple h1
    obtain ⟨vs, r2, p2, _⟩ := I.tuple h2
    obtain ⟨l1, l2, k⟩ := eqVs_at I _ _ _ _ he _ hi _ _ r1 r2
    refine SeqAt.eq_tupleAt (items := us.toArray) (items2 := vs.toArray) (e := fun j => (bs[j]?).getD true) ?_ ?_ (by omega) (fun j j1 j2 => ?_) ⟨.bl _, H, I, rfl, ?_⟩
    · obtain ⟨o, ho, hc, n, hd⟩ := p1
      exact ⟨o, ho, hc, n, hd⟩
    · obtain ⟨o, ho, hc, n, hd⟩ := p2
      exact ⟨o, ho, hc, n, hd⟩
    · simpa using k j (by simpa using j1) (by simpa using j2)
    · rw [List.size_toArray, List.size_toArray, l1, l2, Nat.min_self, all_range, beq_self_eq_true, Bool.and_true]
      exact q
theorem op_neI {X : Cx} {n : Nat} (hu : X.A.units + n + 65 < cLine) : OpR X (compareOp .NotEq) (rNeI X.K n) := by
  intro pins s σ H x y v u Q I rx ry h
  obtain ⟨a, b, xs, ys, bs, rfl, rfl, hs, he, q⟩ := h
  obtain rfl : v = Value.ref a := rx
  obtain rfl : u = Value.ref b := ry
  have hi : X.A.in1.units + n + 64 < cLine := by show X.A.units + 1 + n + 64 < cLine; omega
  show wpAny (model X.prog X.w) X.A (richCompare .NotEq (.ref a) (.ref b)) (EP X pins σ Q) X.xe s
  rcases hs with ⟨h1, h2⟩ | ⟨h1, h2⟩
  · obtain ⟨us, r1, p1, _⟩ := I.list h1
    obtain ⟨vs, r2, p2, _⟩ := I.list h2
    obtain ⟨l1, l2, k⟩ := eqVs_at I _ _ _ _ he _ hi _ _ r1 r2
    refine SeqAt.RcNeAt.lists (items := us.toArray) (items2 := vs.toArray) (e := fun j => (bs[j]?).getD true) ?_ ?_ (by simp [l1, l2]) (by omega) (fun j j1 j2 => ?_) X.prog X.w X.xe _ ⟨.bl _, H, I, rfl, ?_⟩
    · obtain ⟨o, n, ho, hc, _, hd⟩ := p1
      exact ⟨o, ho, hc, n, hd⟩
    · obtain ⟨o, n, ho, hc, _, hd⟩ := p2
      exact ⟨o, ho, hc, n, hd⟩
    · simpa using k j (by simpa using j1) (by simpa using j2)
    · rw [List.size_toArray, l1, all_range]
      exact q
  · obtain ⟨us, r1, p1, _⟩ := I.tuple h1
    obtain ⟨vs, r2, p2, _⟩ := I.tuple h2
    obtain ⟨l1, l2, k⟩ := eqVs_at I _ _ _ _ he _ hi _ _ r1 r2
    refine SeqAt.RcNeAt.tuples (items := us.toArray) (items2 := vs.toArray) (e := fun j => (bs[j]?).getD true) ?_ ?_ (by omega) (fun j j1 j2 => ?_) X.prog X.w X.xe _ ⟨.bl _, H, I, rfl, ?_⟩
    · obtain ⟨o, ho, hc, n, hd⟩ := p1
      exact ⟨o, ho, hc, n, hd⟩
    · obtain ⟨o, ho, hc, n, hd⟩ := p2
      exact ⟨o, ho, hc, n, hd⟩
    · simpa using k j (by simpa using j1) (by simpa using j2)
    · rw [List.size_toArray, List.size_toArray, l1, l2, Nat.min_self, all_range, beq_self_eq_true, Bool.and_true]
      exact q
end Bt
namespace Bt
open PySem PySem.Spec PyProof.Rows L2 LamX NdefX
theorem room66 {k : Nat} {A : Around} (r : Room k A) : A.units + 1 + 65 < cLine := by have := r.un; omega
def SelfV (K : PySem.W.Frag) (H : Hp) (x : V) : Prop := EqV K H 0 x x true
theorem SelfV.ref {K : PySem.W.Frag} {H : Hp} (a : Addr) : SelfV K H (.ref a) := .same a
theorem SelfV.str {K : PySem.W.Frag} {H : Hp} {z : Str} (h : PyData.strOk z = true) : SelfV K H (.str z) := by
  have sh : SeqAt.shaped (.str z) = true := by unfold SeqAt.shaped; simp [PyData.canLay0, PyData.depth, h]
  have := EqV.data (K := K) (H := H) (n := 0) (.str z) (.str z) sh sh
  rw [SeqAt.eqv_refl _ (SeqAt.canLay_of_shaped sh)] at this
  exact this
theorem SelfV.non {K : PySem.W.Frag} {H : Hp} : SelfV K H .non := by
  have sh : SeqAt.shaped .none = true := by decide
  have := EqV.data (K := K) (H := H) (n := 0) .non .non sh sh
  rw [SeqAt.eqv_refl _ (SeqAt.canLay_of_shaped sh)] at this
  exact this
theorem SelfV.bl {K : PySem.W.Frag} {H : Hp} {b : Bool} : SelfV K H (.bl b) := by
  have sh : SeqAt.shaped (.bool b) = true := by cases b <;> decide
  have := EqV.data (K := K) (H := H) (n := 0) (.bl b) (.bl b) sh sh
  rw [SeqAt.eqv_refl _ (SeqAt.canLay_of_shaped sh)] at this
  exact this
theorem SelfV.int {K : PySem.W.Frag} {H : Hp} {i : Int} : SelfV K H (.int i) := by
  have sh : SeqAt.shaped (.int i) = true := by unfold SeqAt.shaped; simp [PyData.canLay0, PyData.depth]
  have := EqV.data (K := K) (H := H) (n := 0) (.int i) (.int i) sh sh
  rw [SeqAt.eqv_refl _ (SeqAt.canLay_of_shaped sh)] at this
  exact this
mutual
theorem EqV.up {K : PySem.W.Frag} {H H' : Hp} (S : Same H H') : ∀ (n : Nat) (x y : V) (b : Bool), EqV K H n x y b → ∀ m, n ≤ m → EqV K H' m x y b
  | _, _, _, _, .same a, _, _ => .same a
  | _, _, _, _, .data h1 h2 h3 h4, _, _ => .data (Dp.mono S h1) (Dp.mono S h2) h3 h4
  | _, _, _, _, .lst ne h1 h2 h3, m, hm => by
    obtain ⟨m', rfl⟩ : ∃ m', m = m' + 1 := ⟨m - 1, by omega⟩
    exact .lst ne (SqL_monoN (ext_same S) h1) (SqL_monoN (ext_same S) h2) (EqVs.up S _ _ _ _ h3 m' (by omega))
theorem EqVs.up {K : PySem.W.Frag} {H H' : Hp} (S : Same H H') : ∀ (n : Nat) (xs ys : List V) (bs : List Bool), EqVs K H n xs ys bs → ∀ m, n ≤ m → EqVs K H' m xs ys bs
  | _, _, _, _, .nil, _, _ => .nil
  | _, _, _, _, .cons h hs, m, hm => .cons (EqV.up S _ _ _ _ h m hm) (EqVs.up S _ _ _ _ hs m hm)
end
theorem SelfV.mono {K : PySem.W.Frag} {H H' : Hp} {x : V} (S : Same H H') (h : SelfV K H x) : SelfV K H' x := EqV.up S _ _ _ _ h 0 (Nat.le_refl _)
theorem dp_any {K : PySem.W.Frag} {H H' : Hp} {x : V} {d : PyData} (n : ∀ a, x ≠ .ref a) (h : Dp K H x d) : Dp K H' x d := by
  cases h with
  | non => exact .non
  | bl b => exact .bl b
  | int i => exact .int i
  | str z => exact .str z
  | lst h _ => exact absurd rfl (n _)
  | tup h _ => exact absurd rfl (n _)
theorem SelfV.any {K : PySem.W.Frag} {H H' : Hp} {x : V} (h : SelfV K H x) : SelfV K H' x := by
  have key : ∀ (n : Nat) (y z : V) (b : Bool), EqV K H n y z b → n = 0 → y = x → z = x → b = true → SelfV K H' x := fun n y z b h e0 e1 e2 e3 => by
    by_cases r : ∃ a, x = .ref a
    · obtain ⟨a, rfl⟩ := r
      exact .same a
    · cases h with
      | same a => exact absurd ⟨a, e1.symm⟩ r
      | data hd he sd se =>
        subst e1
        have := EqV.data (K := K) (H := H') (n := 0) (dp_any (fun a e => r ⟨a, e⟩) hd) (dp_any (fun a e => r ⟨a, e2.symm ▸ e⟩) he) sd se
        rw [e3] at this
        subst e2
        exact this
      | lst _ _ _ _ => exact absurd e0 (by omega)
  exact key 0 x x true h rfl rfl rfl rfl
theorem selfs {K : PySem.W.Frag} {H : Hp} {n : Nat} : ∀ {xs : List V}, (∀ x ∈ xs, SelfV K H x) → EqVs K H n xs xs (xs.map fun _ => true)
  | [], _ => .nil
  | x :: xs, h => .cons (EqV.up (Same.refl H) _ _ _ _ (h x List.mem_cons_self) n (Nat.zero_le n)) (selfs fun y hy => h y (List.mem_cons_of_mem _ hy))
theorem all_trues (xs : List V) : (xs.map fun _ => true).all id = true := by
  rw [List.all_map, List.all_eq_true]
  exact fun _ _ => rfl
theorem cutV_take {xs : List V} (k : Nat) : cutV xs none (some (k : Int)) = xs.take k := by
  unfold cutV
  rw [HT.sIx_nat, HT.sIx_none, List.drop_zero, Nat.sub_zero]
  rcases Nat.lt_or_ge xs.length k with h | h
  · rw [Nat.min_eq_right (by omega), List.take_of_length_le (Nat.le_refl _), List.take_of_length_le (by omega)]
  · rw [Nat.min_eq_left h]
theorem cutV_drop {xs : List V} (k : Nat) : cutV xs (some (k : Int)) none = xs.drop k := by
  unfold cutV
  rw [HT.sIx_nat, HT.sIx_none]
  rcases Nat.lt_or_ge xs.length k with h | h
  · rw [Nat.min_eq_right (by omega), List.drop_eq_nil_of_le (Nat.le_refl _), List.drop_eq_nil_of_le (by omega), List.take_nil]
  · rw [Nat.min_eq_left h, List.take_of_length_le (by rw [List.length_drop]; omega)]

theorem s_er1 {C : Addr} {fld : Str} {te : TE} {σ : L2.St} {H : Hp} {Q : VK} (h : te σ H fun v H1 => ∀ a d H2, H1 a = none → Same H1 H2 → H2 a = some (exo a C (some d)) → H2 d = some (exd d [(fld, v)]) → Q (.ref a) H2) : tEr1 C fld te σ H Q := h
theorem s_er2 {C : Addr} {f1 f2 : Str} {t1 t2 : TE} {σ : L2.St} {H : Hp} {Q : VK} (h : t1 σ H fun v H0 => t2 σ H0 fun u H1 => ∀ a d H2, H1 a = none → Same H1 H2 → H2 a = some (exo a C (some d)) → H2 d = some (exd d [(f2, u), (f1, v)]) → Q (.ref a) H2) : tEr2 C f1 f2 t1 t2 σ H Q := h
theorem s_er2K {C : Addr} {f1 f2 : Str} {t1 t2 : TE} {σ : L2.St} {H : Hp} {Q : VK} (h : t2 σ H fun u H0 => t1 σ H0 fun v H1 => ∀ a d H2, H1 a = none → Same H1 H2 → H2 a = some (exo a C (some d)) → H2 d = some (exd d [(f2, u), (f1, v)]) → Q (.ref a) H2) : tEr2K C f1 f2 t1 t2 σ H Q := h
def rExf (K : PySem.W.Frag) (f : Str) (Q : VK) (y : V) (H : Hp) : Prop := ∃ (a C d : Addr) (fs : List (Str × V)) (v : V), y = .ref a ∧ H a = some (exo a C (some d)) ∧ H d = some (exd d fs) ∧ XfC K C ∧ PySem.W.findIn K (.ref C) f = some none ∧ fs.lookup f = some v ∧ Q v H
theorem s_exf {K : PySem.W.Frag} {f : Str} {te : TE} {σ : L2.St} {H : Hp} {Q : VK} (h : te σ H fun y H1 => rExf K f Q y H1) : tExf K f te σ H Q := h
theorem words60_ : True := by
  k_with "s_E1b" => first
    | ((with_reducible refine' s_var ?hv ?_); (case hv => exact rfl))
    | with_reducible first
      | refine' s_c ?_ | refine' s_op ?_ | refine' s_asg ?_ | refine' s_gname ?_ | refine' s_seq ?_ | refine' s_next ?_ | refine' s_ret ?_ | refine' s_ifS ?_ | refine' s_drop ?_ | refine' s_retN ?_ | refine' s_test ?_ | refine' s_B ?_ | refine' q_test ?_ | refine' s_int ?_ | refine' s_cons ?_ | refine' s_nil ?_ | refine' s_call ?_ | refine' s_CB ?_ | refine' s_andT ?_ | refine' s_orT ?_ | refine' s_notT ?_ | refine' s_andV ?_ | refine' s_orV ?_ | refine' s_notV ?_ | refine' s_ifV ?_ | refine' s_chain ?_ | refine' s_sl ?_ | refine' s_noPart ?_ | refine' s_part ?_ | refine' s_gsub ?_ | refine' s_BM ?_ | refine' s_tup ?_ | refine' s_lst ?_ | refine' q_add ?_ | refine' q_sub ?_ | refine' q_lt ?_ | refine' q_le ?_ | refine' q_gt ?_ | refine' q_ge ?_ | refine' s_ifT ?_ | refine' s_ifF ?_ | refine' s_yes ?_ | refine' s_iStr ?_ | refine' s_M0 ?_ | refine' s_for ?_ | refine' s_rng1 ?_ | refine' s_par ?_ | refine' s_gcons ?_ | refine' s_gnil ?_ | refine' s_iList ?_ | refine' s_iEnum ?_ | refine' s_er1 ?_ | refine' s_er2 ?_ | refine' s_er2K ?_ | refine' s_exf ?_
      | (refine' q_mod ?hm ?_; (case hm => first | omega | decide))
    | dsimp only
  k_with "r_E1b" => repeat (k_extra "s_E1b")
  trivial

/-! ### the seventeen classes, and a list of an error of each -/
structure All17 (K : PySem.W.Frag) (mg : Str → Option Value) (cs : Nat → Addr) (CB : Addr) : Prop where
  e0 : Er1 K mg "InvalidName" "value" (cs 0)
  e1 : Er1 K mg "InvalidPlace" "value" (cs 1)
  e2 : Er1 K mg "InvalidForm" "value" (cs 2)
  e3 : Er1 K mg "InvalidLook" "value" (cs 3)
  e4 : Er1 K mg "InvalidLog" "value" (cs 4)
  e5 : Er1 K mg "InvalidRules" "value" (cs 5)
  e6 : Er1 K mg "InvalidDemand" "value" (cs 6)
  e7 : Er1 K mg "InvalidStory" "value" (cs 7)
  e8 : Er1 K mg "InvalidChange" "value" (cs 8)
  e9 : Er1 K mg "InvalidNumber" "value" (cs 9)
  e10 : Er1 K mg "InvalidList" "value" (cs 10)
  e11 : Er1 K mg "InvalidText" "line" (cs 11)
  e12 : Er1 K mg "Missing" "place" (cs 12)
  e13 : Er1 K mg "Occupied" "place" (cs 13)
  e14 : Er2 K mg "Barred" "one" "other" (cs 14)
  e15 : Er2 K mg "Failed" "step" "why" (cs 15)
  g16 : mg "Closed" = some (.ref (cs 16))
  x16 : PySem.W.excIn K (cs 16) [.type "ValueError", .type "Exception", .type "BaseException", .type "object"] "ValueError.__new__" = true
  k16 : PySem.W.keepIn K (.ref (cs 16)) = true
  ec : ∀ i, i < 17 → ExcC K (cs i)
  kk : ∀ i j, i < 17 → j < 17 → PySem.W.kitOne K (.ref (cs i)) (.ref (cs j)) = some (decide (j = i))
  gB : mg "BetweenError" = some (.ref CB)
  kB : ∀ i, i < 17 → PySem.W.kitOne K (.ref (cs i)) (.ref CB) = some true
  kV : ∀ i, i < 17 → PySem.W.kitOne K (.ref (cs i)) (.type "ValueError") = some true
def flds (l r : V) (i : Nat) : List (Str × V) := if i < 11 then [("value", l)] else if i = 11 then [("line", l)] else if i < 14 then [("place", l)] else if i = 14 then [("other", r), ("one", l)] else [("why", r), ("step", l)]
def ErrAt (cs : Nat → Addr) (H : Hp) (l r : V) (i : Nat) (x : V) : Prop := ∃ a, x = .ref a ∧ ((i ≠ 16 ∧ ∃ d, H a = some (exo a (cs i) (some d)) ∧ H d = some (exd d (flds l r i))) ∨ (i = 16 ∧ H a = some (ExO (.ref (cs 16)) a)))
theorem ErrAt.mono {cs : Nat → Addr} {H H' : Hp} {l r : V} {i : Nat} {x : V} (S : Same H H') : ErrAt cs H l r i x → ErrAt cs H' l r i x := fun ⟨a, e, h⟩ => ⟨a, e, h.imp (fun ⟨n, d, h1, h2⟩ => ⟨n, d, S _ _ h1, S _ _ h2⟩) fun ⟨n, h1⟩ => ⟨n, S _ _ h1⟩⟩
theorem er_mk {cs : Nat → Addr} {H : Hp} {l r : V} {a d : Addr} {fs : List (Str × V)} (i : Nat) (n : i ≠ 16) (e : flds l r i = fs) (h1 : H a = some (exo a (cs i) (some d))) (h2 : H d = some (exd d fs)) : ErrAt cs H l r i (.ref a) := ⟨a, rfl, .inl ⟨n, d, h1, by rw [e]; exact h2⟩⟩
inductive Errs (cs : Nat → Addr) (H : Hp) (l r : V) : Nat → List V → Prop where
  | nil (i : Nat) : Errs cs H l r i []
  | cons {i : Nat} {x : V} {xs : List V} : ErrAt cs H l r i x → Errs cs H l r (i + 1) xs → Errs cs H l r i (x :: xs)
section
variable {cs : Nat → Addr} {H H' : Hp} {l r : V}
theorem Errs.mono (S : Same H H') {i : Nat} {xs : List V} (h : Errs cs H l r i xs) : Errs cs H' l r i xs := by
  induction h with
  | nil i => exact .nil i
  | cons h _ ih => exact .cons (h.mono S) ih
theorem Errs.app {i j : Nat} {xs ys : List V} (h : Errs cs H l r i xs) (h' : Errs cs H l r j ys) (e : j = i + xs.length) : Errs cs H l r i (xs ++ ys) := by
  induction h with
  | nil i => simpa [e] using h'
  | cons h _ ih => exact .cons h (ih (by rw [e, List.length_cons]; omega))
theorem Errs.get {i : Nat} {xs : List V} (h : Errs cs H l r i xs) : ∀ {k : Nat} {x : V}, xs[k]? = some x → ErrAt cs H l r (i + k) x := by
  induction h with
  | nil i => intro k x e; simp at e
  | cons h _ ih =>
    intro k x e
    cases k with
    | zero => simp at e; exact e ▸ h
    | succ k =>
      have := ih (k := k) (by simpa using e)
      rwa [show ∀ a b : Nat, a + 1 + b = a + (b + 1) from fun a b => by omega] at this
end
theorem q_isY {K : PySem.W.Frag} {mg : Str → Option Value} {cs : Nat → Addr} {CB : Addr} {H : Hp} {Q : VK} {l r : V} {i : Nat} {x c : V} {cv : Value} {b : Bool} (A : All17 K mg cs CB) (h : ErrAt cs H l r i x) (hi : i < 17) (hc : ClsV c cv) (hk : PySem.W.kitOne K (.ref (cs i)) cv = some b) (q : Q (.bl b) H) : rIsY K [x, c] H Q := by
  obtain ⟨a, rfl, ⟨n, d, h1, h2⟩ | ⟨rfl, h1⟩⟩ := h
  · exact .inl ⟨a, _, _, c, cv, b, rfl, h1, fun d' e => by cases e; exact ⟨_, h2⟩, A.ec i hi, hc, hk, q⟩
  · exact .inr ⟨a, _, c, cv, b, rfl, h1, A.ec 16 hi, hc, hk, q⟩
section
variable {P : Program} {w : World} {K : PySem.W.Frag} {mg : Str → Option Value} {base : Heap} {cs : Nat → Addr} {CB : Addr}
def spMk (cs : Nat → Addr) : Sp := fun vs H Q _ => ∃ l r, vs = [l, r] ∧ ∀ D H' xs, Same H H' → H' D = some (.lst xs) → Errs cs H' l r 0 xs → xs.length = 17 → Q (.ref D) H'
def spBare (cs : Nat → Addr) : Sp := fun vs H Q _ => vs = [] ∧ ∀ D H' xs, Same H H' → H' D = some (.lst xs) → Errs cs H' .non .non 0 xs → xs.length = 17 → Q (.ref D) H'
theorem ok__law_placed (A : All17 K mg cs CB) (D : Df K mg "_law_placed" s__law_placed ["_law_left", "_law_right_here"]) : Cal P w K mg base 4 "_law_placed" (spMk cs) := by
  refine D.cal sc__law_placed (fun vs H Q E h => ?_) (fun fn cdv AA outer s H vs Q E hr h => ?_)
  · obtain ⟨l, r, rfl, _⟩ := h
    rfl
  · obtain ⟨l, r, rfl, k⟩ := h
    refine ⟨_, (pss_cons (ps_set (i := 2) sc__law_placed.nd rfl (.inl rfl) (pe_lst (pa_cons (pe_er1 A.e0 hr (by decide) (pv 0)) (pa_cons (pe_er1 A.e1 hr (by decide) (pv 0)) (pa_cons (pe_er1 A.e2 hr (by decide) (pv 0)) (pa_cons (pe_er1 A.e3 hr (by decide) (pv 0)) (pa_cons (pe_er1 A.e4 hr (by decide) (pv 0)) pa_nil)))))))
      (pss_cons (ps_set (i := 2) sc__law_placed.nd rfl (.inl rfl) (pe_op op_addU (pv 2) (pe_lst (pa_cons (pe_er1 A.e5 hr (by decide) (pv 0)) (pa_cons (pe_er1 A.e6 hr (by decide) (pv 0)) (pa_cons (pe_er1 A.e7 hr (by decide) (pv 0)) (pa_cons (pe_er1 A.e8 hr (by decide) (pv 0)) pa_nil)))))))
      (pss_cons (ps_set (i := 2) sc__law_placed.nd rfl (.inl rfl) (pe_op op_addU (pv 2) (pe_lst (pa_cons (pe_er1 A.e9 hr (by decide) (pv 0)) (pa_cons (pe_er1 A.e10 hr (by decide) (pv 0)) (pa_cons (pe_er1 A.e11 hr (by decide) (pv 0)) (pa_cons (pe_er1 A.e12 hr (by decide) (pv 0)) (pa_cons (pe_er1 A.e13 hr (by decide) (pv 0)) pa_nil))))))))
      (pss_one (ps_ret (pe_op op_addU (pv 2) (pe_lst (pa_cons (pe_er2 A.e14 hr (by decide) (pv 0) (pv 1)) (pa_cons (pe_er2 A.e15 hr (by decide) (pv 0) (pv 1)) (pa_cons (pe_exc0 F.excBase_ValueError A.x16 A.g16 A.k16 rfl) pa_nil)))))))))), ?_⟩
    k_extra "r_E1b"
    intro a0 d0 H0 n0 S0 x0 y0
    have z0 : ErrAt cs H0 l r 0 (.ref a0) := er_mk 0 (by decide) rfl x0 y0
    have T0 := S0
    k_extra "r_E1b"
    intro a1 d1 H1 n1 S1 x1 y1
    have z1 : ErrAt cs H1 l r 1 (.ref a1) := er_mk 1 (by decide) rfl x1 y1
    replace z0 := z0.mono S1
    have T1 := T0.trans S1
    k_extra "r_E1b"
    intro a2 d2 H2 n2 S2 x2 y2
    have z2 : ErrAt cs H2 l r 2 (.ref a2) := er_mk 2 (by decide) rfl x2 y2
    replace z0 := z0.mono S2
    replace z1 := z1.mono S2
    have T2 := T1.trans S2
    k_extra "r_E1b"
    intro a3 d3 H3 n3 S3 x3 y3
    have z3 : ErrAt cs H3 l r 3 (.ref a3) := er_mk 3 (by decide) rfl x3 y3
    replace z0 := z0.mono S3
    replace z1 := z1.mono S3
    replace z2 := z2.mono S3
    have T3 := T2.trans S3
    k_extra "r_E1b"
    intro a4 d4 H4 n4 S4 x4 y4
    have z4 : ErrAt cs H4 l r 4 (.ref a4) := er_mk 4 (by decide) rfl x4 y4
    replace z0 := z0.mono S4
    replace z1 := z1.mono S4
    replace z2 := z2.mono S4
    replace z3 := z3.mono S4
    have T4 := T3.trans S4
    k_extra "r_E1b"
    refine q_newL (by show 5 ≤ sizeLine; decide) fun L0 G0 m0 R0 q0 => ?_
    have E0 : Errs cs G0 l r 0 _ := (Errs.mono R0 (.cons z0 (.cons z1 (.cons z2 (.cons z3 (.cons z4 (.nil _)))))) : Errs cs G0 l r 0 [.ref a0, .ref a1, .ref a2, .ref a3, .ref a4])
    replace T4 := T4.trans R0
    k_extra "r_E1b"
    intro a5 d5 H5 n5 S5 x5 y5
    have z5 : ErrAt cs H5 l r 5 (.ref a5) := er_mk 5 (by decide) rfl x5 y5
    replace E0 := E0.mono S5; replace q0 := S5 _ _ q0
    have T5 := T4.trans S5
    k_extra "r_E1b"
    intro a6 d6 H6 n6 S6 x6 y6
    have z6 : ErrAt cs H6 l r 6 (.ref a6) := er_mk 6 (by decide) rfl x6 y6
    replace z5 := z5.mono S6
    replace E0 := E0.mono S6; replace q0 := S6 _ _ q0
    have T6 := T5.trans S6
    k_extra "r_E1b"
    intro a7 d7 H7 n7 S7 x7 y7
    have z7 : ErrAt cs H7 l r 7 (.ref a7) := er_mk 7 (by decide) rfl x7 y7
    replace z5 := z5.mono S7
    replace z6 := z6.mono S7
    replace E0 := E0.mono S7; replace q0 := S7 _ _ q0
    have T7 := T6.trans S7
    k_extra "r_E1b"
    intro a8 d8 H8 n8 S8 x8 y8
    have z8 : ErrAt cs H8 l r 8 (.ref a8) := er_mk 8 (by decide) rfl x8 y8
    replace z5 := z5.mono S8
    replace z6 := z6.mono S8
    replace z7 := z7.mono S8
    replace E0 := E0.mono S8; replace q0 := S8 _ _ q0
    have T8 := T7.trans S8
    k_extra "r_E1b"
    refine q_newL (by show 4 ≤ sizeLine; decide) fun L1 G1 m1 R1 q1 => ?_
    have F1 : Errs cs G1 l r 5 [.ref a5, .ref a6, .ref a7, .ref a8] := Errs.mono R1 (.cons z5 (.cons z6 (.cons z7 (.cons z8 (.nil _)))))
    refine q_cat (R1 _ _ q0) q1 (by show 9 ≤ sizeLine; decide) fun LL1 GG1 mm1 RR1 qq1 => ?_
    replace T8 := T8.trans (R1.trans RR1)
    have E1 := Errs.mono RR1 ((E0.mono R1).app F1 rfl)
    replace q1 := qq1
    k_extra "r_E1b"
    intro a9 d9 H9 n9 S9 x9 y9
    have z9 : ErrAt cs H9 l r 9 (.ref a9) := er_mk 9 (by decide) rfl x9 y9
    replace E1 := E1.mono S9; replace q1 := S9 _ _ q1
    have T9 := T8.trans S9
    k_extra "r_E1b"
    intro a10 d10 H10 n10 S10 x10 y10
    have z10 : ErrAt cs H10 l r 10 (.ref a10) := er_mk 10 (by decide) rfl x10 y10
    replace z9 := z9.mono S10
    replace E1 := E1.mono S10; replace q1 := S10 _ _ q1
    have T10 := T9.trans S10
    k_extra "r_E1b"
    intro a11 d11 H11 n11 S11 x11 y11
    have z11 : ErrAt cs H11 l r 11 (.ref a11) := er_mk 11 (by decide) rfl x11 y11
    replace z9 := z9.mono S11
    replace z10 := z10.mono S11
    replace E1 := E1.mono S11; replace q1 := S11 _ _ q1
    have T11 := T10.trans S11
    k_extra "r_E1b"
    intro a12 d12 H12 n12 S12 x12 y12
    have z12 : ErrAt cs H12 l r 12 (.ref a12) := er_mk 12 (by decide) rfl x12 y12
    replace z9 := z9.mono S12
    replace z10 := z10.mono S12
    replace z11 := z11.mono S12
    replace E1 := E1.mono S12; replace q1 := S12 _ _ q1
    have T12 := T11.trans S12
    k_extra "r_E1b"
    intro a13 d13 H13 n13 S13 x13 y13
    have z13 : ErrAt cs H13 l r 13 (.ref a13) := er_mk 13 (by decide) rfl x13 y13
    replace z9 := z9.mono S13
    replace z10 := z10.mono S13
    replace z11 := z11.mono S13
    replace z12 := z12.mono S13
    replace E1 := E1.mono S13; replace q1 := S13 _ _ q1
    have T13 := T12.trans S13
    k_extra "r_E1b"
    refine q_newL (by show 5 ≤ sizeLine; decide) fun L2 G2 m2 R2 q2 => ?_
    have F2 : Errs cs G2 l r 9 [.ref a9, .ref a10, .ref a11, .ref a12, .ref a13] := Errs.mono R2 (.cons z9 (.cons z10 (.cons z11 (.cons z12 (.cons z13 (.nil _))))))
    refine q_cat (R2 _ _ q1) q2 (by show 14 ≤ sizeLine; decide) fun LL2 GG2 mm2 RR2 qq2 => ?_
    replace T13 := T13.trans (R2.trans RR2)
    have E2 := Errs.mono RR2 ((E1.mono R2).app F2 rfl)
    replace q2 := qq2
    k_extra "r_E1b"
    intro a14 d14 H14 n14 S14 x14 y14
    have z14 : ErrAt cs H14 l r 14 (.ref a14) := er_mk 14 (by decide) rfl x14 y14
    replace E2 := E2.mono S14; replace q2 := S14 _ _ q2
    have T14 := T13.trans S14
    k_extra "r_E1b"
    intro a15 d15 H15 n15 S15 x15 y15
    have z15 : ErrAt cs H15 l r 15 (.ref a15) := er_mk 15 (by decide) rfl x15 y15
    replace z14 := z14.mono S15
    replace E2 := E2.mono S15; replace q2 := S15 _ _ q2
    have T15 := T14.trans S15
    k_extra "r_E1b"
    intro a16 n16
    have S16 : Same H15 (upd H15 a16 (ExO (.ref (cs 16)) a16)) := Same.new n16
    have z16 : ErrAt cs (upd H15 a16 (ExO (.ref (cs 16)) a16)) l r 16 (.ref a16) := ⟨a16, rfl, .inr ⟨rfl, upd_same⟩⟩
    replace z14 := z14.mono S16
    replace z15 := z15.mono S16
    replace E2 := E2.mono S16; replace q2 := S16 _ _ q2
    have T16 := T15.trans S16
    k_extra "r_E1b"
    refine q_newL (by show 3 ≤ sizeLine; decide) fun L3 G3 m3 R3 q3 => ?_
    have F3 : Errs cs G3 l r 14 [.ref a14, .ref a15, .ref a16] := Errs.mono R3 (.cons z14 (.cons z15 (.cons z16 (.nil _))))
    refine q_cat (R3 _ _ q2) q3 (by show 17 ≤ sizeLine; decide) fun LL3 GG3 mm3 RR3 qq3 => ?_
    replace T16 := T16.trans (R3.trans RR3)
    have E3 := Errs.mono RR3 ((E2.mono R3).app F3 rfl)
    replace q3 := qq3
    exact k _ _ _ T16 q3 E3 rfl
theorem ok__law_named (A : All17 K mg cs CB) (D : Df K mg "_law_named" s__law_named ["_law_left", "_law_right_here"]) : Cal P w K mg base 4 "_law_named" (spMk cs) := by
  refine D.cal sc__law_named (fun vs H Q E h => ?_) (fun fn cdv AA outer s H vs Q E hr h => ?_)
  · obtain ⟨l, r, rfl, _⟩ := h
    rfl
  · obtain ⟨l, r, rfl, k⟩ := h
    refine ⟨_, (pss_cons (ps_set (i := 2) sc__law_named.nd rfl (.inl rfl) (pe_lst (pa_cons (pe_er1K A.e0 hr (by decide) (pv 0)) (pa_cons (pe_er1K A.e1 hr (by decide) (pv 0)) (pa_cons (pe_er1K A.e2 hr (by decide) (pv 0)) (pa_cons (pe_er1K A.e3 hr (by decide) (pv 0)) pa_nil))))))
      (pss_cons (ps_set (i := 2) sc__law_named.nd rfl (.inl rfl) (pe_op op_addU (pv 2) (pe_lst (pa_cons (pe_er1K A.e4 hr (by decide) (pv 0)) (pa_cons (pe_er1K A.e5 hr (by decide) (pv 0)) (pa_cons (pe_er1K A.e6 hr (by decide) (pv 0)) pa_nil))))))
      (pss_cons (ps_set (i := 2) sc__law_named.nd rfl (.inl rfl) (pe_op op_addU (pv 2) (pe_lst (pa_cons (pe_er1K A.e7 hr (by decide) (pv 0)) (pa_cons (pe_er1K A.e8 hr (by decide) (pv 0)) (pa_cons (pe_er1K A.e9 hr (by decide) (pv 0)) pa_nil))))))
      (pss_cons (ps_set (i := 2) sc__law_named.nd rfl (.inl rfl) (pe_op op_addU (pv 2) (pe_lst (pa_cons (pe_er1K A.e10 hr (by decide) (pv 0)) (pa_cons (pe_er1K A.e11 hr (by decide) (pv 0)) (pa_cons (pe_er1K A.e12 hr (by decide) (pv 0)) (pa_cons (pe_er1K A.e13 hr (by decide) (pv 0)) pa_nil)))))))
      (pss_one (ps_ret (pe_op op_addU (pv 2) (pe_lst (pa_cons (pe_er2K A.e14 hr (by decide) (pv 0) (pv 1)) (pa_cons (pe_er2K A.e15 hr (by decide) (pv 0) (pv 1)) (pa_cons (pe_exc0 F.excBase_ValueError A.x16 A.g16 A.k16 rfl) pa_nil))))))))))), ?_⟩
    k_extra "r_E1b"
    intro a0 d0 H0 n0 S0 x0 y0
    have z0 : ErrAt cs H0 l r 0 (.ref a0) := er_mk 0 (by decide) rfl x0 y0
    have T0 := S0
    k_extra "r_E1b"
    intro a1 d1 H1 n1 S1 x1 y1
    have z1 : ErrAt cs H1 l r 1 (.ref a1) := er_mk 1 (by decide) rfl x1 y1
    replace z0 := z0.mono S1
    have T1 := T0.trans S1
    k_extra "r_E1b"
    intro a2 d2 H2 n2 S2 x2 y2
    have z2 : ErrAt cs H2 l r 2 (.ref a2) := er_mk 2 (by decide) rfl x2 y2
    replace z0 := z0.mono S2
    replace z1 := z1.mono S2
    have T2 := T1.trans S2
    k_extra "r_E1b"
    intro a3 d3 H3 n3 S3 x3 y3
    have z3 : ErrAt cs H3 l r 3 (.ref a3) := er_mk 3 (by decide) rfl x3 y3
    replace z0 := z0.mono S3
    replace z1 := z1.mono S3
    replace z2 := z2.mono S3
    have T3 := T2.trans S3
    k_extra "r_E1b"
    refine q_newL (by show 4 ≤ sizeLine; decide) fun L0 G0 m0 R0 q0 => ?_
    have E0 : Errs cs G0 l r 0 _ := (Errs.mono R0 (.cons z0 (.cons z1 (.cons z2 (.cons z3 (.nil _))))) : Errs cs G0 l r 0 [.ref a0, .ref a1, .ref a2, .ref a3])
    replace T3 := T3.trans R0
    k_extra "r_E1b"
    intro a4 d4 H4 n4 S4 x4 y4
    have z4 : ErrAt cs H4 l r 4 (.ref a4) := er_mk 4 (by decide) rfl x4 y4
    replace E0 := E0.mono S4; replace q0 := S4 _ _ q0
    have T4 := T3.trans S4
    k_extra "r_E1b"
    intro a5 d5 H5 n5 S5 x5 y5
    have z5 : ErrAt cs H5 l r 5 (.ref a5) := er_mk 5 (by decide) rfl x5 y5
    replace z4 := z4.mono S5
    replace E0 := E0.mono S5; replace q0 := S5 _ _ q0
    have T5 := T4.trans S5
    k_extra "r_E1b"
    intro a6 d6 H6 n6 S6 x6 y6
    have z6 : ErrAt cs H6 l r 6 (.ref a6) := er_mk 6 (by decide) rfl x6 y6
    replace z4 := z4.mono S6
    replace z5 := z5.mono S6
    replace E0 := E0.mono S6; replace q0 := S6 _ _ q0
    have T6 := T5.trans S6
    k_extra "r_E1b"
    refine q_newL (by show 3 ≤ sizeLine; decide) fun L1 G1 m1 R1 q1 => ?_
    have F1 : Errs cs G1 l r 4 [.ref a4, .ref a5, .ref a6] := Errs.mono R1 (.cons z4 (.cons z5 (.cons z6 (.nil _))))
    refine q_cat (R1 _ _ q0) q1 (by show 7 ≤ sizeLine; decide) fun LL1 GG1 mm1 RR1 qq1 => ?_
    replace T6 := T6.trans (R1.trans RR1)
    have E1 := Errs.mono RR1 ((E0.mono R1).app F1 rfl)
    replace q1 := qq1
    k_extra "r_E1b"
    intro a7 d7 H7 n7 S7 x7 y7
    have z7 : ErrAt cs H7 l r 7 (.ref a7) := er_mk 7 (by decide) rfl x7 y7
    replace E1 := E1.mono S7; replace q1 := S7 _ _ q1
    have T7 := T6.trans S7
    k_extra "r_E1b"
    intro a8 d8 H8 n8 S8 x8 y8
    have z8 : ErrAt cs H8 l r 8 (.ref a8) := er_mk 8 (by decide) rfl x8 y8
    replace z7 := z7.mono S8
    replace E1 := E1.mono S8; replace q1 := S8 _ _ q1
    have T8 := T7.trans S8
    k_extra "r_E1b"
    intro a9 d9 H9 n9 S9 x9 y9
    have z9 : ErrAt cs H9 l r 9 (.ref a9) := er_mk 9 (by decide) rfl x9 y9
    replace z7 := z7.mono S9
    replace z8 := z8.mono S9
    replace E1 := E1.mono S9; replace q1 := S9 _ _ q1
    have T9 := T8.trans S9
    k_extra "r_E1b"
    refine q_newL (by show 3 ≤ sizeLine; decide) fun L2 G2 m2 R2 q2 => ?_
    have F2 : Errs cs G2 l r 7 [.ref a7, .ref a8, .ref a9] := Errs.mono R2 (.cons z7 (.cons z8 (.cons z9 (.nil _))))
    refine q_cat (R2 _ _ q1) q2 (by show 10 ≤ sizeLine; decide) fun LL2 GG2 mm2 RR2 qq2 => ?_
    replace T9 := T9.trans (R2.trans RR2)
    have E2 := Errs.mono RR2 ((E1.mono R2).app F2 rfl)
    replace q2 := qq2
    k_extra "r_E1b"
    intro a10 d10 H10 n10 S10 x10 y10
    have z10 : ErrAt cs H10 l r 10 (.ref a10) := er_mk 10 (by decide) rfl x10 y10
    replace E2 := E2.mono S10; replace q2 := S10 _ _ q2
    have T10 := T9.trans S10
    k_extra "r_E1b"
    intro a11 d11 H11 n11 S11 x11 y11
    have z11 : ErrAt cs H11 l r 11 (.ref a11) := er_mk 11 (by decide) rfl x11 y11
    replace z10 := z10.mono S11
    replace E2 := E2.mono S11; replace q2 := S11 _ _ q2
    have T11 := T10.trans S11
    k_extra "r_E1b"
    intro a12 d12 H12 n12 S12 x12 y12
    have z12 : ErrAt cs H12 l r 12 (.ref a12) := er_mk 12 (by decide) rfl x12 y12
    replace z10 := z10.mono S12
    replace z11 := z11.mono S12
    replace E2 := E2.mono S12; replace q2 := S12 _ _ q2
    have T12 := T11.trans S12
    k_extra "r_E1b"
    intro a13 d13 H13 n13 S13 x13 y13
    have z13 : ErrAt cs H13 l r 13 (.ref a13) := er_mk 13 (by decide) rfl x13 y13
    replace z10 := z10.mono S13
    replace z11 := z11.mono S13
    replace z12 := z12.mono S13
    replace E2 := E2.mono S13; replace q2 := S13 _ _ q2
    have T13 := T12.trans S13
    k_extra "r_E1b"
    refine q_newL (by show 4 ≤ sizeLine; decide) fun L3 G3 m3 R3 q3 => ?_
    have F3 : Errs cs G3 l r 10 [.ref a10, .ref a11, .ref a12, .ref a13] := Errs.mono R3 (.cons z10 (.cons z11 (.cons z12 (.cons z13 (.nil _)))))
    refine q_cat (R3 _ _ q2) q3 (by show 14 ≤ sizeLine; decide) fun LL3 GG3 mm3 RR3 qq3 => ?_
    replace T13 := T13.trans (R3.trans RR3)
    have E3 := Errs.mono RR3 ((E2.mono R3).app F3 rfl)
    replace q3 := qq3
    k_extra "r_E1b"
    intro a14 d14 H14 n14 S14 x14 y14
    have z14 : ErrAt cs H14 l r 14 (.ref a14) := er_mk 14 (by decide) rfl x14 y14
    replace E3 := E3.mono S14; replace q3 := S14 _ _ q3
    have T14 := T13.trans S14
    k_extra "r_E1b"
    intro a15 d15 H15 n15 S15 x15 y15
    have z15 : ErrAt cs H15 l r 15 (.ref a15) := er_mk 15 (by decide) rfl x15 y15
    replace z14 := z14.mono S15
    replace E3 := E3.mono S15; replace q3 := S15 _ _ q3
    have T15 := T14.trans S15
    k_extra "r_E1b"
    intro a16 n16
    have S16 : Same H15 (upd H15 a16 (ExO (.ref (cs 16)) a16)) := Same.new n16
    have z16 : ErrAt cs (upd H15 a16 (ExO (.ref (cs 16)) a16)) l r 16 (.ref a16) := ⟨a16, rfl, .inr ⟨rfl, upd_same⟩⟩
    replace z14 := z14.mono S16
    replace z15 := z15.mono S16
    replace E3 := E3.mono S16; replace q3 := S16 _ _ q3
    have T16 := T15.trans S16
    k_extra "r_E1b"
    refine q_newL (by show 3 ≤ sizeLine; decide) fun L4 G4 m4 R4 q4 => ?_
    have F4 : Errs cs G4 l r 14 [.ref a14, .ref a15, .ref a16] := Errs.mono R4 (.cons z14 (.cons z15 (.cons z16 (.nil _))))
    refine q_cat (R4 _ _ q3) q4 (by show 17 ≤ sizeLine; decide) fun LL4 GG4 mm4 RR4 qq4 => ?_
    replace T16 := T16.trans (R4.trans RR4)
    have E4 := Errs.mono RR4 ((E3.mono R4).app F4 rfl)
    replace q4 := qq4
    exact k _ _ _ T16 q4 E4 rfl
theorem ok__law_bare (A : All17 K mg cs CB) (D : Df K mg "_law_bare" s__law_bare []) : Cal P w K mg base 4 "_law_bare" (spBare cs) := by
  refine D.cal sc__law_bare (fun vs H Q E h => ?_) (fun fn cdv AA outer s H vs Q E hr h => ?_)
  · obtain ⟨rfl, _⟩ := h
    rfl
  · obtain ⟨rfl, k⟩ := h
    refine ⟨_, (pss_cons (ps_set (i := 0) sc__law_bare.nd rfl (.inl rfl) (pe_lst (pa_cons (pe_er1_0 A.e0 hr (by decide)) (pa_cons (pe_er1_0 A.e1 hr (by decide)) (pa_cons (pe_er1_0 A.e2 hr (by decide)) (pa_cons (pe_er1_0 A.e3 hr (by decide)) (pa_cons (pe_er1_0 A.e4 hr (by decide)) (pa_cons (pe_er1_0 A.e5 hr (by decide)) pa_nil))))))))
      (pss_cons (ps_set (i := 0) sc__law_bare.nd rfl (.inl rfl) (pe_op op_addU (pv 0) (pe_lst (pa_cons (pe_er1_0 A.e6 hr (by decide)) (pa_cons (pe_er1_0 A.e7 hr (by decide)) (pa_cons (pe_er1_0 A.e8 hr (by decide)) (pa_cons (pe_er1_0 A.e9 hr (by decide)) (pa_cons (pe_er1_0 A.e10 hr (by decide)) pa_nil))))))))
      (pss_one (ps_ret (pe_op op_addU (pv 0) (pe_lst (pa_cons (pe_er1_0 A.e11 hr (by decide)) (pa_cons (pe_er1_0 A.e12 hr (by decide)) (pa_cons (pe_er1_0 A.e13 hr (by decide)) (pa_cons (pe_er2_0 A.e14 hr (by decide)) (pa_cons (pe_er2_0 A.e15 hr (by decide)) (pa_cons (pe_exc0 F.excBase_ValueError A.x16 A.g16 A.k16 rfl) pa_nil)))))))))))), ?_⟩
    k_extra "r_E1b"
    intro a0 d0 H0 n0 S0 x0 y0
    have z0 : ErrAt cs H0 V.non V.non 0 (.ref a0) := er_mk 0 (by decide) rfl x0 y0
    have T0 := S0
    k_extra "r_E1b"
    intro a1 d1 H1 n1 S1 x1 y1
    have z1 : ErrAt cs H1 V.non V.non 1 (.ref a1) := er_mk 1 (by decide) rfl x1 y1
    replace z0 := z0.mono S1
    have T1 := T0.trans S1
    k_extra "r_E1b"
    intro a2 d2 H2 n2 S2 x2 y2
    have z2 : ErrAt cs H2 V.non V.non 2 (.ref a2) := er_mk 2 (by decide) rfl x2 y2
    replace z0 := z0.mono S2
    replace z1 := z1.mono S2
    have T2 := T1.trans S2
    k_extra "r_E1b"
    intro a3 d3 H3 n3 S3 x3 y3
    have z3 : ErrAt cs H3 V.non V.non 3 (.ref a3) := er_mk 3 (by decide) rfl x3 y3
    replace z0 := z0.mono S3
    replace z1 := z1.mono S3
    replace z2 := z2.mono S3
    have T3 := T2.trans S3
    k_extra "r_E1b"
    intro a4 d4 H4 n4 S4 x4 y4
    have z4 : ErrAt cs H4 V.non V.non 4 (.ref a4) := er_mk 4 (by decide) rfl x4 y4
    replace z0 := z0.mono S4
    replace z1 := z1.mono S4
    replace z2 := z2.mono S4
    replace z3 := z3.mono S4
    have T4 := T3.trans S4
    k_extra "r_E1b"
    intro a5 d5 H5 n5 S5 x5 y5
    have z5 : ErrAt cs H5 V.non V.non 5 (.ref a5) := er_mk 5 (by decide) rfl x5 y5
    replace z0 := z0.mono S5
    replace z1 := z1.mono S5
    replace z2 := z2.mono S5
    replace z3 := z3.mono S5
    replace z4 := z4.mono S5
    have T5 := T4.trans S5
    k_extra "r_E1b"
    refine q_newL (by show 6 ≤ sizeLine; decide) fun L0 G0 m0 R0 q0 => ?_
    have E0 : Errs cs G0 V.non V.non 0 _ := (Errs.mono R0 (.cons z0 (.cons z1 (.cons z2 (.cons z3 (.cons z4 (.cons z5 (.nil _))))))) : Errs cs G0 V.non V.non 0 [.ref a0, .ref a1, .ref a2, .ref a3, .ref a4, .ref a5])
    replace T5 := T5.trans R0
    k_extra "r_E1b"
    intro a6 d6 H6 n6 S6 x6 y6
    have z6 : ErrAt cs H6 V.non V.non 6 (.ref a6) := er_mk 6 (by decide) rfl x6 y6
    replace E0 := E0.mono S6; replace q0 := S6 _ _ q0
    have T6 := T5.trans S6
    k_extra "r_E1b"
    intro a7 d7 H7 n7 S7 x7 y7
    have z7 : ErrAt cs H7 V.non V.non 7 (.ref a7) := er_mk 7 (by decide) rfl x7 y7
    replace z6 := z6.mono S7
    replace E0 := E0.mono S7; replace q0 := S7 _ _ q0
    have T7 := T6.trans S7
    k_extra "r_E1b"
    intro a8 d8 H8 n8 S8 x8 y8
    have z8 : ErrAt cs H8 V.non V.non 8 (.ref a8) := er_mk 8 (by decide) rfl x8 y8
    replace z6 := z6.mono S8
    replace z7 := z7.mono S8
    replace E0 := E0.mono S8; replace q0 := S8 _ _ q0
    have T8 := T7.trans S8
    k_extra "r_E1b"
    intro a9 d9 H9 n9 S9 x9 y9
    have z9 : ErrAt cs H9 V.non V.non 9 (.ref a9) := er_mk 9 (by decide) rfl x9 y9
    replace z6 := z6.mono S9
    replace z7 := z7.mono S9
    replace z8 := z8.mono S9
    replace E0 := E0.mono S9; replace q0 := S9 _ _ q0
    have T9 := T8.trans S9
    k_extra "r_E1b"
    intro a10 d10 H10 n10 S10 x10 y10
    have z10 : ErrAt cs H10 V.non V.non 10 (.ref a10) := er_mk 10 (by decide) rfl x10 y10
    replace z6 := z6.mono S10
    replace z7 := z7.mono S10
    replace z8 := z8.mono S10
    replace z9 := z9.mono S10
    replace E0 := E0.mono S10; replace q0 := S10 _ _ q0
    have T10 := T9.trans S10
    k_extra "r_E1b"
    refine q_newL (by show 5 ≤ sizeLine; decide) fun L1 G1 m1 R1 q1 => ?_
    have F1 : Errs cs G1 V.non V.non 6 [.ref a6, .ref a7, .ref a8, .ref a9, .ref a10] := Errs.mono R1 (.cons z6 (.cons z7 (.cons z8 (.cons z9 (.cons z10 (.nil _))))))
    refine q_cat (R1 _ _ q0) q1 (by show 11 ≤ sizeLine; decide) fun LL1 GG1 mm1 RR1 qq1 => ?_
    replace T10 := T10.trans (R1.trans RR1)
    have E1 := Errs.mono RR1 ((E0.mono R1).app F1 rfl)
    replace q1 := qq1
    k_extra "r_E1b"
    intro a11 d11 H11 n11 S11 x11 y11
    have z11 : ErrAt cs H11 V.non V.non 11 (.ref a11) := er_mk 11 (by decide) rfl x11 y11
    replace E1 := E1.mono S11; replace q1 := S11 _ _ q1
    have T11 := T10.trans S11
    k_extra "r_E1b"
    intro a12 d12 H12 n12 S12 x12 y12
    have z12 : ErrAt cs H12 V.non V.non 12 (.ref a12) := er_mk 12 (by decide) rfl x12 y12
    replace z11 := z11.mono S12
    replace E1 := E1.mono S12; replace q1 := S12 _ _ q1
    have T12 := T11.trans S12
    k_extra "r_E1b"
    intro a13 d13 H13 n13 S13 x13 y13
    have z13 : ErrAt cs H13 V.non V.non 13 (.ref a13) := er_mk 13 (by decide) rfl x13 y13
    replace z11 := z11.mono S13
    replace z12 := z12.mono S13
    replace E1 := E1.mono S13; replace q1 := S13 _ _ q1
    have T13 := T12.trans S13
    k_extra "r_E1b"
    intro a14 d14 H14 n14 S14 x14 y14
    have z14 : ErrAt cs H14 V.non V.non 14 (.ref a14) := er_mk 14 (by decide) rfl x14 y14
    replace z11 := z11.mono S14
    replace z12 := z12.mono S14
    replace z13 := z13.mono S14
    replace E1 := E1.mono S14; replace q1 := S14 _ _ q1
    have T14 := T13.trans S14
    k_extra "r_E1b"
    intro a15 d15 H15 n15 S15 x15 y15
    have z15 : ErrAt cs H15 V.non V.non 15 (.ref a15) := er_mk 15 (by decide) rfl x15 y15
    replace z11 := z11.mono S15
    replace z12 := z12.mono S15
    replace z13 := z13.mono S15
    replace z14 := z14.mono S15
    replace E1 := E1.mono S15; replace q1 := S15 _ _ q1
    have T15 := T14.trans S15
    k_extra "r_E1b"
    intro a16 n16
    have S16 : Same H15 (upd H15 a16 (ExO (.ref (cs 16)) a16)) := Same.new n16
    have z16 : ErrAt cs (upd H15 a16 (ExO (.ref (cs 16)) a16)) V.non V.non 16 (.ref a16) := ⟨a16, rfl, .inr ⟨rfl, upd_same⟩⟩
    replace z11 := z11.mono S16
    replace z12 := z12.mono S16
    replace z13 := z13.mono S16
    replace z14 := z14.mono S16
    replace z15 := z15.mono S16
    replace E1 := E1.mono S16; replace q1 := S16 _ _ q1
    have T16 := T15.trans S16
    k_extra "r_E1b"
    refine q_newL (by show 6 ≤ sizeLine; decide) fun L2 G2 m2 R2 q2 => ?_
    have F2 : Errs cs G2 V.non V.non 11 [.ref a11, .ref a12, .ref a13, .ref a14, .ref a15, .ref a16] := Errs.mono R2 (.cons z11 (.cons z12 (.cons z13 (.cons z14 (.cons z15 (.cons z16 (.nil _)))))))
    refine q_cat (R2 _ _ q1) q2 (by show 17 ≤ sizeLine; decide) fun LL2 GG2 mm2 RR2 qq2 => ?_
    replace T16 := T16.trans (R2.trans RR2)
    have E2 := Errs.mono RR2 ((E1.mono R2).app F2 rfl)
    replace q2 := qq2
    exact k _ _ _ T16 q2 E2 rfl
end
end Bt
namespace Bt
open PySem PySem.Spec PyProof.Rows L2 LamX NdefX
theorem words61_ : True := by
  k_with "s_E1c" => first
    | ((with_reducible refine' s_var ?hv ?_); (case hv => exact rfl))
    | with_reducible first
      | refine' s_c ?_ | refine' s_op ?_ | refine' s_asg ?_ | refine' s_gname ?_ | refine' s_seq ?_ | refine' s_next ?_ | refine' s_ret ?_ | refine' s_ifS ?_ | refine' s_drop ?_ | refine' s_retN ?_ | refine' s_test ?_ | refine' s_B ?_ | refine' q_test ?_ | refine' s_int ?_ | refine' s_cons ?_ | refine' s_nil ?_ | refine' s_call ?_ | refine' s_CB ?_ | refine' s_andT ?_ | refine' s_orT ?_ | refine' s_notT ?_ | refine' s_andV ?_ | refine' s_orV ?_ | refine' s_notV ?_ | refine' s_ifV ?_ | refine' s_chain ?_ | refine' s_sl ?_ | refine' s_noPart ?_ | refine' s_part ?_ | refine' s_gsub ?_ | refine' s_BM ?_ | refine' s_tup ?_ | refine' s_lst ?_ | refine' q_add ?_ | refine' q_sub ?_ | refine' q_lt ?_ | refine' q_le ?_ | refine' q_gt ?_ | refine' q_ge ?_ | refine' s_ifT ?_ | refine' s_ifF ?_ | refine' s_yes ?_ | refine' s_iStr ?_ | refine' s_M0 ?_ | refine' s_for ?_ | refine' s_rng1 ?_ | refine' s_par ?_ | refine' s_gcons ?_ | refine' s_gnil ?_ | refine' s_iList ?_ | refine' s_iEnum ?_ | refine' s_er1 ?_ | refine' s_er2 ?_ | refine' s_er2K ?_ | refine' s_exf ?_
      | (refine' q_mod ?hm ?_; (case hm => first | omega | decide))
    | dsimp only
  k_with "r_E1c" => repeat (k_extra "s_E1c")
  trivial
structure Txt1 (K : PySem.W.Frag) (mg : Str → Option Value) : Prop where
  n_isinstance : mg "isinstance" = none
  n_range : mg "range" = none
  n_enumerate : mg "enumerate" = none
  n_ValueError : mg "ValueError" = none
  n_int : mg "int" = none
  n_sum : mg "sum" = none
  d_kinds : Df K mg "_law_kinds" s__law_kinds ["_law_error"]
  d_right : Df K mg "_law_right" s__law_right ["_law_errors"]
  d_values : Df K mg "_law_values" s__law_values ["_law_errors"]
  d_thing : Df K mg "_law_thing" s__law_thing ["_law_cell"]
  d_placed : Df K mg "_law_placed" s__law_placed ["_law_left", "_law_right_here"]
  d_named : Df K mg "_law_named" s__law_named ["_law_left", "_law_right_here"]
  d_bare : Df K mg "_law_bare" s__law_bare []
def kindsL (i : Nat) : List V := (List.range 17).map fun k => V.bl (decide (k = i))
theorem v1 {K : PySem.W.Frag} {mg : Str → Option Value} {cs : Nat → Addr} {CB : Addr} (A : All17 K mg cs CB) : ∀ i, i < 11 → XfC K (cs i) ∧ PySem.W.findIn K (.ref (cs i)) "value" = some none
  | 0, _ => ⟨A.e0.xf, A.e0.no⟩ | 1, _ => ⟨A.e1.xf, A.e1.no⟩ | 2, _ => ⟨A.e2.xf, A.e2.no⟩ | 3, _ => ⟨A.e3.xf, A.e3.no⟩ | 4, _ => ⟨A.e4.xf, A.e4.no⟩ | 5, _ => ⟨A.e5.xf, A.e5.no⟩
  | 6, _ => ⟨A.e6.xf, A.e6.no⟩ | 7, _ => ⟨A.e7.xf, A.e7.no⟩ | 8, _ => ⟨A.e8.xf, A.e8.no⟩ | 9, _ => ⟨A.e9.xf, A.e9.no⟩ | 10, _ => ⟨A.e10.xf, A.e10.no⟩
  | n + 11, h => absurd h (by omega)
theorem q_exf {K : PySem.W.Frag} {cs : Nat → Addr} {H : Hp} {Q : VK} {l r v : V} {i : Nat} {x : V} {f : Str} (h : ErrAt cs H l r i x) (n : i ≠ 16) (T : XfC K (cs i)) (no : PySem.W.findIn K (.ref (cs i)) f = some none) (e : (flds l r i).lookup f = some v) (q : Q v H) :
    rExf K f Q x H := by
  obtain ⟨a, rfl, ⟨_, d, h1, h2⟩ | ⟨n', _⟩⟩ := h
  · exact ⟨a, _, d, _, v, rfl, h1, h2, T, no, e, q⟩
  · exact absurd n' n
section
variable {P : Program} {w : World} {K : PySem.W.Frag} {mg : Str → Option Value} {base : Heap} {cs : Nat → Addr} {CB : Addr}
def spKinds (cs : Nat → Addr) : Sp := fun vs H Q _ => ∃ x l r i, vs = [x] ∧ i < 17 ∧ ErrAt cs H l r i x ∧ ∀ D H', Same H H' → H' D = some (.lst (kindsL i)) → Q (.ref D) H'
theorem ok__law_kinds (A : All17 K mg cs CB) (T1 : Txt1 K mg) : Cal P w K mg base 3 "_law_kinds" (spKinds cs) := by
  refine T1.d_kinds.cal sc__law_kinds (fun vs H Q E h => ?_) (fun fn cdv AA outer s H vs Q E hr h => ?_)
  · obtain ⟨x, l, r, i, rfl, _⟩ := h
    rfl
  · obtain ⟨x, l, r, i, rfl, hi, hx, k⟩ := h
    refine ⟨_, (pss_cons (ps_set (i := 1) sc__law_kinds.nd rfl (.inl rfl) (pe_lst (pa_cons (pe_callB call_isY (by rfl) T1.n_isinstance (by decide +kernel) (pa_cons (pv 0) (pa_cons (pe_glob (v := .ref (cs 0)) (by rfl) A.e0.g rfl) pa_nil))) (pa_cons (pe_callB call_isY (by rfl) T1.n_isinstance (by decide +kernel) (pa_cons (pv 0) (pa_cons (pe_glob (v := .ref (cs 1)) (by rfl) A.e1.g rfl) pa_nil))) (pa_cons (pe_callB call_isY (by rfl) T1.n_isinstance (by decide +kernel) (pa_cons (pv 0) (pa_cons (pe_glob (v := .ref (cs 2)) (by rfl) A.e2.g rfl) pa_nil))) pa_nil)))))
      (pss_cons (ps_set (i := 1) sc__law_kinds.nd rfl (.inl rfl) (pe_op op_addU (pv 1) (pe_lst (pa_cons (pe_callB call_isY (by rfl) T1.n_isinstance (by decide +kernel) (pa_cons (pv 0) (pa_cons (pe_glob (v := .ref (cs 3)) (by rfl) A.e3.g rfl) pa_nil))) (pa_cons (pe_callB call_isY (by rfl) T1.n_isinstance (by decide +kernel) (pa_cons (pv 0) (pa_cons (pe_glob (v := .ref (cs 4)) (by rfl) A.e4.g rfl) pa_nil))) (pa_cons (pe_callB call_isY (by rfl) T1.n_isinstance (by decide +kernel) (pa_cons (pv 0) (pa_cons (pe_glob (v := .ref (cs 5)) (by rfl) A.e5.g rfl) pa_nil))) pa_nil))))))
      (pss_cons (ps_set (i := 1) sc__law_kinds.nd rfl (.inl rfl) (pe_op op_addU (pv 1) (pe_lst (pa_cons (pe_callB call_isY (by rfl) T1.n_isinstance (by decide +kernel) (pa_cons (pv 0) (pa_cons (pe_glob (v := .ref (cs 6)) (by rfl) A.e6.g rfl) pa_nil))) (pa_cons (pe_callB call_isY (by rfl) T1.n_isinstance (by decide +kernel) (pa_cons (pv 0) (pa_cons (pe_glob (v := .ref (cs 7)) (by rfl) A.e7.g rfl) pa_nil))) pa_nil)))))
      (pss_cons (ps_set (i := 1) sc__law_kinds.nd rfl (.inl rfl) (pe_op op_addU (pv 1) (pe_lst (pa_cons (pe_callB call_isY (by rfl) T1.n_isinstance (by decide +kernel) (pa_cons (pv 0) (pa_cons (pe_glob (v := .ref (cs 8)) (by rfl) A.e8.g rfl) pa_nil))) (pa_cons (pe_callB call_isY (by rfl) T1.n_isinstance (by decide +kernel) (pa_cons (pv 0) (pa_cons (pe_glob (v := .ref (cs 9)) (by rfl) A.e9.g rfl) pa_nil))) pa_nil)))))
      (pss_cons (ps_set (i := 1) sc__law_kinds.nd rfl (.inl rfl) (pe_op op_addU (pv 1) (pe_lst (pa_cons (pe_callB call_isY (by rfl) T1.n_isinstance (by decide +kernel) (pa_cons (pv 0) (pa_cons (pe_glob (v := .ref (cs 10)) (by rfl) A.e10.g rfl) pa_nil))) (pa_cons (pe_callB call_isY (by rfl) T1.n_isinstance (by decide +kernel) (pa_cons (pv 0) (pa_cons (pe_glob (v := .ref (cs 11)) (by rfl) A.e11.g rfl) pa_nil))) (pa_cons (pe_callB call_isY (by rfl) T1.n_isinstance (by decide +kernel) (pa_cons (pv 0) (pa_cons (pe_glob (v := .ref (cs 12)) (by rfl) A.e12.g rfl) pa_nil))) pa_nil))))))
      (pss_cons (ps_set (i := 1) sc__law_kinds.nd rfl (.inl rfl) (pe_op op_addU (pv 1) (pe_lst (pa_cons (pe_callB call_isY (by rfl) T1.n_isinstance (by decide +kernel) (pa_cons (pv 0) (pa_cons (pe_glob (v := .ref (cs 13)) (by rfl) A.e13.g rfl) pa_nil))) (pa_cons (pe_callB call_isY (by rfl) T1.n_isinstance (by decide +kernel) (pa_cons (pv 0) (pa_cons (pe_glob (v := .ref (cs 14)) (by rfl) A.e14.g rfl) pa_nil))) (pa_cons (pe_callB call_isY (by rfl) T1.n_isinstance (by decide +kernel) (pa_cons (pv 0) (pa_cons (pe_glob (v := .ref (cs 15)) (by rfl) A.e15.g rfl) pa_nil))) pa_nil))))))
      (pss_one (ps_ret (pe_op op_addU (pv 1) (pe_lst (pa_cons (pe_callB call_isY (by rfl) T1.n_isinstance (by decide +kernel) (pa_cons (pv 0) (pa_cons (pe_glob (v := .ref (cs 16)) (by rfl) A.g16 rfl) pa_nil))) pa_nil))))))))))), ?_⟩
    k_extra "r_E1c"
    refine q_isY A hx hi (.own _) (A.kk i 0 hi (by decide)) ?_
    k_extra "r_E1c"
    refine q_isY A hx hi (.own _) (A.kk i 1 hi (by decide)) ?_
    k_extra "r_E1c"
    refine q_isY A hx hi (.own _) (A.kk i 2 hi (by decide)) ?_
    k_extra "r_E1c"
    refine q_newL (by show 3 ≤ sizeLine; decide) fun L0 G0 m0 R0 q0 => ?_
    have T0 := R0
    have hx0 := hx.mono R0
    k_extra "r_E1c"
    refine q_isY A hx0 hi (.own _) (A.kk i 3 hi (by decide)) ?_
    k_extra "r_E1c"
    refine q_isY A hx0 hi (.own _) (A.kk i 4 hi (by decide)) ?_
    k_extra "r_E1c"
    refine q_isY A hx0 hi (.own _) (A.kk i 5 hi (by decide)) ?_
    k_extra "r_E1c"
    refine q_newL (by show 3 ≤ sizeLine; decide) fun L1 G1 m1 R1 q1 => ?_
    refine q_cat (R1 _ _ q0) q1 (by show 6 ≤ sizeLine; decide) fun LL1 GG1 mm1 RR1 qq1 => ?_
    have T1 := T0.trans (R1.trans RR1)
    have hx1 := (hx0.mono R1).mono RR1
    replace q1 := qq1
    k_extra "r_E1c"
    refine q_isY A hx1 hi (.own _) (A.kk i 6 hi (by decide)) ?_
    k_extra "r_E1c"
    refine q_isY A hx1 hi (.own _) (A.kk i 7 hi (by decide)) ?_
    k_extra "r_E1c"
    refine q_newL (by show 2 ≤ sizeLine; decide) fun L2 G2 m2 R2 q2 => ?_
    refine q_cat (R2 _ _ q1) q2 (by show 8 ≤ sizeLine; decide) fun LL2 GG2 mm2 RR2 qq2 => ?_
    have T2 := T1.trans (R2.trans RR2)
    have hx2 := (hx1.mono R2).mono RR2
    replace q2 := qq2
    k_extra "r_E1c"
    refine q_isY A hx2 hi (.own _) (A.kk i 8 hi (by decide)) ?_
    k_extra "r_E1c"
    refine q_isY A hx2 hi (.own _) (A.kk i 9 hi (by decide)) ?_
    k_extra "r_E1c"
    refine q_newL (by show 2 ≤ sizeLine; decide) fun L3 G3 m3 R3 q3 => ?_
    refine q_cat (R3 _ _ q2) q3 (by show 10 ≤ sizeLine; decide) fun LL3 GG3 mm3 RR3 qq3 => ?_
    have T3 := T2.trans (R3.trans RR3)
    have hx3 := (hx2.mono R3).mono RR3
    replace q3 := qq3
    k_extra "r_E1c"
    refine q_isY A hx3 hi (.own _) (A.kk i 10 hi (by decide)) ?_
    k_extra "r_E1c"
    refine q_isY A hx3 hi (.own _) (A.kk i 11 hi (by decide)) ?_
    k_extra "r_E1c"
    refine q_isY A hx3 hi (.own _) (A.kk i 12 hi (by decide)) ?_
    k_extra "r_E1c"
    refine q_newL (by show 3 ≤ sizeLine; decide) fun L4 G4 m4 R4 q4 => ?_
    refine q_cat (R4 _ _ q3) q4 (by show 13 ≤ sizeLine; decide) fun LL4 GG4 mm4 RR4 qq4 => ?_
    have T4 := T3.trans (R4.trans RR4)
    have hx4 := (hx3.mono R4).mono RR4
    replace q4 := qq4
    k_extra "r_E1c"
    refine q_isY A hx4 hi (.own _) (A.kk i 13 hi (by decide)) ?_
    k_extra "r_E1c"
    refine q_isY A hx4 hi (.own _) (A.kk i 14 hi (by decide)) ?_
    k_extra "r_E1c"
    refine q_isY A hx4 hi (.own _) (A.kk i 15 hi (by decide)) ?_
    k_extra "r_E1c"
    refine q_newL (by show 3 ≤ sizeLine; decide) fun L5 G5 m5 R5 q5 => ?_
    refine q_cat (R5 _ _ q4) q5 (by show 16 ≤ sizeLine; decide) fun LL5 GG5 mm5 RR5 qq5 => ?_
    have T5 := T4.trans (R5.trans RR5)
    have hx5 := (hx4.mono R5).mono RR5
    replace q5 := qq5
    k_extra "r_E1c"
    refine q_isY A hx5 hi (.own _) (A.kk i 16 hi (by decide)) ?_
    k_extra "r_E1c"
    refine q_newL (by show 1 ≤ sizeLine; decide) fun L6 G6 m6 R6 q6 => ?_
    refine q_cat (R6 _ _ q5) q6 (by show 17 ≤ sizeLine; decide) fun LL6 GG6 mm6 RR6 qq6 => ?_
    have T6 := T5.trans (R6.trans RR6)
    have hx6 := (hx5.mono R6).mono RR6
    replace q6 := qq6
    exact k _ _ T6 q6
def spRight (cs : Nat → Addr) : Sp := fun vs H Q _ => ∃ L xs l r, vs = [.ref L] ∧ H L = some (.lst xs) ∧ Errs cs H l r 0 xs ∧ xs.length = 17 ∧ ∀ H', Same H H' → Q (.bl true) H'
theorem ok__law_right (A : All17 K mg cs CB) (T1 : Txt1 K mg) : Cal P w K mg base 5 "_law_right" (spRight cs) := by
  refine T1.d_right.cal sc__law_right (fun vs H Q E h => ?_) (fun fn cdv AA outer s H vs Q E hr h => ?_)
  · obtain ⟨L, xs, l, r, rfl, _⟩ := h
    rfl
  · obtain ⟨L, xs, l, r, rfl, hL, es, hz, k⟩ := h
    refine ⟨_, (pss_cons (ps_for PassesOwn.never rfl (pi_enum rfl T1.n_enumerate (pa_cons (pv 0) pa_nil)) (pg_tup (by rfl) (pgs_cons (pg_name (i := 1) sc__law_right.nd rfl (.inr rfl)) (pgs_cons (pg_name (i := 2) sc__law_right.nd rfl (.inl rfl)) pgs_nil)))
        (pss_cons (ps_if (pt_cmpR (op_neI (n := 1) (room66 hr)) (pe_c (ok__law_kinds A T1) hr (by decide) rfl (pa_cons (pv 2) pa_nil)) (pe_lc (own := [("_law_k", 3)]) (g := gName 3) (tt := tYes) (te := tOp rEq (tVar 3) (tVar 1)) rfl sc__law_right.nd (pi_range1 rfl T1.n_range (pa_cons pe_int pa_nil)) (blkOk_by (own := [("_law_k", 3)]) (N := ["_law_errors", "_law_at", "_law_error", "_law_k"]) (sc := defScope s__law_right) (by decide +kernel)) (fun _ _ _ _ _ => pg_name (i := 3) sc__law_right.nd rfl (Or.inl rfl)) (fun _ _ _ _ _ => pts_nil) (fun _ _ _ _ _ => (pe_cmpR op_eq (pv 3) (pv 1) (by rfl)))) (by rfl)) (pss_one (ps_ret pe_bl)) pss_nil)
          (pss_one (ps_if (PW.pt (pw_or (pt_not (pt_val (pe_callB call_isY (by rfl) T1.n_isinstance (by decide +kernel) (pa_cons (pv 2) (pa_cons (pe_glob (v := .ref CB) (by rfl) A.gB rfl) pa_nil))))) (pw_or1 (pt_not (pt_val (pe_callB call_isY (by rfl) T1.n_isinstance (by decide +kernel) (pa_cons (pv 2) (pa_cons (pe_bltn (v := .ty "ValueError") (by rfl) T1.n_ValueError (by decide +kernel) rfl) pa_nil)))))))) (pss_one (ps_ret pe_bl)) pss_nil))))
      (pss_one (ps_ret pe_bl))), ?_⟩
    k_extra "r_E1c"
    refine ⟨L, xs, rfl, SqL.of hL, q_forE (K := K) (a := L) (xs := xs) (fun j σ H' => ∃ v1 v2, σ = [some (.ref L), v1, v2, none] ∧ Same H H') ⟨_, _, rfl, Same.refl _⟩ (fun j σ H' _ ⟨_, _, _, S⟩ => SqL.of (S _ _ hL)) ?_ ?_⟩
    · rintro j x σ H1 Tp hj ⟨v1, v2, rfl, S1⟩ nT
      have S2 : Same H1 (upd H1 Tp (.tup [.int (j : Nat), x])) := Same.new nT
      have hx := ((es.get hj).mono S1).mono S2
      rw [Nat.zero_add] at hx
      have hj17 : j < 17 := hz ▸ (List.getElem?_eq_some_iff.mp hj).1
      refine q_gtup (SqT.of upd_same) rfl ?_
      k_extra "r_E1c"
      refine ⟨x, l, r, j, rfl, hj17, hx, fun D H3 S3 hD => ?_⟩
      k_extra "r_E1c"
      refine s_lc ?_
      k_extra "r_E1c"
      refine ⟨17, rfl, by decide, by decide, fun D4 n4 => lc_range (lo := 0) (n := 17) (fun i H' => Same H3 H' ∧ H' D4 = some (.lst ((List.range i).map fun k => V.bl (decide (k = j))))) ⟨Same.new n4, upd_same⟩ ?_ ?_⟩
      · rintro m H' hm ⟨S', hD4⟩
        k_extra "r_E1c"
        refine ⟨rfl, ?_⟩
        k_extra "r_E1c"
        refine ⟨rfl, ?_⟩
        refine ⟨_, hD4, by rw [List.length_map, List.length_range]; exact szlt (by omega), same_mut S' n4, ?_⟩
        have e : decide (V.int (0 + (m : Int)) = V.int ((j : Nat) : Int)) = decide (m = j) := decide_eq_decide.mpr ⟨fun h => by injection h with h; omega, fun h => by rw [h, Int.zero_add]⟩
        rw [upd_same, List.range_succ, List.map_append, e]
        rfl
      · rintro H4 ⟨S4, h4⟩
        have S14 := S3.trans S4
        have hx4 := hx.mono S14
        refine ⟨D, D4, _, _, _, rfl, rfl, .inl ⟨SqL.of (S4 _ _ hD), SqL.of h4⟩, selfs (fun y hy => by
          obtain ⟨z, _, rfl⟩ := List.mem_map.mp hy
          exact .bl), ?_⟩
        rw [all_trues]
        refine q_test (s_if0 rfl ?_)
        k_extra "r_E1c"
        refine q_isY A hx4 hj17 (.own _) (A.kB j hj17) ?_
        k_extra "r_E1c"
        refine s_if0 rfl ?_
        k_extra "r_E1c"
        refine q_isY A hx4 hj17 (.ty "ValueError") (A.kV j hj17) ?_
        k_extra "r_E1c"
        refine s_if0 rfl ?_
        k_extra "r_E1c"
        exact ⟨_, _, rfl, S1.trans (S2.trans S14)⟩
    · rintro σ H1 ⟨v1, v2, rfl, S1⟩
      k_extra "r_E1c"
      exact k H1 S1
def spVals (K : PySem.W.Frag) (cs : Nat → Addr) : Sp := fun vs H Q _ => ∃ L xs l r, vs = [.ref L] ∧ SqL K H L xs ∧ Errs cs H l r 0 xs ∧ xs.length = 17 ∧ ∀ D H', Same H H' → H' D = some (.lst (List.replicate 14 l ++ [l, r, l, r])) → Q (.ref D) H'
theorem ok__law_values (A : All17 K mg cs CB) (T1 : Txt1 K mg) : Cal P w K mg base 2 "_law_values" (spVals K cs) := by
  refine T1.d_values.cal sc__law_values (fun vs H Q E h => ?_) (fun fn cdv AA outer s H vs Q E hr h => ?_)
  · obtain ⟨L, xs, l, r, rfl, _⟩ := h
    rfl
  · obtain ⟨L, xs, l, r, rfl, hL, Z, hz, k⟩ := h
    refine ⟨_, (pss_cons (ps_setLc (i := 1) (own := [("_law_error", 2)]) (g := gName 2) (tt := tYes) (te := tExf K "value" (tVar 2)) rfl sc__law_values.nd rfl rfl (sw_true rfl rfl rfl (by decide +kernel)) (pi_list (pe_slice sl_list (pv 0) po_none (po_some pe_int))) (blkOk_by (own := [("_law_error", 2)]) (N := ["_law_errors", "_law_values_here", "_law_error"]) (sc := defScope s__law_values) (by decide +kernel)) (fun _ _ _ _ _ => pg_name (i := 2) sc__law_values.nd rfl (Or.inl rfl)) (fun _ _ _ _ _ => pts_nil) (fun _ _ _ _ _ => by exact pe_exf (pv 2)))
      (pss_cons (ps_set (i := 1) sc__law_values.nd rfl (.inl rfl) (pe_op op_addU (pv 1) (pe_lst (pa_cons (pe_exf (pe_ix ix_seq (pv 0) pe_int (fun _ _ => rfl))) (pa_cons (pe_exf (pe_ix ix_seq (pv 0) pe_int (fun _ _ => rfl))) (pa_cons (pe_exf (pe_ix ix_seq (pv 0) pe_int (fun _ _ => rfl))) (pa_cons (pe_exf (pe_ix ix_seq (pv 0) pe_int (fun _ _ => rfl))) (pa_cons (pe_exf (pe_ix ix_seq (pv 0) pe_int (fun _ _ => rfl))) pa_nil))))))))
      (pss_one (ps_ret (pe_op op_addU (pv 1) (pe_lst (pa_cons (pe_exf (pe_ix ix_seq (pv 0) pe_int (fun _ _ => rfl))) (pa_cons (pe_exf (pe_ix ix_seq (pv 0) pe_int (fun _ _ => rfl))) pa_nil)))))))), ?_⟩
    have xa : ∀ i, i < 17 → ∃ x, xs[i]? = some x := fun i h => ⟨xs[i]'(by omega), List.getElem?_eq_getElem _⟩
    obtain ⟨y11, x11⟩ := xa 11 (by decide)
    obtain ⟨y12, x12⟩ := xa 12 (by decide)
    obtain ⟨y13, x13⟩ := xa 13 (by decide)
    obtain ⟨y14, x14⟩ := xa 14 (by decide)
    obtain ⟨y15, x15⟩ := xa 15 (by decide)
    k_extra "r_E1c"
    refine s_lc ?_
    k_extra "r_E1c"
    refine q_slL hL fun L1 H1 n1 S1 h1 => ?_
    rw [show cutV xs none (some 11) = xs.take 11 from cutV_take 11] at h1
    refine ⟨L1, rfl, ⟨_, SqL.of h1⟩, fun D nD => lc_list (K := K) (a := L1) (xs := xs.take 11) (fun i H' => Same H1 H' ∧ H' D = some (.lst (List.replicate i l))) ⟨Same.new nD, upd_same⟩ (fun i H' _ h => SqL.of (h.1 _ _ h1)) ?_ ?_⟩
    · rintro j x H' hj ⟨S', hD⟩
      have j11 : j < 11 := by
        have := (List.getElem?_eq_some_iff.mp hj).1
        rw [List.length_take] at this
        omega
      rw [List.getElem?_take, if_pos j11] at hj
      have hx := (Z.get hj).mono (S1.trans S')
      rw [Nat.zero_add] at hx
      k_extra "r_E1c"
      refine ⟨rfl, ?_⟩
      k_extra "r_E1c"
      refine q_exf hx (by omega) (v1 A j j11).1 (v1 A j j11).2 (by unfold flds; rw [if_pos j11]; rfl) ?_
      refine ⟨_, hD, by rw [List.length_replicate]; exact szlt (by omega), same_mut S' nD, ?_⟩
      rw [upd_same, List.replicate_succ']
    · rintro H2 ⟨S2, h2⟩
      rw [List.length_take, hz] at h2
      have T := S1.trans S2
      k_extra "r_E1c"
      refine q_ixL (SqL_monoN (ext_same T) hL) (at_of (j := 11) rfl x11) ?_
      k_extra "r_E1c"
      refine q_exf ((Z.get x11).mono T) (by decide) A.e11.xf A.e11.no rfl ?_
      k_extra "r_E1c"
      refine q_ixL (SqL_monoN (ext_same T) hL) (at_of (j := 12) rfl x12) ?_
      k_extra "r_E1c"
      refine q_exf ((Z.get x12).mono T) (by decide) A.e12.xf A.e12.no rfl ?_
      k_extra "r_E1c"
      refine q_ixL (SqL_monoN (ext_same T) hL) (at_of (j := 13) rfl x13) ?_
      k_extra "r_E1c"
      refine q_exf ((Z.get x13).mono T) (by decide) A.e13.xf A.e13.no rfl ?_
      k_extra "r_E1c"
      refine q_ixL (SqL_monoN (ext_same T) hL) (at_of (j := 14) rfl x14) ?_
      k_extra "r_E1c"
      refine q_exf ((Z.get x14).mono T) (by decide) A.e14.xf A.e14.no1 rfl ?_
      k_extra "r_E1c"
      refine q_ixL (SqL_monoN (ext_same T) hL) (at_of (j := 14) rfl x14) ?_
      k_extra "r_E1c"
      refine q_exf ((Z.get x14).mono T) (by decide) A.e14.xf A.e14.no2 rfl ?_
      k_extra "r_E1c"
      refine q_newL (by show 5 ≤ sizeLine; decide) fun L3 H3 n3 S3 h3 => ?_
      refine q_cat (S3 _ _ h2) h3 (by show 16 ≤ sizeLine; decide) fun L4 H4 n4 S4 h4 => ?_
      replace T := T.trans (S3.trans S4)
      k_extra "r_E1c"
      refine q_ixL (SqL_monoN (ext_same T) hL) (at_of (j := 15) rfl x15) ?_
      k_extra "r_E1c"
      refine q_exf ((Z.get x15).mono T) (by decide) A.e15.xf A.e15.no1 rfl ?_
      k_extra "r_E1c"
      refine q_ixL (SqL_monoN (ext_same T) hL) (at_of (j := 15) rfl x15) ?_
      k_extra "r_E1c"
      refine q_exf ((Z.get x15).mono T) (by decide) A.e15.xf A.e15.no2 rfl ?_
      k_extra "r_E1c"
      refine q_newL (by show 2 ≤ sizeLine; decide) fun L5 H5 n5 S5 h5 => ?_
      refine q_cat (S5 _ _ h4) h5 (by show 18 ≤ sizeLine; decide) fun L6 H6 n6 S6 h6 => ?_
      exact k L6 H6 (T.trans (S5.trans S6)) h6
def spThing (K : PySem.W.Frag) : Sp := fun vs H Q _ => ∃ c : Int, vs = [.int c] ∧ ∀ v H', Same H H' → SelfV K H' v → Q v H'
theorem ok__law_thing (T1 : Txt1 K mg) : Cal P w K mg base 2 "_law_thing" (spThing K) := by
  refine T1.d_thing.cal sc__law_thing (fun vs H Q E h => ?_) (fun fn cdv AA outer s H vs Q E hr h => ?_)
  · obtain ⟨c, rfl, _⟩ := h
    rfl
  · obtain ⟨c, rfl, k⟩ := h
    refine ⟨_, (pss_cons (ps_set (i := 1) sc__law_thing.nd rfl (.inl rfl) (pe_op op_subU (pe_op op_modU (pe_callTy call_int1 (by rfl) T1.n_int (by decide +kernel) (pa_cons (pv 0) pa_nil)) (pe_op op_powW pe_int pe_int)) (pe_op op_powW pe_int pe_int)))
      (pss_one (ps_ret (pe_ix ix_seq (pe_lst (pa_cons (pv 1) (pa_cons pe_non (pa_cons pe_str (pa_cons (pe_lst (pa_cons (pv 1) pa_nil)) (pa_cons (pe_tup (pa_cons (pv 1) (pa_cons pe_str pa_nil))) (pa_cons pe_bl (pa_cons pe_int pa_nil)))))))) (pe_op op_modU (pe_callTy call_int1 (by rfl) T1.n_int (by decide +kernel) (pa_cons (pv 0) pa_nil)) pe_int) (fun _ _ => rfl))))), ?_⟩
    k_extra "r_E1c"
    refine .inl ⟨_, rfl, ?_⟩
    k_extra "r_E1c"
    refine ⟨_, _, rfl, rfl, ⟨by decide, by decide +kernel⟩, ?_⟩
    refine q_mod (by decide +kernel) ?_
    k_extra "r_E1c"
    refine ⟨_, _, rfl, rfl, ⟨by decide, by decide +kernel⟩, ?_⟩
    refine q_sub ?_
    k_extra "r_E1c"
    obtain ⟨z, ez⟩ : ∃ z : Int, z = c % 10 ^ Int.toNat 30 - 10 ^ Int.toNat 29 := ⟨_, rfl⟩
    rw [← ez]
    k_extra "r_E1c"
    refine q_newL (by show 1 ≤ sizeLine; decide) fun p1 H1 n1 S1 h1 => ?_
    k_extra "r_E1c"
    refine q_newT (by show 2 ≤ sizeLine; decide) fun p2 H2 n2 S2 h2 => ?_
    k_extra "r_E1c"
    refine q_newL (by show 7 ≤ sizeLine; decide) fun L H3 n3 S3 h3 => ?_
    k_extra "r_E1c"
    refine .inl ⟨_, rfl, ?_⟩
    k_extra "r_E1c"
    have T := S1.trans (S2.trans S3)
    have hc : c % 7 = 0 ∨ c % 7 = 1 ∨ c % 7 = 2 ∨ c % 7 = 3 ∨ c % 7 = 4 ∨ c % 7 = 5 ∨ c % 7 = 6 := by omega
    rcases hc with e | e | e | e | e | e | e <;> rw [e]
    · exact q_ixL (SqL.of h3) (at_of (j := 0) rfl rfl) (k _ H3 T .int)
    · exact q_ixL (SqL.of h3) (at_of (j := 1) rfl rfl) (k _ H3 T .non)
    · exact q_ixL (SqL.of h3) (at_of (j := 2) rfl rfl) (k _ H3 T (.str (by decide +kernel)))
    · exact q_ixL (SqL.of h3) (at_of (j := 3) rfl rfl) (k _ H3 T (.ref p1))
    · exact q_ixL (SqL.of h3) (at_of (j := 4) rfl rfl) (k _ H3 T (.ref p2))
    · exact q_ixL (SqL.of h3) (at_of (j := 5) rfl rfl) (k _ H3 T .bl)
    · exact q_ixL (SqL.of h3) (at_of (j := 6) rfl rfl) (k _ H3 T .int)
end
end Bt
namespace Bt
open PySem PySem.Spec PyProof.Rows L2 LamX NdefX
theorem words62_ : True := by
  k_with "s_LL1" => first
    | ((with_reducible refine' s_var ?hv ?_); (case hv => exact rfl))
    | with_reducible first
      | refine' s_c ?_ | refine' s_op ?_ | refine' s_asg ?_ | refine' s_gname ?_ | refine' s_seq ?_ | refine' s_next ?_ | refine' s_ret ?_ | refine' s_ifS ?_ | refine' s_drop ?_ | refine' s_retN ?_ | refine' s_test ?_ | refine' s_B ?_ | refine' q_test ?_ | refine' s_int ?_ | refine' s_cons ?_ | refine' s_nil ?_ | refine' s_call ?_ | refine' s_CB ?_ | refine' s_andT ?_ | refine' s_orT ?_ | refine' s_notT ?_ | refine' s_andV ?_ | refine' s_orV ?_ | refine' s_notV ?_ | refine' s_ifV ?_ | refine' s_chain ?_ | refine' s_sl ?_ | refine' s_noPart ?_ | refine' s_part ?_ | refine' s_gsub ?_ | refine' s_BM ?_ | refine' s_tup ?_ | refine' s_lst ?_ | refine' q_add ?_ | refine' q_sub ?_ | refine' q_lt ?_ | refine' q_le ?_ | refine' q_gt ?_ | refine' q_ge ?_ | refine' s_ifT ?_ | refine' s_ifF ?_ | refine' s_yes ?_ | refine' s_iStr ?_ | refine' s_M0 ?_ | refine' s_for ?_ | refine' s_rng1 ?_ | refine' s_par ?_ | refine' s_gcons ?_ | refine' s_gnil ?_ | refine' s_iList ?_ | refine' s_iEnum ?_ | refine' s_er1 ?_ | refine' s_er2 ?_ | refine' s_er2K ?_ | refine' s_exf ?_
      | (refine' q_mod ?hm ?_; (case hm => first | omega | decide))
    | dsimp only
  k_with "r_LL1" => repeat (k_extra "s_LL1")
  trivial

theorem cutV_ints {ns : List Int} {lo hi : Option Int} : ∃ ms : List Int, cutV (ns.map V.int) lo hi = ms.map V.int := ⟨_, by unfold cutV; rw [← List.map_drop, ← List.map_take]⟩
theorem q_rep {l : Addr} {k : Int} {xs : List V} {H : Hp} {Q : VK} (h : H l = some (.lst xs)) (h1 : 0 ≤ k) (h2 : k < 1000) (hz : xs.length * k.toNat ≤ 1000) (q : ∀ p H', H p = none → Same H H' → H' p = some (.lst (List.replicate k.toNat xs).flatten) → Q (.ref p) H') : rMulU (.ref l) (.int k) H Q :=
  .inr (.inr ⟨l, k, xs, rfl, rfl, h, by omega, by omega, sz (by omega), fun p n => q p _ n (Same.new n) upd_same⟩)

theorem q_cut8 {tu tz : TS} {D : Ends} {σ : L2.St} {H : Hp} {M : L2.St → Hp → Prop} (h : tu { D with nx := M } σ H) (k : ∀ σ' H', M σ' H' → tz D σ' H') : C8.tCut tu tz D σ H := ⟨M, h, k⟩
def Er17 (cs : Nat → Addr) (H : Hp) (l r : V) (e : Addr) : Prop := ∃ xs, H e = some (.lst xs) ∧ Errs cs H l r 0 xs ∧ xs.length = 17
theorem Er17.mono {cs : Nat → Addr} {H H' : Hp} {l r : V} {e : Addr} (S : Same H H') : Er17 cs H l r e → Er17 cs H' l r e := fun ⟨xs, h, z, n⟩ => ⟨xs, S _ _ h, z.mono S, n⟩
theorem due_self {K : PySem.W.Frag} {H : Hp} {l r y : V} (sl : SelfV K H l) (sr : SelfV K H r) (h : y ∈ List.replicate 14 l ++ [l, r, l, r]) : SelfV K H y := by
  rcases List.mem_append.mp h with h | h
  · exact (List.mem_replicate.mp h).2 ▸ sl
  · simp only [List.mem_cons, List.not_mem_nil, or_false] at h
    rcases h with rfl | rfl | rfl | rfl <;> assumption
theorem ErrAt.but {cs : Nat → Addr} {H H' : Hp} {l r : V} {i : Nat} {x : V} {p : Addr} {ys : List V} (b : But p H H') (hp : H p = some (.lst ys)) : ErrAt cs H l r i x → ErrAt cs H' l r i x := fun ⟨a, e, h⟩ => by
  have ne : ∀ {a : Addr} {o : HO}, H a = some o → (∀ ys, o ≠ .lst ys) → a ≠ p := fun h n e => n ys (by rw [e, hp] at h; exact (Option.some.inj h).symm)
  exact ⟨a, e, h.imp (fun ⟨n, d, h1, h2⟩ => ⟨n, d, b _ _ (ne h1 fun _ => by simp [exo]) h1, b _ _ (ne h2 fun _ => by simp [exd]) h2⟩) fun ⟨n, h1⟩ => ⟨n, b _ _ (ne h1 fun _ => by simp [ExO]) h1⟩⟩
theorem Errs.but {cs : Nat → Addr} {H H' : Hp} {l r : V} {i : Nat} {xs : List V} {p : Addr} {ys : List V} (h : Errs cs H l r i xs) (b : But p H H') (hp : H p = some (.lst ys)) : Errs cs H' l r i xs := by
  induction h with
  | nil i => exact .nil i
  | cons h _ ih => exact .cons (h.but b hp) ih
theorem pe_c0 {X : Cx} {k j : Nat} {x : Str} {sp : Sp} {p pos : Pos} (c : Cal X.prog X.w X.K X.mg X.base k x sp) (hr : Room j X.A) (hk : k ≤ j) (hg : Gl X x)
    (hdb : (x == ("__debug__" : Str)) = false := by decide) : PE X (.Call (.Name x p) [] [] pos) (tCall sp [] E0 tNil) := by
  obtain ⟨f, fd, ps, F, hm, kp, b⟩ := c.ex
  exact pe_call0 F (hr.mono hk) hg hm kp b .nil pass0 hdb

section
variable {P : Program} {w : World} {K : PySem.W.Frag} {mg : Str → Option Value} {base : Heap} {cs : Nat → Addr} {CB : Addr}
def spLaw (K : PySem.W.Frag) : Sp := fun vs H Q _ => ∃ (a : Addr) (ns : List Int), vs = [.ref a] ∧ SqL K H a (ns.map V.int) ∧ ns.length ≤ 63 ∧ ∀ H', Q (.bl true) H'
theorem ok_law {f : Addr} {fd : FuncData} (A : All17 K mg cs CB) (T1 : Txt1 K mg) (F : Fun K "law" "law" s_law f fd) : FnOk P w K mg base CX0 6 f fd ["_law_script"] (spLaw K) := by
  refine F.ok sc_law (fun vs H Q E h => ?_) (fun cdv AA outer s H vs Q E hr h => ?_)
  · obtain ⟨a, ns, rfl, _⟩ := h
    rfl
  · obtain ⟨a, ns, rfl, hs, h63, k⟩ := h
    refine ⟨_, (pss_cons (ps_par (i := 1) (j := 2) (by rfl) sc_law.nd rfl rfl (by decide) rfl rfl (pa_cons (pe_c (ok__law_thing T1) hr (by decide) rfl (pa_cons (pe_callB (cr_sumL rfl) (by rfl) T1.n_sum (by decide +kernel) (pa_cons (pe_slice sl_list (pv 0) po_none (po_some pe_int)) pa_nil)) pa_nil)) (pa_cons (pe_c (ok__law_thing T1) hr (by decide) rfl (pa_cons (pe_op op_addU (pe_callB (cr_sumL rfl) (by rfl) T1.n_sum (by decide +kernel) (pa_cons (pe_slice sl_list (pv 0) (po_some pe_int) (po_some pe_int)) pa_nil)) pe_int) pa_nil)) pa_nil)) (by rfl))
      (C8.pss_cut (ps_set (i := 3) sc_law.nd rfl (.inl rfl) (pe_op op_addU (pe_op op_mulU (pe_lst (pa_cons (pv 1) pa_nil)) pe_int) (pe_lst (pa_cons (pv 1) (pa_cons (pv 2) (pa_cons (pv 1) (pa_cons (pv 2) pa_nil)))))))
      (pss_cons (ps_set (i := 4) sc_law.nd rfl (.inl rfl) (pe_lst (pa_cons (pe_c (ok__law_placed A T1.d_placed) hr (by decide) rfl (pa_cons (pv 1) (pa_cons (pv 2) pa_nil))) (pa_cons (pe_c (ok__law_named A T1.d_named) hr (by decide) rfl (pa_cons (pv 1) (pa_cons (pv 2) pa_nil))) pa_nil))))
      (C8.pss_cut (ps_set (i := 5) sc_law.nd rfl (.inl rfl) (pe_op op_addU (pe_c (ok__law_placed A T1.d_placed) hr (by decide) rfl (pa_cons (pv 2) (pa_cons (pv 1) pa_nil))) (pe_c0 (ok__law_bare A T1.d_bare) hr (by decide) rfl)))
      (C8.pss_cut (ps_for PassesOwn.never rfl (pi_list (pv 4)) (pg_name (i := 6) sc_law.nd rfl (.inl rfl)) (pss_one (ps_if (PW.pt (pw_or (pt_not (pt_val (pe_c (ok__law_right A T1) hr (by decide) rfl (pa_cons (pv 6) pa_nil)))) (pw_or1 (pt_cmpR (op_neI (n := 1) (room66 hr)) (pe_c (ok__law_values A T1) hr (by decide) rfl (pa_cons (pv 6) pa_nil)) (pv 3) (by rfl))))) (pss_one (ps_ret pe_bl)) pss_nil)))
      (pss_cons (ps_if (pt_cmpR (op_neI (n := 1) (room66 hr)) (pe_c (ok__law_values A T1) hr (by decide) rfl (pa_cons (pe_slice sl_list (pv 5) po_none (po_some pe_int)) pa_nil)) (pe_op op_addU (pe_op op_mulU (pe_lst (pa_cons (pv 2) pa_nil)) pe_int) (pe_lst (pa_cons (pv 2) (pa_cons (pv 1) (pa_cons (pv 2) (pa_cons (pv 1) pa_nil)))))) (by rfl)) (pss_one (ps_ret pe_bl)) pss_nil)
      (pss_cons (ps_if (pt_cmpR (op_neI (n := 1) (room66 hr)) (pe_c (ok__law_values A T1) hr (by decide) rfl (pa_cons (pe_slice sl_list (pv 5) (po_some pe_int) po_none) pa_nil)) (pe_op op_mulU (pe_lst (pa_cons pe_non pa_nil)) pe_int) (by rfl)) (pss_one (ps_ret pe_bl)) pss_nil)
      (C8.pss_cut (ps_set (i := 7) sc_law.nd rfl (.inl rfl) (pe_c0 (ok__law_bare A T1.d_bare) hr (by decide) rfl))
      (pss_cons (ps_if (PW.pt (pw_or (pt_not (pt_val (pe_c (ok__law_right A T1) hr (by decide) rfl (pa_cons (pv 7) pa_nil)))) (pw_or1 (pt_cmpR (op_neI (n := 1) (room66 hr)) (pe_c (ok__law_values A T1) hr (by decide) rfl (pa_cons (pv 7) pa_nil)) (pe_op op_mulU (pe_lst (pa_cons pe_non pa_nil)) pe_int) (by rfl))))) (pss_one (ps_ret pe_bl)) pss_nil)
      (C8.pss_cut (ps_set (i := 8) sc_law.nd rfl (.inl rfl) (pe_lst (pa_cons (pe_er2_1 A.e14 hr (by decide) (pv 1)) (pa_cons (pe_er2_1 A.e15 hr (by decide) (pv 1)) (pa_cons (pe_er2L A.e14 hr (by decide) (pv 2)) (pa_cons (pe_er2L A.e15 hr (by decide) (pv 2)) pa_nil))))))
      (C8.pss_cut (ps_set (i := 9) sc_law.nd rfl (.inl rfl) (pe_lst (pa_cons (pe_exf (pe_ix ix_seq (pv 8) pe_int (fun _ _ => rfl))) (pa_cons (pe_exf (pe_ix ix_seq (pv 8) pe_int (fun _ _ => rfl))) (pa_cons (pe_exf (pe_ix ix_seq (pv 8) pe_int (fun _ _ => rfl))) (pa_cons (pe_exf (pe_ix ix_seq (pv 8) pe_int (fun _ _ => rfl))) pa_nil))))))
      (pss_cons (ps_if (pt_cmpR (op_neI (n := 1) (room66 hr)) (pv 9) (pe_lst (pa_cons (pv 1) (pa_cons pe_non (pa_cons (pv 1) (pa_cons pe_non pa_nil))))) (by rfl)) (pss_one (ps_ret pe_bl)) pss_nil)
      (pss_cons (ps_if (pt_cmpR (op_neI (n := 1) (room66 hr)) (pe_lst (pa_cons (pe_exf (pe_ix ix_seq (pv 8) pe_int (fun _ _ => rfl))) (pa_cons (pe_exf (pe_ix ix_seq (pv 8) pe_int (fun _ _ => rfl))) (pa_cons (pe_exf (pe_ix ix_seq (pv 8) pe_int (fun _ _ => rfl))) (pa_cons (pe_exf (pe_ix ix_seq (pv 8) pe_int (fun _ _ => rfl))) pa_nil))))) (pe_lst (pa_cons pe_non (pa_cons (pv 2) (pa_cons pe_non (pa_cons (pv 2) pa_nil))))) (by rfl)) (pss_one (ps_ret pe_bl)) pss_nil)
      (pss_cons (ps_set (i := 10) sc_law.nd rfl (.inl rfl) (pe_lst (pa_cons (pv 1) pa_nil)))
      (C8.pss_cut (ps_set (i := 6) sc_law.nd rfl (.inl rfl) (pe_c (ok__law_placed A T1.d_placed) hr (by decide) rfl (pa_cons (pv 10) (pa_cons (pv 10) pa_nil))))
      (pss_cons (ps_expr (pe_bm PySem.F.plainAttrs_list PySem.F.slot_list_append PySem.F.type_list_append mt_append (pv 10) (pa_cons (pv 2) pa_nil)))
      (pss_one (ps_ret (pe_cmpR (op_eqI (n := 1) (room66 hr)) (pe_c (ok__law_values A T1) hr (by decide) rfl (pa_cons (pv 6) pa_nil)) (pe_op op_mulU (pe_lst (pa_cons (pv 10) pa_nil)) pe_int) (by rfl)))))))))))))))))))), ?_⟩
    k_extra "r_LL1"
    obtain ⟨ms1, em1⟩ := cutV_ints (ns := ns) (lo := none) (hi := some 1)
    refine q_slL hs fun L1 H1 n1 S1 h1 => ?_
    rw [em1] at h1
    k_extra "r_LL1"
    refine q_sumL (SqL.of h1) ?_
    k_extra "r_LL1"
    refine ⟨_, rfl, fun l H2 S2 sl => ?_⟩
    k_extra "r_LL1"
    obtain ⟨ms2, em2⟩ := cutV_ints (ns := ns) (lo := some 1) (hi := some 2)
    refine q_slL (SqL_monoN (ext_same (S1.trans S2)) hs) fun L3 H3 n3 S3 h3 => ?_
    rw [em2] at h3
    k_extra "r_LL1"
    refine q_sumL (SqL.of h3) ?_
    k_extra "r_LL1"
    refine ⟨_, rfl, fun r H4 S4 sr => ?_⟩
    replace sl := sl.mono (S3.trans S4)
    k_extra "r_LL1"
    refine ⟨l, r, rfl, ?_⟩
    have e00 : ([some (V.ref a), some l, some r, none, none, none, none, none, none, none, none] : L2.St) = [some (V.ref a), some l, some r, none, none, none, none, none, none, none, none] := rfl
    refine q_cut8 (M := fun σ' H' => ∃ D, σ' = [some (V.ref a), some l, some r, some (.ref D), none, none, none, none, none, none, none] ∧ SelfV K H' l ∧ SelfV K H' r ∧ H' D = some (.lst (List.replicate 14 l ++ [l, r, l, r]))) ?_ ?_
    · k_extra "r_LL1"
      refine q_newL (by show 1 ≤ sizeLine; decide) fun p5 H5 n5 S5 h5 => ?_
      k_extra "r_LL1"
      refine q_rep h5 (by decide) (by decide) (by show 1 * 14 ≤ 1000; decide) fun p6 H6 n6 S6 h6 => ?_
      k_extra "r_LL1"
      refine q_newL (by show 4 ≤ sizeLine; decide) fun p7 H7 n7 S7 h7 => ?_
      refine q_cat (S7 _ _ h6) h7 (by show 18 ≤ sizeLine; decide) fun p8 H8 n8 S8 h8 => ?_
      have T := S5.trans (S6.trans (S7.trans S8))
      k_extra "r_LL1"
      exact ⟨p8, rfl, sl.mono T, sr.mono T, h8⟩
    clear hs h1 h3 sl sr S1 S2 S3 S4 n1 n3 em1 em2 e00
    rintro σ' HA ⟨D, rfl, sl, sr, hD⟩
    k_extra "r_LL1"
    refine ⟨l, r, rfl, fun e1 H1 xs1 S1 h1 z1 l1 => ?_⟩
    have w1 : Er17 cs H1 l r e1 := ⟨xs1, h1, z1, l1⟩
    k_extra "r_LL1"
    refine ⟨l, r, rfl, fun e2 H2 xs2 S2 h2 z2 l2 => ?_⟩
    have w2 : Er17 cs H2 l r e2 := ⟨xs2, h2, z2, l2⟩
    replace w1 := w1.mono S2
    k_extra "r_LL1"
    refine q_newL (by show 2 ≤ sizeLine; decide) fun Sm HB n3 S3 hS => ?_
    have T := S1.trans (S2.trans S3)
    replace w1 := w1.mono S3
    replace w2 := w2.mono S3
    replace hD := T _ _ hD
    replace sl := sl.mono T
    replace sr := sr.mono T
    clear h1 h2 z1 z2 l1 l2 S1 S2 S3 n3 T
    k_extra "r_LL1"
    refine q_cut8 (M := fun σ' H' => ∃ O xs ys, σ' = [some (V.ref a), some l, some r, some (.ref D), some (.ref Sm), some (.ref O), none, none, none, none, none] ∧ Same HB H' ∧ H' O = some (.lst (xs ++ ys)) ∧ Errs cs H' r l 0 xs ∧ xs.length = 17 ∧ Errs cs H' .non .non 0 ys ∧ ys.length = 17) ?_ ?_
    · k_extra "r_LL1"
      refine ⟨r, l, rfl, fun e1 H1 xs1 S1 h1 z1 l1 => ?_⟩
      k_extra "r_LL1"
      refine ⟨rfl, fun e2 H2 xs2 S2 h2 z2 l2 => ?_⟩
      refine q_cat (S2 _ _ h1) h2 (by rw [l1, l2]; decide) fun O H3 n3 S3 h3 => ?_
      k_extra "r_LL1"
      exact ⟨O, xs1, xs2, rfl, S1.trans (S2.trans S3), h3, (z1.mono S2).mono S3, l1, z2.mono S3, l2⟩
    rintro σ' HC ⟨O, xs, ys, rfl, S1, hO, zx, lx, zy, ly⟩
    replace w1 := w1.mono S1
    replace w2 := w2.mono S1
    replace hD := S1 _ _ hD
    replace hS := S1 _ _ hS
    replace sl := sl.mono S1
    replace sr := sr.mono S1
    clear S1
    refine q_cut8 (M := fun σ' H' => ∃ v6, σ' = [some (V.ref a), some l, some r, some (.ref D), some (.ref Sm), some (.ref O), v6, none, none, none, none] ∧ Same HC H') ?_ ?_
    · k_extra "r_LL1"
      refine ⟨Sm, rfl, ⟨_, SqL.of hS⟩, q_forL (K := K) (a := Sm) (xs := [.ref e1, .ref e2]) (fun _ σ H' => ∃ v6, σ = [some (V.ref a), some l, some r, some (.ref D), some (.ref Sm), some (.ref O), v6, none, none, none, none] ∧ Same HC H') ⟨_, rfl, Same.refl _⟩ (fun i σ H' _ ⟨_, _, S⟩ => SqL.of (S _ _ hS)) ?_ ?_⟩
      · rintro i x σ H1 hx ⟨v6, rfl, S1⟩
        obtain ⟨e, rfl, xs1, h1, z1, l1⟩ : ∃ e, x = .ref e ∧ Er17 cs HC l r e := by
          match i, hx with
          | 0, hx => exact ⟨e1, (Option.some.inj hx).symm, w1⟩
          | 1, hx => exact ⟨e2, (Option.some.inj hx).symm, w2⟩
        k_extra "r_LL1"
        refine ⟨e, xs1, l, r, rfl, S1 _ _ h1, z1.mono S1, l1, fun H2 S2 => ?_⟩
        refine q_test (s_if0 rfl ?_)
        k_extra "r_LL1"
        have T := S1.trans S2
        refine ⟨e, xs1, l, r, rfl, SqL.of (T _ _ h1), z1.mono T, l1, fun D2 H3 S3 h3 => ?_⟩
        k_extra "r_LL1"
        have T2 := T.trans S3
        refine ⟨D2, D, _, _, _, rfl, rfl, .inl ⟨SqL.of h3, SqL.of (T2 _ _ hD)⟩, selfs (fun y hy => ?_), ?_⟩
        · exact due_self (sl.mono T2) (sr.mono T2) hy
        · rw [all_trues]
          refine q_test (s_if0 rfl ?_)
          k_extra "r_LL1"
          exact ⟨_, rfl, T2⟩
      · rintro σ H1 ⟨v6, rfl, S1⟩
        k_extra "r_LL1"
        exact ⟨_, rfl, S1⟩
    rintro σ' HD ⟨v6, rfl, S1⟩
    replace sl := sl.mono S1
    replace sr := sr.mono S1
    replace hO := S1 _ _ hO
    replace zx := zx.mono S1
    replace zy := zy.mono S1
    clear S1 hS hD w1 w2
    k_extra "r_LL1"
    refine q_slL (SqL.of hO) fun O1 H1 n1 S1 h1 => ?_
    rw [show cutV (xs ++ ys) none (some 17) = xs from by
      have := cutV_take (xs := xs ++ ys) 17
      rw [List.take_append_of_le_length (by omega), List.take_of_length_le (by omega)] at this
      exact this] at h1
    k_extra "r_LL1"
    refine ⟨O1, xs, r, l, rfl, SqL.of h1, zx.mono S1, lx, fun D2 H2 S2 h2 => ?_⟩
    k_extra "r_LL1"
    have T := S1.trans S2
    refine q_newL (by show 1 ≤ sizeLine; decide) fun p5 H5 n5 S5 h5 => ?_
    k_extra "r_LL1"
    refine q_rep h5 (by decide) (by decide) (by show 1 * 14 ≤ 1000; decide) fun p6 H6 n6 S6 h6 => ?_
    k_extra "r_LL1"
    refine q_newL (by show 4 ≤ sizeLine; decide) fun p7 H7 n7 S7 h7 => ?_
    refine q_cat (S7 _ _ h6) h7 (by show 18 ≤ sizeLine; decide) fun p8 H8 n8 S8 h8 => ?_
    have T1' := S5.trans (S6.trans (S7.trans S8))
    replace T := T.trans T1'
    k_extra "r_LL1"
    refine ⟨D2, p8, _, _, _, rfl, rfl, .inl ⟨SqL.of (T1' _ _ h2), SqL.of h8⟩, selfs (fun y hy => due_self (sr.mono T) (sl.mono T) hy), ?_⟩
    rw [all_trues]
    refine q_test (s_if0 rfl ?_)
    k_extra "r_LL1"
    clear h1 h2 h5 h6 h7 h8 S1 S2 S5 S6 S7 S8 T1' n1 n5 n6 n7 n8
    refine q_slL (SqL.of (T _ _ hO)) fun O2 HE n9 S9 h9 => ?_
    rw [show cutV (xs ++ ys) (some 17) none = ys from by
      have := cutV_drop (xs := xs ++ ys) 17
      rw [List.drop_append_of_le_length (by omega), List.drop_of_length_le (by omega), List.nil_append] at this
      exact this] at h9
    replace T := T.trans S9
    k_extra "r_LL1"
    refine ⟨O2, ys, .non, .non, rfl, SqL.of h9, zy.mono T, ly, fun D3 H10 S10 h10 => ?_⟩
    k_extra "r_LL1"
    refine q_newL (by show 1 ≤ sizeLine; decide) fun p11 H11 n11 S11 h11 => ?_
    k_extra "r_LL1"
    refine q_rep h11 (by decide) (by decide) (by show 1 * 18 ≤ 1000; decide) fun p12 HF n12 S12 h12 => ?_
    have T2 := S11.trans S12
    refine ⟨D3, p12, _, _, _, rfl, rfl, .inl ⟨SqL.of (T2 _ _ h10), SqL.of h12⟩, selfs (fun y hy => due_self .non .non hy), ?_⟩
    rw [all_trues]
    refine q_test (s_if0 rfl ?_)
    replace T := T.trans (S10.trans T2)
    replace sl := sl.mono T
    replace sr := sr.mono T
    clear h9 h10 h11 h12 S9 S10 S11 S12 T T2 hO zx zy lx ly n9 n11 n12
    k_extra "r_LL1"
    refine q_cut8 (M := fun σ' H' => ∃ B, σ' = [some (V.ref a), some l, some r, some (.ref D), some (.ref Sm), some (.ref O), v6, some (.ref B), none, none, none] ∧ Same HF H' ∧ Er17 cs H' .non .non B) ?_ ?_
    · k_extra "r_LL1"
      refine ⟨rfl, fun e1 H1 xs1 S1 h1 z1 l1 => ?_⟩
      k_extra "r_LL1"
      exact ⟨e1, rfl, S1, xs1, h1, z1, l1⟩
    rintro σ' G0 ⟨B, rfl, S0, bs, hB, zB, lB⟩
    k_extra "r_LL1"
    refine ⟨B, bs, .non, .non, rfl, hB, zB, lB, fun G1 S1 => ?_⟩
    refine q_test (s_if0 rfl ?_)
    k_extra "r_LL1"
    refine ⟨B, bs, .non, .non, rfl, SqL.of (S1 _ _ hB), zB.mono S1, lB, fun D5 G2 S2 d5 => ?_⟩
    k_extra "r_LL1"
    refine q_newL (by show 1 ≤ sizeLine; decide) fun p11 G3 n3 S3 h3 => ?_
    k_extra "r_LL1"
    refine q_rep h3 (by decide) (by decide) (by show 1 * 18 ≤ 1000; decide) fun p12 G4 n4 S4 h4 => ?_
    have T2 := S3.trans S4
    refine ⟨D5, p12, _, _, _, rfl, rfl, .inl ⟨SqL.of (T2 _ _ d5), SqL.of h4⟩, selfs (fun y hy => due_self .non .non hy), ?_⟩
    rw [all_trues]
    refine q_test (s_if0 rfl ?_)
    replace S0 := S0.trans (S1.trans (S2.trans T2))
    replace sl := sl.mono S0
    replace sr := sr.mono S0
    clear S0 S1 S2 S3 S4 T2 hB zB lB n3 n4 h3 h4 d5
    k_extra "r_LL1"
    refine q_cut8 (M := fun σ' H' => ∃ L b0 b1 b2 b3, σ' = [some (V.ref a), some l, some r, some (.ref D), some (.ref Sm), some (.ref O), v6, some (.ref B), some (.ref L), none, none] ∧ Same G4 H' ∧
        H' L = some (.lst [b0, b1, b2, b3]) ∧ ErrAt cs H' l .non 14 b0 ∧ ErrAt cs H' l .non 15 b1 ∧ ErrAt cs H' .non r 14 b2 ∧ ErrAt cs H' .non r 15 b3) ?_ ?_
    · k_extra "r_LL1"
      intro a0 d0 K0 n0 S0 x0 y0
      have z0 : ErrAt cs K0 l .non 14 (.ref a0) := er_mk 14 (by decide) rfl x0 y0
      k_extra "r_LL1"
      intro a1 d1 K1 n1 S1 x1 y1
      have z1 : ErrAt cs K1 l .non 15 (.ref a1) := er_mk 15 (by decide) rfl x1 y1
      k_extra "r_LL1"
      intro a2 d2 K2 n2 S2 x2 y2
      have z2 : ErrAt cs K2 .non r 14 (.ref a2) := er_mk 14 (by decide) rfl x2 y2
      k_extra "r_LL1"
      intro a3 d3 K3 n3 S3 x3 y3
      have z3 : ErrAt cs K3 .non r 15 (.ref a3) := er_mk 15 (by decide) rfl x3 y3
      k_extra "r_LL1"
      refine q_newL (by show 4 ≤ sizeLine; decide) fun L K4 n4 S4 h4 => ?_
      k_extra "r_LL1"
      exact ⟨L, _, _, _, _, rfl, S0.trans (S1.trans (S2.trans (S3.trans S4))), h4, z0.mono (S1.trans (S2.trans (S3.trans S4))), z1.mono (S2.trans (S3.trans S4)), z2.mono (S3.trans S4), z3.mono S4⟩
    rintro σ' G5 ⟨L, b0, b1, b2, b3, rfl, S0, hL, z0, z1, z2, z3⟩
    replace sl := sl.mono S0
    replace sr := sr.mono S0
    have q14 : ∀ {H : Hp} {Q : VK} {u v x : V}, ErrAt cs H u v 14 x → Q u H → rExf K "one" Q x H := fun h q => q_exf h (by decide) A.e14.xf A.e14.no1 rfl q
    have q14' : ∀ {H : Hp} {Q : VK} {u v x : V}, ErrAt cs H u v 14 x → Q v H → rExf K "other" Q x H := fun h q => q_exf h (by decide) A.e14.xf A.e14.no2 rfl q
    have q15 : ∀ {H : Hp} {Q : VK} {u v x : V}, ErrAt cs H u v 15 x → Q u H → rExf K "step" Q x H := fun h q => q_exf h (by decide) A.e15.xf A.e15.no1 rfl q
    have q15' : ∀ {H : Hp} {Q : VK} {u v x : V}, ErrAt cs H u v 15 x → Q v H → rExf K "why" Q x H := fun h q => q_exf h (by decide) A.e15.xf A.e15.no2 rfl q
    refine q_cut8 (M := fun σ' H' => ∃ M, σ' = [some (V.ref a), some l, some r, some (.ref D), some (.ref Sm), some (.ref O), v6, some (.ref B), some (.ref L), some (.ref M), none] ∧ Same G5 H' ∧ H' M = some (.lst [l, .non, l, .non])) ?_ ?_
    · k_extra "r_LL1"
      refine q_ixL (SqL.of hL) (at_of (j := 0) rfl rfl) ?_
      k_extra "r_LL1"
      refine q14 z0 ?_
      k_extra "r_LL1"
      refine q_ixL (SqL.of hL) (at_of (j := 0) rfl rfl) ?_
      k_extra "r_LL1"
      refine q14' z0 ?_
      k_extra "r_LL1"
      refine q_ixL (SqL.of hL) (at_of (j := 1) rfl rfl) ?_
      k_extra "r_LL1"
      refine q15 z1 ?_
      k_extra "r_LL1"
      refine q_ixL (SqL.of hL) (at_of (j := 1) rfl rfl) ?_
      k_extra "r_LL1"
      refine q15' z1 ?_
      k_extra "r_LL1"
      refine q_newL (by show 4 ≤ sizeLine; decide) fun M K4 n4 S4 h4 => ?_
      k_extra "r_LL1"
      exact ⟨M, rfl, S4, h4⟩
    rintro σ' G6 ⟨M, rfl, S6, hM⟩
    replace sl := sl.mono S6
    replace sr := sr.mono S6
    replace hL := S6 _ _ hL
    replace z2 := z2.mono S6
    replace z3 := z3.mono S6
    clear S0 S6 z0 z1
    k_extra "r_LL1"
    refine q_newL (by show 4 ≤ sizeLine; decide) fun M2 G7 n7 S7 h7 => ?_
    have s4 : ∀ {H : Hp} {x : V}, SelfV K H x → ∀ y ∈ [x, .non, x, .non], SelfV K H y := fun h y hy => by
      simp only [List.mem_cons, List.not_mem_nil, or_false] at hy
      rcases hy with rfl | rfl | rfl | rfl <;> first | exact h | exact .non
    have s4' : ∀ {H : Hp} {x : V}, SelfV K H x → ∀ y ∈ [.non, x, .non, x], SelfV K H y := fun h y hy => by
      simp only [List.mem_cons, List.not_mem_nil, or_false] at hy
      rcases hy with rfl | rfl | rfl | rfl <;> first | exact h | exact .non
    refine ⟨M, M2, _, _, _, rfl, rfl, .inl ⟨SqL.of (S7 _ _ hM), SqL.of h7⟩, selfs (s4 (sl.mono S7)), ?_⟩
    rw [all_trues]
    refine q_test (s_if0 rfl ?_)
    replace sl := sl.mono S7
    replace sr := sr.mono S7
    replace hL := S7 _ _ hL
    replace z2 := z2.mono S7
    replace z3 := z3.mono S7
    clear S7 h7 hM n7
    k_extra "r_LL1"
    refine q_ixL (SqL.of hL) (at_of (j := 2) rfl rfl) ?_
    k_extra "r_LL1"
    refine q14 z2 ?_
    k_extra "r_LL1"
    refine q_ixL (SqL.of hL) (at_of (j := 2) rfl rfl) ?_
    k_extra "r_LL1"
    refine q14' z2 ?_
    k_extra "r_LL1"
    refine q_ixL (SqL.of hL) (at_of (j := 3) rfl rfl) ?_
    k_extra "r_LL1"
    refine q15 z3 ?_
    k_extra "r_LL1"
    refine q_ixL (SqL.of hL) (at_of (j := 3) rfl rfl) ?_
    k_extra "r_LL1"
    refine q15' z3 ?_
    k_extra "r_LL1"
    refine q_newL (by show 4 ≤ sizeLine; decide) fun M3 G8 n8 S8 h8 => ?_
    k_extra "r_LL1"
    refine q_newL (by show 4 ≤ sizeLine; decide) fun M4 G9 n9 S9 h9 => ?_
    refine ⟨M3, M4, _, _, _, rfl, rfl, .inl ⟨SqL.of (S9 _ _ h8), SqL.of h9⟩, selfs (s4' (sr.mono (S8.trans S9))), ?_⟩
    rw [all_trues]
    refine q_test (s_if0 rfl ?_)
    clear hL z2 z3 h8 h9 S8 S9 n8 n9 sl sr
    k_extra "r_LL1"
    refine q_newL (by show 1 ≤ sizeLine; decide) fun Hd GA nA SA hA => ?_
    k_extra "r_LL1"
    refine q_cut8 (M := fun σ' H' => ∃ B2, σ' = [some (V.ref a), some l, some r, some (.ref D), some (.ref Sm), some (.ref O), some (.ref B2), some (.ref B), some (.ref L), some (.ref M), some (.ref Hd)] ∧ H' Hd = some (.lst [l]) ∧ Er17 cs H' (.ref Hd) (.ref Hd) B2) ?_ ?_
    · k_extra "r_LL1"
      refine ⟨.ref Hd, .ref Hd, rfl, fun e1 H1 xs1 S1 h1 z1 l1 => ?_⟩
      k_extra "r_LL1"
      exact ⟨e1, rfl, S1 _ _ hA, xs1, h1, z1, l1⟩
    rintro σ' GB ⟨B2, rfl, hHd, bs2, hB2, zB2, lB2⟩
    k_extra "r_LL1"
    refine ⟨.inl ⟨rfl, _, SqL.of hHd⟩, ?_⟩
    k_extra "r_LL1"
    refine q_append hHd (by show 1 < sizeLine; decide) fun GC bt hHd' => ?_
    have n2 : B2 ≠ Hd := fun e => by
      rw [e, hHd] at hB2
      injection hB2 with h
      injection h with h
      rw [← h] at lB2
      exact absurd lB2 (by show ¬ (1 = 17); decide)
    k_extra "r_LL1"
    refine ⟨B2, bs2, .ref Hd, .ref Hd, rfl, SqL.of (bt _ _ n2 hB2), zB2.but bt hHd, lB2, fun D6 GD SD h6 => ?_⟩
    k_extra "r_LL1"
    refine q_newL (by show 1 ≤ sizeLine; decide) fun p11 GE nE SE h11 => ?_
    k_extra "r_LL1"
    refine q_rep h11 (by decide) (by decide) (by show 1 * 18 ≤ 1000; decide) fun p12 GF nF SF h12 => ?_
    refine ⟨D6, p12, _, _, _, rfl, rfl, .inl ⟨SqL.of (SF _ _ (SE _ _ h6)), SqL.of h12⟩, selfs (fun y hy => due_self (.ref Hd) (.ref Hd) hy), ?_⟩
    rw [all_trues]
    exact k _
end
end Bt
namespace Bt
open PySem PySem.Spec PyProof.Rows L2
/-! ### what the end wants of the classes -/
theorem ve_own {CB : Addr} : PySem.HandSPX.refsVE [.ref CB, .type "ValueError", .type "Exception", .type "BaseException", .type "object"] = true := show PySem.HandSPX.refsVE [.type "ValueError", .type "Exception", .type "BaseException", .type "object"] = true by decide +kernel
theorem exm_self {K : PySem.W.Frag} {S : Addr} (h1 : PySem.W.subIn K (.ref S) (.type "BaseException") = some true) (h2 : PySem.W.isClsIn K S = true) (h3 : PySem.W.typeIn K (.ref S) = some (.type "type")) (h4 : PySem.W.subIn K (.ref S) (.ref S) = some true) :
    PySem.W.exmOne K (.ref S) (.ref S) = some true := by
  have e1 : (PySem.W.subIn K (.ref S) (.type "BaseException") == some true) = true := by rw [h1] <;> rfl
  have e2 : ((PySem.W.clsIn K S).isSome && PySem.W.typeIn K (.ref S) == some (.type "type")) = true := by
    have h2' : (PySem.W.clsIn K S).isSome = true := h2
    rw [h2', h3] <;> rfl
  show (if (PySem.W.subIn K (.ref S) (.type "BaseException") == some true) = true then (if ((PySem.W.clsIn K S).isSome && PySem.W.typeIn K (.ref S) == some (.type "type")) = true then PySem.W.subIn K (.ref S) (.ref S) else none) else none) = some true
  rw [if_pos e1, if_pos e2]
  exact h4
theorem exc_binds {K : PySem.W.Frag} {qual fld : Str} {params : Arguments} {body : List Stmt} {scope : Scope} {f : Addr} {fd : FuncData} (F : FunD K "__init__" qual params body scope [.non] [] f fd)
    (h : ∀ (T : Addr) (kV doc pm : Value) (an : Option Addr) (cdv ct : Value) (us its : List Value), us.length = 2 → its.length = 1 →
      ∃ k, bindArgs (PySem.W.fnOf "__init__" qual params body scope (.ref T) kV doc pm an cdv ct) ⟨us, []⟩ = seqItems? (.ref T) >>= k ∧ k (some its.toArray) = pure ((["self", fld] : List Str).zip (us ++ its.drop 1))) : Binds K fd ["self", fld] [] := by
  obtain ⟨ds, hv, hb⟩ := F.binds1 (ps := ["self", fld]) 2 1 (by simp) rfl h
  cases hv
  exact hb
theorem kit_own {K : PySem.W.Frag} {C : Addr} : PySem.W.kitOne K (.ref C) (.ref C) = some true := by
  unfold PySem.W.kitOne
  rw [if_pos (by simp)]
theorem sub_no {K : PySem.W.Frag} {C : Addr} {T : String} (h : Kd T) : PySem.W.subIn K (.type T) (.ref C) = some false := by
  cases h <;> rfl
theorem kit_no {K : PySem.W.Frag} {C : Addr} {T : String} (h2 : PySem.W.isClsIn K C = true) (h3 : PySem.W.typeIn K (.ref C) = some (.type "type")) (h : Kd T) : PySem.W.kitOne K (.type T) (.ref C) = some false := by
  have e2 : ((PySem.W.clsIn K C).isSome && PySem.W.typeIn K (.ref C) == some (.type "type")) = true := by
    have h2' : (PySem.W.clsIn K C).isSome = true := h2
    rw [h2', h3] <;> rfl
  show (if ((Value.type T) == (Value.ref C)) = true then some true else (if ((PySem.W.clsIn K C).isSome && PySem.W.typeIn K (.ref C) == some (.type "type")) = true then PySem.W.subIn K (.type T) (.ref C) else none)) = some false
  rw [if_neg (by cases h <;> exact fun z => nomatch z), if_pos e2]
  exact sub_no h
theorem nf_kd {K : PySem.W.Frag} {C : Addr} {T : String} (h : Kd T) : PySem.W.notFirst K C (.type T) = true := by
  unfold PySem.W.notFirst
  rw [sub_no h]
  exact Bool.or_true _
theorem nf_own {K : PySem.W.Frag} {C : Addr} : PySem.W.notFirst K C (.ref C) = true := by
  unfold PySem.W.notFirst
  simp
end Bt
namespace Bt
open PySem PySem.Spec PyProof.Rows L2
/-! ### what the top has written, and the law's own head -/
theorem all_mk {l : PySem.W.OpenLaw} {w : World} {K : PySem.W.Frag} {h : Heap} {mg : Str → Option Value} {fa f__law_kinds f__law_right f__law_values f__law_thing f__law_placed f__law_named f__law_bare f_law C_InvalidName f_x_InvalidName T_x_InvalidName N_InvalidName C_InvalidPlace f_x_InvalidPlace T_x_InvalidPlace N_InvalidPlace C_InvalidForm f_x_InvalidForm T_x_InvalidForm N_InvalidForm C_InvalidLook f_x_InvalidLook T_x_InvalidLook N_InvalidLook C_InvalidLog f_x_InvalidLog T_x_InvalidLog N_InvalidLog C_InvalidRules f_x_InvalidRules T_x_InvalidRules N_InvalidRules C_InvalidDemand f_x_InvalidDemand T_x_InvalidDemand N_InvalidDemand C_InvalidStory f_x_InvalidStory T_x_InvalidStory N_InvalidStory C_InvalidChange f_x_InvalidChange T_x_InvalidChange N_InvalidChange C_InvalidNumber f_x_InvalidNumber T_x_InvalidNumber N_InvalidNumber C_InvalidList f_x_InvalidList T_x_InvalidList N_InvalidList C_InvalidText f_x_InvalidText T_x_InvalidText N_InvalidText C_Missing f_x_Missing T_x_Missing N_Missing C_Occupied f_x_Occupied T_x_Occupied N_Occupied C_Barred f_x_Barred T_x_Barred N_Barred C_Failed f_x_Failed T_x_Failed N_Failed C_Closed CB : Addr} {od__law_kinds an__law_kinds od__law_right an__law_right od__law_values an__law_values od__law_thing an__law_thing od__law_placed an__law_placed od__law_named an__law_named od__law_bare an__law_bare od_law an_law od_x_InvalidName an_x_InvalidName od_x_InvalidPlace an_x_InvalidPlace od_x_InvalidForm an_x_InvalidForm od_x_InvalidLook an_x_InvalidLook od_x_InvalidLog an_x_InvalidLog od_x_InvalidRules an_x_InvalidRules od_x_InvalidDemand an_x_InvalidDemand od_x_InvalidStory an_x_InvalidStory od_x_InvalidChange an_x_InvalidChange od_x_InvalidNumber an_x_InvalidNumber od_x_InvalidList an_x_InvalidList od_x_InvalidText an_x_InvalidText od_x_Missing an_x_Missing od_x_Occupied an_x_Occupied od_x_Barred an_x_Barred od_x_Failed an_x_Failed : Option Addr} {sl__law_kinds sl__law_right sl__law_values sl__law_thing sl__law_placed sl__law_named sl__law_bare sl_law sl_x_InvalidName sl_x_InvalidPlace sl_x_InvalidForm sl_x_InvalidLook sl_x_InvalidLog sl_x_InvalidRules sl_x_InvalidDemand sl_x_InvalidStory sl_x_InvalidChange sl_x_InvalidNumber sl_x_InvalidList sl_x_InvalidText sl_x_Missing sl_x_Occupied sl_x_Barred sl_x_Failed : Array (Option Value)} {oc__law_kinds kV__law_kinds dc__law_kinds pm__law_kinds cd__law_kinds ct__law_kinds oc__law_right kV__law_right dc__law_right pm__law_right cd__law_right ct__law_right oc__law_values kV__law_values dc__law_values pm__law_values cd__law_values ct__law_values oc__law_thing kV__law_thing dc__law_thing pm__law_thing cd__law_thing ct__law_thing oc__law_placed kV__law_placed dc__law_placed pm__law_placed cd__law_placed ct__law_placed oc__law_named kV__law_named dc__law_named pm__law_named cd__law_named ct__law_named oc__law_bare kV__law_bare dc__law_bare pm__law_bare cd__law_bare ct__law_bare oc_law kV_law dc_law pm_law cd_law ct_law oc_x_InvalidName kV_x_InvalidName dc_x_InvalidName pm_x_InvalidName cd_x_InvalidName ct_x_InvalidName oc_x_InvalidPlace kV_x_InvalidPlace dc_x_InvalidPlace pm_x_InvalidPlace cd_x_InvalidPlace ct_x_InvalidPlace oc_x_InvalidForm kV_x_InvalidForm dc_x_InvalidForm pm_x_InvalidForm cd_x_InvalidForm ct_x_InvalidForm oc_x_InvalidLook kV_x_InvalidLook dc_x_InvalidLook pm_x_InvalidLook cd_x_InvalidLook ct_x_InvalidLook oc_x_InvalidLog kV_x_InvalidLog dc_x_InvalidLog pm_x_InvalidLog cd_x_InvalidLog ct_x_InvalidLog oc_x_InvalidRules kV_x_InvalidRules dc_x_InvalidRules pm_x_InvalidRules cd_x_InvalidRules ct_x_InvalidRules oc_x_InvalidDemand kV_x_InvalidDemand dc_x_InvalidDemand pm_x_InvalidDemand cd_x_InvalidDemand ct_x_InvalidDemand oc_x_InvalidStory kV_x_InvalidStory dc_x_InvalidStory pm_x_InvalidStory cd_x_InvalidStory ct_x_InvalidStory oc_x_InvalidChange kV_x_InvalidChange dc_x_InvalidChange pm_x_InvalidChange cd_x_InvalidChange ct_x_InvalidChange oc_x_InvalidNumber kV_x_InvalidNumber dc_x_InvalidNumber pm_x_InvalidNumber cd_x_InvalidNumber ct_x_InvalidNumber oc_x_InvalidList kV_x_InvalidList dc_x_InvalidList pm_x_InvalidList cd_x_InvalidList ct_x_InvalidList oc_x_InvalidText kV_x_InvalidText dc_x_InvalidText pm_x_InvalidText cd_x_InvalidText ct_x_InvalidText oc_x_Missing kV_x_Missing dc_x_Missing pm_x_Missing cd_x_Missing ct_x_Missing oc_x_Occupied kV_x_Occupied dc_x_Occupied pm_x_Occupied cd_x_Occupied ct_x_Occupied oc_x_Barred kV_x_Barred dc_x_Barred pm_x_Barred cd_x_Barred ct_x_Barred oc_x_Failed kV_x_Failed dc_x_Failed pm_x_Failed cd_x_Failed ct_x_Failed : Value} {nm_InvalidName q_InvalidName : Str} {bs_InvalidName : List Value} {CB_InvalidName : Addr} {sn_InvalidName : List Str} {sub_InvalidName : List Value} {ab_InvalidName : Bool} {col_InvalidName : Option Bool} {dd_InvalidName : Option Addr} {m0_InvalidName m1_InvalidName m2_InvalidName m3_InvalidName m5_InvalidName : Option Value} {ocT_InvalidName : Value} {odT_InvalidName : Option Addr} {nT_InvalidName : Nat} {slT_InvalidName : Array (Option Value)} {nm_InvalidPlace q_InvalidPlace : Str} {bs_InvalidPlace : List Value} {CB_InvalidPlace : Addr} {sn_InvalidPlace : List Str} {sub_InvalidPlace : List Value} {ab_InvalidPlace : Bool} {col_InvalidPlace : Option Bool} {dd_InvalidPlace : Option Addr} {m0_InvalidPlace m1_InvalidPlace m2_InvalidPlace m3_InvalidPlace m5_InvalidPlace : Option Value} {ocT_InvalidPlace : Value} {odT_InvalidPlace : Option Addr} {nT_InvalidPlace : Nat} {slT_InvalidPlace : Array (Option Value)} {nm_InvalidForm q_InvalidForm : Str} {bs_InvalidForm : List Value} {CB_InvalidForm : Addr} {sn_InvalidForm : List Str} {sub_InvalidForm : List Value} {ab_InvalidForm : Bool} {col_InvalidForm : Option Bool} {dd_InvalidForm : Option Addr} {m0_InvalidForm m1_InvalidForm m2_InvalidForm m3_InvalidForm m5_InvalidForm : Option Value} {ocT_InvalidForm : Value} {odT_InvalidForm : Option Addr} {nT_InvalidForm : Nat} {slT_InvalidForm : Array (Option Value)} {nm_InvalidLook q_InvalidLook : Str} {bs_InvalidLook : List Value} {CB_InvalidLook : Addr} {sn_InvalidLook : List Str} {sub_InvalidLook : List Value} {ab_InvalidLook : Bool} {col_InvalidLook : Option Bool} {dd_InvalidLook : Option Addr} {m0_InvalidLook m1_InvalidLook m2_InvalidLook m3_InvalidLook m5_InvalidLook : Option Value} {ocT_InvalidLook : Value} {odT_InvalidLook : Option Addr} {nT_InvalidLook : Nat} {slT_InvalidLook : Array (Option Value)} {nm_InvalidLog q_InvalidLog : Str} {bs_InvalidLog : List Value} {CB_InvalidLog : Addr} {sn_InvalidLog : List Str} {sub_InvalidLog : List Value} {ab_InvalidLog : Bool} {col_InvalidLog : Option Bool} {dd_InvalidLog : Option Addr} {m0_InvalidLog m1_InvalidLog m2_InvalidLog m3_InvalidLog m5_InvalidLog : Option Value} {ocT_InvalidLog : Value} {odT_InvalidLog : Option Addr} {nT_InvalidLog : Nat} {slT_InvalidLog : Array (Option Value)} {nm_InvalidRules q_InvalidRules : Str} {bs_InvalidRules : List Value} {CB_InvalidRules : Addr} {sn_InvalidRules : List Str} {sub_InvalidRules : List Value} {ab_InvalidRules : Bool} {col_InvalidRules : Option Bool} {dd_InvalidRules : Option Addr} {m0_InvalidRules m1_InvalidRules m2_InvalidRules m3_InvalidRules m5_InvalidRules : Option Value} {ocT_InvalidRules : Value} {odT_InvalidRules : Option Addr} {nT_InvalidRules : Nat} {slT_InvalidRules : Array (Option Value)} {nm_InvalidDemand q_InvalidDemand : Str} {bs_InvalidDemand : List Value} {CB_InvalidDemand : Addr} {sn_InvalidDemand : List Str} {sub_InvalidDemand : List Value} {ab_InvalidDemand : Bool} {col_InvalidDemand : Option Bool} {dd_InvalidDemand : Option Addr} {m0_InvalidDemand m1_InvalidDemand m2_InvalidDemand m3_InvalidDemand m5_InvalidDemand : Option Value} {ocT_InvalidDemand : Value} {odT_InvalidDemand : Option Addr} {nT_InvalidDemand : Nat} {slT_InvalidDemand : Array (Option Value)} {nm_InvalidStory q_InvalidStory : Str} {bs_InvalidStory : List Value} {CB_InvalidStory : Addr} {sn_InvalidStory : List Str} {sub_InvalidStory : List Value} {ab_InvalidStory : Bool} {col_InvalidStory : Option Bool} {dd_InvalidStory : Option Addr} {m0_InvalidStory m1_InvalidStory m2_InvalidStory m3_InvalidStory m5_InvalidStory : Option Value} {ocT_InvalidStory : Value} {odT_InvalidStory : Option Addr} {nT_InvalidStory : Nat} {slT_InvalidStory : Array (Option Value)} {nm_InvalidChange q_InvalidChange : Str} {bs_InvalidChange : List Value} {CB_InvalidChange : Addr} {sn_InvalidChange : List Str} {sub_InvalidChange : List Value} {ab_InvalidChange : Bool} {col_InvalidChange : Option Bool} {dd_InvalidChange : Option Addr} {m0_InvalidChange m1_InvalidChange m2_InvalidChange m3_InvalidChange m5_InvalidChange : Option Value} {ocT_InvalidChange : Value} {odT_InvalidChange : Option Addr} {nT_InvalidChange : Nat} {slT_InvalidChange : Array (Option Value)} {nm_InvalidNumber q_InvalidNumber : Str} {bs_InvalidNumber : List Value} {CB_InvalidNumber : Addr} {sn_InvalidNumber : List Str} {sub_InvalidNumber : List Value} {ab_InvalidNumber : Bool} {col_InvalidNumber : Option Bool} {dd_InvalidNumber : Option Addr} {m0_InvalidNumber m1_InvalidNumber m2_InvalidNumber m3_InvalidNumber m5_InvalidNumber : Option Value} {ocT_InvalidNumber : Value} {odT_InvalidNumber : Option Addr} {nT_InvalidNumber : Nat} {slT_InvalidNumber : Array (Option Value)} {nm_InvalidList q_InvalidList : Str} {bs_InvalidList : List Value} {CB_InvalidList : Addr} {sn_InvalidList : List Str} {sub_InvalidList : List Value} {ab_InvalidList : Bool} {col_InvalidList : Option Bool} {dd_InvalidList : Option Addr} {m0_InvalidList m1_InvalidList m2_InvalidList m3_InvalidList m5_InvalidList : Option Value} {ocT_InvalidList : Value} {odT_InvalidList : Option Addr} {nT_InvalidList : Nat} {slT_InvalidList : Array (Option Value)} {nm_InvalidText q_InvalidText : Str} {bs_InvalidText : List Value} {CB_InvalidText : Addr} {sn_InvalidText : List Str} {sub_InvalidText : List Value} {ab_InvalidText : Bool} {col_InvalidText : Option Bool} {dd_InvalidText : Option Addr} {m0_InvalidText m1_InvalidText m2_InvalidText m3_InvalidText m5_InvalidText : Option Value} {ocT_InvalidText : Value} {odT_InvalidText : Option Addr} {nT_InvalidText : Nat} {slT_InvalidText : Array (Option Value)} {nm_Missing q_Missing : Str} {bs_Missing : List Value} {CB_Missing : Addr} {sn_Missing : List Str} {sub_Missing : List Value} {ab_Missing : Bool} {col_Missing : Option Bool} {dd_Missing : Option Addr} {m0_Missing m1_Missing m2_Missing m3_Missing m5_Missing : Option Value} {ocT_Missing : Value} {odT_Missing : Option Addr} {nT_Missing : Nat} {slT_Missing : Array (Option Value)} {nm_Occupied q_Occupied : Str} {bs_Occupied : List Value} {CB_Occupied : Addr} {sn_Occupied : List Str} {sub_Occupied : List Value} {ab_Occupied : Bool} {col_Occupied : Option Bool} {dd_Occupied : Option Addr} {m0_Occupied m1_Occupied m2_Occupied m3_Occupied m5_Occupied : Option Value} {ocT_Occupied : Value} {odT_Occupied : Option Addr} {nT_Occupied : Nat} {slT_Occupied : Array (Option Value)} {nm_Barred q_Barred : Str} {bs_Barred : List Value} {CB_Barred : Addr} {sn_Barred : List Str} {sub_Barred : List Value} {ab_Barred : Bool} {col_Barred : Option Bool} {dd_Barred : Option Addr} {m0_Barred m1_Barred m2_Barred m3_Barred m5_Barred : Option Value} {ocT_Barred : Value} {odT_Barred : Option Addr} {nT_Barred : Nat} {slT_Barred : Array (Option Value)} {nm_Failed q_Failed : Str} {bs_Failed : List Value} {CB_Failed : Addr} {sn_Failed : List Str} {sub_Failed : List Value} {ab_Failed : Bool} {col_Failed : Option Bool} {dd_Failed : Option Addr} {m0_Failed m1_Failed m2_Failed m3_Failed m5_Failed : Option Value} {ocT_Failed : Value} {odT_Failed : Option Addr} {nT_Failed : Nat} {slT_Failed : Array (Option Value)} (X : K.In h) (G : h.Ns mainGlobals mg) (hfa : mg "law" = some (.ref fa))
    (z_isinstance : PySem.W.nsIn K mainGlobals "isinstance" = some none)
    (z_range : PySem.W.nsIn K mainGlobals "range" = some none)
    (z_enumerate : PySem.W.nsIn K mainGlobals "enumerate" = some none)
    (z_ValueError : PySem.W.nsIn K mainGlobals "ValueError" = some none)
    (z_int : PySem.W.nsIn K mainGlobals "int" = some none)
    (z_sum : PySem.W.nsIn K mainGlobals "sum" = some none)
    (a__law_kinds : PySem.W.nsIn K mainGlobals "_law_kinds" = some (some (.ref f__law_kinds)))
    (l__law_kinds : K.lookup f__law_kinds = some ⟨oc__law_kinds, od__law_kinds, .func (PySem.W.fnOf "_law_kinds" "_law_kinds" (defArgs s__law_kinds) (defBody s__law_kinds) (defScope s__law_kinds) .none kV__law_kinds dc__law_kinds pm__law_kinds an__law_kinds cd__law_kinds ct__law_kinds), sl__law_kinds⟩)
    (c__law_kinds : PySem.W.codeIn K cd__law_kinds "_law_kinds" = true)
    (k__law_kinds : PySem.W.keepIn K (.ref f__law_kinds) = true)
    (a__law_right : PySem.W.nsIn K mainGlobals "_law_right" = some (some (.ref f__law_right)))
    (l__law_right : K.lookup f__law_right = some ⟨oc__law_right, od__law_right, .func (PySem.W.fnOf "_law_right" "_law_right" (defArgs s__law_right) (defBody s__law_right) (defScope s__law_right) .none kV__law_right dc__law_right pm__law_right an__law_right cd__law_right ct__law_right), sl__law_right⟩)
    (c__law_right : PySem.W.codeIn K cd__law_right "_law_right" = true)
    (k__law_right : PySem.W.keepIn K (.ref f__law_right) = true)
    (a__law_values : PySem.W.nsIn K mainGlobals "_law_values" = some (some (.ref f__law_values)))
    (l__law_values : K.lookup f__law_values = some ⟨oc__law_values, od__law_values, .func (PySem.W.fnOf "_law_values" "_law_values" (defArgs s__law_values) (defBody s__law_values) (defScope s__law_values) .none kV__law_values dc__law_values pm__law_values an__law_values cd__law_values ct__law_values), sl__law_values⟩)
    (c__law_values : PySem.W.codeIn K cd__law_values "_law_values" = true)
    (k__law_values : PySem.W.keepIn K (.ref f__law_values) = true)
    (a__law_thing : PySem.W.nsIn K mainGlobals "_law_thing" = some (some (.ref f__law_thing)))
    (l__law_thing : K.lookup f__law_thing = some ⟨oc__law_thing, od__law_thing, .func (PySem.W.fnOf "_law_thing" "_law_thing" (defArgs s__law_thing) (defBody s__law_thing) (defScope s__law_thing) .none kV__law_thing dc__law_thing pm__law_thing an__law_thing cd__law_thing ct__law_thing), sl__law_thing⟩)
    (c__law_thing : PySem.W.codeIn K cd__law_thing "_law_thing" = true)
    (k__law_thing : PySem.W.keepIn K (.ref f__law_thing) = true)
    (a__law_placed : PySem.W.nsIn K mainGlobals "_law_placed" = some (some (.ref f__law_placed)))
    (l__law_placed : K.lookup f__law_placed = some ⟨oc__law_placed, od__law_placed, .func (PySem.W.fnOf "_law_placed" "_law_placed" (defArgs s__law_placed) (defBody s__law_placed) (defScope s__law_placed) .none kV__law_placed dc__law_placed pm__law_placed an__law_placed cd__law_placed ct__law_placed), sl__law_placed⟩)
    (c__law_placed : PySem.W.codeIn K cd__law_placed "_law_placed" = true)
    (k__law_placed : PySem.W.keepIn K (.ref f__law_placed) = true)
    (a__law_named : PySem.W.nsIn K mainGlobals "_law_named" = some (some (.ref f__law_named)))
    (l__law_named : K.lookup f__law_named = some ⟨oc__law_named, od__law_named, .func (PySem.W.fnOf "_law_named" "_law_named" (defArgs s__law_named) (defBody s__law_named) (defScope s__law_named) .none kV__law_named dc__law_named pm__law_named an__law_named cd__law_named ct__law_named), sl__law_named⟩)
    (c__law_named : PySem.W.codeIn K cd__law_named "_law_named" = true)
    (k__law_named : PySem.W.keepIn K (.ref f__law_named) = true)
    (a__law_bare : PySem.W.nsIn K mainGlobals "_law_bare" = some (some (.ref f__law_bare)))
    (l__law_bare : K.lookup f__law_bare = some ⟨oc__law_bare, od__law_bare, .func (PySem.W.fnOf "_law_bare" "_law_bare" (defArgs s__law_bare) (defBody s__law_bare) (defScope s__law_bare) .none kV__law_bare dc__law_bare pm__law_bare an__law_bare cd__law_bare ct__law_bare), sl__law_bare⟩)
    (c__law_bare : PySem.W.codeIn K cd__law_bare "_law_bare" = true)
    (k__law_bare : PySem.W.keepIn K (.ref f__law_bare) = true)
    (a_law : PySem.W.nsIn K mainGlobals "law" = some (some (.ref f_law)))
    (l_law : K.lookup f_law = some ⟨oc_law, od_law, .func (PySem.W.fnOf "law" "law" (defArgs s_law) (defBody s_law) (defScope s_law) .none kV_law dc_law pm_law an_law cd_law ct_law), sl_law⟩)
    (c_law : PySem.W.codeIn K cd_law "law" = true)
    (k_law : PySem.W.keepIn K (.ref f_law) = true)
    (i2_X : PySem.W.specialIn K (.builtin "object.__class__") "__get__" = some (some (.builtin "getset_descriptor.__get__")))
    (i3_X : PySem.W.takesIn K (.builtin "object.__class__") = some true)
    (g_InvalidName : PySem.W.nsIn K mainGlobals "InvalidName" = some (some (.ref C_InvalidName)))
    (xL_InvalidName : K.lookup C_InvalidName = some (excClassObj nm_InvalidName q_InvalidName C_InvalidName N_InvalidName bs_InvalidName [.ref CB_InvalidName, .type "ValueError", .type "Exception", .type "BaseException", .type "object"] true sn_InvalidName sub_InvalidName ab_InvalidName col_InvalidName dd_InvalidName m0_InvalidName m1_InvalidName m2_InvalidName m3_InvalidName m5_InvalidName "ValueError.__new__"))
    (sa_InvalidName : PySem.W.findIn K (.ref C_InvalidName) "__setattr__" = some (some (.builtin "object.__setattr__")))
    (ga_InvalidName : PySem.W.findIn K (.ref C_InvalidName) "__getattribute__" = some (some (.builtin "BaseException.__getattribute__")))
    (gg_InvalidName : PySem.W.findIn K (.ref C_InvalidName) "__getattr__" = some none)
    (no0_InvalidName : PySem.W.findIn K (.ref C_InvalidName) "value" = some none)
    (in_InvalidName : PySem.W.findIn K (.ref C_InvalidName) "__init__" = some (some (.ref f_x_InvalidName)))
    (ti_InvalidName : PySem.W.typeIn K (.ref f_x_InvalidName) = some (.type "function"))
    (l_x_InvalidName : K.lookup f_x_InvalidName = some ⟨oc_x_InvalidName, od_x_InvalidName, .func (PySem.W.fnOf "__init__" "InvalidName.__init__" (defArgs s_InvalidName___init__) (defBody s_InvalidName___init__) (defScope s_InvalidName___init__) (.ref T_x_InvalidName) kV_x_InvalidName dc_x_InvalidName pm_x_InvalidName an_x_InvalidName cd_x_InvalidName ct_x_InvalidName), sl_x_InvalidName⟩)
    (c_x_InvalidName : PySem.W.codeIn K cd_x_InvalidName "InvalidName.__init__" = true)
    (k_x_InvalidName : PySem.W.keepIn K (.ref f_x_InvalidName) = true)
    (lT_InvalidName : K.lookup T_x_InvalidName = some ⟨ocT_InvalidName, odT_InvalidName, .seq #[.none] nT_InvalidName, slT_InvalidName⟩)
    (kC_InvalidName : PySem.W.keepIn K (.ref C_InvalidName) = true)
    (eC_InvalidName : PySem.W.subIn K (.ref C_InvalidName) (.type "BaseException") = some true)
    (tC_InvalidName : PySem.W.typeIn K (.ref C_InvalidName) = some (.type "type"))
    (hC_InvalidName : PySem.W.hasDictIn K C_InvalidName = true)
    (i1_InvalidName : PySem.W.findIn K (.ref C_InvalidName) "__class__" = some (some (.builtin "object.__class__")))
    (i4_InvalidName : PySem.W.mroIn K C_InvalidName (.type "object") = some true)
    (g_InvalidPlace : PySem.W.nsIn K mainGlobals "InvalidPlace" = some (some (.ref C_InvalidPlace)))
    (xL_InvalidPlace : K.lookup C_InvalidPlace = some (excClassObj nm_InvalidPlace q_InvalidPlace C_InvalidPlace N_InvalidPlace bs_InvalidPlace [.ref CB_InvalidPlace, .type "ValueError", .type "Exception", .type "BaseException", .type "object"] true sn_InvalidPlace sub_InvalidPlace ab_InvalidPlace col_InvalidPlace dd_InvalidPlace m0_InvalidPlace m1_InvalidPlace m2_InvalidPlace m3_InvalidPlace m5_InvalidPlace "ValueError.__new__"))
    (sa_InvalidPlace : PySem.W.findIn K (.ref C_InvalidPlace) "__setattr__" = some (some (.builtin "object.__setattr__")))
    (ga_InvalidPlace : PySem.W.findIn K (.ref C_InvalidPlace) "__getattribute__" = some (some (.builtin "BaseException.__getattribute__")))
    (gg_InvalidPlace : PySem.W.findIn K (.ref C_InvalidPlace) "__getattr__" = some none)
    (no0_InvalidPlace : PySem.W.findIn K (.ref C_InvalidPlace) "value" = some none)
    (in_InvalidPlace : PySem.W.findIn K (.ref C_InvalidPlace) "__init__" = some (some (.ref f_x_InvalidPlace)))
    (ti_InvalidPlace : PySem.W.typeIn K (.ref f_x_InvalidPlace) = some (.type "function"))
    (l_x_InvalidPlace : K.lookup f_x_InvalidPlace = some ⟨oc_x_InvalidPlace, od_x_InvalidPlace, .func (PySem.W.fnOf "__init__" "InvalidPlace.__init__" (defArgs s_InvalidPlace___init__) (defBody s_InvalidPlace___init__) (defScope s_InvalidPlace___init__) (.ref T_x_InvalidPlace) kV_x_InvalidPlace dc_x_InvalidPlace pm_x_InvalidPlace an_x_InvalidPlace cd_x_InvalidPlace ct_x_InvalidPlace), sl_x_InvalidPlace⟩)
    (c_x_InvalidPlace : PySem.W.codeIn K cd_x_InvalidPlace "InvalidPlace.__init__" = true)
    (k_x_InvalidPlace : PySem.W.keepIn K (.ref f_x_InvalidPlace) = true)
    (lT_InvalidPlace : K.lookup T_x_InvalidPlace = some ⟨ocT_InvalidPlace, odT_InvalidPlace, .seq #[.none] nT_InvalidPlace, slT_InvalidPlace⟩)
    (kC_InvalidPlace : PySem.W.keepIn K (.ref C_InvalidPlace) = true)
    (eC_InvalidPlace : PySem.W.subIn K (.ref C_InvalidPlace) (.type "BaseException") = some true)
    (tC_InvalidPlace : PySem.W.typeIn K (.ref C_InvalidPlace) = some (.type "type"))
    (hC_InvalidPlace : PySem.W.hasDictIn K C_InvalidPlace = true)
    (i1_InvalidPlace : PySem.W.findIn K (.ref C_InvalidPlace) "__class__" = some (some (.builtin "object.__class__")))
    (i4_InvalidPlace : PySem.W.mroIn K C_InvalidPlace (.type "object") = some true)
    (g_InvalidForm : PySem.W.nsIn K mainGlobals "InvalidForm" = some (some (.ref C_InvalidForm)))
    (xL_InvalidForm : K.lookup C_InvalidForm = some (excClassObj nm_InvalidForm q_InvalidForm C_InvalidForm N_InvalidForm bs_InvalidForm [.ref CB_InvalidForm, .type "ValueError", .type "Exception", .type "BaseException", .type "object"] true sn_InvalidForm sub_InvalidForm ab_InvalidForm col_InvalidForm dd_InvalidForm m0_InvalidForm m1_InvalidForm m2_InvalidForm m3_InvalidForm m5_InvalidForm "ValueError.__new__"))
    (sa_InvalidForm : PySem.W.findIn K (.ref C_InvalidForm) "__setattr__" = some (some (.builtin "object.__setattr__")))
    (ga_InvalidForm : PySem.W.findIn K (.ref C_InvalidForm) "__getattribute__" = some (some (.builtin "BaseException.__getattribute__")))
    (gg_InvalidForm : PySem.W.findIn K (.ref C_InvalidForm) "__getattr__" = some none)
    (no0_InvalidForm : PySem.W.findIn K (.ref C_InvalidForm) "value" = some none)
    (in_InvalidForm : PySem.W.findIn K (.ref C_InvalidForm) "__init__" = some (some (.ref f_x_InvalidForm)))
    (ti_InvalidForm : PySem.W.typeIn K (.ref f_x_InvalidForm) = some (.type "function"))
    (l_x_InvalidForm : K.lookup f_x_InvalidForm = some ⟨oc_x_InvalidForm, od_x_InvalidForm, .func (PySem.W.fnOf "__init__" "InvalidForm.__init__" (defArgs s_InvalidForm___init__) (defBody s_InvalidForm___init__) (defScope s_InvalidForm___init__) (.ref T_x_InvalidForm) kV_x_InvalidForm dc_x_InvalidForm pm_x_InvalidForm an_x_InvalidForm cd_x_InvalidForm ct_x_InvalidForm), sl_x_InvalidForm⟩)
    (c_x_InvalidForm : PySem.W.codeIn K cd_x_InvalidForm "InvalidForm.__init__" = true)
    (k_x_InvalidForm : PySem.W.keepIn K (.ref f_x_InvalidForm) = true)
    (lT_InvalidForm : K.lookup T_x_InvalidForm = some ⟨ocT_InvalidForm, odT_InvalidForm, .seq #[.none] nT_InvalidForm, slT_InvalidForm⟩)
    (kC_InvalidForm : PySem.W.keepIn K (.ref C_InvalidForm) = true)
    (eC_InvalidForm : PySem.W.subIn K (.ref C_InvalidForm) (.type "BaseException") = some true)
    (tC_InvalidForm : PySem.W.typeIn K (.ref C_InvalidForm) = some (.type "type"))
    (hC_InvalidForm : PySem.W.hasDictIn K C_InvalidForm = true)
    (i1_InvalidForm : PySem.W.findIn K (.ref C_InvalidForm) "__class__" = some (some (.builtin "object.__class__")))
    (i4_InvalidForm : PySem.W.mroIn K C_InvalidForm (.type "object") = some true)
    (g_InvalidLook : PySem.W.nsIn K mainGlobals "InvalidLook" = some (some (.ref C_InvalidLook)))
    (xL_InvalidLook : K.lookup C_InvalidLook = some (excClassObj nm_InvalidLook q_InvalidLook C_InvalidLook N_InvalidLook bs_InvalidLook [.ref CB_InvalidLook, .type "ValueError", .type "Exception", .type "BaseException", .type "object"] true sn_InvalidLook sub_InvalidLook ab_InvalidLook col_InvalidLook dd_InvalidLook m0_InvalidLook m1_InvalidLook m2_InvalidLook m3_InvalidLook m5_InvalidLook "ValueError.__new__"))
    (sa_InvalidLook : PySem.W.findIn K (.ref C_InvalidLook) "__setattr__" = some (some (.builtin "object.__setattr__")))
    (ga_InvalidLook : PySem.W.findIn K (.ref C_InvalidLook) "__getattribute__" = some (some (.builtin "BaseException.__getattribute__")))
    (gg_InvalidLook : PySem.W.findIn K (.ref C_InvalidLook) "__getattr__" = some none)
    (no0_InvalidLook : PySem.W.findIn K (.ref C_InvalidLook) "value" = some none)
    (in_InvalidLook : PySem.W.findIn K (.ref C_InvalidLook) "__init__" = some (some (.ref f_x_InvalidLook)))
    (ti_InvalidLook : PySem.W.typeIn K (.ref f_x_InvalidLook) = some (.type "function"))
    (l_x_InvalidLook : K.lookup f_x_InvalidLook = some ⟨oc_x_InvalidLook, od_x_InvalidLook, .func (PySem.W.fnOf "__init__" "InvalidLook.__init__" (defArgs s_InvalidLook___init__) (defBody s_InvalidLook___init__) (defScope s_InvalidLook___init__) (.ref T_x_InvalidLook) kV_x_InvalidLook dc_x_InvalidLook pm_x_InvalidLook an_x_InvalidLook cd_x_InvalidLook ct_x_InvalidLook), sl_x_InvalidLook⟩)
    (c_x_InvalidLook : PySem.W.codeIn K cd_x_InvalidLook "InvalidLook.__init__" = true)
    (k_x_InvalidLook : PySem.W.keepIn K (.ref f_x_InvalidLook) = true)
    (lT_InvalidLook : K.lookup T_x_InvalidLook = some ⟨ocT_InvalidLook, odT_InvalidLook, .seq #[.none] nT_InvalidLook, slT_InvalidLook⟩)
    (kC_InvalidLook : PySem.W.keepIn K (.ref C_InvalidLook) = true)
    (eC_InvalidLook : PySem.W.subIn K (.ref C_InvalidLook) (.type "BaseException") = some true)
    (tC_InvalidLook : PySem.W.typeIn K (.ref C_InvalidLook) = some (.type "type"))
    (hC_InvalidLook : PySem.W.hasDictIn K C_InvalidLook = true)
    (i1_InvalidLook : PySem.W.findIn K (.ref C_InvalidLook) "__class__" = some (some (.builtin "object.__class__")))
    (i4_InvalidLook : PySem.W.mroIn K C_InvalidLook (.type "object") = some true)
    (g_InvalidLog : PySem.W.nsIn K mainGlobals "InvalidLog" = some (some (.ref C_InvalidLog)))
    (xL_InvalidLog : K.lookup C_InvalidLog = some (excClassObj nm_InvalidLog q_InvalidLog C_InvalidLog N_InvalidLog bs_InvalidLog [.ref CB_InvalidLog, .type "ValueError", .type "Exception", .type "BaseException", .type "object"] true sn_InvalidLog sub_InvalidLog ab_InvalidLog col_InvalidLog dd_InvalidLog m0_InvalidLog m1_InvalidLog m2_InvalidLog m3_InvalidLog m5_InvalidLog "ValueError.__new__"))
    (sa_InvalidLog : PySem.W.findIn K (.ref C_InvalidLog) "__setattr__" = some (some (.builtin "object.__setattr__")))
    (ga_InvalidLog : PySem.W.findIn K (.ref C_InvalidLog) "__getattribute__" = some (some (.builtin "BaseException.__getattribute__")))
    (gg_InvalidLog : PySem.W.findIn K (.ref C_InvalidLog) "__getattr__" = some none)
    (no0_InvalidLog : PySem.W.findIn K (.ref C_InvalidLog) "value" = some none)
    (in_InvalidLog : PySem.W.findIn K (.ref C_InvalidLog) "__init__" = some (some (.ref f_x_InvalidLog)))
    (ti_InvalidLog : PySem.W.typeIn K (.ref f_x_InvalidLog) = some (.type "function"))
    (l_x_InvalidLog : K.lookup f_x_InvalidLog = some ⟨oc_x_InvalidLog, od_x_InvalidLog, .func (PySem.W.fnOf "__init__" "InvalidLog.__init__" (defArgs s_InvalidLog___init__) (defBody s_InvalidLog___init__) (defScope s_InvalidLog___init__) (.ref T_x_InvalidLog) kV_x_InvalidLog dc_x_InvalidLog pm_x_InvalidLog an_x_InvalidLog cd_x_InvalidLog ct_x_InvalidLog), sl_x_InvalidLog⟩)
    (c_x_InvalidLog : PySem.W.codeIn K cd_x_InvalidLog "InvalidLog.__init__" = true)
    (k_x_InvalidLog : PySem.W.keepIn K (.ref f_x_InvalidLog) = true)
    (lT_InvalidLog : K.lookup T_x_InvalidLog = some ⟨ocT_InvalidLog, odT_InvalidLog, .seq #[.none] nT_InvalidLog, slT_InvalidLog⟩)
    (kC_InvalidLog : PySem.W.keepIn K (.ref C_InvalidLog) = true)
    (eC_InvalidLog : PySem.W.subIn K (.ref C_InvalidLog) (.type "BaseException") = some true)
    (tC_InvalidLog : PySem.W.typeIn K (.ref C_InvalidLog) = some (.type "type"))
    (hC_InvalidLog : PySem.W.hasDictIn K C_InvalidLog = true)
    (i1_InvalidLog : PySem.W.findIn K (.ref C_InvalidLog) "__class__" = some (some (.builtin "object.__class__")))
    (i4_InvalidLog : PySem.W.mroIn K C_InvalidLog (.type "object") = some true)
    (g_InvalidRules : PySem.W.nsIn K mainGlobals "InvalidRules" = some (some (.ref C_InvalidRules)))
    (xL_InvalidRules : K.lookup C_InvalidRules = some (excClassObj nm_InvalidRules q_InvalidRules C_InvalidRules N_InvalidRules bs_InvalidRules [.ref CB_InvalidRules, .type "ValueError", .type "Exception", .type "BaseException", .type "object"] true sn_InvalidRules sub_InvalidRules ab_InvalidRules col_InvalidRules dd_InvalidRules m0_InvalidRules m1_InvalidRules m2_InvalidRules m3_InvalidRules m5_InvalidRules "ValueError.__new__"))
    (sa_InvalidRules : PySem.W.findIn K (.ref C_InvalidRules) "__setattr__" = some (some (.builtin "object.__setattr__")))
    (ga_InvalidRules : PySem.W.findIn K (.ref C_InvalidRules) "__getattribute__" = some (some (.builtin "BaseException.__getattribute__")))
    (gg_InvalidRules : PySem.W.findIn K (.ref C_InvalidRules) "__getattr__" = some none)
    (no0_InvalidRules : PySem.W.findIn K (.ref C_InvalidRules) "value" = some none)
    (in_InvalidRules : PySem.W.findIn K (.ref C_InvalidRules) "__init__" = some (some (.ref f_x_InvalidRules)))
    (ti_InvalidRules : PySem.W.typeIn K (.ref f_x_InvalidRules) = some (.type "function"))
    (l_x_InvalidRules : K.lookup f_x_InvalidRules = some ⟨oc_x_InvalidRules, od_x_InvalidRules, .func (PySem.W.fnOf "__init__" "InvalidRules.__init__" (defArgs s_InvalidRules___init__) (defBody s_InvalidRules___init__) (defScope s_InvalidRules___init__) (.ref T_x_InvalidRules) kV_x_InvalidRules dc_x_InvalidRules pm_x_InvalidRules an_x_InvalidRules cd_x_InvalidRules ct_x_InvalidRules), sl_x_InvalidRules⟩)
    (c_x_InvalidRules : PySem.W.codeIn K cd_x_InvalidRules "InvalidRules.__init__" = true)
    (k_x_InvalidRules : PySem.W.keepIn K (.ref f_x_InvalidRules) = true)
    (lT_InvalidRules : K.lookup T_x_InvalidRules = some ⟨ocT_InvalidRules, odT_InvalidRules, .seq #[.none] nT_InvalidRules, slT_InvalidRules⟩)
    (kC_InvalidRules : PySem.W.keepIn K (.ref C_InvalidRules) = true)
    (eC_InvalidRules : PySem.W.subIn K (.ref C_InvalidRules) (.type "BaseException") = some true)
    (tC_InvalidRules : PySem.W.typeIn K (.ref C_InvalidRules) = some (.type "type"))
    (hC_InvalidRules : PySem.W.hasDictIn K C_InvalidRules = true)
    (i1_InvalidRules : PySem.W.findIn K (.ref C_InvalidRules) "__class__" = some (some (.builtin "object.__class__")))
    (i4_InvalidRules : PySem.W.mroIn K C_InvalidRules (.type "object") = some true)
    (g_InvalidDemand : PySem.W.nsIn K mainGlobals "InvalidDemand" = some (some (.ref C_InvalidDemand)))
    (xL_InvalidDemand : K.lookup C_InvalidDemand = some (excClassObj nm_InvalidDemand q_InvalidDemand C_InvalidDemand N_InvalidDemand bs_InvalidDemand [.ref CB_InvalidDemand, .type "ValueError", .type "Exception", .type "BaseException", .type "object"] true sn_InvalidDemand sub_InvalidDemand ab_InvalidDemand col_InvalidDemand dd_InvalidDemand m0_InvalidDemand m1_InvalidDemand m2_InvalidDemand m3_InvalidDemand m5_InvalidDemand "ValueError.__new__"))
    (sa_InvalidDemand : PySem.W.findIn K (.ref C_InvalidDemand) "__setattr__" = some (some (.builtin "object.__setattr__")))
    (ga_InvalidDemand : PySem.W.findIn K (.ref C_InvalidDemand) "__getattribute__" = some (some (.builtin "BaseException.__getattribute__")))
    (gg_InvalidDemand : PySem.W.findIn K (.ref C_InvalidDemand) "__getattr__" = some none)
    (no0_InvalidDemand : PySem.W.findIn K (.ref C_InvalidDemand) "value" = some none)
    (in_InvalidDemand : PySem.W.findIn K (.ref C_InvalidDemand) "__init__" = some (some (.ref f_x_InvalidDemand)))
    (ti_InvalidDemand : PySem.W.typeIn K (.ref f_x_InvalidDemand) = some (.type "function"))
    (l_x_InvalidDemand : K.lookup f_x_InvalidDemand = some ⟨oc_x_InvalidDemand, od_x_InvalidDemand, .func (PySem.W.fnOf "__init__" "InvalidDemand.__init__" (defArgs s_InvalidDemand___init__) (defBody s_InvalidDemand___init__) (defScope s_InvalidDemand___init__) (.ref T_x_InvalidDemand) kV_x_InvalidDemand dc_x_InvalidDemand pm_x_InvalidDemand an_x_InvalidDemand cd_x_InvalidDemand ct_x_InvalidDemand), sl_x_InvalidDemand⟩)
    (c_x_InvalidDemand : PySem.W.codeIn K cd_x_InvalidDemand "InvalidDemand.__init__" = true)
    (k_x_InvalidDemand : PySem.W.keepIn K (.ref f_x_InvalidDemand) = true)
    (lT_InvalidDemand : K.lookup T_x_InvalidDemand = some ⟨ocT_InvalidDemand, odT_InvalidDemand, .seq #[.none] nT_InvalidDemand, slT_InvalidDemand⟩)
    (kC_InvalidDemand : PySem.W.keepIn K (.ref C_InvalidDemand) = true)
    (eC_InvalidDemand : PySem.W.subIn K (.ref C_InvalidDemand) (.type "BaseException") = some true)
    (tC_InvalidDemand : PySem.W.typeIn K (.ref C_InvalidDemand) = some (.type "type"))
    (hC_InvalidDemand : PySem.W.hasDictIn K C_InvalidDemand = true)
    (i1_InvalidDemand : PySem.W.findIn K (.ref C_InvalidDemand) "__class__" = some (some (.builtin "object.__class__")))
    (i4_InvalidDemand : PySem.W.mroIn K C_InvalidDemand (.type "object") = some true)
    (g_InvalidStory : PySem.W.nsIn K mainGlobals "InvalidStory" = some (some (.ref C_InvalidStory)))
    (xL_InvalidStory : K.lookup C_InvalidStory = some (excClassObj nm_InvalidStory q_InvalidStory C_InvalidStory N_InvalidStory bs_InvalidStory [.ref CB_InvalidStory, .type "ValueError", .type "Exception", .type "BaseException", .type "object"] true sn_InvalidStory sub_InvalidStory ab_InvalidStory col_InvalidStory dd_InvalidStory m0_InvalidStory m1_InvalidStory m2_InvalidStory m3_InvalidStory m5_InvalidStory "ValueError.__new__"))
    (sa_InvalidStory : PySem.W.findIn K (.ref C_InvalidStory) "__setattr__" = some (some (.builtin "object.__setattr__")))
    (ga_InvalidStory : PySem.W.findIn K (.ref C_InvalidStory) "__getattribute__" = some (some (.builtin "BaseException.__getattribute__")))
    (gg_InvalidStory : PySem.W.findIn K (.ref C_InvalidStory) "__getattr__" = some none)
    (no0_InvalidStory : PySem.W.findIn K (.ref C_InvalidStory) "value" = some none)
    (in_InvalidStory : PySem.W.findIn K (.ref C_InvalidStory) "__init__" = some (some (.ref f_x_InvalidStory)))
    (ti_InvalidStory : PySem.W.typeIn K (.ref f_x_InvalidStory) = some (.type "function"))
    (l_x_InvalidStory : K.lookup f_x_InvalidStory = some ⟨oc_x_InvalidStory, od_x_InvalidStory, .func (PySem.W.fnOf "__init__" "InvalidStory.__init__" (defArgs s_InvalidStory___init__) (defBody s_InvalidStory___init__) (defScope s_InvalidStory___init__) (.ref T_x_InvalidStory) kV_x_InvalidStory dc_x_InvalidStory pm_x_InvalidStory an_x_InvalidStory cd_x_InvalidStory ct_x_InvalidStory), sl_x_InvalidStory⟩)
    (c_x_InvalidStory : PySem.W.codeIn K cd_x_InvalidStory "InvalidStory.__init__" = true)
    (k_x_InvalidStory : PySem.W.keepIn K (.ref f_x_InvalidStory) = true)
    (lT_InvalidStory : K.lookup T_x_InvalidStory = some ⟨ocT_InvalidStory, odT_InvalidStory, .seq #[.none] nT_InvalidStory, slT_InvalidStory⟩)
    (kC_InvalidStory : PySem.W.keepIn K (.ref C_InvalidStory) = true)
    (eC_InvalidStory : PySem.W.subIn K (.ref C_InvalidStory) (.type "BaseException") = some true)
    (tC_InvalidStory : PySem.W.typeIn K (.ref C_InvalidStory) = some (.type "type"))
    (hC_InvalidStory : PySem.W.hasDictIn K C_InvalidStory = true)
    (i1_InvalidStory : PySem.W.findIn K (.ref C_InvalidStory) "__class__" = some (some (.builtin "object.__class__")))
    (i4_InvalidStory : PySem.W.mroIn K C_InvalidStory (.type "object") = some true)
    (g_InvalidChange : PySem.W.nsIn K mainGlobals "InvalidChange" = some (some (.ref C_InvalidChange)))
    (xL_InvalidChange : K.lookup C_InvalidChange = some (excClassObj nm_InvalidChange q_InvalidChange C_InvalidChange N_InvalidChange bs_InvalidChange [.ref CB_InvalidChange, .type "ValueError", .type "Exception", .type "BaseException", .type "object"] true sn_InvalidChange sub_InvalidChange ab_InvalidChange col_InvalidChange dd_InvalidChange m0_InvalidChange m1_InvalidChange m2_InvalidChange m3_InvalidChange m5_InvalidChange "ValueError.__new__"))
    (sa_InvalidChange : PySem.W.findIn K (.ref C_InvalidChange) "__setattr__" = some (some (.builtin "object.__setattr__")))
    (ga_InvalidChange : PySem.W.findIn K (.ref C_InvalidChange) "__getattribute__" = some (some (.builtin "BaseException.__getattribute__")))
    (gg_InvalidChange : PySem.W.findIn K (.ref C_InvalidChange) "__getattr__" = some none)
    (no0_InvalidChange : PySem.W.findIn K (.ref C_InvalidChange) "value" = some none)
    (in_InvalidChange : PySem.W.findIn K (.ref C_InvalidChange) "__init__" = some (some (.ref f_x_InvalidChange)))
    (ti_InvalidChange : PySem.W.typeIn K (.ref f_x_InvalidChange) = some (.type "function"))
    (l_x_InvalidChange : K.lookup f_x_InvalidChange = some ⟨oc_x_InvalidChange, od_x_InvalidChange, .func (PySem.W.fnOf "__init__" "InvalidChange.__init__" (defArgs s_InvalidChange___init__) (defBody s_InvalidChange___init__) (defScope s_InvalidChange___init__) (.ref T_x_InvalidChange) kV_x_InvalidChange dc_x_InvalidChange pm_x_InvalidChange an_x_InvalidChange cd_x_InvalidChange ct_x_InvalidChange), sl_x_InvalidChange⟩)
    (c_x_InvalidChange : PySem.W.codeIn K cd_x_InvalidChange "InvalidChange.__init__" = true)
    (k_x_InvalidChange : PySem.W.keepIn K (.ref f_x_InvalidChange) = true)
    (lT_InvalidChange : K.lookup T_x_InvalidChange = some ⟨ocT_InvalidChange, odT_InvalidChange, .seq #[.none] nT_InvalidChange, slT_InvalidChange⟩)
    (kC_InvalidChange : PySem.W.keepIn K (.ref C_InvalidChange) = true)
    (eC_InvalidChange : PySem.W.subIn K (.ref C_InvalidChange) (.type "BaseException") = some true)
    (tC_InvalidChange : PySem.W.typeIn K (.ref C_InvalidChange) = some (.type "type"))
    (hC_InvalidChange : PySem.W.hasDictIn K C_InvalidChange = true)
    (i1_InvalidChange : PySem.W.findIn K (.ref C_InvalidChange) "__class__" = some (some (.builtin "object.__class__")))
    (i4_InvalidChange : PySem.W.mroIn K C_InvalidChange (.type "object") = some true)
    (g_InvalidNumber : PySem.W.nsIn K mainGlobals "InvalidNumber" = some (some (.ref C_InvalidNumber)))
    (xL_InvalidNumber : K.lookup C_InvalidNumber = some (excClassObj nm_InvalidNumber q_InvalidNumber C_InvalidNumber N_InvalidNumber bs_InvalidNumber [.ref CB_InvalidNumber, .type "ValueError", .type "Exception", .type "BaseException", .type "object"] true sn_InvalidNumber sub_InvalidNumber ab_InvalidNumber col_InvalidNumber dd_InvalidNumber m0_InvalidNumber m1_InvalidNumber m2_InvalidNumber m3_InvalidNumber m5_InvalidNumber "ValueError.__new__"))
    (sa_InvalidNumber : PySem.W.findIn K (.ref C_InvalidNumber) "__setattr__" = some (some (.builtin "object.__setattr__")))
    (ga_InvalidNumber : PySem.W.findIn K (.ref C_InvalidNumber) "__getattribute__" = some (some (.builtin "BaseException.__getattribute__")))
    (gg_InvalidNumber : PySem.W.findIn K (.ref C_InvalidNumber) "__getattr__" = some none)
    (no0_InvalidNumber : PySem.W.findIn K (.ref C_InvalidNumber) "value" = some none)
    (in_InvalidNumber : PySem.W.findIn K (.ref C_InvalidNumber) "__init__" = some (some (.ref f_x_InvalidNumber)))
    (ti_InvalidNumber : PySem.W.typeIn K (.ref f_x_InvalidNumber) = some (.type "function"))
    (l_x_InvalidNumber : K.lookup f_x_InvalidNumber = some ⟨oc_x_InvalidNumber, od_x_InvalidNumber, .func (PySem.W.fnOf "__init__" "InvalidNumber.__init__" (defArgs s_InvalidNumber___init__) (defBody s_InvalidNumber___init__) (defScope s_InvalidNumber___init__) (.ref T_x_InvalidNumber) kV_x_InvalidNumber dc_x_InvalidNumber pm_x_InvalidNumber an_x_InvalidNumber cd_x_InvalidNumber ct_x_InvalidNumber), sl_x_InvalidNumber⟩)
    (c_x_InvalidNumber : PySem.W.codeIn K cd_x_InvalidNumber "InvalidNumber.__init__" = true)
    (k_x_InvalidNumber : PySem.W.keepIn K (.ref f_x_InvalidNumber) = true)
    (lT_InvalidNumber : K.lookup T_x_InvalidNumber = some ⟨ocT_InvalidNumber, odT_InvalidNumber, .seq #[.none] nT_InvalidNumber, slT_InvalidNumber⟩)
    (kC_InvalidNumber : PySem.W.keepIn K (.ref C_InvalidNumber) = true)
    (eC_InvalidNumber : PySem.W.subIn K (.ref C_InvalidNumber) (.type "BaseException") = some true)
    (tC_InvalidNumber : PySem.W.typeIn K (.ref C_InvalidNumber) = some (.type "type"))
    (hC_InvalidNumber : PySem.W.hasDictIn K C_InvalidNumber = true)
    (i1_InvalidNumber : PySem.W.findIn K (.ref C_InvalidNumber) "__class__" = some (some (.builtin "object.__class__")))
    (i4_InvalidNumber : PySem.W.mroIn K C_InvalidNumber (.type "object") = some true)
    (g_InvalidList : PySem.W.nsIn K mainGlobals "InvalidList" = some (some (.ref C_InvalidList)))
    (xL_InvalidList : K.lookup C_InvalidList = some (excClassObj nm_InvalidList q_InvalidList C_InvalidList N_InvalidList bs_InvalidList [.ref CB_InvalidList, .type "ValueError", .type "Exception", .type "BaseException", .type "object"] true sn_InvalidList sub_InvalidList ab_InvalidList col_InvalidList dd_InvalidList m0_InvalidList m1_InvalidList m2_InvalidList m3_InvalidList m5_InvalidList "ValueError.__new__"))
    (sa_InvalidList : PySem.W.findIn K (.ref C_InvalidList) "__setattr__" = some (some (.builtin "object.__setattr__")))
    (ga_InvalidList : PySem.W.findIn K (.ref C_InvalidList) "__getattribute__" = some (some (.builtin "BaseException.__getattribute__")))
    (gg_InvalidList : PySem.W.findIn K (.ref C_InvalidList) "__getattr__" = some none)
    (no0_InvalidList : PySem.W.findIn K (.ref C_InvalidList) "value" = some none)
    (in_InvalidList : PySem.W.findIn K (.ref C_InvalidList) "__init__" = some (some (.ref f_x_InvalidList)))
    (ti_InvalidList : PySem.W.typeIn K (.ref f_x_InvalidList) = some (.type "function"))
    (l_x_InvalidList : K.lookup f_x_InvalidList = some ⟨oc_x_InvalidList, od_x_InvalidList, .func (PySem.W.fnOf "__init__" "InvalidList.__init__" (defArgs s_InvalidList___init__) (defBody s_InvalidList___init__) (defScope s_InvalidList___init__) (.ref T_x_InvalidList) kV_x_InvalidList dc_x_InvalidList pm_x_InvalidList an_x_InvalidList cd_x_InvalidList ct_x_InvalidList), sl_x_InvalidList⟩)
    (c_x_InvalidList : PySem.W.codeIn K cd_x_InvalidList "InvalidList.__init__" = true)
    (k_x_InvalidList : PySem.W.keepIn K (.ref f_x_InvalidList) = true)
    (lT_InvalidList : K.lookup T_x_InvalidList = some ⟨ocT_InvalidList, odT_InvalidList, .seq #[.none] nT_InvalidList, slT_InvalidList⟩)
    (kC_InvalidList : PySem.W.keepIn K (.ref C_InvalidList) = true)
    (eC_InvalidList : PySem.W.subIn K (.ref C_InvalidList) (.type "BaseException") = some true)
    (tC_InvalidList : PySem.W.typeIn K (.ref C_InvalidList) = some (.type "type"))
    (hC_InvalidList : PySem.W.hasDictIn K C_InvalidList = true)
    (i1_InvalidList : PySem.W.findIn K (.ref C_InvalidList) "__class__" = some (some (.builtin "object.__class__")))
    (i4_InvalidList : PySem.W.mroIn K C_InvalidList (.type "object") = some true)
    (g_InvalidText : PySem.W.nsIn K mainGlobals "InvalidText" = some (some (.ref C_InvalidText)))
    (xL_InvalidText : K.lookup C_InvalidText = some (excClassObj nm_InvalidText q_InvalidText C_InvalidText N_InvalidText bs_InvalidText [.ref CB_InvalidText, .type "ValueError", .type "Exception", .type "BaseException", .type "object"] true sn_InvalidText sub_InvalidText ab_InvalidText col_InvalidText dd_InvalidText m0_InvalidText m1_InvalidText m2_InvalidText m3_InvalidText m5_InvalidText "ValueError.__new__"))
    (sa_InvalidText : PySem.W.findIn K (.ref C_InvalidText) "__setattr__" = some (some (.builtin "object.__setattr__")))
    (ga_InvalidText : PySem.W.findIn K (.ref C_InvalidText) "__getattribute__" = some (some (.builtin "BaseException.__getattribute__")))
    (gg_InvalidText : PySem.W.findIn K (.ref C_InvalidText) "__getattr__" = some none)
    (no0_InvalidText : PySem.W.findIn K (.ref C_InvalidText) "line" = some none)
    (in_InvalidText : PySem.W.findIn K (.ref C_InvalidText) "__init__" = some (some (.ref f_x_InvalidText)))
    (ti_InvalidText : PySem.W.typeIn K (.ref f_x_InvalidText) = some (.type "function"))
    (l_x_InvalidText : K.lookup f_x_InvalidText = some ⟨oc_x_InvalidText, od_x_InvalidText, .func (PySem.W.fnOf "__init__" "InvalidText.__init__" (defArgs s_InvalidText___init__) (defBody s_InvalidText___init__) (defScope s_InvalidText___init__) (.ref T_x_InvalidText) kV_x_InvalidText dc_x_InvalidText pm_x_InvalidText an_x_InvalidText cd_x_InvalidText ct_x_InvalidText), sl_x_InvalidText⟩)
    (c_x_InvalidText : PySem.W.codeIn K cd_x_InvalidText "InvalidText.__init__" = true)
    (k_x_InvalidText : PySem.W.keepIn K (.ref f_x_InvalidText) = true)
    (lT_InvalidText : K.lookup T_x_InvalidText = some ⟨ocT_InvalidText, odT_InvalidText, .seq #[.none] nT_InvalidText, slT_InvalidText⟩)
    (kC_InvalidText : PySem.W.keepIn K (.ref C_InvalidText) = true)
    (eC_InvalidText : PySem.W.subIn K (.ref C_InvalidText) (.type "BaseException") = some true)
    (tC_InvalidText : PySem.W.typeIn K (.ref C_InvalidText) = some (.type "type"))
    (hC_InvalidText : PySem.W.hasDictIn K C_InvalidText = true)
    (i1_InvalidText : PySem.W.findIn K (.ref C_InvalidText) "__class__" = some (some (.builtin "object.__class__")))
    (i4_InvalidText : PySem.W.mroIn K C_InvalidText (.type "object") = some true)
    (g_Missing : PySem.W.nsIn K mainGlobals "Missing" = some (some (.ref C_Missing)))
    (xL_Missing : K.lookup C_Missing = some (excClassObj nm_Missing q_Missing C_Missing N_Missing bs_Missing [.ref CB_Missing, .type "ValueError", .type "Exception", .type "BaseException", .type "object"] true sn_Missing sub_Missing ab_Missing col_Missing dd_Missing m0_Missing m1_Missing m2_Missing m3_Missing m5_Missing "ValueError.__new__"))
    (sa_Missing : PySem.W.findIn K (.ref C_Missing) "__setattr__" = some (some (.builtin "object.__setattr__")))
    (ga_Missing : PySem.W.findIn K (.ref C_Missing) "__getattribute__" = some (some (.builtin "BaseException.__getattribute__")))
    (gg_Missing : PySem.W.findIn K (.ref C_Missing) "__getattr__" = some none)
    (no0_Missing : PySem.W.findIn K (.ref C_Missing) "place" = some none)
    (in_Missing : PySem.W.findIn K (.ref C_Missing) "__init__" = some (some (.ref f_x_Missing)))
    (ti_Missing : PySem.W.typeIn K (.ref f_x_Missing) = some (.type "function"))
    (l_x_Missing : K.lookup f_x_Missing = some ⟨oc_x_Missing, od_x_Missing, .func (PySem.W.fnOf "__init__" "Missing.__init__" (defArgs s_Missing___init__) (defBody s_Missing___init__) (defScope s_Missing___init__) (.ref T_x_Missing) kV_x_Missing dc_x_Missing pm_x_Missing an_x_Missing cd_x_Missing ct_x_Missing), sl_x_Missing⟩)
    (c_x_Missing : PySem.W.codeIn K cd_x_Missing "Missing.__init__" = true)
    (k_x_Missing : PySem.W.keepIn K (.ref f_x_Missing) = true)
    (lT_Missing : K.lookup T_x_Missing = some ⟨ocT_Missing, odT_Missing, .seq #[.none] nT_Missing, slT_Missing⟩)
    (kC_Missing : PySem.W.keepIn K (.ref C_Missing) = true)
    (eC_Missing : PySem.W.subIn K (.ref C_Missing) (.type "BaseException") = some true)
    (tC_Missing : PySem.W.typeIn K (.ref C_Missing) = some (.type "type"))
    (hC_Missing : PySem.W.hasDictIn K C_Missing = true)
    (i1_Missing : PySem.W.findIn K (.ref C_Missing) "__class__" = some (some (.builtin "object.__class__")))
    (i4_Missing : PySem.W.mroIn K C_Missing (.type "object") = some true)
    (g_Occupied : PySem.W.nsIn K mainGlobals "Occupied" = some (some (.ref C_Occupied)))
    (xL_Occupied : K.lookup C_Occupied = some (excClassObj nm_Occupied q_Occupied C_Occupied N_Occupied bs_Occupied [.ref CB_Occupied, .type "ValueError", .type "Exception", .type "BaseException", .type "object"] true sn_Occupied sub_Occupied ab_Occupied col_Occupied dd_Occupied m0_Occupied m1_Occupied m2_Occupied m3_Occupied m5_Occupied "ValueError.__new__"))
    (sa_Occupied : PySem.W.findIn K (.ref C_Occupied) "__setattr__" = some (some (.builtin "object.__setattr__")))
    (ga_Occupied : PySem.W.findIn K (.ref C_Occupied) "__getattribute__" = some (some (.builtin "BaseException.__getattribute__")))
    (gg_Occupied : PySem.W.findIn K (.ref C_Occupied) "__getattr__" = some none)
    (no0_Occupied : PySem.W.findIn K (.ref C_Occupied) "place" = some none)
    (in_Occupied : PySem.W.findIn K (.ref C_Occupied) "__init__" = some (some (.ref f_x_Occupied)))
    (ti_Occupied : PySem.W.typeIn K (.ref f_x_Occupied) = some (.type "function"))
    (l_x_Occupied : K.lookup f_x_Occupied = some ⟨oc_x_Occupied, od_x_Occupied, .func (PySem.W.fnOf "__init__" "Occupied.__init__" (defArgs s_Occupied___init__) (defBody s_Occupied___init__) (defScope s_Occupied___init__) (.ref T_x_Occupied) kV_x_Occupied dc_x_Occupied pm_x_Occupied an_x_Occupied cd_x_Occupied ct_x_Occupied), sl_x_Occupied⟩)
    (c_x_Occupied : PySem.W.codeIn K cd_x_Occupied "Occupied.__init__" = true)
    (k_x_Occupied : PySem.W.keepIn K (.ref f_x_Occupied) = true)
    (lT_Occupied : K.lookup T_x_Occupied = some ⟨ocT_Occupied, odT_Occupied, .seq #[.none] nT_Occupied, slT_Occupied⟩)
    (kC_Occupied : PySem.W.keepIn K (.ref C_Occupied) = true)
    (eC_Occupied : PySem.W.subIn K (.ref C_Occupied) (.type "BaseException") = some true)
    (tC_Occupied : PySem.W.typeIn K (.ref C_Occupied) = some (.type "type"))
    (hC_Occupied : PySem.W.hasDictIn K C_Occupied = true)
    (i1_Occupied : PySem.W.findIn K (.ref C_Occupied) "__class__" = some (some (.builtin "object.__class__")))
    (i4_Occupied : PySem.W.mroIn K C_Occupied (.type "object") = some true)
    (g_Barred : PySem.W.nsIn K mainGlobals "Barred" = some (some (.ref C_Barred)))
    (xL_Barred : K.lookup C_Barred = some (excClassObj nm_Barred q_Barred C_Barred N_Barred bs_Barred [.ref CB_Barred, .type "ValueError", .type "Exception", .type "BaseException", .type "object"] true sn_Barred sub_Barred ab_Barred col_Barred dd_Barred m0_Barred m1_Barred m2_Barred m3_Barred m5_Barred "ValueError.__new__"))
    (sa_Barred : PySem.W.findIn K (.ref C_Barred) "__setattr__" = some (some (.builtin "object.__setattr__")))
    (ga_Barred : PySem.W.findIn K (.ref C_Barred) "__getattribute__" = some (some (.builtin "BaseException.__getattribute__")))
    (gg_Barred : PySem.W.findIn K (.ref C_Barred) "__getattr__" = some none)
    (no0_Barred : PySem.W.findIn K (.ref C_Barred) "one" = some none)
    (no1_Barred : PySem.W.findIn K (.ref C_Barred) "other" = some none)
    (in_Barred : PySem.W.findIn K (.ref C_Barred) "__init__" = some (some (.ref f_x_Barred)))
    (ti_Barred : PySem.W.typeIn K (.ref f_x_Barred) = some (.type "function"))
    (l_x_Barred : K.lookup f_x_Barred = some ⟨oc_x_Barred, od_x_Barred, .func (PySem.W.fnOf "__init__" "Barred.__init__" (defArgs s_Barred___init__) (defBody s_Barred___init__) (defScope s_Barred___init__) (.ref T_x_Barred) kV_x_Barred dc_x_Barred pm_x_Barred an_x_Barred cd_x_Barred ct_x_Barred), sl_x_Barred⟩)
    (c_x_Barred : PySem.W.codeIn K cd_x_Barred "Barred.__init__" = true)
    (k_x_Barred : PySem.W.keepIn K (.ref f_x_Barred) = true)
    (lT_Barred : K.lookup T_x_Barred = some ⟨ocT_Barred, odT_Barred, .seq #[.none, .none] nT_Barred, slT_Barred⟩)
    (kC_Barred : PySem.W.keepIn K (.ref C_Barred) = true)
    (eC_Barred : PySem.W.subIn K (.ref C_Barred) (.type "BaseException") = some true)
    (tC_Barred : PySem.W.typeIn K (.ref C_Barred) = some (.type "type"))
    (hC_Barred : PySem.W.hasDictIn K C_Barred = true)
    (i1_Barred : PySem.W.findIn K (.ref C_Barred) "__class__" = some (some (.builtin "object.__class__")))
    (i4_Barred : PySem.W.mroIn K C_Barred (.type "object") = some true)
    (g_Failed : PySem.W.nsIn K mainGlobals "Failed" = some (some (.ref C_Failed)))
    (xL_Failed : K.lookup C_Failed = some (excClassObj nm_Failed q_Failed C_Failed N_Failed bs_Failed [.ref CB_Failed, .type "ValueError", .type "Exception", .type "BaseException", .type "object"] true sn_Failed sub_Failed ab_Failed col_Failed dd_Failed m0_Failed m1_Failed m2_Failed m3_Failed m5_Failed "ValueError.__new__"))
    (sa_Failed : PySem.W.findIn K (.ref C_Failed) "__setattr__" = some (some (.builtin "object.__setattr__")))
    (ga_Failed : PySem.W.findIn K (.ref C_Failed) "__getattribute__" = some (some (.builtin "BaseException.__getattribute__")))
    (gg_Failed : PySem.W.findIn K (.ref C_Failed) "__getattr__" = some none)
    (no0_Failed : PySem.W.findIn K (.ref C_Failed) "step" = some none)
    (no1_Failed : PySem.W.findIn K (.ref C_Failed) "why" = some none)
    (in_Failed : PySem.W.findIn K (.ref C_Failed) "__init__" = some (some (.ref f_x_Failed)))
    (ti_Failed : PySem.W.typeIn K (.ref f_x_Failed) = some (.type "function"))
    (l_x_Failed : K.lookup f_x_Failed = some ⟨oc_x_Failed, od_x_Failed, .func (PySem.W.fnOf "__init__" "Failed.__init__" (defArgs s_Failed___init__) (defBody s_Failed___init__) (defScope s_Failed___init__) (.ref T_x_Failed) kV_x_Failed dc_x_Failed pm_x_Failed an_x_Failed cd_x_Failed ct_x_Failed), sl_x_Failed⟩)
    (c_x_Failed : PySem.W.codeIn K cd_x_Failed "Failed.__init__" = true)
    (k_x_Failed : PySem.W.keepIn K (.ref f_x_Failed) = true)
    (lT_Failed : K.lookup T_x_Failed = some ⟨ocT_Failed, odT_Failed, .seq #[.none, .none] nT_Failed, slT_Failed⟩)
    (kC_Failed : PySem.W.keepIn K (.ref C_Failed) = true)
    (eC_Failed : PySem.W.subIn K (.ref C_Failed) (.type "BaseException") = some true)
    (tC_Failed : PySem.W.typeIn K (.ref C_Failed) = some (.type "type"))
    (hC_Failed : PySem.W.hasDictIn K C_Failed = true)
    (i1_Failed : PySem.W.findIn K (.ref C_Failed) "__class__" = some (some (.builtin "object.__class__")))
    (i4_Failed : PySem.W.mroIn K C_Failed (.type "object") = some true)
    (g_Closed : PySem.W.nsIn K mainGlobals "Closed" = some (some (.ref C_Closed)))
    (xX_Closed : PySem.W.excIn K C_Closed [.type "ValueError", .type "Exception", .type "BaseException", .type "object"] "ValueError.__new__" = true)
    (kC_Closed : PySem.W.keepIn K (.ref C_Closed) = true)
    (ga_Closed : PySem.W.findIn K (.ref C_Closed) "__getattribute__" = some (some (.builtin "BaseException.__getattribute__")))
    (gg_Closed : PySem.W.findIn K (.ref C_Closed) "__getattr__" = some none)
    (eC_Closed : PySem.W.subIn K (.ref C_Closed) (.type "BaseException") = some true)
    (hC_Closed : PySem.W.hasDictIn K C_Closed = true)
    (i1_Closed : PySem.W.findIn K (.ref C_Closed) "__class__" = some (some (.builtin "object.__class__")))
    (i4_Closed : PySem.W.mroIn K C_Closed (.type "object") = some true)
    (g_CB : PySem.W.nsIn K mainGlobals "BetweenError" = some (some (.ref CB)))
    (kkA : ((List.range 17).all fun i => (List.range 17).all fun j => PySem.W.kitOne K (.ref ([C_InvalidName, C_InvalidPlace, C_InvalidForm, C_InvalidLook, C_InvalidLog, C_InvalidRules, C_InvalidDemand, C_InvalidStory, C_InvalidChange, C_InvalidNumber, C_InvalidList, C_InvalidText, C_Missing, C_Occupied, C_Barred, C_Failed, C_Closed].getD i 0)) (.ref ([C_InvalidName, C_InvalidPlace, C_InvalidForm, C_InvalidLook, C_InvalidLog, C_InvalidRules, C_InvalidDemand, C_InvalidStory, C_InvalidChange, C_InvalidNumber, C_InvalidList, C_InvalidText, C_Missing, C_Occupied, C_Barred, C_Failed, C_Closed].getD j 0)) == some (decide (j = i))) = true)
    (kkB : ((List.range 17).all fun i => PySem.W.kitOne K (.ref ([C_InvalidName, C_InvalidPlace, C_InvalidForm, C_InvalidLook, C_InvalidLog, C_InvalidRules, C_InvalidDemand, C_InvalidStory, C_InvalidChange, C_InvalidNumber, C_InvalidList, C_InvalidText, C_Missing, C_Occupied, C_Barred, C_Failed, C_Closed].getD i 0)) (.ref CB) == some true) = true)
    (kkV : ((List.range 17).all fun i => PySem.W.kitOne K (.ref ([C_InvalidName, C_InvalidPlace, C_InvalidForm, C_InvalidLook, C_InvalidLog, C_InvalidRules, C_InvalidDemand, C_InvalidStory, C_InvalidChange, C_InvalidNumber, C_InvalidList, C_InvalidText, C_Missing, C_Occupied, C_Barred, C_Failed, C_Closed].getD i 0)) (.type "ValueError") == some true) = true) :
    ∃ fd : FuncData, (∀ (s : Shared) (v : Value), BindsTo s fd ⟨[v], []⟩ [("_law_script", v)]) ∧ ∀ base : Heap, K.In base → base.Ns mainGlobals mg → FnOk l.prog w K mg base CX0 6 fa fd ["_law_script"] (spLaw K) := by
  have e := hfa.symm.trans (PySem.W.mg_of X G a_law)
  cases e
  have N_isinstance : mg "isinstance" = none := PySem.W.mg_none_of X G z_isinstance
  have N_range : mg "range" = none := PySem.W.mg_none_of X G z_range
  have N_enumerate : mg "enumerate" = none := PySem.W.mg_none_of X G z_enumerate
  have N_ValueError : mg "ValueError" = none := PySem.W.mg_none_of X G z_ValueError
  have N_int : mg "int" = none := PySem.W.mg_none_of X G z_int
  have N_sum : mg "sum" = none := PySem.W.mg_none_of X G z_sum
  have D__law_kinds : Df K mg "_law_kinds" s__law_kinds ["_law_error"] := ⟨f__law_kinds, _, fun_mk (st := s__law_kinds) l__law_kinds c__law_kinds k__law_kinds, PySem.W.mg_of X G a__law_kinds, (fun_mk (st := s__law_kinds) l__law_kinds c__law_kinds k__law_kinds).binds fun _ _ _ _ _ _ us hl => match us, hl with | [_], _ => rfl⟩
  have D__law_right : Df K mg "_law_right" s__law_right ["_law_errors"] := ⟨f__law_right, _, fun_mk (st := s__law_right) l__law_right c__law_right k__law_right, PySem.W.mg_of X G a__law_right, (fun_mk (st := s__law_right) l__law_right c__law_right k__law_right).binds fun _ _ _ _ _ _ us hl => match us, hl with | [_], _ => rfl⟩
  have D__law_values : Df K mg "_law_values" s__law_values ["_law_errors"] := ⟨f__law_values, _, fun_mk (st := s__law_values) l__law_values c__law_values k__law_values, PySem.W.mg_of X G a__law_values, (fun_mk (st := s__law_values) l__law_values c__law_values k__law_values).binds fun _ _ _ _ _ _ us hl => match us, hl with | [_], _ => rfl⟩
  have D__law_thing : Df K mg "_law_thing" s__law_thing ["_law_cell"] := ⟨f__law_thing, _, fun_mk (st := s__law_thing) l__law_thing c__law_thing k__law_thing, PySem.W.mg_of X G a__law_thing, (fun_mk (st := s__law_thing) l__law_thing c__law_thing k__law_thing).binds fun _ _ _ _ _ _ us hl => match us, hl with | [_], _ => rfl⟩
  have D__law_placed : Df K mg "_law_placed" s__law_placed ["_law_left", "_law_right_here"] := ⟨f__law_placed, _, fun_mk (st := s__law_placed) l__law_placed c__law_placed k__law_placed, PySem.W.mg_of X G a__law_placed, (fun_mk (st := s__law_placed) l__law_placed c__law_placed k__law_placed).binds fun _ _ _ _ _ _ us hl => match us, hl with | [_, _], _ => rfl⟩
  have D__law_named : Df K mg "_law_named" s__law_named ["_law_left", "_law_right_here"] := ⟨f__law_named, _, fun_mk (st := s__law_named) l__law_named c__law_named k__law_named, PySem.W.mg_of X G a__law_named, (fun_mk (st := s__law_named) l__law_named c__law_named k__law_named).binds fun _ _ _ _ _ _ us hl => match us, hl with | [_, _], _ => rfl⟩
  have D__law_bare : Df K mg "_law_bare" s__law_bare [] := ⟨f__law_bare, _, fun_mk (st := s__law_bare) l__law_bare c__law_bare k__law_bare, PySem.W.mg_of X G a__law_bare, (fun_mk (st := s__law_bare) l__law_bare c__law_bare k__law_bare).binds fun _ _ _ _ _ _ us hl => match us, hl with | [], _ => rfl⟩
  have EC_InvalidName : ExcC K C_InvalidName := ⟨ga_InvalidName, gg_InvalidName, eC_InvalidName, hC_InvalidName, i1_InvalidName, i2_X, i3_X, i4_InvalidName⟩
  have FD_InvalidName : FunD K "__init__" "InvalidName.__init__" (defArgs s_InvalidName___init__) (defBody s_InvalidName___init__) (defScope s_InvalidName___init__) [.non] [] f_x_InvalidName _ := ⟨⟨_, _, _, _, _, _, _, _, _, _, rfl, l_x_InvalidName, c_x_InvalidName, .inr ⟨by simp, T_x_InvalidName, _, [.none], _, rfl, lT_InvalidName, rfl, (.cons rfl .nil)⟩, .inl rfl⟩, k_x_InvalidName⟩
  obtain ⟨d0_InvalidName, v0_InvalidName, b0_InvalidName⟩ := FD_InvalidName.binds1 (ps := ["self", "value"]) 2 1 (by simp) rfl fun _ _ _ _ _ _ _ us its hu hi => match us, its, hu, hi with | [_, _], [_], _, _ => ⟨_, rfl, rfl⟩
  obtain ⟨d1_InvalidName, v1_InvalidName, b1_InvalidName⟩ := FD_InvalidName.binds1 (ps := ["self", "value"]) 1 0 (by simp) rfl fun _ _ _ _ _ _ _ us its hu hi => match us, its, hu, hi with | [_], [_], _, _ => ⟨_, rfl, rfl⟩
  cases v0_InvalidName
  obtain ⟨it_InvalidName, kb_InvalidName⟩ := FD_InvalidName.kbindsD (ps := ["self", "value"]) 1 ["value"] (fun us its ws => us ++ ws) (by simp) (fun a b c => a.append c) fun _ _ _ _ _ _ _ us its ws hu hi hw => match us, its, ws, hu, hi, hw with | [_], [_], [_], _, _, _ => ⟨_, rfl, rfl⟩
  have XF_InvalidName : Er1 K mg "InvalidName" "value" C_InvalidName := ⟨PySem.W.mg_of X G g_InvalidName, ⟨⟨_, _, _, _, _, _, _, _, _, _, _, _, _, _, _, xL_InvalidName, ve_own⟩, sa_InvalidName, eC_InvalidName, tC_InvalidName, kC_InvalidName⟩, no0_InvalidName, ⟨ga_InvalidName, gg_InvalidName, eC_InvalidName, hC_InvalidName⟩, f_x_InvalidName, _, _, _, _, _, _, _, _, in_InvalidName, ti_InvalidName, FD_InvalidName, sc_InvalidName___init__, b0_InvalidName, ⟨_, v1_InvalidName, b1_InvalidName⟩, _, _, kb_InvalidName, fun _ _ => rfl⟩
  have EC_InvalidPlace : ExcC K C_InvalidPlace := ⟨ga_InvalidPlace, gg_InvalidPlace, eC_InvalidPlace, hC_InvalidPlace, i1_InvalidPlace, i2_X, i3_X, i4_InvalidPlace⟩
  have FD_InvalidPlace : FunD K "__init__" "InvalidPlace.__init__" (defArgs s_InvalidPlace___init__) (defBody s_InvalidPlace___init__) (defScope s_InvalidPlace___init__) [.non] [] f_x_InvalidPlace _ := ⟨⟨_, _, _, _, _, _, _, _, _, _, rfl, l_x_InvalidPlace, c_x_InvalidPlace, .inr ⟨by simp, T_x_InvalidPlace, _, [.none], _, rfl, lT_InvalidPlace, rfl, (.cons rfl .nil)⟩, .inl rfl⟩, k_x_InvalidPlace⟩
  obtain ⟨d0_InvalidPlace, v0_InvalidPlace, b0_InvalidPlace⟩ := FD_InvalidPlace.binds1 (ps := ["self", "value"]) 2 1 (by simp) rfl fun _ _ _ _ _ _ _ us its hu hi => match us, its, hu, hi with | [_, _], [_], _, _ => ⟨_, rfl, rfl⟩
  obtain ⟨d1_InvalidPlace, v1_InvalidPlace, b1_InvalidPlace⟩ := FD_InvalidPlace.binds1 (ps := ["self", "value"]) 1 0 (by simp) rfl fun _ _ _ _ _ _ _ us its hu hi => match us, its, hu, hi with | [_], [_], _, _ => ⟨_, rfl, rfl⟩
  cases v0_InvalidPlace
  obtain ⟨it_InvalidPlace, kb_InvalidPlace⟩ := FD_InvalidPlace.kbindsD (ps := ["self", "value"]) 1 ["value"] (fun us its ws => us ++ ws) (by simp) (fun a b c => a.append c) fun _ _ _ _ _ _ _ us its ws hu hi hw => match us, its, ws, hu, hi, hw with | [_], [_], [_], _, _, _ => ⟨_, rfl, rfl⟩
  have XF_InvalidPlace : Er1 K mg "InvalidPlace" "value" C_InvalidPlace := ⟨PySem.W.mg_of X G g_InvalidPlace, ⟨⟨_, _, _, _, _, _, _, _, _, _, _, _, _, _, _, xL_InvalidPlace, ve_own⟩, sa_InvalidPlace, eC_InvalidPlace, tC_InvalidPlace, kC_InvalidPlace⟩, no0_InvalidPlace, ⟨ga_InvalidPlace, gg_InvalidPlace, eC_InvalidPlace, hC_InvalidPlace⟩, f_x_InvalidPlace, _, _, _, _, _, _, _, _, in_InvalidPlace, ti_InvalidPlace, FD_InvalidPlace, sc_InvalidPlace___init__, b0_InvalidPlace, ⟨_, v1_InvalidPlace, b1_InvalidPlace⟩, _, _, kb_InvalidPlace, fun _ _ => rfl⟩
  have EC_InvalidForm : ExcC K C_InvalidForm := ⟨ga_InvalidForm, gg_InvalidForm, eC_InvalidForm, hC_InvalidForm, i1_InvalidForm, i2_X, i3_X, i4_InvalidForm⟩
  have FD_InvalidForm : FunD K "__init__" "InvalidForm.__init__" (defArgs s_InvalidForm___init__) (defBody s_InvalidForm___init__) (defScope s_InvalidForm___init__) [.non] [] f_x_InvalidForm _ := ⟨⟨_, _, _, _, _, _, _, _, _, _, rfl, l_x_InvalidForm, c_x_InvalidForm, .inr ⟨by simp, T_x_InvalidForm, _, [.none], _, rfl, lT_InvalidForm, rfl, (.cons rfl .nil)⟩, .inl rfl⟩, k_x_InvalidForm⟩
  obtain ⟨d0_InvalidForm, v0_InvalidForm, b0_InvalidForm⟩ := FD_InvalidForm.binds1 (ps := ["self", "value"]) 2 1 (by simp) rfl fun _ _ _ _ _ _ _ us its hu hi => match us, its, hu, hi with | [_, _], [_], _, _ => ⟨_, rfl, rfl⟩
  obtain ⟨d1_InvalidForm, v1_InvalidForm, b1_InvalidForm⟩ := FD_InvalidForm.binds1 (ps := ["self", "value"]) 1 0 (by simp) rfl fun _ _ _ _ _ _ _ us its hu hi => match us, its, hu, hi with | [_], [_], _, _ => ⟨_, rfl, rfl⟩
  cases v0_InvalidForm
  obtain ⟨it_InvalidForm, kb_InvalidForm⟩ := FD_InvalidForm.kbindsD (ps := ["self", "value"]) 1 ["value"] (fun us its ws => us ++ ws) (by simp) (fun a b c => a.append c) fun _ _ _ _ _ _ _ us its ws hu hi hw => match us, its, ws, hu, hi, hw with | [_], [_], [_], _, _, _ => ⟨_, rfl, rfl⟩
  have XF_InvalidForm : Er1 K mg "InvalidForm" "value" C_InvalidForm := ⟨PySem.W.mg_of X G g_InvalidForm, ⟨⟨_, _, _, _, _, _, _, _, _, _, _, _, _, _, _, xL_InvalidForm, ve_own⟩, sa_InvalidForm, eC_InvalidForm, tC_InvalidForm, kC_InvalidForm⟩, no0_InvalidForm, ⟨ga_InvalidForm, gg_InvalidForm, eC_InvalidForm, hC_InvalidForm⟩, f_x_InvalidForm, _, _, _, _, _, _, _, _, in_InvalidForm, ti_InvalidForm, FD_InvalidForm, sc_InvalidForm___init__, b0_InvalidForm, ⟨_, v1_InvalidForm, b1_InvalidForm⟩, _, _, kb_InvalidForm, fun _ _ => rfl⟩
  have EC_InvalidLook : ExcC K C_InvalidLook := ⟨ga_InvalidLook, gg_InvalidLook, eC_InvalidLook, hC_InvalidLook, i1_InvalidLook, i2_X, i3_X, i4_InvalidLook⟩
  have FD_InvalidLook : FunD K "__init__" "InvalidLook.__init__" (defArgs s_InvalidLook___init__) (defBody s_InvalidLook___init__) (defScope s_InvalidLook___init__) [.non] [] f_x_InvalidLook _ := ⟨⟨_, _, _, _, _, _, _, _, _, _, rfl, l_x_InvalidLook, c_x_InvalidLook, .inr ⟨by simp, T_x_InvalidLook, _, [.none], _, rfl, lT_InvalidLook, rfl, (.cons rfl .nil)⟩, .inl rfl⟩, k_x_InvalidLook⟩
  obtain ⟨d0_InvalidLook, v0_InvalidLook, b0_InvalidLook⟩ := FD_InvalidLook.binds1 (ps := ["self", "value"]) 2 1 (by simp) rfl fun _ _ _ _ _ _ _ us its hu hi => match us, its, hu, hi with | [_, _], [_], _, _ => ⟨_, rfl, rfl⟩
  obtain ⟨d1_InvalidLook, v1_InvalidLook, b1_InvalidLook⟩ := FD_InvalidLook.binds1 (ps := ["self", "value"]) 1 0 (by simp) rfl fun _ _ _ _ _ _ _ us its hu hi => match us, its, hu, hi with | [_], [_], _, _ => ⟨_, rfl, rfl⟩
  cases v0_InvalidLook
  obtain ⟨it_InvalidLook, kb_InvalidLook⟩ := FD_InvalidLook.kbindsD (ps := ["self", "value"]) 1 ["value"] (fun us its ws => us ++ ws) (by simp) (fun a b c => a.append c) fun _ _ _ _ _ _ _ us its ws hu hi hw => match us, its, ws, hu, hi, hw with | [_], [_], [_], _, _, _ => ⟨_, rfl, rfl⟩
  have XF_InvalidLook : Er1 K mg "InvalidLook" "value" C_InvalidLook := ⟨PySem.W.mg_of X G g_InvalidLook, ⟨⟨_, _, _, _, _, _, _, _, _, _, _, _, _, _, _, xL_InvalidLook, ve_own⟩, sa_InvalidLook, eC_InvalidLook, tC_InvalidLook, kC_InvalidLook⟩, no0_InvalidLook, ⟨ga_InvalidLook, gg_InvalidLook, eC_InvalidLook, hC_InvalidLook⟩, f_x_InvalidLook, _, _, _, _, _, _, _, _, in_InvalidLook, ti_InvalidLook, FD_InvalidLook, sc_InvalidLook___init__, b0_InvalidLook, ⟨_, v1_InvalidLook, b1_InvalidLook⟩, _, _, kb_InvalidLook, fun _ _ => rfl⟩
  have EC_InvalidLog : ExcC K C_InvalidLog := ⟨ga_InvalidLog, gg_InvalidLog, eC_InvalidLog, hC_InvalidLog, i1_InvalidLog, i2_X, i3_X, i4_InvalidLog⟩
  have FD_InvalidLog : FunD K "__init__" "InvalidLog.__init__" (defArgs s_InvalidLog___init__) (defBody s_InvalidLog___init__) (defScope s_InvalidLog___init__) [.non] [] f_x_InvalidLog _ := ⟨⟨_, _, _, _, _, _, _, _, _, _, rfl, l_x_InvalidLog, c_x_InvalidLog, .inr ⟨by simp, T_x_InvalidLog, _, [.none], _, rfl, lT_InvalidLog, rfl, (.cons rfl .nil)⟩, .inl rfl⟩, k_x_InvalidLog⟩
  obtain ⟨d0_InvalidLog, v0_InvalidLog, b0_InvalidLog⟩ := FD_InvalidLog.binds1 (ps := ["self", "value"]) 2 1 (by simp) rfl fun _ _ _ _ _ _ _ us its hu hi => match us, its, hu, hi with | [_, _], [_], _, _ => ⟨_, rfl, rfl⟩
  obtain ⟨d1_InvalidLog, v1_InvalidLog, b1_InvalidLog⟩ := FD_InvalidLog.binds1 (ps := ["self", "value"]) 1 0 (by simp) rfl fun _ _ _ _ _ _ _ us its hu hi => match us, its, hu, hi with | [_], [_], _, _ => ⟨_, rfl, rfl⟩
  cases v0_InvalidLog
  obtain ⟨it_InvalidLog, kb_InvalidLog⟩ := FD_InvalidLog.kbindsD (ps := ["self", "value"]) 1 ["value"] (fun us its ws => us ++ ws) (by simp) (fun a b c => a.append c) fun _ _ _ _ _ _ _ us its ws hu hi hw => match us, its, ws, hu, hi, hw with | [_], [_], [_], _, _, _ => ⟨_, rfl, rfl⟩
  have XF_InvalidLog : Er1 K mg "InvalidLog" "value" C_InvalidLog := ⟨PySem.W.mg_of X G g_InvalidLog, ⟨⟨_, _, _, _, _, _, _, _, _, _, _, _, _, _, _, xL_InvalidLog, ve_own⟩, sa_InvalidLog, eC_InvalidLog, tC_InvalidLog, kC_InvalidLog⟩, no0_InvalidLog, ⟨ga_InvalidLog, gg_InvalidLog, eC_InvalidLog, hC_InvalidLog⟩, f_x_InvalidLog, _, _, _, _, _, _, _, _, in_InvalidLog, ti_InvalidLog, FD_InvalidLog, sc_InvalidLog___init__, b0_InvalidLog, ⟨_, v1_InvalidLog, b1_InvalidLog⟩, _, _, kb_InvalidLog, fun _ _ => rfl⟩
  have EC_InvalidRules : ExcC K C_InvalidRules := ⟨ga_InvalidRules, gg_InvalidRules, eC_InvalidRules, hC_InvalidRules, i1_InvalidRules, i2_X, i3_X, i4_InvalidRules⟩
  have FD_InvalidRules : FunD K "__init__" "InvalidRules.__init__" (defArgs s_InvalidRules___init__) (defBody s_InvalidRules___init__) (defScope s_InvalidRules___init__) [.non] [] f_x_InvalidRules _ := ⟨⟨_, _, _, _, _, _, _, _, _, _, rfl, l_x_InvalidRules, c_x_InvalidRules, .inr ⟨by simp, T_x_InvalidRules, _, [.none], _, rfl, lT_InvalidRules, rfl, (.cons rfl .nil)⟩, .inl rfl⟩, k_x_InvalidRules⟩
  obtain ⟨d0_InvalidRules, v0_InvalidRules, b0_InvalidRules⟩ := FD_InvalidRules.binds1 (ps := ["self", "value"]) 2 1 (by simp) rfl fun _ _ _ _ _ _ _ us its hu hi => match us, its, hu, hi with | [_, _], [_], _, _ => ⟨_, rfl, rfl⟩
  obtain ⟨d1_InvalidRules, v1_InvalidRules, b1_InvalidRules⟩ := FD_InvalidRules.binds1 (ps := ["self", "value"]) 1 0 (by simp) rfl fun _ _ _ _ _ _ _ us its hu hi => match us, its, hu, hi with | [_], [_], _, _ => ⟨_, rfl, rfl⟩
  cases v0_InvalidRules
  obtain ⟨it_InvalidRules, kb_InvalidRules⟩ := FD_InvalidRules.kbindsD (ps := ["self", "value"]) 1 ["value"] (fun us its ws => us ++ ws) (by simp) (fun a b c => a.append c) fun _ _ _ _ _ _ _ us its ws hu hi hw => match us, its, ws, hu, hi, hw with | [_], [_], [_], _, _, _ => ⟨_, rfl, rfl⟩
  have XF_InvalidRules : Er1 K mg "InvalidRules" "value" C_InvalidRules := ⟨PySem.W.mg_of X G g_InvalidRules, ⟨⟨_, _, _, _, _, _, _, _, _, _, _, _, _, _, _, xL_InvalidRules, ve_own⟩, sa_InvalidRules, eC_InvalidRules, tC_InvalidRules, kC_InvalidRules⟩, no0_InvalidRules, ⟨ga_InvalidRules, gg_InvalidRules, eC_InvalidRules, hC_InvalidRules⟩, f_x_InvalidRules, _, _, _, _, _, _, _, _, in_InvalidRules, ti_InvalidRules, FD_InvalidRules, sc_InvalidRules___init__, b0_InvalidRules, ⟨_, v1_InvalidRules, b1_InvalidRules⟩, _, _, kb_InvalidRules, fun _ _ => rfl⟩
  have EC_InvalidDemand : ExcC K C_InvalidDemand := ⟨ga_InvalidDemand, gg_InvalidDemand, eC_InvalidDemand, hC_InvalidDemand, i1_InvalidDemand, i2_X, i3_X, i4_InvalidDemand⟩
  have FD_InvalidDemand : FunD K "__init__" "InvalidDemand.__init__" (defArgs s_InvalidDemand___init__) (defBody s_InvalidDemand___init__) (defScope s_InvalidDemand___init__) [.non] [] f_x_InvalidDemand _ := ⟨⟨_, _, _, _, _, _, _, _, _, _, rfl, l_x_InvalidDemand, c_x_InvalidDemand, .inr ⟨by simp, T_x_InvalidDemand, _, [.none], _, rfl, lT_InvalidDemand, rfl, (.cons rfl .nil)⟩, .inl rfl⟩, k_x_InvalidDemand⟩
  obtain ⟨d0_InvalidDemand, v0_InvalidDemand, b0_InvalidDemand⟩ := FD_InvalidDemand.binds1 (ps := ["self", "value"]) 2 1 (by simp) rfl fun _ _ _ _ _ _ _ us its hu hi => match us, its, hu, hi with | [_, _], [_], _, _ => ⟨_, rfl, rfl⟩
  obtain ⟨d1_InvalidDemand, v1_InvalidDemand, b1_InvalidDemand⟩ := FD_InvalidDemand.binds1 (ps := ["self", "value"]) 1 0 (by simp) rfl fun _ _ _ _ _ _ _ us its hu hi => match us, its, hu, hi with | [_], [_], _, _ => ⟨_, rfl, rfl⟩
  cases v0_InvalidDemand
  obtain ⟨it_InvalidDemand, kb_InvalidDemand⟩ := FD_InvalidDemand.kbindsD (ps := ["self", "value"]) 1 ["value"] (fun us its ws => us ++ ws) (by simp) (fun a b c => a.append c) fun _ _ _ _ _ _ _ us its ws hu hi hw => match us, its, ws, hu, hi, hw with | [_], [_], [_], _, _, _ => ⟨_, rfl, rfl⟩
  have XF_InvalidDemand : Er1 K mg "InvalidDemand" "value" C_InvalidDemand := ⟨PySem.W.mg_of X G g_InvalidDemand, ⟨⟨_, _, _, _, _, _, _, _, _, _, _, _, _, _, _, xL_InvalidDemand, ve_own⟩, sa_InvalidDemand, eC_InvalidDemand, tC_InvalidDemand, kC_InvalidDemand⟩, no0_InvalidDemand, ⟨ga_InvalidDemand, gg_InvalidDemand, eC_InvalidDemand, hC_InvalidDemand⟩, f_x_InvalidDemand, _, _, _, _, _, _, _, _, in_InvalidDemand, ti_InvalidDemand, FD_InvalidDemand, sc_InvalidDemand___init__, b0_InvalidDemand, ⟨_, v1_InvalidDemand, b1_InvalidDemand⟩, _, _, kb_InvalidDemand, fun _ _ => rfl⟩
  have EC_InvalidStory : ExcC K C_InvalidStory := ⟨ga_InvalidStory, gg_InvalidStory, eC_InvalidStory, hC_InvalidStory, i1_InvalidStory, i2_X, i3_X, i4_InvalidStory⟩
  have FD_InvalidStory : FunD K "__init__" "InvalidStory.__init__" (defArgs s_InvalidStory___init__) (defBody s_InvalidStory___init__) (defScope s_InvalidStory___init__) [.non] [] f_x_InvalidStory _ := ⟨⟨_, _, _, _, _, _, _, _, _, _, rfl, l_x_InvalidStory, c_x_InvalidStory, .inr ⟨by simp, T_x_InvalidStory, _, [.none], _, rfl, lT_InvalidStory, rfl, (.cons rfl .nil)⟩, .inl rfl⟩, k_x_InvalidStory⟩
  obtain ⟨d0_InvalidStory, v0_InvalidStory, b0_InvalidStory⟩ := FD_InvalidStory.binds1 (ps := ["self", "value"]) 2 1 (by simp) rfl fun _ _ _ _ _ _ _ us its hu hi => match us, its, hu, hi with | [_, _], [_], _, _ => ⟨_, rfl, rfl⟩
  obtain ⟨d1_InvalidStory, v1_InvalidStory, b1_InvalidStory⟩ := FD_InvalidStory.binds1 (ps := ["self", "value"]) 1 0 (by simp) rfl fun _ _ _ _ _ _ _ us its hu hi => match us, its, hu, hi with | [_], [_], _, _ => ⟨_, rfl, rfl⟩
  cases v0_InvalidStory
  obtain ⟨it_InvalidStory, kb_InvalidStory⟩ := FD_InvalidStory.kbindsD (ps := ["self", "value"]) 1 ["value"] (fun us its ws => us ++ ws) (by simp) (fun a b c => a.append c) fun _ _ _ _ _ _ _ us its ws hu hi hw => match us, its, ws, hu, hi, hw with | [_], [_], [_], _, _, _ => ⟨_, rfl, rfl⟩
  have XF_InvalidStory : Er1 K mg "InvalidStory" "value" C_InvalidStory := ⟨PySem.W.mg_of X G g_InvalidStory, ⟨⟨_, _, _, _, _, _, _, _, _, _, _, _, _, _, _, xL_InvalidStory, ve_own⟩, sa_InvalidStory, eC_InvalidStory, tC_InvalidStory, kC_InvalidStory⟩, no0_InvalidStory, ⟨ga_InvalidStory, gg_InvalidStory, eC_InvalidStory, hC_InvalidStory⟩, f_x_InvalidStory, _, _, _, _, _, _, _, _, in_InvalidStory, ti_InvalidStory, FD_InvalidStory, sc_InvalidStory___init__, b0_InvalidStory, ⟨_, v1_InvalidStory, b1_InvalidStory⟩, _, _, kb_InvalidStory, fun _ _ => rfl⟩
  have EC_InvalidChange : ExcC K C_InvalidChange := ⟨ga_InvalidChange, gg_InvalidChange, eC_InvalidChange, hC_InvalidChange, i1_InvalidChange, i2_X, i3_X, i4_InvalidChange⟩
  have FD_InvalidChange : FunD K "__init__" "InvalidChange.__init__" (defArgs s_InvalidChange___init__) (defBody s_InvalidChange___init__) (defScope s_InvalidChange___init__) [.non] [] f_x_InvalidChange _ := ⟨⟨_, _, _, _, _, _, _, _, _, _, rfl, l_x_InvalidChange, c_x_InvalidChange, .inr ⟨by simp, T_x_InvalidChange, _, [.none], _, rfl, lT_InvalidChange, rfl, (.cons rfl .nil)⟩, .inl rfl⟩, k_x_InvalidChange⟩
  obtain ⟨d0_InvalidChange, v0_InvalidChange, b0_InvalidChange⟩ := FD_InvalidChange.binds1 (ps := ["self", "value"]) 2 1 (by simp) rfl fun _ _ _ _ _ _ _ us its hu hi => match us, its, hu, hi with | [_, _], [_], _, _ => ⟨_, rfl, rfl⟩
  obtain ⟨d1_InvalidChange, v1_InvalidChange, b1_InvalidChange⟩ := FD_InvalidChange.binds1 (ps := ["self", "value"]) 1 0 (by simp) rfl fun _ _ _ _ _ _ _ us its hu hi => match us, its, hu, hi with | [_], [_], _, _ => ⟨_, rfl, rfl⟩
  cases v0_InvalidChange
  obtain ⟨it_InvalidChange, kb_InvalidChange⟩ := FD_InvalidChange.kbindsD (ps := ["self", "value"]) 1 ["value"] (fun us its ws => us ++ ws) (by simp) (fun a b c => a.append c) fun _ _ _ _ _ _ _ us its ws hu hi hw => match us, its, ws, hu, hi, hw with | [_], [_], [_], _, _, _ => ⟨_, rfl, rfl⟩
  have XF_InvalidChange : Er1 K mg "InvalidChange" "value" C_InvalidChange := ⟨PySem.W.mg_of X G g_InvalidChange, ⟨⟨_, _, _, _, _, _, _, _, _, _, _, _, _, _, _, xL_InvalidChange, ve_own⟩, sa_InvalidChange, eC_InvalidChange, tC_InvalidChange, kC_InvalidChange⟩, no0_InvalidChange, ⟨ga_InvalidChange, gg_InvalidChange, eC_InvalidChange, hC_InvalidChange⟩, f_x_InvalidChange, _, _, _, _, _, _, _, _, in_InvalidChange, ti_InvalidChange, FD_InvalidChange, sc_InvalidChange___init__, b0_InvalidChange, ⟨_, v1_InvalidChange, b1_InvalidChange⟩, _, _, kb_InvalidChange, fun _ _ => rfl⟩
  have EC_InvalidNumber : ExcC K C_InvalidNumber := ⟨ga_InvalidNumber, gg_InvalidNumber, eC_InvalidNumber, hC_InvalidNumber, i1_InvalidNumber, i2_X, i3_X, i4_InvalidNumber⟩
  have FD_InvalidNumber : FunD K "__init__" "InvalidNumber.__init__" (defArgs s_InvalidNumber___init__) (defBody s_InvalidNumber___init__) (defScope s_InvalidNumber___init__) [.non] [] f_x_InvalidNumber _ := ⟨⟨_, _, _, _, _, _, _, _, _, _, rfl, l_x_InvalidNumber, c_x_InvalidNumber, .inr ⟨by simp, T_x_InvalidNumber, _, [.none], _, rfl, lT_InvalidNumber, rfl, (.cons rfl .nil)⟩, .inl rfl⟩, k_x_InvalidNumber⟩
  obtain ⟨d0_InvalidNumber, v0_InvalidNumber, b0_InvalidNumber⟩ := FD_InvalidNumber.binds1 (ps := ["self", "value"]) 2 1 (by simp) rfl fun _ _ _ _ _ _ _ us its hu hi => match us, its, hu, hi with | [_, _], [_], _, _ => ⟨_, rfl, rfl⟩
  obtain ⟨d1_InvalidNumber, v1_InvalidNumber, b1_InvalidNumber⟩ := FD_InvalidNumber.binds1 (ps := ["self", "value"]) 1 0 (by simp) rfl fun _ _ _ _ _ _ _ us its hu hi => match us, its, hu, hi with | [_], [_], _, _ => ⟨_, rfl, rfl⟩
  cases v0_InvalidNumber
  obtain ⟨it_InvalidNumber, kb_InvalidNumber⟩ := FD_InvalidNumber.kbindsD (ps := ["self", "value"]) 1 ["value"] (fun us its ws => us ++ ws) (by simp) (fun a b c => a.append c) fun _ _ _ _ _ _ _ us its ws hu hi hw => match us, its, ws, hu, hi, hw with | [_], [_], [_], _, _, _ => ⟨_, rfl, rfl⟩
  have XF_InvalidNumber : Er1 K mg "InvalidNumber" "value" C_InvalidNumber := ⟨PySem.W.mg_of X G g_InvalidNumber, ⟨⟨_, _, _, _, _, _, _, _, _, _, _, _, _, _, _, xL_InvalidNumber, ve_own⟩, sa_InvalidNumber, eC_InvalidNumber, tC_InvalidNumber, kC_InvalidNumber⟩, no0_InvalidNumber, ⟨ga_InvalidNumber, gg_InvalidNumber, eC_InvalidNumber, hC_InvalidNumber⟩, f_x_InvalidNumber, _, _, _, _, _, _, _, _, in_InvalidNumber, ti_InvalidNumber, FD_InvalidNumber, sc_InvalidNumber___init__, b0_InvalidNumber, ⟨_, v1_InvalidNumber, b1_InvalidNumber⟩, _, _, kb_InvalidNumber, fun _ _ => rfl⟩
  have EC_InvalidList : ExcC K C_InvalidList := ⟨ga_InvalidList, gg_InvalidList, eC_InvalidList, hC_InvalidList, i1_InvalidList, i2_X, i3_X, i4_InvalidList⟩
  have FD_InvalidList : FunD K "__init__" "InvalidList.__init__" (defArgs s_InvalidList___init__) (defBody s_InvalidList___init__) (defScope s_InvalidList___init__) [.non] [] f_x_InvalidList _ := ⟨⟨_, _, _, _, _, _, _, _, _, _, rfl, l_x_InvalidList, c_x_InvalidList, .inr ⟨by simp, T_x_InvalidList, _, [.none], _, rfl, lT_InvalidList, rfl, (.cons rfl .nil)⟩, .inl rfl⟩, k_x_InvalidList⟩
  obtain ⟨d0_InvalidList, v0_InvalidList, b0_InvalidList⟩ := FD_InvalidList.binds1 (ps := ["self", "value"]) 2 1 (by simp) rfl fun _ _ _ _ _ _ _ us its hu hi => match us, its, hu, hi with | [_, _], [_], _, _ => ⟨_, rfl, rfl⟩
  obtain ⟨d1_InvalidList, v1_InvalidList, b1_InvalidList⟩ := FD_InvalidList.binds1 (ps := ["self", "value"]) 1 0 (by simp) rfl fun _ _ _ _ _ _ _ us its hu hi => match us, its, hu, hi with | [_], [_], _, _ => ⟨_, rfl, rfl⟩
  cases v0_InvalidList
  obtain ⟨it_InvalidList, kb_InvalidList⟩ := FD_InvalidList.kbindsD (ps := ["self", "value"]) 1 ["value"] (fun us its ws => us ++ ws) (by simp) (fun a b c => a.append c) fun _ _ _ _ _ _ _ us its ws hu hi hw => match us, its, ws, hu, hi, hw with | [_], [_], [_], _, _, _ => ⟨_, rfl, rfl⟩
  have XF_InvalidList : Er1 K mg "InvalidList" "value" C_InvalidList := ⟨PySem.W.mg_of X G g_InvalidList, ⟨⟨_, _, _, _, _, _, _, _, _, _, _, _, _, _, _, xL_InvalidList, ve_own⟩, sa_InvalidList, eC_InvalidList, tC_InvalidList, kC_InvalidList⟩, no0_InvalidList, ⟨ga_InvalidList, gg_InvalidList, eC_InvalidList, hC_InvalidList⟩, f_x_InvalidList, _, _, _, _, _, _, _, _, in_InvalidList, ti_InvalidList, FD_InvalidList, sc_InvalidList___init__, b0_InvalidList, ⟨_, v1_InvalidList, b1_InvalidList⟩, _, _, kb_InvalidList, fun _ _ => rfl⟩
  have EC_InvalidText : ExcC K C_InvalidText := ⟨ga_InvalidText, gg_InvalidText, eC_InvalidText, hC_InvalidText, i1_InvalidText, i2_X, i3_X, i4_InvalidText⟩
  have FD_InvalidText : FunD K "__init__" "InvalidText.__init__" (defArgs s_InvalidText___init__) (defBody s_InvalidText___init__) (defScope s_InvalidText___init__) [.non] [] f_x_InvalidText _ := ⟨⟨_, _, _, _, _, _, _, _, _, _, rfl, l_x_InvalidText, c_x_InvalidText, .inr ⟨by simp, T_x_InvalidText, _, [.none], _, rfl, lT_InvalidText, rfl, (.cons rfl .nil)⟩, .inl rfl⟩, k_x_InvalidText⟩
  obtain ⟨d0_InvalidText, v0_InvalidText, b0_InvalidText⟩ := FD_InvalidText.binds1 (ps := ["self", "line"]) 2 1 (by simp) rfl fun _ _ _ _ _ _ _ us its hu hi => match us, its, hu, hi with | [_, _], [_], _, _ => ⟨_, rfl, rfl⟩
  obtain ⟨d1_InvalidText, v1_InvalidText, b1_InvalidText⟩ := FD_InvalidText.binds1 (ps := ["self", "line"]) 1 0 (by simp) rfl fun _ _ _ _ _ _ _ us its hu hi => match us, its, hu, hi with | [_], [_], _, _ => ⟨_, rfl, rfl⟩
  cases v0_InvalidText
  obtain ⟨it_InvalidText, kb_InvalidText⟩ := FD_InvalidText.kbindsD (ps := ["self", "line"]) 1 ["line"] (fun us its ws => us ++ ws) (by simp) (fun a b c => a.append c) fun _ _ _ _ _ _ _ us its ws hu hi hw => match us, its, ws, hu, hi, hw with | [_], [_], [_], _, _, _ => ⟨_, rfl, rfl⟩
  have XF_InvalidText : Er1 K mg "InvalidText" "line" C_InvalidText := ⟨PySem.W.mg_of X G g_InvalidText, ⟨⟨_, _, _, _, _, _, _, _, _, _, _, _, _, _, _, xL_InvalidText, ve_own⟩, sa_InvalidText, eC_InvalidText, tC_InvalidText, kC_InvalidText⟩, no0_InvalidText, ⟨ga_InvalidText, gg_InvalidText, eC_InvalidText, hC_InvalidText⟩, f_x_InvalidText, _, _, _, _, _, _, _, _, in_InvalidText, ti_InvalidText, FD_InvalidText, sc_InvalidText___init__, b0_InvalidText, ⟨_, v1_InvalidText, b1_InvalidText⟩, _, _, kb_InvalidText, fun _ _ => rfl⟩
  have EC_Missing : ExcC K C_Missing := ⟨ga_Missing, gg_Missing, eC_Missing, hC_Missing, i1_Missing, i2_X, i3_X, i4_Missing⟩
  have FD_Missing : FunD K "__init__" "Missing.__init__" (defArgs s_Missing___init__) (defBody s_Missing___init__) (defScope s_Missing___init__) [.non] [] f_x_Missing _ := ⟨⟨_, _, _, _, _, _, _, _, _, _, rfl, l_x_Missing, c_x_Missing, .inr ⟨by simp, T_x_Missing, _, [.none], _, rfl, lT_Missing, rfl, (.cons rfl .nil)⟩, .inl rfl⟩, k_x_Missing⟩
  obtain ⟨d0_Missing, v0_Missing, b0_Missing⟩ := FD_Missing.binds1 (ps := ["self", "place"]) 2 1 (by simp) rfl fun _ _ _ _ _ _ _ us its hu hi => match us, its, hu, hi with | [_, _], [_], _, _ => ⟨_, rfl, rfl⟩
  obtain ⟨d1_Missing, v1_Missing, b1_Missing⟩ := FD_Missing.binds1 (ps := ["self", "place"]) 1 0 (by simp) rfl fun _ _ _ _ _ _ _ us its hu hi => match us, its, hu, hi with | [_], [_], _, _ => ⟨_, rfl, rfl⟩
  cases v0_Missing
  obtain ⟨it_Missing, kb_Missing⟩ := FD_Missing.kbindsD (ps := ["self", "place"]) 1 ["place"] (fun us its ws => us ++ ws) (by simp) (fun a b c => a.append c) fun _ _ _ _ _ _ _ us its ws hu hi hw => match us, its, ws, hu, hi, hw with | [_], [_], [_], _, _, _ => ⟨_, rfl, rfl⟩
  have XF_Missing : Er1 K mg "Missing" "place" C_Missing := ⟨PySem.W.mg_of X G g_Missing, ⟨⟨_, _, _, _, _, _, _, _, _, _, _, _, _, _, _, xL_Missing, ve_own⟩, sa_Missing, eC_Missing, tC_Missing, kC_Missing⟩, no0_Missing, ⟨ga_Missing, gg_Missing, eC_Missing, hC_Missing⟩, f_x_Missing, _, _, _, _, _, _, _, _, in_Missing, ti_Missing, FD_Missing, sc_Missing___init__, b0_Missing, ⟨_, v1_Missing, b1_Missing⟩, _, _, kb_Missing, fun _ _ => rfl⟩
  have EC_Occupied : ExcC K C_Occupied := ⟨ga_Occupied, gg_Occupied, eC_Occupied, hC_Occupied, i1_Occupied, i2_X, i3_X, i4_Occupied⟩
  have FD_Occupied : FunD K "__init__" "Occupied.__init__" (defArgs s_Occupied___init__) (defBody s_Occupied___init__) (defScope s_Occupied___init__) [.non] [] f_x_Occupied _ := ⟨⟨_, _, _, _, _, _, _, _, _, _, rfl, l_x_Occupied, c_x_Occupied, .inr ⟨by simp, T_x_Occupied, _, [.none], _, rfl, lT_Occupied, rfl, (.cons rfl .nil)⟩, .inl rfl⟩, k_x_Occupied⟩
  obtain ⟨d0_Occupied, v0_Occupied, b0_Occupied⟩ := FD_Occupied.binds1 (ps := ["self", "place"]) 2 1 (by simp) rfl fun _ _ _ _ _ _ _ us its hu hi => match us, its, hu, hi with | [_, _], [_], _, _ => ⟨_, rfl, rfl⟩
  obtain ⟨d1_Occupied, v1_Occupied, b1_Occupied⟩ := FD_Occupied.binds1 (ps := ["self", "place"]) 1 0 (by simp) rfl fun _ _ _ _ _ _ _ us its hu hi => match us, its, hu, hi with | [_], [_], _, _ => ⟨_, rfl, rfl⟩
  cases v0_Occupied
  obtain ⟨it_Occupied, kb_Occupied⟩ := FD_Occupied.kbindsD (ps := ["self", "place"]) 1 ["place"] (fun us its ws => us ++ ws) (by simp) (fun a b c => a.append c) fun _ _ _ _ _ _ _ us its ws hu hi hw => match us, its, ws, hu, hi, hw with | [_], [_], [_], _, _, _ => ⟨_, rfl, rfl⟩
  have XF_Occupied : Er1 K mg "Occupied" "place" C_Occupied := ⟨PySem.W.mg_of X G g_Occupied, ⟨⟨_, _, _, _, _, _, _, _, _, _, _, _, _, _, _, xL_Occupied, ve_own⟩, sa_Occupied, eC_Occupied, tC_Occupied, kC_Occupied⟩, no0_Occupied, ⟨ga_Occupied, gg_Occupied, eC_Occupied, hC_Occupied⟩, f_x_Occupied, _, _, _, _, _, _, _, _, in_Occupied, ti_Occupied, FD_Occupied, sc_Occupied___init__, b0_Occupied, ⟨_, v1_Occupied, b1_Occupied⟩, _, _, kb_Occupied, fun _ _ => rfl⟩
  have EC_Barred : ExcC K C_Barred := ⟨ga_Barred, gg_Barred, eC_Barred, hC_Barred, i1_Barred, i2_X, i3_X, i4_Barred⟩
  have FD_Barred : FunD K "__init__" "Barred.__init__" (defArgs s_Barred___init__) (defBody s_Barred___init__) (defScope s_Barred___init__) [.non, .non] [] f_x_Barred _ := ⟨⟨_, _, _, _, _, _, _, _, _, _, rfl, l_x_Barred, c_x_Barred, .inr ⟨by simp, T_x_Barred, _, [.none, .none], _, rfl, lT_Barred, rfl, (.cons rfl (.cons rfl .nil))⟩, .inl rfl⟩, k_x_Barred⟩
  obtain ⟨d0_Barred, v0_Barred, b0_Barred⟩ := FD_Barred.binds1 (ps := ["self", "one", "other"]) 3 2 (by simp) rfl fun _ _ _ _ _ _ _ us its hu hi => match us, its, hu, hi with | [_, _, _], [_, _], _, _ => ⟨_, rfl, rfl⟩
  obtain ⟨d1_Barred, v1_Barred, b1_Barred⟩ := FD_Barred.binds1 (ps := ["self", "one", "other"]) 2 1 (by simp) rfl fun _ _ _ _ _ _ _ us its hu hi => match us, its, hu, hi with | [_, _], [_, _], _, _ => ⟨_, rfl, rfl⟩
  obtain ⟨d2_Barred, v2_Barred, b2_Barred⟩ := FD_Barred.binds1 (ps := ["self", "one", "other"]) 1 0 (by simp) rfl fun _ _ _ _ _ _ _ us its hu hi => match us, its, hu, hi with | [_], [_, _], _, _ => ⟨_, rfl, rfl⟩
  cases v0_Barred
  obtain ⟨it_Barred, kb_Barred⟩ := FD_Barred.kbindsD (ps := ["self", "one", "other"]) 1 ["other", "one"] (fun us its ws => us ++ ws.reverse) (by simp) (fun a b c => a.append c.reverse) fun _ _ _ _ _ _ _ us its ws hu hi hw => match us, its, ws, hu, hi, hw with | [_], [_, _], [_, _], _, _, _ => ⟨_, rfl, rfl⟩
  obtain ⟨iu_Barred, kc_Barred⟩ := FD_Barred.kbindsD (ps := ["self", "one", "other"]) 1 ["other"] (fun us its ws => us ++ (its.take 1 ++ ws)) (by simp) (fun a b c => a.append ((b.take 1).append c)) fun _ _ _ _ _ _ _ us its ws hu hi hw => match us, its, ws, hu, hi, hw with | [_], [_, _], [_], _, _, _ => ⟨_, rfl, rfl⟩
  have XF_Barred : Er2 K mg "Barred" "one" "other" C_Barred := ⟨PySem.W.mg_of X G g_Barred, ⟨⟨_, _, _, _, _, _, _, _, _, _, _, _, _, _, _, xL_Barred, ve_own⟩, sa_Barred, eC_Barred, tC_Barred, kC_Barred⟩, no0_Barred, no1_Barred, ⟨ga_Barred, gg_Barred, eC_Barred, hC_Barred⟩, f_x_Barred, _, _, _, _, _, _, _, _, _, _, _, _, in_Barred, ti_Barred, FD_Barred, sc_Barred___init__, b0_Barred, ⟨_, v1_Barred, b1_Barred⟩, ⟨_, v2_Barred, b2_Barred⟩, ⟨_, _, kb_Barred, fun _ _ _ => rfl⟩, _, _, kc_Barred, fun _ _ => rfl⟩
  have EC_Failed : ExcC K C_Failed := ⟨ga_Failed, gg_Failed, eC_Failed, hC_Failed, i1_Failed, i2_X, i3_X, i4_Failed⟩
  have FD_Failed : FunD K "__init__" "Failed.__init__" (defArgs s_Failed___init__) (defBody s_Failed___init__) (defScope s_Failed___init__) [.non, .non] [] f_x_Failed _ := ⟨⟨_, _, _, _, _, _, _, _, _, _, rfl, l_x_Failed, c_x_Failed, .inr ⟨by simp, T_x_Failed, _, [.none, .none], _, rfl, lT_Failed, rfl, (.cons rfl (.cons rfl .nil))⟩, .inl rfl⟩, k_x_Failed⟩
  obtain ⟨d0_Failed, v0_Failed, b0_Failed⟩ := FD_Failed.binds1 (ps := ["self", "step", "why"]) 3 2 (by simp) rfl fun _ _ _ _ _ _ _ us its hu hi => match us, its, hu, hi with | [_, _, _], [_, _], _, _ => ⟨_, rfl, rfl⟩
  obtain ⟨d1_Failed, v1_Failed, b1_Failed⟩ := FD_Failed.binds1 (ps := ["self", "step", "why"]) 2 1 (by simp) rfl fun _ _ _ _ _ _ _ us its hu hi => match us, its, hu, hi with | [_, _], [_, _], _, _ => ⟨_, rfl, rfl⟩
  obtain ⟨d2_Failed, v2_Failed, b2_Failed⟩ := FD_Failed.binds1 (ps := ["self", "step", "why"]) 1 0 (by simp) rfl fun _ _ _ _ _ _ _ us its hu hi => match us, its, hu, hi with | [_], [_, _], _, _ => ⟨_, rfl, rfl⟩
  cases v0_Failed
  obtain ⟨it_Failed, kb_Failed⟩ := FD_Failed.kbindsD (ps := ["self", "step", "why"]) 1 ["why", "step"] (fun us its ws => us ++ ws.reverse) (by simp) (fun a b c => a.append c.reverse) fun _ _ _ _ _ _ _ us its ws hu hi hw => match us, its, ws, hu, hi, hw with | [_], [_, _], [_, _], _, _, _ => ⟨_, rfl, rfl⟩
  obtain ⟨iu_Failed, kc_Failed⟩ := FD_Failed.kbindsD (ps := ["self", "step", "why"]) 1 ["why"] (fun us its ws => us ++ (its.take 1 ++ ws)) (by simp) (fun a b c => a.append ((b.take 1).append c)) fun _ _ _ _ _ _ _ us its ws hu hi hw => match us, its, ws, hu, hi, hw with | [_], [_, _], [_], _, _, _ => ⟨_, rfl, rfl⟩
  have XF_Failed : Er2 K mg "Failed" "step" "why" C_Failed := ⟨PySem.W.mg_of X G g_Failed, ⟨⟨_, _, _, _, _, _, _, _, _, _, _, _, _, _, _, xL_Failed, ve_own⟩, sa_Failed, eC_Failed, tC_Failed, kC_Failed⟩, no0_Failed, no1_Failed, ⟨ga_Failed, gg_Failed, eC_Failed, hC_Failed⟩, f_x_Failed, _, _, _, _, _, _, _, _, _, _, _, _, in_Failed, ti_Failed, FD_Failed, sc_Failed___init__, b0_Failed, ⟨_, v1_Failed, b1_Failed⟩, ⟨_, v2_Failed, b2_Failed⟩, ⟨_, _, kb_Failed, fun _ _ _ => rfl⟩, _, _, kc_Failed, fun _ _ => rfl⟩
  have EC_Closed : ExcC K C_Closed := ⟨ga_Closed, gg_Closed, eC_Closed, hC_Closed, i1_Closed, i2_X, i3_X, i4_Closed⟩
  have T1 : Txt1 K mg := ⟨N_isinstance, N_range, N_enumerate, N_ValueError, N_int, N_sum, D__law_kinds, D__law_right, D__law_values, D__law_thing, D__law_placed, D__law_named, D__law_bare⟩
  have A : All17 K mg (fun i => ([C_InvalidName, C_InvalidPlace, C_InvalidForm, C_InvalidLook, C_InvalidLog, C_InvalidRules, C_InvalidDemand, C_InvalidStory, C_InvalidChange, C_InvalidNumber, C_InvalidList, C_InvalidText, C_Missing, C_Occupied, C_Barred, C_Failed, C_Closed].getD i 0)) CB := ⟨XF_InvalidName, XF_InvalidPlace, XF_InvalidForm, XF_InvalidLook, XF_InvalidLog, XF_InvalidRules, XF_InvalidDemand, XF_InvalidStory, XF_InvalidChange, XF_InvalidNumber, XF_InvalidList, XF_InvalidText, XF_Missing, XF_Occupied, XF_Barred, XF_Failed, PySem.W.mg_of X G g_Closed, xX_Closed, kC_Closed,
    fun i h => match i, h with | 0, _ => EC_InvalidName | 1, _ => EC_InvalidPlace | 2, _ => EC_InvalidForm | 3, _ => EC_InvalidLook | 4, _ => EC_InvalidLog | 5, _ => EC_InvalidRules | 6, _ => EC_InvalidDemand | 7, _ => EC_InvalidStory | 8, _ => EC_InvalidChange | 9, _ => EC_InvalidNumber | 10, _ => EC_InvalidList | 11, _ => EC_InvalidText | 12, _ => EC_Missing | 13, _ => EC_Occupied | 14, _ => EC_Barred | 15, _ => EC_Failed | 16, _ => EC_Closed | n + 17, h => absurd h (by omega),
    fun i j hi hj => eq_of_beq (List.all_eq_true.mp (List.all_eq_true.mp kkA i (List.mem_range.mpr hi)) j (List.mem_range.mpr hj)),
    PySem.W.mg_of X G g_CB, fun i hi => eq_of_beq (List.all_eq_true.mp kkB i (List.mem_range.mpr hi)), fun i hi => eq_of_beq (List.all_eq_true.mp kkV i (List.mem_range.mpr hi))⟩
  exact ⟨PySem.W.fnOf "law" "law" (defArgs s_law) (defBody s_law) (defScope s_law) .none kV_law dc_law pm_law an_law cd_law ct_law, fun s v => .of_eq rfl, fun base _ _ => ok_law A T1 (fun_mk (st := s_law) l_law c_law k_law)⟩
theorem walk {l : PySem.W.OpenLaw} {q : Program} {loose : List Str} {XP : (Str → Option Value) → Heap → Prop} {YP : World → Heap → Prop} {d : DefRec} {K : Params → PySem.W.Frag} (hn : l.most = some 63) (hdf : d.params.defaults = [])
    (hY : ∀ (w : World) (h : Heap), YP w h → (K w.params).In h)
    (F : ∀ (w : World) (mg : Str → Option Value) (fa : Addr) (h : Heap), (K w.params).In h → h.Ns mainGlobals mg → mg d.name = some (.ref fa) →
      ∃ fd : FuncData, (∀ (s : Shared) (u : Value), BindsTo s fd ⟨[u], []⟩ [("_law_script", u)]) ∧ ∀ base : Heap, (K w.params).In base → base.Ns mainGlobals mg → FnOk l.prog w (K w.params) mg base CX0 6 fa fd ["_law_script"] (spLaw (K w.params))) :
    PySem.W.WalkO q loose XP YP l.row.toRowW d [] (fun f vs => PySem.call f vs) :=
  L2.walk_of (n := 63) (k := 6) (x := "_law_script") (CX := fun _ => CX0) (sp := fun w => spLaw (K w.params)) hn (by decide) hdf ⟨rfl, by decide, by decide⟩ hY F (fun _ _ a ns hl _ hS => ⟨a, ns, rfl, hS, hl, fun _ => rfl⟩) fun _ _ _ _ _ z => z
end Bt
open PySem PySem.W PyProof.Rows
set_option maxRecDepth 100000 in
set_option maxHeartbeats 0 in
theorem PySem.Challenge.cw_betweenlists_k01_errors_made_holds : PySem.Challenge.rw_betweenlists_k01_errors_made.Holds := by
  w_on; o_law; k_head; (case hw => w_witness2)
  k_fill
  refine Bt.walk (l := PySem.Challenge.rw_betweenlists_k01_errors_made) rfl rfl (fun w h Y => PySem.W.kIn_of Y) ?F
  case F =>
    intro w mg fa h KX G hmg
    refine' Bt.all_mk KX G hmg ?z_isinstance ?z_range ?z_enumerate ?z_ValueError ?z_int ?z_sum ?a__law_kinds ?l__law_kinds ?c__law_kinds ?k__law_kinds ?a__law_right ?l__law_right ?c__law_right ?k__law_right ?a__law_values ?l__law_values ?c__law_values ?k__law_values ?a__law_thing ?l__law_thing ?c__law_thing ?k__law_thing ?a__law_placed ?l__law_placed ?c__law_placed ?k__law_placed ?a__law_named ?l__law_named ?c__law_named ?k__law_named ?a__law_bare ?l__law_bare ?c__law_bare ?k__law_bare ?a_law ?l_law ?c_law ?k_law ?i2_X ?i3_X ?g_InvalidName ?xL_InvalidName ?sa_InvalidName ?ga_InvalidName ?gg_InvalidName ?no0_InvalidName ?in_InvalidName ?ti_InvalidName ?l_x_InvalidName ?c_x_InvalidName ?k_x_InvalidName ?lT_InvalidName ?kC_InvalidName ?eC_InvalidName ?tC_InvalidName ?hC_InvalidName ?i1_InvalidName ?i4_InvalidName ?g_InvalidPlace ?xL_InvalidPlace ?sa_InvalidPlace ?ga_InvalidPlace ?gg_InvalidPlace ?no0_InvalidPlace ?in_InvalidPlace ?ti_InvalidPlace ?l_x_InvalidPlace ?c_x_InvalidPlace ?k_x_InvalidPlace ?lT_InvalidPlace ?kC_InvalidPlace ?eC_InvalidPlace ?tC_InvalidPlace ?hC_InvalidPlace ?i1_InvalidPlace ?i4_InvalidPlace ?g_InvalidForm ?xL_InvalidForm ?sa_InvalidForm ?ga_InvalidForm ?gg_InvalidForm ?no0_InvalidForm ?in_InvalidForm ?ti_InvalidForm ?l_x_InvalidForm ?c_x_InvalidForm ?k_x_InvalidForm ?lT_InvalidForm ?kC_InvalidForm ?eC_InvalidForm ?tC_InvalidForm ?hC_InvalidForm ?i1_InvalidForm ?i4_InvalidForm ?g_InvalidLook ?xL_InvalidLook ?sa_InvalidLook ?ga_InvalidLook ?gg_InvalidLook ?no0_InvalidLook ?in_InvalidLook ?ti_InvalidLook ?l_x_InvalidLook ?c_x_InvalidLook ?k_x_InvalidLook ?lT_InvalidLook ?kC_InvalidLook ?eC_InvalidLook ?tC_InvalidLook ?hC_InvalidLook ?i1_InvalidLook ?i4_InvalidLook ?g_InvalidLog ?xL_InvalidLog ?sa_InvalidLog ?ga_InvalidLog ?gg_InvalidLog ?no0_InvalidLog ?in_InvalidLog ?ti_InvalidLog ?l_x_InvalidLog ?c_x_InvalidLog ?k_x_InvalidLog ?lT_InvalidLog ?kC_InvalidLog ?eC_InvalidLog ?tC_InvalidLog ?hC_InvalidLog ?i1_InvalidLog ?i4_InvalidLog ?g_InvalidRules ?xL_InvalidRules ?sa_InvalidRules ?ga_InvalidRules ?gg_InvalidRules ?no0_InvalidRules ?in_InvalidRules ?ti_InvalidRules ?l_x_InvalidRules ?c_x_InvalidRules ?k_x_InvalidRules ?lT_InvalidRules ?kC_InvalidRules ?eC_InvalidRules ?tC_InvalidRules ?hC_InvalidRules ?i1_InvalidRules ?i4_InvalidRules ?g_InvalidDemand ?xL_InvalidDemand ?sa_InvalidDemand ?ga_InvalidDemand ?gg_InvalidDemand ?no0_InvalidDemand ?in_InvalidDemand ?ti_InvalidDemand ?l_x_InvalidDemand ?c_x_InvalidDemand ?k_x_InvalidDemand ?lT_InvalidDemand ?kC_InvalidDemand ?eC_InvalidDemand ?tC_InvalidDemand ?hC_InvalidDemand ?i1_InvalidDemand ?i4_InvalidDemand ?g_InvalidStory ?xL_InvalidStory ?sa_InvalidStory ?ga_InvalidStory ?gg_InvalidStory ?no0_InvalidStory ?in_InvalidStory ?ti_InvalidStory ?l_x_InvalidStory ?c_x_InvalidStory ?k_x_InvalidStory ?lT_InvalidStory ?kC_InvalidStory ?eC_InvalidStory ?tC_InvalidStory ?hC_InvalidStory ?i1_InvalidStory ?i4_InvalidStory ?g_InvalidChange ?xL_InvalidChange ?sa_InvalidChange ?ga_InvalidChange ?gg_InvalidChange ?no0_InvalidChange ?in_InvalidChange ?ti_InvalidChange ?l_x_InvalidChange ?c_x_InvalidChange ?k_x_InvalidChange ?lT_InvalidChange ?kC_InvalidChange ?eC_InvalidChange ?tC_InvalidChange ?hC_InvalidChange ?i1_InvalidChange ?i4_InvalidChange ?g_InvalidNumber ?xL_InvalidNumber ?sa_InvalidNumber ?ga_InvalidNumber ?gg_InvalidNumber ?no0_InvalidNumber ?in_InvalidNumber ?ti_InvalidNumber ?l_x_InvalidNumber ?c_x_InvalidNumber ?k_x_InvalidNumber ?lT_InvalidNumber ?kC_InvalidNumber ?eC_InvalidNumber ?tC_InvalidNumber ?hC_InvalidNumber ?i1_InvalidNumber ?i4_InvalidNumber ?g_InvalidList ?xL_InvalidList ?sa_InvalidList ?ga_InvalidList ?gg_InvalidList ?no0_InvalidList ?in_InvalidList ?ti_InvalidList ?l_x_InvalidList ?c_x_InvalidList ?k_x_InvalidList ?lT_InvalidList ?kC_InvalidList ?eC_InvalidList ?tC_InvalidList ?hC_InvalidList ?i1_InvalidList ?i4_InvalidList ?g_InvalidText ?xL_InvalidText ?sa_InvalidText ?ga_InvalidText ?gg_InvalidText ?no0_InvalidText ?in_InvalidText ?ti_InvalidText ?l_x_InvalidText ?c_x_InvalidText ?k_x_InvalidText ?lT_InvalidText ?kC_InvalidText ?eC_InvalidText ?tC_InvalidText ?hC_InvalidText ?i1_InvalidText ?i4_InvalidText ?g_Missing ?xL_Missing ?sa_Missing ?ga_Missing ?gg_Missing ?no0_Missing ?in_Missing ?ti_Missing ?l_x_Missing ?c_x_Missing ?k_x_Missing ?lT_Missing ?kC_Missing ?eC_Missing ?tC_Missing ?hC_Missing ?i1_Missing ?i4_Missing ?g_Occupied ?xL_Occupied ?sa_Occupied ?ga_Occupied ?gg_Occupied ?no0_Occupied ?in_Occupied ?ti_Occupied ?l_x_Occupied ?c_x_Occupied ?k_x_Occupied ?lT_Occupied ?kC_Occupied ?eC_Occupied ?tC_Occupied ?hC_Occupied ?i1_Occupied ?i4_Occupied ?g_Barred ?xL_Barred ?sa_Barred ?ga_Barred ?gg_Barred ?no0_Barred ?no1_Barred ?in_Barred ?ti_Barred ?l_x_Barred ?c_x_Barred ?k_x_Barred ?lT_Barred ?kC_Barred ?eC_Barred ?tC_Barred ?hC_Barred ?i1_Barred ?i4_Barred ?g_Failed ?xL_Failed ?sa_Failed ?ga_Failed ?gg_Failed ?no0_Failed ?no1_Failed ?in_Failed ?ti_Failed ?l_x_Failed ?c_x_Failed ?k_x_Failed ?lT_Failed ?kC_Failed ?eC_Failed ?tC_Failed ?hC_Failed ?i1_Failed ?i4_Failed ?g_Closed ?xX_Closed ?kC_Closed ?ga_Closed ?gg_Closed ?eC_Closed ?hC_Closed ?i1_Closed ?i4_Closed ?g_CB ?kkA ?kkB ?kkV
    (case z_isinstance => k_is); (case z_range => k_is); (case z_enumerate => k_is); (case z_ValueError => k_is); (case z_int => k_is); (case z_sum => k_is)
    (case a__law_kinds => k_is); (case l__law_kinds => k_is); (case c__law_kinds => k_is); (case k__law_kinds => k_is); (case a__law_right => k_is); (case l__law_right => k_is)
    (case c__law_right => k_is); (case k__law_right => k_is); (case a__law_values => k_is); (case l__law_values => k_is); (case c__law_values => k_is); (case k__law_values => k_is)
    (case a__law_thing => k_is); (case l__law_thing => k_is); (case c__law_thing => k_is); (case k__law_thing => k_is); (case a__law_placed => k_is); (case l__law_placed => k_is)
    (case c__law_placed => k_is); (case k__law_placed => k_is); (case a__law_named => k_is); (case l__law_named => k_is); (case c__law_named => k_is); (case k__law_named => k_is)
    (case a__law_bare => k_is); (case l__law_bare => k_is); (case c__law_bare => k_is); (case k__law_bare => k_is); (case a_law => k_is); (case l_law => k_is)
    (case c_law => k_is); (case k_law => k_is); (case i2_X => k_is); (case i3_X => k_is); (case g_InvalidName => k_is); (case xL_InvalidName => k_is)
    (case sa_InvalidName => k_is); (case ga_InvalidName => k_is); (case gg_InvalidName => k_is); (case no0_InvalidName => k_is); (case in_InvalidName => k_is); (case ti_InvalidName => k_is)
    (case l_x_InvalidName => k_is); (case c_x_InvalidName => k_is); (case k_x_InvalidName => k_is); (case lT_InvalidName => k_is); (case kC_InvalidName => k_is); (case eC_InvalidName => k_is)
    (case tC_InvalidName => k_is); (case hC_InvalidName => k_is); (case i1_InvalidName => k_is); (case i4_InvalidName => k_is); (case g_InvalidPlace => k_is); (case xL_InvalidPlace => k_is)
    (case sa_InvalidPlace => k_is); (case ga_InvalidPlace => k_is); (case gg_InvalidPlace => k_is); (case no0_InvalidPlace => k_is); (case in_InvalidPlace => k_is); (case ti_InvalidPlace => k_is)
    (case l_x_InvalidPlace => k_is); (case c_x_InvalidPlace => k_is); (case k_x_InvalidPlace => k_is); (case lT_InvalidPlace => k_is); (case kC_InvalidPlace => k_is); (case eC_InvalidPlace => k_is)
    (case tC_InvalidPlace => k_is); (case hC_InvalidPlace => k_is); (case i1_InvalidPlace => k_is); (case i4_InvalidPlace => k_is); (case g_InvalidForm => k_is); (case xL_InvalidForm => k_is)
    (case sa_InvalidForm => k_is); (case ga_InvalidForm => k_is); (case gg_InvalidForm => k_is); (case no0_InvalidForm => k_is); (case in_InvalidForm => k_is); (case ti_InvalidForm => k_is)
    (case l_x_InvalidForm => k_is); (case c_x_InvalidForm => k_is); (case k_x_InvalidForm => k_is); (case lT_InvalidForm => k_is); (case kC_InvalidForm => k_is); (case eC_InvalidForm => k_is)
    (case tC_InvalidForm => k_is); (case hC_InvalidForm => k_is); (case i1_InvalidForm => k_is); (case i4_InvalidForm => k_is); (case g_InvalidLook => k_is); (case xL_InvalidLook => k_is)
    (case sa_InvalidLook => k_is); (case ga_InvalidLook => k_is); (case gg_InvalidLook => k_is); (case no0_InvalidLook => k_is); (case in_InvalidLook => k_is); (case ti_InvalidLook => k_is)
    (case l_x_InvalidLook => k_is); (case c_x_InvalidLook => k_is); (case k_x_InvalidLook => k_is); (case lT_InvalidLook => k_is); (case kC_InvalidLook => k_is); (case eC_InvalidLook => k_is)
    (case tC_InvalidLook => k_is); (case hC_InvalidLook => k_is); (case i1_InvalidLook => k_is); (case i4_InvalidLook => k_is); (case g_InvalidLog => k_is); (case xL_InvalidLog => k_is)
    (case sa_InvalidLog => k_is); (case ga_InvalidLog => k_is); (case gg_InvalidLog => k_is); (case no0_InvalidLog => k_is); (case in_InvalidLog => k_is); (case ti_InvalidLog => k_is)
    (case l_x_InvalidLog => k_is); (case c_x_InvalidLog => k_is); (case k_x_InvalidLog => k_is); (case lT_InvalidLog => k_is); (case kC_InvalidLog => k_is); (case eC_InvalidLog => k_is)
    (case tC_InvalidLog => k_is); (case hC_InvalidLog => k_is); (case i1_InvalidLog => k_is); (case i4_InvalidLog => k_is); (case g_InvalidRules => k_is); (case xL_InvalidRules => k_is)
    (case sa_InvalidRules => k_is); (case ga_InvalidRules => k_is); (case gg_InvalidRules => k_is); (case no0_InvalidRules => k_is); (case in_InvalidRules => k_is); (case ti_InvalidRules => k_is)
    (case l_x_InvalidRules => k_is); (case c_x_InvalidRules => k_is); (case k_x_InvalidRules => k_is); (case lT_InvalidRules => k_is); (case kC_InvalidRules => k_is); (case eC_InvalidRules => k_is)
    (case tC_InvalidRules => k_is); (case hC_InvalidRules => k_is); (case i1_InvalidRules => k_is); (case i4_InvalidRules => k_is); (case g_InvalidDemand => k_is); (case xL_InvalidDemand => k_is)
    (case sa_InvalidDemand => k_is); (case ga_InvalidDemand => k_is); (case gg_InvalidDemand => k_is); (case no0_InvalidDemand => k_is); (case in_InvalidDemand => k_is); (case ti_InvalidDemand => k_is)
    (case l_x_InvalidDemand => k_is); (case c_x_InvalidDemand => k_is); (case k_x_InvalidDemand => k_is); (case lT_InvalidDemand => k_is); (case kC_InvalidDemand => k_is); (case eC_InvalidDemand => k_is)
    (case tC_InvalidDemand => k_is); (case hC_InvalidDemand => k_is); (case i1_InvalidDemand => k_is); (case i4_InvalidDemand => k_is); (case g_InvalidStory => k_is); (case xL_InvalidStory => k_is)
    (case sa_InvalidStory => k_is); (case ga_InvalidStory => k_is); (case gg_InvalidStory => k_is); (case no0_InvalidStory => k_is); (case in_InvalidStory => k_is); (case ti_InvalidStory => k_is)
    (case l_x_InvalidStory => k_is); (case c_x_InvalidStory => k_is); (case k_x_InvalidStory => k_is); (case lT_InvalidStory => k_is); (case kC_InvalidStory => k_is); (case eC_InvalidStory => k_is)
    (case tC_InvalidStory => k_is); (case hC_InvalidStory => k_is); (case i1_InvalidStory => k_is); (case i4_InvalidStory => k_is); (case g_InvalidChange => k_is); (case xL_InvalidChange => k_is)
    (case sa_InvalidChange => k_is); (case ga_InvalidChange => k_is); (case gg_InvalidChange => k_is); (case no0_InvalidChange => k_is); (case in_InvalidChange => k_is); (case ti_InvalidChange => k_is)
    (case l_x_InvalidChange => k_is); (case c_x_InvalidChange => k_is); (case k_x_InvalidChange => k_is); (case lT_InvalidChange => k_is); (case kC_InvalidChange => k_is); (case eC_InvalidChange => k_is)
    (case tC_InvalidChange => k_is); (case hC_InvalidChange => k_is); (case i1_InvalidChange => k_is); (case i4_InvalidChange => k_is); (case g_InvalidNumber => k_is); (case xL_InvalidNumber => k_is)
    (case sa_InvalidNumber => k_is); (case ga_InvalidNumber => k_is); (case gg_InvalidNumber => k_is); (case no0_InvalidNumber => k_is); (case in_InvalidNumber => k_is); (case ti_InvalidNumber => k_is)
    (case l_x_InvalidNumber => k_is); (case c_x_InvalidNumber => k_is); (case k_x_InvalidNumber => k_is); (case lT_InvalidNumber => k_is); (case kC_InvalidNumber => k_is); (case eC_InvalidNumber => k_is)
    (case tC_InvalidNumber => k_is); (case hC_InvalidNumber => k_is); (case i1_InvalidNumber => k_is); (case i4_InvalidNumber => k_is); (case g_InvalidList => k_is); (case xL_InvalidList => k_is)
    (case sa_InvalidList => k_is); (case ga_InvalidList => k_is); (case gg_InvalidList => k_is); (case no0_InvalidList => k_is); (case in_InvalidList => k_is); (case ti_InvalidList => k_is)
    (case l_x_InvalidList => k_is); (case c_x_InvalidList => k_is); (case k_x_InvalidList => k_is); (case lT_InvalidList => k_is); (case kC_InvalidList => k_is); (case eC_InvalidList => k_is)
    (case tC_InvalidList => k_is); (case hC_InvalidList => k_is); (case i1_InvalidList => k_is); (case i4_InvalidList => k_is); (case g_InvalidText => k_is); (case xL_InvalidText => k_is)
    (case sa_InvalidText => k_is); (case ga_InvalidText => k_is); (case gg_InvalidText => k_is); (case no0_InvalidText => k_is); (case in_InvalidText => k_is); (case ti_InvalidText => k_is)
    (case l_x_InvalidText => k_is); (case c_x_InvalidText => k_is); (case k_x_InvalidText => k_is); (case lT_InvalidText => k_is); (case kC_InvalidText => k_is); (case eC_InvalidText => k_is)
    (case tC_InvalidText => k_is); (case hC_InvalidText => k_is); (case i1_InvalidText => k_is); (case i4_InvalidText => k_is); (case g_Missing => k_is); (case xL_Missing => k_is)
    (case sa_Missing => k_is); (case ga_Missing => k_is); (case gg_Missing => k_is); (case no0_Missing => k_is); (case in_Missing => k_is); (case ti_Missing => k_is)
    (case l_x_Missing => k_is); (case c_x_Missing => k_is); (case k_x_Missing => k_is); (case lT_Missing => k_is); (case kC_Missing => k_is); (case eC_Missing => k_is)
    (case tC_Missing => k_is); (case hC_Missing => k_is); (case i1_Missing => k_is); (case i4_Missing => k_is); (case g_Occupied => k_is); (case xL_Occupied => k_is)
    (case sa_Occupied => k_is); (case ga_Occupied => k_is); (case gg_Occupied => k_is); (case no0_Occupied => k_is); (case in_Occupied => k_is); (case ti_Occupied => k_is)
    (case l_x_Occupied => k_is); (case c_x_Occupied => k_is); (case k_x_Occupied => k_is); (case lT_Occupied => k_is); (case kC_Occupied => k_is); (case eC_Occupied => k_is)
    (case tC_Occupied => k_is); (case hC_Occupied => k_is); (case i1_Occupied => k_is); (case i4_Occupied => k_is); (case g_Barred => k_is); (case xL_Barred => k_is)
    (case sa_Barred => k_is); (case ga_Barred => k_is); (case gg_Barred => k_is); (case no0_Barred => k_is); (case no1_Barred => k_is); (case in_Barred => k_is)
    (case ti_Barred => k_is); (case l_x_Barred => k_is); (case c_x_Barred => k_is); (case k_x_Barred => k_is); (case lT_Barred => k_is); (case kC_Barred => k_is)
    (case eC_Barred => k_is); (case tC_Barred => k_is); (case hC_Barred => k_is); (case i1_Barred => k_is); (case i4_Barred => k_is); (case g_Failed => k_is)
    (case xL_Failed => k_is); (case sa_Failed => k_is); (case ga_Failed => k_is); (case gg_Failed => k_is); (case no0_Failed => k_is); (case no1_Failed => k_is)
    (case in_Failed => k_is); (case ti_Failed => k_is); (case l_x_Failed => k_is); (case c_x_Failed => k_is); (case k_x_Failed => k_is); (case lT_Failed => k_is)
    (case kC_Failed => k_is); (case eC_Failed => k_is); (case tC_Failed => k_is); (case hC_Failed => k_is); (case i1_Failed => k_is); (case i4_Failed => k_is)
    (case g_Closed => k_is); (case xX_Closed => first | kernel_rfl | exact rfl); (case kC_Closed => k_is); (case ga_Closed => k_is); (case gg_Closed => k_is); (case eC_Closed => k_is)
    (case hC_Closed => k_is); (case i1_Closed => k_is); (case i4_Closed => k_is); (case g_CB => k_is); (case kkA => first | kernel_rfl | exact rfl); (case kkB => first | kernel_rfl | exact rfl)
    (case kkV => first | kernel_rfl | exact rfl)
