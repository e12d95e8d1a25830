import PyProof.Rows.All
import Wide.All
import OpenK.AllK
import Wide.FinOn
import HandS.ForMost
import HandS.Exc
import HandS.TryOnly
import HandS.ExcOwn
import HandS.WordsExc
import HandS.IsInst
import HandS.Wide
import HandS.Style
import PyProof.CollectStr
import PyProof.Rows.RuleB_pow
import HandS.Codes
import HandS.ExcInit
import HandS.ExcField
import HandS.Property
import HandS.Defaults
import PyProof.TupleOfStr
import PySem.Challenge.RW_betweenlists_k02_forms_made
set_option Elab.async false
set_option linter.all false
set_option maxRecDepth 100000
set_option maxHeartbeats 4000000
namespace Bt
open PySem PySem.Spec PyProof.Rows L2
/-! ### heaps that grow, or that change at one place -/
/-- all but what stands at p is as it was -/
def But (p : Addr) (H H' : Hp) : Prop := ∀ b o, b ≠ p → H b = some o → H' b = some o
theorem But.refl {p : Addr} {H : Hp} : But p H H := fun _ _ _ h => h
theorem But.trans {p : Addr} {H H1 H2 : Hp} (a : But p H H1) (b : But p H1 H2) : But p H H2 := fun c o n h => b c o n (a c o n h)
theorem But.of {p : Addr} {H H' : Hp} (a : Same H H') : But p H H' := fun c o _ h => a c o h
theorem But.upd {p : Addr} {H : Hp} {o : HO} : But p H (upd H p o) := fun b u n h => by rw [upd_ne n]; exact h
theorem Same.new {H : Hp} {p : Addr} {o : HO} (h : H p = none) : Same H (upd H p o) := fun a u e => by
  rw [upd_ne (ne_of_none e h)]; exact e
theorem But.new {q p : Addr} {H : Hp} {o : HO} (h : H p = none) : But q H (L2.upd H p o) := But.of (Same.new h)
theorem But.free {p : Addr} {H H' : Hp} (e : But p H H') {l : Addr} (n : l ≠ p) (h : H' l = none) : H l = none := by
  cases q : H l with
  | none => rfl
  | some o =>
    rw [e l o n q] at h
    cases h
theorem sz {n : Nat} (h : n ≤ 100000) : n ≤ sizeLine := Nat.le_trans h (by decide)
theorem szlt {n : Nat} (h : n < 100000) : n < sizeLine := Nat.lt_of_lt_of_le h (by decide)

/-! ### operators, of several kinds at once -/
section
variable {X : Cx}
def rAddStr : R2 := fun x y H Q => ∃ i j, x = .str i ∧ y = .str j ∧ i.length + j.length ≤ sizeLine ∧ Q (.str (i ++ j)) H
def rAddU : R2 := fun x y H Q => rI0 (fun i j => .int (i + j)) x y H Q ∨ (rAddStr x y H Q ∨ rCat x y H Q)
theorem op_addU : OpR X (binaryOp .Add) rAddU := OpR.or op_add (OpR.or op_add_str op_cat)
def rSub : R2 := rI0 fun i j => .int (i - j)
theorem op_subU : OpR X (binaryOp .Sub) rSub := op_sub
def rMod : R2 := rI (fun _ j => 0 < j) fun i j => .int (i % j)
theorem op_modU : OpR X (binaryOp .Mod) rMod := op_mod
def rFdiv : R2 := rI CDiv fun i j => .int (i / j)
theorem op_fdivU : OpR X (binaryOp .FloorDiv) rFdiv := op_fdiv
def rMulI : R2 := rI CMul fun i j => .int (i * j)
def rMulU : R2 := fun x y H Q => rMulI x y H Q ∨ (rI CMulW (fun i j => .int (i * j)) x y H Q ∨ rRep x y H Q)
theorem op_mulU : OpR X (binaryOp .Mult) rMulU := OpR.or op_mul (OpR.or op_mulW op_rep)
def rLtI : R2 := rI0 fun i j => .bl (decide (i < j))
def rLeI : R2 := rI0 fun i j => .bl (decide (i ≤ j))
def rGtI : R2 := rI0 fun i j => .bl (decide (j < i))
def rGeI : R2 := rI0 fun i j => .bl (decide (j ≤ i))
theorem op_ltI : OpR X (compareOp .Lt) rLtI := op_lt
theorem op_leI : OpR X (compareOp .LtE) rLeI := op_le
theorem op_gtI : OpR X (compareOp .Gt) rGtI := op_gt
theorem op_geI : OpR X (compareOp .GtE) rGeI := op_ge
def rEqU (K : PySem.W.Frag) : R2 := fun x y H Q => rEq x y H Q ∨ rEqD K x y H Q
theorem op_eqU (hu : X.A.units + 64 < cLine) : OpR X (compareOp .Eq) (rEqU X.K) := OpR.or op_eq (op_eqD hu)
def rNeU (K : PySem.W.Frag) : R2 := fun x y H Q => rNe x y H Q ∨ rNeD K x y H Q
theorem op_neU (hu : X.A.units + 64 < cLine) : OpR X (compareOp .NotEq) (rNeU X.K) := OpR.or op_ne (op_neD hu)
end
section
variable {H : Hp} {Q : VK} {i j : Int} {x y : V} {σ : L2.St} {K : PySem.W.Frag}
theorem q_var {n : Nat} {v : V} (h : σ[n]? = some (some v)) (q : Q v H) : tVar n σ H Q := ⟨v, h, q⟩
theorem q_add (q : Q (.int (i + j)) H) : rAddU (.int i) (.int j) H Q := .inl ⟨i, j, rfl, rfl, q⟩
theorem q_addS {a b : Str} (h : a.length + b.length ≤ sizeLine) (q : Q (.str (a ++ b)) H) : rAddU (.str a) (.str b) H Q := .inr (.inl ⟨a, b, rfl, rfl, h, q⟩)
theorem q_cat {l b : Addr} {xs zs : List V} (hl : H l = some (.lst xs)) (hb : H b = some (.lst zs)) (hz : xs.length + zs.length ≤ sizeLine) (q : ∀ p H', H p = none → Same H H' → H' p = some (.lst (xs ++ zs)) → Q (.ref p) H') : rAddU (.ref l) (.ref b) H Q :=
  .inr (.inr ⟨l, b, xs, zs, rfl, rfl, hl, hb, hz, fun p n => q p _ n (Same.new n) upd_same⟩)
theorem q_sub (q : Q (.int (i - j)) H) : rSub (.int i) (.int j) H Q := ⟨i, j, rfl, rfl, q⟩
theorem q_mod (h : 0 < j) (q : Q (.int (i % j)) H) : rMod (.int i) (.int j) H Q := ⟨i, j, rfl, rfl, h, q⟩
theorem q_fdiv (h : 0 < j) (h2 : j < 1073741824) (q : Q (.int (i / j)) H) : rFdiv (.int i) (.int j) H Q := ⟨i, j, rfl, rfl, ⟨h, h2⟩, q⟩
theorem q_mulL (h : -(2 ^ 64) < i ∧ i < 2 ^ 64) (q : Q (.int (i * j)) H) : rMulU (.int i) (.int j) H Q := .inl ⟨i, j, rfl, rfl, .inl h, q⟩
theorem q_mulR (h : -(2 ^ 64) < j ∧ j < 2 ^ 64) (q : Q (.int (i * j)) H) : rMulU (.int i) (.int j) H Q := .inl ⟨i, j, rfl, rfl, .inr h, q⟩
theorem q_lt (q : Q (.bl (decide (i < j))) H) : rLtI (.int i) (.int j) H Q := ⟨i, j, rfl, rfl, q⟩
theorem q_le (q : Q (.bl (decide (i ≤ j))) H) : rLeI (.int i) (.int j) H Q := ⟨i, j, rfl, rfl, q⟩
theorem q_gt (q : Q (.bl (decide (j < i))) H) : rGtI (.int i) (.int j) H Q := ⟨i, j, rfl, rfl, q⟩
theorem q_ge (q : Q (.bl (decide (j ≤ i))) H) : rGeI (.int i) (.int j) H Q := ⟨i, j, rfl, rfl, q⟩
theorem q_eq (h : scal x y = true) (q : Q (.bl (decide (x = y))) H) : rEqU K x y H Q := .inl ⟨h, q⟩
theorem q_ne (h : scal x y = true) (q : Q (.bl (!decide (x = y))) H) : rNeU K x y H Q := .inl ⟨h, q⟩
theorem q_eqD {d e : PyData} (hd : Dp K H x d) (he : Dp K H y e) (sd : SeqAt.shaped d = true) (se : SeqAt.shaped e = true) (q : Q (.bl (PyData.eqv d e)) H) : rEqU K x y H Q := .inr ⟨d, e, hd, he, sd, se, q⟩
theorem q_neD {d e : PyData} (hd : Dp K H x d) (he : Dp K H y e) (sd : SeqAt.shaped d = true) (se : SeqAt.shaped e = true) (q : Q (.bl (!PyData.eqv d e)) H) : rNeU K x y H Q := .inr ⟨d, e, hd, he, sd, se, q⟩
theorem q_ixL {p : Addr} {xs : List V} {v : V} (h : SqL K H p xs) (ha : atI xs i = some v) (q : Q v H) : rIx K (.ref p) (.int i) H Q := .inl ⟨p, xs, i, v, rfl, rfl, h, ha, q⟩
theorem q_ixT {p : Addr} {xs : List V} {v : V} (h : SqT K H p xs) (ha : atI xs i = some v) (q : Q v H) : rIx K (.ref p) (.int i) H Q := .inr (.inl ⟨p, xs, i, v, rfl, rfl, h, ha, q⟩)
theorem q_ixS {z : Str} {c : Nat} (hz : z.length ≤ sizeLine) (ha : atI z.cps.toList i = some c) (q : Q (.str ⟨#[c]⟩) H) : rIx K (.str z) (.int i) H Q := .inr (.inr ⟨z, i, c, rfl, rfl, hz, ha, q⟩)
theorem q_test {b : Bool} {R : Bool → Prop} (q : R b) : ∃ k, V.bl b = .bl k ∧ R k := ⟨b, rfl, q⟩
end

/-- a display's new object -/
def rNewT (Q : VK) (xs : List V) (H : Hp) : Prop := xs.length ≤ sizeLine ∧ ∀ p, H p = none → Q (.ref p) (upd H p (.tup xs))
def rNewL (Q : VK) (xs : List V) (H : Hp) : Prop := xs.length ≤ sizeLine ∧ ∀ p, H p = none → Q (.ref p) (upd H p (.lst xs))
/-! ### steps: one lemma a word -/
section
variable {σ : L2.St} {H : Hp} {Q : VK} {R : Bool → Hp → Prop} {D : Ends} {ta tb tc te to : TE} {t u : TS} {c d : TT} {ts tr : TA} {r r' : R2} {g : TG} {K : PySem.W.Frag} {v : V} {n i : Nat}
theorem s_seq (h : t { D with nx := u D } σ H) : tSeq t u D σ H := h
theorem s_next (h : D.nx σ H) : tNext D σ H := h
theorem s_drop (h : te σ H fun _ H1 => D.nx σ H1) : tDrop te D σ H := h
theorem s_ret (h : te σ H D.rt) : tRet te D σ H := h
theorem s_retN (h : D.rt .non H) : tRetN D σ H := h
theorem s_ifS (h : c σ H fun b H1 => if b = true then t D σ H1 else u D σ H1) : tIfS c t u D σ H := h
theorem s_asg (h : te σ H fun x H1 => g x σ H1 D.nx) : tAsg te g D σ H := h
theorem s_gname {N : L2.St → Hp → Prop} (h : N (σ.set i (some v)) H) : gName i v σ H N := h
theorem s_var (h : σ[i]? = some (some v)) (q : Q v H) : tVar i σ H Q := ⟨v, h, q⟩
theorem s_c (q : Q v H) : tC v σ H Q := q
theorem s_op (h : ta σ H fun x H1 => tb σ H1 fun y H2 => r x y H2 Q) : tOp r ta tb σ H Q := h
theorem s_test (h : te σ H fun x H' => ∃ k, x = .bl k ∧ R k H') : tTest te σ H R := h
theorem s_B (h : te σ H fun x H' => ∃ k, x = .bl k ∧ R k H') : tB te σ H R := h
theorem s_andT (h : c σ H fun b H1 => if b = true then d σ H1 R else R false H1) : tAnd c d σ H R := h
theorem s_orT (h : c σ H fun b H1 => if b = true then R true H1 else d σ H1 R) : tOr c d σ H R := h
theorem s_notT (h : c σ H fun b H1 => R (!b) H1) : tNot c σ H R := h
theorem s_andV (h : ta σ H fun x H1 => ∃ c, x = .bl c ∧ if c = true then tb σ H1 Q else Q (.bl false) H1) : tAndV ta tb σ H Q := h
theorem s_orV (h : ta σ H fun x H1 => ∃ c, x = .bl c ∧ if c = true then Q (.bl true) H1 else tb σ H1 Q) : tOrV ta tb σ H Q := h
theorem s_notV (h : ta σ H fun x H1 => ∃ c, x = .bl c ∧ Q (.bl (!c)) H1) : tNotV ta σ H Q := h
theorem s_ifV (h : c σ H fun b H1 => if b = true then ta σ H1 Q else tb σ H1 Q) : tIf c ta tb σ H Q := h
theorem s_chain (h : ta σ H fun x H1 => tb σ H1 fun y H2 => r x y H2 fun z H3 => ∃ k, z = .bl k ∧ (if k = true then tc σ H3 fun w' H4 => r' y w' H4 Q else Q (.bl false) H3)) : tChain r r' ta tb tc σ H Q := h
theorem s_nil {R : List V → Hp → Prop} (q : R [] H) : tNil σ H R := q
theorem s_cons {R : List V → Hp → Prop} (h : te σ H fun x H1 => ts σ H1 fun xs H2 => R (x :: xs) H2) : tCons te ts σ H R := h
/-- a display: the new object by what is known of it -/
theorem s_tup (h : ts σ H fun xs H1 => rNewT Q xs H1) : tTup ts σ H Q := h
theorem s_lst (h : ts σ H fun xs H1 => rNewL Q xs H1) : tLst ts σ H Q := h
theorem q_newT {xs : List V} (hl : xs.length ≤ sizeLine) (q : ∀ p H', H p = none → Same H H' → H' p = some (.tup xs) → Q (.ref p) H') : rNewT Q xs H := ⟨hl, fun p n => q p _ n (Same.new n) upd_same⟩
theorem q_newL {xs : List V} (hl : xs.length ≤ sizeLine) (q : ∀ p H', H p = none → Same H H' → H' p = some (.lst xs) → Q (.ref p) H') : rNewL Q xs H := ⟨hl, fun p n => q p _ n (Same.new n) upd_same⟩
theorem new_by {o : HO} {R : Addr → Hp → Prop} (h : ∀ p H', H p = none → Same H H' → H' p = some o → R p H') : ∀ p, H p = none → R p (upd H p o) := fun p n => h p _ n (Same.new n) upd_same
theorem s_call {sp : Sp} {dvs : List V} {E : XK} (h : ts σ H fun vs H1 => sp (vs ++ dvs) H1 Q E) : tCall sp dvs E ts σ H Q := h
theorem s_CB {f : List V → Hp → VK → Prop} (h : ts σ H fun vs H1 => f vs H1 Q) : tCB f ts σ H Q := h
theorem s_BM {T : String} {f : V → List V → Hp → VK → Prop} (h : to σ H fun x H1 => tyV K T x H1 ∧ ts σ H1 fun xs H2 => f x xs H2 Q) : tBM K T f to ts σ H Q := h
theorem s_sl {f : V → Option Int → Option Int → Hp → VK → Prop} {tl th : TO} (h : te σ H fun x H1 => tl σ H1 fun l H2 => th σ H2 fun u H3 => f x l u H3 Q) : tSl f te tl th σ H Q := h
theorem s_noPart {R : Option Int → Hp → Prop} (q : R none H) : tNoPart σ H R := q
theorem s_part {R : Option Int → Hp → Prop} (h : te σ H fun x H1 => ∃ i, x = .int i ∧ R (some i) H1) : tPart te σ H R := h
theorem s_gsub {f : TSet} {N : L2.St → Hp → Prop} (h : to σ H fun o H1 => te σ H1 fun i H2 => f o i v H2 fun H3 => N σ H3) : gSub to te f v σ H N := h
theorem s_int {j : Int} {R : Int → Prop} (q : R j) : ∃ i, V.int j = .int i ∧ R i := ⟨j, rfl, q⟩
theorem s_ifT {A B : Prop} (h : A) : if true = true then A else B := by rw [if_pos rfl]; exact h
theorem s_ifF {A B : Prop} (h : B) : if false = true then A else B := by rw [if_neg Bool.false_ne_true]; exact h
theorem s_if {k : Bool} {A B : Prop} (h : k = true → A) (h' : k = false → B) : if k = true then A else B := by
  cases k with
  | true => exact s_ifT (h rfl)
  | false => exact s_ifF (h' rfl)
theorem q_setL {p : Addr} {xs : List V} {k : Int} {j : Nat} {R : Hp → Prop} (h : H p = some (.lst xs)) (hj : ixN xs.length k = some j) (q : R (upd H p (.lst (xs.set j v)))) : rSetL (.ref p) (.int k) v H R := ⟨p, xs, k, j, rfl, rfl, h, hj, q⟩
theorem s_if1 {k : Bool} {A B : Prop} (e : k = true) (h : A) : if k = true then A else B := by subst e; exact s_ifT h
theorem s_if0 {k : Bool} {A B : Prop} (e : k = false) (h : B) : if k = true then A else B := by subst e; exact s_ifF h
theorem s_ifD {p : Prop} {inst : Decidable p} {A B : Prop} (h : p → A) (h' : ¬ p → B) : if @decide p inst = true then A else B := by
  by_cases z : p
  · rw [decide_eq_true z]; exact s_ifT (h z)
  · rw [decide_eq_false z]; exact s_ifF (h' z)
end
end Bt
namespace Bt
open PySem PySem.Spec PyProof.Rows L2
section
variable {X : Cx}
/-! ### a power of any base -/
def CPowW (i j : Int) : Prop := 0 ≤ j ∧ (Builtin.Int.intBits i : Int) * j ≤ 2 ^ 27
theorem op_powW : OpR X (binaryOp .Pow) (rI CPowW fun i j => .int (i ^ j.toNat)) := opI fun _ _ _ _ _ _ _ hc q => pow_int hc.1 hc.2 q
/-! ### text[::-1] -/
def revT (z : Str) : Str := ⟨((Builtin.Str.strSliceIndices none none (-1) z.length).filterMap (z.cps[·]?)).toArray⟩
def tRevS (te : TE) : TE := fun σ H Q => te σ H fun x H1 => ∃ z, x = .str z ∧ (revT z).length ≤ sizeLine ∧ Q (.str (revT z)) H1
theorem pe_revS {e : Expr} {te : TE} {k : Nat} {p1 p2 p3 pos : Pos} (he : PE X e te) : PE X (.Subscript e (.Slice none none (some (.UnaryOp .USub (.Constant (.int 1) k p1) p2)) p3) pos) (tRevS te) := by
  refine ⟨fun pins s σ H Q I h => ?_⟩
  refine Subscript_ (thn (he.run pins s σ H _ I h) fun v s1 ⟨x, H1, I1, r1, q1⟩ => ?_)
  obtain ⟨z, ex, hz, q⟩ := q1
  subst ex
  obtain ⟨t, rfl⟩ := r1
  have hst : PO X (some (.UnaryOp .USub (.Constant (.int 1) k p1) p2)) (tPart (tUn (rU fun i => .int (-i)) (tC (.int 1)))) := po_some (pe_un un_neg pe_int)
  refine wpAny_Slice (thn (po_none.run pins s1 σ H1 (fun o H2 => o = none ∧ H2 = H1) I1 ⟨rfl, rfl⟩) fun vl s2 ⟨l, H2, I2, pl, el, e2⟩ => ?_)
  subst el e2
  refine thn (po_none.run pins s2 σ H2 (fun o H3 => o = none ∧ H3 = H2) I2 ⟨rfl, rfl⟩) fun vu s3 ⟨u, H3, I3, pu, eu, e3⟩ => ?_
  subst eu e3
  refine thn (hst.run pins s3 σ H3 (fun o H4 => o = some (-1) ∧ H4 = H3) I3 ⟨1, rfl, -1, rfl, rfl, rfl⟩) fun vs s4 ⟨o, H4, I4, ps, eo, e4⟩ => ?_
  subst eo e4
  have I5 : Inv X pins σ H4 { s4 with heap := s4.heap.push { cls := .type "slice", data := .fields #[vl, vu, vs] } } := I4.kept (t' := s4.toks) fun b ob q => Heap.get?_push_of_some _ q
  obtain ⟨l, rfl, el⟩ := IsPart.raw pl
  obtain ⟨u, rfl, eu⟩ := IsPart.raw pu
  obtain ⟨st, rfl, es⟩ := IsPart.raw ps
  show wpAny (model X.prog X.w) X.A (subscriptTail e (.Slice none none (some (.UnaryOp .USub (.Constant (.int 1) k p1) p2)) p3) (.str z t) (.ref s4.heap.objs.size)) (EP X pins σ Q) X.xe { s4 with heap := s4.heap.push { cls := .type "slice", data := .fields #[partValue l, partValue u, partValue st] } }
  have e1 : ((st.map (·.1)).getD 1) = -1 := by rw [es]; rfl
  refine tail_any (ops := [.ref s4.heap.objs.size, .str z t]) (typeIs_str _ _ _) (F.slot_str_getitem.lookup) ?_ (by with_unfolding_all rfl)
  refine wpAny_getItem_str_slice (l := l) (u := u) (st := st) (Heap.IsSliceOf.new _ _ _ _) (by rw [e1]; rfl) ?_
  show Made.post (if ((((st.map (·.1)).getD 1) == 1 && (Builtin.Str.strSliceIndices (l.map (·.1)) (u.map (·.1)) ((st.map (·.1)).getD 1) z.length).length == z.length) = true) then Made.val (.str z t)
    else Made.str ⟨((Builtin.Str.strSliceIndices (l.map (·.1)) (u.map (·.1)) ((st.map (·.1)).getD 1) z.length).filterMap (z.cps[·]?)).toArray⟩) (EP X pins σ Q) _
  rw [e1, el, eu, if_neg (by simp)]
  exact ⟨hz, .str _, H4, I5.tok _, ⟨_, rfl⟩, q⟩
end
/-! ### sorted(text) -/
/-- the signs of a text, each as a text -/
def signs (z : Str) : List Str := z.cps.toList.map fun c => ⟨#[c]⟩
theorem strs_of_signs {z : Str} {acc : Array Value} (h : ItemsOf (SignAt z) acc z.cps.size) : StrsAre acc.toList (signs z) := by
  have key : ∀ (l : List Value) (m : List Nat), l.length = m.length → (∀ (j : Nat) (v : Value) (c : Nat), l[j]? = some v → m[j]? = some c → ∃ u, v = .str ⟨#[c]⟩ u) → StrsAre l (m.map fun c => ⟨#[c]⟩) := by
    intro l
    induction l with
    | nil =>
      intro m hl _
      cases m with
      | nil => exact .nil
      | cons a r => cases hl
    | cons x l ih =>
      intro m hl hm
      cases m with
      | nil => cases hl
      | cons c r =>
        obtain ⟨u, e⟩ := hm 0 x c rfl rfl
        rw [e]
        exact .cons _ _ (ih r (Nat.succ.inj hl) fun j v d h1 h2 => hm (j + 1) v d (by simpa using h1) (by simpa using h2))
  refine key _ _ (by rw [Array.length_toList, Array.length_toList, h.1]) fun j v c h1 h2 => ?_
  obtain ⟨d, u, e1, e2⟩ := h.2 j v (by rw [← Array.getElem?_toList]; exact h1)
  rw [← Array.getElem?_toList, h2] at e1
  cases e1
  exact ⟨u, e2⟩
section
variable {X : Cx}
def rSortTx : List V → Hp → VK → Prop := fun vs H Q => ∃ z : Str, vs = [V.str z] ∧ z.length < 64 ∧ ∀ (ys : List Str) (p : Addr), ys.Perm (signs z) → sortedS ys = true → H p = none → Q (.ref p) (upd H p (.lst (ys.map V.str)))
theorem cr_sortedTx (hc : X.calm = true) : CallR X (.builtin "sorted") rSortTx := by
  intro pins s σ H vs us Q I r h
  obtain ⟨z, rfl, h64, q⟩ := h
  obtain ⟨u, rfl, rx⟩ := vals1 r
  obtain ⟨t, rfl⟩ := rx
  have hz : z.cps.size ≤ sizeLine := sz (Nat.le_of_lt (Nat.lt_trans h64 (by decide)))
  refine PySem.Calls.call_function_entry kind_sorted plain_sorted entry_sorted (args_sorted1 _) ?_
  unfold Builtin.«sorted»
  refine wpAny_bind (m := checkCount "sorted" 1 1 _) (wpAny_pure ?_)
  refine wpAny_bind (wpAny_collect_str (show X.A.in1.handled = none from I.ok.hd hc) z t (fun s' acc k eg ed eo hacc => ?_) hz)
  have hS := strs_of_signs hacc
  have hlen : acc.toList.length < 64 := by rw [Array.length_toList, hacc.1]; exact h64
  refine wpAny_bind (wpAny_newList ?_ (sz (by omega)))
  obtain ⟨hp, g, d, tk, os⟩ := s'
  dsimp only at eg ed eo
  subst eg ed eo
  have ho : (hp.push (seqObj "list" acc.toList.toArray 0)).get? hp.objs.size = some (seqObj "list" acc.toList.toArray 0) := Heap.get?_push_size _ rfl
  refine wpAny_bind (wpAny_holding (wpAny_call_entry slot_list_sort ⟨_, ho, rfl⟩ entry_list_sort (list_sort_treeK strKind_oneLt ho hS.keysOf (fun v₁ v₂ rest e => keyKind_strs (by rw [← e]; exact hS)) hlen fun st' a1 a2 => ⟨_, rfl, ?_⟩) (args_list_sort _)))
  obtain ⟨ss', h1, h2, h3⟩ := sorted_out_str hS a1 a2
  obtain ⟨ep, he⟩ := sortedHeap_at (vs := acc.toList) (out := (arrOf st').map (·.2)) (n := 0) ho
  have I1 : Inv X pins σ H ⟨hp, s.gens, s.drawn, tk, s.os⟩ := I.kept (t' := tk) k
  have old : ∀ b o, hp.get? b = some o → (sortedHeap (hp.push (seqObj "list" acc.toList.toArray 0)) hp.objs.size acc.toList ((arrOf st').map (·.2))).get? b = some o := fun b o e2 => by
    have hlt := Heap.lt_size e2
    rw [sortedHeap_old (Nat.ne_of_lt hlt) (by rw [size_push']; exact Nat.lt_succ_of_lt hlt), Heap.get?_push_ne _ _ _ (Nat.ne_of_lt hlt)]
    exact e2
  refine wpAny_pure ⟨_, rfl, ?_⟩
  have hl2 : (ss'.map V.str).length ≤ sizeLine := by rw [List.length_map, h2.length_eq]; exact sz (by unfold signs; rw [List.length_map, Array.length_toList]; exact Nat.le_of_lt (Nat.lt_trans h64 (by decide)))
  exact ⟨.ref _, upd H hp.objs.size (.lst (ss'.map V.str)), I1.laid (t' := tk) old (Nat.le_refl _) ⟨hl2, ((arrOf st').map (·.2)).toList, ep, vals_of_strs h1, he⟩, rfl, q ss' _ h2 h3 (I1.hok.fresh (Nat.le_refl _))⟩
end
end Bt
namespace Bt
open PySem PySem.Spec PyProof.Rows L2
variable {X : Cx}
/-! ### tuple(text) -/
theorem vals_of_signs {z : Str} {acc : Array Value} (h : ItemsOf (SignAt z) acc z.cps.size) : Vals ((signs z).map V.str) acc.toList := vals_of_strs (strs_of_signs h)
def rTupTx : List V → Hp → VK → Prop := fun vs H Q => ∃ z : Str, vs = [V.str z] ∧ z.length ≤ sizeLine ∧ ∀ p, H p = none → Q (.ref p) (upd H p (.tup ((signs z).map V.str)))
theorem q_tupTx {H : Hp} {Q : VK} {z : Str} (h : z.length ≤ sizeLine) (q : ∀ p H', H p = none → Same H H' → H' p = some (.tup ((signs z).map V.str)) → Q (.ref p) H') : rTupTx [.str z] H Q := ⟨z, rfl, h, fun p n => q p _ n (Same.new n) upd_same⟩
theorem call_tupleTx (hc : X.calm = true) : CallR X (.type "tuple") rTupTx := by
  intro pins s σ H vs us Q I r h
  obtain ⟨z, rfl, hz, q⟩ := h
  obtain ⟨u, rfl, rx⟩ := vals1 r
  obtain ⟨t, rfl⟩ := rx
  refine call_tuple_str (I.ok.hd hc) z t (fun h' tk acc k hacc => ?_) hz
  have I1 : Inv X pins σ H { s with heap := h', toks := tk } := I.kept (t' := tk) k
  have hl : ((signs z).map V.str).length ≤ sizeLine := by
    unfold signs
    rw [List.length_map, List.length_map, Array.length_toList]
    exact hz
  refine ⟨.ref h'.objs.size, _, I1.laid (t' := tk) (a := h'.objs.size) (o := .tup ((signs z).map V.str)) (fun b o e => Heap.get?_push_of_some _ e) (Nat.le_refl _) ⟨hl, acc.toList, vals_of_signs hacc, ?_⟩, rfl, q _ (I1.hok.fresh (Nat.le_refl _))⟩
  have e : acc.toList.toArray = acc := by simp
  rw [e]
  exact IsTup.new _ _
/-! ### C(e, ..), C's __init__ may raise; what is raised is wished for at the caller's slots -/
section
variable {CX : CXT} {k : Nat} {C f : Addr} {fd : FuncData} {ps : List Str} {sp : Sp} {dvs : List V} {ds : List Value} {E : L2.St → XK} {x : Str} {p pos : Pos} {e : Expr} {es : List Expr} {t : TA}
def tMakeS (C : Addr) (sp : Sp) (dvs : List V) (E : L2.St → XK) (t : TA) : TE := fun σ H Q => t σ H fun vs H1 => ∀ x dx, H1 x = none → H1 dx = none → dx ≠ x →
  sp (.ref x :: (vs ++ dvs)) (upd (upd H1 dx (.own x)) x (.ins C dx [])) (fun v H2 => v = .non ∧ Q (.ref x) H2) (E σ)
theorem run_makeS {pins : List (Addr × Obj)} {σ : L2.St} {H : Hp} {s : Shared} {Q : VK} {us : List Value} {vs : List V} (M : Mk X.K C f) (F : FnOk X.prog X.w X.K X.mg X.base CX k f fd ps sp) (hr : Room (k + 1) X.A) (hb : Binds X.K fd ps ds) (hd : Vals dvs ds)
    (hx : PassesAt CX X σ (E σ)) (I : Inv X pins σ H s) (r : Vals vs us)
    (h : ∀ x dx, H x = none → H dx = none → dx ≠ x → sp (.ref x :: (vs ++ dvs)) (upd (upd H dx (.own x)) x (.ins C dx [])) (fun v H2 => v = .non ∧ Q (.ref x) H2) (E σ)) :
    wpAny (model X.prog X.w) X.A (call (.ref C) us) (EP X pins σ Q) X.xe s := by
  have hq := h (s.heap.objs.size + 1) s.heap.objs.size (I.hok.fresh (Nat.le_succ _)) (I.hok.fresh (Nat.le_refl _)) (Nat.ne_of_lt (Nat.lt_succ_self _))
  have I2 := Inv.made (C := C) I
  have r2 : Vals (V.ref (s.heap.objs.size + 1) :: (vs ++ dvs)) (Value.ref (s.heap.objs.size + 1) :: (us ++ ds)) := .cons rfl (r.append hd)
  have hl : (Value.ref (s.heap.objs.size + 1) :: us ++ ds).length = ps.length := by
    have e := r2.length
    rw [F.len _ _ _ _ hq] at e
    exact e.symm
  refine wpAny_call (make_map (f := f) I.kIn M.makes M.init (beq_iff_eq.mp M.fn) (codeAny_mono (F.run _ X.stack _ _ ⟨Value.ref (s.heap.objs.size + 1) :: us, []⟩ (Value.ref (s.heap.objs.size + 1) :: (us ++ ds)) _ _ (E σ) (hr.make C us [])
    (I2.env0.make C us []) (hb _ (Value.ref (s.heap.objs.size + 1) :: us) I2.kIn hl) r2 hq) fun r s' hq' => ?_))
  cases r with
  | error e => exact hx pins _ _ e s' I2 hq'
  | ok fl =>
    cases fl with
    | ret u =>
      obtain ⟨v, H', I3, rv, ev, q3⟩ := I2.after hq'
      subst ev
      exact ⟨rv, ⟨V.ref (s.heap.objs.size + 1), H', I3, rfl, q3⟩⟩
    | next => exact False.elim hq'
    | brk => exact False.elim hq'
    | cont => exact False.elim hq'
theorem pe_makeS (M : Mk X.K C f) (F : FnOk X.prog X.w X.K X.mg X.base CX k f fd ps sp) (hr : Room (k + 1) X.A) (hg : Gl X x) (hm : X.mg x = some (.ref C)) (hb : Binds X.K fd ps ds) (hd : Vals dvs ds) (hx : ∀ σ, PassesAt CX X σ (E σ))
    (ha : PA X (e :: es) t) (hdb : (x == ("__debug__" : Str)) = false := by decide) (he : starEach (e :: es) X.env = (false, eval e X.env) :: starEach es X.env := by rfl) (hpl : (backTo pos (starEach es X.env)).any (·.1) = false := by rfl) :
    PE X (.Call (.Name x p) (e :: es) [] pos) (tMakeS C sp dvs E t) := by
  refine ⟨fun pins s σ H Q I h => ?_⟩
  refine wpAny_Call_Name_kw (ld_glob I hg hm ?_ hdb)
  refine PySem.W.callWith_K (h₀ := X.base) I.ok.mod.kin M.kp (thn (ha.run pos pins s σ H _ I h) fun us s1 ⟨vs, H1, I1, r, q⟩ => ⟨I1.kIn, ?_⟩) he hpl
  exact run_makeS M F hr hb hd (hx σ) I1 r q
end
/-! ### a comprehension over a text -/
theorem lc_str {z : Str} {g : TG} {tt : TT} {te : TE} {vs : List Nat} {σ : L2.St} {H1 : Hp} {D : Addr} {Qd : Hp → Prop} (Pv : Nat → Hp → Prop) (h0 : Pv 0 (upd H1 D (.lst [])))
    (hs : ∀ i (c : Nat) H, z.cps.toList[i]? = some c → Pv i H → g (.str ⟨#[c]⟩) (wipe σ vs) H fun σ2 H2 => wipe σ2 vs = wipe σ vs ∧ tt σ2 H2 fun b H3 =>
      if b = true then te σ2 H3 fun y H4 => ∃ acc, H4 D = some (.lst acc) ∧ acc.length < sizeLine ∧ Pv (i + 1) (upd H4 D (.lst (acc ++ [y]))) else Pv (i + 1) H3) (hd : ∀ H, Pv z.cps.size H → Qd H) :
    ∃ W : Nat → Nat → Hp → Prop, (∃ m, W 0 m (upd H1 D (.lst []))) ∧ ∀ i m H, W i m H →
      ((Its z).stop i H ∧ Qd H) ∨ ((Its z).go i H ∧ ∃ Nx : Hp → Prop, (∀ H', Nx H' → ∃ m', m' < m ∧ W (i + 1) m' H') ∧ ∀ x H', (Its z).yld i H x H' → g x (wipe σ vs) H' fun σ2 H2 => wipe σ2 vs = wipe σ vs ∧ tt σ2 H2 fun b H3 =>
        if b = true then te σ2 H3 fun y H4 => ∃ acc, H4 D = some (.lst acc) ∧ acc.length < sizeLine ∧ Nx (upd H4 D (.lst (acc ++ [y]))) else Nx H3) := by
  refine ⟨fun i m H => m = z.cps.size - i ∧ i ≤ z.cps.size ∧ Pv i H, ⟨z.cps.size, by simp, Nat.zero_le _, h0⟩, ?_⟩
  rintro i m H ⟨rfl, hi, p⟩
  by_cases hlt : i < z.cps.size
  · refine .inr ⟨hlt, Pv (i + 1), fun H' p' => ⟨z.cps.size - (i + 1), by omega, rfl, hlt, p'⟩, fun x H' y => ?_⟩
    obtain ⟨e, c, hc, ex⟩ := y
    subst e ex
    exact hs i c _ (by rw [Array.getElem?_toList]; exact hc) p
  · have e : i = z.cps.size := by omega
    subst e
    exact .inl ⟨Nat.le_refl _, hd H p⟩
theorem s_lc {wi : TI} {g : TG} {tt : TT} {te : TE} {vs : List Nat} {σ : L2.St} {H : Hp} {Q : VK} (h : wi σ H fun J H1 => ∀ D, H1 D = none → ∃ W : Nat → Nat → Hp → Prop, (∃ m, W 0 m (upd H1 D (.lst []))) ∧ ∀ i m H, W i m H →
  (J.stop i H ∧ Q (.ref D) H) ∨ (J.go i H ∧ ∃ Nx : Hp → Prop, (∀ H', Nx H' → ∃ m', m' < m ∧ W (i + 1) m' H') ∧ ∀ x H', J.yld i H x H' → g x (wipe σ vs) H' fun σ2 H2 => wipe σ2 vs = wipe σ vs ∧ tt σ2 H2 fun b H3 =>
    if b = true then te σ2 H3 fun y H4 => ∃ acc, H4 D = some (.lst acc) ∧ acc.length < sizeLine ∧ Nx (upd H4 D (.lst (acc ++ [y]))) else Nx H3)) : tLc wi g tt te vs σ H Q := h
theorem s_yes {σ : L2.St} {H : Hp} {R : Bool → Hp → Prop} (h : R true H) : tYes σ H R := h
theorem same_mut {H H' : Hp} {p : Addr} {o : HO} (e : Same H H') (h : H p = none) : Same H (upd H' p o) := fun a u ha => by
  rw [upd_ne (ne_of_none ha h)]
  exact e a u ha
theorem take_map_more {α β : Type} {f : α → β} {l : List α} {j : Nat} {x : α} (h : l[j]? = some x) : (l.take (j + 1)).map f = (l.take j).map f ++ [f x] := by
  rw [List.take_add_one, h, List.map_append]
  rfl
theorem s_iStr {te : TE} {σ : L2.St} {H : Hp} {R : It → Hp → Prop} (h : te σ H fun v H1 => ∃ x, v = .str x ∧ R (Its x) H1) : iStr te σ H R := h
theorem s_M0 {to : TE} {r : V → List V → Hp → VK → Prop} {σ : L2.St} {H : Hp} {Q : VK} (h : to σ H fun x H1 => (∃ a, x = .str a) ∧ r x [] H1 Q) : tM0 r to σ H Q := h
/-! ### x == y, x an instance of an own class with __eq__ -/
def rEqOwn (K : PySem.W.Frag) (C : Addr) (sp : Sp) (E : XK) : R2 := fun x y H Q => ∃ a dx fs t, x = .ref a ∧ H a = some (.ins C dx fs) ∧ TyX K H y t ∧ PySem.W.notFirst K C t = true ∧ sp [x, y] H (fun v H' => ∃ b, v = .bl b ∧ Q v H') E
theorem op_eqOwn {CX : CXT} {n : Nat} {C f : Addr} {fd : FuncData} {ps : List Str} {sp : Sp} {E : XK} (F : FnOk X.prog X.w X.K X.mg X.base CX n f fd ps sp) (hr : Room n X.A)
    (hs : PySem.W.findIn X.K (.ref C) "__eq__" = some (some (.ref f))) (hf : PySem.W.isFn X.K (.ref f) = true) (hb : Binds X.K fd ps []) (hx : Passes CX X E) : OpR X (compareOp .Eq) (rEqOwn X.K C sp E) := by
  intro pins s σ H x y v u Q I rx ry hq
  obtain ⟨a, dx, fs, t, rfl, ha, ty, hn, hsp⟩ := hq
  cases rx
  obtain ⟨mA, J, _⟩ := ins_get I.hok ha
  obtain ⟨od, J, _⟩ := J.look
  obtain ⟨m, hF⟩ := I.fr
  obtain ⟨P, Z, p, _⟩ := kit_of I ry ty
  show wpAny (model X.prog X.w) X.A (richCompare .Eq (.ref a) u) (EP X pins σ Q) X.xe s
  refine PySem.W.cmp_K (op := .Eq) (tb := t) hr.units0 hF I.ok.mod.kin J (Z.ty _ _ I.kIn p) hn hs hf ?_
  have hl := F.len _ _ _ _ hsp
  have r2 : Vals [V.ref a, y] [Value.ref a, u] := .cons rfl (.cons ry .nil)
  refine wpAny_call (codeAny_mono (F.run X.A X.stack s H ⟨[.ref a, u], []⟩ [.ref a, u] [.ref a, y] _ E hr I.env0 (by
    have := hb s [.ref a, u] I.kIn (by simpa using hl)
    simpa using this) r2 hsp) fun r s' hq => ?_)
  cases r with
  | error e => exact hx pins σ H s e s' I hq
  | ok fl =>
    cases fl with
    | ret w =>
      obtain ⟨z, H', I', rz, b, ez, q⟩ := I.after hq
      subst ez
      cases rz
      exact ⟨.bl b, H', I', rfl, q⟩
    | next => exact False.elim hq
    | brk => exact False.elim hq
    | cont => exact False.elim hq
end Bt
namespace Bt
open PySem PyProof.Rows
/-! ### letters -/
abbrev sg (c : Nat) : Str := ⟨#[c]⟩
def alphaS : Str := "abcdefghijklmnopqrstuvwxyz"
def alpha : List Nat := (List.range 26).map (97 + ·)
theorem alphaS_cps : alphaS.cps.toList = alpha := by decide +kernel
theorem alpha_len : alpha.length = 26 := by decide
theorem mem_alpha {c : Nat} : c ∈ alpha ↔ 97 ≤ c ∧ c ≤ 122 := by
  unfold alpha
  rw [List.mem_map]
  constructor
  · rintro ⟨a, h, rfl⟩
    have := List.mem_range.mp h
    omega
  · rintro ⟨h1, h2⟩
    exact ⟨c - 97, List.mem_range.mpr (by omega), by omega⟩
theorem alpha_nd : alpha.Nodup := by decide
/-- the letters of a form -/
def Letters (z : Str) : Prop := z.cps.toList.Perm alpha
instance {z : Str} : Decidable (Letters z) := inferInstanceAs (Decidable (List.Perm _ _))
theorem rising_pw : ∀ (cs : List Nat) (p : Nat), risingS (sg p) (cs.map sg) = true → (p :: cs).Pairwise (· ≤ ·)
  | [], p, _ => List.pairwise_singleton _ _
  | c :: cs, p, h => by
    have h' : (!Spec.ltCps [c] [p] && risingS (sg c) (cs.map sg)) = true := h
    obtain ⟨h1, h2⟩ := Bool.and_eq_true_iff.mp h'
    have ih := rising_pw cs c h2
    have hpc : p ≤ c := by
      rw [ltCps_eq] at h1
      rcases Nat.lt_or_ge c p with k | k
      · have : ([c] : List Nat) < [p] := List.Lex.rel k
        simp [this] at h1
      · exact k
    refine List.pairwise_cons.mpr ⟨fun a ha => ?_, ih⟩
    rcases List.mem_cons.mp ha with e | ha
    · rw [e]; exact hpc
    · exact Nat.le_trans hpc ((List.pairwise_cons.mp ih).1 a ha)
theorem sorted_pw (cs : List Nat) (h : sortedS (cs.map sg) = true) : cs.Pairwise (· ≤ ·) := by
  cases cs with
  | nil => exact List.Pairwise.nil
  | cons c cs => exact rising_pw cs c h
theorem sg_inj : Function.Injective sg := fun a b h => by
  have : (#[a] : Array Nat) = #[b] := congrArg Str.cps h
  simpa using this
theorem signs_eq (z : Str) : signs z = z.cps.toList.map sg := rfl
theorem perm_signs {z : Str} {ys : List Str} (h : ys.Perm (signs z)) : ∃ cs : List Nat, ys = cs.map sg ∧ cs.Perm z.cps.toList := by
  let f : Str → Nat := fun s => s.cps.toList.headD 0
  have fs : ∀ c, f (sg c) = c := fun c => rfl
  refine ⟨ys.map f, ?_, ?_⟩
  · rw [List.map_map]
    have : ∀ y ∈ ys, (sg ∘ f) y = y := fun y hy => by
      have := h.mem_iff.mp hy
      rw [signs_eq, List.mem_map] at this
      obtain ⟨c, _, rfl⟩ := this
      rfl
    exact ((List.map_congr_left this).trans (List.map_id _)).symm
  · have := h.map f
    rw [signs_eq, List.map_map] at this
    have e : (z.cps.toList).map (f ∘ sg) = z.cps.toList := (List.map_congr_left (fun c _ => fs c)).trans (List.map_id _)
    rw [e] at this
    exact this
theorem eqvAll_strs : ∀ (xs ys : List Str), PyData.eqvAll (xs.map .str) (ys.map .str) = decide (xs = ys)
  | [], [] => by simp [PyData.eqvAll]
  | [], y :: ys => by simp [PyData.eqvAll]
  | x :: xs, [] => by simp [PyData.eqvAll]
  | x :: xs, y :: ys => by
    have ih := eqvAll_strs xs ys
    simp only [List.map_cons, PyData.eqvAll, PyData.eqv, ih]
    by_cases h1 : x = y <;> by_cases h2 : xs = ys <;> simp [h1, h2]
theorem sorted_eq_iff {z w : Str} {ys ws : List Str} (h1 : ys.Perm (signs z)) (s1 : sortedS ys = true) (h2 : ws.Perm (signs w)) (s2 : sortedS ws = true) :
    PyData.eqv (.list (ys.map .str)) (.list (ws.map .str)) = decide (z.cps.toList.Perm w.cps.toList) := by
  obtain ⟨cs, rfl, p1⟩ := perm_signs h1
  obtain ⟨ds, rfl, p2⟩ := perm_signs h2
  have q1 := sorted_pw cs s1
  have q2 := sorted_pw ds s2
  show PyData.eqvAll _ _ = _
  rw [eqvAll_strs]
  apply decide_eq_decide.mpr
  constructor
  · intro e
    have e2 : cs = ds := by
      have := congrArg (List.map fun s : Str => s.cps.toList.headD 0) e
      simpa [List.map_map, Function.comp_def] using this
    subst e2
    exact p1.symm.trans p2
  · intro e
    have p : cs.Perm ds := (p1.trans e).trans p2.symm
    rw [p.eq_of_pairwise (fun a b _ _ h1 h2 => Nat.le_antisymm h1 h2) q1 q2]
end Bt
namespace Bt
open PySem PySem.Spec PyProof.Rows L2
/-! ### a def as it stands behind the top, by its name alone -/
structure Df (K : PySem.W.Frag) (mg : Str → Option Value) (x : Str) (st : Stmt) (ps : List Str) : Prop where
  ex : ∃ (f : Addr) (fd : FuncData), Fun K x x st f fd ∧ mg x = some (.ref f) ∧ Binds K fd ps []
/-- a def that raises nothing, with its promise -/
structure Cal (P : Program) (w : World) (K : PySem.W.Frag) (mg : Str → Option Value) (base : Heap) (k : Nat) (x : Str) (sp : Sp) : Prop where
  ex : ∃ (f : Addr) (fd : FuncData) (ps : List Str), FnOk P w K mg base CX0 k f fd ps sp ∧ mg x = some (.ref f) ∧ PySem.W.keepIn K (.ref f) = true ∧ Binds K fd ps []
/-- one that may raise -/
structure CalX (P : Program) (w : World) (K : PySem.W.Frag) (mg : Str → Option Value) (base : Heap) (k : Nat) (x : Str) (sp : Sp) : Prop where
  ex : ∃ (f : Addr) (fd : FuncData) (ps : List Str), FnOk P w K mg base (L2.CX P w) k f fd ps sp ∧ mg x = some (.ref f) ∧ PySem.W.keepIn K (.ref f) = true ∧ Binds K fd ps []
section
variable {P : Program} {w : World} {K : PySem.W.Frag} {mg : Str → Option Value} {base : Heap} {x : Str} {st : Stmt} {N ps : List Str} {k : Nat} {sp : Sp}
theorem Df.cal (D : Df K mg x st ps) (S : FnScope N ps (defScope st)) (len : ∀ vs H Q E, sp vs H Q E → vs.length = ps.length)
    (hbody : ∀ (f : Addr) (cdv : Value) (A : Around) (outer : List Env) (s : Shared) (H : Hp) (vs : List V) (Q : VK) (E : XK), Room k (A.deeper (envOfC x (defScope st) s.heap.objs.size f cdv)) → sp vs H Q E →
      ∃ t, PSs (cxOf CX0 P w K mg base N x (defScope st) f cdv A outer s H E).nox (defBody st) t ∧ t { nx := fun _ H' => Q .non H', rt := Q } (start N vs) H) : Cal P w K mg base (k + 1) x sp := by
  obtain ⟨f, fd, F, g, b⟩ := D.ex
  exact ⟨⟨f, fd, ps, F.ok S len (hbody f), g, F.kp, b⟩⟩
theorem Df.calX (D : Df K mg x st ps) (S : FnScope N ps (defScope st)) (len : ∀ vs H Q E, sp vs H Q E → vs.length = ps.length)
    (hbody : ∀ (f : Addr) (cdv : Value) (A : Around) (outer : List Env) (s : Shared) (H : Hp) (vs : List V) (Q : VK) (E : XK), Room k (A.deeper (envOfC x (defScope st) s.heap.objs.size f cdv)) → sp vs H Q E →
      ∃ t, PSs (cxOf (L2.CX P w) P w K mg base N x (defScope st) f cdv A outer s H E) (defBody st) t ∧ t { nx := fun _ H' => Q .non H', rt := Q } (start N vs) H) : CalX P w K mg base (k + 1) x sp := by
  obtain ⟨f, fd, F, g, b⟩ := D.ex
  exact ⟨⟨f, fd, ps, F.okX S len (hbody f), g, F.kp, b⟩⟩
end
section
variable {X : Cx} {k j : Nat} {x : Str} {sp : Sp} {p pos : Pos} {e : Expr} {es : List Expr} {t : TA}
theorem pe_c (c : Cal X.prog X.w X.K X.mg X.base k x sp) (hr : Room j X.A) (hk : k ≤ j) (hg : Gl X x) (ha : PA X (e :: es) t)
    (hdb : (x == ("__debug__" : Str)) = false := by decide) (he : starEach (e :: es) X.env = (false, eval e X.env) :: starEach es X.env := by rfl) (hpl : (backTo pos (starEach es X.env)).any (·.1) = false := by rfl) :
    PE X (.Call (.Name x p) (e :: es) [] pos) (tCall sp [] E0 t) := by
  obtain ⟨f, fd, ps, F, hm, kp, b⟩ := c.ex
  exact pe_call F (hr.mono hk) hg hm kp b .nil pass0 ha hdb he hpl
/-- a def that may raise, called where it does not -/
theorem pe_cx0 (c : CalX X.prog X.w X.K X.mg X.base k x sp) (hr : Room j X.A) (hk : k ≤ j) (hg : Gl X x) (ha : PA X (e :: es) t)
    (hdb : (x == ("__debug__" : Str)) = false := by decide) (he : starEach (e :: es) X.env = (false, eval e X.env) :: starEach es X.env := by rfl) (hpl : (backTo pos (starEach es X.env)).any (·.1) = false := by rfl) :
    PE X (.Call (.Name x p) (e :: es) [] pos) (tCall sp [] E0 t) := by
  obtain ⟨f, fd, ps, F, hm, kp, b⟩ := c.ex
  exact pe_call F (hr.mono hk) hg hm kp b .nil passL ha hdb he hpl
end
/-! ### kinds of values -/
/-- a value of a built-in kind, with its type's name -/
def Ty (K : PySem.W.Frag) (H : Hp) (x : V) (T : String) : Prop := TyX K H x (.type T)
theorem kit_is {K : PySem.W.Frag} {a b : String} (h : (a == b) = true) : PySem.W.kitOne K (.type a) (.type b) = some true := kit_ty (by
  have e : a = b := by simpa using h
  subst e
  unfold kitB
  rw [if_pos (by simp)])
/-- the kinds that data have, and what isinstance says of them -/
inductive Kd : String → Prop where
  | non : Kd "NoneType" | bl : Kd "bool" | int : Kd "int" | str : Kd "str" | lst : Kd "list" | tup : Kd "tuple" | dct : Kd "dict"
def subKd (a b : String) : Bool := a == b || (a == "bool" && b == "int")
theorem kit_kd {K : PySem.W.Frag} {a b : String} (ha : Kd a) (hb : Kd b) : PySem.W.kitOne K (.type a) (.type b) = some (subKd a b) := by
  cases ha <;> cases hb <;> exact kit_ty (by decide +kernel)
/-- a plain value: data at its top -/
def Pl (K : PySem.W.Frag) (H : Hp) (x : V) (T : String) : Prop := TyX K H x (.type T) ∧ Kd T
theorem q_isi {K : PySem.W.Frag} {H : Hp} {Q : VK} {x : V} {a b : String} (h : Pl K H x a) (hb : Kd b) (q : Q (.bl (subKd a b)) H) : rIsi K [x, .ty b] H Q :=
  ⟨x, .ty b, .type a, .type b, subKd a b, rfl, .ty b, h.1, kit_kd h.2 hb, q⟩
theorem Pl.non {K : PySem.W.Frag} {H : Hp} : Pl K H .non "NoneType" := ⟨.base .non, .non⟩
theorem Pl.bl {K : PySem.W.Frag} {H : Hp} {b : Bool} : Pl K H (.bl b) "bool" := ⟨.base (.bl b), .bl⟩
theorem Pl.int {K : PySem.W.Frag} {H : Hp} {i : Int} : Pl K H (.int i) "int" := ⟨.base (.int i), .int⟩
theorem Pl.str {K : PySem.W.Frag} {H : Hp} {z : Str} : Pl K H (.str z) "str" := ⟨.base (.str z), .str⟩
theorem Pl.lst {K : PySem.W.Frag} {H : Hp} {a : Addr} {xs : List V} (h : H a = some (.lst xs)) : Pl K H (.ref a) "list" := ⟨.base (.lst h), .lst⟩
theorem Pl.tup {K : PySem.W.Frag} {H : Hp} {a : Addr} {xs : List V} (h : H a = some (.tup xs)) : Pl K H (.ref a) "tuple" := ⟨.base (.tup h), .tup⟩
theorem TyX.mono {K : PySem.W.Frag} {H H' : Hp} {x : V} {t : Value} (S : Same H H') (h : TyX K H x t) : TyX K H' x t := by
  cases h with
  | base b =>
    cases b with
    | non => exact .base .non
    | bl z => exact .base (.bl z)
    | int z => exact .base (.int z)
    | str z => exact .base (.str z)
    | flt z => exact .base (.flt z)
    | lst e => exact .base (.lst (S _ _ e))
    | frz e => exact .base (.frz (S _ _ e))
    | tup e => exact .base (.tup (S _ _ e))
    | dK e => exact .base (.dK (S _ _ e))
    | dT e => exact .base (.dT (S _ _ e))
    | ins e cl ha hn htk hm => exact .base (.ins (S _ _ e) cl ha hn htk hm)
  | byt b => exact .byt b
  | set e => exact .set (S _ _ e)
  | kList e c => exact .kList e c
  | kTuple e c => exact .kTuple e c
  | kDict e c => exact .kDict e c
  | fTuple e => exact .fTuple (S _ _ e)
  | fDict e => exact .fDict (S _ _ e)
theorem Pl.mono {K : PySem.W.Frag} {H H' : Hp} {x : V} {T : String} (S : Same H H') (h : Pl K H x T) : Pl K H' x T := ⟨TyX.mono S h.1, h.2⟩
theorem ty_ne {a b : String} {p : Prop} (e : Value.type a = Value.type b) (h : a ≠ b) : p := absurd (Value.type.inj e) h
theorem Pl.is_str {K : PySem.W.Frag} {H : Hp} {z : Str} {T : String} (h : Pl K H (.str z) T) : T = "str" := by
  have key : ∀ t, TyX K H (.str z) t → t = .type "str" := fun t h => by
    cases h with
    | base b => cases b; rfl
  exact Value.type.inj (key _ h.1)
theorem Pl.is_int {K : PySem.W.Frag} {H : Hp} {z : Int} {T : String} (h : Pl K H (.int z) T) : T = "int" := by
  have key : ∀ t, TyX K H (.int z) t → t = .type "int" := fun t h => by
    cases h with
    | base b => cases b; rfl
  exact Value.type.inj (key _ h.1)
theorem Pl.is_bl {K : PySem.W.Frag} {H : Hp} {z : Bool} {T : String} (h : Pl K H (.bl z) T) : T = "bool" := by
  have key : ∀ t, TyX K H (.bl z) t → t = .type "bool" := fun t h => by
    cases h with
    | base b => cases b; rfl
  exact Value.type.inj (key _ h.1)
theorem Pl.of_str {K : PySem.W.Frag} {H : Hp} {x : V} {T : String} (h : Pl K H x T) (e : T = "str") : ∃ z, x = .str z := by
  have key : ∀ t, TyX K H x t → t = .type "str" → ∃ z, x = .str z := fun t h e => by
    cases h with
    | base b =>
      cases b with
      | str z => exact ⟨z, rfl⟩
      | ins _ _ _ _ _ _ => cases e
      | _ => exact ty_ne e (by decide)
    | _ => exact ty_ne e (by decide)
  exact key _ h.1 (by rw [e])
theorem Pl.of_int {K : PySem.W.Frag} {H : Hp} {x : V} {T : String} (h : Pl K H x T) (e : T = "int") : ∃ z, x = .int z := by
  have key : ∀ t, TyX K H x t → t = .type "int" → ∃ z, x = .int z := fun t h e => by
    cases h with
    | base b =>
      cases b with
      | int z => exact ⟨z, rfl⟩
      | ins _ _ _ _ _ _ => cases e
      | _ => exact ty_ne e (by decide)
    | _ => exact ty_ne e (by decide)
  exact key _ h.1 (by rw [e])
/-- the object at a stands where the abstract heap has grown -/
theorem q_sortTx {H : Hp} {Q : VK} {z : Str} (h : z.length < 64) (q : ∀ (ys : List Str) (p : Addr) H', H p = none → Same H H' → H' p = some (.lst (ys.map V.str)) → ys.Perm (signs z) → sortedS ys = true → Q (.ref p) H') : rSortTx [.str z] H Q :=
  ⟨z, rfl, h, fun ys p h1 h2 n => q ys p _ n (Same.new n) upd_same h1 h2⟩
theorem dp_strs {K : PySem.W.Frag} {H : Hp} : ∀ ys : List Str, DpAll K H (ys.map V.str) (ys.map PyData.str)
  | [] => .nil
  | y :: ys => .cons (.str y) (dp_strs ys)
theorem dp_lst_strs {K : PySem.W.Frag} {H : Hp} {p : Addr} {ys : List Str} (h : H p = some (.lst (ys.map V.str))) : Dp K H (.ref p) (.list (ys.map PyData.str)) := .lst (SqL.of h) (dp_strs ys)
def Asc (z : Str) : Prop := ∀ c ∈ z.cps.toList, c < 128
theorem Asc.ok {z : Str} (h : Asc z) : PyData.strOk z = true := by
  unfold PyData.strOk
  rw [← Array.all_toList, List.all_eq_true]
  intro c hc
  have := h c hc
  exact decide_eq_true (by omega)
theorem canLay_strs : ∀ (ys : List Str), (∀ y ∈ ys, Asc y) → PyData.canLayAll0 (ys.map PyData.str) = true
  | [], _ => rfl
  | y :: ys, h => by
    simp only [List.map_cons, PyData.canLayAll0, PyData.canLay0, Bool.and_eq_true]
    exact ⟨(h y List.mem_cons_self).ok, canLay_strs ys fun z hz => h z (List.mem_cons_of_mem _ hz)⟩
theorem depth_strs : ∀ (ys : List Str), PyData.depthAll (ys.map PyData.str) = 0
  | [] => rfl
  | y :: ys => by simp only [List.map_cons, PyData.depthAll, PyData.depth, depth_strs ys]; rfl
theorem shaped_strs {ys : List Str} (h : ∀ y ∈ ys, Asc y) : SeqAt.shaped (.list (ys.map PyData.str)) = true := by
  unfold SeqAt.shaped
  rw [Bool.and_eq_true]
  refine ⟨?_, ?_⟩
  · simp only [PyData.canLay0]; exact canLay_strs ys h
  · simp only [PyData.depth, depth_strs]; decide
theorem asc_signs {z : Str} (h : Asc z) : ∀ y ∈ signs z, Asc y := fun y hy c hc => by
  unfold signs at hy
  obtain ⟨d, hd, rfl⟩ := List.mem_map.mp hy
  have : c = d := by simpa using hc
  subst this
  exact h _ hd
theorem shaped_sorted {z : Str} {ys : List Str} (h : Asc z) (p : ys.Perm (signs z)) : SeqAt.shaped (.list (ys.map PyData.str)) = true := shaped_strs fun y hy => asc_signs h y (p.mem_iff.mp hy)
theorem asc_alpha : Asc alphaS := fun c hc => by
  rw [alphaS_cps] at hc
  have := (mem_alpha.mp hc).2
  omega
end Bt
namespace Bt
open PySem PySem.Spec PyProof.Rows L2
theorem SqT_mono {K : PySem.W.Frag} {H H' : Hp} {a : Addr} {xs : List V} (e : Same H H') (h : SqT K H a xs) : SqT K H' a xs := by
  rcases h with (h | ⟨o, h⟩) | h
  · exact .inl (.inl (e _ _ h))
  · exact .inl (.inr ⟨o, e _ _ h⟩)
  · exact .inr h
mutual
theorem Dp.mono {K : PySem.W.Frag} {H H' : Hp} (S : Same H H') : ∀ {v : V} {d : PyData}, Dp K H v d → Dp K H' v d
  | _, _, .non => .non
  | _, _, .bl b => .bl b
  | _, _, .int i => .int i
  | _, _, .str x => .str x
  | _, _, .lst h r => .lst (S.seq h) (DpAll.mono S r)
  | _, _, .tup h r => .tup (SqT_mono S h) (DpAll.mono S r)
theorem DpAll.mono {K : PySem.W.Frag} {H H' : Hp} (S : Same H H') : ∀ {vs : List V} {ds : List PyData}, DpAll K H vs ds → DpAll K H' vs ds
  | _, _, .nil => .nil
  | _, _, .cons h r => .cons (Dp.mono S h) (DpAll.mono S r)
end
/-! ### an own error with one field, stored by its __init__ -/
def spExc (C : Addr) (fld : Str) : Sp := fun vs H Q _ => ∃ a v, vs = [.ref a, v] ∧ H a = some (exo a C none) ∧ ∀ dx, H dx = none → dx ≠ a → Q .non (upd (upd H dx (exd dx [(fld, v)])) a (exo a C (some dx)))
structure ExcF (K : PySem.W.Frag) (mg : Str → Option Value) (x fld : Str) (C : Addr) : Prop where
  g : mg x = some (.ref C)
  T : OexC K C
  no : PySem.W.findIn K (.ref C) fld = some none
  xf : XfC K C
  te : PySem.W.exmOne K (.ref C) (.ref C) = some true
  init : ∃ (f : Addr) (fd : FuncData) (qual : Str) (params : Arguments) (scope : Scope) (q1 q2 q3 q4 : Pos),
    PySem.W.findIn K (.ref C) "__init__" = some (some (.ref f)) ∧ PySem.W.typeIn K (.ref f) = some (.type "function") ∧
    FunD K "__init__" qual params [.Assign [.Attribute (.Name "self" q1) fld q2] (.Name fld q3) q4] scope [.non] [] f fd ∧ FnScope ["self", fld] ["self", fld] scope ∧ Binds K fd ["self", fld] []
section
variable {P : Program} {w : World} {K : PySem.W.Frag} {mg : Str → Option Value} {base : Heap} {x fld : Str} {C : Addr}
theorem exc_init {f : Addr} {fd : FuncData} {qual : Str} {params : Arguments} {scope : Scope} {q1 q2 q3 q4 : Pos} (T : OexC K C) (no : PySem.W.findIn K (.ref C) fld = some none)
    (F : FunD K "__init__" qual params [.Assign [.Attribute (.Name "self" q1) fld q2] (.Name fld q3) q4] scope [.non] [] f fd) (S : FnScope ["self", fld] ["self", fld] scope) (hd : (fld == ("__debug__" : Str)) = false) (hcd : (fld == ("__classdict__" : Str)) = false) :
    FnOk P w K mg base CX0 1 f fd ["self", fld] (spExc C fld) := by
  refine F.ok S (fun vs H Q E h => ?_) (fun cdv A outer s H vs Q E hr h => ?_)
  · obtain ⟨a, v, rfl, _⟩ := h
    rfl
  · obtain ⟨a, v, rfl, ha, k⟩ := h
    have v1 : Vis scope "self" := (S.par "self" List.mem_cons_self).elim .inl fun z => .inr (.inl z)
    have v2 : Vis scope fld := (S.par fld (List.mem_cons_of_mem _ List.mem_cons_self)).elim .inl fun z => .inr (.inl z)
    refine ⟨_, pss_one (ps_ost (pe_var (i := 0) rfl v1 (by decide) (by decide)) (pe_var (i := 1) rfl v2 hd hcd) (by rfl)), ?_⟩
    exact ⟨v, rfl, .ref a, rfl, a, C, rfl, T, no, .inl ⟨ha, fun dx n ne => k dx n ne⟩⟩
end
section
variable {X : Cx} {x fld : Str} {C : Addr} {k : Nat} {W : WX} {e : Expr} {te : TE} {p pos pos2 : Pos}
/-- what is wished may be weakened -/
def tMono (te : TE) : TE := fun σ H Q => ∃ Q' : VK, te σ H Q' ∧ ∀ v H1, Q' v H1 → Q v H1
theorem PE.mono (he : PE X e te) : PE X e (tMono te) := ⟨fun pins s σ H Q I h => by
  obtain ⟨Q', h1, h2⟩ := h
  refine thn (he.run pins s σ H Q' I h1) fun u s' z => ?_
  obtain ⟨v, H', I', r, q⟩ := z
  exact ⟨v, H', I', r, h2 v H' q⟩⟩
/-- raise C(e) -/
def tRaise1 (C : Addr) (fld : Str) (W : WX) (te : TE) : TS := fun _ σ H => te σ H fun v H1 => ∀ d H3, H1 d = none → Same H1 H3 → H3 d = some (.xd [(fld, v)]) → W (.ref C) (some d) σ H3
theorem ps_raise1 (hc : X.calm = true) (B : ExcF X.K X.mg x fld C) (hr : Room k X.A) (hk : 2 ≤ k) (tk : Takes X W) (he : PE X e te) (hg : Gl X x := by rfl) (hd : (fld == ("__debug__" : Str)) = false := by decide) (hcd : (fld == ("__classdict__" : Str)) = false := by decide)
    (hdb : (x == ("__debug__" : Str)) = false := by decide) (h1 : starEach (e :: []) X.env = (false, eval e X.env) :: starEach [] X.env := by rfl) (h2 : (backTo pos (starEach [] X.env)).any (·.1) = false := by rfl) :
    PS X (.Raise (some (.Call (.Name x p) [e] [] pos)) none pos2) (tRaise1 C fld W te) := by
  obtain ⟨f, fd, qual, params, scope, q1, q2, q3, q4, i1, i2, F, S, b⟩ := B.init
  have m := pmk_oex (sp := spExc C fld) (dvs := []) (p := p) (pos := pos) B.T i1 i2 (exc_init B.T B.no F S hd hcd) (hr.mono hk) b .nil pass0 hg B.g (pa_cons (PE.mono he) pa_nil h1) hdb h1 h2
  have q := ps_raise (pos := pos2) hc tk m
  refine ⟨fun pins s σ H D I h => q.run pins s σ H D I ?_⟩
  have key : ∀ v H1, (∀ d H3, H1 d = none → Same H1 H3 → H3 d = some (.xd [(fld, v)]) → W (.ref C) (some d) σ H3) →
      ([v].length ≤ 1000 ∧ ∀ a, H1 a = none → spExc C fld (.ref a :: ([v] ++ [])) (upd H1 a (exo a C none))
        (fun v H2 => v = .non ∧ ∃ (d : Addr) (fs : List (Str × V)), H2 a = some (exo a C (some d)) ∧ H2 d = some (exd d fs) ∧ H1 d = none ∧ W (.ref C) (some d) σ (upd (del H2 a) d (.xd fs))) (fun _ _ _ => False)) := fun v H1 z => by
    refine ⟨by show 1 ≤ 1000; decide, fun a ha => ⟨a, v, rfl, upd_same, fun dx n ne => ⟨rfl, dx, _, upd_same, by rw [upd_ne ne, upd_same], ?_, ?_⟩⟩⟩
    · rw [upd_ne ne] at n; exact n
    · have n1 : H1 dx = none := by rw [upd_ne ne] at n; exact n
      refine z dx _ n1 (fun b o e => ?_) upd_same
      have nb : b ≠ dx := ne_of_none e n1
      have na : b ≠ a := ne_of_none e ha
      rw [upd_ne nb, del_ne na, upd_ne na, upd_ne nb, upd_ne na]
      exact e
  exact ⟨_, h, fun v H1 z => key v H1 z⟩
theorem s_raise1 {C : Addr} {fld : Str} {W : WX} {te : TE} {D : Ends} {σ : L2.St} {H : Hp} (h : te σ H fun v H1 => ∀ d H3, H1 d = none → Same H1 H3 → H3 d = some (.xd [(fld, v)]) → W (.ref C) (some d) σ H3) : tRaise1 C fld W te D σ H := h
end
end Bt
namespace Bt
open PySem PySem.Spec PyProof.Rows L2
def top (i : Nat) : Stmt := PySem.Challenge.pw_betweenlists_k02_forms_made.main.body.getD i (.Pass ⟨0, 0, 0, 0⟩)
abbrev s__wall : Stmt := top 0
theorem sc__wall : FnScope ["k"] ["k"] (defScope s__wall) := ⟨rfl, rfl, rfl, by decide +kernel, rfl, by decide +kernel, by decide +kernel⟩
abbrev s_InvalidName___init__ : Stmt := inClass (top 3) 0
theorem sc_InvalidName___init__ : FnScope ["self", "value"] ["self", "value"] (defScope s_InvalidName___init__) := ⟨rfl, rfl, rfl, by decide +kernel, rfl, by decide +kernel, by decide +kernel⟩
abbrev s_InvalidForm___init__ : Stmt := inClass (top 4) 0
theorem sc_InvalidForm___init__ : FnScope ["self", "value"] ["self", "value"] (defScope s_InvalidForm___init__) := ⟨rfl, rfl, rfl, by decide +kernel, rfl, by decide +kernel, by decide +kernel⟩
abbrev s_InvalidNumber___init__ : Stmt := inClass (top 5) 0
theorem sc_InvalidNumber___init__ : FnScope ["self", "value"] ["self", "value"] (defScope s_InvalidNumber___init__) := ⟨rfl, rfl, rfl, by decide +kernel, rfl, by decide +kernel, by decide +kernel⟩
abbrev s_is_whole : Stmt := top 9
theorem sc_is_whole : FnScope ["value"] ["value"] (defScope s_is_whole) := ⟨rfl, rfl, rfl, by decide +kernel, rfl, by decide +kernel, by decide +kernel⟩
abbrev s_is_name : Stmt := top 10
theorem sc_is_name : FnScope ["value", "letter"] ["value"] (defScope s_is_name) := ⟨rfl, rfl, rfl, by decide +kernel, rfl, by decide +kernel, by decide +kernel⟩
abbrev s_check_name : Stmt := top 12
theorem sc_check_name : FnScope ["value"] ["value"] (defScope s_check_name) := ⟨rfl, rfl, rfl, by decide +kernel, rfl, by decide +kernel, by decide +kernel⟩
abbrev s_check_least : Stmt := top 13
theorem sc_check_least : FnScope ["value", "least"] ["value", "least"] (defScope s_check_least) := ⟨rfl, rfl, rfl, by decide +kernel, rfl, by decide +kernel, by decide +kernel⟩
abbrev s_key_in : Stmt := top 16
theorem sc_key_in : FnScope ["form", "name", "ranks", "letter"] ["form", "name"] (defScope s_key_in) := ⟨rfl, rfl, rfl, by decide +kernel, rfl, by decide +kernel, by decide +kernel⟩
abbrev s__are_letters : Stmt := top 17
theorem sc__are_letters : FnScope ["value"] ["value"] (defScope s__are_letters) := ⟨rfl, rfl, rfl, by decide +kernel, rfl, by decide +kernel, by decide +kernel⟩
abbrev s__are_chains : Stmt := top 18
theorem sc__are_chains : FnScope ["value"] ["value"] (defScope s__are_chains) := ⟨rfl, rfl, rfl, by decide +kernel, rfl, by decide +kernel, by decide +kernel⟩
abbrev s_Form___init__ : Stmt := inClass (top 19) 0
theorem sc_Form___init__ : FnScope ["self", "letters", "chains"] ["self", "letters", "chains"] (defScope s_Form___init__) := ⟨rfl, rfl, rfl, by decide +kernel, rfl, by decide +kernel, by decide +kernel⟩
abbrev s_Form_letters : Stmt := inClass (top 19) 1
theorem sc_Form_letters : FnScope ["self"] ["self"] (defScope s_Form_letters) := ⟨rfl, rfl, rfl, by decide +kernel, rfl, by decide +kernel, by decide +kernel⟩
abbrev s_Form_chains : Stmt := inClass (top 19) 2
theorem sc_Form_chains : FnScope ["self"] ["self"] (defScope s_Form_chains) := ⟨rfl, rfl, rfl, by decide +kernel, rfl, by decide +kernel, by decide +kernel⟩
abbrev s_Form___call__ : Stmt := inClass (top 19) 3
theorem sc_Form___call__ : FnScope ["self", "name"] ["self", "name"] (defScope s_Form___call__) := ⟨rfl, rfl, rfl, by decide +kernel, rfl, by decide +kernel, by decide +kernel⟩
abbrev s_Form_ordered : Stmt := inClass (top 19) 4
theorem sc_Form_ordered : FnScope ["self", "names"] ["self", "names"] (defScope s_Form_ordered) := ⟨rfl, rfl, rfl, by decide +kernel, rfl, by decide +kernel, by decide +kernel⟩
abbrev s_Form___mul__ : Stmt := inClass (top 19) 5
theorem sc_Form___mul__ : FnScope ["self", "other"] ["self", "other"] (defScope s_Form___mul__) := ⟨rfl, rfl, rfl, by decide +kernel, rfl, by decide +kernel, by decide +kernel⟩
abbrev s_Form___rmul__ : Stmt := inClass (top 19) 6
theorem sc_Form___rmul__ : FnScope ["self", "other"] ["self", "other"] (defScope s_Form___rmul__) := ⟨rfl, rfl, rfl, by decide +kernel, rfl, by decide +kernel, by decide +kernel⟩
abbrev s_Form___floordiv__ : Stmt := inClass (top 19) 7
theorem sc_Form___floordiv__ : FnScope ["self", "other"] ["self", "other"] (defScope s_Form___floordiv__) := ⟨rfl, rfl, rfl, by decide +kernel, rfl, by decide +kernel, by decide +kernel⟩
abbrev s_Form___eq__ : Stmt := inClass (top 19) 8
theorem sc_Form___eq__ : FnScope ["self", "other"] ["self", "other"] (defScope s_Form___eq__) := ⟨rfl, rfl, rfl, by decide +kernel, rfl, by decide +kernel, by decide +kernel⟩
abbrev s__law_purse : Stmt := top 21
theorem sc__law_purse : FnScope ["_law_script", "_law_at", "_law_cell"] ["_law_script", "_law_at"] (defScope s__law_purse) := ⟨rfl, rfl, rfl, by decide +kernel, rfl, by decide +kernel, by decide +kernel⟩
abbrev s__law_draw : Stmt := top 22
theorem sc__law_draw : FnScope ["_law_purse_here", "_law_many", "_law_drawn", "_law_number"] ["_law_purse_here", "_law_many"] (defScope s__law_draw) := ⟨rfl, rfl, rfl, by decide +kernel, rfl, by decide +kernel, by decide +kernel⟩
abbrev s__law_form : Stmt := top 23
theorem sc__law_form : FnScope ["_law_purse_here", "_law_letters", "_law_way", "_law_at", "_law_turn", "_law_rest", "_law_many"] ["_law_purse_here"] (defScope s__law_form) := ⟨rfl, rfl, rfl, by decide +kernel, rfl, by decide +kernel, by decide +kernel⟩
abbrev s__law_whole : Stmt := top 24
theorem sc__law_whole : FnScope ["_law_value"] ["_law_value"] (defScope s__law_whole) := ⟨rfl, rfl, rfl, by decide +kernel, rfl, by decide +kernel, by decide +kernel⟩
abbrev s__law_refused : Stmt := top 25
theorem sc__law_refused : FnScope ["_law_letters", "_law_chains", "_law_found", "e"] ["_law_letters", "_law_chains"] (defScope s__law_refused) := ⟨rfl, rfl, rfl, by decide +kernel, rfl, by decide +kernel, by decide +kernel⟩
abbrev s__law_right : Stmt := top 26
theorem sc__law_right : FnScope ["_law_form_here", "_law_letters", "_law_chains"] ["_law_form_here", "_law_letters", "_law_chains"] (defScope s__law_right) := ⟨rfl, rfl, rfl, by decide +kernel, rfl, by decide +kernel, by decide +kernel⟩
abbrev s__law_bad_letters : Stmt := top 27
theorem sc__law_bad_letters : FnScope ["_law_letters", "_law_at", "_law_rest", "_law_bad", "_law_letter"] ["_law_letters", "_law_at"] (defScope s__law_bad_letters) := ⟨rfl, rfl, rfl, by decide +kernel, rfl, by decide +kernel, by decide +kernel⟩
abbrev s_law : Stmt := top 28
theorem sc_law : FnScope ["_law_script", "_law_forms", "_law_pairs", "_law_at", "_law_purse_here", "_law_letters", "_law_chains", "_law_bad", "_law_far", "_law_one", "_law_k", "_law_other"] ["_law_script"] (defScope s_law) := ⟨rfl, rfl, rfl, by decide +kernel, rfl, by decide +kernel, by decide +kernel⟩
theorem words_ : True := by
  k_with "s" => first
    | ((with_reducible refine' s_var ?hv ?_); (case hv => exact rfl))
    | with_reducible first
      | refine' s_c ?_ | refine' s_op ?_ | refine' s_asg ?_ | refine' s_gname ?_ | refine' s_seq ?_ | refine' s_next ?_ | refine' s_ret ?_ | refine' s_ifS ?_ | refine' s_drop ?_ | refine' s_retN ?_
      | refine' s_test ?_ | refine' s_B ?_ | refine' q_test ?_ | refine' s_int ?_ | refine' s_cons ?_ | refine' s_nil ?_ | refine' s_call ?_ | refine' s_CB ?_ | refine' s_andT ?_ | refine' s_orT ?_ | refine' s_notT ?_
      | refine' s_andV ?_ | refine' s_orV ?_ | refine' s_notV ?_ | refine' s_ifV ?_ | refine' s_chain ?_ | refine' s_sl ?_ | refine' s_noPart ?_ | refine' s_part ?_ | refine' s_gsub ?_ | refine' s_BM ?_ | refine' s_tup ?_ | refine' s_lst ?_
      | refine' q_add ?_ | refine' q_sub ?_ | refine' q_lt ?_ | refine' q_le ?_ | refine' q_gt ?_ | refine' q_ge ?_ | refine' s_ifT ?_ | refine' s_ifF ?_
      | (refine' q_mod ?hm ?_; (case hm => first | omega | decide)) | (refine' q_fdiv ?hm ?hn ?_; (case hm => first | omega | decide); (case hn => first | omega | decide))
      | (refine' q_mulR ?hm ?_; (case hm => first | omega | decide)) | (refine' q_mulL ?hm ?_; (case hm => first | omega | decide))
    | dsimp only
  k_with "r" => repeat (k_extra "s")
  trivial
structure Txt (K : PySem.W.Frag) (mg : Str → Option Value) : Prop where
  n_isinstance : mg "isinstance" = none
  n_int : mg "int" = none
  n_bool : mg "bool" = none
  n_str : mg "str" = none
  n_sorted : mg "sorted" = none
  v_LETTERS : ∃ t, mg "LETTERS" = some (.str alphaS t)
  v_MOST_CHAINS : ∃ t, mg "MOST_CHAINS" = some (.int 1000 t)
  n_tuple : mg "tuple" = none
  d_is_whole : Df K mg "is_whole" s_is_whole ["value"]
  d__are_letters : Df K mg "_are_letters" s__are_letters ["value"]
  d__are_chains : Df K mg "_are_chains" s__are_chains ["value"]
/-- what a Form stores -/
def frm (l c : V) : List (Str × V) := putF "_chains" c (putF "_letters" l [])
theorem lc_ne : ¬ (("_letters" : Str) = "_chains") := by decide +kernel
theorem frm_l (l c : V) : (frm l c).lookup ("_letters" : Str) = some l := by
  unfold frm
  rw [lookup_putF, if_neg lc_ne, lookup_putF, if_pos rfl]
theorem frm_c (l c : V) : (frm l c).lookup ("_chains" : Str) = some c := by
  unfold frm
  rw [lookup_putF, if_pos rfl]
structure FormC (K : PySem.W.Frag) (mg : Str → Option Value) (C : Addr) : Prop where
  cl : Cls K C
  g : mg "Form" = some (.ref C)
  makes : PySem.W.makesIn K C = true
  kp : PySem.W.keepIn K (.ref C) = true
  nL : NoAttr K C "_letters"
  nC : NoAttr K C "_chains"
  init : ∃ (f : Addr) (fd : FuncData) (d1 d2 : List Value), PySem.W.findIn K (.ref C) "__init__" = some (some (.ref f)) ∧ PySem.W.isFn K (.ref f) = true ∧
    FunD K "__init__" "Form.__init__" (defArgs s_Form___init__) (defBody s_Form___init__) (defScope s_Form___init__) [.str alphaS, .int 1] [] f fd ∧
    Binds K fd ["self", "letters", "chains"] [] ∧ Vals [.int 1] d1 ∧ Binds K fd ["self", "letters", "chains"] d1 ∧ Vals [.str alphaS, .int 1] d2 ∧ Binds K fd ["self", "letters", "chains"] d2
  pL : ∃ (p f : Addr) (fd : FuncData), PropOf K C "letters" p f ∧ Fun K "letters" "Form.letters" s_Form_letters f fd ∧ Binds K fd ["self"] []
  pC : ∃ (p f : Addr) (fd : FuncData), PropOf K C "chains" p f ∧ Fun K "chains" "Form.chains" s_Form_chains f fd ∧ Binds K fd ["self"] []
  eq : ∃ (f : Addr) (fd : FuncData), PySem.W.findIn K (.ref C) "__eq__" = some (some (.ref f)) ∧ PySem.W.isFn K (.ref f) = true ∧ Fun K "__eq__" "Form.__eq__" s_Form___eq__ f fd ∧ Binds K fd ["self", "other"] []
  i1 : PySem.W.findIn K (.ref C) "__class__" = some (some (.builtin "object.__class__"))
  i2 : PySem.W.specialIn K (.builtin "object.__class__") "__get__" = some (some (.builtin "getset_descriptor.__get__"))
  i3 : PySem.W.takesIn K (.builtin "object.__class__") = some true
  i4 : PySem.W.mroIn K C (.type "object") = some true
  kY : PySem.W.kitOne K (.ref C) (.ref C) = some true
  kN : ∀ T, Kd T → PySem.W.kitOne K (.type T) (.ref C) = some false
  nf : ∀ T, Kd T → PySem.W.notFirst K C (.type T) = true
  nfS : PySem.W.notFirst K C (.ref C) = true
section
variable {P : Program} {w : World} {K : PySem.W.Frag} {mg : Str → Option Value} {base : Heap}
/-! ### is_whole -/
def wholeV : V → Bool
  | .int _ => true
  | _ => false
def spWhole (K : PySem.W.Frag) : Sp := fun vs H Q _ => ∃ x T, vs = [x] ∧ Pl K H x T ∧ Q (.bl (T == "int")) H
theorem ok_is_whole (T : Txt K mg) : Cal P w K mg base 1 "is_whole" (spWhole K) := by
  refine T.d_is_whole.cal sc_is_whole (fun vs H Q E h => ?_) (fun f cdv A outer s H vs Q E hr h => ?_)
  · obtain ⟨x, T, rfl, _⟩ := h
    rfl
  · obtain ⟨x, ty, rfl, hx, k⟩ := h
    refine ⟨_, (pss_one (ps_ret (pe_and (pe_callB call_isi (by rfl) T.n_isinstance (by decide +kernel) (pa_cons (pv 0) (pa_cons (pe_bltn (v := .ty "int") (by rfl) T.n_int (by decide +kernel) rfl) pa_nil))) (pe_one (pe_not (pe_callB call_isi (by rfl) T.n_isinstance (by decide +kernel) (pa_cons (pv 0) (pa_cons (pe_bltn (v := .ty "bool") (by rfl) T.n_bool (by decide +kernel) rfl) pa_nil)))))))), ?_⟩
    k_extra "r"
    refine q_isi hx .int ?_
    k_extra "r"
    cases hx.2 <;> k_extra "r" <;> first | exact k | (refine s_if (fun _ => ?_) (fun z => absurd z (by decide)); k_extra "r"; refine q_isi hx .bl ?_; k_extra "r"; exact k)
/-! ### _are_letters -/
def spLetters (K : PySem.W.Frag) : Sp := fun vs H Q _ => ∃ x T, vs = [x] ∧ Pl K H x T ∧ (∀ z, x = .str z → z.length < 64 ∧ Asc z) ∧ ((∀ z, x = .str z → ¬ Letters z) → ∀ H', Same H H' → Q (.bl false) H') ∧ ((∃ z, x = .str z ∧ Letters z) → ∀ H', Same H H' → Q (.bl true) H')
theorem ok__are_letters (T : Txt K mg) : Cal P w K mg base 1 "_are_letters" (spLetters K) := by
  refine T.d__are_letters.cal sc__are_letters (fun vs H Q E h => ?_) (fun f cdv A outer s H vs Q E hr h => ?_)
  · obtain ⟨x, T, rfl, _⟩ := h
    rfl
  · obtain ⟨x, ty, rfl, hx, hz, kN, kY⟩ := h
    have hu := hr.units
    refine ⟨_, (pss_one (ps_ret (pe_and (pe_callB call_isi (by rfl) T.n_isinstance (by decide +kernel) (pa_cons (pv 0) (pa_cons (pe_bltn (v := .ty "str") (by rfl) T.n_str (by decide +kernel) rfl) pa_nil)))
      (pe_one (pe_cmpR (op_eqU hu) (pe_callB (cr_sortedTx (by rfl)) (by rfl) T.n_sorted (by decide +kernel) (pa_cons (pv 0) pa_nil)) (pe_callB (cr_sortedTx (by rfl)) (by rfl) T.n_sorted (by decide +kernel) (pa_cons (pe_glob (v := .str alphaS) (by rfl) T.v_LETTERS.choose_spec ⟨_, rfl⟩) pa_nil)) (by rfl)))))), ?_⟩
    k_extra "r"
    refine q_isi hx .str ?_
    by_cases e : ty = "str"
    · obtain ⟨z, rfl⟩ := hx.of_str e
      obtain ⟨h64, asc⟩ := hz z rfl
      subst e
      k_extra "r"
      refine s_if1 rfl ?_
      k_extra "r"
      refine q_sortTx h64 fun ys p1 H1 n1 S1 h1 q1 q2 => ?_
      k_extra "r"
      refine q_sortTx (by decide) fun ws p2 H2 n2 S2 h2 r1 r2 => ?_
      refine q_eqD (dp_lst_strs (S2 _ _ h1)) (dp_lst_strs h2) (shaped_sorted asc q1) (shaped_sorted asc_alpha r1) ?_
      rw [sorted_eq_iff q1 q2 r1 r2, alphaS_cps]
      by_cases l : Letters z
      · rw [decide_eq_true (show z.cps.toList.Perm alpha from l)]
        exact kY ⟨z, rfl, l⟩ _ (S1.trans S2)
      · rw [decide_eq_false (show ¬ z.cps.toList.Perm alpha from l)]
        exact kN (fun z' e => by cases e; exact l) _ (S1.trans S2)
    · have e2 : subKd ty "str" = false := by
        cases hx.2 <;> first | rfl | exact absurd rfl e
      rw [e2]
      k_extra "r"
      refine kN (fun z ez => ?_) H (Same.refl H)
      subst ez
      exact absurd hx.is_str e
/-! ### _are_chains -/
def spChains (K : PySem.W.Frag) : Sp := fun vs H Q _ => ∃ x T, vs = [x] ∧ Pl K H x T ∧ ((∀ i, x = .int i → ¬ (1 ≤ i ∧ i ≤ 1000)) → Q (.bl false) H) ∧ ((∃ i, x = .int i ∧ 1 ≤ i ∧ i ≤ 1000) → Q (.bl true) H)
theorem ok__are_chains (T : Txt K mg) : Cal P w K mg base 2 "_are_chains" (spChains K) := by
  refine T.d__are_chains.cal sc__are_chains (fun vs H Q E h => ?_) (fun f cdv A outer s H vs Q E hr h => ?_)
  · obtain ⟨x, T, rfl, _⟩ := h
    rfl
  · obtain ⟨x, ty, rfl, hx, kN, kY⟩ := h
    refine ⟨_, (pss_one (ps_ret (pe_and (pe_c (ok_is_whole T) hr (by decide) rfl (pa_cons (pv 0) pa_nil)) (pe_one (pe_chain op_leI op_leI pe_int (pv 0) (pe_glob (v := .int 1000) (by rfl) T.v_MOST_CHAINS.choose_spec ⟨_, rfl⟩)))))), ?_⟩
    k_extra "r"
    refine ⟨x, ty, rfl, hx, ?_⟩
    by_cases e : ty = "int"
    · obtain ⟨i, rfl⟩ := hx.of_int e
      subst e
      k_extra "r"
      refine s_if1 rfl ?_
      k_extra "r"
      by_cases h1 : 1 ≤ i
      · rw [decide_eq_true h1]
        k_extra "r"
        by_cases h2 : i ≤ 1000
        · rw [decide_eq_true h2]
          exact kY ⟨i, rfl, h1, h2⟩
        · rw [decide_eq_false h2]
          exact kN fun j ej => by cases ej; omega
      · rw [decide_eq_false h1]
        k_extra "r"
        exact kN fun j ej => by cases ej; omega
    · k_extra "r"
      refine s_if0 (beq_eq_false_iff_ne.mpr e) ?_
      refine kN fun i ei => ?_
      subst ei
      exact absurd hx.is_int e
/-! ### Form.__init__ -/
def Valid (l c : V) : Prop := (∃ z, l = .str z ∧ Letters z) ∧ ∃ i, c = .int i ∧ 1 ≤ i ∧ i ≤ 1000
theorem valid_dec (l c : V) : Valid l c ∨ ¬ Valid l c := Classical.em _
def spFormInit (K : PySem.W.Frag) (C CI : Addr) : Sp := fun vs H Q E => ∃ p dx l c T1 T2, vs = [.ref p, l, c] ∧ H p = some (.ins C dx []) ∧ Pl K H l T1 ∧ Pl K H c T2 ∧ (∀ z, l = .str z → z.length < 64 ∧ Asc z) ∧
  (Valid l c → ∀ H', H' p = some (.ins C dx (frm l c)) → But p H H' → Q .non H') ∧
  (¬ Valid l c → ∀ H' t d, Same H H' → H t = none → H d = none → H' d = some (.xd [("value", .ref t)]) → H' t = some (.tup [l, c]) → E (.ref CI) (some d) H')
theorem ok_form_init {C CI f : Addr} {fd : FuncData} (T : Txt K mg) (FC : FormC K mg C) (XI : ExcF K mg "InvalidForm" "value" CI)
    (F : FunD K "__init__" "Form.__init__" (defArgs s_Form___init__) (defBody s_Form___init__) (defScope s_Form___init__) [.str alphaS, .int 1] [] f fd) :
    FnOk P w K mg base (L2.CX P w) 4 f fd ["self", "letters", "chains"] (spFormInit K C CI) := by
  refine F.ok sc_Form___init__ (fun vs H Q E h => ?_) (fun cdv A outer s H vs Q E hr h => ?_)
  · obtain ⟨p, dx, l, c, _, _, rfl, _⟩ := h
    rfl
  · obtain ⟨p, dx, l, c, T1, T2, rfl, hp, hl, hc, hz, kY, kN⟩ := h
    refine ⟨_, (pss_cons (ps_if (pt_not (PW.pt (pw_and (pt_val (pe_c (ok__are_letters T) hr (by decide) rfl (pa_cons (pv 1) pa_nil))) (pw_and1 (pt_val (pe_c (ok__are_chains T) hr (by decide) rfl (pa_cons (pv 2) pa_nil))))))) (pss_one (ps_raise1 rfl XI hr (by decide) (takes_of rfl rfl rfl rfl) (pe_tup (pa_cons (pv 1) (pa_cons (pv 2) pa_nil))))) pss_nil)
      (pss_cons (ps_fld (pv 0) (pv 1) rfl)
      (pss_one (ps_fld (pv 0) (pv 2) rfl)))), ?_⟩
    have raise : ¬ Valid l c → ∀ H1, Same H H1 → ∀ Z : Ends, tRaise1 CI "value" (fun cls d σ H => E cls d H) (tTup (tCons (tVar 1) (tCons (tVar 2) tNil))) Z (start ["self", "letters", "chains"] [.ref p, l, c]) H1 := fun nv H1 S1 Z => by
      refine s_raise1 ?_
      k_extra "r"
      refine ⟨by show 2 ≤ sizeLine; decide, fun t nt d H3 nd S3 hd => ?_⟩
      have n1 : H1 d = none := by
        cases e : H1 d with
        | none => rfl
        | some o => exact absurd ((Same.new nt) d o e) (by rw [nd]; intro z; cases z)
      exact kN nv H3 t d (fun b o e => S3 _ _ (Same.new nt _ _ (S1 _ _ e))) (S1.free nt) (S1.free n1) hd (S3 _ _ upd_same)
    k_extra "r"
    refine ⟨l, T1, rfl, hl, hz, fun hno H1 S1 => ?_, fun hyes H1 S1 => ?_⟩
    · k_extra "r"
      exact raise (fun v => by obtain ⟨⟨z, ez, lz⟩, _⟩ := v; exact hno z ez lz) H1 S1 ⟨fun _ _ => False, Q, fun _ _ => False, fun _ _ => False⟩
    · k_extra "r"
      refine ⟨c, T2, rfl, hc.mono S1, fun hno => ?_, fun hyc => ?_⟩
      · k_extra "r"
        exact raise (fun v => by obtain ⟨_, i, ei, li⟩ := v; exact hno i ei li) H1 S1 ⟨fun _ _ => False, Q, fun _ _ => False, fun _ _ => False⟩
      · k_extra "r"
        refine ⟨_, rfl, _, rfl, p, C, dx, [], rfl, S1 _ _ hp, FC.cl, FC.nL, (by show 0 < 1000; decide), ?_⟩
        refine ⟨_, rfl, _, rfl, p, C, dx, _, rfl, upd_same, FC.cl, FC.nC, (by show 1 < 1000; decide), ?_⟩
        refine kY ⟨hyes, hyc⟩ _ upd_same fun b o n e => ?_
        rw [upd_ne n, upd_ne n]
        exact S1 _ _ e
/-! ### a form that stands -/
def FormAt (C : Addr) (H : Hp) (a : Addr) (z : Str) (c : Int) : Prop := ∃ dx, H a = some (.ins C dx (frm (.str z) (.int c)))
theorem FormAt.mono {C : Addr} {H H' : Hp} {a : Addr} {z : Str} {c : Int} (S : Same H H') (h : FormAt C H a z c) : FormAt C H' a z c := let ⟨dx, e⟩ := h; ⟨dx, S _ _ e⟩
theorem FormAt.ty {C : Addr} {H : Hp} {a : Addr} {z : Str} {c : Int} (FC : FormC K mg C) (h : FormAt C H a z c) : TyX K H (.ref a) (.ref C) := let ⟨_, e⟩ := h; .base (.ins e FC.cl FC.i1 FC.i2 FC.i3 FC.i4)
theorem ok_form_letters {C f : Addr} {fd : FuncData} (FC : FormC K mg C) (F : Fun K "letters" "Form.letters" s_Form_letters f fd) : FnOk P w K mg base CX0 1 f fd ["self"] (getSp C "_letters") := by
  obtain ⟨oc, od, kV, doc, pm, an, cdv, ct, osl, rfl, lk, hcd⟩ := F.ex
  exact fn_getter lk hcd sc_Form_letters rfl rfl FC.cl FC.nL
theorem ok_form_chains {C f : Addr} {fd : FuncData} (FC : FormC K mg C) (F : Fun K "chains" "Form.chains" s_Form_chains f fd) : FnOk P w K mg base CX0 1 f fd ["self"] (getSp C "_chains") := by
  obtain ⟨oc, od, kV, doc, pm, an, cdv, ct, osl, rfl, lk, hcd⟩ := F.ex
  exact fn_getter lk hcd sc_Form_chains rfl rfl FC.cl FC.nC
end
section
variable {X : Cx} {C : Addr} {e : Expr} {pos : Pos} {te : TE} {k : Nat}
theorem pe_letters (FC : FormC X.K X.mg C) (hr : Room k X.A) (hk : 2 ≤ k) (he : PE X e te) (hab : attributeBase e "letters" X.env (eval e X.env) = eval e X.env := by rfl) : PE X (.Attribute e "letters" pos) (tProp C (getSp C "_letters") [] E0 te) := by
  obtain ⟨p, f, fd, hp, F, b⟩ := FC.pL
  exact pe_prop he FC.cl hp (ok_form_letters FC F) (hr.mono hk) b .nil pass0 hab
theorem pe_chains (FC : FormC X.K X.mg C) (hr : Room k X.A) (hk : 2 ≤ k) (he : PE X e te) (hab : attributeBase e "chains" X.env (eval e X.env) = eval e X.env := by rfl) : PE X (.Attribute e "chains" pos) (tProp C (getSp C "_chains") [] E0 te) := by
  obtain ⟨p, f, fd, hp, F, b⟩ := FC.pC
  exact pe_prop he FC.cl hp (ok_form_chains FC F) (hr.mono hk) b .nil pass0 hab
theorem s_letters {σ : L2.St} {H : Hp} {Q : VK} (h : te σ H fun x H1 => ∃ a z c, x = .ref a ∧ FormAt C H1 a z c ∧ Q (.str z) H1) : ∃ Q', te σ H Q' ∧ ∀ x H1, Q' x H1 → (∃ a dx fs, x = .ref a ∧ H1 a = some (.ins C dx fs) ∧ getSp C "_letters" (.ref a :: []) H1 Q E0) :=
  ⟨_, h, fun x H1 ⟨a, z, c, ex, ⟨dx, ea⟩, q⟩ => ⟨a, dx, _, ex, ea, a, dx, _, _, rfl, ea, frm_l _ _, q⟩⟩
end
theorem q_letters {C a : Addr} {H : Hp} {Q : VK} {z : Str} {c : Int} (h : FormAt C H a z c) (q : Q (.str z) H) : ∃ b dx fs, V.ref a = .ref b ∧ H b = some (.ins C dx fs) ∧ getSp C "_letters" (.ref b :: []) H Q E0 :=
  let ⟨dx, e⟩ := h; ⟨a, dx, _, rfl, e, a, dx, _, _, rfl, e, frm_l _ _, q⟩
theorem q_chains {C a : Addr} {H : Hp} {Q : VK} {z : Str} {c : Int} (h : FormAt C H a z c) (q : Q (.int c) H) : ∃ b dx fs, V.ref a = .ref b ∧ H b = some (.ins C dx fs) ∧ getSp C "_chains" (.ref b :: []) H Q E0 :=
  let ⟨dx, e⟩ := h; ⟨a, dx, _, rfl, e, a, dx, _, _, rfl, e, frm_c _ _, q⟩
theorem s_prop {C : Addr} {sp : Sp} {dvs : List V} {E : XK} {ta : TE} {σ : L2.St} {H : Hp} {Q : VK} (h : ta σ H fun x H1 => ∃ a dx fs, x = .ref a ∧ H1 a = some (.ins C dx fs) ∧ sp (.ref a :: dvs) H1 Q E) : tProp C sp dvs E ta σ H Q := h
section
variable {P : Program} {w : World} {K : PySem.W.Frag} {mg : Str → Option Value} {base : Heap}
/-! ### Form.__eq__ -/
def spFormEq (K : PySem.W.Frag) (C : Addr) : Sp := fun vs H Q _ => ∃ a y z c, vs = [.ref a, y] ∧ FormAt C H a z c ∧ ((∃ b z' c', y = .ref b ∧ FormAt C H b z' c' ∧ Q (.bl (decide (z = z' ∧ c = c'))) H) ∨ ∃ T, Pl K H y T ∧ Q (.bl false) H)
theorem ok_form_eq {C f : Addr} {fd : FuncData} (T : Txt K mg) (FC : FormC K mg C) (F : Fun K "__eq__" "Form.__eq__" s_Form___eq__ f fd) : FnOk P w K mg base CX0 3 f fd ["self", "other"] (spFormEq K C) := by
  refine F.ok sc_Form___eq__ (fun vs H Q E h => ?_) (fun cdv A outer s H vs Q E hr h => ?_)
  · obtain ⟨a, y, z, c, rfl, _⟩ := h
    rfl
  · obtain ⟨a, y, z, c, rfl, ha, hy⟩ := h
    refine ⟨_, (pss_one (ps_ret (pe_and (pe_callB call_isi (by rfl) T.n_isinstance (by decide +kernel) (pa_cons (pv 1) (pa_cons (pe_glob (v := .ref C) (by rfl) FC.g rfl) pa_nil)))
      (pe_and (pe_cmpR op_eq (pe_letters FC hr (by decide) (pv 0)) (pe_letters FC hr (by decide) (pv 1)) (by rfl)) (pe_one (pe_cmpR op_eq (pe_chains FC hr (by decide) (pv 0)) (pe_chains FC hr (by decide) (pv 1)) (by rfl))))))), ?_⟩
    k_extra "r"
    rcases hy with ⟨b, z', c', rfl, hb, q⟩ | ⟨ty, hy, q⟩
    · refine ⟨.ref b, .ref C, .ref C, .ref C, true, rfl, .own C, hb.ty FC, FC.kY, ?_⟩
      k_extra "r"
      refine s_prop ?_
      k_extra "r"
      refine q_letters ha ?_
      refine s_prop ?_
      k_extra "r"
      refine q_letters hb ⟨rfl, ?_⟩
      k_extra "r"
      by_cases e1 : z = z'
      · subst e1
        refine s_if1 (by simp) ?_
        refine s_prop ?_
        k_extra "r"
        refine q_chains ha ?_
        refine s_prop ?_
        k_extra "r"
        refine q_chains hb ⟨rfl, ?_⟩
        have : decide (V.int c = V.int c') = decide (z = z ∧ c = c') := decide_eq_decide.mpr ⟨fun e => ⟨rfl, by cases e; rfl⟩, fun e => by rw [e.2]⟩
        rw [this]
        exact q
      · refine s_if0 (by simp [e1]) ?_
        have : decide (z = z' ∧ c = c') = false := decide_eq_false fun e => e1 e.1
        rw [this] at q
        exact q
    · refine ⟨y, .ref C, .type ty, .ref C, false, rfl, .own C, hy.1, FC.kN _ hy.2, ?_⟩
      k_extra "r"
      exact q
end
end Bt
namespace Bt
open PySem PySem.Spec PyProof.Rows L2
theorem app_cps (a b : Str) : (a ++ b).cps.toList = a.cps.toList ++ b.cps.toList := by
  show (a.cps ++ b.cps).toList = _
  simp
theorem len_cps (z : Str) : z.length = z.cps.toList.length := (Array.length_toList).symm
theorem app_len (a b : Str) : (a ++ b).length = a.length + b.length := by
  rw [len_cps, len_cps, len_cps, app_cps, List.length_append]
theorem cut_cps (z : Str) (lo hi : Option Int) : (cutS z lo hi).cps.toList = (z.cps.toList.drop (HT.sIx z.length 0 lo)).take (HT.sIx z.length z.length hi - HT.sIx z.length 0 lo) := rfl
theorem cut_from {z : Str} {i : Int} (h0 : 0 ≤ i) : (cutS z (some i) none).cps.toList = z.cps.toList.drop i.toNat := by
  obtain ⟨k, rfl⟩ : ∃ k : Nat, i = k := ⟨i.toNat, by omega⟩
  rw [cut_cps, HT.sIx_nat, HT.sIx_none, Int.toNat_natCast, len_cps]
  rcases Nat.le_total k z.cps.toList.length with h | h
  · rw [Nat.min_eq_left h, List.take_of_length_le (by rw [List.length_drop]; omega)]
  · rw [Nat.min_eq_right h, List.drop_of_length_le (Nat.le_refl _), List.drop_of_length_le h, List.take_nil]
theorem cut_to {z : Str} {j : Int} (h0 : 0 ≤ j) : (cutS z none (some j)).cps.toList = z.cps.toList.take j.toNat := by
  obtain ⟨k, rfl⟩ : ∃ k : Nat, j = k := ⟨j.toNat, by omega⟩
  rw [cut_cps, HT.sIx_nat, HT.sIx_none, Int.toNat_natCast, len_cps, List.drop_zero, Nat.sub_zero]
  rcases Nat.le_total k z.cps.toList.length with h | h
  · rw [Nat.min_eq_left h]
  · rw [Nat.min_eq_right h, List.take_of_length_le (Nat.le_refl _), List.take_of_length_le h]
theorem cut_mid {z : Str} {i j : Int} (h0 : 0 ≤ i) (h1 : 0 ≤ j) (h2 : i ≤ z.length) (h3 : j ≤ z.length) : (cutS z (some i) (some j)).cps.toList = (z.cps.toList.drop i.toNat).take (j.toNat - i.toNat) := by
  obtain ⟨k, rfl⟩ : ∃ k : Nat, i = k := ⟨i.toNat, by omega⟩
  obtain ⟨m, rfl⟩ : ∃ k : Nat, j = k := ⟨j.toNat, by omega⟩
  rw [cut_cps, HT.sIx_nat, HT.sIx_nat, Int.toNat_natCast, Int.toNat_natCast, Nat.min_eq_left (by omega), Nat.min_eq_left (by omega)]
theorem Letters.len {z : Str} (h : Letters z) : z.length = 26 := by rw [len_cps, h.length_eq, alpha_len]
theorem Letters.asc {z : Str} (h : Letters z) : Asc z := fun c hc => by
  have := (mem_alpha.mp (h.mem_iff.mp hc)).2
  omega
theorem letters_alpha : Letters alphaS := by unfold Letters; rw [alphaS_cps]
theorem letters_rev : Letters (revT alphaS) := by decide +kernel
theorem perm_rot {l : List Nat} (k : Nat) : (l.drop k ++ l.take k).Perm l := by
  refine List.perm_append_comm.trans ?_
  rw [List.take_append_drop]
theorem letters_rot {z a b : Str} {k : Nat} (h : Letters z) (ha : a.cps.toList = z.cps.toList.drop k) (hb : b.cps.toList = z.cps.toList.take k) : Letters (a ++ b) := by
  unfold Letters
  rw [app_cps, ha, hb]
  exact (perm_rot k).trans h
theorem perm_pull {l : List Nat} {t a : Nat} {c : Nat} (hta : t ≤ a) (hc : l[a]? = some c) : (l.take t ++ [c] ++ ((l.drop t).take (a - t) ++ l.drop (a + 1))).Perm l := by
  obtain ⟨ha, ec⟩ := List.getElem?_eq_some_iff.mp hc
  have e1 : l = l.take t ++ ((l.drop t).take (a - t) ++ (c :: l.drop (a + 1))) := by
    have h1 : l.drop t = (l.drop t).take (a - t) ++ (l.drop t).drop (a - t) := (List.take_append_drop _ _).symm
    have h2 : (l.drop t).drop (a - t) = l.drop a := by rw [List.drop_drop]; congr 1; omega
    have h3 : l.drop a = c :: l.drop (a + 1) := by rw [List.drop_eq_getElem_cons ha, ec]
    rw [← h3, ← h2, ← h1, List.take_append_drop]
  have e2 : (l.take t ++ [c] ++ ((l.drop t).take (a - t) ++ l.drop (a + 1))).Perm (l.take t ++ ((l.drop t).take (a - t) ++ (c :: l.drop (a + 1)))) := by
    rw [List.append_assoc]
    refine List.Perm.append_left _ ?_
    show ([c] ++ ((l.drop t).take (a - t) ++ l.drop (a + 1))).Perm _
    exact (List.perm_middle (a := c) (l₁ := (l.drop t).take (a - t)) (l₂ := l.drop (a + 1))).symm
  rw [← e1] at e2
  exact e2
theorem letters_pull {z x y r : Str} {t a c : Nat} (h : Letters z) (hta : t ≤ a) (hc : z.cps.toList[a]? = some c) (hx : x.cps.toList = z.cps.toList.take t) (hy : y.cps.toList = [c]) (hr : r.cps.toList = (z.cps.toList.drop t).take (a - t) ++ z.cps.toList.drop (a + 1)) : Letters (x ++ y ++ r) := by
  unfold Letters
  rw [app_cps, app_cps, hx, hy, hr]
  exact (perm_pull hta hc).trans h
end Bt
namespace Bt
open PySem PySem.Spec PyProof.Rows L2
theorem words2_ : True := by
  k_with "s" => first
    | ((with_reducible refine' s_var ?hv ?_); (case hv => exact rfl))
    | with_reducible first
      | refine' s_c ?_ | refine' s_op ?_ | refine' s_asg ?_ | refine' s_gname ?_ | refine' s_seq ?_ | refine' s_next ?_ | refine' s_ret ?_ | refine' s_ifS ?_ | refine' s_drop ?_ | refine' s_retN ?_
      | refine' s_test ?_ | refine' s_B ?_ | refine' q_test ?_ | refine' s_int ?_ | refine' s_cons ?_ | refine' s_nil ?_ | refine' s_call ?_ | refine' s_CB ?_ | refine' s_andT ?_ | refine' s_orT ?_ | refine' s_notT ?_
      | refine' s_andV ?_ | refine' s_orV ?_ | refine' s_notV ?_ | refine' s_ifV ?_ | refine' s_chain ?_ | refine' s_sl ?_ | refine' s_noPart ?_ | refine' s_part ?_ | refine' s_gsub ?_ | refine' s_BM ?_ | refine' s_tup ?_ | refine' s_lst ?_
      | refine' q_add ?_ | refine' q_sub ?_ | refine' q_lt ?_ | refine' q_le ?_ | refine' q_gt ?_ | refine' q_ge ?_ | refine' s_ifT ?_ | refine' s_ifF ?_
      | (refine' q_mod ?hm ?_; (case hm => first | omega | decide)) | (refine' q_fdiv ?hm ?hn ?_; (case hm => first | omega | decide); (case hn => first | omega | decide))
      | (refine' q_mulR ?hm ?_; (case hm => first | omega | decide)) | (refine' q_mulL ?hm ?_; (case hm => first | omega | decide))
    | dsimp only
  k_with "r" => repeat (k_extra "s")
  trivial
/-! ### the purse -/
def Purse (H : Hp) (p : Addr) : Prop := ∃ a b c : Int, H p = some (.lst [.int a, .int b, .int c]) ∧ 0 ≤ b ∧ b < 2147483629
theorem Purse.mono {H H' : Hp} {p : Addr} (S : Same H H') (h : Purse H p) : Purse H' p := let ⟨a, b, c, e, h⟩ := h; ⟨a, b, c, S _ _ e, h⟩
def spDraw : Sp := fun vs H Q _ => ∃ (p : Addr) (m : Int), vs = [.ref p, .int m] ∧ Purse H p ∧ 0 < m ∧ m < 1073741824 ∧ ∀ n H', 0 ≤ n → n < m → Purse H' p → But p H H' → Q (.int n) H'
structure TxtL (K : PySem.W.Frag) (mg : Str → Option Value) : Prop where
  n_range : mg "range" = none
  n_sum : mg "sum" = none
  d__law_purse : Df K mg "_law_purse" s__law_purse ["_law_script", "_law_at"]
  d__law_draw : Df K mg "_law_draw" s__law_draw ["_law_purse_here", "_law_many"]
  d__law_form : Df K mg "_law_form" s__law_form ["_law_purse_here"]
section
variable {P : Program} {w : World} {K : PySem.W.Frag} {mg : Str → Option Value} {base : Heap}
theorem ok__law_draw (L : TxtL K mg) : Cal P w K mg base 1 "_law_draw" spDraw := by
  refine L.d__law_draw.cal sc__law_draw (fun vs H Q E h => ?_) (fun f cdv A outer s H vs Q E hr h => ?_)
  · obtain ⟨p, m, rfl, _⟩ := h
    rfl
  · obtain ⟨p, m, rfl, ⟨a, b, c, hp, b0, b1⟩, m0, m1, k⟩ := h
    refine ⟨_, (pss_cons (ps_if (pt_cmpR op_gtI (pe_ix ix_seq (pv 0) pe_int (fun _ _ => rfl)) pe_int (by rfl)) (pss_cons (ps_set (i := 2) sc__law_draw.nd rfl (.inl rfl) (pe_op op_modU (pe_ix ix_seq (pv 0) pe_int (fun _ _ => rfl)) (pv 1)))
        (pss_cons (ps_asg (pe_op op_fdivU (pe_ix ix_seq (pv 0) pe_int (fun _ _ => rfl)) (pv 1)) (pg_sub (pv 0) pe_int set_list))
        (pss_one (ps_ret (pv 2))))) pss_nil)
      (pss_cons (ps_asg (pe_op op_addU (pe_ix ix_seq (pv 0) pe_int (fun _ _ => rfl)) pe_int) (pg_sub (pv 0) pe_int set_list))
      (pss_cons (ps_set (i := 3) sc__law_draw.nd rfl (.inl rfl) (pe_op op_modU (pe_op op_addU (pe_op op_addU (pe_op op_mulU (pe_ix ix_seq (pv 0) pe_int (fun _ _ => rfl)) pe_int) (pe_op op_mulU (pe_ix ix_seq (pv 0) pe_int (fun _ _ => rfl)) pe_int)) pe_int) pe_int))
      (pss_cons (ps_set (i := 3) sc__law_draw.nd rfl (.inl rfl) (pe_op op_modU (pe_op op_addU (pe_op op_mulU (pv 3) (pv 3)) (pe_ix ix_seq (pv 0) pe_int (fun _ _ => rfl))) pe_int))
      (pss_cons (ps_set (i := 3) sc__law_draw.nd rfl (.inl rfl) (pe_op op_modU (pe_op op_addU (pe_op op_mulU (pv 3) (pv 3)) pe_int) pe_int))
      (pss_one (ps_ret (pe_op op_modU (pe_op op_fdivU (pv 3) pe_int) (pv 1))))))))), ?_⟩
    k_extra "r"
    refine q_ixL (SqL.of hp) (at_of (j := 0) rfl rfl) ?_
    k_extra "r"
    refine s_ifD (fun c0 => ?_) (fun c0 => ?_)
    · k_extra "r"
      refine q_ixL (SqL.of hp) (at_of (j := 0) rfl rfl) ?_
      k_extra "r"
      refine q_ixL (SqL.of hp) (at_of (j := 0) rfl rfl) ?_
      k_extra "r"
      refine q_setL hp rfl ?_
      k_extra "r"
      exact k _ _ (Int.emod_nonneg _ (by omega)) (Int.emod_lt_of_pos _ m0) ⟨_, _, _, upd_same, b0, b1⟩ But.upd
    · k_extra "r"
      refine q_ixL (SqL.of hp) (at_of (j := 2) rfl rfl) ?_
      k_extra "r"
      refine q_setL hp rfl ?_
      have hp2 : (upd H p (.lst ([V.int a, V.int b, V.int c].set 2 (.int (c + 1))))) p = some (.lst [.int a, .int b, .int (c + 1)]) := upd_same
      k_extra "r"
      refine q_ixL (SqL.of hp2) (at_of (j := 1) rfl rfl) ?_
      k_extra "r"
      refine q_ixL (SqL.of hp2) (at_of (j := 2) rfl rfl) ?_
      k_extra "r"
      have g1 := Int.emod_nonneg (b * 48271 + (c + 1) * 1299709 + 907) (show (2147483629 : Int) ≠ 0 by decide)
      have g2 := Int.emod_lt_of_pos (b * 48271 + (c + 1) * 1299709 + 907) (show (0 : Int) < 2147483629 by decide)
      generalize (b * 48271 + (c + 1) * 1299709 + 907) % 2147483629 = x1 at g1 g2 ⊢
      k_extra "r"
      refine q_ixL (SqL.of hp2) (at_of (j := 2) rfl rfl) ?_
      k_extra "r"
      have g3 := Int.emod_nonneg (x1 * x1 + (c + 1)) (show (2147483587 : Int) ≠ 0 by decide)
      have g4 := Int.emod_lt_of_pos (x1 * x1 + (c + 1)) (show (0 : Int) < 2147483587 by decide)
      generalize (x1 * x1 + (c + 1)) % 2147483587 = x2 at g3 g4 ⊢
      k_extra "r"
      exact k _ _ (Int.emod_nonneg _ (by omega)) (Int.emod_lt_of_pos _ m0) ⟨_, _, _, hp2, b0, b1⟩ But.upd
theorem cutV_ints {ns : List Int} {lo hi : Option Int} : ∃ ms : List Int, cutV (ns.map V.int) lo hi = ms.map V.int := ⟨_, by unfold cutV; rw [← List.map_drop, ← List.map_take]⟩
theorem big_pos : (0 : Int) < ((10 : Int) ^ (60 : Int).toNat) ^ (10 : Int).toNat := Int.pow_pos (Int.pow_pos (by decide))
def spPurse (K : PySem.W.Frag) : Sp := fun vs H Q _ => ∃ (a : Addr) (ns : List Int) (k : Int), vs = [.ref a, .int k] ∧ SqL K H a (ns.map V.int) ∧ 0 ≤ k ∧ k < 1000 ∧ ∀ p H', H p = none → Same H H' → Purse H' p → Q (.ref p) H'
theorem ok__law_purse (T : Txt K mg) (L : TxtL K mg) : Cal P w K mg base 1 "_law_purse" (spPurse K) := by
  refine L.d__law_purse.cal sc__law_purse (fun vs H Q E h => ?_) (fun f cdv A outer s H vs Q E hr h => ?_)
  · obtain ⟨a, ns, k, rfl, _⟩ := h
    rfl
  · obtain ⟨a, ns, at_, rfl, hs, k0, k1, k⟩ := h
    refine ⟨_, (pss_cons (ps_set (i := 2) sc__law_purse.nd rfl (.inl rfl) (pe_callTy call_int1 (by rfl) T.n_int (by decide +kernel) (pa_cons (pe_callB (cr_sum rfl) (by rfl) L.n_sum (by decide +kernel) (pa_cons (pe_slice sl_list (pv 0) (po_some (pv 1)) (po_some (pe_op op_addU (pv 1) pe_int))) pa_nil)) pa_nil)))
      (pss_one (ps_ret (pe_lst (pa_cons (pe_op op_mulU (pe_callTy call_int1 (by rfl) T.n_int (by decide +kernel) (pa_cons (pe_cmpR op_geI (pv 2) (pe_op op_powW pe_int pe_int) (by rfl)) pa_nil)) (pe_op op_modU (pv 2) (pe_op op_powW (pe_op op_powW pe_int pe_int) pe_int))) (pa_cons (pe_op op_modU (pv 2) pe_int) (pa_cons (pe_op op_mulU pe_int (pv 1)) pa_nil))))))), ?_⟩
    k_extra "r"
    refine ⟨a, _, rfl, hs, fun l hl => ?_⟩
    obtain ⟨ms, em⟩ := cutV_ints (ns := ns) (lo := some at_) (hi := some (at_ + 1))
    rw [em]
    k_extra "r"
    refine ⟨l, ms, rfl, SqL.of upd_same, ?_⟩
    k_extra "r"
    refine .inl ⟨_, rfl, ?_⟩
    k_extra "r"
    refine ⟨_, _, rfl, rfl, ⟨by decide, by decide +kernel⟩, ?_⟩
    k_extra "r"
    refine .inr ⟨_, rfl, ?_⟩
    k_extra "r"
    refine ⟨_, _, rfl, rfl, ⟨by decide, by decide +kernel⟩, ?_⟩
    k_extra "r"
    refine ⟨_, _, rfl, rfl, ⟨by decide, by decide +kernel⟩, ?_⟩
    refine q_mod big_pos ?_
    refine q_mulL ?_ ?_
    · split <;> decide
    k_extra "r"
    refine ⟨by show 3 ≤ sizeLine; decide, fun p np => ?_⟩
    refine k p _ (by rw [upd_ne (fun e => by rw [e, upd_same] at np; cases np)] at np; exact np) (fun b o e => ?_) ⟨_, _, _, upd_same, Int.emod_nonneg _ (by decide), Int.emod_lt_of_pos _ (by decide)⟩
    exact Same.new np _ _ (Same.new hl _ _ e)
/-! ### the form's draw -/
def spForm : Sp := fun vs H Q _ => ∃ (p : Addr), vs = [.ref p] ∧ Purse H p ∧ ∀ t H' z c, H t = none → H' t = some (.tup [.str z, .int c]) → Letters z → 1 ≤ c → c ≤ 1000 → Purse H' p → But p H H' → Q (.ref t) H'
theorem ok__law_form (T : Txt K mg) (L : TxtL K mg) : Cal P w K mg base 2 "_law_form" spForm := by
  refine L.d__law_form.cal sc__law_form (fun vs H Q E h => ?_) (fun f cdv A outer s H vs Q E hr h => ?_)
  · obtain ⟨p, rfl, _⟩ := h
    rfl
  · obtain ⟨p, rfl, hp, k⟩ := h
    refine ⟨_, (pss_cons (ps_set (i := 1) sc__law_form.nd rfl (.inl rfl) pe_str)
      (pss_cons (ps_set (i := 2) sc__law_form.nd rfl (.inl rfl) (pe_c (ok__law_draw L) hr (by decide) rfl (pa_cons (pv 0) (pa_cons pe_int pa_nil))))
      (C8.pss_cut (ps_if (pt_cmpR op_eq (pv 2) pe_int (by rfl)) (pss_one (ps_set (i := 1) sc__law_form.nd rfl (.inl rfl) (pe_revS (pv 1)))) pss_nil)
      (C8.pss_cut (ps_if (pt_cmpR op_eq (pv 2) pe_int (by rfl)) (pss_cons (ps_set (i := 3) sc__law_form.nd rfl (.inl rfl) (pe_c (ok__law_draw L) hr (by decide) rfl (pa_cons (pv 0) (pa_cons pe_int pa_nil))))
        (pss_one (ps_set (i := 1) sc__law_form.nd rfl (.inl rfl) (pe_op op_addU (pe_slice sl_str (pv 1) (po_some (pv 3)) po_none) (pe_slice sl_str (pv 1) po_none (po_some (pv 3))))))) pss_nil)
      (C8.pss_cut (ps_if (pt_cmpR op_eq (pv 2) pe_int (by rfl)) (pss_one (ps_for PassesOwn.never rfl (pi_range1 rfl L.n_range (pa_cons pe_int pa_nil)) (pg_name (i := 4) sc__law_form.nd rfl (.inl rfl))
          (pss_cons (ps_set (i := 3) sc__law_form.nd rfl (.inl rfl) (pe_op op_addU (pv 4) (pe_c (ok__law_draw L) hr (by decide) rfl (pa_cons (pv 0) (pa_cons (pe_op op_subU pe_int (pv 4)) pa_nil)))))
            (pss_cons (ps_set (i := 5) sc__law_form.nd rfl (.inl rfl) (pe_op op_addU (pe_slice sl_str (pv 1) (po_some (pv 4)) (po_some (pv 3))) (pe_slice sl_str (pv 1) (po_some (pe_op op_addU (pv 3) pe_int)) po_none)))
            (pss_one (ps_set (i := 1) sc__law_form.nd rfl (.inl rfl) (pe_op op_addU (pe_op op_addU (pe_slice sl_str (pv 1) po_none (po_some (pv 4))) (pe_ix ix_seq (pv 1) (pv 3) (fun _ _ => rfl))) (pv 5)))))))) pss_nil)
      (pss_cons (ps_set (i := 6) sc__law_form.nd rfl (.inl rfl) (pe_ix ix_seq (pe_lst (pa_cons pe_int (pa_cons pe_int (pa_cons pe_int (pa_cons pe_int pa_nil))))) (pe_c (ok__law_draw L) hr (by decide) rfl (pa_cons (pv 0) (pa_cons pe_int pa_nil))) (fun _ _ => rfl)))
      (pss_one (ps_ret (pe_tup (pa_cons (pv 1) (pa_cons (pe_op op_addU pe_int (pe_c (ok__law_draw L) hr (by decide) rfl (pa_cons (pv 0) (pa_cons (pv 6) pa_nil)))) pa_nil))))))))))), ?_⟩
    k_extra "r"
    refine ⟨p, 5, rfl, hp, by decide, by decide, fun n H1 n0 n5 hp1 b1 => ?_⟩
    k_extra "r"
    -- what is known between the ifs
    let Mid : L2.St → Hp → Prop := fun σ H' => ∃ (z : Str) (a1 a2 a3 : Option V), σ = [some (.ref p), some (.str z), some (.int n), a1, a2, a3, none] ∧ Letters z ∧ Purse H' p ∧ But p H H'
    refine ⟨fun σ H' => ∃ (z : Str), σ = [some (.ref p), some (.str z), some (.int n), none, none, none, none] ∧ Letters z ∧ Purse H' p ∧ But p H H', ?_, ?_⟩
    · k_extra "r"
      refine ⟨rfl, ?_⟩
      k_extra "r"
      refine s_ifD (fun c => ?_) (fun c => ?_)
      · k_extra "r"
        refine ⟨_, rfl, alphaS, rfl, by decide +kernel, ?_⟩
        exact ⟨revT alphaS, rfl, letters_rev, hp1, b1⟩
      · k_extra "r"
        exact ⟨alphaS, rfl, letters_alpha, hp1, b1⟩
    · rintro σ H2 ⟨z, rfl, lz, hp2, b2⟩
      refine ⟨Mid, ?_, ?_⟩
      · k_extra "r"
        refine ⟨rfl, ?_⟩
        k_extra "r"
        refine s_ifD (fun c => ?_) (fun c => ?_)
        · k_extra "r"
          refine ⟨p, 26, rfl, hp2, by decide, by decide, fun m H3 m0 m1 hp3 b3 => ?_⟩
          k_extra "r"
          have hz : z.length ≤ sizeLine := sz (by rw [lz.len]; decide)
          refine ⟨z, rfl, hz, ?_⟩
          k_extra "r"
          refine ⟨z, rfl, hz, ?_⟩
          have e1 := cut_from (z := z) m0
          have e2 := cut_to (z := z) m0
          have lr := letters_rot lz e1 e2
          refine q_addS (by rw [← app_len, lr.len]; exact sz (by decide)) ?_
          k_extra "r"
          exact ⟨_, _, _, _, rfl, lr, hp3, b2.trans b3⟩
        · exact ⟨z, none, none, none, rfl, lz, hp2, b2⟩
      · rintro σ H3 ⟨z, a1, a2, a3, rfl, lz, hp3, b3⟩
        refine ⟨Mid, ?_, ?_⟩
        · k_extra "r"
          refine ⟨rfl, ?_⟩
          k_extra "r"
          refine s_ifD (fun c => ?_) (fun c => ?_)
          · k_extra "r"
            refine ⟨25, rfl, by decide, by decide, for_range (lo := 0) (n := 25) (fun i σ H' => Mid σ H') ⟨z, a1, a2, a3, rfl, lz, hp3, b3⟩ ?_ ?_⟩
            · rintro i σ H4 hi ⟨z, a1, a2, a3, rfl, lz, hp4, b4⟩
              k_extra "r"
              refine ⟨p, 26 - (0 + (i : Int)), rfl, hp4, by omega, by omega, fun m H5 m0 m1 hp5 b5 => ?_⟩
              k_extra "r"
              have hz : z.length ≤ sizeLine := sz (by rw [lz.len]; decide)
              have h26 := lz.len
              obtain ⟨a, ha⟩ : ∃ a : Nat, 0 + (i : Int) + m = a := ⟨(0 + (i : Int) + m).toNat, by omega⟩
              have ei : (0 : Int) + (i : Int) = (i : Int) := by omega
              rw [ha, ei]
              refine ⟨z, rfl, hz, ?_⟩
              k_extra "r"
              refine ⟨z, rfl, hz, ?_⟩
              have e1 := cut_mid (z := z) (i := (i : Int)) (j := (a : Int)) (by omega) (by omega) (by omega) (by omega)
              have e2 := cut_from (z := z) (i := (a : Int) + 1) (by omega)
              have e3 := cut_to (z := z) (j := (i : Int)) (by omega)
              have q2 : ((a : Int) + 1).toNat = a + 1 := by omega
              rw [Int.toNat_natCast, Int.toNat_natCast] at e1
              rw [q2] at e2
              rw [Int.toNat_natCast] at e3
              have la : a < z.cps.toList.length := by rw [← len_cps]; omega
              have hc : z.cps.toList[a]? = some z.cps.toList[a] := List.getElem?_eq_getElem la
              have er : (cutS z (some (i : Int)) (some (a : Int)) ++ cutS z (some ((a : Int) + 1)) none).cps.toList = (z.cps.toList.drop i).take (a - i) ++ z.cps.toList.drop (a + 1) := by rw [app_cps, e1, e2]
              have lr : Letters (cutS z none (some (i : Int)) ++ ⟨#[z.cps.toList[a]]⟩ ++ (cutS z (some (i : Int)) (some (a : Int)) ++ cutS z (some ((a : Int) + 1)) none)) := letters_pull lz (by omega) hc e3 rfl er
              have lrl := lr.len
              rw [app_len, app_len] at lrl
              refine q_addS (by rw [← app_len]; exact sz (by omega)) ?_
              k_extra "r"
              refine ⟨z, rfl, hz, ?_⟩
              k_extra "r"
              refine q_ixS hz (atI_nat hc) ?_
              refine q_addS (sz (by omega)) ?_
              k_extra "r"
              refine q_addS (by rw [app_len]; exact sz (by omega)) ?_
              k_extra "r"
              exact ⟨_, _, _, _, rfl, lr, hp5, b4.trans b5⟩
            · rintro σ H4 h4
              exact h4
          · exact ⟨z, a1, a2, a3, rfl, lz, hp3, b3⟩
        · rintro σ H4 ⟨z, a1, a2, a3, rfl, lz, hp4, b4⟩
          k_extra "r"
          refine ⟨by show 4 ≤ sizeLine; decide, fun q nq => ?_⟩
          k_extra "r"
          have npq : q ≠ p := fun e => by
            obtain ⟨_, _, _, e2, _⟩ := hp4
            rw [e, e2] at nq
            cases nq
          refine ⟨p, 4, rfl, hp4.mono (Same.new nq), by decide, by decide, fun m H5 m0 m1 hp5 b5 => ?_⟩
          have hq : H5 q = some (.lst [.int 1, .int 1, .int 4, .int 1000]) := b5 q _ npq upd_same
          k_extra "r"
          obtain ⟨mm, em, g1, g2⟩ : ∃ mm : Int, atI [V.int 1, V.int 1, V.int 4, V.int 1000] m = some (.int mm) ∧ 1 ≤ mm ∧ mm ≤ 1000 := by
            have : m = 0 ∨ m = 1 ∨ m = 2 ∨ m = 3 := by omega
            rcases this with rfl | rfl | rfl | rfl
            · exact ⟨1, rfl, by decide, by decide⟩
            · exact ⟨1, rfl, by decide, by decide⟩
            · exact ⟨4, rfl, by decide, by decide⟩
            · exact ⟨1000, rfl, by decide, by decide⟩
          refine q_ixL (SqL.of hq) em ?_
          k_extra "r"
          refine ⟨p, mm, rfl, hp5, by omega, by omega, fun y H6 y0 y1 hp6 b6 => ?_⟩
          k_extra "r"
          refine ⟨by show 2 ≤ sizeLine; decide, fun t nt => ?_⟩
          have b46 : But p H H6 := ((b4.trans (But.of (Same.new nq))).trans b5).trans b6
          have ntp : t ≠ p := fun e => by
            obtain ⟨_, _, _, e2, _⟩ := hp6
            rw [e, e2] at nt
            cases nt
          exact k t _ z (1 + y) (b46.free ntp nt) upd_same lz (by omega) (by omega) (hp6.mono (Same.new nt)) (b46.trans (But.of (Same.new nt)))
end
end Bt
namespace Bt
open PySem PySem.Spec PyProof.Rows L2
theorem words3_ : True := by
  k_with "s" => first
    | ((with_reducible refine' s_var ?hv ?_); (case hv => exact rfl))
    | with_reducible first
      | refine' s_c ?_ | refine' s_op ?_ | refine' s_asg ?_ | refine' s_gname ?_ | refine' s_seq ?_ | refine' s_next ?_ | refine' s_ret ?_ | refine' s_ifS ?_ | refine' s_drop ?_ | refine' s_retN ?_
      | refine' s_test ?_ | refine' s_B ?_ | refine' q_test ?_ | refine' s_int ?_ | refine' s_cons ?_ | refine' s_nil ?_ | refine' s_call ?_ | refine' s_CB ?_ | refine' s_andT ?_ | refine' s_orT ?_ | refine' s_notT ?_
      | refine' s_andV ?_ | refine' s_orV ?_ | refine' s_notV ?_ | refine' s_ifV ?_ | refine' s_chain ?_ | refine' s_sl ?_ | refine' s_noPart ?_ | refine' s_part ?_ | refine' s_gsub ?_ | refine' s_BM ?_ | refine' s_tup ?_ | refine' s_lst ?_
      | refine' q_add ?_ | refine' q_sub ?_ | refine' q_lt ?_ | refine' q_le ?_ | refine' q_gt ?_ | refine' q_ge ?_ | refine' s_ifT ?_ | refine' s_ifF ?_
      | (refine' q_mod ?hm ?_; (case hm => first | omega | decide)) | (refine' q_fdiv ?hm ?hn ?_; (case hm => first | omega | decide); (case hn => first | omega | decide))
      | (refine' q_mulR ?hm ?_; (case hm => first | omega | decide)) | (refine' q_mulL ?hm ?_; (case hm => first | omega | decide))
    | dsimp only
  k_with "r" => repeat (k_extra "s")
  trivial
/-! ### Form(..) -/
section
variable {X : Cx} {C CI : Addr} {k : Nat} {p pos : Pos} {e e2 : Expr} {ta tb : TE}
theorem pe_form2S {W : WX} (T : Txt X.K X.mg) (FC : FormC X.K X.mg C) (XI : ExcF X.K X.mg "InvalidForm" "value" CI) (hr : Room k X.A) (hk : 5 ≤ k) (tk : Takes X W) (h1 : PE X e ta) (h2 : PE X e2 tb) (hg : Gl X "Form" := by rfl)
    (s1 : starEach (e :: [e2]) X.env = (false, eval e X.env) :: starEach [e2] X.env := by rfl) (s2 : starEach (e2 :: []) X.env = (false, eval e2 X.env) :: starEach [] X.env := by rfl) (s3 : (backTo pos (starEach [e2] X.env)).any (·.1) = false := by rfl) :
    PE X (.Call (.Name "Form" p) [e, e2] [] pos) (tMakeS C (spFormInit X.K C CI) [] (fun σ => WE W σ) (tCons ta (tCons tb tNil))) := by
  obtain ⟨f, fd, d1, d2, i1, i2, F, b, _, _, _, _⟩ := FC.init
  exact pe_makeS ⟨FC.makes, i1, i2, FC.kp⟩ (ok_form_init T FC XI F) (hr.mono hk) hg FC.g b .nil (fun σ => passAt tk σ) (pa_cons h1 (pa_cons h2 pa_nil s2) s1) (by decide) s1 s3
theorem pe_form2 (T : Txt X.K X.mg) (FC : FormC X.K X.mg C) (XI : ExcF X.K X.mg "InvalidForm" "value" CI) (hr : Room k X.A) (hk : 5 ≤ k) (h1 : PE X e ta) (h2 : PE X e2 tb) (hg : Gl X "Form" := by rfl)
    (s1 : starEach (e :: [e2]) X.env = (false, eval e X.env) :: starEach [e2] X.env := by rfl) (s2 : starEach (e2 :: []) X.env = (false, eval e2 X.env) :: starEach [] X.env := by rfl) (s3 : (backTo pos (starEach [e2] X.env)).any (·.1) = false := by rfl) :
    PE X (.Call (.Name "Form" p) [e, e2] [] pos) (tMake C (spFormInit X.K C CI) [] E0 (tCons ta (tCons tb tNil))) := by
  obtain ⟨f, fd, d1, d2, i1, i2, F, b, _, _, _, _⟩ := FC.init
  exact pe_make ⟨FC.makes, i1, i2, FC.kp⟩ (ok_form_init T FC XI F) (hr.mono hk) hg FC.g b .nil passL (pa_cons h1 (pa_cons h2 pa_nil s2) s1) (by decide) s1 s3
theorem pe_form1 (T : Txt X.K X.mg) (FC : FormC X.K X.mg C) (XI : ExcF X.K X.mg "InvalidForm" "value" CI) (hr : Room k X.A) (hk : 5 ≤ k) (h1 : PE X e ta) (hg : Gl X "Form" := by rfl)
    (s1 : starEach (e :: []) X.env = (false, eval e X.env) :: starEach [] X.env := by rfl) (s3 : (backTo pos (starEach [] X.env)).any (·.1) = false := by rfl) :
    PE X (.Call (.Name "Form" p) [e] [] pos) (tMake C (spFormInit X.K C CI) [.int 1] E0 (tCons ta tNil)) := by
  obtain ⟨f, fd, d1, d2, i1, i2, F, _, v1, b1, _, _⟩ := FC.init
  exact pe_make ⟨FC.makes, i1, i2, FC.kp⟩ (ok_form_init T FC XI F) (hr.mono hk) hg FC.g b1 v1 passL (pa_cons h1 pa_nil s1) (by decide) s1 s3
theorem pe_form0 (T : Txt X.K X.mg) (FC : FormC X.K X.mg C) (XI : ExcF X.K X.mg "InvalidForm" "value" CI) (hr : Room k X.A) (hk : 5 ≤ k) (hg : Gl X "Form" := by rfl) :
    PE X (.Call (.Name "Form" p) [] [] pos) (tMake C (spFormInit X.K C CI) [.str alphaS, .int 1] E0 tNil) := by
  obtain ⟨f, fd, d1, d2, i1, i2, F, _, _, _, v2, b2⟩ := FC.init
  exact pe_make0 ⟨FC.makes, i1, i2, FC.kp⟩ (ok_form_init T FC XI F) (hr.mono hk) hg FC.g b2 v2 passL
end
theorem s_make {C : Addr} {sp : Sp} {dvs : List V} {E : XK} {t : TA} {σ : L2.St} {H : Hp} {Q : VK} (h : t σ H fun vs H1 => ∀ x dx, H1 x = none → H1 dx = none → dx ≠ x → sp (.ref x :: (vs ++ dvs)) (upd (upd H1 dx (.own x)) x (.ins C dx [])) (fun v H2 => v = .non ∧ Q (.ref x) H2) E) : tMake C sp dvs E t σ H Q := h
theorem s_makeS {C : Addr} {sp : Sp} {dvs : List V} {E : L2.St → XK} {t : TA} {σ : L2.St} {H : Hp} {Q : VK} (h : t σ H fun vs H1 => ∀ x dx, H1 x = none → H1 dx = none → dx ≠ x → sp (.ref x :: (vs ++ dvs)) (upd (upd H1 dx (.own x)) x (.ins C dx [])) (fun v H2 => v = .non ∧ Q (.ref x) H2) (E σ)) : tMakeS C sp dvs E t σ H Q := h
theorem same_made {H : Hp} {x dx C : Addr} (nx : H x = none) (nd : H dx = none) : Same H (upd (upd H dx (.own x)) x (.ins C dx [])) := fun b o e => by
  rw [upd_ne (ne_of_none e nx), upd_ne (ne_of_none e nd)]; exact e
theorem q_form {K : PySem.W.Frag} {C CI : Addr} {H : Hp} {Q : Addr → Hp → Prop} {E : XK} {z : Str} {c : Int} (lz : Letters z) (c0 : 1 ≤ c) (c1 : c ≤ 1000) (q : ∀ a H', H a = none → Same H H' → FormAt C H' a z c → Q a H') :
    ∀ x dx, H x = none → H dx = none → dx ≠ x → spFormInit K C CI [.ref x, .str z, .int c] (upd (upd H dx (.own x)) x (.ins C dx [])) (fun v H2 => v = .non ∧ Q x H2) E := fun x dx nx nd ne =>
  ⟨x, dx, .str z, .int c, _, _, rfl, upd_same, Pl.str, Pl.int, fun z' e => by cases e; exact ⟨by rw [lz.len]; decide, lz.asc⟩, fun _ H' hx b => ⟨rfl, q x H' nx (fun a o e => b a o (ne_of_none e nx) (same_made nx nd _ _ e)) ⟨dx, hx⟩⟩,
    fun nv => absurd ⟨⟨z, rfl, lz⟩, c, rfl, c0, c1⟩ nv⟩
theorem q_formX {K : PySem.W.Frag} {C CI : Addr} {H : Hp} {Q : Addr → Hp → Prop} {E : XK} {l c : V} {T1 T2 : String} (hl : Pl K H l T1) (hc : Pl K H c T2) (hz : ∀ z, l = .str z → z.length < 64 ∧ Asc z) (nv : ¬ Valid l c)
    (q : ∀ H' t d, Same H H' → H t = none → H d = none → H' d = some (.xd [("value", .ref t)]) → H' t = some (.tup [l, c]) → E (.ref CI) (some d) H') :
    ∀ x dx, H x = none → H dx = none → dx ≠ x → spFormInit K C CI [.ref x, l, c] (upd (upd H dx (.own x)) x (.ins C dx [])) (fun v H2 => v = .non ∧ Q x H2) E := fun x dx nx nd ne =>
  ⟨x, dx, l, c, T1, T2, rfl, upd_same, hl.mono (same_made nx nd), hc.mono (same_made nx nd), hz, fun v => absurd v nv, fun _ H' t d S nt ndd hd ht => q H' t d (fun b o e => S _ _ (same_made nx nd _ _ e)) ((same_made nx nd).free nt) ((same_made nx nd).free ndd) hd ht⟩
/-! ### the law's own helpers -/
structure TxtM (K : PySem.W.Frag) (mg : Str → Option Value) : Prop where
  d__law_whole : Df K mg "_law_whole" s__law_whole ["_law_value"]
  d__law_refused : Df K mg "_law_refused" s__law_refused ["_law_letters", "_law_chains"]
  d__law_right : Df K mg "_law_right" s__law_right ["_law_form_here", "_law_letters", "_law_chains"]
  d__law_bad_letters : Df K mg "_law_bad_letters" s__law_bad_letters ["_law_letters", "_law_at"]
section
variable {P : Program} {w : World} {K : PySem.W.Frag} {mg : Str → Option Value} {base : Heap}
theorem ok__law_whole (T : Txt K mg) (M : TxtM K mg) : Cal P w K mg base 1 "_law_whole" (spWhole K) := by
  refine M.d__law_whole.cal sc__law_whole (fun vs H Q E h => ?_) (fun f cdv A outer s H vs Q E hr h => ?_)
  · obtain ⟨x, T, rfl, _⟩ := h
    rfl
  · obtain ⟨x, ty, rfl, hx, k⟩ := h
    refine ⟨_, (pss_one (ps_ret (pe_and (pe_callB call_isi (by rfl) T.n_isinstance (by decide +kernel) (pa_cons (pv 0) (pa_cons (pe_bltn (v := .ty "int") (by rfl) T.n_int (by decide +kernel) rfl) pa_nil))) (pe_one (pe_not (pe_callB call_isi (by rfl) T.n_isinstance (by decide +kernel) (pa_cons (pv 0) (pa_cons (pe_bltn (v := .ty "bool") (by rfl) T.n_bool (by decide +kernel) rfl) pa_nil)))))))), ?_⟩
    k_extra "r"
    refine q_isi hx .int ?_
    k_extra "r"
    cases hx.2 <;> k_extra "r" <;> first | exact k | (refine s_if (fun _ => ?_) (fun z => absurd z (by decide)); k_extra "r"; refine q_isi hx .bl ?_; k_extra "r"; exact k)
def spRefused (K : PySem.W.Frag) : Sp := fun vs H Q _ => ∃ l c dl dc T1 T2, vs = [l, c] ∧ Pl K H l T1 ∧ Pl K H c T2 ∧ Dp K H l dl ∧ Dp K H c dc ∧ SeqAt.shaped (.tuple [dl, dc]) = true ∧ (∀ z, l = .str z → z.length < 64 ∧ Asc z) ∧ ¬ Valid l c ∧ ∀ H', Same H H' → Q (.bl true) H'
theorem ok__law_refused {C CI : Addr} (T : Txt K mg) (FC : FormC K mg C) (XI : ExcF K mg "InvalidForm" "value" CI) (M : TxtM K mg) : Cal P w K mg base 6 "_law_refused" (spRefused K) := by
  refine M.d__law_refused.cal sc__law_refused (fun vs H Q E h => ?_) (fun f cdv A outer s H vs Q E hr h => ?_)
  · obtain ⟨l, c, _, _, _, _, rfl, _⟩ := h
    rfl
  · obtain ⟨l, c, dl, dc, T1, T2, rfl, hl, hc, pl, pc, sh, hz, nv, k⟩ := h
    have hu := hr.units
    refine ⟨_, (pss_cons (ps_set (i := 2) sc__law_refused.nd rfl (.inl rfl) pe_non)
      (pss_cons (ps_try_as (i := 3) (tb := fun W => tDrop (tMakeS C (spFormInit K C CI) [] (fun σ => WE W σ) (tCons (tVar 0) (tCons (tVar 1) tNil)))) (ts := fun a cls d => tAsg (tXf a cls d CI "value" (tVar 3)) (gName 2)) (Wout := fun _ _ _ _ => False) rfl rfl sc__law_refused.nd rfl rfl ⟨rfl, by decide, Or.inl XI.g⟩ takes0
        (fun W pn xe tk _ => pss_one (ps_expr (by exact (pe_form2S T FC XI hr (by decide) tk (pv 0) (pv 1)))))
        (fun a oe cls d pn hz hf => pss_one (ps_set (i := 2) sc__law_refused.nd rfl (Or.inl rfl) (by exact (pe_xf XI.xf XI.no hz hf (pv 3))))))
      (pss_one (ps_ret (pe_and (pe_cmpR (op_eqU hu) (pv 2) (pe_tup (pa_cons (pv 0) (pa_cons (pv 1) pa_nil))) (by rfl)) (pe_one (pe_callB call_isi (by rfl) T.n_isinstance (by decide +kernel) (pa_cons (pv 2) (pa_cons (pe_bltn (v := .ty "tuple") (by rfl) T.n_tuple (by decide +kernel) rfl) pa_nil))))))))), ?_⟩
    k_extra "r"
    refine s_makeS ?_
    k_extra "r"
    refine q_formX hl hc hz nv fun H' t d S nt nd hd ht => ⟨true, XI.te, fun _ a0 ha0 => ?_, fun q => Bool.noConfusion q⟩
    k_extra "r"
    refine ⟨_, rfl, rfl, rfl, d, _, .ref t, rfl, hd, (by simp [List.lookup]), ?_⟩
    k_extra "r"
    refine ⟨by show 2 ≤ sizeLine; decide, fun t2 nt2 => ?_⟩
    have S2 : Same H' (upd H' t2 (.tup [l, c])) := Same.new nt2
    have e1 : ∀ {u : Addr} {H2 : Hp}, Same H H2 → H2 u = some (.tup [l, c]) → Dp K H2 (.ref u) (.tuple [dl, dc]) := fun S h => .tup (SqT.of h) (.cons (Dp.mono S pl) (.cons (Dp.mono S pc) .nil))
    refine q_eqD (e1 (S.trans S2) (S2 _ _ ht)) (e1 (S.trans S2) upd_same) sh sh ?_
    rw [SeqAt.eqv_refl _ (SeqAt.canLay_of_shaped sh)]
    k_extra "r"
    refine q_isi (Pl.tup (S2 _ _ ht)) .tup ?_
    exact k _ (S.trans S2)
/-! ### _law_right -/
def spRight (C : Addr) : Sp := fun vs H Q _ => ∃ a z c, vs = [.ref a, .str z, .int c] ∧ FormAt C H a z c ∧ Letters z ∧ 1 ≤ c ∧ c ≤ 1000 ∧ ∀ H', Same H H' → Q (.bl true) H'
theorem ok__law_right {C CI : Addr} (T : Txt K mg) (FC : FormC K mg C) (XI : ExcF K mg "InvalidForm" "value" CI) (M : TxtM K mg) : Cal P w K mg base 6 "_law_right" (spRight C) := by
  refine M.d__law_right.cal sc__law_right (fun vs H Q E h => ?_) (fun f cdv A outer s H vs Q E hr h => ?_)
  · obtain ⟨a, z, c, rfl, _⟩ := h
    rfl
  · obtain ⟨a, z, c, rfl, ha, lz, c0, c1, k⟩ := h
    obtain ⟨fe, fde, e1, e2, FE, be⟩ := FC.eq
    refine ⟨_, (pss_cons (ps_if (PW.pt (pw_or (pt_cmpR op_ne (pe_letters FC hr (by decide) (pv 0)) (pv 1) (by rfl)) (pw_or (pt_cmpR op_ne (pe_chains FC hr (by decide) (pv 0)) (pv 2) (by rfl)) (pw_or1 (pt_not (pt_val (pe_c (ok__law_whole T M) hr (by decide) rfl (pa_cons (pe_chains FC hr (by decide) (pv 0)) pa_nil)))))))) (pss_one (ps_ret pe_bl)) pss_nil)
      (pss_one (ps_ret (pe_and (pe_callB call_isi (by rfl) T.n_isinstance (by decide +kernel) (pa_cons (pv 0) (pa_cons (pe_glob (v := .ref C) (by rfl) FC.g rfl) pa_nil))) (pe_one (pe_cmpR (op_eqOwn (ok_form_eq T FC FE) (hr.mono (by decide)) e1 e2 be pass0) (pv 0) (pe_form2 T FC XI hr (by decide) (pv 1) (pv 2)) (by rfl))))))), ?_⟩
    k_extra "r"
    refine s_prop ?_
    k_extra "r"
    refine q_letters ha ?_
    k_extra "r"
    refine ⟨rfl, ?_⟩
    k_extra "r"
    refine s_if0 (by simp) ?_
    k_extra "r"
    refine s_prop ?_
    k_extra "r"
    refine q_chains ha ?_
    k_extra "r"
    refine ⟨rfl, ?_⟩
    k_extra "r"
    refine s_if0 (by simp) ?_
    k_extra "r"
    refine s_prop ?_
    k_extra "r"
    refine q_chains ha ?_
    refine ⟨_, _, rfl, Pl.int, ?_⟩
    k_extra "r"
    refine s_if0 rfl ?_
    k_extra "r"
    refine ⟨.ref a, .ref C, .ref C, .ref C, true, rfl, .own C, ha.ty FC, FC.kY, ?_⟩
    k_extra "r"
    refine s_make ?_
    k_extra "r"
    refine q_form lz c0 c1 fun b H' nb S hb => ?_
    obtain ⟨dx, ea⟩ := ha
    refine ⟨a, dx, _, .ref C, rfl, S _ _ ea, hb.ty FC, FC.nfS, a, .ref b, z, c, rfl, ⟨dx, S _ _ ea⟩, .inl ⟨b, z, c, rfl, hb, _, rfl, ?_⟩⟩
    rw [decide_eq_true ⟨rfl, rfl⟩]
    exact k _ S
end
end Bt
namespace Bt
open PySem PySem.Spec PyProof.Rows L2
theorem words4_ : True := by
  k_with "s" => first
    | ((with_reducible refine' s_var ?hv ?_); (case hv => exact rfl))
    | with_reducible first
      | refine' s_c ?_ | refine' s_op ?_ | refine' s_asg ?_ | refine' s_gname ?_ | refine' s_seq ?_ | refine' s_next ?_ | refine' s_ret ?_ | refine' s_ifS ?_ | refine' s_drop ?_ | refine' s_retN ?_
      | refine' s_test ?_ | refine' s_B ?_ | refine' q_test ?_ | refine' s_int ?_ | refine' s_cons ?_ | refine' s_nil ?_ | refine' s_call ?_ | refine' s_CB ?_ | refine' s_andT ?_ | refine' s_orT ?_ | refine' s_notT ?_
      | refine' s_andV ?_ | refine' s_orV ?_ | refine' s_notV ?_ | refine' s_ifV ?_ | refine' s_chain ?_ | refine' s_sl ?_ | refine' s_noPart ?_ | refine' s_part ?_ | refine' s_gsub ?_ | refine' s_BM ?_ | refine' s_tup ?_ | refine' s_lst ?_
      | refine' q_add ?_ | refine' q_sub ?_ | refine' q_lt ?_ | refine' q_le ?_ | refine' q_gt ?_ | refine' q_ge ?_ | refine' s_ifT ?_ | refine' s_ifF ?_ | refine' s_yes ?_ | refine' s_iStr ?_ | refine' s_M0 ?_ | refine' s_make ?_ | refine' s_makeS ?_ | refine' s_prop ?_ | refine' s_raise1 ?_
      | (refine' q_mod ?hm ?_; (case hm => first | omega | decide)) | (refine' q_fdiv ?hm ?hn ?_; (case hm => first | omega | decide); (case hn => first | omega | decide))
      | (refine' q_mulR ?hm ?_; (case hm => first | omega | decide)) | (refine' q_mulL ?hm ?_; (case hm => first | omega | decide))
    | dsimp only
  k_with "r" => repeat (k_extra "s")
  trivial
/-! ### bad letters: mathematics -/
theorem upper_alpha : ∀ c ∈ alpha, Txt.upper ⟨#[c]⟩ = ⟨#[c - 32]⟩ := by decide +kernel
theorem not_letters_len {z : Str} (h : z.length ≠ 26) : ¬ Letters z := fun l => h l.len
theorem not_letters_mem {z : Str} {c : Nat} (h : c ∈ z.cps.toList) (n : ¬ (97 ≤ c ∧ c ≤ 122)) : ¬ Letters z := fun l => n (mem_alpha.mp (l.mem_iff.mp h))
theorem not_letters_nd {z : Str} (h : ¬ z.cps.toList.Nodup) : ¬ Letters z := fun l => h (l.nodup_iff.mpr alpha_nd)
/-- the letters without the one at k -/
theorem rest_len {z r : Str} {k : Nat} (lz : Letters z) (hk : k < 26) (hr : r.cps.toList = z.cps.toList.take k ++ z.cps.toList.drop (k + 1)) : r.length = 25 := by
  have := lz.len
  rw [len_cps] at this
  rw [len_cps, hr, List.length_append, List.length_take, List.length_drop, this]
  omega
theorem rest_asc {z r : Str} {k : Nat} (lz : Letters z) (hr : r.cps.toList = z.cps.toList.take k ++ z.cps.toList.drop (k + 1)) : Asc r := fun c hc => by
  rw [hr, List.mem_append] at hc
  exact lz.asc c (hc.elim List.mem_of_mem_take List.mem_of_mem_drop)
theorem rest_mem {z r : Str} {k j c : Nat} (hr : r.cps.toList = z.cps.toList.take k ++ z.cps.toList.drop (k + 1)) (hj : z.cps.toList[j]? = some c) (hne : j ≠ k) : c ∈ r.cps.toList := by
  rw [hr, List.mem_append]
  rcases Nat.lt_or_gt_of_ne hne with h | h
  · exact .inl (List.mem_of_getElem? (i := j) (by rw [List.getElem?_take_of_lt h]; exact hj))
  · exact .inr (List.mem_of_getElem? (i := j - (k + 1)) (by rw [List.getElem?_drop, show k + 1 + (j - (k + 1)) = j by omega]; exact hj))
theorem asc_app {a b : Str} (ha : Asc a) (hb : Asc b) : Asc (a ++ b) := fun c hc => by
  rw [app_cps, List.mem_append] at hc
  exact hc.elim (ha c) (hb c)
theorem asc_sg {c : Nat} (h : c < 128) : Asc ⟨#[c]⟩ := fun d hd => by
  have : d = c := by simpa using hd
  omega
/-- a value that is no letters -/
def BadL (K : PySem.W.Frag) (H : Hp) (x : V) : Prop := ∃ T d, Pl K H x T ∧ Dp K H x d ∧ d.canLay0 = true ∧ d.depth ≤ 10 ∧ ∀ z, x = .str z → z.length < 64 ∧ Asc z ∧ ¬ Letters z
theorem BadL.mono {K : PySem.W.Frag} {H H' : Hp} {x : V} (S : Same H H') (h : BadL K H x) : BadL K H' x := let ⟨T, d, a, b, c⟩ := h; ⟨T, d, a.mono S, Dp.mono S b, c⟩
theorem BadL.str {K : PySem.W.Frag} {H : Hp} {z : Str} (h : z.length < 64) (a : Asc z) (n : ¬ Letters z) : BadL K H (.str z) := ⟨_, _, Pl.str, .str z, by simp only [PyData.canLay0]; exact a.ok, by simp [PyData.depth], fun z' e => by cases e; exact ⟨h, a, n⟩⟩
theorem lay_strs {ys : List Str} (h : ∀ y ∈ ys, Asc y) : (PyData.list (ys.map PyData.str)).canLay0 = true ∧ (PyData.tuple (ys.map PyData.str)).canLay0 = true ∧ (PyData.list (ys.map PyData.str)).depth ≤ 10 ∧ (PyData.tuple (ys.map PyData.str)).depth ≤ 10 := by
  refine ⟨?_, ?_, ?_, ?_⟩
  · simp only [PyData.canLay0]; exact canLay_strs ys h
  · simp only [PyData.canLay0]; exact canLay_strs ys h
  · simp only [PyData.depth, depth_strs]; decide
  · simp only [PyData.depth, depth_strs]; decide
def spBad (K : PySem.W.Frag) : Sp := fun vs H Q _ => ∃ z i, vs = [.str z, .int i] ∧ Letters z ∧ 0 ≤ i ∧ i < 26 ∧ ∀ l H' xs, H l = none → Same H H' → H' l = some (.lst xs) → xs.length ≤ 20 → (∀ x ∈ xs, BadL K H' x) → Q (.ref l) H'
section
variable {P : Program} {w : World} {K : PySem.W.Frag} {mg : Str → Option Value} {base : Heap}
theorem ok__law_bad_letters (T : Txt K mg) (M : TxtM K mg) : Cal P w K mg base 1 "_law_bad_letters" (spBad K) := by
  refine M.d__law_bad_letters.cal sc__law_bad_letters (fun vs H Q E h => ?_) (fun f cdv A outer s H vs Q E hr h => ?_)
  · obtain ⟨z, i, rfl, _⟩ := h
    rfl
  · obtain ⟨z, i, rfl, lz, i0, i1, k⟩ := h
    refine ⟨_, (pss_cons (ps_set (i := 2) sc__law_bad_letters.nd rfl (.inl rfl) (pe_op op_addU (pe_slice sl_str (pv 0) po_none (po_some (pv 1))) (pe_slice sl_str (pv 0) (po_some (pe_op op_addU (pv 1) pe_int)) po_none)))
      (pss_cons (ps_set (i := 3) sc__law_bad_letters.nd rfl (.inl rfl) (pe_lst (pa_cons (pv 2) (pa_cons (pe_op op_addU (pv 0) (pe_ix ix_seq (pv 0) (pv 1) (fun _ _ => rfl))) (pa_cons (pe_op op_addU (pv 2) (pe_ix ix_seq (pv 0) (pe_op op_modU (pe_op op_addU (pv 1) pe_int) pe_int) (fun _ _ => rfl))) (pa_cons (pe_op op_addU (pv 2) (pe_upper (pe_ix ix_seq (pv 0) (pv 1) (fun _ _ => rfl)))) (pa_cons (pe_op op_addU (pv 2) pe_str) (pa_cons pe_str pa_nil))))))))
      (pss_cons (ps_set (i := 3) sc__law_bad_letters.nd rfl (.inl rfl) (pe_op op_addU (pv 3) (pe_lst (pa_cons (pe_op op_addU (pv 2) pe_str) (pa_cons (pe_lc (own := [("_law_letter", 4)]) (g := gName 4) (tt := tYes) rfl sc__law_bad_letters.nd (pi_str (pv 0)) (blkOk_by (own := [("_law_letter", 4)]) (N := ["_law_letters", "_law_at", "_law_rest", "_law_bad", "_law_letter"]) (sc := defScope s__law_bad_letters) (by decide +kernel)) (fun _ _ _ _ _ => pg_name (i := 4) sc__law_bad_letters.nd rfl (Or.inl rfl)) (fun _ _ _ _ _ => pts_nil) (fun _ _ _ _ _ => (pv 4))) (pa_cons (pe_callTy (call_tupleTx rfl) (by rfl) T.n_tuple (by decide +kernel) (pa_cons (pv 0) pa_nil)) (pa_cons pe_non (pa_cons (pv 1) (pa_cons (pe_op op_addU (pv 0) pe_str) pa_nil)))))))))
      (pss_one (ps_ret (pe_op op_addU (pv 3) (pe_lst (pa_cons (pe_op op_addU (pe_op op_addU pe_str (pv 2)) pe_str) pa_nil)))))))), ?_⟩
    k_extra "r"
    have hz : z.length ≤ sizeLine := sz (by rw [lz.len]; decide)
    have h26 := lz.len
    refine ⟨z, rfl, hz, ?_⟩
    k_extra "r"
    refine ⟨z, rfl, hz, ?_⟩
    have er : (cutS z none (some i) ++ cutS z (some (i + 1)) none).cps.toList = z.cps.toList.take i.toNat ++ z.cps.toList.drop (i.toNat + 1) := by
      rw [app_cps, cut_to i0, cut_from (by omega), show (i + 1).toNat = i.toNat + 1 by omega]
    have el := rest_len lz (show i.toNat < 26 by omega) er
    rw [app_len] at el
    refine q_addS (sz (by omega)) ?_
    rw [← app_len] at el
    generalize cutS z none (some i) ++ cutS z (some (i + 1)) none = r at er el ⊢
    have ra := rest_asc lz er
    obtain ⟨n, rfl⟩ : ∃ n : Nat, i = n := ⟨i.toNat, by omega⟩
    rw [Int.toNat_natCast] at er
    have ln : n < z.cps.toList.length := by rw [← len_cps]; omega
    obtain ⟨c, hc⟩ : ∃ c, z.cps.toList[n]? = some c := ⟨_, List.getElem?_eq_getElem ln⟩
    have ca : 97 ≤ c ∧ c ≤ 122 := mem_alpha.mp (lz.mem_iff.mp (List.mem_of_getElem? hc))
    obtain ⟨m, hm⟩ : ∃ m : Nat, ((n : Int) + 1) % 26 = m := ⟨(((n : Int) + 1) % 26).toNat, by omega⟩
    have lm : m < z.cps.toList.length := by rw [← len_cps]; omega
    obtain ⟨c2, hc2⟩ : ∃ c, z.cps.toList[m]? = some c := ⟨_, List.getElem?_eq_getElem lm⟩
    have c2a : 97 ≤ c2 ∧ c2 ≤ 122 := mem_alpha.mp (lz.mem_iff.mp (List.mem_of_getElem? hc2))
    have c2r : c2 ∈ r.cps.toList := rest_mem er hc2 (by omega)
    have one : ∀ d : Nat, (⟨#[d]⟩ : Str).length = 1 := fun d => rfl
    k_extra "r"
    refine q_ixS hz (atI_nat hc) ?_
    refine q_addS (by rw [one]; exact sz (by omega)) ?_
    k_extra "r"
    rw [hm]
    refine q_ixS hz (atI_nat hc2) ?_
    refine q_addS (by rw [one]; exact sz (by omega)) ?_
    k_extra "r"
    refine q_ixS hz (atI_nat hc) ⟨⟨_, rfl⟩, _, rfl, rfl, (by rw [one]; decide), ?_⟩
    rw [upper_alpha c (mem_alpha.mpr ca)]
    refine q_addS (by rw [one]; exact sz (by omega)) ?_
    k_extra "r"
    refine q_addS (by show r.length + 1 ≤ sizeLine; exact sz (by omega)) ?_
    k_extra "r"
    refine q_newL (by show 6 ≤ sizeLine; decide) fun l1 H1 n1 S1 h1 => ?_
    k_extra "r"
    refine q_addS (by show r.length + 1 ≤ sizeLine; exact sz (by omega)) ?_
    refine s_lc ?_
    k_extra "r"
    refine ⟨z, rfl, fun D nD => lc_str (z := z) (fun i H' => Same H1 H' ∧ H' D = some (.lst (((signs z).take i).map V.str))) ⟨Same.new nD, upd_same⟩ ?_ ?_⟩
    · rintro j d H' hj ⟨S', hD⟩
      k_extra "r"
      refine ⟨rfl, ?_⟩
      k_extra "r"
      have hs : (signs z)[j]? = some (sg d) := by rw [signs_eq, List.getElem?_map, hj]; rfl
      refine ⟨_, hD, ?_, same_mut S' nD, ?_⟩
      · rw [List.length_map, List.length_take]
        exact szlt (by have := (List.getElem?_eq_some_iff.mp hj).1; rw [← len_cps] at this; omega)
      · rw [upd_same, take_map_more hs]
    · rintro H2 ⟨S2, h2⟩
      have esg : (signs z).take z.cps.size = signs z := List.take_of_length_le (by unfold signs; rw [List.length_map, Array.length_toList]; exact Nat.le_refl _)
      rw [esg] at h2
      k_extra "r"
      refine q_tupTx hz fun tp H3 n3 S3 h3 => ?_
      k_extra "r"
      refine q_addS (by show z.length + 1 ≤ sizeLine; exact sz (by omega)) ?_
      k_extra "r"
      refine q_newL (by show 6 ≤ sizeLine; decide) fun l2 H4 n4 S4 h4 => ?_
      refine q_cat (S4 _ _ (S3 _ _ (S2 _ _ h1))) h4 (by show 6 + 6 ≤ sizeLine; decide) (fun l3 H5 n5 S5 h5 => ?_)
      k_extra "r"
      refine q_addS (by show 1 + r.length ≤ sizeLine; exact sz (by omega)) ?_
      k_extra "r"
      refine q_addS (by rw [app_len]; show 1 + r.length + 1 ≤ sizeLine; exact sz (by omega)) ?_
      k_extra "r"
      refine q_newL (by show 1 ≤ sizeLine; decide) fun l4 H6 n6 S6 h6 => ?_
      refine q_cat (S6 _ _ h5) h6 (by show 12 + 1 ≤ sizeLine; decide) (fun l5 H7 n7 S7 h7 => ?_)
      have S27 : Same H2 H7 := (((S3.trans S4).trans S5).trans S6).trans S7
      have S07 : Same H H7 := (S1.trans S2).trans S27
      refine k l5 H7 _ (((S1.trans S2).trans ((S3.trans S4).trans (S5.trans S6))).free n7) S07 h7 (by show 13 ≤ 20; decide) fun x hx => ?_
      have ls := lay_strs (asc_signs lz.asc)
      have rl : ∀ s : Str, s.length = 1 → (r ++ s).length = 26 := fun s h => by rw [app_len, el, h]
      simp only [List.cons_append, List.nil_append, List.mem_cons, List.not_mem_nil, or_false] at hx
      rcases hx with rfl | rfl | rfl | rfl | rfl | rfl | rfl | rfl | rfl | rfl | rfl | rfl | rfl
      · exact BadL.str (by omega) ra (not_letters_len (by omega))
      · exact BadL.str (by rw [app_len, h26, one]; decide) (asc_app lz.asc (asc_sg (by omega))) (not_letters_len (by rw [app_len, h26, one]; decide))
      · refine BadL.str (by rw [rl _ (one _)]; decide) (asc_app ra (asc_sg (by omega))) (not_letters_nd fun nd => ?_)
        rw [app_cps] at nd
        exact (List.nodup_append.mp nd).2.2 c2 c2r c2 (by simp) rfl
      · refine BadL.str (by rw [rl _ (one _)]; decide) (asc_app ra (asc_sg (by omega))) (not_letters_mem (c := c - 32) (by rw [app_cps]; simp) (by omega))
      · refine BadL.str (by rw [rl _ rfl]; decide) (asc_app ra (asc_sg (c := 32) (by decide))) (not_letters_mem (c := 32) (by rw [app_cps]; exact List.mem_append_right _ List.mem_cons_self) (by decide))
      · exact BadL.str (by decide) (fun c hc => by cases hc) (not_letters_len (by decide))
      · refine BadL.str (by rw [rl _ rfl]; decide) (asc_app ra (asc_sg (c := 48) (by decide))) (not_letters_mem (c := 48) (by rw [app_cps]; exact List.mem_append_right _ List.mem_cons_self) (by decide))
      · exact ⟨_, _, Pl.lst (S27 _ _ h2), dp_lst_strs (S27 _ _ h2), ls.1, ls.2.2.1, fun z e => nomatch e⟩
      · have ht := (((S4.trans S5).trans S6).trans S7) _ _ h3
        exact ⟨_, _, Pl.tup ht, .tup (SqT.of ht) (dp_strs _), ls.2.1, ls.2.2.2, fun z e => nomatch e⟩
      · exact ⟨_, _, Pl.non, .non, by simp [PyData.canLay0], by simp [PyData.depth], fun z e => nomatch e⟩
      · exact ⟨_, _, Pl.int, .int _, by simp [PyData.canLay0], by simp [PyData.depth], fun z e => nomatch e⟩
      · exact BadL.str (by rw [app_len, h26]; decide) (asc_app lz.asc (asc_sg (c := 10) (by decide))) (not_letters_len (by rw [app_len, h26]; decide))
      · refine BadL.str (by rw [app_len, app_len, el]; decide) (asc_app (asc_app (asc_sg (c := 122) (by decide)) ra) (asc_sg (c := 97) (by decide))) (not_letters_len (by rw [app_len, app_len, el]; decide))
end
end Bt
namespace Bt
open PySem PySem.Spec PyProof.Rows L2
section
variable {X : Cx}
/-- a tuple == an instance of an own class: the class's own __eq__ answers -/
def rEqTupOwn (K : PySem.W.Frag) (C : Addr) (sp : Sp) (E : XK) : R2 := fun x y H Q => ∃ t xs a dx fs, x = .ref t ∧ H t = some (.tup xs) ∧ y = .ref a ∧ H a = some (.ins C dx fs) ∧ sp [y, x] H (fun v H' => ∃ b, v = .bl b ∧ Q v H') E
theorem op_eqTupOwn {CX : CXT} {n : Nat} {C f : Addr} {fd : FuncData} {ps : List Str} {sp : Sp} {E : XK} (F : FnOk X.prog X.w X.K X.mg X.base CX n f fd ps sp) (hr : Room n X.A)
    (hs : PySem.W.findIn X.K (.ref C) "__eq__" = some (some (.ref f))) (hf : PySem.W.isFn X.K (.ref f) = true) (hb : Binds X.K fd ps []) (hx : Passes CX X E)
    (hsub : PySem.W.subIn X.K (.ref C) (.type "tuple") = some false) (hmro : PySem.W.mroIn X.K C (.type "tuple") = some false) : OpR X (compareOp .Eq) (rEqTupOwn X.K C sp E) := by
  intro pins s σ H x y v u Q I rx ry hq
  obtain ⟨t, xs, a, dx, fs, rfl, ht, rfl, ha, hsp⟩ := hq
  cases rx
  cases ry
  obtain ⟨mA, J, _⟩ := ins_get I.hok ha
  obtain ⟨od, J, _⟩ := J.look
  obtain ⟨m, hF⟩ := I.fr
  obtain ⟨its, r, pl, hz⟩ := I.tuple (.inl (.inl ht))
  have XK := I.kIn
  have hT : s.TypeIs (.ref t) "tuple" := pl.typeIs
  show wpAny (model X.prog X.w) X.A (richCompare .Eq (.ref t) (.ref a)) (EP X pins σ Q) X.xe s
  have inst : PySem.W.Looks (model X.prog X.w) s.heap (isInstance (.ref a) (.type "tuple")) false := J.type.andThen (PySem.W.looks_mroIn XK hmro)
  unfold richCompare
  simp only [oneThing_ref]
  refine wpAny_holding (wpAny_bind (wpAny_cRoomFor hr.units0 ?_))
  refine wpAny_bind (wpAny_typeOf hT (wpAny_bind (J.type.here ?_)))
  rw [if_pos (by rfl)]
  refine wpAny_bind ((PySem.W.looks_subIn XK hsub).here ?_)
  simp only [Bool.false_eq_true, if_false]
  refine wpAny_bind (wpAny_tryCompare_declines hT PySem.F.slot_tuple_eq (wpAny_call_entry PySem.F.slot_tuple_eq hT PySem.F.entry_tuple_eq ?_ (PySem.F.args_tuple_eq_2 _ _)))
  have hl := F.len _ _ _ _ hsp
  have r2 : Vals [V.ref a, V.ref t] [Value.ref a, Value.ref t] := .cons rfl (.cons rfl .nil)
  have back : ∀ s' : Shared, s' = s → wpAny (model X.prog X.w) X.A (tryCompare (.ref a) "__eq__" (.ref t)) (fun r s' => ∃ v, r = some v ∧ EP X pins σ Q v s') X.xe s' := fun s' e => by
    subst e
    unfold tryCompare
    refine wpAny_bind (PySem.W.ifBound_K XK J hs hf (wpAny_call (codeAny_mono (F.run X.A X.stack s' H ⟨[.ref a, .ref t], []⟩ [.ref a, .ref t] [.ref a, .ref t] _ E hr I.env0 (by
      have := hb s' [.ref a, .ref t] I.kIn (by simpa using hl)
      simpa using this) r2 hsp) fun r s' hq => ?_)))
    cases r with
    | error e => exact hx pins σ H _ e s' I hq
    | ok fl =>
      cases fl with
      | ret w =>
        obtain ⟨z, H', I', rz, b, ez, q⟩ := I.after hq
        subst ez
        cases rz
        exact wpAny_pure ⟨_, rfl, .bl b, H', I', rfl, q⟩
      | next => exact False.elim hq
      | brk => exact False.elim hq
      | cont => exact False.elim hq
  have step : ∀ s' : Shared, s' = s → wpAny (model X.prog X.w) X.A.in1 (Builtin.«tuple.__eq__» ⟨[.ref t, .ref a], []⟩) (fun fin s'' => fin = Fin.done (Flow.ret Value.notImplemented) ∧ s'' = s) X.xe s' := fun s' e => by
    subst e
    obtain ⟨hp, g, d, tk, os⟩ := s'
    unfold Builtin.«tuple.__eq__»
    wp_delta
    repeat (first | with_reducible refine inst.at ?_ | wp_step)
    exact ⟨rfl, rfl⟩
  refine wpAny_mono (step s rfl) (fun fin s' z => ?_) fun _ _ x => x
  obtain ⟨e1, e2⟩ := z
  subst e1 e2
  refine ⟨_, rfl, rfl, ?_⟩
  rw [if_pos (by rfl)]
  refine wpAny_bind (wpAny_mono (back _ rfl) (fun r s' z => ?_) fun _ _ x => x)
  obtain ⟨v, rfl, q⟩ := z
  exact wpAny_pure q
end
/-- for i, x in enumerate(xs) -/
theorem for_enum {K : PySem.W.Frag} {a : Addr} {xs : List V} {g : TG} {tb : TS} {D : Ends} {σ : L2.St} {H : Hp} (Pv : Nat → L2.St → Hp → Prop) (h0 : Pv 0 σ H) (hl : ∀ i σ H, i ≤ xs.length → Pv i σ H → SqL K H a xs)
    (hs : ∀ i x σ H T, xs[i]? = some x → Pv i σ H → H T = none → g (.ref T) σ (upd H T (.tup [.int (i : Nat), x])) fun σ2 H2 => tb { D with nx := Pv (i + 1), ct := Pv (i + 1), bk := D.nx } σ2 H2) (hd : ∀ σ H, Pv xs.length σ H → D.nx σ H) :
    ∃ W : Nat → Nat → L2.St → Hp → Prop, (∃ m, W 0 m σ H) ∧ ∀ i m σ H, W i m σ H →
      ((Ite K a).stop i H ∧ D.nx σ H) ∨ ((Ite K a).go i H ∧ ∃ N : L2.St → Hp → Prop, (∀ σ' H', N σ' H' → ∃ m', m' < m ∧ W (i + 1) m' σ' H') ∧ ∀ x H', (Ite K a).yld i H x H' → g x σ H' fun σ2 H2 => tb { D with nx := N, ct := N, bk := D.nx } σ2 H2) := by
  refine ⟨fun i m σ H => m = xs.length - i ∧ i ≤ xs.length ∧ Pv i σ H, ⟨xs.length, by simp, Nat.zero_le _, h0⟩, ?_⟩
  rintro i m σ H ⟨rfl, hi, p⟩
  have q := hl i σ H hi p
  by_cases hlt : i < xs.length
  · refine .inr ⟨⟨xs, xs[i], q, by simp [hlt]⟩, Pv (i + 1), fun σ' H' p' => ⟨xs.length - (i + 1), by omega, rfl, hlt, p'⟩, fun x H' y => ?_⟩
    obtain ⟨T, x0, e1, nT, e2, y⟩ := y
    subst e1 e2
    exact hs i x0 σ _ T (y xs q) p nT
  · have e : i = xs.length := by omega
    subst e
    exact .inl ⟨⟨xs, q, Nat.le_refl _⟩, hd σ H p⟩
theorem s_iList {K : PySem.W.Frag} {te : TE} {σ : L2.St} {H : Hp} {R : It → Hp → Prop} (h : te σ H fun x H1 => ∃ a, x = .ref a ∧ (∃ xs, SqL K H1 a xs) ∧ R (Itl K a) H1) : iList K te σ H R := h
theorem s_iEnum {K : PySem.W.Frag} {ts : TA} {σ : L2.St} {H : Hp} {R : It → Hp → Prop} (h : ts σ H fun vs H1 => ∃ a xs, vs = [.ref a] ∧ SqL K H1 a xs ∧ R (Ite K a) H1) : iEnum K ts σ H R := h
theorem same_but {p : Addr} {H0 H1 H2 : Hp} (S : Same H0 H1) (n : H0 p = none) (b : But p H1 H2) : Same H0 H2 := fun c o h => b c o (ne_of_none h n) (S c o h)
theorem s_par {i j : Nat} {ta : TA} {D : Ends} {σ : L2.St} {H : Hp} (h : ta σ H fun vs H1 => ∃ v w, vs = [v, w] ∧ D.nx ((σ.set i (some v)).set j (some w)) H1) : tPar i j ta D σ H := h
theorem s_gcons {t : TG} {u : TGs} {v : V} {r : List V} {σ : L2.St} {H : Hp} {N : L2.St → Hp → Prop} (h : t v σ H fun σ' H' => u r σ' H' N) : gCons t u (v :: r) σ H N := ⟨v, r, rfl, h⟩
theorem s_gnil {σ : L2.St} {H : Hp} {N : L2.St → Hp → Prop} (h : N σ H) : gNil [] σ H N := ⟨rfl, h⟩
theorem q_gtup {K : PySem.W.Frag} {n : Nat} {t : TGs} {a : Addr} {xs : List V} {σ : L2.St} {H : Hp} {N : L2.St → Hp → Prop} (h : SqT K H a xs) (hl : xs.length = n) (q : t xs σ H N) : gTup K n t (.ref a) σ H N := ⟨a, xs, rfl, h, hl, q⟩
theorem q_slL {K : PySem.W.Frag} {a : Addr} {xs : List V} {lo hi : Option Int} {H : Hp} {Q : VK} (h : SqL K H a xs) (q : ∀ p H', H p = none → Same H H' → H' p = some (.lst (cutV xs lo hi)) → Q (.ref p) H') : rSlL K (.ref a) lo hi H Q := ⟨a, xs, rfl, h, fun p n => q p _ n (Same.new n) upd_same⟩
theorem q_append {l : Addr} {xs : List V} {y : V} {H : Hp} {Q : VK} (h : H l = some (.lst xs)) (hl : xs.length < sizeLine) (q : ∀ H', But l H H' → H' l = some (.lst (xs ++ [y])) → Q .non H') : rAppend (.ref l) [y] H Q := ⟨l, xs, y, rfl, rfl, h, hl, q _ But.upd upd_same⟩
/-- a for over J from here on -/
def ForIt (J : It) (g : TG) (tb : TS) (D : Ends) (σ : L2.St) (H : Hp) : Prop := ∃ W : Nat → Nat → L2.St → Hp → Prop, (∃ m, W 0 m σ H) ∧ ∀ i m σ H, W i m σ H →
  (J.stop i H ∧ D.nx σ H) ∨ (J.go i H ∧ ∃ N : L2.St → Hp → Prop, (∀ σ' H', N σ' H' → ∃ m', m' < m ∧ W (i + 1) m' σ' H') ∧ ∀ x H', J.yld i H x H' → g x σ H' fun σ2 H2 => tb { D with nx := N, ct := N, bk := D.nx } σ2 H2)
theorem s_for {wi : TI} {g : TG} {tb : TS} {D : Ends} {σ : L2.St} {H : Hp} (h : wi σ H fun J H1 => ForIt J g tb D σ H1) : tFor wi g tb D σ H := h
section
variable {K : PySem.W.Frag} {a : Addr} {xs : List V} {g : TG} {tb : TS} {D : Ends} {σ : L2.St} {H : Hp}
theorem q_forL (Pv : Nat → L2.St → Hp → Prop) (h0 : Pv 0 σ H) (hl : ∀ i σ H, i ≤ xs.length → Pv i σ H → SqL K H a xs)
    (hs : ∀ i x σ H, xs[i]? = some x → Pv i σ H → g x σ H fun σ2 H2 => tb { D with nx := Pv (i + 1), ct := Pv (i + 1), bk := D.nx } σ2 H2) (hd : ∀ σ H, Pv xs.length σ H → D.nx σ H) : ForIt (Itl K a) g tb D σ H := for_list Pv h0 hl hs hd
theorem q_forE (Pv : Nat → L2.St → Hp → Prop) (h0 : Pv 0 σ H) (hl : ∀ i σ H, i ≤ xs.length → Pv i σ H → SqL K H a xs)
    (hs : ∀ i x σ H T, xs[i]? = some x → Pv i σ H → H T = none → g (.ref T) σ (upd H T (.tup [.int (i : Nat), x])) fun σ2 H2 => tb { D with nx := Pv (i + 1), ct := Pv (i + 1), bk := D.nx } σ2 H2) (hd : ∀ σ H, Pv xs.length σ H → D.nx σ H) : ForIt (Ite K a) g tb D σ H := for_enum Pv h0 hl hs hd
theorem q_forR {lo : Int} {n : Nat} (Pv : Nat → L2.St → Hp → Prop) (h0 : Pv 0 σ H)
    (hs : ∀ i σ H, i < n → Pv i σ H → g (.int (lo + i)) σ H fun σ2 H2 => tb { D with nx := Pv (i + 1), ct := Pv (i + 1), bk := D.nx } σ2 H2) (hd : ∀ σ H, Pv n σ H → D.nx σ H) : ForIt (Itr lo n) g tb D σ H := for_range Pv h0 hs hd
end
theorem s_rng1 {ta : TA} {σ : L2.St} {H : Hp} {R : It → Hp → Prop} (h : ta σ H fun vs H1 => ∃ j : Int, vs = [.int j] ∧ -(2 ^ 62) ≤ j ∧ j < 2 ^ 62 ∧ R (Itr 0 j.toNat) H1) : iRng1 ta σ H R := h
end Bt
namespace Bt
open PySem PySem.Spec PyProof.Rows L2
theorem words5_ : True := by
  k_with "s" => first
    | ((with_reducible refine' s_var ?hv ?_); (case hv => exact rfl))
    | with_reducible first
      | refine' s_c ?_ | refine' s_op ?_ | refine' s_asg ?_ | refine' s_gname ?_ | refine' s_seq ?_ | refine' s_next ?_ | refine' s_ret ?_ | refine' s_ifS ?_ | refine' s_drop ?_ | refine' s_retN ?_
      | refine' s_test ?_ | refine' s_B ?_ | refine' q_test ?_ | refine' s_int ?_ | refine' s_cons ?_ | refine' s_nil ?_ | refine' s_call ?_ | refine' s_CB ?_ | refine' s_andT ?_ | refine' s_orT ?_ | refine' s_notT ?_
      | refine' s_andV ?_ | refine' s_orV ?_ | refine' s_notV ?_ | refine' s_ifV ?_ | refine' s_chain ?_ | refine' s_sl ?_ | refine' s_noPart ?_ | refine' s_part ?_ | refine' s_gsub ?_ | refine' s_BM ?_ | refine' s_tup ?_ | refine' s_lst ?_
      | refine' q_add ?_ | refine' q_sub ?_ | refine' q_lt ?_ | refine' q_le ?_ | refine' q_gt ?_ | refine' q_ge ?_ | refine' s_ifT ?_ | refine' s_ifF ?_ | refine' s_yes ?_ | refine' s_iStr ?_ | refine' s_M0 ?_ | refine' s_make ?_ | refine' s_makeS ?_ | refine' s_prop ?_ | refine' s_raise1 ?_ | refine' s_for ?_ | refine' s_rng1 ?_ | refine' s_par ?_ | refine' s_gcons ?_ | refine' s_gnil ?_ | refine' s_iList ?_ | refine' s_iEnum ?_
      | (refine' q_mod ?hm ?_; (case hm => first | omega | decide)) | (refine' q_fdiv ?hm ?hn ?_; (case hm => first | omega | decide); (case hn => first | omega | decide))
      | (refine' q_mulR ?hm ?_; (case hm => first | omega | decide)) | (refine' q_mulL ?hm ?_; (case hm => first | omega | decide))
    | dsimp only
  k_with "r" => repeat (k_extra "s")
  trivial
/-! ### the law -/
structure TxtG (K : PySem.W.Frag) (mg : Str → Option Value) (C : Addr) : Prop where
  n_enumerate : mg "enumerate" = none
  sub : PySem.W.subIn K (.ref C) (.type "tuple") = some false
  mro : PySem.W.mroIn K C (.type "tuple") = some false
def spLaw (K : PySem.W.Frag) : Sp := fun vs H Q _ => ∃ (a : Addr) (ns : List Int), vs = [.ref a] ∧ SqL K H a (ns.map V.int) ∧ ns.length ≤ 63 ∧ ∀ H', Q (.bl true) H'
/-- one of the forms that were kept: the form, the pair beside it -/
structure Kept where
  f : Addr
  q : Addr
  z : Str
  c : Int
def Kept.ok (C : Addr) (H : Hp) (e : Kept) : Prop := FormAt C H e.f e.z e.c ∧ H e.q = some (.tup [.str e.z, .int e.c]) ∧ Letters e.z ∧ 1 ≤ e.c ∧ e.c ≤ 1000
structure Shelf (C : Addr) (H : Hp) (lf lp : Addr) (es : List Kept) : Prop where
  fs : H lf = some (.lst (es.map fun e => .ref e.f))
  ps : H lp = some (.lst (es.map fun e => .ref e.q))
  ne : lf ≠ lp
  ok : ∀ e ∈ es, e.ok C H
theorem Shelf.mono {C : Addr} {H H' : Hp} {lf lp : Addr} {es : List Kept} (S : Same H H') (h : Shelf C H lf lp es) : Shelf C H' lf lp es :=
  ⟨S _ _ h.fs, S _ _ h.ps, h.ne, fun e he => let ⟨a, b, c⟩ := h.ok e he; ⟨a.mono S, S _ _ b, c⟩⟩
theorem Kept.mono {C : Addr} {H H' : Hp} {e : Kept} (S : Same H H') (h : e.ok C H) : e.ok C H' := let ⟨a, b, c⟩ := h; ⟨a.mono S, S _ _ b, c⟩
theorem Kept.but {C l : Addr} {H H' : Hp} {e : Kept} {xs : List V} (b : But l H H') (hl : H l = some (.lst xs)) (h : e.ok C H) : e.ok C H' := by
  obtain ⟨⟨dx, a⟩, q, c⟩ := h
  exact ⟨⟨dx, b _ _ (ne_of a hl (by intro z; cases z)) a⟩, b _ _ (ne_of q hl (by intro z; cases z)) q, c⟩
/-- the script stands, whatever becomes of the two lists -/
def Scr (K : PySem.W.Frag) (H : Hp) (lf lp a : Addr) (ns : List Int) : Prop := ∀ H', (∀ b o, b ≠ lf → b ≠ lp → H b = some o → H' b = some o) → SqL K H' a (ns.map V.int)
theorem Scr.of {K : PySem.W.Frag} {H H1 : Hp} {lf lp a : Addr} {ns : List Int} (h : SqL K H a (ns.map V.int)) (n1 : H lf = none) (n2 : H lp = none) (S : Same H H1) : Scr K H1 lf lp a ns := fun H' z => by
  rcases h with (h | ⟨o, h⟩) | h
  · exact .inl (.inl (z _ _ (ne_of_none h n1) (ne_of_none h n2) (S _ _ h)))
  · exact .inl (.inr ⟨o, z _ _ (ne_of_none h n1) (ne_of_none h n2) (S _ _ h)⟩)
  · exact .inr h
theorem Scr.sq {K : PySem.W.Frag} {H : Hp} {lf lp a : Addr} {ns : List Int} (h : Scr K H lf lp a ns) : SqL K H a (ns.map V.int) := h H fun _ _ _ _ e => e
theorem Scr.mono {K : PySem.W.Frag} {H H1 : Hp} {lf lp a : Addr} {ns : List Int} (S : Same H H1) (h : Scr K H lf lp a ns) : Scr K H1 lf lp a ns := fun H' z => h H' fun b o x y e => z b o x y (S _ _ e)
theorem Scr.but1 {K : PySem.W.Frag} {H H1 : Hp} {lf lp a : Addr} {ns : List Int} (S : But lf H H1) (h : Scr K H lf lp a ns) : Scr K H1 lf lp a ns := fun H' z => h H' fun b o x y e => z b o x y (S _ _ x e)
theorem Scr.but2 {K : PySem.W.Frag} {H H1 : Hp} {lf lp a : Addr} {ns : List Int} (S : But lp H H1) (h : Scr K H lf lp a ns) : Scr K H1 lf lp a ns := fun H' z => h H' fun b o x y e => z b o x y (S _ _ y e)
theorem shaped2 {d e : PyData} (h1 : d.canLay0 = true) (h2 : d.depth ≤ 10) (h3 : e.canLay0 = true) (h4 : e.depth ≤ 10) : SeqAt.shaped (.tuple [d, e]) = true := by
  unfold SeqAt.shaped
  rw [Bool.and_eq_true]
  refine ⟨?_, ?_⟩
  · simp [PyData.canLay0, PyData.canLayAll0, h1, h3]
  · simp only [PyData.depth, PyData.depthAll]
    exact decide_eq_true (by omega)
/-- a value that is no number of chains -/
def BadC (K : PySem.W.Frag) (H : Hp) (x : V) : Prop := ∃ T d, Pl K H x T ∧ Dp K H x d ∧ d.canLay0 = true ∧ d.depth ≤ 10 ∧ ∀ i, x = .int i → ¬ (1 ≤ i ∧ i ≤ 1000)
theorem BadC.mono {K : PySem.W.Frag} {H H' : Hp} {x : V} (S : Same H H') (h : BadC K H x) : BadC K H' x := let ⟨T, d, a, b, c⟩ := h; ⟨T, d, a.mono S, Dp.mono S b, c⟩
theorem BadC.int {K : PySem.W.Frag} {H : Hp} {i : Int} (h : ¬ (1 ≤ i ∧ i ≤ 1000)) : BadC K H (.int i) := ⟨_, _, Pl.int, .int i, by simp [PyData.canLay0], by simp [PyData.depth], fun j e => by cases e; exact h⟩
theorem eqv_pair (z1 z2 : Str) (c1 c2 : Int) : PyData.eqv (.tuple [.str z1, .int c1]) (.tuple [.str z2, .int c2]) = decide (z1 = z2 ∧ c1 = c2) := by
  simp only [PyData.eqv, PyData.eqvAll, Bool.and_true]
  by_cases h1 : z1 = z2 <;> by_cases h2 : c1 = c2 <;> simp [h1, h2]
theorem shaped_pair {z : Str} {c : Int} (h : Letters z) : SeqAt.shaped (.tuple [.str z, .int c]) = true := shaped2 (by simp only [PyData.canLay0]; exact h.asc.ok) (by simp [PyData.depth]) (by simp [PyData.canLay0]) (by simp [PyData.depth])
theorem ten39 : (0 : Int) < (10 : Int) ^ (39 : Int).toNat := Int.pow_pos (by decide)
section
variable {P : Program} {w : World} {K : PySem.W.Frag} {mg : Str → Option Value} {base : Heap}
theorem ok_law {C CI f : Addr} {fd : FuncData} (T : Txt K mg) (L : TxtL K mg) (M : TxtM K mg) (G : TxtG K mg C) (FC : FormC K mg C) (XI : ExcF K mg "InvalidForm" "value" CI) (F : Fun K "law" "law" s_law f fd) : FnOk P w K mg base CX0 8 f fd ["_law_script"] (spLaw K) := by
  refine F.ok sc_law (fun vs H Q E h => ?_) (fun cdv A outer s H vs Q E hr h => ?_)
  · obtain ⟨a, ns, rfl, _⟩ := h
    rfl
  · obtain ⟨a, ns, rfl, hs, h63, k⟩ := h
    have hu := hr.units
    obtain ⟨fe, fde, e1, e2, FE, be⟩ := FC.eq
    refine ⟨_, (pss_cons (ps_if (pt_not (pt_val (pe_c (ok__law_right T FC XI M) hr (by decide) rfl (pa_cons (pe_form0 T FC XI hr (by decide)) (pa_cons pe_str (pa_cons pe_int pa_nil)))))) (pss_one (ps_ret pe_bl)) pss_nil)
      (pss_cons (ps_par (i := 1) (j := 2) (by rfl) sc_law.nd rfl rfl (by decide) rfl rfl (pa_cons (pe_lst pa_nil) (pa_cons (pe_lst pa_nil) pa_nil)) (by rfl))
      (pss_cons (ps_for PassesOwn.never rfl (pi_range1 rfl L.n_range (pa_cons pe_int pa_nil)) (pg_name (i := 3) sc_law.nd rfl (.inl rfl))
        (pss_cons (ps_set (i := 4) sc_law.nd rfl (.inl rfl) (pe_c (ok__law_purse T L) hr (by decide) rfl (pa_cons (pv 0) (pa_cons (pv 3) pa_nil))))
          (pss_cons (ps_asg (pe_c (ok__law_form T L) hr (by decide) rfl (pa_cons (pv 4) pa_nil)) (pg_tup (by rfl) (pgs_cons (pg_name (i := 5) sc_law.nd rfl (.inl rfl)) (pgs_cons (pg_name (i := 6) sc_law.nd rfl (.inl rfl)) pgs_nil))))
          (pss_cons (ps_set (i := 6) sc_law.nd rfl (.inl rfl) (pe_ix ix_seq (pe_lst (pa_cons (pv 6) (pa_cons pe_int (pa_cons pe_int pa_nil)))) (pe_c (ok__law_draw L) hr (by decide) rfl (pa_cons (pv 4) (pa_cons pe_int pa_nil))) (fun _ _ => rfl)))
          (pss_cons (ps_if (PW.pt (pw_or (pt_not (pt_val (pe_c (ok__law_right T FC XI M) hr (by decide) rfl (pa_cons (pe_form2 T FC XI hr (by decide) (pv 5) (pv 6)) (pa_cons (pv 5) (pa_cons (pv 6) pa_nil)))))) (pw_or1 (pt_not (pt_val (pe_c (ok__law_right T FC XI M) hr (by decide) rfl (pa_cons (pe_form1 T FC XI hr (by decide) (pv 5)) (pa_cons (pv 5) (pa_cons pe_int pa_nil))))))))) (pss_one (ps_ret pe_bl)) pss_nil)
          (pss_cons (ps_for PassesOwn.never rfl (pi_list (pe_c (ok__law_bad_letters T M) hr (by decide) rfl (pa_cons (pv 5) (pa_cons (pe_c (ok__law_draw L) hr (by decide) rfl (pa_cons (pv 4) (pa_cons pe_int pa_nil))) pa_nil)))) (pg_name (i := 7) sc_law.nd rfl (.inl rfl))
            (pss_one (ps_if (pt_not (pt_val (pe_c (ok__law_refused T FC XI M) hr (by decide) rfl (pa_cons (pv 7) (pa_cons (pv 6) pa_nil))))) (pss_one (ps_ret pe_bl)) pss_nil)))
          (pss_cons (ps_set (i := 8) sc_law.nd rfl (.inl rfl) (pe_op op_modU (pe_callTy call_int1 (by rfl) T.n_int (by decide +kernel) (pa_cons (pe_callB (cr_sum rfl) (by rfl) L.n_sum (by decide +kernel) (pa_cons (pe_slice sl_list (pv 0) (po_some (pv 3)) (po_some (pe_op op_addU (pv 3) pe_int))) pa_nil)) pa_nil)) (pe_op op_powW pe_int pe_int)))
          (pss_cons (ps_for PassesOwn.never rfl (pi_list (pe_lst (pa_cons pe_int (pa_cons pe_int (pa_cons (pe_op op_subU pe_int (pv 6)) (pa_cons (pe_op op_addU pe_int (pv 8)) (pa_cons (pe_op op_subU pe_int (pv 8)) (pa_cons pe_bl (pa_cons pe_bl (pa_cons pe_non (pa_cons pe_str (pa_cons (pe_lst (pa_cons (pv 6) pa_nil)) (pa_cons (pe_tup (pa_cons (pv 6) pa_nil)) pa_nil))))))))))))) (pg_name (i := 7) sc_law.nd rfl (.inl rfl))
            (pss_one (ps_if (pt_not (pt_val (pe_c (ok__law_refused T FC XI M) hr (by decide) rfl (pa_cons (pv 5) (pa_cons (pv 7) pa_nil))))) (pss_one (ps_ret pe_bl)) pss_nil)))
          (pss_cons (ps_expr (pe_bm PySem.F.plainAttrs_list PySem.F.slot_list_append PySem.F.type_list_append mt_append (pv 1) (pa_cons (pe_form2 T FC XI hr (by decide) (pv 5) (pv 6)) pa_nil)))
          (pss_cons (ps_expr (pe_bm PySem.F.plainAttrs_list PySem.F.slot_list_append PySem.F.type_list_append mt_append (pv 2) (pa_cons (pe_tup (pa_cons (pv 5) (pa_cons (pv 6) pa_nil))) pa_nil)))
          (pss_cons (ps_expr (pe_bm PySem.F.plainAttrs_list PySem.F.slot_list_append PySem.F.type_list_append mt_append (pv 1) (pa_cons (pe_form2 T FC XI hr (by decide) (pv 5) (pe_op op_addU (pe_op op_modU (pv 6) pe_int) pe_int)) pa_nil)))
          (pss_one (ps_expr (pe_bm PySem.F.plainAttrs_list PySem.F.slot_list_append PySem.F.type_list_append mt_append (pv 2) (pa_cons (pe_tup (pa_cons (pv 5) (pa_cons (pe_op op_addU (pe_op op_modU (pv 6) pe_int) pe_int) pa_nil))) pa_nil)))))))))))))))
      (pss_cons (ps_for PassesOwn.never rfl (pi_enum rfl G.n_enumerate (pa_cons (pv 1) pa_nil)) (pg_tup (by rfl) (pgs_cons (pg_name (i := 3) sc_law.nd rfl (.inl rfl)) (pgs_cons (pg_name (i := 9) sc_law.nd rfl (.inl rfl)) pgs_nil)))
        (pss_cons (ps_for PassesOwn.never rfl (pi_enum rfl G.n_enumerate (pa_cons (pv 1) pa_nil)) (pg_tup (by rfl) (pgs_cons (pg_name (i := 10) sc_law.nd rfl (.inl rfl)) (pgs_cons (pg_name (i := 11) sc_law.nd rfl (.inl rfl)) pgs_nil)))
            (pss_one (ps_if (pt_cmpR op_ne (pe_callTy call_bool1 (by rfl) T.n_bool (by decide +kernel) (pa_cons (pe_cmpR (op_eqOwn (ok_form_eq T FC FE) (hr.mono (by decide)) e1 e2 be pass0) (pv 9) (pv 11) (by rfl)) pa_nil)) (pe_cmpR (op_eqU hu) (pe_ix ix_seq (pv 2) (pv 3) (fun _ _ => rfl)) (pe_ix ix_seq (pv 2) (pv 10) (fun _ _ => rfl)) (by rfl)) (by rfl)) (pss_one (ps_ret pe_bl)) pss_nil)))
          (pss_one (ps_if (PW.pt (pw_or (pt_cmpR (op_eqOwn (ok_form_eq T FC FE) (hr.mono (by decide)) e1 e2 be pass0) (pv 9) (pe_ix ix_seq (pv 2) (pv 3) (fun _ _ => rfl)) (by rfl)) (pw_or (pt_cmpR (op_eqOwn (ok_form_eq T FC FE) (hr.mono (by decide)) e1 e2 be pass0) (pv 9) (pe_ix ix_seq (pe_ix ix_seq (pv 2) (pv 3) (fun _ _ => rfl)) pe_int (fun _ _ => rfl)) (by rfl)) (pw_or (pt_cmpR (op_eqOwn (ok_form_eq T FC FE) (hr.mono (by decide)) e1 e2 be pass0) (pv 9) (pe_ix ix_seq (pe_ix ix_seq (pv 2) (pv 3) (fun _ _ => rfl)) pe_int (fun _ _ => rfl)) (by rfl)) (pw_or1 (pt_cmpR (op_eqTupOwn (ok_form_eq T FC FE) (hr.mono (by decide)) e1 e2 be pass0 G.sub G.mro) (pe_ix ix_seq (pv 2) (pv 3) (fun _ _ => rfl)) (pv 9) (by rfl))))))) (pss_one (ps_ret pe_bl)) pss_nil))))
      (pss_one (ps_ret pe_bl)))))), ?_⟩
    k_extra "r"
    refine q_form letters_alpha (by decide) (by decide) fun b H1 nb S1 hb => ?_
    k_extra "r"
    refine ⟨b, alphaS, 1, rfl, hb, letters_alpha, by decide, by decide, fun H2 S2 => ?_⟩
    k_extra "r"
    refine s_if0 rfl ?_
    k_extra "r"
    refine q_newL (by show 0 ≤ sizeLine; decide) fun lf H3 n3 S3 h3 => ?_
    k_extra "r"
    refine q_newL (by show 0 ≤ sizeLine; decide) fun lp H4 n4 S4 h4 => ?_
    refine ⟨_, _, rfl, ?_⟩
    k_extra "r"
    have scr : Scr K H4 lf lp a ns := Scr.of hs ((S1.trans S2).free n3) (((S1.trans S2).trans S3).free n4) (((S1.trans S2).trans S3).trans S4)
    have nfp : lf ≠ lp := ne_of_none h3 n4
    refine ⟨4, rfl, by decide, by decide, q_forR (lo := 0) (n := 4) (fun i σ H' => ∃ (es : List Kept) (v3 v4 v5 v6 v7 v8 : Option V), es.length = 2 * i ∧ σ = [some (.ref a), some (.ref lf), some (.ref lp), v3, v4, v5, v6, v7, v8, none, none, none] ∧
      Shelf C H' lf lp es ∧ Scr K H' lf lp a ns) ⟨[], _, _, _, _, _, _, rfl, rfl, ⟨S4 _ _ h3, h4, nfp, fun e he => by cases he⟩, scr⟩ ?_ ?_⟩
    · rintro i σ H5 hi ⟨es, v3, v4, v5, v6, v7, v8, hes, rfl, sh, scr5⟩
      k_extra "r"
      refine ⟨a, ns, 0 + (i : Int), rfl, scr5.sq, by omega, by omega, fun p H6 np S6 hp6 => ?_⟩
      k_extra "r"
      refine ⟨p, rfl, hp6, fun t H7 z c nt ht lz c0 c1 hp7 b7 => ?_⟩
      refine q_gtup (SqT.of ht) rfl ?_
      k_extra "r"
      refine q_newL (by show 3 ≤ sizeLine; decide) fun q H8 n8 S8 h8 => ?_
      k_extra "r"
      have npq : q ≠ p := fun e => by
        obtain ⟨_, _, _, e2, _⟩ := hp7
        rw [e, e2] at n8
        cases n8
      refine ⟨p, 3, rfl, hp7.mono S8, by decide, by decide, fun m H9 m0 m1 hp9 b9 => ?_⟩
      have hq9 := b9 q _ npq h8
      obtain ⟨c', ec, g0, g1⟩ : ∃ c' : Int, atI [V.int c, V.int 1, V.int 1000] m = some (.int c') ∧ 1 ≤ c' ∧ c' ≤ 1000 := by
        have : m = 0 ∨ m = 1 ∨ m = 2 := by omega
        rcases this with rfl | rfl | rfl
        · exact ⟨c, rfl, c0, c1⟩
        · exact ⟨1, rfl, by decide, by decide⟩
        · exact ⟨1000, rfl, by decide, by decide⟩
      refine q_ixL (SqL.of hq9) ec ?_
      have S59 : Same H5 H9 := same_but ((same_but S6 np b7).trans S8) np b9
      k_extra "r"
      refine q_form lz g0 g1 fun f1 H10 n10 S10 hf1 => ?_
      k_extra "r"
      refine ⟨f1, z, c', rfl, hf1, lz, g0, g1, fun H11 S11 => ?_⟩
      k_extra "r"
      refine s_if0 rfl ?_
      k_extra "r"
      refine q_form lz (by decide) (by decide) fun f2 H12 n12 S12 hf2 => ?_
      k_extra "r"
      refine ⟨f2, z, 1, rfl, hf2, lz, by decide, by decide, fun H13 S13 => ?_⟩
      k_extra "r"
      refine s_if0 rfl ?_
      k_extra "r"
      have S913 : Same H9 H13 := ((S10.trans S11).trans S12).trans S13
      refine ⟨p, 26, rfl, hp9.mono S913, by decide, by decide, fun n H14 n0 n1 hp14 b14 => ?_⟩
      k_extra "r"
      refine ⟨z, n, rfl, lz, n0, n1, fun l H15 xs n15 S15 h15 hx bad => ?_⟩
      have S515 : Same H5 H15 := (same_but (S59.trans S913) np b14).trans S15
      refine ⟨l, rfl, ⟨_, SqL.of h15⟩, q_forL (K := K) (a := l) (xs := xs) (fun j σ H' => ∃ v7, σ = [some (.ref a), some (.ref lf), some (.ref lp), some (.int (0 + (i : Int))), some (.ref p), some (.str z), some (.int c'), v7, v8, none, none, none] ∧ Same H15 H')
        ⟨_, rfl, Same.refl _⟩ (fun j σ H' _ ⟨_, _, S⟩ => SqL.of (S _ _ h15)) ?_ ?_⟩
      · rintro j x σ H16 hj ⟨v7, rfl, S16⟩
        k_extra "r"
        obtain ⟨Tx, d, pl, dp, cl, dd, hzx⟩ := (bad x (List.mem_of_getElem? hj)).mono S16
        refine ⟨x, .int c', d, .int c', Tx, _, rfl, pl, Pl.int, dp, .int c', shaped2 cl dd (by simp [PyData.canLay0]) (by simp [PyData.depth]), fun z' e => ⟨(hzx z' e).1, (hzx z' e).2.1⟩, fun v => ?_, fun H17 S17 => ?_⟩
        · obtain ⟨⟨z', e, lz'⟩, _⟩ := v
          exact (hzx z' e).2.2 lz'
        · k_extra "r"
          refine s_if0 rfl ?_
          k_extra "r"
          exact ⟨_, rfl, S16.trans S17⟩
      · rintro σ H18 ⟨v7, rfl, S18⟩
        k_extra "r"
        have scr18 : Scr K H18 lf lp a ns := (scr5.mono S515).mono S18
        refine q_slL scr18.sq fun l2 H19 n19 S19 h19 => ?_
        obtain ⟨ms, em⟩ := cutV_ints (ns := ns) (lo := some (0 + (i : Int))) (hi := some (0 + (i : Int) + 1))
        rw [em] at h19
        k_extra "r"
        refine ⟨l2, ms, rfl, SqL.of h19, ?_⟩
        k_extra "r"
        refine .inl ⟨_, rfl, ?_⟩
        k_extra "r"
        refine ⟨_, _, rfl, rfl, ⟨by decide, by decide +kernel⟩, ?_⟩
        refine q_mod ten39 ?_
        have far0 := Int.emod_nonneg ms.sum (Int.ne_of_gt ten39)
        generalize ms.sum % (10 : Int) ^ (39 : Int).toNat = far at far0 ⊢
        k_extra "r"
        refine q_newL (by show 1 ≤ sizeLine; decide) fun l3 H20 n20 S20 h20 => ?_
        k_extra "r"
        refine q_newT (by show 1 ≤ sizeLine; decide) fun t3 H21 n21 S21 h21 => ?_
        k_extra "r"
        refine q_newL (by show 11 ≤ sizeLine; decide) fun l4 H22 n22 S22 h22 => ?_
        have S1822 : Same H18 H22 := ((S19.trans S20).trans S21).trans S22
        have badc : ∀ x ∈ [V.int 0, .int 1001, .int (0 - c'), .int (1001 + far), .int (0 - far), .bl true, .bl false, .non, .str "1", .ref l3, .ref t3], BadC K H22 x := fun x hx => by
          simp only [List.mem_cons, List.not_mem_nil, or_false] at hx
          rcases hx with rfl | rfl | rfl | rfl | rfl | rfl | rfl | rfl | rfl | rfl | rfl
          · exact BadC.int (by omega)
          · exact BadC.int (by omega)
          · exact BadC.int (by omega)
          · exact BadC.int (by omega)
          · exact BadC.int (by omega)
          · exact ⟨_, _, Pl.bl, .bl true, by simp [PyData.canLay0], by simp [PyData.depth], fun i e => nomatch e⟩
          · exact ⟨_, _, Pl.bl, .bl false, by simp [PyData.canLay0], by simp [PyData.depth], fun i e => nomatch e⟩
          · exact ⟨_, _, Pl.non, .non, by simp [PyData.canLay0], by simp [PyData.depth], fun i e => nomatch e⟩
          · exact ⟨_, _, Pl.str, .str _, by decide +kernel, by simp [PyData.depth], fun i e => nomatch e⟩
          · have := S22 _ _ (S21 _ _ h20)
            exact ⟨_, _, Pl.lst this, .lst (SqL.of this) (.cons (.int c') .nil), by simp [PyData.canLay0, PyData.canLayAll0], by simp [PyData.depth, PyData.depthAll], fun i e => nomatch e⟩
          · have := S22 _ _ h21
            exact ⟨_, _, Pl.tup this, .tup (SqT.of this) (.cons (.int c') .nil), by simp [PyData.canLay0, PyData.canLayAll0], by simp [PyData.depth, PyData.depthAll], fun i e => nomatch e⟩
        refine ⟨l4, rfl, ⟨_, SqL.of h22⟩, q_forL (K := K) (a := l4) (xs := _) (fun j σ H' => ∃ v7, σ = [some (.ref a), some (.ref lf), some (.ref lp), some (.int (0 + (i : Int))), some (.ref p), some (.str z), some (.int c'), v7, some (.int far), none, none, none] ∧ Same H22 H')
          ⟨_, rfl, Same.refl _⟩ (fun j σ H' _ ⟨_, _, S⟩ => SqL.of (S _ _ h22)) ?_ ?_⟩
        · rintro j x σ H23 hj ⟨v7, rfl, S23⟩
          k_extra "r"
          obtain ⟨Tx, d, pl, dp, cl, dd, hzx⟩ := (badc x (List.mem_of_getElem? hj)).mono S23
          refine ⟨.str z, x, .str z, d, _, Tx, rfl, Pl.str, pl, .str z, dp, shaped2 (by simp only [PyData.canLay0]; exact lz.asc.ok) (by simp [PyData.depth]) cl dd, fun z' e => by cases e; exact ⟨by rw [lz.len]; decide, lz.asc⟩, fun v => ?_, fun H24 S24 => ?_⟩
          · obtain ⟨_, i', e, li⟩ := v
            exact hzx i' e li
          · k_extra "r"
            refine s_if0 rfl ?_
            k_extra "r"
            exact ⟨_, rfl, S23.trans S24⟩
        · rintro σ H25 ⟨v7, rfl, S25⟩
          k_extra "r"
          have S525 : Same H5 H25 := ((S515.trans S18).trans S1822).trans S25
          have sh25 := sh.mono S525
          have scr25 := scr5.mono S525
          refine ⟨.inl ⟨rfl, _, SqL.of sh25.fs⟩, ?_⟩
          k_extra "r"
          refine q_form lz g0 g1 fun f3 H26 n26 S26 hf3 => ?_
          k_extra "r"
          refine q_append (S26 _ _ sh25.fs) (szlt (by rw [List.length_map]; omega)) fun H27 b27 hf27 => ?_
          k_extra "r"
          have ps26 := S26 _ _ sh25.ps
          have ps27 := b27 _ _ nfp.symm ps26
          have ok26 : ∀ e ∈ es, e.ok C H27 := fun e he => Kept.but b27 (S26 _ _ sh25.fs) (Kept.mono S26 (sh25.ok e he))
          have f27 : FormAt C H27 f3 z c' := let ⟨dx, e⟩ := hf3; ⟨dx, b27 _ _ (ne_of e (S26 _ _ sh25.fs) (by intro z; cases z)) e⟩
          refine ⟨.inl ⟨rfl, _, SqL.of ps27⟩, ?_⟩
          k_extra "r"
          refine q_newT (by show 2 ≤ sizeLine; decide) fun q3 H28 n28 S28 hq3 => ?_
          k_extra "r"
          refine q_append (S28 _ _ ps27) (szlt (by rw [List.length_map]; omega)) fun H29 b29 hp29 => ?_
          k_extra "r"
          have fs29 := b29 _ _ nfp (S28 _ _ hf27)
          have ok29 : ∀ e ∈ es ++ [⟨f3, q3, z, c'⟩], e.ok C H29 := fun e he => by
            refine Kept.but b29 (S28 _ _ ps27) ?_
            rcases List.mem_append.mp he with he | he
            · exact Kept.mono S28 (ok26 e he)
            · obtain rfl : e = ⟨f3, q3, z, c'⟩ := by simpa using he
              exact ⟨f27.mono S28, hq3, lz, g0, g1⟩
          have scr29 : Scr K H29 lf lp a ns := Scr.but2 b29 (Scr.mono S28 (Scr.but1 b27 (scr25.mono S26)))
          have g2 : 1 ≤ c' % 1000 + 1 ∧ c' % 1000 + 1 ≤ 1000 := by omega
          refine ⟨.inl ⟨rfl, _, SqL.of fs29⟩, ?_⟩
          k_extra "r"
          refine q_form lz g2.1 g2.2 fun f4 H30 n30 S30 hf4 => ?_
          k_extra "r"
          refine q_append (S30 _ _ fs29) (szlt (by rw [List.length_append, List.length_map, List.length_singleton]; omega)) fun H31 b31 hf31 => ?_
          k_extra "r"
          have ps31 := b31 _ _ nfp.symm (S30 _ _ hp29)
          have f31 : FormAt C H31 f4 z (c' % 1000 + 1) := let ⟨dx, e⟩ := hf4; ⟨dx, b31 _ _ (ne_of e (S30 _ _ fs29) (by intro z; cases z)) e⟩
          have ok31 : ∀ e ∈ es ++ [⟨f3, q3, z, c'⟩], e.ok C H31 := fun e he => Kept.but b31 (S30 _ _ fs29) (Kept.mono S30 (ok29 e he))
          refine ⟨.inl ⟨rfl, _, SqL.of ps31⟩, ?_⟩
          k_extra "r"
          refine q_newT (by show 2 ≤ sizeLine; decide) fun q4 H32 n32 S32 hq4 => ?_
          k_extra "r"
          refine q_append (S32 _ _ ps31) (szlt (by rw [List.length_append, List.length_map, List.length_singleton]; omega)) fun H33 b33 hp33 => ?_
          k_extra "r"
          have fs33 := b33 _ _ nfp (S32 _ _ hf31)
          have scr33 : Scr K H33 lf lp a ns := Scr.but2 b33 (Scr.mono S32 (Scr.but1 b31 (scr29.mono S30)))
          refine ⟨es ++ [⟨f3, q3, z, c'⟩] ++ [⟨f4, q4, z, c' % 1000 + 1⟩], _, _, _, _, _, _, ?_, rfl, ⟨?_, ?_, nfp, fun e he => ?_⟩, scr33⟩
          · rw [List.length_append, List.length_append, List.length_singleton, List.length_singleton]; omega
          · rw [fs33, List.map_append, List.map_append]; rfl
          · rw [hp33, List.map_append, List.map_append]; rfl
          · refine Kept.but b33 (S32 _ _ ps31) ?_
            rcases List.mem_append.mp he with he | he
            · exact Kept.mono S32 (ok31 e he)
            · obtain rfl : e = ⟨f4, q4, z, c' % 1000 + 1⟩ := by simpa using he
              exact ⟨f31.mono S32, hq4, lz, g2⟩
    · rintro σ H5 ⟨es, v3, v4, v5, v6, v7, v8, hes, rfl, sh, scr5⟩
      k_extra "r"
      refine ⟨lf, _, rfl, SqL.of sh.fs, q_forE (K := K) (a := lf) (xs := es.map fun e => V.ref e.f) (fun i σ H' => ∃ v3 v9 v10 v11, σ = [some (.ref a), some (.ref lf), some (.ref lp), v3, v4, v5, v6, v7, v8, v9, v10, v11] ∧ Same H5 H')
        ⟨_, _, _, _, rfl, Same.refl _⟩ (fun i σ H' _ ⟨_, _, _, _, _, S⟩ => SqL.of (S _ _ sh.fs)) ?_ ?_⟩
      · rintro i x σ H6 T1 hi ⟨v3, v9, v10, v11, rfl, S6⟩ nT1
        obtain ⟨e1, he1, rfl⟩ : ∃ e, es[i]? = some e ∧ x = V.ref e.f := by
          rw [List.getElem?_map] at hi
          cases ee : es[i]? with
          | none => rw [ee] at hi; cases hi
          | some e' => rw [ee] at hi; cases hi; exact ⟨e', rfl, rfl⟩
        refine q_gtup (SqT.of upd_same) rfl ?_
        have S7 : Same H5 (upd H6 T1 (.tup [.int (i : Nat), .ref e1.f])) := S6.trans (Same.new nT1)
        generalize upd H6 T1 (.tup [.int (i : Nat), .ref e1.f]) = H7 at S7 ⊢
        k_extra "r"
        have sh7 := sh.mono S7
        refine ⟨lf, _, rfl, SqL.of sh7.fs, q_forE (K := K) (a := lf) (xs := es.map fun e => V.ref e.f) (fun j σ H' => ∃ v10 v11, σ = [some (.ref a), some (.ref lf), some (.ref lp), some (.int (i : Nat)), v4, v5, v6, v7, v8, some (.ref e1.f), v10, v11] ∧ Same H7 H')
          ⟨_, _, rfl, Same.refl _⟩ (fun i σ H' _ ⟨_, _, _, S⟩ => SqL.of (S _ _ sh7.fs)) ?_ ?_⟩
        · rintro j x σ H8 T2 hj ⟨v10, v11, rfl, S8⟩ nT2
          obtain ⟨e2, he2, rfl⟩ : ∃ e, es[j]? = some e ∧ x = V.ref e.f := by
            rw [List.getElem?_map] at hj
            cases ee : es[j]? with
            | none => rw [ee] at hj; cases hj
            | some e' => rw [ee] at hj; cases hj; exact ⟨e', rfl, rfl⟩
          refine q_gtup (SqT.of upd_same) rfl ?_
          have S9 : Same H7 (upd H8 T2 (.tup [.int (j : Nat), .ref e2.f])) := S8.trans (Same.new nT2)
          generalize upd H8 T2 (.tup [.int (j : Nat), .ref e2.f]) = H9 at S9 ⊢
          have sh9 := sh7.mono S9
          obtain ⟨⟨dx1, o1⟩, q1, l1, _⟩ := sh9.ok e1 (List.mem_of_getElem? he1)
          obtain ⟨⟨dx2, o2⟩, q2, l2, _⟩ := sh9.ok e2 (List.mem_of_getElem? he2)
          k_extra "r"
          have ix : ∀ {m : Nat} {e : Kept}, es[m]? = some e → atI (es.map fun e => V.ref e.q) (m : Int) = some (.ref e.q) := fun h => atI_nat (by rw [List.getElem?_map, h]; rfl)
          refine ⟨e1.f, dx1, _, .ref C, rfl, o1, FormAt.ty (z := e2.z) (c := e2.c) FC ⟨dx2, o2⟩, FC.nfS, e1.f, .ref e2.f, e1.z, e1.c, rfl, ⟨dx1, o1⟩, .inl ⟨e2.f, e2.z, e2.c, rfl, ⟨dx2, o2⟩, _, rfl, ?_⟩⟩
          k_extra "r"
          refine .inr ⟨_, rfl, ?_⟩
          k_extra "r"
          refine q_ixL (SqL.of sh9.ps) (ix he1) ?_
          k_extra "r"
          refine q_ixL (SqL.of sh9.ps) (ix he2) ?_
          refine q_eqD (.tup (SqT.of q1) (.cons (.str _) (.cons (.int _) .nil))) (.tup (SqT.of q2) (.cons (.str _) (.cons (.int _) .nil))) (shaped_pair l1) (shaped_pair l2) ?_
          rw [eqv_pair]
          refine ⟨rfl, ?_⟩
          k_extra "r"
          refine s_if0 (by simp) ?_
          k_extra "r"
          exact ⟨_, _, rfl, S9⟩
        · rintro σ H8 ⟨v10, v11, rfl, S8⟩
          have sh8 := sh7.mono S8
          obtain ⟨⟨dx1, o1⟩, q1, l1, _⟩ := sh8.ok e1 (List.mem_of_getElem? he1)
          have ix : atI (es.map fun e => V.ref e.q) ((i : Nat) : Int) = some (.ref e1.q) := atI_nat (by rw [List.getElem?_map, he1]; rfl)
          k_extra "r"
          refine q_ixL (SqL.of sh8.ps) ix ?_
          refine ⟨e1.f, dx1, _, .type "tuple", rfl, o1, (Pl.tup q1).1, FC.nf _ .tup, e1.f, _, e1.z, e1.c, rfl, ⟨dx1, o1⟩, .inr ⟨"tuple", Pl.tup q1, _, rfl, ?_⟩⟩
          k_extra "r"
          refine q_ixL (SqL.of sh8.ps) ix ?_
          k_extra "r"
          refine q_ixT (SqT.of q1) (at_of (j := 0) rfl rfl) ?_
          refine ⟨e1.f, dx1, _, .type "str", rfl, o1, Pl.str.1, FC.nf _ .str, e1.f, _, e1.z, e1.c, rfl, ⟨dx1, o1⟩, .inr ⟨"str", Pl.str, _, rfl, ?_⟩⟩
          k_extra "r"
          refine q_ixL (SqL.of sh8.ps) ix ?_
          k_extra "r"
          refine q_ixT (SqT.of q1) (at_of (j := 1) rfl rfl) ?_
          refine ⟨e1.f, dx1, _, .type "int", rfl, o1, Pl.int.1, FC.nf _ .int, e1.f, _, e1.z, e1.c, rfl, ⟨dx1, o1⟩, .inr ⟨"int", Pl.int, _, rfl, ?_⟩⟩
          k_extra "r"
          refine q_ixL (SqL.of sh8.ps) ix ?_
          k_extra "r"
          refine ⟨e1.q, _, e1.f, dx1, _, rfl, q1, rfl, o1, e1.f, .ref e1.q, e1.z, e1.c, rfl, ⟨dx1, o1⟩, .inr ⟨"tuple", Pl.tup q1, _, rfl, ?_⟩⟩
          k_extra "r"
          exact ⟨_, _, _, _, rfl, S7.trans S8⟩
      · rintro σ H6 ⟨v3, v9, v10, v11, rfl, S6⟩
        k_extra "r"
        exact k _
end
end Bt
namespace Bt
open PySem PySem.Spec PyProof.Rows L2
/-! ### what the end wants of the classes -/
theorem ve_own {CB : Addr} : PySem.HandSPX.refsVE [.ref CB, .type "ValueError", .type "Exception", .type "BaseException", .type "object"] = true := show PySem.HandSPX.refsVE [.type "ValueError", .type "Exception", .type "BaseException", .type "object"] = true by decide +kernel
theorem exm_self {K : PySem.W.Frag} {S : Addr} (h1 : PySem.W.subIn K (.ref S) (.type "BaseException") = some true) (h2 : PySem.W.isClsIn K S = true) (h3 : PySem.W.typeIn K (.ref S) = some (.type "type")) (h4 : PySem.W.subIn K (.ref S) (.ref S) = some true) :
    PySem.W.exmOne K (.ref S) (.ref S) = some true := by
  have e1 : (PySem.W.subIn K (.ref S) (.type "BaseException") == some true) = true := by rw [h1] <;> rfl
  have e2 : ((PySem.W.clsIn K S).isSome && PySem.W.typeIn K (.ref S) == some (.type "type")) = true := by
    have h2' : (PySem.W.clsIn K S).isSome = true := h2
    rw [h2', h3] <;> rfl
  show (if (PySem.W.subIn K (.ref S) (.type "BaseException") == some true) = true then (if ((PySem.W.clsIn K S).isSome && PySem.W.typeIn K (.ref S) == some (.type "type")) = true then PySem.W.subIn K (.ref S) (.ref S) else none) else none) = some true
  rw [if_pos e1, if_pos e2]
  exact h4
theorem exc_binds {K : PySem.W.Frag} {qual fld : Str} {params : Arguments} {body : List Stmt} {scope : Scope} {f : Addr} {fd : FuncData} (F : FunD K "__init__" qual params body scope [.non] [] f fd)
    (h : ∀ (T : Addr) (kV doc pm : Value) (an : Option Addr) (cdv ct : Value) (us its : List Value), us.length = 2 → its.length = 1 →
      ∃ k, bindArgs (PySem.W.fnOf "__init__" qual params body scope (.ref T) kV doc pm an cdv ct) ⟨us, []⟩ = seqItems? (.ref T) >>= k ∧ k (some its.toArray) = pure ((["self", fld] : List Str).zip (us ++ its.drop 1))) : Binds K fd ["self", fld] [] := by
  obtain ⟨ds, hv, hb⟩ := F.binds1 (ps := ["self", fld]) 2 1 (by simp) rfl h
  cases hv
  exact hb
theorem kit_own {K : PySem.W.Frag} {C : Addr} : PySem.W.kitOne K (.ref C) (.ref C) = some true := by
  unfold PySem.W.kitOne
  rw [if_pos (by simp)]
theorem sub_no {K : PySem.W.Frag} {C : Addr} {T : String} (h : Kd T) : PySem.W.subIn K (.type T) (.ref C) = some false := by
  cases h <;> rfl
theorem kit_no {K : PySem.W.Frag} {C : Addr} {T : String} (h2 : PySem.W.isClsIn K C = true) (h3 : PySem.W.typeIn K (.ref C) = some (.type "type")) (h : Kd T) : PySem.W.kitOne K (.type T) (.ref C) = some false := by
  have e2 : ((PySem.W.clsIn K C).isSome && PySem.W.typeIn K (.ref C) == some (.type "type")) = true := by
    have h2' : (PySem.W.clsIn K C).isSome = true := h2
    rw [h2', h3] <;> rfl
  show (if ((Value.type T) == (Value.ref C)) = true then some true else (if ((PySem.W.clsIn K C).isSome && PySem.W.typeIn K (.ref C) == some (.type "type")) = true then PySem.W.subIn K (.type T) (.ref C) else none)) = some false
  rw [if_neg (by cases h <;> exact fun z => nomatch z), if_pos e2]
  exact sub_no h
theorem nf_kd {K : PySem.W.Frag} {C : Addr} {T : String} (h : Kd T) : PySem.W.notFirst K C (.type T) = true := by
  unfold PySem.W.notFirst
  rw [sub_no h]
  exact Bool.or_true _
theorem nf_own {K : PySem.W.Frag} {C : Addr} : PySem.W.notFirst K C (.ref C) = true := by
  unfold PySem.W.notFirst
  simp
end Bt
namespace Bt
open PySem PySem.Spec PyProof.Rows L2
/-! ### what the top has written, and the law's own head -/
theorem all_mk {l : PySem.W.OpenLaw} {w : World} {K : PySem.W.Frag} {h : Heap} {mg : Str → Option Value} {fa f_is_whole f__are_letters f__are_chains f__law_purse f__law_draw f__law_form f__law_whole f__law_refused f__law_right f__law_bad_letters f_law C_InvalidForm f_x_InvalidForm T_x_InvalidForm N_InvalidForm CF f_Fi T_Fi p_FL f_FL p_FC f_FC f_FE : Addr} {od_is_whole an_is_whole od__are_letters an__are_letters od__are_chains an__are_chains od__law_purse an__law_purse od__law_draw an__law_draw od__law_form an__law_form od__law_whole an__law_whole od__law_refused an__law_refused od__law_right an__law_right od__law_bad_letters an__law_bad_letters od_law an_law od_x_InvalidForm an_x_InvalidForm odTF od_Fi an_Fi od_FL an_FL od_FC an_FC od_FE an_FE : Option Addr} {sl_is_whole sl__are_letters sl__are_chains sl__law_purse sl__law_draw sl__law_form sl__law_whole sl__law_refused sl__law_right sl__law_bad_letters sl_law sl_x_InvalidForm slTF sl_Fi sl_FL sl_FC sl_FE : Array (Option Value)} {oc_is_whole kV_is_whole dc_is_whole pm_is_whole cd_is_whole ct_is_whole oc__are_letters kV__are_letters dc__are_letters pm__are_letters cd__are_letters ct__are_letters oc__are_chains kV__are_chains dc__are_chains pm__are_chains cd__are_chains ct__are_chains oc__law_purse kV__law_purse dc__law_purse pm__law_purse cd__law_purse ct__law_purse oc__law_draw kV__law_draw dc__law_draw pm__law_draw cd__law_draw ct__law_draw oc__law_form kV__law_form dc__law_form pm__law_form cd__law_form ct__law_form oc__law_whole kV__law_whole dc__law_whole pm__law_whole cd__law_whole ct__law_whole oc__law_refused kV__law_refused dc__law_refused pm__law_refused cd__law_refused ct__law_refused oc__law_right kV__law_right dc__law_right pm__law_right cd__law_right ct__law_right oc__law_bad_letters kV__law_bad_letters dc__law_bad_letters pm__law_bad_letters cd__law_bad_letters ct__law_bad_letters oc_law kV_law dc_law pm_law cd_law ct_law oc_x_InvalidForm kV_x_InvalidForm dc_x_InvalidForm pm_x_InvalidForm cd_x_InvalidForm ct_x_InvalidForm ocTF oc_Fi kV_Fi dc_Fi pm_Fi cd_Fi ct_Fi oc_FL kV_FL dc_FL pm_FL cd_FL ct_FL oc_FC kV_FC dc_FC pm_FC cd_FC ct_FC oc_FE kV_FE dc_FE pm_FE cd_FE ct_FE : Value} {tk_LETTERS tk_MOST_CHAINS : Tok} {nm_InvalidForm q_InvalidForm : Str} {bs_InvalidForm : List Value} {CB_InvalidForm : Addr} {sn_InvalidForm : List Str} {sub_InvalidForm : List Value} {ab_InvalidForm : Bool} {col_InvalidForm : Option Bool} {dd_InvalidForm : Option Addr} {m0_InvalidForm m1_InvalidForm m2_InvalidForm m3_InvalidForm m5_InvalidForm : Option Value} {ocT_InvalidForm : Value} {odT_InvalidForm : Option Addr} {nT_InvalidForm : Nat} {slT_InvalidForm : Array (Option Value)} {nTF : Nat} {t1F t2F : Tok} {rFL rFC : List Value} (X : K.In h) (G : h.Ns mainGlobals mg) (hfa : mg "law" = some (.ref fa))
    (z_isinstance : PySem.W.nsIn K mainGlobals "isinstance" = some none)
    (z_int : PySem.W.nsIn K mainGlobals "int" = some none)
    (z_bool : PySem.W.nsIn K mainGlobals "bool" = some none)
    (z_str : PySem.W.nsIn K mainGlobals "str" = some none)
    (z_sorted : PySem.W.nsIn K mainGlobals "sorted" = some none)
    (z_tuple : PySem.W.nsIn K mainGlobals "tuple" = some none)
    (z_range : PySem.W.nsIn K mainGlobals "range" = some none)
    (z_sum : PySem.W.nsIn K mainGlobals "sum" = some none)
    (z_enumerate : PySem.W.nsIn K mainGlobals "enumerate" = some none)
    (v_LETTERS : PySem.W.nsIn K mainGlobals "LETTERS" = some (some (.str alphaS tk_LETTERS)))
    (v_MOST_CHAINS : PySem.W.nsIn K mainGlobals "MOST_CHAINS" = some (some (.int 1000 tk_MOST_CHAINS)))
    (a_is_whole : PySem.W.nsIn K mainGlobals "is_whole" = some (some (.ref f_is_whole)))
    (l_is_whole : K.lookup f_is_whole = some ⟨oc_is_whole, od_is_whole, .func (PySem.W.fnOf "is_whole" "is_whole" (defArgs s_is_whole) (defBody s_is_whole) (defScope s_is_whole) .none kV_is_whole dc_is_whole pm_is_whole an_is_whole cd_is_whole ct_is_whole), sl_is_whole⟩)
    (c_is_whole : PySem.W.codeIn K cd_is_whole "is_whole" = true)
    (k_is_whole : PySem.W.keepIn K (.ref f_is_whole) = true)
    (a__are_letters : PySem.W.nsIn K mainGlobals "_are_letters" = some (some (.ref f__are_letters)))
    (l__are_letters : K.lookup f__are_letters = some ⟨oc__are_letters, od__are_letters, .func (PySem.W.fnOf "_are_letters" "_are_letters" (defArgs s__are_letters) (defBody s__are_letters) (defScope s__are_letters) .none kV__are_letters dc__are_letters pm__are_letters an__are_letters cd__are_letters ct__are_letters), sl__are_letters⟩)
    (c__are_letters : PySem.W.codeIn K cd__are_letters "_are_letters" = true)
    (k__are_letters : PySem.W.keepIn K (.ref f__are_letters) = true)
    (a__are_chains : PySem.W.nsIn K mainGlobals "_are_chains" = some (some (.ref f__are_chains)))
    (l__are_chains : K.lookup f__are_chains = some ⟨oc__are_chains, od__are_chains, .func (PySem.W.fnOf "_are_chains" "_are_chains" (defArgs s__are_chains) (defBody s__are_chains) (defScope s__are_chains) .none kV__are_chains dc__are_chains pm__are_chains an__are_chains cd__are_chains ct__are_chains), sl__are_chains⟩)
    (c__are_chains : PySem.W.codeIn K cd__are_chains "_are_chains" = true)
    (k__are_chains : PySem.W.keepIn K (.ref f__are_chains) = true)
    (a__law_purse : PySem.W.nsIn K mainGlobals "_law_purse" = some (some (.ref f__law_purse)))
    (l__law_purse : K.lookup f__law_purse = some ⟨oc__law_purse, od__law_purse, .func (PySem.W.fnOf "_law_purse" "_law_purse" (defArgs s__law_purse) (defBody s__law_purse) (defScope s__law_purse) .none kV__law_purse dc__law_purse pm__law_purse an__law_purse cd__law_purse ct__law_purse), sl__law_purse⟩)
    (c__law_purse : PySem.W.codeIn K cd__law_purse "_law_purse" = true)
    (k__law_purse : PySem.W.keepIn K (.ref f__law_purse) = true)
    (a__law_draw : PySem.W.nsIn K mainGlobals "_law_draw" = some (some (.ref f__law_draw)))
    (l__law_draw : K.lookup f__law_draw = some ⟨oc__law_draw, od__law_draw, .func (PySem.W.fnOf "_law_draw" "_law_draw" (defArgs s__law_draw) (defBody s__law_draw) (defScope s__law_draw) .none kV__law_draw dc__law_draw pm__law_draw an__law_draw cd__law_draw ct__law_draw), sl__law_draw⟩)
    (c__law_draw : PySem.W.codeIn K cd__law_draw "_law_draw" = true)
    (k__law_draw : PySem.W.keepIn K (.ref f__law_draw) = true)
    (a__law_form : PySem.W.nsIn K mainGlobals "_law_form" = some (some (.ref f__law_form)))
    (l__law_form : K.lookup f__law_form = some ⟨oc__law_form, od__law_form, .func (PySem.W.fnOf "_law_form" "_law_form" (defArgs s__law_form) (defBody s__law_form) (defScope s__law_form) .none kV__law_form dc__law_form pm__law_form an__law_form cd__law_form ct__law_form), sl__law_form⟩)
    (c__law_form : PySem.W.codeIn K cd__law_form "_law_form" = true)
    (k__law_form : PySem.W.keepIn K (.ref f__law_form) = true)
    (a__law_whole : PySem.W.nsIn K mainGlobals "_law_whole" = some (some (.ref f__law_whole)))
    (l__law_whole : K.lookup f__law_whole = some ⟨oc__law_whole, od__law_whole, .func (PySem.W.fnOf "_law_whole" "_law_whole" (defArgs s__law_whole) (defBody s__law_whole) (defScope s__law_whole) .none kV__law_whole dc__law_whole pm__law_whole an__law_whole cd__law_whole ct__law_whole), sl__law_whole⟩)
    (c__law_whole : PySem.W.codeIn K cd__law_whole "_law_whole" = true)
    (k__law_whole : PySem.W.keepIn K (.ref f__law_whole) = true)
    (a__law_refused : PySem.W.nsIn K mainGlobals "_law_refused" = some (some (.ref f__law_refused)))
    (l__law_refused : K.lookup f__law_refused = some ⟨oc__law_refused, od__law_refused, .func (PySem.W.fnOf "_law_refused" "_law_refused" (defArgs s__law_refused) (defBody s__law_refused) (defScope s__law_refused) .none kV__law_refused dc__law_refused pm__law_refused an__law_refused cd__law_refused ct__law_refused), sl__law_refused⟩)
    (c__law_refused : PySem.W.codeIn K cd__law_refused "_law_refused" = true)
    (k__law_refused : PySem.W.keepIn K (.ref f__law_refused) = true)
    (a__law_right : PySem.W.nsIn K mainGlobals "_law_right" = some (some (.ref f__law_right)))
    (l__law_right : K.lookup f__law_right = some ⟨oc__law_right, od__law_right, .func (PySem.W.fnOf "_law_right" "_law_right" (defArgs s__law_right) (defBody s__law_right) (defScope s__law_right) .none kV__law_right dc__law_right pm__law_right an__law_right cd__law_right ct__law_right), sl__law_right⟩)
    (c__law_right : PySem.W.codeIn K cd__law_right "_law_right" = true)
    (k__law_right : PySem.W.keepIn K (.ref f__law_right) = true)
    (a__law_bad_letters : PySem.W.nsIn K mainGlobals "_law_bad_letters" = some (some (.ref f__law_bad_letters)))
    (l__law_bad_letters : K.lookup f__law_bad_letters = some ⟨oc__law_bad_letters, od__law_bad_letters, .func (PySem.W.fnOf "_law_bad_letters" "_law_bad_letters" (defArgs s__law_bad_letters) (defBody s__law_bad_letters) (defScope s__law_bad_letters) .none kV__law_bad_letters dc__law_bad_letters pm__law_bad_letters an__law_bad_letters cd__law_bad_letters ct__law_bad_letters), sl__law_bad_letters⟩)
    (c__law_bad_letters : PySem.W.codeIn K cd__law_bad_letters "_law_bad_letters" = true)
    (k__law_bad_letters : PySem.W.keepIn K (.ref f__law_bad_letters) = true)
    (a_law : PySem.W.nsIn K mainGlobals "law" = some (some (.ref f_law)))
    (l_law : K.lookup f_law = some ⟨oc_law, od_law, .func (PySem.W.fnOf "law" "law" (defArgs s_law) (defBody s_law) (defScope s_law) .none kV_law dc_law pm_law an_law cd_law ct_law), sl_law⟩)
    (c_law : PySem.W.codeIn K cd_law "law" = true)
    (k_law : PySem.W.keepIn K (.ref f_law) = true)
    (g_InvalidForm : PySem.W.nsIn K mainGlobals "InvalidForm" = some (some (.ref C_InvalidForm)))
    (xL_InvalidForm : K.lookup C_InvalidForm = some (excClassObj nm_InvalidForm q_InvalidForm C_InvalidForm N_InvalidForm bs_InvalidForm [.ref CB_InvalidForm, .type "ValueError", .type "Exception", .type "BaseException", .type "object"] true sn_InvalidForm sub_InvalidForm ab_InvalidForm col_InvalidForm dd_InvalidForm m0_InvalidForm m1_InvalidForm m2_InvalidForm m3_InvalidForm m5_InvalidForm "ValueError.__new__"))
    (sa_InvalidForm : PySem.W.findIn K (.ref C_InvalidForm) "__setattr__" = some (some (.builtin "object.__setattr__")))
    (ga_InvalidForm : PySem.W.findIn K (.ref C_InvalidForm) "__getattribute__" = some (some (.builtin "BaseException.__getattribute__")))
    (gg_InvalidForm : PySem.W.findIn K (.ref C_InvalidForm) "__getattr__" = some none)
    (no_InvalidForm : PySem.W.findIn K (.ref C_InvalidForm) "value" = some none)
    (in_InvalidForm : PySem.W.findIn K (.ref C_InvalidForm) "__init__" = some (some (.ref f_x_InvalidForm)))
    (ti_InvalidForm : PySem.W.typeIn K (.ref f_x_InvalidForm) = some (.type "function"))
    (l_x_InvalidForm : K.lookup f_x_InvalidForm = some ⟨oc_x_InvalidForm, od_x_InvalidForm, .func (PySem.W.fnOf "__init__" "InvalidForm.__init__" (defArgs s_InvalidForm___init__) (defBody s_InvalidForm___init__) (defScope s_InvalidForm___init__) (.ref T_x_InvalidForm) kV_x_InvalidForm dc_x_InvalidForm pm_x_InvalidForm an_x_InvalidForm cd_x_InvalidForm ct_x_InvalidForm), sl_x_InvalidForm⟩)
    (c_x_InvalidForm : PySem.W.codeIn K cd_x_InvalidForm "InvalidForm.__init__" = true)
    (k_x_InvalidForm : PySem.W.keepIn K (.ref f_x_InvalidForm) = true)
    (lT_InvalidForm : K.lookup T_x_InvalidForm = some ⟨ocT_InvalidForm, odT_InvalidForm, .seq #[.none] nT_InvalidForm, slT_InvalidForm⟩)
    (kC_InvalidForm : PySem.W.keepIn K (.ref C_InvalidForm) = true)
    (eC_InvalidForm : PySem.W.subIn K (.ref C_InvalidForm) (.type "BaseException") = some true)
    (tC_InvalidForm : PySem.W.typeIn K (.ref C_InvalidForm) = some (.type "type"))
    (hC_InvalidForm : PySem.W.hasDictIn K C_InvalidForm = true)
    (iC_InvalidForm : PySem.W.isClsIn K C_InvalidForm = true)
    (sC_InvalidForm : PySem.W.subIn K (.ref C_InvalidForm) (.ref C_InvalidForm) = some true)
    (g_F : PySem.W.nsIn K mainGlobals "Form" = some (some (.ref CF)))
    (pg_F : PySem.W.plainGet K CF Str.empty = true)
    (hd_F : PySem.W.hasDictIn K CF = true)
    (po_F : PySem.W.plainOver K CF = true)
    (sa_F : PySem.W.findIn K (.ref CF) "__setattr__" = some (some (.builtin "object.__setattr__")))
    (mk_F : PySem.W.makesIn K CF = true)
    (kc_F : PySem.W.keepIn K (.ref CF) = true)
    (nL_F : PySem.W.findIn K (.ref CF) "_letters" = some none)
    (nC_F : PySem.W.findIn K (.ref CF) "_chains" = some none)
    (in_F : PySem.W.findIn K (.ref CF) "__init__" = some (some (.ref f_Fi)))
    (if_F : PySem.W.isFn K (.ref f_Fi) = true)
    (l_Fi : K.lookup f_Fi = some ⟨oc_Fi, od_Fi, .func (PySem.W.fnOf "__init__" "Form.__init__" (defArgs s_Form___init__) (defBody s_Form___init__) (defScope s_Form___init__) (.ref T_Fi) kV_Fi dc_Fi pm_Fi an_Fi cd_Fi ct_Fi), sl_Fi⟩)
    (c_Fi : PySem.W.codeIn K cd_Fi "Form.__init__" = true)
    (k_Fi : PySem.W.keepIn K (.ref f_Fi) = true)
    (lT_F : K.lookup T_Fi = some ⟨ocTF, odTF, .seq #[.str alphaS t1F, .int 1 t2F] nTF, slTF⟩)
    (at_FL : PySem.W.findIn K (.ref CF) "letters" = some (some (.ref p_FL)))
    (gt_FL : PySem.W.specialIn K (.ref p_FL) "__get__" = some (some (.builtin "property.__get__")))
    (tk_FL : PySem.W.takesIn K (.ref p_FL) = some true)
    (rc_FL : PySem.W.recIn K p_FL "property" = some (.ref f_FL :: rFL))
    (l_FL : K.lookup f_FL = some ⟨oc_FL, od_FL, .func (PySem.W.fnOf "letters" "Form.letters" (defArgs s_Form_letters) (defBody s_Form_letters) (defScope s_Form_letters) .none kV_FL dc_FL pm_FL an_FL cd_FL ct_FL), sl_FL⟩)
    (c_FL : PySem.W.codeIn K cd_FL "Form.letters" = true)
    (k_FL : PySem.W.keepIn K (.ref f_FL) = true)
    (at_FC : PySem.W.findIn K (.ref CF) "chains" = some (some (.ref p_FC)))
    (gt_FC : PySem.W.specialIn K (.ref p_FC) "__get__" = some (some (.builtin "property.__get__")))
    (tk_FC : PySem.W.takesIn K (.ref p_FC) = some true)
    (rc_FC : PySem.W.recIn K p_FC "property" = some (.ref f_FC :: rFC))
    (l_FC : K.lookup f_FC = some ⟨oc_FC, od_FC, .func (PySem.W.fnOf "chains" "Form.chains" (defArgs s_Form_chains) (defBody s_Form_chains) (defScope s_Form_chains) .none kV_FC dc_FC pm_FC an_FC cd_FC ct_FC), sl_FC⟩)
    (c_FC : PySem.W.codeIn K cd_FC "Form.chains" = true)
    (k_FC : PySem.W.keepIn K (.ref f_FC) = true)
    (eq_F : PySem.W.findIn K (.ref CF) "__eq__" = some (some (.ref f_FE)))
    (ie_F : PySem.W.isFn K (.ref f_FE) = true)
    (l_FE : K.lookup f_FE = some ⟨oc_FE, od_FE, .func (PySem.W.fnOf "__eq__" "Form.__eq__" (defArgs s_Form___eq__) (defBody s_Form___eq__) (defScope s_Form___eq__) .none kV_FE dc_FE pm_FE an_FE cd_FE ct_FE), sl_FE⟩)
    (c_FE : PySem.W.codeIn K cd_FE "Form.__eq__" = true)
    (k_FE : PySem.W.keepIn K (.ref f_FE) = true)
    (i1_F : PySem.W.findIn K (.ref CF) "__class__" = some (some (.builtin "object.__class__")))
    (i2_F : PySem.W.specialIn K (.builtin "object.__class__") "__get__" = some (some (.builtin "getset_descriptor.__get__")))
    (i3_F : PySem.W.takesIn K (.builtin "object.__class__") = some true)
    (i4_F : PySem.W.mroIn K CF (.type "object") = some true)
    (cC_F : PySem.W.isClsIn K CF = true)
    (tC_F : PySem.W.typeIn K (.ref CF) = some (.type "type"))
    (sub_F : PySem.W.subIn K (.ref CF) (.type "tuple") = some false)
    (mro_F : PySem.W.mroIn K CF (.type "tuple") = some false) :
    ∃ fd : FuncData, (∀ (s : Shared) (v : Value), BindsTo s fd ⟨[v], []⟩ [("_law_script", v)]) ∧ ∀ base : Heap, K.In base → base.Ns mainGlobals mg → FnOk l.prog w K mg base CX0 8 fa fd ["_law_script"] (spLaw K) := by
  have e := hfa.symm.trans (PySem.W.mg_of X G a_law)
  cases e
  have N_isinstance : mg "isinstance" = none := PySem.W.mg_none_of X G z_isinstance
  have N_int : mg "int" = none := PySem.W.mg_none_of X G z_int
  have N_bool : mg "bool" = none := PySem.W.mg_none_of X G z_bool
  have N_str : mg "str" = none := PySem.W.mg_none_of X G z_str
  have N_sorted : mg "sorted" = none := PySem.W.mg_none_of X G z_sorted
  have N_tuple : mg "tuple" = none := PySem.W.mg_none_of X G z_tuple
  have N_range : mg "range" = none := PySem.W.mg_none_of X G z_range
  have N_sum : mg "sum" = none := PySem.W.mg_none_of X G z_sum
  have N_enumerate : mg "enumerate" = none := PySem.W.mg_none_of X G z_enumerate
  have V_LETTERS : ∃ t, mg "LETTERS" = some (.str alphaS t) := ⟨_, PySem.W.mg_of X G v_LETTERS⟩
  have V_MOST_CHAINS : ∃ t, mg "MOST_CHAINS" = some (.int 1000 t) := ⟨_, PySem.W.mg_of X G v_MOST_CHAINS⟩
  have D_is_whole : Df K mg "is_whole" s_is_whole ["value"] := ⟨f_is_whole, _, fun_mk (st := s_is_whole) l_is_whole c_is_whole k_is_whole, PySem.W.mg_of X G a_is_whole, (fun_mk (st := s_is_whole) l_is_whole c_is_whole k_is_whole).binds fun _ _ _ _ _ _ us hl => match us, hl with | [_], _ => rfl⟩
  have D__are_letters : Df K mg "_are_letters" s__are_letters ["value"] := ⟨f__are_letters, _, fun_mk (st := s__are_letters) l__are_letters c__are_letters k__are_letters, PySem.W.mg_of X G a__are_letters, (fun_mk (st := s__are_letters) l__are_letters c__are_letters k__are_letters).binds fun _ _ _ _ _ _ us hl => match us, hl with | [_], _ => rfl⟩
  have D__are_chains : Df K mg "_are_chains" s__are_chains ["value"] := ⟨f__are_chains, _, fun_mk (st := s__are_chains) l__are_chains c__are_chains k__are_chains, PySem.W.mg_of X G a__are_chains, (fun_mk (st := s__are_chains) l__are_chains c__are_chains k__are_chains).binds fun _ _ _ _ _ _ us hl => match us, hl with | [_], _ => rfl⟩
  have D__law_purse : Df K mg "_law_purse" s__law_purse ["_law_script", "_law_at"] := ⟨f__law_purse, _, fun_mk (st := s__law_purse) l__law_purse c__law_purse k__law_purse, PySem.W.mg_of X G a__law_purse, (fun_mk (st := s__law_purse) l__law_purse c__law_purse k__law_purse).binds fun _ _ _ _ _ _ us hl => match us, hl with | [_, _], _ => rfl⟩
  have D__law_draw : Df K mg "_law_draw" s__law_draw ["_law_purse_here", "_law_many"] := ⟨f__law_draw, _, fun_mk (st := s__law_draw) l__law_draw c__law_draw k__law_draw, PySem.W.mg_of X G a__law_draw, (fun_mk (st := s__law_draw) l__law_draw c__law_draw k__law_draw).binds fun _ _ _ _ _ _ us hl => match us, hl with | [_, _], _ => rfl⟩
  have D__law_form : Df K mg "_law_form" s__law_form ["_law_purse_here"] := ⟨f__law_form, _, fun_mk (st := s__law_form) l__law_form c__law_form k__law_form, PySem.W.mg_of X G a__law_form, (fun_mk (st := s__law_form) l__law_form c__law_form k__law_form).binds fun _ _ _ _ _ _ us hl => match us, hl with | [_], _ => rfl⟩
  have D__law_whole : Df K mg "_law_whole" s__law_whole ["_law_value"] := ⟨f__law_whole, _, fun_mk (st := s__law_whole) l__law_whole c__law_whole k__law_whole, PySem.W.mg_of X G a__law_whole, (fun_mk (st := s__law_whole) l__law_whole c__law_whole k__law_whole).binds fun _ _ _ _ _ _ us hl => match us, hl with | [_], _ => rfl⟩
  have D__law_refused : Df K mg "_law_refused" s__law_refused ["_law_letters", "_law_chains"] := ⟨f__law_refused, _, fun_mk (st := s__law_refused) l__law_refused c__law_refused k__law_refused, PySem.W.mg_of X G a__law_refused, (fun_mk (st := s__law_refused) l__law_refused c__law_refused k__law_refused).binds fun _ _ _ _ _ _ us hl => match us, hl with | [_, _], _ => rfl⟩
  have D__law_right : Df K mg "_law_right" s__law_right ["_law_form_here", "_law_letters", "_law_chains"] := ⟨f__law_right, _, fun_mk (st := s__law_right) l__law_right c__law_right k__law_right, PySem.W.mg_of X G a__law_right, (fun_mk (st := s__law_right) l__law_right c__law_right k__law_right).binds fun _ _ _ _ _ _ us hl => match us, hl with | [_, _, _], _ => rfl⟩
  have D__law_bad_letters : Df K mg "_law_bad_letters" s__law_bad_letters ["_law_letters", "_law_at"] := ⟨f__law_bad_letters, _, fun_mk (st := s__law_bad_letters) l__law_bad_letters c__law_bad_letters k__law_bad_letters, PySem.W.mg_of X G a__law_bad_letters, (fun_mk (st := s__law_bad_letters) l__law_bad_letters c__law_bad_letters k__law_bad_letters).binds fun _ _ _ _ _ _ us hl => match us, hl with | [_, _], _ => rfl⟩
  have FD_InvalidForm : FunD K "__init__" "InvalidForm.__init__" (defArgs s_InvalidForm___init__) (defBody s_InvalidForm___init__) (defScope s_InvalidForm___init__) [.non] [] f_x_InvalidForm _ := ⟨⟨_, _, _, _, _, _, _, _, _, _, rfl, l_x_InvalidForm, c_x_InvalidForm, .inr ⟨by simp, T_x_InvalidForm, _, [.none], _, rfl, lT_InvalidForm, rfl, .cons rfl .nil⟩, .inl rfl⟩, k_x_InvalidForm⟩
  have BD_InvalidForm := exc_binds FD_InvalidForm (fld := "value") fun _ _ _ _ _ _ _ us its hu hi => match us, its, hu, hi with | [_, _], [_], _, _ => ⟨_, rfl, rfl⟩
  have XF_InvalidForm : ExcF K mg "InvalidForm" "value" C_InvalidForm :=
    { g := PySem.W.mg_of X G g_InvalidForm, T := ⟨⟨_, _, _, _, _, _, _, _, _, _, _, _, _, _, _, xL_InvalidForm, ve_own⟩, sa_InvalidForm, eC_InvalidForm, tC_InvalidForm, kC_InvalidForm⟩, no := no_InvalidForm, xf := ⟨ga_InvalidForm, gg_InvalidForm, eC_InvalidForm, hC_InvalidForm⟩,
      te := exm_self eC_InvalidForm iC_InvalidForm tC_InvalidForm sC_InvalidForm, init := ⟨f_x_InvalidForm, _, _, _, _, _, _, _, _, in_InvalidForm, ti_InvalidForm, FD_InvalidForm, sc_InvalidForm___init__, BD_InvalidForm⟩ }
  have FDF : FunD K "__init__" "Form.__init__" (defArgs s_Form___init__) (defBody s_Form___init__) (defScope s_Form___init__) [.str alphaS, .int 1] [] f_Fi _ := ⟨⟨_, _, _, _, _, _, _, _, _, _, rfl, l_Fi, c_Fi, .inr ⟨by simp, T_Fi, _, [.str alphaS t1F, .int 1 t2F], _, rfl, lT_F, rfl, .cons ⟨_, rfl⟩ (.cons ⟨_, rfl⟩ .nil)⟩, .inl rfl⟩, k_Fi⟩
  obtain ⟨d0F, v0F, b0F⟩ := FDF.binds1 (ps := ["self", "letters", "chains"]) 3 2 (by simp) rfl fun _ _ _ _ _ _ _ us its hu hi => match us, its, hu, hi with | [_, _, _], [_, _], _, _ => ⟨_, rfl, rfl⟩
  cases v0F
  obtain ⟨d1F, v1F, b1F⟩ := FDF.binds1 (ps := ["self", "letters", "chains"]) 2 1 (by simp) rfl fun _ _ _ _ _ _ _ us its hu hi => match us, its, hu, hi with | [_, _], [_, _], _, _ => ⟨_, rfl, rfl⟩
  obtain ⟨d2F, v2F, b2F⟩ := FDF.binds1 (ps := ["self", "letters", "chains"]) 1 0 (by simp) rfl fun _ _ _ _ _ _ _ us its hu hi => match us, its, hu, hi with | [_], [_, _], _, _ => ⟨_, rfl, rfl⟩
  have FL := fun_mk (st := s_Form_letters) l_FL c_FL k_FL
  have FCh := fun_mk (st := s_Form_chains) l_FC c_FC k_FC
  have FE := fun_mk (st := s_Form___eq__) l_FE c_FE k_FE
  have FC : FormC K mg CF :=
    { cl := ⟨pg_F, hd_F, po_F, sa_F⟩, g := PySem.W.mg_of X G g_F, makes := mk_F, kp := kc_F, nL := nL_F, nC := nC_F,
      init := ⟨f_Fi, _, d1F, d2F, in_F, if_F, FDF, b0F, v1F, b1F, v2F, b2F⟩,
      pL := ⟨p_FL, f_FL, _, ⟨at_FL, gt_FL, tk_FL, ⟨_, rc_FL⟩⟩, FL, FL.binds (ps := ["self"]) fun _ _ _ _ _ _ us hl => match us, hl with | [_], _ => rfl⟩, pC := ⟨p_FC, f_FC, _, ⟨at_FC, gt_FC, tk_FC, ⟨_, rc_FC⟩⟩, FCh, FCh.binds (ps := ["self"]) fun _ _ _ _ _ _ us hl => match us, hl with | [_], _ => rfl⟩,
      eq := ⟨f_FE, _, eq_F, ie_F, FE, FE.binds (ps := ["self", "other"]) fun _ _ _ _ _ _ us hl => match us, hl with | [_, _], _ => rfl⟩, i1 := i1_F, i2 := i2_F, i3 := i3_F, i4 := i4_F, kY := kit_own, kN := fun _ h => kit_no cC_F tC_F h, nf := fun _ h => nf_kd h, nfS := nf_own }
  have T : Txt K mg := ⟨N_isinstance, N_int, N_bool, N_str, N_sorted, V_LETTERS, V_MOST_CHAINS, N_tuple, D_is_whole, D__are_letters, D__are_chains⟩
  have L : TxtL K mg := ⟨N_range, N_sum, D__law_purse, D__law_draw, D__law_form⟩
  have M : TxtM K mg := ⟨D__law_whole, D__law_refused, D__law_right, D__law_bad_letters⟩
  have GG : TxtG K mg CF := ⟨N_enumerate, sub_F, mro_F⟩
  exact ⟨PySem.W.fnOf "law" "law" (defArgs s_law) (defBody s_law) (defScope s_law) .none kV_law dc_law pm_law an_law cd_law ct_law, fun s v => .of_eq rfl, fun base _ _ => ok_law T L M GG FC XF_InvalidForm (fun_mk (st := s_law) l_law c_law k_law)⟩
theorem walk {l : PySem.W.OpenLaw} {q : Program} {loose : List Str} {XP : (Str → Option Value) → Heap → Prop} {YP : World → Heap → Prop} {d : DefRec} {K : Params → PySem.W.Frag} (hn : l.most = some 63) (hdf : d.params.defaults = [])
    (hY : ∀ (w : World) (h : Heap), YP w h → (K w.params).In h)
    (F : ∀ (w : World) (mg : Str → Option Value) (fa : Addr) (h : Heap), (K w.params).In h → h.Ns mainGlobals mg → mg d.name = some (.ref fa) →
      ∃ fd : FuncData, (∀ (s : Shared) (u : Value), BindsTo s fd ⟨[u], []⟩ [("_law_script", u)]) ∧ ∀ base : Heap, (K w.params).In base → base.Ns mainGlobals mg → FnOk l.prog w (K w.params) mg base CX0 8 fa fd ["_law_script"] (spLaw (K w.params))) :
    PySem.W.WalkO q loose XP YP l.row.toRowW d [] (fun f vs => PySem.call f vs) :=
  L2.walk_of (n := 63) (k := 8) (x := "_law_script") (CX := fun _ => CX0) (sp := fun w => spLaw (K w.params)) hn (by decide) hdf ⟨rfl, by decide, by decide⟩ hY F (fun _ _ a ns hl _ hS => ⟨a, ns, rfl, hS, hl, fun _ => rfl⟩) fun _ _ _ _ _ z => z
end Bt
open PySem PySem.W PyProof.Rows
set_option maxRecDepth 100000 in
set_option maxHeartbeats 0 in
theorem PySem.Challenge.cw_betweenlists_k02_forms_made_holds : PySem.Challenge.rw_betweenlists_k02_forms_made.Holds := by
  w_on; o_law; k_head; (case hw => w_witness2)
  k_fill
  refine Bt.walk (l := PySem.Challenge.rw_betweenlists_k02_forms_made) rfl rfl (fun w h Y => PySem.W.kIn_of Y) ?F
  case F =>
    intro w mg fa h KX G hmg
    refine' Bt.all_mk KX G hmg ?z_isinstance ?z_int ?z_bool ?z_str ?z_sorted ?z_tuple ?z_range ?z_sum ?z_enumerate ?v_LETTERS ?v_MOST_CHAINS ?a_is_whole ?l_is_whole ?c_is_whole ?k_is_whole ?a__are_letters ?l__are_letters ?c__are_letters ?k__are_letters ?a__are_chains ?l__are_chains ?c__are_chains ?k__are_chains ?a__law_purse ?l__law_purse ?c__law_purse ?k__law_purse ?a__law_draw ?l__law_draw ?c__law_draw ?k__law_draw ?a__law_form ?l__law_form ?c__law_form ?k__law_form ?a__law_whole ?l__law_whole ?c__law_whole ?k__law_whole ?a__law_refused ?l__law_refused ?c__law_refused ?k__law_refused ?a__law_right ?l__law_right ?c__law_right ?k__law_right ?a__law_bad_letters ?l__law_bad_letters ?c__law_bad_letters ?k__law_bad_letters ?a_law ?l_law ?c_law ?k_law ?g_InvalidForm ?xL_InvalidForm ?sa_InvalidForm ?ga_InvalidForm ?gg_InvalidForm ?no_InvalidForm ?in_InvalidForm ?ti_InvalidForm ?l_x_InvalidForm ?c_x_InvalidForm ?k_x_InvalidForm ?lT_InvalidForm ?kC_InvalidForm ?eC_InvalidForm ?tC_InvalidForm ?hC_InvalidForm ?iC_InvalidForm ?sC_InvalidForm ?g_F ?pg_F ?hd_F ?po_F ?sa_F ?mk_F ?kc_F ?nL_F ?nC_F ?in_F ?if_F ?l_Fi ?c_Fi ?k_Fi ?lT_F ?at_FL ?gt_FL ?tk_FL ?rc_FL ?l_FL ?c_FL ?k_FL ?at_FC ?gt_FC ?tk_FC ?rc_FC ?l_FC ?c_FC ?k_FC ?eq_F ?ie_F ?l_FE ?c_FE ?k_FE ?i1_F ?i2_F ?i3_F ?i4_F ?cC_F ?tC_F ?sub_F ?mro_F
    (case z_isinstance => k_is); (case z_int => k_is); (case z_bool => k_is); (case z_str => k_is); (case z_sorted => k_is); (case z_tuple => k_is)
    (case z_range => k_is); (case z_sum => k_is); (case z_enumerate => k_is); (case v_LETTERS => k_is); (case v_MOST_CHAINS => k_is); (case a_is_whole => k_is)
    (case l_is_whole => k_is); (case c_is_whole => k_is); (case k_is_whole => k_is); (case a__are_letters => k_is); (case l__are_letters => k_is); (case c__are_letters => k_is)
    (case k__are_letters => k_is); (case a__are_chains => k_is); (case l__are_chains => k_is); (case c__are_chains => k_is); (case k__are_chains => k_is); (case a__law_purse => k_is)
    (case l__law_purse => k_is); (case c__law_purse => k_is); (case k__law_purse => k_is); (case a__law_draw => k_is); (case l__law_draw => k_is); (case c__law_draw => k_is)
    (case k__law_draw => k_is); (case a__law_form => k_is); (case l__law_form => k_is); (case c__law_form => k_is); (case k__law_form => k_is); (case a__law_whole => k_is)
    (case l__law_whole => k_is); (case c__law_whole => k_is); (case k__law_whole => k_is); (case a__law_refused => k_is); (case l__law_refused => k_is); (case c__law_refused => k_is)
    (case k__law_refused => k_is); (case a__law_right => k_is); (case l__law_right => k_is); (case c__law_right => k_is); (case k__law_right => k_is); (case a__law_bad_letters => k_is)
    (case l__law_bad_letters => k_is); (case c__law_bad_letters => k_is); (case k__law_bad_letters => k_is); (case a_law => k_is); (case l_law => k_is); (case c_law => k_is)
    (case k_law => k_is); (case g_InvalidForm => k_is); (case xL_InvalidForm => k_is); (case sa_InvalidForm => k_is); (case ga_InvalidForm => k_is); (case gg_InvalidForm => k_is)
    (case no_InvalidForm => k_is); (case in_InvalidForm => k_is); (case ti_InvalidForm => k_is); (case l_x_InvalidForm => k_is); (case c_x_InvalidForm => k_is); (case k_x_InvalidForm => k_is)
    (case lT_InvalidForm => k_is); (case kC_InvalidForm => k_is); (case eC_InvalidForm => k_is); (case tC_InvalidForm => k_is); (case hC_InvalidForm => k_is); (case iC_InvalidForm => k_is)
    (case sC_InvalidForm => first | rfl | k_is); (case g_F => k_is); (case pg_F => k_is); (case hd_F => k_is); (case po_F => k_is); (case sa_F => k_is)
    (case mk_F => k_is); (case kc_F => k_is); (case nL_F => k_is); (case nC_F => k_is); (case in_F => k_is); (case if_F => k_is)
    (case l_Fi => k_is); (case c_Fi => k_is); (case k_Fi => k_is); (case lT_F => k_is); (case at_FL => k_is); (case gt_FL => k_is)
    (case tk_FL => k_is); (case rc_FL => k_is); (case l_FL => k_is); (case c_FL => k_is); (case k_FL => k_is); (case at_FC => k_is)
    (case gt_FC => k_is); (case tk_FC => k_is); (case rc_FC => k_is); (case l_FC => k_is); (case c_FC => k_is); (case k_FC => k_is)
    (case eq_F => k_is); (case ie_F => k_is); (case l_FE => k_is); (case c_FE => k_is); (case k_FE => k_is); (case i1_F => k_is)
    (case i2_F => k_is); (case i3_F => k_is); (case i4_F => k_is); (case cC_F => k_is); (case tC_F => k_is); (case sub_F => k_is)
    (case mro_F => k_is)
