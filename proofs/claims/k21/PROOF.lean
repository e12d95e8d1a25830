import PyProof.Rows.All
import Wide.All
import OpenK.AllK
import Wide.FinOn
import HandS.ForMost
import HandS.Exc
import HandS.TryOnly
import HandS.ExcOwn
import HandS.WordsExc
import HandS.IsInst
import HandS.Wide
import HandS.Style
import PyProof.CollectStr
import PyProof.Rows.RuleB_pow
import HandS.Codes
import HandS.ExcInit
import HandS.ExcField
import HandS.Property
import HandS.Defaults
import PyProof.TupleOfStr
import HandS.Star
import HandS.CallSlots
import HandS.Nested
import HandS.FromBytesMap
import KE.SortKeyHeap
import HandS.ExcValue
import KE.LtData
import PySem.Challenge.RW_betweenlists_k21_demands_joined
import HandS.Text
import KE.SortData
import KE.DataCmp
import OpenK.KMeth
import OpenK.KOps
import KE.KOpsOwn
import PyProof.NeKinds
import KE.KDictPairs
import KE.KDictItemsList
import HandS.Dict
import HandS.Iter
import HandS.ListItems
import KE.KDictWalk
import HandS.TupSets
import HandS.SetBool
import HandS.DictComp
import PyProof.DictMoreH
import KE.KDictSum
import KE.KDictCopyH
import KE.KDictKeyed
import HandS.TupMul
import HandS.MakeKwOnly
import HandS.OwnEq
import HandS.Deep
import HandS.TryMany
import HandS.ExcIs
set_option Elab.async false
set_option linter.all false
set_option maxRecDepth 100000
set_option maxHeartbeats 4000000
namespace Bt
open PySem PySem.Spec PyProof.Rows L2
/-! ### heaps that grow, or that change at one place -/
/-- all but what stands at p is as it was -/
def But (p : Addr) (H H' : Hp) : Prop := ∀ b o, b ≠ p → H b = some o → H' b = some o
theorem But.refl {p : Addr} {H : Hp} : But p H H := fun _ _ _ h => h
theorem But.trans {p : Addr} {H H1 H2 : Hp} (a : But p H H1) (b : But p H1 H2) : But p H H2 := fun c o n h => b c o n (a c o n h)
theorem But.of {p : Addr} {H H' : Hp} (a : Same H H') : But p H H' := fun c o _ h => a c o h
theorem But.upd {p : Addr} {H : Hp} {o : HO} : But p H (upd H p o) := fun b u n h => by rw [upd_ne n]; exact h
theorem Same.new {H : Hp} {p : Addr} {o : HO} (h : H p = none) : Same H (upd H p o) := fun a u e => by
  rw [upd_ne (ne_of_none e h)]; exact e
theorem But.new {q p : Addr} {H : Hp} {o : HO} (h : H p = none) : But q H (L2.upd H p o) := But.of (Same.new h)
theorem But.free {p : Addr} {H H' : Hp} (e : But p H H') {l : Addr} (n : l ≠ p) (h : H' l = none) : H l = none := by
  cases q : H l with
  | none => rfl
  | some o =>
    rw [e l o n q] at h
    cases h
theorem sz {n : Nat} (h : n ≤ 100000) : n ≤ sizeLine := Nat.le_trans h (by decide)
theorem szlt {n : Nat} (h : n < 100000) : n < sizeLine := Nat.lt_of_lt_of_le h (by decide)

/-! ### operators, of several kinds at once -/
section
variable {X : Cx}
def rAddStr : R2 := fun x y H Q => ∃ i j, x = .str i ∧ y = .str j ∧ i.length + j.length ≤ sizeLine ∧ Q (.str (i ++ j)) H
def rAddU : R2 := fun x y H Q => rI0 (fun i j => .int (i + j)) x y H Q ∨ (rAddStr x y H Q ∨ rCat x y H Q)
theorem op_addU : OpR X (binaryOp .Add) rAddU := OpR.or op_add (OpR.or op_add_str op_cat)
def rSub : R2 := rI0 fun i j => .int (i - j)
theorem op_subU : OpR X (binaryOp .Sub) rSub := op_sub
def rMod : R2 := rI (fun _ j => 0 < j) fun i j => .int (i % j)
theorem op_modU : OpR X (binaryOp .Mod) rMod := op_mod
def rFdiv : R2 := rI CDiv fun i j => .int (i / j)
theorem op_fdivU : OpR X (binaryOp .FloorDiv) rFdiv := op_fdiv
def rMulI : R2 := rI CMul fun i j => .int (i * j)
def rMulU : R2 := fun x y H Q => rMulI x y H Q ∨ (rI CMulW (fun i j => .int (i * j)) x y H Q ∨ rRep x y H Q)
theorem op_mulU : OpR X (binaryOp .Mult) rMulU := OpR.or op_mul (OpR.or op_mulW op_rep)
def rLtI : R2 := rI0 fun i j => .bl (decide (i < j))
def rLeI : R2 := rI0 fun i j => .bl (decide (i ≤ j))
def rGtI : R2 := rI0 fun i j => .bl (decide (j < i))
def rGeI : R2 := rI0 fun i j => .bl (decide (j ≤ i))
theorem op_ltI : OpR X (compareOp .Lt) rLtI := op_lt
theorem op_leI : OpR X (compareOp .LtE) rLeI := op_le
theorem op_gtI : OpR X (compareOp .Gt) rGtI := op_gt
theorem op_geI : OpR X (compareOp .GtE) rGeI := op_ge
def rEqU (K : PySem.W.Frag) : R2 := fun x y H Q => rEq x y H Q ∨ rEqD K x y H Q
theorem op_eqU (hu : X.A.units + 64 < cLine) : OpR X (compareOp .Eq) (rEqU X.K) := OpR.or op_eq (op_eqD hu)
def rNeU (K : PySem.W.Frag) : R2 := fun x y H Q => rNe x y H Q ∨ rNeD K x y H Q
theorem op_neU (hu : X.A.units + 64 < cLine) : OpR X (compareOp .NotEq) (rNeU X.K) := OpR.or op_ne (op_neD hu)
end
section
variable {H : Hp} {Q : VK} {i j : Int} {x y : V} {σ : L2.St} {K : PySem.W.Frag}
theorem q_var {n : Nat} {v : V} (h : σ[n]? = some (some v)) (q : Q v H) : tVar n σ H Q := ⟨v, h, q⟩
theorem q_add (q : Q (.int (i + j)) H) : rAddU (.int i) (.int j) H Q := .inl ⟨i, j, rfl, rfl, q⟩
theorem q_addS {a b : Str} (h : a.length + b.length ≤ sizeLine) (q : Q (.str (a ++ b)) H) : rAddU (.str a) (.str b) H Q := .inr (.inl ⟨a, b, rfl, rfl, h, q⟩)
theorem q_cat {l b : Addr} {xs zs : List V} (hl : H l = some (.lst xs)) (hb : H b = some (.lst zs)) (hz : xs.length + zs.length ≤ sizeLine) (q : ∀ p H', H p = none → Same H H' → H' p = some (.lst (xs ++ zs)) → Q (.ref p) H') : rAddU (.ref l) (.ref b) H Q :=
  .inr (.inr ⟨l, b, xs, zs, rfl, rfl, hl, hb, hz, fun p n => q p _ n (Same.new n) upd_same⟩)
theorem q_sub (q : Q (.int (i - j)) H) : rSub (.int i) (.int j) H Q := ⟨i, j, rfl, rfl, q⟩
theorem q_mod (h : 0 < j) (q : Q (.int (i % j)) H) : rMod (.int i) (.int j) H Q := ⟨i, j, rfl, rfl, h, q⟩
theorem q_fdiv (h : 0 < j) (h2 : j < 1073741824) (q : Q (.int (i / j)) H) : rFdiv (.int i) (.int j) H Q := ⟨i, j, rfl, rfl, ⟨h, h2⟩, q⟩
theorem q_mulL (h : -(2 ^ 64) < i ∧ i < 2 ^ 64) (q : Q (.int (i * j)) H) : rMulU (.int i) (.int j) H Q := .inl ⟨i, j, rfl, rfl, .inl h, q⟩
theorem q_mulR (h : -(2 ^ 64) < j ∧ j < 2 ^ 64) (q : Q (.int (i * j)) H) : rMulU (.int i) (.int j) H Q := .inl ⟨i, j, rfl, rfl, .inr h, q⟩
theorem q_lt (q : Q (.bl (decide (i < j))) H) : rLtI (.int i) (.int j) H Q := ⟨i, j, rfl, rfl, q⟩
theorem q_le (q : Q (.bl (decide (i ≤ j))) H) : rLeI (.int i) (.int j) H Q := ⟨i, j, rfl, rfl, q⟩
theorem q_gt (q : Q (.bl (decide (j < i))) H) : rGtI (.int i) (.int j) H Q := ⟨i, j, rfl, rfl, q⟩
theorem q_ge (q : Q (.bl (decide (j ≤ i))) H) : rGeI (.int i) (.int j) H Q := ⟨i, j, rfl, rfl, q⟩
theorem q_eq (h : scal x y = true) (q : Q (.bl (decide (x = y))) H) : rEqU K x y H Q := .inl ⟨h, q⟩
theorem q_ne (h : scal x y = true) (q : Q (.bl (!decide (x = y))) H) : rNeU K x y H Q := .inl ⟨h, q⟩
theorem q_eqD {d e : PyData} (hd : Dp K H x d) (he : Dp K H y e) (sd : SeqAt.shaped d = true) (se : SeqAt.shaped e = true) (q : Q (.bl (PyData.eqv d e)) H) : rEqU K x y H Q := .inr ⟨d, e, hd, he, sd, se, q⟩
theorem q_neD {d e : PyData} (hd : Dp K H x d) (he : Dp K H y e) (sd : SeqAt.shaped d = true) (se : SeqAt.shaped e = true) (q : Q (.bl (!PyData.eqv d e)) H) : rNeU K x y H Q := .inr ⟨d, e, hd, he, sd, se, q⟩
theorem q_ixL {p : Addr} {xs : List V} {v : V} (h : SqL K H p xs) (ha : atI xs i = some v) (q : Q v H) : rIx K (.ref p) (.int i) H Q := .inl ⟨p, xs, i, v, rfl, rfl, h, ha, q⟩
theorem q_ixT {p : Addr} {xs : List V} {v : V} (h : SqT K H p xs) (ha : atI xs i = some v) (q : Q v H) : rIx K (.ref p) (.int i) H Q := .inr (.inl ⟨p, xs, i, v, rfl, rfl, h, ha, q⟩)
theorem q_ixS {z : Str} {c : Nat} (hz : z.length ≤ sizeLine) (ha : atI z.cps.toList i = some c) (q : Q (.str ⟨#[c]⟩) H) : rIx K (.str z) (.int i) H Q := .inr (.inr ⟨z, i, c, rfl, rfl, hz, ha, q⟩)
theorem q_test {b : Bool} {R : Bool → Prop} (q : R b) : ∃ k, V.bl b = .bl k ∧ R k := ⟨b, rfl, q⟩
end

/-- a display's new object -/
def rNewT (Q : VK) (xs : List V) (H : Hp) : Prop := xs.length ≤ sizeLine ∧ ∀ p, H p = none → Q (.ref p) (upd H p (.tup xs))
def rNewL (Q : VK) (xs : List V) (H : Hp) : Prop := xs.length ≤ sizeLine ∧ ∀ p, H p = none → Q (.ref p) (upd H p (.lst xs))
/-! ### steps: one lemma a word -/
section
variable {σ : L2.St} {H : Hp} {Q : VK} {R : Bool → Hp → Prop} {D : Ends} {ta tb tc te to : TE} {t u : TS} {c d : TT} {ts tr : TA} {r r' : R2} {g : TG} {K : PySem.W.Frag} {v : V} {n i : Nat}
theorem s_seq (h : t { D with nx := u D } σ H) : tSeq t u D σ H := h
theorem s_next (h : D.nx σ H) : tNext D σ H := h
theorem s_drop (h : te σ H fun _ H1 => D.nx σ H1) : tDrop te D σ H := h
theorem s_ret (h : te σ H D.rt) : tRet te D σ H := h
theorem s_retN (h : D.rt .non H) : tRetN D σ H := h
theorem s_ifS (h : c σ H fun b H1 => if b = true then t D σ H1 else u D σ H1) : tIfS c t u D σ H := h
theorem s_asg (h : te σ H fun x H1 => g x σ H1 D.nx) : tAsg te g D σ H := h
theorem s_gname {N : L2.St → Hp → Prop} (h : N (σ.set i (some v)) H) : gName i v σ H N := h
theorem s_var (h : σ[i]? = some (some v)) (q : Q v H) : tVar i σ H Q := ⟨v, h, q⟩
theorem s_c (q : Q v H) : tC v σ H Q := q
theorem s_op (h : ta σ H fun x H1 => tb σ H1 fun y H2 => r x y H2 Q) : tOp r ta tb σ H Q := h
theorem s_test (h : te σ H fun x H' => ∃ k, x = .bl k ∧ R k H') : tTest te σ H R := h
theorem s_B (h : te σ H fun x H' => ∃ k, x = .bl k ∧ R k H') : tB te σ H R := h
theorem s_andT (h : c σ H fun b H1 => if b = true then d σ H1 R else R false H1) : tAnd c d σ H R := h
theorem s_orT (h : c σ H fun b H1 => if b = true then R true H1 else d σ H1 R) : tOr c d σ H R := h
theorem s_notT (h : c σ H fun b H1 => R (!b) H1) : tNot c σ H R := h
theorem s_andV (h : ta σ H fun x H1 => ∃ c, x = .bl c ∧ if c = true then tb σ H1 Q else Q (.bl false) H1) : tAndV ta tb σ H Q := h
theorem s_orV (h : ta σ H fun x H1 => ∃ c, x = .bl c ∧ if c = true then Q (.bl true) H1 else tb σ H1 Q) : tOrV ta tb σ H Q := h
theorem s_notV (h : ta σ H fun x H1 => ∃ c, x = .bl c ∧ Q (.bl (!c)) H1) : tNotV ta σ H Q := h
theorem s_ifV (h : c σ H fun b H1 => if b = true then ta σ H1 Q else tb σ H1 Q) : tIf c ta tb σ H Q := h
theorem s_chain (h : ta σ H fun x H1 => tb σ H1 fun y H2 => r x y H2 fun z H3 => ∃ k, z = .bl k ∧ (if k = true then tc σ H3 fun w' H4 => r' y w' H4 Q else Q (.bl false) H3)) : tChain r r' ta tb tc σ H Q := h
theorem s_nil {R : List V → Hp → Prop} (q : R [] H) : tNil σ H R := q
theorem s_cons {R : List V → Hp → Prop} (h : te σ H fun x H1 => ts σ H1 fun xs H2 => R (x :: xs) H2) : tCons te ts σ H R := h
/-- a display: the new object by what is known of it -/
theorem s_tup (h : ts σ H fun xs H1 => rNewT Q xs H1) : tTup ts σ H Q := h
theorem s_lst (h : ts σ H fun xs H1 => rNewL Q xs H1) : tLst ts σ H Q := h
theorem q_newT {xs : List V} (hl : xs.length ≤ sizeLine) (q : ∀ p H', H p = none → Same H H' → H' p = some (.tup xs) → Q (.ref p) H') : rNewT Q xs H := ⟨hl, fun p n => q p _ n (Same.new n) upd_same⟩
theorem q_newL {xs : List V} (hl : xs.length ≤ sizeLine) (q : ∀ p H', H p = none → Same H H' → H' p = some (.lst xs) → Q (.ref p) H') : rNewL Q xs H := ⟨hl, fun p n => q p _ n (Same.new n) upd_same⟩
theorem new_by {o : HO} {R : Addr → Hp → Prop} (h : ∀ p H', H p = none → Same H H' → H' p = some o → R p H') : ∀ p, H p = none → R p (upd H p o) := fun p n => h p _ n (Same.new n) upd_same
theorem s_call {sp : Sp} {dvs : List V} {E : XK} (h : ts σ H fun vs H1 => sp (vs ++ dvs) H1 Q E) : tCall sp dvs E ts σ H Q := h
theorem s_CB {f : List V → Hp → VK → Prop} (h : ts σ H fun vs H1 => f vs H1 Q) : tCB f ts σ H Q := h
theorem s_BM {T : String} {f : V → List V → Hp → VK → Prop} (h : to σ H fun x H1 => tyV K T x H1 ∧ ts σ H1 fun xs H2 => f x xs H2 Q) : tBM K T f to ts σ H Q := h
theorem s_sl {f : V → Option Int → Option Int → Hp → VK → Prop} {tl th : TO} (h : te σ H fun x H1 => tl σ H1 fun l H2 => th σ H2 fun u H3 => f x l u H3 Q) : tSl f te tl th σ H Q := h
theorem s_noPart {R : Option Int → Hp → Prop} (q : R none H) : tNoPart σ H R := q
theorem s_part {R : Option Int → Hp → Prop} (h : te σ H fun x H1 => ∃ i, x = .int i ∧ R (some i) H1) : tPart te σ H R := h
theorem s_gsub {f : TSet} {N : L2.St → Hp → Prop} (h : to σ H fun o H1 => te σ H1 fun i H2 => f o i v H2 fun H3 => N σ H3) : gSub to te f v σ H N := h
theorem s_int {j : Int} {R : Int → Prop} (q : R j) : ∃ i, V.int j = .int i ∧ R i := ⟨j, rfl, q⟩
theorem s_ifT {A B : Prop} (h : A) : if true = true then A else B := by rw [if_pos rfl]; exact h
theorem s_ifF {A B : Prop} (h : B) : if false = true then A else B := by rw [if_neg Bool.false_ne_true]; exact h
theorem s_if {k : Bool} {A B : Prop} (h : k = true → A) (h' : k = false → B) : if k = true then A else B := by
  cases k with
  | true => exact s_ifT (h rfl)
  | false => exact s_ifF (h' rfl)
theorem q_setL {p : Addr} {xs : List V} {k : Int} {j : Nat} {R : Hp → Prop} (h : H p = some (.lst xs)) (hj : ixN xs.length k = some j) (q : R (upd H p (.lst (xs.set j v)))) : rSetL (.ref p) (.int k) v H R := ⟨p, xs, k, j, rfl, rfl, h, hj, q⟩
theorem s_if1 {k : Bool} {A B : Prop} (e : k = true) (h : A) : if k = true then A else B := by subst e; exact s_ifT h
theorem s_if0 {k : Bool} {A B : Prop} (e : k = false) (h : B) : if k = true then A else B := by subst e; exact s_ifF h
theorem s_ifD {p : Prop} {inst : Decidable p} {A B : Prop} (h : p → A) (h' : ¬ p → B) : if @decide p inst = true then A else B := by
  by_cases z : p
  · rw [decide_eq_true z]; exact s_ifT (h z)
  · rw [decide_eq_false z]; exact s_ifF (h' z)
end
end Bt
namespace Bt
open PySem PySem.Spec PyProof.Rows L2
section
variable {X : Cx}
/-! ### a power of any base -/
def CPowW (i j : Int) : Prop := 0 ≤ j ∧ (Builtin.Int.intBits i : Int) * j ≤ 2 ^ 27
theorem op_powW : OpR X (binaryOp .Pow) (rI CPowW fun i j => .int (i ^ j.toNat)) := opI fun _ _ _ _ _ _ _ hc q => pow_int hc.1 hc.2 q
/-! ### text[::-1] -/
def revT (z : Str) : Str := ⟨((Builtin.Str.strSliceIndices none none (-1) z.length).filterMap (z.cps[·]?)).toArray⟩
def tRevS (te : TE) : TE := fun σ H Q => te σ H fun x H1 => ∃ z, x = .str z ∧ (revT z).length ≤ sizeLine ∧ Q (.str (revT z)) H1
theorem pe_revS {e : Expr} {te : TE} {k : Nat} {p1 p2 p3 pos : Pos} (he : PE X e te) : PE X (.Subscript e (.Slice none none (some (.UnaryOp .USub (.Constant (.int 1) k p1) p2)) p3) pos) (tRevS te) := by
  refine ⟨fun pins s σ H Q I h => ?_⟩
  refine Subscript_ (thn (he.run pins s σ H _ I h) fun v s1 ⟨x, H1, I1, r1, q1⟩ => ?_)
  obtain ⟨z, ex, hz, q⟩ := q1
  subst ex
  obtain ⟨t, rfl⟩ := r1
  have hst : PO X (some (.UnaryOp .USub (.Constant (.int 1) k p1) p2)) (tPart (tUn (rU fun i => .int (-i)) (tC (.int 1)))) := po_some (pe_un un_neg pe_int)
  refine wpAny_Slice (thn (po_none.run pins s1 σ H1 (fun o H2 => o = none ∧ H2 = H1) I1 ⟨rfl, rfl⟩) fun vl s2 ⟨l, H2, I2, pl, el, e2⟩ => ?_)
  subst el e2
  refine thn (po_none.run pins s2 σ H2 (fun o H3 => o = none ∧ H3 = H2) I2 ⟨rfl, rfl⟩) fun vu s3 ⟨u, H3, I3, pu, eu, e3⟩ => ?_
  subst eu e3
  refine thn (hst.run pins s3 σ H3 (fun o H4 => o = some (-1) ∧ H4 = H3) I3 ⟨1, rfl, -1, rfl, rfl, rfl⟩) fun vs s4 ⟨o, H4, I4, ps, eo, e4⟩ => ?_
  subst eo e4
  have I5 : Inv X pins σ H4 { s4 with heap := s4.heap.push { cls := .type "slice", data := .fields #[vl, vu, vs] } } := I4.kept (t' := s4.toks) fun b ob q => Heap.get?_push_of_some _ q
  obtain ⟨l, rfl, el⟩ := IsPart.raw pl
  obtain ⟨u, rfl, eu⟩ := IsPart.raw pu
  obtain ⟨st, rfl, es⟩ := IsPart.raw ps
  show wpAny (model X.prog X.w) X.A (subscriptTail e (.Slice none none (some (.UnaryOp .USub (.Constant (.int 1) k p1) p2)) p3) (.str z t) (.ref s4.heap.objs.size)) (EP X pins σ Q) X.xe { s4 with heap := s4.heap.push { cls := .type "slice", data := .fields #[partValue l, partValue u, partValue st] } }
  have e1 : ((st.map (·.1)).getD 1) = -1 := by rw [es]; rfl
  refine tail_any (ops := [.ref s4.heap.objs.size, .str z t]) (typeIs_str _ _ _) (F.slot_str_getitem.lookup) ?_ (by with_unfolding_all rfl)
  refine wpAny_getItem_str_slice (l := l) (u := u) (st := st) (Heap.IsSliceOf.new _ _ _ _) (by rw [e1]; rfl) ?_
  show Made.post (if ((((st.map (·.1)).getD 1) == 1 && (Builtin.Str.strSliceIndices (l.map (·.1)) (u.map (·.1)) ((st.map (·.1)).getD 1) z.length).length == z.length) = true) then Made.val (.str z t)
    else Made.str ⟨((Builtin.Str.strSliceIndices (l.map (·.1)) (u.map (·.1)) ((st.map (·.1)).getD 1) z.length).filterMap (z.cps[·]?)).toArray⟩) (EP X pins σ Q) _
  rw [e1, el, eu, if_neg (by simp)]
  exact ⟨hz, .str _, H4, I5.tok _, ⟨_, rfl⟩, q⟩
end
/-! ### sorted(text) -/
/-- the signs of a text, each as a text -/
def signs (z : Str) : List Str := z.cps.toList.map fun c => ⟨#[c]⟩
theorem strs_of_signs {z : Str} {acc : Array Value} (h : ItemsOf (SignAt z) acc z.cps.size) : StrsAre acc.toList (signs z) := by
  have key : ∀ (l : List Value) (m : List Nat), l.length = m.length → (∀ (j : Nat) (v : Value) (c : Nat), l[j]? = some v → m[j]? = some c → ∃ u, v = .str ⟨#[c]⟩ u) → StrsAre l (m.map fun c => ⟨#[c]⟩) := by
    intro l
    induction l with
    | nil =>
      intro m hl _
      cases m with
      | nil => exact .nil
      | cons a r => cases hl
    | cons x l ih =>
      intro m hl hm
      cases m with
      | nil => cases hl
      | cons c r =>
        obtain ⟨u, e⟩ := hm 0 x c rfl rfl
        rw [e]
        exact .cons _ _ (ih r (Nat.succ.inj hl) fun j v d h1 h2 => hm (j + 1) v d (by simpa using h1) (by simpa using h2))
  refine key _ _ (by rw [Array.length_toList, Array.length_toList, h.1]) fun j v c h1 h2 => ?_
  obtain ⟨d, u, e1, e2⟩ := h.2 j v (by rw [← Array.getElem?_toList]; exact h1)
  rw [← Array.getElem?_toList, h2] at e1
  cases e1
  exact ⟨u, e2⟩
section
variable {X : Cx}
def rSortTx : List V → Hp → VK → Prop := fun vs H Q => ∃ z : Str, vs = [V.str z] ∧ z.length < 64 ∧ ∀ (ys : List Str) (p : Addr), ys.Perm (signs z) → sortedS ys = true → H p = none → Q (.ref p) (upd H p (.lst (ys.map V.str)))
theorem cr_sortedTx (hc : X.calm = true) : CallR X (.builtin "sorted") rSortTx := by
  intro pins s σ H vs us Q I r h
  obtain ⟨z, rfl, h64, q⟩ := h
  obtain ⟨u, rfl, rx⟩ := vals1 r
  obtain ⟨t, rfl⟩ := rx
  have hz : z.cps.size ≤ sizeLine := sz (Nat.le_of_lt (Nat.lt_trans h64 (by decide)))
  refine PySem.Calls.call_function_entry kind_sorted plain_sorted entry_sorted (args_sorted1 _) ?_
  unfold Builtin.«sorted»
  refine wpAny_bind (m := checkCount "sorted" 1 1 _) (wpAny_pure ?_)
  refine wpAny_bind (wpAny_collect_str (show X.A.in1.handled = none from I.ok.hd hc) z t (fun s' acc k eg ed eo hacc => ?_) hz)
  have hS := strs_of_signs hacc
  have hlen : acc.toList.length < 64 := by rw [Array.length_toList, hacc.1]; exact h64
  refine wpAny_bind (wpAny_newList ?_ (sz (by omega)))
  obtain ⟨hp, g, d, tk, os⟩ := s'
  dsimp only at eg ed eo
  subst eg ed eo
  have ho : (hp.push (seqObj "list" acc.toList.toArray 0)).get? hp.objs.size = some (seqObj "list" acc.toList.toArray 0) := Heap.get?_push_size _ rfl
  refine wpAny_bind (wpAny_holding (wpAny_call_entry slot_list_sort ⟨_, ho, rfl⟩ entry_list_sort (list_sort_treeK strKind_oneLt ho hS.keysOf (fun v₁ v₂ rest e => keyKind_strs (by rw [← e]; exact hS)) hlen fun st' a1 a2 => ⟨_, rfl, ?_⟩) (args_list_sort _)))
  obtain ⟨ss', h1, h2, h3⟩ := sorted_out_str hS a1 a2
  obtain ⟨ep, he⟩ := sortedHeap_at (vs := acc.toList) (out := (arrOf st').map (·.2)) (n := 0) ho
  have I1 : Inv X pins σ H ⟨hp, s.gens, s.drawn, tk, s.os⟩ := I.kept (t' := tk) k
  have old : ∀ b o, hp.get? b = some o → (sortedHeap (hp.push (seqObj "list" acc.toList.toArray 0)) hp.objs.size acc.toList ((arrOf st').map (·.2))).get? b = some o := fun b o e2 => by
    have hlt := Heap.lt_size e2
    rw [sortedHeap_old (Nat.ne_of_lt hlt) (by rw [size_push']; exact Nat.lt_succ_of_lt hlt), Heap.get?_push_ne _ _ _ (Nat.ne_of_lt hlt)]
    exact e2
  refine wpAny_pure ⟨_, rfl, ?_⟩
  have hl2 : (ss'.map V.str).length ≤ sizeLine := by rw [List.length_map, h2.length_eq]; exact sz (by unfold signs; rw [List.length_map, Array.length_toList]; exact Nat.le_of_lt (Nat.lt_trans h64 (by decide)))
  exact ⟨.ref _, upd H hp.objs.size (.lst (ss'.map V.str)), I1.laid (t' := tk) old (Nat.le_refl _) ⟨hl2, ((arrOf st').map (·.2)).toList, ep, vals_of_strs h1, he⟩, rfl, q ss' _ h2 h3 (I1.hok.fresh (Nat.le_refl _))⟩
end
end Bt
namespace Bt
open PySem PySem.Spec PyProof.Rows L2
variable {X : Cx}
/-! ### tuple(text) -/
theorem vals_of_signs {z : Str} {acc : Array Value} (h : ItemsOf (SignAt z) acc z.cps.size) : Vals ((signs z).map V.str) acc.toList := vals_of_strs (strs_of_signs h)
def rTupTx : List V → Hp → VK → Prop := fun vs H Q => ∃ z : Str, vs = [V.str z] ∧ z.length ≤ sizeLine ∧ ∀ p, H p = none → Q (.ref p) (upd H p (.tup ((signs z).map V.str)))
theorem q_tupTx {H : Hp} {Q : VK} {z : Str} (h : z.length ≤ sizeLine) (q : ∀ p H', H p = none → Same H H' → H' p = some (.tup ((signs z).map V.str)) → Q (.ref p) H') : rTupTx [.str z] H Q := ⟨z, rfl, h, fun p n => q p _ n (Same.new n) upd_same⟩
theorem call_tupleTx (hc : X.calm = true) : CallR X (.type "tuple") rTupTx := by
  intro pins s σ H vs us Q I r h
  obtain ⟨z, rfl, hz, q⟩ := h
  obtain ⟨u, rfl, rx⟩ := vals1 r
  obtain ⟨t, rfl⟩ := rx
  refine call_tuple_str (I.ok.hd hc) z t (fun h' tk acc k hacc => ?_) hz
  have I1 : Inv X pins σ H { s with heap := h', toks := tk } := I.kept (t' := tk) k
  have hl : ((signs z).map V.str).length ≤ sizeLine := by
    unfold signs
    rw [List.length_map, List.length_map, Array.length_toList]
    exact hz
  refine ⟨.ref h'.objs.size, _, I1.laid (t' := tk) (a := h'.objs.size) (o := .tup ((signs z).map V.str)) (fun b o e => Heap.get?_push_of_some _ e) (Nat.le_refl _) ⟨hl, acc.toList, vals_of_signs hacc, ?_⟩, rfl, q _ (I1.hok.fresh (Nat.le_refl _))⟩
  have e : acc.toList.toArray = acc := by simp
  rw [e]
  exact IsTup.new _ _
/-! ### C(e, ..), C's __init__ may raise; what is raised is wished for at the caller's slots -/
section
variable {CX : CXT} {k : Nat} {C f : Addr} {fd : FuncData} {ps : List Str} {sp : Sp} {dvs : List V} {ds : List Value} {E : L2.St → XK} {x : Str} {p pos : Pos} {e : Expr} {es : List Expr} {t : TA}
def tMakeS (C : Addr) (sp : Sp) (dvs : List V) (E : L2.St → XK) (t : TA) : TE := fun σ H Q => t σ H fun vs H1 => ∀ x dx, H1 x = none → H1 dx = none → dx ≠ x →
  sp (.ref x :: (vs ++ dvs)) (upd (upd H1 dx (.own x)) x (.ins C dx [])) (fun v H2 => v = .non ∧ Q (.ref x) H2) (E σ)
theorem run_makeS {pins : List (Addr × Obj)} {σ : L2.St} {H : Hp} {s : Shared} {Q : VK} {us : List Value} {vs : List V} (M : Mk X.K C f) (F : FnOk X.prog X.w X.K X.mg X.base CX k f fd ps sp) (hr : Room (k + 1) X.A) (hb : Binds X.K fd ps ds) (hd : Vals dvs ds)
    (hx : PassesAt CX X σ (E σ)) (I : Inv X pins σ H s) (r : Vals vs us)
    (h : ∀ x dx, H x = none → H dx = none → dx ≠ x → sp (.ref x :: (vs ++ dvs)) (upd (upd H dx (.own x)) x (.ins C dx [])) (fun v H2 => v = .non ∧ Q (.ref x) H2) (E σ)) :
    wpAny (model X.prog X.w) X.A (call (.ref C) us) (EP X pins σ Q) X.xe s := by
  have hq := h (s.heap.objs.size + 1) s.heap.objs.size (I.hok.fresh (Nat.le_succ _)) (I.hok.fresh (Nat.le_refl _)) (Nat.ne_of_lt (Nat.lt_succ_self _))
  have I2 := Inv.made (C := C) I
  have r2 : Vals (V.ref (s.heap.objs.size + 1) :: (vs ++ dvs)) (Value.ref (s.heap.objs.size + 1) :: (us ++ ds)) := .cons rfl (r.append hd)
  have hl : (Value.ref (s.heap.objs.size + 1) :: us ++ ds).length = ps.length := by
    have e := r2.length
    rw [F.len _ _ _ _ hq] at e
    exact e.symm
  refine wpAny_call (make_map (f := f) I.kIn M.makes M.init (beq_iff_eq.mp M.fn) (codeAny_mono (F.run _ X.stack _ _ ⟨Value.ref (s.heap.objs.size + 1) :: us, []⟩ (Value.ref (s.heap.objs.size + 1) :: (us ++ ds)) _ _ (E σ) (hr.make C us [])
    (I2.env0.make C us []) (hb _ (Value.ref (s.heap.objs.size + 1) :: us) I2.kIn hl) r2 hq) fun r s' hq' => ?_))
  cases r with
  | error e => exact hx pins _ _ e s' I2 hq'
  | ok fl =>
    cases fl with
    | ret u =>
      obtain ⟨v, H', I3, rv, ev, q3⟩ := I2.after hq'
      subst ev
      exact ⟨rv, ⟨V.ref (s.heap.objs.size + 1), H', I3, rfl, q3⟩⟩
    | next => exact False.elim hq'
    | brk => exact False.elim hq'
    | cont => exact False.elim hq'
theorem pe_makeS (M : Mk X.K C f) (F : FnOk X.prog X.w X.K X.mg X.base CX k f fd ps sp) (hr : Room (k + 1) X.A) (hg : Gl X x) (hm : X.mg x = some (.ref C)) (hb : Binds X.K fd ps ds) (hd : Vals dvs ds) (hx : ∀ σ, PassesAt CX X σ (E σ))
    (ha : PA X (e :: es) t) (hdb : (x == ("__debug__" : Str)) = false := by decide) (he : starEach (e :: es) X.env = (false, eval e X.env) :: starEach es X.env := by rfl) (hpl : (backTo pos (starEach es X.env)).any (·.1) = false := by rfl) :
    PE X (.Call (.Name x p) (e :: es) [] pos) (tMakeS C sp dvs E t) := by
  refine ⟨fun pins s σ H Q I h => ?_⟩
  refine wpAny_Call_Name_kw (ld_glob I hg hm ?_ hdb)
  refine PySem.W.callWith_K (h₀ := X.base) I.ok.mod.kin M.kp (thn (ha.run pos pins s σ H _ I h) fun us s1 ⟨vs, H1, I1, r, q⟩ => ⟨I1.kIn, ?_⟩) he hpl
  exact run_makeS M F hr hb hd (hx σ) I1 r q
end
/-! ### a comprehension over a text -/
theorem lc_str {z : Str} {g : TG} {tt : TT} {te : TE} {vs : List Nat} {σ : L2.St} {H1 : Hp} {D : Addr} {Qd : Hp → Prop} (Pv : Nat → Hp → Prop) (h0 : Pv 0 (upd H1 D (.lst [])))
    (hs : ∀ i (c : Nat) H, z.cps.toList[i]? = some c → Pv i H → g (.str ⟨#[c]⟩) (wipe σ vs) H fun σ2 H2 => wipe σ2 vs = wipe σ vs ∧ tt σ2 H2 fun b H3 =>
      if b = true then te σ2 H3 fun y H4 => ∃ acc, H4 D = some (.lst acc) ∧ acc.length < sizeLine ∧ Pv (i + 1) (upd H4 D (.lst (acc ++ [y]))) else Pv (i + 1) H3) (hd : ∀ H, Pv z.cps.size H → Qd H) :
    ∃ W : Nat → Nat → Hp → Prop, (∃ m, W 0 m (upd H1 D (.lst []))) ∧ ∀ i m H, W i m H →
      ((Its z).stop i H ∧ Qd H) ∨ ((Its z).go i H ∧ ∃ Nx : Hp → Prop, (∀ H', Nx H' → ∃ m', m' < m ∧ W (i + 1) m' H') ∧ ∀ x H', (Its z).yld i H x H' → g x (wipe σ vs) H' fun σ2 H2 => wipe σ2 vs = wipe σ vs ∧ tt σ2 H2 fun b H3 =>
        if b = true then te σ2 H3 fun y H4 => ∃ acc, H4 D = some (.lst acc) ∧ acc.length < sizeLine ∧ Nx (upd H4 D (.lst (acc ++ [y]))) else Nx H3) := by
  refine ⟨fun i m H => m = z.cps.size - i ∧ i ≤ z.cps.size ∧ Pv i H, ⟨z.cps.size, by simp, Nat.zero_le _, h0⟩, ?_⟩
  rintro i m H ⟨rfl, hi, p⟩
  by_cases hlt : i < z.cps.size
  · refine .inr ⟨hlt, Pv (i + 1), fun H' p' => ⟨z.cps.size - (i + 1), by omega, rfl, hlt, p'⟩, fun x H' y => ?_⟩
    obtain ⟨e, c, hc, ex⟩ := y
    subst e ex
    exact hs i c _ (by rw [Array.getElem?_toList]; exact hc) p
  · have e : i = z.cps.size := by omega
    subst e
    exact .inl ⟨Nat.le_refl _, hd H p⟩
theorem s_lc {wi : TI} {g : TG} {tt : TT} {te : TE} {vs : List Nat} {σ : L2.St} {H : Hp} {Q : VK} (h : wi σ H fun J H1 => ∀ D, H1 D = none → ∃ W : Nat → Nat → Hp → Prop, (∃ m, W 0 m (upd H1 D (.lst []))) ∧ ∀ i m H, W i m H →
  (J.stop i H ∧ Q (.ref D) H) ∨ (J.go i H ∧ ∃ Nx : Hp → Prop, (∀ H', Nx H' → ∃ m', m' < m ∧ W (i + 1) m' H') ∧ ∀ x H', J.yld i H x H' → g x (wipe σ vs) H' fun σ2 H2 => wipe σ2 vs = wipe σ vs ∧ tt σ2 H2 fun b H3 =>
    if b = true then te σ2 H3 fun y H4 => ∃ acc, H4 D = some (.lst acc) ∧ acc.length < sizeLine ∧ Nx (upd H4 D (.lst (acc ++ [y]))) else Nx H3)) : tLc wi g tt te vs σ H Q := h
theorem s_yes {σ : L2.St} {H : Hp} {R : Bool → Hp → Prop} (h : R true H) : tYes σ H R := h
theorem same_mut {H H' : Hp} {p : Addr} {o : HO} (e : Same H H') (h : H p = none) : Same H (upd H' p o) := fun a u ha => by
  rw [upd_ne (ne_of_none ha h)]
  exact e a u ha
theorem take_map_more {α β : Type} {f : α → β} {l : List α} {j : Nat} {x : α} (h : l[j]? = some x) : (l.take (j + 1)).map f = (l.take j).map f ++ [f x] := by
  rw [List.take_add_one, h, List.map_append]
  rfl
theorem s_iStr {te : TE} {σ : L2.St} {H : Hp} {R : It → Hp → Prop} (h : te σ H fun v H1 => ∃ x, v = .str x ∧ R (Its x) H1) : iStr te σ H R := h
theorem s_M0 {to : TE} {r : V → List V → Hp → VK → Prop} {σ : L2.St} {H : Hp} {Q : VK} (h : to σ H fun x H1 => (∃ a, x = .str a) ∧ r x [] H1 Q) : tM0 r to σ H Q := h
/-! ### x == y, x an instance of an own class with __eq__ -/
def rEqOwn (K : PySem.W.Frag) (C : Addr) (sp : Sp) (E : XK) : R2 := fun x y H Q => ∃ a dx fs t, x = .ref a ∧ H a = some (.ins C dx fs) ∧ TyX K H y t ∧ PySem.W.notFirst K C t = true ∧ sp [x, y] H (fun v H' => ∃ b, v = .bl b ∧ Q v H') E
theorem op_eqOwn {CX : CXT} {n : Nat} {C f : Addr} {fd : FuncData} {ps : List Str} {sp : Sp} {E : XK} (F : FnOk X.prog X.w X.K X.mg X.base CX n f fd ps sp) (hr : Room n X.A)
    (hs : PySem.W.findIn X.K (.ref C) "__eq__" = some (some (.ref f))) (hf : PySem.W.isFn X.K (.ref f) = true) (hb : Binds X.K fd ps []) (hx : Passes CX X E) : OpR X (compareOp .Eq) (rEqOwn X.K C sp E) := by
  intro pins s σ H x y v u Q I rx ry hq
  obtain ⟨a, dx, fs, t, rfl, ha, ty, hn, hsp⟩ := hq
  cases rx
  obtain ⟨mA, J, _⟩ := ins_get I.hok ha
  obtain ⟨od, J, _⟩ := J.look
  obtain ⟨m, hF⟩ := I.fr
  obtain ⟨P, Z, p, _⟩ := kit_of I ry ty
  show wpAny (model X.prog X.w) X.A (richCompare .Eq (.ref a) u) (EP X pins σ Q) X.xe s
  refine PySem.W.cmp_K (op := .Eq) (tb := t) hr.units0 hF I.ok.mod.kin J (Z.ty _ _ I.kIn p) hn hs hf ?_
  have hl := F.len _ _ _ _ hsp
  have r2 : Vals [V.ref a, y] [Value.ref a, u] := .cons rfl (.cons ry .nil)
  refine wpAny_call (codeAny_mono (F.run X.A X.stack s H ⟨[.ref a, u], []⟩ [.ref a, u] [.ref a, y] _ E hr I.env0 (by
    have := hb s [.ref a, u] I.kIn (by simpa using hl)
    simpa using this) r2 hsp) fun r s' hq => ?_)
  cases r with
  | error e => exact hx pins σ H s e s' I hq
  | ok fl =>
    cases fl with
    | ret w =>
      obtain ⟨z, H', I', rz, b, ez, q⟩ := I.after hq
      subst ez
      cases rz
      exact ⟨.bl b, H', I', rfl, q⟩
    | next => exact False.elim hq
    | brk => exact False.elim hq
    | cont => exact False.elim hq
end Bt
namespace Bt
open PySem PyProof.Rows
/-! ### letters -/
abbrev sg (c : Nat) : Str := ⟨#[c]⟩
def alphaS : Str := "abcdefghijklmnopqrstuvwxyz"
def alpha : List Nat := (List.range 26).map (97 + ·)
theorem alphaS_cps : alphaS.cps.toList = alpha := by decide +kernel
theorem alpha_len : alpha.length = 26 := by decide
theorem mem_alpha {c : Nat} : c ∈ alpha ↔ 97 ≤ c ∧ c ≤ 122 := by
  unfold alpha
  rw [List.mem_map]
  constructor
  · rintro ⟨a, h, rfl⟩
    have := List.mem_range.mp h
    omega
  · rintro ⟨h1, h2⟩
    exact ⟨c - 97, List.mem_range.mpr (by omega), by omega⟩
theorem alpha_nd : alpha.Nodup := by decide
/-- the letters of a form -/
def Letters (z : Str) : Prop := z.cps.toList.Perm alpha
instance {z : Str} : Decidable (Letters z) := inferInstanceAs (Decidable (List.Perm _ _))
theorem rising_pw : ∀ (cs : List Nat) (p : Nat), risingS (sg p) (cs.map sg) = true → (p :: cs).Pairwise (· ≤ ·)
  | [], p, _ => List.pairwise_singleton _ _
  | c :: cs, p, h => by
    have h' : (!Spec.ltCps [c] [p] && risingS (sg c) (cs.map sg)) = true := h
    obtain ⟨h1, h2⟩ := Bool.and_eq_true_iff.mp h'
    have ih := rising_pw cs c h2
    have hpc : p ≤ c := by
      rw [ltCps_eq] at h1
      rcases Nat.lt_or_ge c p with k | k
      · have : ([c] : List Nat) < [p] := List.Lex.rel k
        simp [this] at h1
      · exact k
    refine List.pairwise_cons.mpr ⟨fun a ha => ?_, ih⟩
    rcases List.mem_cons.mp ha with e | ha
    · rw [e]; exact hpc
    · exact Nat.le_trans hpc ((List.pairwise_cons.mp ih).1 a ha)
theorem sorted_pw (cs : List Nat) (h : sortedS (cs.map sg) = true) : cs.Pairwise (· ≤ ·) := by
  cases cs with
  | nil => exact List.Pairwise.nil
  | cons c cs => exact rising_pw cs c h
theorem sg_inj : Function.Injective sg := fun a b h => by
  have : (#[a] : Array Nat) = #[b] := congrArg Str.cps h
  simpa using this
theorem signs_eq (z : Str) : signs z = z.cps.toList.map sg := rfl
theorem perm_signs {z : Str} {ys : List Str} (h : ys.Perm (signs z)) : ∃ cs : List Nat, ys = cs.map sg ∧ cs.Perm z.cps.toList := by
  let f : Str → Nat := fun s => s.cps.toList.headD 0
  have fs : ∀ c, f (sg c) = c := fun c => rfl
  refine ⟨ys.map f, ?_, ?_⟩
  · rw [List.map_map]
    have : ∀ y ∈ ys, (sg ∘ f) y = y := fun y hy => by
      have := h.mem_iff.mp hy
      rw [signs_eq, List.mem_map] at this
      obtain ⟨c, _, rfl⟩ := this
      rfl
    exact ((List.map_congr_left this).trans (List.map_id _)).symm
  · have := h.map f
    rw [signs_eq, List.map_map] at this
    have e : (z.cps.toList).map (f ∘ sg) = z.cps.toList := (List.map_congr_left (fun c _ => fs c)).trans (List.map_id _)
    rw [e] at this
    exact this
theorem eqvAll_strs : ∀ (xs ys : List Str), PyData.eqvAll (xs.map .str) (ys.map .str) = decide (xs = ys)
  | [], [] => by simp [PyData.eqvAll]
  | [], y :: ys => by simp [PyData.eqvAll]
  | x :: xs, [] => by simp [PyData.eqvAll]
  | x :: xs, y :: ys => by
    have ih := eqvAll_strs xs ys
    simp only [List.map_cons, PyData.eqvAll, PyData.eqv, ih]
    by_cases h1 : x = y <;> by_cases h2 : xs = ys <;> simp [h1, h2]
theorem sorted_eq_iff {z w : Str} {ys ws : List Str} (h1 : ys.Perm (signs z)) (s1 : sortedS ys = true) (h2 : ws.Perm (signs w)) (s2 : sortedS ws = true) :
    PyData.eqv (.list (ys.map .str)) (.list (ws.map .str)) = decide (z.cps.toList.Perm w.cps.toList) := by
  obtain ⟨cs, rfl, p1⟩ := perm_signs h1
  obtain ⟨ds, rfl, p2⟩ := perm_signs h2
  have q1 := sorted_pw cs s1
  have q2 := sorted_pw ds s2
  show PyData.eqvAll _ _ = _
  rw [eqvAll_strs]
  apply decide_eq_decide.mpr
  constructor
  · intro e
    have e2 : cs = ds := by
      have := congrArg (List.map fun s : Str => s.cps.toList.headD 0) e
      simpa [List.map_map, Function.comp_def] using this
    subst e2
    exact p1.symm.trans p2
  · intro e
    have p : cs.Perm ds := (p1.trans e).trans p2.symm
    rw [p.eq_of_pairwise (fun a b _ _ h1 h2 => Nat.le_antisymm h1 h2) q1 q2]
end Bt
namespace Bt
open PySem PySem.Spec PyProof.Rows L2
/-! ### a def as it stands behind the top, by its name alone -/
structure Df (K : PySem.W.Frag) (mg : Str → Option Value) (x : Str) (st : Stmt) (ps : List Str) : Prop where
  ex : ∃ (f : Addr) (fd : FuncData), Fun K x x st f fd ∧ mg x = some (.ref f) ∧ Binds K fd ps []
/-- a def that raises nothing, with its promise -/
structure Cal (P : Program) (w : World) (K : PySem.W.Frag) (mg : Str → Option Value) (base : Heap) (k : Nat) (x : Str) (sp : Sp) : Prop where
  ex : ∃ (f : Addr) (fd : FuncData) (ps : List Str), FnOk P w K mg base CX0 k f fd ps sp ∧ mg x = some (.ref f) ∧ PySem.W.keepIn K (.ref f) = true ∧ Binds K fd ps []
/-- one that may raise -/
structure CalX (P : Program) (w : World) (K : PySem.W.Frag) (mg : Str → Option Value) (base : Heap) (k : Nat) (x : Str) (sp : Sp) : Prop where
  ex : ∃ (f : Addr) (fd : FuncData) (ps : List Str), FnOk P w K mg base (L2.CX P w) k f fd ps sp ∧ mg x = some (.ref f) ∧ PySem.W.keepIn K (.ref f) = true ∧ Binds K fd ps []
section
variable {P : Program} {w : World} {K : PySem.W.Frag} {mg : Str → Option Value} {base : Heap} {x : Str} {st : Stmt} {N ps : List Str} {k : Nat} {sp : Sp}
theorem Df.cal (D : Df K mg x st ps) (S : FnScope N ps (defScope st)) (len : ∀ vs H Q E, sp vs H Q E → vs.length = ps.length)
    (hbody : ∀ (f : Addr) (cdv : Value) (A : Around) (outer : List Env) (s : Shared) (H : Hp) (vs : List V) (Q : VK) (E : XK), Room k (A.deeper (envOfC x (defScope st) s.heap.objs.size f cdv)) → sp vs H Q E →
      ∃ t, PSs (cxOf CX0 P w K mg base N x (defScope st) f cdv A outer s H E).nox (defBody st) t ∧ t { nx := fun _ H' => Q .non H', rt := Q } (start N vs) H) : Cal P w K mg base (k + 1) x sp := by
  obtain ⟨f, fd, F, g, b⟩ := D.ex
  exact ⟨⟨f, fd, ps, F.ok S len (hbody f), g, F.kp, b⟩⟩
theorem Df.calX (D : Df K mg x st ps) (S : FnScope N ps (defScope st)) (len : ∀ vs H Q E, sp vs H Q E → vs.length = ps.length)
    (hbody : ∀ (f : Addr) (cdv : Value) (A : Around) (outer : List Env) (s : Shared) (H : Hp) (vs : List V) (Q : VK) (E : XK), Room k (A.deeper (envOfC x (defScope st) s.heap.objs.size f cdv)) → sp vs H Q E →
      ∃ t, PSs (cxOf (L2.CX P w) P w K mg base N x (defScope st) f cdv A outer s H E) (defBody st) t ∧ t { nx := fun _ H' => Q .non H', rt := Q } (start N vs) H) : CalX P w K mg base (k + 1) x sp := by
  obtain ⟨f, fd, F, g, b⟩ := D.ex
  exact ⟨⟨f, fd, ps, F.okX S len (hbody f), g, F.kp, b⟩⟩
end
section
variable {X : Cx} {k j : Nat} {x : Str} {sp : Sp} {p pos : Pos} {e : Expr} {es : List Expr} {t : TA}
theorem pe_c (c : Cal X.prog X.w X.K X.mg X.base k x sp) (hr : Room j X.A) (hk : k ≤ j) (hg : Gl X x) (ha : PA X (e :: es) t)
    (hdb : (x == ("__debug__" : Str)) = false := by decide) (he : starEach (e :: es) X.env = (false, eval e X.env) :: starEach es X.env := by rfl) (hpl : (backTo pos (starEach es X.env)).any (·.1) = false := by rfl) :
    PE X (.Call (.Name x p) (e :: es) [] pos) (tCall sp [] E0 t) := by
  obtain ⟨f, fd, ps, F, hm, kp, b⟩ := c.ex
  exact pe_call F (hr.mono hk) hg hm kp b .nil pass0 ha hdb he hpl
/-- a def that may raise, called where it does not -/
theorem pe_cx0 (c : CalX X.prog X.w X.K X.mg X.base k x sp) (hr : Room j X.A) (hk : k ≤ j) (hg : Gl X x) (ha : PA X (e :: es) t)
    (hdb : (x == ("__debug__" : Str)) = false := by decide) (he : starEach (e :: es) X.env = (false, eval e X.env) :: starEach es X.env := by rfl) (hpl : (backTo pos (starEach es X.env)).any (·.1) = false := by rfl) :
    PE X (.Call (.Name x p) (e :: es) [] pos) (tCall sp [] E0 t) := by
  obtain ⟨f, fd, ps, F, hm, kp, b⟩ := c.ex
  exact pe_call F (hr.mono hk) hg hm kp b .nil passL ha hdb he hpl
end
/-! ### kinds of values -/
/-- a value of a built-in kind, with its type's name -/
def Ty (K : PySem.W.Frag) (H : Hp) (x : V) (T : String) : Prop := TyX K H x (.type T)
theorem kit_is {K : PySem.W.Frag} {a b : String} (h : (a == b) = true) : PySem.W.kitOne K (.type a) (.type b) = some true := kit_ty (by
  have e : a = b := by simpa using h
  subst e
  unfold kitB
  rw [if_pos (by simp)])
/-- the kinds that data have, and what isinstance says of them -/
inductive Kd : String → Prop where
  | non : Kd "NoneType" | bl : Kd "bool" | int : Kd "int" | str : Kd "str" | lst : Kd "list" | tup : Kd "tuple" | dct : Kd "dict"
def subKd (a b : String) : Bool := a == b || (a == "bool" && b == "int")
theorem kit_kd {K : PySem.W.Frag} {a b : String} (ha : Kd a) (hb : Kd b) : PySem.W.kitOne K (.type a) (.type b) = some (subKd a b) := by
  cases ha <;> cases hb <;> exact kit_ty (by decide +kernel)
/-- a plain value: data at its top -/
def Pl (K : PySem.W.Frag) (H : Hp) (x : V) (T : String) : Prop := TyX K H x (.type T) ∧ Kd T
theorem q_isi {K : PySem.W.Frag} {H : Hp} {Q : VK} {x : V} {a b : String} (h : Pl K H x a) (hb : Kd b) (q : Q (.bl (subKd a b)) H) : rIsi K [x, .ty b] H Q :=
  ⟨x, .ty b, .type a, .type b, subKd a b, rfl, .ty b, h.1, kit_kd h.2 hb, q⟩
theorem Pl.non {K : PySem.W.Frag} {H : Hp} : Pl K H .non "NoneType" := ⟨.base .non, .non⟩
theorem Pl.bl {K : PySem.W.Frag} {H : Hp} {b : Bool} : Pl K H (.bl b) "bool" := ⟨.base (.bl b), .bl⟩
theorem Pl.int {K : PySem.W.Frag} {H : Hp} {i : Int} : Pl K H (.int i) "int" := ⟨.base (.int i), .int⟩
theorem Pl.str {K : PySem.W.Frag} {H : Hp} {z : Str} : Pl K H (.str z) "str" := ⟨.base (.str z), .str⟩
theorem Pl.lst {K : PySem.W.Frag} {H : Hp} {a : Addr} {xs : List V} (h : H a = some (.lst xs)) : Pl K H (.ref a) "list" := ⟨.base (.lst h), .lst⟩
theorem Pl.tup {K : PySem.W.Frag} {H : Hp} {a : Addr} {xs : List V} (h : H a = some (.tup xs)) : Pl K H (.ref a) "tuple" := ⟨.base (.tup h), .tup⟩
theorem TyX.mono {K : PySem.W.Frag} {H H' : Hp} {x : V} {t : Value} (S : Same H H') (h : TyX K H x t) : TyX K H' x t := by
  cases h with
  | base b =>
    cases b with
    | non => exact .base .non
    | bl z => exact .base (.bl z)
    | int z => exact .base (.int z)
    | str z => exact .base (.str z)
    | flt z => exact .base (.flt z)
    | lst e => exact .base (.lst (S _ _ e))
    | frz e => exact .base (.frz (S _ _ e))
    | tup e => exact .base (.tup (S _ _ e))
    | dK e => exact .base (.dK (S _ _ e))
    | dT e => exact .base (.dT (S _ _ e))
    | ins e cl ha hn htk hm => exact .base (.ins (S _ _ e) cl ha hn htk hm)
  | byt b => exact .byt b
  | set e => exact .set (S _ _ e)
  | kList e c => exact .kList e c
  | kTuple e c => exact .kTuple e c
  | kDict e c => exact .kDict e c
  | fTuple e => exact .fTuple (S _ _ e)
  | fDict e => exact .fDict (S _ _ e)
theorem Pl.mono {K : PySem.W.Frag} {H H' : Hp} {x : V} {T : String} (S : Same H H') (h : Pl K H x T) : Pl K H' x T := ⟨TyX.mono S h.1, h.2⟩
theorem ty_ne {a b : String} {p : Prop} (e : Value.type a = Value.type b) (h : a ≠ b) : p := absurd (Value.type.inj e) h
theorem Pl.is_str {K : PySem.W.Frag} {H : Hp} {z : Str} {T : String} (h : Pl K H (.str z) T) : T = "str" := by
  have key : ∀ t, TyX K H (.str z) t → t = .type "str" := fun t h => by
    cases h with
    | base b => cases b; rfl
  exact Value.type.inj (key _ h.1)
theorem Pl.is_int {K : PySem.W.Frag} {H : Hp} {z : Int} {T : String} (h : Pl K H (.int z) T) : T = "int" := by
  have key : ∀ t, TyX K H (.int z) t → t = .type "int" := fun t h => by
    cases h with
    | base b => cases b; rfl
  exact Value.type.inj (key _ h.1)
theorem Pl.is_bl {K : PySem.W.Frag} {H : Hp} {z : Bool} {T : String} (h : Pl K H (.bl z) T) : T = "bool" := by
  have key : ∀ t, TyX K H (.bl z) t → t = .type "bool" := fun t h => by
    cases h with
    | base b => cases b; rfl
  exact Value.type.inj (key _ h.1)
theorem Pl.of_str {K : PySem.W.Frag} {H : Hp} {x : V} {T : String} (h : Pl K H x T) (e : T = "str") : ∃ z, x = .str z := by
  have key : ∀ t, TyX K H x t → t = .type "str" → ∃ z, x = .str z := fun t h e => by
    cases h with
    | base b =>
      cases b with
      | str z => exact ⟨z, rfl⟩
      | ins _ _ _ _ _ _ => cases e
      | _ => exact ty_ne e (by decide)
    | _ => exact ty_ne e (by decide)
  exact key _ h.1 (by rw [e])
theorem Pl.of_int {K : PySem.W.Frag} {H : Hp} {x : V} {T : String} (h : Pl K H x T) (e : T = "int") : ∃ z, x = .int z := by
  have key : ∀ t, TyX K H x t → t = .type "int" → ∃ z, x = .int z := fun t h e => by
    cases h with
    | base b =>
      cases b with
      | int z => exact ⟨z, rfl⟩
      | ins _ _ _ _ _ _ => cases e
      | _ => exact ty_ne e (by decide)
    | _ => exact ty_ne e (by decide)
  exact key _ h.1 (by rw [e])
/-- the object at a stands where the abstract heap has grown -/
theorem q_sortTx {H : Hp} {Q : VK} {z : Str} (h : z.length < 64) (q : ∀ (ys : List Str) (p : Addr) H', H p = none → Same H H' → H' p = some (.lst (ys.map V.str)) → ys.Perm (signs z) → sortedS ys = true → Q (.ref p) H') : rSortTx [.str z] H Q :=
  ⟨z, rfl, h, fun ys p h1 h2 n => q ys p _ n (Same.new n) upd_same h1 h2⟩
theorem dp_strs {K : PySem.W.Frag} {H : Hp} : ∀ ys : List Str, DpAll K H (ys.map V.str) (ys.map PyData.str)
  | [] => .nil
  | y :: ys => .cons (.str y) (dp_strs ys)
theorem dp_lst_strs {K : PySem.W.Frag} {H : Hp} {p : Addr} {ys : List Str} (h : H p = some (.lst (ys.map V.str))) : Dp K H (.ref p) (.list (ys.map PyData.str)) := .lst (SqL.of h) (dp_strs ys)
def Asc (z : Str) : Prop := ∀ c ∈ z.cps.toList, c < 128
theorem Asc.ok {z : Str} (h : Asc z) : PyData.strOk z = true := by
  unfold PyData.strOk
  rw [← Array.all_toList, List.all_eq_true]
  intro c hc
  have := h c hc
  exact decide_eq_true (by omega)
theorem canLay_strs : ∀ (ys : List Str), (∀ y ∈ ys, Asc y) → PyData.canLayAll0 (ys.map PyData.str) = true
  | [], _ => rfl
  | y :: ys, h => by
    simp only [List.map_cons, PyData.canLayAll0, PyData.canLay0, Bool.and_eq_true]
    exact ⟨(h y List.mem_cons_self).ok, canLay_strs ys fun z hz => h z (List.mem_cons_of_mem _ hz)⟩
theorem depth_strs : ∀ (ys : List Str), PyData.depthAll (ys.map PyData.str) = 0
  | [] => rfl
  | y :: ys => by simp only [List.map_cons, PyData.depthAll, PyData.depth, depth_strs ys]; rfl
theorem shaped_strs {ys : List Str} (h : ∀ y ∈ ys, Asc y) : SeqAt.shaped (.list (ys.map PyData.str)) = true := by
  unfold SeqAt.shaped
  rw [Bool.and_eq_true]
  refine ⟨?_, ?_⟩
  · simp only [PyData.canLay0]; exact canLay_strs ys h
  · simp only [PyData.depth, depth_strs]; decide
theorem asc_signs {z : Str} (h : Asc z) : ∀ y ∈ signs z, Asc y := fun y hy c hc => by
  unfold signs at hy
  obtain ⟨d, hd, rfl⟩ := List.mem_map.mp hy
  have : c = d := by simpa using hc
  subst this
  exact h _ hd
theorem shaped_sorted {z : Str} {ys : List Str} (h : Asc z) (p : ys.Perm (signs z)) : SeqAt.shaped (.list (ys.map PyData.str)) = true := shaped_strs fun y hy => asc_signs h y (p.mem_iff.mp hy)
theorem asc_alpha : Asc alphaS := fun c hc => by
  rw [alphaS_cps] at hc
  have := (mem_alpha.mp hc).2
  omega
end Bt
namespace Bt
open PySem PySem.Spec PyProof.Rows L2
theorem SqT_mono {K : PySem.W.Frag} {H H' : Hp} {a : Addr} {xs : List V} (e : Same H H') (h : SqT K H a xs) : SqT K H' a xs := by
  rcases h with (h | ⟨o, h⟩) | h
  · exact .inl (.inl (e _ _ h))
  · exact .inl (.inr ⟨o, e _ _ h⟩)
  · exact .inr h
mutual
theorem Dp.mono {K : PySem.W.Frag} {H H' : Hp} (S : Same H H') : ∀ {v : V} {d : PyData}, Dp K H v d → Dp K H' v d
  | _, _, .non => .non
  | _, _, .bl b => .bl b
  | _, _, .int i => .int i
  | _, _, .str x => .str x
  | _, _, .lst h r => .lst (S.seq h) (DpAll.mono S r)
  | _, _, .tup h r => .tup (SqT_mono S h) (DpAll.mono S r)
theorem DpAll.mono {K : PySem.W.Frag} {H H' : Hp} (S : Same H H') : ∀ {vs : List V} {ds : List PyData}, DpAll K H vs ds → DpAll K H' vs ds
  | _, _, .nil => .nil
  | _, _, .cons h r => .cons (Dp.mono S h) (DpAll.mono S r)
end
/-! ### an own error with one field, stored by its __init__ -/
def spExc (C : Addr) (fld : Str) : Sp := fun vs H Q _ => ∃ a v, vs = [.ref a, v] ∧ H a = some (exo a C none) ∧ ∀ dx, H dx = none → dx ≠ a → Q .non (upd (upd H dx (exd dx [(fld, v)])) a (exo a C (some dx)))
structure ExcF (K : PySem.W.Frag) (mg : Str → Option Value) (x fld : Str) (C : Addr) : Prop where
  g : mg x = some (.ref C)
  T : OexC K C
  no : PySem.W.findIn K (.ref C) fld = some none
  xf : XfC K C
  te : PySem.W.exmOne K (.ref C) (.ref C) = some true
  init : ∃ (f : Addr) (fd : FuncData) (qual : Str) (params : Arguments) (scope : Scope) (q1 q2 q3 q4 : Pos),
    PySem.W.findIn K (.ref C) "__init__" = some (some (.ref f)) ∧ PySem.W.typeIn K (.ref f) = some (.type "function") ∧
    FunD K "__init__" qual params [.Assign [.Attribute (.Name "self" q1) fld q2] (.Name fld q3) q4] scope [.non] [] f fd ∧ FnScope ["self", fld] ["self", fld] scope ∧ Binds K fd ["self", fld] []
section
variable {P : Program} {w : World} {K : PySem.W.Frag} {mg : Str → Option Value} {base : Heap} {x fld : Str} {C : Addr}
theorem exc_init {f : Addr} {fd : FuncData} {qual : Str} {params : Arguments} {scope : Scope} {q1 q2 q3 q4 : Pos} (T : OexC K C) (no : PySem.W.findIn K (.ref C) fld = some none)
    (F : FunD K "__init__" qual params [.Assign [.Attribute (.Name "self" q1) fld q2] (.Name fld q3) q4] scope [.non] [] f fd) (S : FnScope ["self", fld] ["self", fld] scope) (hd : (fld == ("__debug__" : Str)) = false) (hcd : (fld == ("__classdict__" : Str)) = false) :
    FnOk P w K mg base CX0 1 f fd ["self", fld] (spExc C fld) := by
  refine F.ok S (fun vs H Q E h => ?_) (fun cdv A outer s H vs Q E hr h => ?_)
  · obtain ⟨a, v, rfl, _⟩ := h
    rfl
  · obtain ⟨a, v, rfl, ha, k⟩ := h
    have v1 : Vis scope "self" := (S.par "self" List.mem_cons_self).elim .inl fun z => .inr (.inl z)
    have v2 : Vis scope fld := (S.par fld (List.mem_cons_of_mem _ List.mem_cons_self)).elim .inl fun z => .inr (.inl z)
    refine ⟨_, pss_one (ps_ost (pe_var (i := 0) rfl v1 (by decide) (by decide)) (pe_var (i := 1) rfl v2 hd hcd) (by rfl)), ?_⟩
    exact ⟨v, rfl, .ref a, rfl, a, C, rfl, T, no, .inl ⟨ha, fun dx n ne => k dx n ne⟩⟩
end
section
variable {X : Cx} {x fld : Str} {C : Addr} {k : Nat} {W : WX} {e : Expr} {te : TE} {p pos pos2 : Pos}
/-- what is wished may be weakened -/
def tMono (te : TE) : TE := fun σ H Q => ∃ Q' : VK, te σ H Q' ∧ ∀ v H1, Q' v H1 → Q v H1
theorem PE.mono (he : PE X e te) : PE X e (tMono te) := ⟨fun pins s σ H Q I h => by
  obtain ⟨Q', h1, h2⟩ := h
  refine thn (he.run pins s σ H Q' I h1) fun u s' z => ?_
  obtain ⟨v, H', I', r, q⟩ := z
  exact ⟨v, H', I', r, h2 v H' q⟩⟩
/-- raise C(e) -/
def tRaise1 (C : Addr) (fld : Str) (W : WX) (te : TE) : TS := fun _ σ H => te σ H fun v H1 => ∀ d H3, H1 d = none → Same H1 H3 → H3 d = some (.xd [(fld, v)]) → W (.ref C) (some d) σ H3
theorem ps_raise1 (hc : X.calm = true) (B : ExcF X.K X.mg x fld C) (hr : Room k X.A) (hk : 2 ≤ k) (tk : Takes X W) (he : PE X e te) (hg : Gl X x := by rfl) (hd : (fld == ("__debug__" : Str)) = false := by decide) (hcd : (fld == ("__classdict__" : Str)) = false := by decide)
    (hdb : (x == ("__debug__" : Str)) = false := by decide) (h1 : starEach (e :: []) X.env = (false, eval e X.env) :: starEach [] X.env := by rfl) (h2 : (backTo pos (starEach [] X.env)).any (·.1) = false := by rfl) :
    PS X (.Raise (some (.Call (.Name x p) [e] [] pos)) none pos2) (tRaise1 C fld W te) := by
  obtain ⟨f, fd, qual, params, scope, q1, q2, q3, q4, i1, i2, F, S, b⟩ := B.init
  have m := pmk_oex (sp := spExc C fld) (dvs := []) (p := p) (pos := pos) B.T i1 i2 (exc_init B.T B.no F S hd hcd) (hr.mono hk) b .nil pass0 hg B.g (pa_cons (PE.mono he) pa_nil h1) hdb h1 h2
  have q := ps_raise (pos := pos2) hc tk m
  refine ⟨fun pins s σ H D I h => q.run pins s σ H D I ?_⟩
  have key : ∀ v H1, (∀ d H3, H1 d = none → Same H1 H3 → H3 d = some (.xd [(fld, v)]) → W (.ref C) (some d) σ H3) →
      ([v].length ≤ 1000 ∧ ∀ a, H1 a = none → spExc C fld (.ref a :: ([v] ++ [])) (upd H1 a (exo a C none))
        (fun v H2 => v = .non ∧ ∃ (d : Addr) (fs : List (Str × V)), H2 a = some (exo a C (some d)) ∧ H2 d = some (exd d fs) ∧ H1 d = none ∧ W (.ref C) (some d) σ (upd (del H2 a) d (.xd fs))) (fun _ _ _ => False)) := fun v H1 z => by
    refine ⟨by show 1 ≤ 1000; decide, fun a ha => ⟨a, v, rfl, upd_same, fun dx n ne => ⟨rfl, dx, _, upd_same, by rw [upd_ne ne, upd_same], ?_, ?_⟩⟩⟩
    · rw [upd_ne ne] at n; exact n
    · have n1 : H1 dx = none := by rw [upd_ne ne] at n; exact n
      refine z dx _ n1 (fun b o e => ?_) upd_same
      have nb : b ≠ dx := ne_of_none e n1
      have na : b ≠ a := ne_of_none e ha
      rw [upd_ne nb, del_ne na, upd_ne na, upd_ne nb, upd_ne na]
      exact e
  exact ⟨_, h, fun v H1 z => key v H1 z⟩
theorem s_raise1 {C : Addr} {fld : Str} {W : WX} {te : TE} {D : Ends} {σ : L2.St} {H : Hp} (h : te σ H fun v H1 => ∀ d H3, H1 d = none → Same H1 H3 → H3 d = some (.xd [(fld, v)]) → W (.ref C) (some d) σ H3) : tRaise1 C fld W te D σ H := h
end
end Bt
namespace Bt
open PySem PySem.Spec PyProof.Rows L2
theorem app_cps (a b : Str) : (a ++ b).cps.toList = a.cps.toList ++ b.cps.toList := by
  show (a.cps ++ b.cps).toList = _
  simp
theorem len_cps (z : Str) : z.length = z.cps.toList.length := (Array.length_toList).symm
theorem app_len (a b : Str) : (a ++ b).length = a.length + b.length := by
  rw [len_cps, len_cps, len_cps, app_cps, List.length_append]
theorem cut_cps (z : Str) (lo hi : Option Int) : (cutS z lo hi).cps.toList = (z.cps.toList.drop (HT.sIx z.length 0 lo)).take (HT.sIx z.length z.length hi - HT.sIx z.length 0 lo) := rfl
theorem cut_from {z : Str} {i : Int} (h0 : 0 ≤ i) : (cutS z (some i) none).cps.toList = z.cps.toList.drop i.toNat := by
  obtain ⟨k, rfl⟩ : ∃ k : Nat, i = k := ⟨i.toNat, by omega⟩
  rw [cut_cps, HT.sIx_nat, HT.sIx_none, Int.toNat_natCast, len_cps]
  rcases Nat.le_total k z.cps.toList.length with h | h
  · rw [Nat.min_eq_left h, List.take_of_length_le (by rw [List.length_drop]; omega)]
  · rw [Nat.min_eq_right h, List.drop_of_length_le (Nat.le_refl _), List.drop_of_length_le h, List.take_nil]
theorem cut_to {z : Str} {j : Int} (h0 : 0 ≤ j) : (cutS z none (some j)).cps.toList = z.cps.toList.take j.toNat := by
  obtain ⟨k, rfl⟩ : ∃ k : Nat, j = k := ⟨j.toNat, by omega⟩
  rw [cut_cps, HT.sIx_nat, HT.sIx_none, Int.toNat_natCast, len_cps, List.drop_zero, Nat.sub_zero]
  rcases Nat.le_total k z.cps.toList.length with h | h
  · rw [Nat.min_eq_left h]
  · rw [Nat.min_eq_right h, List.take_of_length_le (Nat.le_refl _), List.take_of_length_le h]
theorem cut_mid {z : Str} {i j : Int} (h0 : 0 ≤ i) (h1 : 0 ≤ j) (h2 : i ≤ z.length) (h3 : j ≤ z.length) : (cutS z (some i) (some j)).cps.toList = (z.cps.toList.drop i.toNat).take (j.toNat - i.toNat) := by
  obtain ⟨k, rfl⟩ : ∃ k : Nat, i = k := ⟨i.toNat, by omega⟩
  obtain ⟨m, rfl⟩ : ∃ k : Nat, j = k := ⟨j.toNat, by omega⟩
  rw [cut_cps, HT.sIx_nat, HT.sIx_nat, Int.toNat_natCast, Int.toNat_natCast, Nat.min_eq_left (by omega), Nat.min_eq_left (by omega)]
theorem Letters.len {z : Str} (h : Letters z) : z.length = 26 := by rw [len_cps, h.length_eq, alpha_len]
theorem Letters.asc {z : Str} (h : Letters z) : Asc z := fun c hc => by
  have := (mem_alpha.mp (h.mem_iff.mp hc)).2
  omega
theorem letters_alpha : Letters alphaS := by unfold Letters; rw [alphaS_cps]
theorem letters_rev : Letters (revT alphaS) := by decide +kernel
theorem perm_rot {l : List Nat} (k : Nat) : (l.drop k ++ l.take k).Perm l := by
  refine List.perm_append_comm.trans ?_
  rw [List.take_append_drop]
theorem letters_rot {z a b : Str} {k : Nat} (h : Letters z) (ha : a.cps.toList = z.cps.toList.drop k) (hb : b.cps.toList = z.cps.toList.take k) : Letters (a ++ b) := by
  unfold Letters
  rw [app_cps, ha, hb]
  exact (perm_rot k).trans h
theorem perm_pull {l : List Nat} {t a : Nat} {c : Nat} (hta : t ≤ a) (hc : l[a]? = some c) : (l.take t ++ [c] ++ ((l.drop t).take (a - t) ++ l.drop (a + 1))).Perm l := by
  obtain ⟨ha, ec⟩ := List.getElem?_eq_some_iff.mp hc
  have e1 : l = l.take t ++ ((l.drop t).take (a - t) ++ (c :: l.drop (a + 1))) := by
    have h1 : l.drop t = (l.drop t).take (a - t) ++ (l.drop t).drop (a - t) := (List.take_append_drop _ _).symm
    have h2 : (l.drop t).drop (a - t) = l.drop a := by rw [List.drop_drop]; congr 1; omega
    have h3 : l.drop a = c :: l.drop (a + 1) := by rw [List.drop_eq_getElem_cons ha, ec]
    rw [← h3, ← h2, ← h1, List.take_append_drop]
  have e2 : (l.take t ++ [c] ++ ((l.drop t).take (a - t) ++ l.drop (a + 1))).Perm (l.take t ++ ((l.drop t).take (a - t) ++ (c :: l.drop (a + 1)))) := by
    rw [List.append_assoc]
    refine List.Perm.append_left _ ?_
    show ([c] ++ ((l.drop t).take (a - t) ++ l.drop (a + 1))).Perm _
    exact (List.perm_middle (a := c) (l₁ := (l.drop t).take (a - t)) (l₂ := l.drop (a + 1))).symm
  rw [← e1] at e2
  exact e2
theorem letters_pull {z x y r : Str} {t a c : Nat} (h : Letters z) (hta : t ≤ a) (hc : z.cps.toList[a]? = some c) (hx : x.cps.toList = z.cps.toList.take t) (hy : y.cps.toList = [c]) (hr : r.cps.toList = (z.cps.toList.drop t).take (a - t) ++ z.cps.toList.drop (a + 1)) : Letters (x ++ y ++ r) := by
  unfold Letters
  rw [app_cps, app_cps, hx, hy, hr]
  exact (perm_pull hta hc).trans h
end Bt
namespace Bt
open PySem PySem.Spec PyProof.Rows L2
section
variable {X : Cx}
/-- a tuple == an instance of an own class: the class's own __eq__ answers -/
def rEqTupOwn (K : PySem.W.Frag) (C : Addr) (sp : Sp) (E : XK) : R2 := fun x y H Q => ∃ t xs a dx fs, x = .ref t ∧ H t = some (.tup xs) ∧ y = .ref a ∧ H a = some (.ins C dx fs) ∧ sp [y, x] H (fun v H' => ∃ b, v = .bl b ∧ Q v H') E
theorem op_eqTupOwn {CX : CXT} {n : Nat} {C f : Addr} {fd : FuncData} {ps : List Str} {sp : Sp} {E : XK} (F : FnOk X.prog X.w X.K X.mg X.base CX n f fd ps sp) (hr : Room n X.A)
    (hs : PySem.W.findIn X.K (.ref C) "__eq__" = some (some (.ref f))) (hf : PySem.W.isFn X.K (.ref f) = true) (hb : Binds X.K fd ps []) (hx : Passes CX X E)
    (hsub : PySem.W.subIn X.K (.ref C) (.type "tuple") = some false) (hmro : PySem.W.mroIn X.K C (.type "tuple") = some false) : OpR X (compareOp .Eq) (rEqTupOwn X.K C sp E) := by
  intro pins s σ H x y v u Q I rx ry hq
  obtain ⟨t, xs, a, dx, fs, rfl, ht, rfl, ha, hsp⟩ := hq
  cases rx
  cases ry
  obtain ⟨mA, J, _⟩ := ins_get I.hok ha
  obtain ⟨od, J, _⟩ := J.look
  obtain ⟨m, hF⟩ := I.fr
  obtain ⟨its, r, pl, hz⟩ := I.tuple (.inl (.inl ht))
  have XK := I.kIn
  have hT : s.TypeIs (.ref t) "tuple" := pl.typeIs
  show wpAny (model X.prog X.w) X.A (richCompare .Eq (.ref t) (.ref a)) (EP X pins σ Q) X.xe s
  have inst : PySem.W.Looks (model X.prog X.w) s.heap (isInstance (.ref a) (.type "tuple")) false := J.type.andThen (PySem.W.looks_mroIn XK hmro)
  unfold richCompare
  simp only [oneThing_ref]
  refine wpAny_holding (wpAny_bind (wpAny_cRoomFor hr.units0 ?_))
  refine wpAny_bind (wpAny_typeOf hT (wpAny_bind (J.type.here ?_)))
  rw [if_pos (by rfl)]
  refine wpAny_bind ((PySem.W.looks_subIn XK hsub).here ?_)
  simp only [Bool.false_eq_true, if_false]
  refine wpAny_bind (wpAny_tryCompare_declines hT PySem.F.slot_tuple_eq (wpAny_call_entry PySem.F.slot_tuple_eq hT PySem.F.entry_tuple_eq ?_ (PySem.F.args_tuple_eq_2 _ _)))
  have hl := F.len _ _ _ _ hsp
  have r2 : Vals [V.ref a, V.ref t] [Value.ref a, Value.ref t] := .cons rfl (.cons rfl .nil)
  have back : ∀ s' : Shared, s' = s → wpAny (model X.prog X.w) X.A (tryCompare (.ref a) "__eq__" (.ref t)) (fun r s' => ∃ v, r = some v ∧ EP X pins σ Q v s') X.xe s' := fun s' e => by
    subst e
    unfold tryCompare
    refine wpAny_bind (PySem.W.ifBound_K XK J hs hf (wpAny_call (codeAny_mono (F.run X.A X.stack s' H ⟨[.ref a, .ref t], []⟩ [.ref a, .ref t] [.ref a, .ref t] _ E hr I.env0 (by
      have := hb s' [.ref a, .ref t] I.kIn (by simpa using hl)
      simpa using this) r2 hsp) fun r s' hq => ?_)))
    cases r with
    | error e => exact hx pins σ H _ e s' I hq
    | ok fl =>
      cases fl with
      | ret w =>
        obtain ⟨z, H', I', rz, b, ez, q⟩ := I.after hq
        subst ez
        cases rz
        exact wpAny_pure ⟨_, rfl, .bl b, H', I', rfl, q⟩
      | next => exact False.elim hq
      | brk => exact False.elim hq
      | cont => exact False.elim hq
  have step : ∀ s' : Shared, s' = s → wpAny (model X.prog X.w) X.A.in1 (Builtin.«tuple.__eq__» ⟨[.ref t, .ref a], []⟩) (fun fin s'' => fin = Fin.done (Flow.ret Value.notImplemented) ∧ s'' = s) X.xe s' := fun s' e => by
    subst e
    obtain ⟨hp, g, d, tk, os⟩ := s'
    unfold Builtin.«tuple.__eq__»
    wp_delta
    repeat (first | with_reducible refine inst.at ?_ | wp_step)
    exact ⟨rfl, rfl⟩
  refine wpAny_mono (step s rfl) (fun fin s' z => ?_) fun _ _ x => x
  obtain ⟨e1, e2⟩ := z
  subst e1 e2
  refine ⟨_, rfl, rfl, ?_⟩
  rw [if_pos (by rfl)]
  refine wpAny_bind (wpAny_mono (back _ rfl) (fun r s' z => ?_) fun _ _ x => x)
  obtain ⟨v, rfl, q⟩ := z
  exact wpAny_pure q
end
/-- for i, x in enumerate(xs) -/
theorem for_enum {K : PySem.W.Frag} {a : Addr} {xs : List V} {g : TG} {tb : TS} {D : Ends} {σ : L2.St} {H : Hp} (Pv : Nat → L2.St → Hp → Prop) (h0 : Pv 0 σ H) (hl : ∀ i σ H, i ≤ xs.length → Pv i σ H → SqL K H a xs)
    (hs : ∀ i x σ H T, xs[i]? = some x → Pv i σ H → H T = none → g (.ref T) σ (upd H T (.tup [.int (i : Nat), x])) fun σ2 H2 => tb { D with nx := Pv (i + 1), ct := Pv (i + 1), bk := D.nx } σ2 H2) (hd : ∀ σ H, Pv xs.length σ H → D.nx σ H) :
    ∃ W : Nat → Nat → L2.St → Hp → Prop, (∃ m, W 0 m σ H) ∧ ∀ i m σ H, W i m σ H →
      ((Ite K a).stop i H ∧ D.nx σ H) ∨ ((Ite K a).go i H ∧ ∃ N : L2.St → Hp → Prop, (∀ σ' H', N σ' H' → ∃ m', m' < m ∧ W (i + 1) m' σ' H') ∧ ∀ x H', (Ite K a).yld i H x H' → g x σ H' fun σ2 H2 => tb { D with nx := N, ct := N, bk := D.nx } σ2 H2) := by
  refine ⟨fun i m σ H => m = xs.length - i ∧ i ≤ xs.length ∧ Pv i σ H, ⟨xs.length, by simp, Nat.zero_le _, h0⟩, ?_⟩
  rintro i m σ H ⟨rfl, hi, p⟩
  have q := hl i σ H hi p
  by_cases hlt : i < xs.length
  · refine .inr ⟨⟨xs, xs[i], q, by simp [hlt]⟩, Pv (i + 1), fun σ' H' p' => ⟨xs.length - (i + 1), by omega, rfl, hlt, p'⟩, fun x H' y => ?_⟩
    obtain ⟨T, x0, e1, nT, e2, y⟩ := y
    subst e1 e2
    exact hs i x0 σ _ T (y xs q) p nT
  · have e : i = xs.length := by omega
    subst e
    exact .inl ⟨⟨xs, q, Nat.le_refl _⟩, hd σ H p⟩
theorem s_iList {K : PySem.W.Frag} {te : TE} {σ : L2.St} {H : Hp} {R : It → Hp → Prop} (h : te σ H fun x H1 => ∃ a, x = .ref a ∧ (∃ xs, SqL K H1 a xs) ∧ R (Itl K a) H1) : iList K te σ H R := h
theorem s_iEnum {K : PySem.W.Frag} {ts : TA} {σ : L2.St} {H : Hp} {R : It → Hp → Prop} (h : ts σ H fun vs H1 => ∃ a xs, vs = [.ref a] ∧ SqL K H1 a xs ∧ R (Ite K a) H1) : iEnum K ts σ H R := h
theorem same_but {p : Addr} {H0 H1 H2 : Hp} (S : Same H0 H1) (n : H0 p = none) (b : But p H1 H2) : Same H0 H2 := fun c o h => b c o (ne_of_none h n) (S c o h)
theorem s_par {i j : Nat} {ta : TA} {D : Ends} {σ : L2.St} {H : Hp} (h : ta σ H fun vs H1 => ∃ v w, vs = [v, w] ∧ D.nx ((σ.set i (some v)).set j (some w)) H1) : tPar i j ta D σ H := h
theorem s_gcons {t : TG} {u : TGs} {v : V} {r : List V} {σ : L2.St} {H : Hp} {N : L2.St → Hp → Prop} (h : t v σ H fun σ' H' => u r σ' H' N) : gCons t u (v :: r) σ H N := ⟨v, r, rfl, h⟩
theorem s_gnil {σ : L2.St} {H : Hp} {N : L2.St → Hp → Prop} (h : N σ H) : gNil [] σ H N := ⟨rfl, h⟩
theorem q_gtup {K : PySem.W.Frag} {n : Nat} {t : TGs} {a : Addr} {xs : List V} {σ : L2.St} {H : Hp} {N : L2.St → Hp → Prop} (h : SqT K H a xs) (hl : xs.length = n) (q : t xs σ H N) : gTup K n t (.ref a) σ H N := ⟨a, xs, rfl, h, hl, q⟩
theorem q_slL {K : PySem.W.Frag} {a : Addr} {xs : List V} {lo hi : Option Int} {H : Hp} {Q : VK} (h : SqL K H a xs) (q : ∀ p H', H p = none → Same H H' → H' p = some (.lst (cutV xs lo hi)) → Q (.ref p) H') : rSlL K (.ref a) lo hi H Q := ⟨a, xs, rfl, h, fun p n => q p _ n (Same.new n) upd_same⟩
theorem q_append {l : Addr} {xs : List V} {y : V} {H : Hp} {Q : VK} (h : H l = some (.lst xs)) (hl : xs.length < sizeLine) (q : ∀ H', But l H H' → H' l = some (.lst (xs ++ [y])) → Q .non H') : rAppend (.ref l) [y] H Q := ⟨l, xs, y, rfl, rfl, h, hl, q _ But.upd upd_same⟩
/-- a for over J from here on -/
def ForIt (J : It) (g : TG) (tb : TS) (D : Ends) (σ : L2.St) (H : Hp) : Prop := ∃ W : Nat → Nat → L2.St → Hp → Prop, (∃ m, W 0 m σ H) ∧ ∀ i m σ H, W i m σ H →
  (J.stop i H ∧ D.nx σ H) ∨ (J.go i H ∧ ∃ N : L2.St → Hp → Prop, (∀ σ' H', N σ' H' → ∃ m', m' < m ∧ W (i + 1) m' σ' H') ∧ ∀ x H', J.yld i H x H' → g x σ H' fun σ2 H2 => tb { D with nx := N, ct := N, bk := D.nx } σ2 H2)
theorem s_for {wi : TI} {g : TG} {tb : TS} {D : Ends} {σ : L2.St} {H : Hp} (h : wi σ H fun J H1 => ForIt J g tb D σ H1) : tFor wi g tb D σ H := h
section
variable {K : PySem.W.Frag} {a : Addr} {xs : List V} {g : TG} {tb : TS} {D : Ends} {σ : L2.St} {H : Hp}
theorem q_forL (Pv : Nat → L2.St → Hp → Prop) (h0 : Pv 0 σ H) (hl : ∀ i σ H, i ≤ xs.length → Pv i σ H → SqL K H a xs)
    (hs : ∀ i x σ H, xs[i]? = some x → Pv i σ H → g x σ H fun σ2 H2 => tb { D with nx := Pv (i + 1), ct := Pv (i + 1), bk := D.nx } σ2 H2) (hd : ∀ σ H, Pv xs.length σ H → D.nx σ H) : ForIt (Itl K a) g tb D σ H := for_list Pv h0 hl hs hd
theorem q_forE (Pv : Nat → L2.St → Hp → Prop) (h0 : Pv 0 σ H) (hl : ∀ i σ H, i ≤ xs.length → Pv i σ H → SqL K H a xs)
    (hs : ∀ i x σ H T, xs[i]? = some x → Pv i σ H → H T = none → g (.ref T) σ (upd H T (.tup [.int (i : Nat), x])) fun σ2 H2 => tb { D with nx := Pv (i + 1), ct := Pv (i + 1), bk := D.nx } σ2 H2) (hd : ∀ σ H, Pv xs.length σ H → D.nx σ H) : ForIt (Ite K a) g tb D σ H := for_enum Pv h0 hl hs hd
theorem q_forR {lo : Int} {n : Nat} (Pv : Nat → L2.St → Hp → Prop) (h0 : Pv 0 σ H)
    (hs : ∀ i σ H, i < n → Pv i σ H → g (.int (lo + i)) σ H fun σ2 H2 => tb { D with nx := Pv (i + 1), ct := Pv (i + 1), bk := D.nx } σ2 H2) (hd : ∀ σ H, Pv n σ H → D.nx σ H) : ForIt (Itr lo n) g tb D σ H := for_range Pv h0 hs hd
end
theorem s_rng1 {ta : TA} {σ : L2.St} {H : Hp} {R : It → Hp → Prop} (h : ta σ H fun vs H1 => ∃ j : Int, vs = [.int j] ∧ -(2 ^ 62) ≤ j ∧ j < 2 ^ 62 ∧ R (Itr 0 j.toNat) H1) : iRng1 ta σ H R := h
end Bt
namespace Bt
open PySem PySem.Spec PyProof.Rows L2
/-! ### sum of a tuple of ints -/
theorem sum_tup {prog : Program} {w : World} {A : Around} {E : Value → Shared → Prop} {s : Shared} {l : Addr} {its : List Value} {ns : List Int} {Q : Value → Shared → Prop} (hh : A.handled = none) (hl : IsTup s.heap l its.toArray) (hi : IntsAre its ns)
    (h : ∀ h' tk t', (∀ b o, s.heap.get? b = some o → h'.get? b = some o) → Q (.int ns.sum t') { s with heap := h', toks := tk }) : wpAny (model prog w) A (call (.builtin "sum") [.ref l]) Q E s := by
  obtain ⟨xs, e⟩ := hi.allInts.items
  have hn : numsOf (intItems xs).toList = ns := by rw [← e]; exact hi.numsOf
  rw [nums_intItems] at hn
  rw [e] at hl
  have hlt : l < s.heap.objs.size := by obtain ⟨_, e, _⟩ := hl; exact Heap.lt_size e
  refine call_sum_walkG (iter_tuple hl ?_)
  refine ⟨_, _, _, _, _, _, numAt xs, rfl, Walks.tuple (A := A.in1) hh _ l (Nat.ne_of_lt hlt) (intItems xs), ⟨⟨_, Heap.get?_push_size _ rfl, rfl, rfl⟩, ?_⟩, fun b hb => ?_, (fun _ _ => intItems_at), fun h' tk t' hk => ?_⟩
  · obtain ⟨o, ho, hc, n, hd⟩ := hl
    exact ⟨o, Heap.get?_push_of_some _ ho, hc, n, hd⟩
  · show b < (s.heap.push _).objs.size
    rw [Heap.size_push]
    rcases List.mem_cons.mp hb with rfl | hb
    · exact Nat.lt_succ_self _
    · rw [List.mem_singleton.mp hb]
      exact Nat.lt_succ_of_lt hlt
  · have := h h' tk t' fun b o e => hk b o (fun hm => by
      rw [List.mem_singleton.mp hm] at e
      exact absurd (Heap.lt_size e) (Nat.lt_irrefl _)) (Heap.get?_push_of_some _ e)
    rw [preSum_eq, List.take_of_length_le (by simp [intItems]), hn]
    exact this
def rSumT (K : PySem.W.Frag) : List V → Hp → VK → Prop := fun vs H Q => ∃ (a : Addr) (ns : List Int), vs = [V.ref a] ∧ SqT K H a (ns.map V.int) ∧ Q (.int ns.sum) H
theorem cr_sumT {X : Cx} (hc : X.calm = true) : CallR X (.builtin "sum") (rSumT X.K) := by
  intro pins s σ H vs us Q I r h
  obtain ⟨a, ns, rfl, hs, q⟩ := h
  obtain ⟨its, rv, hl, _⟩ := I.tuple hs
  rw [Vals.ref1 r]
  exact sum_tup (I.ok.hd hc) hl rv.ints fun h' tk t' hk => ⟨.int _, H, I.kept hk, ⟨_, rfl⟩, q⟩
theorem q_sumT {K : PySem.W.Frag} {H : Hp} {Q : VK} {a : Addr} {ns : List Int} (h : SqT K H a (ns.map V.int)) (q : Q (.int ns.sum) H) : rSumT K [.ref a] H Q := ⟨a, ns, rfl, h, q⟩
def rSumL (K : PySem.W.Frag) : List V → Hp → VK → Prop := fun vs H Q => ∃ (a : Addr) (ns : List Int), vs = [V.ref a] ∧ SqL K H a (ns.map V.int) ∧ Q (.int ns.sum) H
theorem cr_sumL {X : Cx} (hc : X.calm = true) : CallR X (.builtin "sum") (rSumL X.K) := cr_sum hc
theorem q_sumL {K : PySem.W.Frag} {H : Hp} {Q : VK} {a : Addr} {ns : List Int} (h : SqL K H a (ns.map V.int)) (q : Q (.int ns.sum) H) : rSumL K [.ref a] H Q := ⟨a, ns, rfl, h, q⟩
def rTupL (K : PySem.W.Frag) : List V → Hp → VK → Prop := fun xs H Q => ∃ p ys, xs = [.ref p] ∧ ((SqL K H p ys ∧ ∀ l, H l = none → Q (.ref l) (upd H l (.tup ys))) ∨ (SqT K H p ys ∧ Q (.ref p) H))
theorem call_tupL {X : Cx} : CallR X (.type "tuple") (rTupL X.K) := call_tuple_of
theorem q_tupL {K : PySem.W.Frag} {H : Hp} {Q : VK} {p : Addr} {ys : List V} (h : SqL K H p ys) (q : ∀ l H', H l = none → Same H H' → H' l = some (.tup ys) → Q (.ref l) H') : rTupL K [.ref p] H Q := ⟨p, ys, rfl, .inl ⟨h, fun l n => q l _ n (Same.new n) upd_same⟩⟩
end Bt
namespace Bt
open PySem PySem.Spec PyProof.Rows L2
/-! ### o(e, ..), o an instance with an own __call__ that may raise; what is raised is wished for at the caller's slots -/
section
variable {X : Cx} {CX : CXT} {k : Nat} {C g : Addr} {fd : FuncData} {ps : List Str} {sp : Sp} {E : L2.St → XK} {pos : Pos} {fe e : Expr} {es : List Expr} {tf : TE} {t : TA}
def tCallOS (C : Addr) (sp : Sp) (E : L2.St → XK) (tf : TE) (t : TA) : TE := fun σ H Q => tf σ H fun y H1 => ∃ a, y = V.ref a ∧ t σ H1 fun vs H2 => (∃ dx fs, H2 a = some (.ins C dx fs)) ∧ sp (V.ref a :: vs) H2 Q (E σ)
theorem run_callOS {pins : List (Addr × Obj)} {σ : L2.St} {H : Hp} {s : Shared} {Q : VK} {a : Addr} {us : List Value} {vs : List V} (c : StX.CallO X.K C g) (F : FnOk X.prog X.w X.K X.mg X.base CX k g fd ps sp) (hr : Room k X.A) (hb : Binds X.K fd ps [])
    (hx : PassesAt CX X σ (E σ)) (I : Inv X pins σ H s) (hi : ∃ dx fs, H a = some (.ins C dx fs)) (r : Vals vs us) (h : sp (V.ref a :: vs) H Q (E σ)) : wpAny (model X.prog X.w) X.A (call (.ref a) us) (EP X pins σ Q) X.xe s := by
  obtain ⟨ox, od, J, hd⟩ := StX.insC_at I (.inr hi)
  have r2 : Vals (V.ref a :: vs) (Value.ref a :: us) := .cons rfl r
  have hl : ((Value.ref a :: us) ++ []).length = ps.length := by rw [List.append_nil, ← r2.length]; exact F.len _ _ _ _ h
  have hb' := hb s (Value.ref a :: us) I.kIn hl
  rw [List.append_nil] at hb'
  refine wpAny_call (PySem.W.kco_code I.kIn J hd c.at_ c.fn c.fi (codeAny_mono (F.run X.A X.stack s H ⟨Value.ref a :: us, []⟩ (Value.ref a :: us) (V.ref a :: vs) Q (E σ) hr I.env0 hb' r2 h) fun r s' hq => ?_))
  cases r with
  | error e => exact hx pins H s e s' I hq
  | ok fl =>
    cases fl with
    | ret u => exact I.after hq
    | next => exact False.elim hq
    | brk => exact False.elim hq
    | cont => exact False.elim hq
theorem pe_callOS (hf : PE X fe tf) (c : StX.CallO X.K C g) (F : FnOk X.prog X.w X.K X.mg X.base CX k g fd ps sp) (hr : Room k X.A) (hb : Binds X.K fd ps []) (hx : ∀ σ, PassesAt CX X σ (E σ)) (ha : PA X (e :: es) t)
    (ht : eval (.Call fe (e :: es) [] pos) X.env = (do callWith pos (← eval fe X.env) [] (backTo pos (starEach (e :: es) X.env)) (backToKw pos (keywordEach [] X.env))) := by rfl)
    (he : starEach (e :: es) X.env = (false, eval e X.env) :: starEach es X.env := by rfl) (hpl : (backTo pos (starEach es X.env)).any (·.1) = false := by rfl) : PE X (.Call fe (e :: es) [] pos) (tCallOS C sp E tf t) := by
  refine ⟨fun pins s σ H Q I h => ?_⟩
  refine Call_ (thn (hf.run pins s σ H _ I h) fun u s1 ⟨y, H1, I1, ry, a, ey, q⟩ => ?_) ht
  subst ey
  obtain rfl : u = Value.ref a := ry
  refine StX.callO_with (thn (ha.run pos pins s1 σ H1 _ I1 q) fun us s2 ⟨vs, H2, I2, r, hi, q2⟩ => ?_) he hpl
  obtain ⟨ox, od, J, hd⟩ := StX.insC_at I2 (.inr hi)
  exact ⟨⟨C, ox, od, J, hd⟩, run_callOS c F hr hb (hx σ) I2 hi r q2⟩
theorem s_callOS {σ : L2.St} {H : Hp} {Q : VK} (h : tf σ H fun y H1 => ∃ a, y = V.ref a ∧ t σ H1 fun vs H2 => (∃ dx fs, H2 a = some (.ins C dx fs)) ∧ sp (V.ref a :: vs) H2 Q (E σ)) : tCallOS C sp E tf t σ H Q := h
end
end Bt
namespace Bt
open PySem PySem.Spec PyProof.Rows L2 LamX NdefX
/-! ### a lambda as a value -/
structure LF where
  qual : Str
  params : Arguments
  body : Expr
  scope : Scope
  cl : List (Str × Addr)
  c : Addr
abbrev LF.fd (F : LF) (pm ctv : Value) : FuncData := PySem.W.kla_fn "<lambda>" F.qual F.params F.body F.scope F.cl pm (.ref F.c) ctv
def FnL (f : Addr) (F : LF) : HO := .ext fun h => ∃ (od : Option Addr) (sl : Array (Option Value)) (pm ctv : Value), h.get? f = some (⟨.type "function", od, .func (F.fd pm ctv), sl⟩ : Obj)
theorem fnL_at {P : Program} {w : World} {H : Hp} {h : Heap} {f : Addr} {F : LF} (hok : HOk P w H h) (e : H f = some (FnL f F)) : ∃ (od : Option Addr) (sl : Array (Option Value)) (pm ctv : Value), h.get? f = some (⟨.type "function", od, .func (F.fd pm ctv), sl⟩ : Obj) := by
  obtain ⟨z, _, _⟩ := hok f _ e
  exact z
section
variable {X : Cx} {pins : List (Addr × Obj)} {σ : L2.St} {H : Hp} {s : Shared}
theorem inv_lf {F : LF} {o : Obj} {t' : Nat} {pm ctv : Value} {h : Heap} (I : Inv X pins σ H { s with heap := h, toks := t' }) (ho : o = { cls := .type "function", data := .func (F.fd pm ctv) }) :
    Inv X pins σ (upd H h.objs.size (FnL h.objs.size F)) { s with heap := h.push o, toks := t' } := by
  subst ho
  refine I.laid (t' := t') (a := h.objs.size) (fun b u e => Heap.get?_push_of_some _ e) (Nat.le_refl _) ?_
  have e : (h.push ({ cls := .type "function", data := .func (F.fd pm ctv) } : Obj)).get? h.objs.size = some ({ cls := .type "function", data := .func (F.fd pm ctv) } : Obj) := Heap.get?_push_size _ rfl
  exact ⟨⟨_, _, pm, ctv, e⟩, ⟨_, e⟩, fun h1 h2 ⟨od, sl, p, t, z⟩ st => ⟨od, sl, p, t, st _ z⟩⟩
/-- the heap with one more row in the table at P: the code object c' of the place pos -/
def putT (H : Hp) (P c' : Addr) (ps : Array Value) (pos : Pos) (q : Str) : Hp := upd (upd H P (.tbl (ps ++ #[rawInt pos.line, rawInt pos.col, .ref c']))) c' (CodeO c' q)
section
variable {P c' : Addr} {ps : Array Value} {pos : Pos} {q : Str}
theorem putT_code : putT H P c' ps pos q c' = some (CodeO c' q) := upd_same
theorem putT_tab (hP : H P = some (.tbl ps)) (nC : H c' = none) : putT H P c' ps pos q P = some (.tbl (ps ++ #[rawInt pos.line, rawInt pos.col, .ref c'])) := (upd_ne (ne_of_none hP nC)).trans upd_same
theorem putT_ne {b : Addr} (h1 : b ≠ P) (h2 : b ≠ c') : putT H P c' ps pos q b = H b := (upd_ne h2).trans (upd_ne h1)
theorem putT_old (hP : H P = some (.tbl ps)) (nC : H c' = none) : ExtN H (putT H P c' ps pos q) := fun b o e n =>
  (putT_ne (fun z => by subst z; exact n ps (Option.some.inj (e.symm.trans hP))) (ne_of_none e nC)).trans e
theorem putT_none {b : Addr} (e : putT H P c' ps pos q b = none) : H b = none := upd_none (upd_none e)
theorem putT_tabs {T : List NTab} {nm : Nat → Nat → Str} (hT : TabsN T H) (hP : H P = some (.tbl ps)) (nC : H c' = none) (ok : TriplesOk ps.toList) (own : ∀ (p' : Pos) (cv : Value), codeAmong p' ps.toList = some cv → ∃ d, cv = .ref d ∧ H d = some (CodeO d (nm p'.line p'.col)))
    (hq : nm pos.line pos.col = q) (hu : ∀ p ∈ T, p.1 = P → p.2 = nm) : TabsN T (putT H P c' ps pos q) := by
  have lift : ∀ {d : Addr} {r : Str}, H d = some (CodeO d r) → putT H P c' ps pos q d = some (CodeO d r) := fun e => putT_old hP nC _ _ e codeO_ne
  rintro ⟨R, mm⟩ hp
  by_cases hR : R = P
  · subst hR
    obtain rfl : mm = nm := hu _ hp rfl
    refine ⟨_, putT_tab hP nC, ?_⟩
    rw [show (ps ++ #[rawInt pos.line, rawInt pos.col, Value.ref c']).toList = ps.toList ++ [rawInt pos.line, rawInt pos.col, .ref c'] by simp]
    refine ⟨TriplesOk_snoc _ _ _ _ ok, fun p' cv hcv => (among_app2 _ ok hcv).elim (fun old => ?_) (fun new => ?_)⟩
    · obtain ⟨d, ed, hd⟩ := own p' cv old
      exact ⟨d, ed, lift hd⟩
    · obtain ⟨ec, el, ek⟩ := new
      exact ⟨c', ec, by rw [putT_code, ← hq, el, ek]⟩
  · obtain ⟨qs, t1, t2, t3⟩ := hT _ hp
    refine ⟨qs, (putT_ne hR (ne_of_none t1 nC)).trans t1, t2, fun p' cv hcv => ?_⟩
    obtain ⟨d, ed, hd⟩ := t3 p' cv hcv
    exact ⟨d, ed, lift hd⟩
end
/-- what the maker of a lambda goes on with -/
def LamK (T : List NTab) (H : Hp) (mk : Addr → LF) (f c' : Addr) (H1 : Hp) : Prop :=
  ExtN H H1 ∧ (∀ b, H1 b = none → H b = none) ∧ TabsN T H1 ∧ H f = none ∧ H1 f = some (FnL f (mk c')) ∧ H1 c' = some (CodeO c' (mk c').qual)
theorem lamK_of {T : List NTab} {H H0 : Hp} {mk : Addr → LF} {f c' : Addr} (old : ExtN H H0) (bk : ∀ b, H0 b = none → H b = none) (ht : TabsN T H0) (hc : H0 c' = some (CodeO c' (mk c').qual)) (nf : H0 f = none) : LamK T H mk f c' (upd H0 f (FnL f (mk c'))) := by
  have st : ∀ {b : Addr} {o : HO}, H0 b = some o → upd H0 f (FnL f (mk c')) b = some o := fun e => (upd_ne (ne_of_none e nf)).trans e
  exact ⟨fun b o e n => st (old b o e n), fun b e => bk b (upd_none e), ht.ext fun _ _ e => st e, bk f nf, upd_same, st hc⟩
theorem lam_makeN {T : List NTab} {nm : Nat → Nat → Str} {c P : Addr} {params : Arguments} {body : Expr} {scope : Scope} {pos : Pos} {mk : Addr → LF} {E : Value → Shared → Prop} {Q : Value → Shared → Prop} (I : Inv X pins σ H s) (TB : TabB X.base X.mg c P) (hcode : X.env.code = .ref c)
    (hm : (P, nm) ∈ T) (hu : ∀ p ∈ T, p.1 = P → p.2 = nm) (hT : TabsN T H) (hdef : defaultsOf params X.env = ([], [])) (hfree : ∀ y ∈ scope.names, y.2 = .free → ∃ c, X.env.cells.lookup y.1 = some c)
    (hmk : ∀ d, mk d = ⟨X.env.qual ++ "<lambda>", params, body, scope, cloFrom X.env.cells scope.names [], d⟩) (hn : nm pos.line pos.col = X.env.qual ++ "<lambda>")
    (go : ∀ (f c' : Addr) (H1 : Hp) (s' : Shared), Inv X pins σ H1 s' → LamK T H mk f c' H1 → Q (.ref f) s') :
    wpAny (model X.prog X.w) X.A (eval (.Lambda params body scope pos) X.env) Q E s := by
  have tab := hT _ hm
  obtain ⟨ps, hP, ok, own⟩ := (tab : TabN H P nm)
  have gP := I.hok P _ hP
  have code := TB.code.keeps I.bk
  have glob := I.mod.glob.keeps I.bk
  have bm := TB.bm.keeps I.bk
  have qual : ∀ d, (mk d).qual = X.env.qual ++ "<lambda>" := fun d => by rw [hmk]
  refine PySem.W.kla_eval hdef ?_
  rcases hc : codeAmong pos ps.toList with _ | cv
  · refine PySem.W.kla_makeFunction (closure_ok hfree) I.ok.glob glob hcode code gP ok hc TB.gP bm ?_
    intro c' ctv g tk keep up lt rec_ row
    obtain ⟨d0, oc, vs, t, e0, l1, l2, l3⟩ := rec_
    cases e0
    have nC : H c' = none := I.hok.fresh up
    have J : Inv X pins σ (putT H P c' ps pos (X.env.qual ++ "<lambda>")) { s with heap := g, toks := tk } := inv_table I hP (fun b o n e => keep b o n e) row up ⟨oc, vs, t, l1, l2, l3⟩
    have nf := J.hok.fresh (Nat.le_refl g.objs.size)
    refine go _ c' _ _ (inv_lf (F := mk c') J (by rw [hmk])) (lamK_of (putT_old hP nC) (fun _ e => putT_none e) (putT_tabs hT hP nC ok own hn hu) ?_ nf)
    rw [qual]
    exact putT_code
  · obtain ⟨d, rfl, hd⟩ := own pos cv hc
    refine PySem.W.kla_makeFunctionHit (closure_ok hfree) I.ok.glob glob hcode code gP ok hc bm ?_
    intro ctv g tk keep _
    have J : Inv X pins σ H { s with heap := g, toks := tk } := I.kept keep
    refine go _ d _ _ (inv_lf (F := mk d) J (by rw [hmk])) (lamK_of (fun _ _ e _ => e) (fun _ e => e) hT ?_ (J.hok.fresh (Nat.le_refl g.objs.size)))
    rw [qual, ← hn]
    exact hd
end
def tLamV (T : List NTab) (mk : Addr → LF) : TE := fun σ H Q => TabsN T H ∧ ∀ (f c' : Addr) (H1 : Hp), LamK T H mk f c' H1 → Q (.ref f) H1
theorem pe_lambda {X : Cx} {T : List NTab} {nm : Nat → Nat → Str} {c P : Addr} {params : Arguments} {body : Expr} {scope : Scope} {pos : Pos} (TB : TabB X.base X.mg c P) (hcode : X.env.code = .ref c) (hm : (P, nm) ∈ T) (hn : nm pos.line pos.col = X.env.qual ++ "<lambda>") (hu : ∀ p ∈ T, p.1 = P → p.2 = nm)
    (hfree : ∀ y ∈ scope.names, y.2 = .free → X.env.scope.names.lookup y.1 = some .cell ∨ X.env.scope.names.lookup y.1 = some .free) (hdef : defaultsOf params X.env = ([], []) := by rfl) :
    PE X (.Lambda params body scope pos) (tLamV T fun d => ⟨X.env.qual ++ "<lambda>", params, body, scope, cloFrom X.env.cells scope.names [], d⟩) := by
  refine ⟨fun pins s σ H Q I h => ?_⟩
  obtain ⟨hT, go⟩ := h
  exact lam_makeN I TB hcode hm hu hT hdef (fun y hy e => (hfree y hy e).elim (fun z => I.ok.has _ (.inl z)) fun z => I.ok.has _ (.inr z)) (fun _ => rfl) hn fun f c' H1 s' J k => ⟨.ref f, H1, J, rfl, go f c' H1 k⟩
end Bt
namespace Bt
open PySem PySem.Spec PyProof.Rows L2 LamX NdefX
/-! ### a lambda's run -/
abbrev LF.nf (F : LF) : NF := ⟨"<lambda>", F.qual, F.params, [], F.scope, F.cl, F.c⟩
theorem lam_run {CX : CXT} {P : Program} {w : World} {K : PySem.W.Frag} {mg : Str → Option Value} {base : Heap} {N ps fr : List Str} {F : LF} {f : Addr} {k : Nat} {A : Around} {outer : List Env} {s : Shared} {H : Hp} {us : List Value} {vs : List V} {ws : List (Option V)} {Q : VK} {E : XK} {t : TE}
    (S : NScope N ps fr F.scope) (hb : ∀ (pm ctv : Value) (xs : List Value), xs.length = ps.length → bindArgs (F.fd pm ctv) ⟨xs, []⟩ = pure (ps.zip xs)) (hl : vs.length = ps.length) (hr : Room (k + 1) A) (e0 : Env0 P w K mg base A outer s H)
    (hf : H f = some (FnL f F)) (hc : H F.c = some (CodeO F.c F.qual)) (C : CellsAt F.cl fr ws s.heap H) (r : Vals vs us)
    (body : PE (ncx CX P w K mg base N F.nf f A outer s H E) F.body t) (q : t (startF N vs ws) H Q) : codeAny (model P w) A (.call (.ref f) ⟨us, []⟩) (CR CX outer P w H s Q E) s := by
  have lim := e0.mod.nolimit.keeps fun b o e => (e0.bs b o e).1
  obtain ⟨_, _, pm, ctv, at_⟩ := fnL_at e0.hok hf
  refine PySem.W.kla_callFunE hr.depth at_ rfl S.co S.gen rfl (codeO_at e0.hok hc) ?_
  rw [hb pm ctv us (r.length.symm.trans hl)]
  refine wpAny_pure (wpAny_newFunctionEnv S.nocell (fun y hy => S.par y.1 (List.of_mem_zip hy).1) (fun g hns hsb => ⟨lim.fresh _ hsb, ?_⟩) S.kind)
  have old : ∀ b o, s.heap.get? b = some o → g.get? b = some o := fun b o e => hsb.extBut b o (Nat.ne_of_lt (Heap.lt_size e)) (Heap.get?_push_of_some _ e)
  have J := inv_startN (CX := CX) (F := F.nf) (f := f) (E := E) (tk := s.toks + (ps.zip us).length) S hr.hd e0 hl r C hns old
  refine PySem.W.kla_codeExpr (wpAny_mono (body.run [] _ _ H Q J q) (fun v s' z => ?_) fun _ _ z => z)
  obtain ⟨x, H', J', rv, qv⟩ := z
  exact ⟨x, H', J'.os, J'.bare, J'.base, J'.hok, rv, qv⟩
end Bt
namespace Bt
open PySem PySem.Spec PyProof.Rows L2 LamX NdefX
open FbM (Rec rec_new)
open PySem.W (EachIs AllAlike Sortable KeyedOut KeepsBut dataLe dataKind sortVals copyHeap)
/-! ### sorted(xs, key=f), f an own def or lambda: the turns, the state carried by the frame's invariant -/
section
variable {X : Cx} {pins : List (Addr × Obj)} {σ : L2.St} {H : Hp} {s : Shared} {a kS : Addr} {e1 : Nat} {bs : List Str} {k : Str → PyData} {q : Addr}
/-- the state behind the keys ds -/
structure KeySt (X : Cx) (pins : List (Addr × Obj)) (σ : L2.St) (H : Hp) (a kS : Addr) (e1 : Nat) (ds : List PyData) (s : Shared) : Prop where
  ex : ∃ (Hn : Hp) (kA : Array Value) (e : Nat), Inv X pins σ Hn s ∧ Same H Hn ∧ Hn a = none ∧ Hn kS = none ∧ s.heap.get? a = some (seqObj "list" #[] e1) ∧ s.heap.get? kS = some (seqObj "list" kA e) ∧
    EachIs (fun v d => ∃ y, RelV y v ∧ Dp X.K Hn y d) kA.toList ds
/-- one key: from any state of the frame, the heap grown -/
def KeyRun (X : Cx) (pins : List (Addr × Obj)) (σ : L2.St) (H : Hp) (q : Addr) (bs : List Str) (k : Str → PyData) : Prop :=
  ∀ (b : Str) (u : Value), b ∈ bs → RelV (.str b) u → ∀ (s' : Shared) (Hn : Hp), Inv X pins σ Hn s' → Same H Hn →
    codeAny (model X.prog X.w) X.A.in1.in1 (.call (.ref q) ⟨[u], []⟩) (CR CX0 X.stack X.prog X.w Hn s' (fun y H2 => Same Hn H2 ∧ Dp X.K H2 y (k b)) E0) s'
theorem same_none {H H' : Hp} {b : Addr} (S : Same H H') (h : H' b = none) : H b = none := by
  cases e : H b with
  | none => rfl
  | some o =>
    rw [S b o e] at h
    cases h
theorem key_loop {P : PySem.Fin → Shared → Prop} {E : Value → Shared → Prop} (ra : Rec X pins a) (rk : Rec X pins kS) (hka : kS ≠ a) {us : List Value} (hv : Vals (bs.map V.str) us) (hz : us.length ≤ 1000) (turn : KeyRun X pins σ H q bs k)
    (st : KeySt X pins σ H a kS e1 [] s) (done : ∀ s' Hn kA e, Inv X pins σ Hn s' → Same H Hn → Hn a = none → Hn kS = none → s'.heap.get? a = some (seqObj "list" #[] e1) → s'.heap.get? kS = some (seqObj "list" kA e) →
      EachIs (fun v d => ∃ y, RelV y v ∧ Dp X.K Hn y d) kA.toList (bs.map k) → wpAny (model X.prog X.w) X.A.in1.in1 (ksk_end a false us.toArray e1 (.ref kS) kA) P E s') :
    wpAny (model X.prog X.w) X.A.in1.in1 (ksk_rest a (.ref q) false us.toArray e1 (.ref kS)) P E s := by
  have hlen : us.length = bs.length := by rw [← hv.length, List.length_map]
  unfold ksk_rest
  refine wpAny_bind (wpAny_rule ?_)
  first
    | rw [List.forIn_toArray]
    | rw [← Array.forIn_toList]
  refine wpAny_bind (ksk_fold (fun i s' => KeySt X pins σ H a kS e1 ((bs.map k).take i) s') us 0 s (by rw [List.take_zero]; exact st) ?turns ?last)
  case turns =>
    intro j u s' hu S
    simp only [Nat.zero_add] at S ⊢
    have hj : j < bs.length := by
      have := (List.getElem?_eq_some_iff.mp hu).1
      omega
    have hb : bs[j]? = some bs[j] := List.getElem?_eq_getElem hj
    have hx : (bs.map V.str)[j]? = some (V.str bs[j]) := by rw [List.getElem?_map, hb]; rfl
    obtain ⟨u', hu', ru⟩ := hv.get hx
    have e : u' = u := Option.some.inj (hu'.symm.trans hu)
    subst e
    obtain ⟨Hn, kA, e, I, sm, na, nk, ga, gk, ks⟩ := S
    have hkz : kA.size ≤ 1000 := by
      have h1 := ks.length
      rw [Array.length_toList, List.length_take] at h1
      omega
    refine wpAny_bind (wpAny_attempt (wpAny_call (codeAny_mono (turn _ _ (List.mem_of_getElem? hb) ru s' Hn I sm) fun rr s2 hrr => ?_)))
    cases rr with
    | error er => exact False.elim hrr
    | ok fl =>
      cases fl with
      | next => exact False.elim hrr
      | brk => exact False.elim hrr
      | cont => exact False.elim hrr
      | ret v =>
        obtain ⟨y, H2, os, bare, un, hok, ry, sm2, dy⟩ := (show CE X.stack X.prog X.w Hn s' _ v s2 from hrr)
        have I2 : Inv X pins σ H2 s2 := I.call' os un hok bare (fun b z => absurd z List.not_mem_nil)
        have ga2 := un.keep _ _ ga na ra.fr List.not_mem_nil
        have gk2 := un.keep _ _ gk nk rk.fr List.not_mem_nil
        have na2 : H2 a = none := un.free _ _ ga na List.not_mem_nil
        have nk2 : H2 kS = none := un.free _ _ gk nk List.not_mem_nil
        have sb := Heap.SameBut.update s2.heap kS (Obj.mapSeq (·.push v))
        obtain ⟨c2, hc2⟩ : ∃ c2, (s2.heap.update kS (Obj.mapSeq (·.push v))).get? kS = some (seqObj "list" (kA.push v) c2) := ⟨_, get?_update_seq gk2 (·.push v)⟩
        refine wpAny_bind (listUpdate_at gk2 rfl ?_ (sz (by omega)) (by rw [Array.size_push]; exact Nat.le_succ_of_le (szlt (by omega))))
        have I3 : Inv X pins σ H2 { s2 with heap := s2.heap.update kS (Obj.mapSeq (·.push v)) } := rk.turn (t' := s2.toks) I2 nk2 fun c o hc e => sb.extBut c o hc e
        refine wpAny_pure ⟨rfl, H2, kA.push v, c2, I3, fun b o z => sm2 _ _ (sm _ _ z), na2, nk2, (sb.2 a hka.symm).trans ga2, hc2, ?_⟩
        have ek : (bs.map k).take (j + 1) = (bs.map k).take j ++ [k bs[j]] := by
          rw [List.take_add_one, List.getElem?_map, hb]
          simp
        have ea : (kA.push v).toList = kA.toList ++ [v] := by simp
        rw [ea, ek]
        exact PySem.W.each_snoc ⟨y, ry, dy⟩ (ks.mono fun v d z => by
          obtain ⟨y', r', d'⟩ := z
          exact ⟨y', r', Dp.mono sm2 d'⟩)
  case last =>
    intro s' S
    obtain ⟨Hn, kA, e, I, sm, na, nk, ga, gk, ks⟩ := S
    have e3 : (bs.map k).take (0 + us.length) = bs.map k := List.take_of_length_le (by rw [List.length_map]; omega)
    rw [e3] at ks
    refine wpAny_bind (listItems_at gk rfl ?_)
    exact done s' Hn kA e I sm na nk ga gk ks
/-- the whole sort: the new list stands at D -/
theorem key_sorted {P : PySem.Fin → Shared → Prop} {E : Value → Shared → Prop} (ra : Rec X pins a) (rk : Rec X pins kS) (hka : kS ≠ a) {us : List Value} (hv : Vals (bs.map V.str) us) (hz : us.length ≤ 1000) (hal : AllAlike (bs.map k)) (hsk : Sortable (bs.map k)) (hu : ∀ b, b ∈ bs → X.A.in1.in1.units + (k b).depth < cLine) (turn : KeyRun X pins σ H q bs k)
    (st : KeySt X pins σ H a kS e1 [] s) (done : ∀ s' Hn, Inv X pins σ (upd Hn a (.lst ((bs.mergeSort (dataLe false k)).map V.str))) s' → Same H Hn → Hn a = none → P (.done (.ret .none)) s') :
    wpAny (model X.prog X.w) X.A.in1.in1 (ksk_rest a (.ref q) false us.toArray e1 (.ref kS)) P E s := by
  have hlen : us.length = bs.length := by rw [← hv.length, List.length_map]
  refine key_loop ra rk hka hv hz turn st fun s' Hn kA e I sm na nk ga gk ks => ?_
  have hsz : kA.size = us.length := by
    have h1 := ks.length
    rw [Array.length_toList, List.length_map] at h1
    omega
  have rd : EachIs (fun v d => ∃ as, Reads s'.heap v d as) kA.toList (bs.map k) := ks.mono fun v d z => by
    obtain ⟨y, r, dp⟩ := z
    exact Dp.reads I d y v dp r
  obtain ⟨G, g1, g2⟩ := restrict s'.heap fun b => decide (b ≠ kS) && decide (b ≠ a)
  obtain ⟨G0, f1, f2⟩ := restrict s'.heap fun b => decide (b ≠ kS)
  have gk0 : G.get? kS = none := g2 kS (by simp)
  have ga0 : G.get? a = none := g2 a (by simp)
  have gs : ∀ b o, b ≠ kS → b ≠ a → s'.heap.get? b = some o → G.get? b = some o := fun b o h1 h2 z => (g1 b (by simp [h1, h2])).trans z
  have gb : ∀ b o, G.get? b = some o → s'.heap.get? b = some o := fun b o z => by
    have h1 : b ≠ kS := fun q => by rw [q, gk0] at z; cases z
    have h2 : b ≠ a := fun q => by rw [q, ga0] at z; cases z
    exact (g1 b (by simp [h1, h2])).symm.trans z
  have fs : ∀ b o, b ≠ kS → s'.heap.get? b = some o → G0.get? b = some o := fun b o h1 z => (f1 b (by simp [h1])).trans z
  have fb : ∀ b o, G0.get? b = some o → b ≠ kS ∧ s'.heap.get? b = some o := fun b o z => by
    have h1 : b ≠ kS := fun q => by rw [q, f2 kS (by simp)] at z; cases z
    exact ⟨h1, (f1 b (by simp [h1])).symm.trans z⟩
  have I0 : Inv X pins σ Hn { s' with heap := G0 } := rk.turn (t' := s'.toks) I nk fs
  have I1 : Inv X pins σ Hn { s' with heap := G } := ra.turn (s := { s' with heap := G0 }) (h' := G) (t' := s'.toks) I0 na fun c o hc z => gs c o (fb c o z).1 hc (fb c o z).2
  have kp : KeepsBut a G s'.heap := fun b o _ z => gb b o z
  have eo : EachIs (fun v b => RelV (V.str b) v) us bs := by
    have key : ∀ {l : List Str} {vs : List Value}, Vals (l.map V.str) vs → EachIs (fun v b => RelV (V.str b) v) vs l := fun {l} => by
      induction l with
      | nil => intro vs r; cases r; exact .nil
      | cons x l ih => intro vs r; cases r with | cons h1 h2 => exact .cons h1 (ih h2)
    exact key hv
  have ou : EachIs (fun v b => RelV (V.str b) v) (sortVals (dataKind s'.heap (bs.map k)) false kA.toList us) (bs.mergeSort (dataLe false k)) := PySem.W.keyedOut_each k ⟨s'.heap, kA.toList, hal, rfl, rd⟩ eo
  refine PySem.W.keyH_end (κ := dataKind s'.heap (bs.map k)) (h₁ := G) (vs := us) kp gk0 gk ga hka (PySem.W.SortsAt.data (s := s') rd hal hsk fun d hd => ?_) hsz (sz (by omega)) fun h' tk c k3 n3 => ?_
  · obtain ⟨b, hb, rfl⟩ := List.mem_map.mp hd
    exact hu b hb
  · have J := Inv.laidN (t' := tk) (h' := h') (o := .lst ((bs.mergeSort (dataLe false k)).map V.str)) I1 (fun b u z => k3 b u (fun q => by rw [q] at z; exact nomatch (ga0.symm.trans z)) z) ga0 na ?_
    · exact done _ Hn J sm na
    · refine ⟨?_, _, c, ?_, n3⟩
      · rw [List.length_map, List.length_mergeSort]
        exact sz (by omega)
      · have key : ∀ {l : List Str} {vs : List Value}, EachIs (fun v b => RelV (V.str b) v) vs l → Vals (l.map V.str) vs := fun {l} => by
          induction l with
          | nil => intro vs r; cases r; exact .nil
          | cons x l ih => intro vs r; cases r with | cons h1 h2 => exact .cons h1 (ih h2)
        exact key ou
theorem sorted_key_inv {l : Addr} {Q : Value → Shared → Prop} {E : Value → Shared → Prop} (I : Inv X pins σ H s) (hl : SqL X.K H l (bs.map V.str)) (hz : bs.length ≤ 1000) (hal : AllAlike (bs.map k)) (hsk : Sortable (bs.map k)) (hu : ∀ b, b ∈ bs → X.A.in1.in1.units + (k b).depth < cLine) (turn : KeyRun X pins σ H q bs k)
    (go : ∀ D s' Hn, Inv X pins σ (upd Hn D (.lst ((bs.mergeSort (dataLe false k)).map V.str))) s' → Same H Hn → Hn D = none → Q (.ref D) s') :
    wpAny (model X.prog X.w) X.A (call (.builtin "sorted") [.ref l] [(Str.ofString "key", .ref q)]) Q E s := by
  obtain ⟨us, hv, pl, _⟩ := I.list hl
  have hlen : us.length = bs.length := by rw [← hv.length, List.length_map]
  refine PySem.W.sorted_of_sort pl.isList (sz (by omega)) (ksk_s1 _ _) (fun _ => ksk_l1 _ _) fun E' => ?_
  rw [ksk_t1]
  have ho := PySem.W.copyHeap_at s.heap us
  have old : ∀ b o, s.heap.get? b = some o → b ≠ s.heap.objs.size + 1 ∧ (copyHeap s.heap us).get? b = some o := fun b o e => ⟨Nat.ne_of_lt (Nat.lt_succ_of_lt (Heap.lt_size e)), PySem.W.copyHeap_old e⟩
  have la : s.heap.objs.size + 1 < (copyHeap s.heap us).objs.size := Heap.lt_size ho
  obtain ⟨e1, ho1⟩ : ∃ e1, ((copyHeap s.heap us).update (s.heap.objs.size + 1) (Obj.mapSeq fun _ => (#[] : Array Value))).get? (s.heap.objs.size + 1) = some (seqObj "list" #[] e1) := ⟨_, get?_update_seq ho fun _ => #[]⟩
  unfold ksk_tree
  refine wpAny_bind (listItems_at ho rfl ?_)
  refine wpAny_bind (listUpdate_at ho rfl ?_ (by rw [List.size_toArray]; exact sz (by omega)) (Nat.zero_le _))
  refine wpAny_bind (seqEpoch_at ho1 rfl ?_)
  refine wpAny_bind (wpAny_newTuple ?_ (by show us.length ≤ _; exact sz (by omega)))
  refine wpAny_bind (wpAny_newList ?_ (Nat.zero_le _))
  refine wpAny_holding ?_
  generalize hg : ((copyHeap s.heap us).update (s.heap.objs.size + 1) (Obj.mapSeq fun _ => (#[] : Array Value))).push (seqObj "tuple" us.toArray 0) = g
  have keep : ∀ b o, b ≠ s.heap.objs.size + 1 → (copyHeap s.heap us).get? b = some o → (g.push (seqObj "list" #[] 0)).get? b = some o := fun b o hb e => by
    rw [← hg]
    exact Heap.get?_push_of_some _ (Heap.get?_push_of_some _ ((Heap.get?_update_other _ _ (Ne.symm hb)).trans e))
  have ga : (g.push (seqObj "list" #[] 0)).get? (s.heap.objs.size + 1) = some (seqObj "list" #[] e1) := by
    rw [← hg]
    exact Heap.get?_push_of_some _ (Heap.get?_push_of_some _ ho1)
  have lg : (copyHeap s.heap us).objs.size ≤ g.objs.size := by
    rw [← hg, size_push', Heap.size_update]
    exact Nat.le_succ _
  have I1 : Inv X pins σ H { s with heap := g.push (seqObj "list" #[] 0) } := I.kept (t' := s.toks) fun b o e => keep b o (old b o e).1 (old b o e).2
  have na : H (s.heap.objs.size + 1) = none := I.hok.fresh (Nat.le_succ _)
  have nk : H g.objs.size = none := I.hok.fresh (Nat.le_trans (Nat.le_of_lt (Nat.lt_of_succ_lt la)) lg)
  refine key_sorted (a := s.heap.objs.size + 1) (kS := g.objs.size) (rec_new I (Nat.le_succ _)) (rec_new I (Nat.le_trans (Nat.le_of_lt (Nat.lt_of_succ_lt la)) lg)) (Nat.ne_of_gt (Nat.lt_of_lt_of_le la lg)) hv (by omega) hal hsk hu turn
    ⟨H, #[], 0, I1, fun _ _ e => e, na, nk, ga, Heap.get?_push_size _ rfl, .nil⟩ fun s' Hn J sm n => ⟨rfl, go _ s' Hn J sm n⟩
end
end Bt
namespace Bt
open PySem PySem.Spec PyProof.Rows L2 LamX NdefX
open PySem.W (AllAlike Sortable dataLe)
/-! ### the rule: sorted(xs, key=lambda x: ..) -/
/-- what the sort asks and gives: xs a list of texts, the keys by k -/
def rSK (K : PySem.W.Frag) (run : Hp → Str → VK → Prop) (x : V) (H : Hp) (Q : VK) : Prop := ∃ (l : Addr) (bs : List Str) (k : Str → PyData), x = .ref l ∧ SqL K H l (bs.map V.str) ∧ bs.length ≤ 1000 ∧ AllAlike (bs.map k) ∧ Sortable (bs.map k) ∧ (∀ b ∈ bs, (k b).depth ≤ 8) ∧
  (∀ b ∈ bs, ∀ Hn, Same H Hn → run Hn b fun y H3 => Same Hn H3 ∧ Dp K H3 y (k b)) ∧
  ∀ D Hn H3, Same H Hn → Hn D = none → Same Hn H3 → H3 D = some (.lst ((bs.mergeSort (dataLe false k)).map V.str)) → Q (.ref D) H3
def tSK (K : PySem.W.Frag) (T : List NTab) (mk : Addr → LF) (N' : List Str) (js : List Nat) (tb : TE) (ta : TA) : TE := fun σ H Q => ta σ H fun xs H1 => ∃ x, xs = [x] ∧ TabsN T H1 ∧ ∀ f c' H2, LamK T H1 mk f c' H2 → rSK K (fun Hn b R => tb (startF N' [.str b] (js.map (slotAt σ))) Hn R) x H2 Q
section
variable {X : Cx} {T : List NTab} {nm : Nat → Nat → Str} {c P : Addr} {params : Arguments} {body e : Expr} {scope : Scope} {p pos lpos kpos : Pos} {tb : TE} {ta : TA} {N' fr : List Str} {x : Str} {js : List Nat} {j : Nat}
theorem pe_sortKey (TB : TabB X.base X.mg c P) (hcode : X.env.code = .ref c) (hm : (P, nm) ∈ T) (hn : nm lpos.line lpos.col = X.env.qual ++ "<lambda>") (hu : ∀ p ∈ T, p.1 = P → p.2 = nm)
    (hfree : ∀ y ∈ scope.names, y.2 = .free → X.env.scope.names.lookup y.1 = some .cell ∨ X.env.scope.names.lookup y.1 = some .free) (S : NScope N' [x] fr scope) (hfr : ∀ y ∈ fr, (y, NameKind.free) ∈ scope.names) (hjs : js.map (fun j => X.N[j]?) = fr.map some)
    (hr : Room (j + 3) X.A) (hg : Gl X "sorted") (hs : X.mg "sorted" = none) (ha : PA X (e :: []) ta)
    (hbody : ∀ (d f : Addr) (s' : Shared) (Hn : Hp), Room j (X.A.in1.in1.deeper (envF (LF.nf ⟨X.env.qual ++ "<lambda>", params, body, scope, cloFrom X.env.cells scope.names [], d⟩) f s'.heap.objs.size)) →
      PE (ncx CX0 X.prog X.w X.K X.mg X.base N' (LF.nf ⟨X.env.qual ++ "<lambda>", params, body, scope, cloFrom X.env.cells scope.names [], d⟩) f X.A.in1.in1 X.stack s' Hn E0) body tb)
    (hb : ∀ (d : Addr) (pm ctv v : Value), bindArgs (LF.fd ⟨X.env.qual ++ "<lambda>", params, body, scope, cloFrom X.env.cells scope.names [], d⟩ pm ctv) ⟨[v], []⟩ = pure [(x, v)])
    (hdef : defaultsOf params X.env = ([], []) := by rfl) (h1 : backTo pos (starEach (e :: []) X.env) = (false, eval e X.env) :: backTo pos (starEach [] X.env) := by rfl) (h2 : (backTo pos (starEach (e :: []) X.env)).any (·.1) = false := by rfl)
    (h3 : (backToKw pos (keywordEach [⟨some "key", .Lambda params body scope lpos, kpos⟩] X.env)).all (·.1.isSome) = true := by rfl) (h4 : (backToKw pos (keywordEach [⟨some "key", .Lambda params body scope lpos, kpos⟩] X.env)).any (·.1.isNone) = false := by rfl)
    (h5 : (backToKw pos (keywordEach [⟨some "key", .Lambda params body scope lpos, kpos⟩] X.env)).filterMap (·.1) = [Str.ofString "key"] := by rfl) :
    PE X (.Call (.Name "sorted" p) [e] [⟨some "key", .Lambda params body scope lpos, kpos⟩] pos) (tSK X.K T (fun d => ⟨X.env.qual ++ "<lambda>", params, body, scope, cloFrom X.env.cells scope.names [], d⟩) N' js tb ta) := by
  have lam := pe_lambda (T := T) (params := params) (body := body) (pos := lpos) TB hcode hm hn hu hfree hdef
  refine ⟨fun pins s σ H Q I h => ?_⟩
  refine wpAny_Call_Name_kw (ld_blt I hg hs (by decide +kernel : bootBuiltins "sorted" = some (.builtin "sorted")) ?_ (by decide) (by decide))
  refine PyProof.Rows.callWith_kw (thn (ha.run pos pins s σ H _ I h) fun us s1 z1 => ?_) h1 h2 h3 h4
  obtain ⟨vs, H1, I1, r1, y, ey, tab, go⟩ := z1
  refine thn ((pk_cons lam pk_nil).run pos pins s1 σ H1 (fun zs H2 => ∃ f c', zs = [.ref f] ∧ LamK T H1 _ f c' H2) I1 ⟨tab, fun f c' H2 L => s_nil ⟨f, c', rfl, L⟩⟩) fun ws s2 z2 => ?_
  obtain ⟨zs, H2, I2, r2, f, c', ez, L⟩ := z2
  subst ey ez
  rw [h5]
  obtain ⟨l, bs, k, rfl, hl, hz, hal, hsk, hd, runs, fin⟩ := go f c' H2 L
  cases r1 with
  | @cons _ u _ ur ra rr =>
    cases rr
    cases r2 with
    | @cons _ w _ wr rf rw' =>
      cases rw'
      obtain rfl : u = Value.ref l := ra
      obtain rfl : w = Value.ref f := rf
      have ri : Room (j + 1) X.A.in1.in1 := (Room.in1 (k := j + 2) hr).in1
      refine sorted_key_inv I2 hl hz hal hsk (fun b hb => ?_) (fun b u hb' ru s' Hn J sm => ?_) fun D s' Hn J sm n => ⟨.ref D, _, J, rfl, fin D Hn _ sm n (Same.new n) upd_same⟩
      · have := hd b hb
        have := ri.units
        omega
      · have e0 := J.env0
        have e1 : Env0 X.prog X.w X.K X.mg X.base X.A.in1.in1 X.stack s' Hn := ⟨e0.1, e0.mod, e0.bs, e0.bsz, e0.funs, e0.frf, e0.hok, e0.bare⟩
        have Lf := L.2.2.2.2.1
        have Lc := L.2.2.2.2.2
        exact lam_run (us := [u]) (vs := [.str b]) S (fun pm ctv xs hx => by
          match xs, hx with
          | [v], _ => exact hb c' pm ctv v) rfl ri e1 (sm _ _ Lf) (sm _ _ Lc) (cells_of J (Caps.made J.ok hfree hfr hjs)) (.cons ru .nil) (hbody c' f s' Hn (ri.deeper _)) (runs b hb' Hn sm)
end
end Bt
namespace Bt
open PySem PySem.Spec PyProof.Rows L2 LamX NdefX
open PySem.W (AllAlike Sortable dataLe dataLt alike)
/-! ### heaps that grow but for the tables of code objects -/
theorem ext_lst {H H' : Hp} {a : Addr} {xs : List V} (S : ExtN H H') (h : H a = some (.lst xs)) : H' a = some (.lst xs) := S _ _ h fun _ z => nomatch z
theorem ext_tup {H H' : Hp} {a : Addr} {xs : List V} (S : ExtN H H') (h : H a = some (.tup xs)) : H' a = some (.tup xs) := S _ _ h fun _ z => nomatch z
theorem ext_ins {H H' : Hp} {a C dx : Addr} {fs : List (Str × V)} (S : ExtN H H') (h : H a = some (.ins C dx fs)) : H' a = some (.ins C dx fs) := S _ _ h fun _ z => nomatch z
theorem ext_xd {H H' : Hp} {a : Addr} {fs : List (Str × V)} (S : ExtN H H') (h : H a = some (.xd fs)) : H' a = some (.xd fs) := S _ _ h fun _ z => nomatch z
theorem ext_same {H H' : Hp} (S : Same H H') : ExtN H H' := ExtN.of S
theorem SqT_monoN {K : PySem.W.Frag} {H H' : Hp} {a : Addr} {xs : List V} (e : ExtN H H') (h : SqT K H a xs) : SqT K H' a xs := by
  rcases h with (h | ⟨o, h⟩) | h
  · exact .inl (.inl (ext_tup e h))
  · exact .inl (.inr ⟨o, e _ _ h fun _ z => nomatch z⟩)
  · exact .inr h
theorem SqL_monoN {K : PySem.W.Frag} {H H' : Hp} {a : Addr} {xs : List V} (e : ExtN H H') (h : SqL K H a xs) : SqL K H' a xs := by
  rcases h with (h | ⟨o, h⟩) | h
  · exact .inl (.inl (ext_lst e h))
  · exact .inl (.inr ⟨o, e _ _ h fun _ z => nomatch z⟩)
  · exact .inr h
mutual
theorem Dp.monoN {K : PySem.W.Frag} {H H' : Hp} (S : ExtN H H') : ∀ {v : V} {d : PyData}, Dp K H v d → Dp K H' v d
  | _, _, .non => .non
  | _, _, .bl b => .bl b
  | _, _, .int i => .int i
  | _, _, .str x => .str x
  | _, _, .lst h r => .lst (SqL_monoN S h) (DpAll.monoN S r)
  | _, _, .tup h r => .tup (SqT_monoN S h) (DpAll.monoN S r)
theorem DpAll.monoN {K : PySem.W.Frag} {H H' : Hp} (S : ExtN H H') : ∀ {vs : List V} {ds : List PyData}, DpAll K H vs ds → DpAll K H' vs ds
  | _, _, .nil => .nil
  | _, _, .cons h r => .cons (Dp.monoN S h) (DpAll.monoN S r)
end
theorem TyX.monoN {K : PySem.W.Frag} {H H' : Hp} {x : V} {t : Value} (S : ExtN H H') (h : TyX K H x t) : TyX K H' x t := by
  cases h with
  | base b =>
    cases b with
    | non => exact .base .non
    | bl z => exact .base (.bl z)
    | int z => exact .base (.int z)
    | str z => exact .base (.str z)
    | flt z => exact .base (.flt z)
    | lst e => exact .base (.lst (ext_lst S e))
    | frz e => exact .base (.frz (S _ _ e fun _ z => nomatch z))
    | tup e => exact .base (.tup (ext_tup S e))
    | dK e => exact .base (.dK (S _ _ e fun _ z => nomatch z))
    | dT e => exact .base (.dT (S _ _ e fun _ z => nomatch z))
    | ins e cl ha hn htk hm => exact .base (.ins (ext_ins S e) cl ha hn htk hm)
  | byt b => exact .byt b
  | set e => exact .set (S _ _ e fun _ z => nomatch z)
  | kList e c => exact .kList e c
  | kTuple e c => exact .kTuple e c
  | kDict e c => exact .kDict e c
  | fTuple e => exact .fTuple (S _ _ e fun _ z => nomatch z)
  | fDict e => exact .fDict (S _ _ e fun _ z => nomatch z)
theorem Pl.monoN {K : PySem.W.Frag} {H H' : Hp} {x : V} {T : String} (S : ExtN H H') (h : Pl K H x T) : Pl K H' x T := ⟨TyX.monoN S h.1, h.2⟩
/-- a list's object is written: the tables stay -/
theorem TabsN.but {T : List NTab} {H H' : Hp} {p : Addr} {xs : List V} (t : TabsN T H) (hp : H p = some (.lst xs)) (B : But p H H') : TabsN T H' := by
  rintro ⟨P, nm⟩ hm
  obtain ⟨ps, h1, h2, h3⟩ := t _ hm
  have ne : ∀ {b : Addr} {o : HO}, H b = some o → o ≠ .lst xs → b ≠ p := fun e n z => by
    rw [z, hp] at e
    exact n (Option.some.inj e).symm
  refine ⟨ps, B _ _ (ne h1 fun z => nomatch z) h1, h2, fun pos cv hc => ?_⟩
  obtain ⟨c, e1, e2⟩ := h3 pos cv hc
  exact ⟨c, e1, B _ _ (ne e2 fun z => by
    have z' : HO.ext _ = HO.lst xs := z
    cases z') e2⟩
/-! ### a def whose code object is known -/
structure FunC (K : PySem.W.Frag) (x qual : Str) (st : Stmt) (f : Addr) (fd : FuncData) (c : Addr) : Prop where
  ex : ∃ (oc : Value) (od : Option Addr) (kV doc pm : Value) (an : Option Addr) (ct : Value) (osl : Array (Option Value)),
    fd = PySem.W.fnOf x qual (defArgs st) (defBody st) (defScope st) .none kV doc pm an (.ref c) ct ∧ K.lookup f = some ⟨oc, od, .func fd, osl⟩ ∧ PySem.W.codeIn K (.ref c) qual = true
  kp : PySem.W.keepIn K (.ref f) = true
section
variable {P : Program} {w : World} {K : PySem.W.Frag} {mg : Str → Option Value} {base : Heap} {x qual : Str} {st : Stmt} {f c : Addr} {fd : FuncData} {N ps : List Str} {k : Nat} {sp : Sp}
theorem FunC.fn (F : FunC K x qual st f fd c) : Fun K x qual st f fd := by
  obtain ⟨oc, od, kV, doc, pm, an, ct, osl, rfl, lk, hc⟩ := F.ex
  exact ⟨⟨oc, od, kV, doc, pm, an, .ref c, ct, osl, rfl, lk, hc⟩, F.kp⟩
theorem FunC.ok (F : FunC K x qual st f fd c) (S : FnScope N ps (defScope st)) (len : ∀ vs H Q E, sp vs H Q E → vs.length = ps.length)
    (hbody : ∀ (A : Around) (outer : List Env) (s : Shared) (H : Hp) (vs : List V) (Q : VK) (E : XK), Room k (A.deeper (envOfC qual (defScope st) s.heap.objs.size f (.ref c))) → sp vs H Q E →
      ∃ t, PSs (cxOf CX0 P w K mg base N qual (defScope st) f (.ref c) A outer s H E).nox (defBody st) t ∧ t { nx := fun _ H' => Q .non H', rt := Q } (start N vs) H) : FnOk P w K mg base CX0 (k + 1) f fd ps sp := by
  obtain ⟨oc, od, kV, doc, pm, an, ct, osl, rfl, lk, hc⟩ := F.ex
  refine fn_of lk hc S len fun A outer s H vs Q E hr hs => ?_
  obtain ⟨t, h, q⟩ := hbody A outer s H vs Q E hr hs
  exact ⟨t, h.nox, q⟩
theorem FunC.okX (F : FunC K x qual st f fd c) (S : FnScope N ps (defScope st)) (len : ∀ vs H Q E, sp vs H Q E → vs.length = ps.length)
    (hbody : ∀ (A : Around) (outer : List Env) (s : Shared) (H : Hp) (vs : List V) (Q : VK) (E : XK), Room k (A.deeper (envOfC qual (defScope st) s.heap.objs.size f (.ref c))) → sp vs H Q E →
      ∃ t, PSs (cxOf (L2.CX P w) P w K mg base N qual (defScope st) f (.ref c) A outer s H E) (defBody st) t ∧ t { nx := fun _ H' => Q .non H', rt := Q } (start N vs) H) : FnOk P w K mg base (L2.CX P w) (k + 1) f fd ps sp := by
  obtain ⟨oc, od, kV, doc, pm, an, ct, osl, rfl, lk, hc⟩ := F.ex
  exact fn_of lk hc S len hbody
end
/-! ### keys of two kinds that sort alike -/
def kTup (g : Str → Int) (r : Str → List Int) (z : Str) : PyData := .tuple [.int (g z), .tuple ((r z).map .int)]
def kLst (g : Str → Int) (r : Str → List Int) (z : Str) : PyData := .tuple [.int (g z), .list ((r z).map .int)]
section
variable {g : Str → Int} {r : Str → List Int} {bs : List Str}
theorem alike_tup (xs ys : List Int) : alike (.tuple (xs.map .int)) (.tuple (ys.map .int)) = true := by simp [alike, PySem.W.alike_ints]
theorem alike_lst (xs ys : List Int) : alike (.list (xs.map .int)) (.list (ys.map .int)) = true := by simp [alike, PySem.W.alike_ints]
theorem kTup_alike : AllAlike (bs.map (kTup g r)) := AllAlike.of fun b b' => by
  show alike (.tuple [.int (g b), .tuple ((r b).map .int)]) (.tuple [.int (g b'), .tuple ((r b').map .int)]) = true
  rw [alike, PySem.W.alikeAll, PySem.W.alikeAll, alike_tup]
  simp [alike, PySem.W.alikeAll]
theorem kLst_alike : AllAlike (bs.map (kLst g r)) := AllAlike.of fun b b' => by
  show alike (.tuple [.int (g b), .list ((r b).map .int)]) (.tuple [.int (g b'), .list ((r b').map .int)]) = true
  rw [alike, PySem.W.alikeAll, PySem.W.alikeAll, alike_lst]
  simp [alike, PySem.W.alikeAll]
theorem kTup_sort : Sortable (bs.map (kTup g r)) := Sortable.tuples fun b => ⟨_, _, rfl⟩
theorem kLst_sort : Sortable (bs.map (kLst g r)) := Sortable.tuples fun b => ⟨_, _, rfl⟩
theorem kTup_depth (z : Str) : (kTup g r z).depth ≤ 8 := by
  show PyData.depth (.tuple [.int (g z), .tuple ((r z).map .int)]) ≤ 8
  simp only [PyData.depth, PyData.depthAll, PySem.W.depth_ints]
  decide
theorem kLst_depth (z : Str) : (kLst g r z).depth ≤ 8 := by
  show PyData.depth (.tuple [.int (g z), .list ((r z).map .int)]) ≤ 8
  simp only [PyData.depth, PyData.depthAll, PySem.W.depth_ints]
  decide
theorem key_lt (z z' : Str) : dataLt (kTup g r z) (kTup g r z') = dataLt (kLst g r z) (kLst g r z') := by
  unfold kTup kLst
  rw [PySem.W.dataLt_pair (by simp [alike]) (alike_tup _ _), PySem.W.dataLt_pair (by simp [alike]) (alike_lst _ _)]
  have e1 : PyData.eqv (.tuple ((r z).map .int)) (.tuple ((r z').map .int)) = PyData.eqv (.list ((r z).map .int)) (.list ((r z').map .int)) := by simp [PyData.eqv]
  have e2 : dataLt (.tuple ((r z).map .int)) (.tuple ((r z').map .int)) = dataLt (.list ((r z).map .int)) (.list ((r z').map .int)) := by rw [PySem.W.dataLt_tuple, PySem.W.dataLt_list]
  rw [e1, e2]
theorem key_le : dataLe false (kTup g r) = dataLe false (kLst g r) := by
  rw [PySem.W.dataLe_eq, PySem.W.dataLe_eq]
  funext a b
  show (!dataLt (kTup g r b) (kTup g r a)) = (!dataLt (kLst g r b) (kLst g r a))
  rw [key_lt]
end
end Bt
namespace Bt
open PySem PySem.Spec PyProof.Rows L2
/-! ### o.m(e, ..), m may raise: what is raised is wished for at the caller's slots -/
section
variable {X : Cx} {CX : CXT} {k : Nat} {C g : Addr} {fd : FuncData} {ps : List Str} {sp : Sp} {E : L2.St → XK} {pos apos : Pos} {o e : Expr} {es : List Expr} {to : TE} {t : TA} {m : Str}
def tMethE (C : Addr) (m : Str) (sp : Sp) (E : L2.St → XK) (to : TE) (t : TA) : TE := fun σ H Q => to σ H fun y H1 => ∃ a dx fs, y = V.ref a ∧ H1 a = some (.ins C dx fs) ∧ fs.lookup m = none ∧ t σ H1 fun vs H2 => sp (V.ref a :: vs) H2 Q (E σ)
theorem pe_methE {pl : Sem Bool} (ho : PE X o to) (c : Cls X.K C) (hm : Meth X.K C m g) (F : FnOk X.prog X.w X.K X.mg X.base CX k g fd ps sp) (hr : Room k X.A) (hb : Binds X.K fd ps []) (hx : ∀ σ, PassesAt CX X σ (E σ)) (ha : PA X (e :: es) t)
    (ht : eval (.Call (.Attribute o m apos) (e :: es) [] pos) X.env = (do
      let y ← eval o X.env
      standAt apos.atName
      let (f, first) ← holding [y] (getMethod y m pl)
      callWith pos f first (backTo pos (starEach (e :: es) X.env)) (backToKw pos (keywordEach [] X.env))) := by rfl)
    (hst : starEach (e :: es) X.env = (false, eval e X.env) :: starEach es X.env := by rfl) (hpl : (backTo pos (starEach es X.env)).any (·.1) = false := by rfl) :
    PE X (.Call (.Attribute o m apos) (e :: es) [] pos) (tMethE C m sp E to t) := by
  refine ⟨fun pins s σ H Q I h => ?_⟩
  refine PySem.W.methodCall_KW (pl := pl) (thn (ho.run pins s σ H _ I h) fun u s1 z => ?_) ht
  obtain ⟨y, H1, I1, ry, a, dx, fs, ey, ea, l, q⟩ := z
  subst ey
  obtain rfl : u = Value.ref a := ry
  refine getmeth_ok I1 ea c hm l (PySem.W.callWith_K (first := [.ref a]) (h₀ := X.base) I.ok.mod.kin hm.kp (thn (ha.run pos pins s1 σ H1 _ I1 q) fun us s2 z2 => ?_) hst hpl)
  obtain ⟨vs, H2, I2, r, q2⟩ := z2
  refine ⟨I2.kIn, ?_⟩
  exact run_fnSD (us := .ref a :: us) (vs := .ref a :: vs) (dvs := []) F hr hb .nil (hx σ) I2 (.cons rfl r) (by rw [List.append_nil]; exact q2)
theorem s_methE {σ : L2.St} {H : Hp} {Q : VK} (h : to σ H fun y H1 => ∃ a dx fs, y = V.ref a ∧ H1 a = some (.ins C dx fs) ∧ fs.lookup m = none ∧ t σ H1 fun vs H2 => sp (V.ref a :: vs) H2 Q (E σ)) : tMethE C m sp E to t σ H Q := h
end
end Bt
namespace Bt
open PySem PySem.Spec PyProof.Rows L2
open PySem.W (dataLt alike)
/-! ### a < b of data that are alike -/
def rLtD (K : PySem.W.Frag) : R2 := fun x y H Q => ∃ d e, Dp K H x d ∧ Dp K H y e ∧ alike d e = true ∧ d ≠ .none ∧ d.depth ≤ 60 ∧ Q (.bl (dataLt d e)) H
theorem op_ltD {X : Cx} (hu : X.A.units + 64 < cLine) : OpR X (compareOp .Lt) (rLtD X.K) := by
  intro pins s σ H x y v u Q I rx ry h
  obtain ⟨d, e, dx, dy, al, nn, dp, q⟩ := h
  obtain ⟨as, r1⟩ := Dp.reads I d x v dx rx
  obtain ⟨bs, r2⟩ := Dp.reads I e y u dy ry
  show wpAny (model X.prog X.w) X.A (richCompare .Lt v u) (EP X pins σ Q) X.xe s
  exact PySem.W.rcLt_alike d e X.A s v u as bs r1 r2 al nn (by omega) X.prog X.w _ _ ⟨.bl _, H, I, rfl, q⟩
theorem q_ltD {K : PySem.W.Frag} {x y : V} {H : Hp} {Q : VK} {d e : PyData} (dx : Dp K H x d) (dy : Dp K H y e) (al : alike d e = true) (nn : d ≠ .none) (dp : d.depth ≤ 60) (q : Q (.bl (dataLt d e)) H) : rLtD K x y H Q := ⟨d, e, dx, dy, al, nn, dp, q⟩
end Bt
namespace Bt
open PySem PySem.Spec PyProof.Rows L2
def top (i : Nat) : Stmt := PySem.Challenge.pw_betweenlists_k21_demands_joined.main.body.getD i (.Pass ⟨0, 0, 0, 0⟩)
abbrev s__wall : Stmt := top 0
theorem sc__wall : FnScope ["k"] ["k"] (defScope s__wall) := ⟨rfl, rfl, rfl, by decide +kernel, rfl, by decide +kernel, by decide +kernel⟩
abbrev s_InvalidPlace___init__ : Stmt := inClass (top 3) 0
theorem sc_InvalidPlace___init__ : FnScope ["self", "value"] ["self", "value"] (defScope s_InvalidPlace___init__) := ⟨rfl, rfl, rfl, by decide +kernel, rfl, by decide +kernel, by decide +kernel⟩
abbrev s_InvalidRules___init__ : Stmt := inClass (top 4) 0
theorem sc_InvalidRules___init__ : FnScope ["self", "value"] ["self", "value"] (defScope s_InvalidRules___init__) := ⟨rfl, rfl, rfl, by decide +kernel, rfl, by decide +kernel, by decide +kernel⟩
abbrev s_InvalidDemand___init__ : Stmt := inClass (top 5) 0
theorem sc_InvalidDemand___init__ : FnScope ["self", "value"] ["self", "value"] (defScope s_InvalidDemand___init__) := ⟨rfl, rfl, rfl, by decide +kernel, rfl, by decide +kernel, by decide +kernel⟩
abbrev s_is_whole : Stmt := top 9
theorem sc_is_whole : FnScope ["value"] ["value"] (defScope s_is_whole) := ⟨rfl, rfl, rfl, by decide +kernel, rfl, by decide +kernel, by decide +kernel⟩
abbrev s_is_name : Stmt := top 10
theorem sc_is_name : FnScope ["value", "letter"] ["value"] (defScope s_is_name) := ⟨rfl, rfl, rfl, by decide +kernel, rfl, by decide +kernel, by decide +kernel⟩
abbrev s_is_place : Stmt := top 11
theorem sc_is_place : FnScope ["value"] ["value"] (defScope s_is_place) := ⟨rfl, rfl, rfl, by decide +kernel, rfl, by decide +kernel, by decide +kernel⟩
abbrev s_check_place : Stmt := top 13
theorem sc_check_place : FnScope ["value"] ["value"] (defScope s_check_place) := ⟨rfl, rfl, rfl, by decide +kernel, rfl, by decide +kernel, by decide +kernel⟩
abbrev s__is_renaming : Stmt := top 15
theorem sc__is_renaming : FnScope ["value"] ["value"] (defScope s__is_renaming) := ⟨rfl, rfl, rfl, by decide +kernel, rfl, by decide +kernel, by decide +kernel⟩
abbrev s__are_renamings : Stmt := top 16
theorem sc__are_renamings : FnScope ["value", "item"] ["value"] (defScope s__are_renamings) := ⟨rfl, rfl, rfl, by decide +kernel, rfl, by decide +kernel, by decide +kernel⟩
abbrev s__in_reach : Stmt := top 17
theorem sc__in_reach : FnScope ["across", "renaming", "one", "other"] ["across", "renaming"] (defScope s__in_reach) := ⟨rfl, rfl, rfl, by decide +kernel, rfl, by decide +kernel, by decide +kernel⟩
abbrev s__check_rules : Stmt := top 18
theorem sc__check_rules : FnScope ["value"] ["value"] (defScope s__check_rules) := ⟨rfl, rfl, rfl, by decide +kernel, rfl, by decide +kernel, by decide +kernel⟩
abbrev s_rules_from : Stmt := top 19
theorem sc_rules_from : FnScope ["value"] ["value"] (defScope s_rules_from) := ⟨rfl, rfl, rfl, by decide +kernel, rfl, by decide +kernel, by decide +kernel⟩
abbrev s_Rules___init__ : Stmt := inClass (top 20) 0
theorem sc_Rules___init__ : FnScope ["self", "across", "barred", "given", "renaming"] ["self", "across", "barred"] (defScope s_Rules___init__) := ⟨rfl, rfl, rfl, by decide +kernel, rfl, by decide +kernel, by decide +kernel⟩
abbrev s_Rules_across : Stmt := inClass (top 20) 1
theorem sc_Rules_across : FnScope ["self"] ["self"] (defScope s_Rules_across) := ⟨rfl, rfl, rfl, by decide +kernel, rfl, by decide +kernel, by decide +kernel⟩
abbrev s_Rules_barred : Stmt := inClass (top 20) 2
theorem sc_Rules_barred : FnScope ["self"] ["self"] (defScope s_Rules_barred) := ⟨rfl, rfl, rfl, by decide +kernel, rfl, by decide +kernel, by decide +kernel⟩
abbrev s_Rules___call__ : Stmt := inClass (top 20) 3
theorem sc_Rules___call__ : FnScope ["self", "one", "other"] ["self", "one", "other"] (defScope s_Rules___call__) := ⟨rfl, rfl, rfl, by decide +kernel, rfl, by decide +kernel, by decide +kernel⟩
abbrev s_Rules__allows : Stmt := inClass (top 20) 4
theorem sc_Rules__allows : FnScope ["self", "renaming"] ["self", "renaming"] (defScope s_Rules__allows) := ⟨rfl, rfl, rfl, by decide +kernel, rfl, by decide +kernel, by decide +kernel⟩
abbrev s_Rules___eq__ : Stmt := inClass (top 20) 5
theorem sc_Rules___eq__ : FnScope ["self", "other"] ["self", "other"] (defScope s_Rules___eq__) := ⟨rfl, rfl, rfl, by decide +kernel, rfl, by decide +kernel, by decide +kernel⟩
abbrev s_Rules___and__ : Stmt := inClass (top 20) 6
theorem sc_Rules___and__ : FnScope ["self", "other"] ["self", "other"] (defScope s_Rules___and__) := ⟨rfl, rfl, rfl, by decide +kernel, rfl, by decide +kernel, by decide +kernel⟩
abbrev s_Rules___or__ : Stmt := inClass (top 20) 7
theorem sc_Rules___or__ : FnScope ["self", "other", "given", "barred", "renaming"] ["self", "other"] (defScope s_Rules___or__) := ⟨rfl, rfl, rfl, by decide +kernel, rfl, by decide +kernel, by decide +kernel⟩
abbrev s_Rules_within : Stmt := inClass (top 20) 8
theorem sc_Rules_within : FnScope ["self", "other", "renaming"] ["self", "other"] (defScope s_Rules_within) := ⟨rfl, rfl, rfl, by decide +kernel, rfl, by decide +kernel, by decide +kernel⟩
abbrev s_Rules_turned : Stmt := inClass (top 20) 9
theorem sc_Rules_turned : FnScope ["self"] ["self"] (defScope s_Rules_turned) := ⟨rfl, rfl, rfl, by decide +kernel, rfl, by decide +kernel, by decide +kernel⟩
abbrev s_is_demand : Stmt := top 22
theorem sc_is_demand : FnScope ["value", "place", "begin", "end", "way"] ["value"] (defScope s_is_demand) := ⟨rfl, rfl, rfl, by decide +kernel, rfl, by decide +kernel, by decide +kernel⟩
abbrev s__check_demand : Stmt := top 23
theorem sc__check_demand : FnScope ["value"] ["value"] (defScope s__check_demand) := ⟨rfl, rfl, rfl, by decide +kernel, rfl, by decide +kernel, by decide +kernel⟩
abbrev s__windows_meet : Stmt := top 24
theorem sc__windows_meet : FnScope ["one", "other"] ["one", "other"] (defScope s__windows_meet) := ⟨rfl, rfl, rfl, by decide +kernel, rfl, by decide +kernel, by decide +kernel⟩
abbrev s_one_does_both : Stmt := top 25
theorem sc_one_does_both : FnScope ["gone", "come", "rules"] ["gone", "come", "rules"] (defScope s_one_does_both) := ⟨rfl, rfl, rfl, by decide +kernel, rfl, by decide +kernel, by decide +kernel⟩
abbrev s_can_be_one : Stmt := top 26
theorem sc_can_be_one : FnScope ["one", "other", "rules", "given", "gone", "come"] ["one", "other", "rules"] (defScope s_can_be_one) := ⟨rfl, rfl, rfl, by decide +kernel, rfl, by decide +kernel, by decide +kernel⟩
abbrev s__law_purse : Stmt := top 28
theorem sc__law_purse : FnScope ["_law_script", "_law_at", "_law_cell"] ["_law_script", "_law_at"] (defScope s__law_purse) := ⟨rfl, rfl, rfl, by decide +kernel, rfl, by decide +kernel, by decide +kernel⟩
abbrev s__law_draw : Stmt := top 29
theorem sc__law_draw : FnScope ["_law_purse_here", "_law_many", "_law_drawn", "_law_number"] ["_law_purse_here", "_law_many"] (defScope s__law_draw) := ⟨rfl, rfl, rfl, by decide +kernel, rfl, by decide +kernel, by decide +kernel⟩
abbrev s__law_name : Stmt := top 30
theorem sc__law_name : FnScope ["_law_purse_here", "_law_name_here", "_law_turn"] ["_law_purse_here"] (defScope s__law_name) := ⟨rfl, rfl, rfl, by decide +kernel, rfl, by decide +kernel, by decide +kernel⟩
abbrev s__law_names : Stmt := top 31
theorem sc__law_names : FnScope ["_law_purse_here", "_law_many", "_law_names_here", "_law_turn", "_law_name_here"] ["_law_purse_here", "_law_many"] (defScope s__law_names) := ⟨rfl, rfl, rfl, by decide +kernel, rfl, by decide +kernel, by decide +kernel⟩
abbrev s__law_world : Stmt := top 32
theorem sc__law_world : FnScope ["_law_purse_here", "_law_folders", "_law_names_here", "_law_places", "_law_folder", "_law_name_here"] ["_law_purse_here"] (defScope s__law_world) := ⟨rfl, rfl, rfl, by decide +kernel, rfl, by decide +kernel, by decide +kernel⟩
abbrev s__law_allowed : Stmt := top 33
theorem sc__law_allowed : FnScope ["_law_book", "_law_one", "_law_other"] ["_law_book", "_law_one", "_law_other"] (defScope s__law_allowed) := ⟨rfl, rfl, rfl, by decide +kernel, rfl, by decide +kernel, by decide +kernel⟩
abbrev s__law_joins : Stmt := top 34
theorem sc__law_joins : FnScope ["_law_one", "_law_other", "_law_book"] ["_law_one", "_law_other", "_law_book"] (defScope s__law_joins) := ⟨rfl, rfl, rfl, by decide +kernel, rfl, by decide +kernel, by decide +kernel⟩
abbrev s__law_rules : Stmt := top 35
theorem sc__law_rules : FnScope ["_law_purse_here", "_law_places", "_law_wide", "_law_closed", "_law_turn", "_law_one", "_law_other"] ["_law_purse_here", "_law_places"] (defScope s__law_rules) := ⟨rfl, rfl, rfl, by decide +kernel, rfl, by decide +kernel, by decide +kernel⟩
abbrev s__law_rules_made : Stmt := top 36
theorem sc__law_rules_made : FnScope ["_law_book"] ["_law_book"] (defScope s__law_rules_made) := ⟨rfl, rfl, rfl, by decide +kernel, rfl, by decide +kernel, by decide +kernel⟩
abbrev s__law_demand : Stmt := top 37
theorem sc__law_demand : FnScope ["_law_purse_here", "_law_places", "_law_begin", "_law_length"] ["_law_purse_here", "_law_places"] (defScope s__law_demand) := ⟨rfl, rfl, rfl, by decide +kernel, rfl, by decide +kernel, by decide +kernel⟩
abbrev s__law_raised : Stmt := top 38
theorem sc__law_raised : FnScope ["_law_one", "_law_other", "_law_book", "_law_found", "e"] ["_law_one", "_law_other", "_law_book"] (defScope s__law_raised) := ⟨rfl, rfl, rfl, by decide +kernel, rfl, by decide +kernel, by decide +kernel⟩
abbrev s__law_bad : Stmt := top 39
theorem sc__law_bad : FnScope ["_law_one", "_law_place", "_law_begin", "_law_end", "_law_way", "_law_bad_here", "_law_odd"] ["_law_one"] (defScope s__law_bad) := ⟨rfl, rfl, rfl, by decide +kernel, rfl, by decide +kernel, by decide +kernel⟩
abbrev s__law_right : Stmt := top 40
theorem sc__law_right : FnScope ["_law_one", "_law_other", "_law_book", "_law_due", "_law_pair", "_law_found"] ["_law_one", "_law_other", "_law_book"] (defScope s__law_right) := ⟨rfl, rfl, rfl, by decide +kernel, rfl, by decide +kernel, by decide +kernel⟩
abbrev s_law : Stmt := top 41
theorem sc_law : FnScope ["_law_script", "_law_at", "_law_purse_here", "_law_places", "_law_books", "_law_some", "_law_one", "_law_other", "_law_value", "_law_pair", "_law_turn", "_law_book"] ["_law_script"] (defScope s_law) := ⟨rfl, rfl, rfl, by decide +kernel, rfl, by decide +kernel, by decide +kernel⟩
theorem words_ : True := by
  k_with "s_P21" => first
    | ((with_reducible refine' s_var ?hv ?_); (case hv => exact rfl))
    | with_reducible first
      | refine' s_c ?_ | refine' s_op ?_ | refine' s_asg ?_ | refine' s_gname ?_ | refine' s_seq ?_ | refine' s_next ?_ | refine' s_ret ?_ | refine' s_ifS ?_ | refine' s_drop ?_ | refine' s_retN ?_
      | refine' s_test ?_ | refine' s_B ?_ | refine' q_test ?_ | refine' s_int ?_ | refine' s_cons ?_ | refine' s_nil ?_ | refine' s_call ?_ | refine' s_CB ?_ | refine' s_andT ?_ | refine' s_orT ?_ | refine' s_notT ?_
      | refine' s_andV ?_ | refine' s_orV ?_ | refine' s_notV ?_ | refine' s_ifV ?_ | refine' s_chain ?_ | refine' s_sl ?_ | refine' s_noPart ?_ | refine' s_part ?_ | refine' s_gsub ?_ | refine' s_BM ?_ | refine' s_tup ?_ | refine' s_lst ?_
      | refine' q_add ?_ | refine' q_sub ?_ | refine' q_lt ?_ | refine' q_le ?_ | refine' q_gt ?_ | refine' q_ge ?_ | refine' s_ifT ?_ | refine' s_ifF ?_
      | (refine' q_mod ?hm ?_; (case hm => first | omega | decide)) | (refine' q_fdiv ?hm ?hn ?_; (case hm => first | omega | decide); (case hn => first | omega | decide))
      | (refine' q_mulR ?hm ?_; (case hm => first | omega | decide)) | (refine' q_mulL ?hm ?_; (case hm => first | omega | decide))
    | dsimp only
  k_with "r_P21" => repeat (k_extra "s_P21")
  trivial
structure Txt (K : PySem.W.Frag) (mg : Str → Option Value) : Prop where
  n_isinstance : mg "isinstance" = none
  n_int : mg "int" = none
  n_bool : mg "bool" = none
  n_str : mg "str" = none
  n_sorted : mg "sorted" = none
  v_LETTERS : ∃ t, mg "LETTERS" = some (.str alphaS t)
  n_tuple : mg "tuple" = none
  n_list : mg "list" = none
  n_set : mg "set" = none
  d_is_whole : Df K mg "is_whole" s_is_whole ["value"]
section
variable {P : Program} {w : World} {K : PySem.W.Frag} {mg : Str → Option Value} {base : Heap}
/-! ### is_whole -/
def wholeV : V → Bool
  | .int _ => true
  | _ => false
def spWhole (K : PySem.W.Frag) : Sp := fun vs H Q _ => ∃ x T, vs = [x] ∧ Pl K H x T ∧ Q (.bl (T == "int")) H
theorem ok_is_whole (T : Txt K mg) : Cal P w K mg base 1 "is_whole" (spWhole K) := by
  refine T.d_is_whole.cal sc_is_whole (fun vs H Q E h => ?_) (fun f cdv A outer s H vs Q E hr h => ?_)
  · obtain ⟨x, T, rfl, _⟩ := h
    rfl
  · obtain ⟨x, ty, rfl, hx, k⟩ := h
    refine ⟨_, (pss_one (ps_ret (pe_and (pe_callB call_isi (by rfl) T.n_isinstance (by decide +kernel) (pa_cons (pv 0) (pa_cons (pe_bltn (v := .ty "int") (by rfl) T.n_int (by decide +kernel) rfl) pa_nil))) (pe_one (pe_not (pe_callB call_isi (by rfl) T.n_isinstance (by decide +kernel) (pa_cons (pv 0) (pa_cons (pe_bltn (v := .ty "bool") (by rfl) T.n_bool (by decide +kernel) rfl) pa_nil)))))))), ?_⟩
    k_extra "r_P21"
    refine q_isi hx .int ?_
    k_extra "r_P21"
    cases hx.2 <;> k_extra "r_P21" <;> first | exact k | (refine s_if (fun _ => ?_) (fun z => absurd z (by decide)); k_extra "r_P21"; refine q_isi hx .bl ?_; k_extra "r_P21"; exact k)
end
end Bt
namespace Bt
open PySem PySem.Spec PyProof.Rows L2
theorem words2_ : True := by
  k_with "s_D21" => first
    | ((with_reducible refine' s_var ?hv ?_); (case hv => exact rfl))
    | with_reducible first
      | refine' s_c ?_ | refine' s_op ?_ | refine' s_asg ?_ | refine' s_gname ?_ | refine' s_seq ?_ | refine' s_next ?_ | refine' s_ret ?_ | refine' s_ifS ?_ | refine' s_drop ?_ | refine' s_retN ?_
      | refine' s_test ?_ | refine' s_B ?_ | refine' q_test ?_ | refine' s_int ?_ | refine' s_cons ?_ | refine' s_nil ?_ | refine' s_call ?_ | refine' s_CB ?_ | refine' s_andT ?_ | refine' s_orT ?_ | refine' s_notT ?_
      | refine' s_andV ?_ | refine' s_orV ?_ | refine' s_notV ?_ | refine' s_ifV ?_ | refine' s_chain ?_ | refine' s_sl ?_ | refine' s_noPart ?_ | refine' s_part ?_ | refine' s_gsub ?_ | refine' s_BM ?_ | refine' s_tup ?_ | refine' s_lst ?_
      | refine' q_add ?_ | refine' q_sub ?_ | refine' q_lt ?_ | refine' q_le ?_ | refine' q_gt ?_ | refine' q_ge ?_ | refine' s_ifT ?_ | refine' s_ifF ?_
      | (refine' q_mod ?hm ?_; (case hm => first | omega | decide)) | (refine' q_fdiv ?hm ?hn ?_; (case hm => first | omega | decide); (case hn => first | omega | decide))
      | (refine' q_mulR ?hm ?_; (case hm => first | omega | decide)) | (refine' q_mulL ?hm ?_; (case hm => first | omega | decide))
    | dsimp only
  k_with "r_D21" => repeat (k_extra "s_D21")
  trivial
/-! ### the purse -/
def Purse (H : Hp) (p : Addr) : Prop := ∃ a b c : Int, H p = some (.lst [.int a, .int b, .int c]) ∧ 0 ≤ b ∧ b < 2147483629
theorem Purse.mono {H H' : Hp} {p : Addr} (S : Same H H') (h : Purse H p) : Purse H' p := let ⟨a, b, c, e, h⟩ := h; ⟨a, b, c, S _ _ e, h⟩
def spDraw : Sp := fun vs H Q _ => ∃ (p : Addr) (m : Int), vs = [.ref p, .int m] ∧ Purse H p ∧ 0 < m ∧ m < 1073741824 ∧ ∀ n H', 0 ≤ n → n < m → Purse H' p → But p H H' → Q (.int n) H'
structure TxtL (K : PySem.W.Frag) (mg : Str → Option Value) : Prop where
  n_range : mg "range" = none
  n_sum : mg "sum" = none
  d__law_purse : Df K mg "_law_purse" s__law_purse ["_law_script", "_law_at"]
  d__law_draw : Df K mg "_law_draw" s__law_draw ["_law_purse_here", "_law_many"]
section
variable {P : Program} {w : World} {K : PySem.W.Frag} {mg : Str → Option Value} {base : Heap}
theorem ok__law_draw (L : TxtL K mg) : Cal P w K mg base 1 "_law_draw" spDraw := by
  refine L.d__law_draw.cal sc__law_draw (fun vs H Q E h => ?_) (fun f cdv A outer s H vs Q E hr h => ?_)
  · obtain ⟨p, m, rfl, _⟩ := h
    rfl
  · obtain ⟨p, m, rfl, ⟨a, b, c, hp, b0, b1⟩, m0, m1, k⟩ := h
    refine ⟨_, (pss_cons (ps_if (pt_cmpR op_gtI (pe_ix ix_seq (pv 0) pe_int (fun _ _ => rfl)) pe_int (by rfl)) (pss_cons (ps_set (i := 2) sc__law_draw.nd rfl (.inl rfl) (pe_op op_modU (pe_ix ix_seq (pv 0) pe_int (fun _ _ => rfl)) (pv 1)))
        (pss_cons (ps_asg (pe_op op_fdivU (pe_ix ix_seq (pv 0) pe_int (fun _ _ => rfl)) (pv 1)) (pg_sub (pv 0) pe_int set_list))
        (pss_one (ps_ret (pv 2))))) pss_nil)
      (pss_cons (ps_asg (pe_op op_addU (pe_ix ix_seq (pv 0) pe_int (fun _ _ => rfl)) pe_int) (pg_sub (pv 0) pe_int set_list))
      (pss_cons (ps_set (i := 3) sc__law_draw.nd rfl (.inl rfl) (pe_op op_modU (pe_op op_addU (pe_op op_addU (pe_op op_mulU (pe_ix ix_seq (pv 0) pe_int (fun _ _ => rfl)) pe_int) (pe_op op_mulU (pe_ix ix_seq (pv 0) pe_int (fun _ _ => rfl)) pe_int)) pe_int) pe_int))
      (pss_cons (ps_set (i := 3) sc__law_draw.nd rfl (.inl rfl) (pe_op op_modU (pe_op op_addU (pe_op op_mulU (pv 3) (pv 3)) (pe_ix ix_seq (pv 0) pe_int (fun _ _ => rfl))) pe_int))
      (pss_cons (ps_set (i := 3) sc__law_draw.nd rfl (.inl rfl) (pe_op op_modU (pe_op op_addU (pe_op op_mulU (pv 3) (pv 3)) pe_int) pe_int))
      (pss_one (ps_ret (pe_op op_modU (pe_op op_fdivU (pv 3) pe_int) (pv 1))))))))), ?_⟩
    k_extra "r_D21"
    refine q_ixL (SqL.of hp) (at_of (j := 0) rfl rfl) ?_
    k_extra "r_D21"
    refine s_ifD (fun c0 => ?_) (fun c0 => ?_)
    · k_extra "r_D21"
      refine q_ixL (SqL.of hp) (at_of (j := 0) rfl rfl) ?_
      k_extra "r_D21"
      refine q_ixL (SqL.of hp) (at_of (j := 0) rfl rfl) ?_
      k_extra "r_D21"
      refine q_setL hp rfl ?_
      k_extra "r_D21"
      exact k _ _ (Int.emod_nonneg _ (by omega)) (Int.emod_lt_of_pos _ m0) ⟨_, _, _, upd_same, b0, b1⟩ But.upd
    · k_extra "r_D21"
      refine q_ixL (SqL.of hp) (at_of (j := 2) rfl rfl) ?_
      k_extra "r_D21"
      refine q_setL hp rfl ?_
      have hp2 : (upd H p (.lst ([V.int a, V.int b, V.int c].set 2 (.int (c + 1))))) p = some (.lst [.int a, .int b, .int (c + 1)]) := upd_same
      k_extra "r_D21"
      refine q_ixL (SqL.of hp2) (at_of (j := 1) rfl rfl) ?_
      k_extra "r_D21"
      refine q_ixL (SqL.of hp2) (at_of (j := 2) rfl rfl) ?_
      k_extra "r_D21"
      have g1 := Int.emod_nonneg (b * 48271 + (c + 1) * 1299709 + 907) (show (2147483629 : Int) ≠ 0 by decide)
      have g2 := Int.emod_lt_of_pos (b * 48271 + (c + 1) * 1299709 + 907) (show (0 : Int) < 2147483629 by decide)
      generalize (b * 48271 + (c + 1) * 1299709 + 907) % 2147483629 = x1 at g1 g2 ⊢
      k_extra "r_D21"
      refine q_ixL (SqL.of hp2) (at_of (j := 2) rfl rfl) ?_
      k_extra "r_D21"
      have g3 := Int.emod_nonneg (x1 * x1 + (c + 1)) (show (2147483587 : Int) ≠ 0 by decide)
      have g4 := Int.emod_lt_of_pos (x1 * x1 + (c + 1)) (show (0 : Int) < 2147483587 by decide)
      generalize (x1 * x1 + (c + 1)) % 2147483587 = x2 at g3 g4 ⊢
      k_extra "r_D21"
      exact k _ _ (Int.emod_nonneg _ (by omega)) (Int.emod_lt_of_pos _ m0) ⟨_, _, _, hp2, b0, b1⟩ But.upd
theorem cutV_ints {ns : List Int} {lo hi : Option Int} : ∃ ms : List Int, cutV (ns.map V.int) lo hi = ms.map V.int := ⟨_, by unfold cutV; rw [← List.map_drop, ← List.map_take]⟩
theorem big_pos : (0 : Int) < ((10 : Int) ^ (60 : Int).toNat) ^ (10 : Int).toNat := Int.pow_pos (Int.pow_pos (by decide))
def spPurse (K : PySem.W.Frag) : Sp := fun vs H Q _ => ∃ (a : Addr) (ns : List Int) (k : Int), vs = [.ref a, .int k] ∧ SqL K H a (ns.map V.int) ∧ 0 ≤ k ∧ k < 1000 ∧ ∀ p H', H p = none → Same H H' → Purse H' p → Q (.ref p) H'
theorem ok__law_purse (T : Txt K mg) (L : TxtL K mg) : Cal P w K mg base 1 "_law_purse" (spPurse K) := by
  refine L.d__law_purse.cal sc__law_purse (fun vs H Q E h => ?_) (fun f cdv A outer s H vs Q E hr h => ?_)
  · obtain ⟨a, ns, k, rfl, _⟩ := h
    rfl
  · obtain ⟨a, ns, at_, rfl, hs, k0, k1, k⟩ := h
    refine ⟨_, (pss_cons (ps_set (i := 2) sc__law_purse.nd rfl (.inl rfl) (pe_callTy call_int1 (by rfl) T.n_int (by decide +kernel) (pa_cons (pe_callB (cr_sum rfl) (by rfl) L.n_sum (by decide +kernel) (pa_cons (pe_slice sl_list (pv 0) (po_some (pv 1)) (po_some (pe_op op_addU (pv 1) pe_int))) pa_nil)) pa_nil)))
      (pss_one (ps_ret (pe_lst (pa_cons (pe_op op_mulU (pe_callTy call_int1 (by rfl) T.n_int (by decide +kernel) (pa_cons (pe_cmpR op_geI (pv 2) (pe_op op_powW pe_int pe_int) (by rfl)) pa_nil)) (pe_op op_modU (pv 2) (pe_op op_powW (pe_op op_powW pe_int pe_int) pe_int))) (pa_cons (pe_op op_modU (pv 2) pe_int) (pa_cons (pe_op op_mulU pe_int (pv 1)) pa_nil))))))), ?_⟩
    k_extra "r_D21"
    refine ⟨a, _, rfl, hs, fun l hl => ?_⟩
    obtain ⟨ms, em⟩ := cutV_ints (ns := ns) (lo := some at_) (hi := some (at_ + 1))
    rw [em]
    k_extra "r_D21"
    refine ⟨l, ms, rfl, SqL.of upd_same, ?_⟩
    k_extra "r_D21"
    refine .inl ⟨_, rfl, ?_⟩
    k_extra "r_D21"
    refine ⟨_, _, rfl, rfl, ⟨by decide, by decide +kernel⟩, ?_⟩
    k_extra "r_D21"
    refine .inr ⟨_, rfl, ?_⟩
    k_extra "r_D21"
    refine ⟨_, _, rfl, rfl, ⟨by decide, by decide +kernel⟩, ?_⟩
    k_extra "r_D21"
    refine ⟨_, _, rfl, rfl, ⟨by decide, by decide +kernel⟩, ?_⟩
    refine q_mod big_pos ?_
    refine q_mulL ?_ ?_
    · split <;> decide
    k_extra "r_D21"
    refine ⟨by show 3 ≤ sizeLine; decide, fun p np => ?_⟩
    refine k p _ (by rw [upd_ne (fun e => by rw [e, upd_same] at np; cases np)] at np; exact np) (fun b o e => ?_) ⟨_, _, _, upd_same, Int.emod_nonneg _ (by decide), Int.emod_lt_of_pos _ (by decide)⟩
    exact Same.new np _ _ (Same.new hl _ _ e)
end
end Bt
namespace Bt
open PySem PySem.Spec PyProof.Rows L2
theorem words6_ : True := by
  k_with "s_N21" => first
    | ((with_reducible refine' s_var ?hv ?_); (case hv => exact rfl))
    | with_reducible first
      | refine' s_c ?_ | refine' s_op ?_ | refine' s_asg ?_ | refine' s_gname ?_ | refine' s_seq ?_ | refine' s_next ?_ | refine' s_ret ?_ | refine' s_ifS ?_ | refine' s_drop ?_ | refine' s_retN ?_
      | refine' s_test ?_ | refine' s_B ?_ | refine' q_test ?_ | refine' s_int ?_ | refine' s_cons ?_ | refine' s_nil ?_ | refine' s_call ?_ | refine' s_CB ?_ | refine' s_andT ?_ | refine' s_orT ?_ | refine' s_notT ?_
      | refine' s_andV ?_ | refine' s_orV ?_ | refine' s_notV ?_ | refine' s_ifV ?_ | refine' s_chain ?_ | refine' s_sl ?_ | refine' s_noPart ?_ | refine' s_part ?_ | refine' s_gsub ?_ | refine' s_BM ?_ | refine' s_tup ?_ | refine' s_lst ?_
      | refine' q_add ?_ | refine' q_sub ?_ | refine' q_lt ?_ | refine' q_le ?_ | refine' q_gt ?_ | refine' q_ge ?_ | refine' s_ifT ?_ | refine' s_ifF ?_ | refine' s_yes ?_ | refine' s_iStr ?_ | refine' s_M0 ?_ | refine' s_make ?_ | refine' s_makeS ?_ | refine' s_prop ?_ | refine' s_raise1 ?_ | refine' s_for ?_ | refine' s_rng1 ?_ | refine' s_par ?_ | refine' s_gcons ?_ | refine' s_gnil ?_ | refine' s_iList ?_ | refine' s_iEnum ?_
      | (refine' q_mod ?hm ?_; (case hm => first | omega | decide)) | (refine' q_fdiv ?hm ?hn ?_; (case hm => first | omega | decide); (case hn => first | omega | decide))
      | (refine' q_mulR ?hm ?_; (case hm => first | omega | decide)) | (refine' q_mulL ?hm ?_; (case hm => first | omega | decide))
    | dsimp only
  k_with "r_N21" => repeat (k_extra "s_N21")
  trivial
/-! ### names -/
def Nm (z : Str) : Prop := 1 ≤ z.length ∧ z.length ≤ 8 ∧ ∀ c ∈ z.cps.toList, c ∈ alpha
theorem Nm.asc {z : Str} (h : Nm z) : Asc z := fun c hc => by
  have := mem_alpha.mp (h.2.2 c hc)
  omega
theorem Nm.sz {z : Str} (h : Nm z) : z.length ≤ sizeLine := Bt.sz (by have := h.2.1; omega)
def NmV (x : V) : Prop := ∃ z, x = .str z ∧ Nm z
structure TxtN (K : PySem.W.Frag) (mg : Str → Option Value) : Prop where
  n_len : mg "len" = none
  n_all : mg "all" = none
  v_LONGEST_NAME : ∃ t, mg "LONGEST_NAME" = some (.int 8 t)
  d_is_name : Df K mg "is_name" s_is_name ["value"]
  d__law_name : Df K mg "_law_name" s__law_name ["_law_purse_here"]
  d__law_names : Df K mg "_law_names" s__law_names ["_law_purse_here", "_law_many"]
section
variable {P : Program} {w : World} {K : PySem.W.Frag} {mg : Str → Option Value} {base : Heap}
theorem s_ifND {p : Prop} {inst : Decidable p} {A B : Prop} (h : p → B) (h' : ¬ p → A) : if (!@decide p inst) = true then A else B := by
  by_cases c : p
  · rw [decide_eq_true c]; exact h c
  · rw [decide_eq_false c]; exact h' c
theorem take_all (z : Str) : z.cps.toList.take z.cps.size = z.cps.toList := List.take_of_length_le (by rw [Array.length_toList]; exact Nat.le_refl _)
def rLenS : List V → Hp → VK → Prop := fun xs H Q => ∃ z, xs = [.str z] ∧ z.length ≤ sizeLine ∧ Q (.int z.length) H
theorem call_lenS {X : Cx} : CallR X (.builtin "len") rLenS := call_len_str
theorem q_lenS {H : Hp} {Q : VK} {z : Str} (h : z.length ≤ sizeLine) (q : Q (.int z.length) H) : rLenS [.str z] H Q := ⟨z, rfl, h, q⟩
def rInC : R2 := fun x y H Q => ∃ (c : Nat) (z : Str), x = .str ⟨#[c]⟩ ∧ y = .str z ∧ Q (.bl (decide (c ∈ z.cps.toList))) H
theorem op_inC {X : Cx} : OpR X (compareOp .In) rInC := op_in_sign
theorem q_inC {H : Hp} {Q : VK} {c : Nat} {z : Str} (q : Q (.bl (decide (c ∈ z.cps.toList))) H) : rInC (.str ⟨#[c]⟩) (.str z) H Q := ⟨c, z, rfl, rfl, q⟩
def rAllB (K : PySem.W.Frag) : List V → Hp → VK → Prop := fun vs H Q => ∃ (a : Addr) (bs : List Bool), vs = [V.ref a] ∧ SqL K H a (bs.map V.bl) ∧ Q (.bl (bs.all id)) H
theorem call_allB {X : Cx} (hc : X.calm = true) : CallR X (.builtin "all") (rAllB X.K) := cr_all hc
theorem q_allB {H : Hp} {Q : VK} {a : Addr} {bs : List Bool} (h : SqL K H a (bs.map V.bl)) (q : Q (.bl (bs.all id)) H) : rAllB K [.ref a] H Q := ⟨a, bs, rfl, h, q⟩
def spName (K : PySem.W.Frag) : Sp := fun vs H Q _ => ∃ x T, vs = [x] ∧ Pl K H x T ∧ (∀ z, x = .str z → z.length < 64) ∧ (¬ NmV x → ∀ H', Same H H' → Q (.bl false) H') ∧ (NmV x → ∀ H', Same H H' → Q (.bl true) H')
theorem ok_is_name (T : Txt K mg) (N : TxtN K mg) : Cal P w K mg base 1 "is_name" (spName K) := by
  refine N.d_is_name.cal sc_is_name (fun vs H Q E h => ?_) (fun f cdv A outer s H vs Q E hr h => ?_)
  · obtain ⟨x, T, rfl, _⟩ := h
    rfl
  · obtain ⟨x, ty, rfl, hx, hz, kN, kY⟩ := h
    refine ⟨_, (pss_cons (ps_if (pt_not (PW.pt (pw_and (pt_val (pe_callB call_isi (by rfl) T.n_isinstance (by decide +kernel) (pa_cons (pv 0) (pa_cons (pe_bltn (v := .ty "str") (by rfl) T.n_str (by decide +kernel) rfl) pa_nil)))) (pw_and1 (pt_chain op_leI op_leI pe_int (pe_callB call_lenS (by rfl) N.n_len (by decide +kernel) (pa_cons (pv 0) pa_nil)) (pe_glob (v := .int 8) (by rfl) N.v_LONGEST_NAME.choose_spec ⟨_, rfl⟩)))))) (pss_one (ps_ret pe_bl)) pss_nil)
      (pss_one (ps_ret (pe_callB (call_allB rfl) (by rfl) N.n_all (by decide +kernel) (pa_cons (pe_lc (own := [("letter", 1)]) (g := gName 1) (tt := tYes) rfl sc_is_name.nd (pi_str (pv 0)) (blkOk_by (own := [("letter", 1)]) (N := ["value", "letter"]) (sc := defScope s_is_name) (by decide +kernel)) (fun _ _ _ _ _ => pg_name (i := 1) sc_is_name.nd rfl (Or.inl rfl)) (fun _ _ _ _ _ => pts_nil) (fun _ _ _ _ _ => (pe_cmpR op_inC (pv 1) (pe_glob (v := .str alphaS) (by rfl) T.v_LETTERS.choose_spec ⟨_, rfl⟩) (by rfl)))) pa_nil))))), ?_⟩
    k_extra "r_N21"
    refine q_isi hx .str ?_
    by_cases e : ty = "str"
    · obtain ⟨z, rfl⟩ := hx.of_str e
      have h64 := hz z rfl
      have hs : z.length ≤ sizeLine := Bt.sz (by omega)
      subst e
      k_extra "r_N21"
      refine s_if1 rfl ?_
      k_extra "r_N21"
      refine q_lenS hs ?_
      k_extra "r_N21"
      have inv : Nm z → z.length ≥ 1 ∧ z.length ≤ 8 := fun h => ⟨h.1, h.2.1⟩
      refine s_ifD (fun c1 => ?_) (fun c1 => ?_)
      · k_extra "r_N21"
        refine s_ifND (fun c2 => ?_) (fun c2 => ?_)
        · k_extra "r_N21"
          refine s_lc ?_
          k_extra "r_N21"
          refine ⟨z, rfl, fun D nD => lc_str (z := z) (fun i H' => Same H H' ∧ H' D = some (.lst (((z.cps.toList.take i).map fun c => decide (c ∈ alphaS.cps.toList)).map V.bl))) ⟨Same.new nD, upd_same⟩ ?_ ?_⟩
          · rintro j d H' hj ⟨S', hD⟩
            k_extra "r_N21"
            refine ⟨rfl, ?_⟩
            k_extra "r_N21"
            refine q_inC ⟨_, hD, ?_, same_mut S' nD, ?_⟩
            · rw [List.length_map, List.length_map, List.length_take]
              exact szlt (by have := (List.getElem?_eq_some_iff.mp hj).1; rw [← len_cps] at this; omega)
            · rw [upd_same, take_map_more hj, List.map_append]
              rfl
          · rintro H2 ⟨S2, h2⟩
            rw [take_all] at h2
            k_extra "r_N21"
            refine q_allB (SqL.of h2) ?_
            by_cases v : Nm z
            · rw [show (List.all _ id : Bool) = true from ?_]
              · exact kY ⟨z, rfl, v⟩ _ S2
              · rw [List.all_map, List.all_eq_true]
                intro c hc
                show decide _ = true
                rw [alphaS_cps]
                exact decide_eq_true (v.2.2 c hc)
            · rw [show (List.all _ id : Bool) = false from ?_]
              · exact kN (fun u => by obtain ⟨_, e, u⟩ := u; cases e; exact v u) _ S2
              · rw [Bool.eq_false_iff]
                intro hall
                rw [List.all_map, List.all_eq_true] at hall
                refine v ⟨by omega, by omega, fun c hc => ?_⟩
                have := of_decide_eq_true (show decide _ = true from hall c hc)
                rw [alphaS_cps] at this
                exact this
        · k_extra "r_N21"
          exact kN (fun v => by obtain ⟨_, e, v⟩ := v; cases e; have := v.2.1; omega) _ (Same.refl H)
      · k_extra "r_N21"
        exact kN (fun v => by obtain ⟨_, e, v⟩ := v; cases e; have := v.1; omega) _ (Same.refl H)
    · have e2 : subKd ty "str" = false := by
        cases hx.2 <;> first | rfl | exact absurd rfl e
      rw [e2]
      k_extra "r_N21"
      refine kN (fun v => ?_) H (Same.refl H)
      obtain ⟨z, ez, _⟩ := v
      subst ez
      exact absurd hx.is_str e
def AlC (z : Str) : Prop := ∀ c ∈ z.cps.toList, c ∈ alpha
def spName1 : Sp := fun vs H Q _ => ∃ p, vs = [.ref p] ∧ Purse H p ∧ ∀ z H', Nm z → Purse H' p → But p H H' → Q (.str z) H'
theorem ok__law_name (L : TxtL K mg) (N : TxtN K mg) : Cal P w K mg base 2 "_law_name" spName1 := by
  refine N.d__law_name.cal sc__law_name (fun vs H Q E h => ?_) (fun f cdv A outer s H vs Q E hr h => ?_)
  · obtain ⟨p, rfl, _⟩ := h
    rfl
  · obtain ⟨p, rfl, hp, k⟩ := h
    refine ⟨_, (pss_cons (ps_set (i := 1) sc__law_name.nd rfl (.inl rfl) pe_str)
      (pss_cons (ps_for PassesOwn.never rfl (pi_range1 rfl L.n_range (pa_cons (pe_op op_addU pe_int (pe_c (ok__law_draw L) hr (by decide) rfl (pa_cons (pv 0) (pa_cons pe_int pa_nil)))) pa_nil)) (pg_name (i := 2) sc__law_name.nd rfl (.inl rfl))
        (pss_one (ps_set (i := 1) sc__law_name.nd rfl (.inl rfl) (pe_op op_addU (pv 1) (pe_ix ix_seq pe_str (pe_c (ok__law_draw L) hr (by decide) rfl (pa_cons (pv 0) (pa_cons pe_int pa_nil))) (fun _ _ => rfl))))))
      (pss_one (ps_ret (pv 1))))), ?_⟩
    k_extra "r_N21"
    refine ⟨p, 8, rfl, hp, by decide, by decide, fun n H1 n0 n1 p1 b1 => ?_⟩
    k_extra "r_N21"
    refine ⟨_, rfl, by omega, by omega, q_forR (fun i σ H2 => ∃ z v, σ = [some (.ref p), some (.str z), v] ∧ z.length = i ∧ AlC z ∧ Purse H2 p ∧ But p H H2) ⟨_, none, rfl, rfl, (fun c hc => by cases hc), p1, b1⟩ ?_ ?_⟩
    · rintro i σ H2 hi ⟨z, v, rfl, hz, az, p2, b2⟩
      k_extra "r_N21"
      refine ⟨p, 26, rfl, p2, by decide, by decide, fun m H3 m0 m1 p3 b3 => ?_⟩
      obtain ⟨j, rfl⟩ : ∃ j : Nat, m = j := ⟨m.toNat, by omega⟩
      have hj : j < 26 := by omega
      have ej : alphaS.cps.toList[j]? = some (97 + j) := by
        rw [alphaS_cps]
        unfold alpha
        rw [List.getElem?_map, List.getElem?_range hj]
        rfl
      refine q_ixS (by show alphaS.length ≤ sizeLine; exact Bt.sz (by decide)) (atI_nat ej) ?_
      refine q_addS (Bt.sz (by rw [hz]; show i + 1 ≤ 100000; omega)) ?_
      k_extra "r_N21"
      refine ⟨_, _, rfl, ?_, ?_, p3, b2.trans b3⟩
      · rw [app_len, hz]
        rfl
      · intro c hc
        rw [app_cps, List.mem_append] at hc
        rcases hc with hc | hc
        · exact az c hc
        · have ec : c = 97 + j := by simpa using hc
          exact mem_alpha.mpr (by omega)
    · rintro σ H2 ⟨z, v, rfl, hz, az, p2, b2⟩
      k_extra "r_N21"
      exact k z H2 ⟨by omega, by omega, az⟩ p2 b2
theorem eqv_strs (xs ys : List Str) : PyData.eqv (.list (xs.map .str)) (.list (ys.map .str)) = decide (xs = ys) := by
  rw [← eqvAll_strs]
  simp only [PyData.eqv]
theorem inV_strs (z : Str) (zs : List Str) : inV (.str z) (zs.map V.str) = decide (z ∈ zs) := by
  unfold inV
  rw [List.any_map, Bool.eq_iff_iff, List.any_eq_true, decide_eq_true_iff]
  constructor
  · rintro ⟨y, hy, e⟩
    have e2 : (y == z) = true := e
    rw [← eq_of_beq e2]
    exact hy
  · intro h
    exact ⟨z, h, (beq_self_eq_true z : (z == z) = true)⟩
theorem flat_strs (zs : List Str) : (zs.map V.str).all flatV = true := by
  rw [List.all_map, List.all_eq_true]
  exact fun _ _ => rfl
theorem q_notinStrs {H : Hp} {Q : VK} {l : Addr} {z : Str} {zs : List Str} (h : H l = some (.lst (zs.map V.str))) (q : Q (.bl (!decide (z ∈ zs))) H) : rIn K true (.str z) (.ref l) H Q :=
  ⟨l, _, rfl, .inl (SqL.of h), rfl, flat_strs zs, by rw [inV_strs]; exact q⟩
theorem atI_last {α : Type} (xs : List α) (x : α) : atI (xs ++ [x]) (-1) = some x := by
  unfold atI
  have e : ixN (xs ++ [x]).length (-1) = some xs.length := by
    rw [List.length_append]
    unfold ixN
    rw [if_neg (by decide), if_pos (by show (-(((xs.length + 1 : Nat)) : Int)) ≤ -1; omega)]
    congr 1
    show (-1 + (((xs.length + 1 : Nat)) : Int)).toNat = xs.length
    omega
  rw [e]
  simp
def spNames : Sp := fun vs H Q _ => ∃ (p : Addr) (m : Nat), vs = [.ref p, .int m] ∧ Purse H p ∧ m ≤ 1000 ∧
  ∀ l H' zs, H l = none → H' l = some (.lst (zs.map V.str)) → (∀ z ∈ zs, Nm z) → zs.Nodup → zs.length ≤ m → (1 ≤ m → zs ≠ []) → Purse H' p → But p H H' → Q (.ref l) H'
theorem ok__law_names (L : TxtL K mg) (N : TxtN K mg) : Cal P w K mg base 3 "_law_names" spNames := by
  refine N.d__law_names.cal sc__law_names (fun vs H Q E h => ?_) (fun f cdv A outer s H vs Q E hr h => ?_)
  · obtain ⟨p, m, rfl, _⟩ := h
    rfl
  · obtain ⟨p, m, rfl, hp, hm, k⟩ := h
    have hu := hr.units
    refine ⟨_, (pss_cons (ps_set (i := 2) sc__law_names.nd rfl (.inl rfl) (pe_lst pa_nil))
      (pss_cons (ps_for PassesOwn.never rfl (pi_range1 rfl L.n_range (pa_cons (pv 1) pa_nil)) (pg_name (i := 3) sc__law_names.nd rfl (.inl rfl))
        (pss_cons (ps_set (i := 4) sc__law_names.nd rfl (.inl rfl) (pe_c (ok__law_name L N) hr (by decide) rfl (pa_cons (pv 0) pa_nil)))
          (C8.pss_cut (ps_if (PW.pt (pw_and (pt_cmpR (op_neU hu) (pv 2) (pe_lst pa_nil) (by rfl)) (pw_and1 (pt_cmpR (op_eqU hu) (pe_c (ok__law_draw L) hr (by decide) rfl (pa_cons (pv 0) (pa_cons pe_int pa_nil))) pe_int (by rfl))))) (pss_one (ps_set (i := 4) sc__law_names.nd rfl (.inl rfl) (pe_slice sl_str (pe_op op_addU (pe_ix ix_seq (pv 2) (pe_un un_neg pe_int) (fun _ _ => rfl)) (pv 4)) po_none (po_some (pe_op op_addU pe_int (pe_c (ok__law_draw L) hr (by decide) rfl (pa_cons (pv 0) (pa_cons pe_int pa_nil)))))))) pss_nil)
          (pss_one (ps_if (pt_cmpR op_notIn_seq (pv 4) (pv 2) (by rfl)) (pss_one (ps_expr (pe_bm PySem.F.plainAttrs_list PySem.F.slot_list_append PySem.F.type_list_append mt_append (pv 2) (pa_cons (pv 4) pa_nil)))) pss_nil)))))
      (pss_one (ps_ret (pv 2))))), ?_⟩
    k_extra "r_N21"
    refine q_newL (by show 0 ≤ sizeLine; decide) fun l H1 n1 S1 h1 => ?_
    k_extra "r_N21"
    have hlp : l ≠ p := by
      obtain ⟨_, _, _, e, _⟩ := hp
      exact fun z => by rw [z, e] at n1; cases n1
    refine ⟨_, rfl, by omega, by omega, q_forR (fun i σ H2 => ∃ zs v u, σ = [some (.ref p), some (.int m), some (.ref l), v, u] ∧ H2 l = some (.lst (zs.map V.str)) ∧ (∀ z ∈ zs, Nm z) ∧ zs.Nodup ∧ zs.length ≤ i ∧ (1 ≤ i → zs ≠ []) ∧ Purse H2 p ∧ But p H H2)
      ⟨[], none, none, rfl, h1, (fun z hz => by cases hz), .nil, Nat.le_refl _, (fun z => absurd z (by decide)), hp.mono S1, But.of S1⟩ ?_ ?_⟩
    · rintro i σ H2 hi ⟨zs, v, u, rfl, h2, nz, nd, hl, hne, p2, b2⟩
      k_extra "r_N21"
      refine ⟨p, rfl, p2, fun z H3 hz p3 b3 => ?_⟩
      have h3 := b3 _ _ hlp h2
      k_extra "r_N21"
      refine ⟨fun σ H4 => ∃ z v, σ = [some (.ref p), some (.int m), some (.ref l), v, some (.str z)] ∧ Nm z ∧ H4 l = some (.lst (zs.map V.str)) ∧ Purse H4 p ∧ But p H H4, ?_, ?_⟩
      · k_extra "r_N21"
        refine q_newL (by show 0 ≤ sizeLine; decide) fun l0 H4 n4 S4 h4 => ?_
        refine q_neD (dp_lst_strs (S4 _ _ h3)) (dp_lst_strs (ys := []) h4) (shaped_strs fun y hy => (nz y hy).asc) (shaped_strs fun y hy => by cases hy) ?_
        rw [eqv_strs]
        k_extra "r_N21"
        refine s_ifND (fun c => ?_) (fun c => ?_)
        · k_extra "r_N21"
          exact ⟨z, _, rfl, hz, S4 _ _ h3, p3.mono S4, b2.trans (b3.trans (But.of S4))⟩
        · k_extra "r_N21"
          refine ⟨p, 3, rfl, p3.mono S4, by decide, by decide, fun n5 H5 n50 n51 p5 b5 => ?_⟩
          refine q_eq rfl ?_
          k_extra "r_N21"
          refine s_if (fun _ => ?_) (fun _ => ?_)
          · k_extra "r_N21"
            obtain ⟨zs0, y, rfl⟩ : ∃ zs0 y, zs = zs0 ++ [y] := ⟨zs.dropLast, zs.getLast c, (List.dropLast_concat_getLast c).symm⟩
            have ny := nz y (by simp)
            have h5 := b5 _ _ hlp (S4 _ _ h3)
            refine ⟨_, rfl, ?_⟩
            rw [List.map_append] at h5
            refine q_ixL (SqL.of h5) (atI_last _ _) ?_
            k_extra "r_N21"
            have hsum : (y ++ z).length ≤ 16 := by rw [app_len]; have := ny.2.1; have := hz.2.1; omega
            refine q_addS (by rw [← app_len]; exact Bt.sz (by omega)) ?_
            k_extra "r_N21"
            refine ⟨p, 8, rfl, p5, by decide, by decide, fun n6 H6 n60 n61 p6 b6 => ?_⟩
            k_extra "r_N21"
            refine ⟨_, rfl, Bt.sz (by omega), ?_⟩
            k_extra "r_N21"
            have ecut : (cutS (y ++ z) none (some (1 + n6))).cps.toList = (y ++ z).cps.toList.take (1 + n6).toNat := cut_to (by omega)
            refine ⟨_, _, rfl, ⟨?_, ?_, fun c2 hc2 => ?_⟩, ?_, p6, ?_⟩
            · rw [len_cps, ecut, List.length_take, ← len_cps, app_len]
              have := ny.1
              omega
            · rw [len_cps, ecut, List.length_take]
              omega
            · rw [ecut] at hc2
              have hc3 := List.mem_of_mem_take hc2
              rw [app_cps, List.mem_append] at hc3
              rcases hc3 with hc3 | hc3
              · exact ny.2.2 _ hc3
              · exact hz.2.2 _ hc3
            · rw [List.map_append]
              exact b6 _ _ hlp h5
            · exact b2.trans (b3.trans ((But.of S4).trans (b5.trans b6)))
          · k_extra "r_N21"
            exact ⟨z, _, rfl, hz, b5 _ _ hlp (S4 _ _ h3), p5, b2.trans (b3.trans ((But.of S4).trans b5))⟩
      · rintro σ H4 ⟨z4, v4, rfl, hz4, h4, p4, b4⟩
        k_extra "r_N21"
        refine q_notinStrs h4 ?_
        k_extra "r_N21"
        refine s_ifND (fun c => ?_) (fun c => ?_)
        · k_extra "r_N21"
          exact ⟨zs, _, _, rfl, h4, nz, nd, by omega, (fun _ e => by rw [e] at c; cases c), p4, b4⟩
        · k_extra "r_N21"
          refine ⟨.inl ⟨rfl, _, SqL.of h4⟩, ?_⟩
          k_extra "r_N21"
          refine q_append h4 (by rw [List.length_map]; exact szlt (by omega)) fun H5 b5 h5 => ?_
          k_extra "r_N21"
          have h5' : H5 l = some (.lst ((zs ++ [z4]).map V.str)) := by rw [h5, List.map_append]; rfl
          refine ⟨zs ++ [z4], _, _, rfl, h5', fun y hy => ?_, ?_, by rw [List.length_append]; show zs.length + 1 ≤ i + 1; omega, (fun _ e => by simp at e), ?_, ?_⟩
          · rcases List.mem_append.mp hy with hy | hy
            · exact nz y hy
            · rw [List.mem_singleton.mp hy]; exact hz4
          · refine List.nodup_append.mpr ⟨nd, by simp, fun a ha b hb e => ?_⟩
            rw [List.mem_singleton.mp hb] at e
            exact c (e ▸ ha)
          · obtain ⟨a, b, c, e, h⟩ := p4
            exact ⟨a, b, c, b5 _ _ hlp.symm e, h⟩
          · exact fun b o hb e => b5 b o (fun z => by rw [z] at e; rw [e] at n1; cases n1) (b4 b o hb e)
    · rintro σ H2 ⟨zs, v, u, rfl, h2, nz, nd, hl, hne, p2, b2⟩
      k_extra "r_N21"
      exact k l H2 zs n1 h2 nz nd hl hne p2 b2
end
end Bt
namespace Bt
open PySem PySem.Spec PyProof.Rows L2 LamX NdefX
theorem words22_ : True := by
  k_with "s_I21" => first
    | ((with_reducible refine' s_var ?hv ?_); (case hv => exact rfl))
    | with_reducible first
      | refine' s_c ?_ | refine' s_op ?_ | refine' s_asg ?_ | refine' s_gname ?_ | refine' s_seq ?_ | refine' s_next ?_ | refine' s_ret ?_ | refine' s_ifS ?_ | refine' s_drop ?_ | refine' s_retN ?_
      | refine' s_test ?_ | refine' s_B ?_ | refine' q_test ?_ | refine' s_int ?_ | refine' s_cons ?_ | refine' s_nil ?_ | refine' s_call ?_ | refine' s_CB ?_ | refine' s_andT ?_ | refine' s_orT ?_ | refine' s_notT ?_
      | refine' s_andV ?_ | refine' s_orV ?_ | refine' s_notV ?_ | refine' s_ifV ?_ | refine' s_chain ?_ | refine' s_sl ?_ | refine' s_noPart ?_ | refine' s_part ?_ | refine' s_gsub ?_ | refine' s_BM ?_ | refine' s_tup ?_ | refine' s_lst ?_
      | refine' q_add ?_ | refine' q_sub ?_ | refine' q_lt ?_ | refine' q_le ?_ | refine' q_gt ?_ | refine' q_ge ?_ | refine' s_ifT ?_ | refine' s_ifF ?_ | refine' s_yes ?_ | refine' s_prop ?_ | refine' s_iList ?_ | refine' s_callOS ?_ | refine' s_iStr ?_ | refine' s_M0 ?_ | refine' s_make ?_ | refine' s_makeS ?_ | refine' s_ownL ?_ | refine' s_ownR ?_ | refine' s_callSD ?_ | refine' s_fld ?_ | refine' s_prop ?_ | refine' s_raise1 ?_ | refine' s_for ?_ | refine' s_rng1 ?_ | refine' s_par ?_ | refine' s_gcons ?_ | refine' s_gnil ?_ | refine' s_iList ?_ | refine' s_iEnum ?_
      | (refine' q_mod ?hm ?_; (case hm => first | omega | decide)) | (refine' q_fdiv ?hm ?hn ?_; (case hm => first | omega | decide); (case hn => first | omega | decide))
      | (refine' q_mulR ?hm ?_; (case hm => first | omega | decide)) | (refine' q_mulL ?hm ?_; (case hm => first | omega | decide))
    | dsimp only
  k_with "r_I21" => repeat (k_extra "s_I21")
  trivial
def NameArg (K : PySem.W.Frag) (H : Hp) (y : V) : Prop := ∃ T, Pl K H y T ∧ ∀ z, y = .str z → z.length < 64
theorem NameArg.mono {K : PySem.W.Frag} {H H' : Hp} {y : V} (S : Same H H') (h : NameArg K H y) : NameArg K H' y := let ⟨T, a, b⟩ := h; ⟨T, a.mono S, b⟩
def rLenQ (K : PySem.W.Frag) : List V → Hp → VK → Prop := fun xs H Q => ∃ p ys, xs = [.ref p] ∧ (SqL K H p ys ∨ SqT K H p ys) ∧ Q (.int ys.length) H
theorem call_lenQ {X : Cx} : CallR X (.builtin "len") (rLenQ X.K) := call_len_seq
theorem q_lenT {K : PySem.W.Frag} {H : Hp} {Q : VK} {p : Addr} {ys : List V} (h : SqT K H p ys) (q : Q (.int ys.length) H) : rLenQ K [.ref p] H Q := ⟨p, ys, rfl, .inr h, q⟩
theorem q_lenL {K : PySem.W.Frag} {H : Hp} {Q : VK} {p : Addr} {ys : List V} (h : SqL K H p ys) (q : Q (.int ys.length) H) : rLenQ K [.ref p] H Q := ⟨p, ys, rfl, .inl h, q⟩
/-! ### places -/
def PlaceV (H : Hp) (x : V) : Prop := ∃ a u v, x = .ref a ∧ H a = some (.tup [u, v]) ∧ NmV u ∧ NmV v
structure TxtI (K : PySem.W.Frag) (mg : Str → Option Value) : Prop where
  d_is_place : Df K mg "is_place" s_is_place ["value"]
section
variable {P : Program} {w : World} {K : PySem.W.Frag} {mg : Str → Option Value} {base : Heap}
def spPlace (K : PySem.W.Frag) : Sp := fun vs H Q _ => ∃ x T, vs = [x] ∧ Pl K H x T ∧
  (T ≠ "tuple" → Q (.bl false) H) ∧
  (T = "tuple" → ∃ a xs, x = .ref a ∧ H a = some (.tup xs) ∧ (∀ y ∈ xs, NameArg K H y) ∧
    (¬ PlaceV H x → ∀ H', Same H H' → Q (.bl false) H') ∧ (PlaceV H x → ∀ H', Same H H' → Q (.bl true) H'))
theorem ok_is_place (T : Txt K mg) (N : TxtN K mg) (I : TxtI K mg) : Cal P w K mg base 2 "is_place" (spPlace K) := by
  refine I.d_is_place.cal sc_is_place (fun vs H Q E h => ?_) (fun f cdv A outer s H vs Q E hr h => ?_)
  · obtain ⟨x, T, rfl, _⟩ := h
    rfl
  · obtain ⟨x, ty, rfl, hx, kN, kY⟩ := h
    have hu := hr.units
    refine ⟨_, (pss_one (ps_ret (pe_and (pe_callB call_isi (by rfl) T.n_isinstance (by decide +kernel) (pa_cons (pv 0) (pa_cons (pe_bltn (v := .ty "tuple") (by rfl) T.n_tuple (by decide +kernel) rfl) pa_nil))) (pe_and (pe_cmpR (op_eqU hu) (pe_callB call_lenQ (by rfl) N.n_len (by decide +kernel) (pa_cons (pv 0) pa_nil)) pe_int (by rfl)) (pe_and (pe_c (ok_is_name T N) hr (by decide) rfl (pa_cons (pe_ix ix_seq (pv 0) pe_int (fun _ _ => rfl)) pa_nil)) (pe_one (pe_c (ok_is_name T N) hr (by decide) rfl (pa_cons (pe_ix ix_seq (pv 0) pe_int (fun _ _ => rfl)) pa_nil)))))))), ?_⟩
    k_extra "r_I21"
    refine q_isi hx .tup ?_
    by_cases e : ty = "tuple"
    · obtain ⟨a, xs, rfl, ha, hn, kF, kT⟩ := kY e
      clear kN kY
      subst e
      k_extra "r_I21"
      refine s_if1 rfl ?_
      k_extra "r_I21"
      refine q_lenT (SqT.of ha) ?_
      k_extra "r_I21"
      refine q_eq rfl ?_
      by_cases hl : xs.length = 2
      · obtain ⟨u, v, rfl⟩ : ∃ u v, xs = [u, v] := by
          match xs, hl with
          | [u, v], _ => exact ⟨u, v, rfl⟩
        k_extra "r_I21"
        refine s_if1 (decide_eq_true rfl) ?_
        obtain ⟨tu, pu, zu⟩ := hn u (by simp)
        obtain ⟨tv, qv, zv⟩ := hn v (by simp)
        k_extra "r_I21"
        refine q_ixT (SqT.of ha) (at_of (j := 0) rfl rfl) ?_
        k_extra "r_I21"
        refine ⟨u, tu, rfl, pu, zu, fun nu H1 S1 => ?_, fun nu H1 S1 => ?_⟩
        · k_extra "r_I21"
          exact kF (fun ⟨_, _, _, e, h, hu, _⟩ => by injection e with e; subst e; rw [ha] at h; cases h; exact nu hu) _ S1
        · k_extra "r_I21"
          refine q_ixT (SqT.of (S1 _ _ ha)) (at_of (j := 1) rfl rfl) ?_
          k_extra "r_I21"
          refine ⟨v, tv, rfl, qv.mono S1, zv, fun nv H2 S2 => ?_, fun nv H2 S2 => ?_⟩
          · exact kF (fun ⟨_, _, _, e, h, _, hv⟩ => by injection e with e; subst e; rw [ha] at h; cases h; exact nv hv) _ (S1.trans S2)
          · exact kT ⟨a, u, v, rfl, ha, nu, nv⟩ _ (S1.trans S2)
      · k_extra "r_I21"
        refine s_if0 (decide_eq_false fun z => ?_) ?_
        · have := V.int.inj z
          omega
        · k_extra "r_I21"
          exact kF (fun ⟨_, _, _, e, h, _⟩ => by injection e with e; subst e; rw [ha] at h; cases h; exact hl rfl) _ (Same.refl H)
    · have e2 : subKd ty "tuple" = false := by
        cases hx.2 <;> first | rfl | exact absurd rfl e
      rw [e2]
      k_extra "r_I21"
      exact kN e
end
end Bt
namespace Bt
open PySem PySem.Spec PyProof.Rows L2 LamX NdefX
theorem words23_ : True := by
  k_with "s_B21" => first
    | ((with_reducible refine' s_var ?hv ?_); (case hv => exact rfl))
    | with_reducible first
      | refine' s_c ?_ | refine' s_op ?_ | refine' s_asg ?_ | refine' s_gname ?_ | refine' s_seq ?_ | refine' s_next ?_ | refine' s_ret ?_ | refine' s_ifS ?_ | refine' s_drop ?_ | refine' s_retN ?_
      | refine' s_test ?_ | refine' s_B ?_ | refine' q_test ?_ | refine' s_int ?_ | refine' s_cons ?_ | refine' s_nil ?_ | refine' s_call ?_ | refine' s_CB ?_ | refine' s_andT ?_ | refine' s_orT ?_ | refine' s_notT ?_
      | refine' s_andV ?_ | refine' s_orV ?_ | refine' s_notV ?_ | refine' s_ifV ?_ | refine' s_chain ?_ | refine' s_sl ?_ | refine' s_noPart ?_ | refine' s_part ?_ | refine' s_gsub ?_ | refine' s_BM ?_ | refine' s_tup ?_ | refine' s_lst ?_
      | refine' q_add ?_ | refine' q_sub ?_ | refine' q_lt ?_ | refine' q_le ?_ | refine' q_gt ?_ | refine' q_ge ?_ | refine' s_ifT ?_ | refine' s_ifF ?_ | refine' s_yes ?_ | refine' s_prop ?_ | refine' s_iList ?_ | refine' s_callOS ?_ | refine' s_iStr ?_ | refine' s_M0 ?_ | refine' s_make ?_ | refine' s_makeS ?_ | refine' s_ownL ?_ | refine' s_ownR ?_ | refine' s_callSD ?_ | refine' s_fld ?_ | refine' s_prop ?_ | refine' s_raise1 ?_ | refine' s_for ?_ | refine' s_rng1 ?_ | refine' s_par ?_ | refine' s_gcons ?_ | refine' s_gnil ?_ | refine' s_iList ?_ | refine' s_iEnum ?_
      | (refine' q_mod ?hm ?_; (case hm => first | omega | decide)) | (refine' q_fdiv ?hm ?hn ?_; (case hm => first | omega | decide); (case hn => first | omega | decide))
      | (refine' q_mulR ?hm ?_; (case hm => first | omega | decide)) | (refine' q_mulL ?hm ?_; (case hm => first | omega | decide))
    | dsimp only
  k_with "r_B21" => repeat (k_extra "s_B21")
  trivial
/-! ### worlds -/
def PlAt (H : Hp) (x : V) (q : Str × Str) : Prop := ∃ a, x = .ref a ∧ H a = some (.tup [.str q.1, .str q.2])
inductive Pls (H : Hp) : List V → List (Str × Str) → Prop where
  | nil : Pls H [] []
  | cons {x : V} {q : Str × Str} {xs : List V} {ps : List (Str × Str)} : PlAt H x q → Pls H xs ps → Pls H (x :: xs) (q :: ps)
theorem PlAt.mono {H H' : Hp} {x : V} {q : Str × Str} (S : Same H H') : PlAt H x q → PlAt H' x q := fun ⟨a, e, h⟩ => ⟨a, e, S _ _ h⟩
theorem PlAt.but {H H' : Hp} {x : V} {q : Str × Str} {l : Addr} {zs : List V} (hl : H l = some (.lst zs)) (B : But l H H') : PlAt H x q → PlAt H' x q :=
  fun ⟨a, e, h⟩ => ⟨a, e, B _ _ (fun z => by rw [z, hl] at h; cases h) h⟩
theorem Pls.mono {H H' : Hp} {xs : List V} {ps : List (Str × Str)} (S : Same H H') (h : Pls H xs ps) : Pls H' xs ps := by
  induction h with
  | nil => exact .nil
  | cons h _ ih => exact .cons (h.mono S) ih
theorem Pls.but {H H' : Hp} {xs : List V} {ps : List (Str × Str)} {l : Addr} {zs : List V} (hl : H l = some (.lst zs)) (B : But l H H') (h : Pls H xs ps) : Pls H' xs ps := by
  induction h with
  | nil => exact .nil
  | cons h _ ih => exact .cons (h.but hl B) ih
theorem Pls.snoc {H : Hp} {xs : List V} {ps : List (Str × Str)} {x : V} {q : Str × Str} (h : Pls H xs ps) (hx : PlAt H x q) : Pls H (xs ++ [x]) (ps ++ [q]) := by
  induction h with
  | nil => exact .cons hx .nil
  | cons h _ ih => exact .cons h ih
theorem Pls.len {H : Hp} {xs : List V} {ps : List (Str × Str)} (h : Pls H xs ps) : xs.length = ps.length := by
  induction h with
  | nil => rfl
  | cons _ _ ih => simp [ih]
def worldOf (fs ns : List Str) : List (Str × Str) := fs.flatMap fun f => ns.map fun n => (f, n)
theorem worldOf_len : ∀ fs ns : List Str, (worldOf fs ns).length = fs.length * ns.length
  | [], ns => by simp [worldOf]
  | f :: fs, ns => by
    have := worldOf_len fs ns
    unfold worldOf at this ⊢
    rw [List.flatMap_cons, List.length_append, List.length_map, this, List.length_cons, Nat.succ_mul, Nat.add_comm]
theorem worldOf_snoc (fs ns : List Str) (f : Str) : worldOf (fs ++ [f]) ns = worldOf fs ns ++ ns.map fun n => (f, n) := by
  unfold worldOf
  rw [List.flatMap_append]
  simp
def NmL (zs : List Str) : Prop := (∀ z ∈ zs, Nm z) ∧ zs.Nodup ∧ zs ≠ []
structure TxtB (K : PySem.W.Frag) (mg : Str → Option Value) : Prop where
  d__law_world : Df K mg "_law_world" s__law_world ["_law_purse_here"]
section
variable {P : Program} {w : World} {K : PySem.W.Frag} {mg : Str → Option Value} {base : Heap}
def spWorld : Sp := fun vs H Q _ => ∃ p, vs = [.ref p] ∧ Purse H p ∧ ∀ l H' xs fs ns, H l = none → H' l = some (.lst xs) → Pls H' xs (worldOf fs ns) → NmL fs → NmL ns → fs.length ≤ 3 → ns.length ≤ 6 → Purse H' p → But p H H' → Q (.ref l) H'
theorem ok__law_world (L : TxtL K mg) (N : TxtN K mg) (B : TxtB K mg) : Cal P w K mg base 4 "_law_world" spWorld := by
  refine B.d__law_world.cal sc__law_world (fun vs H Q E h => ?_) (fun f cdv A outer s H vs Q E hr h => ?_)
  · obtain ⟨p, rfl, _⟩ := h
    rfl
  · obtain ⟨p, rfl, hp, k⟩ := h
    refine ⟨_, (pss_cons (ps_set (i := 1) sc__law_world.nd rfl (.inl rfl) (pe_c (ok__law_names L N) hr (by decide) rfl (pa_cons (pv 0) (pa_cons (pe_op op_addU pe_int (pe_c (ok__law_draw L) hr (by decide) rfl (pa_cons (pv 0) (pa_cons pe_int pa_nil)))) pa_nil))))
      (pss_cons (ps_set (i := 2) sc__law_world.nd rfl (.inl rfl) (pe_c (ok__law_names L N) hr (by decide) rfl (pa_cons (pv 0) (pa_cons (pe_op op_addU pe_int (pe_c (ok__law_draw L) hr (by decide) rfl (pa_cons (pv 0) (pa_cons pe_int pa_nil)))) pa_nil))))
      (pss_cons (ps_set (i := 3) sc__law_world.nd rfl (.inl rfl) (pe_lst pa_nil))
      (pss_cons (ps_for PassesOwn.never rfl (pi_list (pv 1)) (pg_name (i := 4) sc__law_world.nd rfl (.inl rfl))
        (pss_one (ps_for PassesOwn.never rfl (pi_list (pv 2)) (pg_name (i := 5) sc__law_world.nd rfl (.inl rfl))
            (pss_one (ps_expr (pe_bm PySem.F.plainAttrs_list PySem.F.slot_list_append PySem.F.type_list_append mt_append (pv 3) (pa_cons (pe_tup (pa_cons (pv 4) (pa_cons (pv 5) pa_nil))) pa_nil)))))))
      (pss_one (ps_ret (pv 3))))))), ?_⟩
    k_extra "r_B21"
    refine ⟨p, 3, rfl, hp, by decide, by decide, fun m1 H1 m10 m11 p1 b1 => ?_⟩
    k_extra "r_B21"
    obtain ⟨m1, rfl⟩ := Int.eq_ofNat_of_zero_le m10
    refine ⟨p, 1 + m1, (by push_cast; rfl), p1, by omega, fun lf H2 fs nf hf zf df hfl hfe p2 b2 => ?_⟩
    k_extra "r_B21"
    refine ⟨p, 6, rfl, p2, by decide, by decide, fun m2 H3 m20 m21 p3 b3 => ?_⟩
    k_extra "r_B21"
    obtain ⟨m2, rfl⟩ := Int.eq_ofNat_of_zero_le m20
    refine ⟨p, 1 + m2, (by push_cast; rfl), p3, by omega, fun ln H4 ns nn hn zn dn hnl hne p4 b4 => ?_⟩
    k_extra "r_B21"
    refine q_newL (by show 0 ≤ sizeLine; decide) fun lp H5 n5 S5 h5 => ?_
    k_extra "r_B21"
    have hlfp : lf ≠ p := by
      obtain ⟨_, _, _, e, _⟩ := p1
      exact fun z => by rw [z, e] at nf; cases nf
    have hlnp : ln ≠ p := by
      obtain ⟨_, _, _, e, _⟩ := p3
      exact fun z => by rw [z, e] at nn; cases nn
    have hlpp : lp ≠ p := by
      obtain ⟨_, _, _, e, _⟩ := p4
      exact fun z => by rw [z, e] at n5; cases n5
    have B4 : But p H H4 := b1.trans (b2.trans (b3.trans b4))
    have nH : H lp = none := B4.free hlpp n5
    have hf4 : H4 lf = some (.lst (fs.map V.str)) := b4 _ _ hlfp (b3 _ _ hlfp hf)
    have hpf : lf ≠ lp := fun z => by rw [z, n5] at hf4; cases hf4
    have hpn : ln ≠ lp := fun z => by rw [z, n5] at hn; cases hn
    have sz1 : ∀ i, (worldOf (fs.take i) ns).length ≤ 18 := fun i => by
      rw [worldOf_len, List.length_take]
      have a1 : min i fs.length ≤ 3 := by omega
      have a2 : ns.length ≤ 6 := by omega
      exact Nat.le_trans (Nat.mul_le_mul a1 a2) (by decide)
    refine ⟨lf, rfl, ⟨_, SqL.of (S5 _ _ hf4)⟩, q_forL (K := K) (a := lf) (xs := fs.map V.str) (fun i σ H' => ∃ v u xs, σ = [some (.ref p), some (.ref lf), some (.ref ln), some (.ref lp), v, u] ∧ H' lp = some (.lst xs) ∧ Pls H' xs (worldOf (fs.take i) ns) ∧ H' lf = some (.lst (fs.map V.str)) ∧ H' ln = some (.lst (ns.map V.str)) ∧ Purse H' p ∧ But p H H')
      ⟨none, none, [], rfl, h5, .nil, S5 _ _ hf4, S5 _ _ hn, p4.mono S5, B4.trans (But.of S5)⟩ (fun i σ H' _ ⟨_, _, _, _, _, _, h, _⟩ => SqL.of h) ?_ ?_⟩
    · rintro i x σ H6 hx ⟨v, u, xs, rfl, h6, P6, f6, n6, p6, B6⟩
      rw [List.getElem?_map] at hx
      obtain ⟨f1, ef, rfl⟩ := Option.map_eq_some_iff.mp hx
      k_extra "r_B21"
      refine ⟨ln, rfl, ⟨_, SqL.of n6⟩, q_forL (K := K) (a := ln) (xs := ns.map V.str) (fun j σ H' => ∃ u xs, σ = [some (.ref p), some (.ref lf), some (.ref ln), some (.ref lp), some (.str f1), u] ∧ H' lp = some (.lst xs) ∧ Pls H' xs (worldOf (fs.take i) ns ++ (ns.take j).map fun n => (f1, n)) ∧ H' lf = some (.lst (fs.map V.str)) ∧ H' ln = some (.lst (ns.map V.str)) ∧ Purse H' p ∧ But p H H')
        ⟨u, xs, rfl, h6, (by rw [List.take_zero, List.map_nil, List.append_nil]; exact P6), f6, n6, p6, B6⟩ (fun i σ H' _ ⟨_, _, _, _, _, _, h, _⟩ => SqL.of h) ?_ ?_⟩
      · rintro j y σ H7 hy ⟨u, xs, rfl, h7, P7, f7, n7, p7, B7⟩
        rw [List.getElem?_map] at hy
        obtain ⟨n1, en, rfl⟩ := Option.map_eq_some_iff.mp hy
        k_extra "r_B21"
        refine ⟨.inl ⟨rfl, _, SqL.of h7⟩, ?_⟩
        k_extra "r_B21"
        refine q_newT (by show 2 ≤ sizeLine; decide) fun t H8 n8 S8 h8 => ?_
        k_extra "r_B21"
        refine q_append (S8 _ _ h7) ?_ fun H9 b9 h9 => ?_
        · rw [P7.len, List.length_append, List.length_map, List.length_take]
          have := sz1 i
          exact szlt (by omega)
        k_extra "r_B21"
        have tl : t ≠ lp := fun z => by rw [z, h7] at n8; cases n8
        refine ⟨_, _, rfl, h9, ?_, b9 _ _ hpf (S8 _ _ f7), b9 _ _ hpn (S8 _ _ n7), ?_, ?_⟩
        · rw [take_map_more en, ← List.append_assoc]
          exact ((P7.mono S8).but (S8 _ _ h7) b9).snoc ⟨t, rfl, b9 _ _ tl h8⟩
        · obtain ⟨a, b, c, e, h⟩ := p7
          exact ⟨a, b, c, b9 _ _ hlpp.symm (S8 _ _ e), h⟩
        · exact fun b o hb e => b9 b o (fun z => by rw [z] at e; rw [e] at nH; cases nH) (S8 _ _ (B7 b o hb e))
      · rintro σ H7 ⟨u, xs, rfl, h7, P7, f7, n7, p7, B7⟩
        k_extra "r_B21"
        rw [List.length_map, List.take_length] at P7
        refine ⟨_, _, _, rfl, h7, ?_, f7, n7, p7, B7⟩
        rw [List.take_add_one, ef]
        exact (worldOf_snoc (fs.take i) ns f1) ▸ P7
    · rintro σ H6 ⟨v, u, xs, rfl, h6, P6, f6, n6, p6, B6⟩
      k_extra "r_B21"
      rw [List.length_map, List.take_length] at P6
      exact k lp H6 xs fs ns nH h6 P6 ⟨zf, df, hfe (by omega)⟩ ⟨zn, dn, hne (by omega)⟩ (by omega) (by omega) p6 B6
end
end Bt
namespace Bt
open PySem PySem.Spec PyProof.Rows L2
open PySem.W (dataLe alike AllAlike Sortable EachIs)
/-! ### sorted(xs) of data that are alike, any length -/
/-- the items beside what they read as -/
abbrev Prs : Type := List (V × PyData)
abbrev prLe : V × PyData → V × PyData → Bool := dataLe false (fun z : V × PyData => z.2)
def rSortD (K : PySem.W.Frag) : List V → Hp → VK → Prop := fun vs H Q => ∃ (a : Addr) (zs : Prs), vs = [V.ref a] ∧ SqL K H a (zs.map (·.1)) ∧ (∀ z ∈ zs, Dp K H z.1 z.2 ∧ z.2.depth ≤ 60) ∧ AllAlike (zs.map (·.2)) ∧ Sortable (zs.map (·.2)) ∧
  ∀ p, H p = none → Q (.ref p) (upd H p (.lst ((zs.mergeSort prLe).map (·.1))))
theorem each_vals : ∀ {zs : Prs} {us : List Value}, Vals (zs.map (·.1)) us → EachIs (fun u z => RelV z.1 u) us zs
  | [], us, h => by
    cases h
    exact .nil
  | z :: zs, us, h => by
    cases h with
    | cons h r => exact .cons h (each_vals r)
theorem vals_each : ∀ {zs : Prs} {us : List Value}, EachIs (fun u z => RelV z.1 u) us zs → Vals (zs.map (·.1)) us
  | [], _, h => by
    cases h
    exact .nil
  | z :: zs, _, h => by
    cases h with
    | cons h r => exact .cons h (vals_each r)
theorem each_reads {X : Cx} {pins : List (Addr × Obj)} {σ : L2.St} {H : Hp} {s : Shared} (I : Inv X pins σ H s) : ∀ {zs : Prs} {us : List Value}, Vals (zs.map (·.1)) us → (∀ z ∈ zs, Dp X.K H z.1 z.2) → EachIs (fun u z => ∃ as, Reads s.heap u z.2 as) us zs
  | [], us, h, _ => by
    cases h
    exact .nil
  | z :: zs, us, h, d => by
    cases h with
    | cons h r => exact .cons (Dp.reads I z.2 z.1 _ (d z List.mem_cons_self) h) (each_reads I r fun y hy => d y (List.mem_cons_of_mem _ hy))
theorem cr_sortD {X : Cx} (hu : X.A.units + 64 < cLine) : CallR X (.builtin "sorted") (rSortD X.K) := by
  intro pins s σ H vs us Q I r h
  obtain ⟨a, zs, rfl, hs, hd, al, sk, q⟩ := h
  obtain ⟨its, rv, hl, hz⟩ := I.list hs
  rw [Vals.ref1 r]
  rw [List.length_map] at hz
  refine PySem.W.sorted_data (enc := fun z : V × PyData => z.2) hl.isList (each_vals rv) (each_reads I rv fun z hz => (hd z hz).1) al sk hz (fun b hb => by have := (hd b hb).2; omega) fun out h1 h2 => ?_
  obtain ⟨ep, he'⟩ := PyProof.Rows.sortedAll_at s.heap its (List.toArray out)
  have hlen : ((zs.mergeSort prLe).map (·.1)).length ≤ sizeLine := by rw [List.length_map, List.length_mergeSort]; exact hz
  exact ⟨.ref _, upd H (s.heap.objs.size + 1) (.lst ((zs.mergeSort prLe).map (·.1))), I.laid (t' := s.toks) (fun _ _ => PyProof.Rows.sortedAll_old) (Nat.le_succ _) ⟨hlen, out, ep, vals_each h2, he'⟩, rfl, q _ (I.hok.fresh (Nat.le_succ _))⟩
theorem q_sortD {K : PySem.W.Frag} {H : Hp} {Q : VK} {a : Addr} (zs : Prs) (h : SqL K H a (zs.map (·.1))) (hd : ∀ z ∈ zs, Dp K H z.1 z.2 ∧ z.2.depth ≤ 60) (al : AllAlike (zs.map (·.2))) (sk : Sortable (zs.map (·.2)))
    (q : ∀ p H', H p = none → Same H H' → H' p = some (.lst ((zs.mergeSort prLe).map (·.1))) → Q (.ref p) H') : rSortD K [.ref a] H Q := ⟨a, zs, rfl, h, hd, al, sk, fun p n => q p _ n (Same.new n) upd_same⟩
end Bt
namespace Bt
open PySem PySem.Spec PyProof.Rows L2 LamX NdefX
open PySem.W (dataLt dataLe alike AllAlike Sortable)
theorem words90_ : True := by
  k_with "s_Q21" => first
    | ((with_reducible refine' s_var ?hv ?_); (case hv => exact rfl))
    | with_reducible first
      | refine' s_c ?_ | refine' s_op ?_ | refine' s_asg ?_ | refine' s_gname ?_ | refine' s_seq ?_ | refine' s_next ?_ | refine' s_ret ?_ | refine' s_ifS ?_ | refine' s_drop ?_ | refine' s_retN ?_ | refine' s_test ?_ | refine' s_B ?_ | refine' q_test ?_ | refine' s_int ?_ | refine' s_cons ?_ | refine' s_nil ?_ | refine' s_call ?_ | refine' s_CB ?_ | refine' s_andT ?_ | refine' s_orT ?_ | refine' s_notT ?_ | refine' s_andV ?_ | refine' s_orV ?_ | refine' s_notV ?_ | refine' s_ifV ?_ | refine' s_chain ?_ | refine' s_sl ?_ | refine' s_noPart ?_ | refine' s_part ?_ | refine' s_gsub ?_ | refine' s_BM ?_ | refine' s_tup ?_ | refine' s_lst ?_ | refine' q_add ?_ | refine' q_sub ?_ | refine' q_lt ?_ | refine' q_le ?_ | refine' q_gt ?_ | refine' q_ge ?_ | refine' s_ifT ?_ | refine' s_ifF ?_ | refine' s_yes ?_ | refine' s_iStr ?_ | refine' s_M0 ?_ | refine' s_for ?_ | refine' s_rng1 ?_ | refine' s_par ?_ | refine' s_gcons ?_ | refine' s_gnil ?_ | refine' s_iList ?_ | refine' s_iEnum ?_ | refine' s_raise1 ?_
      | (refine' q_mod ?hm ?_; (case hm => first | omega | decide))
    | dsimp only
  k_with "r_Q21" => repeat (k_extra "s_Q21")
  trivial
/-! ### places as data, in order -/
abbrev keyOf (q : Str × Str) : List Key := [.inr q.1, .inr q.2]
def dPl (q : Str × Str) : PyData := .tuple [.str q.1, .str q.2]
theorem eqv_str (a b : Str) : PyData.eqv (.str a) (.str b) = decide (a = b) := by
  simp only [PyData.eqv]
  by_cases h : a = b <;> simp [h]
theorem eqv_pl (p q : Str × Str) : PyData.eqv (dPl p) (dPl q) = decide (p = q) := by
  obtain ⟨p1, p2⟩ := p
  obtain ⟨q1, q2⟩ := q
  unfold dPl
  simp only [PyData.eqv, PyData.eqvAll, Prod.mk.injEq, Bool.and_true]
  rw [Bool.decide_and]
  congr 1 <;> · by_cases h : _ = _ <;> simp_all
theorem sh_pl {q : Str × Str} (h1 : Nm q.1) (h2 : Nm q.2) : SeqAt.shaped (dPl q) = true := by
  unfold SeqAt.shaped
  simp [dPl, PyData.canLay0, PyData.canLayAll0, PyData.depth, PyData.depthAll, h1.asc.ok, h2.asc.ok]
theorem dp_pl {K : PySem.W.Frag} {H : Hp} {a : Addr} {q : Str × Str} (h : H a = some (.tup [.str q.1, .str q.2])) : Dp K H (.ref a) (dPl q) := .tup (SqT.of h) (.cons (.str _) (.cons (.str _) .nil))
theorem cutV_take {xs : List V} (k : Nat) : cutV xs none (some (k : Int)) = xs.take k := by
  unfold cutV
  rw [HT.sIx_nat, HT.sIx_none, List.drop_zero, Nat.sub_zero]
  rcases Nat.lt_or_ge xs.length k with h | h
  · rw [Nat.min_eq_right (by omega), List.take_of_length_le (Nat.le_refl _), List.take_of_length_le (by omega)]
  · rw [Nat.min_eq_left h]
theorem cutV_drop {xs : List V} (k : Nat) : cutV xs (some (k : Int)) none = xs.drop k := by
  unfold cutV
  rw [HT.sIx_nat, HT.sIx_none]
  rcases Nat.lt_or_ge xs.length k with h | h
  · rw [Nat.min_eq_right (by omega), List.drop_eq_nil_of_le (Nat.le_refl _), List.drop_eq_nil_of_le (by omega), List.take_nil]
  · rw [Nat.min_eq_left h, List.take_of_length_le (by rw [List.length_drop]; omega)]
theorem pss_deadA {X : Cx} {b : List Stmt} : PSs X b (fun _ _ _ => False) := ⟨fun _ _ _ _ _ _ h => h.elim⟩
def pLe (p q : Str × Str) : Bool := dataLe false dPl p q
theorem dl_total {β : Type} (k : β → PyData) (a b : β) : dataLe false k a b = true ∨ dataLe false k b a = true := (PySem.W.sortLe_total _ false _).total a b
theorem dl_pw {β : Type} (k : β → PyData) (l : List β) : (l.mergeSort (dataLe false k)).Pairwise fun a b => dataLe false k a b = true :=
  List.pairwise_mergeSort (fun a b c h1 h2 => (PySem.W.sortLe_total _ false _).trans a b c h1 h2) (fun a b => Bool.or_eq_true_iff.mpr ((PySem.W.sortLe_total _ false _).total a b)) l
theorem dl_lt {β : Type} (k : β → PyData) (a b : β) : dataLe false k a b = !dataLt (k b) (k a) := rfl
theorem lt_str (x y : Str) : (!dataLt (.str y) (.str x)) = decide (x.cps.toList ≤ y.cps.toList) := congrFun (congrFun (PySem.W.dataLe_str (fun z : Str => z)) x) y
theorem str_ext {x y : Str} (h : x.cps.toList = y.cps.toList) : x = y := by
  cases x with
  | mk a => cases y with
    | mk b => congr 1; exact Array.toList_inj.mp h
theorem eqv_strb (a b : Str) : PyData.eqv (.str a) (.str b) = decide (a = b) := eqv_str a b
theorem pLe_antisymm {p q : Str × Str} (h1 : pLe p q = true) (h2 : pLe q p = true) : p = q := by
  obtain ⟨p1, p2⟩ := p
  obtain ⟨q1, q2⟩ := q
  unfold pLe at h1 h2
  rw [dl_lt] at h1 h2
  unfold dPl at h1 h2
  rw [PySem.W.dataLt_pair (by simp [alike]) (by simp [alike]), eqv_strb, eqv_strb] at h1 h2
  by_cases e1 : p1 = q1
  · by_cases e2 : p2 = q2
    · rw [e1, e2]
    · exfalso
      simp only [e1, decide_true, if_true, e2, Ne.symm e2, decide_false, Bool.false_eq_true, if_false] at h1 h2
      have a1 := of_decide_eq_true ((lt_str p2 q2).symm.trans h1)
      have a2 := of_decide_eq_true ((lt_str q2 p2).symm.trans h2)
      exact e2 (str_ext (List.le_antisymm a1 a2))
  · exfalso
    simp only [e1, Ne.symm e1, decide_false, Bool.false_eq_true, if_false] at h1 h2
    have a1 := of_decide_eq_true ((lt_str p1 q1).symm.trans h1)
    have a2 := of_decide_eq_true ((lt_str q1 p1).symm.trans h2)
    exact e1 (str_ext (List.le_antisymm a1 a2))
theorem Pls.pairs {H : Hp} {xs : List V} {ps : List (Str × Str)} (h : Pls H xs ps) : ∃ zs : List (V × (Str × Str)), zs.map (·.1) = xs ∧ zs.map (·.2) = ps ∧ ∀ z ∈ zs, PlAt H z.1 z.2 := by
  induction h with
  | nil => exact ⟨[], rfl, rfl, fun _ h => absurd h List.not_mem_nil⟩
  | cons h _ ih =>
    obtain ⟨zs, rfl, rfl, k⟩ := ih
    exact ⟨(_, _) :: zs, rfl, rfl, fun z m => by
      rcases List.mem_cons.mp m with rfl | m
      · exact h
      · exact k z m⟩
theorem Pls.of {H : Hp} : ∀ {zs : List (V × (Str × Str))}, (∀ z ∈ zs, PlAt H z.1 z.2) → Pls H (zs.map (·.1)) (zs.map (·.2))
  | [], _ => .nil
  | z :: zs, h => .cons (h z List.mem_cons_self) (Pls.of fun y m => h y (List.mem_cons_of_mem _ m))
theorem PlAt.dp {K : PySem.W.Frag} {H : Hp} {x : V} {q : Str × Str} : PlAt H x q → Dp K H x (dPl q) := fun ⟨a, e, h⟩ => by
  subst e
  exact dp_pl h
theorem q_sortP {K : PySem.W.Frag} {H : Hp} {Q : VK} {a : Addr} {xs : List V} {ps : List (Str × Str)} (h : SqL K H a xs) (hp : Pls H xs ps)
    (q : ∀ p H' ys, H p = none → Same H H' → H' p = some (.lst ys) → Pls H' ys (ps.mergeSort pLe) → Q (.ref p) H') : rSortD K [.ref a] H Q := by
  obtain ⟨zs, rfl, rfl, k⟩ := hp.pairs
  refine q_sortD (zs.map fun z => (z.1, dPl z.2)) (by rw [List.map_map]; exact h) (fun z hz => ?_) ?_ ?_ fun p H' np S hp' => ?_
  · obtain ⟨y, my, rfl⟩ := List.mem_map.mp hz
    exact ⟨(k y my).dp, by simp [dPl, PyData.depth, PyData.depthAll]⟩
  · rw [List.map_map]
    exact AllAlike.of fun b b' => by simp [dPl, alike, PySem.W.alikeAll]
  · rw [List.map_map]
    exact Sortable.tuples fun b => ⟨_, _, rfl⟩
  · have m1 : (zs.map fun z => (z.1, dPl z.2)).mergeSort prLe = (zs.mergeSort (dataLe false fun z : V × (Str × Str) => dPl z.2)).map fun z => (z.1, dPl z.2) :=
      (List.map_mergeSort (f := fun z : V × (Str × Str) => ((z.1, dPl z.2) : V × PyData)) (r := dataLe false fun z : V × (Str × Str) => dPl z.2) (s := prLe) fun _ _ _ _ => rfl).symm
    have m2 : (zs.mergeSort (dataLe false fun z : V × (Str × Str) => dPl z.2)).map (·.2) = (zs.map (·.2)).mergeSort pLe :=
      List.map_mergeSort (f := fun z : V × (Str × Str) => z.2) (r := dataLe false fun z : V × (Str × Str) => dPl z.2) (s := pLe) fun _ _ _ _ => rfl
    rw [m1, List.map_map] at hp'
    refine q p H' _ np S hp' ?_
    rw [← m2]
    exact Pls.of fun z mz => (k z (List.mem_mergeSort.mp mz)).mono S
theorem canLay_pls : ∀ {ps : List (Str × Str)}, (∀ q ∈ ps, Nm q.1 ∧ Nm q.2) → PyData.canLayAll0 (ps.map dPl) = true
  | [], _ => by simp [PyData.canLayAll0]
  | q :: ps, h => by
    have z1 : PyData.strOk q.1 = true := (h q List.mem_cons_self).1.asc.ok
    have z2 : PyData.strOk q.2 = true := (h q List.mem_cons_self).2.asc.ok
    simp only [List.map_cons, PyData.canLayAll0, canLay_pls fun z hz => h z (List.mem_cons_of_mem _ hz), Bool.and_true, dPl, PyData.canLay0, z1, z2]
theorem depth_pls : ∀ (ps : List (Str × Str)), PyData.depthAll (ps.map dPl) ≤ 5
  | [] => by simp [PyData.depthAll]
  | q :: ps => by
    have := depth_pls ps
    simp only [List.map_cons, PyData.depthAll, dPl, PyData.depth]
    omega
def dPs (ps : List (Str × Str)) : PyData := .list (ps.map dPl)
theorem sh_pls {ps : List (Str × Str)} (h : ∀ q ∈ ps, Nm q.1 ∧ Nm q.2) : SeqAt.shaped (dPs ps) = true := by
  unfold SeqAt.shaped dPs
  rw [Bool.and_eq_true, decide_eq_true_eq]
  have := depth_pls ps
  refine ⟨by simp only [PyData.canLay0]; exact canLay_pls h, ?_⟩
  simp only [PyData.depth]
  omega
theorem Pls.dps {K : PySem.W.Frag} {H : Hp} {xs : List V} {ps : List (Str × Str)} (h : Pls H xs ps) : DpAll K H xs (ps.map dPl) := by
  induction h with
  | nil => exact .nil
  | cons h _ ih => exact .cons h.dp ih
theorem keyOf_inj {p q : Str × Str} (h : keyOf p = keyOf q) : p = q := by
  injection h with h1 h2
  injection h2 with h2 _
  injection h1 with h1
  injection h2 with h2
  exact Prod.ext h1 h2
theorem Pls.get {H : Hp} {xs : List V} {ps : List (Str × Str)} (h : Pls H xs ps) : ∀ {i : Nat} {x : V}, xs[i]? = some x → ∃ q, q ∈ ps ∧ PlAt H x q := by
  induction h with
  | nil => intro i x e; simp at e
  | cons h _ ih =>
    intro i x e
    cases i with
    | zero => cases Option.some.inj e; exact ⟨_, List.mem_cons_self, h⟩
    | succ i =>
      obtain ⟨q, m, p⟩ := ih (i := i) (by simpa using e)
      exact ⟨q, List.mem_cons_of_mem _ m, p⟩
theorem SqL_but {K : PySem.W.Frag} {H H' : Hp} {a p : Addr} {xs : List V} (n : a ≠ p) (B : But p H H') (h : SqL K H a xs) : SqL K H' a xs := by
  rcases h with (h | ⟨o, h⟩) | h
  · exact .inl (.inl (B _ _ n h))
  · exact .inl (.inr ⟨o, B _ _ n h⟩)
  · exact .inr h
def Sc1 (K : PySem.W.Frag) (H : Hp) (p a : Addr) (xs : List V) : Prop := (a ≠ p ∧ SqL K H a xs) ∨ ∀ H', SqL K H' a xs
theorem Sc1.of {K : PySem.W.Frag} {H H' : Hp} {p a : Addr} {xs : List V} (h : SqL K H a xs) (n : H p = none) (S : Same H H') : Sc1 K H' p a xs := by
  rcases h with (h | ⟨o, h⟩) | h
  · exact .inl ⟨ne_of_none h n, .inl (.inl (S _ _ h))⟩
  · exact .inl ⟨ne_of_none h n, .inl (.inr ⟨o, S _ _ h⟩)⟩
  · exact .inr fun _ => .inr h
theorem Sc1.sq {K : PySem.W.Frag} {H : Hp} {p a : Addr} {xs : List V} (h : Sc1 K H p a xs) : SqL K H a xs := h.elim (fun z => z.2) fun z => z H
theorem Sc1.mono {K : PySem.W.Frag} {H H' : Hp} {p a : Addr} {xs : List V} (S : Same H H') (h : Sc1 K H p a xs) : Sc1 K H' p a xs := h.imp (fun z => ⟨z.1, SqL_monoN (ext_same S) z.2⟩) id
theorem Sc1.but {K : PySem.W.Frag} {H H' : Hp} {p a : Addr} {xs : List V} (B : But p H H') (h : Sc1 K H p a xs) : Sc1 K H' p a xs := h.imp (fun z => ⟨z.1, SqL_but z.1 B z.2⟩) id
theorem Sc1.re {K : PySem.W.Frag} {H H' : Hp} {p a : Addr} {xs : List V} (h : Sc1 K H p a xs) (q : SqL K H' a xs) : Sc1 K H' p a xs := h.imp (fun z => ⟨z.1, q⟩) id
/-- all but lists are kept -/
def NL (H H' : Hp) : Prop := ∀ b o, H b = some o → (∀ xs, o ≠ .lst xs) → H' b = some o
theorem NL.but {H H' : Hp} {p : Addr} {xs : List V} (h : H p = some (.lst xs)) (B : But p H H') : NL H H' := fun b o e n => B b o (fun z => by rw [z, h] at e; exact n _ (Option.some.inj e).symm) e
theorem NL.pu {H H' : Hp} {p : Addr} (h : Purse H p) (B : But p H H') : NL H H' := let ⟨_, _, _, e, _⟩ := h; NL.but e B
theorem PlAt.nl {H H' : Hp} {x : V} {q : Str × Str} (N : NL H H') : PlAt H x q → PlAt H' x q := fun ⟨a, e, h⟩ => ⟨a, e, N _ _ h (fun _ z => by cases z)⟩
theorem Pls.nl {H H' : Hp} {xs : List V} {ps : List (Str × Str)} (N : NL H H') (h : Pls H xs ps) : Pls H' xs ps := by
  induction h with
  | nil => exact .nil
  | cons h _ ih => exact .cons (h.nl N) ih
theorem Pls.app {H : Hp} {xs ys : List V} {ps qs : List (Str × Str)} (h : Pls H xs ps) (g : Pls H ys qs) : Pls H (xs ++ ys) (ps ++ qs) := by
  induction h with
  | nil => exact g
  | cons h _ ih => exact .cons h ih
theorem perm_lift {α β : Type} {f : α → β} {ys xs : List β} (h : ys.Perm xs) : ∀ zs : List α, xs = zs.map f → ∃ zs' : List α, zs'.Perm zs ∧ zs'.map f = ys := by
  induction h with
  | nil => exact fun zs e => ⟨zs, .refl _, e.symm⟩
  | cons x _ ih =>
    intro zs e
    cases zs with
    | nil => cases e
    | cons z zs =>
      injection e with e1 e2
      obtain ⟨w, p, q⟩ := ih zs e2
      exact ⟨z :: w, p.cons z, by rw [List.map_cons, q, e1]⟩
  | swap x y l =>
    intro zs e
    match zs, e with
    | z1 :: z2 :: zs, e =>
      injection e with e1 e2
      injection e2 with e2 e3
      exact ⟨z2 :: z1 :: zs, .swap _ _ _, by rw [List.map_cons, List.map_cons, e1, e2, e3]⟩
  | trans _ _ ih1 ih2 =>
    intro zs e
    obtain ⟨w, p, q⟩ := ih2 zs e
    obtain ⟨w', p', q'⟩ := ih1 w q.symm
    exact ⟨w', p'.trans p, q'⟩
theorem worldOf_nodup : ∀ {fs ns : List Str}, fs.Nodup → ns.Nodup → (worldOf fs ns).Nodup
  | [], _, _, _ => .nil
  | f :: fs, ns, hf, hn => by
    have ih := worldOf_nodup (List.nodup_cons.mp hf).2 hn
    unfold worldOf at ih ⊢
    rw [List.flatMap_cons]
    refine List.nodup_append.mpr ⟨List.pairwise_map.mpr (hn.imp fun n e => n (Prod.mk.inj e).2), ih, fun a ha b hb e => ?_⟩
    obtain ⟨z, hz, rfl⟩ := List.mem_map.mp ha
    subst e
    obtain ⟨g, hg, hb⟩ := List.mem_flatMap.mp hb
    obtain ⟨y, hy, e⟩ := List.mem_map.mp hb
    exact (List.nodup_cons.mp hf).1 ((Prod.mk.inj e).1 ▸ hg)
theorem worldOf_mem {fs ns : List Str} {q : Str × Str} (h : q ∈ worldOf fs ns) : q.1 ∈ fs ∧ q.2 ∈ ns := by
  unfold worldOf at h
  obtain ⟨f, hf, hb⟩ := List.mem_flatMap.mp h
  obtain ⟨y, hy, rfl⟩ := List.mem_map.mp hb
  exact ⟨hf, hy⟩
/-! ### answers left out and turned -/
theorem nm_arg {K : PySem.W.Frag} {H : Hp} {z : Str} (h : Nm z) : NameArg K H (.str z) := ⟨"str", Pl.str, fun y e => by cases e; have := h.2.1; omega⟩
theorem room66 {k : Nat} {A : Around} (r : Room k A) : A.units + 1 + 65 < cLine := by have := r.un; omega
theorem s_fld {K : PySem.W.Frag} {ta : TE} {f : Str} {σ : L2.St} {H : Hp} {Q : VK} (h : ta σ H fun x H1 => ∃ a C dx fs v, x = .ref a ∧ H1 a = some (.ins C dx fs) ∧ Cls K C ∧ NoAttr K C f ∧ fs.lookup f = some v ∧ Q v H1) : tFld K ta f σ H Q := h
theorem s_sFld {K : PySem.W.Frag} {ta tv : TE} {f : Str} {D : Ends} {σ : L2.St} {H : Hp} (h : tv σ H fun y H1 => ta σ H1 fun x H2 => ∃ a C dx fs, x = .ref a ∧ H2 a = some (.ins C dx fs) ∧ Cls K C ∧ NoAttr K C f ∧ fs.length < 1000 ∧ D.nx σ (upd H2 a (.ins C dx (putF f y fs)))) : sFld K ta tv f D σ H := h
/-! ### answers in order -/
theorem q_cut8 {tu tz : TS} {D : Ends} {σ : L2.St} {H : Hp} {M : L2.St → Hp → Prop} (h : tu { D with nx := M } σ H) (k : ∀ σ' H', M σ' H' → tz D σ' H') : C8.tCut tu tz D σ H := ⟨M, h, k⟩
def rListOf (K : PySem.W.Frag) : List V → Hp → VK → Prop := fun xs H Q => ∃ p ys, xs = [.ref p] ∧ (SqL K H p ys ∨ SqT K H p ys) ∧ ∀ l, H l = none → Q (.ref l) (upd H l (.lst ys))
theorem call_listOf {X : Cx} : CallR X (.type "list") (rListOf X.K) := call_list_of
theorem q_listL {K : PySem.W.Frag} {H : Hp} {Q : VK} {p : Addr} {ys : List V} (h : SqL K H p ys) (q : ∀ l H', H l = none → Same H H' → H' l = some (.lst ys) → Q (.ref l) H') : rListOf K [.ref p] H Q := ⟨p, ys, rfl, .inl h, fun l n => q l _ n (Same.new n) upd_same⟩
theorem s_meth {C : Addr} {m : Str} {sp : Sp} {dvs : List V} {E : XK} {ta : TE} {t : TA} {σ : L2.St} {H : Hp} {Q : VK} (h : ta σ H fun x H1 => ∃ a dx fs, x = .ref a ∧ H1 a = some (.ins C dx fs) ∧ fs.lookup m = none ∧ t σ H1 fun vs H2 => sp (x :: (vs ++ dvs)) H2 Q E) : tMeth C m sp dvs E ta t σ H Q := h
theorem s_callSD {sp : Sp} {dvs : List V} {E : L2.St → XK} {t : TA} {σ : L2.St} {H : Hp} {Q : VK} (h : t σ H fun vs H1 => sp (vs ++ dvs) H1 Q (E σ)) : tCallSD sp dvs E t σ H Q := h
theorem lt1 {a c : Nat} (h : a + 64 < c) : a + 1 < c := by omega
/-! ### what an ask tells -/
theorem lt2 {a c : Nat} (h : a + 64 < c) : a + 2 < c := by omega
section
variable {X : Cx} {k j : Nat} {x : Str} {sp : Sp} {p pos : Pos} {e : Expr} {es : List Expr} {t : TA} {W : WX}
theorem pe_cxS (c : CalX X.prog X.w X.K X.mg X.base k x sp) (hr : Room j X.A) (hk : k ≤ j) (tk : Takes X W) (hg : Gl X x) (ha : PA X (e :: es) t)
    (hdb : (x == ("__debug__" : Str)) = false := by decide) (he : starEach (e :: es) X.env = (false, eval e X.env) :: starEach es X.env := by rfl) (hpl : (backTo pos (starEach es X.env)).any (·.1) = false := by rfl) :
    PE X (.Call (.Name x p) (e :: es) [] pos) (tCallSD sp [] (fun σ => WE W σ) t) := by
  obtain ⟨f, fd, ps, F, hm, kp, b⟩ := c.ex
  exact pe_callSD F (hr.mono hk) hg hm kp b .nil (fun σ => passAt tk σ) ha hdb he hpl
end

theorem s_din {ty td : TE} {σ : L2.St} {H : Hp} {Q : VK} (h : ty σ H fun y H1 => td σ H1 fun x H2 => ∃ a o, x = .ref a ∧ DGet H2 a y o ∧ Q (.bl o.isSome) H2) : tDIn ty td σ H Q := h
def rIsNot : R2 := fun x y H Q => y = .non ∧ Q (.bl (!decide (x = .non))) H
theorem op_isNotNon {X : Cx} : OpR X (compareOp .IsNot) rIsNot := op_notN
theorem q_isNotNon {H : Hp} {Q : VK} {x : V} (q : Q (.bl (!decide (x = .non))) H) : rIsNot x .non H Q := ⟨rfl, q⟩
def tDead : TE := fun _ _ _ => False
theorem pe_dead {X : Cx} {e : Expr} : PE X e tDead := ⟨fun _ _ _ _ _ _ h => h.elim⟩
def rIsN : R2 := fun x y H Q => y = .non ∧ Q (.bl (decide (x = .non))) H
theorem op_isNon {X : Cx} : OpR X (compareOp .Is) rIsN := op_isN
theorem q_isNon {H : Hp} {Q : VK} {x : V} (q : Q (.bl (decide (x = .non))) H) : rIsN x .non H Q := ⟨rfl, q⟩
end Bt
namespace Bt
open PySem PySem.Spec PyProof.Rows L2
open PySem.W (dataLt alike)
/-! ### a <= b, a > b of data that are alike; v in o, v not in o by an own __contains__ -/
def rLeD (K : PySem.W.Frag) : R2 := fun x y H Q => ∃ d e, Dp K H x d ∧ Dp K H y e ∧ alike d e = true ∧ d ≠ .none ∧ d.depth ≤ 60 ∧ Q (.bl (!dataLt e d)) H
def rGtD (K : PySem.W.Frag) : R2 := fun x y H Q => ∃ d e, Dp K H x d ∧ Dp K H y e ∧ alike d e = true ∧ d ≠ .none ∧ d.depth ≤ 60 ∧ Q (.bl (dataLt e d)) H
theorem op_leD {X : Cx} (hu : X.A.units + 64 < cLine) : OpR X (compareOp .LtE) (rLeD X.K) := by
  intro pins s σ H x y v u Q I rx ry h
  obtain ⟨d, e, dx, dy, al, nn, dp, q⟩ := h
  obtain ⟨as, r1⟩ := Dp.reads I d x v dx rx
  obtain ⟨bs, r2⟩ := Dp.reads I e y u dy ry
  show wpAny (model X.prog X.w) X.A (richCompare .LtE v u) (EP X pins σ Q) X.xe s
  exact PySem.W.rcLe_alike d e X.A s v u as bs r1 r2 al nn (by omega) X.prog X.w _ _ ⟨.bl _, H, I, rfl, q⟩
theorem op_gtD {X : Cx} (hu : X.A.units + 64 < cLine) : OpR X (compareOp .Gt) (rGtD X.K) := by
  intro pins s σ H x y v u Q I rx ry h
  obtain ⟨d, e, dx, dy, al, nn, dp, q⟩ := h
  obtain ⟨as, r1⟩ := Dp.reads I d x v dx rx
  obtain ⟨bs, r2⟩ := Dp.reads I e y u dy ry
  show wpAny (model X.prog X.w) X.A (richCompare .Gt v u) (EP X pins σ Q) X.xe s
  exact PySem.W.rcGt_alike d e X.A s v u as bs r1 r2 al nn (by omega) X.prog X.w _ _ ⟨.bl _, H, I, rfl, q⟩
theorem q_leD {K : PySem.W.Frag} {x y : V} {H : Hp} {Q : VK} {d e : PyData} (dx : Dp K H x d) (dy : Dp K H y e) (al : alike d e = true) (nn : d ≠ .none) (dp : d.depth ≤ 60) (q : Q (.bl (!dataLt e d)) H) : rLeD K x y H Q := ⟨d, e, dx, dy, al, nn, dp, q⟩
theorem q_gtD {K : PySem.W.Frag} {x y : V} {H : Hp} {Q : VK} {d e : PyData} (dx : Dp K H x d) (dy : Dp K H y e) (al : alike d e = true) (nn : d ≠ .none) (dp : d.depth ≤ 60) (q : Q (.bl (dataLt e d)) H) : rGtD K x y H Q := ⟨d, e, dx, dy, al, nn, dp, q⟩
def rInOwn (K : PySem.W.Frag) (C : Addr) (neg : Bool) (sp : Sp) (E : XK) : R2 := fun x y H Q => ∃ a dx fs, y = .ref a ∧ H a = some (.ins C dx fs) ∧ sp [y, x] H (fun v H' => ∃ b, v = .bl b ∧ Q (.bl (if neg then !b else b)) H') E
theorem op_inOwn {X : Cx} {CX : CXT} {n : Nat} {C f : Addr} {fd : FuncData} {ps : List Str} {sp : Sp} {E : XK} (F : FnOk X.prog X.w X.K X.mg X.base CX n f fd ps sp) (hr : Room n X.A)
    (hs : PySem.W.findIn X.K (.ref C) "__contains__" = some (some (.ref f))) (hf : PySem.W.isFn X.K (.ref f) = true) (hb : Binds X.K fd ps []) (hx : Passes CX X E) : OpR X (compareOp .In) (rInOwn X.K C false sp E) := by
  intro pins s σ H x y v u Q I rx ry hq
  obtain ⟨a, dx, fs, rfl, ha, hsp⟩ := hq
  cases ry
  obtain ⟨mA, J, _⟩ := ins_get I.hok ha
  obtain ⟨od, J, _⟩ := J.look
  obtain ⟨m, hF⟩ := I.fr
  refine PySem.W.in_K hF I.ok.mod.kin J hs hf ?_
  have hl := F.len _ _ _ _ hsp
  have r2 : Vals [V.ref a, x] [Value.ref a, v] := .cons rfl (.cons rx .nil)
  refine wpAny_call (codeAny_mono (F.run X.A X.stack s H ⟨[.ref a, v], []⟩ [.ref a, v] [.ref a, x] _ E hr I.env0 (by
    have := hb s [.ref a, v] I.kIn (by simpa using hl)
    simpa using this) r2 hsp) fun r s' hq => ?_)
  cases r with
  | error e => exact hx pins σ H s e s' I hq
  | ok fl =>
    cases fl with
    | ret w =>
      obtain ⟨z, H', I', rz, b, ez, q⟩ := I.after hq
      subst ez
      cases rz
      exact wpAny_pure (a := b) ⟨.bl b, H', I', rfl, q⟩
    | next => exact False.elim hq
    | brk => exact False.elim hq
    | cont => exact False.elim hq
theorem op_notInOwn {X : Cx} {CX : CXT} {n : Nat} {C f : Addr} {fd : FuncData} {ps : List Str} {sp : Sp} {E : XK} (F : FnOk X.prog X.w X.K X.mg X.base CX n f fd ps sp) (hr : Room n X.A)
    (hs : PySem.W.findIn X.K (.ref C) "__contains__" = some (some (.ref f))) (hf : PySem.W.isFn X.K (.ref f) = true) (hb : Binds X.K fd ps []) (hx : Passes CX X E) : OpR X (compareOp .NotIn) (rInOwn X.K C true sp E) := by
  intro pins s σ H x y v u Q I rx ry hq
  obtain ⟨a, dx, fs, rfl, ha, hsp⟩ := hq
  cases ry
  obtain ⟨mA, J, _⟩ := ins_get I.hok ha
  obtain ⟨od, J, _⟩ := J.look
  obtain ⟨m, hF⟩ := I.fr
  refine PySem.W.notIn_K hF I.ok.mod.kin J hs hf ?_
  have hl := F.len _ _ _ _ hsp
  have r2 : Vals [V.ref a, x] [Value.ref a, v] := .cons rfl (.cons rx .nil)
  refine wpAny_call (codeAny_mono (F.run X.A X.stack s H ⟨[.ref a, v], []⟩ [.ref a, v] [.ref a, x] _ E hr I.env0 (by
    have := hb s [.ref a, v] I.kIn (by simpa using hl)
    simpa using this) r2 hsp) fun r s' hq => ?_)
  cases r with
  | error e => exact hx pins σ H s e s' I hq
  | ok fl =>
    cases fl with
    | ret w =>
      obtain ⟨z, H', I', rz, b, ez, q⟩ := I.after hq
      subst ez
      cases rz
      exact wpAny_pure (a := b) ⟨.bl (!b), H', I', rfl, q⟩
    | next => exact False.elim hq
    | brk => exact False.elim hq
    | cont => exact False.elim hq
end Bt
namespace Bt
open PySem PySem.Spec PyProof.Rows L2
/-! ### len(o), o[i], o += v, o an instance with an own __len__, __getitem__, __iadd__ -/
section
variable {X : Cx} {CX : CXT} {n : Nat} {C f : Addr} {fd : FuncData} {ps : List Str} {sp : Sp} {E : XK}
/-- an own method called with the values vs: the run -/
theorem own_run {A : Around} {pins : List (Addr × Obj)} {σ : L2.St} {H : Hp} {s : Shared} {us : List Value} {vs : List V} {Q : VK} {Qv : Value → Shared → Prop} {E' : Value → Shared → Prop} (F : FnOk X.prog X.w X.K X.mg X.base CX n f fd ps sp) (hr : Room n A)
    (e0 : Env0 X.prog X.w X.K X.mg X.base A X.stack s H) (hb : Binds X.K fd ps []) (I : Inv X pins σ H s) (r : Vals vs us) (h : sp vs H Q E) (hv : ∀ v s', EP X pins σ Q v s' → Qv v s')
    (hx : ∀ e s', CX X.stack H s E e s' → E' e s') : wpAny (model X.prog X.w) A (call (.ref f) us) Qv E' s := by
  have hl := F.len _ _ _ _ h
  have hl' : (us ++ []).length = ps.length := by rw [List.append_nil, ← r.length]; exact hl
  have hb' := hb s us I.kIn hl'
  rw [List.append_nil] at hb'
  refine wpAny_call (codeAny_mono (F.run A X.stack s H ⟨us, []⟩ us vs Q E hr e0 hb' r h) fun r s' hq => ?_)
  cases r with
  | error e => exact hx e s' hq
  | ok fl =>
    cases fl with
    | ret u => exact hv u s' (I.after hq)
    | next => exact False.elim hq
    | brk => exact False.elim hq
    | cont => exact False.elim hq
def rLenOwn (C : Addr) (sp : Sp) (E : XK) : List V → Hp → VK → Prop := fun xs H Q => ∃ a dx fs, xs = [.ref a] ∧ H a = some (.ins C dx fs) ∧ sp [.ref a] H (fun v H' => ∃ m : Int, v = .int m ∧ 0 ≤ m ∧ m < 2 ^ 63 ∧ Q (.int m) H') E
theorem call_lenOwn (F : FnOk X.prog X.w X.K X.mg X.base CX n f fd ps sp) (hr : Room (n + 1) X.A) (hs : PySem.W.findIn X.K (.ref C) "__len__" = some (some (.ref f))) (hf : PySem.W.isFn X.K (.ref f) = true) (hb : Binds X.K fd ps []) (hx : Passes CX X E) :
    CallR X (.builtin "len") (rLenOwn C sp E) := by
  intro pins s σ H xs us Q I rv h
  obtain ⟨a, dx, fs, rfl, ha, hsp⟩ := h
  obtain ⟨u, rfl, ru⟩ := rv.one
  cases ru
  obtain ⟨mA, J, _⟩ := ins_get I.hok ha
  obtain ⟨od, J, _⟩ := J.look
  obtain ⟨m, hF⟩ := I.fr
  refine PySem.W.len_K hF I.ok.mod.kin J hs hf ?_
  refine own_run F hr.in1 I.env0.in1 hb I (.cons (show RelV (.ref a) (.ref a) from rfl) .nil) hsp (fun v s' hq => ?_) (fun e s' hq => hx pins σ H s e s' I hq)
  obtain ⟨z, H', I', rz, k, ez, k0, k1, q⟩ := hq
  subst ez
  obtain ⟨t, rfl⟩ := rz
  exact ⟨⟨k0, k1⟩, .int k, H', I'.tok _, ⟨_, rfl⟩, q⟩
theorem s_lenOwn {K : PySem.W.Frag} {a : Addr} {H : Hp} {Q : VK} {dx : Addr} {fs : List (Str × V)} (ha : H a = some (.ins C dx fs)) (h : sp [.ref a] H (fun v H' => ∃ m : Int, v = .int m ∧ 0 ≤ m ∧ m < 2 ^ 63 ∧ Q (.int m) H') E) : rLenOwn C sp E [.ref a] H Q := ⟨a, dx, fs, rfl, ha, h⟩
/-- o += v, the own __iadd__ gives an instance -/
def rIaddOwn (C : Addr) (sp : Sp) (E : XK) : V → V → Hp → VK → Prop := fun x y H Q => ∃ a dx fs, x = .ref a ∧ H a = some (.ins C dx fs) ∧ sp [x, y] H (fun v H' => ∃ b, v = .ref b ∧ Q v H') E
theorem in_iaddOwn (F : FnOk X.prog X.w X.K X.mg X.base CX n f fd ps sp) (hr : Room n X.A) (hc : PySem.W.selfFirst X.K C = true) (hs : PySem.W.findIn X.K (.ref C) "__iadd__" = some (some (.ref f))) (hf : PySem.W.isFn X.K (.ref f) = true) (hb : Binds X.K fd ps []) (hx : Passes CX X E) :
    InOp X .Add (rIaddOwn C sp E) := by
  intro pins s σ H x y u v Q I rx ry h
  obtain ⟨a, dx, fs, rfl, ha, hsp⟩ := h
  cases rx
  obtain ⟨mA, J, _⟩ := ins_get I.hok ha
  obtain ⟨od, J, _⟩ := J.look
  obtain ⟨m, hF⟩ := I.fr
  refine PySem.W.ksp_inplace hF I.ok.mod.kin J hc hs hf ?_
  refine own_run F hr I.env0 hb I (.cons (show RelV (.ref a) (.ref a) from rfl) (.cons ry .nil)) hsp (fun v s' hq => ?_) (fun e s' hq => hx pins σ H s e s' I hq)
  obtain ⟨z, H', I', rz, b, ez, q⟩ := hq
  subst ez
  cases rz
  exact ⟨.ref b, H', I', rfl, q⟩
/-- o[i] -/
def tIxOwn (C : Addr) (sp : Sp) (E : XK) (to ti : TE) : TE := fun σ H Q => to σ H fun x H1 => ti σ H1 fun y H2 => ∃ a dx fs, x = .ref a ∧ H2 a = some (.ins C dx fs) ∧ sp [x, y] H2 Q E
theorem pe_ixOwn {o i : Expr} {pos : Pos} {to ti : TE} (ho : PE X o to) (hi : PE X i ti) (F : FnOk X.prog X.w X.K X.mg X.base CX n f fd ps sp) (hr : Room (n + 1) X.A) (hs : PySem.W.findIn X.K (.ref C) "__getitem__" = some (some (.ref f))) (hf : PySem.W.isFn X.K (.ref f) = true) (hfi : PySem.W.fnIn X.K f = true)
    (hb : Binds X.K fd ps []) (hx : Passes CX X E) (hn : ∀ a v, subscripted i true (.ref a) v = runValue (.builtin "lifetime.subscript" ⟨[.ref a, v], []⟩) := by intro _ _; rfl) : PE X (.Subscript o i pos) (tIxOwn C sp E to ti) := by
  refine ⟨fun pins s σ H Q I h => ?_⟩
  refine Subscript_ (thn (ho.run pins s σ H _ I h) fun u s1 ⟨x, H1, I1, rx, q1⟩ => thn (hi.run pins s1 σ H1 _ I1 q1) fun v s2 ⟨y, H2, I2, ry, a, dx, fs, ex, ha, hsp⟩ => ?_)
  subst ex
  cases rx
  obtain ⟨mA, J, _⟩ := ins_get I2.hok ha
  obtain ⟨od, J, _⟩ := J.look
  obtain ⟨m, hF⟩ := I2.fr
  refine PySem.W.sub_K hF I2.ok.mod.kin J hs hfi hf ?_ (hn a v)
  exact own_run F hr.in1 I2.env0.in1 hb I2 (.cons (show RelV (.ref a) (.ref a) from rfl) (.cons ry .nil)) hsp (fun v s' hq => hq) (fun e s' hq => hx pins σ H2 s2 e s' I2 hq)
theorem s_ixOwn {to ti : TE} {σ : L2.St} {H : Hp} {Q : VK} (h : to σ H fun x H1 => ti σ H1 fun y H2 => ∃ a dx fs, x = .ref a ∧ H2 a = some (.ins C dx fs) ∧ sp [x, y] H2 Q E) : tIxOwn C sp E to ti σ H Q := h
end
end Bt
namespace Bt
open PySem PySem.Spec PyProof.Rows L2
/-! ### == of lists and of tuples whose items are the same objects, or data -/
mutual
inductive EqV (K : PySem.W.Frag) (H : Hp) : Nat → V → V → Bool → Prop where
  | same {n : Nat} (a : Addr) : EqV K H n (.ref a) (.ref a) true
  | data {n : Nat} {x y : V} {d e : PyData} : Dp K H x d → Dp K H y e → SeqAt.shaped d = true → SeqAt.shaped e = true → EqV K H n x y (PyData.eqv d e)
  | lst {n : Nat} {a b : Addr} {xs ys : List V} {bs : List Bool} : a ≠ b → SqL K H a xs → SqL K H b ys → EqVs K H n xs ys bs → EqV K H (n + 1) (.ref a) (.ref b) (bs.all id)
inductive EqVs (K : PySem.W.Frag) (H : Hp) : Nat → List V → List V → List Bool → Prop where
  | nil {n : Nat} : EqVs K H n [] [] []
  | cons {n : Nat} {x y : V} {b : Bool} {xs ys : List V} {bs : List Bool} : EqV K H n x y b → EqVs K H n xs ys bs → EqVs K H n (x :: xs) (y :: ys) (b :: bs)
end
theorem all_range (bs : List Bool) : ((List.range bs.length).all fun j => (bs[j]?).getD true) = bs.all id := by
  rw [Bool.eq_iff_iff, List.all_eq_true, List.all_eq_true]
  constructor
  · intro h b hb
    obtain ⟨j, hj, e⟩ := List.mem_iff_getElem.mp hb
    have := h j (List.mem_range.mpr hj)
    rw [List.getElem?_eq_getElem hj, e] at this
    exact this
  · intro h j hj
    have hj := List.mem_range.mp hj
    rw [List.getElem?_eq_getElem hj]
    exact h _ (List.getElem_mem hj)
section
variable {X : Cx} {pins : List (Addr × Obj)} {σ : L2.St} {H : Hp} {s : Shared}
mutual
theorem eqV_at (I : Inv X pins σ H s) : ∀ (n : Nat) (x y : V) (b : Bool), EqV X.K H n x y b → ∀ (A : Around), A.units + n + 64 < cLine → ∀ (u v : Value), RelV x u → RelV y v → SeqAt.EqAt A s u v b
  | _, _, _, _, .same a, A, hu, u, v, rx, ry => by
    obtain rfl : u = Value.ref a := rx
    obtain rfl : v = Value.ref a := ry
    exact SeqAt.EqAt.same _
  | _, _, _, _, .data hd he sd se, A, hu, u, v, rx, ry => by
    obtain ⟨as, r1⟩ := Dp.reads I _ _ u hd rx
    obtain ⟨bs, r2⟩ := Dp.reads I _ _ v he ry
    exact SeqAt.eqAt_reads _ _ A s u v as bs r1 r2 (SeqAt.canLay_of_shaped sd) (SeqAt.canLay_of_shaped se) (SeqAt.room_of_shaped sd (by omega))
  | _, _, _, _, @EqV.lst _ _ n a b xs ys bs ne h1 h2 h3, A, hu, u, v, rx, ry => by
    obtain rfl : u = Value.ref a := rx
    obtain rfl : v = Value.ref b := ry
    obtain ⟨us, r1, p1, _⟩ := I.list h1
    obtain ⟨vs, r2, p2, _⟩ := I.list h2
    have hi : A.in1.units + n + 64 < cLine := by show A.units + 1 + n + 64 < cLine; omega
    obtain ⟨l1, l2, k⟩ := eqVs_at I _ _ _ _ h3 _ hi _ _ r1 r2
    have e : bs.all id = (List.range us.toArray.size).all fun j => (bs[j]?).getD true := by rw [List.size_toArray, l1, all_range]
    rw [e]
    refine SeqAt.EqAt.of_refs ne (SeqAt.RcAt.lists (items := us.toArray) (items2 := vs.toArray) ?_ ?_ (by simp [l1, l2]) (by omega) (fun j j1 j2 => ?_))
    · obtain ⟨o, n, ho, hc, _, hd⟩ := p1
      exact ⟨o, ho, hc, n, hd⟩
    · obtain ⟨o, n, ho, hc, _, hd⟩ := p2
      exact ⟨o, ho, hc, n, hd⟩
    · simpa using k j (by simpa using j1) (by simpa using j2)
theorem eqVs_at (I : Inv X pins σ H s) : ∀ (n : Nat) (xs ys : List V) (bs : List Bool), EqVs X.K H n xs ys bs → ∀ (A : Around), A.units + n + 64 < cLine → ∀ (us vs : List Value), Vals xs us → Vals ys vs → us.length = bs.length ∧ vs.length = bs.length ∧
    ∀ j (h1 : j < us.length) (h2 : j < vs.length), SeqAt.EqAt A s us[j] vs[j] ((bs[j]?).getD true)
  | _, _, _, _, .nil, A, hu, us, vs, r1, r2 => by
    cases r1
    cases r2
    exact ⟨rfl, rfl, fun j h1 _ => absurd h1 (Nat.not_lt_zero _)⟩
  | _, _, _, _, .cons h hs, A, hu, us, vs, r1, r2 => by
    cases r1 with
    | cons ra r1 =>
      cases r2 with
      | cons rb r2 =>
        obtain ⟨l1, l2, k⟩ := eqVs_at I _ _ _ _ hs _ hu _ _ r1 r2
        refine ⟨by simp [l1], by simp [l2], fun j h1 h2 => ?_⟩
        cases j with
        | zero => exact eqV_at I _ _ _ _ h _ hu _ _ ra rb
        | succ j => simpa using k j (by simpa using h1) (by simpa using h2)
end
end
def rEqI (K : PySem.W.Frag) (n : Nat) : R2 := fun x y H Q => ∃ a b xs ys bs, x = .ref a ∧ y = .ref b ∧ ((SqL K H a xs ∧ SqL K H b ys) ∨ (SqT K H a xs ∧ SqT K H b ys)) ∧ EqVs K H n xs ys bs ∧ Q (.bl (bs.all id)) H
def rNeI (K : PySem.W.Frag) (n : Nat) : R2 := fun x y H Q => ∃ a b xs ys bs, x = .ref a ∧ y = .ref b ∧ ((SqL K H a xs ∧ SqL K H b ys) ∨ (SqT K H a xs ∧ SqT K H b ys)) ∧ EqVs K H n xs ys bs ∧ Q (.bl (!bs.all id)) H
theorem op_eqI {X : Cx} {n : Nat} (hu : X.A.units + n + 65 < cLine) : OpR X (compareOp .Eq) (rEqI X.K n) := by
  intro pins s σ H x y v u Q I rx ry h
  obtain ⟨a, b, xs, ys, bs, rfl, rfl, hs, he, q⟩ := h
  obtain rfl : v = Value.ref a := rx
  obtain rfl : u = Value.ref b := ry
  have hi : X.A.in1.units + n + 64 < cLine := by show X.A.units + 1 + n + 64 < cLine; omega
  rcases hs with ⟨h1, h2⟩ | ⟨h1, h2⟩
  · obtain ⟨us, r1, p1, _⟩ := I.list h1
    obtain ⟨vs, r2, p2, _⟩ := I.list h2
    obtain ⟨l1, l2, k⟩ := eqVs_at I _ _ _ _ he _ hi _ _ r1 r2
    refine SeqAt.eq_listAt (items := us.toArray) (items2 := vs.toArray) (e := fun j => (bs[j]?).getD true) ?_ ?_ (by simp [l1, l2]) (by omega) (fun j j1 j2 => ?_) ⟨.bl _, H, I, rfl, ?_⟩
    · obtain ⟨o, n, ho, hc, _, hd⟩ := p1
      exact ⟨o, ho, hc, n, hd⟩
    · obtain ⟨o, n, ho, hc, _, hd⟩ := p2
      exact ⟨o, ho, hc, n, hd⟩
    · simpa using k j (by simpa using j1) (by simpa using j2)
    · rw [List.size_toArray, l1, all_range]
      exact q
  · obtain ⟨us, r1, p1, _⟩ := I.tuple h1
    obtain ⟨vs, r2, p2, _⟩ := I.tuple h2
    obtain ⟨l1, l2, k⟩ := eqVs_at I _ _ _ _ he _ hi _ _ r1 r2
    refine SeqAt.eq_tupleAt (items := us.toArray) (items2 := vs.toArray) (e := fun j => (bs[j]?).getD true) ?_ ?_ (by omega) (fun j j1 j2 => ?_) ⟨.bl _, H, I, rfl, ?_⟩
    · obtain ⟨o, ho, hc, n, hd⟩ := p1
      exact ⟨o, ho, hc, n, hd⟩
    · obtain ⟨o, ho, hc, n, hd⟩ := p2
      exact ⟨o, ho, hc, n, hd⟩
    · simpa using k j (by simpa using j1) (by simpa using j2)
    · rw [List.size_toArray, List.size_toArray, l1, l2, Nat.min_self, all_range, beq_self_eq_true, Bool.and_true]
      exact q
theorem op_neI {X : Cx} {n : Nat} (hu : X.A.units + n + 65 < cLine) : OpR X (compareOp .NotEq) (rNeI X.K n) := by
  intro pins s σ H x y v u Q I rx ry h
  obtain ⟨a, b, xs, ys, bs, rfl, rfl, hs, he, q⟩ := h
  obtain rfl : v = Value.ref a := rx
  obtain rfl : u = Value.ref b := ry
  have hi : X.A.in1.units + n + 64 < cLine := by show X.A.units + 1 + n + 64 < cLine; omega
  show wpAny (model X.prog X.w) X.A (richCompare .NotEq (.ref a) (.ref b)) (EP X pins σ Q) X.xe s
  rcases hs with ⟨h1, h2⟩ | ⟨h1, h2⟩
  · obtain ⟨us, r1, p1, _⟩ := I.list h1
    obtain ⟨vs, r2, p2, _⟩ := I.list h2
    obtain ⟨l1, l2, k⟩ := eqVs_at I _ _ _ _ he _ hi _ _ r1 r2
    refine SeqAt.RcNeAt.lists (items := us.toArray) (items2 := vs.toArray) (e := fun j => (bs[j]?).getD true) ?_ ?_ (by simp [l1, l2]) (by omega) (fun j j1 j2 => ?_) X.prog X.w X.xe _ ⟨.bl _, H, I, rfl, ?_⟩
    · obtain ⟨o, n, ho, hc, _, hd⟩ := p1
      exact ⟨o, ho, hc, n, hd⟩
    · obtain ⟨o, n, ho, hc, _, hd⟩ := p2
      exact ⟨o, ho, hc, n, hd⟩
    · simpa using k j (by simpa using j1) (by simpa using j2)
    · rw [List.size_toArray, l1, all_range]
      exact q
  · obtain ⟨us, r1, p1, _⟩ := I.tuple h1
    obtain ⟨vs, r2, p2, _⟩ := I.tuple h2
    obtain ⟨l1, l2, k⟩ := eqVs_at I _ _ _ _ he _ hi _ _ r1 r2
    refine SeqAt.RcNeAt.tuples (items := us.toArray) (items2 := vs.toArray) (e := fun j => (bs[j]?).getD true) ?_ ?_ (by omega) (fun j j1 j2 => ?_) X.prog X.w X.xe _ ⟨.bl _, H, I, rfl, ?_⟩
    · obtain ⟨o, ho, hc, n, hd⟩ := p1
      exact ⟨o, ho, hc, n, hd⟩
    · obtain ⟨o, ho, hc, n, hd⟩ := p2
      exact ⟨o, ho, hc, n, hd⟩
    · simpa using k j (by simpa using j1) (by simpa using j2)
    · rw [List.size_toArray, List.size_toArray, l1, l2, Nat.min_self, all_range, beq_self_eq_true, Bool.and_true]
      exact q
end Bt
namespace Bt
open PySem PySem.Spec PyProof.Rows L2
/-! ### dicts whose keys are tuples of texts: dict(pairs) -/
def mergeT (kvs more : List (List Key × V)) : List (List Key × V) := more.foldl (fun acc kv => putK acc kv.1 kv.2) kvs
theorem mergeT_cons (kvs : List (List Key × V)) (p : List Key × V) (more : List (List Key × V)) : mergeT kvs (p :: more) = mergeT (putK kvs p.1 p.2) more := rfl
theorem mergeT_len : ∀ (more kvs : List (List Key × V)), (mergeT kvs more).length ≤ kvs.length + more.length
  | [], _ => Nat.le_refl _
  | p :: more, kvs => by
    have h1 := mergeT_len more (putK kvs p.1 p.2)
    have h2 := length_putK kvs p.1 p.2
    rw [mergeT_cons, List.length_cons]
    omega
theorem KT.merge {H : Hp} : ∀ {more : List (List Key × V)} {ps : List (List Key × Addr × Value)} {kvs : List (List Key × V)} {xs : List (List Key × Addr × Value)}, KT H more ps → KT H kvs xs → KT H (mergeT kvs more) (storedAllH xs ps)
  | [], _, _, _, .nil, r => r
  | p :: more, q :: ps, kvs, xs, .cons h t, r => by
    obtain ⟨h1, h2, h3⟩ := h
    have := KT.merge t (KT.put r p.1 h2 h3)
    rw [mergeT_cons]
    show KT H _ (storedAllH (storedH xs q.1 q.2.1 q.2.2) ps)
    rw [← h1]
    exact this
/-- the pairs of a list: where each stands, where its key stands, the key, the value -/
abbrev PE4 : Type := Addr × Addr × List Key × V
def rDictT (K : PySem.W.Frag) : List V → Hp → VK → Prop := fun xs H Q => ∃ (a : Addr) (es : List PE4), xs = [.ref a] ∧ SqL K H a (es.map fun e => V.ref e.1) ∧ (∀ e ∈ es, SqT K H e.1 [.ref e.2.1, e.2.2.2] ∧ H e.2.1 = some (.tup (e.2.2.1.map kV))) ∧
  ∀ p, H p = none → Q (.ref p) (upd H p (.dT (mergeT [] (es.map fun e => e.2.2))))
section
variable {X : Cx}
theorem pairs4 {pins : List (Addr × Obj)} {σ : L2.St} {H : Hp} {s : Shared} (I : Inv X pins σ H s) : ∀ {es : List PE4}, (∀ e ∈ es, SqT X.K H e.1 [.ref e.2.1, e.2.2.2] ∧ H e.2.1 = some (.tup (e.2.2.1.map kV))) →
    ∃ prs : List (List Key × Addr × Value), KT H (es.map fun e => e.2.2) prs ∧ prs.length = es.length ∧ ∀ (j : Nat) (q : List Key × Addr × Value), prs[j]? = some q → ∃ e, es[j]? = some e ∧ IsTup s.heap e.1 #[.ref q.2.1, q.2.2] ∧ H q.2.1 = some (.tup (q.1.map kV))
  | [], _ => ⟨[], .nil, rfl, fun j q e => by simp at e⟩
  | e :: es, h => by
    obtain ⟨prs, r, hl, hp⟩ := pairs4 I (es := es) fun x hx => h x (List.mem_cons_of_mem _ hx)
    obtain ⟨h1, h2⟩ := h e List.mem_cons_self
    obtain ⟨its, rv, ht, _⟩ := I.tuple h1
    obtain ⟨u, y, ei, ru, ry⟩ := vals2 rv
    subst ei
    cases ru
    refine ⟨(e.2.2.1, e.2.1, y) :: prs, .cons ⟨rfl, h2, ry⟩ r, by rw [List.length_cons, List.length_cons, hl], fun j q e' => ?_⟩
    cases j with
    | zero =>
      cases Option.some.inj e'
      exact ⟨e, rfl, ht, h2⟩
    | succ j =>
      obtain ⟨x, e1, e2⟩ := hp j q (by simpa using e')
      exact ⟨x, by simpa using e1, e2⟩
theorem call_dictT (hcalm : X.calm = true) (hu : X.A.units + 3 < cLine) : CallR X (.type "dict") (rDictT X.K) := by
  intro pins s σ H xs us Q I r q
  obtain ⟨a, es, rfl, hq, hp, q⟩ := q
  obtain ⟨u, rfl, rx⟩ := vals1 r
  cases rx
  obtain ⟨its, rv, pl, hz⟩ := I.list hq
  have ei : its = (es.map (·.1)).map Value.ref := refs_at (by rw [List.map_map]; exact rv)
  subst ei
  rw [List.length_map] at hz
  obtain ⟨prs, rel, hl, hpr⟩ := pairs4 I hp
  obtain ⟨o, n, ho, hc, hd, hdat⟩ := pl
  have key : ∀ {q : List Key × Addr × Value}, q ∈ prs → IsTupleKey (mixKind X.prog X.w) s.heap q.1 q.2.1 := fun {q} hq => by
    obtain ⟨j, hj⟩ := List.mem_iff_getElem?.mp hq
    obtain ⟨e, _, _, h3⟩ := hpr j q hj
    exact key_of I.hok h3
  have lp : (prs.map fun q => (Value.ref q.2.1, q.2.2)).length = es.length := by rw [List.length_map, hl]
  have Tj : ∀ {j : Nat} {e : PE4}, es[j]? = some e → (es.map (·.1)).getD j 0 = e.1 := fun {j e} h => by
    rw [List.getD_eq_getElem?_getD, List.getElem?_map, h]
    rfl
  refine PySem.call_dict_pairsH (knd := tupleKind (mixKind X.prog X.w)) (ps := prs) (PySem.PairArg.list a ((es.map (·.1)).map Value.ref).toArray (fun j => (es.map (·.1)).getD j 0) (prs.map fun q => (Value.ref q.2.1, q.2.2))) (I.ok.hd hcalm) ?_ ?_ ?_ ?_ ?_ fun h' tk hd' k => ?_
  · show X.A.in1.in1.units < cLine
    simp only [Around.in1]
    omega
  · refine ⟨⟨o, n, ho, hc, hd, hdat⟩, by rw [lp]; simp, fun j kx v hj => ?_⟩
    rw [List.getElem?_map] at hj
    obtain ⟨q', hq', e'⟩ := Option.map_eq_some_iff.mp hj
    cases e'
    obtain ⟨e, he, ht, _⟩ := hpr j q' hq'
    refine ⟨?_, .inl ?_⟩
    · show _ = some (Value.ref ((es.map (·.1)).getD j 0))
      rw [Tj he]
      simp [he]
    · show s.heap.IsTuple ((es.map (·.1)).getD j 0) _
      rw [Tj he]
      obtain ⟨o', h1, h2, n', h3⟩ := ht
      exact ⟨o', h1, h2, n', h3⟩
  · refine ⟨by rw [List.length_map], fun i kx v hi => ?_⟩
    rw [PairRel, List.getElem?_map] at hi
    obtain ⟨q', hq', e'⟩ := Option.map_eq_some_iff.mp hi
    cases e'
    exact ⟨q'.1, q'.2.1, hq', rfl⟩
  · intro h' hk x hx
    obtain ⟨o', items, n', h1, h2, h3, h4⟩ := key hx
    exact ⟨o', items, n', hk _ _ (Nat.ne_of_lt (Heap.lt_size h1)) (fun z => nomatch z) h1, h2, h3, h4⟩
  · rw [lp]
    exact hz
  · have hm : (s.heap.objs.size == sysModules) = false := beq_eq_false_iff_ne.mpr (Nat.ne_of_gt I.big)
    have hlen : (mergeT [] (es.map fun e => e.2.2)).length ≤ sizeLine := by
      refine Nat.le_trans (mergeT_len _ _) ?_
      rw [List.length_nil, Nat.zero_add, List.length_map]
      exact hz
    obtain ⟨q', es', ep, hq', h2, h3, h4, _, h5⟩ := hd'
    have hf : H s.heap.objs.size = none := I.hok.fresh (Nat.le_refl _)
    have rel' : KT (upd H s.heap.objs.size (.dT (mergeT [] (es.map fun e => e.2.2)))) (mergeT [] (es.map fun e => e.2.2)) (storedAllH [] prs) := (KT.merge rel .nil).keeps fun c ys ec => by
      rw [upd_ne (fun z => by rw [z, hf] at ec; cases ec)]
      exact ec
    exact ⟨.ref s.heap.objs.size, _, I.laid (t' := tk) (fun b o' e => k b o' (fun z => nomatch z) e) (Nat.le_refl _) (show ObjOk X.prog X.w _ _ _ (.dT (mergeT [] (es.map fun e => e.2.2))) from ⟨hlen, hm, _, rel', q', es', ep, hq', h2, h3, h4, h5⟩), rfl, q _ hf⟩
end
end Bt
namespace Bt
open PySem PySem.Spec PyProof.Rows L2
/-! ### list(d.items()), and walks over d.items(), the keys tuples of texts -/
section
variable {X : Cx} {pins : List (Addr × Obj)} {σ : L2.St} {H H' : Hp} {s : Shared} {h' : Heap} {tk : Nat}
/-- many new things at a time -/
theorem lay_new (I : Inv X pins σ H s) (hk : ∀ b o, s.heap.get? b = some o → h'.get? b = some o) (kp : Same H H') (low : ∀ b o, s.heap.get? b = some o → H' b = H b)
    (ok : ∀ b u, H b = none → H' b = some u → ObjOk X.prog X.w H' h' b u) : Inv X pins σ H' { s with heap := h', toks := tk } := by
  refine I.call' (ch := []) rfl ⟨fun b o q _ _ _ => hk b o q, fun b o q _ _ _ => ⟨o.slots, hk b o q⟩, fun b o q n _ => by rw [low b o q]; exact n, fun b o q _ => ⟨o, hk b o q⟩, fun b xs q => kp b _ q, fun b o u q => kp b _ q, fun b ps q => ⟨#[], by rw [kp b _ q]; simp⟩⟩ (fun b u q => ?_) I.bare fun b z => by simp at z
  cases e : H b with
  | none => exact ok b u e q
  | some v =>
    have : H' b = some v := kp b v e
    rw [q] at this
    cases this
    exact (I.hok b u e).stay (fun d v _ y => hk d v y) (fun d y => kp d _ y) fun d xs y => kp d _ y
end
/-- the pairs tracked -/
def put4 : Hp → List PE4 → Hp
  | H, [] => H
  | H, e :: es => put4 (upd H e.1 (.tup [.ref e.2.1, e.2.2.2])) es
theorem put4_off {b : Addr} : ∀ (es : List PE4) (H : Hp), b ∉ es.map (·.1) → put4 H es b = H b
  | [], _, _ => rfl
  | e :: es, H, h => by
    rw [List.map_cons, List.mem_cons, not_or] at h
    show put4 (upd H e.1 _) es b = H b
    rw [put4_off es _ h.2, upd_ne h.1]
theorem put4_at : ∀ (es : List PE4) (H : Hp), (es.map (·.1)).Nodup → ∀ e ∈ es, put4 H es e.1 = some (.tup [.ref e.2.1, e.2.2.2])
  | e :: es, H, h, x, hx => by
    rw [List.map_cons, List.nodup_cons] at h
    rcases List.mem_cons.mp hx with rfl | hx
    · show put4 (upd H x.1 _) es x.1 = _
      rw [put4_off es _ h.1, upd_same]
    · exact put4_at es _ h.2 x hx
theorem mk4 {H : Hp} : ∀ {kvs : List (List Key × V)} {xs : List (List Key × Addr × Value)} {as : List Addr}, KT H kvs xs → as.length = xs.length → ∃ es : List PE4, es.map (·.1) = as ∧ es.map (·.2.2) = kvs ∧
    ∀ (j : Nat) (e : PE4), es[j]? = some e → as[j]? = some e.1 ∧ ∃ y, xs[j]? = some y ∧ y.2.1 = e.2.1 ∧ RelV e.2.2.2 y.2.2 ∧ H e.2.1 = some (.tup (e.2.2.1.map kV))
  | _, _, [], .nil, _ => ⟨[], rfl, rfl, fun j e h => by simp at h⟩
  | _, _, _ :: _, .nil, h => by simp at h
  | _, _, [], .cons _ _, h => by simp at h
  | p :: kvs, q :: xs, a :: as, .cons h t, hl => by
    obtain ⟨h1, h2, h3⟩ := h
    obtain ⟨es, e1, e2, e3⟩ := mk4 t (as := as) (by simpa using hl)
    refine ⟨(a, q.2.1, p) :: es, by rw [List.map_cons, e1], by rw [List.map_cons, e2], fun j e he => ?_⟩
    cases j with
    | zero =>
      cases Option.some.inj he
      exact ⟨rfl, q, rfl, rfl, h3, h2⟩
    | succ j =>
      obtain ⟨z1, y, z2, z3⟩ := e3 j e (by simpa using he)
      exact ⟨by simpa using z1, y, by simpa using z2, z3⟩
/-- what holds of the pairs in the heap -/
def Prs4 (H : Hp) (es : List PE4) : Prop := ∀ e ∈ es, H e.1 = some (.tup [.ref e.2.1, e.2.2.2]) ∧ H e.2.1 = some (.tup (e.2.2.1.map kV))
theorem Prs4.mono {H H' : Hp} {es : List PE4} (S : Same H H') (h : Prs4 H es) : Prs4 H' es := fun e he => ⟨S _ _ (h e he).1, S _ _ (h e he).2⟩
def rItemsLT : V → Hp → VK → Prop := fun x H Q => ∃ (d : Addr) (kvs : List (List Key × V)), x = .ref d ∧ H d = some (.dT kvs) ∧
  ∀ (H' : Hp) (p : Addr) (es : List PE4), Same H H' → H p = none → H' p = some (.lst (es.map fun e => V.ref e.1)) → es.map (·.2.2) = kvs → Prs4 H' es → Q (.ref p) H'
def tListItT (te : TE) : TE := fun σ H Q => te σ H fun x H1 => rItemsLT x H1 Q
section
variable {X : Cx} {e : Expr} {te : TE} {p apos cpos pos : Pos}
theorem pe_listItT (hc : X.calm = true) (he : PE X e te) (hg : Gl X "list") (hm : X.mg "list" = none) (hv : bootBuiltins "list" = some (.type "list")) (hbase : attributeBase e "items" X.env (eval e X.env) = eval e X.env := by rfl) (hline : (apos.endLine == cpos.line) = true := by rfl)
    (hs : starEach [.Call (.Attribute e "items" apos) [] [] cpos] X.env = (false, eval (.Call (.Attribute e "items" apos) [] [] cpos) X.env) :: starEach [] X.env := by rfl) :
    PE X (.Call (.Name "list" p) [.Call (.Attribute e "items" apos) [] [] cpos] [] pos) (tListItT te) := by
  refine ⟨fun pins s σ H Q I hq => ?_⟩
  refine wpAny_Call_Name_kw (ld_blt I hg hm hv ?_)
  refine PyProof.Rows.callWith_type1 ?_ hs rfl
  rw [hs]
  show wpAny _ _ (spliced ((false, eval (.Call (.Attribute e "items" apos) [] [] cpos) X.env) :: backTo pos (starEach [] X.env))) _ _ s
  refine Calls.spliced_cons ?_
  refine wpAny_Call_method (T := "dict") (id := "dict.items") hbase rfl hline F.plainAttrs_dict F.slot_dict_items F.type_dict_items (thn (he.run pins s σ H _ I hq) fun u s1 ⟨x, H1, I1, rx, d, kvs, ex, hd, q⟩ => ?_)
  subst ex
  obtain rfl : u = Value.ref d := rx
  obtain ⟨hz, hs0, xs, rel, hdo⟩ := dt_of I1.hok hd
  obtain ⟨es, ep, raw, hes, hent⟩ := hdo.raw
  have lk : kvs.length = xs.length := Paired.length rel
  have ht : s1.TypeIs (.ref d) "dict" := hdo.typeIs
  refine ⟨ht, fun b eb => ?_, ?_⟩
  · cases eb
    obtain ⟨o, ho, hx, _⟩ := raw
    exact ⟨o, ho, hx.2.1⟩
  show wpAny _ _ (callWith cpos (.builtin "dict.items") [.ref d] [] []) _ X.xe s1
  refine method_meetsIn F.slot_dict_items F.entry_dict_items rfl (PySem.evalArgs_none ⟨rfl, ht, F.args_dict_items_1 _, _, PySem.meets_dict_items_raw d hs0, ⟨es, ep, raw⟩, ?_⟩)
  refine Calls.spliced_nil ?_
  have I2 : Inv X pins σ H1 { s1 with heap := s1.heap.push { cls := .type "dict_items", data := .fields #[.ref d] } } := I1.kept (t' := s1.toks) fun b ob q => Heap.get?_push_of_some _ q
  refine PySem.W.dil_call (es := es) (ep := ep) (I1.ok.hd hc) ⟨_, Heap.get?_push_size _ rfl, rfl, rfl⟩ (raw.push _) (by omega) fun h' tk acc c as hk hS hl hG hacc => ?_
  obtain ⟨es4, a1, a2, a3⟩ := mk4 rel (as := as) (by omega)
  have nd : as.Nodup := List.Pairwise.imp (fun {a b} (h : a < b) => Nat.ne_of_lt h) hG.rise
  have hSn : ∀ S, S ∈ as → S ≠ (s1.heap.push { cls := .type "dict_items", data := .fields #[.ref d] }).objs.size := fun S z e => Nat.lt_irrefl _ (e ▸ hG.above _ z)
  have new : ∀ t ∈ as, H1 t = none := fun t ht => I2.hok.fresh (Nat.le_of_lt (hG.above t ht))
  have newS : H1 (s1.heap.push { cls := .type "dict_items", data := .fields #[.ref d] }).objs.size = none := I2.hok.fresh (Nat.le_refl _)
  have low : ∀ b o, (s1.heap.push { cls := .type "dict_items", data := .fields #[.ref d] }).get? b = some o → b ∉ as ∧ b ≠ (s1.heap.push { cls := .type "dict_items", data := .fields #[.ref d] }).objs.size := fun b o e => ⟨fun z => absurd (Heap.lt_size e) (Nat.not_lt.mpr (Nat.le_of_lt (hG.above b z))), Nat.ne_of_lt (Heap.lt_size e)⟩
  generalize (s1.heap.push { cls := .type "dict_items", data := .fields #[.ref d] }).objs.size = S at *
  have off : ∀ b, b ∉ as → b ≠ S → put4 (upd H1 S (.lst (as.map V.ref))) es4 b = H1 b := fun b h1 h2 => by rw [put4_off es4 _ (a1 ▸ h1), upd_ne h2]
  have kp : Same H1 (put4 (upd H1 S (.lst (as.map V.ref))) es4) := fun b u e => by
    rw [off b (fun z => by rw [new b z] at e; cases e) (fun z => by rw [z, newS] at e; cases e)]
    exact e
  have eS : put4 (upd H1 S (.lst (as.map V.ref))) es4 S = some (.lst (as.map V.ref)) := by rw [put4_off es4 _ (a1 ▸ fun z => hSn S z rfl), upd_same]
  have at4 := put4_at es4 (upd H1 S (.lst (as.map V.ref))) (a1 ▸ nd)
  have J : Inv X pins σ (put4 (upd H1 S (.lst (as.map V.ref))) es4) { { s1 with heap := s1.heap.push { cls := .type "dict_items", data := .fields #[.ref d] } } with heap := h', toks := tk } := by
    refine lay_new I2 hk kp (fun b o q => off b (low b o q).1 (low b o q).2) fun b u hn hu => ?_
    by_cases hb : b ∈ as
    · rw [← a1] at hb
      obtain ⟨e4, m4, rfl⟩ := List.mem_map.mp hb
      obtain ⟨j, hj⟩ := List.mem_iff_getElem?.mp m4
      obtain ⟨z1, y, z2, z3, z4, z5⟩ := a3 j e4 hj
      obtain ⟨hjs, h5⟩ := hG.pairs j e4.1 z1
      obtain ⟨y', w1, w2, w3, _⟩ := hent j hjs
      rw [z2] at w1
      cases w1
      rw [at4 e4 m4] at hu
      cases hu
      exact ⟨by show 2 ≤ sizeLine; decide, [.ref y.2.1, y.2.2], .cons (by rw [← z3]; rfl) (.cons z4 .nil), ⟨_, by rw [w2, w3] at h5; exact h5, rfl, _, rfl⟩⟩
    · by_cases hb2 : b = S
      · subst hb2
        rw [eS] at hu
        cases hu
        refine ⟨by rw [List.length_map]; omega, acc.toList, c, by rw [hacc]; exact LiI.vals_refs as, ?_⟩
        rw [Array.toArray_toList]
        exact hS
      · rw [off b hb hb2, hn] at hu
        cases hu
  refine ⟨.ref S, _, J, rfl, q _ S es4 kp newS ?_ a2 fun e4 m4 => ⟨at4 e4 m4, ?_⟩⟩
  · rw [eS, ← a1, List.map_map]
    rfl
  · obtain ⟨j, hj⟩ := List.mem_iff_getElem?.mp m4
    obtain ⟨_, _, _, _, _, z5⟩ := a3 j e4 hj
    exact kp _ _ z5
end
end Bt
namespace Bt
open PySem PySem.Spec PyProof.Rows L2
/-! ### for k, v in d.items(), the keys tuples of texts -/
def Itit (d : Addr) (o : Obj) (kvs : List (List Key × V)) : It :=
  ⟨fun i H => H d = some (.frz o (.dT kvs)) ∧ i < kvs.length, fun i H x H' => ∃ T b k v, kvs[i]? = some (k, v) ∧ x = .ref T ∧ H T = none ∧ H b = some (.tup (k.map kV)) ∧ H' = upd H T (.tup [.ref b, v]), fun i H => H d = some (.frz o (.dT kvs)) ∧ kvs.length ≤ i⟩
section
variable {X : Cx} {pins : List (Addr × Obj)} {σ : L2.St} {H : Hp} {s : Shared} {d : Addr} {o : Obj}
theorem frzV {kvs : List (List Key × V)} (I : Inv X pins σ H s) (h : H d = some (.frz o (.dT kvs))) :
    (d == sysModules) = false ∧ s.heap.get? d = some o ∧ o.ExactDict ∧ ∃ (es : Array DictEntry) (ep : Nat), o.data = .dict es ep ∧ es.size = kvs.length ∧
      ∀ (i : Nat) (k : List Key) (v : V), kvs[i]? = some (k, v) → ∃ (en : DictEntry) (q : Addr), es[i]? = some en ∧ en.key = .ref q ∧ RelV v en.val ∧ H q = some (.tup (k.map kV)) := by
  obtain ⟨hd, z, hs, xs, pr, o', es, ep, ho, hx, hdt, he, _⟩ := I.hok d _ h
  rw [hd] at ho
  cases ho
  refine ⟨hs, hd, hx, es, ep, hdt, ?_, fun i k v e => ?_⟩
  · have l1 : es.size = xs.length := size_of_entries he
    have l2 : kvs.length = xs.length := Paired.length pr
    omega
  · obtain ⟨b, hb, e1, e2, e3⟩ := LiI.paired_get pr e
    have q := entry_at he i
    rw [hb] at q
    exact ⟨_, b.2.1, q, rfl, e3, e2⟩
end
section
variable {P : Program} {w : World} {K : PySem.W.Frag} {d : Addr} {o : Obj} {es : Array DictEntry} {ep : Nat}
theorem turn_itemsT {kvs : List (List Key × V)} {elts : List Expr} {kk : Nat} {tpos : Pos} (it : Addr) (hod : o.data = .dict es ep) :
    Turn P w K (.Tuple elts kk tpos) (Itit d o kvs) [it] it (fun i h => ∃ ok ov, IsItemIter h it d i kvs.length ep ok ov) where
  mem := by simp
  obj := fun i h st b hb => by
    have e : b = it := by simpa using hb
    subst e
    obtain ⟨ok, ov, e⟩ := st
    exact ⟨_, e, fun v z => nomatch z⟩
  keep := fun i h h' st k => let ⟨ok, ov, e⟩ := st; ⟨ok, ov, k it (by simp) _ e⟩
  item := by
    intro X hP hw hK hc i pins s σ H E I hf st hg
    subst hP hw hK
    obtain ⟨hd, hi⟩ := hg
    obtain ⟨hs, hgd, hx, es', ep', hdt, hsz, ent⟩ := frzV I hd
    rw [hod] at hdt
    cases hdt
    obtain ⟨⟨k, v⟩, hkv⟩ : ∃ p, kvs[i]? = some p := ⟨kvs[i], List.getElem?_eq_getElem hi⟩
    obtain ⟨en, q, hen, hkey, hval, hq⟩ := ent i k v hkv
    obtain ⟨ok, ov, he⟩ := st
    rw [← hsz] at he
    have hlt : it < s.heap.objs.size := Heap.lt_size he
    have hie : i < es.size := by omega
    have een : es[i] = en := by rw [Array.getElem?_eq_getElem hie] at hen; exact Option.some.inj hen
    refine wpAny_pyNext_items_item_raw he ⟨o, hgd, hx, hod⟩ hie fun h' ho hT hz hk => ?_
    rw [een] at ho hT
    refine ⟨_, rfl, wpAny_letOwnedTupleGo_items (s := { s with heap := h' }) ho fun h'' he' sb => ?_⟩
    have hT2 : h''.get? s.heap.objs.size = some { cls := .type "tuple", data := .seq #[en.key, en.val] } := (sb.2 _ (Nat.ne_of_gt hlt)).trans hT
    have new : ObjOk X.prog X.w (upd H s.heap.objs.size (.tup [.ref q, v])) h'' s.heap.objs.size (.tup [.ref q, v]) :=
      ⟨by show 2 ≤ sizeLine; decide, [en.key, en.val], .cons hkey (.cons hval .nil), ⟨_, hT2, rfl, _, rfl⟩⟩
    have I1 : Inv X pins σ (upd H s.heap.objs.size (.tup [.ref q, v])) { s with heap := h'' } :=
      I.turnedNew (t' := s.toks) (ch := [it]) (fun b ob hb e => (sb.2 b (by simpa using hb)).trans (hk b ob (by simpa using hb) e)) hf (Nat.le_refl _) new
    refine ⟨.ref s.heap.objs.size, _, I1, rfl, ⟨_, q, k, v, hkv, rfl, I.hok.fresh (Nat.le_refl _), hq, rfl⟩, ⟨en.key, en.val, ?_⟩, fun b hb => ?_⟩
    · rw [← hsz]; exact he'
    · have e : b = it := by simpa using hb
      rw [e, upd_ne (Nat.ne_of_lt hlt)]
      exact (hf it (by simp)).1
  done := by
    intro X hP hw hK hc i pins s σ H E I hf st hg
    subst hP hw hK
    obtain ⟨hd, hi⟩ := hg
    obtain ⟨f0, f1, f2, f3, f4, f5⟩ := hf it (by simp)
    obtain ⟨hs, hgd, hx, es', ep', hdt, hsz, ent⟩ := frzV I hd
    rw [hod] at hdt
    cases hdt
    obtain ⟨ok, ov, he⟩ := st
    rw [← hsz] at he
    exact wpAny_pyNext_items_end_raw (I.ok.hd hc) he ⟨o, hgd, hx, hod⟩ (by omega) fun h' eb => ⟨rfl, I.turned (t' := s.toks) (fun b ob hb e => eb b ob hb e) f0 f1 f3 f4 f5⟩
  self := fun A i s Q E st h => let ⟨_, _, e⟩ := st; PySem.W.kcp_self e h
end
/-- the dict is locked -/
def iItemsT (td : TE) : TI := fun σ H R => td σ H fun x H1 => ∃ d o kvs, x = .ref d ∧ H1 d = some (.frz o (.dT kvs)) ∧ R (Itit d o kvs) H1
section
variable {X : Cx} {e : Expr} {td : TE} {apos cpos : Pos}
theorem pi_itemsT {elts : List Expr} {kk : Nat} {tpos : Pos} (he : PE X e td) (hbase : attributeBase e "items" X.env (eval e X.env) = eval e X.env := by rfl) (hline : (apos.endLine == cpos.line) = true := by rfl) :
    PI X (.Tuple elts kk tpos) (.Call (.Attribute e "items" apos) [] [] cpos) (iItemsT td) := by
  refine ⟨fun pins s σ H R I h => ?_⟩
  refine wpAny_Call_method (T := "dict") (id := "dict.items") hbase rfl hline F.plainAttrs_dict F.slot_dict_items F.type_dict_items (thn (he.run pins s σ H _ I h) fun u s1 ⟨x, H1, I1, rx, d, o, kvs, ex, hd, q⟩ => ?_)
  subst ex
  obtain rfl : u = Value.ref d := rx
  obtain ⟨hs, hgd, hx, es, ep, hdt, hsz, ent⟩ := frzV I1 hd
  have raw : s1.heap.DictRaw d es ep := ⟨o, hgd, hx, hdt⟩
  have ht : s1.TypeIs (.ref d) "dict" := raw.typeIs
  refine ⟨ht, fun b eb => ?_, ?_⟩
  · cases eb
    exact ⟨o, hgd, hx.2.1⟩
  have I2 : Inv X pins σ H1 { s1 with heap := s1.heap.push { cls := .type "dict_items", data := .fields #[.ref d] } } := I1.kept (t' := s1.toks) fun b ob q => Heap.get?_push_of_some _ q
  have fin : wpAny (model X.prog X.w) X.A (pyIter (.ref s1.heap.objs.size)) (PIE X pins σ (.Tuple elts kk tpos) R) X.xe { s1 with heap := s1.heap.push { cls := .type "dict_items", data := .fields #[.ref d] } } := by
    refine wpAny_pyIter_items_raw (d := d) ⟨_, Heap.get?_push_size _ rfl, rfl, rfl⟩ (raw.push _) (pi_one (tk := s1.toks) I2 _ (turn_itemsT _ hdt) ⟨.none, .none, ?_⟩ q)
    rw [← hsz]
    exact Heap.get?_push_size _ rfl
  show wpAny _ _ (callWith cpos (.builtin "dict.items") [.ref d] [] []) _ X.xe s1
  exact method_meetsIn F.slot_dict_items F.entry_dict_items rfl (PySem.evalArgs_none ⟨rfl, ht, F.args_dict_items_1 _, _, PySem.meets_dict_items_raw d hs, ⟨es, ep, raw⟩, fin⟩)
end
/-- a comprehension over the items -/
theorem lc_itemsT {d : Addr} {o : Obj} {kvs : List (List Key × V)} {g : TG} {tt : TT} {te : TE} {vs : List Nat} {σ : L2.St} {H1 : Hp} {D : Addr} {Qd : Hp → Prop} (Pv : Nat → Hp → Prop) (h0 : Pv 0 (upd H1 D (.lst []))) (hl : ∀ i H, i ≤ kvs.length → Pv i H → H d = some (.frz o (.dT kvs)))
    (hs : ∀ i T b k v H, kvs[i]? = some (k, v) → Pv i H → H T = none → H b = some (.tup (k.map kV)) → g (.ref T) (wipe σ vs) (upd H T (.tup [.ref b, v])) fun σ2 H2 => wipe σ2 vs = wipe σ vs ∧ tt σ2 H2 fun c H3 =>
      if c = true then te σ2 H3 fun y H4 => ∃ acc, H4 D = some (.lst acc) ∧ acc.length < sizeLine ∧ Pv (i + 1) (upd H4 D (.lst (acc ++ [y]))) else Pv (i + 1) H3) (hd : ∀ H, Pv kvs.length H → Qd H) :
    ∃ W : Nat → Nat → Hp → Prop, (∃ m, W 0 m (upd H1 D (.lst []))) ∧ ∀ i m H, W i m H →
      ((Itit d o kvs).stop i H ∧ Qd H) ∨ ((Itit d o kvs).go i H ∧ ∃ Nx : Hp → Prop, (∀ H', Nx H' → ∃ m', m' < m ∧ W (i + 1) m' H') ∧ ∀ x H', (Itit d o kvs).yld i H x H' → g x (wipe σ vs) H' fun σ2 H2 => wipe σ2 vs = wipe σ vs ∧ tt σ2 H2 fun c H3 =>
        if c = true then te σ2 H3 fun y H4 => ∃ acc, H4 D = some (.lst acc) ∧ acc.length < sizeLine ∧ Nx (upd H4 D (.lst (acc ++ [y]))) else Nx H3) := by
  refine ⟨fun i m H => m = kvs.length - i ∧ i ≤ kvs.length ∧ Pv i H, ⟨kvs.length, by simp, Nat.zero_le _, h0⟩, ?_⟩
  rintro i m H ⟨rfl, hi, p⟩
  by_cases hlt : i < kvs.length
  · refine .inr ⟨⟨hl i H hi p, hlt⟩, Pv (i + 1), fun H' p' => ⟨kvs.length - (i + 1), by omega, rfl, hlt, p'⟩, fun x H' y => ?_⟩
    obtain ⟨T, b, k, v, h1, rfl, h2, h3, rfl⟩ := y
    exact hs i T b k v H h1 p h2 h3
  · have e : i = kvs.length := by omega
    subst e
    exact .inl ⟨⟨hl _ H hi p, Nat.le_refl _⟩, hd H p⟩
end Bt
namespace Bt
namespace ST
open PySem PySem.Spec PyProof.Rows L2
/-! ### sets whose members are tuples of texts and ints: the machine's side -/
abbrev hk (P : Program) (w : World) (k : List Key) : Int := tupleKeyHash (mixKind P w) k
abbrev IsK (P : Program) (w : World) (h : Heap) (k : List Key) (a : Addr) : Prop := IsTupleKey (mixKind P w) h k a
section
variable {P : Program} {w : World} {A : Around} {E : Value → Shared → Prop} {s : Shared}
def Plain (v : Value) : Prop := (∃ i t, v = .int i t) ∨ ∃ x t, v = .str x t
theorem plains {k : List Key} {vs : List Value} (h : ItemsAre (mixKind P w) k vs) : ∀ v ∈ vs, Plain v := by
  induction h with
  | nil => exact fun v hv => nomatch hv
  | cons h1 _ ih =>
    intro v hv
    rcases List.mem_cons.mp hv with rfl | hv
    · rcases keyIs_shape h1 with ⟨i, t, _, e⟩ | ⟨x, t, _, e⟩
      · exact .inl ⟨i, t, e⟩
      · exact .inr ⟨x, t, e⟩
    · exact ih v hv
theorem aClass_key {k : List Key} {b : Addr} {Q : Bool → Shared → Prop} (hb : IsK P w s.heap k b) (h : Q false s) : wpAny (model P w) A (ofAClassStatement 8 (.ref b)) Q E s := by
  have ty := hb.typeIs
  obtain ⟨o, items, n, ho, _, hd, hi⟩ := hb
  unfold ofAClassStatement
  refine wpAny_bind (wpAny_typeOf ty ?_)
  have et : (("tuple" : String) == "tuple") = true := by decide
  simp only [et, if_true, Bool.not_true, Bool.false_eq_true, if_false]
  show wpAny _ _ (seqItems? (.ref b) >>= _) _ _ s
  refine wpAny_bind (wpAny_seqItems ho hd (wpAny_bind ?_))
  show wpAny _ _ (forIn items _ _) _ _ s
  rw [← Array.forIn_toList]
  refine wpAny_forIn_list _ (fun rest r s' => r.1 = none ∧ s' = s ∧ ∀ v ∈ rest, Plain v) _ (fun v rest r s' => ?_) (fun r s' => ?_) _ _ ⟨rfl, rfl, plains hi⟩
  · rintro ⟨hr, rfl, all⟩
    have e : ofAClassStatement 7 v = pure false := by
      rcases all v List.mem_cons_self with ⟨i, t, rfl⟩ | ⟨x, t, rfl⟩ <;> rfl
    rw [e]
    refine wpAny_bind (wpAny_pure ?_)
    simp only [Bool.false_eq_true, if_false]
    exact wpAny_pure ⟨rfl, rfl, fun u hu => all u (List.mem_cons_of_mem _ hu)⟩
  · obtain ⟨r1, r2⟩ := r
    rintro ⟨hr, rfl, _⟩
    obtain rfl : r1 = none := hr
    exact wpAny_pure h
theorem byValue_key {k : List Key} {b : Addr} {Q : Bool → Shared → Prop} (hb : IsK P w s.heap k b) (h : ∀ c, Q c s) : wpAny (model P w) A (hashByValue 8 (.ref b)) Q E s := by
  have ty := hb.typeIs
  obtain ⟨o, items, n, ho, _, hd, hi⟩ := hb
  unfold hashByValue
  refine wpAny_bind (wpAny_specialOf ty F.slot_tuple_hash.lookup ?_)
  show wpAny _ _ (seqItems? (.ref b) >>= _) _ _ s
  refine wpAny_bind (wpAny_seqItems ho hd (wpAny_bind ?_))
  show wpAny _ _ (forIn items _ _) _ _ s
  rw [← Array.forIn_toList]
  refine wpAny_forIn_list _ (fun rest r s' => s' = s ∧ ∀ v ∈ rest, Plain v) _ (fun v rest r s' => ?_) (fun r s' => ?_) _ _ ⟨rfl, plains hi⟩
  · rintro ⟨rfl, all⟩
    have e : ∃ c, hashByValue 7 v = pure c := by
      rcases all v List.mem_cons_self with ⟨i, t, rfl⟩ | ⟨x, t, rfl⟩ <;> exact ⟨_, rfl⟩
    obtain ⟨c, e⟩ := e
    rw [e]
    refine wpAny_bind (wpAny_pure ?_)
    cases c <;> simp only [Bool.not_true, Bool.not_false, if_true, Bool.false_eq_true, if_false]
    · exact wpAny_pure (wpAny_pure (h _))
    · exact wpAny_pure ⟨rfl, fun u hu => all u (List.mem_cons_of_mem _ hu)⟩
  · rintro ⟨rfl, _⟩
    obtain ⟨r1, r2⟩ := r
    cases r1 with
    | none => exact wpAny_pure (h _)
    | some c => exact wpAny_pure (h c)
/-- looking a tuple up among tuples shows nothing of the table -/
theorem unseen {k : List Key} {b : Addr} {Q : Bool → Shared → Prop} (hb : IsK P w s.heap k b) {ys : List Value} (hy : ∀ y ∈ ys, ∃ k' c, y = Value.ref c ∧ IsK P w s.heap k' c) (h : Q false s) : wpAny (model P w) A (searchCouldBeSeen (.ref b) ys) Q E s := by
  unfold searchCouldBeSeen
  refine wpAny_bind (wpAny_forIn_list _ (fun rest r s' => r.1 = none ∧ s' = s ∧ ∀ y ∈ rest, ∃ k' c, y = Value.ref c ∧ IsK P w s.heap k' c) _ (fun v rest r s' => ?_) (fun r s' => ?_) _ _ ⟨rfl, rfl, hy⟩)
  · rintro ⟨hr, rfl, all⟩
    obtain ⟨k', c, rfl, hc⟩ := all v List.mem_cons_self
    have more : ∀ y ∈ rest, ∃ k' c, y = Value.ref c ∧ IsK P w s'.heap k' c := fun u hu => all u (List.mem_cons_of_mem _ hu)
    dsimp only
    by_cases z : (b == c || (carriedByValue (.ref b) && carriedByValue (.ref c))) = true
    · exact wp_if_pos z (wpAny_pure ⟨rfl, rfl, more⟩)
    · refine wp_if_neg z (wpAny_bind (wpAny_eqIsQuiet_tuple hb ?_))
      simp only [Bool.not_true, Bool.false_eq_true, if_false]
      refine wpAny_bind (wpAny_eqIsQuiet_tuple hc ?_)
      simp only [Bool.not_true, Bool.false_eq_true, if_false]
      refine wpAny_bind (aClass_key hb ?_)
      simp only [Bool.false_eq_true, if_false]
      refine wpAny_bind (aClass_key hc ?_)
      simp only [Bool.false_eq_true, if_false]
      exact wpAny_pure ⟨rfl, rfl, more⟩
  · obtain ⟨r1, r2⟩ := r
    rintro ⟨hr, rfl, _⟩
    obtain rfl : r1 = none := hr
    exact wpAny_pure h
/-- the set at a: its members with their places -/
structure TS (P : Program) (w : World) (h : Heap) (a : Addr) (L : List (Addr × List Key)) (es : Array (Int × Value)) (ep : Nat) (t : SetTable) : Prop where
  ob : ∃ o, h.get? a = some o ∧ o.ExactSet ∧ o.data = .set es ep t
  rows : es.toList = L.map fun p => (hk P w p.2, Value.ref p.1)
  tab : TabOk t (L.map fun p => hk P w p.2)
  nd : (L.map (·.2)).Nodup
  mem : ∀ p ∈ L, IsK P w h p.2 p.1
  room : L.length * 5 < t.mask * 3
  few : L.length < 64
variable {a : Addr} {L : List (Addr × List Key)} {es : Array (Int × Value)} {ep : Nat} {t : SetTable}
theorem TS.size (R : TS P w s.heap a L es ep t) : es.size = L.length := by
  rw [← Array.length_toList, R.rows, List.length_map]
theorem TS.places (R : TS P w s.heap a L es ep t) : t.place.size = L.length := by
  rw [R.tab.sz, List.length_map]
theorem TS.fits (R : TS P w s.heap a L es ep t) : t.fits es.size = true := by
  have h1 := R.places
  have h2 := R.size
  have h3 := R.room
  unfold SetTable.fits SetTable.fill
  rw [R.tab.dm, Bool.and_eq_true, beq_iff_eq, decide_eq_true_eq]
  exact ⟨by omega, by show t.place.size + 0 ≤ t.mask; omega⟩
theorem TS.row (R : TS P w s.heap a L es ep t) {i : Nat} {p : Addr × List Key} (h : L[i]? = some p) : es[i]? = some (hk P w p.2, Value.ref p.1) := by
  rw [← Array.getElem?_toList, R.rows, List.getElem?_map, h]
  rfl
theorem TS.stays (R : TS P w s.heap a L es ep t) : ¬ t.gaveWay = true := by
  unfold SetTable.gaveWay
  rw [mask_odd R.tab.mok]
  decide
/-- the c-th step of the way of k -/
abbrev stp (t : SetTable) (h : Int) (c : Nat) : SetTable.Probe := nth t.mask (runAt t.mask (SetTable.bits h % (t.mask + 1)) (SetTable.bits h)) c
theorem stp_clean (t : SetTable) (h : Int) (c : Nat) : (stp t h c).dummy = none := by
  have go : ∀ (n : Nat) (p : SetTable.Probe), p.dummy = none → (nth t.mask p n).dummy = none := fun n => by
    induction n with
    | zero => exact fun p e => e
    | succ n ih =>
      intro p e
      refine ih (adv t.mask p) ?_
      unfold adv
      split <;> exact e
  exact go c _ rfl
theorem stp_add (t : SetTable) (h : Int) (c q : Nat) : nth t.mask (stp t h c) q = stp t h (c + q) := (nth_add t.mask c _ q).symm
theorem srch_go (R : TS P w s.heap a L es ep t) {x : Addr} {k : List Key} (hx : IsK P w s.heap k x) (hu : A.units < cLine) (adding : Bool) {K : Nat} (hKf : K < 10 * SetTable.turns t.mask)
    (hK : way t.mask (hk P w k) K ∉ t.place.toList) (hKb : ∀ c, c < K → way t.mask (hk P w k) c ∈ t.place.toList) {Q : SetFound → Shared → Prop}
    (hin : k ∈ L.map (·.2) → ∀ r, (adding = true → r = none) → (adding = false → r.isSome = true) → Q (.there r) s) (hout : k ∉ L.map (·.2) → Q (.free (way t.mask (hk P w k) K) false) s) :
    ∀ (f c : Nat) (st : Option SetTable.Probe), st.getD (t.probeStart (hk P w k)) = stp t (hk P w k) c → c ≤ K → K - c < f →
      (∀ (i : Nat) p, L[i]? = some p → p.2 = k → ∃ c', c ≤ c' ∧ c' < K ∧ t.place.toList[i]? = some (way t.mask (hk P w k) c')) →
      wpAny (model P w) A (setSearchFrom a (.ref x) (hk P w k) adding f st) Q E s := by
  obtain ⟨o, ho, hex, hd⟩ := R.ob
  intro f
  induction f with
  | zero => exact fun c st _ _ hf _ => absurd hf (Nat.not_lt_zero _)
  | succ f ih =>
    intro c st hst hc hf hre
    rw [setSearchFrom_succ]
    refine wpAny_bind (wpAny_setState_of ho hd R.fits ?_)
    dsimp only
    refine wp_if_neg R.stays ?_
    have hcK : c + (K - c) = K := by omega
    have rowH : ∀ {i : Nat} {p : Addr × List Key}, L[i]? = some p → (es[i]?.map (·.1)).getD 0 = hk P w p.2 := fun hp => by rw [R.row hp]; rfl
    have found : ∀ (i : Nat) p, L[i]? = some p → p.2 = k → (es[i]?.map (·.1)).getD 0 = hk P w k := fun i p hp e => by rw [rowH hp, e]
    rcases go_spec t R.tab.ris R.tab.dm (fun i => (es[i]?.map (·.1)).getD 0) (hk P w k) (10 * SetTable.turns t.mask) (K - c) (stp t (hk P w k) c) (stp_clean _ _ _) (by omega)
      (fun q hq => by rw [stp_add]; exact hKb (c + q) (by omega)) (by rw [stp_add, hcK]; exact hK) with ⟨q, i, hq, hi, hh, hno, hpr⟩ | ⟨hno, hpr⟩
    · rw [stp_add] at hi
      have hpr' : t.probe (fun i => (es[i]?.map (·.1)).getD 0) (hk P w k) (st.getD (t.probeStart (hk P w k))) = some (.candidate (stp t (hk P w k) (c + q)).j i (stp t (hk P w k) (c + (q + 1)))) := by
        rw [hst, ← stp_add, ← stp_add]
        exact hpr
      rw [hpr']
      dsimp only
      have hil : i < L.length := by
        have h1 : i < t.place.toList.length := (List.getElem?_eq_some_iff.mp hi).1
        rw [Array.length_toList, R.places] at h1
        exact h1
      obtain ⟨p, hp⟩ : ∃ p, L[i]? = some p := ⟨_, List.getElem?_eq_getElem hil⟩
      have hpt := R.mem p (List.mem_of_getElem? hp)
      have live : t.slot (stp t (hk P w k) (c + q)).j = .live i := slot_live R.tab.ris hi
      have rest : wpAny (model P w) A (searchRest a (.ref x) (hk P w k) adding f es t (stp t (hk P w k) (c + q)).j i (stp t (hk P w k) (c + (q + 1)))) Q E s := by
        unfold searchRest
        rw [R.row hp]
        dsimp only
        refine wpAny_bind (wpAny_holding (wpAny_eqBool_tuple hu hpt hx ?_))
        refine wpAny_bind (wpAny_setState_of ho hd R.fits ?_)
        dsimp only
        by_cases hkk : p.2 = k
        · have hm : k ∈ L.map (·.2) := List.mem_map.mpr ⟨p, List.mem_of_getElem? hp, hkk⟩
          cases adding with
          | true => exact wp_if_pos (by simp [hkk]) (wpAny_pure (hin hm _ (fun _ => rfl) (fun z => nomatch z)))
          | false =>
            refine wp_if_neg (by simp) ?_
            rw [sameMem]
            dsimp only
            simp only [if_true, live, R.row hp]
            refine wpAny_bind (wpAny_isSame_ref_self (wpAny_bind (wpAny_pure ?_)))
            simp only [if_true]
            exact wp_if_pos (by simp [hkk]) (wpAny_pure (hin hm _ (fun z => nomatch z) (fun _ => rfl)))
        · refine wp_if_neg (by simp [hkk]) ?_
          rw [sameMem]
          dsimp only
          simp only [if_true, live, R.row hp]
          refine wpAny_bind (wpAny_isSame_ref_self (wpAny_bind (wpAny_pure ?_)))
          simp only [if_true]
          refine wp_if_neg (by simp [hkk]) ?_
          refine ih (c + (q + 1)) _ rfl (by omega) (by omega) fun i0 p0 h0 hk0 => ?_
          obtain ⟨c', a1, a2, a3⟩ := hre i0 p0 h0 hk0
          refine ⟨c', ?_, a2, a3⟩
          rcases Nat.lt_trichotomy c' (c + q) with z | z | z
          · refine absurd (found i0 p0 h0 hk0) (hno (c' - c) i0 (by omega) ?_)
            rw [stp_add, show c + (c' - c) = c' by omega]
            exact a3
          · rw [z] at a3
            have := slot_live R.tab.ris a3
            rw [show t.slot (way t.mask (hk P w k) (c + q)) = .live i from live] at this
            cases this
            rw [hp] at h0
            cases h0
            exact absurd hk0 hkk
          · omega
      by_cases hl : t.led = true
      · exact wp_if_neg (by simp [hl]) rest
      · refine wp_if_pos (by simp [hl]) (wpAny_bind (unseen hx (fun y hy => ?_) (wp_if_neg (by decide) rest)))
        obtain ⟨e, he, rfl⟩ := List.mem_map.mp hy
        have he2 : e ∈ es.toList := by
          have : e ∈ es ∧ e.1 = hk P w k := by simpa using he
          simpa using this.1
        rw [R.rows] at he2
        obtain ⟨p2, hp2, rfl⟩ := List.mem_map.mp he2
        exact ⟨p2.2, p2.1, rfl, R.mem p2 hp2⟩
    · have hpr' : t.probe (fun i => (es[i]?.map (·.1)).getD 0) (hk P w k) (st.getD (t.probeStart (hk P w k))) = some (.empty (stp t (hk P w k) K).j none) := by
        rw [hst]
        have := hpr
        rw [stp_add, hcK] at this
        exact this
      rw [hpr']
      refine wpAny_pure (hout fun hm => ?_)
      obtain ⟨p0, h0, hk0⟩ := List.mem_map.mp hm
      obtain ⟨i0, h00⟩ := List.mem_iff_getElem?.mp h0
      obtain ⟨c', a1, a2, a3⟩ := hre i0 p0 h00 hk0
      refine absurd (found i0 p0 h00 hk0) (hno (c' - c) i0 (by omega) ?_)
      rw [stp_add, show c + (c' - c) = c' by omega]
      exact a3
theorem srch (R : TS P w s.heap a L es ep t) {x : Addr} {k : List Key} (hx : IsK P w s.heap k x) (hu : A.units < cLine) (adding : Bool) {Q : SetFound → Shared → Prop}
    (hin : k ∈ L.map (·.2) → ∀ r, (adding = true → r = none) → (adding = false → r.isSome = true) → Q (.there r) s)
    (hout : k ∉ L.map (·.2) → ∀ K, way t.mask (hk P w k) K ∉ t.place.toList → (∀ c, c < K → way t.mask (hk P w k) c ∈ t.place.toList) → Q (.free (way t.mask (hk P w k) K) false) s) :
    wpAny (model P w) A (setSearch a (.ref x) (hk P w k) adding) Q E s := by
  have hroom := R.room
  obtain ⟨K, hKf, hK, hKb⟩ := R.tab.first (by rw [List.length_map]; omega) (hk P w k)
  have hbig : K < 100000 := by
    have : 10 * SetTable.turns t.mask ≤ 1420 := by
      unfold SetTable.turns
      rcases R.tab.mok with e | e | e <;> omega
    omega
  unfold setSearch
  refine srch_go R hx hu adding hKf hK hKb hin (fun z => hout z K hK hKb) 100000 0 none rfl (Nat.zero_le _) (by omega) fun i p hp e => ?_
  have hi : (L.map fun p => hk P w p.2)[i]? = some (hk P w k) := by rw [List.getElem?_map, hp, ← e]; rfl
  obtain ⟨j, hj⟩ : ∃ j, t.place.toList[i]? = some j := ⟨_, List.getElem?_eq_getElem (by
    rw [Array.length_toList, R.places]
    exact (List.getElem?_eq_some_iff.mp hp).1)⟩
  obtain ⟨c, hc, ec⟩ := R.tab.before hK hi hj
  exact ⟨c, Nat.zero_le _, hc, by rw [hj, ec]⟩
end
end ST
end Bt
namespace Bt
namespace ST
open PySem PySem.Spec PyProof.Rows L2
/-! ### a tuple put into a set of tuples -/
section
variable {α β : Type}
theorem range_pick (L : List α) : (List.range L.length).filterMap (fun i => L[i]?) = L := by
  have go : ∀ n, n ≤ L.length → (List.range n).filterMap (fun i => L[i]?) = L.take n := fun n => by
    induction n with
    | zero => exact fun _ => rfl
    | succ n ih =>
      intro hn
      rw [List.range_succ, List.filterMap_append, ih (by omega), List.take_add_one]
      congr 1
  rw [go _ (Nat.le_refl _), List.take_length]
theorem pick_perm (L : List α) {ord : List Nat} (h : ord.Perm (List.range L.length)) : (ord.filterMap fun i => L[i]?).Perm L := by
  have := h.filterMap (fun i => L[i]?)
  rwa [range_pick] at this
theorem pick_map (L : List α) (g : α → β) (ord : List Nat) : (ord.filterMap fun i => (L.map g)[i]?) = (ord.filterMap fun i => L[i]?).map g := by
  rw [List.map_filterMap]
  congr 1
  funext i
  rw [List.getElem?_map]
theorem pick_getD (L : List α) (g : α → β) (z : β) : ∀ ord : List Nat, (∀ i ∈ ord, i < L.length) → (ord.map fun i => (L.map g).getD i z) = (ord.filterMap fun i => L[i]?).map g
  | [], _ => rfl
  | i :: ord, h => by
    have hi := h i List.mem_cons_self
    rw [List.map_cons, pick_getD L g z ord fun j hj => h j (List.mem_cons_of_mem _ hj), List.filterMap_cons_some (List.getElem?_eq_getElem hi), List.map_cons]
    congr 1
    rw [List.getD_eq_getElem?_getD, List.getElem?_map, List.getElem?_eq_getElem hi]
    rfl
theorem ins_perm (L : List α) (p : Nat) (x : α) : (L.take p ++ x :: L.drop p).Perm (x :: L) := by
  refine List.perm_middle.trans ?_
  rw [List.take_append_drop]
end
section
variable {P : Program} {w : World} {A : Around} {E : Value → Shared → Prop} {s : Shared} {a : Addr} {L : List (Addr × List Key)} {es : Array (Int × Value)} {ep : Nat} {t : SetTable}
theorem key_same {h h' : Heap} {k : List Key} {b : Addr} {o : Obj} (hb : IsK P w h k b) (ho : h.get? a = some o) (hd : o.data = .set es ep t) (hs : Heap.SameBut a h h') : IsK P w h' k b := by
  obtain ⟨o', items, n, h1, h2, h3, h4⟩ := hb
  refine ⟨o', items, n, (hs.2 b fun z => ?_).trans h1, h2, h3, h4⟩
  rw [z, ho] at h1
  cases h1
  rw [hd] at h3
  cases h3
theorem relay {o : Obj} (ho : s.heap.get? a = some o) (hex : o.ExactSet) (hd : o.data = .set es ep t) (hrows : es.toList = L.map fun p => (hk P w p.2, Value.ref p.1)) (hsz : t.place.size = es.size) (hdm : t.dummies = #[]) (hfl : es.size ≤ t.mask)
    (nd : (L.map (·.2)).Nodup) (mem : ∀ p ∈ L, IsK P w s.heap p.2 p.1) (few : L.length < 64) {wanted M : Nat}
    (hw : SetTable.sizeAbove wanted - 1 = M) (hM : MaskOk M) (hw2 : SetTable.sizeAbove wanted ≤ 128) (hn : L.length * 5 < M * 3) {Q : Unit → Shared → Prop}
    (hQ : ∀ h' L' es' ep' t', Heap.SameBut a s.heap h' → TS P w h' a L' es' ep' t' → L'.Perm L → Q () { s with heap := h' }) : wpAny (model P w) A (setRelay a wanted) Q E s := by
  have hsl : es.size = L.length := by rw [← Array.length_toList, hrows, List.length_map]
  have fits : t.fits es.size = true := by
    unfold SetTable.fits SetTable.fill
    rw [hdm, Bool.and_eq_true, beq_iff_eq, decide_eq_true_eq]
    exact ⟨hsz, by show t.place.size + 0 ≤ t.mask; omega⟩
  obtain ⟨t', order, e, hp, T, em, _, _, ed⟩ := relaid_ok t (hs := es.map (·.1)) (wanted := wanted) hw hM (by rw [Array.size_map, hsl]; omega)
  rw [Array.size_map, hsl] at hp
  have pm := pick_perm L hp
  have r1 : (order.filterMap (es[·]?)).toList = (order.toList.filterMap fun i => L[i]?).map fun p => (hk P w p.2, Value.ref p.1) := by
    rw [Array.toList_filterMap, ← pick_map, ← hrows]
    congr 1
    funext i
    rw [Array.getElem?_toList]
  have r3 : (order.toList.map fun i => (es.map (·.1)).getD i 0) = (order.toList.filterMap fun i => L[i]?).map fun p => hk P w p.2 := by
    rw [← pick_getD L (fun p => hk P w p.2) 0 order.toList fun i hi => List.mem_range.mp (hp.mem_iff.mp hi)]
    congr 1
    funext i
    have ee : es.map (·.1) = (L.map fun p => hk P w p.2).toArray := by
      apply Array.toList_inj.mp
      rw [Array.toList_map, hrows, List.map_map]
      rfl
    rw [ee]
    simp [Array.getD_eq_getD_getElem?, List.getD_eq_getElem?_getD]
  rw [r3] at T
  have hs2 : (order.filterMap (es[·]?)).size = es.size := by
    rw [← Array.length_toList, r1, List.length_map, pm.length_eq, hsl]
  rw [setRelay_eq]
  refine wpAny_bind (wpAny_setState_of ho hd fits ?_)
  dsimp only
  refine wp_if_neg (by rw [sizeLine_eq]; omega) ?_
  rw [e]
  dsimp only
  refine wpAny_bind (wp_if_neg (by rw [hs2]; simp) ?_)
  refine wpAny_pure ?_
  dsimp only
  refine wpAny_storeSet_of ho hd ?_ (by rw [hs2, hsl, sizeLine_eq]; omega)
  have sb : Heap.SameBut a s.heap (s.heap.update a (Obj.putSet (order.filterMap (es[·]?)) t')) := Heap.SameBut.update ..
  refine hQ _ _ _ (ep + 1) t' sb ⟨⟨_, store_at ho hd, ⟨hex.1, hex.2.1, hex.2.2⟩, rfl⟩, r1, T, (pm.map (·.2)).nodup_iff.mpr nd, fun p hpm => key_same (mem p (pm.mem_iff.mp hpm)) ho hd sb, ?_, ?_⟩ pm
  · rw [pm.length_eq, em]
    exact hn
  · rw [pm.length_eq]
    exact few
theorem put_in (R : TS P w s.heap a L es ep t) {x : Addr} {k : List Key} (hx : IsK P w s.heap k x) (hu : A.units < cLine) (few : L.length + 1 < 64) {Q : Bool → Shared → Prop}
    (hQ : ∀ b h' L' es' ep' t', Heap.SameBut a s.heap h' → TS P w h' a L' es' ep' t' → (k ∈ L.map (·.2) → L' = L) → (k ∉ L.map (·.2) → L'.Perm ((x, k) :: L)) → Q b { s with heap := h' }) :
    wpAny (model P w) A (setAddHashed a (.ref x) (hk P w k)) Q E s := by
  obtain ⟨o, ho, hex, hd⟩ := R.ob
  have hsl := R.size
  have hroom := R.room
  unfold setAddHashed
  refine wpAny_holding ?_
  rw [show (100000 : Nat) = 99999 + 1 from rfl, setAddHashedIn_succ]
  refine wpAny_bind (wpAny_setState_of ho hd R.fits ?_)
  dsimp only
  refine wp_if_neg (by simp [byScan, Value.scannable]) ?_
  refine wpAny_bind (srch R hx hu true (fun hm r hr _ => ?_) fun hm K hK hb => ?_)
  · exact wpAny_pure (hQ false s.heap L es ep t (Heap.SameBut.refl a s.heap) R (fun _ => rfl) fun z => absurd hm z)
  · dsimp only
    refine wpAny_bind (wpAny_setState_of ho hd R.fits ?_)
    dsimp only
    obtain ⟨q1, q2, q3, q4, _, _, _, _, q9⟩ := R.tab.put hK hb
    generalize hpt : t.put (way t.mask (hk P w k) K) = pt at q1 q3 q4 q9 ⊢
    obtain ⟨t1, p⟩ := pt
    dsimp only at q1 q3 q4 q9 ⊢
    subst q1
    have hrow : (SetTable.insertAt es (SetTable.below t.place (way t.mask (hk P w k) K)) (hk P w k, Value.ref x)).toList = (L.take (SetTable.below t.place (way t.mask (hk P w k) K)) ++ (x, k) :: L.drop (SetTable.below t.place (way t.mask (hk P w k) K))).map fun p => (hk P w p.2, Value.ref p.1) := by
      rw [SetTable.toList_insertAt, R.rows, List.map_append, List.map_cons, List.map_take, List.map_drop]
    have hmid : (L.map fun p => hk P w p.2).take (SetTable.below t.place (way t.mask (hk P w k) K)) ++ hk P w k :: (L.map fun p => hk P w p.2).drop (SetTable.below t.place (way t.mask (hk P w k) K)) =
        (L.take (SetTable.below t.place (way t.mask (hk P w k) K)) ++ (x, k) :: L.drop (SetTable.below t.place (way t.mask (hk P w k) K))).map fun p => hk P w p.2 := by
      rw [List.map_append, List.map_cons, List.map_take, List.map_drop]
    rw [hmid] at q3
    have pm := ins_perm L (SetTable.below t.place (way t.mask (hk P w k) K)) (x, k)
    generalize hes1 : SetTable.insertAt es (SetTable.below t.place (way t.mask (hk P w k) K)) (hk P w k, Value.ref x) = es1 at hrow ⊢
    generalize L.take (SetTable.below t.place (way t.mask (hk P w k) K)) ++ (x, k) :: L.drop (SetTable.below t.place (way t.mask (hk P w k) K)) = L1 at pm hrow q3
    have len : L1.length = L.length + 1 := pm.length_eq
    have size1 : es1.size = L.length + 1 := by rw [← Array.length_toList, hrow, List.length_map, len]
    have nd1 : (L1.map (·.2)).Nodup := (pm.map (·.2)).nodup_iff.mpr (by rw [List.map_cons]; exact List.nodup_cons.mpr ⟨hm, R.nd⟩)
    have after : ∀ t2 : SetTable, TabOk t2 (L1.map fun p => hk P w p.2) → t2.mask = t.mask → t2.fill = L.length + 1 → wpAny (model P w) A (do
        storeSet a es1 t2
        if (!false && t2.tooFull) = true then do
            setRelay a (SetTable.grown (es.size + 1))
            pure true
          else pure true) Q E s := fun t2 T2 m2 f2 => by
      refine wpAny_bind (wpAny_storeSet_of ho hd ?_ (by rw [size1, sizeLine_eq]; omega))
      have sb : Heap.SameBut a s.heap (s.heap.update a (Obj.putSet es1 t2)) := Heap.SameBut.update ..
      have ho1 := store_at (es' := es1) (t' := t2) ho hd
      generalize s.heap.update a (Obj.putSet es1 t2) = h1 at sb ho1 ⊢
      have mem1 : ∀ p ∈ L1, IsK P w h1 p.2 p.1 := fun p hp => by
        rcases List.mem_cons.mp (pm.mem_iff.mp hp) with rfl | hp
        · exact key_same hx ho hd sb
        · exact key_same (R.mem p hp) ho hd sb
      by_cases hf : t2.tooFull = true
      · refine wp_if_pos (by simp [hf]) (wpAny_bind ?_)
        have full : (L.length + 1) * 5 ≥ t2.mask * 3 := by
          have h := hf
          unfold SetTable.tooFull at h
          rw [decide_eq_true_eq, f2] at h
          exact h
        have hsz1 : t2.place.size = es1.size := by rw [T2.sz, List.length_map, len, size1]
        rw [hsl]
        have two : (t.mask = 7 ∧ L.length = 4) ∨ (t.mask = 31 ∧ L.length = 18) := by
          rcases R.tab.mok with e | e | e <;> rw [m2, e] at full <;> rw [e] at hroom <;> omega
        have go : ∀ M, SetTable.sizeAbove (SetTable.grown (L.length + 1)) - 1 = M → MaskOk M → SetTable.sizeAbove (SetTable.grown (L.length + 1)) ≤ 128 → (L.length + 1) * 5 < M * 3 →
            wpAny (model P w) A (setRelay a (SetTable.grown (L.length + 1))) (fun _ s' => wpAny (model P w) A (pure true) Q E s') E { s with heap := h1 } := fun M z1 z2 z3 z4 => by
          refine relay (s := { s with heap := h1 }) ho1 ⟨hex.1, hex.2.1, hex.2.2⟩ rfl hrow hsz1 T2.dm (by rw [size1, m2]; rcases two with ⟨e, e2⟩ | ⟨e, e2⟩ <;> omega) nd1 mem1 (by rw [len]; exact few) z1 z2 z3 (by rw [len]; exact z4) ?_
          exact fun h2 L2 es2 ep2 t3 sb2 R2 pm2 => wpAny_pure (hQ true h2 L2 es2 ep2 t3 (sb.trans sb2) R2 (fun z => absurd z hm) fun _ => pm2.trans pm)
        rcases two with ⟨_, e2⟩ | ⟨_, e2⟩
        · exact go 31 (by rw [e2, size_20]) (.inr (.inl rfl)) (by rw [e2, size_20]; decide) (by omega)
        · exact go 127 (by rw [e2, size_76]) (.inr (.inr rfl)) (by rw [e2, size_76]; decide) (by omega)
      · refine wp_if_neg (by simp [hf]) (wpAny_pure (hQ true h1 L1 es1 (ep + 1) t2 sb ⟨⟨_, ho1, ⟨hex.1, hex.2.1, hex.2.2⟩, rfl⟩, hrow, T2, nd1, mem1, ?_, by rw [len]; exact few⟩ (fun z => absurd z hm) fun _ => pm))
        have h := hf
        unfold SetTable.tooFull at h
        rw [decide_eq_true_eq, f2] at h
        rw [len]
        omega
    have f1 : t1.fill = L.length + 1 := by rw [q9, List.length_map]
    have q3' : TabOk { t1 with plain := false } (L1.map fun p => hk P w p.2) := ⟨q3.ris, q3.dm, q3.sz, q3.mok, q3.bd, q3.reach⟩
    by_cases hpl : t1.plain = true
    · refine wp_if_pos hpl (wpAny_bind (byValue_key hx fun c => ?_))
      cases c
      · exact after _ q3' q4 f1
      · exact after _ q3 q4 f1
    · exact wp_if_neg hpl (wpAny_bind (wpAny_pure (after _ q3 q4 f1)))
/-- the set at a, its members told by their places; that these hold the tuples is told apart -/
def TS0 (P : Program) (w : World) (h : Heap) (a : Addr) (L : List (Addr × List Key)) : Prop := ∃ (es : Array (Int × Value)) (ep : Nat) (t : SetTable), (∃ o, h.get? a = some o ∧ o.ExactSet ∧ o.data = .set es ep t) ∧ (es.toList = L.map fun p => (hk P w p.2, Value.ref p.1)) ∧
  TabOk t (L.map fun p => hk P w p.2) ∧ (L.map (·.2)).Nodup ∧ L.length * 5 < t.mask * 3 ∧ L.length < 64
theorem TS.bare {h : Heap} (R : TS P w h a L es ep t) : TS0 P w h a L := ⟨es, ep, t, R.ob, R.rows, R.tab, R.nd, R.room, R.few⟩
theorem TS0.full {h : Heap} (R : TS0 P w h a L) (m : ∀ p ∈ L, IsK P w h p.2 p.1) : ∃ es ep t, TS P w h a L es ep t := let ⟨es, ep, t, h1, h2, h3, h4, h5, h6⟩ := R; ⟨es, ep, t, h1, h2, h3, h4, m, h5, h6⟩
def SetKO (P : Program) (w : World) (a : Addr) (L : List (Addr × List Key)) : HO := .ext fun h => TS0 P w h a L
theorem setKO_new {H : Hp} {h : Heap} (R : TS0 P w h a L) : ObjOk P w H h a (SetKO P w a L) := by
  refine ⟨R, ?_, fun h1 h2 x k => ?_⟩
  · obtain ⟨_, _, _, ⟨o, ho, _⟩, _⟩ := R
    exact ⟨o, ho⟩
  · obtain ⟨es, ep, t, ⟨o, ho, r⟩, r2⟩ := x
    exact ⟨es, ep, t, ⟨o, k o ho, r⟩, r2⟩
theorem fresh_set {h : Heap} : TS0 P w (h.push { cls := .type "set", dict := none, data := .set #[] 0 (.fresh 0 0 (!w.params.followText "set-order")) }) h.objs.size [] := by
  refine ⟨#[], 0, _, ⟨_, Heap.get?_push_size _ rfl, ⟨rfl, rfl, rfl⟩, rfl⟩, rfl, ⟨List.Pairwise.nil, rfl, rfl, .inl rfl, fun x hx => (by cases hx), fun i h j hi => (by simp at hi)⟩, List.nodup_nil, ?_, by decide⟩
  show 0 * 5 < 7 * 3
  decide
end
section
variable {X : Cx} {pins : List (Addr × Obj)} {σ : L2.St} {H : Hp} {s : Shared} {E : Value → Shared → Prop}
/-- the members are tracked -/
def Mem (H : Hp) (L : List (Addr × List Key)) : Prop := ∀ p ∈ L, H p.1 = some (.tup (p.2.map kV))
theorem set_get {a : Addr} {L : List (Addr × List Key)} (I : Inv X pins σ H s) (ha : H a = some (SetKO X.prog X.w a L)) (m : Mem H L) : ∃ es ep t, TS X.prog X.w s.heap a L es ep t := (I.hok a _ ha).1.full fun p hp => key_of I.hok (m p hp)
theorem set_add {D b : Addr} {L : List (Addr × List Key)} {k : List Key} {Q : Value → Shared → Prop} (I : Inv X pins σ H s) (hu : X.A.units + 2 < cLine) (hD : H D = some (SetKO X.prog X.w D L)) (m : Mem H L) (hb : H b = some (.tup (k.map kV))) (few : L.length + 1 < 64)
    (h : ∀ s' L', (k ∈ L.map (·.2) → L' = L) → (k ∉ L.map (·.2) → L'.Perm ((b, k) :: L)) → Inv X pins σ (upd H D (SetKO X.prog X.w D L')) s' → Q .none s') : wpAny (model X.prog X.w) X.A (call (.builtin "set.add") [.ref D, .ref b]) Q E s := by
  obtain ⟨es, ep, t, R⟩ := set_get I hD m
  obtain ⟨o, ho, hex, hd⟩ := id R.ob
  have ty : s.TypeIs (.ref D) "set" := ⟨o, ho, hex.1⟩
  refine wpAny_call_entry F.slot_set_add ty F.entry_set_add ?_ (F.args_set_add_2 _ _)
  unfold Builtin.«set.add» Builtin.Frozenset.oneOther
  simp only [List.isEmpty_nil, bind_assoc]
  unfold Builtin.Frozenset.addrOf setAdd
  refine wpAny_bind (wpAny_pure ?_)
  try dsimp only
  refine wpAny_bind (wpAny_pure ?_)
  try dsimp only
  refine wpAny_bind (wpAny_holding ?_)
  refine wpAny_bind ((tupleKind (mixKind X.prog X.w)).pyHash (k := k) ?_ (key_of I.hok hb) ?_)
  · show X.A.in1.units < cLine
    simp only [Around.in1]
    omega
  refine put_in (s := { s with toks := s.toks + (tupleKind (mixKind X.prog X.w)).draws k }) R (key_of I.hok hb) ?_ few fun b' h' L' es' ep' t' sb R' c1 c2 => ?_
  · show X.A.in1.units < cLine
    simp only [Around.in1]
    omega
  show wpAny _ _ (ret Value.none) _ _ _
  have he : ∃ u, h'.get? D = some u := by
    obtain ⟨o', ho', _⟩ := R'.ob
    exact ⟨o', ho'⟩
  exact wpAny_pure ⟨_, rfl, h _ L' c1 c2 (I.write (e := D) (t' := s.toks + (tupleKind (mixKind X.prog X.w)).draws k) (by rw [hD]; trivial) (.inl rfl) (fun b u hb hu => (sb.2 b hb).trans hu) he (setKO_new R'.bare))⟩
end
end ST
end Bt
namespace Bt
namespace ST
open PySem PySem.Spec PyProof.Rows L2
/-! ### {k for .. in ..}, k a tuple of texts; its length -/
/-- what one turn gives: a tuple put in -/
def addK (P : Program) (w : World) (D : Addr) (y : V) (H : Hp) (N : Hp → Prop) : Prop := ∃ (b : Addr) (k : List Key) (L : List (Addr × List Key)), y = .ref b ∧ H b = some (.tup (k.map kV)) ∧ H D = some (SetKO P w D L) ∧ Mem H L ∧ L.length + 1 < 64 ∧
  ∀ L', (k ∈ L.map (·.2) → L' = L) → (k ∉ L.map (·.2) → L'.Perm ((b, k) :: L)) → N (upd H D (SetKO P w D L'))
def tScK (P : Program) (w : World) (wi : TI) (g : TG) (tt : TT) (te : TE) (vs : List Nat) : TE := fun σ H Q => wi σ H fun J H1 => ∀ D, H1 D = none → ∃ W : Nat → Nat → Hp → Prop, (∃ m, W 0 m (upd H1 D (SetKO P w D []))) ∧ ∀ i m H, W i m H →
  (J.stop i H ∧ Q (.ref D) H) ∨ (J.go i H ∧ ∃ Nx : Hp → Prop, (∀ H', Nx H' → ∃ m', m' < m ∧ W (i + 1) m' H') ∧ ∀ x H', J.yld i H x H' → g x (wipe σ vs) H' fun σ2 H2 => wipe σ2 vs = wipe σ vs ∧ tt σ2 H2 fun b H3 =>
    if b = true then te σ2 H3 fun y H4 => addK P w D y H4 Nx else Nx H3)
section
variable {X : Cx}
theorem addK_ok {X' : Cx} {pins : List (Addr × Obj)} {σ : L2.St} {H : Hp} {s : Shared} {D : Addr} {y : V} {u : Value} {N : Hp → Prop} {E : Value → Shared → Prop} {Q : Value → Shared → Prop} (I : Inv X' pins σ H s) (hu : X'.A.units + 2 < cLine) (r : RelV y u) (h : addK X'.prog X'.w D y H N)
    (q : ∀ s' H', Inv X' pins σ H' s' → N H' → Q .none s') : wpAny (model X'.prog X'.w) X'.A (call (.builtin "set.add") [.ref D, u]) Q E s := by
  obtain ⟨b, k, L, rfl, hb, hD, m, few, n⟩ := h
  cases r
  exact set_add I hu hD m hb few fun s' L' c1 c2 I' => q s' _ I' (n L' c1 c2)
theorem scK_run {pins : List (Addr × Obj)} {σ : L2.St} {Q : VK} {elt tg iter : Expr} {ifs : List Expr} {scope : Scope} {own : List (Str × Nat)} {pos : Pos} {g : TG} {tt : TT} {te : TE} {J : It} {fp : List Addr} {it D : Addr} {tn : Nat → Heap → Prop} {s3 : Shared} {H3 : Hp} {W : Nat → Nat → Hp → Prop} {m0 : Nat}
    (hc : X.calm = true) (hu : X.A.units + 2 < cLine) (hN : X.N.Nodup) (ok : BlkOk X.N X.env.scope scope own)
    (hg : ∀ (s : Shared) (H : Hp) (C : Addr) (cl : List (Str × Addr)) (fp : List Addr), PG (X.blk s H scope (compEnvC scope cl C X.env) fp) tg g) (ht : ∀ (s : Shared) (H : Hp) (C : Addr) (cl : List (Str × Addr)) (fp : List Addr), PTs (X.blk s H scope (compEnvC scope cl C X.env) fp) ifs tt)
    (he : ∀ (s : Shared) (H : Hp) (C : Addr) (cl : List (Str × Addr)) (fp : List Addr), PE (X.blk s H scope (compEnvC scope cl C X.env) fp) elt te)
    (T : Turn X.prog X.w X.K tg J fp it tn) (I3 : Inv X pins σ H3 s3) (f3 : ∀ b ∈ fp, FpOk X pins H3 b ∧ b < s3.heap.objs.size) (st3 : tn 0 s3.heap) (w0 : W 0 m0 H3)
    (turn : ∀ i m H, W i m H → (J.stop i H ∧ Q (.ref D) H) ∨ (J.go i H ∧ ∃ Nx : Hp → Prop, (∀ H', Nx H' → ∃ m', m' < m ∧ W (i + 1) m' H') ∧ ∀ x H', J.yld i H x H' → g x (wipe σ (own.map (·.2))) H' fun σ2 H2 => wipe σ2 (own.map (·.2)) = wipe σ (own.map (·.2)) ∧ tt σ2 H2 fun b H3 =>
      if b = true then te σ2 H3 fun y H4 => addK X.prog X.w D y H4 Nx else Nx H3)) :
    codeAny (model X.prog X.w) X.A (.compStart (.SetComp elt [⟨tg, iter, ifs, 0⟩] scope pos) 0 (.ref it) (.ref D) (compEnvC scope (cellsFrom (s3.heap.objs.size + 1) scope.names (cloFrom X.env.cells scope.names [])) s3.heap.objs.size X.env))
      (compPost (model X.prog X.w) X.A X.xe none (EP X pins σ Q) (.ref D) s3.heap.objs.size) { s3 with heap := pushCells (s3.heap.push { cls := .type "dict", data := .dict #[] }) scope.names } := by
  have I4 := block_start I3 ok hN f3
  obtain ⟨cells, hcells⟩ : ∃ c, c = cellsFrom (s3.heap.objs.size + 1) scope.names (cloFrom X.env.cells scope.names []) := ⟨_, rfl⟩
  rw [← hcells] at I4 ⊢
  have pg := hg s3 H3 s3.heap.objs.size cells fp
  have pt := ht s3 H3 s3.heap.objs.size cells fp
  have pe := he s3 H3 s3.heap.objs.size cells fp
  have cL : (compEnvC scope cells s3.heap.objs.size X.env).locals = s3.heap.objs.size := rfl
  generalize compEnvC scope cells s3.heap.objs.size X.env = ce at I4 pg pt pe cL ⊢
  have st4 : tn 0 ({ s3 with heap := pushCells (s3.heap.push { cls := .type "dict", data := .dict #[] }) scope.names } : Shared).heap := T.keep _ _ (pushCells (s3.heap.push { cls := .type "dict", data := .dict #[] }) scope.names) st3 fun b _ o e => pushCells_keeps _ _ _ _ (Heap.get?_push_of_some _ e)
  have own' : ∀ {σ' : L2.St} {H' : Hp} {s' : Shared}, Inv (X.blk s3 H3 scope ce fp) [] σ' H' s' → (∀ b ∈ fp, H' b = none) → ∀ b ∈ fp, FpOk (X.blk s3 H3 scope ce fp) [] H' b := fun I' hn b hb =>
    ⟨hn b hb, (I'.ok.exf b hb).1, I'.ok.exfs b hb, .inl hb, fun x c e => (I'.ok.exf b hb).2 x c e, fun p hp => nomatch hp⟩
  generalize ({ s3 with heap := pushCells (s3.heap.push { cls := .type "dict", data := .dict #[] }) scope.names } : Shared) = s4 at I4 st4 ⊢
  have nofp : ∀ b ∈ fp, H3 b = none := fun b hb => (f3 b hb).1.1
  have loop : codeAny (model X.prog X.w) X.A (.compLoop (.SetComp elt [⟨tg, iter, ifs, 0⟩] scope pos) 0 (.ref it) (.ref D) ce) (compPost (model X.prog X.w) X.A X.xe none (EP X pins σ Q) (.ref D) s3.heap.objs.size) s4 := by
    refine PpSet.compLoopS_any (fun n s' => ∃ i H', Inv (X.blk s3 H3 scope ce fp) [] (wipe σ (own.map (·.2))) H' s' ∧ tn i s'.heap ∧ (∀ b ∈ fp, H' b = none) ∧ W i n H') ?_ m0 ⟨0, H3, I4, st4, nofp, w0⟩
    rintro n s5 ⟨i, H5, I5, st5, n5, w5⟩
    rcases turn i n H5 w5 with ⟨stop, qq⟩ | ⟨go, Nx, hNx, step⟩
    · refine thnF (T.done (X.blk s3 H3 scope ce fp) rfl rfl rfl hc i [] s5 _ H5 (fun _ _ => False) I5 (own' I5 n5) st5 stop) fun r s6 ⟨hr, I6⟩ => ?_
      subst hr
      have I7 : Inv X pins σ H5 s6 := I3.call' (ch := fp) I6.os I6.base I6.hok I6.bare fun b hb => ⟨(f3 b hb).1.2.2.2.1, (f3 b hb).1.2.1, (f3 b hb).1.2.2.2.2.1, (f3 b hb).1.2.2.2.2.2⟩
      have nC : H5 s3.heap.objs.size = none := cL ▸ (show H5 ce.locals = none from I6.free)
      obtain ⟨m, hn, _⟩ := I6.loc
      have hn' : s6.heap.Ns s3.heap.objs.size m := cL ▸ (show s6.heap.Ns ce.locals m from hn)
      obtain ⟨f0, f1, f2, f4, f5, f6⟩ := I3.fpOk (Nat.le_refl _) nC
      exact ⟨m, hn', fun h'' sb => ⟨.ref D, H5, I7.turned (t' := s6.toks) (fun b o hb e => (sb.2 b hb).trans e) f0 f1 f4 f5 f6, rfl, qq⟩⟩
    · refine thnF (T.item (X.blk s3 H3 scope ce fp) rfl rfl rfl hc i [] s5 _ H5 (fun _ _ => False) I5 (own' I5 n5) st5 go) fun r s6 ⟨u, hr, h6⟩ => ?_
      subst hr
      refine thnF h6 fun _ s7 ⟨x, H7, I7, r7, y7, st7, n7⟩ => ?_
      have I7' := I7.pinned (own' I7 n7) (T.obj _ _ st7)
      refine thnF (pg.run _ s7 _ H7 x u _ I7' r7 (step x H7 y7)) fun _ s8 ⟨σ8, H8, I8, hw8, q8⟩ => ?_
      refine thnF (pt.run _ s8 σ8 H8 _ I8 q8) fun b s9 ⟨H9, I9, q9⟩ => ?_
      have fin : ∀ {s' : Shared} {H' : Hp}, Inv (X.blk s3 H3 scope ce fp) ([] ++ pinsAt fp s7.heap) σ8 H' s' → Nx H' → ∃ m, m < n ∧ ∃ i H', Inv (X.blk s3 H3 scope ce fp) [] (wipe σ (own.map (·.2))) H' s' ∧ tn i s'.heap ∧ (∀ b ∈ fp, H' b = none) ∧ W i m H' := fun {s' H'} I' nx => by
        obtain ⟨m', hm, w'⟩ := hNx H' nx
        have pin : ∀ b ∈ fp, ∀ o, s7.heap.get? b = some o → s'.heap.get? b = some o ∧ H' b = none := fun b hb o e =>
          let z := I'.pin (b, o) (List.mem_append_right _ (List.mem_append_right _ (mem_pinsAt hb e)))
          ⟨z.1, z.2.1⟩
        refine ⟨m', hm, i + 1, H', (I'.unpinned (pins := [])).weak (by rw [← hw8, wipe_length]) (fun j v e => (wipe_some (hw8 ▸ e)).1), T.keep _ _ _ st7 fun b hb o e => (pin b hb o e).1, fun b hb => ?_, w'⟩
        obtain ⟨o, e, _⟩ := T.obj _ _ st7 b hb
        exact (pin b hb o e).2
      cases b with
      | false =>
        simp only [Bool.false_eq_true, if_false] at q9 ⊢
        exact fin I9 q9
      | true =>
        simp only [if_true] at q9 ⊢
        exact thnF (pe.run _ s9 σ8 H9 _ I9 q9) fun z s10 ⟨yv, H10, I10, r10, ad⟩ => addK_ok (X' := X.blk s3 H3 scope ce fp) I10 hu r10 ad fun s11 H11 I11 nx => fin I11 nx
  exact PpSet.codeAny_compStart_set loop (T.self X.A 0 _ _ _ st4 loop)
theorem pe_scK {elt tg iter : Expr} {ifs : List Expr} {scope : Scope} {own : List (Str × Nat)} {pos : Pos} {wi : TI} {g : TG} {tt : TT} {te : TE} (hc : X.calm = true) (hu : X.A.units + 2 < cLine) (hN : X.N.Nodup) (hi : PI X tg iter wi) (ok : BlkOk X.N X.env.scope scope own)
    (hg : ∀ (s : Shared) (H : Hp) (C : Addr) (cl : List (Str × Addr)) (fp : List Addr), PG (X.blk s H scope (compEnvC scope cl C X.env) fp) tg g) (ht : ∀ (s : Shared) (H : Hp) (C : Addr) (cl : List (Str × Addr)) (fp : List Addr), PTs (X.blk s H scope (compEnvC scope cl C X.env) fp) ifs tt)
    (he : ∀ (s : Shared) (H : Hp) (C : Addr) (cl : List (Str × Addr)) (fp : List Addr), PE (X.blk s H scope (compEnvC scope cl C X.env) fp) elt te) (hs : ∀ x, foldedSetIterable iter X.env x = pure x := by intro _; rfl) :
    PE X (.SetComp elt [⟨tg, iter, ifs, 0⟩] scope pos) (tScK X.prog X.w wi g tt te (own.map (·.2))) := by
  refine ⟨fun pins s σ H Q I h => ?_⟩
  rw [PpSet.eval_SetComp]
  have known : ∀ y ∈ scope.names, y.2 = .free → ∃ c, X.env.cells.lookup y.1 = some c := fun y hy e => I.ok.has _ (ok.free y hy e)
  refine wpAny_comprehension_free (use := none) rfl hs (closure_ok known) ok.kind (fun y hy e => by rw [ok.uniq y hy, e]) (thn (hi.run pins s σ H _ I h) fun xv s1 hx => thn hx fun itv s2 ⟨it, fp, tn, J, H2, ei, I2, T, st2, f2, q⟩ => ?_)
  subst ei
  refine PpSet.newSet_ok (newEnv_comp ?_)
  have hDn : H2 s2.heap.objs.size = none := I2.hok.fresh (Nat.le_refl _)
  obtain ⟨W, ⟨m0, w0⟩, turn⟩ := q _ hDn
  have I3 : Inv X pins σ (upd H2 s2.heap.objs.size (SetKO X.prog X.w s2.heap.objs.size [])) { s2 with heap := s2.heap.push { cls := .type "set", dict := none, data := .set #[] 0 (.fresh 0 0 (!X.w.params.followText "set-order")) } } :=
    I2.laid (t' := s2.toks) (fun b o e => Heap.get?_push_of_some _ e) (Nat.le_refl _) (setKO_new fresh_set)
  have f3 : ∀ b ∈ fp, FpOk X pins (upd H2 s2.heap.objs.size (SetKO X.prog X.w s2.heap.objs.size [])) b ∧ b < (s2.heap.push { cls := .type "set", dict := none, data := .set #[] 0 (.fresh 0 0 (!X.w.params.followText "set-order")) }).objs.size := fun b hb => by
    obtain ⟨o, e, _⟩ := T.obj _ _ st2 b hb
    have lt := Heap.lt_size e
    refine ⟨⟨by rw [upd_ne (Nat.ne_of_lt lt)]; exact (f2 b hb).1, (f2 b hb).2⟩, by rw [Heap.size_push]; exact Nat.lt_succ_of_lt lt⟩
  have st3 := T.keep _ _ (s2.heap.push { cls := .type "set", dict := none, data := .set #[] 0 (.fresh 0 0 (!X.w.params.followText "set-order")) }) st2 fun b _ o e => Heap.get?_push_of_some _ e
  exact scK_run (pos := pos) hc hu hN ok hg ht he T I3 f3 st3 w0 turn
end
end ST
end Bt
namespace Bt
namespace ST
open PySem PySem.Spec PyProof.Rows L2
/-! ### sets of tuples: len, in, reading lemmas -/
def rLenK (P : Program) (w : World) : List V → Hp → VK → Prop := fun xs H Q => ∃ (a : Addr) (L : List (Addr × List Key)), xs = [V.ref a] ∧ H a = some (SetKO P w a L) ∧ Q (.int L.length) H
theorem call_lenK {X : Cx} : CallR X (.builtin "len") (rLenK X.prog X.w) := by
  intro pins s σ H xs us Q I r h
  obtain ⟨a, L, rfl, ha, q⟩ := h
  obtain ⟨u, rfl, ru⟩ := vals1 r
  cases ru
  obtain ⟨es, ep, t, ⟨o, ho, hx, hd⟩, rows, tab, nd, room, few⟩ := (I.hok a _ ha).1
  have size : es.size = L.length := by rw [← Array.length_toList, rows, List.length_map]
  have fits : t.fits es.size = true := by
    have h1 := tab.sz
    rw [List.length_map] at h1
    unfold SetTable.fits SetTable.fill
    rw [tab.dm, Bool.and_eq_true, beq_iff_eq, decide_eq_true_eq]
    exact ⟨by omega, by show t.place.size + 0 ≤ t.mask; omega⟩
  exact call_len_set ho hx hd fits (by omega) ⟨.int L.length, H, I.tok _, ⟨_, by rw [size]⟩, q⟩
theorem hasK_iff {L : List (Addr × List Key)} {k : List Key} : (L.any fun p => decide (p.2 = k)) = true ↔ k ∈ L.map (·.2) := by
  rw [List.any_eq_true, List.mem_map]
  exact ⟨fun ⟨p, h, e⟩ => ⟨p, h, of_decide_eq_true e⟩, fun ⟨p, h, e⟩ => ⟨p, h, decide_eq_true e⟩⟩
def hasK (L : List (Addr × List Key)) (k : List Key) : Bool := L.any fun p => decide (p.2 = k)
/-- k in s, k not in s -/
def rInK (P : Program) (w : World) (f : Bool → Bool) : R2 := fun x y H Q => ∃ (b a : Addr) (k : List Key) (L : List (Addr × List Key)), x = .ref b ∧ y = .ref a ∧ H b = some (.tup (k.map kV)) ∧ H a = some (SetKO P w a L) ∧ Mem H L ∧ Q (.bl (f (hasK L k))) H
theorem has_ok {X : Cx} {pins : List (Addr × Obj)} {σ : L2.St} {H : Hp} {s : Shared} {E : Value → Shared → Prop} {a b : Addr} {k : List Key} {L : List (Addr × List Key)} {Q : Value → Shared → Prop} (I : Inv X pins σ H s) (hu : X.A.units + 3 < cLine) (hb : H b = some (.tup (k.map kV))) (ha : H a = some (SetKO X.prog X.w a L)) (m : Mem H L)
    (f : Bool → Bool) (h : ∀ tk, Q (.bool (f (hasK L k))) { s with toks := tk }) : wpAny (model X.prog X.w) X.A (do return .bool (f (← contains (.ref a) (.ref b)))) Q E s := by
  obtain ⟨es, ep, t, R⟩ := set_get I ha m
  obtain ⟨o, ho, hex, hd⟩ := id R.ob
  have ty : s.TypeIs (.ref a) "set" := ⟨o, ho, hex.1⟩
  refine wpAny_bind ?_
  unfold contains
  try with_reducible refine wpAny_holding ?_
  refine wpAny_bind (wpAny_specialOf ty F.slot_set_contains.lookup ?_)
  show wpAny _ _ (if (some (Value.builtin "set.__contains__") == some Value.none) = true then _ else _) _ E s
  rw [if_neg (by rw [beq_builtin_none]; exact Bool.false_ne_true)]
  refine wpAny_bind (wpAny_callSpecialUnlessNone?_slot (name := Str.ofString "__contains__") ty F.slot_set_contains
    (wpAny_call_entry F.slot_set_contains ty entry_set_contains ?_ (F.args_set_contains_2 _ _)))
  unfold Builtin.«frozenset.__contains__» Builtin.Frozenset.oneOther
  simp only [List.isEmpty_nil, bind_assoc]
  unfold Builtin.Frozenset.addrOf Builtin.Frozenset.withSetAsKey setContains
  refine wpAny_bind (wpAny_pure ?_)
  try dsimp only
  refine wpAny_bind (wpAny_pure ?_)
  try dsimp only
  refine wpAny_bind (wpAny_tryCatch ?_)
  refine wpAny_holding ?_
  refine wpAny_bind ((tupleKind (mixKind X.prog X.w)).pyHash (k := k) ?_ (key_of I.hok hb) ?_)
  · show X.A.in1.units < cLine
    simp only [Around.in1]
    omega
  unfold setFind
  rw [show (100000 : Nat) = 99999 + 1 from rfl]
  unfold setFindIn
  refine wpAny_bind (wpAny_bind (wpAny_setState_of ho hd R.fits ?_))
  dsimp only
  refine wp_if_neg (by simp [byScan, Value.scannable]) ?_
  have fin : ∀ (r : Option Nat), r.isSome = hasK L k → wpAny (model X.prog X.w) X.A.in1 (ret (Value.bool r.isSome)) (fun fin s' => ∃ v, fin = .done (.ret v) ∧ wpAny (model X.prog X.w) X.A (truthy v) (fun c s'' => wpAny (model X.prog X.w) X.A (pure (.bool (f c))) Q E s'') E s') E { s with toks := s.toks + (tupleKind (mixKind X.prog X.w)).draws k } := fun r e => by
    rw [e]
    exact wpAny_pure ⟨_, rfl, wpAny_truthy_bool (wpAny_pure (h _))⟩
  refine wpAny_bind (srch (s := { s with toks := s.toks + (tupleKind (mixKind X.prog X.w)).draws k }) R (key_of I.hok hb) ?_ false (fun hm r _ hr => ?_) fun hm K _ _ => ?_)
  · show X.A.in1.units < cLine
    simp only [Around.in1]
    omega
  · refine wpAny_pure ?_
    exact wpAny_pure (fin r (by rw [hr rfl]; exact (hasK_iff.mpr hm).symm))
  · refine wpAny_pure ?_
    exact wpAny_pure (fin none (by
      show false = hasK L k
      cases e : hasK L k with
      | false => rfl
      | true => exact absurd (hasK_iff.mp e) hm))
theorem op_inK {X : Cx} (hu : X.A.units + 3 < cLine) : OpR X (compareOp .In) (rInK X.prog X.w id) := by
  intro pins s σ H x y v u Q I rx ry h
  obtain ⟨b, a, k, L, rfl, rfl, hb, ha, m, q⟩ := h
  cases rx
  cases ry
  exact has_ok I hu hb ha m id fun tk => ⟨.bl (hasK L k), H, I.tok tk, rfl, q⟩
theorem op_notinK {X : Cx} (hu : X.A.units + 3 < cLine) : OpR X (compareOp .NotIn) (rInK X.prog X.w not) := by
  intro pins s σ H x y v u Q I rx ry h
  obtain ⟨b, a, k, L, rfl, rfl, hb, ha, m, q⟩ := h
  cases rx
  cases ry
  exact has_ok I hu hb ha m not fun tk => ⟨.bl (!hasK L k), H, I.tok tk, rfl, q⟩
/-- {.. for x in a list} -/
theorem s_scK {P : Program} {w : World} {wi : TI} {g : TG} {tt : TT} {te : TE} {vs : List Nat} {σ : L2.St} {H : Hp} {Q : VK} (h : wi σ H fun J H1 => ∀ D, H1 D = none → ∃ W : Nat → Nat → Hp → Prop, (∃ m, W 0 m (upd H1 D (SetKO P w D []))) ∧ ∀ i m H, W i m H →
  (J.stop i H ∧ Q (.ref D) H) ∨ (J.go i H ∧ ∃ Nx : Hp → Prop, (∀ H', Nx H' → ∃ m', m' < m ∧ W (i + 1) m' H') ∧ ∀ x H', J.yld i H x H' → g x (wipe σ vs) H' fun σ2 H2 => wipe σ2 vs = wipe σ vs ∧ tt σ2 H2 fun b H3 =>
    if b = true then te σ2 H3 fun y H4 => addK P w D y H4 Nx else Nx H3)) : tScK P w wi g tt te vs σ H Q := h
theorem sc_listK {P : Program} {w : World} {K : PySem.W.Frag} {a : Addr} {xs : List V} {g : TG} {tt : TT} {te : TE} {vs : List Nat} {σ : L2.St} {H1 : Hp} {D : Addr} {Qd : Hp → Prop} (Pv : Nat → Hp → Prop) (h0 : Pv 0 (upd H1 D (SetKO P w D []))) (hl : ∀ i H, i ≤ xs.length → Pv i H → SqL K H a xs)
    (hs : ∀ i x H, xs[i]? = some x → Pv i H → g x (wipe σ vs) H fun σ2 H2 => wipe σ2 vs = wipe σ vs ∧ tt σ2 H2 fun b H3 => if b = true then te σ2 H3 fun y H4 => addK P w D y H4 (Pv (i + 1)) else Pv (i + 1) H3) (hd : ∀ H, Pv xs.length H → Qd H) :
    ∃ W : Nat → Nat → Hp → Prop, (∃ m, W 0 m (upd H1 D (SetKO P w D []))) ∧ ∀ i m H, W i m H →
      ((Itl K a).stop i H ∧ Qd H) ∨ ((Itl K a).go i H ∧ ∃ Nx : Hp → Prop, (∀ H', Nx H' → ∃ m', m' < m ∧ W (i + 1) m' H') ∧ ∀ x H', (Itl K a).yld i H x H' → g x (wipe σ vs) H' fun σ2 H2 => wipe σ2 vs = wipe σ vs ∧ tt σ2 H2 fun b H3 =>
        if b = true then te σ2 H3 fun y H4 => addK P w D y H4 Nx else Nx H3) := by
  refine ⟨fun i m H => m = xs.length - i ∧ i ≤ xs.length ∧ Pv i H, ⟨xs.length, by simp, Nat.zero_le _, h0⟩, ?_⟩
  rintro i m H ⟨rfl, hi, p⟩
  have q := hl i H hi p
  by_cases hlt : i < xs.length
  · refine .inr ⟨⟨xs, xs[i], q, by simp [hlt]⟩, Pv (i + 1), fun H' p' => ⟨xs.length - (i + 1), by omega, rfl, hlt, p'⟩, fun x H' y => ?_⟩
    obtain ⟨rfl, y⟩ := y
    exact hs i x _ (y xs q) p
  · have e : i = xs.length := by omega
    subst e
    exact .inl ⟨⟨xs, q, Nat.le_refl _⟩, hd H p⟩
end ST
end Bt
namespace Bt
namespace DT
open PySem PySem.Spec PyProof.Rows L2
/-! ### dicts whose keys are tuples of texts: {k: v for .. in ..}, del d[k] -/
section
variable {X : Cx} {pins : List (Addr × Obj)} {σ : L2.St} {H : Hp} {s : Shared} {a : Addr} {kvs : List (List Key × V)} {A : Around} {E : Value → Shared → Prop}
theorem KT.drop {H : Hp} {kvs : List (List Key × V)} {xs : List (List Key × Addr × Value)} (r : KT H kvs xs) (k : List Key) : KT H (dropK kvs k) (withoutH xs k) := by
  induction r with
  | nil => exact .nil
  | @cons p q ps qs h t ih =>
    unfold dropK withoutH at ih ⊢
    by_cases e : p.1 = k
    · rw [List.filter_cons_of_neg (by simp [e]), List.filter_cons_of_neg (by simp [← h.1, e])]
      exact ih
    · rw [List.filter_cons_of_pos (by simp [e]), List.filter_cons_of_pos (by simp [← h.1, e])]
      exact .cons h ih
theorem KT.away {H : Hp} {xs : List (List Key × Addr × Value)} {u : HO} (e : H a = some u) (n : ∀ ys, u ≠ .tup ys) (ob : HO) (r : KT H kvs xs) : KT (upd H a ob) kvs xs :=
  r.keeps fun c ys ec => by rw [upd_ne (fun z => by rw [z, e] at ec; exact n _ (Option.some.inj ec))]; exact ec
theorem d_dictSetT {D b : Addr} {k : List Key} {v : V} {r : Value} {Q : Unit → Shared → Prop} (hu : X.A.units < cLine) (I : Inv X pins σ H s) (hD : H D = some (.dT kvs)) (hz : kvs.length < sizeLine) (hb : H b = some (.tup (k.map kV)))
    (rv : RelV v r) (h : ∀ s', Inv X pins σ (upd H D (.dT (putK kvs k v))) s' → Q () s') : wpAny (model X.prog X.w) X.A (dictSet D (.ref b) r) Q E s := by
  obtain ⟨z, hd, xs, rel, dd⟩ := dt_of I.hok hD
  have lx : xs.length ≤ sizeLine := by rw [← Paired.length rel]; exact z
  have lp := length_putK kvs k v
  refine wpAny_dictSet_heap (knd := tupleKind (mixKind X.prog X.w)) (k := k) (hsz := lx) hu (key_of I.hok hb) dd fun h' dd' hs => h _ ?_
  obtain ⟨q, es, ep, hq, h2, h3, h4, _, h5⟩ := dd'
  exact d_write I (by rw [hD]; exact True.intro) hs ⟨q, hq⟩ ⟨by omega, hd, _, KT.away hD (fun _ z => nomatch z) _ (rel.put k hb rv), q, es, ep, hq, h2, h3, h4, h5⟩
theorem d_delT {b : Addr} {k : List Key} {Q : Unit → Shared → Prop} (hu : A.units + 1 < cLine) (I : Inv X pins σ H s) (e : H a = some (.dT kvs)) (hb : H b = some (.tup (k.map kV))) (l : (valV kvs k).isSome = true)
    (h : ∀ s', Inv X pins σ (upd H a (.dT (dropK kvs k))) s' → Q () s') : wpAny (model X.prog X.w) A (delItem (.ref a) (.ref b)) Q E s := by
  obtain ⟨z, hd, xs, rel, dd⟩ := dt_of I.hok e
  have lx : xs.length ≤ sizeLine := by rw [← Paired.length rel]; exact z
  have is := (rel.val k).isSome_eq
  rw [l, Option.isSome_map] at is
  obtain ⟨p, hp⟩ := Option.isSome_iff_exists.mp is.symm
  refine wpAny_delItem_heap (hsz := lx) (tupleKind_room_in1 hu) (key_of I.hok hb) hd dd hp fun h' dd' hs => h _ ?_
  obtain ⟨q, es, ep, hq, h2, h3, h4, _, h5⟩ := dd'
  exact d_write I (by rw [e]; exact True.intro) hs ⟨q, hq⟩ ⟨Nat.le_trans (dropK_le kvs k) z, hd, _, KT.away e (fun _ z => nomatch z) _ (KT.drop rel k), q, es, ep, hq, h2, h3, h4, h5⟩
end
def sDDelT (td ty : TE) : TS := fun D σ H => td σ H fun x H1 => ty σ H1 fun y H2 => ∃ a b kvs k, x = .ref a ∧ y = .ref b ∧ H2 a = some (.dT kvs) ∧ H2 b = some (.tup (k.map kV)) ∧ (valV kvs k).isSome = true ∧ D.nx σ (upd H2 a (.dT (dropK kvs k)))
theorem ps_ddelT {X : Cx} {o i : Expr} {pos tpos : Pos} {td ty : TE} (hu : X.A.units + 1 < cLine) (ho : PE X o td) (hi : PE X i ty) : PS X (.Delete [.Subscript o i tpos] pos) (sDDelT td ty) := by
  refine ⟨fun pins s σ H D I h => wpAny_Delete (wpAny_deleteEach_cons (wpAny_delete_Subscript (thn (ho.run pins s σ H _ I h) fun u s1 ⟨x, H1, I1, rx, q1⟩ => thn (hi.run pins s1 σ H1 _ I1 q1) fun v s2 ⟨y, H2, I2, ry, a, b, kvs, k, ex, ey, e, hb, l, q2⟩ => ?_)))⟩
  subst ex ey
  cases rx
  cases ry
  exact d_delT hu I2 e hb l fun s3 I3 => wpAny_deleteEach_nil ⟨σ, _, I3, q2⟩
theorem s_ddelT {td ty : TE} {D : Ends} {σ : L2.St} {H : Hp} (h : td σ H fun x H1 => ty σ H1 fun y H2 => ∃ a b kvs k, x = .ref a ∧ y = .ref b ∧ H2 a = some (.dT kvs) ∧ H2 b = some (.tup (k.map kV)) ∧ (valV kvs k).isSome = true ∧ D.nx σ (upd H2 a (.dT (dropK kvs k)))) : sDDelT td ty D σ H := h
/-- what one turn gives: the key, its value -/
def putT (D : Addr) (y z : V) (H : Hp) (N : Hp → Prop) : Prop := ∃ (b : Addr) (k : List Key) (kvs : List (List Key × V)), y = .ref b ∧ H b = some (.tup (k.map kV)) ∧ H D = some (.dT kvs) ∧ kvs.length < sizeLine ∧ N (upd H D (.dT (putK kvs k z)))
def tDcT (wi : TI) (g : TG) (tt : TT) (tk tv : TE) (vs : List Nat) : TE := fun σ H Q => wi σ H fun J H1 => ∀ D, H1 D = none → ∃ W : Nat → Nat → Hp → Prop, (∃ m, W 0 m (upd H1 D (.dT []))) ∧ ∀ i m H, W i m H →
  (J.stop i H ∧ Q (.ref D) H) ∨ (J.go i H ∧ ∃ Nx : Hp → Prop, (∀ H', Nx H' → ∃ m', m' < m ∧ W (i + 1) m' H') ∧ ∀ x H', J.yld i H x H' → g x (wipe σ vs) H' fun σ2 H2 => wipe σ2 vs = wipe σ vs ∧ tt σ2 H2 fun b H3 =>
    if b = true then tk σ2 H3 fun y H4 => tv σ2 H4 fun z H5 => putT D y z H5 Nx else Nx H3)
section
variable {X : Cx}
theorem dcT_run {pins : List (Addr × Obj)} {σ : L2.St} {Q : VK} {kx vx tg iter : Expr} {ifs : List Expr} {scope : Scope} {own : List (Str × Nat)} {pos : Pos} {g : TG} {tt : TT} {tk tv : TE} {J : It} {fp : List Addr} {it D : Addr} {tn : Nat → Heap → Prop} {s3 : Shared} {H3 : Hp} {W : Nat → Nat → Hp → Prop} {m0 : Nat} {use : Option (Value → Sem Unit)} {Qf : Value → Shared → Prop}
    (hc : X.calm = true) (hu : X.A.units + 2 < cLine) (hN : X.N.Nodup) (ok : BlkOk X.N X.env.scope scope own)
    (hg : ∀ (s : Shared) (H : Hp) (C : Addr) (cl : List (Str × Addr)) (fp : List Addr), PG (X.blk s H scope (compEnvC scope cl C X.env) fp) tg g) (ht : ∀ (s : Shared) (H : Hp) (C : Addr) (cl : List (Str × Addr)) (fp : List Addr), PTs (X.blk s H scope (compEnvC scope cl C X.env) fp) ifs tt)
    (hk : ∀ (s : Shared) (H : Hp) (C : Addr) (cl : List (Str × Addr)) (fp : List Addr), PE (X.blk s H scope (compEnvC scope cl C X.env) fp) kx tk) (he : ∀ (s : Shared) (H : Hp) (C : Addr) (cl : List (Str × Addr)) (fp : List Addr), PE (X.blk s H scope (compEnvC scope cl C X.env) fp) vx tv)
    (ends : ∀ C s' m H', Inv X pins σ H' s' → Q (.ref D) H' → s'.heap.Ns C m → FpOk X pins H' C → compPost (model X.prog X.w) X.A X.xe use Qf (.ref D) C (.ok .next) s')
    (T : Turn X.prog X.w X.K tg J fp it tn) (I3 : Inv X pins σ H3 s3) (f3 : ∀ b ∈ fp, FpOk X pins H3 b ∧ b < s3.heap.objs.size) (st3 : tn 0 s3.heap) (w0 : W 0 m0 H3)
    (turn : ∀ i m H, W i m H → (J.stop i H ∧ Q (.ref D) H) ∨ (J.go i H ∧ ∃ Nx : Hp → Prop, (∀ H', Nx H' → ∃ m', m' < m ∧ W (i + 1) m' H') ∧ ∀ x H', J.yld i H x H' → g x (wipe σ (own.map (·.2))) H' fun σ2 H2 => wipe σ2 (own.map (·.2)) = wipe σ (own.map (·.2)) ∧ tt σ2 H2 fun b H3 =>
      if b = true then tk σ2 H3 fun y H4 => tv σ2 H4 fun z H5 => putT D y z H5 Nx else Nx H3)) :
    codeAny (model X.prog X.w) X.A (.compStart (.DictComp kx vx [⟨tg, iter, ifs, 0⟩] scope pos) 0 (.ref it) (.ref D) (compEnvC scope (cellsFrom (s3.heap.objs.size + 1) scope.names (cloFrom X.env.cells scope.names [])) s3.heap.objs.size X.env))
      (compPost (model X.prog X.w) X.A X.xe use Qf (.ref D) s3.heap.objs.size) { s3 with heap := pushCells (s3.heap.push { cls := .type "dict", data := .dict #[] }) scope.names } := by
  have I4 := block_start I3 ok hN f3
  obtain ⟨cells, hcells⟩ : ∃ c, c = cellsFrom (s3.heap.objs.size + 1) scope.names (cloFrom X.env.cells scope.names []) := ⟨_, rfl⟩
  rw [← hcells] at I4 ⊢
  have pg := hg s3 H3 s3.heap.objs.size cells fp
  have pt := ht s3 H3 s3.heap.objs.size cells fp
  have pk := hk s3 H3 s3.heap.objs.size cells fp
  have pe := he s3 H3 s3.heap.objs.size cells fp
  have cL : (compEnvC scope cells s3.heap.objs.size X.env).locals = s3.heap.objs.size := rfl
  generalize compEnvC scope cells s3.heap.objs.size X.env = ce at I4 pg pt pk pe cL ⊢
  have st4 : tn 0 ({ s3 with heap := pushCells (s3.heap.push { cls := .type "dict", data := .dict #[] }) scope.names } : Shared).heap := T.keep _ _ (pushCells (s3.heap.push { cls := .type "dict", data := .dict #[] }) scope.names) st3 fun b _ o e => pushCells_keeps _ _ _ _ (Heap.get?_push_of_some _ e)
  have own' : ∀ {σ' : L2.St} {H' : Hp} {s' : Shared}, Inv (X.blk s3 H3 scope ce fp) [] σ' H' s' → (∀ b ∈ fp, H' b = none) → ∀ b ∈ fp, FpOk (X.blk s3 H3 scope ce fp) [] H' b := fun I' hn b hb =>
    ⟨hn b hb, (I'.ok.exf b hb).1, I'.ok.exfs b hb, .inl hb, fun x c e => (I'.ok.exf b hb).2 x c e, fun p hp => nomatch hp⟩
  generalize ({ s3 with heap := pushCells (s3.heap.push { cls := .type "dict", data := .dict #[] }) scope.names } : Shared) = s4 at I4 st4 ⊢
  have nofp : ∀ b ∈ fp, H3 b = none := fun b hb => (f3 b hb).1.1
  have loop : codeAny (model X.prog X.w) X.A (.compLoop (.DictComp kx vx [⟨tg, iter, ifs, 0⟩] scope pos) 0 (.ref it) (.ref D) ce) (compPost (model X.prog X.w) X.A X.xe use Qf (.ref D) s3.heap.objs.size) s4 := by
    refine compLoop_anyD (fun n s' => ∃ i H', Inv (X.blk s3 H3 scope ce fp) [] (wipe σ (own.map (·.2))) H' s' ∧ tn i s'.heap ∧ (∀ b ∈ fp, H' b = none) ∧ W i n H') ?_ m0 ⟨0, H3, I4, st4, nofp, w0⟩
    rintro n s5 ⟨i, H5, I5, st5, n5, w5⟩
    rcases turn i n H5 w5 with ⟨stop, qq⟩ | ⟨go, Nx, hNx, step⟩
    · refine thnF (T.done (X.blk s3 H3 scope ce fp) rfl rfl rfl hc i [] s5 _ H5 (fun _ _ => False) I5 (own' I5 n5) st5 stop) fun r s6 ⟨hr, I6⟩ => ?_
      subst hr
      have I7 : Inv X pins σ H5 s6 := I3.call' (ch := fp) I6.os I6.base I6.hok I6.bare fun b hb => ⟨(f3 b hb).1.2.2.2.1, (f3 b hb).1.2.1, (f3 b hb).1.2.2.2.2.1, (f3 b hb).1.2.2.2.2.2⟩
      have nC : H5 s3.heap.objs.size = none := cL ▸ (show H5 ce.locals = none from I6.free)
      obtain ⟨m, hn, _⟩ := I6.loc
      have hn' : s6.heap.Ns s3.heap.objs.size m := cL ▸ (show s6.heap.Ns ce.locals m from hn)
      exact ends s3.heap.objs.size s6 m H5 I7 qq hn' (I3.fpOk (Nat.le_refl _) nC)
    · refine thnF (T.item (X.blk s3 H3 scope ce fp) rfl rfl rfl hc i [] s5 _ H5 (fun _ _ => False) I5 (own' I5 n5) st5 go) fun r s6 ⟨u, hr, h6⟩ => ?_
      subst hr
      refine thnF h6 fun _ s7 ⟨x, H7, I7, r7, y7, st7, n7⟩ => ?_
      have I7' := I7.pinned (own' I7 n7) (T.obj _ _ st7)
      refine thnF (pg.run _ s7 _ H7 x u _ I7' r7 (step x H7 y7)) fun _ s8 ⟨σ8, H8, I8, hw8, q8⟩ => ?_
      refine thnF (pt.run _ s8 σ8 H8 _ I8 q8) fun b s9 ⟨H9, I9, q9⟩ => ?_
      have fin : ∀ {s' : Shared} {H' : Hp}, Inv (X.blk s3 H3 scope ce fp) ([] ++ pinsAt fp s7.heap) σ8 H' s' → Nx H' → ∃ m, m < n ∧ ∃ i H', Inv (X.blk s3 H3 scope ce fp) [] (wipe σ (own.map (·.2))) H' s' ∧ tn i s'.heap ∧ (∀ b ∈ fp, H' b = none) ∧ W i m H' := fun {s' H'} I' nx => by
        obtain ⟨m', hm, w'⟩ := hNx H' nx
        have pin : ∀ b ∈ fp, ∀ o, s7.heap.get? b = some o → s'.heap.get? b = some o ∧ H' b = none := fun b hb o e =>
          let z := I'.pin (b, o) (List.mem_append_right _ (List.mem_append_right _ (mem_pinsAt hb e)))
          ⟨z.1, z.2.1⟩
        refine ⟨m', hm, i + 1, H', (I'.unpinned (pins := [])).weak (by rw [← hw8, wipe_length]) (fun j v e => (wipe_some (hw8 ▸ e)).1), T.keep _ _ _ st7 fun b hb o e => (pin b hb o e).1, fun b hb => ?_, w'⟩
        obtain ⟨o, e, _⟩ := T.obj _ _ st7 b hb
        exact (pin b hb o e).2
      cases b with
      | false =>
        simp only [Bool.false_eq_true, if_false] at q9 ⊢
        exact fin I9 q9
      | true =>
        simp only [if_true] at q9 ⊢
        refine thnF (pk.run _ s9 σ8 H9 _ I9 q9) fun z s10 ⟨yk, H10, I10, r10, q10⟩ => ?_
        refine thnF (pe.run _ s10 σ8 H10 _ I10 q10) fun z2 s11 ⟨yv, H11, I11, r11, b, k, kvs, ek, hb, hD, hz, nx⟩ => ?_
        subst ek
        cases r10
        exact d_dictSetT (X := X.blk s3 H3 scope ce fp) (by show X.A.units < cLine; omega) I11 hD hz hb r11 fun s12 I12 => fin I12 nx
  exact codeAny_compStart_dict loop (T.self X.A 0 _ _ _ st4 loop)
theorem dcT_core {pins : List (Addr × Obj)} {σ : L2.St} {H : Hp} {Q : VK} {s : Shared} {pos' : Pos} {use : Option (Value → Sem Unit)} {Qf : Value → Shared → Prop} {kx vx tg iter : Expr} {ifs : List Expr} {scope : Scope} {own : List (Str × Nat)} {pos : Pos} {wi : TI} {g : TG} {tt : TT} {tk tv : TE} (hc : X.calm = true) (hu : X.A.units + 2 < cLine) (hN : X.N.Nodup) (hi : PI X tg iter wi) (ok : BlkOk X.N X.env.scope scope own)
    (hg : ∀ (s : Shared) (H : Hp) (C : Addr) (cl : List (Str × Addr)) (fp : List Addr), PG (X.blk s H scope (compEnvC scope cl C X.env) fp) tg g) (ht : ∀ (s : Shared) (H : Hp) (C : Addr) (cl : List (Str × Addr)) (fp : List Addr), PTs (X.blk s H scope (compEnvC scope cl C X.env) fp) ifs tt)
    (hk : ∀ (s : Shared) (H : Hp) (C : Addr) (cl : List (Str × Addr)) (fp : List Addr), PE (X.blk s H scope (compEnvC scope cl C X.env) fp) kx tk) (he : ∀ (s : Shared) (H : Hp) (C : Addr) (cl : List (Str × Addr)) (fp : List Addr), PE (X.blk s H scope (compEnvC scope cl C X.env) fp) vx tv) (hs : ∀ x, foldedSetIterable iter X.env x = pure x := by intro _; rfl) (I : Inv X pins σ H s) (h : tDcT wi g tt tk tv (own.map (·.2)) σ H Q)
    (ends : ∀ D C s' m H', Inv X pins σ H' s' → Q (.ref D) H' → s'.heap.Ns C m → FpOk X pins H' C → compPost (model X.prog X.w) X.A X.xe use Qf (.ref D) C (.ok .next) s') :
    wpAny (model X.prog X.w) X.A (comprehension (.DictComp kx vx [⟨tg, iter, ifs, 0⟩] scope pos) scope X.env pos' newDict false (eval iter X.env) use) Qf X.xe s := by
  have known : ∀ y ∈ scope.names, y.2 = .free → ∃ c, X.env.cells.lookup y.1 = some c := fun y hy e => I.ok.has _ (ok.free y hy e)
  refine wpAny_comprehension_free (use := use) rfl hs (closure_ok known) ok.kind (fun y hy e => by rw [ok.uniq y hy, e]) (thn (hi.run pins s σ H _ I h) fun xv s1 hx => thn hx fun itv s2 ⟨it, fp, tn, J, H2, ei, I2, T, st2, f2, q⟩ => ?_)
  subst ei
  refine wpAny_newObj_type (newEnv_comp ?_)
  have hDn : H2 s2.heap.objs.size = none := I2.hok.fresh (Nat.le_refl _)
  obtain ⟨W, ⟨m0, w0⟩, turn⟩ := q _ hDn
  have I3 : Inv X pins σ (upd H2 s2.heap.objs.size (.dT [])) { s2 with heap := s2.heap.push { cls := .type "dict", data := .dict #[] } } :=
    I2.laid (t' := s2.toks) (fun b o e => Heap.get?_push_of_some _ e) (Nat.le_refl _) (dt_empty s2.heap I2.big)
  have f3 : ∀ b ∈ fp, FpOk X pins (upd H2 s2.heap.objs.size (.dT [])) b ∧ b < (s2.heap.push { cls := .type "dict", data := .dict #[] }).objs.size := fun b hb => by
    obtain ⟨o, e, _⟩ := T.obj _ _ st2 b hb
    have lt := Heap.lt_size e
    refine ⟨⟨by rw [upd_ne (Nat.ne_of_lt lt)]; exact (f2 b hb).1, (f2 b hb).2⟩, by rw [Heap.size_push]; exact Nat.lt_succ_of_lt lt⟩
  have st3 := T.keep _ _ (s2.heap.push { cls := .type "dict", data := .dict #[] }) st2 fun b _ o e => Heap.get?_push_of_some _ e
  exact dcT_run (pos := pos) hc hu hN ok hg ht hk he (ends _) T I3 f3 st3 w0 turn
theorem pe_dcT {kx vx tg iter : Expr} {ifs : List Expr} {scope : Scope} {own : List (Str × Nat)} {pos : Pos} {wi : TI} {g : TG} {tt : TT} {tk tv : TE} (hc : X.calm = true) (hu : X.A.units + 2 < cLine) (hN : X.N.Nodup) (hi : PI X tg iter wi) (ok : BlkOk X.N X.env.scope scope own)
    (hg : ∀ (s : Shared) (H : Hp) (C : Addr) (cl : List (Str × Addr)) (fp : List Addr), PG (X.blk s H scope (compEnvC scope cl C X.env) fp) tg g) (ht : ∀ (s : Shared) (H : Hp) (C : Addr) (cl : List (Str × Addr)) (fp : List Addr), PTs (X.blk s H scope (compEnvC scope cl C X.env) fp) ifs tt)
    (hk : ∀ (s : Shared) (H : Hp) (C : Addr) (cl : List (Str × Addr)) (fp : List Addr), PE (X.blk s H scope (compEnvC scope cl C X.env) fp) kx tk) (he : ∀ (s : Shared) (H : Hp) (C : Addr) (cl : List (Str × Addr)) (fp : List Addr), PE (X.blk s H scope (compEnvC scope cl C X.env) fp) vx tv) (hs : ∀ x, foldedSetIterable iter X.env x = pure x := by intro _; rfl) :
    PE X (.DictComp kx vx [⟨tg, iter, ifs, 0⟩] scope pos) (tDcT wi g tt tk tv (own.map (·.2))) := by
  refine ⟨fun pins s σ H Q I h => ?_⟩
  rw [arm_eval_DictComp]
  refine dcT_core hc hu hN hi ok hg ht hk he hs I h fun D C s' m H' I' q hn ⟨f0, f1, f2, f3, f4, f5⟩ => ⟨m, hn, fun h'' sb => ⟨.ref D, H', I'.turned (t' := s'.toks) (fun b o hb e => (sb.2 b hb).trans e) f0 f1 f3 f4 f5, rfl, q⟩⟩
/-- name = {..} on one line, the name a local -/
theorem ps_setDcT {i : Nat} {y : Str} {py spos : Pos} {kx vx tg iter : Expr} {ifs : List Expr} {scope : Scope} {own : List (Str × Nat)} {pos : Pos} {wi : TI} {g : TG} {tt : TT} {tk tv : TE} (hy : X.N[i]? = some y) (hyl : X.env.scope.names.lookup y = some .local) (hsw : swapsWith (.DictComp kx vx [⟨tg, iter, ifs, 0⟩] scope pos) (some (.Name y py)) spos.line X.env = pure true) (hc : X.calm = true) (hu : X.A.units + 2 < cLine) (hN : X.N.Nodup) (hi : PI X tg iter wi) (ok : BlkOk X.N X.env.scope scope own)
    (hg : ∀ (s : Shared) (H : Hp) (C : Addr) (cl : List (Str × Addr)) (fp : List Addr), PG (X.blk s H scope (compEnvC scope cl C X.env) fp) tg g) (ht : ∀ (s : Shared) (H : Hp) (C : Addr) (cl : List (Str × Addr)) (fp : List Addr), PTs (X.blk s H scope (compEnvC scope cl C X.env) fp) ifs tt)
    (hk : ∀ (s : Shared) (H : Hp) (C : Addr) (cl : List (Str × Addr)) (fp : List Addr), PE (X.blk s H scope (compEnvC scope cl C X.env) fp) kx tk) (he : ∀ (s : Shared) (H : Hp) (C : Addr) (cl : List (Str × Addr)) (fp : List Addr), PE (X.blk s H scope (compEnvC scope cl C X.env) fp) vx tv) (hs : ∀ x, foldedSetIterable iter X.env x = pure x := by intro _; rfl) :
    PS X (.Assign [.Name y py] (.DictComp kx vx [⟨tg, iter, ifs, 0⟩] scope pos) spos) (tAsg (tDcT wi g tt tk tv (own.map (·.2))) (gName i)) := by
  refine ⟨fun pins s σ H D I h => ?_⟩
  rw [exec_Assign_Name_used _ _ _ _ hsw]
  refine wpAny_bind (wpAny_standAt (wpAny_bind ?_))
  have h' : tDcT wi g tt tk tv (own.map (·.2)) σ H (fun x H1 => gName i x σ H1 D.nx) := h
  refine wpAny_bind (thn (dcT_core (Qf := fun _ s' => SP X pins D .next s') (use := some (assign (.Name y py) X.env)) hc hu hN hi ok hg ht hk he hs I h' fun L C s' m H' I' q hn ⟨f0, f1, f2, f3, f4, f5⟩ => ?_) fun _ s' hq => wpAny_pure (wpAny_pure hq))
  refine wpAny_assign_Name (store_ok2 (v := V.ref L) I' hN hy (.inl hyl) rfl (fun s2 I2 ⟨a, sb, ha⟩ => ?_) (.inr hyl))
  have aC : C ≠ a := ha.elim (fun z => by rw [z]; exact f1) fun z e => f4 y a z e.symm
  exact ⟨m, hn.sameBut sb aC, fun h3 sb3 => ⟨_, H', I2.turned (t' := s2.toks) (fun b o hb e => (sb3.2 b hb).trans e) f0 f1 f3 f4 f5, q⟩⟩
end
theorem swD_true {kx vx : Expr} {gs : List Comprehension} {scope : Scope} {pos py : Pos} {y : Str} {l : Nat} {env : Env} (hk : env.scope.kind = .function) (hy : env.scope.names.lookup y = some .local) (hl : (py.line == pos.line) = true)
    (ha : (scope.names.any fun (n, k) => n == y && (k == .local || k == .cell)) = false) : swapsWith (.DictComp kx vx gs scope pos) (some (.Name y py)) l env = pure true := by
  have k1 : env.kindOf y = some .local := hy
  have k2 : env.blockKind = .function := by unfold Env.blockKind; rw [hk]; rfl
  unfold swapsWith
  simp only [k2, k1, ha, Expr.pos, hl]
  rfl
theorem s_dcT {wi : TI} {g : TG} {tt : TT} {tk tv : TE} {vs : List Nat} {σ : L2.St} {H : Hp} {Q : VK} (h : wi σ H fun J H1 => ∀ D, H1 D = none → ∃ W : Nat → Nat → Hp → Prop, (∃ m, W 0 m (upd H1 D (.dT []))) ∧ ∀ i m H, W i m H →
    (J.stop i H ∧ Q (.ref D) H) ∨ (J.go i H ∧ ∃ Nx : Hp → Prop, (∀ H', Nx H' → ∃ m', m' < m ∧ W (i + 1) m' H') ∧ ∀ x H', J.yld i H x H' → g x (wipe σ vs) H' fun σ2 H2 => wipe σ2 vs = wipe σ vs ∧ tt σ2 H2 fun b H3 =>
      if b = true then tk σ2 H3 fun y H4 => tv σ2 H4 fun z H5 => putT D y z H5 Nx else Nx H3)) : tDcT wi g tt tk tv vs σ H Q := h
theorem dc_listT {K : PySem.W.Frag} {a : Addr} {xs : List V} {g : TG} {tt : TT} {tk tv : TE} {vs : List Nat} {σ : L2.St} {H1 : Hp} {D : Addr} {Qd : Hp → Prop} (Pv : Nat → Hp → Prop) (h0 : Pv 0 (upd H1 D (.dT []))) (hl : ∀ i H, i ≤ xs.length → Pv i H → SqL K H a xs)
    (hs : ∀ i x H, xs[i]? = some x → Pv i H → g x (wipe σ vs) H fun σ2 H2 => wipe σ2 vs = wipe σ vs ∧ tt σ2 H2 fun b H3 => if b = true then tk σ2 H3 fun y H4 => tv σ2 H4 fun z H5 => putT D y z H5 (Pv (i + 1)) else Pv (i + 1) H3) (hd : ∀ H, Pv xs.length H → Qd H) :
    ∃ W : Nat → Nat → Hp → Prop, (∃ m, W 0 m (upd H1 D (.dT []))) ∧ ∀ i m H, W i m H →
      ((Itl K a).stop i H ∧ Qd H) ∨ ((Itl K a).go i H ∧ ∃ Nx : Hp → Prop, (∀ H', Nx H' → ∃ m', m' < m ∧ W (i + 1) m' H') ∧ ∀ x H', (Itl K a).yld i H x H' → g x (wipe σ vs) H' fun σ2 H2 => wipe σ2 vs = wipe σ vs ∧ tt σ2 H2 fun b H3 =>
        if b = true then tk σ2 H3 fun y H4 => tv σ2 H4 fun z H5 => putT D y z H5 Nx else Nx H3) := by
  refine ⟨fun i m H => m = xs.length - i ∧ i ≤ xs.length ∧ Pv i H, ⟨xs.length, by simp, Nat.zero_le _, h0⟩, ?_⟩
  rintro i m H ⟨rfl, hi, p⟩
  have q := hl i H hi p
  by_cases hlt : i < xs.length
  · refine .inr ⟨⟨xs, xs[i], q, by simp [hlt]⟩, Pv (i + 1), fun H' p' => ⟨xs.length - (i + 1), by omega, rfl, hlt, p'⟩, fun x H' y => ?_⟩
    obtain ⟨rfl, y⟩ := y
    exact hs i x _ (y xs q) p
  · have e : i = xs.length := by omega
    subst e
    exact .inl ⟨⟨xs, q, Nat.le_refl _⟩, hd H p⟩
end DT
end Bt
namespace PySem.W
open PySem PySem.Calls PyProof.Rows
/-! ### sorted(o), o walked by a source: its items in a new list, list.sort -/
section
variable {prog : Program} {w : World} {A : Around} {E : Value → Shared → Prop} {s : Shared} {T : String} {r d : Addr} {n : Nat} {P : Nat → Value → Prop} {OK : Heap → Prop} {Q : Value → Shared → Prop} {β : Type} {enc : β → PyData} {R : Value → β → Prop} {bs : List β}
theorem sorted_src (K : KdlSrc prog w T r d n P OK) (hh : A.handled = none) (hok : OK s.heap) (hn : n ≤ sizeLine) (hb : bs.length = n) (hal : AllAlike (bs.map enc)) (hk : Sortable (bs.map enc)) (hu : ∀ b, b ∈ bs → A.units + 2 + (enc b).depth < cLine)
    (he : ∀ vs : List Value, vs.length = n → (∀ (j : Nat) (v : Value), vs[j]? = some v → P j v) → EachIs R vs bs ∧ EachIs (fun v b => ∃ as, Reads s.heap v (enc b) as) vs bs)
    (h : ∀ (hp : Heap) (tk : Nat) (out : List Value) (B : Addr), (∀ b o, s.heap.get? b = some o → hp.get? b = some o) → s.heap.get? B = none → (∃ ep, hp.get? B = some (seqObj "list" (List.toArray out) ep)) → EachIs R out (bs.mergeSort (dataLe false enc)) → Q (.ref B) { s with heap := hp, toks := tk }) :
    wpAny (model prog w) A (call (.builtin "sorted") [.ref r]) Q E s := by
  refine call_function_entry kind_sorted plain_sorted entry_sorted (args_sorted1 _) ?_
  unfold Builtin.«sorted»
  refine wpAny_bind (m := checkCount "sorted" 1 1 _) (wpAny_pure (wpAny_bind (kdu_collect (A := A.in1) K hh hok hn fun h' tk acc hk' hacc => ?_)))
  obtain ⟨vs, evs⟩ : ∃ vs, vs = acc.toList := ⟨_, rfl⟩
  have hl : vs.length = n := by rw [evs, Array.length_toList]; exact hacc.1
  obtain ⟨e1, e2⟩ := he vs hl fun j v e => hacc.2 j v (by rw [← Array.getElem?_toList, ← evs]; exact e)
  rw [← evs]
  refine wpAny_bind (wpAny_newList ?_ (by omega))
  generalize hB : h'.objs.size = B
  have nB : s.heap.get? B = none := by
    cases q : s.heap.get? B with
    | none => rfl
    | some o => exact absurd (Heap.lt_size (hk' _ _ q)) (by rw [hB]; exact Nat.lt_irrefl _)
  have atB : (h'.push (seqObj "list" vs.toArray 0)).get? B = some (seqObj "list" vs.toArray 0) := by rw [← hB]; exact Heap.get?_push_size _ rfl
  have old : ∀ b o, s.heap.get? b = some o → (h'.push (seqObj "list" vs.toArray 0)).get? b = some o := fun b o q => Heap.get?_push_of_some _ (hk' b o q)
  have neB : ∀ b o, s.heap.get? b = some o → b ≠ B := fun b o q z => by rw [z, nB] at q; cases q
  show wpAny (model prog w) A.in1 (holding [Value.ref B] (call (.builtin "list.sort") [.ref B] []) >>= fun _ => ret (Value.ref B)) _ E { s with heap := h'.push (seqObj "list" vs.toArray 0), toks := tk }
  have e3 : EachIs (fun v b => ∃ as, Reads (sortingHeap (h'.push (seqObj "list" vs.toArray 0)) B vs) v (enc b) as) vs bs := e2.mono fun _ _ ⟨as, r⟩ => ⟨as, PyProof.Rows.Reads.keeps (fun b o q => sortingHeap_old (neB b o q) (old b o q)) r⟩
  have so : SortsAt prog w A.in1.in1 { s with heap := sortingHeap (h'.push (seqObj "list" vs.toArray 0)) B vs, toks := tk } (dataKind (sortingHeap (h'.push (seqObj "list" vs.toArray 0)) B vs) (bs.map enc)) vs :=
    SortsAt.data (s := { s with heap := sortingHeap (h'.push (seqObj "list" vs.toArray 0)) B vs, toks := tk }) (each_map (R := fun v d => ∃ as, Reads (sortingHeap (h'.push (seqObj "list" vs.toArray 0)) B vs) v d as) enc e3) hal hk (bound_map hu)
  refine wpAny_bind (wpAny_holding (wpAny_call_entry slot_list_sort ⟨_, atB, rfl⟩ entry_list_sort ?_ (args_list_sort _)))
  refine list_sort_vals (s := { s with heap := h'.push (seqObj "list" vs.toArray 0), toks := tk }) atB so (by omega) ?_
  refine ⟨_, rfl, wpAny_pure ⟨_, rfl, h _ tk _ B (fun b o q => ?_) nB ?_ (sortVals_data false e1 e3 hal)⟩⟩
  · have lt := Heap.lt_size (old b o q)
    rw [sortedHeap_old (neB b o q) lt]
    exact old b o q
  · exact sortedHeap_at atB
end
end PySem.W

namespace Bt
namespace DT
open PySem PySem.Spec PyProof.Rows L2
open PySem.W (dataLe alike AllAlike Sortable EachIs)
/-! ### sorted(d), the keys of d tuples of texts and ints -/
def kD : Key → PyData
  | .inl i => .int i
  | .inr x => .str x
/-- a key as data -/
def keyD (k : List Key) : PyData := .tuple (k.map kD)
theorem dp_keys {K : PySem.W.Frag} {H : Hp} : ∀ k : List Key, DpAll K H (k.map kV) (k.map kD)
  | [] => .nil
  | .inl i :: k => .cons (.int i) (dp_keys k)
  | .inr x :: k => .cons (.str x) (dp_keys k)
theorem dp_key {K : PySem.W.Frag} {H : Hp} {b : Addr} {k : List Key} (h : H b = some (.tup (k.map kV))) : Dp K H (.ref b) (keyD k) := .tup (SqT.of h) (dp_keys k)
theorem ObjOk.there {P : Program} {w : World} {H : Hp} {h : Heap} {a : Addr} {o : HO} (x : ObjOk P w H h a o) : ∃ q, h.get? a = some q := by
  cases o with
  | lst xs => obtain ⟨_, _, _, _, e⟩ := x; exact ⟨_, e⟩
  | tup xs => obtain ⟨_, _, _, ob, e, _⟩ := x; exact ⟨ob, e⟩
  | dK kvs => obtain ⟨_, _, _, _, o, _, _, e, _⟩ := x; exact ⟨_, e⟩
  | dT kvs => obtain ⟨_, _, _, _, o, _, _, e, _⟩ := x; exact ⟨_, e⟩
  | set S n => obtain ⟨o, _, _, _, e, _⟩ := x; exact ⟨_, e⟩
  | ins C dx fs => obtain ⟨_, _, _, e, _⟩ := x; exact ⟨_, e⟩
  | own y => exact x
  | xd fs => obtain ⟨_, ⟨_, _, _, e, _⟩, _⟩ := x; exact ⟨_, e⟩
  | rng lo hi => obtain ⟨_, _, _, e⟩ := x; exact ⟨_, e⟩
  | frz ob u => obtain ⟨e, _⟩ := x; exact ⟨_, e⟩
  | tbl ps => exact ⟨_, show h.get? a = some _ from x⟩
  | met f y => exact ⟨_, show h.get? a = some _ from x⟩
  | ext φ => exact x.2.1
abbrev KA : Type := Addr × List Key
def kaLe : KA → KA → Bool := dataLe false (fun z : KA => keyD z.2)
def rSortKT (K : PySem.W.Frag) : List V → Hp → VK → Prop := fun vs H Q => ∃ (a : Addr) (kvs : List (List Key × V)), vs = [V.ref a] ∧ H a = some (.dT kvs) ∧ (∀ p ∈ kvs, (keyD p.1).depth ≤ 60) ∧ AllAlike (kvs.map fun p => keyD p.1) ∧ Sortable (kvs.map fun p => keyD p.1) ∧
  ∀ (zs : List KA) (p : Addr), zs.map (·.2) = kvs.map (·.1) → (∀ z ∈ zs, H z.1 = some (.tup (z.2.map kV))) → H p = none → Q (.ref p) (upd H p (.lst ((zs.mergeSort kaLe).map fun z => .ref z.1)))
theorem keys_of {H : Hp} : ∀ {kvs : List (List Key × V)} {xs : List (List Key × Addr × Value)}, KT H kvs xs → ∃ zs : List KA, zs.map (·.2) = kvs.map (·.1) ∧ zs.map (·.1) = xs.map (·.2.1) ∧ ∀ z ∈ zs, H z.1 = some (.tup (z.2.map kV))
  | _, _, .nil => ⟨[], rfl, rfl, fun _ h => by cases h⟩
  | p :: _, q :: _, .cons h t => by
    obtain ⟨zs, e1, e2, e3⟩ := keys_of t
    refine ⟨(q.2.1, p.1) :: zs, by rw [List.map_cons, e1, List.map_cons], by rw [List.map_cons, e2, List.map_cons], fun z m => ?_⟩
    rcases List.mem_cons.mp m with rfl | m
    · exact h.2.1
    · exact e3 z m
theorem each_refs : ∀ {vs : List Value} {zs : List KA}, vs.length = zs.length → (∀ (j : Nat) (v : Value), vs[j]? = some v → ∃ z, zs[j]? = some z ∧ v = .ref z.1) → EachIs (fun v (z : KA) => v = .ref z.1) vs zs
  | [], [], _, _ => .nil
  | [], _ :: _, h, _ => by simp at h
  | _ :: _, [], h, _ => by simp at h
  | v :: vs, z :: zs, h, k => by
    obtain ⟨z', e, ev⟩ := k 0 v rfl
    cases Option.some.inj e
    exact .cons ev (each_refs (by simpa using h) fun j u hu => by simpa using k (j + 1) u (by simpa using hu))
theorem each_read {X : Cx} {pins : List (Addr × Obj)} {σ : L2.St} {H : Hp} {s : Shared} (I : Inv X pins σ H s) : ∀ {vs : List Value} {zs : List KA}, EachIs (fun v (z : KA) => v = .ref z.1) vs zs → (∀ z ∈ zs, H z.1 = some (.tup (z.2.map kV))) → EachIs (fun v (z : KA) => ∃ as, Reads s.heap v (keyD z.2) as) vs zs
  | [], [], _, _ => .nil
  | v :: vs, z :: zs, .cons e r, h => by
    subst e
    exact .cons (Dp.reads I (keyD z.2) (.ref z.1) _ (dp_key (K := X.K) (h z List.mem_cons_self)) rfl) (each_read I r fun y m => h y (List.mem_cons_of_mem _ m))
theorem refs_vals : ∀ {vs : List Value} {zs : List KA}, EachIs (fun v (z : KA) => v = .ref z.1) vs zs → Vals (zs.map fun z => V.ref z.1) vs
  | [], [], _ => .nil
  | _ :: _, _ :: _, .cons e r => .cons (by subst e; rfl) (refs_vals r)
theorem cr_sortKT {X : Cx} (hc : X.calm = true) (hu : X.A.units + 64 < cLine) : CallR X (.builtin "sorted") (rSortKT X.K) := by
  intro pins s σ H vs us Q I r h
  obtain ⟨a, kvs, rfl, ha, hd, al, sk, q⟩ := h
  rw [Vals.ref1 r]
  obtain ⟨hz, lo, xs, rel, hdo⟩ := dt_of I.hok ha
  obtain ⟨es, ep, raw, hes, hent⟩ := hdo.raw
  obtain ⟨zs, e1, e2, e3⟩ := keys_of rel
  have lk : kvs.length = xs.length := Paired.length rel
  have lz : zs.length = xs.length := by have := congrArg List.length e2; rwa [List.length_map, List.length_map] at this
  have em : (zs.map fun z => keyD z.2) = kvs.map fun p => keyD p.1 := by
    rw [show (zs.map fun z => keyD z.2) = (zs.map (·.2)).map keyD by rw [List.map_map]; rfl, e1, List.map_map]
    rfl
  refine PySem.W.sorted_src (bs := zs) (enc := fun z : KA => keyD z.2) (R := fun v (z : KA) => v = .ref z.1) (PySem.KdlSrc.rawDict (es := es) (ep := ep) lo) (I.ok.hd hc) raw (by omega) (by omega) (by rw [em]; exact al) (by rw [em]; exact sk) (fun z mz => ?_) (fun vs hl hp => ?_) fun hp tk out B hk nB hB he => ?_
  · have : keyD z.2 ∈ kvs.map fun p => keyD p.1 := by rw [← em]; exact List.mem_map.mpr ⟨z, mz, rfl⟩
    obtain ⟨p, mp, ep⟩ := List.mem_map.mp this
    have := hd p mp
    rw [ep] at this
    show X.A.units + 2 + (keyD z.2).depth < cLine
    omega
  · have ei : EachIs (fun v (z : KA) => v = .ref z.1) vs zs := each_refs (by omega) fun j v hv => by
      obtain ⟨hj, ev⟩ := hp j v hv
      obtain ⟨y, w1, w2, _, _⟩ := hent j hj
      have : (zs.map (·.1))[j]? = some y.2.1 := by rw [e2, List.getElem?_map, w1]; rfl
      rw [List.getElem?_map] at this
      obtain ⟨z, hz', ez⟩ := Option.map_eq_some_iff.mp this
      exact ⟨z, hz', by rw [ev, w2, ez]⟩
    exact ⟨ei, each_read I ei e3⟩
  · obtain ⟨ep', hB⟩ := hB
    have nH : H B = none := by
      cases e : H B with
      | none => rfl
      | some u =>
        obtain ⟨o, ho⟩ := ObjOk.there (I.hok B u e)
        rw [nB] at ho
        cases ho
    refine ⟨.ref B, _, lay_new I hk (Same.new nH) (fun b o eb => upd_ne fun z => by rw [z, nB] at eb; cases eb) fun b u hb hu => ?_, rfl, q zs B e1 e3 nH⟩
    by_cases z : b = B
    · subst z
      rw [upd_same] at hu
      cases hu
      refine ⟨?_, out, ep', refs_vals he, hB⟩
      rw [List.length_map, List.length_mergeSort]
      omega
    · rw [upd_ne z, hb] at hu
      cases hu
theorem q_sortKT {K : PySem.W.Frag} {H : Hp} {Q : VK} {a : Addr} {kvs : List (List Key × V)} (ha : H a = some (.dT kvs)) (hd : ∀ p ∈ kvs, (keyD p.1).depth ≤ 60) (al : AllAlike (kvs.map fun p => keyD p.1)) (sk : Sortable (kvs.map fun p => keyD p.1))
    (q : ∀ (zs : List KA) (p : Addr) (H' : Hp), zs.map (·.2) = kvs.map (·.1) → (∀ z ∈ zs, H z.1 = some (.tup (z.2.map kV))) → H p = none → Same H H' → H' p = some (.lst ((zs.mergeSort kaLe).map fun z => .ref z.1)) → Q (.ref p) H') : rSortKT K [.ref a] H Q :=
  ⟨a, kvs, rfl, ha, hd, al, sk, fun zs p e1 e2 n => q zs p _ e1 e2 n (Same.new n) upd_same⟩
end DT
end Bt
namespace Bt
namespace ST
open PySem PySem.Spec PyProof.Rows L2
/-! ### set(xs), the items tuples of texts -/
section
variable {P : Program} {w : World} {A : Around} {E : Value → Shared → Prop} {s : Shared}
theorem IsK.keep {h h' : Heap} {k : List Key} {b : Addr} (x : IsK P w h k b) (kp : ∀ c o, h.get? c = some o → h'.get? c = some o) : IsK P w h' k b := let ⟨o, items, n, ho, r⟩ := x; ⟨o, items, n, kp b o ho, r⟩
theorem TS.keep {h h' : Heap} {a : Addr} {L : List (Addr × List Key)} {es : Array (Int × Value)} {ep : Nat} {t : SetTable} (R : TS P w h a L es ep t) (ha : ∀ o, h.get? a = some o → h'.get? a = some o) (hm : ∀ p ∈ L, IsK P w h' p.2 p.1) : TS P w h' a L es ep t :=
  ⟨let ⟨o, ho, r⟩ := R.ob; ⟨o, ha o ho, r⟩, R.rows, R.tab, R.nd, hm, R.room, R.few⟩
/-- the members behind i items -/
structure Seen (ks : List (Addr × List Key)) (i : Nat) (L : List (Addr × List Key)) : Prop where
  sub : ∀ q ∈ L, q ∈ ks.take i
  all : ∀ q ∈ ks.take i, q.2 ∈ L.map (·.2)
  len : L.length ≤ i
  nd : L.length = i ↔ ((ks.take i).map (·.2)).Nodup
theorem Seen.old {ks L : List (Addr × List Key)} {i : Nat} {x : Addr × List Key} (g : Seen ks i L) (hx : ks[i]? = some x) (hm : x.2 ∈ L.map (·.2)) : Seen ks (i + 1) L := by
  have tk : ks.take (i + 1) = ks.take i ++ [x] := by rw [List.take_add_one, hx]; rfl
  refine ⟨fun p hp => by rw [tk]; exact List.mem_append_left _ (g.sub p hp), fun p hp => ?_, Nat.le_succ_of_le g.len, ⟨fun e => absurd g.len (by omega), fun n => ?_⟩⟩
  rw [tk, List.mem_append, List.mem_singleton] at hp
  rcases hp with hp | rfl
  · exact g.all p hp
  · exact hm
  · rw [tk, List.map_append] at n
    obtain ⟨p, mp, ep⟩ := List.mem_map.mp hm
    exact absurd rfl ((List.nodup_append.mp n).2.2 p.2 (List.mem_map.mpr ⟨p, g.sub p mp, rfl⟩) x.2 (by simp) |> fun z => ep ▸ z)
theorem Seen.new {ks L L' : List (Addr × List Key)} {i : Nat} {x : Addr × List Key} (g : Seen ks i L) (hx : ks[i]? = some x) (hm : x.2 ∉ L.map (·.2)) (pm : L'.Perm (x :: L)) : Seen ks (i + 1) L' := by
  have tk : ks.take (i + 1) = ks.take i ++ [x] := by rw [List.take_add_one, hx]; rfl
  refine ⟨fun p hp => ?_, fun p hp => ?_, by rw [pm.length_eq]; exact Nat.succ_le_succ g.len, ?_⟩
  · rw [tk, List.mem_append, List.mem_singleton]
    rcases List.mem_cons.mp (pm.mem_iff.mp hp) with e | hp
    · exact .inr e
    · exact .inl (g.sub p hp)
  · rw [(pm.map (·.2)).mem_iff, List.map_cons, List.mem_cons]
    rw [tk, List.mem_append, List.mem_singleton] at hp
    rcases hp with hp | rfl
    · exact .inr (g.all p hp)
    · exact .inl rfl
  · rw [pm.length_eq, List.length_cons, tk, List.map_append, List.nodup_append, ← g.nd]
    refine ⟨fun e => ⟨by omega, by simp, fun a ha b hb e => ?_⟩, fun e => by omega⟩
    obtain ⟨p, mp, rfl⟩ := List.mem_map.mp ha
    rw [List.map_singleton, List.mem_singleton] at hb
    rw [hb] at e
    exact hm (e ▸ g.all p mp)
theorem upd_keys {it : Addr} {fp wr : List Addr} {G : Array GenState → Array GenState → Prop} {n : Nat} {Pv : Nat → Value → Prop} {St : Nat → Shared → Prop} {R : Result → Shared → Prop} (W : WalksS P w A.in1 it fp wr G n Pv St) (D : Addr) (nD : D ∉ fp)
    (ks : List (Addr × List Key)) (en : n = ks.length) (few : ks.length < 64) (val : ∀ i v, Pv i v → ∃ p, ks[i]? = some p ∧ v = .ref p.1) (h0 : Heap) (hk0 : ∀ p ∈ ks, IsK P w h0 p.2 p.1) (hD0 : h0.get? D = none) (hw0 : ∀ b ∈ wr, h0.get? b = none) (hu : A.in1.units < cLine) :
    ∀ (m i : Nat) (s : Shared), n - i = m → i ≤ n → St i s → (∀ b o, h0.get? b = some o → s.heap.get? b = some o) → (∃ L es ep t, TS P w s.heap D L es ep t ∧ Seen ks i L) →
      (∀ s' L es ep t, Moved (D :: wr) G s s' → TS P w s'.heap D L es ep t → Seen ks n L → (∀ b o, h0.get? b = some o → s'.heap.get? b = some o) → R (.ok (.ret .none)) s') → codeAny (model P w) A (.builtin "set.update.loop" ⟨[.ref D, .ref it], []⟩) R s := by
  have nDw : D ∉ wr := fun z => nD (W.sub _ z)
  have kpM : ∀ {u u' : Shared}, Moved wr G u u' → (∀ b o, h0.get? b = some o → u.heap.get? b = some o) → ∀ b o, h0.get? b = some o → u'.heap.get? b = some o := fun mv kp b o e => mv.heap b o (fun z => by rw [hw0 b z] at e; cases e) (kp b o e)
  have up : ∀ b ∈ wr, b ∈ D :: wr := fun b z => List.mem_cons_of_mem _ z
  intro m
  induction m with
  | zero =>
    rintro i s hm hi st kp ⟨L, es, ep, t, hT, g⟩ hR
    obtain rfl : i = n := by omega
    refine codeAny_builtin (b := Builtin.«set.update.loop») F.entry_set_update_loop ?_; rw [Around.under_plainId F.plain_set_update_loop _]
    refine wpAny_bind (m := pyNext (.ref it)) (W.done s _ _ st fun s' mv => ?_)
    have kp' := kpM mv kp
    exact wpAny_pure (hR s' L es ep t (mv.mono up) (hT.keep (fun o e => mv.heap D o nDw e) fun p hp => IsK.keep (hk0 p (List.mem_of_mem_take (g.sub p hp))) kp') g kp')
  | succ m ih =>
    rintro i s hm hi st kp ⟨L, es, ep, t, hT, g⟩ hR
    have lt : i < n := by omega
    refine codeAny_builtin (b := Builtin.«set.update.loop») F.entry_set_update_loop ?_; rw [Around.under_plainId F.plain_set_update_loop _]
    refine wpAny_bind (m := pyNext (.ref it)) (W.item i s _ _ lt st fun v s' pv st' mv => ?_)
    obtain ⟨p, hp, rfl⟩ := val i v pv
    have kp' := kpM mv kp
    have hT' : TS P w s'.heap D L es ep t := hT.keep (fun o e => mv.heap D o nDw e) fun q hq => IsK.keep (hk0 q (List.mem_of_mem_take (g.sub q hq))) kp'
    have hx : IsK P w s'.heap p.2 p.1 := IsK.keep (hk0 p (List.mem_of_getElem? hp)) kp'
    refine wpAny_bind (m := holding [Value.ref p.1] (setAdd D (.ref p.1))) (wpAny_holding ?_)
    unfold setAdd
    refine wpAny_holding (wpAny_bind ((tupleKind (mixKind P w)).pyHash (k := p.2) hu hx ?_))
    refine put_in (s := { s' with toks := s'.toks + (tupleKind (mixKind P w)).draws p.2 }) hT' hx hu (by have := g.len; omega) fun b h' L' es' ep' t' sb hT2 c1 c2 => ?_
    have g' : Seen ks (i + 1) L' := (Classical.em (p.2 ∈ L.map (·.2))).elim (fun c => by rw [c1 c]; exact g.old hp c) fun c => g.new hp c (c2 c)
    have kp2 : ∀ b o, h0.get? b = some o → h'.get? b = some o := fun b o e => (sb.2 b fun z => by rw [z, hD0] at e; cases e).trans (kp' b o e)
    refine wpAny_pure ⟨plainId_quiet F.plain_set_update_loop _, ih (i + 1) _ (by omega) lt (W.frame _ s' _ _ st' (Nat.le_add_right _ _) fun b hb o e => (sb.2 b fun z => nD (z ▸ hb)).trans e) kp2 ⟨L', es', ep', t', hT2, g'⟩ fun s'' L2 es2 ep2 t2 mv2 hT3 g2 kp3 => ?_⟩
    exact hR s'' L2 es2 ep2 t2 (Moved.trans W.gtrans ((mv.mono up).then_heap (Nat.le_add_right _ _) fun b o hb e => (sb.2 b fun z => hb (z ▸ List.mem_cons_self)).trans e) mv2) hT3 g2 kp3
theorem newSet {h : Heap} (ho : h.get? s.heap.objs.size = some { cls := .type "set", dict := none, data := .set #[] 0 (.fresh 0 0 (!w.params.followText "set-order")) }) : TS P w h s.heap.objs.size [] #[] 0 (.fresh 0 0 (!w.params.followText "set-order")) where
  ob := ⟨_, ho, ⟨rfl, rfl, rfl⟩, rfl⟩
  rows := rfl
  tab := ⟨.nil, rfl, rfl, .inl rfl, (fun _ z => by cases z), fun i h j hi => by simp at hi⟩
  nd := .nil
  mem := fun _ z => by cases z
  room := by show 0 * 5 < 7 * 3; decide
  few := by show 0 < 64; decide
theorem set_of_list {l : Addr} {its : Array Value} (ks : List (Addr × List Key)) {Q : Value → Shared → Prop} (hh : A.handled = none) (hl : s.heap.IsList l its) (ei : its.toList = ks.map fun p => Value.ref p.1) (hk : ∀ p ∈ ks, IsK P w s.heap p.2 p.1) (few : ks.length < 64) (hu : A.units + 3 < cLine)
    (h : ∀ (h' : Heap) (tk : Nat) L es ep t, TS P w h' s.heap.objs.size L es ep t → Seen ks ks.length L → (∀ b o, s.heap.get? b = some o → h'.get? b = some o) → Q (.ref s.heap.objs.size) { s with heap := h', toks := tk }) : wpAny (model P w) A (call (.type "set") [.ref l]) Q E s := by
  have hz : its.size = ks.length := by rw [← Array.length_toList, ei, List.length_map]
  obtain ⟨c, tl, hmro⟩ := F.called_set.mro
  have f1 := F.called_set.made; have f2 := F.called_set.sub; have f3 := F.called_set.notType; have f4 := F.called_set.canCreate
  have f5 := F.typeCall_set_1 (.ref l)
  refine wpAny_call (codeAny_of_tree (show wpAny _ _ (callAny (.type "set") _) _ _ _ from wpAny_pure ⟨Code.quiet_builtin _ (by decide +kernel), codeAny_builtin F.entry_type_call ?_⟩))
  rw [Around.under_plain (weight_type_call_type "set" [.ref l] []) rfl]
  repeat (any_goals (first | assumption | wp_step))
  obtain ⟨N, eN⟩ : ∃ N : Heap, N = s.heap.push { cls := .type "set", dict := none, data := .set #[] 0 (.fresh 0 0 (!w.params.followText "set-order")) } := ⟨_, rfl⟩
  have zN : N.objs.size = s.heap.objs.size + 1 := by rw [eN]; exact Heap.size_push ..
  have oN : ∀ b o, s.heap.get? b = some o → N.get? b = some o := fun b o e => by rw [eN]; exact Heap.get?_push_of_some _ e
  have hD : N.get? s.heap.objs.size = some { cls := .type "set", dict := none, data := .set #[] 0 (.fresh 0 0 (!w.params.followText "set-order")) } := by rw [eN]; exact Heap.get?_push_size _ rfl
  have gone : ∀ b, s.heap.objs.size ≤ b → s.heap.get? b = none := fun b hb => by
    cases e : s.heap.get? b with
    | none => rfl
    | some o => exact absurd (Heap.lt_size e) (Nat.not_lt.mpr hb)
  refine codeAny_mono (code_set_led1 (.ref l) (E := E) (Q₁ := fun obj s₁ => obj = .ref s.heap.objs.size ∧ s₁ = { s with heap := N }) (by rw [eN]; exact ⟨rfl, rfl⟩)) fun r s1 hr => ?_
  rcases r with e | fl
  · exact hr
  cases fl with
  | next => exact hr.elim
  | brk => exact hr.elim
  | cont => exact hr.elim
  | ret obj =>
  obtain ⟨rfl, rfl⟩ := hr
  have ty : Shared.TypeIs { s with heap := N } (.ref s.heap.objs.size) "set" := ⟨_, hD, rfl⟩
  have g1 := F.called_set.init.lookup; have g2 := F.called_set.init.bind (.ref s.heap.objs.size)
  repeat (any_goals (first | assumption | wp_step))
  refine codeAny_mono (codeAny_call_builtin (R := wants (fun r s₂ => r = .none ∧ ∃ h' tk L es ep t, s₂ = { s with heap := h', toks := tk } ∧ TS P w h' s.heap.objs.size L es ep t ∧ Seen ks ks.length L ∧ ∀ b o, s.heap.get? b = some o → h'.get? b = some o) E) F.called_set.init.plain F.entry_set_init (check_set_init_1 ty ?_)) fun r s2 hr => ?_
  · obtain ⟨⟨cl, od, da, sl⟩, ho, ec, nl, ed⟩ := hl
    simp only at ec ed
    subst ec ed
    have ho1 := oN _ _ ho
    have q1 := F.sub_list_set; have q2 := F.sub_list_frozenset; have q3 : (Value.type "list" == Value.type "dict") = false := by decide
    have il : N.IsList l its := ⟨_, ho1, rfl, nl, rfl⟩
    unfold Builtin.«set.__init__» noKeywords Builtin.Frozenset.updateFrom
    generalize ePI : pyIter = PI
    wp_walk
    subst ePI
    refine wpAny_pyIter_list il (wpAny_bind (wpAny_runValue ?_))
    have lt := Heap.lt_size ho
    have lN : l ≠ N.objs.size := by rw [zN]; exact Nat.ne_of_lt (Nat.lt_succ_of_lt lt)
    have dN : s.heap.objs.size ∉ [N.objs.size, l] := by
      rw [zN]
      simp only [List.mem_cons, List.not_mem_nil, or_false, not_or]
      exact ⟨Nat.ne_of_lt (Nat.lt_succ_self _), Nat.ne_of_gt lt⟩
    have val : ∀ (i : Nat) (v : Value), its[i]? = some v → ∃ p, ks[i]? = some p ∧ v = .ref p.1 := fun i v hv => by
      rw [← Array.getElem?_toList, ei, List.getElem?_map] at hv
      obtain ⟨p, hp, e⟩ := Option.map_eq_some_iff.mp hv
      exact ⟨p, hp, e.symm⟩
    refine upd_keys ((Walks.list (by simp [hh]) _ l lN its).toS) s.heap.objs.size dN ks hz few val s.heap hk (gone _ (Nat.le_refl _)) (fun b hb => gone b (by rw [List.mem_singleton.mp hb, zN]; exact Nat.le_succ _)) hu (its.size - 0) 0 _ (by omega) (Nat.zero_le _)
      ⟨⟨_, Heap.get?_push_size _ rfl, rfl, rfl⟩, il.push _⟩ (fun b o e => Heap.get?_push_of_some _ (oN b o e)) ⟨[], #[], 0, _, newSet (Heap.get?_push_of_some _ hD), (fun _ z => by cases z), (fun p z => by simp at z), Nat.le_refl _, by simp⟩ fun s' L es ep t mv hT g kp => ?_
    obtain ⟨h', g', d', tk, os'⟩ := s'
    obtain rfl : g' = s.gens := mv.gens
    obtain rfl : d' = s.drawn := mv.drawn
    obtain rfl : os' = s.os := mv.os
    rw [hz] at g
    exact wpAny_pure (wpAny_pure ⟨rfl, h', tk, L, es, ep, t, rfl, hT, g, kp⟩)
  · rcases r with e | fl
    · exact hr
    cases fl with
    | next => exact hr.elim
    | brk => exact hr.elim
    | cont => exact hr.elim
    | ret obj =>
      obtain ⟨rfl, h', tk, L, es, ep, t, rfl, hT, g, kp⟩ := hr
      repeat (any_goals (first | assumption | wp_step))
      exact h _ _ _ _ _ _ hT g kp
end
def rSetK (K : PySem.W.Frag) (P : Program) (w : World) : List V → Hp → VK → Prop := fun vs H Q => ∃ (a : Addr) (ks : List (Addr × List Key)), vs = [.ref a] ∧ SqL K H a (ks.map fun p => V.ref p.1) ∧ (∀ p ∈ ks, H p.1 = some (.tup (p.2.map kV))) ∧ ks.length < 64 ∧
  ∀ D L, H D = none → Seen ks ks.length L → (L.map (·.2)).Nodup → Q (.ref D) (upd H D (SetKO P w D L))
theorem refs_eq : ∀ {ks : List (Addr × List Key)} {us : List Value}, Vals (ks.map fun p => V.ref p.1) us → us = ks.map fun p => Value.ref p.1
  | [], _, h => by cases h; rfl
  | p :: ks, _, h => by
    cases h with
    | cons h r =>
      cases h
      rw [refs_eq r]
      rfl
theorem cr_setK {X : Cx} (hc : X.calm = true) (hu : X.A.units + 64 < cLine) : CallR X (.type "set") (rSetK X.K X.prog X.w) := by
  intro pins s σ H vs us Q I r h
  obtain ⟨a, ks, rfl, ha, hk, few, q⟩ := h
  rw [Vals.ref1 r]
  obtain ⟨its, rv, hl, hz⟩ := I.list ha
  refine set_of_list ks (I.ok.hd hc) hl.isList (by rw [← refs_eq rv]) (fun p hp => key_of I.hok (hk p hp)) few (by omega) fun h' tk L es ep t R g kp => ?_
  have nD : H s.heap.objs.size = none := I.hok.fresh (Nat.le_refl _)
  refine ⟨V.ref s.heap.objs.size, _, I.laid (t' := tk) kp (Nat.le_refl _) (setKO_new R.bare), rfl, q _ L nD g R.nd⟩
theorem q_setK {K : PySem.W.Frag} {P : Program} {w : World} {H : Hp} {Q : VK} {a : Addr} (ks : List (Addr × List Key)) (ha : SqL K H a (ks.map fun p => V.ref p.1)) (hk : ∀ p ∈ ks, H p.1 = some (.tup (p.2.map kV))) (few : ks.length < 64)
    (q : ∀ D H' L, H D = none → Same H H' → H' D = some (SetKO P w D L) → Seen ks ks.length L → (L.map (·.2)).Nodup → Q (.ref D) H') : rSetK K P w [.ref a] H Q := ⟨a, ks, rfl, ha, hk, few, fun D L n g nd => q D _ L n (Same.new n) upd_same g nd⟩
end ST
end Bt
namespace Bt
namespace NS
open PySem PySem.Spec PyProof.Rows L2
/-! ### keys of any depth: tuples of texts, ints, None and such tuples; dicts with such keys -/
mutual
/-- x is the key k -/
inductive NAt (H : Hp) : V → NestedKey → Prop where
  | none : NAt H .non .none
  | int (i : Int) : NAt H (.int i) (.num i)
  | str (z : Str) : NAt H (.str z) (.text z)
  | tup {a : Addr} {xs : List V} {ks : List NestedKey} : H a = some (.tup xs) → NAts H xs ks → NAt H (.ref a) (.tup ks)
inductive NAts (H : Hp) : List V → List NestedKey → Prop where
  | nil : NAts H [] []
  | cons {x : V} {xs : List V} {k : NestedKey} {ks : List NestedKey} : NAt H x k → NAts H xs ks → NAts H (x :: xs) (k :: ks)
end
/-- the tuples are kept -/
def TKeep (H H' : Hp) : Prop := ∀ b ys, H b = some (.tup ys) → H' b = some (.tup ys)
theorem TKeep.of {H H' : Hp} (S : Same H H') : TKeep H H' := fun _ _ e => S _ _ e
theorem TKeep.but {H H' : Hp} {p : Addr} {u : HO} (h : H p = some u) (n : ∀ ys, u ≠ .tup ys) (B : But p H H') : TKeep H H' := fun b ys e => B b _ (fun z => by rw [z, h] at e; exact n _ (Option.some.inj e)) e
theorem TKeep.put {H : Hp} {p : Addr} {u o : HO} (h : H p = some u) (n : ∀ ys, u ≠ .tup ys) : TKeep H (upd H p o) := TKeep.but h n But.upd
theorem TKeep.trans {H H' H2 : Hp} (a : TKeep H H') (b : TKeep H' H2) : TKeep H H2 := fun _ _ e => b _ _ (a _ _ e)
section
variable {H H' : Hp} (N : TKeep H H')
include N
mutual
theorem NAt.tk : ∀ {x : V} {k : NestedKey}, NAt H x k → NAt H' x k
  | _, _, .none => .none
  | _, _, .int i => .int i
  | _, _, .str z => .str z
  | _, _, .tup h hs => .tup (N _ _ h) (NAts.tk hs)
theorem NAts.tk : ∀ {xs : List V} {ks : List NestedKey}, NAts H xs ks → NAts H' xs ks
  | _, _, .nil => .nil
  | _, _, .cons h hs => .cons (NAt.tk h) (NAts.tk hs)
end
end
section
variable {P : Program} {w : World} {H : Hp} {h : Heap} (ok : HOk P w H h)
include ok
mutual
theorem NAt.is : ∀ {x : V} {k : NestedKey} {u : Value}, NAt H x k → RelV x u → NestedIs h k u
  | _, _, u, .none, r => by cases u <;> first | exact .none | exact absurd r (by intro z; cases z)
  | _, _, u, .int i, r => by
    obtain ⟨t, rfl⟩ := r
    exact .int i t
  | _, _, u, .str z, r => by
    obtain ⟨t, rfl⟩ := r
    exact .text z t
  | _, _, u, @NAt.tup _ a xs ks e hs, r => by
    cases r
    obtain ⟨_, its, rv, o, h1, h2, n, h3⟩ := (show ObjOk P w H h a (.tup xs) from ok a _ e)
    exact .tup h1 h2 h3 (NAts.are hs (by simpa using rv))
theorem NAts.are : ∀ {xs : List V} {ks : List NestedKey} {us : List Value}, NAts H xs ks → Vals xs us → NestedAll h ks us
  | _, _, _, .nil, r => by cases r; exact .nil
  | _, _, _, .cons hx hs, r => by
    cases r with
    | cons r rs => exact .cons (NAt.is hx r) (NAts.are hs rs)
end
end
/-- the tuple at b is the key k, of no great depth -/
def KeyN (H : Hp) (b : Addr) (k : NestedKey) : Prop := NAt H (.ref b) k ∧ k.depth ≤ 8
theorem KeyN.tk {H H' : Hp} {b : Addr} {k : NestedKey} (N : TKeep H H') (h : KeyN H b k) : KeyN H' b k := ⟨h.1.tk N, h.2⟩
theorem KeyN.is {P : Program} {w : World} {H : Hp} {h : Heap} {b : Addr} {k : NestedKey} (ok : HOk P w H h) (x : KeyN H b k) : (nestedKind P w).is h k b := ⟨NAt.is ok x.1 rfl, x.2⟩
/-- an entry: its key, where the key stands, its value -/
abbrev Ent : Type := NestedKey × Addr × V
abbrev EntR : List Ent → List (NestedKey × Addr × Value) → Prop := Paired fun p q => p.1 = q.1 ∧ p.2.1 = q.2.1 ∧ RelV p.2.2 q.2.2
def DN0 (P : Program) (w : World) (h : Heap) (a : Addr) (ds : List Ent) : Prop := ds.length ≤ sizeLine ∧ (a == sysModules) = false ∧ ∃ xs, EntR ds xs ∧ ∃ o es ep, h.get? a = some o ∧ o.ExactDict ∧ o.data = .dict es ep ∧ es.toList = xs.map (entryOfKey (nestedKind P w)) ∧ (xs.map (·.1)).Nodup
def DictN (P : Program) (w : World) (a : Addr) (ds : List Ent) : HO := .ext fun h => DN0 P w h a ds
theorem dictN_ok {P : Program} {w : World} {H : Hp} {h : Heap} {a : Addr} {ds : List Ent} (R : DN0 P w h a ds) : ObjOk P w H h a (DictN P w a ds) := by
  refine ⟨R, ?_, fun h1 h2 x k => ?_⟩
  · obtain ⟨_, _, _, _, o, _, _, ho, _⟩ := R
    exact ⟨o, ho⟩
  · obtain ⟨z, y, xs, r, o, es, ep, ho, q⟩ := x
    exact ⟨z, y, xs, r, o, es, ep, k o ho, q⟩
theorem dictN_new {P : Program} {w : World} {H : Hp} (h : Heap) (hb : sysModules < h.objs.size) : ObjOk P w H (h.push { cls := .type "dict", data := .dict #[] }) h.objs.size (DictN P w h.objs.size []) :=
  dictN_ok ⟨Nat.zero_le _, beq_eq_false_iff_ne.mpr (Ne.symm (Nat.ne_of_lt hb)), [], .nil, _, #[], 0, Heap.get?_push_size _ rfl, ⟨rfl, rfl, rfl⟩, rfl, rfl, List.nodup_nil⟩
/-- the keys are tracked -/
def MemD (H : Hp) (ds : List Ent) : Prop := ∀ p ∈ ds, KeyN H p.2.1 p.1
theorem MemD.tk {H H' : Hp} {ds : List Ent} (N : TKeep H H') (m : MemD H ds) : MemD H' ds := fun p hp => (m p hp).tk N
def hasN (ds : List Ent) (k : NestedKey) : Bool := ds.any fun p => decide (p.1 = k)
def putN (ds : List Ent) (k : NestedKey) (b : Addr) (v : V) : List Ent := if hasN ds k = true then ds.map fun p => if p.1 = k then (p.1, p.2.1, v) else p else ds ++ [(k, b, v)]
theorem putN_len (ds : List Ent) (k : NestedKey) (b : Addr) (v : V) : (putN ds k b v).length ≤ ds.length + 1 := by
  unfold putN
  split
  · rw [List.length_map]; omega
  · simp
theorem putN_mem {ds : List Ent} {k : NestedKey} {b : Addr} {v : V} {p : Ent} (h : p ∈ putN ds k b v) : (∃ q ∈ ds, q.1 = p.1 ∧ q.2.1 = p.2.1) ∨ p = (k, b, v) := by
  unfold putN at h
  split at h
  · obtain ⟨q, hq, rfl⟩ := List.mem_map.mp h
    refine .inl ⟨q, hq, ?_⟩
    split <;> exact ⟨rfl, rfl⟩
  · rcases List.mem_append.mp h with h | h
    · exact .inl ⟨p, h, rfl, rfl⟩
    · exact .inr (List.mem_singleton.mp h)
theorem MemD.put {H : Hp} {ds : List Ent} {k : NestedKey} {b : Addr} {v : V} (m : MemD H ds) (hb : KeyN H b k) : MemD H (putN ds k b v) := fun p hp => by
  rcases putN_mem hp with ⟨q, hq, e1, e2⟩ | rfl
  · have := m q hq
    rwa [e1, e2] at this
  · exact hb
theorem EntR.at {ds : List Ent} {xs : List (NestedKey × Addr × Value)} (r : EntR ds xs) (k : NestedKey) : hasN ds k = (atKey xs k).isSome := by
  induction r with
  | nil => rfl
  | @cons p q _ _ h _ ih =>
    unfold hasN at ih ⊢
    rw [List.any_cons, ih]
    by_cases e : p.1 = k
    · have : ∀ l, atKey (q :: l) k = some (q.2.1, q.2.2) := fun l => by simp [atKey, ← h.1, e]
      simp [e, this]
    · have : ∀ l, atKey (q :: l) k = atKey l k := fun l => by simp [atKey, ← h.1, e]
      rw [this]
      simp [e]
theorem EntR.put {ds : List Ent} {xs : List (NestedKey × Addr × Value)} (r : EntR ds xs) (k : NestedKey) {b : Addr} {y : V} {u : Value} (ry : RelV y u) : EntR (putN ds k b y) (storedH xs k b u) := by
  unfold putN storedH
  rw [r.at k]
  by_cases q : (atKey xs k).isSome = true
  · rw [if_pos q, if_pos q]
    clear q
    induction r with
    | nil => exact .nil
    | @cons p q _ _ h _ ih =>
      refine .cons ?_ ih
      obtain ⟨h1, h2, h3⟩ := h
      by_cases e : p.1 = k
      · have : putAt k u q = (q.1, q.2.1, u) := by simp [putAt, ← h1, e]
        rw [this]
        dsimp only
        rw [if_pos e]
        exact ⟨h1, h2, ry⟩
      · have : putAt k u q = q := by simp [putAt, ← h1, e]
        rw [this]
        dsimp only
        rw [if_neg e]
        exact ⟨h1, h2, h3⟩
  · rw [if_neg q, if_neg q]
    clear q
    induction r with
    | nil => exact .cons ⟨rfl, rfl, ry⟩ .nil
    | cons h _ ih => exact .cons h ih
section
variable {X : Cx} {pins : List (Addr × Obj)} {σ : L2.St} {H : Hp} {s : Shared} {a : Addr} {ds : List Ent} {A : Around} {E : Value → Shared → Prop}
theorem dn_of (ok : HOk X.prog X.w H s.heap) (ha : H a = some (DictN X.prog X.w a ds)) (m : MemD H ds) : ds.length ≤ sizeLine ∧ (a == sysModules) = false ∧ ∃ xs, EntR ds xs ∧ s.heap.DictOfH (nestedKind X.prog X.w) a xs := by
  obtain ⟨z, y, xs, r, o, es, ep, h1, h2, h3, h4, h5⟩ := (ok a _ ha).1
  refine ⟨z, y, xs, r, o, es, ep, h1, h2, h3, h4, fun x hx => ?_, h5⟩
  have go : ∀ {ds : List Ent} {xs : List (NestedKey × Addr × Value)}, EntR ds xs → x ∈ xs → ∃ p ∈ ds, p.1 = x.1 ∧ p.2.1 = x.2.1 := fun r => by
    induction r with
    | nil => exact fun z => nomatch z
    | cons h _ ih =>
      intro hx
      rcases List.mem_cons.mp hx with rfl | hx
      · exact ⟨_, List.mem_cons_self, h.1, h.2.1⟩
      · obtain ⟨p, hp, q⟩ := ih hx
        exact ⟨p, List.mem_cons_of_mem _ hp, q⟩
  obtain ⟨p, hp, e1, e2⟩ := go r hx
  have := (m p hp).is ok
  rwa [e1, e2] at this
theorem ext_tk {D : Addr} {o : HO} (hD : H D = some (DictN X.prog X.w D ds)) : TKeep H (upd H D o) := TKeep.put hD fun _ z => nomatch z
theorem d_setN {D b : Addr} {k : NestedKey} {v : V} {r : Value} {Q : Unit → Shared → Prop} (hu : A.units + 8 < cLine) (I : Inv X pins σ H s) (hD : H D = some (DictN X.prog X.w D ds)) (m : MemD H ds) (hz : ds.length < sizeLine) (hb : KeyN H b k)
    (rv : RelV v r) (h : ∀ s', Inv X pins σ (upd H D (DictN X.prog X.w D (putN ds k b v))) s' → Q () s') : wpAny (model X.prog X.w) A (dictSet D (.ref b) r) Q E s := by
  obtain ⟨z, hd, xs, rel, dd⟩ := dn_of I.hok hD m
  have lx : xs.length ≤ sizeLine := by rw [← Paired.length rel]; exact z
  have lp := putN_len ds k b v
  refine wpAny_dictSet_heap (knd := nestedKind X.prog X.w) (k := k) (hsz := lx) hu (hb.is I.hok) dd fun h' dd' hs => h _ ?_
  obtain ⟨q, es, ep, hq, h2, h3, h4, _, h5⟩ := dd'
  exact d_write I (by rw [hD]; exact True.intro) hs ⟨q, hq⟩ (dictN_ok ⟨by omega, hd, _, rel.put k rv, q, es, ep, hq, h2, h3, h4, h5⟩)
/-- k in d, k not in d -/
def rInD (P : Program) (w : World) (f : Bool → Bool) : R2 := fun x y H Q => ∃ (b a : Addr) (k : NestedKey) (ds : List Ent), x = .ref b ∧ y = .ref a ∧ KeyN H b k ∧ H a = some (DictN P w a ds) ∧ MemD H ds ∧ Q (.bl (f (hasN ds k))) H
theorem hasD_ok {b : Addr} {k : NestedKey} {Q : Value → Shared → Prop} (I : Inv X pins σ H s) (hu : A.in1.units + 8 < cLine) (hb : KeyN H b k) (ha : H a = some (DictN X.prog X.w a ds)) (m : MemD H ds)
    (f : Bool → Bool) (h : ∀ tk, Q (.bool (f (hasN ds k))) { s with toks := tk }) : wpAny (model X.prog X.w) A (do return .bool (f (← contains (.ref a) (.ref b)))) Q E s := by
  obtain ⟨z, hd, xs, rel, dd⟩ := dn_of I.hok ha m
  refine wpAny_bind (wpAny_contains_heap (knd := nestedKind X.prog X.w) (k := k) hu (hb.is I.hok) hd dd (wpAny_pure ?_))
  rw [← rel.at k]
  exact h _
end
theorem op_inD' {X : Cx} (hu : X.A.units + 64 < cLine) : OpR X (compareOp .In) (rInD X.prog X.w id) := by
  intro pins s σ H x y v u Q I rx ry h
  obtain ⟨b, a, k, ds, rfl, rfl, hb, ha, m, q⟩ := h
  cases rx
  cases ry
  exact hasD_ok I (by simp only [Around.in1]; omega) hb ha m id fun tk => ⟨.bl (hasN ds k), H, I.tok tk, rfl, q⟩
theorem op_notInD' {X : Cx} (hu : X.A.units + 64 < cLine) : OpR X (compareOp .NotIn) (rInD X.prog X.w not) := by
  intro pins s σ H x y v u Q I rx ry h
  obtain ⟨b, a, k, ds, rfl, rfl, hb, ha, m, q⟩ := h
  cases rx
  cases ry
  exact hasD_ok I (by simp only [Around.in1]; omega) hb ha m not fun tk => ⟨.bl (!hasN ds k), H, I.tok tk, rfl, q⟩
/-- list(d) -/
def rListN (P : Program) (w : World) : List V → Hp → VK → Prop := fun vs H Q => ∃ (a : Addr) (ds : List Ent), vs = [V.ref a] ∧ H a = some (DictN P w a ds) ∧ MemD H ds ∧ ∀ p, H p = none → Q (.ref p) (upd H p (.lst (ds.map fun e => .ref e.2.1)))
theorem ent_get {ds : List Ent} {xs : List (NestedKey × Addr × Value)} (r : EntR ds xs) : ∀ (j : Nat) (y : NestedKey × Addr × Value), xs[j]? = some y → ∃ e, ds[j]? = some e ∧ e.1 = y.1 ∧ e.2.1 = y.2.1 := by
  induction r with
  | nil => intro j y h; simp at h
  | cons h _ ih =>
    intro j y hy
    cases j with
    | zero => cases Option.some.inj hy; exact ⟨_, rfl, h.1, h.2.1⟩
    | succ j => exact ih j y (by simpa using hy)
theorem cr_listN {X : Cx} (hc : X.calm = true) : CallR X (.type "list") (rListN X.prog X.w) := by
  intro pins s σ H vs us Q I r h
  obtain ⟨a, ds, rfl, ha, m, q⟩ := h
  rw [Vals.ref1 r]
  obtain ⟨z, hd, xs, rel, dd⟩ := dn_of I.hok ha m
  obtain ⟨es, ep, raw, hes, hent⟩ := dd.raw
  have lk : ds.length = xs.length := Paired.length rel
  refine PySem.W.kdl_call (PySem.KdlSrc.rawDict (es := es) (ep := ep) hd) (I.ok.hd hc) raw (by omega) fun h' tk acc c hk hS hacc => ?_
  have nS : H s.heap.objs.size = none := I.hok.fresh (Nat.le_refl _)
  have vals : Vals (ds.map fun e => V.ref e.2.1) acc.toList := by
    have ev : acc.toList = ds.map fun e => Value.ref e.2.1 := by
      refine List.ext_getElem? fun j => ?_
      rw [List.getElem?_map]
      by_cases hj : j < es.size
      · obtain ⟨y, w1, w2, _⟩ := hent j hj
        obtain ⟨e, he, _, e2⟩ := ent_get rel j y w1
        have ja : j < acc.size := by rw [hacc.1]; exact hj
        obtain ⟨_, e3⟩ := hacc.2 j acc[j] (Array.getElem?_eq_getElem ja)
        rw [he, Array.getElem?_toList, Array.getElem?_eq_getElem ja, e3, w2, ← e2]
        rfl
      · rw [Array.getElem?_toList, Array.getElem?_eq_none (by rw [hacc.1]; omega), List.getElem?_eq_none (by omega)]
        rfl
    rw [ev]
    clear ev
    have go : ∀ l : List Ent, Vals (l.map fun e => V.ref e.2.1) (l.map fun e => Value.ref e.2.1) := fun l => by
      induction l with
      | nil => exact .nil
      | cons e l ih => exact .cons rfl ih
    exact go ds
  exact ⟨.ref s.heap.objs.size, upd H s.heap.objs.size (.lst (ds.map fun e => .ref e.2.1)), I.laid (t' := tk) hk (Nat.le_refl _) ⟨by rw [List.length_map]; exact z, acc.toList, c, vals, by rw [Array.toArray_toList]; exact hS⟩, rfl, q _ nS⟩
theorem q_listN {P : Program} {w : World} {H : Hp} {Q : VK} {a : Addr} {ds : List Ent} (ha : H a = some (DictN P w a ds)) (m : MemD H ds) (q : ∀ p H', H p = none → Same H H' → H' p = some (.lst (ds.map fun e => .ref e.2.1)) → Q (.ref p) H') : rListN P w [.ref a] H Q :=
  ⟨a, ds, rfl, ha, m, fun p n => q p _ n (Same.new n) upd_same⟩
end NS
end Bt
namespace Bt
namespace NS
open PySem PySem.Spec PyProof.Rows L2
/-! ### {k: v for .. in ..}, the keys of any depth -/
/-- what one turn gives: the key, its value -/
def putD (P : Program) (w : World) (D : Addr) (y z : V) (H : Hp) (N : Hp → Prop) : Prop := ∃ (b : Addr) (k : NestedKey) (ds : List Ent), y = .ref b ∧ KeyN H b k ∧ H D = some (DictN P w D ds) ∧ MemD H ds ∧ ds.length < sizeLine ∧ N (upd H D (DictN P w D (putN ds k b z)))
def tDcN (P : Program) (w : World) (wi : TI) (g : TG) (tt : TT) (tk tv : TE) (vs : List Nat) : TE := fun σ H Q => wi σ H fun J H1 => ∀ D, H1 D = none → ∃ W : Nat → Nat → Hp → Prop, (∃ m, W 0 m (upd H1 D (DictN P w D []))) ∧ ∀ i m H, W i m H →
  (J.stop i H ∧ Q (.ref D) H) ∨ (J.go i H ∧ ∃ Nx : Hp → Prop, (∀ H', Nx H' → ∃ m', m' < m ∧ W (i + 1) m' H') ∧ ∀ x H', J.yld i H x H' → g x (wipe σ vs) H' fun σ2 H2 => wipe σ2 vs = wipe σ vs ∧ tt σ2 H2 fun b H3 =>
    if b = true then tk σ2 H3 fun y H4 => tv σ2 H4 fun z H5 => putD P w D y z H5 Nx else Nx H3)
section
variable {X : Cx}
theorem dcN_run {pins : List (Addr × Obj)} {σ : L2.St} {Q : VK} {kx vx tg iter : Expr} {ifs : List Expr} {scope : Scope} {own : List (Str × Nat)} {pos : Pos} {g : TG} {tt : TT} {tk tv : TE} {J : It} {fp : List Addr} {it D : Addr} {tn : Nat → Heap → Prop} {s3 : Shared} {H3 : Hp} {W : Nat → Nat → Hp → Prop} {m0 : Nat} {use : Option (Value → Sem Unit)} {Qf : Value → Shared → Prop}
    (hc : X.calm = true) (hu : X.A.units + 64 < cLine) (hN : X.N.Nodup) (ok : BlkOk X.N X.env.scope scope own)
    (hg : ∀ (s : Shared) (H : Hp) (C : Addr) (cl : List (Str × Addr)) (fp : List Addr), PG (X.blk s H scope (compEnvC scope cl C X.env) fp) tg g) (ht : ∀ (s : Shared) (H : Hp) (C : Addr) (cl : List (Str × Addr)) (fp : List Addr), PTs (X.blk s H scope (compEnvC scope cl C X.env) fp) ifs tt)
    (hk : ∀ (s : Shared) (H : Hp) (C : Addr) (cl : List (Str × Addr)) (fp : List Addr), PE (X.blk s H scope (compEnvC scope cl C X.env) fp) kx tk) (he : ∀ (s : Shared) (H : Hp) (C : Addr) (cl : List (Str × Addr)) (fp : List Addr), PE (X.blk s H scope (compEnvC scope cl C X.env) fp) vx tv)
    (ends : ∀ C s' m H', Inv X pins σ H' s' → Q (.ref D) H' → s'.heap.Ns C m → FpOk X pins H' C → compPost (model X.prog X.w) X.A X.xe use Qf (.ref D) C (.ok .next) s')
    (T : Turn X.prog X.w X.K tg J fp it tn) (I3 : Inv X pins σ H3 s3) (f3 : ∀ b ∈ fp, FpOk X pins H3 b ∧ b < s3.heap.objs.size) (st3 : tn 0 s3.heap) (w0 : W 0 m0 H3)
    (turn : ∀ i m H, W i m H → (J.stop i H ∧ Q (.ref D) H) ∨ (J.go i H ∧ ∃ Nx : Hp → Prop, (∀ H', Nx H' → ∃ m', m' < m ∧ W (i + 1) m' H') ∧ ∀ x H', J.yld i H x H' → g x (wipe σ (own.map (·.2))) H' fun σ2 H2 => wipe σ2 (own.map (·.2)) = wipe σ (own.map (·.2)) ∧ tt σ2 H2 fun b H3 =>
      if b = true then tk σ2 H3 fun y H4 => tv σ2 H4 fun z H5 => putD X.prog X.w D y z H5 Nx else Nx H3)) :
    codeAny (model X.prog X.w) X.A (.compStart (.DictComp kx vx [⟨tg, iter, ifs, 0⟩] scope pos) 0 (.ref it) (.ref D) (compEnvC scope (cellsFrom (s3.heap.objs.size + 1) scope.names (cloFrom X.env.cells scope.names [])) s3.heap.objs.size X.env))
      (compPost (model X.prog X.w) X.A X.xe use Qf (.ref D) s3.heap.objs.size) { s3 with heap := pushCells (s3.heap.push { cls := .type "dict", data := .dict #[] }) scope.names } := by
  have I4 := block_start I3 ok hN f3
  obtain ⟨cells, hcells⟩ : ∃ c, c = cellsFrom (s3.heap.objs.size + 1) scope.names (cloFrom X.env.cells scope.names []) := ⟨_, rfl⟩
  rw [← hcells] at I4 ⊢
  have pg := hg s3 H3 s3.heap.objs.size cells fp
  have pt := ht s3 H3 s3.heap.objs.size cells fp
  have pk := hk s3 H3 s3.heap.objs.size cells fp
  have pe := he s3 H3 s3.heap.objs.size cells fp
  have cL : (compEnvC scope cells s3.heap.objs.size X.env).locals = s3.heap.objs.size := rfl
  generalize compEnvC scope cells s3.heap.objs.size X.env = ce at I4 pg pt pk pe cL ⊢
  have st4 : tn 0 ({ s3 with heap := pushCells (s3.heap.push { cls := .type "dict", data := .dict #[] }) scope.names } : Shared).heap := T.keep _ _ (pushCells (s3.heap.push { cls := .type "dict", data := .dict #[] }) scope.names) st3 fun b _ o e => pushCells_keeps _ _ _ _ (Heap.get?_push_of_some _ e)
  have own' : ∀ {σ' : L2.St} {H' : Hp} {s' : Shared}, Inv (X.blk s3 H3 scope ce fp) [] σ' H' s' → (∀ b ∈ fp, H' b = none) → ∀ b ∈ fp, FpOk (X.blk s3 H3 scope ce fp) [] H' b := fun I' hn b hb =>
    ⟨hn b hb, (I'.ok.exf b hb).1, I'.ok.exfs b hb, .inl hb, fun x c e => (I'.ok.exf b hb).2 x c e, fun p hp => nomatch hp⟩
  generalize ({ s3 with heap := pushCells (s3.heap.push { cls := .type "dict", data := .dict #[] }) scope.names } : Shared) = s4 at I4 st4 ⊢
  have nofp : ∀ b ∈ fp, H3 b = none := fun b hb => (f3 b hb).1.1
  have loop : codeAny (model X.prog X.w) X.A (.compLoop (.DictComp kx vx [⟨tg, iter, ifs, 0⟩] scope pos) 0 (.ref it) (.ref D) ce) (compPost (model X.prog X.w) X.A X.xe use Qf (.ref D) s3.heap.objs.size) s4 := by
    refine compLoop_anyD (fun n s' => ∃ i H', Inv (X.blk s3 H3 scope ce fp) [] (wipe σ (own.map (·.2))) H' s' ∧ tn i s'.heap ∧ (∀ b ∈ fp, H' b = none) ∧ W i n H') ?_ m0 ⟨0, H3, I4, st4, nofp, w0⟩
    rintro n s5 ⟨i, H5, I5, st5, n5, w5⟩
    rcases turn i n H5 w5 with ⟨stop, qq⟩ | ⟨go, Nx, hNx, step⟩
    · refine thnF (T.done (X.blk s3 H3 scope ce fp) rfl rfl rfl hc i [] s5 _ H5 (fun _ _ => False) I5 (own' I5 n5) st5 stop) fun r s6 ⟨hr, I6⟩ => ?_
      subst hr
      have I7 : Inv X pins σ H5 s6 := I3.call' (ch := fp) I6.os I6.base I6.hok I6.bare fun b hb => ⟨(f3 b hb).1.2.2.2.1, (f3 b hb).1.2.1, (f3 b hb).1.2.2.2.2.1, (f3 b hb).1.2.2.2.2.2⟩
      have nC : H5 s3.heap.objs.size = none := cL ▸ (show H5 ce.locals = none from I6.free)
      obtain ⟨m, hn, _⟩ := I6.loc
      have hn' : s6.heap.Ns s3.heap.objs.size m := cL ▸ (show s6.heap.Ns ce.locals m from hn)
      exact ends s3.heap.objs.size s6 m H5 I7 qq hn' (I3.fpOk (Nat.le_refl _) nC)
    · refine thnF (T.item (X.blk s3 H3 scope ce fp) rfl rfl rfl hc i [] s5 _ H5 (fun _ _ => False) I5 (own' I5 n5) st5 go) fun r s6 ⟨u, hr, h6⟩ => ?_
      subst hr
      refine thnF h6 fun _ s7 ⟨x, H7, I7, r7, y7, st7, n7⟩ => ?_
      have I7' := I7.pinned (own' I7 n7) (T.obj _ _ st7)
      refine thnF (pg.run _ s7 _ H7 x u _ I7' r7 (step x H7 y7)) fun _ s8 ⟨σ8, H8, I8, hw8, q8⟩ => ?_
      refine thnF (pt.run _ s8 σ8 H8 _ I8 q8) fun b s9 ⟨H9, I9, q9⟩ => ?_
      have fin : ∀ {s' : Shared} {H' : Hp}, Inv (X.blk s3 H3 scope ce fp) ([] ++ pinsAt fp s7.heap) σ8 H' s' → Nx H' → ∃ m, m < n ∧ ∃ i H', Inv (X.blk s3 H3 scope ce fp) [] (wipe σ (own.map (·.2))) H' s' ∧ tn i s'.heap ∧ (∀ b ∈ fp, H' b = none) ∧ W i m H' := fun {s' H'} I' nx => by
        obtain ⟨m', hm, w'⟩ := hNx H' nx
        have pin : ∀ b ∈ fp, ∀ o, s7.heap.get? b = some o → s'.heap.get? b = some o ∧ H' b = none := fun b hb o e =>
          let z := I'.pin (b, o) (List.mem_append_right _ (List.mem_append_right _ (mem_pinsAt hb e)))
          ⟨z.1, z.2.1⟩
        refine ⟨m', hm, i + 1, H', (I'.unpinned (pins := [])).weak (by rw [← hw8, wipe_length]) (fun j v e => (wipe_some (hw8 ▸ e)).1), T.keep _ _ _ st7 fun b hb o e => (pin b hb o e).1, fun b hb => ?_, w'⟩
        obtain ⟨o, e, _⟩ := T.obj _ _ st7 b hb
        exact (pin b hb o e).2
      cases b with
      | false =>
        simp only [Bool.false_eq_true, if_false] at q9 ⊢
        exact fin I9 q9
      | true =>
        simp only [if_true] at q9 ⊢
        refine thnF (pk.run _ s9 σ8 H9 _ I9 q9) fun z s10 ⟨yk, H10, I10, r10, q10⟩ => ?_
        refine thnF (pe.run _ s10 σ8 H10 _ I10 q10) fun z2 s11 ⟨yv, H11, I11, r11, b, k, ds, ek, hb, hD, mD, hz, nx⟩ => ?_
        subst ek
        cases r10
        exact d_setN (X := X.blk s3 H3 scope ce fp) (by show X.A.units + 8 < cLine; omega) I11 hD mD hz hb r11 fun s12 I12 => fin I12 nx
  exact codeAny_compStart_dict loop (T.self X.A 0 _ _ _ st4 loop)
theorem dcN_core {pins : List (Addr × Obj)} {σ : L2.St} {H : Hp} {Q : VK} {s : Shared} {pos' : Pos} {use : Option (Value → Sem Unit)} {Qf : Value → Shared → Prop} {kx vx tg iter : Expr} {ifs : List Expr} {scope : Scope} {own : List (Str × Nat)} {pos : Pos} {wi : TI} {g : TG} {tt : TT} {tk tv : TE} (hc : X.calm = true) (hu : X.A.units + 64 < cLine) (hN : X.N.Nodup) (hi : PI X tg iter wi) (ok : BlkOk X.N X.env.scope scope own)
    (hg : ∀ (s : Shared) (H : Hp) (C : Addr) (cl : List (Str × Addr)) (fp : List Addr), PG (X.blk s H scope (compEnvC scope cl C X.env) fp) tg g) (ht : ∀ (s : Shared) (H : Hp) (C : Addr) (cl : List (Str × Addr)) (fp : List Addr), PTs (X.blk s H scope (compEnvC scope cl C X.env) fp) ifs tt)
    (hk : ∀ (s : Shared) (H : Hp) (C : Addr) (cl : List (Str × Addr)) (fp : List Addr), PE (X.blk s H scope (compEnvC scope cl C X.env) fp) kx tk) (he : ∀ (s : Shared) (H : Hp) (C : Addr) (cl : List (Str × Addr)) (fp : List Addr), PE (X.blk s H scope (compEnvC scope cl C X.env) fp) vx tv) (hs : ∀ x, foldedSetIterable iter X.env x = pure x := by intro _; rfl) (I : Inv X pins σ H s) (h : tDcN X.prog X.w wi g tt tk tv (own.map (·.2)) σ H Q)
    (ends : ∀ D C s' m H', Inv X pins σ H' s' → Q (.ref D) H' → s'.heap.Ns C m → FpOk X pins H' C → compPost (model X.prog X.w) X.A X.xe use Qf (.ref D) C (.ok .next) s') :
    wpAny (model X.prog X.w) X.A (comprehension (.DictComp kx vx [⟨tg, iter, ifs, 0⟩] scope pos) scope X.env pos' newDict false (eval iter X.env) use) Qf X.xe s := by
  have known : ∀ y ∈ scope.names, y.2 = .free → ∃ c, X.env.cells.lookup y.1 = some c := fun y hy e => I.ok.has _ (ok.free y hy e)
  refine wpAny_comprehension_free (use := use) rfl hs (closure_ok known) ok.kind (fun y hy e => by rw [ok.uniq y hy, e]) (thn (hi.run pins s σ H _ I h) fun xv s1 hx => thn hx fun itv s2 ⟨it, fp, tn, J, H2, ei, I2, T, st2, f2, q⟩ => ?_)
  subst ei
  refine wpAny_newObj_type (newEnv_comp ?_)
  have hDn : H2 s2.heap.objs.size = none := I2.hok.fresh (Nat.le_refl _)
  obtain ⟨W, ⟨m0, w0⟩, turn⟩ := q _ hDn
  have I3 : Inv X pins σ (upd H2 s2.heap.objs.size (DictN X.prog X.w s2.heap.objs.size [])) { s2 with heap := s2.heap.push { cls := .type "dict", data := .dict #[] } } :=
    I2.laid (t' := s2.toks) (fun b o e => Heap.get?_push_of_some _ e) (Nat.le_refl _) (dictN_new s2.heap I2.big)
  have f3 : ∀ b ∈ fp, FpOk X pins (upd H2 s2.heap.objs.size (DictN X.prog X.w s2.heap.objs.size [])) b ∧ b < (s2.heap.push { cls := .type "dict", data := .dict #[] }).objs.size := fun b hb => by
    obtain ⟨o, e, _⟩ := T.obj _ _ st2 b hb
    have lt := Heap.lt_size e
    refine ⟨⟨by rw [upd_ne (Nat.ne_of_lt lt)]; exact (f2 b hb).1, (f2 b hb).2⟩, by rw [Heap.size_push]; exact Nat.lt_succ_of_lt lt⟩
  have st3 := T.keep _ _ (s2.heap.push { cls := .type "dict", data := .dict #[] }) st2 fun b _ o e => Heap.get?_push_of_some _ e
  exact dcN_run (pos := pos) hc hu hN ok hg ht hk he (ends _) T I3 f3 st3 w0 turn
theorem pe_dcN {kx vx tg iter : Expr} {ifs : List Expr} {scope : Scope} {own : List (Str × Nat)} {pos : Pos} {wi : TI} {g : TG} {tt : TT} {tk tv : TE} (hc : X.calm = true) (hu : X.A.units + 64 < cLine) (hN : X.N.Nodup) (hi : PI X tg iter wi) (ok : BlkOk X.N X.env.scope scope own)
    (hg : ∀ (s : Shared) (H : Hp) (C : Addr) (cl : List (Str × Addr)) (fp : List Addr), PG (X.blk s H scope (compEnvC scope cl C X.env) fp) tg g) (ht : ∀ (s : Shared) (H : Hp) (C : Addr) (cl : List (Str × Addr)) (fp : List Addr), PTs (X.blk s H scope (compEnvC scope cl C X.env) fp) ifs tt)
    (hk : ∀ (s : Shared) (H : Hp) (C : Addr) (cl : List (Str × Addr)) (fp : List Addr), PE (X.blk s H scope (compEnvC scope cl C X.env) fp) kx tk) (he : ∀ (s : Shared) (H : Hp) (C : Addr) (cl : List (Str × Addr)) (fp : List Addr), PE (X.blk s H scope (compEnvC scope cl C X.env) fp) vx tv) (hs : ∀ x, foldedSetIterable iter X.env x = pure x := by intro _; rfl) :
    PE X (.DictComp kx vx [⟨tg, iter, ifs, 0⟩] scope pos) (tDcN X.prog X.w wi g tt tk tv (own.map (·.2))) := by
  refine ⟨fun pins s σ H Q I h => ?_⟩
  rw [arm_eval_DictComp]
  refine dcN_core hc hu hN hi ok hg ht hk he hs I h fun D C s' m H' I' q hn ⟨f0, f1, f2, f3, f4, f5⟩ => ⟨m, hn, fun h'' sb => ⟨.ref D, H', I'.turned (t' := s'.toks) (fun b o hb e => (sb.2 b hb).trans e) f0 f1 f3 f4 f5, rfl, q⟩⟩
end
theorem s_dcN {P : Program} {w : World} {wi : TI} {g : TG} {tt : TT} {tk tv : TE} {vs : List Nat} {σ : L2.St} {H : Hp} {Q : VK} (h : wi σ H fun J H1 => ∀ D, H1 D = none → ∃ W : Nat → Nat → Hp → Prop, (∃ m, W 0 m (upd H1 D (DictN P w D []))) ∧ ∀ i m H, W i m H →
    (J.stop i H ∧ Q (.ref D) H) ∨ (J.go i H ∧ ∃ Nx : Hp → Prop, (∀ H', Nx H' → ∃ m', m' < m ∧ W (i + 1) m' H') ∧ ∀ x H', J.yld i H x H' → g x (wipe σ vs) H' fun σ2 H2 => wipe σ2 vs = wipe σ vs ∧ tt σ2 H2 fun b H3 =>
      if b = true then tk σ2 H3 fun y H4 => tv σ2 H4 fun z H5 => putD P w D y z H5 Nx else Nx H3)) : tDcN P w wi g tt tk tv vs σ H Q := h
theorem dc_listN {P : Program} {w : World} {K : PySem.W.Frag} {a : Addr} {xs : List V} {g : TG} {tt : TT} {tk tv : TE} {vs : List Nat} {σ : L2.St} {H1 : Hp} {D : Addr} {Qd : Hp → Prop} (Pv : Nat → Hp → Prop) (h0 : Pv 0 (upd H1 D (DictN P w D []))) (hl : ∀ i H, i ≤ xs.length → Pv i H → SqL K H a xs)
    (hs : ∀ i x H, xs[i]? = some x → Pv i H → g x (wipe σ vs) H fun σ2 H2 => wipe σ2 vs = wipe σ vs ∧ tt σ2 H2 fun b H3 => if b = true then tk σ2 H3 fun y H4 => tv σ2 H4 fun z H5 => putD P w D y z H5 (Pv (i + 1)) else Pv (i + 1) H3) (hd : ∀ H, Pv xs.length H → Qd H) :
    ∃ W : Nat → Nat → Hp → Prop, (∃ m, W 0 m (upd H1 D (DictN P w D []))) ∧ ∀ i m H, W i m H →
      ((Itl K a).stop i H ∧ Qd H) ∨ ((Itl K a).go i H ∧ ∃ Nx : Hp → Prop, (∀ H', Nx H' → ∃ m', m' < m ∧ W (i + 1) m' H') ∧ ∀ x H', (Itl K a).yld i H x H' → g x (wipe σ vs) H' fun σ2 H2 => wipe σ2 vs = wipe σ vs ∧ tt σ2 H2 fun b H3 =>
        if b = true then tk σ2 H3 fun y H4 => tv σ2 H4 fun z H5 => putD P w D y z H5 Nx else Nx H3) := by
  refine ⟨fun i m H => m = xs.length - i ∧ i ≤ xs.length ∧ Pv i H, ⟨xs.length, by simp, Nat.zero_le _, h0⟩, ?_⟩
  rintro i m H ⟨rfl, hi, p⟩
  have q := hl i H hi p
  by_cases hlt : i < xs.length
  · refine .inr ⟨⟨xs, xs[i], q, by simp [hlt]⟩, Pv (i + 1), fun H' p' => ⟨xs.length - (i + 1), by omega, rfl, hlt, p'⟩, fun x H' y => ?_⟩
    obtain ⟨rfl, y⟩ := y
    exact hs i x _ (y xs q) p
  · have e : i = xs.length := by omega
    subst e
    exact .inl ⟨⟨xs, q, Nat.le_refl _⟩, hd H p⟩
end NS
end Bt
namespace Bt
namespace NS
open PySem PySem.Spec PyProof.Rows L2
/-! ### a walk over the keys of a dict with keys of any depth (the dict locked) -/
def Itn (P : Program) (w : World) (d : Addr) (o : Obj) (ds : List Ent) : It :=
  ⟨fun i H => H d = some (.frz o (DictN P w d ds)) ∧ i < ds.length, fun i H x H' => H' = H ∧ ∃ e, ds[i]? = some e ∧ x = .ref e.2.1, fun i H => H d = some (.frz o (DictN P w d ds)) ∧ ds.length ≤ i⟩
section
variable {X : Cx} {pins : List (Addr × Obj)} {σ : L2.St} {H : Hp} {s : Shared} {d : Addr} {o : Obj} {ds : List Ent}
theorem frzN (I : Inv X pins σ H s) (h : H d = some (.frz o (DictN X.prog X.w d ds))) :
    (d == sysModules) = false ∧ s.heap.get? d = some o ∧ o.ExactDict ∧ ∃ (es : Array DictEntry) (ep : Nat), o.data = .dict es ep ∧ es.size = ds.length ∧ ∀ (i : Nat) (e : Ent), ds[i]? = some e → ∃ en : DictEntry, es[i]? = some en ∧ en.key = .ref e.2.1 := by
  obtain ⟨hd, ⟨z, hs, xs, pr, o', es, ep, ho, hx, hdt, he, _⟩, _⟩ := I.hok d _ h
  rw [hd] at ho
  cases ho
  refine ⟨hs, hd, hx, es, ep, hdt, ?_, fun i e hi => ?_⟩
  · have l1 : es.size = xs.length := size_of_entries he
    have l2 : ds.length = xs.length := Paired.length pr
    omega
  · have hl : i < xs.length := by
      have := Paired.length pr
      have := (List.getElem?_eq_some_iff.mp hi).1
      omega
    obtain ⟨e', h1, h2, h3⟩ := ent_get pr i xs[i] (List.getElem?_eq_getElem hl)
    rw [hi] at h1
    cases h1
    have q := entry_at he i
    rw [List.getElem?_eq_getElem hl] at q
    exact ⟨_, q, by rw [h3]; rfl⟩
end
section
variable {P : Program} {w : World} {K : PySem.W.Frag} {tg : Expr} {d : Addr} {o : Obj} {es : Array DictEntry} {ep : Nat}
theorem turn_keysN {ds : List Ent} (it : Addr) (hod : o.data = .dict es ep) : Turn P w K tg (Itn P w d o ds) [it] it (fun i h => h.IsKeyIter it d i ds.length ep) where
  mem := by simp
  obj := fun i h st b hb => by
    have e : b = it := by simpa using hb
    subst e
    obtain ⟨oi, e, c, dd⟩ := st
    exact ⟨oi, e, fun v z => by rw [dd] at z; cases z⟩
  keep := fun i h h' st k => st.at fun oi e => k it (by simp) oi e
  item := by
    intro X hP hw hK hc i pins s σ H E I hf st hg
    subst hP hw hK
    obtain ⟨hd, hi⟩ := hg
    obtain ⟨f0, f1, f2, f3, f4, f5⟩ := hf it (by simp)
    obtain ⟨hs, hgd, hx, es', ep', hdt, hsz, ent⟩ := frzN I hd
    obtain ⟨rfl, rfl⟩ := dict_ep hod hdt
    obtain ⟨e, he⟩ : ∃ e, ds[i]? = some e := ⟨ds[i], List.getElem?_eq_getElem hi⟩
    obtain ⟨en, hen, hkey⟩ := ent i e he
    refine next_key_item st hgd hdt hsz hen fun h' st' sb => ?_
    have I1 : Inv X pins σ H { s with heap := h' } := I.turned (t' := s.toks) (fun b ob hb e => (sb.2 b hb).trans e) f0 f1 f3 f4 f5
    obtain ⟨oi, e2, c, dd⟩ := id st'
    exact ⟨en.key, rfl, go_of (s := { s with heap := h' }) e2 c dd (by decide) ⟨.ref e.2.1, H, I1, hkey, ⟨rfl, e, he, rfl⟩, st', fun b hb => (hf b hb).1⟩⟩
  done := by
    intro X hP hw hK hc i pins s σ H E I hf st hg
    subst hP hw hK
    obtain ⟨hd, hi⟩ := hg
    obtain ⟨f0, f1, f2, f3, f4, f5⟩ := hf it (by simp)
    obtain ⟨hs, hgd, hx, es', ep', hdt, hsz, ent⟩ := frzN I hd
    obtain ⟨rfl, rfl⟩ := dict_ep hod hdt
    exact next_key_end (I.ok.hd hc) st hgd hdt hsz hi fun h' eb => ⟨rfl, I.turned (t' := s.toks) (fun b ob hb e => eb b ob hb e) f0 f1 f3 f4 f5⟩
  self := fun A i s Q E st h => by
    refine wpAny_pyIter_slot st.typeIs F.slot_dict_keyiterator_iter (wpAny_call_entry F.slot_dict_keyiterator_iter st.typeIs F.entry_dict_keyiterator_iter ?_ (F.args_dict_keyiterator_iter_1 _))
    show wpAny _ _ (ret (.ref it)) _ _ s
    exact wpAny_pure ⟨_, rfl, "dict_keyiterator", _, st.typeIs, F.slot_dict_keyiterator_next.lookup, h⟩
end
def iKeysN (P : Program) (w : World) (td : TE) : TI := fun σ H R => td σ H fun x H1 => ∃ d o ds, x = .ref d ∧ H1 d = some (.frz o (DictN P w d ds)) ∧ R (Itn P w d o ds) H1
theorem pi_keysN {X : Cx} {tg e : Expr} {td : TE} (he : PE X e td) : PI X tg e (iKeysN X.prog X.w td) := by
  refine ⟨fun pins s σ H R I h => ?_⟩
  refine thn (he.run pins s σ H _ I h) fun u s1 ⟨x, H1, I1, rx, d, o, ds, ex, hd, q⟩ => ?_
  subst ex
  obtain rfl : u = Value.ref d := rx
  obtain ⟨hs, hgd, hx, es, ep, hdt, hsz, ent⟩ := frzN I1 hd
  refine iter_keys hs hgd hx hdt (pi_one (tk := s1.toks) I1 _ (turn_keysN _ hdt) ⟨_, Heap.get?_push_size _ rfl, rfl, ?_⟩ q)
  rw [hsz] <;> rfl
theorem s_iKeysN {P : Program} {w : World} {td : TE} {σ : L2.St} {H : Hp} {R : It → Hp → Prop} (h : td σ H fun x H1 => ∃ d o ds, x = .ref d ∧ H1 d = some (.frz o (DictN P w d ds)) ∧ R (Itn P w d o ds) H1) : iKeysN P w td σ H R := h
/-- a comprehension over the keys -/
theorem lc_keysN {P : Program} {w : World} {d : Addr} {o : Obj} {ds : List Ent} {g : TG} {tt : TT} {te : TE} {vs : List Nat} {σ : L2.St} {H1 : Hp} {D : Addr} {Qd : Hp → Prop} (Pv : Nat → Hp → Prop) (h0 : Pv 0 (upd H1 D (.lst []))) (hl : ∀ i H, i ≤ ds.length → Pv i H → H d = some (.frz o (DictN P w d ds)))
    (hs : ∀ i e H, ds[i]? = some e → Pv i H → g (.ref e.2.1) (wipe σ vs) H fun σ2 H2 => wipe σ2 vs = wipe σ vs ∧ tt σ2 H2 fun c H3 =>
      if c = true then te σ2 H3 fun y H4 => ∃ acc, H4 D = some (.lst acc) ∧ acc.length < sizeLine ∧ Pv (i + 1) (upd H4 D (.lst (acc ++ [y]))) else Pv (i + 1) H3) (hd : ∀ H, Pv ds.length H → Qd H) :
    ∃ W : Nat → Nat → Hp → Prop, (∃ m, W 0 m (upd H1 D (.lst []))) ∧ ∀ i m H, W i m H →
      ((Itn P w d o ds).stop i H ∧ Qd H) ∨ ((Itn P w d o ds).go i H ∧ ∃ Nx : Hp → Prop, (∀ H', Nx H' → ∃ m', m' < m ∧ W (i + 1) m' H') ∧ ∀ x H', (Itn P w d o ds).yld i H x H' → g x (wipe σ vs) H' fun σ2 H2 => wipe σ2 vs = wipe σ vs ∧ tt σ2 H2 fun c H3 =>
        if c = true then te σ2 H3 fun y H4 => ∃ acc, H4 D = some (.lst acc) ∧ acc.length < sizeLine ∧ Nx (upd H4 D (.lst (acc ++ [y]))) else Nx H3) := by
  refine ⟨fun i m H => m = ds.length - i ∧ i ≤ ds.length ∧ Pv i H, ⟨ds.length, by simp, Nat.zero_le _, h0⟩, ?_⟩
  rintro i m H ⟨rfl, hi, p⟩
  by_cases hlt : i < ds.length
  · refine .inr ⟨⟨hl i H hi p, hlt⟩, Pv (i + 1), fun H' p' => ⟨ds.length - (i + 1), by omega, rfl, hlt, p'⟩, fun x H' y => ?_⟩
    obtain ⟨rfl, e, h1, rfl⟩ := y
    exact hs i e H' h1 p
  · have e : i = ds.length := by omega
    subst e
    exact .inl ⟨⟨hl _ H hi p, Nat.le_refl _⟩, hd H p⟩
end NS
end Bt
namespace Bt
namespace NS
open PySem PySem.Spec PyProof.Rows L2
/-! ### sets whose members are keys of any depth: the machine's side -/
abbrev hk (P : Program) (w : World) (k : NestedKey) : Int := (nestedKind P w).hash k
abbrev IsK (P : Program) (w : World) (h : Heap) (k : NestedKey) (a : Addr) : Prop := (nestedKind P w).is h k a
section
variable {P : Program} {w : World} {A : Around} {E : Value → Shared → Prop} {s : Shared}
theorem IsK.typeIs {k : NestedKey} {b : Addr} (hb : IsK P w s.heap k b) : s.TypeIs (.ref b) "tuple" := nestedKind_stays.tuple hb
theorem IsK.keep {h h' : Heap} {k : NestedKey} {b : Addr} (x : IsK P w h k b) (kp : ∀ c o, h.get? c = some o → h'.get? c = some o) : IsK P w h' k b := nestedKind_stays.stays (fun c o _ _ e _ => kp c o e) x
mutual
theorem aClass_go : ∀ (k : NestedKey) (n : Nat) (v : Value) (Q : Bool → Shared → Prop), NestedIs s.heap k v → k.depth ≤ n → Q false s → wpAny (model P w) A (ofAClassStatement n v) Q E s
  | .none, n, v, Q, h, _, q => by cases h; cases n <;> exact wpAny_pure q
  | .num i, n, v, Q, h, _, q => by cases h <;> cases n <;> exact wpAny_pure q
  | .text x, n, v, Q, h, _, q => by cases h; cases n <;> exact wpAny_pure q
  | .tup ks, n, v, Q, h, d, q => by
    cases h with
    | @tup a o vs m _ h1 h2 h3 h4 =>
    obtain ⟨n, rfl⟩ : ∃ n', n = n' + 1 := ⟨n - 1, by simp only [NestedKey.depth] at d; omega⟩
    have ty : s.TypeIs (.ref a) "tuple" := ⟨_, h1, h2⟩
    have d' : NestedKey.depthAll ks ≤ n := by simp only [NestedKey.depth] at d; omega
    unfold ofAClassStatement
    refine wpAny_bind (wpAny_typeOf ty ?_)
    have et : (("tuple" : String) == "tuple") = true := by decide
    simp only [et, if_true, Bool.not_true, Bool.false_eq_true, if_false]
    show wpAny _ _ (seqItems? (.ref a) >>= _) _ _ s
    refine wpAny_bind (wpAny_seqItems h1 h3 (wpAny_bind ?_))
    show wpAny _ _ (forIn vs _ _) _ _ s
    rw [← Array.forIn_toList]
    refine aClass_all ks n vs.toList _ h4 d' ?_
    exact wpAny_pure q
theorem aClass_all : ∀ (ks : List NestedKey) (n : Nat) (vs : List Value) (Q : Option Bool × Unit → Shared → Prop), NestedAll s.heap ks vs → NestedKey.depthAll ks ≤ n → Q (none, ()) s →
    wpAny (model P w) A (forIn vs ((none, ()) : Option Bool × Unit) fun y _ => do
      if ← ofAClassStatement n y then pure (ForInStep.done (some true, ())) else pure (ForInStep.yield (none, ()))) Q E s
  | [], n, vs, Q, h, _, q => by
    cases h
    exact wpAny_pure q
  | k :: ks, n, vs, Q, h, d, q => by
    cases h with
    | cons h1 h2 =>
    simp only [NestedKey.depthAll] at d
    rw [List.forIn_cons]
    refine wpAny_bind (wpAny_bind (aClass_go k n _ _ h1 (by omega) ?_))
    simp only [Bool.false_eq_true, if_false]
    refine wpAny_pure ?_
    exact aClass_all ks n _ Q h2 (by omega) q
end
theorem aClass_key {k : NestedKey} {b : Addr} {Q : Bool → Shared → Prop} (hb : IsK P w s.heap k b) (h : Q false s) : wpAny (model P w) A (ofAClassStatement 8 (.ref b)) Q E s := aClass_go k 8 _ Q hb.1 hb.2 h
mutual
theorem byValue_go : ∀ (k : NestedKey) (n : Nat) (v : Value) (Q : Bool → Shared → Prop), NestedIs s.heap k v → k.depth ≤ n → (∀ c, Q c s) → wpAny (model P w) A (hashByValue n v) Q E s
  | .none, n, v, Q, h, _, q => by cases h; cases n <;> exact wpAny_pure (q _)
  | .num i, n, v, Q, h, _, q => by cases h <;> cases n <;> exact wpAny_pure (q _)
  | .text x, n, v, Q, h, _, q => by cases h; cases n <;> exact wpAny_pure (q _)
  | .tup ks, n, v, Q, h, d, q => by
    cases h with
    | @tup a o vs m _ h1 h2 h3 h4 =>
    obtain ⟨n, rfl⟩ : ∃ n', n = n' + 1 := ⟨n - 1, by simp only [NestedKey.depth] at d; omega⟩
    have ty : s.TypeIs (.ref a) "tuple" := ⟨_, h1, h2⟩
    have d' : NestedKey.depthAll ks ≤ n := by simp only [NestedKey.depth] at d; omega
    unfold hashByValue
    refine wpAny_bind (wpAny_specialOf ty F.slot_tuple_hash.lookup ?_)
    show wpAny _ _ (seqItems? (.ref a) >>= _) _ _ s
    refine wpAny_bind (wpAny_seqItems h1 h3 (wpAny_bind ?_))
    show wpAny _ _ (forIn vs _ _) _ _ s
    rw [← Array.forIn_toList]
    refine byValue_all ks n vs.toList _ h4 d' fun o => ?_
    cases o with
    | none => exact wpAny_pure (q _)
    | some c => exact wpAny_pure (q c)
theorem byValue_all : ∀ (ks : List NestedKey) (n : Nat) (vs : List Value) (Q : Option Bool × Unit → Shared → Prop), NestedAll s.heap ks vs → NestedKey.depthAll ks ≤ n → (∀ o, Q (o, ()) s) →
    wpAny (model P w) A (forIn vs ((none, ()) : Option Bool × Unit) fun y _ => do
      if !(← hashByValue n y) then pure (ForInStep.done (some false, ())) else pure (ForInStep.yield (none, ()))) Q E s
  | [], n, vs, Q, h, _, q => by
    cases h
    exact wpAny_pure (q _)
  | k :: ks, n, vs, Q, h, d, q => by
    cases h with
    | cons h1 h2 =>
    simp only [NestedKey.depthAll] at d
    rw [List.forIn_cons]
    refine wpAny_bind (wpAny_bind (byValue_go k n _ _ h1 (by omega) fun c => ?_))
    cases c <;> simp only [Bool.not_true, Bool.not_false, if_true, Bool.false_eq_true, if_false]
    · exact wpAny_pure (wpAny_pure (q _))
    · refine wpAny_pure ?_
      exact byValue_all ks n _ Q h2 (by omega) q
end
theorem byValue_key {k : NestedKey} {b : Addr} {Q : Bool → Shared → Prop} (hb : IsK P w s.heap k b) (h : ∀ c, Q c s) : wpAny (model P w) A (hashByValue 8 (.ref b)) Q E s := byValue_go k 8 _ Q hb.1 hb.2 h
/-- looking a tuple up among tuples shows nothing of the table -/
theorem unseen {k : NestedKey} {b : Addr} {Q : Bool → Shared → Prop} (hb : IsK P w s.heap k b) {ys : List Value} (hy : ∀ y ∈ ys, ∃ k' c, y = Value.ref c ∧ IsK P w s.heap k' c) (h : Q false s) : wpAny (model P w) A (searchCouldBeSeen (.ref b) ys) Q E s := by
  unfold searchCouldBeSeen
  refine wpAny_bind (wpAny_forIn_list _ (fun rest r s' => r.1 = none ∧ s' = s ∧ ∀ y ∈ rest, ∃ k' c, y = Value.ref c ∧ IsK P w s.heap k' c) _ (fun v rest r s' => ?_) (fun r s' => ?_) _ _ ⟨rfl, rfl, hy⟩)
  · rintro ⟨hr, rfl, all⟩
    obtain ⟨k', c, rfl, hc⟩ := all v List.mem_cons_self
    have more : ∀ y ∈ rest, ∃ k' c, y = Value.ref c ∧ IsK P w s'.heap k' c := fun u hu => all u (List.mem_cons_of_mem _ hu)
    dsimp only
    by_cases z : (b == c || (carriedByValue (.ref b) && carriedByValue (.ref c))) = true
    · exact wp_if_pos z (wpAny_pure ⟨rfl, rfl, more⟩)
    · refine wp_if_neg z (wpAny_bind ((nestedKind P w).quiet hb ?_))
      simp only [Bool.not_true, Bool.false_eq_true, if_false]
      refine wpAny_bind ((nestedKind P w).quiet hc ?_)
      simp only [Bool.not_true, Bool.false_eq_true, if_false]
      refine wpAny_bind (aClass_key hb ?_)
      simp only [Bool.false_eq_true, if_false]
      refine wpAny_bind (aClass_key hc ?_)
      simp only [Bool.false_eq_true, if_false]
      exact wpAny_pure ⟨rfl, rfl, more⟩
  · obtain ⟨r1, r2⟩ := r
    rintro ⟨hr, rfl, _⟩
    obtain rfl : r1 = none := hr
    exact wpAny_pure h
/-- the set at a: its members with their places -/
structure NSet (P : Program) (w : World) (h : Heap) (a : Addr) (L : List (Addr × NestedKey)) (es : Array (Int × Value)) (ep : Nat) (t : SetTable) : Prop where
  ob : ∃ o, h.get? a = some o ∧ o.ExactSet ∧ o.data = .set es ep t
  rows : es.toList = L.map fun p => (hk P w p.2, Value.ref p.1)
  tab : TabOk t (L.map fun p => hk P w p.2)
  nd : (L.map (·.2)).Nodup
  mem : ∀ p ∈ L, IsK P w h p.2 p.1
  led : w.params.followText "set-order" = true ∨ t.led = true
  room : L.length * 5 < t.mask * 3
  few : L.length < 64
variable {a : Addr} {L : List (Addr × NestedKey)} {es : Array (Int × Value)} {ep : Nat} {t : SetTable}
theorem NSet.size (R : NSet P w s.heap a L es ep t) : es.size = L.length := by
  rw [← Array.length_toList, R.rows, List.length_map]
theorem NSet.places (R : NSet P w s.heap a L es ep t) : t.place.size = L.length := by
  rw [R.tab.sz, List.length_map]
theorem NSet.fits (R : NSet P w s.heap a L es ep t) : t.fits es.size = true := by
  have h1 := R.places
  have h2 := R.size
  have h3 := R.room
  unfold SetTable.fits SetTable.fill
  rw [R.tab.dm, Bool.and_eq_true, beq_iff_eq, decide_eq_true_eq]
  exact ⟨by omega, by show t.place.size + 0 ≤ t.mask; omega⟩
theorem NSet.row (R : NSet P w s.heap a L es ep t) {i : Nat} {p : Addr × NestedKey} (h : L[i]? = some p) : es[i]? = some (hk P w p.2, Value.ref p.1) := by
  rw [← Array.getElem?_toList, R.rows, List.getElem?_map, h]
  rfl
theorem NSet.stays (R : NSet P w s.heap a L es ep t) : ¬ t.gaveWay = true := by
  unfold SetTable.gaveWay
  rw [mask_odd R.tab.mok]
  decide
/-- the c-th step of the way of k -/
abbrev stp (t : SetTable) (h : Int) (c : Nat) : SetTable.Probe := nth t.mask (runAt t.mask (SetTable.bits h % (t.mask + 1)) (SetTable.bits h)) c
theorem stp_clean (t : SetTable) (h : Int) (c : Nat) : (stp t h c).dummy = none := by
  have go : ∀ (n : Nat) (p : SetTable.Probe), p.dummy = none → (nth t.mask p n).dummy = none := fun n => by
    induction n with
    | zero => exact fun p e => e
    | succ n ih =>
      intro p e
      refine ih (adv t.mask p) ?_
      unfold adv
      split <;> exact e
  exact go c _ rfl
theorem stp_add (t : SetTable) (h : Int) (c q : Nat) : nth t.mask (stp t h c) q = stp t h (c + q) := (nth_add t.mask c _ q).symm
theorem srch_go (R : NSet P w s.heap a L es ep t) {x : Addr} {k : NestedKey} (hx : IsK P w s.heap k x) (hu : A.units + 8 < cLine) (adding : Bool) {K : Nat} (hKf : K < 10 * SetTable.turns t.mask)
    (hK : way t.mask (hk P w k) K ∉ t.place.toList) (hKb : ∀ c, c < K → way t.mask (hk P w k) c ∈ t.place.toList) {Q : SetFound → Shared → Prop}
    (hin : k ∈ L.map (·.2) → ∀ r, (adding = true → r = none) → (adding = false → r.isSome = true) → Q (.there r) s) (hout : k ∉ L.map (·.2) → Q (.free (way t.mask (hk P w k) K) false) s) :
    ∀ (f c : Nat) (st : Option SetTable.Probe), st.getD (t.probeStart (hk P w k)) = stp t (hk P w k) c → c ≤ K → K - c < f →
      (∀ (i : Nat) p, L[i]? = some p → p.2 = k → ∃ c', c ≤ c' ∧ c' < K ∧ t.place.toList[i]? = some (way t.mask (hk P w k) c')) →
      wpAny (model P w) A (setSearchFrom a (.ref x) (hk P w k) adding f st) Q E s := by
  obtain ⟨o, ho, hex, hd⟩ := R.ob
  intro f
  induction f with
  | zero => exact fun c st _ _ hf _ => absurd hf (Nat.not_lt_zero _)
  | succ f ih =>
    intro c st hst hc hf hre
    rw [setSearchFrom_succ]
    refine wpAny_bind (wpAny_setState_of ho hd R.fits ?_)
    dsimp only
    refine wp_if_neg R.stays ?_
    have hcK : c + (K - c) = K := by omega
    have rowH : ∀ {i : Nat} {p : Addr × NestedKey}, L[i]? = some p → (es[i]?.map (·.1)).getD 0 = hk P w p.2 := fun hp => by rw [R.row hp]; rfl
    have found : ∀ (i : Nat) p, L[i]? = some p → p.2 = k → (es[i]?.map (·.1)).getD 0 = hk P w k := fun i p hp e => by rw [rowH hp, e]
    rcases go_spec t R.tab.ris R.tab.dm (fun i => (es[i]?.map (·.1)).getD 0) (hk P w k) (10 * SetTable.turns t.mask) (K - c) (stp t (hk P w k) c) (stp_clean _ _ _) (by omega)
      (fun q hq => by rw [stp_add]; exact hKb (c + q) (by omega)) (by rw [stp_add, hcK]; exact hK) with ⟨q, i, hq, hi, hh, hno, hpr⟩ | ⟨hno, hpr⟩
    · rw [stp_add] at hi
      have hpr' : t.probe (fun i => (es[i]?.map (·.1)).getD 0) (hk P w k) (st.getD (t.probeStart (hk P w k))) = some (.candidate (stp t (hk P w k) (c + q)).j i (stp t (hk P w k) (c + (q + 1)))) := by
        rw [hst, ← stp_add, ← stp_add]
        exact hpr
      rw [hpr']
      dsimp only
      have hil : i < L.length := by
        have h1 : i < t.place.toList.length := (List.getElem?_eq_some_iff.mp hi).1
        rw [Array.length_toList, R.places] at h1
        exact h1
      obtain ⟨p, hp⟩ : ∃ p, L[i]? = some p := ⟨_, List.getElem?_eq_getElem hil⟩
      have hpt := R.mem p (List.mem_of_getElem? hp)
      have live : t.slot (stp t (hk P w k) (c + q)).j = .live i := slot_live R.tab.ris hi
      have rest : wpAny (model P w) A (searchRest a (.ref x) (hk P w k) adding f es t (stp t (hk P w k) (c + q)).j i (stp t (hk P w k) (c + (q + 1)))) Q E s := by
        unfold searchRest
        rw [R.row hp]
        dsimp only
        refine wpAny_bind (wpAny_holding ((nestedKind P w).eqBool hu hpt hx ?_))
        refine wpAny_bind (wpAny_setState_of ho hd R.fits ?_)
        dsimp only
        by_cases hkk : p.2 = k
        · have hm : k ∈ L.map (·.2) := List.mem_map.mpr ⟨p, List.mem_of_getElem? hp, hkk⟩
          cases adding with
          | true => exact wp_if_pos (by simp [hkk]) (wpAny_pure (hin hm _ (fun _ => rfl) (fun z => nomatch z)))
          | false =>
            refine wp_if_neg (by simp) ?_
            rw [sameMem]
            dsimp only
            simp only [if_true, live, R.row hp]
            refine wpAny_bind (wpAny_isSame_ref_self (wpAny_bind (wpAny_pure ?_)))
            simp only [if_true]
            exact wp_if_pos (by simp [hkk]) (wpAny_pure (hin hm _ (fun z => nomatch z) (fun _ => rfl)))
        · refine wp_if_neg (by simp [hkk]) ?_
          rw [sameMem]
          dsimp only
          simp only [if_true, live, R.row hp]
          refine wpAny_bind (wpAny_isSame_ref_self (wpAny_bind (wpAny_pure ?_)))
          simp only [if_true]
          refine wp_if_neg (by simp [hkk]) ?_
          refine ih (c + (q + 1)) _ rfl (by omega) (by omega) fun i0 p0 h0 hk0 => ?_
          obtain ⟨c', a1, a2, a3⟩ := hre i0 p0 h0 hk0
          refine ⟨c', ?_, a2, a3⟩
          rcases Nat.lt_trichotomy c' (c + q) with z | z | z
          · refine absurd (found i0 p0 h0 hk0) (hno (c' - c) i0 (by omega) ?_)
            rw [stp_add, show c + (c' - c) = c' by omega]
            exact a3
          · rw [z] at a3
            have := slot_live R.tab.ris a3
            rw [show t.slot (way t.mask (hk P w k) (c + q)) = .live i from live] at this
            cases this
            rw [hp] at h0
            cases h0
            exact absurd hk0 hkk
          · omega
      by_cases hl : t.led = true
      · exact wp_if_neg (by simp [hl]) rest
      · refine wp_if_pos (by simp [hl]) (wpAny_bind (unseen hx (fun y hy => ?_) (wp_if_neg (by decide) rest)))
        obtain ⟨e, he, rfl⟩ := List.mem_map.mp hy
        have he2 : e ∈ es.toList := by
          have : e ∈ es ∧ e.1 = hk P w k := by simpa using he
          simpa using this.1
        rw [R.rows] at he2
        obtain ⟨p2, hp2, rfl⟩ := List.mem_map.mp he2
        exact ⟨p2.2, p2.1, rfl, R.mem p2 hp2⟩
    · have hpr' : t.probe (fun i => (es[i]?.map (·.1)).getD 0) (hk P w k) (st.getD (t.probeStart (hk P w k))) = some (.empty (stp t (hk P w k) K).j none) := by
        rw [hst]
        have := hpr
        rw [stp_add, hcK] at this
        exact this
      rw [hpr']
      refine wpAny_pure (hout fun hm => ?_)
      obtain ⟨p0, h0, hk0⟩ := List.mem_map.mp hm
      obtain ⟨i0, h00⟩ := List.mem_iff_getElem?.mp h0
      obtain ⟨c', a1, a2, a3⟩ := hre i0 p0 h00 hk0
      refine absurd (found i0 p0 h00 hk0) (hno (c' - c) i0 (by omega) ?_)
      rw [stp_add, show c + (c' - c) = c' by omega]
      exact a3
theorem srch (R : NSet P w s.heap a L es ep t) {x : Addr} {k : NestedKey} (hx : IsK P w s.heap k x) (hu : A.units + 8 < cLine) (adding : Bool) {Q : SetFound → Shared → Prop}
    (hin : k ∈ L.map (·.2) → ∀ r, (adding = true → r = none) → (adding = false → r.isSome = true) → Q (.there r) s)
    (hout : k ∉ L.map (·.2) → ∀ K, way t.mask (hk P w k) K ∉ t.place.toList → (∀ c, c < K → way t.mask (hk P w k) c ∈ t.place.toList) → Q (.free (way t.mask (hk P w k) K) false) s) :
    wpAny (model P w) A (setSearch a (.ref x) (hk P w k) adding) Q E s := by
  have hroom := R.room
  obtain ⟨K, hKf, hK, hKb⟩ := R.tab.first (by rw [List.length_map]; omega) (hk P w k)
  have hbig : K < 100000 := by
    have : 10 * SetTable.turns t.mask ≤ 1420 := by
      unfold SetTable.turns
      rcases R.tab.mok with e | e | e <;> omega
    omega
  unfold setSearch
  refine srch_go R hx hu adding hKf hK hKb hin (fun z => hout z K hK hKb) 100000 0 none rfl (Nat.zero_le _) (by omega) fun i p hp e => ?_
  have hi : (L.map fun p => hk P w p.2)[i]? = some (hk P w k) := by rw [List.getElem?_map, hp, ← e]; rfl
  obtain ⟨j, hj⟩ : ∃ j, t.place.toList[i]? = some j := ⟨_, List.getElem?_eq_getElem (by
    rw [Array.length_toList, R.places]
    exact (List.getElem?_eq_some_iff.mp hp).1)⟩
  obtain ⟨c, hc, ec⟩ := R.tab.before hK hi hj
  exact ⟨c, Nat.zero_le _, hc, by rw [hj, ec]⟩
end
end NS
end Bt
namespace Bt
namespace NS
open PySem PySem.Spec PyProof.Rows L2
/-! ### a tuple put into a set of tuples -/
section
variable {α β : Type}
theorem range_pick (L : List α) : (List.range L.length).filterMap (fun i => L[i]?) = L := by
  have go : ∀ n, n ≤ L.length → (List.range n).filterMap (fun i => L[i]?) = L.take n := fun n => by
    induction n with
    | zero => exact fun _ => rfl
    | succ n ih =>
      intro hn
      rw [List.range_succ, List.filterMap_append, ih (by omega), List.take_add_one]
      congr 1
  rw [go _ (Nat.le_refl _), List.take_length]
theorem pick_perm (L : List α) {ord : List Nat} (h : ord.Perm (List.range L.length)) : (ord.filterMap fun i => L[i]?).Perm L := by
  have := h.filterMap (fun i => L[i]?)
  rwa [range_pick] at this
theorem pick_map (L : List α) (g : α → β) (ord : List Nat) : (ord.filterMap fun i => (L.map g)[i]?) = (ord.filterMap fun i => L[i]?).map g := by
  rw [List.map_filterMap]
  congr 1
  funext i
  rw [List.getElem?_map]
theorem pick_getD (L : List α) (g : α → β) (z : β) : ∀ ord : List Nat, (∀ i ∈ ord, i < L.length) → (ord.map fun i => (L.map g).getD i z) = (ord.filterMap fun i => L[i]?).map g
  | [], _ => rfl
  | i :: ord, h => by
    have hi := h i List.mem_cons_self
    rw [List.map_cons, pick_getD L g z ord fun j hj => h j (List.mem_cons_of_mem _ hj), List.filterMap_cons_some (List.getElem?_eq_getElem hi), List.map_cons]
    congr 1
    rw [List.getD_eq_getElem?_getD, List.getElem?_map, List.getElem?_eq_getElem hi]
    rfl
theorem ins_perm (L : List α) (p : Nat) (x : α) : (L.take p ++ x :: L.drop p).Perm (x :: L) := by
  refine List.perm_middle.trans ?_
  rw [List.take_append_drop]
end
section
variable {P : Program} {w : World} {A : Around} {E : Value → Shared → Prop} {s : Shared} {a : Addr} {L : List (Addr × NestedKey)} {es : Array (Int × Value)} {ep : Nat} {t : SetTable}
theorem key_same {h h' : Heap} {k : NestedKey} {b : Addr} {o : Obj} (hb : IsK P w h k b) (ho : h.get? a = some o) (hd : o.data = .set es ep t) (hs : Heap.SameBut a h h') : IsK P w h' k b :=
  nestedKind_stays.stays (fun c oc vs n hc hv => (hs.2 c fun z => by
    subst z
    rw [ho] at hc
    cases hc
    rw [hd] at hv
    cases hv).trans hc) hb
theorem relay {o : Obj} (ho : s.heap.get? a = some o) (hex : o.ExactSet) (hd : o.data = .set es ep t) (hrows : es.toList = L.map fun p => (hk P w p.2, Value.ref p.1)) (hsz : t.place.size = es.size) (hdm : t.dummies = #[]) (hfl : es.size ≤ t.mask)
    (nd : (L.map (·.2)).Nodup) (mem : ∀ p ∈ L, IsK P w s.heap p.2 p.1) (ld : w.params.followText "set-order" = true ∨ t.led = true) (few : L.length < 64) {wanted M : Nat}
    (hw : SetTable.sizeAbove wanted - 1 = M) (hM : MaskOk M) (hw2 : SetTable.sizeAbove wanted ≤ 128) (hn : L.length * 5 < M * 3) {Q : Unit → Shared → Prop}
    (hQ : ∀ h' L' es' ep' t', Heap.SameBut a s.heap h' → NSet P w h' a L' es' ep' t' → L'.Perm L → Q () { s with heap := h' }) : wpAny (model P w) A (setRelay a wanted) Q E s := by
  have hsl : es.size = L.length := by rw [← Array.length_toList, hrows, List.length_map]
  have fits : t.fits es.size = true := by
    unfold SetTable.fits SetTable.fill
    rw [hdm, Bool.and_eq_true, beq_iff_eq, decide_eq_true_eq]
    exact ⟨hsz, by show t.place.size + 0 ≤ t.mask; omega⟩
  obtain ⟨t', order, e, hp, T, em, eld, _, ed⟩ := relaid_ok t (hs := es.map (·.1)) (wanted := wanted) hw hM (by rw [Array.size_map, hsl]; omega)
  rw [Array.size_map, hsl] at hp
  have pm := pick_perm L hp
  have r1 : (order.filterMap (es[·]?)).toList = (order.toList.filterMap fun i => L[i]?).map fun p => (hk P w p.2, Value.ref p.1) := by
    rw [Array.toList_filterMap, ← pick_map, ← hrows]
    congr 1
    funext i
    rw [Array.getElem?_toList]
  have r3 : (order.toList.map fun i => (es.map (·.1)).getD i 0) = (order.toList.filterMap fun i => L[i]?).map fun p => hk P w p.2 := by
    rw [← pick_getD L (fun p => hk P w p.2) 0 order.toList fun i hi => List.mem_range.mp (hp.mem_iff.mp hi)]
    congr 1
    funext i
    have ee : es.map (·.1) = (L.map fun p => hk P w p.2).toArray := by
      apply Array.toList_inj.mp
      rw [Array.toList_map, hrows, List.map_map]
      rfl
    rw [ee]
    simp [Array.getD_eq_getD_getElem?, List.getD_eq_getElem?_getD]
  rw [r3] at T
  have hs2 : (order.filterMap (es[·]?)).size = es.size := by
    rw [← Array.length_toList, r1, List.length_map, pm.length_eq, hsl]
  rw [setRelay_eq]
  refine wpAny_bind (wpAny_setState_of ho hd fits ?_)
  dsimp only
  refine wp_if_neg (by rw [sizeLine_eq]; omega) ?_
  rw [e]
  dsimp only
  refine wpAny_bind (wp_if_neg (by rw [hs2]; simp) ?_)
  refine wpAny_pure ?_
  dsimp only
  refine wpAny_storeSet_of ho hd ?_ (by rw [hs2, hsl, sizeLine_eq]; omega)
  have sb : Heap.SameBut a s.heap (s.heap.update a (Obj.putSet (order.filterMap (es[·]?)) t')) := Heap.SameBut.update ..
  refine hQ _ _ _ (ep + 1) t' sb ⟨⟨_, store_at ho hd, ⟨hex.1, hex.2.1, hex.2.2⟩, rfl⟩, r1, T, (pm.map (·.2)).nodup_iff.mpr nd, fun p hpm => key_same (mem p (pm.mem_iff.mp hpm)) ho hd sb, by rw [eld]; exact ld, ?_, ?_⟩ pm
  · rw [pm.length_eq, em]
    exact hn
  · rw [pm.length_eq]
    exact few
theorem put_in (R : NSet P w s.heap a L es ep t) {x : Addr} {k : NestedKey} (hx : IsK P w s.heap k x) (hu : A.units + 8 < cLine) (few : L.length + 1 < 64) {Q : Bool → Shared → Prop}
    (hQ : ∀ b h' L' es' ep' t', Heap.SameBut a s.heap h' → NSet P w h' a L' es' ep' t' → (k ∈ L.map (·.2) → L' = L) → (k ∉ L.map (·.2) → L'.Perm ((x, k) :: L)) → Q b { s with heap := h' }) :
    wpAny (model P w) A (setAddHashed a (.ref x) (hk P w k)) Q E s := by
  obtain ⟨o, ho, hex, hd⟩ := R.ob
  have hsl := R.size
  have hroom := R.room
  unfold setAddHashed
  refine wpAny_holding ?_
  rw [show (100000 : Nat) = 99999 + 1 from rfl, setAddHashedIn_succ]
  refine wpAny_bind (wpAny_setState_of ho hd R.fits ?_)
  dsimp only
  refine wp_if_neg (by simp [byScan, Value.scannable]) ?_
  refine wpAny_bind (srch R hx hu true (fun hm r hr _ => ?_) fun hm K hK hb => ?_)
  · exact wpAny_pure (hQ false s.heap L es ep t (Heap.SameBut.refl a s.heap) R (fun _ => rfl) fun z => absurd hm z)
  · dsimp only
    refine wpAny_bind (wpAny_setState_of ho hd R.fits ?_)
    dsimp only
    obtain ⟨q1, q2, q3, q4, q5, _, _, _, q9⟩ := R.tab.put hK hb
    generalize hpt : t.put (way t.mask (hk P w k) K) = pt at q1 q3 q4 q5 q9 ⊢
    obtain ⟨t1, p⟩ := pt
    dsimp only at q1 q3 q4 q5 q9 ⊢
    subst q1
    have hrow : (SetTable.insertAt es (SetTable.below t.place (way t.mask (hk P w k) K)) (hk P w k, Value.ref x)).toList = (L.take (SetTable.below t.place (way t.mask (hk P w k) K)) ++ (x, k) :: L.drop (SetTable.below t.place (way t.mask (hk P w k) K))).map fun p => (hk P w p.2, Value.ref p.1) := by
      rw [SetTable.toList_insertAt, R.rows, List.map_append, List.map_cons, List.map_take, List.map_drop]
    have hmid : (L.map fun p => hk P w p.2).take (SetTable.below t.place (way t.mask (hk P w k) K)) ++ hk P w k :: (L.map fun p => hk P w p.2).drop (SetTable.below t.place (way t.mask (hk P w k) K)) =
        (L.take (SetTable.below t.place (way t.mask (hk P w k) K)) ++ (x, k) :: L.drop (SetTable.below t.place (way t.mask (hk P w k) K))).map fun p => hk P w p.2 := by
      rw [List.map_append, List.map_cons, List.map_take, List.map_drop]
    rw [hmid] at q3
    have pm := ins_perm L (SetTable.below t.place (way t.mask (hk P w k) K)) (x, k)
    generalize hes1 : SetTable.insertAt es (SetTable.below t.place (way t.mask (hk P w k) K)) (hk P w k, Value.ref x) = es1 at hrow ⊢
    generalize L.take (SetTable.below t.place (way t.mask (hk P w k) K)) ++ (x, k) :: L.drop (SetTable.below t.place (way t.mask (hk P w k) K)) = L1 at pm hrow q3
    have len : L1.length = L.length + 1 := pm.length_eq
    have size1 : es1.size = L.length + 1 := by rw [← Array.length_toList, hrow, List.length_map, len]
    have nd1 : (L1.map (·.2)).Nodup := (pm.map (·.2)).nodup_iff.mpr (by rw [List.map_cons]; exact List.nodup_cons.mpr ⟨hm, R.nd⟩)
    have after : ∀ t2 : SetTable, TabOk t2 (L1.map fun p => hk P w p.2) → t2.mask = t.mask → t2.fill = L.length + 1 → t2.led = t.led → wpAny (model P w) A (do
        storeSet a es1 t2
        if (!false && t2.tooFull) = true then do
            setRelay a (SetTable.grown (es.size + 1))
            pure true
          else pure true) Q E s := fun t2 T2 m2 f2 l2 => by
      have ld2 : w.params.followText "set-order" = true ∨ t2.led = true := by rw [l2]; exact R.led
      refine wpAny_bind (wpAny_storeSet_of ho hd ?_ (by rw [size1, sizeLine_eq]; omega))
      have sb : Heap.SameBut a s.heap (s.heap.update a (Obj.putSet es1 t2)) := Heap.SameBut.update ..
      have ho1 := store_at (es' := es1) (t' := t2) ho hd
      generalize s.heap.update a (Obj.putSet es1 t2) = h1 at sb ho1 ⊢
      have mem1 : ∀ p ∈ L1, IsK P w h1 p.2 p.1 := fun p hp => by
        rcases List.mem_cons.mp (pm.mem_iff.mp hp) with rfl | hp
        · exact key_same hx ho hd sb
        · exact key_same (R.mem p hp) ho hd sb
      by_cases hf : t2.tooFull = true
      · refine wp_if_pos (by simp [hf]) (wpAny_bind ?_)
        have full : (L.length + 1) * 5 ≥ t2.mask * 3 := by
          have h := hf
          unfold SetTable.tooFull at h
          rw [decide_eq_true_eq, f2] at h
          exact h
        have hsz1 : t2.place.size = es1.size := by rw [T2.sz, List.length_map, len, size1]
        rw [hsl]
        have two : (t.mask = 7 ∧ L.length = 4) ∨ (t.mask = 31 ∧ L.length = 18) := by
          rcases R.tab.mok with e | e | e <;> rw [m2, e] at full <;> rw [e] at hroom <;> omega
        have go : ∀ M, SetTable.sizeAbove (SetTable.grown (L.length + 1)) - 1 = M → MaskOk M → SetTable.sizeAbove (SetTable.grown (L.length + 1)) ≤ 128 → (L.length + 1) * 5 < M * 3 →
            wpAny (model P w) A (setRelay a (SetTable.grown (L.length + 1))) (fun _ s' => wpAny (model P w) A (pure true) Q E s') E { s with heap := h1 } := fun M z1 z2 z3 z4 => by
          refine relay (s := { s with heap := h1 }) ho1 ⟨hex.1, hex.2.1, hex.2.2⟩ rfl hrow hsz1 T2.dm (by rw [size1, m2]; rcases two with ⟨e, e2⟩ | ⟨e, e2⟩ <;> omega) nd1 mem1 ld2 (by rw [len]; exact few) z1 z2 z3 (by rw [len]; exact z4) ?_
          exact fun h2 L2 es2 ep2 t3 sb2 R2 pm2 => wpAny_pure (hQ true h2 L2 es2 ep2 t3 (sb.trans sb2) R2 (fun z => absurd z hm) fun _ => pm2.trans pm)
        rcases two with ⟨_, e2⟩ | ⟨_, e2⟩
        · exact go 31 (by rw [e2, size_20]) (.inr (.inl rfl)) (by rw [e2, size_20]; decide) (by omega)
        · exact go 127 (by rw [e2, size_76]) (.inr (.inr rfl)) (by rw [e2, size_76]; decide) (by omega)
      · refine wp_if_neg (by simp [hf]) (wpAny_pure (hQ true h1 L1 es1 (ep + 1) t2 sb ⟨⟨_, ho1, ⟨hex.1, hex.2.1, hex.2.2⟩, rfl⟩, hrow, T2, nd1, mem1, ld2, ?_, by rw [len]; exact few⟩ (fun z => absurd z hm) fun _ => pm))
        have h := hf
        unfold SetTable.tooFull at h
        rw [decide_eq_true_eq, f2] at h
        rw [len]
        omega
    have f1 : t1.fill = L.length + 1 := by rw [q9, List.length_map]
    have q3' : TabOk { t1 with plain := false } (L1.map fun p => hk P w p.2) := ⟨q3.ris, q3.dm, q3.sz, q3.mok, q3.bd, q3.reach⟩
    by_cases hpl : t1.plain = true
    · refine wp_if_pos hpl (wpAny_bind (byValue_key hx fun c => ?_))
      cases c
      · exact after _ q3' q4 f1 q5
      · exact after _ q3 q4 f1 q5
    · exact wp_if_neg hpl (wpAny_bind (wpAny_pure (after _ q3 q4 f1 q5)))
/-- the set at a, its members told by their places; that these hold the tuples is told apart -/
def NS0 (P : Program) (w : World) (h : Heap) (a : Addr) (L : List (Addr × NestedKey)) : Prop := ∃ (es : Array (Int × Value)) (ep : Nat) (t : SetTable), (∃ o, h.get? a = some o ∧ o.ExactSet ∧ o.data = .set es ep t) ∧ (es.toList = L.map fun p => (hk P w p.2, Value.ref p.1)) ∧
  TabOk t (L.map fun p => hk P w p.2) ∧ (L.map (·.2)).Nodup ∧ (w.params.followText "set-order" = true ∨ t.led = true) ∧ L.length * 5 < t.mask * 3 ∧ L.length < 64
theorem NSet.bare {h : Heap} (R : NSet P w h a L es ep t) : NS0 P w h a L := ⟨es, ep, t, R.ob, R.rows, R.tab, R.nd, R.led, R.room, R.few⟩
theorem NS0.full {h : Heap} (R : NS0 P w h a L) (m : ∀ p ∈ L, IsK P w h p.2 p.1) : ∃ es ep t, NSet P w h a L es ep t := let ⟨es, ep, t, h1, h2, h3, h4, hl, h5, h6⟩ := R; ⟨es, ep, t, h1, h2, h3, h4, m, hl, h5, h6⟩
def SetN (P : Program) (w : World) (a : Addr) (L : List (Addr × NestedKey)) : HO := .ext fun h => NS0 P w h a L
theorem setKO_new {H : Hp} {h : Heap} (R : NS0 P w h a L) : ObjOk P w H h a (SetN P w a L) := by
  refine ⟨R, ?_, fun h1 h2 x k => ?_⟩
  · obtain ⟨_, _, _, ⟨o, ho, _⟩, _⟩ := R
    exact ⟨o, ho⟩
  · obtain ⟨es, ep, t, ⟨o, ho, r⟩, r2⟩ := x
    exact ⟨es, ep, t, ⟨o, k o ho, r⟩, r2⟩
theorem fresh_set {h : Heap} : NS0 P w (h.push { cls := .type "set", dict := none, data := .set #[] 0 (.fresh 0 0 (!w.params.followText "set-order")) }) h.objs.size [] := by
  refine ⟨#[], 0, _, ⟨_, Heap.get?_push_size _ rfl, ⟨rfl, rfl, rfl⟩, rfl⟩, rfl, ⟨List.Pairwise.nil, rfl, rfl, .inl rfl, fun x hx => (by cases hx), fun i h j hi => (by simp at hi)⟩, List.nodup_nil, ?_, ?_, by decide⟩
  · show _ ∨ (!w.params.followText "set-order") = true
    cases w.params.followText "set-order"
    · exact .inr rfl
    · exact .inl rfl
  · show 0 * 5 < 7 * 3
    decide
end
section
variable {X : Cx} {pins : List (Addr × Obj)} {σ : L2.St} {H : Hp} {s : Shared} {E : Value → Shared → Prop}
/-- the members are tracked -/
def Mem (H : Hp) (L : List (Addr × NestedKey)) : Prop := ∀ p ∈ L, KeyN H p.1 p.2
theorem set_get {a : Addr} {L : List (Addr × NestedKey)} (I : Inv X pins σ H s) (ha : H a = some (SetN X.prog X.w a L)) (m : Mem H L) : ∃ es ep t, NSet X.prog X.w s.heap a L es ep t := (I.hok a _ ha).1.full fun p hp => (m p hp).is I.hok
theorem set_add {D b : Addr} {L : List (Addr × NestedKey)} {k : NestedKey} {Q : Value → Shared → Prop} (I : Inv X pins σ H s) (hu : X.A.units + 64 < cLine) (hD : H D = some (SetN X.prog X.w D L)) (m : Mem H L) (hb : KeyN H b k) (few : L.length + 1 < 64)
    (h : ∀ s' L', (k ∈ L.map (·.2) → L' = L) → (k ∉ L.map (·.2) → L'.Perm ((b, k) :: L)) → Inv X pins σ (upd H D (SetN X.prog X.w D L')) s' → Q .none s') : wpAny (model X.prog X.w) X.A (call (.builtin "set.add") [.ref D, .ref b]) Q E s := by
  obtain ⟨es, ep, t, R⟩ := set_get I hD m
  obtain ⟨o, ho, hex, hd⟩ := id R.ob
  have ty : s.TypeIs (.ref D) "set" := ⟨o, ho, hex.1⟩
  refine wpAny_call_entry F.slot_set_add ty F.entry_set_add ?_ (F.args_set_add_2 _ _)
  unfold Builtin.«set.add» Builtin.Frozenset.oneOther
  simp only [List.isEmpty_nil, bind_assoc]
  unfold Builtin.Frozenset.addrOf setAdd
  refine wpAny_bind (wpAny_pure ?_)
  try dsimp only
  refine wpAny_bind (wpAny_pure ?_)
  try dsimp only
  refine wpAny_bind (wpAny_holding ?_)
  refine wpAny_bind ((nestedKind X.prog X.w).pyHash (k := k) ?_ (hb.is I.hok) ?_)
  · show X.A.in1.units + 8 < cLine
    simp only [Around.in1]
    omega
  refine put_in (s := { s with toks := s.toks + (nestedKind X.prog X.w).draws k }) R (hb.is I.hok) ?_ few fun b' h' L' es' ep' t' sb R' c1 c2 => ?_
  · show X.A.in1.units + 8 < cLine
    simp only [Around.in1]
    omega
  show wpAny _ _ (ret Value.none) _ _ _
  have he : ∃ u, h'.get? D = some u := by
    obtain ⟨o', ho', _⟩ := R'.ob
    exact ⟨o', ho'⟩
  exact wpAny_pure ⟨_, rfl, h _ L' c1 c2 (I.write (e := D) (t' := s.toks + (nestedKind X.prog X.w).draws k) (by rw [hD]; trivial) (.inl rfl) (fun b u hb hu => (sb.2 b hb).trans hu) he (setKO_new R'.bare))⟩
end
end NS
end Bt
namespace Bt
namespace NS
open PySem PySem.Spec PyProof.Rows L2
/-! ### {k for .. in ..}, k a tuple of texts; its length -/
/-- what one turn gives: a tuple put in -/
def addN (P : Program) (w : World) (D : Addr) (y : V) (H : Hp) (N : Hp → Prop) : Prop := ∃ (b : Addr) (k : NestedKey) (L : List (Addr × NestedKey)), y = .ref b ∧ KeyN H b k ∧ H D = some (SetN P w D L) ∧ Mem H L ∧ L.length + 1 < 64 ∧
  ∀ L', (k ∈ L.map (·.2) → L' = L) → (k ∉ L.map (·.2) → L'.Perm ((b, k) :: L)) → N (upd H D (SetN P w D L'))
def tScN (P : Program) (w : World) (wi : TI) (g : TG) (tt : TT) (te : TE) (vs : List Nat) : TE := fun σ H Q => wi σ H fun J H1 => ∀ D, H1 D = none → ∃ W : Nat → Nat → Hp → Prop, (∃ m, W 0 m (upd H1 D (SetN P w D []))) ∧ ∀ i m H, W i m H →
  (J.stop i H ∧ Q (.ref D) H) ∨ (J.go i H ∧ ∃ Nx : Hp → Prop, (∀ H', Nx H' → ∃ m', m' < m ∧ W (i + 1) m' H') ∧ ∀ x H', J.yld i H x H' → g x (wipe σ vs) H' fun σ2 H2 => wipe σ2 vs = wipe σ vs ∧ tt σ2 H2 fun b H3 =>
    if b = true then te σ2 H3 fun y H4 => addN P w D y H4 Nx else Nx H3)
section
variable {X : Cx}
theorem addN_ok {X' : Cx} {pins : List (Addr × Obj)} {σ : L2.St} {H : Hp} {s : Shared} {D : Addr} {y : V} {u : Value} {N : Hp → Prop} {E : Value → Shared → Prop} {Q : Value → Shared → Prop} (I : Inv X' pins σ H s) (hu : X'.A.units + 64 < cLine) (r : RelV y u) (h : addN X'.prog X'.w D y H N)
    (q : ∀ s' H', Inv X' pins σ H' s' → N H' → Q .none s') : wpAny (model X'.prog X'.w) X'.A (call (.builtin "set.add") [.ref D, u]) Q E s := by
  obtain ⟨b, k, L, rfl, hb, hD, m, few, n⟩ := h
  cases r
  exact set_add I hu hD m hb few fun s' L' c1 c2 I' => q s' _ I' (n L' c1 c2)
theorem scN_run {pins : List (Addr × Obj)} {σ : L2.St} {Q : VK} {elt tg iter : Expr} {ifs : List Expr} {scope : Scope} {own : List (Str × Nat)} {pos : Pos} {g : TG} {tt : TT} {te : TE} {J : It} {fp : List Addr} {it D : Addr} {tn : Nat → Heap → Prop} {s3 : Shared} {H3 : Hp} {W : Nat → Nat → Hp → Prop} {m0 : Nat}
    (hc : X.calm = true) (hu : X.A.units + 64 < cLine) (hN : X.N.Nodup) (ok : BlkOk X.N X.env.scope scope own)
    (hg : ∀ (s : Shared) (H : Hp) (C : Addr) (cl : List (Str × Addr)) (fp : List Addr), PG (X.blk s H scope (compEnvC scope cl C X.env) fp) tg g) (ht : ∀ (s : Shared) (H : Hp) (C : Addr) (cl : List (Str × Addr)) (fp : List Addr), PTs (X.blk s H scope (compEnvC scope cl C X.env) fp) ifs tt)
    (he : ∀ (s : Shared) (H : Hp) (C : Addr) (cl : List (Str × Addr)) (fp : List Addr), PE (X.blk s H scope (compEnvC scope cl C X.env) fp) elt te)
    (T : Turn X.prog X.w X.K tg J fp it tn) (I3 : Inv X pins σ H3 s3) (f3 : ∀ b ∈ fp, FpOk X pins H3 b ∧ b < s3.heap.objs.size) (st3 : tn 0 s3.heap) (w0 : W 0 m0 H3)
    (turn : ∀ i m H, W i m H → (J.stop i H ∧ Q (.ref D) H) ∨ (J.go i H ∧ ∃ Nx : Hp → Prop, (∀ H', Nx H' → ∃ m', m' < m ∧ W (i + 1) m' H') ∧ ∀ x H', J.yld i H x H' → g x (wipe σ (own.map (·.2))) H' fun σ2 H2 => wipe σ2 (own.map (·.2)) = wipe σ (own.map (·.2)) ∧ tt σ2 H2 fun b H3 =>
      if b = true then te σ2 H3 fun y H4 => addN X.prog X.w D y H4 Nx else Nx H3)) :
    codeAny (model X.prog X.w) X.A (.compStart (.SetComp elt [⟨tg, iter, ifs, 0⟩] scope pos) 0 (.ref it) (.ref D) (compEnvC scope (cellsFrom (s3.heap.objs.size + 1) scope.names (cloFrom X.env.cells scope.names [])) s3.heap.objs.size X.env))
      (compPost (model X.prog X.w) X.A X.xe none (EP X pins σ Q) (.ref D) s3.heap.objs.size) { s3 with heap := pushCells (s3.heap.push { cls := .type "dict", data := .dict #[] }) scope.names } := by
  have I4 := block_start I3 ok hN f3
  obtain ⟨cells, hcells⟩ : ∃ c, c = cellsFrom (s3.heap.objs.size + 1) scope.names (cloFrom X.env.cells scope.names []) := ⟨_, rfl⟩
  rw [← hcells] at I4 ⊢
  have pg := hg s3 H3 s3.heap.objs.size cells fp
  have pt := ht s3 H3 s3.heap.objs.size cells fp
  have pe := he s3 H3 s3.heap.objs.size cells fp
  have cL : (compEnvC scope cells s3.heap.objs.size X.env).locals = s3.heap.objs.size := rfl
  generalize compEnvC scope cells s3.heap.objs.size X.env = ce at I4 pg pt pe cL ⊢
  have st4 : tn 0 ({ s3 with heap := pushCells (s3.heap.push { cls := .type "dict", data := .dict #[] }) scope.names } : Shared).heap := T.keep _ _ (pushCells (s3.heap.push { cls := .type "dict", data := .dict #[] }) scope.names) st3 fun b _ o e => pushCells_keeps _ _ _ _ (Heap.get?_push_of_some _ e)
  have own' : ∀ {σ' : L2.St} {H' : Hp} {s' : Shared}, Inv (X.blk s3 H3 scope ce fp) [] σ' H' s' → (∀ b ∈ fp, H' b = none) → ∀ b ∈ fp, FpOk (X.blk s3 H3 scope ce fp) [] H' b := fun I' hn b hb =>
    ⟨hn b hb, (I'.ok.exf b hb).1, I'.ok.exfs b hb, .inl hb, fun x c e => (I'.ok.exf b hb).2 x c e, fun p hp => nomatch hp⟩
  generalize ({ s3 with heap := pushCells (s3.heap.push { cls := .type "dict", data := .dict #[] }) scope.names } : Shared) = s4 at I4 st4 ⊢
  have nofp : ∀ b ∈ fp, H3 b = none := fun b hb => (f3 b hb).1.1
  have loop : codeAny (model X.prog X.w) X.A (.compLoop (.SetComp elt [⟨tg, iter, ifs, 0⟩] scope pos) 0 (.ref it) (.ref D) ce) (compPost (model X.prog X.w) X.A X.xe none (EP X pins σ Q) (.ref D) s3.heap.objs.size) s4 := by
    refine PpSet.compLoopS_any (fun n s' => ∃ i H', Inv (X.blk s3 H3 scope ce fp) [] (wipe σ (own.map (·.2))) H' s' ∧ tn i s'.heap ∧ (∀ b ∈ fp, H' b = none) ∧ W i n H') ?_ m0 ⟨0, H3, I4, st4, nofp, w0⟩
    rintro n s5 ⟨i, H5, I5, st5, n5, w5⟩
    rcases turn i n H5 w5 with ⟨stop, qq⟩ | ⟨go, Nx, hNx, step⟩
    · refine thnF (T.done (X.blk s3 H3 scope ce fp) rfl rfl rfl hc i [] s5 _ H5 (fun _ _ => False) I5 (own' I5 n5) st5 stop) fun r s6 ⟨hr, I6⟩ => ?_
      subst hr
      have I7 : Inv X pins σ H5 s6 := I3.call' (ch := fp) I6.os I6.base I6.hok I6.bare fun b hb => ⟨(f3 b hb).1.2.2.2.1, (f3 b hb).1.2.1, (f3 b hb).1.2.2.2.2.1, (f3 b hb).1.2.2.2.2.2⟩
      have nC : H5 s3.heap.objs.size = none := cL ▸ (show H5 ce.locals = none from I6.free)
      obtain ⟨m, hn, _⟩ := I6.loc
      have hn' : s6.heap.Ns s3.heap.objs.size m := cL ▸ (show s6.heap.Ns ce.locals m from hn)
      obtain ⟨f0, f1, f2, f4, f5, f6⟩ := I3.fpOk (Nat.le_refl _) nC
      exact ⟨m, hn', fun h'' sb => ⟨.ref D, H5, I7.turned (t' := s6.toks) (fun b o hb e => (sb.2 b hb).trans e) f0 f1 f4 f5 f6, rfl, qq⟩⟩
    · refine thnF (T.item (X.blk s3 H3 scope ce fp) rfl rfl rfl hc i [] s5 _ H5 (fun _ _ => False) I5 (own' I5 n5) st5 go) fun r s6 ⟨u, hr, h6⟩ => ?_
      subst hr
      refine thnF h6 fun _ s7 ⟨x, H7, I7, r7, y7, st7, n7⟩ => ?_
      have I7' := I7.pinned (own' I7 n7) (T.obj _ _ st7)
      refine thnF (pg.run _ s7 _ H7 x u _ I7' r7 (step x H7 y7)) fun _ s8 ⟨σ8, H8, I8, hw8, q8⟩ => ?_
      refine thnF (pt.run _ s8 σ8 H8 _ I8 q8) fun b s9 ⟨H9, I9, q9⟩ => ?_
      have fin : ∀ {s' : Shared} {H' : Hp}, Inv (X.blk s3 H3 scope ce fp) ([] ++ pinsAt fp s7.heap) σ8 H' s' → Nx H' → ∃ m, m < n ∧ ∃ i H', Inv (X.blk s3 H3 scope ce fp) [] (wipe σ (own.map (·.2))) H' s' ∧ tn i s'.heap ∧ (∀ b ∈ fp, H' b = none) ∧ W i m H' := fun {s' H'} I' nx => by
        obtain ⟨m', hm, w'⟩ := hNx H' nx
        have pin : ∀ b ∈ fp, ∀ o, s7.heap.get? b = some o → s'.heap.get? b = some o ∧ H' b = none := fun b hb o e =>
          let z := I'.pin (b, o) (List.mem_append_right _ (List.mem_append_right _ (mem_pinsAt hb e)))
          ⟨z.1, z.2.1⟩
        refine ⟨m', hm, i + 1, H', (I'.unpinned (pins := [])).weak (by rw [← hw8, wipe_length]) (fun j v e => (wipe_some (hw8 ▸ e)).1), T.keep _ _ _ st7 fun b hb o e => (pin b hb o e).1, fun b hb => ?_, w'⟩
        obtain ⟨o, e, _⟩ := T.obj _ _ st7 b hb
        exact (pin b hb o e).2
      cases b with
      | false =>
        simp only [Bool.false_eq_true, if_false] at q9 ⊢
        exact fin I9 q9
      | true =>
        simp only [if_true] at q9 ⊢
        exact thnF (pe.run _ s9 σ8 H9 _ I9 q9) fun z s10 ⟨yv, H10, I10, r10, ad⟩ => addN_ok (X' := X.blk s3 H3 scope ce fp) I10 hu r10 ad fun s11 H11 I11 nx => fin I11 nx
  exact PpSet.codeAny_compStart_set loop (T.self X.A 0 _ _ _ st4 loop)
theorem pe_scN {elt tg iter : Expr} {ifs : List Expr} {scope : Scope} {own : List (Str × Nat)} {pos : Pos} {wi : TI} {g : TG} {tt : TT} {te : TE} (hc : X.calm = true) (hu : X.A.units + 64 < cLine) (hN : X.N.Nodup) (hi : PI X tg iter wi) (ok : BlkOk X.N X.env.scope scope own)
    (hg : ∀ (s : Shared) (H : Hp) (C : Addr) (cl : List (Str × Addr)) (fp : List Addr), PG (X.blk s H scope (compEnvC scope cl C X.env) fp) tg g) (ht : ∀ (s : Shared) (H : Hp) (C : Addr) (cl : List (Str × Addr)) (fp : List Addr), PTs (X.blk s H scope (compEnvC scope cl C X.env) fp) ifs tt)
    (he : ∀ (s : Shared) (H : Hp) (C : Addr) (cl : List (Str × Addr)) (fp : List Addr), PE (X.blk s H scope (compEnvC scope cl C X.env) fp) elt te) (hs : ∀ x, foldedSetIterable iter X.env x = pure x := by intro _; rfl) :
    PE X (.SetComp elt [⟨tg, iter, ifs, 0⟩] scope pos) (tScN X.prog X.w wi g tt te (own.map (·.2))) := by
  refine ⟨fun pins s σ H Q I h => ?_⟩
  rw [PpSet.eval_SetComp]
  have known : ∀ y ∈ scope.names, y.2 = .free → ∃ c, X.env.cells.lookup y.1 = some c := fun y hy e => I.ok.has _ (ok.free y hy e)
  refine wpAny_comprehension_free (use := none) rfl hs (closure_ok known) ok.kind (fun y hy e => by rw [ok.uniq y hy, e]) (thn (hi.run pins s σ H _ I h) fun xv s1 hx => thn hx fun itv s2 ⟨it, fp, tn, J, H2, ei, I2, T, st2, f2, q⟩ => ?_)
  subst ei
  refine PpSet.newSet_ok (newEnv_comp ?_)
  have hDn : H2 s2.heap.objs.size = none := I2.hok.fresh (Nat.le_refl _)
  obtain ⟨W, ⟨m0, w0⟩, turn⟩ := q _ hDn
  have I3 : Inv X pins σ (upd H2 s2.heap.objs.size (SetN X.prog X.w s2.heap.objs.size [])) { s2 with heap := s2.heap.push { cls := .type "set", dict := none, data := .set #[] 0 (.fresh 0 0 (!X.w.params.followText "set-order")) } } :=
    I2.laid (t' := s2.toks) (fun b o e => Heap.get?_push_of_some _ e) (Nat.le_refl _) (setKO_new fresh_set)
  have f3 : ∀ b ∈ fp, FpOk X pins (upd H2 s2.heap.objs.size (SetN X.prog X.w s2.heap.objs.size [])) b ∧ b < (s2.heap.push { cls := .type "set", dict := none, data := .set #[] 0 (.fresh 0 0 (!X.w.params.followText "set-order")) }).objs.size := fun b hb => by
    obtain ⟨o, e, _⟩ := T.obj _ _ st2 b hb
    have lt := Heap.lt_size e
    refine ⟨⟨by rw [upd_ne (Nat.ne_of_lt lt)]; exact (f2 b hb).1, (f2 b hb).2⟩, by rw [Heap.size_push]; exact Nat.lt_succ_of_lt lt⟩
  have st3 := T.keep _ _ (s2.heap.push { cls := .type "set", dict := none, data := .set #[] 0 (.fresh 0 0 (!X.w.params.followText "set-order")) }) st2 fun b _ o e => Heap.get?_push_of_some _ e
  exact scN_run (pos := pos) hc hu hN ok hg ht he T I3 f3 st3 w0 turn
end
end NS
end Bt
namespace Bt
namespace NS
open PySem PySem.Spec PyProof.Rows L2
/-! ### sets of tuples: len, in, reading lemmas -/
def rLenNS (P : Program) (w : World) : List V → Hp → VK → Prop := fun xs H Q => ∃ (a : Addr) (L : List (Addr × NestedKey)), xs = [V.ref a] ∧ H a = some (SetN P w a L) ∧ Q (.int L.length) H
theorem call_lenN {X : Cx} : CallR X (.builtin "len") (rLenNS X.prog X.w) := by
  intro pins s σ H xs us Q I r h
  obtain ⟨a, L, rfl, ha, q⟩ := h
  obtain ⟨u, rfl, ru⟩ := vals1 r
  cases ru
  obtain ⟨es, ep, t, ⟨o, ho, hx, hd⟩, rows, tab, nd, room, few⟩ := (I.hok a _ ha).1
  have size : es.size = L.length := by rw [← Array.length_toList, rows, List.length_map]
  have fits : t.fits es.size = true := by
    have h1 := tab.sz
    rw [List.length_map] at h1
    unfold SetTable.fits SetTable.fill
    rw [tab.dm, Bool.and_eq_true, beq_iff_eq, decide_eq_true_eq]
    exact ⟨by omega, by show t.place.size + 0 ≤ t.mask; omega⟩
  exact call_len_set ho hx hd fits (by omega) ⟨.int L.length, H, I.tok _, ⟨_, by rw [size]⟩, q⟩
theorem hasS_iff {L : List (Addr × NestedKey)} {k : NestedKey} : (L.any fun p => decide (p.2 = k)) = true ↔ k ∈ L.map (·.2) := by
  rw [List.any_eq_true, List.mem_map]
  exact ⟨fun ⟨p, h, e⟩ => ⟨p, h, of_decide_eq_true e⟩, fun ⟨p, h, e⟩ => ⟨p, h, decide_eq_true e⟩⟩
def hasS (L : List (Addr × NestedKey)) (k : NestedKey) : Bool := L.any fun p => decide (p.2 = k)
/-- k in s, k not in s -/
def rInS (P : Program) (w : World) (f : Bool → Bool) : R2 := fun x y H Q => ∃ (b a : Addr) (k : NestedKey) (L : List (Addr × NestedKey)), x = .ref b ∧ y = .ref a ∧ KeyN H b k ∧ H a = some (SetN P w a L) ∧ Mem H L ∧ Q (.bl (f (hasS L k))) H
theorem hasS_ok {X : Cx} {pins : List (Addr × Obj)} {σ : L2.St} {H : Hp} {s : Shared} {E : Value → Shared → Prop} {a b : Addr} {k : NestedKey} {L : List (Addr × NestedKey)} {Q : Value → Shared → Prop} (I : Inv X pins σ H s) (hu : X.A.units + 64 < cLine) (hb : KeyN H b k) (ha : H a = some (SetN X.prog X.w a L)) (m : Mem H L)
    (f : Bool → Bool) (h : ∀ tk, Q (.bool (f (hasS L k))) { s with toks := tk }) : wpAny (model X.prog X.w) X.A (do return .bool (f (← contains (.ref a) (.ref b)))) Q E s := by
  obtain ⟨es, ep, t, R⟩ := set_get I ha m
  obtain ⟨o, ho, hex, hd⟩ := id R.ob
  have ty : s.TypeIs (.ref a) "set" := ⟨o, ho, hex.1⟩
  refine wpAny_bind ?_
  unfold contains
  try with_reducible refine wpAny_holding ?_
  refine wpAny_bind (wpAny_specialOf ty F.slot_set_contains.lookup ?_)
  show wpAny _ _ (if (some (Value.builtin "set.__contains__") == some Value.none) = true then _ else _) _ E s
  rw [if_neg (by rw [beq_builtin_none]; exact Bool.false_ne_true)]
  refine wpAny_bind (wpAny_callSpecialUnlessNone?_slot (name := Str.ofString "__contains__") ty F.slot_set_contains
    (wpAny_call_entry F.slot_set_contains ty entry_set_contains ?_ (F.args_set_contains_2 _ _)))
  unfold Builtin.«frozenset.__contains__» Builtin.Frozenset.oneOther
  simp only [List.isEmpty_nil, bind_assoc]
  unfold Builtin.Frozenset.addrOf Builtin.Frozenset.withSetAsKey setContains
  refine wpAny_bind (wpAny_pure ?_)
  try dsimp only
  refine wpAny_bind (wpAny_pure ?_)
  try dsimp only
  refine wpAny_bind (wpAny_tryCatch ?_)
  refine wpAny_holding ?_
  refine wpAny_bind ((nestedKind X.prog X.w).pyHash (k := k) ?_ (hb.is I.hok) ?_)
  · show X.A.in1.units + 8 < cLine
    simp only [Around.in1]
    omega
  unfold setFind
  rw [show (100000 : Nat) = 99999 + 1 from rfl]
  unfold setFindIn
  refine wpAny_bind (wpAny_bind (wpAny_setState_of ho hd R.fits ?_))
  dsimp only
  refine wp_if_neg (by simp [byScan, Value.scannable]) ?_
  have fin : ∀ (r : Option Nat), r.isSome = hasS L k → wpAny (model X.prog X.w) X.A.in1 (ret (Value.bool r.isSome)) (fun fin s' => ∃ v, fin = .done (.ret v) ∧ wpAny (model X.prog X.w) X.A (truthy v) (fun c s'' => wpAny (model X.prog X.w) X.A (pure (.bool (f c))) Q E s'') E s') E { s with toks := s.toks + (nestedKind X.prog X.w).draws k } := fun r e => by
    rw [e]
    exact wpAny_pure ⟨_, rfl, wpAny_truthy_bool (wpAny_pure (h _))⟩
  refine wpAny_bind (srch (s := { s with toks := s.toks + (nestedKind X.prog X.w).draws k }) R (hb.is I.hok) ?_ false (fun hm r _ hr => ?_) fun hm K _ _ => ?_)
  · show X.A.in1.units + 8 < cLine
    simp only [Around.in1]
    omega
  · refine wpAny_pure ?_
    exact wpAny_pure (fin r (by rw [hr rfl]; exact (hasS_iff.mpr hm).symm))
  · refine wpAny_pure ?_
    exact wpAny_pure (fin none (by
      show false = hasS L k
      cases e : hasS L k with
      | false => rfl
      | true => exact absurd (hasS_iff.mp e) hm))
theorem op_inS {X : Cx} (hu : X.A.units + 64 < cLine) : OpR X (compareOp .In) (rInS X.prog X.w id) := by
  intro pins s σ H x y v u Q I rx ry h
  obtain ⟨b, a, k, L, rfl, rfl, hb, ha, m, q⟩ := h
  cases rx
  cases ry
  exact hasS_ok I hu hb ha m id fun tk => ⟨.bl (hasS L k), H, I.tok tk, rfl, q⟩
theorem op_notinS {X : Cx} (hu : X.A.units + 64 < cLine) : OpR X (compareOp .NotIn) (rInS X.prog X.w not) := by
  intro pins s σ H x y v u Q I rx ry h
  obtain ⟨b, a, k, L, rfl, rfl, hb, ha, m, q⟩ := h
  cases rx
  cases ry
  exact hasS_ok I hu hb ha m not fun tk => ⟨.bl (!hasS L k), H, I.tok tk, rfl, q⟩
/-- {.. for x in a list} -/
theorem s_scN {P : Program} {w : World} {wi : TI} {g : TG} {tt : TT} {te : TE} {vs : List Nat} {σ : L2.St} {H : Hp} {Q : VK} (h : wi σ H fun J H1 => ∀ D, H1 D = none → ∃ W : Nat → Nat → Hp → Prop, (∃ m, W 0 m (upd H1 D (SetN P w D []))) ∧ ∀ i m H, W i m H →
  (J.stop i H ∧ Q (.ref D) H) ∨ (J.go i H ∧ ∃ Nx : Hp → Prop, (∀ H', Nx H' → ∃ m', m' < m ∧ W (i + 1) m' H') ∧ ∀ x H', J.yld i H x H' → g x (wipe σ vs) H' fun σ2 H2 => wipe σ2 vs = wipe σ vs ∧ tt σ2 H2 fun b H3 =>
    if b = true then te σ2 H3 fun y H4 => addN P w D y H4 Nx else Nx H3)) : tScN P w wi g tt te vs σ H Q := h
theorem sc_listN {P : Program} {w : World} {K : PySem.W.Frag} {a : Addr} {xs : List V} {g : TG} {tt : TT} {te : TE} {vs : List Nat} {σ : L2.St} {H1 : Hp} {D : Addr} {Qd : Hp → Prop} (Pv : Nat → Hp → Prop) (h0 : Pv 0 (upd H1 D (SetN P w D []))) (hl : ∀ i H, i ≤ xs.length → Pv i H → SqL K H a xs)
    (hs : ∀ i x H, xs[i]? = some x → Pv i H → g x (wipe σ vs) H fun σ2 H2 => wipe σ2 vs = wipe σ vs ∧ tt σ2 H2 fun b H3 => if b = true then te σ2 H3 fun y H4 => addN P w D y H4 (Pv (i + 1)) else Pv (i + 1) H3) (hd : ∀ H, Pv xs.length H → Qd H) :
    ∃ W : Nat → Nat → Hp → Prop, (∃ m, W 0 m (upd H1 D (SetN P w D []))) ∧ ∀ i m H, W i m H →
      ((Itl K a).stop i H ∧ Qd H) ∨ ((Itl K a).go i H ∧ ∃ Nx : Hp → Prop, (∀ H', Nx H' → ∃ m', m' < m ∧ W (i + 1) m' H') ∧ ∀ x H', (Itl K a).yld i H x H' → g x (wipe σ vs) H' fun σ2 H2 => wipe σ2 vs = wipe σ vs ∧ tt σ2 H2 fun b H3 =>
        if b = true then te σ2 H3 fun y H4 => addN P w D y H4 Nx else Nx H3) := by
  refine ⟨fun i m H => m = xs.length - i ∧ i ≤ xs.length ∧ Pv i H, ⟨xs.length, by simp, Nat.zero_le _, h0⟩, ?_⟩
  rintro i m H ⟨rfl, hi, p⟩
  have q := hl i H hi p
  by_cases hlt : i < xs.length
  · refine .inr ⟨⟨xs, xs[i], q, by simp [hlt]⟩, Pv (i + 1), fun H' p' => ⟨xs.length - (i + 1), by omega, rfl, hlt, p'⟩, fun x H' y => ?_⟩
    obtain ⟨rfl, y⟩ := y
    exact hs i x _ (y xs q) p
  · have e : i = xs.length := by omega
    subst e
    exact .inl ⟨⟨xs, q, Nat.le_refl _⟩, hd H p⟩
end NS
end Bt
namespace PySem.W
open PySem PySem.Calls PyProof.Rows L2
/-! ### sorted(o), o gathered somehow: its items in a new list, list.sort -/
section
variable {prog : Program} {w : World} {A : Around} {E : Value → Shared → Prop} {s : Shared} {r : Addr} {Q : Value → Shared → Prop} {β : Type} {enc : β → PyData} {R : Value → β → Prop} {bs : List β}
theorem sorted_any (hal : AllAlike (bs.map enc)) (hk : Sortable (bs.map enc)) (hu : ∀ b, b ∈ bs → A.units + 2 + (enc b).depth < cLine)
    (hc : ∀ P : List Value → Shared → Prop, (∀ s' (vs : List Value), (∀ b o, s.heap.get? b = some o → s'.heap.get? b = some o) → s'.gens = s.gens → s'.os = s.os → s.heap.objs.size ≤ s'.heap.objs.size → vs.length ≤ sizeLine → (∃ bs', bs'.Perm bs ∧ EachIs R vs bs' ∧ EachIs (fun v b => ∃ as, Reads s.heap v (enc b) as) vs bs') → P vs s') → wpAny (model prog w) A.in1 (collect (.ref r)) P (fun e s' => E e s') s)
    (h : ∀ (s' : Shared) (out : List Value) (B : Addr) (bs' : List β), (∀ b o, s.heap.get? b = some o → s'.heap.get? b = some o) → s'.gens = s.gens → s'.os = s.os → s.heap.objs.size ≤ B → (∃ ep, s'.heap.get? B = some (seqObj "list" (List.toArray out) ep)) → bs'.Perm bs → EachIs R out (bs'.mergeSort (dataLe false enc)) → Q (.ref B) s') :
    wpAny (model prog w) A (call (.builtin "sorted") [.ref r]) Q E s := by
  refine call_function_entry kind_sorted plain_sorted entry_sorted (args_sorted1 _) ?_
  unfold Builtin.«sorted»
  refine wpAny_bind (m := checkCount "sorted" 1 1 _) (wpAny_pure ?_)
  refine wpAny_bind ?_
  refine hc _ fun s1 vs hk' eg eo hz hl ⟨bs', pm, e1, e2⟩ => ?_
  refine wpAny_bind (wpAny_newList ?_ hl)
  generalize hB : s1.heap.objs.size = B
  have nB : s.heap.get? B = none := by
    cases q : s.heap.get? B with
    | none => rfl
    | some o => exact absurd (Heap.lt_size (hk' _ _ q)) (by rw [hB]; exact Nat.lt_irrefl _)
  have atB : (s1.heap.push (seqObj "list" vs.toArray 0)).get? B = some (seqObj "list" vs.toArray 0) := by rw [← hB]; exact Heap.get?_push_size _ rfl
  have old : ∀ b o, s.heap.get? b = some o → (s1.heap.push (seqObj "list" vs.toArray 0)).get? b = some o := fun b o q => Heap.get?_push_of_some _ (hk' b o q)
  have neB : ∀ b o, s.heap.get? b = some o → b ≠ B := fun b o q z => by rw [z, nB] at q; cases q
  show wpAny (model prog w) A.in1 (holding [Value.ref B] (call (.builtin "list.sort") [.ref B] []) >>= fun _ => ret (Value.ref B)) _ E { s1 with heap := s1.heap.push (seqObj "list" vs.toArray 0) }
  have e3 : EachIs (fun v b => ∃ as, Reads (sortingHeap (s1.heap.push (seqObj "list" vs.toArray 0)) B vs) v (enc b) as) vs bs' := e2.mono fun _ _ ⟨as, r⟩ => ⟨as, PyProof.Rows.Reads.keeps (fun b o q => sortingHeap_old (neB b o q) (old b o q)) r⟩
  have pm' : (bs'.map enc).Perm (bs.map enc) := pm.map enc
  have hal' : AllAlike (bs'.map enc) := fun d hd d' hd' => hal d (pm'.mem_iff.mp hd) d' (pm'.mem_iff.mp hd')
  have hk2 : Sortable (bs'.map enc) := Or.imp (fun h d hd => h d (pm'.mem_iff.mp hd)) (fun h d hd => h d (pm'.mem_iff.mp hd)) hk
  have so : SortsAt prog w A.in1.in1 { s1 with heap := sortingHeap (s1.heap.push (seqObj "list" vs.toArray 0)) B vs } (dataKind (sortingHeap (s1.heap.push (seqObj "list" vs.toArray 0)) B vs) (bs'.map enc)) vs :=
    SortsAt.data (s := { s1 with heap := sortingHeap (s1.heap.push (seqObj "list" vs.toArray 0)) B vs }) (each_map (R := fun v d => ∃ as, Reads (sortingHeap (s1.heap.push (seqObj "list" vs.toArray 0)) B vs) v d as) enc e3) hal' hk2 (bound_map fun b hb => hu b (pm.mem_iff.mp hb))
  refine wpAny_bind (wpAny_holding (wpAny_call_entry slot_list_sort ⟨_, atB, rfl⟩ entry_list_sort ?_ (args_list_sort _)))
  refine list_sort_vals (s := { s1 with heap := s1.heap.push (seqObj "list" vs.toArray 0) }) atB so hl ?_
  refine ⟨_, rfl, wpAny_pure ⟨_, rfl, h _ _ B bs' (fun b o q => ?_) eg eo (by rw [← hB]; exact hz) ?_ pm (sortVals_data false e1 e3 hal')⟩⟩
  · have lt := Heap.lt_size (old b o q)
    show (sortedHeap _ _ _ _).get? b = some o
    rw [sortedHeap_old (neB b o q) lt]
    exact old b o q
  · exact sortedHeap_at atB
end
end PySem.W

namespace Bt
namespace NS
open PySem PySem.Spec PyProof.Rows L2
open PySem.W (dataLe alike AllAlike Sortable EachIs)
/-! ### sorted(a set of keys) -/
section
variable {K : PySem.W.Frag} {H : Hp}
mutual
theorem NAt.dp : ∀ {x : V} {k : NestedKey}, NAt H x k → Dp K H x k.data
  | _, _, .none => .non
  | _, _, .int i => .int i
  | _, _, .str z => .str z
  | _, _, .tup h hs => .tup (SqT.of h) (NAts.dps hs)
theorem NAts.dps : ∀ {xs : List V} {ks : List NestedKey}, NAts H xs ks → DpAll K H xs (NestedKey.datas ks)
  | _, _, .nil => .nil
  | _, _, .cons h hs => .cons (NAt.dp h) (NAts.dps hs)
end
end
theorem perm_map_inv {α β : Type} (f : α → β) {vs ws : List β} (h : vs.Perm ws) : ∀ {L : List α}, ws = L.map f → ∃ zs : List α, vs = zs.map f ∧ zs.Perm L := by
  induction h with
  | nil =>
    intro L e
    cases L with
    | nil => exact ⟨[], rfl, .nil⟩
    | cons _ _ => cases e
  | cons x _ ih =>
    intro L e
    cases L with
    | nil => cases e
    | cons a L =>
      injection e with e1 e2
      obtain ⟨zs, rfl, p⟩ := ih e2
      exact ⟨a :: zs, by rw [e1]; rfl, p.cons a⟩
  | swap x y l =>
    intro L e
    cases L with
    | nil => cases e
    | cons a L =>
      cases L with
      | nil => injection e with _ e2; cases e2
      | cons b L =>
        injection e with e1 e2
        injection e2 with e2 e3
        exact ⟨b :: a :: L, by rw [e1, e2, e3]; rfl, .swap a b L⟩
  | trans _ _ ih1 ih2 =>
    intro L e
    obtain ⟨zs, e1, p1⟩ := ih2 e
    obtain ⟨ys, e2, p2⟩ := ih1 e1
    exact ⟨ys, e2, p2.trans p1⟩
abbrev KN : Type := Addr × NestedKey
def nLe : KN → KN → Bool := dataLe false (fun z : KN => z.2.data)
def rSortS (P : Program) (w : World) : List V → Hp → VK → Prop := fun vs H Q => ∃ (a : Addr) (L : List KN), vs = [V.ref a] ∧ H a = some (SetN P w a L) ∧ Mem H L ∧ (∀ p ∈ L, p.2.data.depth ≤ 60) ∧ AllAlike (L.map fun p => p.2.data) ∧ Sortable (L.map fun p => p.2.data) ∧
  ∀ (L' : List KN) (p : Addr), L'.Perm L → (L.map (·.2)).Nodup → L.length < 64 → H p = none → Q (.ref p) (upd H p (.lst ((L'.mergeSort nLe).map fun z => .ref z.1)))
theorem each_refsN : ∀ {vs : List Value} {zs : List KN}, vs = (zs.map fun z => Value.ref z.1) → EachIs (fun v (z : KN) => v = .ref z.1) vs zs
  | _, [], e => by subst e; exact .nil
  | _, z :: zs, e => by
    subst e
    exact .cons rfl (each_refsN (zs := zs) rfl)
theorem each_readN {X : Cx} {pins : List (Addr × Obj)} {σ : L2.St} {H : Hp} {s : Shared} (I : Inv X pins σ H s) {h' : Heap} (kp : ∀ b o, s.heap.get? b = some o → h'.get? b = some o) : ∀ {vs : List Value} {zs : List KN}, EachIs (fun v (z : KN) => v = .ref z.1) vs zs → (∀ z ∈ zs, KeyN H z.1 z.2) → EachIs (fun v (z : KN) => ∃ as, Reads s.heap v z.2.data as) vs zs
  | [], [], _, _ => .nil
  | v :: vs, z :: zs, .cons e r, h => by
    subst e
    exact .cons (Dp.reads I z.2.data (.ref z.1) _ (NAt.dp (K := X.K) (h z List.mem_cons_self).1) rfl) (each_readN I kp r fun y m => h y (List.mem_cons_of_mem _ m))
theorem refs_valsN : ∀ {vs : List Value} {zs : List KN}, EachIs (fun v (z : KN) => v = .ref z.1) vs zs → Vals (zs.map fun z => V.ref z.1) vs
  | [], [], _ => .nil
  | _ :: _, _ :: _, .cons e r => .cons (by subst e; rfl) (refs_valsN r)
theorem cr_sortS {X : Cx} (hc : X.calm = true) (hu : X.A.units + 64 < cLine) : CallR X (.builtin "sorted") (rSortS X.prog X.w) := by
  intro pins s σ H vs us Q I r h
  obtain ⟨a, L, rfl, ha, m, hd, al, sk, q⟩ := h
  rw [Vals.ref1 r]
  obtain ⟨es, ep, t, R⟩ := set_get I ha m
  obtain ⟨o, ho, hex, hdt⟩ := id R.ob
  have hsz := R.size
  have hfew := R.few
  refine PySem.W.sorted_any (bs := L) (enc := fun z : KN => z.2.data) (R := fun v (z : KN) => v = .ref z.1) al sk (fun z mz => ?_) (fun P hP => ?_) fun s' out B bs' hk eg eo hB hat pm he => ?_
  · have := hd z mz
    omega
  · refine collect_set (A := X.A.in1) (I.ok.hd hc) ⟨o, ho, hex.1, hdt⟩ R.fits (by unfold scanBound; omega) R.tab.ris R.led fun s1 vs k1 hz g1 o1 pm => ?_
    have hes : es.toList.map (·.2) = L.map fun q => Value.ref q.1 := by
      rw [R.rows, List.map_map]
      rfl
    rw [hes] at pm
    obtain ⟨zs, e1, pz⟩ : ∃ zs : List KN, vs = (zs.map fun z => Value.ref z.1) ∧ zs.Perm L := by
      clear hes hP
      exact perm_map_inv _ pm rfl
    have ei := each_refsN e1
    refine hP s1 vs k1 g1 o1 hz (by rw [pm.length_eq, List.length_map, sizeLine_eq]; omega) ⟨zs, pz, ei, ?_⟩
    exact each_readN I k1 ei fun z mz => m z (pz.mem_iff.mp mz)
  · obtain ⟨ep', hat⟩ := hat
    have nH : H B = none := I.hok.fresh hB
    have hlen : ((bs'.mergeSort nLe).map fun z => V.ref z.1).length ≤ sizeLine := by rw [List.length_map, List.length_mergeSort, pm.length_eq, sizeLine_eq]; omega
    have J : Inv X pins σ (upd H B (.lst ((bs'.mergeSort nLe).map fun z => V.ref z.1))) { s with heap := s'.heap, gens := s'.gens, drawn := s'.drawn, toks := s'.toks } :=
      I.call (ch := []) (Un.laid hk hB nH) (I.hok.laid hk hB ⟨hlen, out, ep', refs_valsN he, hat⟩) (by rw [eg]; exact I.bare) (fun _ z => nomatch z)
    have e : s' = { s with heap := s'.heap, gens := s'.gens, drawn := s'.drawn, toks := s'.toks } := by
      cases s'
      cases s
      cases eo
      rfl
    rw [e]
    exact ⟨.ref B, _, J, rfl, q bs' B pm R.nd hfew nH⟩
theorem q_sortS {P : Program} {w : World} {H : Hp} {Q : VK} {a : Addr} {L : List KN} (ha : H a = some (SetN P w a L)) (m : Mem H L) (hd : ∀ p ∈ L, p.2.data.depth ≤ 60) (al : AllAlike (L.map fun p => p.2.data)) (sk : Sortable (L.map fun p => p.2.data))
    (q : ∀ (L' : List KN) (p : Addr) (H' : Hp), L'.Perm L → (L.map (·.2)).Nodup → L.length < 64 → H p = none → Same H H' → H' p = some (.lst ((L'.mergeSort nLe).map fun z => .ref z.1)) → Q (.ref p) H') : rSortS P w [.ref a] H Q :=
  ⟨a, L, rfl, ha, m, hd, al, sk, fun L' p e1 e2 e3 n => q L' p _ e1 e2 e3 n (Same.new n) upd_same⟩
end NS
end Bt
namespace PySem.W
open Lean Elab Tactic Meta PySem PySem.Calls PyProof.Rows
/-! ### an own operator, the other operand of a built-in kind -/
section
variable {prog : Program} {w : World} {A : Around} {E : Value → Shared → Prop} {s : Shared} {K : Frag} {x C f g : Addr} {ox : Obj} {od : Option Obj} {T : String} {op : Operator} {r : Bool}
theorem own_left {b : Value} {ro rc : Option Value} {Q : Value → Shared → Prop} (KX : K.In s.heap) (I : InstAt s.heap x ox C od) (hb : Looks (model prog w) s.heap (typeOf b) (.type T)) (hc : selfFirst K C = true)
    (hs : findIn K (.ref C) (PySem.dunder op.info.2) = some (some (.ref f))) (hf : isFn K (.ref f) = true) (hr : findIn K (.ref C) (dunderR op.info.2) = some rc) (hp : rc = none ∨ ∃ g : Addr, rc = some (.ref g))
    (fills : fillsNumberSlot (.type T) op.info.2 = pure r) (look : typeLookup (.type T) (dunderR op.info.2) = pure ro) (hsub : subIn K (.type T) (.ref C) = some false)
    (h : wpAny (model prog w) A (call (.ref f) [.ref x, b]) (CmpBack Q) E s) : wpAny (model prog w) A (binaryOp op (.ref x) b) Q E s := by
  obtain ⟨cd, rest, hcd, hm⟩ := ksp_first hc
  rcases hi : op.info with ⟨sym, nm'⟩
  rw [hi] at hs hr fills look
  dsimp only at hs hr fills look
  have one := ksp_try KX I hs hf h
  obtain ⟨hh, g, d, tt, os⟩ := s
  have L1 : Looks (model prog w) hh (typeOf (.ref x)) (.ref C) := I.type
  have L2 : Looks (model prog w) hh (typeOf b) (.type T) := hb
  have L3 : Looks (model prog w) hh (fillsNumberSlot (.ref C) nm') true := fills_K KX hcd hm hs
  have L4 : Looks (model prog w) hh (fillsNumberSlot (.type T) nm') r := Looks.of_pure fills
  have L5 : Looks (model prog w) hh (isSubtype (.type T) (.ref C)) false := looks_subIn KX hsub
  have L6 : Looks (model prog w) hh (numberSlotInPython (.ref C) nm') true := ksp_inPy KX hs hr hp
  have L7 : Looks (model prog w) hh (numberSlotInPython (.type T) nm') false := Looks.of_pure rfl
  have L8 : Looks (model prog w) hh (typeLookup (.type T) (dunderR nm')) ro := Looks.of_pure look
  have ne : (Value.ref C == Value.type T) = false := Bool.eq_false_iff.mpr fun q => by cases beq_iff_eq.mp q
  simp only [binaryOp, hi]
  refine wpAny_holding (wpAny_bind ?_)
  unfold binaryOp1
  refine wpAny_bind (L1.at (wpAny_bind (L2.at (wpAny_bind (L3.at ?_)))))
  simp only [ne, Bool.false_eq_true, if_false]
  cases r <;>
  · ksp_lk
    refine wpAny_mono one (fun r s' hr' => ?_) fun _ _ e => e
    obtain ⟨v, rfl, hq⟩ := hr'
    ksp_lk
    exact hq
theorem own_right {a : Value} {Q : Value → Shared → Prop} (KX : K.In s.heap) (I : InstAt s.heap x ox C od) (ha : Looks (model prog w) s.heap (typeOf a) (.type T)) (hc : selfFirst K C = true)
    (hs : findIn K (.ref C) (PySem.dunder op.info.2) = some (some (.ref g))) (hr : findIn K (.ref C) (dunderR op.info.2) = some (some (.ref f))) (hf : isFn K (.ref f) = true)
    (fills : fillsNumberSlot (.type T) op.info.2 = pure false)
    (h : wpAny (model prog w) A (call (.ref f) [.ref x, a]) (CmpBack Q) E s) : wpAny (model prog w) A (binaryOp op a (.ref x)) Q E s := by
  obtain ⟨cd, rest, hcd, hm⟩ := ksp_first hc
  rcases hi : op.info with ⟨sym, nm'⟩
  rw [hi] at hs hr fills
  dsimp only at hs hr fills
  have one := ksp_try KX I hr hf h
  obtain ⟨hh, gg, d, tt, os⟩ := s
  have L1 : Looks (model prog w) hh (typeOf (.ref x)) (.ref C) := I.type
  have L2 : Looks (model prog w) hh (typeOf a) (.type T) := ha
  have L3 : Looks (model prog w) hh (fillsNumberSlot (.ref C) nm') true := fills_K KX hcd hm hs
  have L4 : Looks (model prog w) hh (fillsNumberSlot (.type T) nm') false := Looks.of_pure fills
  have ne : (Value.type T == Value.ref C) = false := Bool.eq_false_iff.mpr fun q => by cases beq_iff_eq.mp q
  simp only [binaryOp, hi]
  refine wpAny_holding (wpAny_bind ?_)
  unfold binaryOp1
  refine wpAny_bind (L2.at (wpAny_bind (L1.at (wpAny_bind (L4.at ?_)))))
  simp only [ne, Bool.false_eq_true, if_false]
  ksp_lk
  refine wpAny_mono one (fun r s' hr' => ?_) fun _ _ e => e
  obtain ⟨v, rfl, hq⟩ := hr'
  ksp_lk
  exact hq
/-- the left operand's slot declines first -/
theorem own_right2 {a : Value} {Q : Value → Shared → Prop} (KX : K.In s.heap) (I : InstAt s.heap x ox C od) (ha : Looks (model prog w) s.heap (typeOf a) (.type T)) (hc : selfFirst K C = true)
    (hs : findIn K (.ref C) (PySem.dunder op.info.2) = some (some (.ref g))) (hr : findIn K (.ref C) (dunderR op.info.2) = some (some (.ref f))) (hf : isFn K (.ref f) = true)
    (fills : fillsNumberSlot (.type T) op.info.2 = pure true) (hsub : subIn K (.ref C) (.type T) = some false)
    (dec : ∀ Q' : Option Value → Shared → Prop, Q' none s → wpAny (model prog w) A (tryMethod a (PySem.dunder op.info.2) (.ref x)) Q' E s)
    (h : wpAny (model prog w) A (call (.ref f) [.ref x, a]) (CmpBack Q) E s) : wpAny (model prog w) A (binaryOp op a (.ref x)) Q E s := by
  obtain ⟨cd, rest, hcd, hm⟩ := ksp_first hc
  rcases hi : op.info with ⟨sym, nm'⟩
  rw [hi] at hs hr fills dec
  dsimp only at hs hr fills dec
  have one := ksp_try KX I hr hf h
  obtain ⟨hh, gg, d, tt, os⟩ := s
  have L1 : Looks (model prog w) hh (typeOf (.ref x)) (.ref C) := I.type
  have L2 : Looks (model prog w) hh (typeOf a) (.type T) := ha
  have L3 : Looks (model prog w) hh (fillsNumberSlot (.ref C) nm') true := fills_K KX hcd hm hs
  have L4 : Looks (model prog w) hh (fillsNumberSlot (.type T) nm') true := Looks.of_pure fills
  have L5 : Looks (model prog w) hh (isSubtype (.ref C) (.type T)) false := looks_subIn KX hsub
  have L7 : Looks (model prog w) hh (numberSlotInPython (.type T) nm') false := Looks.of_pure rfl
  have ne : (Value.type T == Value.ref C) = false := Bool.eq_false_iff.mpr fun q => by cases beq_iff_eq.mp q
  simp only [binaryOp, hi]
  refine wpAny_holding (wpAny_bind ?_)
  unfold binaryOp1
  refine wpAny_bind (L2.at (wpAny_bind (L1.at (wpAny_bind (L4.at ?_)))))
  simp only [ne, Bool.false_eq_true, if_false]
  ksp_lk
  refine dec _ ?_
  ksp_lk
  refine wpAny_mono one (fun r s' hr' => ?_) fun _ _ e => e
  obtain ⟨v, rfl, hq⟩ := hr'
  ksp_lk
  exact hq
end
end PySem.W
namespace Bt
open PySem PySem.Spec PyProof.Rows L2
/-! ### what the end wants of the classes -/
theorem ve_own {CB : Addr} : PySem.HandSPX.refsVE [.ref CB, .type "ValueError", .type "Exception", .type "BaseException", .type "object"] = true := show PySem.HandSPX.refsVE [.type "ValueError", .type "Exception", .type "BaseException", .type "object"] = true by decide +kernel
theorem exm_self {K : PySem.W.Frag} {S : Addr} (h1 : PySem.W.subIn K (.ref S) (.type "BaseException") = some true) (h2 : PySem.W.isClsIn K S = true) (h3 : PySem.W.typeIn K (.ref S) = some (.type "type")) (h4 : PySem.W.subIn K (.ref S) (.ref S) = some true) :
    PySem.W.exmOne K (.ref S) (.ref S) = some true := by
  have e1 : (PySem.W.subIn K (.ref S) (.type "BaseException") == some true) = true := by rw [h1] <;> rfl
  have e2 : ((PySem.W.clsIn K S).isSome && PySem.W.typeIn K (.ref S) == some (.type "type")) = true := by
    have h2' : (PySem.W.clsIn K S).isSome = true := h2
    rw [h2', h3] <;> rfl
  show (if (PySem.W.subIn K (.ref S) (.type "BaseException") == some true) = true then (if ((PySem.W.clsIn K S).isSome && PySem.W.typeIn K (.ref S) == some (.type "type")) = true then PySem.W.subIn K (.ref S) (.ref S) else none) else none) = some true
  rw [if_pos e1, if_pos e2]
  exact h4
theorem exc_binds {K : PySem.W.Frag} {qual fld : Str} {params : Arguments} {body : List Stmt} {scope : Scope} {f : Addr} {fd : FuncData} (F : FunD K "__init__" qual params body scope [.non] [] f fd)
    (h : ∀ (T : Addr) (kV doc pm : Value) (an : Option Addr) (cdv ct : Value) (us its : List Value), us.length = 2 → its.length = 1 →
      ∃ k, bindArgs (PySem.W.fnOf "__init__" qual params body scope (.ref T) kV doc pm an cdv ct) ⟨us, []⟩ = seqItems? (.ref T) >>= k ∧ k (some its.toArray) = pure ((["self", fld] : List Str).zip (us ++ its.drop 1))) : Binds K fd ["self", fld] [] := by
  obtain ⟨ds, hv, hb⟩ := F.binds1 (ps := ["self", fld]) 2 1 (by simp) rfl h
  cases hv
  exact hb
theorem kit_own {K : PySem.W.Frag} {C : Addr} : PySem.W.kitOne K (.ref C) (.ref C) = some true := by
  unfold PySem.W.kitOne
  rw [if_pos (by simp)]
theorem sub_no {K : PySem.W.Frag} {C : Addr} {T : String} (h : Kd T) : PySem.W.subIn K (.type T) (.ref C) = some false := by
  cases h <;> rfl
theorem kit_no {K : PySem.W.Frag} {C : Addr} {T : String} (h2 : PySem.W.isClsIn K C = true) (h3 : PySem.W.typeIn K (.ref C) = some (.type "type")) (h : Kd T) : PySem.W.kitOne K (.type T) (.ref C) = some false := by
  have e2 : ((PySem.W.clsIn K C).isSome && PySem.W.typeIn K (.ref C) == some (.type "type")) = true := by
    have h2' : (PySem.W.clsIn K C).isSome = true := h2
    rw [h2', h3] <;> rfl
  show (if ((Value.type T) == (Value.ref C)) = true then some true else (if ((PySem.W.clsIn K C).isSome && PySem.W.typeIn K (.ref C) == some (.type "type")) = true then PySem.W.subIn K (.type T) (.ref C) else none)) = some false
  rw [if_neg (by cases h <;> exact fun z => nomatch z), if_pos e2]
  exact sub_no h
theorem nf_kd {K : PySem.W.Frag} {C : Addr} {T : String} (h : Kd T) : PySem.W.notFirst K C (.type T) = true := by
  unfold PySem.W.notFirst
  rw [sub_no h]
  exact Bool.or_true _
theorem nf_own {K : PySem.W.Frag} {C : Addr} : PySem.W.notFirst K C (.ref C) = true := by
  unfold PySem.W.notFirst
  simp
end Bt
namespace Bt
open PySem PySem.Spec PyProof.Rows L2
theorem fills_of {T nm : String} {fo ro : Option Value} (h1 : typeLookup (.type T) (PySem.dunder nm) = pure fo) (h2 : typeLookup (.type T) (dunderR nm) = pure ro) :
    fillsNumberSlot (.type T) nm = pure ((fo.isSome && !isSeqSlot fo) || (ro.isSome && !isSeqSlot ro)) := by
  unfold fillsNumberSlot
  simp [h1, h2]
/-- what a built-in kind says of an operator -/
def OpK (nm T : String) (r : Bool) : Prop := fillsNumberSlot (.type T) nm = pure r ∧ ∃ ro, typeLookup (.type T) (dunderR nm) = pure ro
theorem opK_of {T nm : String} {fo ro : Option Value} {r : Bool} (h1 : typeLookup (.type T) (PySem.dunder nm) = pure fo) (h2 : typeLookup (.type T) (dunderR nm) = pure ro) (e : ((fo.isSome && !isSeqSlot fo) || (ro.isSome && !isSeqSlot ro)) = r) : OpK nm T r :=
  ⟨by rw [← e]; exact fills_of h1 h2, ro, h2⟩
theorem mul_none : OpK "mul" "NoneType" false := opK_of (fo := none) (ro := none) (by rw [typeLookup_type, builtinLookup_eq_fast]; kernel_rfl) (by rw [typeLookup_type, builtinLookup_eq_fast]; kernel_rfl) (by decide +kernel)
theorem mul_bool : OpK "mul" "bool" true := opK_of (fo := (some (.builtin "int.__mul__"))) (ro := (some (.builtin "int.__rmul__"))) (by rw [typeLookup_type, builtinLookup_eq_fast]; kernel_rfl) (by rw [typeLookup_type, builtinLookup_eq_fast]; kernel_rfl) (by decide +kernel)
theorem mul_int : OpK "mul" "int" true := opK_of (fo := (some (.builtin "int.__mul__"))) (ro := (some (.builtin "int.__rmul__"))) (by rw [typeLookup_type, builtinLookup_eq_fast]; kernel_rfl) (by rw [typeLookup_type, builtinLookup_eq_fast]; kernel_rfl) (by decide +kernel)
theorem mul_str : OpK "mul" "str" false := opK_of (fo := (some (.builtin "str.__mul__"))) (ro := (some (.builtin "str.__rmul__"))) (by rw [typeLookup_type, builtinLookup_eq_fast]; kernel_rfl) (by rw [typeLookup_type, builtinLookup_eq_fast]; kernel_rfl) (by decide +kernel)
theorem mul_list : OpK "mul" "list" false := opK_of (fo := (some (.builtin "list.__mul__"))) (ro := (some (.builtin "list.__rmul__"))) (by rw [typeLookup_type, builtinLookup_eq_fast]; kernel_rfl) (by rw [typeLookup_type, builtinLookup_eq_fast]; kernel_rfl) (by decide +kernel)
theorem mul_tuple : OpK "mul" "tuple" false := opK_of (fo := (some (.builtin "tuple.__mul__"))) (ro := (some (.builtin "tuple.__rmul__"))) (by rw [typeLookup_type, builtinLookup_eq_fast]; kernel_rfl) (by rw [typeLookup_type, builtinLookup_eq_fast]; kernel_rfl) (by decide +kernel)
theorem mul_dict : OpK "mul" "dict" false := opK_of (fo := none) (ro := none) (by rw [typeLookup_type, builtinLookup_eq_fast]; kernel_rfl) (by rw [typeLookup_type, builtinLookup_eq_fast]; kernel_rfl) (by decide +kernel)
theorem fdv_none : OpK "floordiv" "NoneType" false := opK_of (fo := none) (ro := none) (by rw [typeLookup_type, builtinLookup_eq_fast]; kernel_rfl) (by rw [typeLookup_type, builtinLookup_eq_fast]; kernel_rfl) (by decide +kernel)
theorem fdv_bool : OpK "floordiv" "bool" true := opK_of (fo := (some (.builtin "int.__floordiv__"))) (ro := (some (.builtin "int.__rfloordiv__"))) (by rw [typeLookup_type, builtinLookup_eq_fast]; kernel_rfl) (by rw [typeLookup_type, builtinLookup_eq_fast]; kernel_rfl) (by decide +kernel)
theorem fdv_int : OpK "floordiv" "int" true := opK_of (fo := (some (.builtin "int.__floordiv__"))) (ro := (some (.builtin "int.__rfloordiv__"))) (by rw [typeLookup_type, builtinLookup_eq_fast]; kernel_rfl) (by rw [typeLookup_type, builtinLookup_eq_fast]; kernel_rfl) (by decide +kernel)
theorem fdv_str : OpK "floordiv" "str" false := opK_of (fo := none) (ro := none) (by rw [typeLookup_type, builtinLookup_eq_fast]; kernel_rfl) (by rw [typeLookup_type, builtinLookup_eq_fast]; kernel_rfl) (by decide +kernel)
theorem fdv_list : OpK "floordiv" "list" false := opK_of (fo := none) (ro := none) (by rw [typeLookup_type, builtinLookup_eq_fast]; kernel_rfl) (by rw [typeLookup_type, builtinLookup_eq_fast]; kernel_rfl) (by decide +kernel)
theorem fdv_tuple : OpK "floordiv" "tuple" false := opK_of (fo := none) (ro := none) (by rw [typeLookup_type, builtinLookup_eq_fast]; kernel_rfl) (by rw [typeLookup_type, builtinLookup_eq_fast]; kernel_rfl) (by decide +kernel)
theorem fdv_dict : OpK "floordiv" "dict" false := opK_of (fo := none) (ro := none) (by rw [typeLookup_type, builtinLookup_eq_fast]; kernel_rfl) (by rw [typeLookup_type, builtinLookup_eq_fast]; kernel_rfl) (by decide +kernel)
theorem opK_mul {T : String} (h : Kd T) : ∃ r, OpK "mul" T r := by
  cases h
  · exact ⟨_, mul_none⟩
  · exact ⟨_, mul_bool⟩
  · exact ⟨_, mul_int⟩
  · exact ⟨_, mul_str⟩
  · exact ⟨_, mul_list⟩
  · exact ⟨_, mul_tuple⟩
  · exact ⟨_, mul_dict⟩
theorem opK_fdv {T : String} (h : Kd T) : ∃ r, OpK "floordiv" T r := by
  cases h
  · exact ⟨_, fdv_none⟩
  · exact ⟨_, fdv_bool⟩
  · exact ⟨_, fdv_int⟩
  · exact ⟨_, fdv_str⟩
  · exact ⟨_, fdv_list⟩
  · exact ⟨_, fdv_tuple⟩
  · exact ⟨_, fdv_dict⟩
theorem int_mul_inst (a : Int) (t : Tok) (x : Addr) : Meets (Builtin.«int.__mul__» ⟨[.int a t, .ref x], []⟩) (fun _ R s => (∃ C dx, s.heap.get? x = some (PySem.W.instObj C dx)) ∧ R (.ok (.ret Value.notImplemented)) s) :=
  .of_wp fun prog w A R s h => by obtain ⟨hp, g, d, tk, os⟩ := s; obtain ⟨⟨C, dx, hl⟩, h⟩ := h; unfold PySem.W.instObj at hl; wp_walk; exact ⟨_, rfl, h⟩
theorem bool_mul_inst (a : Bool) (x : Addr) : Meets (Builtin.«int.__mul__» ⟨[.bool a, .ref x], []⟩) (fun _ R s => (∃ C dx, s.heap.get? x = some (PySem.W.instObj C dx)) ∧ R (.ok (.ret Value.notImplemented)) s) :=
  .of_wp fun prog w A R s h => by obtain ⟨hp, g, d, tk, os⟩ := s; obtain ⟨⟨C, dx, hl⟩, h⟩ := h; unfold PySem.W.instObj at hl; wp_walk; exact ⟨_, rfl, h⟩
theorem relV_back {v : V} {u : Value} {Q : Value → Shared → Prop} {s : Shared} (r : RelV v u) (q : Q u s) : PySem.W.CmpBack Q u s := by
  cases u <;> first | exact q | (cases v <;> first | (obtain ⟨_, e⟩ := r; exact nomatch e) | exact nomatch r)
theorem dec_int {prog : Program} {w : World} {A : Around} {E : Value → Shared → Prop} {s : Shared} {i : Int} {t : Tok} {p : Addr} (hget : ∃ C' dx', s.heap.get? p = some (PySem.W.instObj C' dx')) (Q' : Option Value → Shared → Prop) (q' : Q' none s) :
    wpAny (model prog w) A (tryMethod (.int i t) (PySem.dunder "mul") (.ref p)) Q' E s := by
  have e1 := F.entry_int_mul
  have e2 := F.args_int_mul_2 (.int i t) (.ref p)
  have e3 := int_mul_inst i t p
  have e4 : s.TypeIs (.int i t) "int" := typeIs_int s i t
  have e5 := F.slot_int_mul
  have e6 : wpAny (model prog w) A (call (.builtin "int.__mul__") [.int i t, .ref p]) (fun v s' => v = .notImplemented ∧ Q' none s') E s := call_meets e5 e4 e1 e2 e3 ⟨hget, rfl, q'⟩
  exact @wpAny_tryMethod_declines (model prog w) A E s (.int i t) (.ref p) "int" (PySem.dunder "mul") "int.__mul__" Q' e4 e5 e6
theorem dec_bool {prog : Program} {w : World} {A : Around} {E : Value → Shared → Prop} {s : Shared} {i : Bool} {p : Addr} (hget : ∃ C' dx', s.heap.get? p = some (PySem.W.instObj C' dx')) (Q' : Option Value → Shared → Prop) (q' : Q' none s) :
    wpAny (model prog w) A (tryMethod (.bool i) (PySem.dunder "mul") (.ref p)) Q' E s := by
  have e1 := F.entry_int_mul
  have e2 := F.args_int_mul_2 (.bool i) (.ref p)
  have e3 := bool_mul_inst i p
  have e4 : s.TypeIs (.bool i) "bool" := PySem.typeIs_bool s i
  have e5 := F.slot_bool_mul
  have e6 : wpAny (model prog w) A (call (.builtin "int.__mul__") [.bool i, .ref p]) (fun v s' => v = .notImplemented ∧ Q' none s') E s := call_meets e5 e4 e1 e2 e3 ⟨hget, rfl, q'⟩
  exact @wpAny_tryMethod_declines (model prog w) A E s (.bool i) (.ref p) "bool" (PySem.dunder "mul") "int.__mul__" Q' e4 e5 e6
theorem Pl.of_bl {K : PySem.W.Frag} {H : Hp} {x : V} {T : String} (h : Pl K H x T) (e : T = "bool") : ∃ z, x = .bl z := by
  have key : ∀ t, TyX K H x t → t = .type "bool" → ∃ z, x = .bl z := fun t h e => by
    cases h with
    | base b =>
      cases b with
      | bl z => exact ⟨z, rfl⟩
      | ins _ _ _ _ _ _ => cases e
      | _ => exact ty_ne e (by decide)
    | _ => exact ty_ne e (by decide)
  exact key _ h.1 (by rw [e])
/-! ### o * y, o // y by an own operator that may raise; y * o by the reflected one -/
section
variable {X : Cx} {CX : CXT} {k : Nat} {C g f : Addr} {fd : FuncData} {ps : List Str} {sp : Sp} {E : L2.St → XK} {pos : Pos} {a b : Expr} {ta tb : TE} {op : Operator}
/-- what the class says of the operator -/
structure OwnOp (K : PySem.W.Frag) (C : Addr) (op : Operator) (f : Addr) : Prop where
  sf : PySem.W.selfFirst K C = true
  at_ : PySem.W.findIn K (.ref C) (PySem.dunder op.info.2) = some (some (.ref f))
  fn : PySem.W.isFn K (.ref f) = true
  rc : ∃ rc, PySem.W.findIn K (.ref C) (dunderR op.info.2) = some rc ∧ (rc = none ∨ ∃ g : Addr, rc = some (.ref g))
def tOwnL (K : PySem.W.Frag) (C : Addr) (sp : Sp) (E : L2.St → XK) (ta tb : TE) : TE := fun σ H Q => ta σ H fun x H1 => tb σ H1 fun y H2 => ∃ p dx fs T, x = V.ref p ∧ H2 p = some (.ins C dx fs) ∧ Pl K H2 y T ∧ sp [x, y] H2 Q (E σ)
theorem pe_ownL (kinds : ∀ T, Kd T → ∃ r, OpK op.info.2 T r) (O : OwnOp X.K C op f) (F : FnOk X.prog X.w X.K X.mg X.base CX k f fd ps sp) (hr : Room k X.A) (hb : Binds X.K fd ps []) (hx : ∀ σ, PassesAt CX X σ (E σ)) (ha : PE X a ta) (hbb : PE X b tb) :
    PE X (.BinOp a op b pos) (tOwnL X.K C sp E ta tb) := by
  refine ⟨fun pins s σ H Q I h => ?_⟩
  refine wpAny_BinOp (binT ha hbb I h fun v u s2 x y H2 I2 rx ry q => ?_)
  obtain ⟨p, dx, fs, T, rfl, hp, ty, hs⟩ := q
  obtain rfl : v = Value.ref p := rx
  obtain ⟨mA, J, _⟩ := ins_get I2.hok hp
  obtain ⟨od, J, _⟩ := J.look
  obtain ⟨P, Z, pz, _⟩ := kit_of I2 ry ty.1
  obtain ⟨r, fl, ro, lk⟩ := kinds T ty.2
  obtain ⟨rc, h1, h2⟩ := O.rc
  refine PySem.W.own_left I2.kIn J (Z.ty _ _ I2.kIn pz) O.sf O.at_ O.fn h1 h2 fl lk (sub_no ty.2) ?_
  refine wpAny_mono (run_fnSD (us := [.ref p, u]) (vs := [.ref p, y]) (dvs := []) F hr hb .nil (hx σ) I2 (.cons rfl (.cons ry .nil)) hs) (fun v s' z => ?_) fun _ _ e => e
  obtain ⟨y', H', I', r', q'⟩ := z
  exact relV_back r' ⟨y', H', I', r', q'⟩
structure OwnR (K : PySem.W.Frag) (C : Addr) (op : Operator) (g f : Addr) : Prop where
  sf : PySem.W.selfFirst K C = true
  at_ : PySem.W.findIn K (.ref C) (PySem.dunder op.info.2) = some (some (.ref g))
  rc : PySem.W.findIn K (.ref C) (dunderR op.info.2) = some (some (.ref f))
  fn : PySem.W.isFn K (.ref f) = true
  s1 : PySem.W.subIn K (.ref C) (.type "int") = some false
  s2 : PySem.W.subIn K (.ref C) (.type "bool") = some false
def tOwnR (K : PySem.W.Frag) (C : Addr) (sp : Sp) (E : L2.St → XK) (ta tb : TE) : TE := fun σ H Q => ta σ H fun y H1 => tb σ H1 fun x H2 => ∃ p dx fs T, x = V.ref p ∧ H2 p = some (.ins C dx fs) ∧ Pl K H2 y T ∧ sp [x, y] H2 Q (E σ)
theorem pe_ownR (O : OwnR X.K C .Mult g f) (F : FnOk X.prog X.w X.K X.mg X.base CX k f fd ps sp) (hr : Room k X.A) (hb : Binds X.K fd ps []) (hx : ∀ σ, PassesAt CX X σ (E σ)) (ha : PE X a ta) (hbb : PE X b tb) :
    PE X (.BinOp a .Mult b pos) (tOwnR X.K C sp E ta tb) := by
  refine ⟨fun pins s σ H Q I h => ?_⟩
  refine wpAny_BinOp (binT ha hbb I h fun u v s2 y x H2 I2 ry rx q => ?_)
  obtain ⟨p, dx, fs, T, rfl, hp, ty, hs⟩ := q
  obtain rfl : v = Value.ref p := rx
  obtain ⟨mA, J, _⟩ := ins_get I2.hok hp
  obtain ⟨od, J, _⟩ := J.look
  obtain ⟨P, Z, pz, _⟩ := kit_of I2 ry ty.1
  have hget : ∃ C' dx', s2.heap.get? p = some (PySem.W.instObj C' dx') := by
    obtain ⟨_, _, _, z, _⟩ := I2.hok p _ hp
    exact ⟨_, _, z⟩
  have run : wpAny (model X.prog X.w) X.A (call (.ref f) [.ref p, u]) (PySem.W.CmpBack (EP X pins σ Q)) X.xe s2 := by
    refine wpAny_mono (run_fnSD (us := [.ref p, u]) (vs := [.ref p, y]) (dvs := []) F hr hb .nil (hx σ) I2 (.cons rfl (.cons ry .nil)) hs) (fun v s' z => ?_) fun _ _ e => e
    obtain ⟨y', H', I', r', q'⟩ := z
    exact relV_back r' ⟨y', H', I', r', q'⟩
  have T0 := Z.ty (model X.prog X.w) _ I2.kIn pz
  have low : ∀ {T : String}, OpK "mul" T false → PySem.W.Looks (model X.prog X.w) s2.heap (typeOf u) (.type T) → wpAny (model X.prog X.w) X.A (binaryOp .Mult u (.ref p)) (EP X pins σ Q) X.xe s2 := fun k t =>
    PySem.W.own_right (op := .Mult) I2.kIn J t O.sf O.at_ O.rc O.fn k.1 run
  obtain ⟨tx, kd⟩ := ty
  have hty : TyX X.K H2 y (.type T) := tx
  cases kd with
  | non => exact low mul_none T0
  | str => exact low mul_str T0
  | lst => exact low mul_list T0
  | tup => exact low mul_tuple T0
  | dct => exact low mul_dict T0
  | int =>
    obtain ⟨i, rfl⟩ := Pl.of_int ⟨tx, .int⟩ rfl
    obtain ⟨t, rfl⟩ := ry
    exact PySem.W.own_right2 (op := .Mult) I2.kIn J T0 O.sf O.at_ O.rc O.fn mul_int.1 O.s1 (dec_int hget) run
  | bl =>
    obtain ⟨i, rfl⟩ := Pl.of_bl ⟨tx, .bl⟩ rfl
    obtain rfl : u = Value.bool i := ry
    exact PySem.W.own_right2 (op := .Mult) I2.kIn J T0 O.sf O.at_ O.rc O.fn mul_bool.1 O.s2 (dec_bool hget) run
end
end Bt
namespace PySem.W
open Lean Elab Tactic Meta PySem PySem.Calls PyProof.Rows
/-! ### an own operator, both operands of one class -/
section
variable {prog : Program} {w : World} {A : Around} {E : Value → Shared → Prop} {s : Shared} {K : Frag} {x y C f : Addr} {ox oy : Obj} {od od2 : Option Obj} {op : Operator}
theorem own_same {Q : Value → Shared → Prop} (KX : K.In s.heap) (I : InstAt s.heap x ox C od) (J : InstAt s.heap y oy C od2) (hc : selfFirst K C = true)
    (hs : findIn K (.ref C) (PySem.dunder op.info.2) = some (some (.ref f))) (hf : isFn K (.ref f) = true)
    (h : wpAny (model prog w) A (call (.ref f) [.ref x, .ref y]) (CmpBack Q) E s) : wpAny (model prog w) A (binaryOp op (.ref x) (.ref y)) Q E s := by
  obtain ⟨cd, rest, hcd, hm⟩ := ksp_first hc
  rcases hi : op.info with ⟨sym, nm'⟩
  rw [hi] at hs
  dsimp only at hs
  have one := ksp_try KX I hs hf h
  obtain ⟨hh, g, d, tt, os⟩ := s
  have L1 : Looks (model prog w) hh (typeOf (.ref x)) (.ref C) := I.type
  have L2 : Looks (model prog w) hh (typeOf (.ref y)) (.ref C) := J.type
  have L3 : Looks (model prog w) hh (fillsNumberSlot (.ref C) nm') true := fills_K KX hcd hm hs
  have ee : (Value.ref C == Value.ref C) = true := beq_iff_eq.mpr rfl
  simp only [binaryOp, hi]
  refine wpAny_holding (wpAny_bind ?_)
  unfold binaryOp1
  refine wpAny_bind (L1.at (wpAny_bind (L2.at (wpAny_bind (L3.at ?_)))))
  simp only [ee, if_true]
  ksp_lk
  refine wpAny_mono one (fun r s' hr' => ?_) fun _ _ e => e
  obtain ⟨v, rfl, hq⟩ := hr'
  ksp_lk
  exact hq
end
end PySem.W
namespace Bt
open PySem PySem.Spec PyProof.Rows L2
section
variable {X : Cx} {CX : CXT} {k : Nat} {C f : Addr} {fd : FuncData} {ps : List Str} {sp : Sp} {E : L2.St → XK} {pos : Pos} {a b : Expr} {ta tb : TE} {op : Operator}
/-- o & p, o | p, .. -/
def tOwnS (C : Addr) (sp : Sp) (E : L2.St → XK) (ta tb : TE) : TE := fun σ H Q => ta σ H fun x H1 => tb σ H1 fun y H2 => ∃ p q dx dy fs gs, x = V.ref p ∧ y = V.ref q ∧ H2 p = some (.ins C dx fs) ∧ H2 q = some (.ins C dy gs) ∧ sp [x, y] H2 Q (E σ)
theorem pe_ownS (hc : PySem.W.selfFirst X.K C = true) (hs : PySem.W.findIn X.K (.ref C) (PySem.dunder op.info.2) = some (some (.ref f))) (hf : PySem.W.isFn X.K (.ref f) = true) (F : FnOk X.prog X.w X.K X.mg X.base CX k f fd ps sp) (hr : Room k X.A) (hb : Binds X.K fd ps []) (hx : ∀ σ, PassesAt CX X σ (E σ)) (ha : PE X a ta) (hbb : PE X b tb) :
    PE X (.BinOp a op b pos) (tOwnS C sp E ta tb) := by
  refine ⟨fun pins s σ H Q I h => ?_⟩
  refine wpAny_BinOp (binT ha hbb I h fun v u s2 x y H2 I2 rx ry q => ?_)
  obtain ⟨p, q', dx, dy, fs, gs, rfl, rfl, hp, hq, hsp⟩ := q
  obtain rfl : v = Value.ref p := rx
  obtain rfl : u = Value.ref q' := ry
  obtain ⟨mA, J, _⟩ := ins_get I2.hok hp
  obtain ⟨od, J, _⟩ := J.look
  obtain ⟨mB, J2, _⟩ := ins_get I2.hok hq
  obtain ⟨od2, J2, _⟩ := J2.look
  refine PySem.W.own_same I2.kIn J J2 hc hs hf ?_
  refine wpAny_mono (run_fnSD (us := [.ref p, .ref q']) (vs := [.ref p, .ref q']) (dvs := []) F hr hb .nil (hx σ) I2 (.cons rfl (.cons rfl .nil)) hsp) (fun v s' z => ?_) fun _ _ e => e
  obtain ⟨y', H', I', r', q'⟩ := z
  exact relV_back r' ⟨y', H', I', r', q'⟩
theorem s_ownS {σ : L2.St} {H : Hp} {Q : VK} (h : ta σ H fun x H1 => tb σ H1 fun y H2 => ∃ p q dx dy fs gs, x = V.ref p ∧ y = V.ref q ∧ H2 p = some (.ins C dx fs) ∧ H2 q = some (.ins C dy gs) ∧ sp [x, y] H2 Q (E σ)) : tOwnS C sp E ta tb σ H Q := h
end
end Bt
namespace Bt
open PySem PySem.Spec PyProof.Rows L2 LamX NdefX
open PySem.W (dataLt dataLe alike AllAlike Sortable)
theorem words120_ : True := by
  k_with "s_C21" => first
    | ((with_reducible refine' s_var ?hv ?_); (case hv => exact rfl))
    | with_reducible first
      | refine' s_c ?_ | refine' s_op ?_ | refine' s_asg ?_ | refine' s_gname ?_ | refine' s_seq ?_ | refine' s_next ?_ | refine' s_ret ?_ | refine' s_ifS ?_ | refine' s_drop ?_ | refine' s_retN ?_ | refine' s_test ?_ | refine' s_B ?_ | refine' q_test ?_ | refine' s_int ?_ | refine' s_cons ?_ | refine' s_nil ?_ | refine' s_call ?_ | refine' s_CB ?_ | refine' s_andT ?_ | refine' s_orT ?_ | refine' s_notT ?_ | refine' s_andV ?_ | refine' s_orV ?_ | refine' s_notV ?_ | refine' s_ifV ?_ | refine' s_chain ?_ | refine' s_sl ?_ | refine' s_noPart ?_ | refine' s_part ?_ | refine' s_gsub ?_ | refine' s_BM ?_ | refine' s_tup ?_ | refine' s_lst ?_ | refine' q_add ?_ | refine' q_sub ?_ | refine' q_lt ?_ | refine' q_le ?_ | refine' q_gt ?_ | refine' q_ge ?_ | refine' s_ifT ?_ | refine' s_ifF ?_ | refine' s_yes ?_ | refine' s_iStr ?_ | refine' s_M0 ?_ | refine' s_for ?_ | refine' s_rng1 ?_ | refine' s_par ?_ | refine' s_gcons ?_ | refine' s_gnil ?_ | refine' s_iList ?_ | refine' s_iEnum ?_ | refine' s_raise1 ?_
      | (refine' q_mod ?hm ?_; (case hm => first | omega | decide))
    | dsimp only
  k_with "r_C21" => repeat (k_extra "s_C21")
  trivial
/-! ### renamings: pairs of places -/
open NS
abbrev Plc : Type := Str × Str
abbrev Rn : Type := Plc × Plc
def NmP (q : Plc) : Prop := Nm q.1 ∧ Nm q.2
def NmR (r : Rn) : Prop := NmP r.1 ∧ NmP r.2
theorem PlAt.placeV {H : Hp} {x : V} {q : Plc} (n : NmP q) : PlAt H x q → PlaceV H x := fun ⟨a, e, h⟩ => ⟨a, _, _, e, h, ⟨_, rfl, n.1⟩, ⟨_, rfl, n.2⟩⟩
/-- is_place of a place -/
theorem q_isPl {K : PySem.W.Frag} {H : Hp} {Q : VK} {E : XK} {x : V} {q : Plc} (h : PlAt H x q) (n : NmP q) (k : ∀ H', Same H H' → Q (.bl true) H') : spPlace K [x] H Q E := by
  have pv := h.placeV n
  obtain ⟨a, rfl, ha⟩ := h
  refine ⟨_, _, rfl, Pl.tup ha, fun e => absurd rfl e, fun _ => ⟨a, _, rfl, ha, fun y hy => ?_, fun z => absurd pv z, fun _ H' S => k H' S⟩⟩
  simp only [List.mem_cons, List.not_mem_nil, or_false] at hy
  rcases hy with rfl | rfl
  · exact nm_arg n.1
  · exact nm_arg n.2
theorem PlAt.tkN {H H' : Hp} {x : V} {q : Plc} (N : TKeep H H') : PlAt H x q → PlAt H' x q := fun ⟨a, e, h⟩ => ⟨a, e, N _ _ h⟩
/-- the renaming r stands in H -/
def RnAt (H : Hp) (x : V) (r : Rn) : Prop := ∃ a u v, x = .ref a ∧ H a = some (.tup [u, v]) ∧ PlAt H u r.1 ∧ PlAt H v r.2
theorem RnAt.tkN {H H' : Hp} {x : V} {r : Rn} (N : TKeep H H') : RnAt H x r → RnAt H' x r := fun ⟨a, u, v, e, h, p, q⟩ => ⟨a, u, v, e, N _ _ h, p.tkN N, q.tkN N⟩
theorem RnAt.mono {H H' : Hp} {x : V} {r : Rn} (S : Same H H') (h : RnAt H x r) : RnAt H' x r := h.tkN (TKeep.of S)
abbrev RnsAt (H : Hp) : List V → List Rn → Prop := Paired (RnAt H)
theorem RnsAt.tkN {H H' : Hp} {xs : List V} {rs : List Rn} (N : TKeep H H') (h : RnsAt H xs rs) : RnsAt H' xs rs := Paired.mapP h fun _ _ z => z.tkN N
theorem RnsAt.mono {H H' : Hp} {xs : List V} {rs : List Rn} (S : Same H H') (h : RnsAt H xs rs) : RnsAt H' xs rs := RnsAt.tkN (TKeep.of S) h
theorem Paired.get {α β : Type} {R : α → β → Prop} {xs : List α} {zs : List β} (h : Paired R xs zs) : ∀ {i : Nat} {x : α}, xs[i]? = some x → ∃ z, zs[i]? = some z ∧ R x z := by
  induction h with
  | nil => intro i x e; simp at e
  | cons h _ ih =>
    intro i x e
    cases i with
    | zero => cases Option.some.inj e; exact ⟨_, rfl, h⟩
    | succ i =>
      obtain ⟨z, m, p⟩ := ih (i := i) (by simpa using e)
      exact ⟨z, by simpa using m, p⟩
theorem Paired.snoc {α β : Type} {R : α → β → Prop} {xs : List α} {zs : List β} {x : α} {z : β} (h : Paired R xs zs) (r : R x z) : Paired R (xs ++ [x]) (zs ++ [z]) := by
  induction h with
  | nil => exact .cons r .nil
  | cons h _ ih => exact .cons h ih
theorem Paired.app {α β : Type} {R : α → β → Prop} {xs ys : List α} {zs ws : List β} (h : Paired R xs zs) (g : Paired R ys ws) : Paired R (xs ++ ys) (zs ++ ws) := by
  induction h with
  | nil => exact g
  | cons h _ ih => exact .cons h ih
theorem Paired.rev {α β : Type} {R : α → β → Prop} {xs : List α} {zs : List β} (h : Paired R xs zs) : Paired R xs.reverse zs.reverse := by
  induction h with
  | nil => exact .nil
  | cons h _ ih =>
    rw [List.reverse_cons, List.reverse_cons]
    exact Bt.Paired.snoc ih h
theorem Pls.get2 {H : Hp} {xs : List V} {ps : List Plc} (h : Pls H xs ps) : ∀ {i : Nat} {x : V}, xs[i]? = some x → ∃ q, ps[i]? = some q ∧ PlAt H x q := by
  induction h with
  | nil => intro i x e; simp at e
  | cons h _ ih =>
    intro i x e
    cases i with
    | zero => cases Option.some.inj e; exact ⟨_, rfl, h⟩
    | succ i =>
      obtain ⟨q, m, p⟩ := ih (i := i) (by simpa using e)
      exact ⟨q, by simpa using m, p⟩
theorem Pls.tkN {H H' : Hp} {xs : List V} {ps : List Plc} (N : TKeep H H') (h : Pls H xs ps) : Pls H' xs ps := by
  induction h with
  | nil => exact .nil
  | cons h _ ih => exact .cons (h.tkN N) ih
def nkP (p : Plc) : NestedKey := .tup [.text p.1, .text p.2]
def nkR (r : Rn) : NestedKey := .tup [nkP r.1, nkP r.2]
theorem nkP_inj {p q : Plc} (h : nkP p = nkP q) : p = q := by
  unfold nkP at h
  injection h with h
  injection h with h1 h2
  injection h1 with h1
  injection h2 with h2 _
  injection h2 with h2
  exact Prod.ext h1 h2
theorem nkR_inj {p q : Rn} (h : nkR p = nkR q) : p = q := by
  unfold nkR at h
  injection h with h
  injection h with h1 h2
  injection h2 with h2 _
  exact Prod.ext (nkP_inj h1) (nkP_inj h2)
theorem PlAt.nat {H : Hp} {x : V} {q : Plc} : PlAt H x q → NAt H x (nkP q) := fun ⟨a, e, h⟩ => by
  subst e
  exact .tup h (.cons (.str _) (.cons (.str _) .nil))
theorem RnAt.key {H : Hp} {a : Addr} {r : Rn} : RnAt H (.ref a) r → KeyN H a (nkR r) := fun ⟨b, u, v, e, h, p, q⟩ => by
  cases e
  exact ⟨.tup h (.cons p.nat (.cons q.nat .nil)), by simp [nkR, nkP, NestedKey.depth, NestedKey.depthAll]⟩
/-- as data -/
def dRn (r : Rn) : PyData := .tuple [dPl r.1, dPl r.2]
theorem nkR_data (r : Rn) : (nkR r).data = dRn r := rfl
theorem RnAt.dp {K : PySem.W.Frag} {H : Hp} {x : V} {r : Rn} : RnAt H x r → Dp K H x (dRn r) := fun ⟨a, u, v, e, h, p, q⟩ => by
  subst e
  exact .tup (SqT.of h) (.cons p.dp (.cons q.dp .nil))
theorem RnsAt.dps {K : PySem.W.Frag} {H : Hp} {xs : List V} {rs : List Rn} (h : RnsAt H xs rs) : DpAll K H xs (rs.map dRn) := by
  induction h with
  | nil => exact .nil
  | cons h _ ih => exact .cons h.dp ih
theorem eqv_rn (p q : Rn) : PyData.eqv (dRn p) (dRn q) = decide (p = q) := by
  unfold dRn
  rw [PyData.eqv, PyData.eqvAll, PyData.eqvAll, PyData.eqvAll, eqv_pl, eqv_pl, Bool.and_true, ← Bool.decide_and]
  exact decide_eq_decide.mpr ⟨fun h => Prod.ext h.1 h.2, fun h => by rw [h]; exact ⟨rfl, rfl⟩⟩
theorem eqvAll_rns : ∀ (xs ys : List Rn), PyData.eqvAll (xs.map dRn) (ys.map dRn) = decide (xs = ys)
  | [], [] => by simp [PyData.eqvAll]
  | [], y :: ys => by simp [PyData.eqvAll]
  | x :: xs, [] => by simp [PyData.eqvAll]
  | x :: xs, y :: ys => by
    simp only [List.map_cons, PyData.eqvAll, eqvAll_rns xs ys, eqv_rn, List.cons.injEq]
    rw [Bool.decide_and]
theorem eqv_rns (xs ys : List Rn) : PyData.eqv (.list (xs.map dRn)) (.list (ys.map dRn)) = decide (xs = ys) := by
  rw [PyData.eqv]
  exact eqvAll_rns xs ys
theorem canLay_rn {r : Rn} (h : NmR r) : PyData.canLay0 (dRn r) = true := by
  have h1 := canLay_pls (ps := [r.1, r.2]) fun q hq => by
    simp only [List.mem_cons, List.not_mem_nil, or_false] at hq
    rcases hq with rfl | rfl
    · exact h.1
    · exact h.2
  show PyData.canLay0 (.tuple [dPl r.1, dPl r.2]) = true
  simp only [PyData.canLay0]
  exact h1
theorem canLay_rns : ∀ {rs : List Rn}, (∀ r ∈ rs, NmR r) → PyData.canLayAll0 (rs.map dRn) = true
  | [], _ => by simp [PyData.canLayAll0]
  | z :: zs, h => by
    simp only [List.map_cons, PyData.canLayAll0, canLay_rn (h z List.mem_cons_self), canLay_rns fun y hy => h y (List.mem_cons_of_mem _ hy), Bool.and_true]
theorem depth_rn (r : Rn) : (dRn r).depth ≤ 6 := by simp [dRn, dPl, PyData.depth, PyData.depthAll]
theorem depth_rns : ∀ (rs : List Rn), PyData.depthAll (rs.map dRn) ≤ 6
  | [] => by simp [PyData.depthAll]
  | z :: zs => by
    have h1 := depth_rns zs
    have h2 := depth_rn z
    simp only [List.map_cons, PyData.depthAll]
    omega
theorem sh_rn {r : Rn} (h : NmR r) : SeqAt.shaped (dRn r) = true := by
  unfold SeqAt.shaped
  rw [Bool.and_eq_true, decide_eq_true_eq]
  have := depth_rn r
  exact ⟨canLay_rn h, by omega⟩
theorem sh_rns {rs : List Rn} (h : ∀ r ∈ rs, NmR r) : SeqAt.shaped (.list (rs.map dRn)) = true := by
  unfold SeqAt.shaped
  rw [Bool.and_eq_true, decide_eq_true_eq]
  have := depth_rns rs
  refine ⟨by simp only [PyData.canLay0]; exact canLay_rns h, ?_⟩
  simp only [PyData.depth]
  omega
/-! ### their order -/
def rLe (p q : Rn) : Bool := dataLe false dRn p q
theorem rLe_antisymm {p q : Rn} (h1 : rLe p q = true) (h2 : rLe q p = true) : p = q := by
  obtain ⟨p1, p2⟩ := p
  obtain ⟨q1, q2⟩ := q
  unfold rLe at h1 h2
  rw [dl_lt] at h1 h2
  unfold dRn at h1 h2
  rw [PySem.W.dataLt_pair (by simp [dPl, alike, PySem.W.alikeAll]) (by simp [dPl, alike, PySem.W.alikeAll])] at h1 h2
  simp only [eqv_pl] at h1 h2
  by_cases e1 : p1 = q1
  · by_cases e2 : p2 = q2
    · rw [e1, e2]
    · exfalso
      simp only [e1, decide_true, if_true, e2, Ne.symm e2, decide_false, Bool.false_eq_true, if_false] at h1 h2
      exact e2 (pLe_antisymm h1 h2)
  · exfalso
    simp only [e1, Ne.symm e1, decide_false, Bool.false_eq_true, if_false] at h1 h2
    exact e1 (pLe_antisymm h1 h2)
theorem rLe_trans {p q r : Rn} (h1 : dataLe false dRn p q = true) (h2 : dataLe false dRn q r = true) : dataLe false dRn p r = true := (PySem.W.sortLe_total _ false _).trans p q r h1 h2
/-- ascending, each once -/
structure Asn (rs : List Rn) : Prop where
  nd : rs.Nodup
  pw : rs.Pairwise fun a b => rLe a b = true
theorem Asn.eq {xs ys : List Rn} (hx : Asn xs) (hy : Asn ys) (h : ∀ r, r ∈ xs ↔ r ∈ ys) : xs = ys :=
  ((List.perm_ext_iff_of_nodup hx.nd hy.nd).mpr h).eq_of_pairwise (fun _ _ _ _ h1 h2 => rLe_antisymm h1 h2) hx.pw hy.pw
def reach (A : Bool) (r : Rn) : Bool := decide (r.1 ≠ r.2) && (A || decide (r.1.1 = r.2.1))
def addTo (acc : List Rn) (r : Rn) : List Rn := if r ∈ acc then acc else acc ++ [r]
def keysOf (A : Bool) (rs : List Rn) : List Rn := rs.foldl (fun acc r => if reach A r = true then addTo acc r else acc) []
theorem keysOf_next (A : Bool) {rs : List Rn} {i : Nat} {r : Rn} (e : rs[i]? = some r) : keysOf A (rs.take (i + 1)) = if reach A r = true then addTo (keysOf A (rs.take i)) r else keysOf A (rs.take i) := by
  unfold keysOf
  rw [List.take_add_one, e, List.foldl_append]
  rfl
theorem addTo_mem {acc : List Rn} {r x : Rn} : x ∈ addTo acc r ↔ x ∈ acc ∨ x = r := by
  unfold addTo
  split
  · rename_i h
    exact ⟨.inl, fun z => z.elim id fun e => e ▸ h⟩
  · simp
theorem keysOf_snoc (A : Bool) (rs : List Rn) (r : Rn) : keysOf A (rs ++ [r]) = if reach A r = true then addTo (keysOf A rs) r else keysOf A rs := by
  unfold keysOf
  rw [List.foldl_append]
  rfl
theorem keysOf_mem {A : Bool} {x : Rn} : ∀ {rs : List Rn}, x ∈ keysOf A rs ↔ x ∈ rs ∧ reach A x = true := fun {rs} => by
  have key : ∀ n, ∀ rs : List Rn, rs.length = n → (x ∈ keysOf A rs ↔ x ∈ rs ∧ reach A x = true) := fun n => by
    induction n with
    | zero =>
      intro rs e
      obtain rfl := List.length_eq_zero_iff.mp e
      simp [keysOf]
    | succ n ih =>
      intro rs e
      obtain ⟨ys, y, rfl⟩ : ∃ ys y, rs = ys ++ [y] := ⟨rs.dropLast, rs.getLast (fun z => by rw [z] at e; cases e), (List.dropLast_concat_getLast _).symm⟩
      have ih := ih ys (by simpa using e)
      rw [keysOf_snoc, List.mem_append, List.mem_singleton]
      by_cases h : reach A y = true
      · rw [if_pos h, addTo_mem, ih]
        constructor
        · rintro (⟨a, b⟩ | rfl)
          · exact ⟨.inl a, b⟩
          · exact ⟨.inr rfl, h⟩
        · rintro ⟨a | rfl, b⟩
          · exact .inl ⟨a, b⟩
          · exact .inr rfl
      · rw [if_neg h, ih]
        constructor
        · rintro ⟨a, b⟩
          exact ⟨.inl a, b⟩
        · rintro ⟨a | rfl, b⟩
          · exact ⟨a, b⟩
          · exact absurd b h
  exact key _ rs rfl
theorem keysOf_asn {A : Bool} {rs : List Rn} (h : rs.Pairwise fun a b => rLe a b = true) : Asn (keysOf A rs) := by
  have key : ∀ n, ∀ rs : List Rn, rs.length = n → (rs.Pairwise fun a b => rLe a b = true) → Asn (keysOf A rs) := fun n => by
    induction n with
    | zero =>
      intro rs e _
      obtain rfl := List.length_eq_zero_iff.mp e
      exact ⟨.nil, .nil⟩
    | succ n ih =>
      intro rs e h
      obtain ⟨ys, y, rfl⟩ : ∃ ys y, rs = ys ++ [y] := ⟨rs.dropLast, rs.getLast (fun z => by rw [z] at e; cases e), (List.dropLast_concat_getLast _).symm⟩
      rw [List.pairwise_append] at h
      have ih := ih ys (by simpa using e) h.1
      rw [keysOf_snoc]
      split
      · unfold addTo
        split
        · exact ih
        · rename_i hn
          refine ⟨List.nodup_append.mpr ⟨ih.nd, by simp, fun a ha b hb e => hn ?_⟩, List.pairwise_append.mpr ⟨ih.pw, by simp, fun a ha b hb => ?_⟩⟩
          · rw [List.mem_singleton.mp hb] at e
            exact e ▸ ha
          · exact h.2.2 a (keysOf_mem.mp ha).1 b hb
      · exact ih
  exact key _ rs rfl h
/-- what rules keep of the barred -/
def cn (A : Bool) (rs : List Rn) : List Rn := keysOf A (rs.mergeSort rLe)
theorem cn_asn (A : Bool) (rs : List Rn) : Asn (cn A rs) := keysOf_asn (dl_pw dRn rs)
theorem cn_mem {A : Bool} {rs : List Rn} {x : Rn} : x ∈ cn A rs ↔ x ∈ rs ∧ reach A x = true := by
  unfold cn
  rw [keysOf_mem, List.mem_mergeSort]
theorem keysOf_len (A : Bool) (rs : List Rn) : (keysOf A rs).length ≤ rs.length := by
  have key : ∀ n, ∀ rs : List Rn, rs.length = n → (keysOf A rs).length ≤ rs.length := fun n => by
    induction n with
    | zero =>
      intro rs e
      obtain rfl := List.length_eq_zero_iff.mp e
      exact Nat.le_refl _
    | succ n ih =>
      intro rs e
      obtain ⟨ys, y, rfl⟩ : ∃ ys y, rs = ys ++ [y] := ⟨rs.dropLast, rs.getLast (fun z => by rw [z] at e; cases e), (List.dropLast_concat_getLast _).symm⟩
      have ih := ih ys (by simpa using e)
      rw [keysOf_snoc, List.length_append, List.length_singleton]
      split
      · unfold addTo
        split
        · omega
        · simp; omega
      · omega
  exact key _ rs rfl
theorem cn_len (A : Bool) (rs : List Rn) : (cn A rs).length ≤ rs.length := by
  have := keysOf_len A (rs.mergeSort rLe)
  rwa [List.length_mergeSort] at this
theorem Asn.cn_self {A : Bool} {B rs : List Rn} (h : Asn B) (m : ∀ x, x ∈ B ↔ x ∈ rs ∧ reach A x = true) : cn A rs = B := (cn_asn A rs).eq h fun x => by rw [cn_mem, m]
end Bt
namespace Bt
open PySem PySem.Spec PyProof.Rows L2 LamX NdefX
open PySem.W (dataLt dataLe alike AllAlike Sortable)
theorem words121_ : True := by
  k_with "s_R21" => first
    | ((with_reducible refine' s_var ?hv ?_); (case hv => exact rfl))
    | with_reducible first
      | refine' s_c ?_ | refine' s_op ?_ | refine' s_asg ?_ | refine' s_gname ?_ | refine' s_seq ?_ | refine' s_next ?_ | refine' s_ret ?_ | refine' s_ifS ?_ | refine' s_drop ?_ | refine' s_retN ?_ | refine' s_test ?_ | refine' s_B ?_ | refine' q_test ?_ | refine' s_int ?_ | refine' s_cons ?_ | refine' s_nil ?_ | refine' s_call ?_ | refine' s_CB ?_ | refine' s_andT ?_ | refine' s_orT ?_ | refine' s_notT ?_ | refine' s_andV ?_ | refine' s_orV ?_ | refine' s_notV ?_ | refine' s_ifV ?_ | refine' s_chain ?_ | refine' s_sl ?_ | refine' s_noPart ?_ | refine' s_part ?_ | refine' s_gsub ?_ | refine' s_BM ?_ | refine' s_tup ?_ | refine' s_lst ?_ | refine' q_add ?_ | refine' q_sub ?_ | refine' q_lt ?_ | refine' q_le ?_ | refine' q_gt ?_ | refine' q_ge ?_ | refine' s_ifT ?_ | refine' s_ifF ?_ | refine' s_yes ?_ | refine' s_iStr ?_ | refine' s_M0 ?_ | refine' s_for ?_ | refine' s_rng1 ?_ | refine' s_par ?_ | refine' s_gcons ?_ | refine' s_gnil ?_ | refine' s_iList ?_ | refine' s_iEnum ?_ | refine' s_raise1 ?_
      | (refine' q_mod ?hm ?_; (case hm => first | omega | decide))
    | dsimp only
  k_with "r_R21" => repeat (k_extra "s_R21")
  trivial
/-! ### rules: what they keep, the functions beside them -/
open NS
structure TxtR (K : PySem.W.Frag) (mg : Str → Option Value) : Prop where
  n_any : mg "any" = none
  d_check_place : Df K mg "check_place" s_check_place ["value"]
  d_isr : Df K mg "_is_renaming" s__is_renaming ["value"]
  d_ars : Df K mg "_are_renamings" s__are_renamings ["value"]
  d_reach : Df K mg "_in_reach" s__in_reach ["across", "renaming"]
  d_check : Df K mg "_check_rules" s__check_rules ["value"]
def rlF (A : Bool) (d : Addr) : List (Str × V) := putF "_barred" (.ref d) (putF "_across" (.bl A) [])
theorem lk_across (A : Bool) (d : Addr) : (rlF A d).lookup ("_across" : Str) = some (.bl A) := by
  unfold rlF
  rw [lookup_putF, if_neg (by decide +kernel), lookup_putF, if_pos rfl]
theorem lk_barred (A : Bool) (d : Addr) : (rlF A d).lookup ("_barred" : Str) = some (.ref d) := by
  unfold rlF
  rw [lookup_putF, if_pos rfl]
/-- the entries of the barred -/
abbrev EnR (H : Hp) : List Ent → List Rn → Prop := Paired fun e r => e.1 = nkR r ∧ RnAt H (.ref e.2.1) r
theorem EnR.tkN {H H' : Hp} {ds : List Ent} {rs : List Rn} (N : TKeep H H') (h : EnR H ds rs) : EnR H' ds rs := Paired.mapP h fun _ _ z => ⟨z.1, z.2.tkN N⟩
theorem EnR.mem {H : Hp} {ds : List Ent} {rs : List Rn} (h : EnR H ds rs) : MemD H ds := by
  induction h with
  | nil => exact fun p hp => nomatch hp
  | cons h _ ih =>
    intro p hp
    rcases List.mem_cons.mp hp with rfl | hp
    · rw [h.1]
      exact h.2.key
    · exact ih p hp
theorem EnR.has {H : Hp} {ds : List Ent} {rs : List Rn} (h : EnR H ds rs) (r : Rn) : hasN ds (nkR r) = decide (r ∈ rs) := by
  induction h with
  | nil => rfl
  | @cons e q _ _ h _ ih =>
    unfold hasN at ih ⊢
    rw [List.any_cons, ih, h.1]
    by_cases z : q = r
    · simp [z]
    · have : nkR q ≠ nkR r := fun e => z (nkR_inj e)
      simp [this, Ne.symm z]
theorem EnR.vals {H : Hp} {ds : List Ent} {rs : List Rn} (h : EnR H ds rs) : RnsAt H (ds.map fun e => V.ref e.2.1) rs := by
  induction h with
  | nil => exact .nil
  | cons h _ ih => exact .cons h.2 ih
theorem EnR.put {H : Hp} {ds : List Ent} {rs : List Rn} (h : EnR H ds rs) {b : Addr} {r : Rn} (hb : RnAt H (.ref b) r) (v : V) : EnR H (putN ds (nkR r) b v) (addTo rs r) := by
  unfold putN addTo
  rw [h.has r]
  by_cases m : r ∈ rs
  · rw [decide_eq_true m, if_pos rfl, if_pos m]
    clear m
    induction h with
    | nil => exact .nil
    | @cons e q _ _ h _ ih =>
      refine .cons ?_ ih
      dsimp only
      split <;> exact h
  · rw [decide_eq_false m, if_neg Bool.false_ne_true, if_neg m]
    exact Bt.Paired.snoc h ⟨rfl, hb⟩
structure RulAt (P : Program) (w : World) (CR : Addr) (H : Hp) (x d : Addr) (A : Bool) (B : List Rn) : Prop where
  hx : ∃ dx, H x = some (.ins CR dx (rlF A d))
  hd : ∃ ds, H d = some (DictN P w d ds) ∧ EnR H ds B
  asn : Asn B
  rch : ∀ r ∈ B, reach A r = true
  nm : ∀ r ∈ B, NmR r
theorem RulAt.keep {P : Program} {w : World} {CR : Addr} {H H' : Hp} {x d : Addr} {A : Bool} {B : List Rn} (kx : ∀ o, H x = some o → H' x = some o) (kd : ∀ o, H d = some o → H' d = some o) (N : TKeep H H') (h : RulAt P w CR H x d A B) : RulAt P w CR H' x d A B :=
  ⟨let ⟨dx, e⟩ := h.hx; ⟨dx, kx _ e⟩, let ⟨ds, e, p⟩ := h.hd; ⟨ds, kd _ e, EnR.tkN N p⟩, h.asn, h.rch, h.nm⟩
theorem RulAt.mono {P : Program} {w : World} {CR : Addr} {H H' : Hp} {x d : Addr} {A : Bool} {B : List Rn} (S : Same H H') (h : RulAt P w CR H x d A B) : RulAt P w CR H' x d A B := h.keep (fun o e => S _ _ e) (fun o e => S _ _ e) (TKeep.of S)
theorem RulAt.but {P : Program} {w : World} {CR : Addr} {H H' : Hp} {pu x d : Addr} {A : Bool} {B : List Rn} {us : List V} (hp : H pu = some (.lst us)) (b : But pu H H') (h : RulAt P w CR H x d A B) : RulAt P w CR H' x d A B := by
  obtain ⟨dx, ex⟩ := id h.hx
  obtain ⟨ds, ed, _⟩ := id h.hd
  exact h.keep (fun o e => b _ _ (fun z => by rw [z, hp] at ex; cases ex) e) (fun o e => b _ _ (fun z => by rw [z, hp] at ed; cases ed) e) (TKeep.but hp (fun _ z => nomatch z) b)
section
variable {P : Program} {w : World} {K : PySem.W.Frag} {mg : Str → Option Value} {base : Heap}
def spIsr : Sp := fun vs H Q _ => ∃ x r, vs = [x] ∧ RnAt H x r ∧ NmR r ∧ ∀ H', Same H H' → Q (.bl true) H'
theorem ok__is_renaming (T : Txt K mg) (N : TxtN K mg) (I : TxtI K mg) (R : TxtR K mg) : Cal P w K mg base 3 "_is_renaming" spIsr := by
  refine R.d_isr.cal sc__is_renaming (fun vs H Q E h => ?_) (fun f cdv A outer s H vs Q E hr h => ?_)
  · obtain ⟨x, r, rfl, _⟩ := h
    rfl
  · obtain ⟨x, r, rfl, ⟨a, u, v, rfl, ha, hu1, hv1⟩, nm, k⟩ := h
    have hu := hr.units
    refine ⟨_, (pss_one (ps_ret (pe_and (pe_callB call_isi (by rfl) T.n_isinstance (by decide +kernel) (pa_cons (pv 0) (pa_cons (pe_bltn (v := .ty "tuple") (by rfl) T.n_tuple (by decide +kernel) rfl) pa_nil))) (pe_and (pe_cmpR (op_eqU hu) (pe_callB call_lenQ (by rfl) N.n_len (by decide +kernel) (pa_cons (pv 0) pa_nil)) pe_int (by rfl)) (pe_and (pe_c (ok_is_place T N I) hr (by decide) rfl (pa_cons (pe_ix ix_seq (pv 0) pe_int (fun _ _ => rfl)) pa_nil)) (pe_one (pe_c (ok_is_place T N I) hr (by decide) rfl (pa_cons (pe_ix ix_seq (pv 0) pe_int (fun _ _ => rfl)) pa_nil)))))))), ?_⟩
    k_extra "r_R21"
    refine q_isi (Pl.tup ha) .tup ?_
    k_extra "r_R21"
    refine s_if1 rfl ?_
    k_extra "r_R21"
    refine q_lenT (SqT.of ha) ?_
    k_extra "r_R21"
    refine q_eq rfl ?_
    k_extra "r_R21"
    refine s_if1 rfl ?_
    k_extra "r_R21"
    refine q_ixT (SqT.of ha) (at_of (j := 0) rfl rfl) ?_
    k_extra "r_R21"
    refine q_isPl hu1 nm.1 fun H1 S1 => ?_
    k_extra "r_R21"
    refine q_ixT (SqT.of (S1 _ _ ha)) (at_of (j := 1) rfl rfl) ?_
    k_extra "r_R21"
    refine q_isPl (hv1.mono S1) nm.2 fun H2 S2 => ?_
    exact k H2 (S1.trans S2)
def spArs : Sp := fun vs H Q _ => ∃ l xs rs, vs = [.ref l] ∧ H l = some (.lst xs) ∧ RnsAt H xs rs ∧ (∀ r ∈ rs, NmR r) ∧ xs.length < 1000 ∧ ∀ H', Same H H' → Q (.bl true) H'
theorem ok__are_renamings (T : Txt K mg) (N : TxtN K mg) (I : TxtI K mg) (R : TxtR K mg) : Cal P w K mg base 4 "_are_renamings" spArs := by
  refine R.d_ars.cal sc__are_renamings (fun vs H Q E h => ?_) (fun f cdv A outer s H vs Q E hr h => ?_)
  · obtain ⟨l, xs, rs, rfl, _⟩ := h
    rfl
  · obtain ⟨l, xs, rs, rfl, hl, hx, nm, lx, k⟩ := h
    refine ⟨_, (pss_one (ps_ret (pe_and (pe_callB call_isi (by rfl) T.n_isinstance (by decide +kernel) (pa_cons (pv 0) (pa_cons (pe_bltn (v := .ty "list") (by rfl) T.n_list (by decide +kernel) rfl) pa_nil))) (pe_one (pe_callB (call_allB rfl) (by rfl) N.n_all (by decide +kernel) (pa_cons (pe_lc (own := [("item", 1)]) (g := gName 1) (tt := tYes) (te := tCall spIsr [] E0 (tCons (tVar 1) tNil)) rfl sc__are_renamings.nd (pi_list (pv 0)) (blkOk_by (own := [("item", 1)]) (N := ["value", "item"]) (sc := defScope s__are_renamings) (by decide +kernel)) (fun _ _ _ _ _ => pg_name (i := 1) sc__are_renamings.nd rfl (Or.inl rfl)) (fun _ _ _ _ _ => pts_nil) (fun _ _ _ _ _ => by exact (pe_c (ok__is_renaming T N I R) hr (by decide) rfl (pa_cons (pv 1) pa_nil)))) pa_nil)))))), ?_⟩
    k_extra "r_R21"
    refine q_isi (Pl.lst hl) .lst ?_
    k_extra "r_R21"
    refine s_if1 rfl ?_
    k_extra "r_R21"
    refine s_lc ?_
    k_extra "r_R21"
    refine ⟨l, rfl, ⟨_, SqL.of hl⟩, fun D nD => lc_list (K := K) (a := l) (xs := xs) (fun i H' => Same H H' ∧ H' D = some (.lst ((xs.take i).map fun _ => .bl true))) ⟨Same.new nD, upd_same⟩ (fun i H' _ h => SqL.of (h.1 _ _ hl)) ?_ ?_⟩
    · rintro j x H1 hj ⟨S1, h1⟩
      obtain ⟨r, er, hr'⟩ := Paired.get hx hj
      k_extra "r_R21"
      refine ⟨rfl, ?_⟩
      k_extra "r_R21"
      refine ⟨x, r, rfl, hr'.mono S1, nm r (List.mem_of_getElem? er), fun H2 S2 => ?_⟩
      refine ⟨_, S2 _ _ h1, ?_, same_mut (S1.trans S2) nD, ?_⟩
      · rw [List.length_map, List.length_take]
        exact szlt (by omega)
      · rw [upd_same, take_map_more hj]
    · rintro H1 ⟨S1, h1⟩
      rw [List.take_of_length_le (Nat.le_refl _)] at h1
      k_extra "r_R21"
      refine q_allB (bs := xs.map fun _ => true) (SqL.of (by rw [List.map_map]; exact h1)) ?_
      rw [show (xs.map fun _ => true).all id = true by simp]
      exact k H1 S1
def spReach : Sp := fun vs H Q _ => ∃ A x r, vs = [.bl A, x] ∧ RnAt H x r ∧ NmR r ∧ Q (.bl (reach A r)) H
theorem ok__in_reach (R : TxtR K mg) : Cal P w K mg base 1 "_in_reach" spReach := by
  refine R.d_reach.cal sc__in_reach (fun vs H Q E h => ?_) (fun f cdv A outer s H vs Q E hr h => ?_)
  · obtain ⟨A, x, r, rfl, _⟩ := h
    rfl
  · obtain ⟨A, x, r, rfl, ⟨a, u, v, rfl, ha, hu1, hv1⟩, nm, k⟩ := h
    have hu := hr.units
    refine ⟨_, (pss_cons (ps_asg (pv 1) (pg_tup (by rfl) (pgs_cons (pg_name (i := 2) sc__in_reach.nd rfl (.inl rfl)) (pgs_cons (pg_name (i := 3) sc__in_reach.nd rfl (.inl rfl)) pgs_nil))))
      (pss_one (ps_ret (pe_and (pe_cmpR (op_neU hu) (pv 2) (pv 3) (by rfl)) (pe_one (pe_or (pv 0) (pe_one (pe_cmpR (op_eqU hu) (pe_ix ix_seq (pv 2) pe_int (fun _ _ => rfl)) (pe_ix ix_seq (pv 3) pe_int (fun _ _ => rfl)) (by rfl))))))))), ?_⟩
    k_extra "r_R21"
    refine ⟨a, [u, v], rfl, SqT.of ha, rfl, ?_⟩
    k_extra "r_R21"
    refine q_neD hu1.dp hv1.dp (sh_pl nm.1.1 nm.1.2) (sh_pl nm.2.1 nm.2.2) ?_
    rw [eqv_pl]
    unfold reach at k
    by_cases e : r.1 = r.2
    · rw [decide_eq_true e]
      rw [decide_eq_false (fun z => z e), Bool.false_and] at k
      exact ⟨_, rfl, s_if0 rfl k⟩
    · rw [decide_eq_false e]
      rw [decide_eq_true e, Bool.true_and] at k
      refine ⟨_, rfl, s_if1 rfl ?_⟩
      k_extra "r_R21"
      cases A with
      | true => exact k
      | false =>
        k_extra "r_R21"
        obtain ⟨b, rfl, hb⟩ := hu1
        obtain ⟨c, rfl, hc⟩ := hv1
        refine q_ixT (SqT.of hb) (at_of (j := 0) rfl rfl) ?_
        k_extra "r_R21"
        refine q_ixT (SqT.of hc) (at_of (j := 0) rfl rfl) ?_
        refine q_eq rfl ?_
        rw [show decide (V.str r.1.1 = V.str r.2.1) = decide (r.1.1 = r.2.1) from decide_eq_decide.mpr ⟨fun h => V.str.inj h, fun h => by rw [h]⟩]
        exact k
end
end Bt
namespace Bt
open PySem PySem.Spec PyProof.Rows L2 LamX NdefX
open PySem.W (dataLt dataLe alike AllAlike Sortable)
theorem words122_ : True := by
  k_with "s_R21b" => first
    | ((with_reducible refine' s_var ?hv ?_); (case hv => exact rfl))
    | with_reducible first
      | refine' s_c ?_ | refine' s_op ?_ | refine' s_asg ?_ | refine' s_gname ?_ | refine' s_seq ?_ | refine' s_next ?_ | refine' s_ret ?_ | refine' s_ifS ?_ | refine' s_drop ?_ | refine' s_retN ?_ | refine' s_test ?_ | refine' s_B ?_ | refine' q_test ?_ | refine' s_int ?_ | refine' s_cons ?_ | refine' s_nil ?_ | refine' s_call ?_ | refine' s_CB ?_ | refine' s_andT ?_ | refine' s_orT ?_ | refine' s_notT ?_ | refine' s_andV ?_ | refine' s_orV ?_ | refine' s_notV ?_ | refine' s_ifV ?_ | refine' s_chain ?_ | refine' s_sl ?_ | refine' s_noPart ?_ | refine' s_part ?_ | refine' s_gsub ?_ | refine' s_BM ?_ | refine' s_tup ?_ | refine' s_lst ?_ | refine' q_add ?_ | refine' q_sub ?_ | refine' q_lt ?_ | refine' q_le ?_ | refine' q_gt ?_ | refine' q_ge ?_ | refine' s_ifT ?_ | refine' s_ifF ?_ | refine' s_yes ?_ | refine' s_iStr ?_ | refine' s_M0 ?_ | refine' s_for ?_ | refine' s_rng1 ?_ | refine' s_par ?_ | refine' s_gcons ?_ | refine' s_gnil ?_ | refine' s_iList ?_ | refine' s_iEnum ?_ | refine' s_raise1 ?_
      | (refine' q_mod ?hm ?_; (case hm => first | omega | decide))
    | dsimp only
  k_with "r_R21b" => repeat (k_extra "s_R21b")
  trivial
/-! ### Rules(..) -/
open NS
def gRl (us ws : List Value) : List Value := us ++ ws
def gRlV (vs zs : List V) : List V := vs ++ zs
structure RulesC (K : PySem.W.Frag) (mg : Str → Option Value) (CR : Addr) : Prop where
  cl : Cls K CR
  n1 : NoAttr K CR "_across"
  n2 : NoAttr K CR "_barred"
  g : mg "Rules" = some (.ref CR)
  makes : PySem.W.makesIn K CR = true
  kp : PySem.W.keepIn K (.ref CR) = true
  init : ∃ (f : Addr) (fd : FuncData) (ds : List Value), PySem.W.findIn K (.ref CR) "__init__" = some (some (.ref f)) ∧ PySem.W.isFn K (.ref f) = true ∧ FunD K "__init__" "Rules.__init__" (defArgs s_Rules___init__) (defBody s_Rules___init__) (defScope s_Rules___init__) [] [("across", .bl true), ("barred", .non)] f fd ∧
    KBn K fd ["self", "across", "barred"] 1 ["across", "barred"] gRl gRlV ∧ Vals [.bl true, .non] ds ∧ Binds K fd ["self", "across", "barred"] ds
  i1 : PySem.W.findIn K (.ref CR) "__class__" = some (some (.builtin "object.__class__"))
  i2 : PySem.W.specialIn K (.builtin "object.__class__") "__get__" = some (some (.builtin "getset_descriptor.__get__"))
  i3 : PySem.W.takesIn K (.builtin "object.__class__") = some true
  i4 : PySem.W.mroIn K CR (.type "object") = some true
  kY : PySem.W.kitOne K (.ref CR) (.ref CR) = some true
  kN : ∀ T, Kd T → PySem.W.kitOne K (.type T) (.ref CR) = some false
/-- the rules' own lists, sorted -/
theorem RnsAt.pairs {H : Hp} {xs : List V} {rs : List Rn} (h : RnsAt H xs rs) : ∃ zs : List (V × Rn), zs.map (·.1) = xs ∧ zs.map (·.2) = rs ∧ ∀ z ∈ zs, RnAt H z.1 z.2 := by
  induction h with
  | nil => exact ⟨[], rfl, rfl, fun _ h => absurd h List.not_mem_nil⟩
  | cons h _ ih =>
    obtain ⟨zs, rfl, rfl, k⟩ := ih
    exact ⟨(_, _) :: zs, rfl, rfl, fun z m => by
      rcases List.mem_cons.mp m with rfl | m
      · exact h
      · exact k z m⟩
theorem RnsAt.of {H : Hp} : ∀ {zs : List (V × Rn)}, (∀ z ∈ zs, RnAt H z.1 z.2) → RnsAt H (zs.map (·.1)) (zs.map (·.2))
  | [], _ => .nil
  | z :: zs, h => .cons (h z List.mem_cons_self) (RnsAt.of fun y m => h y (List.mem_cons_of_mem _ m))
theorem q_sortR {K : PySem.W.Frag} {H : Hp} {Q : VK} {a : Addr} {xs : List V} {rs : List Rn} (h : SqL K H a xs) (hp : RnsAt H xs rs)
    (q : ∀ p H' ys, H p = none → Same H H' → H' p = some (.lst ys) → RnsAt H' ys (rs.mergeSort rLe) → Q (.ref p) H') : rSortD K [.ref a] H Q := by
  obtain ⟨zs, rfl, rfl, k⟩ := hp.pairs
  refine q_sortD (zs.map fun z => (z.1, dRn z.2)) (by rw [List.map_map]; exact h) (fun z hz => ?_) ?_ ?_ fun p H' np S hp' => ?_
  · obtain ⟨y, my, rfl⟩ := List.mem_map.mp hz
    exact ⟨(k y my).dp, Nat.le_trans (depth_rn y.2) (by decide)⟩
  · rw [List.map_map]
    exact AllAlike.of fun b b' => by simp [dRn, dPl, alike, PySem.W.alikeAll]
  · rw [List.map_map]
    exact Sortable.tuples fun b => ⟨_, _, rfl⟩
  · have m1 : (zs.map fun z => (z.1, dRn z.2)).mergeSort prLe = (zs.mergeSort (dataLe false fun z : V × Rn => dRn z.2)).map fun z => (z.1, dRn z.2) :=
      (List.map_mergeSort (f := fun z : V × Rn => ((z.1, dRn z.2) : V × PyData)) (r := dataLe false fun z : V × Rn => dRn z.2) (s := prLe) fun _ _ _ _ => rfl).symm
    have m2 : (zs.mergeSort (dataLe false fun z : V × Rn => dRn z.2)).map (·.2) = (zs.map (·.2)).mergeSort rLe :=
      List.map_mergeSort (f := fun z : V × Rn => z.2) (r := dataLe false fun z : V × Rn => dRn z.2) (s := rLe) fun _ _ _ _ => rfl
    rw [m1, List.map_map] at hp'
    refine q p H' _ np S hp' ?_
    rw [← m2]
    exact RnsAt.of fun z mz => (k z (List.mem_mergeSort.mp mz)).mono S
/-- the barred that are handed in: None, or a list -/
def BarAt (H : Hp) (b : V) (rs : List Rn) : Prop := (b = .non ∧ rs = []) ∨ ∃ l xs, b = .ref l ∧ H l = some (.lst xs) ∧ RnsAt H xs rs
section
variable {P : Program} {w : World} {K : PySem.W.Frag} {mg : Str → Option Value} {base : Heap} {CR CI : Addr}
def spRInit (P : Program) (w : World) (CR : Addr) : Sp := fun vs H Q _ => ∃ p dx A b rs, vs = [.ref p, .bl A, b] ∧ H p = some (.ins CR dx []) ∧ BarAt H b rs ∧ (∀ r ∈ rs, NmR r) ∧ rs.length < 1000 ∧
  ∀ H' d, RulAt P w CR H' p d A (cn A rs) → H d = none → But p H H' → Q .non H'
theorem ok_rules_init {f : Addr} {fd : FuncData} (T : Txt K mg) (N : TxtN K mg) (I : TxtI K mg) (R : TxtR K mg) (RC : RulesC K mg CR)
    (F : FunD K "__init__" "Rules.__init__" (defArgs s_Rules___init__) (defBody s_Rules___init__) (defScope s_Rules___init__) [] [("across", .bl true), ("barred", .non)] f fd) : FnOk P w K mg base (L2.CX P w) 5 f fd ["self", "across", "barred"] (spRInit P w CR) := by
  refine F.ok sc_Rules___init__ (fun vs H Q E h => ?_) (fun cdv A outer s H vs Q E hr h => ?_)
  · obtain ⟨p, dx, A, b, rs, rfl, _⟩ := h
    rfl
  · obtain ⟨p, dx, Ac, b, rs, rfl, hp, hb, nm, lr, k⟩ := h
    have hu := hr.units
    refine ⟨_, (C8.pss_cut (ps_if (pt_not (PW.pt (pw_and (pt_val (pe_callB call_isi (by rfl) T.n_isinstance (by decide +kernel) (pa_cons (pv 1) (pa_cons (pe_bltn (v := .ty "bool") (by rfl) T.n_bool (by decide +kernel) rfl) pa_nil)))) (pw_and1 (PW.pt (pw_or (pt_cmpR op_isNon (pv 2) pe_non (by rfl)) (pw_or1 (pt_val (pe_c (ok__are_renamings T N I R) hr (by decide) rfl (pa_cons (pv 2) pa_nil)))))))))) pss_deadA pss_nil)
      (C8.pss_cut (ps_set (i := 3) sc_Rules___init__.nd rfl (.inl rfl) (pe_ifExp (pt_cmpR op_isNon (pv 2) pe_non (by rfl)) (pe_lst pa_nil) (pe_callB (cr_sortD hu) (by rfl) T.n_sorted (by decide +kernel) (pa_cons (pv 2) pa_nil))))
      (pss_cons (ps_fld (pv 0) (pv 1) rfl)
      (pss_one (ps_fld (pv 0) (pe_dcN (own := [("renaming", 4)]) (g := gName 4) (tt := tB (tCall spReach [] E0 (tCons (tVar 1) (tCons (tVar 4) tNil)))) (tk := tVar 4) (tv := tC (.bl true)) rfl hu sc_Rules___init__.nd (pi_list (pv 3)) (blkOk_by (own := [("renaming", 4)]) (N := ["self", "across", "barred", "given", "renaming"]) (sc := defScope s_Rules___init__) (by decide +kernel)) (fun _ _ _ _ _ => pg_name (i := 4) sc_Rules___init__.nd rfl (Or.inl rfl)) (fun _ _ _ _ _ => pts_one (pt_val (by exact (pe_c (ok__in_reach R) hr (by decide) rfl (pa_cons (pv 1) (pa_cons (pv 4) pa_nil)))))) (fun _ _ _ _ _ => pv 4) (fun _ _ _ _ _ => pe_bl)) rfl))))), ?_⟩
    refine q_cut8 (M := fun σ H' => σ = [some (.ref p), some (.bl Ac), some b, none, none] ∧ Same H H') ?_ ?_
    · k_extra "r_R21b"
      refine q_isi Pl.bl .bl ?_
      k_extra "r_R21b"
      refine s_if1 rfl ?_
      k_extra "r_R21b"
      refine q_isNon ?_
      rcases hb with ⟨rfl, _⟩ | ⟨l, xs, rfl, hl, hx⟩
      · refine q_test (s_if1 (decide_eq_true rfl) ?_)
        refine s_if0 rfl ?_
        k_extra "r_R21b"
        exact ⟨rfl, Same.refl H⟩
      · refine q_test (s_if0 (decide_eq_false fun z => by cases z) ?_)
        k_extra "r_R21b"
        have lx : xs.length = rs.length := Paired.length hx
        refine ⟨l, xs, rs, rfl, hl, hx, nm, by omega, fun H1 S1 => ?_⟩
        k_extra "r_R21b"
        refine s_if0 rfl ?_
        k_extra "r_R21b"
        exact ⟨rfl, S1⟩
    rintro σ H1 ⟨rfl, S1⟩
    refine q_cut8 (M := fun σ H' => ∃ l ys, σ = [some (.ref p), some (.bl Ac), some b, some (.ref l), none] ∧ Same H H' ∧ H' l = some (.lst ys) ∧ RnsAt H' ys (rs.mergeSort rLe)) ?_ ?_
    · k_extra "r_R21b"
      refine q_isNon ?_
      rcases hb with ⟨rfl, rfl⟩ | ⟨l, xs, rfl, hl, hx⟩
      · refine q_test (s_if1 (decide_eq_true rfl) ?_)
        k_extra "r_R21b"
        refine q_newL (by show 0 ≤ sizeLine; decide) fun l2 H2 n2 S2 h2 => ?_
        exact ⟨l2, [], rfl, S1.trans S2, h2, by simpa using Paired.nil⟩
      · refine q_test (s_if0 (decide_eq_false fun z => by cases z) ?_)
        k_extra "r_R21b"
        refine q_sortR (SqL.of (S1 _ _ hl)) (hx.mono S1) fun l2 H2 ys n2 S2 h2 x2 => ?_
        exact ⟨l2, ys, rfl, S1.trans S2, h2, x2⟩
    clear hb S1
    rintro σ H2 ⟨l, ys, rfl, S2, hl, hx⟩
    have lm : (rs.mergeSort rLe).length = rs.length := List.length_mergeSort _
    have ly : ys.length = rs.length := by rw [← lm]; exact Paired.length hx
    have lp : l ≠ p := fun z => by rw [z, S2 _ _ hp] at hl; cases hl
    k_extra "r_R21b"
    refine s_sFld ?_
    k_extra "r_R21b"
    refine ⟨p, CR, dx, [], rfl, S2 _ _ hp, RC.cl, RC.n1, (by show 0 < 1000; decide), ?_⟩
    have B3 : But p H (upd H2 p (.ins CR dx (putF "_across" (.bl Ac) []))) := fun b o nb e => by rw [upd_ne nb]; exact S2 _ _ e
    have g3 : (upd H2 p (.ins CR dx (putF "_across" (.bl Ac) []))) p = some (.ins CR dx (putF "_across" (.bl Ac) [])) := upd_same
    have l3 : (upd H2 p (.ins CR dx (putF "_across" (.bl Ac) []))) l = some (.lst ys) := by rw [upd_ne lp]; exact hl
    have x3 : RnsAt (upd H2 p (.ins CR dx (putF "_across" (.bl Ac) []))) ys (rs.mergeSort rLe) := RnsAt.tkN (TKeep.put (S2 _ _ hp) fun _ z => nomatch z) hx
    show sFld _ _ _ _ _ _ (upd H2 p (.ins CR dx (putF "_across" (.bl Ac) [])))
    generalize (upd H2 p (.ins CR dx (putF "_across" (.bl Ac) []))) = H3 at B3 g3 l3 x3 ⊢
    refine s_sFld ?_
    refine s_dcN ?_
    k_extra "r_R21b"
    refine ⟨l, rfl, ⟨_, SqL.of l3⟩, fun D nD => dc_listN (K := K) (a := l) (xs := ys) (fun i H' => Same H3 H' ∧ ∃ ds, H' D = some (DictN P w D ds) ∧ EnR H' ds (keysOf Ac ((rs.mergeSort rLe).take i)) ∧ ds.length ≤ i) ⟨Same.new nD, [], upd_same, .nil, Nat.le_refl _⟩ (fun i H' _ h => SqL.of (h.1 _ _ l3)) ?_ ?_⟩
    · rintro j x H4 hj ⟨S4, ds, h4, e4, l4⟩
      obtain ⟨r, er, hr'⟩ := Paired.get x3 hj
      have mr := List.mem_mergeSort.mp (List.mem_of_getElem? er)
      have lj := (List.getElem?_eq_some_iff.mp hj).1
      k_extra "r_R21b"
      refine ⟨rfl, ?_⟩
      k_extra "r_R21b"
      refine ⟨Ac, x, r, rfl, hr'.mono S4, nm r mr, ?_⟩
      rw [keysOf_next Ac er]
      refine q_test ?_
      cases e : reach Ac r with
      | false =>
        refine s_if0 rfl ?_
        exact ⟨S4, ds, h4, by simpa [e] using e4, by omega⟩
      | true =>
        refine s_if1 rfl ?_
        k_extra "r_R21b"
        obtain ⟨a, u, v, rfl, q4⟩ := hr'.mono S4
        have ha : RnAt H4 (.ref a) r := ⟨a, u, v, rfl, q4⟩
        refine ⟨a, nkR r, ds, rfl, ha.key, h4, e4.mem, szlt (by omega), same_mut S4 nD, _, upd_same, ?_, ?_⟩
        · rw [if_pos rfl]
          exact EnR.tkN (ext_tk (X := cxOf (CX P w) P w K mg base ["self", "across", "barred", "given", "renaming"] "Rules.__init__" (defScope s_Rules___init__) f cdv A outer s H E) h4) (e4.put ha _)
        · have := putN_len ds (nkR r) a (.bl true)
          omega
    · rintro H4 ⟨S4, ds, h4, e4, l4⟩
      rw [ly, ← lm, List.take_of_length_le (Nat.le_refl _)] at e4
      k_extra "r_R21b"
      have Dp : D ≠ p := fun z => by rw [z, g3] at nD; cases nD
      refine ⟨p, CR, dx, _, rfl, S4 _ _ g3, RC.cl, RC.n2, (by show 1 < 1000; decide), ?_⟩
      refine k _ D ⟨⟨dx, upd_same⟩, ⟨ds, by rw [upd_ne Dp]; exact h4, EnR.tkN (TKeep.put (S4 _ _ g3) fun _ z => nomatch z) e4⟩, cn_asn Ac rs, fun r m => (cn_mem.mp m).2, fun r m => nm r (cn_mem.mp m).1⟩ (B3.free Dp nD) fun b o nb e => by rw [upd_ne nb]; exact S4 _ _ (B3 _ _ nb e)
end
end Bt
namespace Bt
open PySem PySem.Spec PyProof.Rows L2 LamX NdefX
open PySem.W (dataLt dataLe alike AllAlike Sortable)
theorem words123_ : True := by
  k_with "s_R21c" => first
    | ((with_reducible refine' s_var ?hv ?_); (case hv => exact rfl))
    | with_reducible first
      | refine' s_c ?_ | refine' s_op ?_ | refine' s_asg ?_ | refine' s_gname ?_ | refine' s_seq ?_ | refine' s_next ?_ | refine' s_ret ?_ | refine' s_ifS ?_ | refine' s_drop ?_ | refine' s_retN ?_ | refine' s_test ?_ | refine' s_B ?_ | refine' q_test ?_ | refine' s_int ?_ | refine' s_cons ?_ | refine' s_nil ?_ | refine' s_call ?_ | refine' s_CB ?_ | refine' s_andT ?_ | refine' s_orT ?_ | refine' s_notT ?_ | refine' s_andV ?_ | refine' s_orV ?_ | refine' s_notV ?_ | refine' s_ifV ?_ | refine' s_chain ?_ | refine' s_sl ?_ | refine' s_noPart ?_ | refine' s_part ?_ | refine' s_gsub ?_ | refine' s_BM ?_ | refine' s_tup ?_ | refine' s_lst ?_ | refine' q_add ?_ | refine' q_sub ?_ | refine' q_lt ?_ | refine' q_le ?_ | refine' q_gt ?_ | refine' q_ge ?_ | refine' s_ifT ?_ | refine' s_ifF ?_ | refine' s_yes ?_ | refine' s_iStr ?_ | refine' s_M0 ?_ | refine' s_for ?_ | refine' s_rng1 ?_ | refine' s_par ?_ | refine' s_gcons ?_ | refine' s_gnil ?_ | refine' s_iList ?_ | refine' s_iEnum ?_ | refine' s_raise1 ?_
      | (refine' q_mod ?hm ?_; (case hm => first | omega | decide))
    | dsimp only
  k_with "r_R21c" => repeat (k_extra "s_R21c")
  trivial
/-! ### the methods of rules -/
theorem s_prop {C : Addr} {sp : Sp} {dvs : List V} {E : XK} {ta : TE} {σ : L2.St} {H : Hp} {Q : VK} (h : ta σ H fun x H1 => ∃ a dx fs, x = .ref a ∧ H1 a = some (.ins C dx fs) ∧ sp (.ref a :: dvs) H1 Q E) : tProp C sp dvs E ta σ H Q := h
open NS
def allows (A : Bool) (B : List Rn) (r : Rn) : Bool := reach A r && !decide (r ∈ B)
structure RulesM (K : PySem.W.Frag) (CR : Addr) : Prop where
  sf : PySem.W.selfFirst K CR = true
  across : ∃ (p f : Addr) (fd : FuncData), PropOf K CR "across" p f ∧ Fun K "across" "Rules.across" s_Rules_across f fd ∧ Binds K fd ["self"] []
  barred : ∃ (p f : Addr) (fd : FuncData), PropOf K CR "barred" p f ∧ Fun K "barred" "Rules.barred" s_Rules_barred f fd ∧ Binds K fd ["self"] []
  call : ∃ (f : Addr) (fd : FuncData), StX.CallO K CR f ∧ Fun K "__call__" "Rules.__call__" s_Rules___call__ f fd ∧ Binds K fd ["self", "one", "other"] []
  allow : ∃ (f : Addr) (fd : FuncData), Meth K CR "_allows" f ∧ Fun K "_allows" "Rules._allows" s_Rules__allows f fd ∧ Binds K fd ["self", "renaming"] []
  eq : ∃ (f : Addr) (fd : FuncData), PySem.W.findIn K (.ref CR) "__eq__" = some (some (.ref f)) ∧ PySem.W.isFn K (.ref f) = true ∧ Fun K "__eq__" "Rules.__eq__" s_Rules___eq__ f fd ∧ Binds K fd ["self", "other"] []
  nY : PySem.W.notFirst K CR (.ref CR) = true
theorem rlF_no {A : Bool} {d : Addr} : (rlF A d).lookup (Str.ofString "_allows") = none := by
  unfold rlF
  rw [lookup_putF, if_neg (by decide +kernel), lookup_putF, if_neg (by decide +kernel)]
  rfl
section
variable {P : Program} {w : World} {K : PySem.W.Frag} {mg : Str → Option Value} {base : Heap} {CR CI : Addr}
def spAcross (P : Program) (w : World) (CR : Addr) : Sp := fun vs H Q _ => ∃ x d A B, vs = [.ref x] ∧ RulAt P w CR H x d A B ∧ Q (.bl A) H
theorem ok_rules_across {f : Addr} {fd : FuncData} (RC : RulesC K mg CR) (F : Fun K "across" "Rules.across" s_Rules_across f fd) : FnOk P w K mg base CX0 1 f fd ["self"] (spAcross P w CR) := by
  refine F.ok sc_Rules_across (fun vs H Q E h => ?_) (fun cdv A outer s H vs Q E hr h => ?_)
  · obtain ⟨x, d, A, B, rfl, _⟩ := h
    rfl
  · obtain ⟨x, d, Ac, B, rfl, hs, k⟩ := h
    refine ⟨_, (pss_one (ps_ret (pe_fld (pv 0) rfl))), ?_⟩
    k_extra "r_R21c"
    refine s_fld ?_
    k_extra "r_R21c"
    obtain ⟨dx, hx⟩ := hs.hx
    exact ⟨x, CR, dx, _, .bl Ac, rfl, hx, RC.cl, RC.n1, lk_across _ _, k⟩
def spBarred (P : Program) (w : World) (CR : Addr) : Sp := fun vs H Q _ => ∃ x d A B, vs = [.ref x] ∧ RulAt P w CR H x d A B ∧ ∀ D H' us, H D = none → Same H H' → H' D = some (.lst us) → RnsAt H' us B → Q (.ref D) H'
theorem ok_rules_barred {f : Addr} {fd : FuncData} (T : Txt K mg) (RC : RulesC K mg CR) (F : Fun K "barred" "Rules.barred" s_Rules_barred f fd) : FnOk P w K mg base CX0 1 f fd ["self"] (spBarred P w CR) := by
  refine F.ok sc_Rules_barred (fun vs H Q E h => ?_) (fun cdv A outer s H vs Q E hr h => ?_)
  · obtain ⟨x, d, A, B, rfl, _⟩ := h
    rfl
  · obtain ⟨x, d, Ac, B, rfl, hs, k⟩ := h
    refine ⟨_, (pss_one (ps_ret (pe_callTy (cr_listN rfl) (by rfl) T.n_list (by decide +kernel) (pa_cons (pe_fld (pv 0) rfl) pa_nil)))), ?_⟩
    k_extra "r_R21c"
    refine s_fld ?_
    k_extra "r_R21c"
    obtain ⟨dx, hx⟩ := hs.hx
    obtain ⟨ds, hd, en⟩ := hs.hd
    refine ⟨x, CR, dx, _, .ref d, rfl, hx, RC.cl, RC.n2, lk_barred _ _, ?_⟩
    refine q_listN hd en.mem fun D H1 nD S1 hD => ?_
    exact k D H1 _ nD S1 hD (RnsAt.mono S1 en.vals)
def spAllows (P : Program) (w : World) (CR : Addr) : Sp := fun vs H Q _ => ∃ x d A B y r, vs = [.ref x, y] ∧ RulAt P w CR H x d A B ∧ RnAt H y r ∧ NmR r ∧ Q (.bl (allows A B r)) H
theorem ok_rules_allows {f : Addr} {fd : FuncData} (R : TxtR K mg) (RC : RulesC K mg CR) (F : Fun K "_allows" "Rules._allows" s_Rules__allows f fd) : FnOk P w K mg base CX0 2 f fd ["self", "renaming"] (spAllows P w CR) := by
  refine F.ok sc_Rules__allows (fun vs H Q E h => ?_) (fun cdv A outer s H vs Q E hr h => ?_)
  · obtain ⟨x, d, A, B, y, r, rfl, _⟩ := h
    rfl
  · obtain ⟨x, d, Ac, B, y, r, rfl, hs, hy, nm, k⟩ := h
    have hu := hr.units
    refine ⟨_, (pss_one (ps_ret (pe_and (pe_c (ok__in_reach R) hr (by decide) rfl (pa_cons (pe_fld (pv 0) rfl) (pa_cons (pv 1) pa_nil))) (pe_one (pe_cmpR (op_notInD' hu) (pv 1) (pe_fld (pv 0) rfl) (by rfl)))))), ?_⟩
    obtain ⟨dx, hx⟩ := hs.hx
    obtain ⟨ds, hd, en⟩ := hs.hd
    k_extra "r_R21c"
    refine s_fld ?_
    k_extra "r_R21c"
    refine ⟨x, CR, dx, _, .bl Ac, rfl, hx, RC.cl, RC.n1, lk_across _ _, ?_⟩
    k_extra "r_R21c"
    refine ⟨Ac, y, r, rfl, hy, nm, ?_⟩
    unfold allows at k
    cases e : reach Ac r with
    | false =>
      rw [e, Bool.false_and] at k
      exact ⟨_, rfl, s_if0 rfl k⟩
    | true =>
      rw [e, Bool.true_and] at k
      refine ⟨_, rfl, s_if1 rfl ?_⟩
      k_extra "r_R21c"
      refine s_fld ?_
      k_extra "r_R21c"
      refine ⟨x, CR, dx, _, .ref d, rfl, hx, RC.cl, RC.n2, lk_barred _ _, ?_⟩
      obtain ⟨a, u, v, rfl, q4⟩ := hy
      have ha : RnAt H (.ref a) r := ⟨a, u, v, rfl, q4⟩
      refine ⟨a, d, nkR r, ds, rfl, rfl, ha.key, hd, en.mem, ?_⟩
      rw [en.has r]
      exact k
def spCkPl : Sp := fun vs H Q _ => ∃ x q, vs = [x] ∧ PlAt H x q ∧ NmP q ∧ ∀ H', Same H H' → Q .non H'
theorem ok_check_place (T : Txt K mg) (N : TxtN K mg) (I : TxtI K mg) (R : TxtR K mg) : Cal P w K mg base 3 "check_place" spCkPl := by
  refine R.d_check_place.cal sc_check_place (fun vs H Q E h => ?_) (fun f cdv A outer s H vs Q E hr h => ?_)
  · obtain ⟨x, q, rfl, _⟩ := h
    rfl
  · obtain ⟨x, q, rfl, hx, nq, k⟩ := h
    refine ⟨_, (pss_one (ps_if (pt_not (pt_val (pe_c (ok_is_place T N I) hr (by decide) rfl (pa_cons (pv 0) pa_nil)))) pss_deadA pss_nil)), ?_⟩
    k_extra "r_R21c"
    refine q_isPl hx nq fun H1 S1 => ?_
    k_extra "r_R21c"
    refine s_if0 rfl ?_
    exact k H1 S1
end
section
variable {X : Cx} {k : Nat} {CR : Addr} {o e : Expr} {to te : TE} {pos apos : Pos}
theorem pe_allows (R : TxtR X.K X.mg) (RC : RulesC X.K X.mg CR) (RM : RulesM X.K CR) (hr : Room k X.A) (hk : 3 ≤ k) (ho : PE X o to) (ha : PE X e te)
    {pl : Sem Bool} (ht : eval (.Call (.Attribute o "_allows" apos) [e] [] pos) X.env = (do
      let ov ← eval o X.env
      standAt apos.atName
      let (f, first) ← holding [ov] (getMethod ov "_allows" pl)
      callWith pos f first (backTo pos (starEach [e] X.env)) (backToKw pos (keywordEach [] X.env))) := by rfl)
    (he : starEach [e] X.env = (false, eval e X.env) :: starEach [] X.env := by rfl) (hpl : (backTo pos (starEach [] X.env)).any (·.1) = false := by rfl) :
    PE X (.Call (.Attribute o "_allows" apos) [e] [] pos) (tMeth CR "_allows" (spAllows X.prog X.w CR) [] E0 to (tCons te tNil)) := by
  obtain ⟨f, fd, m, F, b⟩ := RM.allow
  exact pe_meth (pl := pl) ho RC.cl m (ok_rules_allows R RC F) (hr.mono (by omega)) b .nil L2.pass0 (pa_cons ha pa_nil he) he hpl ht
theorem pe_across (RC : RulesC X.K X.mg CR) (RM : RulesM X.K CR) (hr : Room k X.A) (hk : 2 ≤ k) (ho : PE X o to) (hab : attributeBase o "across" X.env (eval o X.env) = eval o X.env := by rfl) : PE X (.Attribute o "across" pos) (tProp CR (spAcross X.prog X.w CR) [] E0 to) := by
  obtain ⟨p, f, fd, m, F, b⟩ := RM.across
  exact pe_prop ho RC.cl m (ok_rules_across RC F) (hr.mono hk) b .nil L2.pass0 hab
theorem pe_barred (T : Txt X.K X.mg) (RC : RulesC X.K X.mg CR) (RM : RulesM X.K CR) (hr : Room k X.A) (hk : 2 ≤ k) (ho : PE X o to) (hab : attributeBase o "barred" X.env (eval o X.env) = eval o X.env := by rfl) : PE X (.Attribute o "barred" pos) (tProp CR (spBarred X.prog X.w CR) [] E0 to) := by
  obtain ⟨p, f, fd, m, F, b⟩ := RM.barred
  exact pe_prop ho RC.cl m (ok_rules_barred T RC F) (hr.mono hk) b .nil L2.pass0 hab
end
section
variable {P : Program} {w : World} {K : PySem.W.Frag} {mg : Str → Option Value} {base : Heap} {CR CI : Addr}
def spRCall (P : Program) (w : World) (CR : Addr) : Sp := fun vs H Q _ => ∃ x d A B u v p q, vs = [.ref x, u, v] ∧ RulAt P w CR H x d A B ∧ PlAt H u p ∧ PlAt H v q ∧ NmP p ∧ NmP q ∧ ∀ H', Same H H' → Q (.bl (allows A B (p, q))) H'
theorem ok_rules_call {f : Addr} {fd : FuncData} (T : Txt K mg) (N : TxtN K mg) (I : TxtI K mg) (R : TxtR K mg) (RC : RulesC K mg CR) (RM : RulesM K CR) (F : Fun K "__call__" "Rules.__call__" s_Rules___call__ f fd) : FnOk P w K mg base CX0 4 f fd ["self", "one", "other"] (spRCall P w CR) := by
  refine F.ok sc_Rules___call__ (fun vs H Q E h => ?_) (fun cdv A outer s H vs Q E hr h => ?_)
  · obtain ⟨x, d, A, B, u, v, p, q, rfl, _⟩ := h
    rfl
  · obtain ⟨x, d, Ac, B, u, v, p, q, rfl, hs, hu1, hv1, np, nq, k⟩ := h
    refine ⟨_, (pss_cons (ps_expr (pe_c (ok_check_place T N I R) hr (by decide) rfl (pa_cons (pv 1) pa_nil)))
      (pss_cons (ps_expr (pe_c (ok_check_place T N I R) hr (by decide) rfl (pa_cons (pv 2) pa_nil)))
      (pss_one (ps_ret (pe_allows R RC RM hr (by decide) (pv 0) (pe_tup (pa_cons (pv 1) (pa_cons (pv 2) pa_nil)))))))), ?_⟩
    k_extra "r_R21c"
    refine ⟨u, p, rfl, hu1, np, fun H1 S1 => ?_⟩
    k_extra "r_R21c"
    refine ⟨v, q, rfl, hv1.mono S1, nq, fun H2 S2 => ?_⟩
    have S02 := S1.trans S2
    obtain ⟨dx, hx⟩ := (hs.mono S02).hx
    k_extra "r_R21c"
    refine s_meth ?_
    k_extra "r_R21c"
    refine ⟨x, dx, _, rfl, hx, rlF_no, ?_⟩
    k_extra "r_R21c"
    refine q_newT (by show 2 ≤ sizeLine; decide) fun t H3 n3 S3 h3 => ?_
    have S03 := S02.trans S3
    k_extra "r_R21c"
    refine ⟨x, d, Ac, B, _, (p, q), rfl, hs.mono S03, ⟨t, u, v, rfl, h3, hu1.mono S03, hv1.mono S03⟩, ⟨np, nq⟩, ?_⟩
    exact k H3 S03
def spREq (P : Program) (w : World) (CR : Addr) : Sp := fun vs H Q _ => ∃ x d A B x' d' A' B', vs = [.ref x, .ref x'] ∧ RulAt P w CR H x d A B ∧ RulAt P w CR H x' d' A' B' ∧ ∀ H', Same H H' → Q (.bl (decide (A = A') && decide (B = B'))) H'
theorem ok_rules_eq {f : Addr} {fd : FuncData} (T : Txt K mg) (RC : RulesC K mg CR) (RM : RulesM K CR) (F : Fun K "__eq__" "Rules.__eq__" s_Rules___eq__ f fd) : FnOk P w K mg base CX0 3 f fd ["self", "other"] (spREq P w CR) := by
  refine F.ok sc_Rules___eq__ (fun vs H Q E h => ?_) (fun cdv A outer s H vs Q E hr h => ?_)
  · obtain ⟨x, d, A, B, x', d', A', B', rfl, _⟩ := h
    rfl
  · obtain ⟨x, d, Ac, B, x', d', Ac', B', rfl, hs, hs', k⟩ := h
    have hu := hr.units
    refine ⟨_, (pss_one (ps_ret (pe_and (pe_callB call_isi (by rfl) T.n_isinstance (by decide +kernel) (pa_cons (pv 1) (pa_cons (pe_glob (v := .ref CR) (by rfl) RC.g rfl) pa_nil))) (pe_and (pe_cmpR (op_eqU hu) (pe_across RC RM hr (by decide) (pv 0)) (pe_across RC RM hr (by decide) (pv 1)) (by rfl)) (pe_one (pe_cmpR (op_eqU hu) (pe_barred T RC RM hr (by decide) (pv 0)) (pe_barred T RC RM hr (by decide) (pv 1)) (by rfl))))))), ?_⟩
    obtain ⟨dx, hx⟩ := id hs.hx
    obtain ⟨dx', hx'⟩ := id hs'.hx
    k_extra "r_R21c"
    refine ⟨.ref x', .ref CR, .ref CR, .ref CR, true, rfl, .own CR, .base (.ins hx' RC.cl RC.i1 RC.i2 RC.i3 RC.i4), RC.kY, ?_⟩
    k_extra "r_R21c"
    refine s_prop ?_
    k_extra "r_R21c"
    refine ⟨x, dx, _, rfl, hx, x, d, Ac, B, rfl, hs, ?_⟩
    refine s_prop ?_
    k_extra "r_R21c"
    refine ⟨x', dx', _, rfl, hx', x', d', Ac', B', rfl, hs', ?_⟩
    refine q_eq rfl ?_
    have ea : decide (V.bl Ac = V.bl Ac') = decide (Ac = Ac') := decide_eq_decide.mpr ⟨fun h => V.bl.inj h, fun h => by rw [h]⟩
    rw [ea]
    by_cases e : Ac = Ac'
    · rw [decide_eq_true e, Bool.true_and] at k
      rw [decide_eq_true e]
      refine ⟨_, rfl, s_if1 rfl ?_⟩
      k_extra "r_R21c"
      refine s_prop ?_
      k_extra "r_R21c"
      refine ⟨x, dx, _, rfl, hx, x, d, Ac, B, rfl, hs, fun D H1 us n1 S1 h1 p1 => ?_⟩
      refine s_prop ?_
      k_extra "r_R21c"
      refine ⟨x', dx', _, rfl, S1 _ _ hx', x', d', Ac', B', rfl, hs'.mono S1, fun D2 H2 us2 n2 S2 h2 p2 => ?_⟩
      refine q_eqD (.lst (SqL.of (S2 _ _ h1)) (p1.mono S2).dps) (.lst (SqL.of h2) p2.dps) (sh_rns hs.nm) (sh_rns hs'.nm) ?_
      rw [eqv_rns]
      exact k H2 (S1.trans S2)
    · rw [decide_eq_false e, Bool.false_and] at k
      rw [decide_eq_false e]
      exact ⟨_, rfl, s_if0 rfl (k H (Same.refl H))⟩
end
end Bt
namespace Bt
open PySem PySem.Spec PyProof.Rows L2 LamX NdefX
open PySem.W (dataLt dataLe alike AllAlike Sortable)
theorem words124_ : True := by
  k_with "s_R21d" => first
    | ((with_reducible refine' s_var ?hv ?_); (case hv => exact rfl))
    | with_reducible first
      | refine' s_c ?_ | refine' s_op ?_ | refine' s_asg ?_ | refine' s_gname ?_ | refine' s_seq ?_ | refine' s_next ?_ | refine' s_ret ?_ | refine' s_ifS ?_ | refine' s_drop ?_ | refine' s_retN ?_ | refine' s_test ?_ | refine' s_B ?_ | refine' q_test ?_ | refine' s_int ?_ | refine' s_cons ?_ | refine' s_nil ?_ | refine' s_call ?_ | refine' s_CB ?_ | refine' s_andT ?_ | refine' s_orT ?_ | refine' s_notT ?_ | refine' s_andV ?_ | refine' s_orV ?_ | refine' s_notV ?_ | refine' s_ifV ?_ | refine' s_chain ?_ | refine' s_sl ?_ | refine' s_noPart ?_ | refine' s_part ?_ | refine' s_gsub ?_ | refine' s_BM ?_ | refine' s_tup ?_ | refine' s_lst ?_ | refine' q_add ?_ | refine' q_sub ?_ | refine' q_lt ?_ | refine' q_le ?_ | refine' q_gt ?_ | refine' q_ge ?_ | refine' s_ifT ?_ | refine' s_ifF ?_ | refine' s_yes ?_ | refine' s_iStr ?_ | refine' s_M0 ?_ | refine' s_for ?_ | refine' s_rng1 ?_ | refine' s_par ?_ | refine' s_gcons ?_ | refine' s_gnil ?_ | refine' s_iList ?_ | refine' s_iEnum ?_ | refine' s_raise1 ?_
      | (refine' q_mod ?hm ?_; (case hm => first | omega | decide))
    | dsimp only
  k_with "r_R21d" => repeat (k_extra "s_R21d")
  trivial
/-! ### Rules(across = .., barred = ..) as an expression; &, |, within, turned -/
open NS
theorem s_make {C : Addr} {sp : Sp} {dvs : List V} {E : XK} {t : TA} {σ : L2.St} {H : Hp} {Q : VK} (h : t σ H fun vs H1 => ∀ x dx, H1 x = none → H1 dx = none → dx ≠ x → sp (.ref x :: (vs ++ dvs)) (upd (upd H1 dx (.own x)) x (.ins C dx [])) (fun v H2 => v = .non ∧ Q (.ref x) H2) E) : tMake C sp dvs E t σ H Q := h
theorem s_makeS {C : Addr} {sp : Sp} {dvs : List V} {E : L2.St → XK} {t : TA} {σ : L2.St} {H : Hp} {Q : VK} (h : t σ H fun vs H1 => ∀ x dx, H1 x = none → H1 dx = none → dx ≠ x → sp (.ref x :: (vs ++ dvs)) (upd (upd H1 dx (.own x)) x (.ins C dx [])) (fun v H2 => v = .non ∧ Q (.ref x) H2) (E σ)) : tMakeS C sp dvs E t σ H Q := h
theorem same_made {H : Hp} {x dx C : Addr} (nx : H x = none) (nd : H dx = none) : Same H (upd (upd H dx (.own x)) x (.ins C dx [])) := fun b o e => by
  rw [upd_ne (ne_of_none e nx), upd_ne (ne_of_none e nd)]; exact e
/-! ### Story(..), its parts -/
theorem s_mono {te : TE} {σ : L2.St} {H : Hp} {Q : VK} (R : VK) (h : te σ H R) (k : ∀ v H1, R v H1 → Q v H1) : tMono te σ H Q := ⟨R, h, k⟩
theorem s_makeK {C : Addr} {n m : Nat} {sp : Sp} {gV : List V → List V → List V} {E : XK} {t tk : TA} {σ : L2.St} {H : Hp} {Q : VK} (h : t σ H fun vs H1 => tk σ H1 fun zs H2 => vs.length = n ∧ zs.length = m ∧ ∀ x dx, H2 x = none → H2 dx = none → dx ≠ x →
  sp (gV (.ref x :: vs) zs) (upd (upd H2 dx (.own x)) x (.ins C dx [])) (fun v H3 => v = .non ∧ Q (.ref x) H3) E) : tMakeK C n m sp gV E t tk σ H Q := h
theorem BarAt.mono {H H' : Hp} {b : V} {rs : List Rn} (S : Same H H') (h : BarAt H b rs) : BarAt H' b rs := h.imp id fun ⟨l, xs, e, h, p⟩ => ⟨l, xs, e, S _ _ h, RnsAt.mono S p⟩
def swapR (r : Rn) : Rn := (r.2, r.1)
theorem reach_swap (A : Bool) (r : Rn) : reach A (swapR r) = reach A r := by
  unfold reach swapR
  congr 1
  · exact decide_eq_decide.mpr ⟨fun h z => h z.symm, fun h z => h z.symm⟩
  · congr 1
    exact decide_eq_decide.mpr ⟨fun h => h.symm, fun h => h.symm⟩
section
variable {X : Cx} {CR : Addr} {k : Nat} {p pos : Pos} {e e2 : Expr} {ta tb : TE} {q1 q2 : Pos}
theorem pe_rulesAB (T : Txt X.K X.mg) (N : TxtN X.K X.mg) (I : TxtI X.K X.mg) (R : TxtR X.K X.mg) (RC : RulesC X.K X.mg CR) (hr : Room k X.A) (hk : 6 ≤ k) (h1 : PE X e ta) (h2 : PE X e2 tb) (hg : Gl X "Rules" := by rfl)
    (hall : (backToKw pos (keywordEach [⟨some "across", e, q1⟩, ⟨some "barred", e2, q2⟩] X.env)).all (·.1.isSome) = true := by rfl) (hks : (backToKw pos (keywordEach [⟨some "across", e, q1⟩, ⟨some "barred", e2, q2⟩] X.env)).filterMap (·.1) = (["across", "barred"] : List Str) := by rfl)
    (hpl : ((backTo pos (starEach [] X.env)).any (·.1) || (backToKw pos (keywordEach [⟨some "across", e, q1⟩, ⟨some "barred", e2, q2⟩] X.env)).any (·.1.isNone)) = false := by rfl) :
    PE X (.Call (.Name "Rules" p) [] [⟨some "across", e, q1⟩, ⟨some "barred", e2, q2⟩] pos) (tMakeK CR 0 2 (spRInit X.prog X.w CR) gRlV E0 tNil (tCons ta (tCons tb tNil))) := by
  obtain ⟨f, fd, ds, i1, i2, F, b, _⟩ := RC.init
  exact pe_makeK0 ⟨RC.makes, i1, i2, RC.kp⟩ (ok_rules_init T N I R RC F) (hr.mono hk) hg RC.g b passL (pk_cons h1 (pk_cons h2 pk_nil)) hall hks (by decide) hpl
theorem pe_rules0 (T : Txt X.K X.mg) (N : TxtN X.K X.mg) (I : TxtI X.K X.mg) (R : TxtR X.K X.mg) (RC : RulesC X.K X.mg CR) (hr : Room k X.A) (hk : 6 ≤ k) (hg : Gl X "Rules" := by rfl) : PE X (.Call (.Name "Rules" p) [] [] pos) (tMake CR (spRInit X.prog X.w CR) [.bl true, .non] E0 tNil) := by
  obtain ⟨f, fd, ds, i1, i2, F, _, hd, b⟩ := RC.init
  exact pe_make0 ⟨RC.makes, i1, i2, RC.kp⟩ (ok_rules_init T N I R RC F) (hr.mono hk) hg RC.g b hd passL
end
section
variable {P : Program} {w : World} {K : PySem.W.Frag} {mg : Str → Option Value} {base : Heap} {CR CI : Addr}
theorem q_rules {H : Hp} {Q : Addr → Hp → Prop} {E : XK} {A : Bool} {b : V} {rs : List Rn} (hb : BarAt H b rs) (nm : ∀ r ∈ rs, NmR r) (lr : rs.length < 1000)
    (k : ∀ x H' d, H x = none → H d = none → Same H H' → RulAt P w CR H' x d A (cn A rs) → Q x H') :
    ∀ x dx, H x = none → H dx = none → dx ≠ x → spRInit P w CR (gRlV [.ref x] [.bl A, b]) (upd (upd H dx (.own x)) x (.ins CR dx [])) (fun v H2 => v = .non ∧ Q x H2) E := fun x dx nx nD ne => by
  have S := same_made (C := CR) nx nD
  exact ⟨x, dx, A, b, rs, rfl, upd_same, hb.mono S, nm, lr, fun H' d st n1 B => ⟨rfl, k x H' d nx (S.free n1) (fun b o e => B b o (ne_of_none e nx) (S _ _ e)) st⟩⟩
def spCk (CR : Addr) : Sp := fun vs H Q _ => ∃ x dx fs, vs = [.ref x] ∧ H x = some (.ins CR dx fs) ∧ Q .non H
theorem ok__check_rules (T : Txt K mg) (R : TxtR K mg) (RC : RulesC K mg CR) : Cal P w K mg base 1 "_check_rules" (spCk CR) := by
  refine R.d_check.cal sc__check_rules (fun vs H Q E h => ?_) (fun f cdv A outer s H vs Q E hr h => ?_)
  · obtain ⟨x, dx, fs, rfl, _⟩ := h
    rfl
  · obtain ⟨x, dx, fs, rfl, hx, k⟩ := h
    refine ⟨_, (pss_one (ps_if (pt_not (pt_val (pe_callB call_isi (by rfl) T.n_isinstance (by decide +kernel) (pa_cons (pv 0) (pa_cons (pe_glob (v := .ref CR) (by rfl) RC.g rfl) pa_nil))))) pss_deadA pss_nil)), ?_⟩
    k_extra "r_R21d"
    refine ⟨.ref x, .ref CR, .ref CR, .ref CR, true, rfl, .own CR, .base (.ins hx RC.cl RC.i1 RC.i2 RC.i3 RC.i4), RC.kY, ?_⟩
    k_extra "r_R21d"
    refine s_if0 rfl ?_
    exact k
end
end Bt
namespace PySem.W
open Lean Elab Tactic Meta PySem PySem.Calls PyProof.Rows
open MeetsSeq
/-! ### a text == an instance of an own class with __eq__: the right one answers -/
theorem str_declines_inst (b : Str) (u : Tok) (l : Addr) (c : Value) (dd : Option Addr) (sl : Array (Option Value)) :
    Meets (Builtin.«str.__eq__» ⟨[.str b u, .ref l], []⟩) (fun _ R s => s.heap.get? l = some { cls := c, dict := dd, data := .plain, slots := sl } ∧ R (.ok (.ret .notImplemented)) s) :=
  .of_wp fun prog w A R s h => by obtain ⟨hp, g, d, tk, os⟩ := s; obtain ⟨hl, h⟩ := h; wp_walk using wpAny_loadPart' hl, wpAny_load hl; exact ⟨_, rfl, h⟩
section
variable {prog : Program} {w : World} {A : Around} {E : Value → Shared → Prop} {s : Shared} {K : Frag} {x C f : Addr} {od : Option Obj} {dd : Option Addr} {sl : Array (Option Value)} {z : Str} {t : Tok}
theorem rc_str_inst {Q : Value → Shared → Prop} (hu : A.units < cLine) (KX : K.In s.heap) (I : InstAt s.heap x { cls := .ref C, dict := dd, data := .plain, slots := sl } C od) (hx : s.heap.get? x = some { cls := .ref C, dict := dd, data := .plain, slots := sl }) (hb : subIn K (.ref C) (.type "str") = some false)
    (hs : findIn K (.ref C) "__eq__" = some (some (.ref f))) (hf : isFn K (.ref f) = true)
    (h : wpAny (model prog w) A (call (.ref f) [.ref x, .str z t]) (CmpBack Q) E s) : wpAny (model prog w) A (richCompare .Eq (.str z t) (.ref x)) Q E s := by
  have one : wpAny (model prog w) A (tryCompare (.ref x) (cmpInfo CmpOp.Eq).2.2 (.str z t)) (fun r s' => ∃ v, r = some v ∧ Q v s') E s := by
    unfold tryCompare
    refine wpAny_bind (ifBound_K KX I hs hf (wpAny_mono h (fun v s' hv => ?_) fun _ _ e => e))
    cases v <;> first | exact hv.elim | exact wpAny_pure ⟨_, rfl, hv⟩
  have ha := typeIs_str s z t
  have h1 : Slot "str" (cmpInfo CmpOp.Eq).2.1 "str.__eq__" := F.slot_str_eq
  rcases hi : cmpInfo CmpOp.Eq with ⟨sym, f', r'⟩
  rw [hi] at h1 one
  simp only [richCompare, hi, ha.oneThing_none]
  refine wpAny_holding (wpAny_bind (wpAny_cRoomFor hu ?_))
  refine wpAny_bind (wpAny_typeOf ha (wpAny_bind (I.type.here ?_)))
  have hne : (Value.type "str" != Value.ref C) = true := rfl
  simp only [hne, if_true]
  refine wpAny_bind ((looks_subIn KX hb).here ?_)
  simp only [Bool.false_eq_true, if_false, Bool.not_false, if_true]
  refine wpAny_bind (m := tryCompare _ _ _) (wpAny_tryCompare_declines ha h1 (call_meets F.slot_str_eq ha F.entry_str_eq (F.args_str_eq_2 _ _) (str_declines_inst z t x _ dd sl) ⟨hx, rfl, ?_⟩))
  refine wpAny_bind (wpAny_mono one (fun r s' q => ?_) fun _ _ e => e)
  obtain ⟨v, rfl, hq⟩ := q
  exact wpAny_pure hq
end
end PySem.W
namespace GQ2
open PySem PySem.SeqAt
open AutoSeq1 (wpAny_loadPart')
open MeetsSeq MeetsSeq2 MeetsSeq3 SeqRoads2
section
variable {prog : Program} {w : World} {A : Around} {E : Value → Shared → Prop} {R : Result → Shared → Prop}
theorem tuple_noG (l : Addr) (x : Value) (items : Array Value) (n : Nat) (dd : Option Addr) (sl : Array (Option Value)) (I : Nat → Shared → Prop)
    (turn : ∀ i (h1 : i < items.size) s, I i s → wpAny (model prog w) A.in1 (eqBool items[i] x) (fun r s' => r = false ∧ I (i + 1) s') (fun e s' => R (.error e) s') s)
    (fin : ∀ s, I items.size s → R (.ok (.ret (.bool false))) s) {s : Shared} (hl1 : s.heap.get? l = some { cls := .type "tuple", dict := dd, data := .seq items n, slots := sl }) (h : I 0 s) :
    wpAny (model prog w) A.in1 (Builtin.«tuple.__contains__» ⟨[.ref l, x], []⟩) (GQ.FinOf prog w A R) (fun e s' => R (.error e) s') s := by
  have h0 := h
  obtain ⟨hp, g, d, tk, os⟩ := s
  wp_walk using wpAny_loadPart' hl1, wpAny_forIn_array _ (fun rest b s' => b.1 = none ∧ ∃ i, rest = items.toList.drop i ∧ i ≤ items.size ∧ I i s') _
  case turn =>
    rintro y rest b s' ⟨hb', i, hz, hi, hI⟩
    have hlt : i < items.toList.length := by
      rcases Nat.lt_or_ge i items.toList.length with h' | h'
      · exact h'
      · rw [List.drop_of_length_le h'] at hz; cases hz
    have h1 : i < items.size := by simpa using hlt
    rw [List.drop_eq_getElem_cons hlt] at hz
    injection hz with hyx hrest
    have hy : y = items[i] := by simpa using hyx
    subst hy
    refine wpAny_bind (wpAny_mono (turn i h1 s' hI) (fun r s2 q2 => ?_) fun _ _ x => x)
    obtain ⟨hr, q2⟩ := q2
    subst hr
    wp_walk
    exact ⟨rfl, i + 1, hrest, h1, q2⟩
  case fin =>
    rintro ⟨b1, b2⟩ s' ⟨hb', i, hz, hi, hI⟩
    simp only at hb'
    subst hb'
    have hge : items.size ≤ i := by
      rcases Nat.lt_or_ge i items.toList.length with h' | h'
      · rw [List.drop_eq_getElem_cons h'] at hz; cases hz
      · simpa using h'
    have hi' : i = items.size := by omega
    have hR : R (.ok (.ret (.bool false))) s' := fin s' (hi' ▸ hI)
    wp_walk
    simpa using hR
  case h =>
    exact ⟨rfl, 0, rfl, Nat.zero_le _, h0⟩
end
end GQ2
namespace GQ2
open PySem PySem.SeqAt
open AutoSeq1 (wpAny_loadPart')
open MeetsSeq MeetsSeq2 MeetsSeq3 SeqRoads2
section
variable {prog : Program} {w : World} {A : Around} {E : Value → Shared → Prop} {s : Shared}
/-- x in t, t a tuple none of whose items is equal to x; what is made meanwhile is in I -/
theorem in_noG {l : Addr} {x : Value} {items : Array Value} {Q : Value → Shared → Prop} (I : Nat → Shared → Prop) (hl : s.heap.IsTuple l items)
    (turn : ∀ i (h1 : i < items.size) s, I i s → wpAny (model prog w) A.in1 (eqBool items[i] x) (fun r s' => r = false ∧ I (i + 1) s') E s)
    (fin : ∀ s, I items.size s → Q (.bool false) s) (h : I 0 s) : wpAny (model prog w) A (compareOp .In x (.ref l)) Q E s := by
  obtain ⟨⟨cls, dd, data, sl⟩, ho, hc, n, hd⟩ := id hl
  simp only at hc hd
  subst hc hd
  show wpAny _ A (do return .bool (← contains (.ref l) x)) Q E s
  refine wpAny_bind (wpAny_contains_slot ⟨_, ho, rfl⟩ F.slot_tuple_contains (wpAny_mono (GQ.call_here (Q := fun v s' => v = .bool false ∧ Q (.bool false) s') F.slot_tuple_contains ⟨_, ho, rfl⟩ F.entry_tuple_contains (F.args_tuple_contains_2 _ _) ?_) (fun v s' hv => ?_) fun _ _ e => e))
  · exact tuple_noG (R := wants (fun v s' => v = .bool false ∧ Q (.bool false) s') E) l x items n dd sl I turn (fun s' q => ⟨rfl, fin s' q⟩) ho h
  · obtain ⟨rfl, hq⟩ := hv
    exact wpAny_truthy_bool (wpAny_pure hq)
theorem eqBool_strG {z : Str} {t : Tok} {b : Addr} {Q : Bool → Shared → Prop} (h : wpAny (model prog w) A (richCompare .Eq (.str z t) (.ref b)) (fun v s' => ∃ r, v = .bool r ∧ Q r s') E s) : wpAny (model prog w) A (eqBool (.str z t) (.ref b)) Q E s := by
  unfold eqBool
  refine wpAny_holding ?_
  refine wpAny_ite_split (fun hab => absurd (eq_of_beq hab) nofun) (fun _ => ?_)
  refine wpAny_bind (wpAny_mono h (fun v s' hv => ?_) fun _ _ x => x)
  obtain ⟨r, rfl, q⟩ := hv
  exact wpAny_truthy_bool q
end
end GQ2
namespace Bt
open PySem PySem.Spec PyProof.Rows L2
section
variable {X : Cx} {CX : CXT} {n : Nat} {C f : Addr} {fd : FuncData} {ps : List Str} {sp : Sp} {E : XK}
theorem strs_at : ∀ {zs : List Str} {us : List Value}, Vals (zs.map V.str) us → ∀ {i : Nat} {u : Value}, us[i]? = some u → ∃ z, z ∈ zs ∧ ∃ t, u = Value.str z t
  | [], _, r, i, u, e => by cases r; simp at e
  | z :: zs, _, r, i, u, e => by
    cases r with
    | cons h r =>
      cases i with
      | zero =>
        cases Option.some.inj e
        obtain ⟨t, rfl⟩ := h
        exact ⟨z, List.mem_cons_self, t, rfl⟩
      | succ i =>
        obtain ⟨y, my, t, e2⟩ := strs_at r (i := i) (by simpa using e)
        exact ⟨y, List.mem_cons_of_mem _ my, t, e2⟩
/-- a text == an instance of C: its own == is asked, and says no -/
theorem eq_txt_inst {A : Around} {pins : List (Addr × Obj)} {s : Shared} {σ : L2.St} {H : Hp} {c : Addr} {z : Str} {t : Tok} {G : Hp → Prop} (F : FnOk X.prog X.w X.K X.mg X.base CX n f fd ps sp) (hs : PySem.W.findIn X.K (.ref C) "__eq__" = some (some (.ref f))) (hf : PySem.W.isFn X.K (.ref f) = true) (hb : Binds X.K fd ps []) (hx : Passes CX X E)
    (hsub : PySem.W.subIn X.K (.ref C) (.type "str") = some false) (sb : Sub X n A) (I : Inv X pins σ H s) (hc : ∃ dx fs, H c = some (.ins C dx fs)) (hsp : sp [.ref c, .str z] H (fun v H' => v = .bl false ∧ G H') E) :
    wpAny (model X.prog X.w) A (eqBool (.str z t) (.ref c)) (fun r s' => r = false ∧ ∃ H', Inv X pins σ H' s' ∧ G H') X.xe s := by
  obtain ⟨ox, od, J, hd⟩ := StX.insC_at I (.inr hc)
  obtain ⟨cls, dd, data, sl⟩ := ox
  have e1 := J.cls
  simp only at e1 hd
  subst e1 hd
  refine GQ2.eqBool_strG (PySem.W.rc_str_inst (dd := dd) (sl := sl) sb.room.units0 I.kIn J J.at_ hsub hs hf ?_)
  have e0 : Env0 X.prog X.w X.K X.mg X.base A X.stack s H := by
    have e := I.env0
    exact ⟨by rw [sb.fr]; exact e.frames, e.mod, e.bs, e.bsz, e.funs, e.frf, e.hok, e.bare⟩
  have hl := F.len _ _ _ _ hsp
  have r2 : Vals [V.ref c, V.str z] [Value.ref c, Value.str z t] := .cons rfl (.cons ⟨t, rfl⟩ .nil)
  refine wpAny_call (codeAny_mono (F.run A X.stack s H ⟨[.ref c, .str z t], []⟩ [.ref c, .str z t] [.ref c, .str z] _ E sb.room e0 (by
    have := hb s [.ref c, .str z t] I.kIn (by simpa using hl)
    simpa using this) r2 hsp) fun r s' hq => ?_)
  cases r with
  | error e => exact hx pins σ H s e s' I hq
  | ok fl =>
    cases fl with
    | ret w =>
      obtain ⟨y, H', I', ry, ey, g⟩ := I.after hq
      subst ey
      cases ry
      exact ⟨false, rfl, rfl, H', I', g⟩
    | next => exact False.elim hq
    | brk => exact False.elim hq
    | cont => exact False.elim hq
/-- x in (a, b), x an instance of C -/
def rInIns (K : PySem.W.Frag) (C : Addr) (sp : Sp) (E : XK) : R2 := fun x y H Q => ∃ (c p : Addr) (zs : List Str), x = .ref c ∧ y = .ref p ∧ SqT K H p (zs.map V.str) ∧ (∃ dx fs, H c = some (.ins C dx fs)) ∧
  (∀ z ∈ zs, ∀ H', Same H H' → sp [.ref c, .str z] H' (fun v H2 => v = .bl false ∧ Same H' H2) E) ∧ ∀ H', Same H H' → Q (.bl false) H'
theorem op_inIns (F : FnOk X.prog X.w X.K X.mg X.base CX n f fd ps sp) (hs : PySem.W.findIn X.K (.ref C) "__eq__" = some (some (.ref f))) (hf : PySem.W.isFn X.K (.ref f) = true) (hb : Binds X.K fd ps []) (hx : Passes CX X E)
    (hsub : PySem.W.subIn X.K (.ref C) (.type "str") = some false) (hr : Room (n + 1) X.A) : OpR X (compareOp .In) (rInIns X.K C sp E) := by
  intro pins s σ H x y v u Q I rx ry h
  obtain ⟨c, p, zs, rfl, rfl, ht, ⟨dx, fs, hc⟩, hsp, q⟩ := h
  cases rx
  cases ry
  obtain ⟨its, rv, pl, hz⟩ := I.tuple ht
  have sb : Sub X (n + 1) X.A := ⟨hr, rfl⟩
  have item : ∀ (i : Nat) (h1 : i < its.toArray.size), ∃ z t, z ∈ zs ∧ its.toArray[i] = Value.str z t := fun i h1 => by
    have h2 : i < its.length := by simpa using h1
    have hm : its[i]? = some its[i] := List.getElem?_eq_getElem h2
    obtain ⟨z, mz, t, e⟩ := strs_at rv hm
    exact ⟨z, t, mz, by simpa using e⟩
  refine GQ2.in_noG (fun _ s' => ∃ H', Inv X pins σ H' s' ∧ Same H H') pl (fun i h1 s' ⟨H', I', S'⟩ => ?_) (fun s' ⟨H', I', S'⟩ => ⟨.bl false, H', I', rfl, q H' S'⟩) ⟨H, I, Same.refl H⟩
  obtain ⟨z, t, mz, e⟩ := item i h1
  rw [e]
  refine wpAny_mono (eq_txt_inst (G := fun H2 => Same H' H2) F hs hf hb hx hsub sb.in1 I' ⟨dx, fs, S' _ _ hc⟩ (hsp z mz H' S')) (fun r s2 ⟨e, H2, I2, S2⟩ => ⟨e, H2, I2, S'.trans S2⟩) fun _ _ e => e
end
end Bt
namespace GQ2
open PySem PySem.SeqAt
open AutoSeq1 (wpAny_loadPart')
open MeetsSeq MeetsSeq2 MeetsSeq3 SeqRoads2
theorem str_declines_dict (b : Str) (u : Tok) (l : Addr) (c : Value) (dd : Option Addr) (sl : Array (Option Value)) (es : Array DictEntry) (ep : Nat) :
    Meets (Builtin.«str.__eq__» ⟨[.str b u, .ref l], []⟩) (fun _ R s => s.heap.get? l = some { cls := c, dict := dd, data := .dict es ep, slots := sl } ∧ R (.ok (.ret .notImplemented)) s) :=
  .of_wp fun prog w A R s h => by obtain ⟨hp, g, d, tk, os⟩ := s; obtain ⟨hl, h⟩ := h; wp_walk using wpAny_loadPart' hl, wpAny_load hl; exact ⟨_, rfl, h⟩
theorem dict_declines_str (l : Addr) (dd : Option Addr) (sl : Array (Option Value)) (es : Array DictEntry) (ep : Nat) (b : Str) (u : Tok) :
    Meets (Builtin.«dict.__eq__» ⟨[.ref l, .str b u], []⟩) (fun _ R s => s.heap.get? l = some { cls := .type "dict", dict := dd, data := .dict es ep, slots := sl } ∧ R (.ok (.ret .notImplemented)) s) :=
  .of_wp fun prog w A R s h => by obtain ⟨hp, g, d, tk, os⟩ := s; obtain ⟨hl, h⟩ := h; have f1 := PySem.F.sub_str_dict; wp_walk using wpAny_loadPart' hl, wpAny_load hl; exact ⟨_, rfl, h⟩
end GQ2
namespace GQ2
open PySem PySem.SeqAt
open AutoSeq1 (wpAny_loadPart')
open MeetsSeq MeetsSeq2 MeetsSeq3 SeqRoads2
section
variable {prog : Program} {w : World} {A : Around} {E : Value → Shared → Prop} {s : Shared}
theorem eq_str_dict {l : Addr} {dd : Option Addr} {sl : Array (Option Value)} {es : Array DictEntry} {ep : Nat} (b : Str) (u : Tok) (ho : s.heap.get? l = some { cls := .type "dict", dict := dd, data := .dict es ep, slots := sl }) (hu : A.units < cLine) : EqAt A s (.str b u) (.ref l) false := fun prog w E Q h => by
  unfold eqBool
  refine wpAny_holding ?_
  refine wpAny_ite_split (fun hab => absurd (eq_of_beq hab) nofun) (fun _ => ?_)
  refine wpAny_bind ?_
  refine rc_eq_decline_or (k := false) (typeIs_str s b u) ⟨_, ho, rfl⟩ (by decide) PySem.F.sub_dict_str PySem.F.slot_str_eq PySem.F.slot_dict_eq_refl
    (fun _ hq => call_meets PySem.F.slot_str_eq (typeIs_str s b u) PySem.F.entry_str_eq (PySem.F.args_str_eq_2 _ _) (str_declines_dict b u l (.type "dict") dd sl es ep) ⟨ho, hq⟩)
    (fun _ hq => call_meets PySem.F.slot_dict_eq_refl ⟨_, ho, rfl⟩ PySem.F.entry_dict_eq (PySem.F.args_dict_eq_2 _ _) (dict_declines_str l dd sl es ep b u) ⟨ho, hq⟩)
    (fun _ hq => wpAny_of_eq (rfl : isSame (.str b u) (.ref l) = pure false) hq) (.inr hu) (wpAny_truthy_bool h)
end
end GQ2
namespace Bt
open PySem PySem.Spec PyProof.Rows L2
section
variable {X : Cx}
/-- x in a tuple of texts, x a list, a tuple or a dict -/
def rInOdd (K : PySem.W.Frag) : R2 := fun x y H Q => ∃ (c p : Addr) (zs : List Str), x = .ref c ∧ y = .ref p ∧ SqT K H p (zs.map V.str) ∧ ((∃ xs, H c = some (.lst xs)) ∨ (∃ xs, H c = some (.tup xs)) ∨ ∃ kvs, H c = some (.dK kvs)) ∧ Q (.bl false) H
theorem op_inOdd (hu : X.A.units + 1 < cLine) : OpR X (compareOp .In) (rInOdd X.K) := by
  intro pins s σ H x y v u Q I rx ry h
  obtain ⟨c, p, zs, rfl, rfl, ht, kd, q⟩ := h
  cases rx
  cases ry
  obtain ⟨its, rv, pl, hz⟩ := I.tuple ht
  have item : ∀ y ∈ its.toArray, ∃ z t, y = Value.str z t := fun y my => by
    have m2 : y ∈ its := by simpa using my
    obtain ⟨i, hi⟩ := List.getElem?_of_mem m2
    obtain ⟨z, _, t, e⟩ := strs_at rv hi
    exact ⟨z, t, e⟩
  have hu1 : X.A.in1.units < cLine := by simp only [Around.in1]; omega
  refine SeqAt.in_tupleAt (fun _ => false) pl (fun y my => ?_) ⟨.bl false, H, I, by rw [show its.toArray.any (fun _ => false) = false by simp]; rfl, q⟩
  obtain ⟨z, t, rfl⟩ := item y my
  rcases kd with ⟨xs, hc⟩ | ⟨xs, hc⟩ | ⟨kvs, hc⟩
  · obtain ⟨its2, _, pl2, _⟩ := I.list (SqL.of hc)
    exact SeqAt.EqAt.str_list z t pl2.isList hu1
  · obtain ⟨its2, _, pl2, _⟩ := I.tuple (SqT.of hc)
    exact SeqAt.EqAt.str_tuple z t pl2 hu1
  · obtain ⟨_, _, vs, _, hd⟩ := dk_of I.hok hc
    obtain ⟨o, es, ep, ho, ⟨h1, h2, h3⟩, h4, _⟩ := id hd
    obtain ⟨cls, dd, data, sl⟩ := o
    simp only at h1 h2 h4
    subst h1 h2 h4
    exact GQ2.eq_str_dict z t ho hu1
end
end Bt
namespace Bt
open PySem PySem.Spec PyProof.Rows L2 LamX NdefX
open PySem.W (dataLt dataLe alike AllAlike Sortable)
theorem words141_ : True := by
  k_with "s_R21e" => first
    | ((with_reducible refine' s_var ?hv ?_); (case hv => exact rfl))
    | with_reducible first
      | refine' s_c ?_ | refine' s_op ?_ | refine' s_asg ?_ | refine' s_gname ?_ | refine' s_seq ?_ | refine' s_next ?_ | refine' s_ret ?_ | refine' s_ifS ?_ | refine' s_drop ?_ | refine' s_retN ?_ | refine' s_test ?_ | refine' s_B ?_ | refine' q_test ?_ | refine' s_int ?_ | refine' s_cons ?_ | refine' s_nil ?_ | refine' s_call ?_ | refine' s_CB ?_ | refine' s_andT ?_ | refine' s_orT ?_ | refine' s_notT ?_ | refine' s_andV ?_ | refine' s_orV ?_ | refine' s_notV ?_ | refine' s_ifV ?_ | refine' s_chain ?_ | refine' s_sl ?_ | refine' s_noPart ?_ | refine' s_part ?_ | refine' s_gsub ?_ | refine' s_BM ?_ | refine' s_tup ?_ | refine' s_lst ?_ | refine' q_add ?_ | refine' q_sub ?_ | refine' q_lt ?_ | refine' q_le ?_ | refine' q_gt ?_ | refine' q_ge ?_ | refine' s_ifT ?_ | refine' s_ifF ?_ | refine' s_yes ?_ | refine' s_iStr ?_ | refine' s_M0 ?_ | refine' s_for ?_ | refine' s_rng1 ?_ | refine' s_par ?_ | refine' s_gcons ?_ | refine' s_gnil ?_ | refine' s_iList ?_ | refine' s_iEnum ?_ | refine' s_raise1 ?_
      | (refine' q_mod ?hm ?_; (case hm => first | omega | decide))
    | dsimp only
  k_with "r_R21e" => repeat (k_extra "s_R21e")
  trivial
/-! ### is_demand, of every kind of value -/
open NS
/-- u is no tuple, and never will be -/
def NoTup (H : Hp) (u : V) : Prop := ∀ a, u = .ref a → ∃ o, H a = some o ∧ ∀ ys, o ≠ .tup ys
theorem NoTup.mono {H H' : Hp} {u : V} (S : Same H H') (h : NoTup H u) : NoTup H' u := fun a e => let ⟨o, h1, h2⟩ := h a e; ⟨o, S _ _ h1, h2⟩
theorem NoTup.no {H : Hp} {u : V} (h : NoTup H u) : ¬ PlaceV H u := fun ⟨a, _, _, e, h', _⟩ => by
  obtain ⟨o, h1, h2⟩ := h a e
  rw [h1] at h'
  exact h2 _ (Option.some.inj h')
/-- what is_place says of u -/
inductive PlK (K : PySem.W.Frag) (H : Hp) (u : V) : Bool → Prop where
  | no {T : String} : Pl K H u T → T ≠ "tuple" → NoTup H u → PlK K H u false
  | tup {a : Addr} {ys : List V} {b : Bool} : u = .ref a → Pl K H u "tuple" → H a = some (.tup ys) → (∀ y ∈ ys, NameArg K H y) → (b = true ↔ PlaceV H u) → PlK K H u b
section
variable {K : PySem.W.Frag} {H H' : Hp} {Q : VK} {E : XK}
theorem place_back {a : Addr} {ys : List V} (S : Same H H') (h : H a = some (.tup ys)) : PlaceV H' (.ref a) → PlaceV H (.ref a) := fun ⟨a', x, y, e, h', n⟩ => by
  injection e with e
  subst e
  rw [S _ _ h] at h'
  exact ⟨a, x, y, rfl, by rw [h]; exact h', n⟩
theorem PlaceV.mono {u : V} (S : Same H H') : PlaceV H u → PlaceV H' u := fun ⟨a, x, y, e, h, n⟩ => ⟨a, x, y, e, S _ _ h, n⟩
theorem PlK.mono {u : V} {b : Bool} (S : Same H H') (h : PlK K H u b) : PlK K H' u b := by
  cases h with
  | no h n nt => exact .no (h.mono S) n (nt.mono S)
  | tup e h ha hy hb =>
    subst e
    exact .tup rfl (h.mono S) (S _ _ ha) (fun y my => (hy y my).mono S) (hb.trans ⟨fun z => z.mono S, place_back S ha⟩)
theorem place_asked {u : V} {b : Bool} (h : PlK K H u b) (k : ∀ H', Same H H' → Q (.bl b) H') : spPlace K [u] H Q E := by
  cases h with
  | no h n nt => exact ⟨u, _, rfl, h, fun _ => k _ (Same.refl H), fun e => absurd e n⟩
  | tup e h ha hy hb =>
    subst e
    refine ⟨_, _, rfl, h, fun n => absurd rfl n, fun _ => ⟨_, _, rfl, ha, hy, fun n H1 S1 => ?_, fun y H1 S1 => ?_⟩⟩
    · cases b with
      | false => exact k H1 S1
      | true => exact absurd (hb.mp rfl) n
    · rw [hb.mpr y] at k
      exact k H1 S1
end
theorem PlK.yes {K : PySem.W.Frag} {H : Hp} {u : V} (h : PlK K H u true) : ∃ (a : Addr) (q : Str × Str), u = .ref a ∧ H a = some (.tup [.str q.1, .str q.2]) ∧ Nm q.1 ∧ Nm q.2 := by
  cases h with
  | tup e h ha hy hb =>
    obtain ⟨a, x, y, e2, h2, ⟨z1, rfl, n1⟩, ⟨z2, rfl, n2⟩⟩ := hb.mp rfl
    exact ⟨a, (z1, z2), e2, h2, n1, n2⟩
theorem PlAt.plk {K : PySem.W.Frag} {H : Hp} {x : V} {q : Plc} (h : PlAt H x q) (n : NmP q) : PlK K H x true := by
  have pv := h.placeV n
  obtain ⟨a, rfl, ha⟩ := h
  refine .tup rfl (Pl.tup ha) ha (fun y hy => ?_) ⟨fun _ => pv, fun _ => rfl⟩
  simp only [List.mem_cons, List.not_mem_nil, or_false] at hy
  rcases hy with rfl | rfl
  · exact nm_arg n.1
  · exact nm_arg n.2

structure TxtM (K : PySem.W.Frag) (mg : Str → Option Value) : Prop where
  n_max : mg "max" = none
  n_min : mg "min" = none
  d_isd : Df K mg "is_demand" s_is_demand ["value"]
  d_chd : Df K mg "_check_demand" s__check_demand ["value"]
  d_win : Df K mg "_windows_meet" s__windows_meet ["one", "other"]
  d_both : Df K mg "one_does_both" s_one_does_both ["gone", "come", "rules"]
  d_from : Df K mg "rules_from" s_rules_from ["value"]
/-- what way in ('go', 'come') says -/
inductive WayK (P : Program) (w : World) (CR : Addr) (H : Hp) (y : V) : Bool → Prop where
  | str {z : Str} : y = .str z → WayK P w CR H y (decide (z = "go") || decide (z = "come"))
  | non : y = .non → WayK P w CR H y false
  | odd {c : Addr} : y = .ref c → ((∃ xs, H c = some (.lst xs)) ∨ (∃ xs, H c = some (.tup xs)) ∨ ∃ kvs, H c = some (.dK kvs)) → WayK P w CR H y false
  | ins {c d : Addr} {A : Bool} {B : List Rn} : y = .ref c → RulAt P w CR H c d A B → WayK P w CR H y false
theorem WayK.mono {P : Program} {w : World} {CR : Addr} {H H' : Hp} {y : V} {b : Bool} (S : Same H H') (h : WayK P w CR H y b) : WayK P w CR H' y b := by
  cases h with
  | str e => exact .str e
  | non e => exact .non e
  | odd e h =>
    refine .odd e ?_
    rcases h with ⟨xs, h⟩ | ⟨xs, h⟩ | ⟨xs, h⟩
    · exact .inl ⟨xs, S _ _ h⟩
    · exact .inr (.inl ⟨xs, S _ _ h⟩)
    · exact .inr (.inr ⟨xs, S _ _ h⟩)
  | ins e h => exact .ins e (h.mono S)
def dmB : V → V → Bool
  | .int i, .int j => decide (0 ≤ i) && decide (i < j)
  | _, _ => false
/-- what is_demand says -/
inductive DmK (K : PySem.W.Frag) (P : Program) (w : World) (CR : Addr) (H : Hp) (x : V) : Bool → Prop where
  | no {T : String} : Pl K H x T → T ≠ "tuple" → DmK K P w CR H x false
  | len {a : Addr} {xs : List V} : x = .ref a → H a = some (.tup xs) → xs.length ≠ 4 → DmK K P w CR H x false
  | four {a : Addr} {pl be en wy : V} {b c : Bool} {Tb Te : String} : x = .ref a → H a = some (.tup [pl, be, en, wy]) → PlK K H pl b → Pl K H be Tb → Pl K H en Te → WayK P w CR H wy c → DmK K P w CR H x (b && dmB be en && c)
theorem DmK.mono {K : PySem.W.Frag} {P : Program} {w : World} {CR : Addr} {H H' : Hp} {x : V} {b : Bool} (S : Same H H') (h : DmK K P w CR H x b) : DmK K P w CR H' x b := by
  cases h with
  | no h n => exact .no (h.mono S) n
  | len e h n => exact .len e (S _ _ h) n
  | four e h p t1 t2 y => exact .four e (S _ _ h) (p.mono S) (t1.mono S) (t2.mono S) (y.mono S)
section
variable {P : Program} {w : World} {K : PySem.W.Frag} {mg : Str → Option Value} {base : Heap} {CR CI CP : Addr}
/-- == with what is no rules -/
def spREqO (P : Program) (w : World) (K : PySem.W.Frag) (CR : Addr) : Sp := fun vs H Q _ => ∃ x d A B y T, vs = [.ref x, y] ∧ RulAt P w CR H x d A B ∧ Pl K H y T ∧ Q (.bl false) H
theorem ok_rules_eqO {f : Addr} {fd : FuncData} (T : Txt K mg) (RC : RulesC K mg CR) (RM : RulesM K CR) (F : Fun K "__eq__" "Rules.__eq__" s_Rules___eq__ f fd) : FnOk P w K mg base CX0 3 f fd ["self", "other"] (spREqO P w K CR) := by
  refine F.ok sc_Rules___eq__ (fun vs H Q E h => ?_) (fun cdv A outer s H vs Q E hr h => ?_)
  · obtain ⟨x, d, A, B, y, T, rfl, _⟩ := h
    rfl
  · obtain ⟨x, d, Ac, B, y, ty, rfl, hs, hy, k⟩ := h
    have hu := hr.units
    refine ⟨_, (pss_one (ps_ret (pe_and (pe_callB call_isi (by rfl) T.n_isinstance (by decide +kernel) (pa_cons (pv 1) (pa_cons (pe_glob (v := .ref CR) (by rfl) RC.g rfl) pa_nil))) (pe_and (pe_cmpR (op_eqU hu) (pe_across RC RM hr (by decide) (pv 0)) (pe_dead) (by rfl)) (pe_one pe_dead))))), ?_⟩
    k_extra "r_R21e"
    refine ⟨y, .ref CR, .type ty, .ref CR, false, rfl, .own CR, hy.1, RC.kN _ hy.2, ?_⟩
    k_extra "r_R21e"
    exact k
def rWay (K : PySem.W.Frag) (P : Program) (w : World) (CR : Addr) : R2 := fun x y H Q => rIn K false x y H Q ∨ (rInOdd K x y H Q ∨ rInIns K CR (spREqO P w K CR) E0 x y H Q)
theorem op_way {X : Cx} {k : Nat} (T : Txt X.K X.mg) (RC : RulesC X.K X.mg CR) (RM : RulesM X.K CR) (hsub : PySem.W.subIn X.K (.ref CR) (.type "str") = some false) (hr : Room k X.A) (hk : 4 ≤ k) : OpR X (compareOp .In) (rWay X.K X.prog X.w CR) := by
  obtain ⟨f, fd, e1, e2, F, b⟩ := RM.eq
  exact OpR.or op_in_seq (OpR.or (op_inOdd (lt1 (Nat.lt_of_le_of_lt (Nat.le_refl _) hr.units))) (op_inIns (ok_rules_eqO T RC RM F) e1 e2 b L2.pass0 hsub (hr.mono hk)))
theorem q_way {H : Hp} {Q : VK} {y : V} {b : Bool} {p : Addr} (h : WayK P w CR H y b) (hp : H p = some (.tup [.str "go", .str "come"])) (q : ∀ H', Same H H' → Q (.bl b) H') : rWay K P w CR y (.ref p) H Q := by
  have ht : SqT K H p ((["go", "come"] : List Str).map V.str) := SqT.of hp
  cases h with
  | str e =>
    subst e
    rename_i z
    refine .inl ⟨p, _, rfl, .inr ht, rfl, rfl, ?_⟩
    have : inV (.str z) ((["go", "come"] : List Str).map V.str) = (decide (z = "go") || decide (z = "come")) := by
      rw [inV_strs, ← Bool.decide_or]
      exact decide_eq_decide.mpr (by simp)
    rw [if_neg (by decide), this]
    exact q H (Same.refl H)
  | non e =>
    subst e
    refine .inl ⟨p, _, rfl, .inr ht, rfl, rfl, ?_⟩
    rw [if_neg (by decide), show inV .non ((["go", "come"] : List Str).map V.str) = false by decide]
    exact q H (Same.refl H)
  | odd e h =>
    subst e
    exact .inr (.inl ⟨_, p, ["go", "come"], rfl, rfl, ht, h, q H (Same.refl H)⟩)
  | ins e h =>
    subst e
    obtain ⟨dx, hx⟩ := id h.hx
    exact .inr (.inr ⟨_, p, ["go", "come"], rfl, rfl, ht, ⟨dx, _, hx⟩, fun z _ H' S => ⟨_, _, _, _, .str z, "str", rfl, h.mono S, Pl.str, rfl, Same.refl _⟩, q⟩)
end
end Bt
namespace Bt
open PySem PySem.Spec PyProof.Rows L2 LamX NdefX
open PySem.W (dataLt dataLe alike AllAlike Sortable)
theorem words142_ : True := by
  k_with "s_R21f" => first
    | ((with_reducible refine' s_var ?hv ?_); (case hv => exact rfl))
    | with_reducible first
      | refine' s_c ?_ | refine' s_op ?_ | refine' s_asg ?_ | refine' s_gname ?_ | refine' s_seq ?_ | refine' s_next ?_ | refine' s_ret ?_ | refine' s_ifS ?_ | refine' s_drop ?_ | refine' s_retN ?_ | refine' s_test ?_ | refine' s_B ?_ | refine' q_test ?_ | refine' s_int ?_ | refine' s_cons ?_ | refine' s_nil ?_ | refine' s_call ?_ | refine' s_CB ?_ | refine' s_andT ?_ | refine' s_orT ?_ | refine' s_notT ?_ | refine' s_andV ?_ | refine' s_orV ?_ | refine' s_notV ?_ | refine' s_ifV ?_ | refine' s_chain ?_ | refine' s_sl ?_ | refine' s_noPart ?_ | refine' s_part ?_ | refine' s_gsub ?_ | refine' s_BM ?_ | refine' s_tup ?_ | refine' s_lst ?_ | refine' q_add ?_ | refine' q_sub ?_ | refine' q_lt ?_ | refine' q_le ?_ | refine' q_gt ?_ | refine' q_ge ?_ | refine' s_ifT ?_ | refine' s_ifF ?_ | refine' s_yes ?_ | refine' s_iStr ?_ | refine' s_M0 ?_ | refine' s_for ?_ | refine' s_rng1 ?_ | refine' s_par ?_ | refine' s_gcons ?_ | refine' s_gnil ?_ | refine' s_iList ?_ | refine' s_iEnum ?_ | refine' s_raise1 ?_
      | (refine' q_mod ?hm ?_; (case hm => first | omega | decide))
    | dsimp only
  k_with "r_R21f" => repeat (k_extra "s_R21f")
  trivial
/-! ### is_demand -/
open NS
section
variable {P : Program} {w : World} {K : PySem.W.Frag} {mg : Str → Option Value} {base : Heap} {CR CI CP : Addr}
def spDem (K : PySem.W.Frag) (P : Program) (w : World) (CR : Addr) : Sp := fun vs H Q _ => ∃ x b, vs = [x] ∧ DmK K P w CR H x b ∧ ∀ H', Same H H' → Q (.bl b) H'
theorem ok_is_demand (T : Txt K mg) (N : TxtN K mg) (I : TxtI K mg) (RC : RulesC K mg CR) (RM : RulesM K CR) (M : TxtM K mg) (hsub : PySem.W.subIn K (.ref CR) (.type "str") = some false) : Cal P w K mg base 6 "is_demand" (spDem K P w CR) := by
  refine M.d_isd.cal sc_is_demand (fun vs H Q E h => ?_) (fun f cdv A outer s H vs Q E hr h => ?_)
  · obtain ⟨x, b, rfl, _⟩ := h
    rfl
  · obtain ⟨x, b, rfl, hx, k⟩ := h
    have hu := hr.units
    refine ⟨_, (C8.pss_cut (ps_if (pt_not (PW.pt (pw_and (pt_val (pe_callB call_isi (by rfl) T.n_isinstance (by decide +kernel) (pa_cons (pv 0) (pa_cons (pe_bltn (v := .ty "tuple") (by rfl) T.n_tuple (by decide +kernel) rfl) pa_nil)))) (pw_and1 (pt_cmpR (op_eqU hu) (pe_callB call_lenQ (by rfl) N.n_len (by decide +kernel) (pa_cons (pv 0) pa_nil)) pe_int (by rfl)))))) (pss_one (ps_ret pe_bl)) pss_nil)
      (pss_cons (ps_asg (pv 0) (pg_tup (by rfl) (pgs_cons (pg_name (i := 1) sc_is_demand.nd rfl (.inl rfl)) (pgs_cons (pg_name (i := 2) sc_is_demand.nd rfl (.inl rfl)) (pgs_cons (pg_name (i := 3) sc_is_demand.nd rfl (.inl rfl)) (pgs_cons (pg_name (i := 4) sc_is_demand.nd rfl (.inl rfl)) pgs_nil))))))
      (C8.pss_cut (ps_if (pt_not (PW.pt (pw_and (pt_val (pe_c (ok_is_place T N I) hr (by decide) rfl (pa_cons (pv 1) pa_nil))) (pw_and (pt_val (pe_c (ok_is_whole T) hr (by decide) rfl (pa_cons (pv 2) pa_nil))) (pw_and1 (pt_val (pe_c (ok_is_whole T) hr (by decide) rfl (pa_cons (pv 3) pa_nil)))))))) (pss_one (ps_ret pe_bl)) pss_nil)
      (pss_one (ps_ret (pe_and (pe_chain op_leI op_ltI pe_int (pv 2) (pv 3)) (pe_one (pe_cmpR (op_way T RC RM hsub hr (by decide)) (pv 4) (pe_tup (pa_cons pe_str (pa_cons pe_str pa_nil))) (by rfl))))))))), ?_⟩
    refine q_cut8 (M := fun σ H' => ∃ a pl be en wy b' c' Tb Te, σ = [some (.ref a), none, none, none, none] ∧ H = H' ∧ x = .ref a ∧ H a = some (.tup [pl, be, en, wy]) ∧ PlK K H pl b' ∧ Pl K H be Tb ∧ Pl K H en Te ∧ WayK P w CR H wy c' ∧ b = (b' && dmB be en && c')) ?_ ?_
    · k_extra "r_R21f"
      cases hx with
      | no h n =>
        refine q_isi h .tup ?_
        rw [show subKd _ "tuple" = false by cases h.2 <;> first | rfl | exact absurd rfl n]
        refine q_test (s_if0 rfl ?_)
        k_extra "r_R21f"
        exact k H (Same.refl H)
      | len e h n =>
        subst e
        refine q_isi (Pl.tup h) .tup ?_
        refine q_test (s_if1 rfl ?_)
        k_extra "r_R21f"
        refine q_lenT (SqT.of h) ?_
        k_extra "r_R21f"
        refine q_eq rfl ?_
        rw [decide_eq_false (fun z => n (by have := V.int.inj z; omega))]
        refine q_test (s_if1 rfl ?_)
        k_extra "r_R21f"
        exact k H (Same.refl H)
      | four e h p t1 t2 y =>
        subst e
        refine q_isi (Pl.tup h) .tup ?_
        refine q_test (s_if1 rfl ?_)
        k_extra "r_R21f"
        refine q_lenT (SqT.of h) ?_
        k_extra "r_R21f"
        refine q_eq rfl ?_
        refine q_test (s_if0 rfl ?_)
        k_extra "r_R21f"
        exact ⟨_, _, _, _, _, _, _, _, _, rfl, rfl, rfl, h, p, t1, t2, y, rfl⟩
    rintro σ H0 ⟨a, pl, be, en, wy, b', c', Tb, Te, rfl, rfl, rfl, ha, hp, t1, t2, hw, rfl⟩
    clear hx
    k_extra "r_R21f"
    refine ⟨a, _, rfl, SqT.of ha, rfl, ?_⟩
    k_extra "r_R21f"
    refine q_cut8 (M := fun σ H' => ∃ i j : Int, σ = [some (.ref a), some pl, some be, some en, some wy] ∧ Same H H' ∧ b' = true ∧ be = .int i ∧ en = .int j) ?_ ?_
    · k_extra "r_R21f"
      refine place_asked hp fun H1 S1 => ?_
      cases b' with
      | false =>
        refine q_test (s_if0 rfl ?_)
        k_extra "r_R21f"
        exact k H1 S1
      | true =>
        refine q_test (s_if1 rfl ?_)
        k_extra "r_R21f"
        refine ⟨be, Tb, rfl, t1.mono S1, ?_⟩
        by_cases e1 : Tb = "int"
        · obtain ⟨i, rfl⟩ := t1.of_int e1
          subst e1
          refine q_test (s_if1 rfl ?_)
          k_extra "r_R21f"
          refine ⟨en, Te, rfl, t2.mono S1, ?_⟩
          by_cases e2 : Te = "int"
          · obtain ⟨j, rfl⟩ := t2.of_int e2
            subst e2
            refine q_test (s_if0 rfl ?_)
            k_extra "r_R21f"
            exact ⟨i, j, rfl, S1, rfl, rfl, rfl⟩
          · refine q_test (s_if1 (by simp [e2]) ?_)
            k_extra "r_R21f"
            have : dmB (.int i) en = false := by
              cases en <;> first | rfl | exact absurd t2.is_int e2
            rw [this] at k
            exact k H1 S1
        · refine q_test (s_if0 (by simp [e1]) ?_)
          k_extra "r_R21f"
          have : dmB be en = false := by
            cases be <;> first | rfl | exact absurd t1.is_int e1
          rw [this] at k
          exact k H1 S1
    rintro σ H1 ⟨i, j, rfl, S1, rfl, rfl, rfl⟩
    rw [Bool.true_and] at k
    unfold dmB at k
    k_extra "r_R21f"
    have k : ∀ H', Same H H' → Q (.bl (decide (0 ≤ i) && decide (i < j) && c')) H' := k
    by_cases h1 : 0 ≤ i
    · rw [decide_eq_true h1, Bool.true_and] at k
      refine s_if1 (decide_eq_true h1) ?_
      k_extra "r_R21f"
      by_cases h2 : i < j
      · rw [decide_eq_true h2, Bool.true_and] at k
        refine s_if1 (decide_eq_true h2) ?_
        k_extra "r_R21f"
        refine q_newT (by show 2 ≤ sizeLine; decide) fun t H2 n2 S2 h2 => ?_
        exact q_way (hw.mono (S1.trans S2)) h2 fun H3 S3 => k H3 (S1.trans (S2.trans S3))
      · rw [decide_eq_false h2, Bool.false_and] at k
        exact s_if0 (decide_eq_false h2) (k H1 S1)
    · rw [decide_eq_false h1, Bool.false_and, Bool.false_and] at k
      refine s_if0 (decide_eq_false h1) ?_
      exact ⟨_, rfl, s_if0 rfl (k H1 S1)⟩
/-- _check_demand: nothing, or InvalidDemand -/
def spChD (K : PySem.W.Frag) (P : Program) (w : World) (CR CD : Addr) : Sp := fun vs H Q E => ∃ x b, vs = [x] ∧ DmK K P w CR H x b ∧ (b = true → ∀ H', Same H H' → Q .non H') ∧ (b = false → ∀ H' d, Same H H' → H d = none → H' d = some (.xd [("value", x)]) → E (.ref CD) (some d) H')
theorem ok__check_demand {CD : Addr} (T : Txt K mg) (N : TxtN K mg) (I : TxtI K mg) (RC : RulesC K mg CR) (RM : RulesM K CR) (M : TxtM K mg) (hsub : PySem.W.subIn K (.ref CR) (.type "str") = some false) (XD : ExcF K mg "InvalidDemand" "value" CD) : CalX P w K mg base 7 "_check_demand" (spChD K P w CR CD) := by
  refine M.d_chd.calX sc__check_demand (fun vs H Q E h => ?_) (fun f cdv A outer s H vs Q E hr h => ?_)
  · obtain ⟨x, b, rfl, _⟩ := h
    rfl
  · obtain ⟨x, b, rfl, hx, kY, kN⟩ := h
    refine ⟨_, (pss_one (ps_if (pt_not (pt_val (pe_c (ok_is_demand T N I RC RM M hsub) hr (by decide) rfl (pa_cons (pv 0) pa_nil)))) (pss_one (ps_raise1 rfl XD hr (by decide) (takes_of rfl rfl rfl rfl) (pv 0))) pss_nil)), ?_⟩
    k_extra "r_R21f"
    refine ⟨x, b, rfl, hx, fun H1 S1 => ?_⟩
    k_extra "r_R21f"
    cases b with
    | true =>
      refine s_if0 rfl ?_
      exact kY rfl H1 S1
    | false =>
      refine s_if1 rfl ?_
      refine s_raise1 ?_
      k_extra "r_R21f"
      exact fun d H3 nd S3 hd => kN rfl H3 d (S1.trans S3) (S1.free nd) hd
def spChD0 (K : PySem.W.Frag) (P : Program) (w : World) (CR : Addr) : Sp := fun vs H Q _ => ∃ x, vs = [x] ∧ DmK K P w CR H x true ∧ ∀ H', Same H H' → Q .non H'
theorem ok__check_demand0 (T : Txt K mg) (N : TxtN K mg) (I : TxtI K mg) (RC : RulesC K mg CR) (RM : RulesM K CR) (M : TxtM K mg) (hsub : PySem.W.subIn K (.ref CR) (.type "str") = some false) : Cal P w K mg base 7 "_check_demand" (spChD0 K P w CR) := by
  refine M.d_chd.cal sc__check_demand (fun vs H Q E h => ?_) (fun f cdv A outer s H vs Q E hr h => ?_)
  · obtain ⟨x, rfl, _⟩ := h
    rfl
  · obtain ⟨x, rfl, hx, kY⟩ := h
    refine ⟨_, (pss_one (ps_if (pt_not (pt_val (pe_c (ok_is_demand T N I RC RM M hsub) hr (by decide) rfl (pa_cons (pv 0) pa_nil)))) pss_deadA pss_nil)), ?_⟩
    k_extra "r_R21f"
    refine ⟨x, true, rfl, hx, fun H1 S1 => ?_⟩
    k_extra "r_R21f"
    refine s_if0 rfl ?_
    exact kY H1 S1
def spCkX (K : PySem.W.Frag) (CI : Addr) : Sp := fun vs H _ E => ∃ v T, vs = [v] ∧ Pl K H v T ∧ ∀ H' d, Same H H' → H d = none → H' d = some (.xd [("value", v)]) → E (.ref CI) (some d) H'
theorem ok__check_rulesX (T : Txt K mg) (R : TxtR K mg) (RC : RulesC K mg CR) (XR : ExcF K mg "InvalidRules" "value" CI) : CalX P w K mg base 3 "_check_rules" (spCkX K CI) := by
  refine R.d_check.calX sc__check_rules (fun vs H Q E h => ?_) (fun f cdv A outer s H vs Q E hr h => ?_)
  · obtain ⟨v, T, rfl, _⟩ := h
    rfl
  · obtain ⟨v, ty, rfl, hv, kk⟩ := h
    refine ⟨_, (pss_one (ps_if (pt_not (pt_val (pe_callB call_isi (by rfl) T.n_isinstance (by decide +kernel) (pa_cons (pv 0) (pa_cons (pe_glob (v := .ref CR) (by rfl) RC.g rfl) pa_nil))))) (pss_one (ps_raise1 rfl XR hr (by decide) (takes_of rfl rfl rfl rfl) (pv 0))) pss_nil)), ?_⟩
    k_extra "r_R21f"
    refine ⟨v, .ref CR, .type ty, .ref CR, false, rfl, .own CR, hv.1, RC.kN _ hv.2, ?_⟩
    k_extra "r_R21f"
    refine s_if1 rfl ?_
    refine s_raise1 ?_
    k_extra "r_R21f"
    exact fun d H3 nd S3 hd => kk H3 d S3 nd hd
/-- rules_from of None, of rules -/
def spFrom (P : Program) (w : World) (CR : Addr) : Sp := fun vs H Q _ => ∃ v, vs = [v] ∧ ((v = .non ∧ ∀ x H' d, H x = none → H d = none → Same H H' → RulAt P w CR H' x d true (cn true []) → Q (.ref x) H') ∨ ∃ x d A B, v = .ref x ∧ RulAt P w CR H x d A B ∧ Q v H)
theorem ok_rules_from (T : Txt K mg) (N : TxtN K mg) (I : TxtI K mg) (R : TxtR K mg) (RC : RulesC K mg CR) (M : TxtM K mg) : Cal P w K mg base 7 "rules_from" (spFrom P w CR) := by
  refine M.d_from.cal sc_rules_from (fun vs H Q E h => ?_) (fun f cdv A outer s H vs Q E hr h => ?_)
  · obtain ⟨v, rfl, _⟩ := h
    rfl
  · obtain ⟨v, rfl, kk⟩ := h
    refine ⟨_, (pss_cons (ps_if (pt_cmpR op_isNon (pv 0) pe_non (by rfl)) (pss_one (ps_ret (pe_rules0 T N I R RC hr (by decide)))) pss_nil)
      (pss_cons (ps_expr (pe_c (ok__check_rules T R RC) hr (by decide) rfl (pa_cons (pv 0) pa_nil)))
      (pss_one (ps_ret (pv 0))))), ?_⟩
    k_extra "r_R21f"
    refine q_isNon ?_
    rcases kk with ⟨rfl, k⟩ | ⟨x, d, Ac, B, rfl, hs, k⟩
    · refine q_test (s_if1 (decide_eq_true rfl) ?_)
      k_extra "r_R21f"
      refine s_make ?_
      k_extra "r_R21f"
      refine q_rules (A := true) (rs := []) (.inl ⟨rfl, rfl⟩) (fun _ m => by cases m) (by decide) fun y H2 d ny nd S2 st => ?_
      exact k y H2 d ny nd S2 st
    · refine q_test (s_if0 (decide_eq_false fun z => by cases z) ?_)
      obtain ⟨dx, hx⟩ := id hs.hx
      k_extra "r_R21f"
      refine ⟨x, dx, _, rfl, hx, ?_⟩
      k_extra "r_R21f"
      exact k
def spFromX (K : PySem.W.Frag) (CI : Addr) : Sp := fun vs H _ E => ∃ v T, vs = [v] ∧ v ≠ .non ∧ Pl K H v T ∧ ∀ H' d, Same H H' → H d = none → H' d = some (.xd [("value", v)]) → E (.ref CI) (some d) H'
theorem ok_rules_fromX (T : Txt K mg) (R : TxtR K mg) (RC : RulesC K mg CR) (M : TxtM K mg) (XR : ExcF K mg "InvalidRules" "value" CI) : CalX P w K mg base 4 "rules_from" (spFromX K CI) := by
  refine M.d_from.calX sc_rules_from (fun vs H Q E h => ?_) (fun f cdv A outer s H vs Q E hr h => ?_)
  · obtain ⟨v, T, rfl, _⟩ := h
    rfl
  · obtain ⟨v, ty, rfl, nn, hv, kk⟩ := h
    refine ⟨_, (pss_cons (ps_if (pt_cmpR op_isNon (pv 0) pe_non (by rfl)) pss_deadA pss_nil)
      (pss_cons (ps_expr (pe_cxS (ok__check_rulesX T R RC XR) hr (by decide) (takes_of rfl rfl rfl rfl) rfl (pa_cons (pv 0) pa_nil))) pss_deadA)), ?_⟩
    k_extra "r_R21f"
    refine q_isNon ?_
    refine q_test (s_if0 (decide_eq_false nn) ?_)
    k_extra "r_R21f"
    refine s_callSD ?_
    k_extra "r_R21f"
    refine ⟨v, ty, rfl, hv, fun H1 d1 S1 n1 h1 => ?_⟩
    k_extra "r_R21f"
    exact kk H1 d1 S1 n1 h1
end
end Bt
namespace Bt
open PySem PySem.Spec PyProof.Rows L2
/-! ### C(k = v, ..), no positional argument, C's __init__ may raise; what is raised is wished for at the caller's slots -/
section
variable {X : Cx} {CX : CXT} {k : Nat} {f C : Addr} {fd : FuncData} {ps ks : List Str} {sp : Sp} {E : L2.St → XK} {x : Str} {p pos : Pos} {kws : List Keyword} {tk : TA} {g : List Value → List Value → List Value} {gV : List V → List V → List V}
def tMakeKS (C : Addr) (m : Nat) (sp : Sp) (gV : List V → List V → List V) (E : L2.St → XK) (tk : TA) : TE := fun σ H Q => tk σ H fun zs H2 => zs.length = m ∧ ∀ x dx, H2 x = none → H2 dx = none → dx ≠ x →
  sp (gV [.ref x] zs) (upd (upd H2 dx (.own x)) x (.ins C dx [])) (fun v H3 => v = .non ∧ Q (.ref x) H3) (E σ)
theorem run_makeKS {pins : List (Addr × Obj)} {σ : L2.St} {H : Hp} {s : Shared} {Q : VK} {ws : List Value} {zs : List V} (M : Mk X.K C f) (F : FnOk X.prog X.w X.K X.mg X.base CX k f fd ps sp) (hr : Room (k + 1) X.A) (hb : KBn X.K fd ps 1 ks g gV) (hx : PassesAt CX X σ (E σ))
    (I : Inv X pins σ H s) (rz : Vals zs ws) (l2 : zs.length = ks.length)
    (h : ∀ x dx, H x = none → H dx = none → dx ≠ x → sp (gV [.ref x] zs) (upd (upd H dx (.own x)) x (.ins C dx [])) (fun v H2 => v = .non ∧ Q (.ref x) H2) (E σ)) :
    wpAny (model X.prog X.w) X.A (call (.ref C) [] (ks.zip ws)) (EP X pins σ Q) X.xe s := by
  have hq := h (s.heap.objs.size + 1) s.heap.objs.size (I.hok.fresh (Nat.le_succ _)) (I.hok.fresh (Nat.le_refl _)) (Nat.ne_of_lt (Nat.lt_succ_self _))
  have I2 := Inv.made (C := C) I
  have r1 : Vals [V.ref (s.heap.objs.size + 1)] [Value.ref (s.heap.objs.size + 1)] := .cons rfl .nil
  have r2 := hb.rel r1 rz
  refine wpAny_call (make_map (f := f) I.kIn M.makes M.init (beq_iff_eq.mp M.fn) (codeAny_mono (F.run _ X.stack _ _ ⟨[Value.ref (s.heap.objs.size + 1)], ks.zip ws⟩ (g [Value.ref (s.heap.objs.size + 1)] ws) _ _ (E σ) (hr.make C [] (ks.zip ws))
    (I2.env0.make C [] (ks.zip ws)) (hb.to _ [Value.ref (s.heap.objs.size + 1)] ws I2.kIn rfl (rz.length.symm.trans l2)) r2 hq) fun r s' hq' => ?_))
  cases r with
  | error e => exact hx pins _ _ e s' I2 hq'
  | ok fl =>
    cases fl with
    | ret u =>
      obtain ⟨v, H', I3, rv, ev, q3⟩ := I2.after hq'
      subst ev
      exact ⟨rv, ⟨V.ref (s.heap.objs.size + 1), H', I3, rfl, q3⟩⟩
    | next => exact False.elim hq'
    | brk => exact False.elim hq'
    | cont => exact False.elim hq'
theorem pe_makeK0S (M : Mk X.K C f) (F : FnOk X.prog X.w X.K X.mg X.base CX k f fd ps sp) (hr : Room (k + 1) X.A) (hg : Gl X x) (hm : X.mg x = some (.ref C)) (hb : KBn X.K fd ps 1 ks g gV) (hx : ∀ σ, PassesAt CX X σ (E σ)) (hkw : PK X kws tk)
    (hall : (backToKw pos (keywordEach kws X.env)).all (·.1.isSome) = true := by rfl) (hks : (backToKw pos (keywordEach kws X.env)).filterMap (·.1) = ks := by rfl) (hdb : (x == ("__debug__" : Str)) = false := by decide)
    (hpl : ((backTo pos (starEach [] X.env)).any (·.1) || (backToKw pos (keywordEach kws X.env)).any (·.1.isNone)) = false := by rfl) :
    PE X (.Call (.Name x p) [] kws pos) (tMakeKS C ks.length sp gV E tk) := by
  refine ⟨fun pins s σ H Q I h => ?_⟩
  refine wpAny_Call_Name_kw (ld_glob I hg hm ?_ hdb)
  refine PySem.W.callWith_KW0 (h₀ := X.base) I.ok.mod.kin M.kp hall ?_ hpl
  refine thn (hkw.run pos pins s σ H _ I h) fun ws s2 ⟨zs, H2, I2, rz, l2, q2⟩ => ⟨I2.kIn, ?_⟩
  rw [hks]
  exact run_makeKS M F hr hb (hx σ) I2 rz l2 q2
theorem s_makeKS {m : Nat} {σ : L2.St} {H : Hp} {Q : VK} (h : tk σ H fun zs H2 => zs.length = m ∧ ∀ x dx, H2 x = none → H2 dx = none → dx ≠ x →
  sp (gV [.ref x] zs) (upd (upd H2 dx (.own x)) x (.ins C dx [])) (fun v H3 => v = .non ∧ Q (.ref x) H3) (E σ)) : tMakeKS C m sp gV E tk σ H Q := h
end
end Bt
namespace Bt
open PySem PySem.Spec PyProof.Rows L2
/-! ### f(e, .., k = v, ..), f may raise; what is raised is wished for at the caller's slots -/
section
variable {X : Cx} {CX : CXT} {k n : Nat} {f : Addr} {fd : FuncData} {ps ks : List Str} {sp : Sp} {E : L2.St → XK} {x : Str} {p pos : Pos} {e : Expr} {es : List Expr} {kws : List Keyword} {t tk : TA} {g : List Value → List Value → List Value} {gV : List V → List V → List V}
def tCallNS (n m : Nat) (sp : Sp) (gV : List V → List V → List V) (E : L2.St → XK) (t tk : TA) : TE := fun σ H Q => t σ H fun vs H1 => tk σ H1 fun zs H2 => vs.length = n ∧ zs.length = m ∧ sp (gV vs zs) H2 Q (E σ)
theorem run_fnNS {pins : List (Addr × Obj)} {σ : L2.St} {H : Hp} {s : Shared} {Q : VK} {us ws : List Value} {vs zs : List V} (F : FnOk X.prog X.w X.K X.mg X.base CX k f fd ps sp) (hr : Room k X.A) (hb : KBn X.K fd ps n ks g gV) (hx : PassesAt CX X σ (E σ))
    (I : Inv X pins σ H s) (r : Vals vs us) (rz : Vals zs ws) (l1 : vs.length = n) (l2 : zs.length = ks.length) (h : sp (gV vs zs) H Q (E σ)) : wpAny (model X.prog X.w) X.A (call (.ref f) us (ks.zip ws)) (EP X pins σ Q) X.xe s := by
  have r2 := hb.rel r rz
  refine wpAny_call (codeAny_mono (F.run X.A X.stack s H ⟨us, ks.zip ws⟩ (g us ws) (gV vs zs) Q (E σ) hr I.env0 (hb.to s us ws I.kIn (r.length.symm.trans l1) (rz.length.symm.trans l2)) r2 h) fun r s' hq => ?_)
  cases r with
  | error e => exact hx pins _ _ e s' I hq
  | ok fl =>
    cases fl with
    | ret u => exact I.after hq
    | next => exact False.elim hq
    | brk => exact False.elim hq
    | cont => exact False.elim hq
theorem pe_callNS (F : FnOk X.prog X.w X.K X.mg X.base CX k f fd ps sp) (hr : Room k X.A) (hg : Gl X x) (hm : X.mg x = some (.ref f)) (hk : PySem.W.keepIn X.K (.ref f) = true) (hb : KBn X.K fd ps n ks g gV) (hx : ∀ σ, PassesAt CX X σ (E σ))
    (ha : PA X (e :: es) t) (hkw : PK X kws tk) (hall : (backToKw pos (keywordEach kws X.env)).all (·.1.isSome) = true := by rfl) (hks : (backToKw pos (keywordEach kws X.env)).filterMap (·.1) = ks := by rfl)
    (hdb : (x == ("__debug__" : Str)) = false := by decide) (he : starEach (e :: es) X.env = (false, eval e X.env) :: starEach es X.env := by rfl)
    (hpl : ((backTo pos (starEach (e :: es) X.env)).any (·.1) || (backToKw pos (keywordEach kws X.env)).any (·.1.isNone)) = false := by rfl) :
    PE X (.Call (.Name x p) (e :: es) kws pos) (tCallNS n ks.length sp gV E t tk) := by
  refine ⟨fun pins s σ H Q I h => ?_⟩
  refine wpAny_Call_Name_kw (ld_glob I hg hm ?_ hdb)
  refine PySem.W.callWith_KW (h₀ := X.base) I.ok.mod.kin hk hall (thn (ha.run pos pins s σ H _ I h) fun us s1 ⟨vs, H1, I1, r, q⟩ => ?_) hpl he
  refine thn (hkw.run pos pins s1 σ H1 _ I1 q) fun ws s2 ⟨zs, H2, I2, rz, l1, l2, q2⟩ => ⟨I2.kIn, ?_⟩
  rw [hks]
  exact run_fnNS F hr hb (hx σ) I2 r rz l1 l2 q2
theorem s_callNS {m : Nat} {σ : L2.St} {H : Hp} {Q : VK} (h : t σ H fun vs H1 => tk σ H1 fun zs H2 => vs.length = n ∧ zs.length = m ∧ sp (gV vs zs) H2 Q (E σ)) : tCallNS n m sp gV E t tk σ H Q := h
end
theorem s_callN {n m : Nat} {sp : Sp} {gV : List V → List V → List V} {E : XK} {t tk : TA} {σ : L2.St} {H : Hp} {Q : VK} (h : t σ H fun vs H1 => tk σ H1 fun zs H2 => vs.length = n ∧ zs.length = m ∧ sp (gV vs zs) H2 Q E) : tCallN n m sp gV E t tk σ H Q := h
end Bt
namespace Bt
open PySem PySem.Spec PyProof.Rows L2 LamX NdefX
open PySem.W (dataLt dataLe alike AllAlike Sortable)
theorem words143_ : True := by
  k_with "s_R21g" => first
    | ((with_reducible refine' s_var ?hv ?_); (case hv => exact rfl))
    | with_reducible first
      | refine' s_c ?_ | refine' s_op ?_ | refine' s_asg ?_ | refine' s_gname ?_ | refine' s_seq ?_ | refine' s_next ?_ | refine' s_ret ?_ | refine' s_ifS ?_ | refine' s_drop ?_ | refine' s_retN ?_ | refine' s_test ?_ | refine' s_B ?_ | refine' q_test ?_ | refine' s_int ?_ | refine' s_cons ?_ | refine' s_nil ?_ | refine' s_call ?_ | refine' s_CB ?_ | refine' s_andT ?_ | refine' s_orT ?_ | refine' s_notT ?_ | refine' s_andV ?_ | refine' s_orV ?_ | refine' s_notV ?_ | refine' s_ifV ?_ | refine' s_chain ?_ | refine' s_sl ?_ | refine' s_noPart ?_ | refine' s_part ?_ | refine' s_gsub ?_ | refine' s_BM ?_ | refine' s_tup ?_ | refine' s_lst ?_ | refine' q_add ?_ | refine' q_sub ?_ | refine' q_lt ?_ | refine' q_le ?_ | refine' q_gt ?_ | refine' q_ge ?_ | refine' s_ifT ?_ | refine' s_ifF ?_ | refine' s_yes ?_ | refine' s_iStr ?_ | refine' s_M0 ?_ | refine' s_for ?_ | refine' s_rng1 ?_ | refine' s_par ?_ | refine' s_gcons ?_ | refine' s_gnil ?_ | refine' s_iList ?_ | refine' s_iEnum ?_ | refine' s_raise1 ?_
      | (refine' q_mod ?hm ?_; (case hm => first | omega | decide))
    | dsimp only
  k_with "r_R21g" => repeat (k_extra "s_R21g")
  trivial
/-! ### demands; can_be_one -/
open NS
structure Dem where
  pl : Plc
  i : Int
  j : Int
  way : Str
def Dem.Ok (D : Dem) : Prop := NmP D.pl ∧ 0 ≤ D.i ∧ D.i < D.j ∧ (D.way = "go" ∨ D.way = "come")
def DemAt (H : Hp) (x : V) (D : Dem) : Prop := ∃ a u, x = .ref a ∧ H a = some (.tup [u, .int D.i, .int D.j, .str D.way]) ∧ PlAt H u D.pl
theorem DemAt.mono {H H' : Hp} {x : V} {D : Dem} (S : Same H H') : DemAt H x D → DemAt H' x D := fun ⟨a, u, e, h, p⟩ => ⟨a, u, e, S _ _ h, p.mono S⟩
theorem DemAt.dm {K : PySem.W.Frag} {P : Program} {w : World} {CR : Addr} {H : Hp} {x : V} {D : Dem} (h : DemAt H x D) (ok : D.Ok) : DmK K P w CR H x true := by
  obtain ⟨a, u, e, ha, hu⟩ := h
  have := DmK.four (K := K) (P := P) (w := w) (CR := CR) e ha (hu.plk ok.1) Pl.int Pl.int (WayK.str rfl)
  rw [show dmB (.int D.i) (.int D.j) = (decide (0 ≤ D.i) && decide (D.i < D.j)) from rfl, decide_eq_true ok.2.1, decide_eq_true ok.2.2.1] at this
  rcases ok.2.2.2 with e | e
  · rw [e] at this
    exact this
  · rw [e] at this
    exact this
def joinB (A : Bool) (B : List Rn) (D D' : Dem) : Bool := decide (max D.i D'.i < min D.j D'.j) && allows A B (D.pl, D'.pl)
def joins (A : Bool) (B : List Rn) (D D' : Dem) : Bool := if D.way = D'.way then false else if D.way = "go" then joinB A B D D' else joinB A B D' D
section
variable {X : Cx} {k : Nat} {CR : Addr} {o e e2 : Expr} {to te te2 : TE} {pos : Pos}
theorem pe_book (T : Txt X.K X.mg) (N : TxtN X.K X.mg) (I : TxtI X.K X.mg) (R : TxtR X.K X.mg) (RC : RulesC X.K X.mg CR) (RM : RulesM X.K CR) (hr : Room k X.A) (hk : 4 ≤ k) (ho : PE X o to) (ha : PE X e te) (hb : PE X e2 te2)
    (ht : eval (.Call o [e, e2] [] pos) X.env = (do callWith pos (← eval o X.env) [] (backTo pos (starEach [e, e2] X.env)) (backToKw pos (keywordEach [] X.env))) := by rfl)
    (he : starEach [e, e2] X.env = (false, eval e X.env) :: starEach [e2] X.env := by rfl) (he2 : starEach [e2] X.env = (false, eval e2 X.env) :: starEach [] X.env := by rfl) (hpl : (backTo pos (starEach [e2] X.env)).any (·.1) = false := by rfl) :
    PE X (.Call o [e, e2] [] pos) (tCallOS CR (spRCall X.prog X.w CR) (fun _ => E0) to (tCons te (tCons te2 tNil))) := by
  obtain ⟨f, fd, c, F, b⟩ := RM.call
  exact pe_callOS ho c (ok_rules_call T N I R RC RM F) (hr.mono hk) b (fun σ pins H s e s' I q => L2.pass0 pins σ H s e s' I q) (pa_cons ha (pa_cons hb pa_nil he2) he) ht he hpl
end
section
variable {P : Program} {w : World} {K : PySem.W.Frag} {mg : Str → Option Value} {base : Heap} {CR CI CP : Addr}
def rMx : List V → Hp → VK → Prop := fun xs H Q => ∃ i j, xs = [.int i, .int j] ∧ Q (.int (if j > i then j else i)) H
theorem q_mx {H : Hp} {Q : VK} {i j : Int} (q : Q (.int (max i j)) H) : rMx [.int i, .int j] H Q := ⟨i, j, rfl, by
  have : (if j > i then j else i) = max i j := by split <;> omega
  rw [this]
  exact q⟩
def spWin : Sp := fun vs H Q _ => ∃ x y D D', vs = [x, y] ∧ DemAt H x D ∧ DemAt H y D' ∧ Q (.bl (decide (max D.i D'.i < min D.j D'.j))) H
theorem q_mn {H : Hp} {Q : VK} {i j : Int} (q : Q (.int (min i j)) H) : (fun (xs : List V) (H : Hp) (Q : VK) => ∃ i j, xs = [V.int i, V.int j] ∧ Q (.int (if j < i then j else i)) H) [.int i, .int j] H Q := ⟨i, j, rfl, by
  have : (if j < i then j else i) = min i j := by split <;> omega
  rw [this]
  exact q⟩
theorem ok__windows_meet (M : TxtM K mg) : Cal P w K mg base 1 "_windows_meet" spWin := by
  refine M.d_win.cal sc__windows_meet (fun vs H Q E h => ?_) (fun f cdv A outer s H vs Q E hr h => ?_)
  · obtain ⟨x, y, D, D', rfl, _⟩ := h
    rfl
  · obtain ⟨x, y, D, D', rfl, ⟨a, u, rfl, ha, hu⟩, ⟨b, v, rfl, hb, hv⟩, k⟩ := h
    refine ⟨_, (pss_one (ps_ret (pe_cmpR op_ltI (pe_callB (call_max2 rfl) (by rfl) M.n_max (by decide +kernel) (pa_cons (pe_ix ix_seq (pv 0) pe_int (fun _ _ => rfl)) (pa_cons (pe_ix ix_seq (pv 1) pe_int (fun _ _ => rfl)) pa_nil))) (pe_callB (call_min2 rfl) (by rfl) M.n_min (by decide +kernel) (pa_cons (pe_ix ix_seq (pv 0) pe_int (fun _ _ => rfl)) (pa_cons (pe_ix ix_seq (pv 1) pe_int (fun _ _ => rfl)) pa_nil))) (by rfl)))), ?_⟩
    k_extra "r_R21g"
    refine q_ixT (SqT.of ha) (at_of (j := 1) rfl rfl) ?_
    k_extra "r_R21g"
    refine q_ixT (SqT.of hb) (at_of (j := 1) rfl rfl) ?_
    k_extra "r_R21g"
    refine ⟨_, _, rfl, ?_⟩
    rw [show (if D'.i > D.i then D'.i else D.i) = max D.i D'.i by split <;> omega]
    k_extra "r_R21g"
    refine q_ixT (SqT.of ha) (at_of (j := 2) rfl rfl) ?_
    k_extra "r_R21g"
    refine q_ixT (SqT.of hb) (at_of (j := 2) rfl rfl) ?_
    k_extra "r_R21g"
    refine ⟨_, _, rfl, ?_⟩
    rw [show (if D'.j < D.j then D'.j else D.j) = min D.j D'.j by split <;> omega]
    k_extra "r_R21g"
    exact k
def spBoth (P : Program) (w : World) (CR : Addr) : Sp := fun vs H Q _ => ∃ x y r d A B D D', vs = [x, y, .ref r] ∧ DemAt H x D ∧ D.Ok ∧ DemAt H y D' ∧ D'.Ok ∧ RulAt P w CR H r d A B ∧ ∀ H', Same H H' → Q (.bl (joinB A B D D')) H'
theorem ok_one_does_both (T : Txt K mg) (N : TxtN K mg) (I : TxtI K mg) (R : TxtR K mg) (RC : RulesC K mg CR) (RM : RulesM K CR) (M : TxtM K mg) : Cal P w K mg base 5 "one_does_both" (spBoth P w CR) := by
  refine M.d_both.cal sc_one_does_both (fun vs H Q E h => ?_) (fun f cdv A outer s H vs Q E hr h => ?_)
  · obtain ⟨x, y, r, d, A, B, D, D', rfl, _⟩ := h
    rfl
  · obtain ⟨x, y, r, d, Ac, B, D, D', rfl, hx, ok, hy, ok', hs, k⟩ := h
    refine ⟨_, (pss_one (ps_ret (pe_and (pe_c (ok__windows_meet M) hr (by decide) rfl (pa_cons (pv 0) (pa_cons (pv 1) pa_nil))) (pe_one (pe_book T N I R RC RM hr (by decide) (pv 2) (pe_ix ix_seq (pv 0) pe_int (fun _ _ => rfl)) (pe_ix ix_seq (pv 1) pe_int (fun _ _ => rfl))))))), ?_⟩
    obtain ⟨a, u, rfl, ha, hu⟩ := id hx
    obtain ⟨b, v, rfl, hb, hv⟩ := id hy
    k_extra "r_R21g"
    refine ⟨_, _, D, D', rfl, hx, hy, ?_⟩
    unfold joinB at k
    cases e : decide (max D.i D'.i < min D.j D'.j) with
    | false =>
      rw [e, Bool.false_and] at k
      exact ⟨_, rfl, s_if0 rfl (k H (Same.refl H))⟩
    | true =>
      rw [e, Bool.true_and] at k
      refine ⟨_, rfl, s_if1 rfl ?_⟩
      obtain ⟨dx, hdx⟩ := id hs.hx
      k_extra "r_R21g"
      refine s_callOS ?_
      k_extra "r_R21g"
      refine ⟨r, rfl, ?_⟩
      k_extra "r_R21g"
      refine q_ixT (SqT.of ha) (at_of (j := 0) rfl rfl) ?_
      k_extra "r_R21g"
      refine q_ixT (SqT.of hb) (at_of (j := 0) rfl rfl) ?_
      k_extra "r_R21g"
      exact ⟨⟨dx, _, hdx⟩, r, d, Ac, B, u, v, D.pl, D'.pl, rfl, hs, hu, hv, ok.1, ok'.1, fun H1 S1 => k H1 S1⟩
def gCV (vs zs : List V) : List V := vs ++ zs
structure CanF (K : PySem.W.Frag) (mg : Str → Option Value) : Prop where
  ex : ∃ (f : Addr) (fd : FuncData) (ds : List Value), mg "can_be_one" = some (.ref f) ∧ PySem.W.keepIn K (.ref f) = true ∧ FunD K "can_be_one" "can_be_one" (defArgs s_can_be_one) (defBody s_can_be_one) (defScope s_can_be_one) [] [("rules", .non)] f fd ∧
    KBn K fd ["one", "other", "rules"] 2 ["rules"] (fun us ws => us ++ ws) gCV ∧ Vals [.non] ds ∧ Binds K fd ["one", "other", "rules"] ds
/-- the rules that are handed in: None, or rules -/
def RulO (P : Program) (w : World) (CR : Addr) (H : Hp) (r : V) (A : Bool) (B : List Rn) : Prop := (r = .non ∧ A = true ∧ B = cn true []) ∨ ∃ c d, r = .ref c ∧ RulAt P w CR H c d A B
theorem RulO.mono {H H' : Hp} {r : V} {A : Bool} {B : List Rn} (S : Same H H') : RulO P w CR H r A B → RulO P w CR H' r A B
  | .inl h => .inl h
  | .inr ⟨c, d, e, h⟩ => .inr ⟨c, d, e, h.mono S⟩
def spCan (P : Program) (w : World) (CR : Addr) : Sp := fun vs H Q _ => ∃ x y r A B D D', vs = [x, y, r] ∧ DemAt H x D ∧ D.Ok ∧ DemAt H y D' ∧ D'.Ok ∧ RulO P w CR H r A B ∧ ∀ H', Same H H' → Q (.bl (joins A B D D')) H'
theorem ok_can_be_one {f : Addr} {fd : FuncData} (T : Txt K mg) (N : TxtN K mg) (I : TxtI K mg) (R : TxtR K mg) (RC : RulesC K mg CR) (RM : RulesM K CR) (M : TxtM K mg) (hsub : PySem.W.subIn K (.ref CR) (.type "str") = some false)
    (F : FunD K "can_be_one" "can_be_one" (defArgs s_can_be_one) (defBody s_can_be_one) (defScope s_can_be_one) [] [("rules", .non)] f fd) : FnOk P w K mg base CX0 8 f fd ["one", "other", "rules"] (spCan P w CR) := by
  refine F.ok sc_can_be_one (fun vs H Q E h => ?_) (fun cdv A outer s H vs Q E hr h => ?_)
  · obtain ⟨x, y, r, A, B, D, D', rfl, _⟩ := h
    rfl
  · obtain ⟨x, y, r, Ac, B, D, D', rfl, hx, ok, hy, ok', hs, k⟩ := h
    refine ⟨_, (pss_cons (ps_expr (pe_c (ok__check_demand0 T N I RC RM M hsub) hr (by decide) rfl (pa_cons (pv 0) pa_nil)))
      (pss_cons (ps_expr (pe_c (ok__check_demand0 T N I RC RM M hsub) hr (by decide) rfl (pa_cons (pv 1) pa_nil)))
      (C8.pss_cut (ps_set (i := 3) sc_can_be_one.nd rfl (.inl rfl) (pe_c (ok_rules_from T N I R RC M) hr (by decide) rfl (pa_cons (pv 2) pa_nil)))
      (pss_cons (ps_if (pt_cmpR (op_eqU hr.units) (pe_ix ix_seq (pv 0) pe_int (fun _ _ => rfl)) (pe_ix ix_seq (pv 1) pe_int (fun _ _ => rfl)) (by rfl)) (pss_one (ps_ret pe_bl)) pss_nil)
      (C8.pss_cut (ps_asg (pe_ifExp (pt_cmpR (op_eqU hr.units) (pe_ix ix_seq (pv 0) pe_int (fun _ _ => rfl)) pe_str (by rfl)) (pe_tup (pa_cons (pv 0) (pa_cons (pv 1) pa_nil))) (pe_tup (pa_cons (pv 1) (pa_cons (pv 0) pa_nil)))) (pg_tup (by rfl) (pgs_cons (pg_name (i := 4) sc_can_be_one.nd rfl (.inl rfl)) (pgs_cons (pg_name (i := 5) sc_can_be_one.nd rfl (.inl rfl)) pgs_nil))))
      (pss_one (ps_ret (pe_c (ok_one_does_both T N I R RC RM M) hr (by decide) rfl (pa_cons (pv 4) (pa_cons (pv 5) (pa_cons (pv 3) pa_nil))))))))))), ?_⟩
    k_extra "r_R21g"
    refine ⟨x, rfl, hx.dm ok, fun H1 S1 => ?_⟩
    k_extra "r_R21g"
    refine ⟨y, rfl, (hy.mono S1).dm ok', fun H2 S2 => ?_⟩
    have S02 := S1.trans S2
    refine q_cut8 (M := fun σ H' => ∃ c d, σ = [some x, some y, some r, some (.ref c), none, none] ∧ Same H2 H' ∧ RulAt P w CR H' c d Ac B) ?_ ?_
    · k_extra "r_R21g"
      refine ⟨r, rfl, ?_⟩
      rcases hs.mono S02 with ⟨rfl, rfl, rfl⟩ | ⟨c, d, rfl, hc⟩
      · refine .inl ⟨rfl, fun c H3 d _ _ S3 st => ?_⟩
        k_extra "r_R21g"
        exact ⟨c, d, rfl, S3, st⟩
      · refine .inr ⟨c, d, Ac, B, rfl, hc, ?_⟩
        k_extra "r_R21g"
        exact ⟨c, d, rfl, Same.refl _, hc⟩
    rintro σ H3 ⟨c, d, rfl, S3, hc⟩
    have S03 := S02.trans S3
    have hx3 := hx.mono S03
    have hy3 := hy.mono S03
    obtain ⟨a, u, rfl, ha, hu⟩ := id hx3
    obtain ⟨b, v, rfl, hb, hv⟩ := id hy3
    k_extra "r_R21g"
    refine q_ixT (SqT.of ha) (at_of (j := 3) rfl rfl) ?_
    k_extra "r_R21g"
    refine q_ixT (SqT.of hb) (at_of (j := 3) rfl rfl) ?_
    refine q_eq rfl ?_
    have es : ∀ a b : Str, decide (V.str a = V.str b) = decide (a = b) := fun a b => decide_eq_decide.mpr ⟨fun h => V.str.inj h, fun h => by rw [h]⟩
    rw [es]
    unfold joins at k
    by_cases e1 : D.way = D'.way
    · rw [if_pos e1] at k
      refine q_test (s_if1 (decide_eq_true e1) ?_)
      k_extra "r_R21g"
      exact k H3 S03
    · rw [if_neg e1] at k
      refine q_test (s_if0 (decide_eq_false e1) ?_)
      refine q_cut8 (M := fun σ H' => Same H3 H' ∧ ((D.way = "go" ∧ σ = [some (.ref a), some (.ref b), some r, some (.ref c), some (.ref a), some (.ref b)]) ∨ (D.way ≠ "go" ∧ σ = [some (.ref a), some (.ref b), some r, some (.ref c), some (.ref b), some (.ref a)]))) ?_ ?_
      · k_extra "r_R21g"
        refine q_ixT (SqT.of ha) (at_of (j := 3) rfl rfl) ?_
        k_extra "r_R21g"
        refine q_eq rfl ?_
        rw [es]
        by_cases e2 : D.way = "go"
        · refine q_test (s_if1 (decide_eq_true e2) ?_)
          k_extra "r_R21g"
          refine q_newT (by show 2 ≤ sizeLine; decide) fun t H4 n4 S4 h4 => ?_
          refine ⟨t, _, rfl, SqT.of h4, rfl, ?_⟩
          k_extra "r_R21g"
          exact ⟨S4, .inl ⟨e2, rfl⟩⟩
        · refine q_test (s_if0 (decide_eq_false e2) ?_)
          k_extra "r_R21g"
          refine q_newT (by show 2 ≤ sizeLine; decide) fun t H4 n4 S4 h4 => ?_
          refine ⟨t, _, rfl, SqT.of h4, rfl, ?_⟩
          k_extra "r_R21g"
          exact ⟨S4, .inr ⟨e2, rfl⟩⟩
      rintro σ H4 ⟨S4, h⟩
      rcases h with ⟨e2, rfl⟩ | ⟨e2, rfl⟩
      · rw [if_pos e2] at k
        k_extra "r_R21g"
        exact ⟨_, _, c, d, Ac, B, D, D', rfl, hx3.mono S4, ok, hy3.mono S4, ok', hc.mono S4, fun H5 S5 => k H5 (S03.trans (S4.trans S5))⟩
      · rw [if_neg e2] at k
        k_extra "r_R21g"
        exact ⟨_, _, c, d, Ac, B, D', D, rfl, hy3.mono S4, ok', hx3.mono S4, ok, hc.mono S4, fun H5 S5 => k H5 (S03.trans (S4.trans S5))⟩
/-- can_be_one of what is no demand, or no rules -/
def spCanX (K : PySem.W.Frag) (P : Program) (w : World) (CR CD CI : Addr) : Sp := fun vs H _ E => ∃ x y r b c, vs = [x, y, r] ∧ DmK K P w CR H x b ∧ (b = true → DmK K P w CR H y c) ∧
  ((b = false ∧ ∀ H' d, Same H H' → H d = none → H' d = some (.xd [("value", x)]) → E (.ref CD) (some d) H') ∨
   (b = true ∧ c = false ∧ ∀ H' d, Same H H' → H d = none → H' d = some (.xd [("value", y)]) → E (.ref CD) (some d) H') ∨
   (b = true ∧ c = true ∧ r ≠ .non ∧ ∃ T, Pl K H r T ∧ ∀ H' d, Same H H' → H d = none → H' d = some (.xd [("value", r)]) → E (.ref CI) (some d) H'))
theorem ok_can_be_oneX {f : Addr} {fd : FuncData} {CD : Addr} (T : Txt K mg) (N : TxtN K mg) (I : TxtI K mg) (R : TxtR K mg) (RC : RulesC K mg CR) (RM : RulesM K CR) (M : TxtM K mg) (hsub : PySem.W.subIn K (.ref CR) (.type "str") = some false) (XD : ExcF K mg "InvalidDemand" "value" CD) (XR : ExcF K mg "InvalidRules" "value" CI)
    (F : FunD K "can_be_one" "can_be_one" (defArgs s_can_be_one) (defBody s_can_be_one) (defScope s_can_be_one) [] [("rules", .non)] f fd) : FnOk P w K mg base (L2.CX P w) 8 f fd ["one", "other", "rules"] (spCanX K P w CR CD CI) := by
  refine F.ok sc_can_be_one (fun vs H Q E h => ?_) (fun cdv A outer s H vs Q E hr h => ?_)
  · obtain ⟨x, y, r, b, c, rfl, _⟩ := h
    rfl
  · obtain ⟨x, y, r, b, c, rfl, hx, hy, kk⟩ := h
    refine ⟨_, (pss_cons (ps_expr (pe_cxS (ok__check_demand T N I RC RM M hsub XD) hr (by decide) (takes_of rfl rfl rfl rfl) rfl (pa_cons (pv 0) pa_nil)))
      (pss_cons (ps_expr (pe_cxS (ok__check_demand T N I RC RM M hsub XD) hr (by decide) (takes_of rfl rfl rfl rfl) rfl (pa_cons (pv 1) pa_nil)))
      (pss_cons (ps_set (i := 3) sc_can_be_one.nd rfl (.inl rfl) (pe_cxS (ok_rules_fromX T R RC M XR) hr (by decide) (takes_of rfl rfl rfl rfl) rfl (pa_cons (pv 2) pa_nil))) pss_deadA))), ?_⟩
    k_extra "r_R21g"
    refine s_callSD ?_
    k_extra "r_R21g"
    refine ⟨x, b, rfl, hx, fun eb H1 S1 => ?_, fun eb H1 d1 S1 n1 h1 => ?_⟩
    · subst eb
      have hy := hy rfl
      rcases kk with ⟨e, _⟩ | kk
      · cases e
      k_extra "r_R21g"
      refine s_callSD ?_
      k_extra "r_R21g"
      refine ⟨y, c, rfl, hy.mono S1, fun ec H2 S2 => ?_, fun ec H2 d2 S2 n2 h2 => ?_⟩
      · subst ec
        rcases kk with ⟨_, e, _⟩ | ⟨_, _, nn, ty, hr', kk⟩
        · cases e
        k_extra "r_R21g"
        refine s_callSD ?_
        k_extra "r_R21g"
        refine ⟨r, ty, rfl, nn, hr'.mono (S1.trans S2), fun H3 d3 S3 n3 h3 => ?_⟩
        k_extra "r_R21g"
        exact kk H3 d3 ((S1.trans S2).trans S3) ((S1.trans S2).free n3) h3
      · subst ec
        rcases kk with ⟨_, _, kk⟩ | ⟨_, e, _⟩
        · k_extra "r_R21g"
          exact kk H2 d2 (S1.trans S2) (S1.free n2) h2
        · cases e
    · subst eb
      rcases kk with ⟨_, kk⟩ | ⟨e, _⟩ | ⟨e, _⟩
      · k_extra "r_R21g"
        exact kk H1 d1 S1 n1 h1
      · cases e
      · cases e
end
end Bt
namespace Bt
open PySem PySem.Spec PyProof.Rows L2 LamX NdefX
open PySem.W (dataLt dataLe alike AllAlike Sortable)
theorem words127_ : True := by
  k_with "s_L21a" => first
    | ((with_reducible refine' s_var ?hv ?_); (case hv => exact rfl))
    | with_reducible first
      | refine' s_c ?_ | refine' s_op ?_ | refine' s_asg ?_ | refine' s_gname ?_ | refine' s_seq ?_ | refine' s_next ?_ | refine' s_ret ?_ | refine' s_ifS ?_ | refine' s_drop ?_ | refine' s_retN ?_ | refine' s_test ?_ | refine' s_B ?_ | refine' q_test ?_ | refine' s_int ?_ | refine' s_cons ?_ | refine' s_nil ?_ | refine' s_call ?_ | refine' s_CB ?_ | refine' s_andT ?_ | refine' s_orT ?_ | refine' s_notT ?_ | refine' s_andV ?_ | refine' s_orV ?_ | refine' s_notV ?_ | refine' s_ifV ?_ | refine' s_chain ?_ | refine' s_sl ?_ | refine' s_noPart ?_ | refine' s_part ?_ | refine' s_gsub ?_ | refine' s_BM ?_ | refine' s_tup ?_ | refine' s_lst ?_ | refine' q_add ?_ | refine' q_sub ?_ | refine' q_lt ?_ | refine' q_le ?_ | refine' q_gt ?_ | refine' q_ge ?_ | refine' s_ifT ?_ | refine' s_ifF ?_ | refine' s_yes ?_ | refine' s_iStr ?_ | refine' s_M0 ?_ | refine' s_for ?_ | refine' s_rng1 ?_ | refine' s_par ?_ | refine' s_gcons ?_ | refine' s_gnil ?_ | refine' s_iList ?_ | refine' s_iEnum ?_ | refine' s_raise1 ?_
      | (refine' q_mod ?hm ?_; (case hm => first | omega | decide))
    | dsimp only
  k_with "r_L21a" => repeat (k_extra "s_L21a")
  trivial
/-! ### the law's helpers: _law_allowed, _law_rules -/
open NS
structure TxtL21 (K : PySem.W.Frag) (mg : Str → Option Value) : Prop where
  d_allowed : Df K mg "_law_allowed" s__law_allowed ["_law_book", "_law_one", "_law_other"]
  d_rules : Df K mg "_law_rules" s__law_rules ["_law_purse_here", "_law_places"]
  d_joins : Df K mg "_law_joins" s__law_joins ["_law_one", "_law_other", "_law_book"]
  d_made : Df K mg "_law_rules_made" s__law_rules_made ["_law_book"]
  d_demand : Df K mg "_law_demand" s__law_demand ["_law_purse_here", "_law_places"]
  d_raised : Df K mg "_law_raised" s__law_raised ["_law_one", "_law_other", "_law_book"]
  d_bad : Df K mg "_law_bad" s__law_bad ["_law_one"]
  d_right : Df K mg "_law_right" s__law_right ["_law_one", "_law_other", "_law_book"]
theorem room65 {k : Nat} {A : Around} (r : Room k A) : A.units + 65 < cLine := by have := r.un; omega
theorem eqvAll_len : ∀ (xs ys : List PyData), xs.length ≠ ys.length → PyData.eqvAll xs ys = false
  | [], [], h => absurd rfl h
  | [], y :: ys, _ => by simp [PyData.eqvAll]
  | x :: xs, [], _ => by simp [PyData.eqvAll]
  | x :: xs, y :: ys, h => by
    rw [PyData.eqvAll, eqvAll_len xs ys (fun z => h (by simp [z])), Bool.and_false]
def SpecAt (H : Hp) (x : V) (A : Bool) (rs : List Rn) : Prop := ∃ t l xs, x = .ref t ∧ H t = some (.tup [.bl A, .ref l]) ∧ H l = some (.lst xs) ∧ RnsAt H xs rs
theorem SpecAt.mono {H H' : Hp} {x : V} {A : Bool} {rs : List Rn} (S : Same H H') : SpecAt H x A rs → SpecAt H' x A rs := fun ⟨t, l, xs, e, h1, h2, p⟩ => ⟨t, l, xs, e, S _ _ h1, S _ _ h2, RnsAt.mono S p⟩
theorem any_rn (st : List Rn) (p : Rn) : (st.map dRn).any (fun z => PyData.eqv z (dRn p)) = decide (p ∈ st) := by
  rw [List.any_map, Bool.eq_iff_iff, List.any_eq_true, decide_eq_true_iff]
  constructor
  · rintro ⟨y, hy, e⟩
    have e2 : PyData.eqv (dRn y) (dRn p) = true := e
    rw [eqv_rn, decide_eq_true_iff] at e2
    exact e2 ▸ hy
  · intro h
    refine ⟨p, h, ?_⟩
    show PyData.eqv (dRn p) (dRn p) = true
    rw [eqv_rn]
    exact decide_eq_true rfl
theorem any_pl (st : List Plc) (p : Plc) : (st.map dPl).any (fun z => PyData.eqv z (dPl p)) = decide (p ∈ st) := by
  rw [List.any_map, Bool.eq_iff_iff, List.any_eq_true, decide_eq_true_iff]
  constructor
  · rintro ⟨y, hy, e⟩
    have e2 : PyData.eqv (dPl y) (dPl p) = true := e
    rw [eqv_pl, decide_eq_true_iff] at e2
    exact e2 ▸ hy
  · intro h
    refine ⟨p, h, ?_⟩
    show PyData.eqv (dPl p) (dPl p) = true
    rw [eqv_pl]
    exact decide_eq_true rfl
theorem q_ninRn {K : PySem.W.Frag} {H : Hp} {Q : VK} {x : V} {p : Rn} {l : Addr} {xs : List V} {st : List Rn} (hx : RnAt H x p) (np : NmR p) (hl : H l = some (.lst xs)) (pl : RnsAt H xs st) (nm : ∀ p ∈ st, NmR p) (q : Q (.bl (!decide (p ∈ st))) H) : rNotInD K x (.ref l) H Q :=
  ⟨dRn p, st.map dRn, hx.dp, .lst (SqL.of hl) pl.dps, sh_rn np, sh_rns nm, by rw [any_rn]; exact q⟩
theorem q_ninPl {K : PySem.W.Frag} {H : Hp} {Q : VK} {x : V} {p : Plc} {l : Addr} {xs : List V} {st : List Plc} (hx : PlAt H x p) (np : NmP p) (hl : H l = some (.lst xs)) (pl : Pls H xs st) (nm : ∀ p ∈ st, NmP p) (q : Q (.bl (!decide (p ∈ st))) H) : rNotInD K x (.ref l) H Q :=
  ⟨dPl p, st.map dPl, hx.dp, .lst (SqL.of hl) pl.dps, sh_pl np.1 np.2, sh_pls nm, by rw [any_pl]; exact q⟩
section
variable {P : Program} {w : World} {K : PySem.W.Frag} {mg : Str → Option Value} {base : Heap} {CR CI : Addr}
def spAllowed : Sp := fun vs H Q _ => ∃ b y z A rs p q, vs = [b, y, z] ∧ SpecAt H b A rs ∧ (∀ r ∈ rs, NmR r) ∧ PlAt H y p ∧ PlAt H z q ∧ NmP p ∧ NmP q ∧ ∀ H', Same H H' → Q (.bl (allows A rs (p, q))) H'
theorem ok__law_allowed (L : TxtL21 K mg) : Cal P w K mg base 1 "_law_allowed" spAllowed := by
  refine L.d_allowed.cal sc__law_allowed (fun vs H Q E h => ?_) (fun f cdv A outer s H vs Q E hr h => ?_)
  · obtain ⟨b, y, z, A, rs, p, q, rfl, _⟩ := h
    rfl
  · obtain ⟨b, y, z, Ac, rs, p, q, rfl, ⟨t, l, xs, rfl, ht, hl, hx⟩, nm, hy, hz, np, nq, k⟩ := h
    have hu := hr.units
    refine ⟨_, (pss_one (ps_ret (pe_and (pe_cmpR (op_neU hu) (pv 1) (pv 2) (by rfl)) (pe_and (pe_or (pe_ix ix_seq (pv 0) pe_int (fun _ _ => rfl)) (pe_one (pe_cmpR (op_eqU hu) (pe_ix ix_seq (pv 1) pe_int (fun _ _ => rfl)) (pe_ix ix_seq (pv 2) pe_int (fun _ _ => rfl)) (by rfl)))) (pe_one (pe_cmpR (op_notInD (room65 hr)) (pe_tup (pa_cons (pv 1) (pa_cons (pv 2) pa_nil))) (pe_ix ix_seq (pv 0) pe_int (fun _ _ => rfl)) (by rfl))))))), ?_⟩
    k_extra "r_L21a"
    refine q_neD hy.dp hz.dp (sh_pl np.1 np.2) (sh_pl nq.1 nq.2) ?_
    rw [eqv_pl]
    unfold allows reach at k
    by_cases e : p = q
    · rw [decide_eq_true e]
      rw [decide_eq_false (fun z => z e), Bool.false_and, Bool.false_and] at k
      exact ⟨_, rfl, s_if0 rfl (k H (Same.refl H))⟩
    · rw [decide_eq_false e]
      rw [decide_eq_true e, Bool.true_and] at k
      refine ⟨_, rfl, s_if1 rfl ?_⟩
      have fin : ∀ b : Bool, b = (Ac || decide (p.1 = q.1)) → ∀ H', Same H H' → Q (.bl (b && !decide ((p, q) ∈ rs))) H' := fun b e H' S => by
        rw [e]
        exact k H' S
      clear k
      obtain ⟨b, rfl, hb⟩ := id hy
      obtain ⟨c, rfl, hc⟩ := id hz
      k_extra "r_L21a"
      refine q_ixT (SqT.of ht) (at_of (j := 0) rfl rfl) ?_
      refine ⟨_, rfl, ?_⟩
      cases Ac with
      | true =>
        refine s_if1 rfl ?_
        refine ⟨_, rfl, s_if1 rfl ?_⟩
        k_extra "r_L21a"
        refine q_newT (by show 2 ≤ sizeLine; decide) fun u H1 n1 S1 h1 => ?_
        k_extra "r_L21a"
        refine q_ixT (SqT.of (S1 _ _ ht)) (at_of (j := 1) rfl rfl) ?_
        refine q_ninRn (p := (p, q)) ⟨u, _, _, rfl, h1, hy.mono S1, hz.mono S1⟩ ⟨np, nq⟩ (S1 _ _ hl) (RnsAt.mono S1 hx) nm ?_
        exact fin true rfl H1 S1
      | false =>
        refine s_if0 rfl ?_
        k_extra "r_L21a"
        refine q_ixT (SqT.of hb) (at_of (j := 0) rfl rfl) ?_
        k_extra "r_L21a"
        refine q_ixT (SqT.of hc) (at_of (j := 0) rfl rfl) ?_
        refine q_eq rfl ?_
        rw [show decide (V.str p.1 = V.str q.1) = decide (p.1 = q.1) from decide_eq_decide.mpr ⟨fun h => V.str.inj h, fun h => by rw [h]⟩]
        cases e1 : decide (p.1 = q.1) with
        | false =>
          refine ⟨_, rfl, s_if0 rfl ?_⟩
          exact fin false (by rw [e1]; rfl) H (Same.refl H)
        | true =>
          refine ⟨_, rfl, s_if1 rfl ?_⟩
          k_extra "r_L21a"
          refine q_newT (by show 2 ≤ sizeLine; decide) fun u H1 n1 S1 h1 => ?_
          k_extra "r_L21a"
          refine q_ixT (SqT.of (S1 _ _ ht)) (at_of (j := 1) rfl rfl) ?_
          refine q_ninRn (p := (p, q)) ⟨u, _, _, rfl, h1, hy.mono S1, hz.mono S1⟩ ⟨np, nq⟩ (S1 _ _ hl) (RnsAt.mono S1 hx) nm ?_
          exact fin true (by rw [e1]; rfl) H1 S1
def spLRules : Sp := fun vs H Q _ => ∃ pu lp xs ps, vs = [.ref pu, .ref lp] ∧ Purse H pu ∧ H lp = some (.lst xs) ∧ lp ≠ pu ∧ Pls H xs ps ∧ xs ≠ [] ∧ xs.length ≤ 100 ∧ (∀ p ∈ ps, NmP p) ∧
  ∀ t l H' A ys rs, H t = none → H l = none → t ≠ pu → l ≠ pu → H' t = some (.tup [.bl A, .ref l]) → H' l = some (.lst ys) → RnsAt H' ys rs → (∀ r ∈ rs, NmR r) → rs.length ≤ 8 → Purse H' pu → But pu H H' → Q (.ref t) H'
theorem ok__law_rules (T : Txt K mg) (L : TxtL K mg) (N : TxtN K mg) (L2' : TxtL21 K mg) : Cal P w K mg base 2 "_law_rules" spLRules := by
  refine L2'.d_rules.cal sc__law_rules (fun vs H Q E h => ?_) (fun f cdv A outer s H vs Q E hr h => ?_)
  · obtain ⟨pu, lp, xs, ps, rfl, _⟩ := h
    rfl
  · obtain ⟨pu, lp, xs, ps, rfl, hp, hl, lpu, pl, ne, lx, nm, k⟩ := h
    have hu := hr.units
    refine ⟨_, (pss_cons (ps_set (i := 2) sc__law_rules.nd rfl (.inl rfl) (pe_cmpR op_gtI (pe_c (ok__law_draw L) hr (by decide) rfl (pa_cons (pv 0) (pa_cons pe_int pa_nil))) pe_int (by rfl)))
      (pss_cons (ps_set (i := 3) sc__law_rules.nd rfl (.inl rfl) (pe_lst pa_nil))
      (pss_cons (ps_for PassesOwn.never rfl (pi_range1 rfl L.n_range (pa_cons (pe_op op_mulU (pe_ix ix_seq (pe_lst (pa_cons pe_int (pa_cons pe_int (pa_cons pe_int (pa_cons pe_int pa_nil))))) (pe_c (ok__law_draw L) hr (by decide) rfl (pa_cons (pv 0) (pa_cons pe_int pa_nil))) (fun _ _ => rfl)) (pe_callTy call_int1 (by rfl) T.n_int (by decide +kernel) (pa_cons (pe_cmpR (op_neU hu) (pv 1) (pe_lst pa_nil) (by rfl)) pa_nil))) pa_nil)) (pg_name (i := 4) sc__law_rules.nd rfl (.inl rfl))
        (pss_cons (ps_par (i := 5) (j := 6) (by rfl) sc__law_rules.nd rfl rfl (by decide) rfl rfl (pa_cons (pe_ix ix_seq (pv 1) (pe_c (ok__law_draw L) hr (by decide) rfl (pa_cons (pv 0) (pa_cons (pe_callB call_lenQ (by rfl) N.n_len (by decide +kernel) (pa_cons (pv 1) pa_nil)) pa_nil))) (fun _ _ => rfl)) (pa_cons (pe_ix ix_seq (pv 1) (pe_c (ok__law_draw L) hr (by decide) rfl (pa_cons (pv 0) (pa_cons (pe_callB call_lenQ (by rfl) N.n_len (by decide +kernel) (pa_cons (pv 1) pa_nil)) pa_nil))) (fun _ _ => rfl)) pa_nil)) (by rfl))
          (pss_one (ps_if (pt_cmpR (op_notInD (room65 hr)) (pe_tup (pa_cons (pv 5) (pa_cons (pv 6) pa_nil))) (pv 3) (by rfl)) (pss_one (ps_expr (pe_bm PySem.F.plainAttrs_list PySem.F.slot_list_append PySem.F.type_list_append mt_append (pv 3) (pa_cons (pe_tup (pa_cons (pv 5) (pa_cons (pv 6) pa_nil))) pa_nil)))) pss_nil))))
      (pss_one (ps_ret (pe_tup (pa_cons (pv 2) (pa_cons (pv 3) pa_nil)))))))), ?_⟩
    have l0 : 0 < xs.length := List.length_pos_iff.mpr ne
    have pick : ∀ n : Int, 0 ≤ n → n < xs.length → ∃ x p, atI xs n = some x ∧ p ∈ ps ∧ PlAt H x p := fun n n0 n1 => by
      obtain ⟨j, rfl⟩ : ∃ j : Nat, n = j := ⟨n.toNat, by omega⟩
      have e : xs[j]? = some xs[j] := List.getElem?_eq_getElem (by omega)
      obtain ⟨p, mp, hp⟩ := pl.get e
      exact ⟨_, p, atI_nat e, mp, hp⟩
    k_extra "r_L21a"
    refine ⟨pu, 3, rfl, hp, by decide, by decide, fun m0 H1 m00 m01 p1 b1 => ?_⟩
    k_extra "r_L21a"
    generalize decide (0 < m0) = Aw
    refine q_newL (by show 0 ≤ sizeLine; decide) fun D H2 n2 S2 h2 => ?_
    have pu2 : ∀ {b : Addr} {H' : Hp}, Purse H' pu → H' b = none → b ≠ pu := fun p e z => by obtain ⟨_, _, _, e2, _⟩ := p; rw [z, e2] at e; cases e
    have Dpu := pu2 p1 n2
    k_extra "r_L21a"
    refine q_newL (by show 4 ≤ sizeLine; decide) fun l4 H3 n3 S3 h3 => ?_
    have p3 := (p1.mono S2).mono S3
    have b3 : But pu H H3 := b1.trans ((But.of S2).trans (But.of S3))
    k_extra "r_L21a"
    refine ⟨pu, 4, rfl, p3, by decide, by decide, fun m1 H4 m10 m11 p4 b4 => ?_⟩
    obtain ⟨g, eg, g0, g8⟩ : ∃ g : Int, atI [V.int 0, V.int 1, V.int 3, V.int 8] m1 = some (.int g) ∧ 0 ≤ g ∧ g ≤ 8 := by
      obtain ⟨j, rfl⟩ : ∃ j : Nat, m1 = j := ⟨m1.toNat, by omega⟩
      have hj : j < 4 := by omega
      rcases j with _ | _ | _ | _ | j
      · exact ⟨0, rfl, by decide, by decide⟩
      · exact ⟨1, rfl, by decide, by decide⟩
      · exact ⟨3, rfl, by decide, by decide⟩
      · exact ⟨8, rfl, by decide, by decide⟩
      · omega
    refine q_ixL (SqL.of (b4 _ _ (pu2 (p1.mono S2) n3) h3)) eg ?_
    have lx0 := xs.length
    have b14 := b3.trans b4
    have hl4 := b14 _ _ lpu hl
    have h24 := b4 _ _ Dpu (S3 _ _ h2)
    have N4 := NL.pu hp b14
    clear h3 n3 h2 eg b4 S3 p3 b3
    k_extra "r_L21a"
    refine q_newL (by show 0 ≤ sizeLine; decide) fun l5 H5 n5 S5 h5 => ?_
    have pl5 := (pl.nl N4).mono S5
    refine q_neD (.lst (SqL.of (S5 _ _ hl4)) pl5.dps) (.lst (SqL.of h5) .nil) (sh_pls nm) (sh_pls (ps := []) (fun _ m => by cases m)) ?_
    rw [show PyData.eqv (.list (ps.map dPl)) (.list []) = false by
      rw [PyData.eqv]
      refine eqvAll_len _ _ ?_
      rw [List.length_map, ← pl.len]
      exact fun z => ne (List.length_eq_zero_iff.mp z)]
    k_extra "r_L21a"
    refine .inr ⟨_, rfl, ?_⟩
    refine q_mulR (by decide) ?_
    rw [show g * (if (!false) = true then (1 : Int) else 0) = g by simp]
    have p5 := p4.mono S5
    have b5 := b14.trans (But.of S5)
    have h25 := S5 _ _ h24
    have nD : H D = none := b1.free Dpu n2
    clear b14 hl4 h24 N4 h5 n5 S5 p4 pl5 S2 n2 p1 b1
    k_extra "r_L21a"
    refine ⟨g, rfl, by omega, by omega, q_forR (lo := 0) (n := g.toNat) (fun i σ H' => ∃ (v4 v5 v6 : Option V) (ys : List V) (rs : List Rn), σ = [some (.ref pu), some (.ref lp), some (.bl Aw), some (.ref D), v4, v5, v6] ∧ Purse H' pu ∧ But pu H H' ∧ H' D = some (.lst ys) ∧ RnsAt H' ys rs ∧ (∀ r ∈ rs, NmR r) ∧ rs.length ≤ i) ⟨_, _, _, _, [], rfl, p5, b5, h25, .nil, (fun _ m => by cases m), Nat.le_refl _⟩ ?_ ?_⟩
    · rintro i σ H6 hi ⟨v4, v5, v6, ys, rs, rfl, p6, b6, h6, q6, nr, lr⟩
      have hl6 := b6 _ _ lpu hl
      k_extra "r_L21a"
      refine q_lenL (SqL.of hl6) ?_
      k_extra "r_L21a"
      refine ⟨pu, _, rfl, p6, by omega, by omega, fun n H7 n0 n1 p7 b7 => ?_⟩
      obtain ⟨x, p, ex, mp, hx⟩ := pick n n0 n1
      have hl7 := b7 _ _ lpu hl6
      refine q_ixL (SqL.of hl7) ex ?_
      k_extra "r_L21a"
      refine q_lenL (SqL.of hl7) ?_
      k_extra "r_L21a"
      refine ⟨pu, _, rfl, p7, by omega, by omega, fun m H8 m0 m1 p8 b8 => ?_⟩
      obtain ⟨y, r, ey, mr, hy⟩ := pick m m0 m1
      have b08 := b6.trans (b7.trans b8)
      refine q_ixL (SqL.of (b8 _ _ lpu hl7)) ey ?_
      k_extra "r_L21a"
      refine ⟨_, _, rfl, ?_⟩
      k_extra "r_L21a"
      have hx8 := hx.nl (NL.pu hp b08)
      have hy8 := hy.nl (NL.pu hp b08)
      have h28 := b8 _ _ Dpu (b7 _ _ Dpu h6)
      have q8 : RnsAt H8 ys rs := RnsAt.tkN (TKeep.trans (let ⟨_, _, _, e, _⟩ := p6; TKeep.but e (fun _ z => nomatch z) b7) (let ⟨_, _, _, e, _⟩ := p7; TKeep.but e (fun _ z => nomatch z) b8)) q6
      clear b6 b7 b8 hl6 hl7 p6 p7 ex ey hx hy h6 q6
      refine q_newT (by show 2 ≤ sizeLine; decide) fun t1 H9 n9 S9 h9 => ?_
      k_extra "r_L21a"
      refine q_ninRn (p := (p, r)) ⟨t1, x, y, rfl, h9, hx8.mono S9, hy8.mono S9⟩ ⟨nm p mp, nm r mr⟩ (S9 _ _ h28) (RnsAt.mono S9 q8) nr ?_
      have ly : ys.length = rs.length := Paired.length q8
      cases decide ((p, r) ∈ rs) with
      | true =>
        refine q_test (s_if0 rfl ?_)
        k_extra "r_L21a"
        exact ⟨_, _, _, ys, rs, rfl, p8.mono S9, b08.trans (But.of S9), S9 _ _ h28, RnsAt.mono S9 q8, nr, by omega⟩
      | false =>
        refine q_test (s_if1 rfl ?_)
        k_extra "r_L21a"
        refine ⟨.inl ⟨rfl, _, SqL.of (S9 _ _ h28)⟩, ?_⟩
        k_extra "r_L21a"
        refine q_newT (by show 2 ≤ sizeLine; decide) fun t2 Ha na Sa ha => ?_
        k_extra "r_L21a"
        have h2a := Sa _ _ (S9 _ _ h28)
        refine q_append h2a (szlt (by omega)) fun Hb bb hb => ?_
        k_extra "r_L21a"
        have Nb : TKeep Ha Hb := TKeep.but h2a (fun _ z => nomatch z) bb
        have S8a := S9.trans Sa
        refine ⟨_, _, _, _, rs ++ [(p, r)], rfl, ?_, ?_, hb, Bt.Paired.snoc (RnsAt.tkN Nb (RnsAt.mono S8a q8)) (RnAt.tkN Nb ⟨t2, x, y, rfl, ha, hx8.mono S8a, hy8.mono S8a⟩), ?_, by simp; omega⟩
        · obtain ⟨a, b, c, e, h⟩ := p8
          exact ⟨a, b, c, bb _ _ Dpu.symm (S8a _ _ e), h⟩
        · exact fun b o hb e => bb b o (fun z => by rw [z, nD] at e; cases e) (S8a _ _ (b08 b o hb e))
        · intro z mz
          rcases List.mem_append.mp mz with mz | mz
          · exact nr z mz
          · rw [List.mem_singleton.mp mz]
            exact ⟨nm p mp, nm r mr⟩
    · rintro σ H6 ⟨v4, v5, v6, ys, rs, rfl, p6, b6, h6, q6, nr, lr⟩
      k_extra "r_L21a"
      refine q_newT (by show 2 ≤ sizeLine; decide) fun t H7 n7 S7 h7 => ?_
      exact k t D H7 Aw ys rs (b6.free (pu2 p6 n7) n7) nD (pu2 p6 n7) Dpu h7 (S7 _ _ h6) (RnsAt.mono S7 q6) nr (by omega) (p6.mono S7) (b6.trans (But.of S7))
end
end Bt
namespace Bt
open PySem PySem.Spec PyProof.Rows L2 LamX NdefX
open PySem.W (dataLt dataLe alike AllAlike Sortable)
theorem words144_ : True := by
  k_with "s_L21b" => first
    | ((with_reducible refine' s_var ?hv ?_); (case hv => exact rfl))
    | with_reducible first
      | refine' s_c ?_ | refine' s_op ?_ | refine' s_asg ?_ | refine' s_gname ?_ | refine' s_seq ?_ | refine' s_next ?_ | refine' s_ret ?_ | refine' s_ifS ?_ | refine' s_drop ?_ | refine' s_retN ?_ | refine' s_test ?_ | refine' s_B ?_ | refine' q_test ?_ | refine' s_int ?_ | refine' s_cons ?_ | refine' s_nil ?_ | refine' s_call ?_ | refine' s_CB ?_ | refine' s_andT ?_ | refine' s_orT ?_ | refine' s_notT ?_ | refine' s_andV ?_ | refine' s_orV ?_ | refine' s_notV ?_ | refine' s_ifV ?_ | refine' s_chain ?_ | refine' s_sl ?_ | refine' s_noPart ?_ | refine' s_part ?_ | refine' s_gsub ?_ | refine' s_BM ?_ | refine' s_tup ?_ | refine' s_lst ?_ | refine' q_add ?_ | refine' q_sub ?_ | refine' q_lt ?_ | refine' q_le ?_ | refine' q_gt ?_ | refine' q_ge ?_ | refine' s_ifT ?_ | refine' s_ifF ?_ | refine' s_yes ?_ | refine' s_iStr ?_ | refine' s_M0 ?_ | refine' s_for ?_ | refine' s_rng1 ?_ | refine' s_par ?_ | refine' s_gcons ?_ | refine' s_gnil ?_ | refine' s_iList ?_ | refine' s_iEnum ?_ | refine' s_raise1 ?_
      | (refine' q_mod ?hm ?_; (case hm => first | omega | decide))
    | dsimp only
  k_with "r_L21b" => repeat (k_extra "s_L21b")
  trivial
/-! ### the law's helpers beside can_be_one -/
open NS
theorem allows_spec (A : Bool) (rs : List Rn) (r : Rn) : allows A (cn A rs) r = allows A rs r := by
  unfold allows
  cases e : reach A r with
  | false => rfl
  | true =>
    rw [Bool.true_and, Bool.true_and]
    congr 1
    exact decide_eq_decide.mpr ⟨fun h => (cn_mem.mp h).1, fun h => cn_mem.mpr ⟨h, e⟩⟩
theorem cn_congr {A : Bool} {rs ss : List Rn} (h : ∀ r, r ∈ rs ↔ r ∈ ss) : cn A rs = cn A ss := (cn_asn _ _).eq (cn_asn _ _) fun r => by rw [cn_mem, cn_mem, h]
theorem joins_spec (A : Bool) (rs : List Rn) (D D' : Dem) : joins A (cn A rs) D D' = joins A rs D D' := by
  unfold joins joinB
  rw [allows_spec, allows_spec]
theorem joins_comm {A : Bool} {B : List Rn} {D D' : Dem} (h : D.Ok) (h' : D'.Ok) : joins A B D D' = joins A B D' D := by
  unfold joins
  by_cases e : D.way = D'.way
  · rw [if_pos e, if_pos e.symm]
  · rw [if_neg e, if_neg (Ne.symm e)]
    have ne : ("go" : Str) ≠ "come" := by decide
    rcases h.2.2.2 with e1 | e1 <;> rcases h'.2.2.2 with e2 | e2
    · exact absurd (e1.trans e2.symm) e
    · rw [if_pos e1, if_neg (by rw [e2]; exact ne.symm)]
    · rw [if_neg (by rw [e1]; exact ne.symm), if_pos e2]
    · exact absurd (e1.trans e2.symm) e
theorem str_dec (a b : Str) : decide (V.str a = V.str b) = decide (a = b) := decide_eq_decide.mpr ⟨fun h => V.str.inj h, fun h => by rw [h]⟩
section
variable {X : Cx} {k : Nat} {CR : Addr} {e e2 e3 : Expr} {ta tb tc : TE} {p pos q1 : Pos}
theorem pe_can (T : Txt X.K X.mg) (N : TxtN X.K X.mg) (I : TxtI X.K X.mg) (R : TxtR X.K X.mg) (RC : RulesC X.K X.mg CR) (RM : RulesM X.K CR) (M : TxtM X.K X.mg) (hsub : PySem.W.subIn X.K (.ref CR) (.type "str") = some false) (CF : CanF X.K X.mg) (hr : Room k X.A) (hk : 8 ≤ k) (h1 : PE X e ta) (h2 : PE X e2 tb) (h3 : PE X e3 tc) (hg : Gl X "can_be_one" := by rfl)
    (hall : (backToKw pos (keywordEach [⟨some "rules", e3, q1⟩] X.env)).all (·.1.isSome) = true := by rfl) (hks : (backToKw pos (keywordEach [⟨some "rules", e3, q1⟩] X.env)).filterMap (·.1) = (["rules"] : List Str) := by rfl)
    (he : starEach [e, e2] X.env = (false, eval e X.env) :: starEach [e2] X.env := by rfl) (he2 : starEach [e2] X.env = (false, eval e2 X.env) :: starEach [] X.env := by rfl)
    (hpl : ((backTo pos (starEach [e, e2] X.env)).any (·.1) || (backToKw pos (keywordEach [⟨some "rules", e3, q1⟩] X.env)).any (·.1.isNone)) = false := by rfl) :
    PE X (.Call (.Name "can_be_one" p) [e, e2] [⟨some "rules", e3, q1⟩] pos) (tCallN 2 1 (spCan X.prog X.w CR) gCV E0 (tCons ta (tCons tb tNil)) (tCons tc tNil)) := by
  obtain ⟨f, fd, ds, m, kp, F, b, _⟩ := CF.ex
  exact pe_callN (ok_can_be_one T N I R RC RM M hsub F) (hr.mono hk) hg m kp b L2.pass0 (pa_cons h1 (pa_cons h2 pa_nil he2) he) (pk_cons h3 pk_nil) hall hks (by decide) he hpl
end
section
variable {P : Program} {w : World} {K : PySem.W.Frag} {mg : Str → Option Value} {base : Heap} {CR CI CD : Addr}
def spJoins : Sp := fun vs H Q _ => ∃ x y b D D' A rs, vs = [x, y, b] ∧ DemAt H x D ∧ D.Ok ∧ DemAt H y D' ∧ D'.Ok ∧ SpecAt H b A rs ∧ (∀ r ∈ rs, NmR r) ∧ ∀ H', Same H H' → Q (.bl (joins A rs D D')) H'
theorem ok__law_joins (M : TxtM K mg) (L : TxtL21 K mg) : Cal P w K mg base 2 "_law_joins" spJoins := by
  refine L.d_joins.cal sc__law_joins (fun vs H Q E h => ?_) (fun f cdv A outer s H vs Q E hr h => ?_)
  · obtain ⟨x, y, b, D, D', A, rs, rfl, _⟩ := h
    rfl
  · obtain ⟨x, y, bk, D, D', Ac, rs, rfl, hx, ok, hy, ok', hb, nr, k⟩ := h
    refine ⟨_, (C8.pss_cut (ps_if (PW.pt (pw_or (pt_cmpR (op_eqU hr.units) (pe_ix ix_seq (pv 0) pe_int (fun _ _ => rfl)) (pe_ix ix_seq (pv 1) pe_int (fun _ _ => rfl)) (by rfl)) (pw_or1 (pt_cmpR op_geI (pe_callB (call_max2 rfl) (by rfl) M.n_max (by decide +kernel) (pa_cons (pe_ix ix_seq (pv 0) pe_int (fun _ _ => rfl)) (pa_cons (pe_ix ix_seq (pv 1) pe_int (fun _ _ => rfl)) pa_nil))) (pe_callB (call_min2 rfl) (by rfl) M.n_min (by decide +kernel) (pa_cons (pe_ix ix_seq (pv 0) pe_int (fun _ _ => rfl)) (pa_cons (pe_ix ix_seq (pv 1) pe_int (fun _ _ => rfl)) pa_nil))) (by rfl))))) (pss_one (ps_ret pe_bl)) pss_nil)
      (pss_cons (ps_if (pt_cmpR (op_eqU hr.units) (pe_ix ix_seq (pv 0) pe_int (fun _ _ => rfl)) pe_str (by rfl)) (pss_one (ps_ret (pe_c (ok__law_allowed L) hr (by decide) rfl (pa_cons (pv 2) (pa_cons (pe_ix ix_seq (pv 0) pe_int (fun _ _ => rfl)) (pa_cons (pe_ix ix_seq (pv 1) pe_int (fun _ _ => rfl)) pa_nil)))))) pss_nil)
      (pss_one (ps_ret (pe_c (ok__law_allowed L) hr (by decide) rfl (pa_cons (pv 2) (pa_cons (pe_ix ix_seq (pv 1) pe_int (fun _ _ => rfl)) (pa_cons (pe_ix ix_seq (pv 0) pe_int (fun _ _ => rfl)) pa_nil)))))))), ?_⟩
    obtain ⟨a, u, rfl, ha, hu⟩ := id hx
    obtain ⟨b, v, rfl, hb', hv⟩ := id hy
    unfold joins joinB at k
    refine q_cut8 (M := fun σ H' => σ = [some (.ref a), some (.ref b), some bk] ∧ H = H' ∧ D.way ≠ D'.way ∧ max D.i D'.i < min D.j D'.j) ?_ ?_
    · k_extra "r_L21b"
      refine q_ixT (SqT.of ha) (at_of (j := 3) rfl rfl) ?_
      k_extra "r_L21b"
      refine q_ixT (SqT.of hb') (at_of (j := 3) rfl rfl) ?_
      refine q_eq rfl ?_
      rw [str_dec]
      by_cases e : D.way = D'.way
      · rw [if_pos e] at k
        refine q_test (s_if1 (decide_eq_true e) ?_)
        k_extra "r_L21b"
        exact k H (Same.refl H)
      · rw [if_neg e] at k
        refine q_test (s_if0 (decide_eq_false e) ?_)
        k_extra "r_L21b"
        refine q_ixT (SqT.of ha) (at_of (j := 1) rfl rfl) ?_
        k_extra "r_L21b"
        refine q_ixT (SqT.of hb') (at_of (j := 1) rfl rfl) ?_
        k_extra "r_L21b"
        refine ⟨_, _, rfl, ?_⟩
        rw [show (if D'.i > D.i then D'.i else D.i) = max D.i D'.i by split <;> omega]
        k_extra "r_L21b"
        refine q_ixT (SqT.of ha) (at_of (j := 2) rfl rfl) ?_
        k_extra "r_L21b"
        refine q_ixT (SqT.of hb') (at_of (j := 2) rfl rfl) ?_
        k_extra "r_L21b"
        refine ⟨_, _, rfl, ?_⟩
        rw [show (if D'.j < D.j then D'.j else D.j) = min D.j D'.j by split <;> omega]
        k_extra "r_L21b"
        by_cases e2 : max D.i D'.i < min D.j D'.j
        · refine s_if0 (decide_eq_false (by omega)) ?_
          k_extra "r_L21b"
          exact ⟨rfl, rfl, e, e2⟩
        · refine s_if1 (decide_eq_true (by omega)) ?_
          k_extra "r_L21b"
          rw [show max D'.i D.i = max D.i D'.i by omega, show min D'.j D.j = min D.j D'.j by omega, decide_eq_false e2, Bool.false_and, Bool.false_and, ite_self] at k
          exact k H (Same.refl H)
    rintro σ H0 ⟨rfl, rfl, e, e2⟩
    rw [if_neg e, show max D'.i D.i = max D.i D'.i by omega, show min D'.j D.j = min D.j D'.j by omega, decide_eq_true e2, Bool.true_and, Bool.true_and] at k
    k_extra "r_L21b"
    refine q_ixT (SqT.of ha) (at_of (j := 3) rfl rfl) ?_
    k_extra "r_L21b"
    refine q_eq rfl ?_
    rw [str_dec]
    by_cases e3 : D.way = "go"
    · rw [if_pos e3] at k
      refine q_test (s_if1 (decide_eq_true e3) ?_)
      k_extra "r_L21b"
      refine q_ixT (SqT.of ha) (at_of (j := 0) rfl rfl) ?_
      k_extra "r_L21b"
      refine q_ixT (SqT.of hb') (at_of (j := 0) rfl rfl) ?_
      k_extra "r_L21b"
      exact ⟨bk, u, v, Ac, rs, D.pl, D'.pl, rfl, hb, nr, hu, hv, ok.1, ok'.1, k⟩
    · rw [if_neg e3] at k
      refine q_test (s_if0 (decide_eq_false e3) ?_)
      k_extra "r_L21b"
      refine q_ixT (SqT.of hb') (at_of (j := 0) rfl rfl) ?_
      k_extra "r_L21b"
      refine q_ixT (SqT.of ha) (at_of (j := 0) rfl rfl) ?_
      k_extra "r_L21b"
      exact ⟨bk, v, u, Ac, rs, D'.pl, D.pl, rfl, hb, nr, hv, hu, ok'.1, ok.1, k⟩
def spMade (P : Program) (w : World) (CR : Addr) : Sp := fun vs H Q _ => ∃ b A rs, vs = [b] ∧ SpecAt H b A rs ∧ (∀ r ∈ rs, NmR r) ∧ rs.length < 100 ∧ ∀ r H', Same H H' → RulO P w CR H' r A (cn A rs) → Q r H'
theorem ok__law_rules_made (T : Txt K mg) (N : TxtN K mg) (I : TxtI K mg) (R : TxtR K mg) (RC : RulesC K mg CR) (L : TxtL21 K mg) : Cal P w K mg base 7 "_law_rules_made" (spMade P w CR) := by
  refine L.d_made.cal sc__law_rules_made (fun vs H Q E h => ?_) (fun f cdv A outer s H vs Q E hr h => ?_)
  · obtain ⟨b, A, rs, rfl, _⟩ := h
    rfl
  · obtain ⟨b, Ac, rs, rfl, ⟨t, l, xs, rfl, ht, hl, hx⟩, nr, lr, k⟩ := h
    refine ⟨_, (C8.pss_cut (ps_if (PW.pt (pw_and (pt_val (pe_ix ix_seq (pv 0) pe_int (fun _ _ => rfl))) (pw_and1 (pt_cmpR (op_eqU hr.units) (pe_ix ix_seq (pv 0) pe_int (fun _ _ => rfl)) (pe_lst pa_nil) (by rfl))))) (pss_one (ps_ret pe_non)) pss_nil)
      (pss_one (ps_ret (pe_rulesAB T N I R RC hr (by decide) (pe_ix ix_seq (pv 0) pe_int (fun _ _ => rfl)) (pe_callTy call_listOf (by rfl) T.n_list (by decide +kernel) (pa_cons (pe_ix ix_seq (pv 0) pe_int (fun _ _ => rfl)) pa_nil)))))), ?_⟩
    have lx : xs.length = rs.length := Paired.length hx
    refine q_cut8 (M := fun σ H' => σ = [some (.ref t)] ∧ Same H H') ?_ ?_
    · k_extra "r_L21b"
      refine q_ixT (SqT.of ht) (at_of (j := 0) rfl rfl) ?_
      refine q_test ?_
      cases Ac with
      | false =>
        refine s_if0 rfl ?_
        k_extra "r_L21b"
        exact ⟨rfl, Same.refl H⟩
      | true =>
        refine s_if1 rfl ?_
        k_extra "r_L21b"
        refine q_ixT (SqT.of ht) (at_of (j := 1) rfl rfl) ?_
        k_extra "r_L21b"
        refine q_newL (by show 0 ≤ sizeLine; decide) fun l2 H2 n2 S2 h2 => ?_
        refine q_eqD (.lst (SqL.of (S2 _ _ hl)) (RnsAt.mono S2 hx).dps) (.lst (SqL.of h2) .nil) (sh_rns nr) (sh_rns (rs := []) (fun _ m => by cases m)) ?_
        rw [show PyData.eqv (.list (rs.map dRn)) (.list []) = decide (rs = []) from eqv_rns rs []]
        by_cases e : rs = []
        · refine q_test (s_if1 (decide_eq_true e) ?_)
          k_extra "r_L21b"
          subst e
          exact k .non H2 S2 (.inl ⟨rfl, rfl, rfl⟩)
        · refine q_test (s_if0 (decide_eq_false e) ?_)
          k_extra "r_L21b"
          exact ⟨rfl, S2⟩
    rintro σ H1 ⟨rfl, S1⟩
    k_extra "r_L21b"
    refine s_makeK ?_
    k_extra "r_L21b"
    refine q_ixT (SqT.of (S1 _ _ ht)) (at_of (j := 0) rfl rfl) ?_
    k_extra "r_L21b"
    refine q_ixT (SqT.of (S1 _ _ ht)) (at_of (j := 1) rfl rfl) ?_
    k_extra "r_L21b"
    refine q_listL (SqL.of (S1 _ _ hl)) fun l2 H2 n2 S2 h2 => ?_
    k_extra "r_L21b"
    refine ⟨rfl, rfl, ?_⟩
    refine q_rules (rs := rs) (.inr ⟨l2, _, rfl, h2, RnsAt.mono (S1.trans S2) hx⟩) nr (by omega) fun x H3 d nx nd S3 st => ?_
    exact k _ H3 (S1.trans (S2.trans S3)) (.inr ⟨x, d, rfl, st⟩)
end
end Bt
namespace Bt
open PySem PySem.Spec PyProof.Rows L2
/-! ### try: .. except A as e: .. except B as e: .. -/
section
variable {X : Cx} {x1 x2 n : Str} {c1 c2 : Value} {i : Nat} {body su1 su2 : List Stmt} {b1 b2 : Stmt} {p1 p2 q1 q2 pos : Pos} {tb : WX → TS} {ts1 ts2 : Addr → Value → Option Addr → TS} {Wout : WX}
abbrev SuiteOk (X : Cx) (b : Stmt) (su : List Stmt) (ts : Addr → Value → Option Addr → TS) : Prop :=
  ∀ (a : Addr) (oe : Obj) (cls : Value) (d : Option Addr) (pn : List (Addr × Obj)), Zc cls d oe → (∃ vs, oe.data = .fields vs) → PSs (X.suite a ((a, oe) :: pn)) (b :: su) (ts a cls d)
theorem ps_try_as2 (hs : X.stack = X.env :: X.outer) (hf : X.env.frame = some X.env.locals) (hN : X.N.Nodup) (hi : X.N[i]? = some n) (hl : X.env.kindOf n = some .local) (nm1 : Names X x1 c1) (nm2 : Names X x2 c2) (tk : Takes X Wout)
    (hb : ∀ (W : WX) (pn : List (Addr × Obj)) (xe : Value → Shared → Prop), Takes (X.tr pn xe) W → PassesOwn (model X.prog X.w) X.A X.env xe → PSs (X.tr pn xe) body (tb W)) (s1 : SuiteOk X b1 su1 ts1) (s2 : SuiteOk X b2 su2 ts2) :
    PS X (.Try body [.ExceptHandler (some (.Name x1 p1)) (some n) (b1 :: su1) q1, .ExceptHandler (some (.Name x2 p2)) (some n) (b2 :: su2) q2] [] [] pos) (fun D σ H => tb (wAs X.K c1 i ts1 (wAs X.K c2 i ts2 Wout D) D) D σ H) := by
  refine ⟨fun pins s σ H D I h => wpAny_Try_except ?_⟩
  have okX := I.ok
  have frames : X.A.frames = some (X.env :: X.outer) := by rw [okX.frames, hs]
  have loc : Loc X.env.scope n := .inl hl
  have run := (hb (wAs X.K c1 i ts1 (wAs X.K c2 i ts2 Wout D) D) (X.pn ++ pins) (fun ev t1 => wpAny (model X.prog X.w) X.A (noteFrame ev X.env) (fun _ t2 => wpAny (model X.prog X.w) X.A (setFlight ev none) (fun _ t3 =>
    wpAny (model X.prog X.w) X.A (handleBy ev X.env [.ExceptHandler (some (.Name x1 p1)) (some n) (b1 :: su1) q1, .ExceptHandler (some (.Name x2 p2)) (some n) (b2 :: su2) q2]) (SP X pins D) X.xe t3) X.xe t2) X.xe t1) (fun u sx xx => ?caught) PassesOwn.looking).run [] s σ H D (I.toTry _) h
  case caught =>
    obtain ⟨ea, Bx, sI, _, σe, He, cls, d, rfl, Je, notb, up0, skyE, fresh, osE, barE, wish⟩ := xx
    have J0 : Inv X pins σe He sI := Je.ofTry okX
    have sky0 : Sky Bx (X.env :: X.outer) ea (Zc cls d) X.env.locals sx.heap := by rw [← hs]; exact skyE
    show wpAny (model X.prog X.w) X.A (noteFrame (.ref ea) X.env) _ _ _
    refine Sky.land Zc.steady frames hf sky0 fun h3 flight up3 => ?_
    have J3 : Inv X pins σe He { sx with heap := h3 } := J0.landed notb flight.1 (up0.trans up3) osE barE
    obtain ⟨o3, v3, at3, z3, d3⟩ := flight.there
    have out : ea ∉ frs (X.env :: X.outer) := fun hm => by
      obtain ⟨_, o', e', nf⟩ := flight.2.2.1.mem hm
      rw [at3] at e'
      cases e'
      exact nf _ d3
    have nLoc : ea ≠ X.env.locals := fun z => out (List.mem_filterMap.mpr ⟨X.env, List.mem_cons_self, by rw [hf, z]⟩)
    have nFs : ea ∉ X.fs := fun hm => by
      obtain ⟨ev, he, q⟩ := List.mem_filterMap.mp hm
      exact out (List.mem_filterMap.mpr ⟨ev, List.mem_cons_of_mem _ he, q⟩)
    have S3 := J3.suite at3 d3 fresh nLoc nFs
    have tyE : PySem.W.Looks (model X.prog X.w) h3 (typeOf (.ref ea)) cls := fun A Q E s kk q => wpAny_typeOf_ref (kk _ _ at3) (by rw [z3.1]; exact q)
    have clause : ∀ {y : Str} {c : Value} {b : Stmt} {su : List Stmt} {np qp : Pos} {ts : Addr → Value → Option Addr → TS} {W2 : WX} {rest : List ExceptHandler}, Names X y c → SuiteOk X b su ts → wAs X.K c i ts W2 D cls d σe He →
        (W2 cls d σe He → wpAny (model X.prog X.w) X.A (handleBy (.ref ea) X.env rest) (SP X pins D) X.xe { sx with heap := h3 }) →
        wpAny (model X.prog X.w) X.A (handleBy (.ref ea) X.env (.ExceptHandler (some (.Name y np)) (some n) (b :: su) qp :: rest)) (SP X pins D) X.xe { sx with heap := h3 } := by
      intro y c b su np qp ts W2 rest nm sOk w next
      obtain ⟨ans, hm, yes, no⟩ := w
      refine wpAny_handleBy_cons (codeAny_handlers_test ?_) (by intro q; cases q)
      have matches_ := PySem.W.exm_one (M := model X.prog X.w) J3.kIn tyE hm
      have name : ∀ {Q E : Value → Shared → Prop}, Q c { sx with heap := h3 } → wpAny (model X.prog X.w) (X.A.mark (some (.ref ea))) (eval (.Name y np) X.env) Q E { sx with heap := h3 } := fun {Q E} q => by
        obtain ⟨g1, g2, g3 | ⟨g3, g4, g5⟩⟩ := nm
        · exact ld_glob (X := X.suite ea ((ea, o3) :: (X.pn ++ pins))) S3 g1 g3 q g2
        · exact ld_blt (X := X.suite ea ((ea, o3) :: (X.pn ++ pins))) S3 g1 g3 g4 q g5 g2
      refine name (matches_.here ?_)
      cases ans with
      | false => exact next (no rfl)
      | true =>
        refine codeAny_handlers_suite_as (HandSPX.lands_againZ flight fun h4 fl4 up4 => ?_)
        have J4 : Inv X pins σe He { sx with heap := h4 } := J0.landed notb fl4.1 ((up0.trans up3).trans up4) osE barE
        obtain ⟨o4, v4, at4, z4, d4⟩ := fl4.there
        have S4 := J4.suite at4 d4 fresh nLoc nFs
        refine store_ok (X := X.suite ea ((ea, o4) :: (X.pn ++ pins))) (v := .ref ea) S4 hN hi loc rfl (fun s5 S5 => ?_) (.inr hl)
        refine wpAny_mono ((sOk ea o4 cls d (X.pn ++ pins) z4 ⟨_, d4⟩).run [] s5 _ He _ S5 (yes rfl ea fresh)) (fun fl s6 sp => ?_) (fun _ _ z => False.elim z)
        have leave : ∀ {σ6 : L2.St} {H6 : Hp} {Q : Shared → Prop}, Inv (X.suite ea ((ea, o4) :: (X.pn ++ pins))) [] σ6 H6 s6 → (∀ s7, Inv X pins (σ6.set i none) H6 s7 → Q s7) →
            wpAny (model X.prog X.w) X.A (do bindName X.env n .none; unbindBehindTheSuite X.env n qp) (fun _ s7 => Q s7) X.xe s6 := fun S6 q => gone_ok (S6.unsuite okX) hN hi hl q
        cases fl with
        | next => obtain ⟨σ6, H6, S6, q6⟩ := sp; exact leave S6 fun _ J7 => ⟨_, _, J7, q6⟩
        | brk => obtain ⟨σ6, H6, S6, q6⟩ := sp; exact leave S6 fun _ J7 => ⟨_, _, J7, q6⟩
        | cont => obtain ⟨σ6, H6, S6, q6⟩ := sp; exact leave S6 fun _ J7 => ⟨_, _, J7, q6⟩
        | ret u => obtain ⟨v6, σ6, H6, S6, r6, q6⟩ := sp; exact leave S6 fun _ J7 => ⟨_, _, _, J7, r6, q6⟩
    refine clause nm1 s1 wish fun wish2 => clause nm2 s2 wish2 fun last => ?_
    refine wpAny_handleBy_nil ?_
    obtain ⟨_, _, _, oz, vz, Tz, _, _, atz, zz, dz, f1, _⟩ := id flight
    unfold PySem.passOn
    refine wpAny_bind (wpAny_field atz dz f1 ?_)
    rw [if_neg (show ¬ ((Value.ref Tz == Value.none) = true) from by simp)]
    have thrown : wpAny (model X.prog X.w) X.A (setFlight (.ref ea) X.env.frame) (fun _ t4 => wpAny (model X.prog X.w) X.A (throw (.ref ea) : Sem Flow) (SP X pins D) X.xe t4) X.xe { sx with heap := h3 } := by
      rw [hf]
      refine HandSPX.setFlight_upZ flight fun h4 in4 up4 => wpAny_throw (tk _ _ ?_)
      exact ⟨ea, Bx, sI, pins, σe, He, cls, d, rfl, J0, notb, (up0.trans up3).trans up4, .inr (.inr (by rw [hs]; exact in4)), fresh, osE, barE, last⟩
    first
      | exact wpAny_bind (wpAny_pure (wpAny_bind thrown))
      | exact wpAny_bind thrown
  refine wpAny_mono run (fun fl s1 sp => ?_) fun _ _ z => z
  cases fl with
  | next => obtain ⟨σ', H', J', q⟩ := sp; exact wpAny_execs_nil ⟨σ', H', J'.ofTry okX, q⟩
  | brk => obtain ⟨σ', H', J', q⟩ := sp; exact ⟨σ', H', J'.ofTry okX, q⟩
  | cont => obtain ⟨σ', H', J', q⟩ := sp; exact ⟨σ', H', J'.ofTry okX, q⟩
  | ret u => obtain ⟨v, σ', H', J', r, q⟩ := sp; exact ⟨v, σ', H', J'.ofTry okX, r, q⟩
end
end Bt
namespace Bt
open PySem PySem.Spec PyProof.Rows L2 LamX NdefX
open PySem.W (dataLt dataLe alike AllAlike Sortable)
theorem words145_ : True := by
  k_with "s_L21c" => first
    | ((with_reducible refine' s_var ?hv ?_); (case hv => exact rfl))
    | with_reducible first
      | refine' s_c ?_ | refine' s_op ?_ | refine' s_asg ?_ | refine' s_gname ?_ | refine' s_seq ?_ | refine' s_next ?_ | refine' s_ret ?_ | refine' s_ifS ?_ | refine' s_drop ?_ | refine' s_retN ?_ | refine' s_test ?_ | refine' s_B ?_ | refine' q_test ?_ | refine' s_int ?_ | refine' s_cons ?_ | refine' s_nil ?_ | refine' s_call ?_ | refine' s_CB ?_ | refine' s_andT ?_ | refine' s_orT ?_ | refine' s_notT ?_ | refine' s_andV ?_ | refine' s_orV ?_ | refine' s_notV ?_ | refine' s_ifV ?_ | refine' s_chain ?_ | refine' s_sl ?_ | refine' s_noPart ?_ | refine' s_part ?_ | refine' s_gsub ?_ | refine' s_BM ?_ | refine' s_tup ?_ | refine' s_lst ?_ | refine' q_add ?_ | refine' q_sub ?_ | refine' q_lt ?_ | refine' q_le ?_ | refine' q_gt ?_ | refine' q_ge ?_ | refine' s_ifT ?_ | refine' s_ifF ?_ | refine' s_yes ?_ | refine' s_iStr ?_ | refine' s_M0 ?_ | refine' s_for ?_ | refine' s_rng1 ?_ | refine' s_par ?_ | refine' s_gcons ?_ | refine' s_gnil ?_ | refine' s_iList ?_ | refine' s_iEnum ?_ | refine' s_raise1 ?_
      | (refine' q_mod ?hm ?_; (case hm => first | omega | decide))
    | dsimp only
  k_with "r_L21c" => repeat (k_extra "s_L21c")
  trivial
/-! ### _law_demand, _law_raised, _law_right of demands -/
open NS
section
variable {X : Cx} {k : Nat} {CR CI CD : Addr} {e e2 e3 : Expr} {ta tb tc : TE} {p pos q1 : Pos}
theorem pe_can0 (T : Txt X.K X.mg) (N : TxtN X.K X.mg) (I : TxtI X.K X.mg) (R : TxtR X.K X.mg) (RC : RulesC X.K X.mg CR) (RM : RulesM X.K CR) (M : TxtM X.K X.mg) (hsub : PySem.W.subIn X.K (.ref CR) (.type "str") = some false) (CF : CanF X.K X.mg) (hr : Room k X.A) (hk : 8 ≤ k) (h1 : PE X e ta) (h2 : PE X e2 tb) (hg : Gl X "can_be_one" := by rfl)
    (he : starEach [e, e2] X.env = (false, eval e X.env) :: starEach [e2] X.env := by rfl) (he2 : starEach [e2] X.env = (false, eval e2 X.env) :: starEach [] X.env := by rfl) (hpl : (backTo pos (starEach [e2] X.env)).any (·.1) = false := by rfl) :
    PE X (.Call (.Name "can_be_one" p) [e, e2] [] pos) (tCall (spCan X.prog X.w CR) [.non] E0 (tCons ta (tCons tb tNil))) := by
  obtain ⟨f, fd, ds, m, kp, F, _, hd, b⟩ := CF.ex
  exact pe_call (ok_can_be_one T N I R RC RM M hsub F) (hr.mono hk) hg m kp b hd L2.pass0 (pa_cons h1 (pa_cons h2 pa_nil he2) he) (by decide) he hpl
theorem pe_canS {W : WX} (T : Txt X.K X.mg) (N : TxtN X.K X.mg) (I : TxtI X.K X.mg) (R : TxtR X.K X.mg) (RC : RulesC X.K X.mg CR) (RM : RulesM X.K CR) (M : TxtM X.K X.mg) (hsub : PySem.W.subIn X.K (.ref CR) (.type "str") = some false) (CF : CanF X.K X.mg) (XD : ExcF X.K X.mg "InvalidDemand" "value" CD) (XR : ExcF X.K X.mg "InvalidRules" "value" CI) (hr : Room k X.A) (hk : 8 ≤ k) (tk : Takes X W) (h1 : PE X e ta) (h2 : PE X e2 tb) (h3 : PE X e3 tc) (hg : Gl X "can_be_one" := by rfl)
    (hall : (backToKw pos (keywordEach [⟨some "rules", e3, q1⟩] X.env)).all (·.1.isSome) = true := by rfl) (hks : (backToKw pos (keywordEach [⟨some "rules", e3, q1⟩] X.env)).filterMap (·.1) = (["rules"] : List Str) := by rfl)
    (he : starEach [e, e2] X.env = (false, eval e X.env) :: starEach [e2] X.env := by rfl) (he2 : starEach [e2] X.env = (false, eval e2 X.env) :: starEach [] X.env := by rfl)
    (hpl : ((backTo pos (starEach [e, e2] X.env)).any (·.1) || (backToKw pos (keywordEach [⟨some "rules", e3, q1⟩] X.env)).any (·.1.isNone)) = false := by rfl) :
    PE X (.Call (.Name "can_be_one" p) [e, e2] [⟨some "rules", e3, q1⟩] pos) (tCallNS 2 1 (spCanX X.K X.prog X.w CR CD CI) gCV (fun σ => WE W σ) (tCons ta (tCons tb tNil)) (tCons tc tNil)) := by
  obtain ⟨f, fd, ds, m, kp, F, b, _⟩ := CF.ex
  exact pe_callNS (ok_can_be_oneX T N I R RC RM M hsub XD XR F) (hr.mono hk) hg m kp b (fun σ => passAt tk σ) (pa_cons h1 (pa_cons h2 pa_nil he2) he) (pk_cons h3 pk_nil) hall hks (by decide) he hpl
end
section
variable {P : Program} {w : World} {K : PySem.W.Frag} {mg : Str → Option Value} {base : Heap} {CR CI CD : Addr}
def spDemand : Sp := fun vs H Q _ => ∃ pu lp xs ps, vs = [.ref pu, .ref lp] ∧ Purse H pu ∧ H lp = some (.lst xs) ∧ lp ≠ pu ∧ Pls H xs ps ∧ xs ≠ [] ∧ xs.length ≤ 100 ∧ (∀ p ∈ ps, NmP p) ∧ ∀ x H' D, DemAt H' x D → D.Ok → Purse H' pu → But pu H H' → Q x H'
theorem ok__law_demand (T : Txt K mg) (L0 : TxtL K mg) (N : TxtN K mg) (L : TxtL21 K mg) : Cal P w K mg base 2 "_law_demand" spDemand := by
  refine L.d_demand.cal sc__law_demand (fun vs H Q E h => ?_) (fun f cdv A outer s H vs Q E hr h => ?_)
  · obtain ⟨pu, lp, xs, ps, rfl, _⟩ := h
    rfl
  · obtain ⟨pu, lp, xs, ps, rfl, hp, hl, lpu, pl, ne, lx, nm, k⟩ := h
    have hu := hr.units
    refine ⟨_, (pss_cons (ps_set (i := 2) sc__law_demand.nd rfl (.inl rfl) (pe_ix ix_seq (pe_lst (pa_cons (pe_c (ok__law_draw L0) hr (by decide) rfl (pa_cons (pv 0) (pa_cons pe_int pa_nil))) (pa_cons (pe_op op_powW pe_int pe_int) pa_nil))) (pe_callTy call_int1 (by rfl) T.n_int (by decide +kernel) (pa_cons (pe_cmpR (op_eqU hu) (pe_c (ok__law_draw L0) hr (by decide) rfl (pa_cons (pv 0) (pa_cons pe_int pa_nil))) pe_int (by rfl)) pa_nil)) (fun _ _ => rfl)))
      (pss_cons (ps_set (i := 3) sc__law_demand.nd rfl (.inl rfl) (pe_ix ix_seq (pe_lst (pa_cons pe_int (pa_cons pe_int (pa_cons pe_int (pa_cons pe_int (pa_cons (pe_op op_powW pe_int pe_int) pa_nil)))))) (pe_c (ok__law_draw L0) hr (by decide) rfl (pa_cons (pv 0) (pa_cons pe_int pa_nil))) (fun _ _ => rfl)))
      (pss_one (ps_ret (pe_tup (pa_cons (pe_ix ix_seq (pv 1) (pe_c (ok__law_draw L0) hr (by decide) rfl (pa_cons (pv 0) (pa_cons (pe_callB call_lenQ (by rfl) N.n_len (by decide +kernel) (pa_cons (pv 1) pa_nil)) pa_nil))) (fun _ _ => rfl)) (pa_cons (pv 2) (pa_cons (pe_op op_addU (pv 2) (pv 3)) (pa_cons (pe_ix ix_seq (pe_lst (pa_cons pe_str (pa_cons pe_str pa_nil))) (pe_c (ok__law_draw L0) hr (by decide) rfl (pa_cons (pv 0) (pa_cons pe_int pa_nil))) (fun _ _ => rfl)) pa_nil))))))))), ?_⟩
    have l0 : 0 < xs.length := List.length_pos_iff.mpr ne
    have pu2 : ∀ {b : Addr} {H' : Hp}, Purse H' pu → H' b = none → b ≠ pu := fun p e z => by obtain ⟨_, _, _, e2, _⟩ := p; rw [z, e2] at e; cases e
    k_extra "r_L21c"
    refine ⟨pu, 10, rfl, hp, by decide, by decide, fun b0 H1 b00 b01 p1 c1 => ?_⟩
    k_extra "r_L21c"
    refine ⟨_, _, rfl, rfl, ⟨by decide, by decide +kernel⟩, ?_⟩
    k_extra "r_L21c"
    refine q_newL (by show 2 ≤ sizeLine; decide) fun l1 H2 n2 S2 h2 => ?_
    k_extra "r_L21c"
    refine ⟨pu, 9, rfl, p1.mono S2, by decide, by decide, fun m0 H3 m00 m01 p3 c3 => ?_⟩
    k_extra "r_L21c"
    refine q_eq rfl ?_
    k_extra "r_L21c"
    refine .inr ⟨_, rfl, ?_⟩
    have l1p := pu2 p1 n2
    obtain ⟨bg, ebg, bg0⟩ : ∃ bg : Int, atI [V.int b0, V.int (10 ^ (38 : Int).toNat)] (if decide (V.int m0 = V.int 8) = true then 1 else 0) = some (.int bg) ∧ 0 ≤ bg := by
      split
      · exact ⟨_, rfl, Int.pow_nonneg (by decide)⟩
      · exact ⟨_, rfl, b00⟩
    refine q_ixL (SqL.of (c3 _ _ l1p h2)) ebg ?_
    k_extra "r_L21c"
    have b13 := c1.trans ((But.of S2).trans c3)
    refine ⟨_, _, rfl, rfl, ⟨by decide, by decide +kernel⟩, ?_⟩
    k_extra "r_L21c"
    refine q_newL (by show 5 ≤ sizeLine; decide) fun l4 H4 n4 S4 h4 => ?_
    k_extra "r_L21c"
    refine ⟨pu, 5, rfl, p3.mono S4, by decide, by decide, fun m1 H5 m10 m11 p5 c5 => ?_⟩
    have l4p := pu2 p3 n4
    obtain ⟨ln, eln, ln0⟩ : ∃ ln : Int, atI [V.int 1, V.int 1, V.int 2, V.int 3, V.int (10 ^ (37 : Int).toNat)] m1 = some (.int ln) ∧ 0 < ln := by
      obtain ⟨j, rfl⟩ : ∃ j : Nat, m1 = j := ⟨m1.toNat, by omega⟩
      have hj : j < 5 := by omega
      rcases j with _ | _ | _ | _ | _ | j
      · exact ⟨1, rfl, by decide⟩
      · exact ⟨1, rfl, by decide⟩
      · exact ⟨2, rfl, by decide⟩
      · exact ⟨3, rfl, by decide⟩
      · exact ⟨_, rfl, Int.pow_pos (by decide)⟩
      · omega
    refine q_ixL (SqL.of (c5 _ _ l4p h4)) eln ?_
    have b05 := b13.trans ((But.of S4).trans c5)
    have hl5 := b05 _ _ lpu hl
    k_extra "r_L21c"
    refine q_lenL (SqL.of hl5) ?_
    k_extra "r_L21c"
    refine ⟨pu, _, rfl, p5, by omega, by omega, fun n H6 n0 n1 p6 c6 => ?_⟩
    obtain ⟨j, rfl⟩ : ∃ j : Nat, n = j := ⟨n.toNat, by omega⟩
    have ej : xs[j]? = some xs[j] := List.getElem?_eq_getElem (by omega)
    obtain ⟨q, mq, hq⟩ := pl.get ej
    have hl6 := c6 _ _ lpu hl5
    refine q_ixL (SqL.of hl6) (atI_nat ej) ?_
    k_extra "r_L21c"
    refine q_newL (by show 2 ≤ sizeLine; decide) fun l7 H7 n7 S7 h7 => ?_
    k_extra "r_L21c"
    refine ⟨pu, 2, rfl, p6.mono S7, by decide, by decide, fun m2 H8 m20 m21 p8 c8 => ?_⟩
    have l7p := pu2 p6 n7
    obtain ⟨wy, ewy, owy⟩ : ∃ wy : Str, atI [V.str "go", V.str "come"] m2 = some (.str wy) ∧ (wy = "go" ∨ wy = "come") := by
      rcases (show m2 = 0 ∨ m2 = 1 by omega) with rfl | rfl
      · exact ⟨"go", rfl, .inl rfl⟩
      · exact ⟨"come", rfl, .inr rfl⟩
    refine q_ixL (SqL.of (c8 _ _ l7p h7)) ewy ?_
    k_extra "r_L21c"
    have b08 := b05.trans (c6.trans ((But.of S7).trans c8))
    refine q_newT (by show 4 ≤ sizeLine; decide) fun t9 H9 n9 S9 h9 => ?_
    exact k _ H9 ⟨q, bg, bg + ln, wy⟩ ⟨t9, _, rfl, h9, (hq.nl (NL.pu hp b08)).mono S9⟩ ⟨nm q mq, bg0, by show bg < bg + ln; omega, owy⟩ (p8.mono S9) (b08.trans (But.of S9))
def tagB (b c : Bool) (x y r : V) : List V := if b = true then (if c = true then [.str "rules", r] else [.str "demand", y]) else [.str "demand", x]
def spDRaised (K : PySem.W.Frag) (P : Program) (w : World) (CR : Addr) : Sp := fun vs H Q _ => ∃ x y r b c, vs = [x, y, r] ∧ DmK K P w CR H x b ∧ (b = true → DmK K P w CR H y c) ∧ (b = true → c = true → r ≠ .non ∧ ∃ T, Pl K H r T) ∧ ∀ D H', H D = none → Same H H' → H' D = some (.lst (tagB b c x y r)) → Q (.ref D) H'
theorem ok__law_raised (T : Txt K mg) (N : TxtN K mg) (I : TxtI K mg) (R : TxtR K mg) (RC : RulesC K mg CR) (RM : RulesM K CR) (M : TxtM K mg) (hsub : PySem.W.subIn K (.ref CR) (.type "str") = some false) (CF : CanF K mg) (XD : ExcF K mg "InvalidDemand" "value" CD) (XR : ExcF K mg "InvalidRules" "value" CI) (nRD : PySem.W.exmOne K (.ref CI) (.ref CD) = some false) (L : TxtL21 K mg) : Cal P w K mg base 9 "_law_raised" (spDRaised K P w CR) := by
  refine L.d_raised.cal sc__law_raised (fun vs H Q E h => ?_) (fun fn cdv A outer s H vs Q E hr h => ?_)
  · obtain ⟨x, y, r, b, c, rfl, _⟩ := h
    rfl
  · obtain ⟨x, y, r, b, c, rfl, hx, hy, hr', k⟩ := h
    refine ⟨_, (pss_cons (ps_set (i := 3) sc__law_raised.nd rfl (.inl rfl) (pe_lst (pa_cons pe_str pa_nil)))
      (pss_cons (ps_try_as2 (i := 4) (tb := fun W => tDrop (tCallNS 2 1 (spCanX K P w CR CD CI) gCV (fun σ => WE W σ) (tCons (tVar 0) (tCons (tVar 1) tNil)) (tCons (tVar 2) tNil)))
        (ts1 := fun a cls d => tAsg (tLst (tCons (tC (.str "demand")) (tCons (tXf a cls d CD "value" (tVar 4)) tNil))) (gName 3)) (ts2 := fun a cls d => tAsg (tLst (tCons (tC (.str "rules")) (tCons (tXf a cls d CI "value" (tVar 4)) tNil))) (gName 3)) (Wout := fun _ _ _ _ => False)
        rfl rfl sc__law_raised.nd rfl rfl ⟨rfl, by decide, Or.inl XD.g⟩ ⟨rfl, by decide, Or.inl XR.g⟩ L2.takes0
        (fun W pn xe tk _ => pss_one (ps_expr (by exact (pe_canS T N I R RC RM M hsub CF XD XR hr (by decide) tk (pv 0) (pv 1) (pv 2)))))
        (fun a oe cls d pn hz hf => pss_one (ps_set (i := 3) sc__law_raised.nd rfl (Or.inl rfl) (by exact pe_lst (pa_cons pe_str (pa_cons (pe_xf XD.xf XD.no hz hf (pv 4)) pa_nil)))))
        (fun a oe cls d pn hz hf => pss_one (ps_set (i := 3) sc__law_raised.nd rfl (Or.inl rfl) (by exact pe_lst (pa_cons pe_str (pa_cons (pe_xf XR.xf XR.no hz hf (pv 4)) pa_nil))))))
      (pss_one (ps_ret (pv 3))))), ?_⟩
    k_extra "r_L21c"
    refine q_newL (by show 1 ≤ sizeLine; decide) fun l0 H1 n1 S1 h1 => ?_
    k_extra "r_L21c"
    refine s_callNS ?_
    k_extra "r_L21c"
    refine ⟨rfl, rfl, x, y, r, b, c, rfl, hx.mono S1, fun e => (hy e).mono S1, ?_⟩
    have dem : ∀ z, tagB b c x y r = [.str "demand", z] → ∀ H2 d2, Same H1 H2 → H1 d2 = none → H2 d2 = some (.xd [("value", z)]) → True := fun _ _ _ _ _ _ _ => trivial
    cases b with
    | false =>
      refine .inl ⟨rfl, fun H2 d2 S2 nd hd => ⟨true, XD.te, fun _ a0 ha0 => ?_, fun q => Bool.noConfusion q⟩⟩
      k_extra "r_L21c"
      refine ⟨_, rfl, rfl, rfl, d2, _, x, rfl, hd, (by simp [List.lookup]), ?_⟩
      k_extra "r_L21c"
      refine q_newL (by show 2 ≤ sizeLine; decide) fun l1 H3 n3 S3 h3 => ?_
      k_extra "r_L21c"
      exact k l1 H3 ((S1.trans S2).free n3) (S1.trans (S2.trans S3)) h3
    | true =>
      cases c with
      | false =>
        refine .inr (.inl ⟨rfl, rfl, fun H2 d2 S2 nd hd => ⟨true, XD.te, fun _ a0 ha0 => ?_, fun q => Bool.noConfusion q⟩⟩)
        k_extra "r_L21c"
        refine ⟨_, rfl, rfl, rfl, d2, _, y, rfl, hd, (by simp [List.lookup]), ?_⟩
        k_extra "r_L21c"
        refine q_newL (by show 2 ≤ sizeLine; decide) fun l1 H3 n3 S3 h3 => ?_
        k_extra "r_L21c"
        exact k l1 H3 ((S1.trans S2).free n3) (S1.trans (S2.trans S3)) h3
      | true =>
        obtain ⟨nn, ty, ht⟩ := hr' rfl rfl
        refine .inr (.inr ⟨rfl, rfl, nn, ty, ht.mono S1, fun H2 d2 S2 nd hd => ⟨false, nRD, fun q => Bool.noConfusion q, fun _ => ⟨true, XR.te, fun _ a0 ha0 => ?_, fun q => Bool.noConfusion q⟩⟩⟩)
        k_extra "r_L21c"
        refine ⟨_, rfl, rfl, rfl, d2, _, r, rfl, hd, (by simp [List.lookup]), ?_⟩
        k_extra "r_L21c"
        refine q_newL (by show 2 ≤ sizeLine; decide) fun l1 H3 n3 S3 h3 => ?_
        k_extra "r_L21c"
        exact k l1 H3 ((S1.trans S2).free n3) (S1.trans (S2.trans S3)) h3
end
end Bt
namespace Bt
open PySem PySem.Spec PyProof.Rows L2 LamX NdefX
open PySem.W (dataLt dataLe alike AllAlike Sortable)
theorem words146_ : True := by
  k_with "s_L21d" => first
    | ((with_reducible refine' s_var ?hv ?_); (case hv => exact rfl))
    | with_reducible first
      | refine' s_c ?_ | refine' s_op ?_ | refine' s_asg ?_ | refine' s_gname ?_ | refine' s_seq ?_ | refine' s_next ?_ | refine' s_ret ?_ | refine' s_ifS ?_ | refine' s_drop ?_ | refine' s_retN ?_ | refine' s_test ?_ | refine' s_B ?_ | refine' q_test ?_ | refine' s_int ?_ | refine' s_cons ?_ | refine' s_nil ?_ | refine' s_call ?_ | refine' s_CB ?_ | refine' s_andT ?_ | refine' s_orT ?_ | refine' s_notT ?_ | refine' s_andV ?_ | refine' s_orV ?_ | refine' s_notV ?_ | refine' s_ifV ?_ | refine' s_chain ?_ | refine' s_sl ?_ | refine' s_noPart ?_ | refine' s_part ?_ | refine' s_gsub ?_ | refine' s_BM ?_ | refine' s_tup ?_ | refine' s_lst ?_ | refine' q_add ?_ | refine' q_sub ?_ | refine' q_lt ?_ | refine' q_le ?_ | refine' q_gt ?_ | refine' q_ge ?_ | refine' s_ifT ?_ | refine' s_ifF ?_ | refine' s_yes ?_ | refine' s_iStr ?_ | refine' s_M0 ?_ | refine' s_for ?_ | refine' s_rng1 ?_ | refine' s_par ?_ | refine' s_gcons ?_ | refine' s_gnil ?_ | refine' s_iList ?_ | refine' s_iEnum ?_ | refine' s_raise1 ?_
      | (refine' q_mod ?hm ?_; (case hm => first | omega | decide))
    | dsimp only
  k_with "r_L21d" => repeat (k_extra "s_L21d")
  trivial
/-! ### _law_right of demands -/
open NS
section
variable {P : Program} {w : World} {K : PySem.W.Frag} {mg : Str → Option Value} {base : Heap} {CR CI CD : Addr}
def spDRight (P : Program) (w : World) (CR : Addr) : Sp := fun vs H Q _ => ∃ x y b D D' A rs, vs = [x, y, b] ∧ DemAt H x D ∧ D.Ok ∧ DemAt H y D' ∧ D'.Ok ∧ SpecAt H b A rs ∧ (∀ r ∈ rs, NmR r) ∧ rs.length < 50 ∧ ∀ H', Same H H' → Q (.bl true) H'
theorem ok__law_right (T : Txt K mg) (N : TxtN K mg) (I : TxtI K mg) (R : TxtR K mg) (RC : RulesC K mg CR) (RM : RulesM K CR) (M : TxtM K mg) (hsub : PySem.W.subIn K (.ref CR) (.type "str") = some false) (CF : CanF K mg) (L : TxtL21 K mg) : Cal P w K mg base 9 "_law_right" (spDRight P w CR) := by
  refine L.d_right.cal sc__law_right (fun vs H Q E h => ?_) (fun f cdv A outer s H vs Q E hr h => ?_)
  · obtain ⟨x, y, b, D, D', A, rs, rfl, _⟩ := h
    rfl
  · obtain ⟨x, y, bk, D, D', Ac, rs, rfl, hx, ok, hy, ok', hb, nr, lr, k⟩ := h
    refine ⟨_, (pss_cons (ps_set (i := 3) sc__law_right.nd rfl (.inl rfl) (pe_c (ok__law_joins M L) hr (by decide) rfl (pa_cons (pv 0) (pa_cons (pv 1) (pa_cons (pv 2) pa_nil)))))
      (C8.pss_cut (ps_for PassesOwn.never rfl (pi_list (pe_lst (pa_cons (pe_tup (pa_cons (pv 0) (pa_cons (pv 1) pa_nil))) (pa_cons (pe_tup (pa_cons (pv 1) (pa_cons (pv 0) pa_nil))) pa_nil)))) (pg_name (i := 4) sc__law_right.nd rfl (.inl rfl))
        (pss_cons (ps_set (i := 5) sc__law_right.nd rfl (.inl rfl) (pe_can T N I R RC RM M hsub CF hr (by decide) (pe_ix ix_seq (pv 4) pe_int (fun _ _ => rfl)) (pe_ix ix_seq (pv 4) pe_int (fun _ _ => rfl)) (pe_c (ok__law_rules_made T N I R RC L) hr (by decide) rfl (pa_cons (pv 2) pa_nil))))
        (pss_one (ps_if (PW.pt (pw_or (pt_not (pt_val (pe_callB call_isi (by rfl) T.n_isinstance (by decide +kernel) (pa_cons (pv 5) (pa_cons (pe_bltn (v := .ty "bool") (by rfl) T.n_bool (by decide +kernel) rfl) pa_nil))))) (pw_or1 (pt_cmpR (op_neU hr.units) (pv 5) (pv 3) (by rfl))))) (pss_one (ps_ret pe_bl)) pss_nil))))
      (C8.pss_cut (ps_if (PW.pt (pw_and (pt_val (pe_ix ix_seq (pv 2) pe_int (fun _ _ => rfl))) (pw_and1 (pt_cmpR (op_eqU hr.units) (pe_ix ix_seq (pv 2) pe_int (fun _ _ => rfl)) (pe_lst pa_nil) (by rfl))))) (pss_one (ps_ret (pe_cmpR (op_eqU hr.units) (pe_can0 T N I R RC RM M hsub CF hr (by decide) (pv 0) (pv 1)) (pv 3) (by rfl)))) pss_nil)
      (pss_one (ps_ret (pe_cmpR (op_eqU hr.units) (pe_can T N I R RC RM M hsub CF hr (by decide) (pv 0) (pv 1) (pe_rulesAB T N I R RC hr (by decide) (pe_ix ix_seq (pv 2) pe_int (fun _ _ => rfl)) (pe_op op_addU (pe_ix ix_seq (pv 2) pe_int (fun _ _ => rfl)) (pe_ix ix_seq (pv 2) pe_int (fun _ _ => rfl))))) (pv 3) (by rfl))))))), ?_⟩
    k_extra "r_L21d"
    refine ⟨x, y, bk, D, D', Ac, rs, rfl, hx, ok, hy, ok', hb, nr, fun H1 S1 => ?_⟩
    k_extra "r_L21d"
    have cm := joins_comm (A := Ac) (B := rs) ok ok'
    obtain ⟨J, eJ⟩ : ∃ J, J = joins Ac rs D D' := ⟨_, rfl⟩
    rw [← eJ]
    refine q_cut8 (M := fun σ H' => ∃ v4 v5 : Option V, σ = [some x, some y, some bk, some (.bl J), v4, v5] ∧ Same H H') ?_ ?_
    · k_extra "r_L21d"
      refine q_newT (by show 2 ≤ sizeLine; decide) fun t1 H2 n2 S2 h2 => ?_
      k_extra "r_L21d"
      refine q_newT (by show 2 ≤ sizeLine; decide) fun t2 H3 n3 S3 h3 => ?_
      k_extra "r_L21d"
      refine q_newL (by show 2 ≤ sizeLine; decide) fun l4 H4 n4 S4 h4 => ?_
      have S04 := S1.trans (S2.trans (S3.trans S4))
      have ht1 := (S3.trans S4) _ _ h2
      have ht2 := S4 _ _ h3
      refine ⟨l4, rfl, ⟨_, SqL.of h4⟩, q_forL (K := K) (a := l4) (fun i σ H' => ∃ v4 v5 : Option V, σ = [some x, some y, some bk, some (.bl J), v4, v5] ∧ Same H4 H') ⟨_, _, rfl, Same.refl _⟩ (fun i σ H' _ ⟨_, _, _, S⟩ => SqL.of (S _ _ h4)) ?_ ?_⟩
      · rintro i v σ H5 hv ⟨v4, v5, rfl, S5⟩
        have S05 := S04.trans S5
        obtain ⟨t, z1, z2, D1, D2, rfl, ht, hz1, hz2, o1, o2, ej⟩ : ∃ t z1 z2 D1 D2, v = .ref t ∧ H5 t = some (.tup [z1, z2]) ∧ DemAt H5 z1 D1 ∧ DemAt H5 z2 D2 ∧ D1.Ok ∧ D2.Ok ∧ joins Ac rs D1 D2 = J := by
          have m1 := List.mem_of_getElem? hv
          simp only [List.mem_cons, List.not_mem_nil, or_false] at m1
          rcases m1 with rfl | rfl
          · exact ⟨t1, x, y, D, D', rfl, S5 _ _ ht1, hx.mono S05, hy.mono S05, ok, ok', eJ.symm⟩
          · exact ⟨t2, y, x, D', D, rfl, S5 _ _ ht2, hy.mono S05, hx.mono S05, ok', ok, by rw [eJ, cm]⟩
        k_extra "r_L21d"
        refine s_callN ?_
        k_extra "r_L21d"
        refine q_ixT (SqT.of ht) (at_of (j := 0) rfl rfl) ?_
        k_extra "r_L21d"
        refine q_ixT (SqT.of ht) (at_of (j := 1) rfl rfl) ?_
        k_extra "r_L21d"
        refine ⟨bk, Ac, rs, rfl, hb.mono S05, nr, by omega, fun r H6 S6 ro => ?_⟩
        k_extra "r_L21d"
        refine ⟨rfl, rfl, z1, z2, r, Ac, _, D1, D2, rfl, hz1.mono S6, o1, hz2.mono S6, o2, ro, fun H7 S7 => ?_⟩
        rw [joins_spec, ej]
        k_extra "r_L21d"
        refine q_isi Pl.bl .bl ?_
        k_extra "r_L21d"
        refine s_if0 rfl ?_
        k_extra "r_L21d"
        refine q_ne rfl ?_
        rw [decide_eq_true rfl]
        refine q_test (s_if0 rfl ?_)
        k_extra "r_L21d"
        exact ⟨_, _, rfl, S5.trans (S6.trans S7)⟩
      · rintro σ H5 ⟨v4, v5, rfl, S5⟩
        k_extra "r_L21d"
        exact ⟨_, _, rfl, S04.trans S5⟩
    rintro σ H2 ⟨v4, v5, rfl, S2⟩
    have hx2 := hx.mono S2
    have hy2 := hy.mono S2
    obtain ⟨t, l, xs, rfl, ht, hl, hrn⟩ := id (hb.mono S2)
    have lx : xs.length = rs.length := Paired.length hrn
    refine q_cut8 (M := fun σ H' => σ = [some x, some y, some (.ref t), some (.bl J), v4, v5] ∧ Same H2 H') ?_ ?_
    · k_extra "r_L21d"
      refine q_ixT (SqT.of ht) (at_of (j := 0) rfl rfl) ?_
      refine q_test ?_
      cases Ac with
      | false =>
        refine s_if0 rfl ?_
        k_extra "r_L21d"
        exact ⟨rfl, Same.refl _⟩
      | true =>
        refine s_if1 rfl ?_
        k_extra "r_L21d"
        refine q_ixT (SqT.of ht) (at_of (j := 1) rfl rfl) ?_
        k_extra "r_L21d"
        refine q_newL (by show 0 ≤ sizeLine; decide) fun l2 H3 n3 S3 h3 => ?_
        refine q_eqD (.lst (SqL.of (S3 _ _ hl)) (RnsAt.mono S3 hrn).dps) (.lst (SqL.of h3) .nil) (sh_rns nr) (sh_rns (rs := []) (fun _ m => by cases m)) ?_
        rw [show PyData.eqv (.list (rs.map dRn)) (.list []) = decide (rs = []) from eqv_rns rs []]
        by_cases e : rs = []
        · refine q_test (s_if1 (decide_eq_true e) ?_)
          subst e
          k_extra "r_L21d"
          refine ⟨x, y, .non, true, _, D, D', rfl, hx2.mono S3, ok, hy2.mono S3, ok', .inl ⟨rfl, rfl, rfl⟩, fun H4 S4 => ?_⟩
          rw [joins_spec, ← eJ]
          k_extra "r_L21d"
          refine q_eq rfl ?_
          rw [decide_eq_true rfl]
          exact k H4 (S2.trans (S3.trans S4))
        · refine q_test (s_if0 (decide_eq_false e) ?_)
          k_extra "r_L21d"
          exact ⟨rfl, S3⟩
    rintro σ H3 ⟨rfl, S3⟩
    have S03 := S2.trans S3
    k_extra "r_L21d"
    refine s_callN ?_
    k_extra "r_L21d"
    refine s_makeK ?_
    k_extra "r_L21d"
    refine q_ixT (SqT.of (S3 _ _ ht)) (at_of (j := 0) rfl rfl) ?_
    k_extra "r_L21d"
    refine q_ixT (SqT.of (S3 _ _ ht)) (at_of (j := 1) rfl rfl) ?_
    k_extra "r_L21d"
    refine q_ixT (SqT.of (S3 _ _ ht)) (at_of (j := 1) rfl rfl) ?_
    refine q_cat (S3 _ _ hl) (S3 _ _ hl) (sz (by omega)) fun l4 H4 n4 S4 h4 => ?_
    have S34 := S3.trans S4
    k_extra "r_L21d"
    refine ⟨rfl, rfl, ?_⟩
    refine q_rules (rs := rs ++ rs) (.inr ⟨l4, _, rfl, h4, Bt.Paired.app (RnsAt.mono S34 hrn) (RnsAt.mono S34 hrn)⟩) (fun r m => (List.mem_append.mp m).elim (nr r) (nr r)) (by rw [List.length_append]; omega) fun z H5 d nx nd S5 st => ?_
    have S05 := S03.trans (S4.trans S5)
    k_extra "r_L21d"
    refine ⟨rfl, rfl, x, y, .ref z, Ac, _, D, D', rfl, hx.mono S05, ok, hy.mono S05, ok', .inr ⟨z, d, rfl, st⟩, fun H6 S6 => ?_⟩
    rw [cn_congr (A := Ac) (rs := rs ++ rs) (ss := rs) (fun r => by rw [List.mem_append, or_self]), joins_spec, ← eJ]
    k_extra "r_L21d"
    refine q_eq rfl ?_
    rw [decide_eq_true rfl]
    exact k H6 (S05.trans S6)
end
end Bt
namespace Bt
open PySem PySem.Spec PyProof.Rows L2 LamX NdefX
open PySem.W (dataLt dataLe alike AllAlike Sortable)
theorem words147_ : True := by
  k_with "s_L21e" => first
    | ((with_reducible refine' s_var ?hv ?_); (case hv => exact rfl))
    | with_reducible first
      | refine' s_c ?_ | refine' s_op ?_ | refine' s_asg ?_ | refine' s_gname ?_ | refine' s_seq ?_ | refine' s_next ?_ | refine' s_ret ?_ | refine' s_ifS ?_ | refine' s_drop ?_ | refine' s_retN ?_ | refine' s_test ?_ | refine' s_B ?_ | refine' q_test ?_ | refine' s_int ?_ | refine' s_cons ?_ | refine' s_nil ?_ | refine' s_call ?_ | refine' s_CB ?_ | refine' s_andT ?_ | refine' s_orT ?_ | refine' s_notT ?_ | refine' s_andV ?_ | refine' s_orV ?_ | refine' s_notV ?_ | refine' s_ifV ?_ | refine' s_chain ?_ | refine' s_sl ?_ | refine' s_noPart ?_ | refine' s_part ?_ | refine' s_gsub ?_ | refine' s_BM ?_ | refine' s_tup ?_ | refine' s_lst ?_ | refine' q_add ?_ | refine' q_sub ?_ | refine' q_lt ?_ | refine' q_le ?_ | refine' q_gt ?_ | refine' q_ge ?_ | refine' s_ifT ?_ | refine' s_ifF ?_ | refine' s_yes ?_ | refine' s_iStr ?_ | refine' s_M0 ?_ | refine' s_for ?_ | refine' s_rng1 ?_ | refine' s_par ?_ | refine' s_gcons ?_ | refine' s_gnil ?_ | refine' s_iList ?_ | refine' s_iEnum ?_ | refine' s_raise1 ?_
      | (refine' q_mod ?hm ?_; (case hm => first | omega | decide))
    | dsimp only
  k_with "r_L21e" => repeat (k_extra "s_L21e")
  trivial
/-! ### _law_bad of demands -/
open NS
def SelfV (K : PySem.W.Frag) (H : Hp) (x : V) : Prop := EqV K H 0 x x true
theorem SelfV.ref {K : PySem.W.Frag} {H : Hp} (a : Addr) : SelfV K H (.ref a) := .same a
theorem SelfV.str {K : PySem.W.Frag} {H : Hp} {z : Str} (h : PyData.strOk z = true) : SelfV K H (.str z) := by
  have sh : SeqAt.shaped (.str z) = true := by unfold SeqAt.shaped; simp [PyData.canLay0, PyData.depth, h]
  have := EqV.data (K := K) (H := H) (n := 0) (.str z) (.str z) sh sh
  rw [SeqAt.eqv_refl _ (SeqAt.canLay_of_shaped sh)] at this
  exact this
theorem SelfV.non {K : PySem.W.Frag} {H : Hp} : SelfV K H .non := by
  have sh : SeqAt.shaped .none = true := by decide
  have := EqV.data (K := K) (H := H) (n := 0) .non .non sh sh
  rw [SeqAt.eqv_refl _ (SeqAt.canLay_of_shaped sh)] at this
  exact this
theorem SelfV.bl {K : PySem.W.Frag} {H : Hp} {b : Bool} : SelfV K H (.bl b) := by
  have sh : SeqAt.shaped (.bool b) = true := by cases b <;> decide
  have := EqV.data (K := K) (H := H) (n := 0) (.bl b) (.bl b) sh sh
  rw [SeqAt.eqv_refl _ (SeqAt.canLay_of_shaped sh)] at this
  exact this
theorem SelfV.int {K : PySem.W.Frag} {H : Hp} {i : Int} : SelfV K H (.int i) := by
  have sh : SeqAt.shaped (.int i) = true := by unfold SeqAt.shaped; simp [PyData.canLay0, PyData.depth]
  have := EqV.data (K := K) (H := H) (n := 0) (.int i) (.int i) sh sh
  rw [SeqAt.eqv_refl _ (SeqAt.canLay_of_shaped sh)] at this
  exact this
mutual
theorem EqV.up {K : PySem.W.Frag} {H H' : Hp} (S : Same H H') : ∀ (n : Nat) (x y : V) (b : Bool), EqV K H n x y b → ∀ m, n ≤ m → EqV K H' m x y b
  | _, _, _, _, .same a, _, _ => .same a
  | _, _, _, _, .data h1 h2 h3 h4, _, _ => .data (Dp.mono S h1) (Dp.mono S h2) h3 h4
  | _, _, _, _, .lst ne h1 h2 h3, m, hm => by
    obtain ⟨m', rfl⟩ : ∃ m', m = m' + 1 := ⟨m - 1, by omega⟩
    exact .lst ne (SqL_monoN (ext_same S) h1) (SqL_monoN (ext_same S) h2) (EqVs.up S _ _ _ _ h3 m' (by omega))
theorem EqVs.up {K : PySem.W.Frag} {H H' : Hp} (S : Same H H') : ∀ (n : Nat) (xs ys : List V) (bs : List Bool), EqVs K H n xs ys bs → ∀ m, n ≤ m → EqVs K H' m xs ys bs
  | _, _, _, _, .nil, _, _ => .nil
  | _, _, _, _, .cons h hs, m, hm => .cons (EqV.up S _ _ _ _ h m hm) (EqVs.up S _ _ _ _ hs m hm)
end
theorem SelfV.mono {K : PySem.W.Frag} {H H' : Hp} {x : V} (S : Same H H') (h : SelfV K H x) : SelfV K H' x := EqV.up S _ _ _ _ h 0 (Nat.le_refl _)
theorem dp_any {K : PySem.W.Frag} {H H' : Hp} {x : V} {d : PyData} (n : ∀ a, x ≠ .ref a) (h : Dp K H x d) : Dp K H' x d := by
  cases h with
  | non => exact .non
  | bl b => exact .bl b
  | int i => exact .int i
  | str z => exact .str z
  | lst h _ => exact absurd rfl (n _)
  | tup h _ => exact absurd rfl (n _)
theorem SelfV.any {K : PySem.W.Frag} {H H' : Hp} {x : V} (h : SelfV K H x) : SelfV K H' x := by
  have key : ∀ (n : Nat) (y z : V) (b : Bool), EqV K H n y z b → n = 0 → y = x → z = x → b = true → SelfV K H' x := fun n y z b h e0 e1 e2 e3 => by
    by_cases r : ∃ a, x = .ref a
    · obtain ⟨a, rfl⟩ := r
      exact .same a
    · cases h with
      | same a => exact absurd ⟨a, e1.symm⟩ r
      | data hd he sd se =>
        subst e1
        have := EqV.data (K := K) (H := H') (n := 0) (dp_any (fun a e => r ⟨a, e⟩) hd) (dp_any (fun a e => r ⟨a, e2.symm ▸ e⟩) he) sd se
        rw [e3] at this
        subst e2
        exact this
      | lst _ _ _ _ => exact absurd e0 (by omega)
  exact key 0 x x true h rfl rfl rfl rfl
theorem selfs {K : PySem.W.Frag} {H : Hp} {n : Nat} : ∀ {xs : List V}, (∀ x ∈ xs, SelfV K H x) → EqVs K H n xs xs (xs.map fun _ => true)
  | [], _ => .nil
  | x :: xs, h => .cons (EqV.up (Same.refl H) _ _ _ _ (h x List.mem_cons_self) n (Nat.zero_le n)) (selfs fun y hy => h y (List.mem_cons_of_mem _ hy))
theorem all_trues (xs : List V) : (xs.map fun _ => true).all id = true := by
  rw [List.all_map, List.all_eq_true]
  exact fun _ _ => rfl
theorem s_dnew {σ : L2.St} {Q : VK} {H : Hp} (h : ∀ p H', H p = none → Same H H' → H' p = some (.dK []) → Q (.ref p) H') : tDNewK σ H Q := fun p n => h p _ n (Same.new n) upd_same
theorem Pl.dct {K : PySem.W.Frag} {H : Hp} {a : Addr} {kvs : List (Key × V)} (h : H a = some (.dK kvs)) : Pl K H (.ref a) "dict" := ⟨.base (.dK h), .dct⟩
theorem noTup_dct {H : Hp} {a : Addr} {kvs : List (Key × V)} (h : H a = some (.dK kvs)) : NoTup H (.ref a) := fun b e => by
  injection e with e
  subst e
  exact ⟨_, h, fun _ z => by cases z⟩
section
variable {K : PySem.W.Frag} {H : Hp}
theorem noTup_flat {v : V} (h : ∀ a, v ≠ .ref a) : NoTup H v := fun a e => absurd e (h a)
theorem noTup_lst {a : Addr} {xs : List V} (h : H a = some (.lst xs)) : NoTup H (.ref a) := fun b e => by
  injection e with e
  subst e
  exact ⟨_, h, fun _ z => nomatch z⟩
theorem plk_flat {T : String} {u : V} (h : Pl K H u T) (n : T ≠ "tuple") (f : ∀ a, u ≠ .ref a) : PlK K H u false := .no h n (noTup_flat f)
theorem plk_len {a : Addr} {ys : List V} (h : H a = some (.tup ys)) (hy : ∀ y ∈ ys, NameArg K H y) (n : ys.length ≠ 2) : PlK K H (.ref a) false :=
  .tup rfl (Pl.tup h) h hy ⟨(fun z => by cases z), fun ⟨b, u, v, e, h', _⟩ => by
    injection e with e
    subst e
    rw [h] at h'
    cases h'
    exact absurd rfl n⟩
theorem plk_bad {a : Addr} {x y : Str} (h : H a = some (.tup [.str x, .str y])) (l1 : x.length < 64) (l2 : y.length < 64) (n : ¬ (Nm x ∧ Nm y)) : PlK K H (.ref a) false :=
  .tup rfl (Pl.tup h) h (fun u hu => by
    rcases List.mem_cons.mp hu with rfl | hu
    · exact ⟨"str", Pl.str, fun z e => by cases e; exact l1⟩
    · rw [List.mem_singleton.mp hu]
      exact ⟨"str", Pl.str, fun z e => by cases e; exact l2⟩) ⟨(fun z => by cases z), fun ⟨b, u, v, e, h', ⟨z1, e1, n1⟩, ⟨z2, e2, n2⟩⟩ => by
    injection e with e
    subst e
    rw [h] at h'
    cases h'
    cases e1
    cases e2
    exact absurd ⟨n1, n2⟩ n⟩
end
section
variable {K : PySem.W.Frag} {H H' : Hp} {a : Addr}
theorem na_ref {T : String} (h : Pl K H (.ref a) T) : NameArg K H (.ref a) := ⟨T, h, fun _ e => by cases e⟩
theorem na_str {z : Str} (h : z.length < 64) : NameArg K H (.str z) := ⟨"str", Pl.str, fun y e => by cases e; exact h⟩
theorem na_bl {b : Bool} : NameArg K H (.bl b) := ⟨"bool", Pl.bl, fun _ e => by cases e⟩
theorem nn_ref : ¬ NmV (.ref a) := fun ⟨_, e, _⟩ => by cases e
theorem nn_str {z : Str} (h : ¬ Nm z) : ¬ NmV (.str z) := fun ⟨_, e, n⟩ => by cases e; exact h n
theorem nn_empty : ¬ Nm "" := fun h => absurd h.1 (by decide)
end
def wo (D : Addr) (H : Hp) : Hp := fun b => if b = D then none else H b
theorem wo_get {D b : Addr} {H : Hp} (n : b ≠ D) : wo D H b = H b := if_neg n
theorem wo_sub {D : Addr} {H : Hp} : Same (wo D H) H := fun b o e => by
  unfold wo at e
  split at e
  · cases e
  · exact e
theorem wo_same {D : Addr} {H H' : Hp} (n : H D = none) (S : Same H H') : Same H (wo D H') := fun b o e => by
  rw [wo_get (ne_of_none e n)]
  exact S b o e
theorem wo_step {D : Addr} {H H' : Hp} (S : Same H H') : Same (wo D H) (wo D H') := fun b o e => by
  by_cases z : b = D
  · rw [z] at e
    exact absurd e (by unfold wo; rw [if_pos rfl]; intro h; cases h)
  · rw [wo_get z] at e ⊢
    exact S b o e
theorem wo_upd {D : Addr} {H : Hp} {o : HO} : wo D (upd H D o) = wo D H := by
  funext b
  by_cases z : b = D
  · unfold wo
    rw [if_pos z, if_pos z]
  · rw [wo_get z, wo_get z, upd_ne z]
theorem wo_but {D : Addr} {H H' : Hp} (B : But D H H') : Same (wo D H) (wo D H') := fun b o e => by
  by_cases z : b = D
  · rw [z] at e
    exact absurd e (by unfold wo; rw [if_pos rfl]; intro h; cases h)
  · rw [wo_get z] at e ⊢
    exact B b o z e


def BadD (K : PySem.W.Frag) (P : Program) (w : World) (CR : Addr) (H : Hp) (v : V) : Prop := DmK K P w CR H v false ∧ SelfV K H v
theorem BadD.mono {K : PySem.W.Frag} {P : Program} {w : World} {CR : Addr} {H H' : Hp} {v : V} (S : Same H H') (h : BadD K P w CR H v) : BadD K P w CR H' v := ⟨h.1.mono S, h.2.mono S⟩
theorem dm4 {K : PySem.W.Frag} {P : Program} {w : World} {CR : Addr} {H : Hp} {a : Addr} {pl be en wy : V} {b c : Bool} {Tb Te : String} (h : H a = some (.tup [pl, be, en, wy])) (h1 : PlK K H pl b) (h2 : Pl K H be Tb) (h3 : Pl K H en Te) (h4 : WayK P w CR H wy c) (e : (b && dmB be en && c) = false) : DmK K P w CR H (.ref a) false := by
  have := DmK.four (x := .ref a) rfl h h1 h2 h3 h4
  rwa [e] at this
theorem WayK.strF {P : Program} {w : World} {CR : Addr} {H : Hp} {z : Str} (h1 : z ≠ "go") (h2 : z ≠ "come") : WayK P w CR H (.str z) false := by
  have := WayK.str (P := P) (w := w) (CR := CR) (H := H) (y := .str z) rfl
  rw [decide_eq_false h1, decide_eq_false h2] at this
  exact this
theorem nobad_0 (z : Nm "A" ∧ Nm "b") : False := absurd (z.1.2.2 65 (by decide +kernel)) (by decide +kernel)
theorem nobad_1 (z : Nm "a" ∧ Nm "") : False := absurd z.2.1 (by decide)
theorem nobad_2 (z : Nm "a" ∧ Nm "abcdefghi") : False := absurd z.2.2.1 (by decide)
section
variable {P : Program} {w : World} {K : PySem.W.Frag} {mg : Str → Option Value} {base : Heap} {CR CI CD : Addr}
def spDBad (K : PySem.W.Frag) (P : Program) (w : World) (CR : Addr) : Sp := fun vs H Q _ => ∃ x D, vs = [x] ∧ DemAt H x D ∧ D.Ok ∧ ∀ L H' zs, H L = none → Same H H' → H' L = some (.lst zs) → zs.length ≤ 40 → (∀ z ∈ zs, BadD K P w CR H' z) → Q (.ref L) H'
theorem ok__law_bad (T : Txt K mg) (N : TxtN K mg) (I : TxtI K mg) (R : TxtR K mg) (RC : RulesC K mg CR) (L : TxtL21 K mg) : Cal P w K mg base 7 "_law_bad" (spDBad K P w CR) := by
  refine L.d_bad.cal sc__law_bad (fun vs H Q E h => ?_) (fun f cdv A outer s H vs Q E hr h => ?_)
  · obtain ⟨x, D, rfl, _⟩ := h
    rfl
  · obtain ⟨x, D, rfl, hx, ok, kk⟩ := h
    refine ⟨_, (pss_cons (ps_asg (pv 0) (pg_tup (by rfl) (pgs_cons (pg_name (i := 1) sc__law_bad.nd rfl (.inl rfl)) (pgs_cons (pg_name (i := 2) sc__law_bad.nd rfl (.inr rfl)) (pgs_cons (pg_name (i := 3) sc__law_bad.nd rfl (.inr rfl)) (pgs_cons (pg_name (i := 4) sc__law_bad.nd rfl (.inr rfl)) pgs_nil))))))
      (C8.pss_cut (ps_set (i := 5) sc__law_bad.nd rfl (.inl rfl) (pe_lst (pa_cons (pe_lst (pa_cons (pv 1) (pa_cons (pv 2) (pa_cons (pv 3) (pa_cons (pv 4) pa_nil))))) (pa_cons (pe_tup (pa_cons (pv 1) (pa_cons (pv 2) (pa_cons (pv 3) pa_nil)))) (pa_cons (pe_tup (pa_cons (pv 1) (pa_cons (pv 2) (pa_cons (pv 3) (pa_cons (pv 4) (pa_cons (pv 4) pa_nil)))))) (pa_cons (pe_tup (pa_cons (pv 1) (pa_cons (pv 3) (pa_cons (pv 2) (pa_cons (pv 4) pa_nil))))) pa_nil))))))
      (C8.pss_cut (ps_set (i := 5) sc__law_bad.nd rfl (.inl rfl) (pe_op op_addU (pv 5) (pe_lst (pa_cons (pe_tup (pa_cons (pv 1) (pa_cons (pv 2) (pa_cons (pv 2) (pa_cons (pv 4) pa_nil))))) (pa_cons (pe_tup (pa_cons (pv 1) (pa_cons (pe_op op_subU pe_int pe_int) (pa_cons (pv 3) (pa_cons (pv 4) pa_nil))))) (pa_cons (pe_tup (pa_cons (pv 1) (pa_cons pe_bl (pa_cons pe_int (pa_cons (pv 4) pa_nil))))) (pa_cons (pe_tup (pa_cons (pv 1) (pa_cons pe_int (pa_cons pe_bl (pa_cons (pv 4) pa_nil))))) pa_nil)))))))
      (C8.pss_cut (ps_set (i := 5) sc__law_bad.nd rfl (.inl rfl) (pe_op op_addU (pv 5) (pe_lst (pa_cons (pe_tup (pa_cons (pv 1) (pa_cons (pv 2) (pa_cons (pv 3) (pa_cons pe_str pa_nil))))) (pa_cons (pe_tup (pa_cons (pv 1) (pa_cons (pv 2) (pa_cons (pv 3) (pa_cons pe_non pa_nil))))) (pa_cons (pe_tup (pa_cons (pv 1) (pa_cons (pv 2) (pa_cons (pv 3) (pa_cons pe_str pa_nil))))) pa_nil))))))
      (C8.pss_cut (ps_set (i := 5) sc__law_bad.nd rfl (.inl rfl) (pe_op op_addU (pv 5) (pe_lst (pa_cons (pe_tup (pa_cons (pe_ix ix_seq (pv 1) pe_int (fun _ _ => rfl)) (pa_cons (pv 2) (pa_cons (pv 3) (pa_cons (pv 4) pa_nil))))) (pa_cons (pe_tup (pa_cons (pe_lst (pa_cons (pe_ix ix_seq (pv 1) pe_int (fun _ _ => rfl)) (pa_cons (pe_ix ix_seq (pv 1) pe_int (fun _ _ => rfl)) pa_nil))) (pa_cons (pv 2) (pa_cons (pv 3) (pa_cons (pv 4) pa_nil))))) (pa_cons (pe_tup (pa_cons (pv 1) (pa_cons pe_non (pa_cons (pv 3) (pa_cons (pv 4) pa_nil))))) pa_nil))))))
      (C8.pss_cut (ps_set (i := 5) sc__law_bad.nd rfl (.inl rfl) (pe_op op_addU (pv 5) (pe_lst (pa_cons (pe_tup (pa_cons (pv 1) (pa_cons (pv 2) (pa_cons pe_non (pa_cons (pv 4) pa_nil))))) (pa_cons (pe_tup (pa_cons (pv 1) (pa_cons (pv 2) (pa_cons pe_str (pa_cons (pv 4) pa_nil))))) (pa_cons (pe_tup (pa_cons (pv 1) (pa_cons (pv 2) (pa_cons (pe_lst (pa_cons (pv 3) pa_nil)) (pa_cons (pv 4) pa_nil))))) (pa_cons (pe_tup pa_nil) (pa_cons (pe_tup (pa_cons (pv 1) pa_nil)) pa_nil))))))))
      (C8.pss_cut (ps_set (i := 5) sc__law_bad.nd rfl (.inl rfl) (pe_op op_addU (pv 5) (pe_lst (pa_cons (pe_tup (pa_cons (pv 1) (pa_cons (pv 2) (pa_cons (pv 3) (pa_cons (pe_lst (pa_cons (pv 4) pa_nil)) pa_nil))))) (pa_cons (pe_tup (pa_cons (pv 1) (pa_cons (pv 2) (pa_cons (pv 3) (pa_cons pe_dnewK pa_nil))))) (pa_cons (pe_tup (pa_cons (pv 1) (pa_cons (pv 2) (pa_cons (pv 3) (pa_cons (pe_rules0 T N I R RC hr (by decide)) pa_nil))))) pa_nil))))))
      (C8.pss_cut (ps_set (i := 5) sc__law_bad.nd rfl (.inl rfl) (pe_op op_addU (pv 5) (pe_lc (own := [("_law_odd", 6)]) (g := gName 6) (tt := tYes) (te := tTup (tCons (tVar 6) (tCons (tVar 2) (tCons (tVar 3) (tCons (tVar 4) tNil))))) rfl sc__law_bad.nd (pi_list (pe_lst (pa_cons (pe_tup (pa_cons pe_str (pa_cons pe_str pa_nil))) (pa_cons (pe_tup (pa_cons pe_str (pa_cons pe_str pa_nil))) (pa_cons (pe_tup (pa_cons pe_str (pa_cons pe_str pa_nil))) (pa_cons (pe_tup (pa_cons pe_str (pa_cons pe_str (pa_cons pe_str pa_nil)))) (pa_cons (pe_tup pa_nil) pa_nil))))))) (blkOk_by (own := [("_law_odd", 6)]) (N := ["_law_one", "_law_place", "_law_begin", "_law_end", "_law_way", "_law_bad_here", "_law_odd"]) (sc := defScope s__law_bad) (by decide +kernel)) (fun _ _ _ _ _ => pg_name (i := 6) sc__law_bad.nd rfl (Or.inl rfl)) (fun _ _ _ _ _ => pts_nil) (fun _ _ _ _ _ => by exact (pe_tup (pa_cons (pv 6) (pa_cons (pv 2) (pa_cons (pv 3) (pa_cons (pv 4) pa_nil)))))))))
      (pss_one (ps_ret (pe_op op_addU (pv 5) (pe_lst (pa_cons pe_non (pa_cons (pv 1) (pa_cons pe_int (pa_cons (pe_tup (pa_cons (pv 1) (pa_cons pe_str (pa_cons (pv 3) (pa_cons (pv 4) pa_nil))))) (pa_cons (pe_tup (pa_cons pe_non (pa_cons (pv 2) (pa_cons (pv 3) (pa_cons (pv 4) pa_nil))))) (pa_cons (pe_tup (pa_cons (pv 1) (pa_cons (pe_lst (pa_cons pe_int pa_nil)) (pa_cons (pv 3) (pa_cons (pv 4) pa_nil))))) (pa_cons pe_dnewK pa_nil))))))))))))))))))), ?_⟩
    obtain ⟨a0, pv0, rfl, ha0, hpa⟩ := id hx
    obtain ⟨ap, rfl, hap⟩ := id hpa
    obtain ⟨i, ei⟩ : ∃ i, i = D.i := ⟨_, rfl⟩
    obtain ⟨j, ej⟩ : ∃ j, j = D.j := ⟨_, rfl⟩
    obtain ⟨wy, ew⟩ : ∃ wy, wy = D.way := ⟨_, rfl⟩
    have o1 : 0 ≤ i := ei ▸ ok.2.1
    have o2 : i < j := by rw [ei, ej]; exact ok.2.2.1
    have hap0 := hap
    rw [← ei, ← ej, ← ew] at ha0
    k_extra "r_L21e"
    refine ⟨a0, _, rfl, SqT.of ha0, rfl, ?_⟩
    k_extra "r_L21e"
    refine q_cut8 (M := fun σ H' => ∃ l zs, σ = [some (.ref a0), some (.ref ap), some (.int i), some (.int j), some (.str wy), some (.ref l), none] ∧ Same H H' ∧ H' l = some (.lst zs) ∧ zs.length ≤ 4 ∧ ∀ z ∈ zs, BadD K P w CR H' z) ?_ ?_
    · k_extra "r_L21e"
      k_extra "r_L21e"
      refine q_newL (by show 4 ≤ sizeLine; decide) fun t1 H1 n1 S1 h1 => ?_
      have A1 : Same H H1 := S1
      k_extra "r_L21e"
      refine q_newT (by show 3 ≤ sizeLine; decide) fun t2 H2 n2 S2 h2 => ?_
      have A2 : Same H H2 := A1.trans S2
      k_extra "r_L21e"
      refine q_newT (by show 5 ≤ sizeLine; decide) fun t3 H3 n3 S3 h3 => ?_
      have A3 : Same H H3 := A2.trans S3
      k_extra "r_L21e"
      refine q_newT (by show 4 ≤ sizeLine; decide) fun t4 H4 n4 S4 h4 => ?_
      have A4 : Same H H4 := A3.trans S4
      k_extra "r_L21e"
      refine q_newL (by show 4 ≤ sizeLine; decide) fun t5 H5 n5 S5 h5 => ?_
      have A5 : Same H H5 := A4.trans S5
      have T5 : Same H5 H5 := Same.refl _
      have T4 : Same H4 H5 := S5.trans T5
      have T3 : Same H3 H5 := S4.trans T4
      have T2 : Same H2 H5 := S3.trans T3
      have T1 : Same H1 H5 := S2.trans T2
      have Ae := A5
      have kp : PlK K H5 (.ref ap) true := (hpa.mono ((Same.refl H).trans Ae)).plk ok.1
      have nb : ∀ z ∈ ([.ref t1, .ref t2, .ref t3, .ref t4] : List V), BadD K P w CR H5 z := fun z mz => by
        simp only [List.mem_cons, List.not_mem_nil, or_false] at mz
        rcases mz with rfl | rfl | rfl | rfl
        · exact ⟨.no (Pl.lst (T1 _ _ h1)) (by decide), .ref _⟩
        · exact ⟨.len rfl (T2 _ _ h2) (by simp), .ref _⟩
        · exact ⟨.len rfl (T3 _ _ h3) (by simp), .ref _⟩
        · exact ⟨dm4 (T4 _ _ h4) kp Pl.int Pl.int (WayK.str rfl) (by simp [dmB]; try omega), .ref _⟩
      k_extra "r_L21e"
      exact ⟨t5, _, rfl, (Same.refl H).trans Ae, h5, by simp, nb⟩
    rintro σ B1 ⟨l1b, zs1, rfl, SB1, hl, lz, bz⟩
    have hap := SB1 _ _ hap0
    refine q_cut8 (M := fun σ H' => ∃ l zs, σ = [some (.ref a0), some (.ref ap), some (.int i), some (.int j), some (.str wy), some (.ref l), none] ∧ Same H H' ∧ H' l = some (.lst zs) ∧ zs.length ≤ 8 ∧ ∀ z ∈ zs, BadD K P w CR H' z) ?_ ?_
    · k_extra "r_L21e"
      k_extra "r_L21e"
      refine q_newT (by show 4 ≤ sizeLine; decide) fun t1 H1 n1 S1 h1 => ?_
      have A1 : Same B1 H1 := S1
      k_extra "r_L21e"
      refine q_newT (by show 4 ≤ sizeLine; decide) fun t2 H2 n2 S2 h2 => ?_
      have A2 : Same B1 H2 := A1.trans S2
      k_extra "r_L21e"
      refine q_newT (by show 4 ≤ sizeLine; decide) fun t3 H3 n3 S3 h3 => ?_
      have A3 : Same B1 H3 := A2.trans S3
      k_extra "r_L21e"
      refine q_newT (by show 4 ≤ sizeLine; decide) fun t4 H4 n4 S4 h4 => ?_
      have A4 : Same B1 H4 := A3.trans S4
      k_extra "r_L21e"
      refine q_newL (by show 4 ≤ sizeLine; decide) fun t5 H5 n5 S5 h5 => ?_
      have A5 : Same B1 H5 := A4.trans S5
      have T5 : Same H5 H5 := Same.refl _
      have T4 : Same H4 H5 := S5.trans T5
      have T3 : Same H3 H5 := S4.trans T4
      have T2 : Same H2 H5 := S3.trans T3
      have T1 : Same H1 H5 := S2.trans T2
      have Ae := A5
      have kp : PlK K H5 (.ref ap) true := (hpa.mono (SB1.trans Ae)).plk ok.1
      have nb : ∀ z ∈ ([.ref t1, .ref t2, .ref t3, .ref t4] : List V), BadD K P w CR H5 z := fun z mz => by
        simp only [List.mem_cons, List.not_mem_nil, or_false] at mz
        rcases mz with rfl | rfl | rfl | rfl
        · exact ⟨dm4 (T1 _ _ h1) kp Pl.int Pl.int (WayK.str rfl) (by simp [dmB]; try omega), .ref _⟩
        · exact ⟨dm4 (T2 _ _ h2) kp Pl.int Pl.int (WayK.str rfl) (by simp [dmB]; try omega), .ref _⟩
        · exact ⟨dm4 (T3 _ _ h3) kp Pl.bl Pl.int (WayK.str rfl) (by simp [dmB]; try omega), .ref _⟩
        · exact ⟨dm4 (T4 _ _ h4) kp Pl.int Pl.bl (WayK.str rfl) (by simp [dmB]; try omega), .ref _⟩
      refine q_cat (Ae _ _ hl) h5 (sz (by simp; omega)) fun l9 H9 nl9 S9 h9 => ?_
      k_extra "r_L21e"
      refine ⟨l9, _, rfl, SB1.trans (Ae.trans S9), h9, by simp; omega, fun z mz => ?_⟩
      rcases List.mem_append.mp mz with mz | mz
      · exact (bz z mz).mono (Ae.trans S9)
      · exact (nb z mz).mono S9
    clear hl bz lz
    rintro σ B2 ⟨l2b, zs2, rfl, SB2, hl, lz, bz⟩
    have hap := SB2 _ _ hap0
    refine q_cut8 (M := fun σ H' => ∃ l zs, σ = [some (.ref a0), some (.ref ap), some (.int i), some (.int j), some (.str wy), some (.ref l), none] ∧ Same H H' ∧ H' l = some (.lst zs) ∧ zs.length ≤ 11 ∧ ∀ z ∈ zs, BadD K P w CR H' z) ?_ ?_
    · k_extra "r_L21e"
      k_extra "r_L21e"
      refine q_newT (by show 4 ≤ sizeLine; decide) fun t1 H1 n1 S1 h1 => ?_
      have A1 : Same B2 H1 := S1
      k_extra "r_L21e"
      refine q_newT (by show 4 ≤ sizeLine; decide) fun t2 H2 n2 S2 h2 => ?_
      have A2 : Same B2 H2 := A1.trans S2
      k_extra "r_L21e"
      refine q_newT (by show 4 ≤ sizeLine; decide) fun t3 H3 n3 S3 h3 => ?_
      have A3 : Same B2 H3 := A2.trans S3
      k_extra "r_L21e"
      refine q_newL (by show 3 ≤ sizeLine; decide) fun t4 H4 n4 S4 h4 => ?_
      have A4 : Same B2 H4 := A3.trans S4
      have T4 : Same H4 H4 := Same.refl _
      have T3 : Same H3 H4 := S4.trans T4
      have T2 : Same H2 H4 := S3.trans T3
      have T1 : Same H1 H4 := S2.trans T2
      have Ae := A4
      have kp : PlK K H4 (.ref ap) true := (hpa.mono (SB2.trans Ae)).plk ok.1
      have nb : ∀ z ∈ ([.ref t1, .ref t2, .ref t3] : List V), BadD K P w CR H4 z := fun z mz => by
        simp only [List.mem_cons, List.not_mem_nil, or_false] at mz
        rcases mz with rfl | rfl | rfl
        · exact ⟨dm4 (T1 _ _ h1) kp Pl.int Pl.int (WayK.strF (by decide) (by decide)) (by simp [dmB]; try omega), .ref _⟩
        · exact ⟨dm4 (T2 _ _ h2) kp Pl.int Pl.int (WayK.non rfl) (by simp [dmB]; try omega), .ref _⟩
        · exact ⟨dm4 (T3 _ _ h3) kp Pl.int Pl.int (WayK.strF (by decide) (by decide)) (by simp [dmB]; try omega), .ref _⟩
      refine q_cat (Ae _ _ hl) h4 (sz (by simp; omega)) fun l9 H9 nl9 S9 h9 => ?_
      k_extra "r_L21e"
      refine ⟨l9, _, rfl, SB2.trans (Ae.trans S9), h9, by simp; omega, fun z mz => ?_⟩
      rcases List.mem_append.mp mz with mz | mz
      · exact (bz z mz).mono (Ae.trans S9)
      · exact (nb z mz).mono S9
    clear hl bz lz
    rintro σ B3 ⟨l3b, zs3, rfl, SB3, hl, lz, bz⟩
    have hap := SB3 _ _ hap0
    refine q_cut8 (M := fun σ H' => ∃ l zs, σ = [some (.ref a0), some (.ref ap), some (.int i), some (.int j), some (.str wy), some (.ref l), none] ∧ Same H H' ∧ H' l = some (.lst zs) ∧ zs.length ≤ 14 ∧ ∀ z ∈ zs, BadD K P w CR H' z) ?_ ?_
    · k_extra "r_L21e"
      k_extra "r_L21e"
      refine q_ixT (SqT.of ((Same.refl B3) _ _ hap)) (at_of (j := 1) rfl rfl) ?_
      k_extra "r_L21e"
      refine q_newT (by show 4 ≤ sizeLine; decide) fun t1 H1 n1 S1 h1 => ?_
      have A1 : Same B3 H1 := S1
      k_extra "r_L21e"
      refine q_ixT (SqT.of (A1 _ _ hap)) (at_of (j := 0) rfl rfl) ?_
      k_extra "r_L21e"
      refine q_ixT (SqT.of (A1 _ _ hap)) (at_of (j := 1) rfl rfl) ?_
      k_extra "r_L21e"
      refine q_newL (by show 2 ≤ sizeLine; decide) fun t2 H2 n2 S2 h2 => ?_
      have A2 : Same B3 H2 := A1.trans S2
      k_extra "r_L21e"
      refine q_newT (by show 4 ≤ sizeLine; decide) fun t3 H3 n3 S3 h3 => ?_
      have A3 : Same B3 H3 := A2.trans S3
      k_extra "r_L21e"
      refine q_newT (by show 4 ≤ sizeLine; decide) fun t4 H4 n4 S4 h4 => ?_
      have A4 : Same B3 H4 := A3.trans S4
      k_extra "r_L21e"
      refine q_newL (by show 3 ≤ sizeLine; decide) fun t5 H5 n5 S5 h5 => ?_
      have A5 : Same B3 H5 := A4.trans S5
      have T5 : Same H5 H5 := Same.refl _
      have T4 : Same H4 H5 := S5.trans T5
      have T3 : Same H3 H5 := S4.trans T4
      have T2 : Same H2 H5 := S3.trans T3
      have T1 : Same H1 H5 := S2.trans T2
      have Ae := A5
      have kp : PlK K H5 (.ref ap) true := (hpa.mono (SB3.trans Ae)).plk ok.1
      have nb : ∀ z ∈ ([.ref t1, .ref t3, .ref t4] : List V), BadD K P w CR H5 z := fun z mz => by
        simp only [List.mem_cons, List.not_mem_nil, or_false] at mz
        rcases mz with rfl | rfl | rfl
        · exact ⟨dm4 (T1 _ _ h1) (plk_flat Pl.str (by decide) (fun _ e => by cases e)) Pl.int Pl.int (WayK.str rfl) (by simp [dmB]; try omega), .ref _⟩
        · exact ⟨dm4 (T3 _ _ h3) (PlK.no (Pl.lst (T2 _ _ h2)) (by decide) (noTup_lst (T2 _ _ h2))) Pl.int Pl.int (WayK.str rfl) (by simp [dmB]; try omega), .ref _⟩
        · exact ⟨dm4 (T4 _ _ h4) kp Pl.non Pl.int (WayK.str rfl) (by simp [dmB]; try omega), .ref _⟩
      refine q_cat (Ae _ _ hl) h5 (sz (by simp; omega)) fun l9 H9 nl9 S9 h9 => ?_
      k_extra "r_L21e"
      refine ⟨l9, _, rfl, SB3.trans (Ae.trans S9), h9, by simp; omega, fun z mz => ?_⟩
      rcases List.mem_append.mp mz with mz | mz
      · exact (bz z mz).mono (Ae.trans S9)
      · exact (nb z mz).mono S9
    clear hl bz lz
    rintro σ B4 ⟨l4b, zs4, rfl, SB4, hl, lz, bz⟩
    have hap := SB4 _ _ hap0
    refine q_cut8 (M := fun σ H' => ∃ l zs, σ = [some (.ref a0), some (.ref ap), some (.int i), some (.int j), some (.str wy), some (.ref l), none] ∧ Same H H' ∧ H' l = some (.lst zs) ∧ zs.length ≤ 19 ∧ ∀ z ∈ zs, BadD K P w CR H' z) ?_ ?_
    · k_extra "r_L21e"
      k_extra "r_L21e"
      refine q_newT (by show 4 ≤ sizeLine; decide) fun t1 H1 n1 S1 h1 => ?_
      have A1 : Same B4 H1 := S1
      k_extra "r_L21e"
      refine q_newT (by show 4 ≤ sizeLine; decide) fun t2 H2 n2 S2 h2 => ?_
      have A2 : Same B4 H2 := A1.trans S2
      k_extra "r_L21e"
      refine q_newL (by show 1 ≤ sizeLine; decide) fun t3 H3 n3 S3 h3 => ?_
      have A3 : Same B4 H3 := A2.trans S3
      k_extra "r_L21e"
      refine q_newT (by show 4 ≤ sizeLine; decide) fun t4 H4 n4 S4 h4 => ?_
      have A4 : Same B4 H4 := A3.trans S4
      k_extra "r_L21e"
      refine q_newT (by show 0 ≤ sizeLine; decide) fun t5 H5 n5 S5 h5 => ?_
      have A5 : Same B4 H5 := A4.trans S5
      k_extra "r_L21e"
      refine q_newT (by show 1 ≤ sizeLine; decide) fun t6 H6 n6 S6 h6 => ?_
      have A6 : Same B4 H6 := A5.trans S6
      k_extra "r_L21e"
      refine q_newL (by show 5 ≤ sizeLine; decide) fun t7 H7 n7 S7 h7 => ?_
      have A7 : Same B4 H7 := A6.trans S7
      have T7 : Same H7 H7 := Same.refl _
      have T6 : Same H6 H7 := S7.trans T7
      have T5 : Same H5 H7 := S6.trans T6
      have T4 : Same H4 H7 := S5.trans T5
      have T3 : Same H3 H7 := S4.trans T4
      have T2 : Same H2 H7 := S3.trans T3
      have T1 : Same H1 H7 := S2.trans T2
      have Ae := A7
      have kp : PlK K H7 (.ref ap) true := (hpa.mono (SB4.trans Ae)).plk ok.1
      have nb : ∀ z ∈ ([.ref t1, .ref t2, .ref t4, .ref t5, .ref t6] : List V), BadD K P w CR H7 z := fun z mz => by
        simp only [List.mem_cons, List.not_mem_nil, or_false] at mz
        rcases mz with rfl | rfl | rfl | rfl | rfl
        · exact ⟨dm4 (T1 _ _ h1) kp Pl.int Pl.non (WayK.str rfl) (by simp [dmB]; try omega), .ref _⟩
        · exact ⟨dm4 (T2 _ _ h2) kp Pl.int Pl.str (WayK.str rfl) (by simp [dmB]; try omega), .ref _⟩
        · exact ⟨dm4 (T4 _ _ h4) kp Pl.int (Pl.lst (T3 _ _ h3)) (WayK.str rfl) (by simp [dmB]; try omega), .ref _⟩
        · exact ⟨.len rfl (T5 _ _ h5) (by simp), .ref _⟩
        · exact ⟨.len rfl (T6 _ _ h6) (by simp), .ref _⟩
      refine q_cat (Ae _ _ hl) h7 (sz (by simp; omega)) fun l9 H9 nl9 S9 h9 => ?_
      k_extra "r_L21e"
      refine ⟨l9, _, rfl, SB4.trans (Ae.trans S9), h9, by simp; omega, fun z mz => ?_⟩
      rcases List.mem_append.mp mz with mz | mz
      · exact (bz z mz).mono (Ae.trans S9)
      · exact (nb z mz).mono S9
    clear hl bz lz
    rintro σ B5 ⟨l5b, zs5, rfl, SB5, hl, lz, bz⟩
    have hap := SB5 _ _ hap0
    refine q_cut8 (M := fun σ H' => ∃ l zs, σ = [some (.ref a0), some (.ref ap), some (.int i), some (.int j), some (.str wy), some (.ref l), none] ∧ Same H H' ∧ H' l = some (.lst zs) ∧ zs.length ≤ 22 ∧ ∀ z ∈ zs, BadD K P w CR H' z) ?_ ?_
    · k_extra "r_L21e"
      k_extra "r_L21e"
      refine q_newL (by show 1 ≤ sizeLine; decide) fun t1 H1 n1 S1 h1 => ?_
      have A1 : Same B5 H1 := S1
      k_extra "r_L21e"
      refine q_newT (by show 4 ≤ sizeLine; decide) fun t2 H2 n2 S2 h2 => ?_
      have A2 : Same B5 H2 := A1.trans S2
      k_extra "r_L21e"
      refine s_dnew fun t3 H3 n3 S3 h3 => ?_
      have A3 : Same B5 H3 := A2.trans S3
      k_extra "r_L21e"
      refine q_newT (by show 4 ≤ sizeLine; decide) fun t4 H4 n4 S4 h4 => ?_
      have A4 : Same B5 H4 := A3.trans S4
      k_extra "r_L21e"
      refine s_make ?_
      k_extra "r_L21e"
      refine q_rules (A := true) (rs := []) (.inl ⟨rfl, rfl⟩) (fun _ m => by cases m) (by decide) fun t5 H5 d5 _ _ S5 h5 => ?_
      have A5 : Same B5 H5 := A4.trans S5
      k_extra "r_L21e"
      refine q_newT (by show 4 ≤ sizeLine; decide) fun t6 H6 n6 S6 h6 => ?_
      have A6 : Same B5 H6 := A5.trans S6
      k_extra "r_L21e"
      refine q_newL (by show 3 ≤ sizeLine; decide) fun t7 H7 n7 S7 h7 => ?_
      have A7 : Same B5 H7 := A6.trans S7
      have T7 : Same H7 H7 := Same.refl _
      have T6 : Same H6 H7 := S7.trans T7
      have T5 : Same H5 H7 := S6.trans T6
      have T4 : Same H4 H7 := S5.trans T5
      have T3 : Same H3 H7 := S4.trans T4
      have T2 : Same H2 H7 := S3.trans T3
      have T1 : Same H1 H7 := S2.trans T2
      have Ae := A7
      have kp : PlK K H7 (.ref ap) true := (hpa.mono (SB5.trans Ae)).plk ok.1
      have nb : ∀ z ∈ ([.ref t2, .ref t4, .ref t6] : List V), BadD K P w CR H7 z := fun z mz => by
        simp only [List.mem_cons, List.not_mem_nil, or_false] at mz
        rcases mz with rfl | rfl | rfl
        · exact ⟨dm4 (T2 _ _ h2) kp Pl.int Pl.int (WayK.odd rfl (.inl ⟨_, T1 _ _ h1⟩)) (by simp [dmB]; try omega), .ref _⟩
        · exact ⟨dm4 (T4 _ _ h4) kp Pl.int Pl.int (WayK.odd rfl (.inr (.inr ⟨_, T3 _ _ h3⟩))) (by simp [dmB]; try omega), .ref _⟩
        · exact ⟨dm4 (T6 _ _ h6) kp Pl.int Pl.int (WayK.ins rfl (h5.mono T5)) (by simp [dmB]; try omega), .ref _⟩
      refine q_cat (Ae _ _ hl) h7 (sz (by simp; omega)) fun l9 H9 nl9 S9 h9 => ?_
      k_extra "r_L21e"
      refine ⟨l9, _, rfl, SB5.trans (Ae.trans S9), h9, by simp; omega, fun z mz => ?_⟩
      rcases List.mem_append.mp mz with mz | mz
      · exact (bz z mz).mono (Ae.trans S9)
      · exact (nb z mz).mono S9
    clear hl bz lz
    rintro σ B6 ⟨l6b, zs6, rfl, SB6, hl, lz, bz⟩
    have hap := SB6 _ _ hap0
    refine q_cut8 (M := fun σ H' => ∃ l zs, σ = [some (.ref a0), some (.ref ap), some (.int i), some (.int j), some (.str wy), some (.ref l), none] ∧ Same H H' ∧ H' l = some (.lst zs) ∧ zs.length ≤ 30 ∧ ∀ z ∈ zs, BadD K P w CR H' z) ?_ ?_
    · k_extra "r_L21e"
      refine s_lc ?_
      k_extra "r_L21e"
      refine q_newT (by show 2 ≤ sizeLine; decide) fun t1 H1 n1 S1 h1 => ?_
      have A1 : Same B6 H1 := S1
      k_extra "r_L21e"
      refine q_newT (by show 2 ≤ sizeLine; decide) fun t2 H2 n2 S2 h2 => ?_
      have A2 : Same B6 H2 := A1.trans S2
      k_extra "r_L21e"
      refine q_newT (by show 2 ≤ sizeLine; decide) fun t3 H3 n3 S3 h3 => ?_
      have A3 : Same B6 H3 := A2.trans S3
      k_extra "r_L21e"
      refine q_newT (by show 3 ≤ sizeLine; decide) fun t4 H4 n4 S4 h4 => ?_
      have A4 : Same B6 H4 := A3.trans S4
      k_extra "r_L21e"
      refine q_newT (by show 0 ≤ sizeLine; decide) fun t5 H5 n5 S5 h5 => ?_
      have A5 : Same B6 H5 := A4.trans S5
      k_extra "r_L21e"
      refine q_newL (by show 5 ≤ sizeLine; decide) fun t6 H6 n6 S6 h6 => ?_
      have A6 : Same B6 H6 := A5.trans S6
      have T6 : Same H6 H6 := Same.refl _
      have T5 : Same H5 H6 := S6.trans T6
      have T4 : Same H4 H6 := S5.trans T5
      have T3 : Same H3 H6 := S4.trans T4
      have T2 : Same H2 H6 := S3.trans T3
      have T1 : Same H1 H6 := S2.trans T2
      have od : ∀ y ∈ ([.ref t1, .ref t2, .ref t3, .ref t4, .ref t5] : List V), PlK K H6 y false := fun y my => by
        simp only [List.mem_cons, List.not_mem_nil, or_false] at my
        rcases my with rfl | rfl | rfl | rfl | rfl
        · exact plk_bad (T1 _ _ h1) (by decide) (by decide) (fun z => nobad_0 z)
        · exact plk_bad (T2 _ _ h2) (by decide) (by decide) (fun z => nobad_1 z)
        · exact plk_bad (T3 _ _ h3) (by decide) (by decide) (fun z => nobad_2 z)
        · exact plk_len (T4 _ _ h4) (fun y my => by simp at my <;> (first | (rcases my with rfl | rfl | rfl <;> exact na_str (by decide)) | (exact my.elim))) (by simp)
        · exact plk_len (T5 _ _ h5) (fun y my => by simp at my <;> (first | (rcases my with rfl | rfl | rfl <;> exact na_str (by decide)) | (exact my.elim))) (by simp)
      refine ⟨t6, rfl, ⟨_, SqL.of h6⟩, fun D nD => lc_list (K := K) (a := t6) (fun i' H' => Same H6 H' ∧ ∃ ys, H' D = some (.lst ys) ∧ (∀ z ∈ ys, BadD K P w CR (wo D H') z) ∧ ys.length ≤ i') ⟨Same.new nD, [], upd_same, (fun _ m => by cases m), Nat.le_refl _⟩ (fun i' H' _ h => SqL.of (h.1 _ _ h6)) ?_ ?_⟩
      · rintro jj y G1 hj ⟨R1, ys, g1, c1, m1⟩
        have lj := (List.getElem?_eq_some_iff.mp hj).1
        have oy := od y (List.mem_of_getElem? hj)
        simp only [List.length_cons, List.length_nil] at lj
        k_extra "r_L21e"
        refine ⟨rfl, ?_⟩
        k_extra "r_L21e"
        refine q_newT (by show 4 ≤ sizeLine; decide) fun u G2 nu R2 hu2 => ?_
        have R12 := R1.trans R2
        have uD : u ≠ D := fun z => by rw [z, g1] at nu; cases nu
        refine ⟨ys, R2 _ _ g1, szlt (by omega), same_mut R12 nD, _, upd_same, fun z mz => ?_, by simp; omega⟩
        rw [wo_upd]
        rcases List.mem_append.mp mz with mz | mz
        · exact (c1 z mz).mono (wo_step R2)
        · rw [List.mem_singleton.mp mz]
          exact ⟨dm4 ((wo_get uD).trans hu2) (oy.mono (wo_same nD R12)) Pl.int Pl.int (WayK.str rfl) (by simp), .ref _⟩
      rintro G1 ⟨R1, ys, g1, c1, m1⟩
      k_extra "r_L21e"
      have Ae := A6.trans R1
      refine q_cat (Ae _ _ hl) g1 (sz (by simp only [List.length_cons, List.length_nil] at m1; omega)) fun l9 G2 nl9 R9 h9 => ?_
      k_extra "r_L21e"
      refine ⟨l9, _, rfl, SB6.trans (Ae.trans R9), h9, by simp only [List.length_cons, List.length_nil] at m1; rw [List.length_append]; omega, fun z mz => ?_⟩
      rcases List.mem_append.mp mz with mz | mz
      · exact (bz z mz).mono (Ae.trans R9)
      · exact (c1 z mz).mono (wo_sub.trans R9)
    clear hl bz lz
    rintro σ B7 ⟨l7b, zs7, rfl, SB7, hl, lz, bz⟩
    have hap := SB7 _ _ hap0
    k_extra "r_L21e"
    k_extra "r_L21e"
    refine q_newT (by show 4 ≤ sizeLine; decide) fun t1 H1 n1 S1 h1 => ?_
    have A1 : Same B7 H1 := S1
    k_extra "r_L21e"
    refine q_newT (by show 4 ≤ sizeLine; decide) fun t2 H2 n2 S2 h2 => ?_
    have A2 : Same B7 H2 := A1.trans S2
    k_extra "r_L21e"
    refine q_newL (by show 1 ≤ sizeLine; decide) fun t3 H3 n3 S3 h3 => ?_
    have A3 : Same B7 H3 := A2.trans S3
    k_extra "r_L21e"
    refine q_newT (by show 4 ≤ sizeLine; decide) fun t4 H4 n4 S4 h4 => ?_
    have A4 : Same B7 H4 := A3.trans S4
    k_extra "r_L21e"
    refine s_dnew fun t5 H5 n5 S5 h5 => ?_
    have A5 : Same B7 H5 := A4.trans S5
    k_extra "r_L21e"
    refine q_newL (by show 7 ≤ sizeLine; decide) fun t6 H6 n6 S6 h6 => ?_
    have A6 : Same B7 H6 := A5.trans S6
    have T6 : Same H6 H6 := Same.refl _
    have T5 : Same H5 H6 := S6.trans T6
    have T4 : Same H4 H6 := S5.trans T5
    have T3 : Same H3 H6 := S4.trans T4
    have T2 : Same H2 H6 := S3.trans T3
    have T1 : Same H1 H6 := S2.trans T2
    have Ae := A6
    have kp : PlK K H6 (.ref ap) true := (hpa.mono (SB7.trans Ae)).plk ok.1
    have nb : ∀ z ∈ ([.non, .ref ap, .int 0, .ref t1, .ref t2, .ref t4, .ref t5] : List V), BadD K P w CR H6 z := fun z mz => by
      simp only [List.mem_cons, List.not_mem_nil, or_false] at mz
      rcases mz with rfl | rfl | rfl | rfl | rfl | rfl | rfl
      · exact ⟨.no Pl.non (by decide), .non⟩
      · exact ⟨.len rfl (Ae _ _ hap) (by simp), .ref _⟩
      · exact ⟨.no Pl.int (by decide), .int⟩
      · exact ⟨dm4 (T1 _ _ h1) kp Pl.str Pl.int (WayK.str rfl) (by simp [dmB]; try omega), .ref _⟩
      · exact ⟨dm4 (T2 _ _ h2) (plk_flat Pl.non (by decide) (fun _ e => by cases e)) Pl.int Pl.int (WayK.str rfl) (by simp [dmB]; try omega), .ref _⟩
      · exact ⟨dm4 (T4 _ _ h4) kp (Pl.lst (T3 _ _ h3)) Pl.int (WayK.str rfl) (by simp [dmB]; try omega), .ref _⟩
      · exact ⟨.no (Pl.dct (T5 _ _ h5)) (by decide), .ref _⟩
    refine q_cat (Ae _ _ hl) h6 (sz (by simp; omega)) fun l9 H9 nl9 S9 h9 => ?_
    refine kk l9 H9 _ ((SB7.trans Ae).free nl9) (SB7.trans (Ae.trans S9)) h9 (by simp; omega) fun z mz => ?_
    rcases List.mem_append.mp mz with mz | mz
    · exact (bz z mz).mono (Ae.trans S9)
    · exact (nb z mz).mono S9
end
end Bt
namespace Bt
open PySem PySem.Spec PyProof.Rows L2 LamX NdefX
open PySem.W (dataLt dataLe alike AllAlike Sortable)
theorem words148_ : True := by
  k_with "s_LL21" => first
    | ((with_reducible refine' s_var ?hv ?_); (case hv => exact rfl))
    | with_reducible first
      | refine' s_c ?_ | refine' s_op ?_ | refine' s_asg ?_ | refine' s_gname ?_ | refine' s_seq ?_ | refine' s_next ?_ | refine' s_ret ?_ | refine' s_ifS ?_ | refine' s_drop ?_ | refine' s_retN ?_ | refine' s_test ?_ | refine' s_B ?_ | refine' q_test ?_ | refine' s_int ?_ | refine' s_cons ?_ | refine' s_nil ?_ | refine' s_call ?_ | refine' s_CB ?_ | refine' s_andT ?_ | refine' s_orT ?_ | refine' s_notT ?_ | refine' s_andV ?_ | refine' s_orV ?_ | refine' s_notV ?_ | refine' s_ifV ?_ | refine' s_chain ?_ | refine' s_sl ?_ | refine' s_noPart ?_ | refine' s_part ?_ | refine' s_gsub ?_ | refine' s_BM ?_ | refine' s_tup ?_ | refine' s_lst ?_ | refine' q_add ?_ | refine' q_sub ?_ | refine' q_lt ?_ | refine' q_le ?_ | refine' q_gt ?_ | refine' q_ge ?_ | refine' s_ifT ?_ | refine' s_ifF ?_ | refine' s_yes ?_ | refine' s_iStr ?_ | refine' s_M0 ?_ | refine' s_for ?_ | refine' s_rng1 ?_ | refine' s_par ?_ | refine' s_gcons ?_ | refine' s_gnil ?_ | refine' s_iList ?_ | refine' s_iEnum ?_ | refine' s_raise1 ?_
      | (refine' q_mod ?hm ?_; (case hm => first | omega | decide))
    | dsimp only
  k_with "r_LL21" => repeat (k_extra "s_LL21")
  trivial
/-! ### the law -/
open NS
def BkOk (G : Hp) (b : V) : Prop := ∃ A rs, SpecAt G b A rs ∧ (∀ r ∈ rs, NmR r) ∧ rs.length < 50
theorem BkOk.mono {G G' : Hp} {b : V} (S : Same G G') : BkOk G b → BkOk G' b := fun ⟨A, rs, h, n, l⟩ => ⟨A, rs, h.mono S, n, l⟩
structure W21 (K : PySem.W.Frag) (G : Hp) (a lp sm : Addr) (ns : List Int) (xs : List V) (ps : List Plc) (ys : List V) (Ds : List Dem) : Prop where
  sc : SqL K G a (ns.map V.int)
  hl : G lp = some (.lst xs)
  pl : Pls G xs ps
  hs : G sm = some (.lst ys)
  ds : PySem.Paired (DemAt G) ys Ds
theorem W21.mono {K : PySem.W.Frag} {G G' : Hp} {a lp sm : Addr} {ns : List Int} {xs : List V} {ps : List Plc} {ys : List V} {Ds : List Dem} (S : Same G G') (h : W21 K G a lp sm ns xs ps ys Ds) : W21 K G' a lp sm ns xs ps ys Ds :=
  ⟨SqL_monoN (ext_same S) h.sc, S _ _ h.hl, h.pl.mono S, S _ _ h.hs, Paired.mapP h.ds fun _ _ z => z.mono S⟩
def wob (pu bk : Addr) (H : Hp) : Hp := wo bk (wo pu H)
theorem wob_sub {pu bk : Addr} {H : Hp} : Same (wob pu bk H) H := wo_sub.trans wo_sub
theorem wob_get {pu bk c : Addr} {H : Hp} (h1 : c ≠ pu) (h2 : c ≠ bk) : wob pu bk H c = H c := (wo_get h2).trans (wo_get h1)
theorem wob_same {pu bk : Addr} {H H' : Hp} (S : ∀ c o, c ≠ pu → c ≠ bk → H c = some o → H' c = some o) : Same (wob pu bk H) (wob pu bk H') := fun c o e => by
  have n2 : c ≠ bk := fun z => by
    unfold wob wo at e
    rw [if_pos z] at e
    cases e
  have n1 : c ≠ pu := fun z => by
    unfold wob wo at e
    rw [if_neg n2, if_pos z] at e
    cases e
  rw [wob_get n1 n2] at e ⊢
  exact S c o n1 n2 e
theorem wob_of {pu bk : Addr} {H0 H : Hp} (h1 : H0 pu = none) (h2 : H0 bk = none) (S : ∀ c o, c ≠ pu → c ≠ bk → H0 c = some o → H c = some o) : Same H0 (wob pu bk H) := fun c o e => by
  have n1 : c ≠ pu := fun z => by rw [z, h1] at e; cases e
  have n2 : c ≠ bk := fun z => by rw [z, h2] at e; cases e
  rw [wob_get n1 n2]
  exact S c o n1 n2 e
theorem tk_wob {pu bk : Addr} {H : Hp} {us : List V} (hp : Purse H pu) (hb : H bk = some (.lst us)) : TKeep H (wob pu bk H) := fun c us' e => by
  have n1 : c ≠ pu := fun z => by obtain ⟨_, _, _, e2, _⟩ := hp; rw [z, e2] at e; cases e
  have n2 : c ≠ bk := fun z => by rw [z, hb] at e; cases e
  rw [wob_get n1 n2]
  exact e
theorem DemAt.tkN {H H' : Hp} {x : V} {D : Dem} (N : TKeep H H') : DemAt H x D → DemAt H' x D := fun ⟨a, u, e, h, p⟩ => ⟨a, u, e, N _ _ h, p.tkN N⟩
theorem TKeep.nlP {H H' : Hp} {p : Addr} (h : Purse H p) (B : But p H H') : TKeep H H' := let ⟨_, _, _, e, _⟩ := h; TKeep.but e (fun _ z => nomatch z) B
structure InvL (K : PySem.W.Frag) (p bq : Addr) (H : Hp) (a lp sm : Addr) (ns : List Int) (xs : List V) (ps : List Plc) (ys : List V) (Ds : List Dem) : Prop where
  pu : Purse H p
  bk : ∃ b0 b1 b2, H bq = some (.lst [b0, b1, b2]) ∧ BkOk (wob p bq H) b0 ∧ BkOk (wob p bq H) b1 ∧ BkOk (wob p bq H) b2
  w : W21 K (wob p bq H) a lp sm ns xs ps ys Ds
theorem InvL.mono {K : PySem.W.Frag} {pu bk : Addr} {H H' : Hp} {a lp sm : Addr} {ns : List Int} {xs : List V} {ps : List Plc} {ys : List V} {Ds : List Dem} (S : Same H H') (h : InvL K pu bk H a lp sm ns xs ps ys Ds) : InvL K pu bk H' a lp sm ns xs ps ys Ds :=
  have G : Same (wob pu bk H) (wob pu bk H') := wob_same fun c o _ _ e => S _ _ e
  ⟨h.pu.mono S, let ⟨b0, b1, b2, e, o0, o1, o2⟩ := h.bk; ⟨b0, b1, b2, S _ _ e, o0.mono G, o1.mono G, o2.mono G⟩, h.w.mono G⟩
section
variable {P : Program} {w : World} {K : PySem.W.Frag} {mg : Str → Option Value} {base : Heap} {CR CI CD : Addr}
def spLaw (K : PySem.W.Frag) : Sp := fun vs H Q _ => ∃ (a : Addr) (ns : List Int), vs = [.ref a] ∧ SqL K H a (ns.map V.int) ∧ ns.length ≤ 63 ∧ ∀ H', Q (.bl true) H'
theorem ok_law {f : Addr} {fd : FuncData} (X0 : Txt K mg) (L0 : TxtL K mg) (NN : TxtN K mg) (I : TxtI K mg) (BW : TxtB K mg) (R : TxtR K mg) (RC : RulesC K mg CR) (RM : RulesM K CR) (M : TxtM K mg) (hsub : PySem.W.subIn K (.ref CR) (.type "str") = some false) (CF : CanF K mg) (L : TxtL21 K mg) (XD : ExcF K mg "InvalidDemand" "value" CD) (XR : ExcF K mg "InvalidRules" "value" CI) (nRD : PySem.W.exmOne K (.ref CI) (.ref CD) = some false)
    (F : Fun K "law" "law" s_law f fd) : FnOk P w K mg base CX0 10 f fd ["_law_script"] (spLaw K) := by
  refine F.ok sc_law (fun vs H Q E h => ?_) (fun cdv A outer s H vs Q E hr h => ?_)
  · obtain ⟨a, ns, rfl, _⟩ := h
    rfl
  · obtain ⟨a, ns, rfl, hs, h63, k⟩ := h
    have hu := hr.units
    refine ⟨_, (pss_cons (ps_for PassesOwn.never rfl (pi_range1 rfl L0.n_range (pa_cons pe_int pa_nil)) (pg_name (i := 1) sc_law.nd rfl (.inl rfl))
        (pss_cons (ps_set (i := 2) sc_law.nd rfl (.inr rfl) (pe_c (ok__law_purse X0 L0) hr (by decide) rfl (pa_cons (pv 0) (pa_cons (pv 1) pa_nil))))
          (pss_cons (ps_set (i := 3) sc_law.nd rfl (.inr rfl) (pe_c (ok__law_world L0 NN BW) hr (by decide) rfl (pa_cons (pv 2) pa_nil)))
          (C8.pss_cut (ps_set (i := 4) sc_law.nd rfl (.inl rfl) (pe_lst (pa_cons (pe_c (ok__law_rules X0 L0 NN L) hr (by decide) rfl (pa_cons (pv 2) (pa_cons (pv 3) pa_nil))) (pa_cons (pe_tup (pa_cons pe_bl (pa_cons (pe_lst pa_nil) pa_nil))) (pa_cons (pe_tup (pa_cons pe_bl (pa_cons (pe_lst pa_nil) pa_nil))) pa_nil)))))
          (C8.pss_cut (ps_setLc (i := 5) (own := [("_law_turn", 10)]) (g := gName 10) (tt := tYes) (te := tCall spDemand [] E0 (tCons (tVar 2) (tCons (tVar 3) tNil))) rfl sc_law.nd rfl rfl (sw_true rfl rfl rfl (by decide +kernel)) (pi_range1 rfl L0.n_range (pa_cons pe_int pa_nil)) (blkOk_by (own := [("_law_turn", 10)]) (N := ["_law_script", "_law_at", "_law_purse_here", "_law_places", "_law_books", "_law_some", "_law_one", "_law_other", "_law_value", "_law_pair", "_law_turn", "_law_book"]) (sc := defScope s_law) (by decide +kernel)) (fun _ _ _ _ _ => pg_name (i := 10) sc_law.nd rfl (Or.inl rfl)) (fun _ _ _ _ _ => pts_nil) (fun _ _ _ _ _ => by exact (pe_c (ok__law_demand X0 L0 NN L) hr (by decide) rfl (pa_cons (pv 2) (pa_cons (pv 3) pa_nil)))))
          (C8.pss_cut (ps_for PassesOwn.never rfl (pi_list (pv 5)) (pg_name (i := 6) sc_law.nd rfl (.inr rfl))
            (pss_one (ps_for PassesOwn.never rfl (pi_list (pv 5)) (pg_name (i := 7) sc_law.nd rfl (.inr rfl))
              (C8.pss_cut (ps_asg (pe_ifExp (pt_cmpR (op_eqU hu) (pe_c (ok__law_draw L0) hr (by decide) rfl (pa_cons (pv 2) (pa_cons pe_int pa_nil))) pe_int (by rfl)) (pe_tup (pa_cons pe_bl (pa_cons (pe_lst (pa_cons (pe_tup (pa_cons (pe_ix ix_seq (pv 6) pe_int (fun _ _ => rfl)) (pa_cons (pe_ix ix_seq (pv 7) pe_int (fun _ _ => rfl)) pa_nil))) pa_nil)) pa_nil))) (pe_tup (pa_cons pe_bl (pa_cons (pe_lst pa_nil) pa_nil)))) (pg_sub (pv 4) pe_int set_list))
              (pss_one (ps_if (pt_cmpR (op_neU hu) (pe_lc (own := [("_law_book", 11)]) (g := gName 11) (tt := tNot (tTest (tCall (spDRight P w CR) [] E0 (tCons (tVar 6) (tCons (tVar 7) (tCons (tVar 11) tNil)))))) (te := tVar 11) rfl sc_law.nd (pi_list (pv 4)) (blkOk_by (own := [("_law_book", 11)]) (N := ["_law_script", "_law_at", "_law_purse_here", "_law_places", "_law_books", "_law_some", "_law_one", "_law_other", "_law_value", "_law_pair", "_law_turn", "_law_book"]) (sc := defScope s_law) (by decide +kernel)) (fun _ _ _ _ _ => pg_name (i := 11) sc_law.nd rfl (Or.inl rfl)) (fun _ _ _ _ _ => by exact pts_one (pt_not (pt_val (pe_c (ok__law_right X0 NN I R RC RM M hsub CF L) hr (by decide) rfl (pa_cons (pv 6) (pa_cons (pv 7) (pa_cons (pv 11) pa_nil))))))) (fun _ _ _ _ _ => pv 11)) (pe_lst pa_nil) (by rfl)) (pss_one (ps_ret pe_bl)) pss_nil))))))
          (C8.pss_cut (ps_for PassesOwn.never rfl (pi_list (pe_c (ok__law_bad X0 NN I R RC L) hr (by decide) rfl (pa_cons (pe_ix ix_seq (pv 5) pe_int (fun _ _ => rfl)) pa_nil))) (pg_name (i := 8) sc_law.nd rfl (.inl rfl))
            (pss_one (ps_for PassesOwn.never rfl (pi_list (pe_lst (pa_cons (pe_tup (pa_cons (pv 8) (pa_cons (pe_ix ix_seq (pv 5) pe_int (fun _ _ => rfl)) pa_nil))) (pa_cons (pe_tup (pa_cons (pe_ix ix_seq (pv 5) pe_int (fun _ _ => rfl)) (pa_cons (pv 8) pa_nil))) (pa_cons (pe_tup (pa_cons (pv 8) (pa_cons pe_non pa_nil))) pa_nil))))) (pg_name (i := 9) sc_law.nd rfl (.inl rfl))
              (pss_one (ps_if (pt_cmpR (op_neI (n := 1) (room66 hr)) (pe_c (ok__law_raised X0 NN I R RC RM M hsub CF XD XR nRD L) hr (by decide) rfl (pa_cons (pe_ix ix_seq (pv 9) pe_int (fun _ _ => rfl)) (pa_cons (pe_ix ix_seq (pv 9) pe_int (fun _ _ => rfl)) (pa_cons pe_int pa_nil)))) (pe_lst (pa_cons pe_str (pa_cons (pv 8) pa_nil))) (by rfl)) (pss_one (ps_ret pe_bl)) pss_nil)))))
          (pss_one (ps_for PassesOwn.never rfl (pi_list (pe_lst (pa_cons pe_int (pa_cons pe_bl (pa_cons pe_bl (pa_cons (pe_lst pa_nil) (pa_cons (pe_tup (pa_cons pe_bl (pa_cons (pe_lst pa_nil) pa_nil))) (pa_cons pe_str pa_nil)))))))) (pg_name (i := 8) sc_law.nd rfl (.inl rfl))
            (pss_one (ps_if (pt_cmpR (op_neI (n := 1) (room66 hr)) (pe_c (ok__law_raised X0 NN I R RC RM M hsub CF XD XR nRD L) hr (by decide) rfl (pa_cons (pe_ix ix_seq (pv 5) pe_int (fun _ _ => rfl)) (pa_cons (pe_ix ix_seq (pv 5) pe_int (fun _ _ => rfl)) (pa_cons (pv 8) pa_nil)))) (pe_lst (pa_cons pe_str (pa_cons (pv 8) pa_nil))) (by rfl)) (pss_one (ps_ret pe_bl)) pss_nil)))))))))))
      (pss_one (ps_ret pe_bl))), ?_⟩
    k_extra "r_LL21"
    refine ⟨4, rfl, by decide, by decide, q_forR (lo := 0) (n := 4) (fun i σ H' => ∃ v1 v2 v3 v4 v5 v6 v7 v8 v9 : Option V, σ = [some (.ref a), v1, v2, v3, v4, v5, v6, v7, v8, v9, none, none] ∧ SqL K H' a (ns.map V.int)) ⟨_, _, _, _, _, _, _, _, _, rfl, hs⟩ ?_ ?_⟩
    rotate_left
    · rintro σ H0 ⟨v1, v2, v3, v4, v5, v6, v7, v8, v9, rfl, hs0⟩
      k_extra "r_LL21"
      exact k H0
    rintro i σ H0 hi ⟨v1, v2, v3, v4, v5, v6, v7, v8, v9, rfl, hs0⟩
    k_extra "r_LL21"
    refine ⟨a, ns, 0 + (i : Int), rfl, hs0, by omega, by omega, fun pu H1 np S1 hp1 => ?_⟩
    k_extra "r_LL21"
    refine ⟨pu, rfl, hp1, fun lp H2 xs fs0 nns nlp hl pls nf nn f3 n6 hp2 b2 => ?_⟩
    have sc2 : Sc1 K H2 pu a (ns.map V.int) := (Sc1.of hs0 np S1).but b2
    have wl : xs.length = (worldOf fs0 nns).length := pls.len
    have wz : xs.length ≤ 18 := by
      rw [wl, worldOf_len]
      exact Nat.le_trans (Nat.mul_le_mul f3 n6) (by decide)
    have wne : xs ≠ [] := fun z => by
      have : 0 < (worldOf fs0 nns).length := by
        rw [worldOf_len]
        exact Nat.mul_pos (List.length_pos_iff.mpr nf.2.2) (List.length_pos_iff.mpr nn.2.2)
      rw [← wl, z] at this
      cases this
    have wn : ∀ q ∈ worldOf fs0 nns, NmP q := fun q hq => ⟨nf.1 _ (worldOf_mem hq).1, nn.1 _ (worldOf_mem hq).2⟩
    obtain ⟨ps, eps⟩ : ∃ ps, ps = worldOf fs0 nns := ⟨_, rfl⟩
    rw [← eps] at wl wn pls
    have lpu : lp ≠ pu := fun z => by obtain ⟨_, _, _, e2, _⟩ := hp1; rw [z, e2] at nlp; cases nlp
    clear eps nf nn f3 n6
    have B02 : ∀ c o, c ≠ pu → H0 c = some o → H2 c = some o := fun c o n e => b2 _ _ n (S1 _ _ e)
    have n02 : ∀ {c : Addr}, c ≠ pu → H2 c = none → H0 c = none := fun n e => S1.free (b2.free n e)
    clear b2
    have pu2 : ∀ {b : Addr} {H' : Hp}, Purse H' pu → H' b = none → b ≠ pu := fun p e z => by obtain ⟨_, _, _, e2, _⟩ := p; rw [z, e2] at e; cases e
    k_extra "r_LL21"
    refine q_cut8 (M := fun σ H' => ∃ bk b0 b1 b2, σ = [some (.ref a), some (.int (0 + (i : Int))), some (.ref pu), some (.ref lp), some (.ref bk), v5, v6, v7, v8, v9, none, none] ∧ Purse H' pu ∧ bk ≠ pu ∧ H2 bk = none ∧ But pu H2 H' ∧ H' bk = some (.lst [b0, b1, b2]) ∧ BkOk (wob pu bk H') b0 ∧ BkOk (wob pu bk H') b1 ∧ BkOk (wob pu bk H') b2) ?_ ?_
    · k_extra "r_LL21"
      refine ⟨pu, lp, xs, ps, rfl, hp2, hl, lpu, pls, wne, by omega, wn, fun t3 c3 H3 A3 ts3 rs3 nt3 nc3 tp3 cp3 ht3 hc3 rn3 nr3 lr3 hp3 b3 => ?_⟩
      k_extra "r_LL21"
      refine q_newL (by show 0 ≤ sizeLine; decide) fun l4 H4 n4 S4 h4 => ?_
      k_extra "r_LL21"
      refine q_newT (by show 2 ≤ sizeLine; decide) fun t5 H5 n5 S5 h5 => ?_
      k_extra "r_LL21"
      refine q_newL (by show 0 ≤ sizeLine; decide) fun l6 H6 n6 S6 h6 => ?_
      k_extra "r_LL21"
      refine q_newT (by show 2 ≤ sizeLine; decide) fun t7 H7 n7 S7 h7 => ?_
      k_extra "r_LL21"
      refine q_newL (by show 3 ≤ sizeLine; decide) fun bk H8 n8 S8 h8 => ?_
      k_extra "r_LL21"
      have T7 := S8
      have T6 := S7.trans T7
      have T5 := S6.trans T6
      have T4 := S5.trans T5
      have T3 := S4.trans T4
      have S37 := S4.trans (S5.trans (S6.trans S7))
      have hp7 := hp3.mono S37
      have ne : ∀ {c : Addr} {o : HO}, H7 c = some o → c ≠ bk := fun e z => by rw [z, n8] at e; cases e
      have n3b : H3 bk = none := S37.free n8
      have np4 := pu2 hp3 n4
      have np5 := pu2 (hp3.mono S4) n5
      have np6 := pu2 (hp3.mono (S4.trans S5)) n6
      have np7 := pu2 (hp3.mono (S4.trans (S5.trans S6))) n7
      have gt : ∀ {c : Addr} {o : HO}, c ≠ pu → H7 c = some o → wob pu bk H8 c = some o := fun h1 h2 => (wob_get h1 (ne h2)).trans (S8 _ _ h2)
      have G3 : RnsAt (wob pu bk H8) ts3 rs3 := RnsAt.tkN (fun c us e => gt (fun z => by obtain ⟨_, _, _, e2, _⟩ := hp3; rw [z, e2] at e; cases e) (S37 _ _ e)) rn3
      refine ⟨bk, _, _, _, rfl, hp7.mono S8, pu2 hp7 n8, b3.free (pu2 hp7 n8) n3b, b3.trans (But.of T3), h8, ⟨A3, rs3, ⟨t3, c3, ts3, rfl, gt tp3 (S37 _ _ ht3), gt cp3 (S37 _ _ hc3), G3⟩, nr3, by omega⟩, ⟨true, [], ⟨t5, l4, [], rfl, gt np5 ((S6.trans S7) _ _ h5), gt np4 ((S5.trans (S6.trans S7)) _ _ h4), .nil⟩, (fun _ m => by cases m), by decide⟩, ⟨false, [], ⟨t7, l6, [], rfl, gt np7 h7, gt np6 (S7 _ _ h6), .nil⟩, (fun _ m => by cases m), by decide⟩⟩
    rintro σ H3 ⟨bk, b0, b1, b2, rfl, hp3, bkp, nbk, b3, hbk, ok0, ok1, ok2⟩
    have hl3 := b3 _ _ lpu hl
    have pl3 := pls.nl (NL.pu hp2 b3)
    have B03 : ∀ c o, c ≠ pu → H0 c = some o → H3 c = some o := fun c o n e => b3 _ _ n (B02 c o n e)
    have n0b := n02 bkp nbk
    have lpb : lp ≠ bk := fun z => by rw [← z, hl] at nbk; cases nbk
    clear hl pls sc2 hp2 b3 hp1 S1 nlp B02 n02
    refine q_cut8 (M := fun σ H' => ∃ sm ys Ds, σ = [some (.ref a), some (.int (0 + (i : Int))), some (.ref pu), some (.ref lp), some (.ref bk), some (.ref sm), v6, v7, v8, v9, none, none] ∧ ys.length = 7 ∧ (∀ D ∈ Ds, Dem.Ok D) ∧ InvL K pu bk H' a lp sm ns xs ps ys Ds) ?_ ?_
    · k_extra "r_LL21"
      refine s_lc (s_rng1 ?_)
      k_extra "r_LL21"
      refine ⟨_, rfl, by decide, by decide, fun D nD => ?_⟩
      have Dpu := pu2 hp3 nD
      have Dbk : D ≠ bk := fun z => by rw [z, hbk] at nD; cases nD
      refine lc_range (lo := 0) (n := 7) (fun i H' => ∃ ys Ds, H' D = some (.lst ys) ∧ PySem.Paired (DemAt H') ys Ds ∧ (∀ D ∈ Ds, Dem.Ok D) ∧ ys.length = i ∧ Purse H' pu ∧ But pu H3 H') ⟨[], [], upd_same, .nil, (fun _ m => by cases m), rfl, hp3.mono (Same.new nD), But.of (Same.new nD)⟩ ?_ ?_
      · rintro jj H4 hjj ⟨ys, Ds, hD, pd, oD, ly, p4, b4⟩
        k_extra "r_LL21"
        refine ⟨rfl, ?_⟩
        k_extra "r_LL21"
        refine ⟨pu, lp, xs, ps, rfl, p4, b4 _ _ lpu hl3, lpu, pl3.nl (NL.pu hp3 b4), wne, by omega, wn, fun x H5 D5 hx5 ok5 p5 b5 => ?_⟩
        have hD5 := b5 _ _ Dpu hD
        have N5 := TKeep.nlP p4 b5
        have Nk : TKeep H5 (upd H5 D (.lst (ys ++ [x]))) := TKeep.put hD5 fun _ z => nomatch z
        refine ⟨ys, hD5, szlt (by omega), _, Ds ++ [D5], upd_same, Bt.Paired.snoc (Paired.mapP pd fun _ _ z => (z.tkN N5).tkN Nk) (hx5.tkN Nk), fun z mz => ?_, by simp; omega, ?_, fun c o nc e => (upd_ne (ne_of_none e nD)).trans (b5 _ _ nc (b4 _ _ nc e))⟩
        · rcases List.mem_append.mp mz with mz | mz
          · exact oD z mz
          · rw [List.mem_singleton.mp mz]; exact ok5
        · obtain ⟨_, _, _, e2, h2⟩ := p5
          exact ⟨_, _, _, (upd_ne Dpu.symm).trans e2, h2⟩
      · rintro H4 ⟨ys, Ds, hD, pd, oD, ly, p4, b4⟩
        k_extra "r_LL21"
        have hbk4 := b4 _ _ bkp hbk
        have tk := tk_wob p4 hbk4
        have G : Same (wob pu bk H3) (wob pu bk H4) := wob_same fun c o n1 _ e => b4 _ _ n1 e
        have SG : Same H0 (wob pu bk H4) := wob_of np n0b fun c o n1 _ e => b4 _ _ n1 (B03 c o n1 e)
        exact ⟨D, ys, Ds, rfl, ly, oD, p4, ⟨b0, b1, b2, hbk4, ok0.mono G, ok1.mono G, ok2.mono G⟩, SqL_monoN (ext_same SG) hs0, (wob_get lpu lpb).trans (b4 _ _ lpu hl3), Pls.tkN tk (pl3.nl (NL.pu hp3 b4)), (wob_get Dpu Dbk).trans hD, Paired.mapP pd fun _ _ z => z.tkN tk⟩
    clear hl3 pl3 hp3 hbk ok0 ok1 ok2 B03
    rintro σ H4 ⟨sm, ys, Ds, rfl, ly, oD, w4⟩
    have pick : ∀ {H' : Hp} {j : Nat} {y : V}, InvL K pu bk H' a lp sm ns xs ps ys Ds → ys[j]? = some y → ∃ D, D.Ok ∧ DemAt (wob pu bk H') y D := fun w e => by
      obtain ⟨D, eD, h⟩ := Paired.get w.w.ds e
      exact ⟨D, oD D (List.mem_of_getElem? eD), h⟩
    refine q_cut8 (M := fun σ H' => ∃ v6' v7', σ = [some (.ref a), some (.int (0 + (i : Int))), some (.ref pu), some (.ref lp), some (.ref bk), some (.ref sm), v6', v7', v8, v9, none, none] ∧ InvL K pu bk H' a lp sm ns xs ps ys Ds) ?_ ?_
    · k_extra "r_LL21"
      refine ⟨sm, rfl, ⟨_, SqL.of (wob_sub _ _ w4.w.hs)⟩, q_forL (K := K) (a := sm) (xs := ys) (fun i' σ H' => ∃ v6' v7', σ = [some (.ref a), some (.int (0 + (i : Int))), some (.ref pu), some (.ref lp), some (.ref bk), some (.ref sm), v6', v7', v8, v9, none, none] ∧ InvL K pu bk H' a lp sm ns xs ps ys Ds) ⟨_, _, rfl, w4⟩ (fun i' σ H' _ ⟨_, _, _, w⟩ => SqL.of (wob_sub _ _ w.w.hs)) ?_ ?_⟩
      · rintro i' x σ H5 hxi ⟨v6', v7', rfl, w5⟩
        k_extra "r_LL21"
        refine ⟨sm, rfl, ⟨_, SqL.of (wob_sub _ _ w5.w.hs)⟩, q_forL (K := K) (a := sm) (xs := ys) (fun j' σ H' => ∃ v7, σ = [some (.ref a), some (.int (0 + (i : Int))), some (.ref pu), some (.ref lp), some (.ref bk), some (.ref sm), some x, v7, v8, v9, none, none] ∧ InvL K pu bk H' a lp sm ns xs ps ys Ds) ⟨_, rfl, w5⟩ (fun i' σ H' _ ⟨_, _, w⟩ => SqL.of (wob_sub _ _ w.w.hs)) ?_ ?_⟩
        · rintro j' y σ H6 hyj ⟨v7, rfl, w6⟩
          k_extra "r_LL21"
          refine q_cut8 (M := fun σ H' => σ = [some (.ref a), some (.int (0 + (i : Int))), some (.ref pu), some (.ref lp), some (.ref bk), some (.ref sm), some x, some y, v8, v9, none, none] ∧ InvL K pu bk H' a lp sm ns xs ps ys Ds) ?_ ?_
          · k_extra "r_LL21"
            refine ⟨pu, 3, rfl, w6.pu, by decide, by decide, fun m H7 m0 m1 p7 b7 => ?_⟩
            refine q_eq rfl ?_
            generalize decide (V.int m = V.int 0) = bb
            have G7 : Same (wob pu bk H6) (wob pu bk H7) := wob_same fun c o n1 _ e => b7 _ _ n1 e
            have w7 : W21 K (wob pu bk H7) a lp sm ns xs ps ys Ds := w6.w.mono G7
            obtain ⟨b0, b1, b2, hb6, k0, k1, k2⟩ := w6.bk
            have hb7 := b7 _ _ bkp hb6
            obtain ⟨Dx, okx, dx⟩ := pick w6 hxi
            obtain ⟨Dy, oky, dy⟩ := pick w6 hyj
            have fin : ∀ {H8 : Hp} {nb : V}, Same H7 H8 → BkOk (wob pu bk H8) nb → Unit → InvL K pu bk (upd H8 bk (.lst [b0, nb, b2])) a lp sm ns xs ps ys Ds := fun {H8 nb} S8 kn _ => by
              have G8 : Same (wob pu bk H7) (wob pu bk (upd H8 bk (.lst [b0, nb, b2]))) := wob_same fun c o _ n2 e => (upd_ne n2).trans (S8 _ _ e)
              have G9 : Same (wob pu bk H8) (wob pu bk (upd H8 bk (.lst [b0, nb, b2]))) := wob_same fun c o _ n2 e => (upd_ne n2).trans e
              refine ⟨?_, ⟨b0, nb, b2, upd_same, (k0.mono G7).mono G8, kn.mono G9, (k2.mono G7).mono G8⟩, w7.mono G8⟩
              obtain ⟨_, _, _, e2, h2⟩ := p7.mono S8
              exact ⟨_, _, _, (upd_ne bkp.symm).trans e2, h2⟩
            cases bb with
            | true =>
              refine q_test (s_if1 rfl ?_)
              obtain ⟨ax, ux, rfl, hax, pux⟩ := dx.mono (G7.trans wob_sub)
              obtain ⟨ay, uy, rfl, hay, puy⟩ := dy.mono (G7.trans wob_sub)
              k_extra "r_LL21"
              refine q_ixT (SqT.of hax) (at_of (j := 0) rfl rfl) ?_
              k_extra "r_LL21"
              refine q_ixT (SqT.of hay) (at_of (j := 0) rfl rfl) ?_
              k_extra "r_LL21"
              refine q_newT (by show 2 ≤ sizeLine; decide) fun t1 H8 n8 S8 h8 => ?_
              k_extra "r_LL21"
              refine q_newL (by show 1 ≤ sizeLine; decide) fun t2 H9 n9 S9 h9 => ?_
              k_extra "r_LL21"
              refine q_newT (by show 2 ≤ sizeLine; decide) fun t3 Ha na Sa ha => ?_
              k_extra "r_LL21"
              have S7a := S8.trans (S9.trans Sa)
              refine q_setL (S7a _ _ hb7) rfl ?_
              k_extra "r_LL21"
              have nbk2 : ∀ {c : Addr} {H' : Hp}, Same H7 H' → H' c = none → c ≠ bk ∧ c ≠ pu := fun S e => ⟨(fun z => by rw [z, S _ _ hb7] at e; cases e), pu2 (p7.mono S) e⟩
              have q1 := nbk2 (Same.refl _) n8
              have q2 := nbk2 S8 n9
              have q3 := nbk2 (S8.trans S9) na
              refine ⟨rfl, fin S7a ⟨true, [(Dx.pl, Dy.pl)], ⟨t3, t2, _, rfl, (wob_get q3.2 q3.1).trans ha, (wob_get q2.2 q2.1).trans (Sa _ _ h9), .cons ⟨t1, ux, uy, rfl, (wob_get q1.2 q1.1).trans ((S9.trans Sa) _ _ h8), (pux.mono S7a).tkN (tk_wob (p7.mono S7a) (S7a _ _ hb7)), (puy.mono S7a).tkN (tk_wob (p7.mono S7a) (S7a _ _ hb7))⟩ .nil⟩, fun r mr => by rw [List.mem_singleton.mp mr]; exact ⟨okx.1, oky.1⟩, by simp⟩ ()⟩
            | false =>
              refine q_test (s_if0 rfl ?_)
              k_extra "r_LL21"
              refine q_newL (by show 0 ≤ sizeLine; decide) fun t2 H9 n9 S9 h9 => ?_
              k_extra "r_LL21"
              refine q_newT (by show 2 ≤ sizeLine; decide) fun t3 Ha na Sa ha => ?_
              k_extra "r_LL21"
              have S7a := S9.trans Sa
              refine q_setL (S7a _ _ hb7) rfl ?_
              k_extra "r_LL21"
              have nbk2 : ∀ {c : Addr} {H' : Hp}, Same H7 H' → H' c = none → c ≠ bk ∧ c ≠ pu := fun S e => ⟨(fun z => by rw [z, S _ _ hb7] at e; cases e), pu2 (p7.mono S) e⟩
              have q2 := nbk2 (Same.refl _) n9
              have q3 := nbk2 S9 na
              exact ⟨rfl, fin S7a ⟨true, [], ⟨t3, t2, [], rfl, (wob_get q3.2 q3.1).trans ha, (wob_get q2.2 q2.1).trans (Sa _ _ h9), .nil⟩, (fun _ m => by cases m), by decide⟩ ()⟩
          rintro σ H7 ⟨rfl, w7⟩
          obtain ⟨Dx, okx, dx⟩ := pick w7 hxi
          obtain ⟨Dy, oky, dy⟩ := pick w7 hyj
          obtain ⟨b0, b1, b2, hb7, k0, k1, k2⟩ := w7.bk
          k_extra "r_LL21"
          refine s_lc ?_
          k_extra "r_LL21"
          refine ⟨bk, rfl, ⟨_, SqL.of hb7⟩, fun D nD => lc_list (K := K) (a := bk) (fun i H' => Same H7 H' ∧ H' D = some (.lst [])) ⟨Same.new nD, upd_same⟩ (fun i H' _ h => SqL.of (h.1 _ _ hb7)) ?_ ?_⟩
          · rintro jj b H8 hb ⟨S8, h8⟩
            have kb : BkOk H8 b := by
              have m1 := List.mem_of_getElem? hb
              simp only [List.mem_cons, List.not_mem_nil, or_false] at m1
              rcases m1 with rfl | rfl | rfl
              · exact k0.mono (wob_sub.trans S8)
              · exact k1.mono (wob_sub.trans S8)
              · exact k2.mono (wob_sub.trans S8)
            obtain ⟨Ab, rb, hsb, nrb, lrb⟩ := kb
            k_extra "r_LL21"
            refine ⟨rfl, ?_⟩
            k_extra "r_LL21"
            refine ⟨x, y, b, Dx, Dy, Ab, rb, rfl, dx.mono (wob_sub.trans S8), okx, dy.mono (wob_sub.trans S8), oky, hsb, nrb, lrb, fun H9 S9 => ?_⟩
            refine q_test (s_if0 rfl ?_)
            exact ⟨S8.trans S9, S9 _ _ h8⟩
          · rintro H8 ⟨S8, h8⟩
            k_extra "r_LL21"
            refine q_newL (by show 0 ≤ sizeLine; decide) fun l9 H9 n9 S9 h9 => ?_
            refine q_neD (.lst (SqL.of (S9 _ _ h8)) .nil) (.lst (SqL.of h9) .nil) (by decide) (by decide) ?_
            rw [show PyData.eqv (.list []) (.list []) = true by decide]
            refine q_test (s_if0 rfl ?_)
            k_extra "r_LL21"
            exact ⟨_, rfl, w7.mono (S8.trans S9)⟩
        · rintro σ H6 ⟨v7, rfl, w6⟩
          k_extra "r_LL21"
          exact ⟨_, _, rfl, w6⟩
      · rintro σ H5 ⟨v6', v7', rfl, w5⟩
        k_extra "r_LL21"
        exact ⟨_, _, rfl, w5⟩
    rintro σ H5 ⟨v6', v7', rfl, w5⟩
    have F5 : W21 K H5 a lp sm ns xs ps ys Ds := w5.w.mono wob_sub
    clear w4 w5 pick hs0 np
    have pk : ∀ {j : Nat} {y : V}, ys[j]? = some y → ∃ D, D.Ok ∧ DemAt H5 y D := fun e => by
      obtain ⟨D, eD, h⟩ := Paired.get F5.ds e
      exact ⟨D, oD D (List.mem_of_getElem? eD), h⟩
    obtain ⟨y0, e0⟩ : ∃ y, ys[0]? = some y := ⟨_, List.getElem?_eq_getElem (by omega)⟩
    obtain ⟨y1, e1⟩ : ∃ y, ys[1]? = some y := ⟨_, List.getElem?_eq_getElem (by omega)⟩
    obtain ⟨D0, k0, h0⟩ := pk e0
    obtain ⟨D1, k1, h1⟩ := pk e1
    have hsm := F5.hs
    have fin : ∀ {H' : Hp} {D l : Addr} {z : Str} {v : V} {Q' : VK}, PyData.strOk z = true → SelfV K H' v → H' D = some (.lst [.str z, v]) → H' l = some (.lst [.str z, v]) → Q' (.bl false) H' → rNeI K 1 (.ref D) (.ref l) H' Q' := fun hz sv h1 h2 q => ⟨_, _, _, _, _, rfl, rfl, .inl ⟨SqL.of h1, SqL.of h2⟩, selfs (fun y hy => by
      rcases List.mem_cons.mp hy with rfl | hy
      · exact .str hz
      · rw [List.mem_singleton.mp hy]; exact sv), q⟩
    refine q_cut8 (M := fun σ H' => ∃ v8 v9, σ = [some (.ref a), some (.int (0 + (i : Int))), some (.ref pu), some (.ref lp), some (.ref bk), some (.ref sm), v6', v7', v8, v9, none, none] ∧ Same H5 H') ?_ ?_
    · k_extra "r_LL21"
      refine q_ixL (SqL.of hsm) (atI_nat (j := 0) e0) ?_
      k_extra "r_LL21"
      refine ⟨y0, D0, rfl, h0, k0, fun lb H6 zs nlb S6 hb lz bz => ?_⟩
      refine ⟨lb, rfl, ⟨_, SqL.of hb⟩, q_forL (K := K) (a := lb) (xs := zs) (fun i' σ H' => ∃ v8 v9, σ = [some (.ref a), some (.int (0 + (i : Int))), some (.ref pu), some (.ref lp), some (.ref bk), some (.ref sm), v6', v7', v8, v9, none, none] ∧ Same H6 H') ⟨_, _, rfl, Same.refl _⟩ (fun i' σ H' _ ⟨_, _, _, S⟩ => SqL.of (S _ _ hb)) ?_ ?_⟩
      · rintro i' v σ H7 hv ⟨v8', v9', rfl, S7⟩
        have bv := (bz v (List.mem_of_getElem? hv)).mono S7
        have S57 := S6.trans S7
        k_extra "r_LL21"
        refine q_ixL (SqL.of (S57 _ _ hsm)) (atI_nat (j := 1) e1) ?_
        k_extra "r_LL21"
        refine q_newT (by show 2 ≤ sizeLine; decide) fun t1 H8 n8 S8 h8 => ?_
        k_extra "r_LL21"
        refine q_ixL (SqL.of ((S57.trans S8) _ _ hsm)) (atI_nat (j := 1) e1) ?_
        k_extra "r_LL21"
        refine q_newT (by show 2 ≤ sizeLine; decide) fun t2 H9 n9 S9 h9 => ?_
        k_extra "r_LL21"
        refine q_newT (by show 2 ≤ sizeLine; decide) fun t3 Ha na Sa ha => ?_
        k_extra "r_LL21"
        refine q_newL (by show 3 ≤ sizeLine; decide) fun l4 Hb nb Sb hb4 => ?_
        have S7b := S8.trans (S9.trans (Sa.trans Sb))
        have S5b := S57.trans S7b
        refine ⟨l4, rfl, ⟨_, SqL.of hb4⟩, q_forL (K := K) (a := l4) (fun i' σ H' => ∃ v9, σ = [some (.ref a), some (.int (0 + (i : Int))), some (.ref pu), some (.ref lp), some (.ref bk), some (.ref sm), v6', v7', some v, v9, none, none] ∧ Same Hb H') ⟨_, rfl, Same.refl _⟩ (fun i' σ H' _ ⟨_, _, S⟩ => SqL.of (S _ _ hb4)) ?_ ?_⟩
        · rintro j' pr σ Hc hp ⟨v9, rfl, Sc⟩
          have S5c := S5b.trans Sc
          have bvc := bv.mono (S7b.trans Sc)
          have d1 := (h1.mono S5c).dm (K := K) (P := P) (w := w) (CR := CR) k1
          obtain ⟨t, u1, u2, b, c, rfl, ht, hb1, hb2, nrr, etag⟩ : ∃ t u1 u2 b c, pr = .ref t ∧ Hc t = some (.tup [u1, u2]) ∧ DmK K P w CR Hc u1 b ∧ (b = true → DmK K P w CR Hc u2 c) ∧ (b = true → c = true → False) ∧ tagB b c u1 u2 (.int 5) = [.str "demand", v] := by
            have m1 := List.mem_of_getElem? hp
            simp only [List.mem_cons, List.not_mem_nil, or_false] at m1
            rcases m1 with rfl | rfl | rfl
            · exact ⟨t1, v, y1, false, false, rfl, ((S9.trans (Sa.trans Sb)).trans Sc) _ _ h8, bvc.1, (fun e => Bool.noConfusion e), (fun e => Bool.noConfusion e), rfl⟩
            · exact ⟨t2, y1, v, true, false, rfl, ((Sa.trans Sb).trans Sc) _ _ h9, d1, (fun _ => bvc.1), (fun _ e => Bool.noConfusion e), rfl⟩
            · exact ⟨t3, v, .non, false, false, rfl, (Sb.trans Sc) _ _ ha, bvc.1, (fun e => Bool.noConfusion e), (fun e => Bool.noConfusion e), rfl⟩
          k_extra "r_LL21"
          refine q_ixT (SqT.of ht) (at_of (j := 0) rfl rfl) ?_
          k_extra "r_LL21"
          refine q_ixT (SqT.of ht) (at_of (j := 1) rfl rfl) ?_
          k_extra "r_LL21"
          refine ⟨u1, u2, .int 5, b, c, rfl, hb1, hb2, fun e1 e2 => (nrr e1 e2).elim, fun D Hd nD Sd hD => ?_⟩
          rw [etag] at hD
          k_extra "r_LL21"
          refine q_newL (by show 2 ≤ sizeLine; decide) fun l14 He n14 Se h14 => ?_
          refine fin (by decide +kernel) (bvc.2.mono (Sd.trans Se)) (Se _ _ hD) h14 ?_
          refine q_test (s_if0 rfl ?_)
          k_extra "r_LL21"
          exact ⟨_, rfl, Sc.trans (Sd.trans Se)⟩
        · rintro σ Hc ⟨v9, rfl, Sc⟩
          k_extra "r_LL21"
          exact ⟨_, _, rfl, S7.trans (S7b.trans Sc)⟩
      · rintro σ H7 ⟨v8', v9', rfl, S7⟩
        k_extra "r_LL21"
        exact ⟨_, _, rfl, S6.trans S7⟩
    rintro σ H6 ⟨v8', v9', rfl, S6⟩
    k_extra "r_LL21"
    refine q_newL (by show 0 ≤ sizeLine; decide) fun o1' H7 n7 S7 h7 => ?_
    k_extra "r_LL21"
    refine q_newL (by show 0 ≤ sizeLine; decide) fun o2' H8 n8 S8 h8 => ?_
    k_extra "r_LL21"
    refine q_newT (by show 2 ≤ sizeLine; decide) fun o3 H9 n9 S9 h9 => ?_
    k_extra "r_LL21"
    refine q_newL (by show 6 ≤ sizeLine; decide) fun l11 Ha na Sa ha => ?_
    have S5a := S6.trans (S7.trans (S8.trans (S9.trans Sa)))
    refine ⟨l11, rfl, ⟨_, SqL.of ha⟩, q_forL (K := K) (a := l11) (fun i' σ H' => ∃ v8 v9, σ = [some (.ref a), some (.int (0 + (i : Int))), some (.ref pu), some (.ref lp), some (.ref bk), some (.ref sm), v6', v7', v8, v9, none, none] ∧ Same Ha H') ⟨_, _, rfl, Same.refl _⟩ (fun i' σ H' _ ⟨_, _, _, S⟩ => SqL.of (S _ _ ha)) ?_ ?_⟩
    · rintro i' v σ Hb hv ⟨v8, v9, rfl, Sb⟩
      have S5b := S5a.trans Sb
      obtain ⟨T, nn, pT, sv⟩ : ∃ T, v ≠ .non ∧ Pl K Hb v T ∧ SelfV K Hb v := by
        have m1 := List.mem_of_getElem? hv
        simp only [List.mem_cons, List.not_mem_nil, or_false] at m1
        rcases m1 with rfl | rfl | rfl | rfl | rfl | rfl
        · exact ⟨_, (fun e => by cases e), Pl.int, .int⟩
        · exact ⟨_, (fun e => by cases e), Pl.bl, .bl⟩
        · exact ⟨_, (fun e => by cases e), Pl.bl, .bl⟩
        · exact ⟨_, (fun e => by cases e), Pl.lst ((S8.trans (S9.trans (Sa.trans Sb))) _ _ h7), .ref _⟩
        · exact ⟨_, (fun e => by cases e), Pl.tup ((Sa.trans Sb) _ _ h9), .ref _⟩
        · exact ⟨_, (fun e => by cases e), Pl.str, .str (by decide +kernel)⟩
      k_extra "r_LL21"
      refine q_ixL (SqL.of (S5b _ _ hsm)) (atI_nat (j := 0) e0) ?_
      k_extra "r_LL21"
      refine q_ixL (SqL.of (S5b _ _ hsm)) (atI_nat (j := 1) e1) ?_
      k_extra "r_LL21"
      refine ⟨y0, y1, v, true, true, rfl, (h0.mono S5b).dm k0, (fun _ => (h1.mono S5b).dm k1), (fun _ _ => ⟨nn, T, pT⟩), fun D Hd nD Sd hD => ?_⟩
      k_extra "r_LL21"
      refine q_newL (by show 2 ≤ sizeLine; decide) fun l14 He n14 Se h14 => ?_
      refine fin (by decide +kernel) (sv.mono (Sd.trans Se)) (Se _ _ hD) h14 ?_
      refine q_test (s_if0 rfl ?_)
      k_extra "r_LL21"
      exact ⟨_, _, rfl, Sb.trans (Sd.trans Se)⟩
    · rintro σ Hb ⟨v8, v9, rfl, Sb⟩
      k_extra "r_LL21"
      exact ⟨_, _, _, _, _, _, _, _, _, rfl, SqL_monoN (ext_same (S5a.trans Sb)) F5.sc⟩
end
end Bt
namespace Bt
open PySem PySem.Spec PyProof.Rows L2
/-! ### the def Rules.__init__ as it stands -/
theorem rules_fd {K : PySem.W.Frag} {f D : Addr} {oc dc pm cd ct : Value} {od an : Option Addr} {sl : Array (Option Value)} (l : K.lookup f = some ⟨oc, od, .func (PySem.W.fnOf "__init__" "Rules.__init__" (defArgs s_Rules___init__) (defBody s_Rules___init__) (defScope s_Rules___init__) .none (.ref D) dc pm an cd ct), sl⟩)
    (c : PySem.W.codeIn K cd "Rules.__init__" = true) (k : PySem.W.keepIn K (.ref f) = true) (ka : PySem.W.nsIn K D "across" = some (some (.bool true))) (kb : PySem.W.nsIn K D "barred" = some (some .none)) :
    FunD K "__init__" "Rules.__init__" (defArgs s_Rules___init__) (defBody s_Rules___init__) (defScope s_Rules___init__) [] [("across", .bl true), ("barred", .non)] f (PySem.W.fnOf "__init__" "Rules.__init__" (defArgs s_Rules___init__) (defBody s_Rules___init__) (defScope s_Rules___init__) .none (.ref D) dc pm an cd ct) :=
  ⟨⟨_, _, _, _, _, _, _, _, _, _, rfl, l, c, .inl ⟨rfl, rfl⟩, .inr ⟨D, rfl, fun q hq => by
    simp only [List.mem_cons, List.not_mem_nil, or_false] at hq
    rcases hq with rfl | rfl
    · exact ⟨_, ka, rfl⟩
    · exact ⟨_, kb, rfl⟩⟩⟩, k⟩
theorem rules_b0 {K : PySem.W.Frag} {f : Addr} {fd : FuncData} (F : FunD K "__init__" "Rules.__init__" (defArgs s_Rules___init__) (defBody s_Rules___init__) (defScope s_Rules___init__) [] [("across", .bl true), ("barred", .non)] f fd) : ∃ ds, Vals [V.bl true, .non] ds ∧ Binds K fd ["self", "across", "barred"] ds :=
  F.binds0 (ps := ["self", "across", "barred"]) 1 (by simp) rfl fun D doc pm an cdv ct us ks h1 h2 => match us, ks, h1, h2 with | [_], [_, _], _, _ => ⟨_, _, _, _, _, _, rfl, rfl, ⟨_, _, _, _, _, _, rfl, rfl, rfl⟩⟩
theorem rules_kb {K : PySem.W.Frag} {f : Addr} {fd : FuncData} (F : FunD K "__init__" "Rules.__init__" (defArgs s_Rules___init__) (defBody s_Rules___init__) (defScope s_Rules___init__) [] [("across", .bl true), ("barred", .non)] f fd) : KBn K fd ["self", "across", "barred"] 1 ["across", "barred"] gRl gRlV := by
  obtain ⟨mv, h⟩ := F.kbinds0 (ps := ["self", "across", "barred"]) 1 ["across", "barred"] [] (fun vs _ zs => vs ++ zs) (by simp) (fun _ h => nomatch h) (fun a _ c => a.append c) fun D doc pm an cdv ct us mv ws h1 h2 h3 => match us, mv, ws, h1, h2, h3 with | [_], [], [_, _], _, _, _ => rfl
  exact h
theorem can_fd {K : PySem.W.Frag} {f D : Addr} {oc dc pm cd ct : Value} {od an : Option Addr} {sl : Array (Option Value)} (l : K.lookup f = some ⟨oc, od, .func (PySem.W.fnOf "can_be_one" "can_be_one" (defArgs s_can_be_one) (defBody s_can_be_one) (defScope s_can_be_one) .none (.ref D) dc pm an cd ct), sl⟩)
    (c : PySem.W.codeIn K cd "can_be_one" = true) (k : PySem.W.keepIn K (.ref f) = true) (kr : PySem.W.nsIn K D "rules" = some (some .none)) :
    FunD K "can_be_one" "can_be_one" (defArgs s_can_be_one) (defBody s_can_be_one) (defScope s_can_be_one) [] [("rules", .non)] f (PySem.W.fnOf "can_be_one" "can_be_one" (defArgs s_can_be_one) (defBody s_can_be_one) (defScope s_can_be_one) .none (.ref D) dc pm an cd ct) :=
  ⟨⟨_, _, _, _, _, _, _, _, _, _, rfl, l, c, .inl ⟨rfl, rfl⟩, .inr ⟨D, rfl, fun q hq => by
    simp only [List.mem_cons, List.not_mem_nil, or_false] at hq
    subst hq
    exact ⟨_, kr, rfl⟩⟩⟩, k⟩
theorem can_b0 {K : PySem.W.Frag} {f : Addr} {fd : FuncData} (F : FunD K "can_be_one" "can_be_one" (defArgs s_can_be_one) (defBody s_can_be_one) (defScope s_can_be_one) [] [("rules", .non)] f fd) : ∃ ds, Vals [V.non] ds ∧ Binds K fd ["one", "other", "rules"] ds :=
  F.binds0 (ps := ["one", "other", "rules"]) 2 (by simp) rfl fun D doc pm an cdv ct us ks h1 h2 => match us, ks, h1, h2 with | [_, _], [_], _, _ => ⟨_, _, _, _, _, _, rfl, rfl, rfl⟩
theorem can_kb {K : PySem.W.Frag} {f : Addr} {fd : FuncData} (F : FunD K "can_be_one" "can_be_one" (defArgs s_can_be_one) (defBody s_can_be_one) (defScope s_can_be_one) [] [("rules", .non)] f fd) : KBn K fd ["one", "other", "rules"] 2 ["rules"] (fun us ws => us ++ ws) gCV := by
  obtain ⟨mv, h⟩ := F.kbinds0 (ps := ["one", "other", "rules"]) 2 ["rules"] [] (fun vs _ zs => vs ++ zs) (by simp) (fun _ h => nomatch h) (fun a _ c => a.append c) fun D doc pm an cdv ct us mv ws h1 h2 h3 => match us, mv, ws, h1, h2, h3 with | [_, _], [], [_], _, _, _ => rfl
  exact h
/-! ### what the top has written, and the law's own head -/
theorem all_mk {l : PySem.W.OpenLaw} {w : World} {K : PySem.W.Frag} {h : Heap} {mg : Str → Option Value} {fa f_is_whole f_is_name f_is_place f_check_place f__is_renaming f__are_renamings f__in_reach f__check_rules f_rules_from f_is_demand f__check_demand f__windows_meet f_one_does_both f__law_purse f__law_draw f__law_name f__law_names f__law_world f__law_allowed f__law_rules f__law_joins f__law_rules_made f__law_demand f__law_raised f__law_bad f__law_right f_law C_InvalidDemand f_x_InvalidDemand T_x_InvalidDemand N_InvalidDemand C_InvalidRules f_x_InvalidRules T_x_InvalidRules N_InvalidRules CRu f_Ri D_R p_Ra f_Ra p_Rb f_Rb f_Rc f_Rl f_Re f_cb D_cb : Addr} {od_is_whole an_is_whole od_is_name an_is_name od_is_place an_is_place od_check_place an_check_place od__is_renaming an__is_renaming od__are_renamings an__are_renamings od__in_reach an__in_reach od__check_rules an__check_rules od_rules_from an_rules_from od_is_demand an_is_demand od__check_demand an__check_demand od__windows_meet an__windows_meet od_one_does_both an_one_does_both od__law_purse an__law_purse od__law_draw an__law_draw od__law_name an__law_name od__law_names an__law_names od__law_world an__law_world od__law_allowed an__law_allowed od__law_rules an__law_rules od__law_joins an__law_joins od__law_rules_made an__law_rules_made od__law_demand an__law_demand od__law_raised an__law_raised od__law_bad an__law_bad od__law_right an__law_right od_law an_law od_x_InvalidDemand an_x_InvalidDemand od_x_InvalidRules an_x_InvalidRules od_Ri an_Ri od_Ra an_Ra od_Rb an_Rb od_Rc an_Rc od_Rl an_Rl od_Re an_Re od_cb an_cb : Option Addr} {sl_is_whole sl_is_name sl_is_place sl_check_place sl__is_renaming sl__are_renamings sl__in_reach sl__check_rules sl_rules_from sl_is_demand sl__check_demand sl__windows_meet sl_one_does_both sl__law_purse sl__law_draw sl__law_name sl__law_names sl__law_world sl__law_allowed sl__law_rules sl__law_joins sl__law_rules_made sl__law_demand sl__law_raised sl__law_bad sl__law_right sl_law sl_x_InvalidDemand sl_x_InvalidRules sl_Ri sl_Ra sl_Rb sl_Rc sl_Rl sl_Re sl_cb : Array (Option Value)} {oc_is_whole kV_is_whole dc_is_whole pm_is_whole cd_is_whole ct_is_whole oc_is_name kV_is_name dc_is_name pm_is_name cd_is_name ct_is_name oc_is_place kV_is_place dc_is_place pm_is_place cd_is_place ct_is_place oc_check_place kV_check_place dc_check_place pm_check_place cd_check_place ct_check_place oc__is_renaming kV__is_renaming dc__is_renaming pm__is_renaming cd__is_renaming ct__is_renaming oc__are_renamings kV__are_renamings dc__are_renamings pm__are_renamings cd__are_renamings ct__are_renamings oc__in_reach kV__in_reach dc__in_reach pm__in_reach cd__in_reach ct__in_reach oc__check_rules kV__check_rules dc__check_rules pm__check_rules cd__check_rules ct__check_rules oc_rules_from kV_rules_from dc_rules_from pm_rules_from cd_rules_from ct_rules_from oc_is_demand kV_is_demand dc_is_demand pm_is_demand cd_is_demand ct_is_demand oc__check_demand kV__check_demand dc__check_demand pm__check_demand cd__check_demand ct__check_demand oc__windows_meet kV__windows_meet dc__windows_meet pm__windows_meet cd__windows_meet ct__windows_meet oc_one_does_both kV_one_does_both dc_one_does_both pm_one_does_both cd_one_does_both ct_one_does_both oc__law_purse kV__law_purse dc__law_purse pm__law_purse cd__law_purse ct__law_purse oc__law_draw kV__law_draw dc__law_draw pm__law_draw cd__law_draw ct__law_draw oc__law_name kV__law_name dc__law_name pm__law_name cd__law_name ct__law_name oc__law_names kV__law_names dc__law_names pm__law_names cd__law_names ct__law_names oc__law_world kV__law_world dc__law_world pm__law_world cd__law_world ct__law_world oc__law_allowed kV__law_allowed dc__law_allowed pm__law_allowed cd__law_allowed ct__law_allowed oc__law_rules kV__law_rules dc__law_rules pm__law_rules cd__law_rules ct__law_rules oc__law_joins kV__law_joins dc__law_joins pm__law_joins cd__law_joins ct__law_joins oc__law_rules_made kV__law_rules_made dc__law_rules_made pm__law_rules_made cd__law_rules_made ct__law_rules_made oc__law_demand kV__law_demand dc__law_demand pm__law_demand cd__law_demand ct__law_demand oc__law_raised kV__law_raised dc__law_raised pm__law_raised cd__law_raised ct__law_raised oc__law_bad kV__law_bad dc__law_bad pm__law_bad cd__law_bad ct__law_bad oc__law_right kV__law_right dc__law_right pm__law_right cd__law_right ct__law_right oc_law kV_law dc_law pm_law cd_law ct_law oc_x_InvalidDemand kV_x_InvalidDemand dc_x_InvalidDemand pm_x_InvalidDemand cd_x_InvalidDemand ct_x_InvalidDemand oc_x_InvalidRules kV_x_InvalidRules dc_x_InvalidRules pm_x_InvalidRules cd_x_InvalidRules ct_x_InvalidRules oc_Ri dc_Ri pm_Ri cd_Ri ct_Ri oc_Ra kV_Ra dc_Ra pm_Ra cd_Ra ct_Ra oc_Rb kV_Rb dc_Rb pm_Rb cd_Rb ct_Rb oc_Rc kV_Rc dc_Rc pm_Rc cd_Rc ct_Rc oc_Rl kV_Rl dc_Rl pm_Rl cd_Rl ct_Rl oc_Re kV_Re dc_Re pm_Re cd_Re ct_Re oc_cb dc_cb pm_cb cd_cb ct_cb : Value} {tk_LETTERS tk_LONGEST_NAME : Tok} {nm_InvalidDemand q_InvalidDemand : Str} {bs_InvalidDemand : List Value} {CB_InvalidDemand : Addr} {sn_InvalidDemand : List Str} {sub_InvalidDemand : List Value} {ab_InvalidDemand : Bool} {col_InvalidDemand : Option Bool} {dd_InvalidDemand : Option Addr} {m0_InvalidDemand m1_InvalidDemand m2_InvalidDemand m3_InvalidDemand m5_InvalidDemand : Option Value} {ocT_InvalidDemand : Value} {odT_InvalidDemand : Option Addr} {nT_InvalidDemand : Nat} {slT_InvalidDemand : Array (Option Value)} {nm_InvalidRules q_InvalidRules : Str} {bs_InvalidRules : List Value} {CB_InvalidRules : Addr} {sn_InvalidRules : List Str} {sub_InvalidRules : List Value} {ab_InvalidRules : Bool} {col_InvalidRules : Option Bool} {dd_InvalidRules : Option Addr} {m0_InvalidRules m1_InvalidRules m2_InvalidRules m3_InvalidRules m5_InvalidRules : Option Value} {ocT_InvalidRules : Value} {odT_InvalidRules : Option Addr} {nT_InvalidRules : Nat} {slT_InvalidRules : Array (Option Value)} {rRa : List Value} {rRb : List Value} (X : K.In h) (G : h.Ns mainGlobals mg) (hfa : mg "law" = some (.ref fa))
    (z_isinstance : PySem.W.nsIn K mainGlobals "isinstance" = some none)
    (z_int : PySem.W.nsIn K mainGlobals "int" = some none)
    (z_bool : PySem.W.nsIn K mainGlobals "bool" = some none)
    (z_str : PySem.W.nsIn K mainGlobals "str" = some none)
    (z_sorted : PySem.W.nsIn K mainGlobals "sorted" = some none)
    (z_tuple : PySem.W.nsIn K mainGlobals "tuple" = some none)
    (z_list : PySem.W.nsIn K mainGlobals "list" = some none)
    (z_set : PySem.W.nsIn K mainGlobals "set" = some none)
    (z_range : PySem.W.nsIn K mainGlobals "range" = some none)
    (z_sum : PySem.W.nsIn K mainGlobals "sum" = some none)
    (z_len : PySem.W.nsIn K mainGlobals "len" = some none)
    (z_all : PySem.W.nsIn K mainGlobals "all" = some none)
    (z_any : PySem.W.nsIn K mainGlobals "any" = some none)
    (z_max : PySem.W.nsIn K mainGlobals "max" = some none)
    (z_min : PySem.W.nsIn K mainGlobals "min" = some none)
    (v_LETTERS : PySem.W.nsIn K mainGlobals "LETTERS" = some (some (.str alphaS tk_LETTERS)))
    (v_LONGEST_NAME : PySem.W.nsIn K mainGlobals "LONGEST_NAME" = some (some (.int 8 tk_LONGEST_NAME)))
    (a_is_whole : PySem.W.nsIn K mainGlobals "is_whole" = some (some (.ref f_is_whole)))
    (l_is_whole : K.lookup f_is_whole = some ⟨oc_is_whole, od_is_whole, .func (PySem.W.fnOf "is_whole" "is_whole" (defArgs s_is_whole) (defBody s_is_whole) (defScope s_is_whole) .none kV_is_whole dc_is_whole pm_is_whole an_is_whole cd_is_whole ct_is_whole), sl_is_whole⟩)
    (c_is_whole : PySem.W.codeIn K cd_is_whole "is_whole" = true)
    (k_is_whole : PySem.W.keepIn K (.ref f_is_whole) = true)
    (a_is_name : PySem.W.nsIn K mainGlobals "is_name" = some (some (.ref f_is_name)))
    (l_is_name : K.lookup f_is_name = some ⟨oc_is_name, od_is_name, .func (PySem.W.fnOf "is_name" "is_name" (defArgs s_is_name) (defBody s_is_name) (defScope s_is_name) .none kV_is_name dc_is_name pm_is_name an_is_name cd_is_name ct_is_name), sl_is_name⟩)
    (c_is_name : PySem.W.codeIn K cd_is_name "is_name" = true)
    (k_is_name : PySem.W.keepIn K (.ref f_is_name) = true)
    (a_is_place : PySem.W.nsIn K mainGlobals "is_place" = some (some (.ref f_is_place)))
    (l_is_place : K.lookup f_is_place = some ⟨oc_is_place, od_is_place, .func (PySem.W.fnOf "is_place" "is_place" (defArgs s_is_place) (defBody s_is_place) (defScope s_is_place) .none kV_is_place dc_is_place pm_is_place an_is_place cd_is_place ct_is_place), sl_is_place⟩)
    (c_is_place : PySem.W.codeIn K cd_is_place "is_place" = true)
    (k_is_place : PySem.W.keepIn K (.ref f_is_place) = true)
    (a_check_place : PySem.W.nsIn K mainGlobals "check_place" = some (some (.ref f_check_place)))
    (l_check_place : K.lookup f_check_place = some ⟨oc_check_place, od_check_place, .func (PySem.W.fnOf "check_place" "check_place" (defArgs s_check_place) (defBody s_check_place) (defScope s_check_place) .none kV_check_place dc_check_place pm_check_place an_check_place cd_check_place ct_check_place), sl_check_place⟩)
    (c_check_place : PySem.W.codeIn K cd_check_place "check_place" = true)
    (k_check_place : PySem.W.keepIn K (.ref f_check_place) = true)
    (a__is_renaming : PySem.W.nsIn K mainGlobals "_is_renaming" = some (some (.ref f__is_renaming)))
    (l__is_renaming : K.lookup f__is_renaming = some ⟨oc__is_renaming, od__is_renaming, .func (PySem.W.fnOf "_is_renaming" "_is_renaming" (defArgs s__is_renaming) (defBody s__is_renaming) (defScope s__is_renaming) .none kV__is_renaming dc__is_renaming pm__is_renaming an__is_renaming cd__is_renaming ct__is_renaming), sl__is_renaming⟩)
    (c__is_renaming : PySem.W.codeIn K cd__is_renaming "_is_renaming" = true)
    (k__is_renaming : PySem.W.keepIn K (.ref f__is_renaming) = true)
    (a__are_renamings : PySem.W.nsIn K mainGlobals "_are_renamings" = some (some (.ref f__are_renamings)))
    (l__are_renamings : K.lookup f__are_renamings = some ⟨oc__are_renamings, od__are_renamings, .func (PySem.W.fnOf "_are_renamings" "_are_renamings" (defArgs s__are_renamings) (defBody s__are_renamings) (defScope s__are_renamings) .none kV__are_renamings dc__are_renamings pm__are_renamings an__are_renamings cd__are_renamings ct__are_renamings), sl__are_renamings⟩)
    (c__are_renamings : PySem.W.codeIn K cd__are_renamings "_are_renamings" = true)
    (k__are_renamings : PySem.W.keepIn K (.ref f__are_renamings) = true)
    (a__in_reach : PySem.W.nsIn K mainGlobals "_in_reach" = some (some (.ref f__in_reach)))
    (l__in_reach : K.lookup f__in_reach = some ⟨oc__in_reach, od__in_reach, .func (PySem.W.fnOf "_in_reach" "_in_reach" (defArgs s__in_reach) (defBody s__in_reach) (defScope s__in_reach) .none kV__in_reach dc__in_reach pm__in_reach an__in_reach cd__in_reach ct__in_reach), sl__in_reach⟩)
    (c__in_reach : PySem.W.codeIn K cd__in_reach "_in_reach" = true)
    (k__in_reach : PySem.W.keepIn K (.ref f__in_reach) = true)
    (a__check_rules : PySem.W.nsIn K mainGlobals "_check_rules" = some (some (.ref f__check_rules)))
    (l__check_rules : K.lookup f__check_rules = some ⟨oc__check_rules, od__check_rules, .func (PySem.W.fnOf "_check_rules" "_check_rules" (defArgs s__check_rules) (defBody s__check_rules) (defScope s__check_rules) .none kV__check_rules dc__check_rules pm__check_rules an__check_rules cd__check_rules ct__check_rules), sl__check_rules⟩)
    (c__check_rules : PySem.W.codeIn K cd__check_rules "_check_rules" = true)
    (k__check_rules : PySem.W.keepIn K (.ref f__check_rules) = true)
    (a_rules_from : PySem.W.nsIn K mainGlobals "rules_from" = some (some (.ref f_rules_from)))
    (l_rules_from : K.lookup f_rules_from = some ⟨oc_rules_from, od_rules_from, .func (PySem.W.fnOf "rules_from" "rules_from" (defArgs s_rules_from) (defBody s_rules_from) (defScope s_rules_from) .none kV_rules_from dc_rules_from pm_rules_from an_rules_from cd_rules_from ct_rules_from), sl_rules_from⟩)
    (c_rules_from : PySem.W.codeIn K cd_rules_from "rules_from" = true)
    (k_rules_from : PySem.W.keepIn K (.ref f_rules_from) = true)
    (a_is_demand : PySem.W.nsIn K mainGlobals "is_demand" = some (some (.ref f_is_demand)))
    (l_is_demand : K.lookup f_is_demand = some ⟨oc_is_demand, od_is_demand, .func (PySem.W.fnOf "is_demand" "is_demand" (defArgs s_is_demand) (defBody s_is_demand) (defScope s_is_demand) .none kV_is_demand dc_is_demand pm_is_demand an_is_demand cd_is_demand ct_is_demand), sl_is_demand⟩)
    (c_is_demand : PySem.W.codeIn K cd_is_demand "is_demand" = true)
    (k_is_demand : PySem.W.keepIn K (.ref f_is_demand) = true)
    (a__check_demand : PySem.W.nsIn K mainGlobals "_check_demand" = some (some (.ref f__check_demand)))
    (l__check_demand : K.lookup f__check_demand = some ⟨oc__check_demand, od__check_demand, .func (PySem.W.fnOf "_check_demand" "_check_demand" (defArgs s__check_demand) (defBody s__check_demand) (defScope s__check_demand) .none kV__check_demand dc__check_demand pm__check_demand an__check_demand cd__check_demand ct__check_demand), sl__check_demand⟩)
    (c__check_demand : PySem.W.codeIn K cd__check_demand "_check_demand" = true)
    (k__check_demand : PySem.W.keepIn K (.ref f__check_demand) = true)
    (a__windows_meet : PySem.W.nsIn K mainGlobals "_windows_meet" = some (some (.ref f__windows_meet)))
    (l__windows_meet : K.lookup f__windows_meet = some ⟨oc__windows_meet, od__windows_meet, .func (PySem.W.fnOf "_windows_meet" "_windows_meet" (defArgs s__windows_meet) (defBody s__windows_meet) (defScope s__windows_meet) .none kV__windows_meet dc__windows_meet pm__windows_meet an__windows_meet cd__windows_meet ct__windows_meet), sl__windows_meet⟩)
    (c__windows_meet : PySem.W.codeIn K cd__windows_meet "_windows_meet" = true)
    (k__windows_meet : PySem.W.keepIn K (.ref f__windows_meet) = true)
    (a_one_does_both : PySem.W.nsIn K mainGlobals "one_does_both" = some (some (.ref f_one_does_both)))
    (l_one_does_both : K.lookup f_one_does_both = some ⟨oc_one_does_both, od_one_does_both, .func (PySem.W.fnOf "one_does_both" "one_does_both" (defArgs s_one_does_both) (defBody s_one_does_both) (defScope s_one_does_both) .none kV_one_does_both dc_one_does_both pm_one_does_both an_one_does_both cd_one_does_both ct_one_does_both), sl_one_does_both⟩)
    (c_one_does_both : PySem.W.codeIn K cd_one_does_both "one_does_both" = true)
    (k_one_does_both : PySem.W.keepIn K (.ref f_one_does_both) = true)
    (a__law_purse : PySem.W.nsIn K mainGlobals "_law_purse" = some (some (.ref f__law_purse)))
    (l__law_purse : K.lookup f__law_purse = some ⟨oc__law_purse, od__law_purse, .func (PySem.W.fnOf "_law_purse" "_law_purse" (defArgs s__law_purse) (defBody s__law_purse) (defScope s__law_purse) .none kV__law_purse dc__law_purse pm__law_purse an__law_purse cd__law_purse ct__law_purse), sl__law_purse⟩)
    (c__law_purse : PySem.W.codeIn K cd__law_purse "_law_purse" = true)
    (k__law_purse : PySem.W.keepIn K (.ref f__law_purse) = true)
    (a__law_draw : PySem.W.nsIn K mainGlobals "_law_draw" = some (some (.ref f__law_draw)))
    (l__law_draw : K.lookup f__law_draw = some ⟨oc__law_draw, od__law_draw, .func (PySem.W.fnOf "_law_draw" "_law_draw" (defArgs s__law_draw) (defBody s__law_draw) (defScope s__law_draw) .none kV__law_draw dc__law_draw pm__law_draw an__law_draw cd__law_draw ct__law_draw), sl__law_draw⟩)
    (c__law_draw : PySem.W.codeIn K cd__law_draw "_law_draw" = true)
    (k__law_draw : PySem.W.keepIn K (.ref f__law_draw) = true)
    (a__law_name : PySem.W.nsIn K mainGlobals "_law_name" = some (some (.ref f__law_name)))
    (l__law_name : K.lookup f__law_name = some ⟨oc__law_name, od__law_name, .func (PySem.W.fnOf "_law_name" "_law_name" (defArgs s__law_name) (defBody s__law_name) (defScope s__law_name) .none kV__law_name dc__law_name pm__law_name an__law_name cd__law_name ct__law_name), sl__law_name⟩)
    (c__law_name : PySem.W.codeIn K cd__law_name "_law_name" = true)
    (k__law_name : PySem.W.keepIn K (.ref f__law_name) = true)
    (a__law_names : PySem.W.nsIn K mainGlobals "_law_names" = some (some (.ref f__law_names)))
    (l__law_names : K.lookup f__law_names = some ⟨oc__law_names, od__law_names, .func (PySem.W.fnOf "_law_names" "_law_names" (defArgs s__law_names) (defBody s__law_names) (defScope s__law_names) .none kV__law_names dc__law_names pm__law_names an__law_names cd__law_names ct__law_names), sl__law_names⟩)
    (c__law_names : PySem.W.codeIn K cd__law_names "_law_names" = true)
    (k__law_names : PySem.W.keepIn K (.ref f__law_names) = true)
    (a__law_world : PySem.W.nsIn K mainGlobals "_law_world" = some (some (.ref f__law_world)))
    (l__law_world : K.lookup f__law_world = some ⟨oc__law_world, od__law_world, .func (PySem.W.fnOf "_law_world" "_law_world" (defArgs s__law_world) (defBody s__law_world) (defScope s__law_world) .none kV__law_world dc__law_world pm__law_world an__law_world cd__law_world ct__law_world), sl__law_world⟩)
    (c__law_world : PySem.W.codeIn K cd__law_world "_law_world" = true)
    (k__law_world : PySem.W.keepIn K (.ref f__law_world) = true)
    (a__law_allowed : PySem.W.nsIn K mainGlobals "_law_allowed" = some (some (.ref f__law_allowed)))
    (l__law_allowed : K.lookup f__law_allowed = some ⟨oc__law_allowed, od__law_allowed, .func (PySem.W.fnOf "_law_allowed" "_law_allowed" (defArgs s__law_allowed) (defBody s__law_allowed) (defScope s__law_allowed) .none kV__law_allowed dc__law_allowed pm__law_allowed an__law_allowed cd__law_allowed ct__law_allowed), sl__law_allowed⟩)
    (c__law_allowed : PySem.W.codeIn K cd__law_allowed "_law_allowed" = true)
    (k__law_allowed : PySem.W.keepIn K (.ref f__law_allowed) = true)
    (a__law_rules : PySem.W.nsIn K mainGlobals "_law_rules" = some (some (.ref f__law_rules)))
    (l__law_rules : K.lookup f__law_rules = some ⟨oc__law_rules, od__law_rules, .func (PySem.W.fnOf "_law_rules" "_law_rules" (defArgs s__law_rules) (defBody s__law_rules) (defScope s__law_rules) .none kV__law_rules dc__law_rules pm__law_rules an__law_rules cd__law_rules ct__law_rules), sl__law_rules⟩)
    (c__law_rules : PySem.W.codeIn K cd__law_rules "_law_rules" = true)
    (k__law_rules : PySem.W.keepIn K (.ref f__law_rules) = true)
    (a__law_joins : PySem.W.nsIn K mainGlobals "_law_joins" = some (some (.ref f__law_joins)))
    (l__law_joins : K.lookup f__law_joins = some ⟨oc__law_joins, od__law_joins, .func (PySem.W.fnOf "_law_joins" "_law_joins" (defArgs s__law_joins) (defBody s__law_joins) (defScope s__law_joins) .none kV__law_joins dc__law_joins pm__law_joins an__law_joins cd__law_joins ct__law_joins), sl__law_joins⟩)
    (c__law_joins : PySem.W.codeIn K cd__law_joins "_law_joins" = true)
    (k__law_joins : PySem.W.keepIn K (.ref f__law_joins) = true)
    (a__law_rules_made : PySem.W.nsIn K mainGlobals "_law_rules_made" = some (some (.ref f__law_rules_made)))
    (l__law_rules_made : K.lookup f__law_rules_made = some ⟨oc__law_rules_made, od__law_rules_made, .func (PySem.W.fnOf "_law_rules_made" "_law_rules_made" (defArgs s__law_rules_made) (defBody s__law_rules_made) (defScope s__law_rules_made) .none kV__law_rules_made dc__law_rules_made pm__law_rules_made an__law_rules_made cd__law_rules_made ct__law_rules_made), sl__law_rules_made⟩)
    (c__law_rules_made : PySem.W.codeIn K cd__law_rules_made "_law_rules_made" = true)
    (k__law_rules_made : PySem.W.keepIn K (.ref f__law_rules_made) = true)
    (a__law_demand : PySem.W.nsIn K mainGlobals "_law_demand" = some (some (.ref f__law_demand)))
    (l__law_demand : K.lookup f__law_demand = some ⟨oc__law_demand, od__law_demand, .func (PySem.W.fnOf "_law_demand" "_law_demand" (defArgs s__law_demand) (defBody s__law_demand) (defScope s__law_demand) .none kV__law_demand dc__law_demand pm__law_demand an__law_demand cd__law_demand ct__law_demand), sl__law_demand⟩)
    (c__law_demand : PySem.W.codeIn K cd__law_demand "_law_demand" = true)
    (k__law_demand : PySem.W.keepIn K (.ref f__law_demand) = true)
    (a__law_raised : PySem.W.nsIn K mainGlobals "_law_raised" = some (some (.ref f__law_raised)))
    (l__law_raised : K.lookup f__law_raised = some ⟨oc__law_raised, od__law_raised, .func (PySem.W.fnOf "_law_raised" "_law_raised" (defArgs s__law_raised) (defBody s__law_raised) (defScope s__law_raised) .none kV__law_raised dc__law_raised pm__law_raised an__law_raised cd__law_raised ct__law_raised), sl__law_raised⟩)
    (c__law_raised : PySem.W.codeIn K cd__law_raised "_law_raised" = true)
    (k__law_raised : PySem.W.keepIn K (.ref f__law_raised) = true)
    (a__law_bad : PySem.W.nsIn K mainGlobals "_law_bad" = some (some (.ref f__law_bad)))
    (l__law_bad : K.lookup f__law_bad = some ⟨oc__law_bad, od__law_bad, .func (PySem.W.fnOf "_law_bad" "_law_bad" (defArgs s__law_bad) (defBody s__law_bad) (defScope s__law_bad) .none kV__law_bad dc__law_bad pm__law_bad an__law_bad cd__law_bad ct__law_bad), sl__law_bad⟩)
    (c__law_bad : PySem.W.codeIn K cd__law_bad "_law_bad" = true)
    (k__law_bad : PySem.W.keepIn K (.ref f__law_bad) = true)
    (a__law_right : PySem.W.nsIn K mainGlobals "_law_right" = some (some (.ref f__law_right)))
    (l__law_right : K.lookup f__law_right = some ⟨oc__law_right, od__law_right, .func (PySem.W.fnOf "_law_right" "_law_right" (defArgs s__law_right) (defBody s__law_right) (defScope s__law_right) .none kV__law_right dc__law_right pm__law_right an__law_right cd__law_right ct__law_right), sl__law_right⟩)
    (c__law_right : PySem.W.codeIn K cd__law_right "_law_right" = true)
    (k__law_right : PySem.W.keepIn K (.ref f__law_right) = true)
    (a_law : PySem.W.nsIn K mainGlobals "law" = some (some (.ref f_law)))
    (l_law : K.lookup f_law = some ⟨oc_law, od_law, .func (PySem.W.fnOf "law" "law" (defArgs s_law) (defBody s_law) (defScope s_law) .none kV_law dc_law pm_law an_law cd_law ct_law), sl_law⟩)
    (c_law : PySem.W.codeIn K cd_law "law" = true)
    (k_law : PySem.W.keepIn K (.ref f_law) = true)
    (g_InvalidDemand : PySem.W.nsIn K mainGlobals "InvalidDemand" = some (some (.ref C_InvalidDemand)))
    (xL_InvalidDemand : K.lookup C_InvalidDemand = some (excClassObj nm_InvalidDemand q_InvalidDemand C_InvalidDemand N_InvalidDemand bs_InvalidDemand [.ref CB_InvalidDemand, .type "ValueError", .type "Exception", .type "BaseException", .type "object"] true sn_InvalidDemand sub_InvalidDemand ab_InvalidDemand col_InvalidDemand dd_InvalidDemand m0_InvalidDemand m1_InvalidDemand m2_InvalidDemand m3_InvalidDemand m5_InvalidDemand "ValueError.__new__"))
    (sa_InvalidDemand : PySem.W.findIn K (.ref C_InvalidDemand) "__setattr__" = some (some (.builtin "object.__setattr__")))
    (ga_InvalidDemand : PySem.W.findIn K (.ref C_InvalidDemand) "__getattribute__" = some (some (.builtin "BaseException.__getattribute__")))
    (gg_InvalidDemand : PySem.W.findIn K (.ref C_InvalidDemand) "__getattr__" = some none)
    (no_InvalidDemand : PySem.W.findIn K (.ref C_InvalidDemand) "value" = some none)
    (in_InvalidDemand : PySem.W.findIn K (.ref C_InvalidDemand) "__init__" = some (some (.ref f_x_InvalidDemand)))
    (ti_InvalidDemand : PySem.W.typeIn K (.ref f_x_InvalidDemand) = some (.type "function"))
    (l_x_InvalidDemand : K.lookup f_x_InvalidDemand = some ⟨oc_x_InvalidDemand, od_x_InvalidDemand, .func (PySem.W.fnOf "__init__" "InvalidDemand.__init__" (defArgs s_InvalidDemand___init__) (defBody s_InvalidDemand___init__) (defScope s_InvalidDemand___init__) (.ref T_x_InvalidDemand) kV_x_InvalidDemand dc_x_InvalidDemand pm_x_InvalidDemand an_x_InvalidDemand cd_x_InvalidDemand ct_x_InvalidDemand), sl_x_InvalidDemand⟩)
    (c_x_InvalidDemand : PySem.W.codeIn K cd_x_InvalidDemand "InvalidDemand.__init__" = true)
    (k_x_InvalidDemand : PySem.W.keepIn K (.ref f_x_InvalidDemand) = true)
    (lT_InvalidDemand : K.lookup T_x_InvalidDemand = some ⟨ocT_InvalidDemand, odT_InvalidDemand, .seq #[.none] nT_InvalidDemand, slT_InvalidDemand⟩)
    (kC_InvalidDemand : PySem.W.keepIn K (.ref C_InvalidDemand) = true)
    (eC_InvalidDemand : PySem.W.subIn K (.ref C_InvalidDemand) (.type "BaseException") = some true)
    (tC_InvalidDemand : PySem.W.typeIn K (.ref C_InvalidDemand) = some (.type "type"))
    (hC_InvalidDemand : PySem.W.hasDictIn K C_InvalidDemand = true)
    (iC_InvalidDemand : PySem.W.isClsIn K C_InvalidDemand = true)
    (sC_InvalidDemand : PySem.W.subIn K (.ref C_InvalidDemand) (.ref C_InvalidDemand) = some true)
    (g_InvalidRules : PySem.W.nsIn K mainGlobals "InvalidRules" = some (some (.ref C_InvalidRules)))
    (xL_InvalidRules : K.lookup C_InvalidRules = some (excClassObj nm_InvalidRules q_InvalidRules C_InvalidRules N_InvalidRules bs_InvalidRules [.ref CB_InvalidRules, .type "ValueError", .type "Exception", .type "BaseException", .type "object"] true sn_InvalidRules sub_InvalidRules ab_InvalidRules col_InvalidRules dd_InvalidRules m0_InvalidRules m1_InvalidRules m2_InvalidRules m3_InvalidRules m5_InvalidRules "ValueError.__new__"))
    (sa_InvalidRules : PySem.W.findIn K (.ref C_InvalidRules) "__setattr__" = some (some (.builtin "object.__setattr__")))
    (ga_InvalidRules : PySem.W.findIn K (.ref C_InvalidRules) "__getattribute__" = some (some (.builtin "BaseException.__getattribute__")))
    (gg_InvalidRules : PySem.W.findIn K (.ref C_InvalidRules) "__getattr__" = some none)
    (no_InvalidRules : PySem.W.findIn K (.ref C_InvalidRules) "value" = some none)
    (in_InvalidRules : PySem.W.findIn K (.ref C_InvalidRules) "__init__" = some (some (.ref f_x_InvalidRules)))
    (ti_InvalidRules : PySem.W.typeIn K (.ref f_x_InvalidRules) = some (.type "function"))
    (l_x_InvalidRules : K.lookup f_x_InvalidRules = some ⟨oc_x_InvalidRules, od_x_InvalidRules, .func (PySem.W.fnOf "__init__" "InvalidRules.__init__" (defArgs s_InvalidRules___init__) (defBody s_InvalidRules___init__) (defScope s_InvalidRules___init__) (.ref T_x_InvalidRules) kV_x_InvalidRules dc_x_InvalidRules pm_x_InvalidRules an_x_InvalidRules cd_x_InvalidRules ct_x_InvalidRules), sl_x_InvalidRules⟩)
    (c_x_InvalidRules : PySem.W.codeIn K cd_x_InvalidRules "InvalidRules.__init__" = true)
    (k_x_InvalidRules : PySem.W.keepIn K (.ref f_x_InvalidRules) = true)
    (lT_InvalidRules : K.lookup T_x_InvalidRules = some ⟨ocT_InvalidRules, odT_InvalidRules, .seq #[.none] nT_InvalidRules, slT_InvalidRules⟩)
    (kC_InvalidRules : PySem.W.keepIn K (.ref C_InvalidRules) = true)
    (eC_InvalidRules : PySem.W.subIn K (.ref C_InvalidRules) (.type "BaseException") = some true)
    (tC_InvalidRules : PySem.W.typeIn K (.ref C_InvalidRules) = some (.type "type"))
    (hC_InvalidRules : PySem.W.hasDictIn K C_InvalidRules = true)
    (iC_InvalidRules : PySem.W.isClsIn K C_InvalidRules = true)
    (sC_InvalidRules : PySem.W.subIn K (.ref C_InvalidRules) (.ref C_InvalidRules) = some true)
    (nRD : PySem.W.subIn K (.ref C_InvalidRules) (.ref C_InvalidDemand) = some false)
    (g_R : PySem.W.nsIn K mainGlobals "Rules" = some (some (.ref CRu)))
    (pg_R : PySem.W.plainGet K CRu Str.empty = true)
    (hd_R : PySem.W.hasDictIn K CRu = true)
    (po_R : PySem.W.plainOver K CRu = true)
    (sa_R : PySem.W.findIn K (.ref CRu) "__setattr__" = some (some (.builtin "object.__setattr__")))
    (mk_R : PySem.W.makesIn K CRu = true)
    (kc_R : PySem.W.keepIn K (.ref CRu) = true)
    (n1_R : PySem.W.findIn K (.ref CRu) "_across" = some none)
    (n2_R : PySem.W.findIn K (.ref CRu) "_barred" = some none)
    (in_R : PySem.W.findIn K (.ref CRu) "__init__" = some (some (.ref f_Ri)))
    (if_R : PySem.W.isFn K (.ref f_Ri) = true)
    (l_Ri : K.lookup f_Ri = some ⟨oc_Ri, od_Ri, .func (PySem.W.fnOf "__init__" "Rules.__init__" (defArgs s_Rules___init__) (defBody s_Rules___init__) (defScope s_Rules___init__) .none (.ref D_R) dc_Ri pm_Ri an_Ri cd_Ri ct_Ri), sl_Ri⟩)
    (c_Ri : PySem.W.codeIn K cd_Ri "Rules.__init__" = true)
    (k_Ri : PySem.W.keepIn K (.ref f_Ri) = true)
    (ka_R : PySem.W.nsIn K D_R "across" = some (some (.bool true)))
    (kb_R : PySem.W.nsIn K D_R "barred" = some (some .none))
    (i1_R : PySem.W.findIn K (.ref CRu) "__class__" = some (some (.builtin "object.__class__")))
    (i2_R : PySem.W.specialIn K (.builtin "object.__class__") "__get__" = some (some (.builtin "getset_descriptor.__get__")))
    (i3_R : PySem.W.takesIn K (.builtin "object.__class__") = some true)
    (i4_R : PySem.W.mroIn K CRu (.type "object") = some true)
    (cC_R : PySem.W.isClsIn K CRu = true)
    (tC_R : PySem.W.typeIn K (.ref CRu) = some (.type "type"))
    (sf_R : PySem.W.selfFirst K CRu = true)
    (at_Ra : PySem.W.findIn K (.ref CRu) "across" = some (some (.ref p_Ra)))
    (gt_Ra : PySem.W.specialIn K (.ref p_Ra) "__get__" = some (some (.builtin "property.__get__")))
    (tk_Ra : PySem.W.takesIn K (.ref p_Ra) = some true)
    (rc_Ra : PySem.W.recIn K p_Ra "property" = some (.ref f_Ra :: rRa))
    (l_Ra : K.lookup f_Ra = some ⟨oc_Ra, od_Ra, .func (PySem.W.fnOf "across" "Rules.across" (defArgs s_Rules_across) (defBody s_Rules_across) (defScope s_Rules_across) .none kV_Ra dc_Ra pm_Ra an_Ra cd_Ra ct_Ra), sl_Ra⟩)
    (c_Ra : PySem.W.codeIn K cd_Ra "Rules.across" = true)
    (k_Ra : PySem.W.keepIn K (.ref f_Ra) = true)
    (at_Rb : PySem.W.findIn K (.ref CRu) "barred" = some (some (.ref p_Rb)))
    (gt_Rb : PySem.W.specialIn K (.ref p_Rb) "__get__" = some (some (.builtin "property.__get__")))
    (tk_Rb : PySem.W.takesIn K (.ref p_Rb) = some true)
    (rc_Rb : PySem.W.recIn K p_Rb "property" = some (.ref f_Rb :: rRb))
    (l_Rb : K.lookup f_Rb = some ⟨oc_Rb, od_Rb, .func (PySem.W.fnOf "barred" "Rules.barred" (defArgs s_Rules_barred) (defBody s_Rules_barred) (defScope s_Rules_barred) .none kV_Rb dc_Rb pm_Rb an_Rb cd_Rb ct_Rb), sl_Rb⟩)
    (c_Rb : PySem.W.codeIn K cd_Rb "Rules.barred" = true)
    (k_Rb : PySem.W.keepIn K (.ref f_Rb) = true)
    (at_Rc : PySem.W.findIn K (.ref CRu) "__call__" = some (some (.ref f_Rc)))
    (fn_Rc : PySem.W.isFn K (.ref f_Rc) = true)
    (l_Rc : K.lookup f_Rc = some ⟨oc_Rc, od_Rc, .func (PySem.W.fnOf "__call__" "Rules.__call__" (defArgs s_Rules___call__) (defBody s_Rules___call__) (defScope s_Rules___call__) .none kV_Rc dc_Rc pm_Rc an_Rc cd_Rc ct_Rc), sl_Rc⟩)
    (c_Rc : PySem.W.codeIn K cd_Rc "Rules.__call__" = true)
    (k_Rc : PySem.W.keepIn K (.ref f_Rc) = true)
    (fi_Rc : PySem.W.fnIn K f_Rc = true)
    (at_Rl : PySem.W.findIn K (.ref CRu) "_allows" = some (some (.ref f_Rl)))
    (fn_Rl : PySem.W.isFn K (.ref f_Rl) = true)
    (l_Rl : K.lookup f_Rl = some ⟨oc_Rl, od_Rl, .func (PySem.W.fnOf "_allows" "Rules._allows" (defArgs s_Rules__allows) (defBody s_Rules__allows) (defScope s_Rules__allows) .none kV_Rl dc_Rl pm_Rl an_Rl cd_Rl ct_Rl), sl_Rl⟩)
    (c_Rl : PySem.W.codeIn K cd_Rl "Rules._allows" = true)
    (k_Rl : PySem.W.keepIn K (.ref f_Rl) = true)
    (at_Re : PySem.W.findIn K (.ref CRu) "__eq__" = some (some (.ref f_Re)))
    (fn_Re : PySem.W.isFn K (.ref f_Re) = true)
    (l_Re : K.lookup f_Re = some ⟨oc_Re, od_Re, .func (PySem.W.fnOf "__eq__" "Rules.__eq__" (defArgs s_Rules___eq__) (defBody s_Rules___eq__) (defScope s_Rules___eq__) .none kV_Re dc_Re pm_Re an_Re cd_Re ct_Re), sl_Re⟩)
    (c_Re : PySem.W.codeIn K cd_Re "Rules.__eq__" = true)
    (k_Re : PySem.W.keepIn K (.ref f_Re) = true)
    (sS_R : PySem.W.subIn K (.ref CRu) (.type "str") = some false)
    (a_cb : PySem.W.nsIn K mainGlobals "can_be_one" = some (some (.ref f_cb)))
    (l_cb : K.lookup f_cb = some ⟨oc_cb, od_cb, .func (PySem.W.fnOf "can_be_one" "can_be_one" (defArgs s_can_be_one) (defBody s_can_be_one) (defScope s_can_be_one) .none (.ref D_cb) dc_cb pm_cb an_cb cd_cb ct_cb), sl_cb⟩)
    (c_cb : PySem.W.codeIn K cd_cb "can_be_one" = true)
    (k_cb : PySem.W.keepIn K (.ref f_cb) = true)
    (kr_cb : PySem.W.nsIn K D_cb "rules" = some (some .none)) :
    ∃ fd : FuncData, (∀ (s : Shared) (v : Value), BindsTo s fd ⟨[v], []⟩ [("_law_script", v)]) ∧ ∀ base : Heap, K.In base → base.Ns mainGlobals mg → FnOk l.prog w K mg base CX0 10 fa fd ["_law_script"] (spLaw K) := by
  have e := hfa.symm.trans (PySem.W.mg_of X G a_law)
  cases e
  have N_isinstance : mg "isinstance" = none := PySem.W.mg_none_of X G z_isinstance
  have N_int : mg "int" = none := PySem.W.mg_none_of X G z_int
  have N_bool : mg "bool" = none := PySem.W.mg_none_of X G z_bool
  have N_str : mg "str" = none := PySem.W.mg_none_of X G z_str
  have N_sorted : mg "sorted" = none := PySem.W.mg_none_of X G z_sorted
  have N_tuple : mg "tuple" = none := PySem.W.mg_none_of X G z_tuple
  have N_list : mg "list" = none := PySem.W.mg_none_of X G z_list
  have N_set : mg "set" = none := PySem.W.mg_none_of X G z_set
  have N_range : mg "range" = none := PySem.W.mg_none_of X G z_range
  have N_sum : mg "sum" = none := PySem.W.mg_none_of X G z_sum
  have N_len : mg "len" = none := PySem.W.mg_none_of X G z_len
  have N_all : mg "all" = none := PySem.W.mg_none_of X G z_all
  have N_any : mg "any" = none := PySem.W.mg_none_of X G z_any
  have N_max : mg "max" = none := PySem.W.mg_none_of X G z_max
  have N_min : mg "min" = none := PySem.W.mg_none_of X G z_min
  have V_LETTERS : ∃ t, mg "LETTERS" = some (.str alphaS t) := ⟨_, PySem.W.mg_of X G v_LETTERS⟩
  have V_LONGEST_NAME : ∃ t, mg "LONGEST_NAME" = some (.int 8 t) := ⟨_, PySem.W.mg_of X G v_LONGEST_NAME⟩
  have D_is_whole : Df K mg "is_whole" s_is_whole ["value"] := ⟨f_is_whole, _, fun_mk (st := s_is_whole) l_is_whole c_is_whole k_is_whole, PySem.W.mg_of X G a_is_whole, (fun_mk (st := s_is_whole) l_is_whole c_is_whole k_is_whole).binds fun _ _ _ _ _ _ us hl => match us, hl with | [_], _ => rfl⟩
  have D_is_name : Df K mg "is_name" s_is_name ["value"] := ⟨f_is_name, _, fun_mk (st := s_is_name) l_is_name c_is_name k_is_name, PySem.W.mg_of X G a_is_name, (fun_mk (st := s_is_name) l_is_name c_is_name k_is_name).binds fun _ _ _ _ _ _ us hl => match us, hl with | [_], _ => rfl⟩
  have D_is_place : Df K mg "is_place" s_is_place ["value"] := ⟨f_is_place, _, fun_mk (st := s_is_place) l_is_place c_is_place k_is_place, PySem.W.mg_of X G a_is_place, (fun_mk (st := s_is_place) l_is_place c_is_place k_is_place).binds fun _ _ _ _ _ _ us hl => match us, hl with | [_], _ => rfl⟩
  have D_check_place : Df K mg "check_place" s_check_place ["value"] := ⟨f_check_place, _, fun_mk (st := s_check_place) l_check_place c_check_place k_check_place, PySem.W.mg_of X G a_check_place, (fun_mk (st := s_check_place) l_check_place c_check_place k_check_place).binds fun _ _ _ _ _ _ us hl => match us, hl with | [_], _ => rfl⟩
  have D__is_renaming : Df K mg "_is_renaming" s__is_renaming ["value"] := ⟨f__is_renaming, _, fun_mk (st := s__is_renaming) l__is_renaming c__is_renaming k__is_renaming, PySem.W.mg_of X G a__is_renaming, (fun_mk (st := s__is_renaming) l__is_renaming c__is_renaming k__is_renaming).binds fun _ _ _ _ _ _ us hl => match us, hl with | [_], _ => rfl⟩
  have D__are_renamings : Df K mg "_are_renamings" s__are_renamings ["value"] := ⟨f__are_renamings, _, fun_mk (st := s__are_renamings) l__are_renamings c__are_renamings k__are_renamings, PySem.W.mg_of X G a__are_renamings, (fun_mk (st := s__are_renamings) l__are_renamings c__are_renamings k__are_renamings).binds fun _ _ _ _ _ _ us hl => match us, hl with | [_], _ => rfl⟩
  have D__in_reach : Df K mg "_in_reach" s__in_reach ["across", "renaming"] := ⟨f__in_reach, _, fun_mk (st := s__in_reach) l__in_reach c__in_reach k__in_reach, PySem.W.mg_of X G a__in_reach, (fun_mk (st := s__in_reach) l__in_reach c__in_reach k__in_reach).binds fun _ _ _ _ _ _ us hl => match us, hl with | [_, _], _ => rfl⟩
  have D__check_rules : Df K mg "_check_rules" s__check_rules ["value"] := ⟨f__check_rules, _, fun_mk (st := s__check_rules) l__check_rules c__check_rules k__check_rules, PySem.W.mg_of X G a__check_rules, (fun_mk (st := s__check_rules) l__check_rules c__check_rules k__check_rules).binds fun _ _ _ _ _ _ us hl => match us, hl with | [_], _ => rfl⟩
  have D_rules_from : Df K mg "rules_from" s_rules_from ["value"] := ⟨f_rules_from, _, fun_mk (st := s_rules_from) l_rules_from c_rules_from k_rules_from, PySem.W.mg_of X G a_rules_from, (fun_mk (st := s_rules_from) l_rules_from c_rules_from k_rules_from).binds fun _ _ _ _ _ _ us hl => match us, hl with | [_], _ => rfl⟩
  have D_is_demand : Df K mg "is_demand" s_is_demand ["value"] := ⟨f_is_demand, _, fun_mk (st := s_is_demand) l_is_demand c_is_demand k_is_demand, PySem.W.mg_of X G a_is_demand, (fun_mk (st := s_is_demand) l_is_demand c_is_demand k_is_demand).binds fun _ _ _ _ _ _ us hl => match us, hl with | [_], _ => rfl⟩
  have D__check_demand : Df K mg "_check_demand" s__check_demand ["value"] := ⟨f__check_demand, _, fun_mk (st := s__check_demand) l__check_demand c__check_demand k__check_demand, PySem.W.mg_of X G a__check_demand, (fun_mk (st := s__check_demand) l__check_demand c__check_demand k__check_demand).binds fun _ _ _ _ _ _ us hl => match us, hl with | [_], _ => rfl⟩
  have D__windows_meet : Df K mg "_windows_meet" s__windows_meet ["one", "other"] := ⟨f__windows_meet, _, fun_mk (st := s__windows_meet) l__windows_meet c__windows_meet k__windows_meet, PySem.W.mg_of X G a__windows_meet, (fun_mk (st := s__windows_meet) l__windows_meet c__windows_meet k__windows_meet).binds fun _ _ _ _ _ _ us hl => match us, hl with | [_, _], _ => rfl⟩
  have D_one_does_both : Df K mg "one_does_both" s_one_does_both ["gone", "come", "rules"] := ⟨f_one_does_both, _, fun_mk (st := s_one_does_both) l_one_does_both c_one_does_both k_one_does_both, PySem.W.mg_of X G a_one_does_both, (fun_mk (st := s_one_does_both) l_one_does_both c_one_does_both k_one_does_both).binds fun _ _ _ _ _ _ us hl => match us, hl with | [_, _, _], _ => rfl⟩
  have D__law_purse : Df K mg "_law_purse" s__law_purse ["_law_script", "_law_at"] := ⟨f__law_purse, _, fun_mk (st := s__law_purse) l__law_purse c__law_purse k__law_purse, PySem.W.mg_of X G a__law_purse, (fun_mk (st := s__law_purse) l__law_purse c__law_purse k__law_purse).binds fun _ _ _ _ _ _ us hl => match us, hl with | [_, _], _ => rfl⟩
  have D__law_draw : Df K mg "_law_draw" s__law_draw ["_law_purse_here", "_law_many"] := ⟨f__law_draw, _, fun_mk (st := s__law_draw) l__law_draw c__law_draw k__law_draw, PySem.W.mg_of X G a__law_draw, (fun_mk (st := s__law_draw) l__law_draw c__law_draw k__law_draw).binds fun _ _ _ _ _ _ us hl => match us, hl with | [_, _], _ => rfl⟩
  have D__law_name : Df K mg "_law_name" s__law_name ["_law_purse_here"] := ⟨f__law_name, _, fun_mk (st := s__law_name) l__law_name c__law_name k__law_name, PySem.W.mg_of X G a__law_name, (fun_mk (st := s__law_name) l__law_name c__law_name k__law_name).binds fun _ _ _ _ _ _ us hl => match us, hl with | [_], _ => rfl⟩
  have D__law_names : Df K mg "_law_names" s__law_names ["_law_purse_here", "_law_many"] := ⟨f__law_names, _, fun_mk (st := s__law_names) l__law_names c__law_names k__law_names, PySem.W.mg_of X G a__law_names, (fun_mk (st := s__law_names) l__law_names c__law_names k__law_names).binds fun _ _ _ _ _ _ us hl => match us, hl with | [_, _], _ => rfl⟩
  have D__law_world : Df K mg "_law_world" s__law_world ["_law_purse_here"] := ⟨f__law_world, _, fun_mk (st := s__law_world) l__law_world c__law_world k__law_world, PySem.W.mg_of X G a__law_world, (fun_mk (st := s__law_world) l__law_world c__law_world k__law_world).binds fun _ _ _ _ _ _ us hl => match us, hl with | [_], _ => rfl⟩
  have D__law_allowed : Df K mg "_law_allowed" s__law_allowed ["_law_book", "_law_one", "_law_other"] := ⟨f__law_allowed, _, fun_mk (st := s__law_allowed) l__law_allowed c__law_allowed k__law_allowed, PySem.W.mg_of X G a__law_allowed, (fun_mk (st := s__law_allowed) l__law_allowed c__law_allowed k__law_allowed).binds fun _ _ _ _ _ _ us hl => match us, hl with | [_, _, _], _ => rfl⟩
  have D__law_rules : Df K mg "_law_rules" s__law_rules ["_law_purse_here", "_law_places"] := ⟨f__law_rules, _, fun_mk (st := s__law_rules) l__law_rules c__law_rules k__law_rules, PySem.W.mg_of X G a__law_rules, (fun_mk (st := s__law_rules) l__law_rules c__law_rules k__law_rules).binds fun _ _ _ _ _ _ us hl => match us, hl with | [_, _], _ => rfl⟩
  have D__law_joins : Df K mg "_law_joins" s__law_joins ["_law_one", "_law_other", "_law_book"] := ⟨f__law_joins, _, fun_mk (st := s__law_joins) l__law_joins c__law_joins k__law_joins, PySem.W.mg_of X G a__law_joins, (fun_mk (st := s__law_joins) l__law_joins c__law_joins k__law_joins).binds fun _ _ _ _ _ _ us hl => match us, hl with | [_, _, _], _ => rfl⟩
  have D__law_rules_made : Df K mg "_law_rules_made" s__law_rules_made ["_law_book"] := ⟨f__law_rules_made, _, fun_mk (st := s__law_rules_made) l__law_rules_made c__law_rules_made k__law_rules_made, PySem.W.mg_of X G a__law_rules_made, (fun_mk (st := s__law_rules_made) l__law_rules_made c__law_rules_made k__law_rules_made).binds fun _ _ _ _ _ _ us hl => match us, hl with | [_], _ => rfl⟩
  have D__law_demand : Df K mg "_law_demand" s__law_demand ["_law_purse_here", "_law_places"] := ⟨f__law_demand, _, fun_mk (st := s__law_demand) l__law_demand c__law_demand k__law_demand, PySem.W.mg_of X G a__law_demand, (fun_mk (st := s__law_demand) l__law_demand c__law_demand k__law_demand).binds fun _ _ _ _ _ _ us hl => match us, hl with | [_, _], _ => rfl⟩
  have D__law_raised : Df K mg "_law_raised" s__law_raised ["_law_one", "_law_other", "_law_book"] := ⟨f__law_raised, _, fun_mk (st := s__law_raised) l__law_raised c__law_raised k__law_raised, PySem.W.mg_of X G a__law_raised, (fun_mk (st := s__law_raised) l__law_raised c__law_raised k__law_raised).binds fun _ _ _ _ _ _ us hl => match us, hl with | [_, _, _], _ => rfl⟩
  have D__law_bad : Df K mg "_law_bad" s__law_bad ["_law_one"] := ⟨f__law_bad, _, fun_mk (st := s__law_bad) l__law_bad c__law_bad k__law_bad, PySem.W.mg_of X G a__law_bad, (fun_mk (st := s__law_bad) l__law_bad c__law_bad k__law_bad).binds fun _ _ _ _ _ _ us hl => match us, hl with | [_], _ => rfl⟩
  have D__law_right : Df K mg "_law_right" s__law_right ["_law_one", "_law_other", "_law_book"] := ⟨f__law_right, _, fun_mk (st := s__law_right) l__law_right c__law_right k__law_right, PySem.W.mg_of X G a__law_right, (fun_mk (st := s__law_right) l__law_right c__law_right k__law_right).binds fun _ _ _ _ _ _ us hl => match us, hl with | [_, _, _], _ => rfl⟩
  have FD_InvalidDemand : FunD K "__init__" "InvalidDemand.__init__" (defArgs s_InvalidDemand___init__) (defBody s_InvalidDemand___init__) (defScope s_InvalidDemand___init__) [.non] [] f_x_InvalidDemand _ := ⟨⟨_, _, _, _, _, _, _, _, _, _, rfl, l_x_InvalidDemand, c_x_InvalidDemand, .inr ⟨by simp, T_x_InvalidDemand, _, [.none], _, rfl, lT_InvalidDemand, rfl, .cons rfl .nil⟩, .inl rfl⟩, k_x_InvalidDemand⟩
  have BD_InvalidDemand := exc_binds FD_InvalidDemand (fld := "value") fun _ _ _ _ _ _ _ us its hu hi => match us, its, hu, hi with | [_, _], [_], _, _ => ⟨_, rfl, rfl⟩
  have XF_InvalidDemand : ExcF K mg "InvalidDemand" "value" C_InvalidDemand :=
    { g := PySem.W.mg_of X G g_InvalidDemand, T := ⟨⟨_, _, _, _, _, _, _, _, _, _, _, _, _, _, _, xL_InvalidDemand, ve_own⟩, sa_InvalidDemand, eC_InvalidDemand, tC_InvalidDemand, kC_InvalidDemand⟩, no := no_InvalidDemand, xf := ⟨ga_InvalidDemand, gg_InvalidDemand, eC_InvalidDemand, hC_InvalidDemand⟩,
      te := exm_self eC_InvalidDemand iC_InvalidDemand tC_InvalidDemand sC_InvalidDemand, init := ⟨f_x_InvalidDemand, _, _, _, _, _, _, _, _, in_InvalidDemand, ti_InvalidDemand, FD_InvalidDemand, sc_InvalidDemand___init__, BD_InvalidDemand⟩ }
  have FD_InvalidRules : FunD K "__init__" "InvalidRules.__init__" (defArgs s_InvalidRules___init__) (defBody s_InvalidRules___init__) (defScope s_InvalidRules___init__) [.non] [] f_x_InvalidRules _ := ⟨⟨_, _, _, _, _, _, _, _, _, _, rfl, l_x_InvalidRules, c_x_InvalidRules, .inr ⟨by simp, T_x_InvalidRules, _, [.none], _, rfl, lT_InvalidRules, rfl, .cons rfl .nil⟩, .inl rfl⟩, k_x_InvalidRules⟩
  have BD_InvalidRules := exc_binds FD_InvalidRules (fld := "value") fun _ _ _ _ _ _ _ us its hu hi => match us, its, hu, hi with | [_, _], [_], _, _ => ⟨_, rfl, rfl⟩
  have XF_InvalidRules : ExcF K mg "InvalidRules" "value" C_InvalidRules :=
    { g := PySem.W.mg_of X G g_InvalidRules, T := ⟨⟨_, _, _, _, _, _, _, _, _, _, _, _, _, _, _, xL_InvalidRules, ve_own⟩, sa_InvalidRules, eC_InvalidRules, tC_InvalidRules, kC_InvalidRules⟩, no := no_InvalidRules, xf := ⟨ga_InvalidRules, gg_InvalidRules, eC_InvalidRules, hC_InvalidRules⟩,
      te := exm_self eC_InvalidRules iC_InvalidRules tC_InvalidRules sC_InvalidRules, init := ⟨f_x_InvalidRules, _, _, _, _, _, _, _, _, in_InvalidRules, ti_InvalidRules, FD_InvalidRules, sc_InvalidRules___init__, BD_InvalidRules⟩ }
  have Cl_R : Cls K CRu := ⟨pg_R, hd_R, po_R, sa_R⟩
  have FDR : FunD K "__init__" "Rules.__init__" (defArgs s_Rules___init__) (defBody s_Rules___init__) (defScope s_Rules___init__) [] [("across", .bl true), ("barred", .non)] f_Ri _ := rules_fd l_Ri c_Ri k_Ri ka_R kb_R
  obtain ⟨dsR, vdR, bdR⟩ := rules_b0 FDR
  have F_Ra := fun_mk (st := s_Rules_across) l_Ra c_Ra k_Ra
  have F_Rb := fun_mk (st := s_Rules_barred) l_Rb c_Rb k_Rb
  have Fn_Rc := fun_mk (st := s_Rules___call__) l_Rc c_Rc k_Rc
  have Bn_Rc := Fn_Rc.binds (ps := ["self", "one", "other"]) fun _ _ _ _ _ _ us hl => match us, hl with | [_, _, _], _ => rfl
  have Fn_Rl := fun_mk (st := s_Rules__allows) l_Rl c_Rl k_Rl
  have Bn_Rl := Fn_Rl.binds (ps := ["self", "renaming"]) fun _ _ _ _ _ _ us hl => match us, hl with | [_, _], _ => rfl
  have Fn_Re := fun_mk (st := s_Rules___eq__) l_Re c_Re k_Re
  have Bn_Re := Fn_Re.binds (ps := ["self", "other"]) fun _ _ _ _ _ _ us hl => match us, hl with | [_, _], _ => rfl
  have RC : RulesC K mg CRu := ⟨Cl_R, n1_R, n2_R, PySem.W.mg_of X G g_R, mk_R, kc_R, ⟨f_Ri, _, dsR, in_R, if_R, FDR, rules_kb FDR, vdR, bdR⟩, i1_R, i2_R, i3_R, i4_R, kit_own, fun T hT => kit_no cC_R tC_R hT⟩
  have RM : RulesM K CRu := ⟨sf_R, ⟨p_Ra, f_Ra, _, ⟨at_Ra, gt_Ra, tk_Ra, ⟨_, rc_Ra⟩⟩, F_Ra, F_Ra.binds (ps := ["self"]) fun _ _ _ _ _ _ us hl => match us, hl with | [_], _ => rfl⟩, ⟨p_Rb, f_Rb, _, ⟨at_Rb, gt_Rb, tk_Rb, ⟨_, rc_Rb⟩⟩, F_Rb, F_Rb.binds (ps := ["self"]) fun _ _ _ _ _ _ us hl => match us, hl with | [_], _ => rfl⟩, ⟨f_Rc, _, ⟨at_Rc, fn_Rc, fi_Rc⟩, Fn_Rc, Bn_Rc⟩, ⟨f_Rl, _, ⟨at_Rl, fn_Rl, k_Rl⟩, Fn_Rl, Bn_Rl⟩, ⟨f_Re, _, at_Re, fn_Re, Fn_Re, Bn_Re⟩, nf_own⟩
  have FCB := can_fd l_cb c_cb k_cb kr_cb
  obtain ⟨dsC, vdC, bdC⟩ := can_b0 FCB
  have CF : CanF K mg := ⟨f_cb, _, dsC, PySem.W.mg_of X G a_cb, k_cb, FCB, can_kb FCB, vdC, bdC⟩
  have T0 : Txt K mg := ⟨N_isinstance, N_int, N_bool, N_str, N_sorted, V_LETTERS, N_tuple, N_list, N_set, D_is_whole⟩
  have L0 : TxtL K mg := ⟨N_range, N_sum, D__law_purse, D__law_draw⟩
  have NN : TxtN K mg := ⟨N_len, N_all, V_LONGEST_NAME, D_is_name, D__law_name, D__law_names⟩
  have I : TxtI K mg := ⟨D_is_place⟩
  have BW : TxtB K mg := ⟨D__law_world⟩
  have R : TxtR K mg := ⟨N_any, D_check_place, D__is_renaming, D__are_renamings, D__in_reach, D__check_rules⟩
  have M : TxtM K mg := ⟨N_max, N_min, D_is_demand, D__check_demand, D__windows_meet, D_one_does_both, D_rules_from⟩
  have L4 : TxtL21 K mg := ⟨D__law_allowed, D__law_rules, D__law_joins, D__law_rules_made, D__law_demand, D__law_raised, D__law_bad, D__law_right⟩
  have nRD' := PySem.W.exm_ref eC_InvalidDemand hC_InvalidDemand tC_InvalidDemand nRD
  exact ⟨PySem.W.fnOf "law" "law" (defArgs s_law) (defBody s_law) (defScope s_law) .none kV_law dc_law pm_law an_law cd_law ct_law, fun s v => .of_eq rfl, fun base _ _ => ok_law T0 L0 NN I BW R RC RM M sS_R CF L4 XF_InvalidDemand XF_InvalidRules nRD' (fun_mk (st := s_law) l_law c_law k_law)⟩
theorem walk {l : PySem.W.OpenLaw} {q : Program} {loose : List Str} {XP : (Str → Option Value) → Heap → Prop} {YP : World → Heap → Prop} {d : DefRec} {K : Params → PySem.W.Frag} (hn : l.most = some 63) (hdf : d.params.defaults = [])
    (hY : ∀ (w : World) (h : Heap), YP w h → (K w.params).In h)
    (F : ∀ (w : World) (mg : Str → Option Value) (fa : Addr) (h : Heap), (K w.params).In h → h.Ns mainGlobals mg → mg d.name = some (.ref fa) →
      ∃ fd : FuncData, (∀ (s : Shared) (u : Value), BindsTo s fd ⟨[u], []⟩ [("_law_script", u)]) ∧ ∀ base : Heap, (K w.params).In base → base.Ns mainGlobals mg → FnOk l.prog w (K w.params) mg base CX0 10 fa fd ["_law_script"] (spLaw (K w.params))) :
    PySem.W.WalkO q loose XP YP l.row.toRowW d [] (fun f vs => PySem.call f vs) :=
  L2.walk_of (n := 63) (k := 10) (x := "_law_script") (CX := fun _ => CX0) (sp := fun w => spLaw (K w.params)) hn (by decide) hdf ⟨rfl, by decide, by decide⟩ hY F (fun _ _ a ns hl _ hS => ⟨a, ns, rfl, hS, hl, fun _ => rfl⟩) fun _ _ _ _ _ z => z
end Bt
open PySem PySem.W PyProof.Rows
set_option maxRecDepth 100000 in
set_option maxHeartbeats 0 in
theorem PySem.Challenge.cw_betweenlists_k21_demands_joined_holds : PySem.Challenge.rw_betweenlists_k21_demands_joined.Holds := by
  w_on; o_law; k_head; (case hw => w_witness2)
  k_fill
  refine Bt.walk (l := PySem.Challenge.rw_betweenlists_k21_demands_joined) rfl rfl (fun w h Y => PySem.W.kIn_of Y) ?F
  case F =>
    intro w mg fa h KX G hmg
    refine' Bt.all_mk KX G hmg ?z_isinstance ?z_int ?z_bool ?z_str ?z_sorted ?z_tuple ?z_list ?z_set ?z_range ?z_sum ?z_len ?z_all ?z_any ?z_max ?z_min ?v_LETTERS ?v_LONGEST_NAME ?a_is_whole ?l_is_whole ?c_is_whole ?k_is_whole ?a_is_name ?l_is_name ?c_is_name ?k_is_name ?a_is_place ?l_is_place ?c_is_place ?k_is_place ?a_check_place ?l_check_place ?c_check_place ?k_check_place ?a__is_renaming ?l__is_renaming ?c__is_renaming ?k__is_renaming ?a__are_renamings ?l__are_renamings ?c__are_renamings ?k__are_renamings ?a__in_reach ?l__in_reach ?c__in_reach ?k__in_reach ?a__check_rules ?l__check_rules ?c__check_rules ?k__check_rules ?a_rules_from ?l_rules_from ?c_rules_from ?k_rules_from ?a_is_demand ?l_is_demand ?c_is_demand ?k_is_demand ?a__check_demand ?l__check_demand ?c__check_demand ?k__check_demand ?a__windows_meet ?l__windows_meet ?c__windows_meet ?k__windows_meet ?a_one_does_both ?l_one_does_both ?c_one_does_both ?k_one_does_both ?a__law_purse ?l__law_purse ?c__law_purse ?k__law_purse ?a__law_draw ?l__law_draw ?c__law_draw ?k__law_draw ?a__law_name ?l__law_name ?c__law_name ?k__law_name ?a__law_names ?l__law_names ?c__law_names ?k__law_names ?a__law_world ?l__law_world ?c__law_world ?k__law_world ?a__law_allowed ?l__law_allowed ?c__law_allowed ?k__law_allowed ?a__law_rules ?l__law_rules ?c__law_rules ?k__law_rules ?a__law_joins ?l__law_joins ?c__law_joins ?k__law_joins ?a__law_rules_made ?l__law_rules_made ?c__law_rules_made ?k__law_rules_made ?a__law_demand ?l__law_demand ?c__law_demand ?k__law_demand ?a__law_raised ?l__law_raised ?c__law_raised ?k__law_raised ?a__law_bad ?l__law_bad ?c__law_bad ?k__law_bad ?a__law_right ?l__law_right ?c__law_right ?k__law_right ?a_law ?l_law ?c_law ?k_law ?g_InvalidDemand ?xL_InvalidDemand ?sa_InvalidDemand ?ga_InvalidDemand ?gg_InvalidDemand ?no_InvalidDemand ?in_InvalidDemand ?ti_InvalidDemand ?l_x_InvalidDemand ?c_x_InvalidDemand ?k_x_InvalidDemand ?lT_InvalidDemand ?kC_InvalidDemand ?eC_InvalidDemand ?tC_InvalidDemand ?hC_InvalidDemand ?iC_InvalidDemand ?sC_InvalidDemand ?g_InvalidRules ?xL_InvalidRules ?sa_InvalidRules ?ga_InvalidRules ?gg_InvalidRules ?no_InvalidRules ?in_InvalidRules ?ti_InvalidRules ?l_x_InvalidRules ?c_x_InvalidRules ?k_x_InvalidRules ?lT_InvalidRules ?kC_InvalidRules ?eC_InvalidRules ?tC_InvalidRules ?hC_InvalidRules ?iC_InvalidRules ?sC_InvalidRules ?nRD ?g_R ?pg_R ?hd_R ?po_R ?sa_R ?mk_R ?kc_R ?n1_R ?n2_R ?in_R ?if_R ?l_Ri ?c_Ri ?k_Ri ?ka_R ?kb_R ?i1_R ?i2_R ?i3_R ?i4_R ?cC_R ?tC_R ?sf_R ?at_Ra ?gt_Ra ?tk_Ra ?rc_Ra ?l_Ra ?c_Ra ?k_Ra ?at_Rb ?gt_Rb ?tk_Rb ?rc_Rb ?l_Rb ?c_Rb ?k_Rb ?at_Rc ?fn_Rc ?l_Rc ?c_Rc ?k_Rc ?fi_Rc ?at_Rl ?fn_Rl ?l_Rl ?c_Rl ?k_Rl ?at_Re ?fn_Re ?l_Re ?c_Re ?k_Re ?sS_R ?a_cb ?l_cb ?c_cb ?k_cb ?kr_cb
    (case z_isinstance => k_is); (case z_int => k_is); (case z_bool => k_is); (case z_str => k_is); (case z_sorted => k_is); (case z_tuple => k_is)
    (case z_list => k_is); (case z_set => k_is); (case z_range => k_is); (case z_sum => k_is); (case z_len => k_is); (case z_all => k_is)
    (case z_any => k_is); (case z_max => k_is); (case z_min => k_is); (case v_LETTERS => k_is); (case v_LONGEST_NAME => k_is); (case a_is_whole => k_is)
    (case l_is_whole => k_is); (case c_is_whole => k_is); (case k_is_whole => k_is); (case a_is_name => k_is); (case l_is_name => k_is); (case c_is_name => k_is)
    (case k_is_name => k_is); (case a_is_place => k_is); (case l_is_place => k_is); (case c_is_place => k_is); (case k_is_place => k_is); (case a_check_place => k_is)
    (case l_check_place => k_is); (case c_check_place => k_is); (case k_check_place => k_is); (case a__is_renaming => k_is); (case l__is_renaming => k_is); (case c__is_renaming => k_is)
    (case k__is_renaming => k_is); (case a__are_renamings => k_is); (case l__are_renamings => k_is); (case c__are_renamings => k_is); (case k__are_renamings => k_is); (case a__in_reach => k_is)
    (case l__in_reach => k_is); (case c__in_reach => k_is); (case k__in_reach => k_is); (case a__check_rules => k_is); (case l__check_rules => k_is); (case c__check_rules => k_is)
    (case k__check_rules => k_is); (case a_rules_from => k_is); (case l_rules_from => k_is); (case c_rules_from => k_is); (case k_rules_from => k_is); (case a_is_demand => k_is)
    (case l_is_demand => k_is); (case c_is_demand => k_is); (case k_is_demand => k_is); (case a__check_demand => k_is); (case l__check_demand => k_is); (case c__check_demand => k_is)
    (case k__check_demand => k_is); (case a__windows_meet => k_is); (case l__windows_meet => k_is); (case c__windows_meet => k_is); (case k__windows_meet => k_is); (case a_one_does_both => k_is)
    (case l_one_does_both => k_is); (case c_one_does_both => k_is); (case k_one_does_both => k_is); (case a__law_purse => k_is); (case l__law_purse => k_is); (case c__law_purse => k_is)
    (case k__law_purse => k_is); (case a__law_draw => k_is); (case l__law_draw => k_is); (case c__law_draw => k_is); (case k__law_draw => k_is); (case a__law_name => k_is)
    (case l__law_name => k_is); (case c__law_name => k_is); (case k__law_name => k_is); (case a__law_names => k_is); (case l__law_names => k_is); (case c__law_names => k_is)
    (case k__law_names => k_is); (case a__law_world => k_is); (case l__law_world => k_is); (case c__law_world => k_is); (case k__law_world => k_is); (case a__law_allowed => k_is)
    (case l__law_allowed => k_is); (case c__law_allowed => k_is); (case k__law_allowed => k_is); (case a__law_rules => k_is); (case l__law_rules => k_is); (case c__law_rules => k_is)
    (case k__law_rules => k_is); (case a__law_joins => k_is); (case l__law_joins => k_is); (case c__law_joins => k_is); (case k__law_joins => k_is); (case a__law_rules_made => k_is)
    (case l__law_rules_made => k_is); (case c__law_rules_made => k_is); (case k__law_rules_made => k_is); (case a__law_demand => k_is); (case l__law_demand => k_is); (case c__law_demand => k_is)
    (case k__law_demand => k_is); (case a__law_raised => k_is); (case l__law_raised => k_is); (case c__law_raised => k_is); (case k__law_raised => k_is); (case a__law_bad => k_is)
    (case l__law_bad => k_is); (case c__law_bad => k_is); (case k__law_bad => k_is); (case a__law_right => k_is); (case l__law_right => k_is); (case c__law_right => k_is)
    (case k__law_right => k_is); (case a_law => k_is); (case l_law => k_is); (case c_law => k_is); (case k_law => k_is); (case g_InvalidDemand => k_is)
    (case xL_InvalidDemand => k_is); (case sa_InvalidDemand => k_is); (case ga_InvalidDemand => k_is); (case gg_InvalidDemand => k_is); (case no_InvalidDemand => k_is); (case in_InvalidDemand => k_is)
    (case ti_InvalidDemand => k_is); (case l_x_InvalidDemand => k_is); (case c_x_InvalidDemand => k_is); (case k_x_InvalidDemand => k_is); (case lT_InvalidDemand => k_is); (case kC_InvalidDemand => k_is)
    (case eC_InvalidDemand => k_is); (case tC_InvalidDemand => k_is); (case hC_InvalidDemand => k_is); (case iC_InvalidDemand => k_is); (case sC_InvalidDemand => first | rfl | k_is); (case g_InvalidRules => k_is)
    (case xL_InvalidRules => k_is); (case sa_InvalidRules => k_is); (case ga_InvalidRules => k_is); (case gg_InvalidRules => k_is); (case no_InvalidRules => k_is); (case in_InvalidRules => k_is)
    (case ti_InvalidRules => k_is); (case l_x_InvalidRules => k_is); (case c_x_InvalidRules => k_is); (case k_x_InvalidRules => k_is); (case lT_InvalidRules => k_is); (case kC_InvalidRules => k_is)
    (case eC_InvalidRules => k_is); (case tC_InvalidRules => k_is); (case hC_InvalidRules => k_is); (case iC_InvalidRules => k_is); (case sC_InvalidRules => first | rfl | k_is); (case nRD => k_is)
    (case g_R => k_is); (case pg_R => k_is); (case hd_R => k_is); (case po_R => k_is); (case sa_R => k_is); (case mk_R => k_is)
    (case kc_R => k_is); (case n1_R => k_is); (case n2_R => k_is); (case in_R => k_is); (case if_R => k_is); (case l_Ri => k_is)
    (case c_Ri => k_is); (case k_Ri => k_is); (case ka_R => k_is); (case kb_R => k_is); (case i1_R => k_is); (case i2_R => k_is)
    (case i3_R => k_is); (case i4_R => k_is); (case cC_R => k_is); (case tC_R => k_is); (case sf_R => k_is); (case at_Ra => k_is)
    (case gt_Ra => k_is); (case tk_Ra => k_is); (case rc_Ra => k_is); (case l_Ra => k_is); (case c_Ra => k_is); (case k_Ra => k_is)
    (case at_Rb => k_is); (case gt_Rb => k_is); (case tk_Rb => k_is); (case rc_Rb => k_is); (case l_Rb => k_is); (case c_Rb => k_is)
    (case k_Rb => k_is); (case at_Rc => k_is); (case fn_Rc => k_is); (case l_Rc => k_is); (case c_Rc => k_is); (case k_Rc => k_is)
    (case fi_Rc => k_is); (case at_Rl => k_is); (case fn_Rl => k_is); (case l_Rl => k_is); (case c_Rl => k_is); (case k_Rl => k_is)
    (case at_Re => k_is); (case fn_Re => k_is); (case l_Re => k_is); (case c_Re => k_is); (case k_Re => k_is); (case sS_R => k_is)
    (case a_cb => k_is); (case l_cb => k_is); (case c_cb => k_is); (case k_cb => k_is); (case kr_cb => k_is)
